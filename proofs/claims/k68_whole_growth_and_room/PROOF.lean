import PyProof.Rows.All
import Wide.All
import OpenK.AllK
import Wide.FinOn
import Lean
import PyProof.EqAt
import PyProof.EqKinds
import PyProof.TupleCall
import PyProof.Rows.TupAdd
import PyProof.Rows.SortStr
import PyProof.Rows.SortWalk
import PyProof.CollectIter
import PyProof.Rows.Tup
import PyProof.TupleOfSeq
import PyProof.ReprRoads
import PyProof.CallStr
import PyProof.SeqRoads2
import KE.KDictList
import KE.KSortTup
import PyProof.SetRoads
import PyProof.Rows.SetFrom
import PyProof.TupleKey
import PyProof.IsRules
import PyProof.Rows.SortShell
import KE.KUnpack
import PyProof.IsiH_list
import PyProof.FactsAll.dict_1
import PyProof.DictFindH
import PySem.Challenge.RW_runbound_k68_whole_growth_and_room
local macro_rules | `(⋯) => `(by first | decide +kernel | (dsimp only; decide +kernel))
open List renaming getElem?_eq_getElem → aa,length_map → ac,range → ah,size_toArray → ai,mem_append_right → al,getElem?_map → ao,mem_cons → ap,length_append → au,map_append → ax,replicate → az,not_mem_nil → aA,mem_range → aB,mem_of_getElem? → aD,mem_cons_of_mem → aF,mem_append → aG,getElem?_eq_some_iff → aI,mem_cons_self → aJ,map_cons → aN,getD_eq_getElem?_getD → aP,all_eq_true → aQ,length_range → aR,length_take → aS,mem_append_left → aT,mem_singleton → aX,getElem?_range → aY,zip → aZ,length_cons → bg,mem_map → bi,getElem?_eq_none → bj,getElem?_of_mem → bn,take_length → bp,getElem?_eq_none_iff → bq,range_succ → bx,length_singleton → bB,filterMap_cons → bH,length_replicate → bI,take_append_drop → bJ,map_congr_left → bL,lookup_cons → bM,take_succ → bN,append_assoc → bQ,any_eq_true → bU,ext_getElem? → bX,getElem?_set_ne → cf,map_map → ci,any_cons → cn,pairwise_iff_getElem → cq,nodup_cons → cu,set_cons_zero → cx,set_cons_succ → cy,mem_iff_getElem → cz,replicate_succ' → cB,flatten_cons → cE,getElem?_set_self → cG,getElem_mem → cI,all_cons → cJ,length_filter_le → cL,pairwise_append → cM,nodup_append → cP,replicate_succ → cQ,sum_cons → cR,nodup_nil → cS,take_of_length_le → cT,append_nil → cW,find?_cons → cX,contains_iff_mem → cZ,getElem_take → dc,getElem_drop → de,length_drop → di
open PySem renaming wpAny_bind → ab,wpAny_pure → av,wpAny_holding → br,wpAny_field → bu,wpAny_callSpecial?_slot → bD,wpAny_truthy_bool → bO,wpAny_newObj_type → bP,wpAny_seqItems → bZ,wpAny_pyIter_tuple → cc,wpAny_call_entry → cg,wpAny_standAt → ck,wpAny_setField_rec → cw,wpAny_passesOwn → cO,wpAny_pyIter_list → db
open Bool renaming and_eq_true → af,false_ne_true → ay,not_eq_true' → bo,true_and → bR,or_eq_true → bT,false_eq_true → ce,false_and → cm,eq_iff_iff → cr
open PySem.Heap renaming get?_push_of_some → ag,lt_size → aw,get?_push_size → aC,size_push → bA,get?_update_self → cv,SameBut → cD
open Nat renaming lt_of_lt_of_le → aj,le_refl → ak,le_trans → aq,ne_of_lt → aE,mul_le_mul_right → aH,zero_le → aK,le_add_right → aO,mul_assoc → aU,mul_right_comm → aW,mul_comm → bc,lt_irrefl → bm,le_of_mul_le_mul_right → bC,ne_of_gt → bF,lt_of_le_of_lt → bG,pow_succ → bK,mul_add → bV,gcd → bW,mul_left_comm → bY,mul_le_mul_left → cj,pow_le_pow_right → cA,le_of_lt → cC,le_of_lt_succ → cF,lt_or_ge → cK,mul_one → cY,lt_succ_of_lt → da,mul_le_mul → dh,mod_eq_of_lt → dj,add_mul → dk
open Int renaming eq_ofNat_of_zero_le → aL,toNat_natCast → bb,emod_lt_of_pos → cU,natAbs_natCast → cV
open Array renaming length_toList → aM,getElem?_eq_getElem → aV,toList_append → bE,toList_push → df,mem_toList_iff → dg
open Option renaming map_eq_some_iff → cH
set_option genSizeOf false
set_option Elab.async false
set_option compiler.extract_closed false
set_option linter.all false
set_option maxRecDepth 100000
set_option tactic.hygienic false
namespace L2
open PySem PySem.Spec PyProof.Rows
section
variable {prog:Program} {w:World} {A:Around} {E:Value->Shared->Prop} {s:Shared}
theorem cu' (s:Shared):s.TypeIs .none "NoneType":=rfl
theorem fj' {Q:Int->Shared->Prop} (h:Q 0xFCA86420 { s with toks:=s.toks+1 }):wpAny (model prog w) A (pyHash .none) Q E s:=by
 unfold pyHash
 have hv:[Value.none].any Value.onHeap=false:=rfl
 refine ab ?_
 rw[cRoomFor,if_neg (by rw[hv];exact ay)];refine av ?_
 refine ab (wpAny_specialOf (cu' s) F.slot_NoneType_hash.lookup ?_)
 show wpAny _ _ (if(some (Value.builtin "NoneType.__hash__") == some Value.none)=true then _ else _) Q E s
 rw[if_neg (by rw[beq_builtin_none];exact ay)]
 refine ab (wpAny_specialOf (cu' s) F.slot_NoneType_hash.lookup ?_)
 show wpAny _ _ (callSpecialIfBoundUnlessNone? (.none) "__hash__" _ >>= _) Q E s
 refine ab (wpAny_callSpecialIfBoundUnlessNone?_slot (cu' s) F.slot_NoneType_hash
  (cg F.slot_NoneType_hash (cu' s) F.entry_NoneType_hash
   (show wpAny _ _ (do ret (<- mkInt 0xFCA86420)) _ _ s from wpAny_ret_mkInt ?_) (F.args_NoneType_hash_1 _)))
 exact av h
end
inductive Key where
 |inl (i:Int)|inr (x:Str)|non
 deriving DecidableEq
def j3':Key->Value->Bool
 | .inl k,v=>Value.isInt k v
 | .inr x,v=>Value.isStrOf x v
 | .non,.none=>true
 | .non,_=>false
def Dj' (w:World):Key->Int
 | .inl k=>hashInt k
 | .inr x=>hashStr w x
 | .non=>0xFCA86420
theorem aQ':∀{k:Key} {v:Value},j3' k v=true->(∃i t,k=Key.inl i/\v=Value.int i t)\/(∃x t,k=Key.inr x/\v=Value.str x t)\/(k=Key.non/\v=Value.none)
 | .inl i,v,h=>by
  obtain⟨t,e⟩:=Value.isInt_shape (k:=i) (v:=v) h
  exact .inl ⟨i,t,rfl,e⟩
 | .inr x,v,h=>by
  obtain⟨t,e⟩:=Value.isStrOf_shape (x:=x) (v:=v) h
  exact .inr (.inl ⟨x,t,rfl,e⟩)
 | .non,v,h=>by cases v<;>first|exact .inr (.inr ⟨rfl,rfl⟩)|cases h
theorem kU' (i:Int) (t:Tok):j3' (.inl i) (.int i t)=true:=by simp[j3',Value.isInt]
theorem kV' (x:Str) (t:Tok):j3' (.inr x) (.str x t)=true:=by simp[j3',Value.isStrOf]
theorem u7' (a b:Int):decide ((Key.inl a:Key)=Key.inl b)=(a == b):=by
 by_cases e:a=b
 .rw[e,decide_eq_true rfl,beq_self_eq_true]
 .rw[decide_eq_false (fun q=>e (Key.inl.inj q)),beq_eq_false_iff_ne.mpr e]
theorem u8' (a b:Str):decide ((Key.inr a:Key)=Key.inr b)=decide (a=b):=by
 by_cases e:a=b
 .rw[e,decide_eq_true rfl,decide_eq_true rfl]
 .rw[decide_eq_false (fun q=>e (Key.inr.inj q)),decide_eq_false e]
theorem f0' {a b:Key} (h:a≠b):decide (a=b)=false:=decide_eq_false h
def az' (prog:Program) (w:World):PySem.KeyKind prog w Key where
 is:=j3'
 hash:=Dj' w
 inj:=fun v a b ha hb=>by
  rcases aQ' ha with⟨i,t,rfl,rfl⟩|⟨x,t,rfl,rfl⟩|⟨rfl,rfl⟩<;>rcases aQ' hb with⟨j,u,rfl,e⟩|⟨y,u,rfl,e⟩|⟨rfl,e⟩<;>
   first|rfl|(injection e with e1 _;rw[e1])|exact nomatch e
 byValue:=fun k v h=>by
  rcases aQ' h with⟨i,t,rfl,rfl⟩|⟨x,t,rfl,rfl⟩|⟨rfl,rfl⟩<;>rfl
 pyHash:=fun hv h=>by
  rcases aQ' hv with⟨i,t,rfl,rfl⟩|⟨x,t,rfl,rfl⟩|⟨rfl,rfl⟩
  .exact wpAny_pyHash_int h
  .exact wpAny_pyHash_str h
  .exact fj' h
 eqBool:=fun {A E s a b u v Q} hu hv h=>by
  rcases aQ' hu with⟨i,t,rfl,rfl⟩|⟨x,t,rfl,rfl⟩|⟨rfl,rfl⟩
  .rcases aQ' hv with⟨j,u,rfl,rfl⟩|⟨y,u,rfl,rfl⟩|⟨rfl,rfl⟩
   .rw[u7']at h;exact wpAny_eqBool_int h
   .rw[f0' (a:=Key.inl i) (b:=Key.inr y) (fun q=>nomatch q)]at h;exact SeqAt.EqAt.int_str i t y u _ _ _ _ h
   .rw[f0' (a:=Key.inl i) (b:=Key.non) (fun q=>nomatch q)]at h;exact SeqAt.EqAt.int_none i t _ _ _ _ h
  .rcases aQ' hv with⟨j,u,rfl,rfl⟩|⟨y,u,rfl,rfl⟩|⟨rfl,rfl⟩
   .rw[f0' (a:=Key.inr x) (b:=Key.inl j) (fun q=>nomatch q)]at h;exact SeqAt.EqAt.str_int x t j u _ _ _ _ h
   .rw[u8']at h;exact wpAny_eqBool_str h
   .rw[f0' (a:=Key.inr x) (b:=Key.non) (fun q=>nomatch q)]at h;exact SeqAt.EqAt.str_none x t _ _ _ _ h
  .rcases aQ' hv with⟨j,u,rfl,rfl⟩|⟨y,u,rfl,rfl⟩|⟨rfl,rfl⟩
   .rw[f0' (a:=Key.non) (b:=Key.inl j) (fun q=>nomatch q)]at h;exact SeqAt.EqAt.none_int j u _ _ _ _ h
   .rw[f0' (a:=Key.non) (b:=Key.inr y) (fun q=>nomatch q)]at h;exact SeqAt.EqAt.none_str y u _ _ _ _ h
   .rw[decide_eq_true rfl]at h;exact SeqAt.EqAt.same .none _ _ _ _ h
 «strs»:=fun k x t v h=>by
  rcases aQ' h with⟨i,u,rfl,e⟩|⟨y,u,rfl,e⟩|⟨rfl,e⟩
  .exact nomatch e
  .injection e with e1 _
   subst e1
   cases v<;>rfl
  .exact nomatch e
theorem iq' (prog:Program) (w:World) (i:Int) (t:Tok):(az' prog w).is (.inl i) (.int i t)=true:=kU' i t
theorem ir' (prog:Program) (w:World) (x:Str) (t:Tok):(az' prog w).is (.inr x) (.str x t)=true:=kV' x t
inductive V where
 |non|bl (b:Bool)|int (i:Int)|str (x:Str)|byt (b:Array UInt8)|flt (b:UInt64)|ref (a:Addr)|ty (n:String)
 deriving DecidableEq
def aD':V->Value->Prop
 | .non,u=>u=Value.none
 | .bl b,u=>u=Value.bool b
 | .int i,u=>∃t,u=Value.int i t
 | .str x,u=>∃t,u=Value.str x t
 | .byt b,u=>∃t,u=Value.bytes b t
 | .flt b,u=>∃t,u=Value.float b t
 | .ref a,u=>u=Value.ref a
 | .ty n,u=>u=Value.type n
abbrev aK':List V->List Value->Prop:=Paired aD'
theorem aK'.length {xs:List V} {us:List Value} (r:aK' xs us):xs.length=us.length:=Paired.length r
theorem aK'.get:∀{xs:List V} {us:List Value} {i:Nat} {x:V},aK' xs us->xs[i]?=some x->∃u,us[i]?=some u/\aD' x u
 |_,_,_,_,.nil,e=>by simp at e
 |_,_,0,_,.cons r _,e=>by simp at e;subst e;exact⟨_,rfl,r⟩
 |_,_,i+1,x,.cons _ t,e=>by
  obtain⟨u,h1,h2⟩:=aK'.get (i:=i) (x:=x) t (by simpa using e)
  exact⟨u,by simpa using h1,h2⟩
theorem aK'.set {x:V} {u:Value} (r:aD' x u):∀{xs:List V} {us:List Value} (i:Nat),aK' xs us->aK' (xs.set i x) (us.set i u)
 |_,_,_,.nil=>.nil
 |_,_,0,.cons _ t=>.cons r t
 |_,_,i+1,.cons q t=>.cons q (aK'.set r i t)
theorem aK'.append:∀{xs ys:List V} {us ws:List Value},aK' xs us->aK' ys ws->aK' (xs++ys) (us++ws)
 |_,_,_,_,.nil,s=>s
 |_,_,_,_,.cons r t,s=>.cons r (aK'.append t s)
theorem aK'.take:∀{xs:List V} {us:List Value} (n:Nat),aK' xs us->aK' (xs.take n) (us.take n)
 |_,_,0,_=>.nil
 |_,_,_+1,.nil=>.nil
 |_,_,n+1,.cons r t=>.cons r (aK'.take n t)
theorem aK'.drop:∀{xs:List V} {us:List Value} (n:Nat),aK' xs us->aK' (xs.drop n) (us.drop n)
 |_,_,0,r=>r
 |_,_,_+1,.nil=>.nil
 |_,_,n+1,.cons _ t=>aK'.drop n t
def oh':Option V->Option Value->Prop
 |some v,some u=>aD' v u
 |none,none=>True
 |_,_=>False
def KV {κ:Type}:List (κ×V)->List (κ×Value)->Prop:=Paired fun(p:κ×V) (q:κ×Value)=>p.1=q.1/\aD' p.2 q.2
def kV:Key->V
 | .inl i=>.int i
 | .inr x=>.str x
 | .non=>.non
inductive HO where
 |lst (xs:List V)
 |tup (xs:List V)
 |dK (kvs:List (Key×V))|dT (kvs:List (List Key×V))
 |set (S:Int->Bool) (n:Nat)
 |ins (C dx:Addr) (fs:List (Str×V))
 |own (x:Addr)
 |xd (fs:List (Str×V))
 |met (f x:Addr)
 |rng (lo hi:Int)
 |frz (o:Obj) (u:HO)
 |tbl (ps:Array Value)
 |ext (φ:Heap->Prop)
abbrev Hp:=Addr->Option HO
def upd (H:Hp) (a:Addr) (o:HO):Hp:=fun b=>if b=a then some o else H b
theorem ac' {H:Hp} {a:Addr} {o:HO}:upd H a o a=some o:=by unfold upd;rw[if_pos rfl]
theorem af' {H:Hp} {a b:Addr} {o:HO} (h:b≠a):upd H a o b=H b:=by unfold upd;rw[if_neg h]
theorem fk' {H:Hp} {a:Addr} {o u:HO}:upd (upd H a o) a u=upd H a u:=by
 funext b;unfold upd;split<;>rfl
theorem z8' {H:Hp} {a b:Addr} {o u:HO} (h:H a=some o) (h':H b=some u) (d:o≠u):a≠b:=by
 intro e;subst e;rw[h]at h';exact d (Option.some.inj h')
theorem ah' {H:Hp} {a b:Addr} {o:HO} (h:H a=some o) (h':H b=none):a≠b:=by
 intro e;subst e;rw[h]at h';cases h'
def qz' (h:Heap) (a:Addr) (items:Array Value):Prop:=∃o,h.get? a=some o/\o.cls=.type "tuple"/\(∃n,o.data=.seq items n)/\o.dict=none
theorem qz'.tup {h:Heap} {a:Addr} {items:Array Value} (x:qz' h a items):IsTup h a items:=let⟨o,e,c,⟨n,d⟩,_⟩:=x;⟨o,e,c,n,d⟩
theorem qz'.new (h:Heap) (items:Array Value):qz' (h.push { cls:=.type "tuple",data:=.seq items }) h.objs.size items:=⟨_,aC _ rfl,rfl,⟨_,rfl⟩,rfl⟩
section
variable (P:Program) (w:World)
def aG' (H:Hp) (h:Heap) (a:Addr):HO->Prop
 | .lst xs=>xs.length<=sizeLine/\∃(its:List Value) (n:Nat),aK' xs its/\h.get? a=some { cls:=.type "list",data:=.seq its.toArray n }
 | .tup xs=>xs.length<=sizeLine/\∃its:List Value,aK' xs its/\qz' h a its.toArray
 | .dK kvs=>kvs.length<=sizeLine/\(a == sysModules)=false/\∃vs,KV kvs vs/\h.DictOf (az' P w) a vs
 | .dT kvs=>kvs.length<=sizeLine/\(a == sysModules)=false/\∃xs:List (List Key×Addr×Value),
   Paired (fun(p:List Key×V) (q:List Key×Addr×Value)=>p.1=q.1/\H q.2.1=some (.tup (p.1.map kV))/\aD' p.2 q.2.2) kvs xs/\
   ∃o es ep,h.get? a=some o/\o.ExactDict/\o.data=.dict es ep/\es.toList=xs.map (entryOfKey (tupleKind (az' P w)))/\(xs.map (·.1)).Nodup
 | .set S n=>h.SetOf (intKind P w) a S n
 | .ins C dx fs=>H dx=some (.own a)/\fs.length<=1000/\dx≠a/\h.get? a=some (W.instObj C dx)/\
   ∃mA,h.Ns1 dx mA/\(∀f,oh' (fs.lookup f) (mA f))/\PySem.Within mA (fs.map (·.1))
 | .own _=>∃o,h.get? a=some o
 | .xd fs=>∃mA,h.Ns1 a mA/\∀f,oh' (fs.lookup f) (mA f)
 | .rng lo hi=>∃t u v,h.get? a=some { cls:=.type "range",data:=.fields #[.int lo t,.int hi u,.int 1 v] }
 | .frz o u=>h.get? a=some o/\aG' H h a u
 | .tbl ps=>h.get? a=some { cls:=.none,data:=.fields ps }
 | .met f x=>h.get? a=some (W.methodObj (.ref f) (.ref x))
 | .ext φ=>φ h/\(∃o,h.get? a=some o)/\∀h1 h2:Heap,φ h1->(∀o,h1.get? a=some o->h2.get? a=some o)->φ h2
def HOk (H:Hp) (h:Heap):Prop:=∀a o,H a=some o->aG' P w H h a o
end
section
variable {P:Program} {w:World} {H H':Hp} {h h':Heap} {a:Addr} {o:HO}
theorem aG'.lt (x:aG' P w H h a o):a<h.objs.size:=by
 cases o with
 |lst xs=>obtain⟨_,_,_,_,e⟩:=x;exact aw e
 |tup xs=>obtain⟨_,_,_,p⟩:=x;exact p.tup.lt
 |dK kvs=>obtain⟨_,_,_,_,o,_,_,e,_⟩:=x;exact aw e
 |dT kvs=>obtain⟨_,_,_,_,o,_,_,e,_⟩:=x;exact aw e
 |set S n=>obtain⟨o,_,_,_,e,_⟩:=x;exact aw e
 |ins C dx fs=>obtain⟨_,_,_,e,_⟩:=x;exact aw e
 |own y=>obtain⟨_,e⟩:=x;exact aw e
 |xd fs=>obtain⟨_,⟨_,_,_,e,_⟩,_⟩:=x;exact aw e
 |rng lo hi=>obtain⟨_,_,_,e⟩:=x;exact aw e
 |frz ob u=>obtain⟨e,_⟩:=x;exact aw e
 |tbl ps=>exact aw (show h.get? a=some _ from x)
 |met f y=>exact aw (show h.get? a=some _ from x)
 |ext φ=>obtain⟨_,⟨_,e⟩,_⟩:=x;exact aw e
theorem Paired.mapP {α β:Type} {F G:α->β->Prop}:∀{l₁:List α} {l₂:List β},Paired F l₁ l₂->(∀a b,F a b->G a b)->Paired G l₁ l₂
 |_,_,.nil,_=>.nil
 |_,_,.cons r t,f=>.cons (f _ _ r) (Paired.mapP t f)
theorem aG'.stay (x:aG' P w H h a o) (k:∀b u,(b=a\/H b=some (.own a))->h.get? b=some u->h'.get? b=some u)
  (ho:∀b,H b=some (.own a)->H' b=some (.own a)) (ht:∀b xs,H b=some (.tup xs)->H' b=some (.tup xs)):aG' P w H' h' a o:=by
 induction o with
 |lst xs=>obtain⟨z,its,n,r,e⟩:=x;exact⟨z,its,n,r,k _ _ (.inl rfl) e⟩
 |tup xs=>obtain⟨z,its,r,ob,e,c⟩:=x;exact⟨z,its,r,ob,k _ _ (.inl rfl) e,c⟩
 |dK kvs=>obtain⟨z,y,vs,r,ob,es,ep,e,c⟩:=x;exact⟨z,y,vs,r,ob,es,ep,k _ _ (.inl rfl) e,c⟩
 |dT kvs=>
  obtain⟨z,y,xs,r,ob,es,ep,e,c⟩:=x
  exact⟨z,y,xs,Paired.mapP r fun p q z=>⟨z.1,ht _ _ z.2.1,z.2.2⟩,ob,es,ep,k _ _ (.inl rfl) e,c⟩
 |set S n=>obtain⟨ob,es,ep,t,e,c⟩:=x;exact⟨ob,es,ep,t,k _ _ (.inl rfl) e,c⟩
 |ins C dx fs=>
  obtain⟨d,z,ne,e,mA,⟨od,es,ep,e2,c⟩,r⟩:=x
  exact⟨ho _ d,z,ne,k _ _ (.inl rfl) e,mA,⟨od,es,ep,k _ _ (.inr d) e2,c⟩,r⟩
 |own y=>obtain⟨ob,e⟩:=x;exact⟨ob,k _ _ (.inl rfl) e⟩
 |xd fs=>obtain⟨mA,⟨od,es,ep,e,c⟩,r⟩:=x;exact⟨mA,⟨od,es,ep,k _ _ (.inl rfl) e,c⟩,r⟩
 |rng lo hi=>obtain⟨t,u,v,e⟩:=x;exact⟨t,u,v,k _ _ (.inl rfl) e⟩
 |frz ob u ih=>obtain⟨e,q⟩:=x;exact⟨k _ _ (.inl rfl) e,ih q⟩
 |tbl ps=>
  have e:h.get? a=some { cls:=.none,data:=.fields ps }:=x
  show h'.get? a=some { cls:=.none,data:=.fields ps }
  exact k a _ (.inl rfl) e
 |met f y=>
  have e:h.get? a=some (W.methodObj (.ref f) (.ref y)):=x
  show h'.get? a=some (W.methodObj (.ref f) (.ref y))
  exact k a _ (.inl rfl) e
 |ext φ=>obtain⟨p,⟨o,e⟩,st⟩:=x;exact⟨st _ _ p fun o q=>k _ _ (.inl rfl) q,⟨o,k _ _ (.inl rfl) e⟩,st⟩
theorem HOk.lt (x:HOk P w H h) (e:H a=some o):a<h.objs.size:=(x a o e).lt
theorem HOk.fresh (x:HOk P w H h) (e:h.objs.size<=a):H a=none:=by
 cases q:H a with
 |none=>rfl
 |some u=>exact absurd (aj (x.lt q) e) (bm _)
theorem HOk.kept (x:HOk P w H h) (k:∀b u,h.get? b=some u->h'.get? b=some u):HOk P w H h':=fun a o e=>
 (x a o e).stay (fun b u _ q=>k b u q) (fun _ q=>q) fun _ _ q=>q
theorem HOk.laid (x:HOk P w H h) (k:∀b u,h.get? b=some u->h'.get? b=some u) (hp:h.objs.size<=a) (new:aG' P w (upd H a o) h' a o):HOk P w (upd H a o) h':=fun b u e=>by
 have hn:=x.fresh hp
 by_cases hb:b=a
 .subst hb;rw[ac']at e;cases e;exact new
 .rw[af' hb]at e
  exact(x b u e).stay (fun c v _ q=>k c v q) (fun c q=>by rw[af' (ah' q hn)];exact q) fun c xs q=>by rw[af' (ah' q hn)];exact q
end
def Rd (H:Hp) (a:Addr) (u:HO):Prop:=H a=some u\/∃o,H a=some (.frz o u)
theorem Rd.ok {P:Program} {w:World} {H:Hp} {h:Heap} {a:Addr} {u:HO} (r:Rd H a u) (x:HOk P w H h):aG' P w H h a u:=by
 rcases r with r|⟨o,r⟩
 .exact x a u r
 .obtain⟨_,q⟩:=x a _ r
  exact q
def Mut:Option HO->Prop
 |some (.lst _)=>True
 |some (.dK _)=>True
 |some (.dT _)=>True
 |some (.set _ _)=>True
 |some (.ins _ _ _)=>True
 |some (.ext _)=>True
 |_=>False
section
variable {P:Program} {w:World} {H:Hp} {h h':Heap} {x e:Addr} {o':HO}
theorem HOk.write (ok:HOk P w H h) (mu:Mut (H x)) (he:e=x\/H e=some (.own x)) (k:∀b u,b≠e->h.get? b=some u->h'.get? b=some u) (heo:∃u,h'.get? e=some u)
  (new:aG' P w (upd H x o') h' x o'):HOk P w (upd H x o') h':=fun b u q=>by
 have nown:∀c y,H c=some (.own y)->c≠x:=fun c y r z=>by subst z;rw[r]at mu;exact mu
 have ntup:∀c xs,H c=some (.tup xs)->c≠x:=fun c xs r z=>by subst z;rw[r]at mu;exact mu
 by_cases hb:b=x
 .subst hb;rw[ac']at q;cases q;exact new
 .rw[af' hb]at q
  by_cases hbe:b=e
  .have q':H b=some (.own x):=by
    rcases he with z|z
    .exact absurd (hbe.trans z) hb
    .rw[hbe];exact z
   rw[q]at q';cases q'
   obtain⟨v,hv⟩:=heo
   exact⟨v,by rw[hbe];exact hv⟩
  .refine(ok b u q).stay (fun c v hc r=>k c v ?_ r) (fun c r=>by rw[af' (nown c b r)];exact r) fun c xs r=>by rw[af' (ntup c xs r)];exact r
   rcases hc with rfl|hc
   .exact hbe
   .rintro rfl
    rcases he with z|z
    .exact nown c b hc z
    .rw[hc]at z;cases z;exact hb rfl
end
structure Un (fs ex:List Addr) (H H':Hp) (h h':Heap):Prop where
 keep:∀b o,h.get? b=some o->H b=none->b∉fs->b∉ex->h'.get? b=some o
 slot:∀b o,h.get? b=some o->H b=none->b∈fs->b∉ex->∃sl,h'.get? b=some { o with slots:=sl }
 free:∀b o,h.get? b=some o->H b=none->b∉ex->H' b=none
 there:∀b o,h.get? b=some o->b∉ex->∃o',h'.get? b=some o'
 tups:∀b xs,H b=some (.tup xs)->H' b=some (.tup xs)
 frzs:∀b o u,H b=some (.frz o u)->H' b=some (.frz o u)
 tbls:∀b ps,H b=some (.tbl ps)->∃more,H' b=some (.tbl (ps++more))
section
variable {fs fs' ex ex':List Addr} {H H1 H2:Hp} {h h1 h2 h':Heap} {a x e:Addr} {o:HO}
theorem Un.any (u:Un fs ex H H1 h h1) {b:Addr} {ob:Obj} (q:h.get? b=some ob) (n:H b=none) (hx:b∉ex):∃sl,h1.get? b=some { ob with slots:=sl }:=by
 by_cases hb:b∈fs
 .exact u.slot b ob q n hb hx
 .exact⟨ob.slots,u.keep b ob q n hb hx⟩
theorem Un.kept (k:∀b u,h.get? b=some u->h'.get? b=some u):Un fs ex H H h h':=
 ⟨fun b ob q _ _ _=>k b ob q,fun b ob q _ _ _=>⟨ob.slots,k b ob q⟩,fun _ _ _ n _=>n,fun b ob q _=>⟨ob,k b ob q⟩,fun _ _ q=>q,fun _ _ _ q=>q,fun _ ps q=>⟨#[],by rw[q];simp⟩⟩
theorem Un.refl:Un fs ex H H h h:=Un.kept fun _ _ q=>q
theorem Un.laid (k:∀b u,h.get? b=some u->h'.get? b=some u) (hp:h.objs.size<=a) (hn:H a=none):Un fs ex H (upd H a o) h h' where
 keep:=fun b u q _ _ _=>k b u q
 slot:=fun b u q _ _ _=>⟨u.slots,k b u q⟩
 free:=fun b u q n _=>by rw[af' (aE (aj (aw q) hp))];exact n
 there:=fun b u q _=>⟨u,k b u q⟩
 tups:=fun b xs q=>by rw[af' (ah' q hn)];exact q
 frzs:=fun b u xs q=>by rw[af' (ah' q hn)];exact q
 tbls:=fun b ps q=>⟨#[],by rw[af' (ah' q hn),q];simp⟩
theorem Un.write (mu:Mut (H x)) (he:e=x\/H e=some (.own x)) (k:∀b u,b≠e->h.get? b=some u->h'.get? b=some u) (heo:∃u,h'.get? e=some u):Un fs ex H (upd H x o) h h':=by
 have hx:∀b,H b=none->b≠x:=fun b n z=>by subst z;rw[n]at mu;exact mu
 have hb:∀b,H b=none->b≠e:=fun b n z=>by
  subst z
  rcases he with r|r
  .exact hx b n r
  .rw[n]at r;cases r
 have hm:∀b u,H b=some u->¬Mut (some u)->b≠x:=fun b u q nm z=>by subst z;rw[q]at mu;exact nm mu
 refine⟨fun b u q n _ _=>k b u (hb b n) q,fun b u q n _ _=>⟨u.slots,k b u (hb b n) q⟩,fun b u q n _=>by rw[af' (hx b n)];exact n,fun b u q _=>?_,
  fun b xs q=>by rw[af' (hm b _ q fun z=>z)];exact q,fun b u xs q=>by rw[af' (hm b _ q fun z=>z)];exact q,fun b ps q=>⟨#[],by rw[af' (hm b _ q fun z=>z),q];simp⟩⟩
 by_cases hbe:b=e
 .subst hbe;exact heo
 .exact⟨u,k b u hbe q⟩
end
def trk (h:Heap) (H:Hp):List Addr:=(ah h.objs.size).filter fun a=>(H a).isSome
def oi' (h:Heap) (H:Hp):Heap:=W.hideAll h (trk h H)
theorem kW' (h:Heap) (H:Hp):(oi' h H).objs.size=h.objs.size:=W.hideAll_size _ _
theorem oj' {h:Heap} {H:Hp} {b:Addr} {o:Obj} (e:h.get? b=some o) (n:H b=none):(oi' h H).get? b=some o:=
 W.hideAll_get _ e fun hm=>by
  have q:(H b).isSome=true:=(List.mem_filter.mp hm).2
  rw[n]at q;simp at q
theorem rW' {h:Heap} {H:Hp} {b:Addr} {o:Obj} (e:(oi' h H).get? b=some o):h.get? b=some o/\H b=none:=by
 have e':h.get? b=some o:=W.of_hideAll (trk h H) e
 refine⟨e',?_⟩
 cases q:H b with
 |none=>rfl
 |some x=>
  have hm:b∈trk h H:=List.mem_filter.mpr ⟨aB.mpr (aw e'),by simp[q]⟩
  have z:(oi' h H).get? b=none:=W.hideAll_none (trk h H) hm
  rw[z]at e;cases e
def rX' (g h:Heap) (L:Addr):List (Addr×Obj):=(ah h.objs.size).filterMap fun a=>if a=L\/(g.get? a).isSome=true then none else(h.get? a).map fun o=>(a,o)
def aH' (g h:Heap) (L d:Addr):List (Addr×Obj):=(rX' g h L).filter fun p=>decide (p.1≠d)
structure Mod (K:W.Frag) (mg:Str->Option Value) (base:Heap):Prop where
 kin:K.In base
 glob:base.Ns mainGlobals mg
 blt:∃mb,base.Ns builtinsNs mb/\∀x:Str,x≠"__name__"->mb x=bootBuiltins x
 nolimit:base.NoLimit
set_option genInjectivity false
structure Cx where
 prog:Program
 w:World
 K:W.Frag
 mg:Str->Option Value
 base:Heap
 A:Around
 N:List Str
 s₀:Shared
 H₀:Hp
 env:Env
 outer:List Env
 stack:List Env
 ex:List Addr
 fn:Str->Bool
 calm:Bool
 pn:List (Addr×Obj)
 xe:Value->Shared->Prop
set_option genInjectivity true
def frs (l:List Env):List Addr:=l.filterMap (·.frame)
abbrev Cx.fs (X:Cx):List Addr:=frs X.outer
def Vis (sc:Scope) (x:Str):Prop:=sc.names.lookup x=some .local\/sc.names.lookup x=some .cell\/sc.names.lookup x=some .free
def Loc (sc:Scope) (x:Str):Prop:=sc.names.lookup x=some .local\/sc.names.lookup x=some .cell
def Dk' (env:Env) (h:Heap) (m:Str->Option Value) (x:Str) (u:Value):Prop:=
 (env.kindOf x=some .local/\m x=some u)\/((env.kindOf x=some .cell\/env.kindOf x=some .free)/\∃c,env.cells.lookup x=some c/\h.IsCell c (some u))
structure Cx.Ok (X:Cx):Prop where
 mod:Mod X.K X.mg X.base
 kind:X.env.scope.kind=.function
 glob:X.env.globals=mainGlobals
 blt:X.env.builtins=builtinsNs
 above:X.s₀.heap.objs.size<=X.env.locals
 inj:∀x y c,X.env.cells.lookup x=some c->X.env.cells.lookup y=some c->x=y
 has:∀x,(X.env.kindOf x=some .cell\/X.env.kindOf x=some .free)->∃c,X.env.cells.lookup x=some c
 cab:∀x c,X.fn x=true->X.env.cells.lookup x=some c->X.s₀.heap.objs.size<=c
 hd:X.calm=true->X.A.handled=none
 frames:X.A.frames=some X.stack
 stk:X.stack=X.outer\/(X.stack=X.env :: X.outer/\X.env.frame=some X.env.locals)
 exf:∀b∈X.ex,b≠X.env.locals/\∀x c,X.env.cells.lookup x=some c->c≠b
 bs:∀b o,X.base.get? b=some o->X.s₀.heap.get? b=some o/\X.H₀ b=none
 bsz:X.base.objs.size<=X.s₀.heap.objs.size
 noex:∀b o,X.base.get? b=some o->b∉X.ex
 exfs:∀b∈X.ex,b∉X.fs
 funs:X.s₀.heap.FunFrames X.base X.outer
 frf:∀b∈X.fs,X.H₀ b=none
structure Inv (X:Cx) (pins:List (Addr×Obj)) (σ:List (Option V)) (H:Hp) (s:Shared):Prop where
 ok:X.Ok
 os:s.os=X.s₀.os
 bare:AllBare s.gens
 base:Un X.fs X.ex X.H₀ H X.s₀.heap s.heap
 loc:∃m,s.heap.Ns X.env.locals m/\∀(i:Nat) (x:Str) (v:V),X.N[i]?=some x->σ[i]?=some (some v)->Vis X.env.scope x->∃u,aD' v u/\Dk' X.env s.heap m x u
 cell:∀x c,X.env.cells.lookup x=some c->∃v,s.heap.IsCell c v
 free:H X.env.locals=none
 freeC:∀x c,X.env.cells.lookup x=some c->H c=none
 pin:∀p∈X.pn++pins,s.heap.get? p.1=some p.2/\H p.1=none/\p.1≠X.env.locals/\p.1∉X.fs/\∀v,p.2.data≠.cell v
 hok:HOk X.prog X.w H s.heap
 len:σ.length=X.N.length
section
variable {X:Cx} {pins:List (Addr×Obj)} {σ:List (Option V)} {H H':Hp} {s:Shared} {h':Heap}
theorem Cx.Ok.nofr (ok:X.Ok) {b:Addr} {o:Obj} (e:X.base.get? b=some o):b∉X.fs:=fun hb=>by
 have:=(ok.funs.mem hb).1
 rw[e]at this;cases this
theorem Inv.bs (I:Inv X pins σ H s):∀b o,X.base.get? b=some o->s.heap.get? b=some o/\H b=none:=fun b o e=>
 ⟨I.base.keep b o (I.ok.bs b o e).1 (I.ok.bs b o e).2 (I.ok.nofr e) (I.ok.noex b o e),I.base.free b o (I.ok.bs b o e).1 (I.ok.bs b o e).2 (I.ok.noex b o e)⟩
theorem Inv.bk (I:Inv X pins σ H s):∀b o,X.base.get? b=some o->s.heap.get? b=some o:=fun b o e=>(I.bs b o e).1
theorem Inv.mod (I:Inv X pins σ H s):Mod X.K X.mg X.base:=I.ok.mod
theorem Inv.kIn (I:Inv X pins σ H s):X.K.In s.heap:=I.ok.mod.kin.keeps I.bk
theorem Inv.fr (I:Inv X pins σ H s):∃m,Fr X.base X.env.locals s.heap m:=
 let⟨m,hn,_⟩:=I.loc
 ⟨m,hn,I.bk,aq I.ok.bsz I.ok.above⟩
theorem Inv.lt (I:Inv X pins σ H s):X.env.locals<s.heap.objs.size:=let⟨_,hn,_⟩:=I.loc;hn.lt
theorem Inv.sz (I:Inv X pins σ H s):X.s₀.heap.objs.size<=s.heap.objs.size:=aq I.ok.above (cC I.lt)
theorem Inv.nofs (I:Inv X pins σ H s) {a:Addr} (h:s.heap.objs.size<=a):a∉X.fs:=fun hb=>by
 obtain⟨_,o,ho,_⟩:=I.ok.funs.mem hb
 exact absurd (aj (aw ho) (aq I.sz h)) (bm _)
theorem Inv.cne (I:Inv X pins σ H s):∀x c,X.env.cells.lookup x=some c->c≠X.env.locals:=fun x c e z=>by
 obtain⟨v,o,ho,hd⟩:=I.cell x c e
 obtain⟨m,⟨o',es,ep,ho',hd',_⟩,_⟩:=I.loc
 rw[z,ho']at ho;cases ho;rw[hd']at hd;cases hd
theorem Inv.funs (I:Inv X pins σ H s):s.heap.FunFrames X.base X.outer:=by
 have all:∀(l:List Env),(∀b∈frs l,b∈X.fs)->X.s₀.heap.FunFrames X.base l->s.heap.FunFrames X.base l:=by
  intro l
  induction l with
  |nil=>intro _ _;trivial
  |cons env r ih=>
   intro hs hl
   obtain⟨hk,⟨L,o,hf,hn,ho,hd⟩,hr⟩:=hl
   have hL:L∈X.fs:=hs L (by unfold frs;rw[bH,hf];exact aJ)
   obtain⟨sl,e⟩:=I.base.slot L o ho (I.ok.frf L hL) hL fun z=>I.ok.exfs L z hL
   exact⟨hk,⟨L,_,hf,hn,e,hd⟩,ih (fun b hb=>hs b (by unfold frs;rw[bH,hf];exact aF _ hb)) hr⟩
 exact all X.outer (fun _ hb=>hb) I.ok.funs
theorem Inv.stack (I:Inv X pins σ H s):s.heap.FunFrames X.base X.stack:=by
 rcases I.ok.stk with e|⟨e,hf⟩
 .rw[e];exact I.funs
 .rw[e]
  obtain⟨m,hn,_⟩:=I.loc
  refine .cons (by rw[I.ok.kind];decide) hf hn ?_ I.funs
  exact Heap.get?_none_of_le (aq I.ok.bsz I.ok.above)
theorem Inv.stkSub (I:Inv X pins σ H s):∀b∈frs X.stack,b∈X.env.locals :: X.fs:=fun b hb=>by
 rcases I.ok.stk with e|⟨e,hf⟩
 .rw[e]at hb;exact aF _ hb
 .rw[e]at hb
  unfold frs at hb
  rw[bH,hf]at hb
  exact hb
theorem Inv.stkFree (I:Inv X pins σ H s):∀b∈frs X.stack,H b=none:=fun b hb=>by
 rcases ap.mp (I.stkSub b hb)with e|hb
 .rw[e];exact I.free
 .obtain⟨_,o,ho,_⟩:=I.ok.funs.mem hb
  exact I.base.free b o ho (I.ok.frf b hb) fun z=>I.ok.exfs b z hb
theorem Inv.step {g':Array GenState} {t':Nat} {d':Drawn} {ch:List Addr} (I:Inv X pins σ H s)
  (hch:∀b∈ch,(b∈X.ex\/X.s₀.heap.objs.size<=b)/\b≠X.env.locals/\(∀x c,X.env.cells.lookup x=some c->c≠b)/\∀p∈X.pn++pins,p.1≠b)
  (keep:∀b o,b≠X.env.locals->b∉X.fs->b∉ch->s.heap.get? b=some o->H b=none->h'.get? b=some o)
  (slot:∀b o,b≠X.env.locals->b∈X.fs->b∉ch->s.heap.get? b=some o->H b=none->∃sl,h'.get? b=some { o with slots:=sl }) (free:∀b o,b∉ch->s.heap.get? b=some o->H b=none->H' b=none)
  (there:∀b o,b∉ch->s.heap.get? b=some o->∃o',h'.get? b=some o')
  (tups:∀b xs,H b=some (.tup xs)->H' b=some (.tup xs)) (frzs:∀b o u,H b=some (.frz o u)->H' b=some (.frz o u)) (tbls:∀b ps,H b=some (.tbl ps)->∃more,H' b=some (.tbl (ps++more)))
  (ns:∀m,s.heap.Ns X.env.locals m->h'.Ns X.env.locals m) (hok:HOk X.prog X.w H' h') (hg:AllBare g'):
  Inv X pins σ H' { s with heap:=h',gens:=g',drawn:=d',toks:=t' }:=by
 have neL:∀b o,X.s₀.heap.get? b=some o->b≠X.env.locals:=fun b o e=>aE (aj (aw e) I.ok.above)
 have neC:∀b o,X.s₀.heap.get? b=some o->b∉X.ex->b∉ch:=fun b o e hx hb=>by
  rcases(hch b hb).1 with z|z
  .exact hx z
  .exact absurd (aj (aw e) z) (bm _)
 have cellK:∀x c,X.env.cells.lookup x=some c->∀v,s.heap.IsCell c v->h'.IsCell c v:=fun x c e v ⟨o,ho,hd⟩=>by
  have nch:c∉ch:=fun z=>(hch c z).2.2.1 x c e rfl
  by_cases hc:c∈X.fs
  .obtain⟨sl,q⟩:=slot c o (I.cne x c e) hc nch ho (I.freeC x c e)
   exact⟨_,q,hd⟩
  .exact⟨o,keep c o (I.cne x c e) hc nch ho (I.freeC x c e),hd⟩
 refine⟨I.ok,I.os,hg,⟨fun b o e n hb hx=>?_,fun b o e n hb hx=>?_,fun b o e n hx=>?_,fun b o e hx=>?_,fun b xs e=>tups b xs (I.base.tups b xs e),fun b o xs e=>frzs b o xs (I.base.frzs b o xs e),fun b ps e=>?_⟩,?_,fun x c e=>?_,?_,fun x c e=>?_,fun p hp=>?_,hok,I.len⟩
 .exact keep b o (neL b o e) hb (neC b o e hx) (I.base.keep b o e n hb hx) (I.base.free b o e n hx)
 .obtain⟨sl,e1⟩:=I.base.slot b o e n hb hx
  obtain⟨sl',e2⟩:=slot b _ (neL b o e) hb (neC b o e hx) e1 (I.base.free b o e n hx)
  exact⟨sl',e2⟩
 .obtain⟨o',e1⟩:=I.base.there b o e hx
  exact free b o' (neC b o e hx) e1 (I.base.free b o e n hx)
 .obtain⟨o',e1⟩:=I.base.there b o e hx
  exact there b o' (neC b o e hx) e1
 .obtain⟨m1,e1⟩:=I.base.tbls b ps e
  obtain⟨m2,e2⟩:=tbls b _ e1
  exact⟨m1++m2,by rw[e2,Array.append_assoc]⟩
 .obtain⟨m,hn,hl⟩:=I.loc
  refine⟨m,ns m hn,fun i x v e1 e2 e3=>?_⟩
  obtain⟨u,r,l⟩:=hl i x v e1 e2 e3
  refine⟨u,r,?_⟩
  rcases l with l|⟨k,c,e,z⟩
  .exact .inl l
  .exact .inr ⟨k,c,e,cellK x c e _ z⟩
 .obtain⟨v,z⟩:=I.cell x c e
  exact⟨v,cellK x c e v z⟩
 .obtain⟨m,⟨o,_,_,ho,_⟩,_⟩:=I.loc
  exact free _ o (fun z=>(hch _ z).2.1 rfl) ho I.free
 .obtain⟨v,o,ho,hd⟩:=I.cell x c e
  exact free c o (fun z=>(hch c z).2.2.1 x c e rfl) ho (I.freeC x c e)
 .obtain⟨e,n,ne,nf,d⟩:=I.pin p hp
  have nch:p.1∉ch:=fun z=>(hch p.1 z).2.2.2 p hp rfl
  exact⟨keep p.1 p.2 ne nf nch e n,free p.1 p.2 nch e n,ne,nf,d⟩
theorem Inv.un {t':Nat} (I:Inv X pins σ H s) (u:Un X.fs [] H H' s.heap h') (hok:HOk X.prog X.w H' h'):Inv X pins σ H' { s with heap:=h',toks:=t' }:=by
 obtain⟨m,⟨o,es,ep,ho,r⟩,_⟩:=id I.loc
 obtain⟨sl,hL⟩:=u.any ho I.free (by simp)
 exact I.step (g':=s.gens) (d':=s.drawn) (ch:=[]) (fun _ z=>nomatch z) (fun b o _ hb _ e n=>u.keep b o e n hb (by simp)) (fun b o _ hb _ e n=>u.slot b o e n hb (by simp)) (fun b o _ e n=>u.free b o e n (by simp)) (fun b o _ e=>u.there b o e (by simp)) u.tups u.frzs u.tbls (fun m' hm=>by
  obtain⟨o',es',ep',ho',r'⟩:=hm
  rw[ho]at ho';cases ho'
  exact⟨_,es',ep',hL,r'⟩) hok I.bare
theorem Inv.call {g':Array GenState} {t':Nat} {d':Drawn} {ch:List Addr} (I:Inv X pins σ H s) (u:Un (frs X.stack) ch H H' s.heap h') (hok:HOk X.prog X.w H' h') (hg:AllBare g')
  (hch:∀b∈ch,(b∈X.ex\/X.s₀.heap.objs.size<=b)/\b≠X.env.locals/\(∀x c,X.env.cells.lookup x=some c->c≠b)/\∀p∈X.pn++pins,p.1≠b):
  Inv X pins σ H' { s with heap:=h',gens:=g',drawn:=d',toks:=t' }:=by
 obtain⟨m,⟨o,es,ep,ho,r⟩,_⟩:=id I.loc
 obtain⟨sl,hL⟩:=u.any ho I.free fun z=>(hch _ z).2.1 rfl
 exact I.step (ch:=ch) hch (fun b o hL hb hc e n=>u.keep b o e n (fun z=>(ap.mp (I.stkSub b z)).elim hL hb) hc) (fun b o _ _ hc e n=>u.any e n hc) (fun b o hc e n=>u.free b o e n hc) (fun b o hc e=>u.there b o e hc) u.tups u.frzs u.tbls (fun m' hm=>by
  obtain⟨o',es',ep',ho',r'⟩:=hm
  rw[ho]at ho';cases ho'
  exact⟨_,es',ep',hL,r'⟩) hok hg
theorem Inv.turned {t':Nat} {it:Addr} (I:Inv X pins σ H s) (k:∀b o,b≠it->s.heap.get? b=some o->h'.get? b=some o) (hn:H it=none) (hL:it≠X.env.locals)
  (h1:it∈X.ex\/X.s₀.heap.objs.size<=it) (h2:∀x c,X.env.cells.lookup x=some c->c≠it) (h3:∀p∈X.pn++pins,p.1≠it):Inv X pins σ H { s with heap:=h',toks:=t' }:=by
 have nit:∀b u,H b=some u->b≠it:=fun b u e z=>by rw[z,hn]at e;cases e
 refine I.step (g':=s.gens) (d':=s.drawn) (ch:=[it]) (fun b hb=>?_) (fun b o _ _ hc e _=>k b o (fun z=>hc (by simp[z])) e) (fun b o _ _ hc e _=>⟨o.slots,k b o (fun z=>hc (by simp[z])) e⟩) (fun _ _ _ _ n=>n)
  (fun b o hc e=>⟨o,k b o (fun z=>hc (by simp[z])) e⟩) (fun _ _ e=>e) (fun _ _ _ e=>e) (fun b ps e=>⟨#[],by rw[e];simp⟩) (fun m hm=>?_) (fun b u e=>?_) I.bare
 .have e:b=it:=by simpa using hb
  subst e
  exact⟨h1,hL,h2,h3⟩
 .obtain⟨o,es,ep,ho,r⟩:=hm
  exact⟨o,es,ep,k _ o (Ne.symm hL) ho,r⟩
 .refine(I.hok b u e).stay (fun c v hc q=>k c v ?_ q) (fun _ q=>q) fun _ _ q=>q
  rcases hc with z|z
  .rw[z];exact nit b u e
  .exact nit c _ z
theorem Inv.tok (I:Inv X pins σ H s) (t:Nat):Inv X pins σ H { s with toks:=t }:=I.un (h':=s.heap) (t':=t) Un.refl I.hok
theorem Inv.kept {t':Nat} (I:Inv X pins σ H s) (k:∀b u,s.heap.get? b=some u->h'.get? b=some u):Inv X pins σ H { s with heap:=h',toks:=t' }:=I.un (Un.kept k) (I.hok.kept k)
theorem Inv.laid {a:Addr} {o:HO} {t':Nat} (I:Inv X pins σ H s) (k:∀b u,s.heap.get? b=some u->h'.get? b=some u) (hp:s.heap.objs.size<=a) (new:aG' X.prog X.w (upd H a o) h' a o):
  Inv X pins σ (upd H a o) { s with heap:=h',toks:=t' }:=I.un (Un.laid k hp (I.hok.fresh hp)) (I.hok.laid k hp new)
theorem Inv.write {x e:Addr} {o:HO} {t':Nat} (I:Inv X pins σ H s) (mu:Mut (H x)) (he:e=x\/H e=some (.own x)) (k:∀b u,b≠e->s.heap.get? b=some u->h'.get? b=some u) (heo:∃u,h'.get? e=some u)
  (new:aG' X.prog X.w (upd H x o) h' x o):Inv X pins σ (upd H x o) { s with heap:=h',toks:=t' }:=I.un (Un.write mu he k heo) (I.hok.write mu he k heo new)
theorem Inv.weak {σ':List (Option V)} (I:Inv X pins σ H s) (hl:σ'.length=σ.length) (w:∀(i:Nat) v,σ'[i]?=some (some v)->σ[i]?=some (some v)):Inv X pins σ' H s:=
 ⟨I.ok,I.os,I.bare,I.base,let⟨m,hn,hl'⟩:=I.loc;⟨m,hn,fun i x v e1 e2 e3=>hl' i x v e1 (w i v e2) e3⟩,I.cell,I.free,I.freeC,I.pin,I.hok,hl.trans I.len⟩
theorem Inv.pins_of {pins':List (Addr×Obj)} (I:Inv X pins σ H s) (h:∀p∈pins',s.heap.get? p.1=some p.2/\H p.1=none/\p.1≠X.env.locals/\p.1∉X.fs/\∀v,p.2.data≠.cell v):Inv X pins' σ H s:=
 ⟨I.ok,I.os,I.bare,I.base,I.loc,I.cell,I.free,I.freeC,fun p hp=>(aG.mp hp).elim (fun z=>I.pin p (aT _ z)) (h p),I.hok,I.len⟩
theorem gm' {N:List Str} (hN:N.Nodup) {i j:Nat} {x:Str} (a:N[i]?=some x) (b:N[j]?=some x):i=j:=by
 obtain⟨h1,e1⟩:=aI.mp a
 obtain⟨h2,e2⟩:=aI.mp b
 exact(List.getElem_inj hN).mp (e1.trans e2.symm)
theorem fl' {M:Model} {A:Around} {E:Value->Shared->Prop} {i:Nat} {x:Str} {v:V} {u:Value} {Q:Unit->Shared->Prop} (I:Inv X pins σ H s) (hN:X.N.Nodup) (hi:X.N[i]?=some x) (hx:Loc X.env.scope x) (r:aD' v u)
  (h:∀s',Inv X pins (σ.set i (some v)) H s'->(∃a,cD a s.heap s'.heap/\(a=X.env.locals\/X.env.cells.lookup x=some a))->Q () s') (hf:X.fn x=true\/X.env.scope.names.lookup x=some .local:=by first|exact .inl rfl|exact .inr rfl|assumption):wpAny M A (storeName X.env x u) Q E s:=by
 obtain⟨m,hn,hl⟩:=id I.loc
 have hcls:(X.env.scope.kind == .class || (X.env.scope.kind == .module&&X.env.locals != X.env.globals))=false:=by rw[I.ok.kind];rfl
 have hiσ:i<σ.length:=by rw[I.len];exact(aI.mp hi).1
 have cne:=I.cne
 have tracked:∀{a:Addr} {h':Heap},(∃o,s.heap.get? a=some o/\H a=none)->cD a s.heap h'->HOk X.prog X.w H h':=fun {a h'} ha hs b ob e=>by
  obtain⟨_,_,hfree⟩:=ha
  refine(I.hok b ob e).stay (fun c w' hc q=>(hs.2 c ?_).trans q) (fun _ q=>q) fun _ _ q=>q
  rintro rfl
  rcases hc with rfl|hc
  .rw[hfree]at e;cases e
  .rw[hfree]at hc;cases hc
 rcases hx with hk|hk
 .refine wpAny_storeName_local hk hn (fun h' hn' hs=>?_) hcls
  obtain⟨oL,_,_,hoL,_⟩:=id hn
  refine h _ ⟨I.ok,I.os,I.bare,⟨fun b o e n hb hx=>?_,fun b o e n hb hx=>?_,I.base.free,fun b o e hx=>?_,I.base.tups,I.base.frzs,I.base.tbls⟩,⟨_,hn',fun j y v' e1 e2 e3=>?_⟩,fun y c e=>?_,I.free,I.freeC,fun p hp=>?_,tracked ⟨oL,hoL,I.free⟩ hs,by simpa using I.len⟩ ⟨_,hs,.inl rfl⟩
  .exact(hs.2 b (aE (aj (aw e) I.ok.above))).trans (I.base.keep b o e n hb hx)
  .obtain⟨sl,e1⟩:=I.base.slot b o e n hb hx
   exact⟨sl,(hs.2 b (aE (aj (aw e) I.ok.above))).trans e1⟩
  .obtain⟨o',e1⟩:=I.base.there b o e hx
   exact⟨o',(hs.2 b (aE (aj (aw e) I.ok.above))).trans e1⟩
  .by_cases hj:j=i
   .subst hj
    rw[hi]at e1;cases e1
    rw[cG hiσ]at e2
    cases e2
    exact⟨u,r,.inl ⟨hk,by simp⟩⟩
   .rw[cf (Ne.symm hj)]at e2
    obtain⟨u',r',q⟩:=hl j y v' e1 e2 e3
    refine⟨u',r',?_⟩
    rcases q with⟨k,e⟩|⟨k,c,e,z⟩
    .refine .inl ⟨k,?_⟩
     have:y≠x:=fun e=>hj (gm' hN e1 (e ▸ hi))
     simp[this,e]
    .exact .inr ⟨k,c,e,z.sameBut hs (cne y c e)⟩
  .obtain⟨w',z⟩:=I.cell y c e
   exact⟨w',z.sameBut hs (cne y c e)⟩
  .obtain⟨e,n,ne,nf,d⟩:=I.pin p hp
   exact⟨(hs.2 p.1 ne).trans e,n,ne,nf,d⟩
 .have hfn:X.fn x=true:=by
   rcases hf with z|z
   .exact z
   .rw[z]at hk;cases hk
  obtain⟨c,hc⟩:=I.ok.has x (.inl hk)
  obtain⟨w',z⟩:=I.cell x c hc
  refine wpAny_storeName_cell I.ok.kind hk hc z (fun h' hc' hs=>?_)
  obtain⟨oc,hoc,hocd⟩:=id z
  refine h { s with heap:=h' } ⟨I.ok,I.os,I.bare,⟨fun b o e n hb hx=>?_,fun b o e n hb hx=>?_,I.base.free,fun b o e hx=>?_,I.base.tups,I.base.frzs,I.base.tbls⟩,⟨m,hn.sameBut hs (Ne.symm (cne x c hc)),fun j y v' e1 e2 e3=>?_⟩,fun y c' e=>?_,I.free,I.freeC,fun p hp=>?_,tracked ⟨oc,hoc,I.freeC x c hc⟩ hs,by simpa using I.len⟩ ⟨c,hs,.inr hc⟩
  .exact(hs.2 b (aE (aj (aw e) (I.ok.cab x c hfn hc)))).trans (I.base.keep b o e n hb hx)
  .obtain⟨sl,e1⟩:=I.base.slot b o e n hb hx
   exact⟨sl,(hs.2 b (aE (aj (aw e) (I.ok.cab x c hfn hc)))).trans e1⟩
  .obtain⟨o',e1⟩:=I.base.there b o e hx
   exact⟨o',(hs.2 b (aE (aj (aw e) (I.ok.cab x c hfn hc)))).trans e1⟩
  .by_cases hj:j=i
   .subst hj
    rw[hi]at e1;cases e1
    rw[cG hiσ]at e2
    cases e2
    exact⟨u,r,.inr ⟨.inl hk,c,hc,hc'⟩⟩
   .rw[cf (Ne.symm hj)]at e2
    obtain⟨u',r',q⟩:=hl j y v' e1 e2 e3
    refine⟨u',r',?_⟩
    rcases q with q|⟨k,c',e,z'⟩
    .exact .inl q
    .refine .inr ⟨k,c',e,z'.sameBut hs ?_⟩
     rintro rfl
     exact hj (gm' hN e1 (I.ok.inj _ _ _ e hc ▸ hi))
  .by_cases hcc:c'=c
   .subst hcc;exact⟨_,hc'⟩
   .obtain⟨w2,z2⟩:=I.cell y c' e
    exact⟨w2,z2.sameBut hs hcc⟩
  .obtain⟨e,n,ne,nf,d⟩:=I.pin p hp
   refine⟨(hs.2 p.1 ?_).trans e,n,ne,nf,d⟩
   intro q
   rw[q,hoc]at e
   have q':oc=p.2:=Option.some.inj e
   exact d w' (by rw[<- q'];exact hocd)
theorem e6' {M:Model} {A:Around} {E:Value->Shared->Prop} {i:Nat} {x:Str} {v:V} {u:Value} {Q:Unit->Shared->Prop} (I:Inv X pins σ H s) (hN:X.N.Nodup) (hi:X.N[i]?=some x) (hx:Loc X.env.scope x) (r:aD' v u)
  (h:∀s',Inv X pins (σ.set i (some v)) H s'->Q () s') (hf:X.fn x=true\/X.env.scope.names.lookup x=some .local:=by first|exact .inl rfl|exact .inr rfl|assumption):wpAny M A (storeName X.env x u) Q E s:=
 fl' I hN hi hx r (fun s' I' _=>h s' I') hf
theorem Inv.call' {s':Shared} {ch:List Addr} (I:Inv X pins σ H s) (ho:s'.os=s.os) (u:Un (frs X.stack) ch H H' s.heap s'.heap) (hok:HOk X.prog X.w H' s'.heap) (hg:AllBare s'.gens)
  (hch:∀b∈ch,(b∈X.ex\/X.s₀.heap.objs.size<=b)/\b≠X.env.locals/\(∀x c,X.env.cells.lookup x=some c->c≠b)/\∀p∈X.pn++pins,p.1≠b):Inv X pins σ H' s':=by
 obtain⟨h',g',d',t',o'⟩:=s'
 have e:o'=s.os:=ho
 subst e
 exact I.call (g':=g') (t':=t') (d':=d') u hok hg hch
end
abbrev XK:=Value->Option Addr->Hp->Prop
abbrev St:=List (Option V)
abbrev VK:=V->Hp->Prop
abbrev TE:=St->Hp->VK->Prop
abbrev TT:=St->Hp->(Bool->Hp->Prop)->Prop
abbrev TA:=St->Hp->(List V->Hp->Prop)->Prop
structure Ends where
 nx:St->Hp->Prop
 rt:VK
 bk:St->Hp->Prop:=fun _ _=>False
 ct:St->Hp->Prop:=fun _ _=>False
abbrev TS:=Ends->St->Hp->Prop
def EP (X:Cx) (pins:List (Addr×Obj)) (σ:St) (Q:VK) (u:Value) (s':Shared):Prop:=∃v H',Inv X pins σ H' s'/\aD' v u/\Q v H'
def TP (X:Cx) (pins:List (Addr×Obj)) (σ:St) (Q:Bool->Hp->Prop) (b:Bool) (s':Shared):Prop:=∃H',Inv X pins σ H' s'/\Q b H'
def AP (X:Cx) (pins:List (Addr×Obj)) (σ:St) (Q:List V->Hp->Prop) (us:List Value) (s':Shared):Prop:=∃vs H',Inv X pins σ H' s'/\aK' vs us/\Q vs H'
def SP (X:Cx) (pins:List (Addr×Obj)) (D:Ends) (f:Flow) (s':Shared):Prop:=
 match f with
 | .next=>∃σ' H',Inv X pins σ' H' s'/\D.nx σ' H'
 | .brk=>∃σ' H',Inv X pins σ' H' s'/\D.bk σ' H'
 | .cont=>∃σ' H',Inv X pins σ' H' s'/\D.ct σ' H'
 | .ret u=>∃v σ' H',Inv X pins σ' H' s'/\aD' v u/\D.rt v H'
def PE (X:Cx) (e:Expr) (t:TE):Prop:=
 ∀(pins:List (Addr×Obj)) (s:Shared) (σ:St) (H:Hp) (Q:VK),Inv X pins σ H s->t σ H Q->wpAny (model X.prog X.w) X.A (eval e X.env) (EP X pins σ Q) X.xe s
def PT (X:Cx) (e:Expr) (t:TT):Prop:=
 ∀(pins:List (Addr×Obj)) (s:Shared) (σ:St) (H:Hp) (Q:Bool->Hp->Prop),Inv X pins σ H s->t σ H Q->wpAny (model X.prog X.w) X.A (isTrue e X.env (eval e X.env)) (TP X pins σ Q) X.xe s
def PW (X:Cx) (e:Expr) (t:TT):Prop:=
 ∀(whole:Sem Value) (pins:List (Addr×Obj)) (s:Shared) (σ:St) (H:Hp) (Q:Bool->Hp->Prop),Inv X pins σ H s->t σ H Q->wpAny (model X.prog X.w) X.A (isTrue e X.env whole) (TP X pins σ Q) X.xe s
theorem PW.pt {X:Cx} {e:Expr} {t:TT} (h:PW X e t):PT X e t:=h _
def PA (X:Cx) (es:List Expr) (t:TA):Prop:=
 ∀(pos:Pos) (pins:List (Addr×Obj)) (s:Shared) (σ:St) (H:Hp) (Q:List V->Hp->Prop),Inv X pins σ H s->t σ H Q->wpAny (model X.prog X.w) X.A (spliced (backTo pos (starEach es X.env))) (AP X pins σ Q) X.xe s
def PS (X:Cx) (st:Stmt) (t:TS):Prop:=
 ∀(pins:List (Addr×Obj)) (s:Shared) (σ:St) (H:Hp) (D:Ends),Inv X pins σ H s->t D σ H->wpAny (model X.prog X.w) X.A (exec st X.env) (SP X pins D) X.xe s
def PSs (X:Cx) (st:List Stmt) (t:TS):Prop:=
 ∀(pins:List (Addr×Obj)) (s:Shared) (σ:St) (H:Hp) (D:Ends),Inv X pins σ H s->t D σ H->wpAny (model X.prog X.w) X.A (execs st X.env) (SP X pins D) X.xe s
theorem thn {α:Type} {t:Sem α} {Q Q':α->Shared->Prop} {M:Model} {A:Around} {E:Value->Shared->Prop} {s:Shared} (h:wpAny M A t Q E s) (hQ:∀a s,Q a s->Q' a s):wpAny M A t Q' E s:=wpAny_mono h hQ fun _ _ x=>x
section
variable {X:Cx}
theorem bin {a b:Expr} {ta tb:TE} (ha:PE X a ta) (hb:PE X b tb) {pins:List (Addr×Obj)} {s:Shared} {σ:St} {H:Hp} {R:V->V->Hp->Prop} (I:Inv X pins σ H s) (h:ta σ H fun x H1=>tb σ H1 fun y H2=>R x y H2)
  {α:Type} {Q:α->Shared->Prop} {f:Value->Value->Sem α}
  (hf:∀v u s2 x y H2,Inv X pins σ H2 s2->aD' x v->aD' y u->R x y H2->wpAny (model X.prog X.w) X.A (f v u) Q X.xe s2):
  wpAny (model X.prog X.w) X.A (eval a X.env) (fun v s₁=>wpAny (model X.prog X.w) X.A (eval b X.env) (fun u s₂=>wpAny (model X.prog X.w) X.A (f v u) Q X.xe s₂) X.xe s₁) X.xe s:=by
 refine thn (ha pins s σ H _ I h) fun v s1 ⟨x,H1,I1,r1,q1⟩=>?_
 refine thn (hb pins s1 σ H1 _ I1 q1) fun u s2 ⟨y,H2,I2,r2,q2⟩=>?_
 exact hf v u s2 x y H2 I2 r1 r2 q2
def zL' (i:Nat):TE:=fun σ H Q=>∃v,σ[i]?=some (some v)/\Q v H
def tC (v:V):TE:=fun _ H Q=>Q v H
theorem qA' {i:Nat} {x:Str} {pos:Pos} (hN:X.N[i]?=some x) (hv:Vis X.env.scope x) (hd:(x == ("__debug__":Str))=false:=by decide) (hcd:(x == ("__classdict__":Str))=false:=by decide):PE X (.Name x pos) (zL' i):=by
 intro pins s σ H Q I h
 obtain⟨v,e,h⟩:=h
 obtain⟨m,hn,hl⟩:=I.loc
 obtain⟨u,r,l⟩:=hl i x v hN e hv
 have fin:EP X pins σ Q u s:=⟨v,H,I,r,h⟩
 rcases l with⟨hk,hm⟩|⟨hk,c,hc,hcell⟩
 .exact wpAny_Name (wpAny_loadName_local I.ok.kind hk hn hm fin) hd
 .rcases hk with hk|hk
  .exact wpAny_Name (wpAny_loadName_cell I.ok.kind hk hc hcell fin) hd
  .exact wpAny_Name (wpAny_loadName_free I.ok.kind hk hc hcell fin hcd) hd
theorem u9' {i j pos}:PE X (.Constant (.int i) j pos) (tC (.int i)):=fun _ _ _ H _ I h=>wpAny_Constant_int ⟨.int i,H,I.tok _,⟨_,rfl⟩,h⟩
theorem z9' {b j pos}:PE X (.Constant (.bool b) j pos) (tC (.bl b)):=fun _ _ _ H _ I h=>Constant_bool ⟨.bl b,H,I,rfl,h⟩
theorem va' {j pos}:PE X (.Constant .none j pos) (tC .non):=fun _ _ _ H _ I h=>Constant_none ⟨.non,H,I,rfl,h⟩
theorem vb' {x j pos}:PE X (.Constant (.str x) j pos) (tC (.str x)):=fun _ _ _ H _ I h=>Calls.Constant_str ⟨.str x,H,I.tok _,⟨_,rfl⟩,h⟩
def Gl (X:Cx) (x:Str):Prop:=X.env.kindOf x=some .globalImplicit
theorem rY' {E:Value->Shared->Prop} {pins:List (Addr×Obj)} {s:Shared} {σ:St} {H:Hp} {x:Str} {u:Value} {pos:Pos} {Q:Value->Shared->Prop} (I:Inv X pins σ H s) (hg:Gl X x) (hm:X.mg x=some u) (h:Q u s)
  (hd:(x == ("__debug__":Str))=false:=by decide):wpAny (model X.prog X.w) X.A (eval (.Name x pos) X.env) Q E s:=
 Calls.Name_function_global I.ok.kind hg (Calls.loadGlobal_global (by rw[I.ok.glob];exact I.mod.glob.keeps I.bk) hm h) hd
theorem eg' {E:Value->Shared->Prop} {pins:List (Addr×Obj)} {s:Shared} {σ:St} {H:Hp} {x:Str} {u:Value} {pos:Pos} {Q:Value->Shared->Prop} (I:Inv X pins σ H s) (hg:Gl X x) (hm:X.mg x=none) (hv:bootBuiltins x=some u) (h:Q u s)
  (hn:x≠"__name__":=by decide) (hd:(x == ("__debug__":Str))=false:=by decide):wpAny (model X.prog X.w) X.A (eval (.Name x pos) X.env) Q E s:=by
 obtain⟨mb,h1,h2⟩:=I.mod.blt
 exact Calls.Name_function_global I.ok.kind hg (Calls.loadGlobal_builtin (by rw[I.ok.glob];exact I.mod.glob.keeps I.bk) hm (by rw[I.ok.blt];exact h1.keeps I.bk) ((h2 x hn).trans hv) h) hd
theorem rZ' {x:Str} {v:V} {u:Value} {pos:Pos} (hg:Gl X x) (hm:X.mg x=none) (hv:bootBuiltins x=some u) (r:aD' v u) (hn:x≠"__name__":=by decide) (hd:(x == ("__debug__":Str))=false:=by decide):PE X (.Name x pos) (tC v):=
 fun _ _ _ H _ I h=>eg' I hg hm hv ⟨v,H,I,r,h⟩ hn hd
variable {a b:Expr} {ta tb:TE} {pos:Pos}
def PC (X:Cx) (op:CmpOp) (a b:Expr) (t:TE):Prop:=
 ∀(pins:List (Addr×Obj)) (s:Shared) (σ:St) (H:Hp) (Q:VK),Inv X pins σ H s->t σ H Q->
  wpAny (model X.prog X.w) X.A (eval a X.env) (fun v s₁=>wpAny (model X.prog X.w) X.A (eval b X.env) (fun u s₂=>wpAny (model X.prog X.w) X.A (compareOp op v u) (EP X pins σ Q) X.xe s₂) X.xe s₁) X.xe s
def tB (t:TE):TT:=fun σ H Q=>t σ H fun x H1=>∃c,x=.bl c/\Q c H1
theorem qB' {op:CmpOp} {t:TE} (h:PC X op a b t) (h1:behindInMarks op b=false:=by rfl):PE X (.Compare a [op] [b] pos) t:=fun pins s σ H Q I hw=>wpAny_Compare1 (h pins s σ H Q I hw) h1
theorem qC' {op:CmpOp} {t:TE} (h:PC X op a b t) (h1:behindInMarks op b=false:=by rfl):PT X (.Compare a [op] [b] pos) (tB t):=by
 intro pins s σ H Q I hw
 refine wpAny_isTrue_Compare1 (thn (h pins s σ H _ I hw) fun v s1 h1=>thn h1 fun u s2 h2=>thn h2 fun c s3 ⟨x,H1,I1,r1,q1⟩=>?_) h1
 obtain⟨d,rfl,q⟩:=q1
 cases r1
 exact bO ⟨H1,I1,q⟩
variable {tA tB':TT} {aH':List Expr}
def vc' (t u:TT):TT:=fun σ H Q=>t σ H fun c H1=>if c=true then u σ H1 Q else Q false H1
def tOr (t u:TT):TT:=fun σ H Q=>t σ H fun c H1=>if c=true then Q true H1 else u σ H1 Q
def Aa' (t:TT):TT:=fun σ H Q=>t σ H fun c H1=>Q (!c) H1
theorem r0' (ha:PT X a tA):PW X (.BoolOp .And [a] pos) tA:=by
 intro wh pins s σ H Q I h
 refine isTrue_and (thn (ha pins s σ H Q I h) fun c s1 e=>?_)
 cases c with
 |true=>exact isTrue_and_nil e
 |false=>exact e
theorem vd' (ha:PT X a tA):PW X (.BoolOp .Or [a] pos) tA:=by
 intro wh pins s σ H Q I h
 refine isTrue_or (thn (ha pins s σ H Q I h) fun c s1 e=>?_)
 cases c with
 |false=>exact isTrue_or_nil e
 |true=>exact e
theorem qD' (ha:PT X a tA) (hb:PW X (.BoolOp .And (b :: aH') pos) tB'):PW X (.BoolOp .And (a :: b :: aH') pos) (vc' tA tB'):=by
 intro wh pins s σ H Q I h
 refine isTrue_and (thn (ha pins s σ H _ I h) fun c s1 ⟨H1,I1,q1⟩=>?_)
 cases c with
 |true=>exact hb wh pins s1 σ H1 Q I1 q1
 |false=>exact⟨H1,I1,q1⟩
theorem ve' (ha:PT X a tA) (hb:PW X (.BoolOp .Or (b :: aH') pos) tB'):PW X (.BoolOp .Or (a :: b :: aH') pos) (tOr tA tB'):=by
 intro wh pins s σ H Q I h
 refine isTrue_or (thn (ha pins s σ H _ I h) fun c s1 ⟨H1,I1,q1⟩=>?_)
 cases c with
 |true=>exact⟨H1,I1,q1⟩
 |false=>exact hb wh pins s1 σ H1 Q I1 q1
theorem vf' (ha:PT X a tA):PT X (.UnaryOp .Not a pos) (Aa' tA):=by
 intro pins s σ H Q I h
 exact isTrue_not (ha pins s σ H (fun c H1=>Q (!c) H1) I h)
def ok' (ta tb:TE):TE:=fun σ H Q=>ta σ H fun x H1=>∃c,x=.bl c/\if c=true then tb σ H1 Q else Q (.bl false) H1
def zM' (ta tb:TE):TE:=fun σ H Q=>ta σ H fun x H1=>∃c,x=.bl c/\if c=true then Q (.bl true) H1 else tb σ H1 Q
def r1' (ta:TE):TE:=fun σ H Q=>ta σ H fun x H1=>∃c,x=.bl c/\Q (.bl (!c)) H1
theorem qE' {op} {t:TE} (h:PE X a t):PE X (.BoolOp op [a] pos) t:=fun pins s σ H Q I hw=>BoolOp_one (h pins s σ H Q I hw)
theorem qF' (ha:PE X a ta) (hb:PE X (.BoolOp .And (b :: aH') pos) tb):PE X (.BoolOp .And (a :: b :: aH') pos) (ok' ta tb):=by
 intro pins s σ H Q I h
 refine BoolOp_and (thn (ha pins s σ H _ I h) fun v s1 ⟨x,H1,I1,r1,q1⟩=>?_)
 obtain⟨c,rfl,q1⟩:=q1
 cases r1
 refine bO ?_
 cases c with
 |true=>exact hb pins s1 σ H1 Q I1 q1
 |false=>exact⟨.bl false,H1,I1,rfl,q1⟩
theorem vg' (ha:PE X a ta) (hb:PE X (.BoolOp .Or (b :: aH') pos) tb):PE X (.BoolOp .Or (a :: b :: aH') pos) (zM' ta tb):=by
 intro pins s σ H Q I h
 refine BoolOp_or (thn (ha pins s σ H _ I h) fun v s1 ⟨x,H1,I1,r1,q1⟩=>?_)
 obtain⟨c,rfl,q1⟩:=q1
 cases r1
 refine bO ?_
 cases c with
 |false=>exact hb pins s1 σ H1 Q I1 q1
 |true=>exact⟨.bl true,H1,I1,rfl,q1⟩
theorem vh' (ha:PE X a ta):PE X (.UnaryOp .Not a pos) (r1' ta):=by
 intro pins s σ H Q I h
 refine UnaryOp_ (thn (ha pins s σ H _ I h) fun v s1 ⟨x,H1,I1,r1,q1⟩=>?_)
 obtain⟨c,rfl,q1⟩:=q1
 cases r1
 exact not_of (bO ⟨.bl (!c),H1,I1,rfl,q1⟩)
def tIf (t:TT) (ta tb:TE):TE:=fun σ H Q=>t σ H fun c H1=>if c=true then ta σ H1 Q else tb σ H1 Q
theorem ol' {c:Expr} (hc:PT X c tA) (ha:PE X a ta) (hb:PE X b tb):PE X (.IfExp c a b pos) (tIf tA ta tb):=by
 intro pins s σ H Q I h
 refine wpAny_IfExp (thn (hc pins s σ H _ I h) fun d s1 ⟨H1,I1,q1⟩=>?_)
 cases d with
 |true=>exact ha pins s1 σ H1 Q I1 q1
 |false=>exact hb pins s1 σ H1 Q I1 q1
end
def SqL (K:W.Frag) (H:Hp) (a:Addr) (xs:List V):Prop:=
 Rd H a (.lst xs)\/
  ∃(o:Obj) (its:Array Value) (n:Nat),K.lookup a=some o/\o.cls=.type "list"/\o.dict=none/\o.data=.seq its n/\its.size<=sizeLine/\aK' xs its.toList
def SqT (K:W.Frag) (H:Hp) (a:Addr) (xs:List V):Prop:=
 Rd H a (.tup xs)\/
  ∃(o:Obj) (its:Array Value) (n:Nat),K.lookup a=some o/\o.cls=.type "tuple"/\o.data=.seq its n/\its.size<=sizeLine/\aK' xs its.toList
def Dl':Value->Option V
 | .none=>some .non
 | .bool b=>some (.bl b)
 | .int i _=>some (.int i)
 | .str x _=>some (.str x)
 | .bytes b _=>some (.byt b)
 | .float b _=>some (.flt b)
 | .ref a=>some (.ref a)
 | .type n=>some (.ty n)
 |_=>none
theorem aD'.abs {x:V} {u:Value} (r:aD' x u):Dl' u=some x:=by
 cases x with
 |non=>cases r;rfl
 |bl _=>cases r;rfl
 |int _=>obtain⟨t,rfl⟩:=r;rfl
 |str _=>obtain⟨t,rfl⟩:=r;rfl
 |byt _=>obtain⟨t,rfl⟩:=r;rfl
 |flt _=>obtain⟨t,rfl⟩:=r;rfl
 |ref _=>cases r;rfl
 |ty _=>cases r;rfl
theorem aD'.inj {x y:V} {u:Value} (r:aD' x u) (q:aD' y u):x=y:=Option.some.inj (r.abs.symm.trans q.abs)
theorem aK'.inj:∀{xs ys:List V} {us:List Value},aK' xs us->aK' ys us->xs=ys
 |_,_,_,.nil,.nil=>rfl
 |_,_,_,.cons r t,.cons r' t'=>by rw[r.inj r',aK'.inj t t']
section
variable {X:Cx} {pins:List (Addr×Obj)} {σ:St} {H:Hp} {s:Shared} {a:Addr} {xs ys:List V}
theorem SqL.of {K:W.Frag} (h:H a=some (.lst xs)):SqL K H a xs:=.inl (.inl h)
theorem SqT.of {K:W.Frag} (h:H a=some (.tup xs)):SqT K H a xs:=.inl (.inl h)
theorem Inv.list (I:Inv X pins σ H s) (h:SqL X.K H a xs):∃its:List Value,aK' xs its/\PlainL s.heap a its.toArray/\xs.length<=sizeLine:=by
 rcases h with h|⟨o,its,n,hk,hc,hd,hs,hz,r⟩
 .obtain⟨z,its,n,r,e⟩:=h.ok I.hok
  exact⟨its,r,⟨_,n,e,rfl,rfl,rfl⟩,z⟩
 .refine⟨its.toList,r,⟨o,n,I.kIn a o hk,hc,hd,by simpa using hs⟩,?_⟩
  have e:=r.length
  simp only[aM]at e
  omega
theorem Inv.tuple (I:Inv X pins σ H s) (h:SqT X.K H a xs):∃its:List Value,aK' xs its/\IsTup s.heap a its.toArray/\xs.length<=sizeLine:=by
 rcases h with h|⟨o,its,n,hk,hc,hs,hz,r⟩
 .obtain⟨z,its,r,p⟩:=h.ok I.hok
  exact⟨its,r,p.tup,z⟩
 .refine⟨its.toList,r,⟨o,I.kIn a o hk,hc,n,by simpa using hs⟩,?_⟩
  have e:=r.length
  simp only[aM]at e
  omega
theorem Inv.list_inj (I:Inv X pins σ H s) (h:SqL X.K H a xs) (h':SqL X.K H a ys):xs=ys:=by
 obtain⟨its,r,⟨o,n,e,_,_,d⟩,_⟩:=I.list h
 obtain⟨its',r',⟨o',n',e',_,_,d'⟩,_⟩:=I.list h'
 rw[e]at e';cases e'
 rw[d]at d'
 injection d' with d1 _
 have:its=its':=by simpa using congrArg Array.toList d1
 subst this
 exact r.inj r'
theorem Inv.tuple_inj (I:Inv X pins σ H s) (h:SqT X.K H a xs) (h':SqT X.K H a ys):xs=ys:=by
 obtain⟨its,r,⟨o,e,_,n,d⟩,_⟩:=I.tuple h
 obtain⟨its',r',⟨o',e',_,n',d'⟩,_⟩:=I.tuple h'
 rw[e]at e';cases e'
 rw[d]at d'
 injection d' with d1 _
 have:its=its':=by simpa using congrArg Array.toList d1
 subst this
 exact r.inj r'
end
abbrev Cx.wish (X:Cx) (E:Value->Shared->Prop):Cx:={ X with xe:=E }
abbrev Cx.nox (X:Cx):Cx:=X.wish fun _ _=>False
theorem Cx.Ok.wish {X:Cx} (ok:X.Ok) (E:Value->Shared->Prop):(X.wish E).Ok:=
 ⟨ok.mod,ok.kind,ok.glob,ok.blt,ok.above,ok.inj,ok.has,ok.cab,ok.hd,ok.frames,ok.stk,ok.exf,ok.bs,ok.bsz,ok.noex,ok.exfs,ok.funs,ok.frf⟩
theorem Cx.Ok.unwish {X:Cx} {E:Value->Shared->Prop} (ok:(X.wish E).Ok):X.Ok:=
 ⟨ok.mod,ok.kind,ok.glob,ok.blt,ok.above,ok.inj,ok.has,ok.cab,ok.hd,ok.frames,ok.stk,ok.exf,ok.bs,ok.bsz,ok.noex,ok.exfs,ok.funs,ok.frf⟩
section
variable {X:Cx} {pins:List (Addr×Obj)} {σ:St} {H:Hp} {s:Shared} {E:Value->Shared->Prop}
theorem Inv.wish (I:Inv X pins σ H s) (E:Value->Shared->Prop):Inv (X.wish E) pins σ H s:=⟨I.ok.wish E,I.os,I.bare,I.base,I.loc,I.cell,I.free,I.freeC,I.pin,I.hok,I.len⟩
theorem Inv.unwish (I:Inv (X.wish E) pins σ H s):Inv X pins σ H s:=⟨I.ok.unwish,I.os,I.bare,I.base,I.loc,I.cell,I.free,I.freeC,I.pin,I.hok,I.len⟩
theorem SP.unwish {D:Ends} {f:Flow} {s':Shared} (h:SP (X.wish E) pins D f s'):SP X pins D f s':=by
 cases f with
 |next=>obtain⟨σ',H',I,q⟩:=h;exact⟨σ',H',I.unwish,q⟩
 |brk=>obtain⟨σ',H',I,q⟩:=h;exact⟨σ',H',I.unwish,q⟩
 |cont=>obtain⟨σ',H',I,q⟩:=h;exact⟨σ',H',I.unwish,q⟩
 |ret u=>obtain⟨v,σ',H',I,r,q⟩:=h;exact⟨v,σ',H',I.unwish,r,q⟩
theorem PSs.nox {st:List Stmt} {t:TS} (h:PSs X.nox st t):PSs X st t:=fun pins s σ H D I hw=>
 wpAny_mono (h pins s σ H D (I.wish _) hw) (fun _ _ q=>q.unwish) fun _ _ z=>False.elim z
end
section
variable {X:Cx} {st:Stmt} {aH':List Stmt} {t u:TS} {e:Expr} {te:TE} {pos:Pos}
def r2':TS:=fun D σ H=>D.nx σ H
def Ab' (t u:TS):TS:=fun D σ H=>t { D with nx:=u D } σ H
theorem r3':PSs X [] r2':=fun _ _ σ H _ I h=>wpAny_execs_nil ⟨σ,H,I,h⟩
theorem om' (h1:PS X st t) (h2:PSs X aH' u):PSs X (st :: aH') (Ab' t u):=by
 intro pins s σ H D I h
 refine wpAny_execs_cons (thn (h1 pins s σ H { D with nx:=u D } I h) fun f s1 q=>?_)
 cases f with
 |next=>
  obtain⟨σ',H',I',q⟩:=q
  exact h2 pins s1 σ' H' D I' q
 |ret v=>exact q
 |brk=>exact q
 |cont=>exact q
theorem Inv.quiet {pins:List (Addr×Obj)} {σ:St} {H:Hp} {s:Shared} (I:Inv X pins σ H s):interactive X.env=false:=by simp[interactive,I.ok.kind]
def r4' (te:TE):TS:=fun D σ H=>te σ H fun _ H1=>D.nx σ H1
theorem r5' (he:PE X e te) (hs:swapsWith e none pos.line X.env=pure false:=by rfl):PS X (.Expr e pos) (r4' te):=by
 intro pins s σ H D I h
 exact wpAny_Expr_any (thn (he pins s σ H _ I h) fun v s1 ⟨x,H1,I1,r1,q1⟩=>⟨σ,H1,I1,q1⟩) I.quiet hs
def Ac' (te:TE):TS:=fun D σ H=>te σ H D.rt
theorem vi' (he:PE X e te):PS X (.Return (some e) pos) (Ac' te):=by
 intro pins s σ H D I h
 exact wpAny_Return_some (thn (he pins s σ H _ I h) fun v s1 ⟨x,H1,I1,r1,q1⟩=>⟨x,σ,H1,I1,r1,q1⟩)
def Ad' (c:TT) (t u:TS):TS:=fun D σ H=>c σ H fun b H1=>if b=true then t D σ H1 else u D σ H1
theorem Ae' {c:Expr} {a b:List Stmt} {tc:TT} (hc:PT X c tc) (ha:PSs X a t) (hb:PSs X b u):PS X (.If c a b pos) (Ad' tc t u):=by
 intro pins s σ H D I h
 refine wpAny_If (thn (hc pins s σ H _ I h) fun d s1 ⟨H1,I1,q1⟩=>?_)
 cases d with
 |true=>exact ha pins s1 σ H1 D I1 q1
 |false=>exact hb pins s1 σ H1 D I1 q1
end
abbrev TG:=V->St->Hp->(St->Hp->Prop)->Prop
abbrev TGs:=List V->St->Hp->(St->Hp->Prop)->Prop
def PG (X:Cx) (target:Expr) (t:TG):Prop:=
 ∀(pins:List (Addr×Obj)) (s:Shared) (σ:St) (H:Hp) (v:V) (u:Value) (Q:St->Hp->Prop),Inv X pins σ H s->aD' v u->t v σ H Q->
  wpAny (model X.prog X.w) X.A (assign target X.env u) (fun _ s'=>∃σ' H',Inv X pins σ' H' s'/\Q σ' H') X.xe s
def PGs (X:Cx) (ts:List Expr) (t:TGs):Prop:=
 ∀(pins:List (Addr×Obj)) (s:Shared) (σ:St) (H:Hp) (vs:List V) (us:List Value) (Q:St->Hp->Prop),Inv X pins σ H s->aK' vs us->t vs σ H Q->
  wpAny (model X.prog X.w) X.A (assignInOrder ((assignEach ts X.env).map (·.2)) us) (fun _ s'=>∃σ' H',Inv X pins σ' H' s'/\Q σ' H') X.xe s
abbrev vj':=V->V->V->Hp->(Hp->Prop)->Prop
def Af' (X:Cx) (t:vj'):Prop:=
 ∀(pins:List (Addr×Obj)) (s:Shared) (σ:St) (H:Hp) (o i v:V) (ov iv u:Value) (Q:Hp->Prop),Inv X pins σ H s->aD' o ov->aD' i iv->aD' v u->t o i v H Q->
  wpAny (model X.prog X.w) X.A (setItem ov iv u) (fun _ s'=>∃H',Inv X pins σ H' s'/\Q H') X.xe s
abbrev TIp:=V->V->Hp->VK->Prop
def PIp (X:Cx) (op:Operator) (t:TIp):Prop:=
 ∀(pins:List (Addr×Obj)) (s:Shared) (σ:St) (H:Hp) (x y:V) (v u:Value) (Q:VK),Inv X pins σ H s->aD' x v->aD' y u->t x y H Q->
  wpAny (model X.prog X.w) X.A (inplaceOp op v u) (EP X pins σ Q) X.xe s
section
variable {X:Cx} {pos:Pos}
def cR' (i:Nat):TG:=fun v σ H Q=>Q (σ.set i (some v)) H
theorem fm' {i:Nat} {x:Str} (hN:X.N.Nodup) (hi:X.N[i]?=some x) (hx:Loc X.env.scope x) (hf:X.fn x=true\/X.env.scope.names.lookup x=some .local:=by first|exact .inl rfl|exact .inr rfl|assumption):PG X (.Name x pos) (cR' i):=by
 intro pins s σ H v u Q I r h
 exact wpAny_assign_Name (e6' I hN hi hx r (fun s' I'=>⟨_,H,I',h⟩) hf)
def vk':TGs:=fun vs σ H Q=>vs=[]/\Q σ H
def iu' (t:TG) (u:TGs):TGs:=fun vs σ H Q=>∃v r,vs=v :: r/\t v σ H fun σ' H'=>u r σ' H' Q
theorem kX':PGs X [] vk':=by
 intro pins s σ H vs us Q I r h
 obtain⟨e,h⟩:=h
 subst e
 cases r
 exact assignInOrder_nil ⟨σ,H,I,h⟩
theorem gn' {e:Expr} {es:List Expr} {t:TG} {u:TGs} (h1:PG X e t) (h2:PGs X es u)
  (hs:(assignEach (e :: es) X.env).map (·.2)=assign e X.env :: (assignEach es X.env).map (·.2):=by rfl):PGs X (e :: es) (iu' t u):=by
 intro pins s σ H vs us Q I r h
 obtain⟨v,vr,e1,h⟩:=h
 subst e1
 cases r with
 |cons r rr=>
  rw[hs]
  refine assignInOrder_cons (thn (h1 pins s σ H _ _ _ I r h) fun _ s1 ⟨σ1,H1,I1,q1⟩=>?_)
  exact h2 pins s1 σ1 H1 _ _ Q I1 rr q1
def Dm' (K:W.Frag) (n:Nat) (t:TGs):TG:=fun v σ H Q=>∃a xs,v=.ref a/\SqT K H a xs/\xs.length=n/\t xs σ H Q
theorem vl' {es:List Expr} {k:Nat} {t:TGs} {n:Nat} (hc:X.calm=true) (h:PGs X es t)
  (hn:(assignEach es X.env).length=n:=by rfl) (hst:(assignEach es X.env).findIdx? (·.1)=none:=by rfl):PG X (.Tuple es k pos) (Dm' X.K n t):=by
 intro pins s σ H v u Q I r hw
 obtain⟨a,xs,e1,hq,hl,hw⟩:=hw
 subst e1
 cases r
 obtain⟨its,rv,ht,hz⟩:=I.tuple hq
 refine assign_Tuple_tuple (I.ok.hd hc) ht (by simp[hn,<- hl,rv.length]) hst fun h' hx=>?_
 have I1:Inv X pins σ H { s with heap:=h' }:=I.kept (t':=s.toks) fun b o e=>hx b o (aE (aw e)) e
 exact h pins _ σ H xs _ Q I1 (by simpa using rv) hw
def Ag' (to ti:TE) (t:vj'):TG:=fun v σ H Q=>to σ H fun o H1=>ti σ H1 fun i H2=>t o i v H2 fun H3=>Q σ H3
theorem vm' {o i:Expr} {to ti:TE} {t:vj'} (ho:PE X o to) (hi:PE X i ti) (hs:Af' X t)
  (ha:∀v,assign (.Subscript o i pos) X.env v=(do
   let ov <- holding [v] (eval o X.env)
   let iv <- holding [v,ov] (eval i X.env)
   standAt pos
   holding [v,ov,iv] (setItem ov iv v)
   release [v,ov,iv] []):=by intro _;rfl):PG X (.Subscript o i pos) (Ag' to ti t):=by
 intro pins s σ H v u Q I r h
 rw[ha]
 refine ab (br (thn (ho pins s σ H _ I h) fun ov s1 ⟨x,H1,I1,r1,q1⟩=>?_))
 refine ab (br (thn (hi pins s1 σ H1 _ I1 q1) fun iv s2 ⟨y,H2,I2,r2,q2⟩=>?_))
 refine ab (ck (ab (br (thn (hs pins s2 σ H2 x y v ov iv u _ I2 r1 r2 r q2) fun _ s3 ⟨H3,I3,q3⟩=>?_))))
 exact wpAny_release ⟨σ,H3,I3,q3⟩
def jf' (te:TE) (g:TG):TS:=fun D σ H=>te σ H fun x H1=>g x σ H1 D.nx
theorem gX' {tg e:Expr} {te:TE} {g:TG} (he:PE X e te) (hg:PG X tg g) (hs:swapsWithSole [tg] e pos.line X.env=pure false:=by rfl) (hw:swappedStores [tg] e X.env=pure none:=by rfl)
  (h1:(assignEach [tg] X.env).map (·.2)=[assign tg X.env]:=by rfl):PS X (.Assign [tg] e pos) (jf' te g):=by
 intro pins s σ H D I h
 refine wpAny_Assign_stores (thn (he pins s σ H _ I h) fun v s1 ⟨x,H1,I1,r1,q1⟩=>?_) hs hw
 rw[h1]
 exact thn (hg pins s1 σ H1 x v _ I1 r1 q1) fun _ s2 q=>q
def Ah' (i j:Nat) (ta:TA):TS:=fun D σ H=>ta σ H fun vs H1=>∃v w,vs=[v,w]/\D.nx ((σ.set i (some v)).set j (some w)) H1
theorem vn' {i j:Nat} {x y:Str} {a b:Expr} {ta:TA} {px py pt:Pos} {kt k2 pt2} (hc:X.calm=true) (hN:X.N.Nodup) (hi:X.N[i]?=some x) (hj:X.N[j]?=some y) (hij:i≠j)
  (hx:X.env.scope.names.lookup x=some .local) (hy:X.env.scope.names.lookup y=some .local) (ha:PA X [a,b] ta)
  (hw:swappedStores [.Tuple [.Name x px,.Name y py] kt pt] (.Tuple [a,b] k2 pt2) X.env=pure (some [x,y]))
  (hs:swapsWithSole [.Tuple [.Name x px,.Name y py] kt pt] (.Tuple [a,b] k2 pt2) pos.line X.env=pure false:=by rfl):
  PS X (.Assign [.Tuple [.Name x px,.Name y py] kt pt] (.Tuple [a,b] k2 pt2) pos) (Ah' i j ta):=by
 intro pins s σ H D I h
 rw[exec_Assign_arm]
 refine ab (ck ?_)
 rw[hs]
 refine ab (av ?_)
 rw[if_neg (by decide)]
 refine ab (Tuple_ (thn (ha _ pins s σ H _ I h) fun us s1 ⟨vs,H1,I1,r1,q1⟩=>?_))
 obtain⟨v,w,e1,q1⟩:=q1
 subst e1
 obtain⟨u1,u2,rfl,rv,rw'⟩:∃u1 u2,us=[u1,u2]/\aD' v u1/\aD' w u2:=by
  cases r1 with
  |cons p q=>
   cases q with
   |cons p' q'=>
    cases q'
    exact⟨_,_,rfl,p,p'⟩
 refine bP ?_ (by show 2<=sizeLine;decide)
 have I2:Inv X pins σ H1 { s1 with heap:=s1.heap.push { cls:=.type "tuple",data:=.seq [u1,u2].toArray } }:=I1.kept (t':=s1.toks) fun b o e=>ag _ e
 rw[hw]
 refine ab (av ?_)
 show wpAny (model X.prog X.w) X.A (do rule "assign.swapped-stores";let items <- unpackItems (.ref s1.heap.objs.size) 2 none;assignInOrder [fun v=>bindName X.env y v,fun v=>bindName X.env x v] items.reverse;pure Flow.next) _ _ _
 refine ab (wpAny_rule (ab (unpackItems_tuple (items:=#[u1,u2]) (I.ok.hd hc) (IsTup.new s1.heap _) fun h' hx'=>?_)))
 have I3:=I2.kept (h':=h') (t':=s1.toks) fun b o e=>hx' b o (aE (aw e)) e
 show wpAny _ _ (assignInOrder [fun v=>bindName X.env y v,fun v=>bindName X.env x v] [u2,u1] >>= fun _=>pure Flow.next) _ _ _
 refine ab (assignInOrder_cons (wpAny_bindName (e6' I3 hN hj (.inl hy) rw' (fun s2 I4=>?_) (.inr hy))))
 refine assignInOrder_cons (wpAny_bindName (e6' I4 hN hi (.inl hx) rv (fun s3 I5=>assignInOrder_nil (av ?_)) (.inr hx)))
 rw[List.set_comm _ _ (Ne.symm hij)]at I5
 exact⟨_,H1,I5,q1⟩
def Ai' (i:Nat) (te:TE) (ti:TIp):TS:=fun D σ H=>∃x,σ[i]?=some (some x)/\te σ H fun y H1=>ti x y H1 fun z H2=>D.nx (σ.set i (some z)) H2
theorem qG' {i:Nat} {x:Str} {e:Expr} {te:TE} {op:Operator} {ti:TIp} {pos':Pos} (hN:X.N.Nodup) (hi:X.N[i]?=some x) (hx:Loc X.env.scope x) (he:PE X e te) (ho:PIp X op ti) (hf:X.fn x=true\/X.env.scope.names.lookup x=some .local:=by first|exact .inl rfl|exact .inr rfl|assumption):
  PS X (.AugAssign (.Name x pos') op e pos) (Ai' i te ti):=by
 intro pins s σ H D I h
 obtain⟨v,e1,h⟩:=h
 obtain⟨m,hn,hl⟩:=I.loc
 have vis:Vis X.env.scope x:=by rcases hx with k|k;exact .inl k;exact .inr (.inl k)
 obtain⟨u,r,l⟩:=hl i x v hi e1 vis
 refine wpAny_AugAssign_Name ?_
 have go:wpAny (model X.prog X.w) X.A (eval e X.env) (fun w s₂=>wpAny (model X.prog X.w) X.A (inplaceOp op u w) (fun r s₃=>wpAny (model X.prog X.w) X.A (storeName X.env x r) (fun _=>SP X pins D .next) X.xe s₃) X.xe s₂) X.xe s:=by
  refine thn (he pins s σ H _ I h) fun w s1 ⟨y,H1,I1,r1,q1⟩=>?_
  refine thn (ho pins s1 σ H1 v y u w _ I1 r r1 q1) fun z s2 ⟨zv,H2,I2,r2,q2⟩=>?_
  exact e6' I2 hN hi hx r2 (fun s3 I3=>⟨_,H2,I3,q2⟩) hf
 rcases l with⟨hk,hm⟩|⟨hk,c,hc,hcell⟩
 .exact wpAny_loadName_local I.ok.kind hk hn hm go
 .rcases hk with hk|hk
  .exact wpAny_loadName_cell I.ok.kind hk hc hcell go
  .rcases hx with k|k
   .have:X.env.scope.names.lookup x=some .free:=hk
    rw[k]at this;cases this
   .have:X.env.scope.names.lookup x=some .free:=hk
    rw[k]at this;cases this
def r6' (to ti te:TE) (tget:V->V->Hp->VK->Prop) (tip:TIp) (tset:vj'):TS:=fun D σ H=>to σ H fun o H1=>ti σ H1 fun i H2=>tget o i H2 fun x H3=>te σ H3 fun y H4=>tip x y H4 fun z H5=>tset o i z H5 fun H6=>D.nx σ H6
def Cz' (X:Cx) (t:V->V->Hp->VK->Prop):Prop:=
 ∀(pins:List (Addr×Obj)) (s:Shared) (σ:St) (H:Hp) (o i:V) (ov iv:Value) (Q:VK),Inv X pins σ H s->aD' o ov->aD' i iv->t o i H Q->
  wpAny (model X.prog X.w) X.A (getItem ov iv) (EP X pins σ Q) X.xe s
theorem kY' {o i e:Expr} {to ti te:TE} {tget:V->V->Hp->VK->Prop} {tip:TIp} {tset:vj'} {op:Operator} {tpos:Pos} (ho:PE X o to) (hi:PE X i ti) (hg:Cz' X tget) (he:PE X e te) (hp:PIp X op tip) (hs:Af' X tset)
  (ha:∀ov iv new,augStore i ov iv new=(do holding [new,ov,iv] (setItem ov iv new);release [new,ov,iv] [];pure .next):=by intros;rfl):PS X (.AugAssign (.Subscript o i tpos) op e pos) (r6' to ti te tget tip tset):=by
 intro pins s σ H D I h
 refine wpAny_AugAssign_SubscriptAny (thn (ho pins s σ H _ I h) fun ov s1 ⟨x1,H1,I1,r1,q1⟩=>?_) ha
 refine thn (hi pins s1 σ H1 _ I1 q1) fun iv s2 ⟨x2,H2,I2,r2,q2⟩=>?_
 refine thn (hg pins s2 σ H2 x1 x2 ov iv _ I2 r1 r2 q2) fun old s3 ⟨x3,H3,I3,r3,q3⟩=>?_
 refine thn (he pins s3 σ H3 _ I3 q3) fun v s4 ⟨x4,H4,I4,r4,q4⟩=>?_
 refine thn (hp pins s4 σ H4 x3 x4 old v _ I4 r3 r4 q4) fun new s5 ⟨x5,H5,I5,r5,q5⟩=>?_
 exact thn (hs pins s5 σ H5 x1 x2 x5 ov iv new _ I5 r1 r2 r5 q5) fun _ s6 ⟨H6,I6,q6⟩=>⟨σ,H6,I6,q6⟩
def ipI (f:Int->Int->Int):TIp:=fun x y H Q=>∃i j,x=.int i/\y=.int j/\Q (.int (f i j)) H
theorem qH':PIp X .Add (ipI fun i j=>i+j):=by
 intro pins s σ H x y v u Q I r1 r2 h
 obtain⟨i,j,e1,e2,q⟩:=h
 subst e1;subst e2
 obtain⟨t,rfl⟩:=r1
 obtain⟨t',rfl⟩:=r2
 exact iadd_int ⟨.int _,H,I.tok _,⟨_,rfl⟩,q⟩
theorem qI':PIp X .Sub (ipI fun i j=>i-j):=by
 intro pins s σ H x y v u Q I r1 r2 h
 obtain⟨i,j,e1,e2,q⟩:=h
 subst e1;subst e2
 obtain⟨t,rfl⟩:=r1
 obtain⟨t',rfl⟩:=r2
 exact isub_int ⟨.int _,H,I.tok _,⟨_,rfl⟩,q⟩
end
section
variable {X:Cx} {pos:Pos}
def kZ' (c:TT) (tb:TS):TS:=fun D σ H=>∃W:Nat->St->Hp->Prop,(∃m,W m σ H)/\∀m σ H,W m σ H->
 c σ H fun b H1=>if b=true then ∃N:St->Hp->Prop,(∀σ' H',N σ' H'->∃m',m'<m/\W m' σ' H')/\tb { D with nx:=N,ct:=N,bk:=D.nx } σ H1 else D.nx σ H1
theorem on' {c:Expr} {body:List Stmt} {tc:TT} {tb:TS} (hp:PassesOwn (model X.prog X.w) X.A X.env X.xe) (hc:PT X c tc) (hb:PSs X body tb):PS X (.While c body [] pos) (kZ' tc tb):=by
 intro pins s σ H D I h
 obtain⟨W,⟨m0,w0⟩,turn⟩:=h
 refine wpAny_While (codeAny_whileLoop (fun n s'=>∃σ' H',Inv X pins σ' H' s'/\W n σ' H') ?_ m0 ⟨σ,H,I,w0⟩)
 rintro n s1 ⟨σ1,H1,I1,w1⟩
 refine cO hp (thn (hc pins s1 σ1 H1 _ I1 (turn n σ1 H1 w1)) fun b s2 ⟨H2,I2,q2⟩=>?_)
 cases b with
 |true=>
  obtain⟨N,hN,q2⟩:=q2
  rw[if_pos rfl]
  refine cO hp (thn (hb pins s2 σ1 H2 _ I2 q2) fun f s3 q3=>?_)
  cases f with
  |next=>
   obtain⟨σ3,H3,I3,n3⟩:=q3
   obtain⟨m',hm,w3⟩:=hN σ3 H3 n3
   exact⟨m',hm,σ3,H3,I3,w3⟩
  |cont=>
   obtain⟨σ3,H3,I3,n3⟩:=q3
   obtain⟨m',hm,w3⟩:=hN σ3 H3 n3
   exact⟨m',hm,σ3,H3,I3,w3⟩
  |brk=>exact q3
  |ret v=>exact q3
 |false=>
  rw[if_neg ay]
  exact wpAny_execs_nil ⟨σ1,H2,I2,q2⟩
end
structure It where
 go:Nat->Hp->Prop
 yld:Nat->Hp->V->Hp->Prop
 stop:Nat->Hp->Prop
def ef' (X:Cx) (pins:List (Addr×Obj)) (H:Hp) (b:Addr):Prop:=
 H b=none/\b≠X.env.locals/\b∉X.fs/\(b∈X.ex\/X.s₀.heap.objs.size<=b)/\(∀x c,X.env.cells.lookup x=some c->c≠b)/\∀p∈X.pn++pins,p.1≠b
theorem Inv.fpOk {X:Cx} {pins:List (Addr×Obj)} {σ:St} {H H':Hp} {s:Shared} {b:Addr} (I:Inv X pins σ H s) (hb:s.heap.objs.size<=b) (hn:H' b=none):ef' X pins H' b:=by
 refine⟨hn,bF (aj I.lt hb),I.nofs hb,.inr (aq I.sz hb),fun x c e z=>?_,fun p hp z=>?_⟩
 .obtain⟨v,q⟩:=I.cell x c e
  exact absurd (aj q.lt (by rw[z];exact hb)) (bm _)
 .exact absurd (aj (aw (I.pin p hp).1) (by rw[z];exact hb)) (bm _)
structure Turn (P:Program) (w:World) (K:W.Frag) (tg:Expr) (J:It) (fp:List Addr) (it:Addr) (tn:Nat->Heap->Prop):Prop where
 mem:it∈fp
 obj:∀i h,tn i h->∀b∈fp,∃o,h.get? b=some o/\∀v,o.data≠.cell v
 keep:∀i h h',tn i h->(∀b∈fp,∀o,h.get? b=some o->h'.get? b=some o)->tn i h'
 item:∀(X:Cx),X.prog=P->X.w=w->X.K=K->X.calm=true->∀(i:Nat) (pins:List (Addr×Obj)) (s:Shared) (σ:St) (H:Hp) (E:Value->Shared->Prop),Inv X pins σ H s->(∀b∈fp,ef' X pins H b)->tn i s.heap->J.go i H->
  wpAny (model P w) X.A (pyNext (.ref it)) (fun r s1=>∃u,r=some u/\
   wpAny (model P w) X.A (letOwnedTupleGo tg (.ref it) u) (fun _ s2=>∃x H',Inv X pins σ H' s2/\aD' x u/\J.yld i H x H'/\tn (i+1) s2.heap/\∀b∈fp,H' b=none) E s1) E s
 done:∀(X:Cx),X.prog=P->X.w=w->X.K=K->X.calm=true->∀(i:Nat) (pins:List (Addr×Obj)) (s:Shared) (σ:St) (H:Hp) (E:Value->Shared->Prop),Inv X pins σ H s->(∀b∈fp,ef' X pins H b)->tn i s.heap->J.stop i H->
  wpAny (model P w) X.A (pyNext (.ref it)) (fun r s1=>r=none/\Inv X pins σ H s1) E s
 self:∀(A:Around) (i:Nat) (s:Shared) (Q:Value->Shared->Prop) (E:Value->Shared->Prop),tn i s.heap->Q (.ref it) s->wpAny (model P w) A (pyIter (.ref it)) Q E s
abbrev TI:=St->Hp->(It->Hp->Prop)->Prop
def PIE (X:Cx) (pins:List (Addr×Obj)) (σ:St) (tg:Expr) (R:It->Hp->Prop) (itv:Value) (s2:Shared):Prop:=
 ∃(it:Addr) (fp:List Addr) (tn:Nat->Heap->Prop) (J:It) (H':Hp),itv=.ref it/\Inv X pins σ H' s2/\Turn X.prog X.w X.K tg J fp it tn/\tn 0 s2.heap/\(∀b∈fp,ef' X pins H' b)/\R J H'
def PI (X:Cx) (tg iter:Expr) (wi:TI):Prop:=
 ∀(pins:List (Addr×Obj)) (s:Shared) (σ:St) (H:Hp) (R:It->Hp->Prop),Inv X pins σ H s->wi σ H R->
  wpAny (model X.prog X.w) X.A (eval iter X.env) (fun v s1=>wpAny (model X.prog X.w) X.A (pyIter v) (PIE X pins σ tg R) X.xe s1) X.xe s
theorem oo' {M:Model} {A:Around} {E:Value->Shared->Prop} {s:Shared} {tg:Expr} {it:Addr} {u:Value} {o:Obj} {n:String} {vs:Array Value} {Q:Unit->Shared->Prop} (ho:s.heap.get? it=some o) (hc:o.cls=.type n) (hd:o.data=.fields vs)
  (hn:["enumerate","zip","dict_itemiterator","dict_reverseitemiterator","odict_iterator","itertools.zip_longest","itertools.pairwise"].contains n=false) (hQ:Q () s):wpAny M A (letOwnedTupleGo tg (.ref it) u) Q E s:=by
 unfold letOwnedTupleGo
 cases tg<;>first
  |exact av hQ
  |(cases u<;>first
    |exact av hQ
    |(refine ab (wpAny_load ho ?_)
      rw[hc,hd]
      show wpAny M A (if(["enumerate","zip","dict_itemiterator","dict_reverseitemiterator","odict_iterator","itertools.zip_longest","itertools.pairwise"].contains n&&vs[0]? == some (rawInt _))=true then _ else _) Q E s
      rw[if_neg (by intro h;rw[hn,cm]at h;cases h)]
      exact av hQ))
def Itl (K:W.Frag) (a:Addr):It:=
 ⟨fun i H=>∃xs x,SqL K H a xs/\xs[i]?=some x,fun i H x H'=>H'=H/\∀xs,SqL K H a xs->xs[i]?=some x,fun i H=>∃xs,SqL K H a xs/\xs.length<=i⟩
def Itt (K:W.Frag) (a:Addr):It:=
 ⟨fun i H=>∃xs x,SqT K H a xs/\xs[i]?=some x,fun i H x H'=>H'=H/\∀xs,SqT K H a xs->xs[i]?=some x,fun i H=>∃xs,SqT K H a xs/\xs.length<=i⟩
def Itr (lo:Int) (n:Nat):It:=⟨fun i _=>i<n,fun i H x H'=>H'=H/\x=.int (lo+i),fun i _=>n<=i⟩
theorem k0' {P:Program} {w:World} {K:W.Frag} {tg:Expr} (a it:Addr):Turn P w K tg (Itl K a) [it] it (fun i h=>h.IsListIter it a i) where
 mem:=by simp
 obj:=fun i h st b hb=>by
  have e:b=it:=by simpa using hb
  subst e
  obtain⟨o,e,c,d⟩:=st
  exact⟨o,e,fun v z=>by rw[d]at z;cases z⟩
 keep:=fun i h h' st k=>st.at fun o e=>k it (by simp) o e
 item:=by
  intro X hP hw hK hc i pins s σ H E I hf st hg
  subst hP hw hK
  obtain⟨xs,x,hq,hx⟩:=hg
  obtain⟨its,rv,p,hz⟩:=I.list hq
  obtain⟨u,hu,ru⟩:=rv.get hx
  obtain⟨f0,f1,f2,f3,f4,f5⟩:=hf it (by simp)
  refine wpAny_pyNext_list_item st p.isList (x:=u) (by simpa using hu) fun h' st' sb=>?_
  have I1:Inv X pins σ H { s with heap:=h' }:=I.turned (t':=s.toks) (fun b o hb e=>(sb.2 b hb).trans e) f0 f1 f3 f4 f5
  obtain⟨o,e,c,d⟩:=id st'
  exact⟨u,rfl,oo' (s:={ s with heap:=h' }) e c d (by decide) ⟨x,H,I1,ru,⟨rfl,fun ys hy=>by rw[I.list_inj hy hq];exact hx⟩,st',fun b hb=>(hf b hb).1⟩⟩
 done:=by
  intro X hP hw hK hc i pins s σ H E I hf st hg
  subst hP hw hK
  obtain⟨xs,hq,hx⟩:=hg
  obtain⟨its,rv,p,hz⟩:=I.list hq
  obtain⟨f0,f1,f2,f3,f4,f5⟩:=hf it (by simp)
  have hl:=rv.length
  exact wpAny_pyNext_list_end (I.ok.hd hc) st p.isList (by simp;omega) fun h' eb=>⟨rfl,I.turned (t':=s.toks) (fun b o hb e=>eb b o hb e) f0 f1 f3 f4 f5⟩
 self:=fun _ _ _ _ _ st h=>wpAny_pyIter_listiter st h
theorem j4' {P:Program} {w:World} {K:W.Frag} {tg:Expr} (a it:Addr):Turn P w K tg (Itt K a) [it] it (fun i h=>h.IsTupleIter it a i) where
 mem:=by simp
 obj:=fun i h st b hb=>by
  have e:b=it:=by simpa using hb
  subst e
  obtain⟨o,e,c,d⟩:=st
  exact⟨o,e,fun v z=>by rw[d]at z;cases z⟩
 keep:=fun i h h' st k=>st.at fun o e=>k it (by simp) o e
 item:=by
  intro X hP hw hK hc i pins s σ H E I hf st hg
  subst hP hw hK
  obtain⟨xs,x,hq,hx⟩:=hg
  obtain⟨its,rv,p,hz⟩:=I.tuple hq
  obtain⟨u,hu,ru⟩:=rv.get hx
  obtain⟨f0,f1,f2,f3,f4,f5⟩:=hf it (by simp)
  refine wpAny_pyNext_tuple_item st (show s.heap.IsTuple a its.toArray from p) (x:=u) (by simpa using hu) fun h' st' sb=>?_
  have I1:Inv X pins σ H { s with heap:=h' }:=I.turned (t':=s.toks) (fun b o hb e=>(sb.2 b hb).trans e) f0 f1 f3 f4 f5
  obtain⟨o,e,c,d⟩:=id st'
  exact⟨u,rfl,oo' (s:={ s with heap:=h' }) e c d (by decide) ⟨x,H,I1,ru,⟨rfl,fun ys hy=>by rw[I.tuple_inj hy hq];exact hx⟩,st',fun b hb=>(hf b hb).1⟩⟩
 done:=by
  intro X hP hw hK hc i pins s σ H E I hf st hg
  subst hP hw hK
  obtain⟨xs,hq,hx⟩:=hg
  obtain⟨its,rv,p,hz⟩:=I.tuple hq
  obtain⟨f0,f1,f2,f3,f4,f5⟩:=hf it (by simp)
  have hl:=rv.length
  exact wpAny_pyNext_tuple_end (I.ok.hd hc) st (show s.heap.IsTuple a its.toArray from p) (by simp;omega) fun h' eb=>⟨rfl,I.turned (t':=s.toks) (fun b o hb e=>eb b o hb e) f0 f1 f3 f4 f5⟩
 self:=fun _ _ _ _ _ st h=>wpAny_pyIter_tupleiter st h
theorem j5' {P:Program} {w:World} {K:W.Frag} {tg:Expr} (it:Addr) (lo:Int) (n:Nat):Turn P w K tg (Itr lo n) [it] it (fun i h=>IsRangeIter h it (lo+(i:Nat)*1) ((n:Int)-(i:Nat)) 1) where
 mem:=by simp
 obj:=fun i h st b hb=>by
  have e:b=it:=by simpa using hb
  subst e
  exact⟨_,st,fun v z=>by
   have z':Data.fields _=Data.cell v:=z
   cases z'⟩
 keep:=fun i h h' st k=>k it (by simp) _ st
 item:=by
  intro X hP hw hK hc i pins s σ H E I hf st hg
  subst hP hw hK
  obtain⟨f0,f1,f2,f3,f4,f5⟩:=hf it (by simp)
  have W:=Walks.range (prog:=X.prog) (w:=X.w) (I.ok.hd hc) it lo 1 n
  refine W.item i s _ _ hg st fun v h' tk hv st' kk=>?_
  obtain⟨t,rfl⟩:=hv
  have I1:Inv X pins σ H { s with heap:=h',toks:=tk }:=I.turned (fun b o hb e=>kk b o (by simpa using hb) e) f0 f1 f3 f4 f5
  refine⟨_,rfl,oo' (s:={ s with heap:=h',toks:=tk }) (n:="range_iterator") st' rfl rfl (by decide) ⟨.int (lo+i),H,I1,⟨t,?_⟩,⟨rfl,rfl⟩,st',fun b hb=>(hf b hb).1⟩⟩
  rw[Int.mul_one]
 done:=by
  intro X hP hw hK hc i pins s σ H E I hf st hg
  subst hP hw hK
  obtain⟨f0,f1,f2,f3,f4,f5⟩:=hf it (by simp)
  exact wpAny_pyNext_range_end (I.ok.hd hc) st (by have:n<=i:=hg;omega) fun h' eb=>⟨rfl,I.turned (t':=s.toks) (fun b o hb e=>eb b o hb e) f0 f1 f3 f4 f5⟩
 self:=fun _ _ _ _ _ st h=>wpAny_pyIter_rangeiter st h
section
variable {X:Cx} {tg:Expr}
theorem jg' {pins:List (Addr×Obj)} {σ:St} {H:Hp} {s:Shared} {R:It->Hp->Prop} {E:Value->Shared->Prop} {lo hi:Int} {t u v:Tok} {tk:Nat} (I:Inv X pins σ H s) (h1:-(2 ^ 62)<=lo) (h2:lo<2 ^ 62) (h3:-(2 ^ 62)<=hi) (h4:hi<2 ^ 62)
  (q:R (Itr lo (hi-lo).toNat) H):wpAny (model X.prog X.w) X.A (pyIter (.ref s.heap.objs.size)) (PIE X pins σ tg R) E { s with heap:=s.heap.push { cls:=.type "range",data:=.fields #[.int lo t,.int hi u,.int 1 v] },toks:=tk }:=by
 refine wpAny_pyIter_range (IsRange.new ..) (small_one h1 h2 h3 h4) ?_
 have I1:Inv X pins σ H { s with heap:=s.heap.push { cls:=.type "range",data:=.fields #[.int lo t,.int hi u,.int 1 v] },toks:=tk }:=I.kept fun b o e=>ag _ e
 refine⟨(s.heap.push { cls:=.type "range",data:=.fields #[.int lo t,.int hi u,.int 1 v] }).objs.size,[(s.heap.push { cls:=.type "range",data:=.fields #[.int lo t,.int hi u,.int 1 v] }).objs.size],_,_,H,rfl,
  I1.kept (t':=tk) fun b o e=>ag _ e,j5' _ lo (hi-lo).toNat,?_,fun b hb=>?_,q⟩
 .have e1:lo+((0:Nat):Int)*1=lo:=by simp
  have e2:(((hi-lo).toNat:Nat):Int)-((0:Nat):Int)=Builtin.Range.rangeSize lo hi 1:=by rw[rangeSize_one];split<;>omega
  show IsRangeIter _ _ (lo+((0:Nat):Int)*1) ((((hi-lo).toNat:Nat):Int)-((0:Nat):Int)) 1
  rw[e1,e2]
  exact aC _ rfl
 .have e:b=(s.heap.push { cls:=.type "range",data:=.fields #[.int lo t,.int hi u,.int 1 v] }).objs.size:=by simpa using hb
  subst e
  exact I1.fpOk (ak _) (I1.hok.fresh (ak _))
def r7' (ta:TA):TI:=fun σ H R=>ta σ H fun vs H1=>∃j:Int,vs=[.int j]/\-(2 ^ 62)<=j/\j<2 ^ 62/\R (Itr 0 j.toNat) H1
def r8' (ta:TA):TI:=fun σ H R=>ta σ H fun vs H1=>∃i j:Int,vs=[.int i,.int j]/\(-(2 ^ 62)<=i/\i<2 ^ 62/\-(2 ^ 62)<=j/\j<2 ^ 62)/\R (Itr i (j-i).toNat) H1
theorem k1' {a:Expr} {ta:TA} {p pos:Pos} (hg:Gl X "range") (hm:X.mg "range"=none) (ha:PA X [a] ta) (hs:starEach [a] X.env=[(false,eval a X.env)]:=by rfl):PI X tg (.Call (.Name "range" p) [a] [] pos) (r7' ta):=by
 intro pins s σ H R I h
 refine Call_ (eg' I hg hm boot_range (PyProof.Rows.callWith_type1 (thn (ha pos pins s σ H _ I h) fun us s1 ⟨vs,H1,I1,r1,q1⟩=>?_) hs rfl))
 obtain⟨j,e,q1,q2,q⟩:=q1
 subst e
 cases r1 with
 |cons r rr=>
  cases rr
  obtain⟨t,rfl⟩:=r
  exact call_range_1 (jg' I1 (by omega) (by omega) q1 q2 (by simpa using q))
theorem k2' {a b:Expr} {ta:TA} {p pos:Pos} (hg:Gl X "range") (hm:X.mg "range"=none) (ha:PA X [a,b] ta) (hs:starEach [a,b] X.env=[(false,eval a X.env),(false,eval b X.env)]:=by rfl) (hs2:starEach [b] X.env=[(false,eval b X.env)]:=by rfl):
  PI X tg (.Call (.Name "range" p) [a,b] [] pos) (r8' ta):=by
 intro pins s σ H R I h
 refine Call_ (eg' I hg hm boot_range (PyProof.Rows.callWith_type1 (thn (ha pos pins s σ H _ I h) fun us s1 ⟨vs,H1,I1,r1,q1⟩=>?_) (by rw[hs,hs2]) (by rw[hs2];rfl)))
 obtain⟨i,j,e,⟨q1,q2,q3,q4⟩,q⟩:=q1
 subst e
 cases r1 with
 |cons r rr=>
  cases rr with
  |cons r' rr=>
   cases rr
   obtain⟨t,rfl⟩:=r
   obtain⟨t',rfl⟩:=r'
   exact call_range_2 (jg' I1 q1 q2 q3 q4 q)
def Aj' (wi:TI) (g:TG) (tb:TS):TS:=fun D σ H=>wi σ H fun J H1=>∃W:Nat->Nat->St->Hp->Prop,(∃m,W 0 m σ H1)/\∀i m σ H,W i m σ H->
 (J.stop i H/\D.nx σ H)\/(J.go i H/\∃N:St->Hp->Prop,(∀σ' H',N σ' H'->∃m',m'<m/\W (i+1) m' σ' H')/\∀x H',J.yld i H x H'->g x σ H' fun σ2 H2=>tb { D with nx:=N,ct:=N,bk:=D.nx } σ2 H2)
def cv' (fp:List Addr) (h:Heap):List (Addr×Obj):=fp.filterMap fun b=>(h.get? b).map fun o=>(b,o)
theorem aN' {fp:List Addr} {h:Heap} {b:Addr} {o:Obj} (hb:b∈fp) (e:h.get? b=some o):(b,o)∈cv' fp h:=List.mem_filterMap.mpr ⟨b,hb,by rw[e];rfl⟩
theorem fn' {fp:List Addr} {h:Heap} {p:Addr×Obj} (hp:p∈cv' fp h):p.1∈fp/\h.get? p.1=some p.2:=by
 obtain⟨b,hb,e⟩:=List.mem_filterMap.mp hp
 cases q:h.get? b with
 |none=>rw[q]at e;cases e
 |some o=>
  rw[q]at e
  have e':(b,o)=p:=Option.some.inj e
  subst e'
  exact⟨hb,q⟩
theorem Inv.pinned {pins:List (Addr×Obj)} {σ:St} {H:Hp} {s:Shared} {fp:List Addr} (I:Inv X pins σ H s) (hf:∀b∈fp,ef' X pins H b) (ho:∀b∈fp,∃o,s.heap.get? b=some o/\∀v,o.data≠.cell v):Inv X (pins++cv' fp s.heap) σ H s:=
 I.pins_of fun p hp=>(aG.mp hp).elim (fun z=>I.pin p (al _ z)) fun z=>by
  obtain⟨hb,e⟩:=fn' z
  obtain⟨f0,f1,f2,_⟩:=hf p.1 hb
  obtain⟨o,e',d⟩:=ho p.1 hb
  rw[e]at e';cases e'
  exact⟨e,f0,f1,f2,d⟩
theorem Inv.unpinned {pins pl:List (Addr×Obj)} {σ:St} {H:Hp} {s:Shared} (I:Inv X (pins++pl) σ H s):Inv X pins σ H s:=I.pins_of fun p hp=>I.pin p (al _ (aT _ hp))
theorem vo' {iter:Expr} {body:List Stmt} {wi:TI} {g:TG} {tb:TS} {pos:Pos} (hp:PassesOwn (model X.prog X.w) X.A X.env X.xe) (hc:X.calm=true) (hi:PI X tg iter wi) (hg:PG X tg g) (hb:PSs X body tb)
  (hs:∀x,foldedSetIterable iter X.env x=pure x:=by intro _;rfl):PS X (.For tg iter body [] pos) (Aj' wi g tb):=by
 intro pins s σ H D I h
 refine wpAny_For (thn (hi pins s σ H _ I h) fun v s1 h1=>thn h1 fun itv s2 h2=>?_) hs
 obtain⟨it,fp,tn,J,H2,e,I2,T,st2,f2,W,⟨m0,w0⟩,turn⟩:=h2
 subst e
 have stat:∀{H':Hp},(∀b∈fp,H' b=none)->∀b∈fp,ef' X pins H' b:=fun hn b hb=>⟨hn b hb,(f2 b hb).2⟩
 refine codeAny_forLoop_any (fun n s'=>∃i σ' H',Inv X pins σ' H' s'/\tn i s'.heap/\(∀b∈fp,H' b=none)/\W i n σ' H') ?_ m0 ⟨0,σ,H2,I2,st2,fun b hb=>(f2 b hb).1,w0⟩
 rintro n s3 ⟨i,σ3,H3,I3,st3,fr3,w3⟩
 rcases turn i n σ3 H3 w3 with⟨stop,qn⟩|⟨go,N,hN,step⟩
 .refine cO hp (thn (T.done X rfl rfl rfl hc i pins s3 σ3 H3 X.xe I3 (stat fr3) st3 stop) fun r s4 ⟨hr,I4⟩=>?_)
  subst hr
  exact wpAny_execs_nil ⟨σ3,H3,I4,qn⟩
 .refine cO hp (thn (T.item X rfl rfl rfl hc i pins s3 σ3 H3 X.xe I3 (stat fr3) st3 go) fun r s4 ⟨u,hr,h4⟩=>?_)
  subst hr
  refine cO hp (thn h4 fun _ s5 ⟨x,H5,I5,r5,y5,st5,fr5⟩=>?_)
  have I5':=I5.pinned (stat fr5) (T.obj _ _ st5)
  refine cO hp (thn (hg _ s5 σ3 H5 x u _ I5' r5 (step x H5 y5)) fun _ s6 ⟨σ6,H6,I6,q6⟩=>?_)
  refine cO hp (thn (hb _ s6 σ6 H6 _ I6 q6) fun f s7 q7=>?_)
  have again:∀{σ7:St} {H7:Hp},Inv X (pins++cv' fp s5.heap) σ7 H7 s7->N σ7 H7->∃m,m<n/\∃i σ' H',Inv X pins σ' H' s7/\tn i s7.heap/\(∀b∈fp,H' b=none)/\W i m σ' H':=fun {σ7 H7} I7 n7=>by
   obtain⟨m',hm,w7⟩:=hN σ7 H7 n7
   refine⟨m',hm,i+1,σ7,H7,I7.unpinned,T.keep _ _ _ st5 fun b hb o e=>(I7.pin (b,o) (al _ (al _ (aN' hb e)))).1,fun b hb=>?_,w7⟩
   obtain⟨o,e,d⟩:=T.obj _ _ st5 b hb
   exact(I7.pin (b,o) (al _ (al _ (aN' hb e)))).2.1
  cases f with
  |next=>obtain⟨σ7,H7,I7,n7⟩:=q7;exact again I7 n7
  |cont=>obtain⟨σ7,H7,I7,n7⟩:=q7;exact again I7 n7
  |brk=>obtain⟨σ7,H7,I7,q7⟩:=q7;exact⟨σ7,H7,I7.unpinned,q7⟩
  |ret v=>obtain⟨x7,σ7,H7,I7,r7,q7⟩:=q7;exact⟨x7,σ7,H7,I7.unpinned,r7,q7⟩
end
theorem oq' {K:W.Frag} {a:Addr} {xs:List V} {g:TG} {tb:TS} {D:Ends} {σ:St} {H:Hp} (Pv:Nat->St->Hp->Prop) (h0:Pv 0 σ H) (hl:∀i σ H,i<=xs.length->Pv i σ H->SqL K H a xs)
  (hs:∀i x σ H,xs[i]?=some x->Pv i σ H->g x σ H fun σ2 H2=>tb { D with nx:=Pv (i+1),ct:=Pv (i+1),bk:=D.nx } σ2 H2) (hd:∀σ H,Pv xs.length σ H->D.nx σ H):
  ∃W:Nat->Nat->St->Hp->Prop,(∃m,W 0 m σ H)/\∀i m σ H,W i m σ H->
   ((Itl K a).stop i H/\D.nx σ H)\/((Itl K a).go i H/\∃N:St->Hp->Prop,(∀σ' H',N σ' H'->∃m',m'<m/\W (i+1) m' σ' H')/\∀x H',(Itl K a).yld i H x H'->g x σ H' fun σ2 H2=>tb { D with nx:=N,ct:=N,bk:=D.nx } σ2 H2):=by
 refine⟨fun i m σ H=>m=xs.length-i/\i<=xs.length/\Pv i σ H,⟨xs.length,by simp,aK _,h0⟩,?_⟩
 rintro i m σ H ⟨rfl,hi,p⟩
 have q:=hl i σ H hi p
 by_cases hlt:i<xs.length
 .refine .inr ⟨⟨xs,xs[i],q,by simp[hlt]⟩,Pv (i+1),fun σ' H' p'=>⟨xs.length-(i+1),by omega,rfl,hlt,p'⟩,fun x H' y=>?_⟩
  obtain⟨e,y⟩:=y
  subst e
  exact hs i x σ _ (y xs q) p
 .have e:i=xs.length:=by omega
  subst e
  exact .inl ⟨⟨xs,q,ak _⟩,hd σ H p⟩
theorem r9' {K:W.Frag} {a:Addr} {xs:List V} {g:TG} {tb:TS} {D:Ends} {σ:St} {H:Hp} (Pv:Nat->St->Hp->Prop) (h0:Pv 0 σ H) (hl:∀i σ H,i<=xs.length->Pv i σ H->SqT K H a xs)
  (hs:∀i x σ H,xs[i]?=some x->Pv i σ H->g x σ H fun σ2 H2=>tb { D with nx:=Pv (i+1),ct:=Pv (i+1),bk:=D.nx } σ2 H2) (hd:∀σ H,Pv xs.length σ H->D.nx σ H):
  ∃W:Nat->Nat->St->Hp->Prop,(∃m,W 0 m σ H)/\∀i m σ H,W i m σ H->
   ((Itt K a).stop i H/\D.nx σ H)\/((Itt K a).go i H/\∃N:St->Hp->Prop,(∀σ' H',N σ' H'->∃m',m'<m/\W (i+1) m' σ' H')/\∀x H',(Itt K a).yld i H x H'->g x σ H' fun σ2 H2=>tb { D with nx:=N,ct:=N,bk:=D.nx } σ2 H2):=by
 refine⟨fun i m σ H=>m=xs.length-i/\i<=xs.length/\Pv i σ H,⟨xs.length,by simp,aK _,h0⟩,?_⟩
 rintro i m σ H ⟨rfl,hi,p⟩
 have q:=hl i σ H hi p
 by_cases hlt:i<xs.length
 .refine .inr ⟨⟨xs,xs[i],q,by simp[hlt]⟩,Pv (i+1),fun σ' H' p'=>⟨xs.length-(i+1),by omega,rfl,hlt,p'⟩,fun x H' y=>?_⟩
  obtain⟨e,y⟩:=y
  subst e
  exact hs i x σ _ (y xs q) p
 .have e:i=xs.length:=by omega
  subst e
  exact .inl ⟨⟨xs,q,ak _⟩,hd σ H p⟩
theorem k3' {lo:Int} {n:Nat} {g:TG} {tb:TS} {D:Ends} {σ:St} {H:Hp} (Pv:Nat->St->Hp->Prop) (h0:Pv 0 σ H)
  (hs:∀i σ H,i<n->Pv i σ H->g (.int (lo+i)) σ H fun σ2 H2=>tb { D with nx:=Pv (i+1),ct:=Pv (i+1),bk:=D.nx } σ2 H2) (hd:∀σ H,Pv n σ H->D.nx σ H):
  ∃W:Nat->Nat->St->Hp->Prop,(∃m,W 0 m σ H)/\∀i m σ H,W i m σ H->
   ((Itr lo n).stop i H/\D.nx σ H)\/((Itr lo n).go i H/\∃N:St->Hp->Prop,(∀σ' H',N σ' H'->∃m',m'<m/\W (i+1) m' σ' H')/\∀x H',(Itr lo n).yld i H x H'->g x σ H' fun σ2 H2=>tb { D with nx:=N,ct:=N,bk:=D.nx } σ2 H2):=by
 refine⟨fun i m σ H=>m=n-i/\i<=n/\Pv i σ H,⟨n,by simp,aK _,h0⟩,?_⟩
 rintro i m σ H ⟨rfl,hi,p⟩
 by_cases hlt:i<n
 .refine .inr ⟨hlt,Pv (i+1),fun σ' H' p'=>⟨n-(i+1),by omega,rfl,hlt,p'⟩,fun x H' y=>?_⟩
  obtain⟨e,y⟩:=y
  subst e y
  exact hs i σ _ hlt p
 .have e:i=n:=by omega
  subst e
  exact .inl ⟨ak _,hd σ H p⟩
abbrev R2:=V->V->Hp->VK->Prop
def OpR (X:Cx) (f:Value->Value->Sem Value) (r:R2):Prop:=
 ∀(pins:List (Addr×Obj)) (s:Shared) (σ:St) (H:Hp) (x y:V) (v u:Value) (Q:VK),Inv X pins σ H s->aD' x v->aD' y u->r x y H Q->
  wpAny (model X.prog X.w) X.A (f v u) (EP X pins σ Q) X.xe s
def UnR (X:Cx) (f:Value->Sem Value) (r:V->Hp->VK->Prop):Prop:=
 ∀(pins:List (Addr×Obj)) (s:Shared) (σ:St) (H:Hp) (x:V) (v:Value) (Q:VK),Inv X pins σ H s->aD' x v->r x H Q->
  wpAny (model X.prog X.w) X.A (f v) (EP X pins σ Q) X.xe s
def a5' (X:Cx) (f:Value) (r:List V->Hp->VK->Prop):Prop:=
 ∀(pins:List (Addr×Obj)) (s:Shared) (σ:St) (H:Hp) (xs:List V) (us:List Value) (Q:VK),Inv X pins σ H s->aK' xs us->r xs H Q->
  wpAny (model X.prog X.w) X.A (call f us) (EP X pins σ Q) X.xe s
def Dn' (X:Cx) (r:V->Hp->(Bool->Hp->Prop)->Prop):Prop:=
 ∀(pins:List (Addr×Obj)) (s:Shared) (σ:St) (H:Hp) (x:V) (v:Value) (Q:Bool->Hp->Prop),Inv X pins σ H s->aD' x v->r x H Q->
  wpAny (model X.prog X.w) X.A (truthy v) (TP X pins σ Q) X.xe s
def tOp (r:R2) (ta tb:TE):TE:=fun σ H Q=>ta σ H fun x H1=>tb σ H1 fun y H2=>r x y H2 Q
def tUn (r:V->Hp->VK->Prop) (ta:TE):TE:=fun σ H Q=>ta σ H fun x H1=>r x H1 Q
def rI (C:Int->Int->Prop) (g:Int->Int->V):R2:=fun x y H Q=>∃i j,x=.int i/\y=.int j/\C i j/\Q (g i j) H
def rI0 (g:Int->Int->V):R2:=fun x y H Q=>∃i j,x=.int i/\y=.int j/\Q (g i j) H
def rU (g:Int->V):V->Hp->VK->Prop:=fun x H Q=>∃i,x=.int i/\Q (g i) H
section
variable {X:Cx} {a b c:Expr} {ta tb tc:TE} {pos:Pos}
theorem Ak' (ha:PE X a ta) (hb:PE X b tb) {pins:List (Addr×Obj)} {s:Shared} {σ:St} {H:Hp} {R:V->V->Hp->Prop} (I:Inv X pins σ H s)
  (h:ta σ H fun x H1=>tb σ H1 fun y H2=>R x y H2) {Q:Value->Shared->Prop} {f:Value->Value->Sem Value}
  (hf:∀v u s2 x y H2,Inv X pins σ H2 s2->aD' x v->aD' y u->R x y H2->wpAny (model X.prog X.w) X.A (f v u) Q X.xe s2):
  wpAny (model X.prog X.w) X.A (eval a X.env) (fun v s₁=>wpAny (model X.prog X.w) X.A (eval b X.env) (fun u s₂=>wpAny (model X.prog X.w) X.A (f v u) Q X.xe s₂) X.xe s₁) X.xe s:=by
 refine thn (ha pins s σ H _ I h) fun v s1 ⟨x,H1,I1,r1,q1⟩=>?_
 refine thn (hb pins s1 σ H1 _ I1 q1) fun u s2 ⟨y,H2,I2,r2,q2⟩=>?_
 exact hf v u s2 x y H2 I2 r1 r2 q2
theorem Al' {op:Operator} {r:R2} (ho:OpR X (binaryOp op) r) (ha:PE X a ta) (hb:PE X b tb):PE X (.BinOp a op b pos) (tOp r ta tb):=by
 intro pins s σ H Q I h
 exact wpAny_BinOp (Ak' ha hb I h fun v u s2 x y H2 I2 rx ry q=>ho pins s2 σ H2 x y v u Q I2 rx ry q)
theorem Am' {op:UnaryOp} {r:V->Hp->VK->Prop} (ho:UnR X (unaryOp op) r) (ha:PE X a ta):PE X (.UnaryOp op a pos) (tUn r ta):=by
 intro pins s σ H Q I h
 exact UnaryOp_ (thn (ha pins s σ H _ I h) fun v s1 ⟨x,H1,I1,r1,q1⟩=>ho pins s1 σ H1 x v Q I1 r1 q1)
theorem opI {f:Value->Value->Sem Value} {C:Int->Int->Prop} {g:Int->Int->Int}
  (rule:∀(i j:Int) (t u:Tok) (s:Shared) (Q:Value->Shared->Prop) (E:Value->Shared->Prop),C i j->Q (.int (g i j) s.toks) { s with toks:=s.toks+1 }->wpAny (model X.prog X.w) X.A (f (.int i t) (.int j u)) Q E s):
  OpR X f (rI C fun i j=>.int (g i j)):=by
 intro pins s σ H x y v u Q I rx ry h
 obtain⟨i,j,rfl,rfl,hc,q⟩:=h
 obtain⟨t,rfl⟩:=rx
 obtain⟨t',rfl⟩:=ry
 exact rule i j t t' s _ _ hc ⟨.int (g i j),H,I.tok _,⟨_,rfl⟩,q⟩
theorem An' {f:Value->Value->Sem Value} {g:Int->Int->Int}
  (rule:∀(i j:Int) (t u:Tok) (s:Shared) (Q:Value->Shared->Prop) (E:Value->Shared->Prop),Q (.int (g i j) s.toks) { s with toks:=s.toks+1 }->wpAny (model X.prog X.w) X.A (f (.int i t) (.int j u)) Q E s):
  OpR X f (rI0 fun i j=>.int (g i j)):=by
 intro pins s σ H x y v u Q I rx ry h
 obtain⟨i,j,rfl,rfl,q⟩:=h
 obtain⟨t,rfl⟩:=rx
 obtain⟨t',rfl⟩:=ry
 exact rule i j t t' s _ _ ⟨.int (g i j),H,I.tok _,⟨_,rfl⟩,q⟩
theorem zN' {f:Value->Value->Sem Value} {g:Int->Int->Bool}
  (rule:∀(i j:Int) (t u:Tok) (s:Shared) (Q:Value->Shared->Prop) (E:Value->Shared->Prop),Q (.bool (g i j)) s->wpAny (model X.prog X.w) X.A (f (.int i t) (.int j u)) Q E s):
  OpR X f (rI0 fun i j=>.bl (g i j)):=by
 intro pins s σ H x y v u Q I rx ry h
 obtain⟨i,j,rfl,rfl,q⟩:=h
 obtain⟨t,rfl⟩:=rx
 obtain⟨t',rfl⟩:=ry
 exact rule i j t t' s _ _ ⟨.bl (g i j),H,I,rfl,q⟩
def Do' (i j:Int):Prop:=0<j/\j<1073741824
def Ao' (i j:Int):Prop:=0<=j/\j<=1000000/\i.natAbs<2 ^ 64
def zO' (i j:Int):Prop:=(-(2 ^ 64)<i/\i<2 ^ 64)\/(-(2 ^ 64)<j/\j<2 ^ 64)
theorem zO'.ok {i j:Int} (h:zO' i j):IntMulOk i j:=by
 rcases h with⟨h1,h2⟩|⟨h1,h2⟩
 .exact .of_left (intBits_le_64 h1 h2)
 .exact .of_right (intBits_le_64 h1 h2)
theorem j6' (k:Nat):(0:Int)<=2 ^ k:=by
 rw[two_pow_cast]
 exact Int.natCast_nonneg _
theorem vp':OpR X (binaryOp .Add) (rI0 fun i j=>.int (i+j)):=An' fun _ _ _ _ _ _ _ q=>add_int q
theorem vq':OpR X (binaryOp .Sub) (rI0 fun i j=>.int (i-j)):=An' fun _ _ _ _ _ _ _ q=>sub_int q
theorem sa':OpR X (binaryOp .FloorDiv) (rI Do' fun i j=>.int (i / j)):=opI fun i j _ _ _ _ _ hc q=>by
 have h1:(0:Int)<j:=hc.1
 have h2:j<1073741824:=hc.2
 exact floordiv_int (by omega) (by rw[Int.fdiv_eq_ediv_of_nonneg i (by omega)];exact q) (.inl (PyProof.noPylong_small (by omega)))
theorem vr':OpR X (binaryOp .Mod) (rI (fun _ j=>0<j) fun i j=>.int (i % j)):=opI fun i j _ _ _ _ _ hc q=>by
 have h1:(0:Int)<j:=hc
 exact mod_int' (by omega) (by rw[Int.fmod_eq_emod_of_nonneg i (by omega)];exact q)
theorem vt':OpR X (binaryOp .Pow) (rI Ao' fun i j=>.int (i ^ j.toNat)):=opI fun _ _ _ _ _ _ _ hc q=>pow_int_small hc.1 hc.2.1 hc.2.2 q
theorem vu':OpR X (binaryOp .RShift) (rI (fun _ j=>0<=j) fun i j=>.int (i / 2 ^ j.toNat)):=opI fun i j _ _ _ _ _ hc q=>
 rshift_int hc (by rw[Int.fdiv_eq_ediv_of_nonneg i (j6' _)];exact q)
theorem vv':OpR X (binaryOp .BitAnd) (rI0 fun i j=>.int (Builtin.bitAnd i j)):=An' fun _ _ _ _ _ _ _ q=>and_int q
theorem unI {f:Value->Sem Value} {g:Int->Int}
  (rule:∀(i:Int) (t:Tok) (s:Shared) (Q:Value->Shared->Prop) (E:Value->Shared->Prop),Q (.int (g i) s.toks) { s with toks:=s.toks+1 }->wpAny (model X.prog X.w) X.A (f (.int i t)) Q E s):
  UnR X f (rU fun i=>.int (g i)):=by
 intro pins s σ H x v Q I rx h
 obtain⟨i,rfl,q⟩:=h
 obtain⟨t,rfl⟩:=rx
 exact rule i t s _ _ ⟨.int (g i),H,I.tok _,⟨_,rfl⟩,q⟩
theorem vw':UnR X (unaryOp .USub) (rU fun i=>.int (-i)):=unI fun _ _ _ _ _ q=>neg_int q
end
def zP':V->V->Bool
 | .non,.non=>true | .non,.int _=>true | .int _,.non=>true | .non,.bl _=>true | .bl _,.non=>true | .non,.str _=>true | .str _,.non=>true
 | .int _,.int _=>true | .bl _,.bl _=>true | .str _,.str _=>true | .byt _,.byt _=>true
 | .int _,.str _=>true | .str _,.int _=>true | .bl _,.str _=>true | .str _,.bl _=>true
 |_,_=>false
def rEq:R2:=fun x y H Q=>zP' x y=true/\Q (.bl (decide (x=y))) H
def rNe:R2:=fun x y H Q=>zP' x y=true/\Q (.bl (!decide (x=y))) H
theorem iv' {i j:Int}:decide (V.int i=V.int j)=(i == j):=by
 rw[cr]
 simp
theorem qJ' {i j:Bool}:decide (V.bl i=V.bl j)=(i == j):=by
 rw[cr]
 simp
theorem k4' {i j:Str}:decide (V.str i=V.str j)=(i == j):=by
 rw[cr]
 simp
theorem k5' {i j:Array UInt8}:decide (V.byt i=V.byt j)=(i.toList == j.toList):=by
 rw[cr]
 cases i
 cases j
 simp
section
variable {X:Cx} {a b c:Expr} {ta tb tc:TE} {pos:Pos}
theorem aE' {pins:List (Addr×Obj)} {σ:St} {H:Hp} {s:Shared} {Q:VK} {k k':Bool} (I:Inv X pins σ H s) (q:Q (.bl k) H) (e:k=k'):EP X pins σ Q (.bool k') s:=by
 subst e
 exact⟨.bl k,H,I,rfl,q⟩
theorem Ap':OpR X (compareOp .Eq) rEq:=by
 intro pins s σ H x y v u Q I rx ry h
 obtain⟨hs,q⟩:=h
 cases x with
 |non=>
  cases rx
  cases y with
  |non=>cases ry;exact PySem.EqNone.eq_none_none (aE' I q (by simp))
  |bl j=>cases ry;exact PySem.EqNone.eq_none_bool (aE' I q (by simp))
  |int j=>obtain⟨t',rfl⟩:=ry;exact PySem.EqNone.eq_none_int (aE' I q (by simp))
  |str j=>obtain⟨t',rfl⟩:=ry;exact PySem.EqNone.eq_none_str (aE' I q (by simp))
  |_=>exact absurd (show false=true from hs) ay
 |bl i=>
  cases rx
  cases y with
  |non=>cases ry;exact PySem.EqNone.eq_bool_none (aE' I q (by simp))
  |bl j=>cases ry;exact eq_bool (aE' I q qJ')
  |str j=>obtain⟨t',rfl⟩:=ry;exact PySem.EqMixed.eq_bool_str (aE' I q (by simp))
  |_=>exact absurd (show false=true from hs) ay
 |int i=>
  obtain⟨t,rfl⟩:=rx
  cases y with
  |non=>cases ry;exact PySem.EqNone.eq_int_none (aE' I q (by simp))
  |int j=>obtain⟨t',rfl⟩:=ry;exact eq_int (aE' I q iv')
  |str j=>obtain⟨t',rfl⟩:=ry;exact PySem.EqMixed.eq_int_str (aE' I q (by simp))
  |_=>exact absurd (show false=true from hs) ay
 |str i=>
  obtain⟨t,rfl⟩:=rx
  cases y with
  |non=>cases ry;exact PySem.EqNone.eq_str_none (aE' I q (by simp))
  |bl j=>cases ry;exact PySem.EqMixed.eq_str_bool (aE' I q (by simp))
  |int j=>obtain⟨t',rfl⟩:=ry;exact PySem.EqMixed.eq_str_int (aE' I q (by simp))
  |str j=>obtain⟨t',rfl⟩:=ry;exact eq_str (aE' I q k4')
  |_=>exact absurd (show false=true from hs) ay
 |byt i=>
  obtain⟨t,rfl⟩:=rx
  cases y with
  |byt j=>obtain⟨t',rfl⟩:=ry;exact W.eq_bytes (aE' I q k5')
  |_=>exact absurd (show false=true from hs) ay
 |_=>cases y<;>exact absurd (show false=true from hs) ay
theorem Aq':OpR X (compareOp .NotEq) rNe:=by
 intro pins s σ H x y v u Q I rx ry h
 obtain⟨hs,q⟩:=h
 cases x with
 |non=>
  cases rx
  cases y with
  |non=>cases ry;exact PySem.EqNone.ne_none_none (aE' I q (by simp))
  |bl j=>cases ry;exact PySem.EqNone.ne_none_bool (aE' I q (by simp))
  |int j=>obtain⟨t',rfl⟩:=ry;exact PySem.EqNone.ne_none_int (aE' I q (by simp))
  |str j=>obtain⟨t',rfl⟩:=ry;exact PySem.EqNone.ne_none_str (aE' I q (by simp))
  |_=>exact absurd (show false=true from hs) ay
 |bl i=>
  cases rx
  cases y with
  |non=>cases ry;exact PySem.EqNone.ne_bool_none (aE' I q (by simp))
  |bl j=>cases ry;exact ne_bool (aE' I q (congrArg not qJ'))
  |str j=>obtain⟨t',rfl⟩:=ry;exact PySem.EqMixed.ne_bool_str (aE' I q (by simp))
  |_=>exact absurd (show false=true from hs) ay
 |int i=>
  obtain⟨t,rfl⟩:=rx
  cases y with
  |non=>cases ry;exact PySem.EqNone.ne_int_none (aE' I q (by simp))
  |int j=>obtain⟨t',rfl⟩:=ry;exact ne_int (aE' I q (congrArg not iv'))
  |str j=>obtain⟨t',rfl⟩:=ry;exact PySem.EqMixed.ne_int_str (aE' I q (by simp))
  |_=>exact absurd (show false=true from hs) ay
 |str i=>
  obtain⟨t,rfl⟩:=rx
  cases y with
  |non=>cases ry;exact PySem.EqNone.ne_str_none (aE' I q (by simp))
  |bl j=>cases ry;exact PySem.EqMixed.ne_str_bool (aE' I q (by simp))
  |int j=>obtain⟨t',rfl⟩:=ry;exact PySem.EqMixed.ne_str_int (aE' I q (by simp))
  |str j=>obtain⟨t',rfl⟩:=ry;exact ne_str (aE' I q (congrArg not k4'))
  |_=>exact absurd (show false=true from hs) ay
 |byt i=>
  obtain⟨t,rfl⟩:=rx
  cases y with
  |byt j=>obtain⟨t',rfl⟩:=ry;exact W.ne_bytes (aE' I q (congrArg not k5'))
  |_=>exact absurd (show false=true from hs) ay
 |_=>cases y<;>exact absurd (show false=true from hs) ay
theorem Ar':OpR X (compareOp .Lt) (rI0 fun i j=>.bl (decide (i<j))):=zN' fun _ _ _ _ _ _ _ q=>lt_int q
theorem As':OpR X (compareOp .LtE) (rI0 fun i j=>.bl (decide (i<=j))):=zN' fun _ _ _ _ _ _ _ q=>le_int q
theorem At':OpR X (compareOp .Gt) (rI0 fun i j=>.bl (decide (j<i))):=zN' fun _ _ _ _ _ _ _ q=>gt_int q
theorem Au':OpR X (compareOp .GtE) (rI0 fun i j=>.bl (decide (j<=i))):=zN' fun _ _ _ _ _ _ _ q=>ge_int q
theorem k6':OpR X (compareOp .Lt) (fun x y H Q=>∃i j,x=.str i/\y=.str j/\Q (.bl (decide (i.cps.toList<j.cps.toList))) H):=by
 intro pins s σ H x y v u Q I rx ry h
 obtain⟨i,j,rfl,rfl,q⟩:=h
 obtain⟨t,rfl⟩:=rx
 obtain⟨t',rfl⟩:=ry
 exact lt_str (aE' I q rfl)
theorem vx':OpR X (compareOp .Is) (fun x y H Q=>y=.non/\Q (.bl (decide (x=.non))) H):=by
 intro pins s σ H x y v u Q I rx ry h
 obtain⟨rfl,q⟩:=h
 cases ry
 refine is_none_gen (aE' I q ?_)
 cases x<;>first
  |(cases rx;rfl)
  |(obtain⟨t,rfl⟩:=rx;rfl)
theorem sb':OpR X (compareOp .IsNot) (fun x y H Q=>y=.non/\Q (.bl (!decide (x=.non))) H):=by
 intro pins s σ H x y v u Q I rx ry h
 obtain⟨rfl,q⟩:=h
 cases ry
 refine isnot_none_gen (aE' I q ?_)
 cases x<;>first
  |(cases rx;rfl)
  |(obtain⟨t,rfl⟩:=rx;rfl)
theorem OpR.or {f:Value->Value->Sem Value} {r r':R2} (h:OpR X f r) (h':OpR X f r'):OpR X f (fun x y H Q=>r x y H Q\/r' x y H Q):=by
 intro pins s σ H x y v u Q I rx ry q
 rcases q with q|q
 .exact h pins s σ H x y v u Q I rx ry q
 .exact h' pins s σ H x y v u Q I rx ry q
theorem k7' {op:CmpOp} {r:R2} (ho:OpR X (compareOp op) r) (ha:PE X a ta) (hb:PE X b tb) (hm:behindInMarks op b=false):PE X (.Compare a [op] [b] pos) (tOp r ta tb):=by
 intro pins s σ H Q I h
 exact wpAny_Compare1 (Ak' ha hb I h fun v u s2 x y H2 I2 rx ry q=>ho pins s2 σ H2 x y v u Q I2 rx ry q) hm
def gY' (t:TE):TT:=fun σ H Q=>t σ H fun x H'=>∃k,x=.bl k/\Q k H'
theorem sc' {op:CmpOp} {r:R2} (ho:OpR X (compareOp op) r) (ha:PE X a ta) (hb:PE X b tb) (hm:behindInMarks op b=false):PT X (.Compare a [op] [b] pos) (gY' (tOp r ta tb)):=by
 intro pins s σ H Q I h
 refine wpAny_isTrue_Compare1 (thn (ha pins s σ H _ I h) fun v s1 ⟨x,H1,I1,r1,q1⟩=>thn (hb pins s1 σ H1 _ I1 q1) fun u s2 ⟨y,H2,I2,r2,q2⟩=>
  thn (ho pins s2 σ H2 x y v u _ I2 r1 r2 q2) fun c s3 ⟨z,H3,I3,r3,k,e,q3⟩=>?_) hm
 subst e
 cases r3
 exact bO ⟨H3,I3,q3⟩
def eU' (r r':R2) (ta tb tc:TE):TE:=fun σ H Q=>ta σ H fun x H1=>tb σ H1 fun y H2=>r x y H2 fun z H3=>∃k,z=.bl k/\
 (if k=true then tc σ H3 fun w' H4=>r' y w' H4 Q else Q (.bl false) H3)
theorem or' {op op':CmpOp} {r r':R2} (ho:OpR X (compareOp op) r) (ho':OpR X (compareOp op') r') (ha:PE X a ta) (hb:PE X b tb) (hc:PE X c tc)
  (hm:lastMarks [op,op'] [b,c]=false:=by with_unfolding_all rfl):PE X (.Compare a [op,op'] [b,c] pos) (eU' r r' ta tb tc):=by
 intro pins s σ H Q I h
 refine Compare_chain (thn (ha pins s σ H _ I h) fun v s1 ⟨x,H1,I1,r1,q1⟩=>chain_link (thn (hb pins s1 σ H1 _ I1 q1) fun u s2 ⟨y,H2,I2,r2,q2⟩=>
  thn (ho pins s2 σ H2 x y v u _ I2 r1 r2 q2) fun d s3 ⟨z,H3,I3,r3,k,e,q3⟩=>?_)) hm
 subst e
 cases r3
 refine bO ?_
 cases k with
 |false=>exact ite_ff ⟨.bl false,H3,I3,rfl,q3⟩
 |true=>exact ite_tt (chain_last (thn (hc pins s3 σ H3 _ I3 q3) fun w' s4 ⟨z',H4,I4,r4,q4⟩=>ho' pins s4 σ H4 y z' u w' Q I4 r2 r4 q4))
theorem ot' {op op':CmpOp} {r r':R2} (ho:OpR X (compareOp op) r) (ho':OpR X (compareOp op') r') (ha:PE X a ta) (hb:PE X b tb) (hc:PE X c tc)
  (hm:lastMarks [op,op'] [b,c]=false:=by with_unfolding_all rfl):PT X (.Compare a [op,op'] [b,c] pos) (gY' (eU' r r' ta tb tc)):=by
 intro pins s σ H Q I h
 refine isTrue_chain (thn (ha pins s σ H _ I h) fun v s1 ⟨x,H1,I1,r1,q1⟩=>test_link (thn (hb pins s1 σ H1 _ I1 q1) fun u s2 ⟨y,H2,I2,r2,q2⟩=>
  thn (ho pins s2 σ H2 x y v u _ I2 r1 r2 q2) fun d s3 ⟨z,H3,I3,r3,k,e,q3⟩=>?_)) hm
 subst e
 cases r3
 refine bO ?_
 cases k with
 |false=>
  obtain⟨k',e',q'⟩:=q3
  cases e'
  exact ite_ff ⟨H3,I3,q'⟩
 |true=>
  refine ite_tt (test_last (thn (hc pins s3 σ H3 _ I3 q3) fun w' s4 ⟨z',H4,I4,r4,q4⟩=>thn (ho' pins s4 σ H4 y z' u w' _ I4 r2 r4 q4) fun d' s5 ⟨z2,H5,I5,r5,k2,e2,q5⟩=>?_))
  subst e2
  cases r5
  exact bO ⟨H5,I5,q5⟩
def vy' (K:W.Frag) (x:V) (H:Hp) (k:Bool):Prop:=
 match x with
 | .non=>k=false
 | .bl b=>k=b
 | .int i=>k=(i != 0)
 | .str y=>y.length<=sizeLine/\k=((y.length:Int) != 0)
 | .byt y=>y.size<=sizeLine/\k=((y.size:Int) != 0)
 | .ref p=>(∃xs,SqL K H p xs/\k=!xs.isEmpty)\/(∃xs,SqT K H p xs/\k=!xs.isEmpty)\/∃kvs,H p=some (.dK kvs)/\k=!kvs.isEmpty
 |_=>False
theorem j7' {κ:Type} {kvs:List (κ×V)} {vs:List (κ×Value)} (r:KV kvs vs):(!vs.isEmpty)=!kvs.isEmpty:=by
 cases r<;>rfl
theorem f1' {xs:List V} {its:List Value} (r:aK' xs its):(!its.toArray.isEmpty)=!xs.isEmpty:=by
 cases r<;>simp
theorem fo':(sizeLine:Nat)<2 ^ 63:=by rw[sizeLine_eq];decide
theorem vz':Dn' X (fun x H Q=>∃k,vy' X.K x H k/\Q k H):=by
 intro pins s σ H x v Q I rx h
 obtain⟨k,e,q⟩:=h
 have hl:=fo'
 have hs:sizeLine=16777216:=sizeLine_eq
 cases x with
 |non=>
  cases rx
  have e':k=false:=e
  subst e'
  exact truthy_none ⟨H,I,q⟩
 |bl b=>
  cases rx
  have e':k=b:=e
  subst e'
  exact bO ⟨H,I,q⟩
 |int i=>
  obtain⟨t,rfl⟩:=rx
  have e':k=(i != 0):=e
  subst e'
  exact PySem.P.truthy_int ⟨H,I,q⟩
 |str y=>
  obtain⟨t,rfl⟩:=rx
  obtain⟨hy,e'⟩:y.length<=sizeLine/\k=((y.length:Int) != 0):=e
  subst e'
  exact PySem.P.truthy_str (by omega) ⟨H,I.tok _,q⟩
 |byt y=>
  obtain⟨t,rfl⟩:=rx
  obtain⟨hy,e'⟩:y.size<=sizeLine/\k=((y.size:Int) != 0):=e
  subst e'
  exact W.truthy_bytes (by omega) ⟨H,I.tok _,q⟩
 |ref p=>
  cases rx
  have e':(∃xs,SqL X.K H p xs/\k=!xs.isEmpty)\/(∃xs,SqT X.K H p xs/\k=!xs.isEmpty)\/∃kvs,H p=some (.dK kvs)/\k=!kvs.isEmpty:=e
  rcases e' with⟨xs,hx,e'⟩|⟨xs,hx,e'⟩|⟨kvs,hx,e'⟩
  .subst e'
   obtain⟨its,r,pl,hz⟩:=I.list hx
   have hlen:=r.length
   exact wpAny_truthy_list pl.isList (by simp only[ai];omega) ⟨H,I.tok _,by rw[f1' r];exact q⟩
  .subst e'
   obtain⟨its,r,pl,hz⟩:=I.tuple hx
   have hlen:=r.length
   exact truthy_tuple pl (by simp only[ai];omega) ⟨H,I.tok _,by rw[f1' r];exact q⟩
  .subst e'
   obtain⟨hz,hS,vs,r,m⟩:kvs.length<=sizeLine/\(p == sysModules)=false/\∃vs,KV kvs vs/\s.heap.DictOf (az' X.prog X.w) p vs:=I.hok p _ hx
   have hlen:kvs.length=vs.length:=Paired.length r
   exact wpAny_truthy_dict hS m (by omega) ⟨H,I.tok _,by rw[j7' r];exact q⟩
 |_=>exact(show False from e).elim
theorem ou' (ha:PE X a ta) (he:∀whole,isTrue a X.env whole=(do let v <- whole;standAt a.pos;holding [v] (truthy v))):
  PT X a (fun σ H Q=>ta σ H fun x H'=>∃k,vy' X.K x H' k/\Q k H'):=by
 intro pins s σ H Q I h
 exact isTrue_plain (thn (ha pins s σ H _ I h) fun v s1 ⟨x,H1,I1,r1,q1⟩=>vz' pins s1 σ H1 x v Q I1 r1 q1) (he _)
theorem j8':OpR X (binaryOp .Add) (fun x y H Q=>∃i j,x=.str i/\y=.str j/\i.length+j.length<=sizeLine/\Q (.str (i++j)) H):=by
 intro pins s σ H x y v u Q I rx ry h
 obtain⟨i,j,rfl,rfl,hz,q⟩:=h
 obtain⟨t,rfl⟩:=rx
 obtain⟨t',rfl⟩:=ry
 exact add_str (fun t' tk=>⟨.str (i++j),H,I.tok _,⟨_,rfl⟩,q⟩) hz
theorem fp' {x:V} {us:List Value} (r:aK' [x] us):∃u,us=[u]/\aD' x u:=by
 cases r with
 |cons r1 r2=>cases r2;exact⟨_,rfl,r1⟩
theorem k8' {x y:V} {us:List Value} (r:aK' [x,y] us):∃u w',us=[u,w']/\aD' x u/\aD' y w':=by
 cases r with
 |cons r1 r2=>
  cases r2 with
  |cons r3 r4=>cases r4;exact⟨_,_,rfl,r1,r3⟩
theorem ov':a5' X (.builtin "abs") (fun xs H Q=>∃i,xs=[.int i]/\Q (.int (if i<0 then -i else i)) H):=by
 intro pins s σ H xs us Q I r h
 obtain⟨i,rfl,q⟩:=h
 obtain⟨u,rfl,t,rfl⟩:=fp' r
 exact call_abs_int fun u tk=>⟨.int (if i<0 then -i else i),H,I.tok _,⟨_,rfl⟩,q⟩
theorem k9' (hc:X.calm=true):a5' X (.builtin "max") (fun xs H Q=>∃i j,xs=[.int i,.int j]/\Q (.int (if j > i then j else i)) H):=by
 intro pins s σ H xs us Q I r h
 obtain⟨i,j,rfl,q⟩:=h
 obtain⟨u,w',rfl,⟨t,rfl⟩,⟨t',rfl⟩⟩:=k8' r
 refine max_two_ints (I.ok.hd hc) fun h' tk k=>⟨_,H,I.kept k,?_,q⟩
 by_cases hj:j > i
 .rw[if_pos hj,if_pos hj];exact⟨_,rfl⟩
 .rw[if_neg hj,if_neg hj];exact⟨_,rfl⟩
theorem la' (hc:X.calm=true):a5' X (.builtin "min") (fun xs H Q=>∃i j,xs=[.int i,.int j]/\Q (.int (if j<i then j else i)) H):=by
 intro pins s σ H xs us Q I r h
 obtain⟨i,j,rfl,q⟩:=h
 obtain⟨u,w',rfl,⟨t,rfl⟩,⟨t',rfl⟩⟩:=k8' r
 refine min_two_ints (I.ok.hd hc) fun h' tk k=>⟨_,H,I.kept k,?_,q⟩
 by_cases hj:j<i
 .rw[if_pos hj,if_pos hj];exact⟨_,rfl⟩
 .rw[if_neg hj,if_neg hj];exact⟨_,rfl⟩
theorem lb':a5' X (.type "int") (fun xs H Q=>(∃i,xs=[.int i]/\Q (.int i) H)\/∃k,xs=[.bl k]/\Q (.int (if k then 1 else 0)) H):=by
 intro pins s σ H xs us Q I r h
 rcases h with⟨i,rfl,q⟩|⟨k,rfl,q⟩
 .obtain⟨u,rfl,t,rfl⟩:=fp' r
  exact call_int_int ⟨.int i,H,I,⟨_,rfl⟩,q⟩
 .obtain⟨u,rfl,r1⟩:=fp' r
  cases r1
  exact call_int_bool ⟨.int (if k then 1 else 0),H,I.tok _,⟨_,rfl⟩,q⟩
def CA' (K:W.Frag) (x:V) (H:Hp) (n:Nat):Prop:=
 match x with
 | .str y=>y.length<=sizeLine/\n=y.length
 | .byt y=>y.size<=sizeLine/\n=y.size
 | .ref p=>(∃xs,SqL K H p xs/\n=xs.length)\/∃xs,SqT K H p xs/\n=xs.length
 |_=>False
theorem ow':a5' X (.builtin "len") (fun xs H Q=>∃x n,xs=[x]/\CA' X.K x H n/\Q (.int n) H):=by
 intro pins s σ H xs us Q I r h
 obtain⟨x,n,rfl,e,q⟩:=h
 obtain⟨u,rfl,rx⟩:=fp' r
 have hl:=fo'
 have hs:sizeLine=16777216:=sizeLine_eq
 cases x with
 |str y=>
  obtain⟨t,rfl⟩:=rx
  obtain⟨hy,e'⟩:y.length<=sizeLine/\n=y.length:=e
  subst e'
  exact len_str (by omega) ⟨.int _,H,I.tok _,⟨_,rfl⟩,q⟩
 |byt y=>
  obtain⟨t,rfl⟩:=rx
  obtain⟨hy,e'⟩:y.size<=sizeLine/\n=y.size:=e
  subst e'
  exact W.len_bytes (by omega) ⟨.int _,H,I.tok _,⟨_,rfl⟩,q⟩
 |ref p=>
  cases rx
  have e':(∃xs,SqL X.K H p xs/\n=xs.length)\/∃xs,SqT X.K H p xs/\n=xs.length:=e
  rcases e' with⟨xs,hx,e'⟩|⟨xs,hx,e'⟩
  .subst e'
   obtain⟨its,r',pl,hz⟩:=I.list hx
   have hlen:=r'.length
   exact Calls.call_len_list pl.isList (by simp only[ai];omega) ⟨.int xs.length,H,I.tok _,⟨_,by simp only[ai];rw[hlen]⟩,q⟩
  .subst e'
   obtain⟨its,r',pl,hz⟩:=I.tuple hx
   have hlen:=r'.length
   exact len_tuple pl (by simp only[ai];omega) ⟨.int xs.length,H,I.tok _,⟨_,by simp only[ai];rw[hlen]⟩,q⟩
 |_=>exact(show False from e).elim
end
structure ObjM (h:Heap) (x dx C:Addr) (mA:Str->Option Value):Prop where
 obj:h.get? x=some (W.instObj C dx)
 ns:h.Ns1 dx mA
 ne:dx≠x
set_option tactic.hygienic true in
theorem lc' {h:Heap} {dx:Addr} {mA:Str->Option Value} (n:h.Ns1 dx mA):∃od,h.get? dx=some od/\∀name,W.lookIn name od=some (mA name):=by
 obtain⟨o,es,ep,ho,hd,hk,_,hm⟩:=n
 refine⟨o,ho,fun name=>?_⟩
 have e:=hm name
 unfold nsFind findBy at e
 rw[<- Array.find?_toList]at e
 unfold W.lookIn
 rw[hd]
 dsimp only
 split
 .rename_i y q
  rw[q]at e
  exact congrArg some e
 .rename_i q
  rw[q]at e
  have a:es.toList.any (·.refKey)=false:=by
   rw[List.any_eq_false]
   intro y hy
   obtain⟨z,t,hkey⟩:=hk y (dg.mp hy)
   simp[DictEntry.refKey,hkey]
  have a':¬es.toList.any (·.refKey)=true:=by rw[a];exact ay
  rw[if_neg a']
  exact congrArg some e
theorem ObjM.look {h:Heap} {x dx C:Addr} {mA:Str->Option Value} (I:ObjM h x dx C mA):∃od,W.InstAt h x (W.instObj C dx) C (some od)/\∀name,W.lookIn name od=some (mA name):=
 let⟨od,ho,hl⟩:=lc' I.ns
 ⟨od,⟨I.obj,rfl,rfl,ho⟩,hl⟩
section
variable {P:Program} {w:World} {H H':Hp} {h h':Heap} {a C dx:Addr} {fs fs':List (Str×V)}
theorem sd' (hok:HOk P w H h) (e:H a=some (.ins C dx fs)):∃mA,ObjM h a dx C mA/\(∀f,oh' (fs.lookup f) (mA f))/\PySem.Within mA (fs.map (·.1))/\fs.length<=1000/\H dx=some (.own a):=by
 obtain⟨d,z,ne,ob,mA,n,r,q⟩:=(show aG' P w H h a (.ins C dx fs) from hok a _ e)
 exact⟨mA,⟨ob,n,ne⟩,r,q,z,d⟩
end
structure Cls (K:W.Frag) (C:Addr):Prop where
 pg:W.plainGet K C Str.empty=true
 hd:W.hasDictIn K C=true
 po:W.plainOver K C=true
 sa:W.findIn K (.ref C) "__setattr__"=some (some (.builtin "object.__setattr__"))
theorem Cls.get {K:W.Frag} {C:Addr} (c:Cls K C) (f:Str):W.plainGet K C f=true:=c.pg
section
variable {X:Cx} {pins:List (Addr×Obj)} {σ:St} {H:Hp} {s:Shared} {A:Around} {E:Value->Shared->Prop} {Q:Value->Shared->Prop} {c:Value} {b:Bool}
inductive TyOf (K:W.Frag) (H:Hp):V->Value->Prop where
 |non:TyOf K H .non (.type "NoneType")
 |bl (x:Bool):TyOf K H (.bl x) (.type "bool")
 |int (i:Int):TyOf K H (.int i) (.type "int")
 |str (x:Str):TyOf K H (.str x) (.type "str")
 |flt (x:UInt64):TyOf K H (.flt x) (.type "float")
 |lst {a:Addr} {xs:List V} (e:H a=some (.lst xs)):TyOf K H (.ref a) (.type "list")
 |frz {a:Addr} {o:Obj} {xs:List V} (e:H a=some (.frz o (.lst xs))):TyOf K H (.ref a) (.type "list")
 |tup {a:Addr} {xs:List V} (e:H a=some (.tup xs)):TyOf K H (.ref a) (.type "tuple")
 |dK {a:Addr} {kvs:List (Key×V)} (e:H a=some (.dK kvs)):TyOf K H (.ref a) (.type "dict")
 |dT {a:Addr} {kvs:List (List Key×V)} (e:H a=some (.dT kvs)):TyOf K H (.ref a) (.type "dict")
 |ins {a C dx:Addr} {fs:List (Str×V)} (e:H a=some (.ins C dx fs)) (cl:Cls K C) (ha:W.findIn K (.ref C) "__class__"=some (some (.builtin "object.__class__")))
   (hn:W.specialIn K (.builtin "object.__class__") "__get__"=some (some (.builtin "getset_descriptor.__get__"))) (htk:W.takesIn K (.builtin "object.__class__")=some true)
   (hm:W.mroIn K C (.type "object")=some true):TyOf K H (.ref a) (.ref C)
theorem ld' {x:V} {u t:Value} (I:Inv X pins σ H s) (rx:aD' x u) (ty:TyOf X.K H x t) (e:W.kitOne X.K t c=some b) (h:∀tk,Q (.bool b) { s with toks:=tk }):
  wpAny (model X.prog X.w) A (call (.builtin "isinstance") [u,c]) Q E s:=by
 cases ty with
 |non=>cases(show u=Value.none from rx);exact W.kia_one W.kitx_none I.kIn True.intro e (fun z=>nomatch z) h
 |bl y=>cases(show u=Value.bool y from rx);exact W.kia_one W.kitx_bool I.kIn True.intro e (fun z=>nomatch z) h
 |int i=>obtain⟨t,q⟩:=(show ∃t,u=Value.int i t from rx);cases q;exact W.kia_one W.kitx_int I.kIn True.intro e (fun z=>nomatch z) h
 |str y=>obtain⟨t,q⟩:=(show ∃t,u=Value.str y t from rx);cases q;exact W.kia_one W.kitx_str I.kIn True.intro e (fun z=>nomatch z) h
 |flt y=>obtain⟨t,q⟩:=(show ∃t,u=Value.float y t from rx);cases q;exact W.kia_one W.kitx_float I.kIn True.intro e (fun z=>nomatch z) h
 | @lst a xs ea=>
  cases(show u=Value.ref a from rx)
  obtain⟨_,_,n,_,h1⟩:=(show aG' X.prog X.w H s.heap a (.lst xs) from I.hok a _ ea)
  exact W.kia_one W.kitx_list I.kIn ⟨_,h1,rfl⟩ e (fun z=>nomatch z) h
 | @frz a ob xs ea=>
  cases(show u=Value.ref a from rx)
  obtain⟨_,_,_,n,_,h1⟩:=(show aG' X.prog X.w H s.heap a (.frz ob (.lst xs)) from I.hok a _ ea)
  exact W.kia_one W.kitx_list I.kIn ⟨_,h1,rfl⟩ e (fun z=>nomatch z) h
 | @tup a xs ea=>
  cases(show u=Value.ref a from rx)
  obtain⟨_,_,_,p⟩:=(show aG' X.prog X.w H s.heap a (.tup xs) from I.hok a _ ea)
  obtain⟨o,h1,h2,_⟩:=p
  exact W.kia_one W.kitx_tuple I.kIn ⟨o,h1,h2⟩ e (fun z=>nomatch z) h
 | @dK a kvs ea=>
  cases(show u=Value.ref a from rx)
  obtain⟨_,_,vs,_,p⟩:=(show aG' X.prog X.w H s.heap a (.dK kvs) from I.hok a _ ea)
  obtain⟨o,es,ep,h1,h2,_⟩:=p
  exact W.kia_one W.kitx_dict I.kIn ⟨o,h1,h2.1⟩ e (fun z=>nomatch z) h
 | @dT a kvs ea=>
  cases(show u=Value.ref a from rx)
  obtain⟨_,_,xs,_,o,es,ep,h1,h2,_⟩:=(show aG' X.prog X.w H s.heap a (.dT kvs) from I.hok a _ ea)
  exact W.kia_one W.kitx_dict I.kIn ⟨o,h1,h2.1⟩ e (fun z=>nomatch z) h
 | @ins a C dx fs ea cl ha hn htk hm=>
  cases(show u=Value.ref a from rx)
  obtain⟨mA,O,_⟩:=sd' I.hok ea
  obtain⟨od,J,_⟩:=O.look
  exact W.kia_one (W.kitx_own (cl.get _) cl.hd ha hn htk hm) I.kIn J e (fun z=>nomatch z) h
end
structure Room (k:Nat) (A:Around):Prop where
 hd:A.handled=none
 dp:A.depth+3*k+5<recursionLimit
 un:A.units+16*k+200<cLine
 gd:A.guards=some []
theorem Room.mono {j k:Nat} {A:Around} (r:Room k A) (h:j<=k):Room j A:=⟨r.hd,by have:=r.dp;omega,by have:=r.un;omega,r.gd⟩
theorem Room.deeper {k:Nat} {A:Around} (r:Room (k+1) A) (env:Env):Room k (A.deeper env):=
 ⟨r.hd,by have:=r.dp;show A.depth+1+3*k+5<_;omega,by have:=r.un;show A.units+3+16*k+200<_;omega,r.gd⟩
theorem Room.depth {k:Nat} {A:Around} (r:Room k A):A.depth<recursionLimit:=by have:=r.dp;omega
theorem Room.units {k:Nat} {A:Around} (r:Room k A):A.units+64<cLine:=by have:=r.un;omega
def gU':TA:=fun _ H Q=>Q [] H
def bA' (ta:TE) (tr:TA):TA:=fun σ H Q=>ta σ H fun x H1=>tr σ H1 fun xs H2=>Q (x :: xs) H2
section
variable {X:Cx} {e:Expr} {es:List Expr} {te:TE} {t:TA} {pos:Pos}
theorem eV':PA X [] gU':=fun _ _ _ _ H Q I h=>Calls.spliced_nil ⟨[],H,I,.nil,h⟩
theorem bC' (ha:PE X e te) (hr:PA X es t) (hs:starEach (e :: es) X.env=(false,eval e X.env) :: starEach es X.env:=by rfl):PA X (e :: es) (bA' te t):=by
 intro pos pins s σ H Q I h
 rw[hs]
 show wpAny _ _ (spliced ((false,eval e X.env) :: backTo pos (starEach es X.env))) _ _ s
 refine Calls.spliced_cons (thn (ha pins s σ H _ I h) fun u s1 ⟨x,H1,I1,r1,q1⟩=>?_)
 exact thn (hr pos pins s1 σ H1 _ I1 q1) fun us s2 ⟨xs,H2,I2,r2,q2⟩=>⟨x :: xs,H2,I2,.cons r1 r2,q2⟩
def vA' (t:TA):TE:=fun σ H Q=>t σ H fun xs H1=>xs.length<=sizeLine/\∀p,H1 p=none->Q (.ref p) (upd H1 p (.tup xs))
def Av' (t:TA):TE:=fun σ H Q=>t σ H fun xs H1=>xs.length<=sizeLine/\∀p,H1 p=none->Q (.ref p) (upd H1 p (.lst xs))
theorem qK' {x1} (h:PA X es t):PE X (.Tuple es x1 pos) (vA' t):=by
 intro pins s σ H Q I hq
 refine wpAny_Tuple_spliced (thn (h pos pins s σ H _ I hq) fun us s1 ⟨xs,H1,I1,r,z,q⟩=>⟨by rw[<- r.length];exact z,?_⟩)
 have hf:H1 s1.heap.objs.size=none:=I1.hok.fresh (ak _)
 refine⟨.ref s1.heap.objs.size,upd H1 s1.heap.objs.size (.tup xs),I1.laid (t':=s1.toks) (fun b u e=>ag _ e) (ak _) ?_,rfl,q _ hf⟩
 exact⟨z,us,r,⟨_,aC _ rfl,rfl,⟨_,rfl⟩,rfl⟩⟩
theorem vB' (h:PA X es t):PE X (.List es pos) (Av' t):=by
 intro pins s σ H Q I hq
 refine wpAny_List_spliced (thn (h pos pins s σ H _ I hq) fun us s1 ⟨xs,H1,I1,r,z,q⟩=>⟨by rw[<- r.length];exact z,?_⟩)
 have hf:H1 s1.heap.objs.size=none:=I1.hok.fresh (ak _)
 refine⟨.ref s1.heap.objs.size,upd H1 s1.heap.objs.size (.lst xs),I1.laid (t':=s1.toks) (fun b u e=>ag _ e) (ak _) ?_,rfl,q _ hf⟩
 exact⟨z,us,0,r,aC _ rfl⟩
end
abbrev Sp:=List V->Hp->VK->XK->Prop
abbrev CXT:=List Env->Hp->Shared->XK->Value->Shared->Prop
structure Env0 (P:Program) (w:World) (K:W.Frag) (mg:Str->Option Value) (base:Heap) (A:Around) (outer:List Env) (s:Shared) (H:Hp):Prop where
 frames:A.frames=some outer
 mod:Mod K mg base
 bs:∀b o,base.get? b=some o->s.heap.get? b=some o/\H b=none
 bsz:base.objs.size<=s.heap.objs.size
 funs:s.heap.FunFrames base outer
 frf:∀b∈frs outer,H b=none
 hok:HOk P w H s.heap
 bare:AllBare s.gens
def CE (outer:List Env) (P:Program) (w:World) (H:Hp) (s:Shared) (Q:VK) (u:Value) (s':Shared):Prop:=
 ∃v H',s'.os=s.os/\AllBare s'.gens/\Un (frs outer) [] H H' s.heap s'.heap/\HOk P w H' s'.heap/\aD' v u/\Q v H'
def CR (CX:CXT) (outer:List Env) (P:Program) (w:World) (H:Hp) (s:Shared) (Q:VK) (E:XK) (r:Result) (s':Shared):Prop:=
 match r with
 | .ok (.ret u)=>CE outer P w H s Q u s'
 | .ok _=>False
 | .error e=>CX outer H s E e s'
structure FnOk (P:Program) (w:World) (K:W.Frag) (mg:Str->Option Value) (base:Heap) (CX:CXT) (k:Nat) (f:Addr) (fd:FuncData) (ps:List Str) (sp:Sp):Prop where
 len:∀vs H Q E,sp vs H Q E->vs.length=ps.length
 run:∀(A:Around) (outer:List Env) (s:Shared) (H:Hp) (args:Args) (us:List Value) (vs:List V) (Q:VK) (E:XK),Room k A->Env0 P w K mg base A outer s H->BindsTo s fd args (ps.zip us)->aK' vs us->sp vs H Q E->
  codeAny (model P w) A (.call (.ref f) args) (CR CX outer P w H s Q E) s
theorem FnOk.mono {P:Program} {w:World} {K:W.Frag} {mg:Str->Option Value} {base:Heap} {CX:CXT} {j k:Nat} {f:Addr} {fd:FuncData} {ps:List Str} {sp:Sp} (F:FnOk P w K mg base CX j f fd ps sp) (h:j<=k):
  FnOk P w K mg base CX k f fd ps sp:=⟨F.len,fun A outer s H args us vs Q E hr=>F.run A outer s H args us vs Q E (hr.mono h)⟩
section
variable {X:Cx} {pins:List (Addr×Obj)} {σ:St} {H:Hp} {s s':Shared}
theorem Inv.env0 (I:Inv X pins σ H s):Env0 X.prog X.w X.K X.mg X.base X.A X.stack s H:=
 ⟨I.ok.frames,I.ok.mod,I.bs,aq I.ok.bsz I.sz,I.stack,I.stkFree,I.hok,I.bare⟩
theorem Inv.after {Q:VK} {u:Value} (I:Inv X pins σ H s) (h:CE X.stack X.prog X.w H s Q u s'):EP X pins σ Q u s':=by
 obtain⟨v,H',os,bare,un,hok,r,q⟩:=h
 obtain⟨hh,g,d,t,os'⟩:=s'
 obtain rfl:os'=s.os:=os
 exact⟨v,H',I.call (h':=hh) (g':=g) (d':=d) (t':=t) (ch:=[]) un hok bare (fun b z=>absurd z (by simp)),r,q⟩
end
def ox' (sp:Sp) (dvs:List V) (E:XK) (t:TA):TE:=fun σ H Q=>t σ H fun vs H1=>sp (vs++dvs) H1 Q E
def fS' (K:W.Frag) (fd:FuncData) (ps:List Str) (ds:List Value):Prop:=
 ∀(s:Shared) (us:List Value),K.In s.heap->(us++ds).length=ps.length->BindsTo s fd ⟨us,[]⟩ (ps.zip (us++ds))
theorem fS'.all {K:W.Frag} {fd:FuncData} {ps:List Str} (h:∀us:List Value,us.length=ps.length->bindArgs fd ⟨us,[]⟩=pure (ps.zip us)):fS' K fd ps []:=fun s us _ hl=>by
 rw[cW]at hl ⊢
 exact .of_eq (h us hl)
structure FnScope (N P:List Str) (sc:Scope):Prop where
 kind:sc.kind=.function
 co:sc.isCoroutine=false
 gen:sc.isGenerator=false
 nd:N.Nodup
 pre:N.take P.length=P
 par:∀x∈P,sc.names.lookup x=some .local\/sc.names.lookup x=some .cell
 nofree:∀y∈sc.names,y.2≠.free
theorem gZ' {kindOf:Str->Option NameKind} {x:Str}:∀{binds:List (Str×Value)} {m:Str->Option Value},(∀v,(x,v)∉binds)->bindL kindOf binds m x=m x
 | [],_,_=>rfl
 |(n,v) :: r,m,h=>by
  unfold bindL
  rw[gZ' fun w hw=>h w (aF _ hw)]
  split
  .have:x≠n:=by rintro rfl;exact h v aJ
   simp[this]
  .rfl
theorem g0' {kindOf:Str->Option NameKind} {x:Str}:∀{binds:List (Str×Value)} {m:Str->Option Value},(∀v,(x,v)∉binds)->bindC kindOf binds m x=m x
 | [],_,_=>rfl
 |(n,v) :: r,m,h=>by
  unfold bindC
  rw[g0' fun w hw=>h w (aF _ hw)]
  split
  .rfl
  .have:x≠n:=by rintro rfl;exact h v aJ
   simp[this]
theorem g2' {kindOf:Str->Option NameKind} {x:Str} {v:Value}:∀{P:List Str} {vs:List Value} {i:Nat} {m:Str->Option Value},P.Nodup->P[i]?=some x->vs[i]?=some v->kindOf x=some .local->
  bindL kindOf (P.zip vs) m x=some v
 | [],_,_,_,_,h,_,_=>by simp at h
 |_ :: _,[],_,_,_,_,h,_=>by simp at h
 |p :: P,w :: vs,0,m,nd,h1,h2,hk=>by
  simp at h1 h2;subst h1;subst h2
  show bindL kindOf ((p,w) :: P.zip vs) m p=_
  unfold bindL
  rw[gZ' fun v hv=>(cu.mp nd).1 (List.of_mem_zip hv).1,if_pos hk]
  simp
 |p :: P,w :: vs,i+1,m,nd,h1,h2,hk=>by
  show bindL kindOf ((p,w) :: P.zip vs) m x=_
  unfold bindL
  exact g2' (i:=i) (cu.mp nd).2 (by simpa using h1) (by simpa using h2) hk
theorem g3' {kindOf:Str->Option NameKind} {x:Str} {v:Value}:∀{P:List Str} {vs:List Value} {i:Nat} {m:Str->Option Value},P.Nodup->P[i]?=some x->vs[i]?=some v->kindOf x≠some .local->
  bindC kindOf (P.zip vs) m x=some v
 | [],_,_,_,_,h,_,_=>by simp at h
 |_ :: _,[],_,_,_,_,h,_=>by simp at h
 |p :: P,w :: vs,0,m,nd,h1,h2,hk=>by
  simp at h1 h2;subst h1;subst h2
  show bindC kindOf ((p,w) :: P.zip vs) m p=_
  unfold bindC
  rw[g0' fun v hv=>(cu.mp nd).1 (List.of_mem_zip hv).1,if_neg hk]
  simp
 |p :: P,w :: vs,i+1,m,nd,h1,h2,hk=>by
  show bindC kindOf ((p,w) :: P.zip vs) m x=_
  unfold bindC
  exact g3' (i:=i) (cu.mp nd).2 (by simpa using h1) (by simpa using h2) hk
def ay' (N:List Str) (vs:List V):St:=vs.map some++az (N.length-vs.length) none
def uY' (CX:CXT) (P:Program) (w:World) (K:W.Frag) (mg:Str->Option Value) (base:Heap) (N:List Str) (qual:Str) (scope:Scope) (f:Addr) (cd:Value) (A:Around) (outer:List Env) (s:Shared) (H:Hp) (E:XK):Cx where
 prog:=P
 w:=w
 K:=K
 mg:=mg
 base:=base
 A:=A.deeper (envOfC qual scope s.heap.objs.size f cd)
 N:=N
 s₀:=s
 H₀:=H
 env:=envOfC qual scope s.heap.objs.size f cd
 outer:=outer
 stack:=envOfC qual scope s.heap.objs.size f cd :: outer
 ex:=[]
 calm:=true
 fn:=fun _=>true
 pn:=[]
 xe:=fun e s'=>wpAny (model P w) (A.deeper (envOfC qual scope s.heap.objs.size f cd)) (leaving (envOfC qual scope s.heap.objs.size f cd) e) (fun _ s''=>CX outer H s E e s'') (fun e' s''=>CX outer H s E e' s'') s'
theorem go' {sc:Scope} {n:Nat} {x:Str} (h:sc.names.lookup x=some .cell):∃c,(cellsFrom n sc.names []).lookup x=some c:=by
 have q:=W.cellsFrom_some sc.names n [] (.inl h)
 exact Option.isSome_iff_exists.mp q
theorem le' {CX:CXT} {P:Program} {w:World} {K:W.Frag} {mg:Str->Option Value} {base:Heap} {N ps:List Str} {qual:Str} {scope:Scope} {f:Addr} {cd:Value} {A:Around} {outer:List Env} {s s1:Shared} {H:Hp} {E:XK} {us:List Value} {vs:List V}
  (S:FnScope N ps scope) (hd:A.handled=none) (e0:Env0 P w K mg base A outer s H) (hl:vs.length=ps.length) (r:aK' vs us)
  (x:InCallC s s.heap.objs.size (bindL (envOfC qual scope s.heap.objs.size f cd).kindOf (ps.zip us) fun _=>none) (cellsFrom (s.heap.objs.size+1) scope.names []) (bindC (envOfC qual scope s.heap.objs.size f cd).kindOf (ps.zip us) fun _=>none) s1):
  Inv (uY' CX P w K mg base N qual scope f cd A outer s H E) [] (ay' N vs) H s1:=by
 have hpl:ps.length<=N.length:=by have:=congrArg List.length S.pre;rw[aS]at this;omega
 obtain⟨h1,tk,rfl,hk⟩:=x.done
 have noA:∀b:Addr,b∉(uY' CX P w K mg base N qual scope f cd A outer s H E).ex:=fun b z=>absurd (show b∈([]:List Addr) from z) (by simp)
 refine⟨⟨e0.mod,S.kind,rfl,rfl,ak _,fun y z c h1 h2=>?_,fun y hy=>?_,fun y c _ h=>?_,fun _=>hd,Around.frames_deeper e0.frames,.inr ⟨rfl,rfl⟩,fun b z=>absurd z (noA b),e0.bs,e0.bsz,fun b _ _=>noA b,fun b z=>absurd z (noA b),e0.funs,e0.frf⟩,
  rfl,e0.bare,Un.kept hk,⟨_,x.toInCall.ns,fun i y v h1 h2 h3=>?_⟩,fun y c h=>⟨_,x.cell y c h⟩,e0.hok.fresh (ak _),fun y c h=>?_,fun p hp=>absurd (show p∈([]:List (Addr×Obj)) from hp) (by simp),e0.hok.kept hk,?_⟩
 .exact name_of_addr x.apart (PySem.mem_of_lookup h1) (PySem.mem_of_lookup h2)
 .have hy:scope.names.lookup y=some .cell\/scope.names.lookup y=some .free:=hy
  rcases hy with hy|hy
  .exact go' hy
  .exact absurd rfl (S.nofree _ (PySem.mem_of_lookup hy))
 .exact cC (x.above y c (PySem.mem_of_lookup h))
 .have hi:i<vs.length:=by
   unfold ay' at h2
   by_cases hi:i<vs.length
   .exact hi
   .rw[List.getElem?_append_right (by simpa using hi)]at h2
    rw[List.getElem?_replicate]at h2
    split at h2<;>cases h2
  have ha:vs[i]?=some v:=by
   unfold ay' at h2
   rw[List.getElem?_append_left (by simpa using hi),ao]at h2
   cases e:vs[i]? with
   |none=>rw[e]at h2;cases h2
   |some a=>rw[e]at h2;cases h2;rfl
  obtain⟨u,hu,rv⟩:=r.get ha
  have hp:ps[i]?=some y:=by
   rw[<- S.pre,List.getElem?_take_of_lt (by omega)];exact h1
  have ndP:ps.Nodup:=by rw[<- S.pre];exact S.nd.sublist (List.take_sublist _ _)
  refine⟨u,rv,?_⟩
  rcases S.par y (aD hp)with k|k
  .exact .inl ⟨k,g2' ndP hp hu k⟩
  .obtain⟨c,e⟩:=go' (n:=s.heap.objs.size+1) k
   refine .inr ⟨.inl k,c,e,?_⟩
   have q:=x.cell y c e
   rw[g3' ndP hp hu (by show scope.names.lookup y≠_;rw[k];decide)]at q
   exact q
 .exact e0.hok.fresh (cC (x.above y c (PySem.mem_of_lookup h)))
 .unfold ay'
  show _=N.length
  rw[au,ac,bI]
  omega
theorem Aw' {CX:CXT} {P:Program} {w:World} {K:W.Frag} {mg:Str->Option Value} {base:Heap} {k:Nat} {f:Addr} {name qual:Str} {params:Arguments} {body:List Stmt} {scope:Scope} {dV kV doc pm cdv ct oc:Value} {an od:Option Addr}
  {osl:Array (Option Value)} {N ps:List Str} {sp:Sp} (lk:K.lookup f=some ⟨oc,od,.func (W.fnOf name qual params body scope dV kV doc pm an cdv ct),osl⟩) (hcd:W.codeIn K cdv qual=true) (S:FnScope N ps scope)
  (len:∀vs H Q E,sp vs H Q E->vs.length=ps.length)
  (hbody:∀(A:Around) (outer:List Env) (s:Shared) (H:Hp) (vs:List V) (Q:VK) (E:XK),Room k (A.deeper (envOfC qual scope s.heap.objs.size f cdv))->sp vs H Q E->
   ∃t,PSs (uY' CX P w K mg base N qual scope f cdv A outer s H E) body t/\t { nx:=fun _ H'=>Q .non H',rt:=Q } (ay' N vs) H):
  FnOk P w K mg base CX (k+1) f (W.fnOf name qual params body scope dV kV doc pm an cdv ct) ps sp:=by
 refine⟨len,fun A outer s H args us vs Q E hr e0 hb r hsp=>?_⟩
 have hl:=len _ _ _ _ hsp
 have KX:K.In s.heap:=e0.mod.kin.keeps fun b o e=>(e0.bs b o e).1
 have lim:s.heap.NoLimit:=e0.mod.nolimit.keeps fun b o e=>(e0.bs b o e).1
 have hkind:∀y∈ps.zip us,scope.names.lookup y.1=some .local\/(scope.names.lookup y.1=some .cell/\((cellsFrom (s.heap.objs.size+1) scope.names []).lookup y.1).isSome=true):=fun⟨n,v⟩ hy=>by
  rcases S.par n (List.of_mem_zip hy).1 with q|q
  .exact .inl q
  .exact .inr ⟨q,W.cellsFrom_some _ _ _ (.inl q)⟩
 refine codeAny_call_function hr.depth (KX _ _ lk) rfl S.co S.gen rfl (W.codeRec_of KX hcd) (hb _ _ _ _ ?_)
 refine wpAny_newFunctionEnv_cells S.kind hkind fun env he s1 x=>?_
 subst he
 refine⟨lim.keeps x.toInCall.keep,codeAny_func ?_⟩
 obtain⟨t,ht,hq⟩:=hbody A outer s H vs Q E (hr.deeper _) hsp
 have I:Inv (uY' CX P w K mg base N qual scope f cdv A outer s H E) [] (ay' N vs) H s1:=le' S hr.hd e0 hl r x
 refine wpAny_mono (ht [] s1 (ay' N vs) H _ I hq) (fun fl s' hs=>?_) fun e s' hs=>hs
 have fin:∀{σ':St} {H':Hp} {v:V} {u:Value},Inv (uY' CX P w K mg base N qual scope f cdv A outer s H E) [] σ' H' s'->aD' v u->Q v H'->CE outer P w H s Q u s':=
  fun {σ' H' v u} J rv q=>⟨v,H',J.os,J.bare,J.base,J.hok,rv,q⟩
 cases fl with
 |ret u=>
  obtain⟨v,σ',H',J,rv,q⟩:=hs
  exact fin J rv q
 |next=>
  obtain⟨σ',H',J,q⟩:=hs
  exact fin (v:=V.non) (u:=Value.none) J rfl q
 |brk=>
  obtain⟨_,_,_,q⟩:=hs
  exact False.elim q
 |cont=>
  obtain⟨_,_,_,q⟩:=hs
  exact False.elim q
section
variable {X:Cx} {x:Str} {p pos:Pos} {e:Expr} {es:List Expr} {t:TA} {id T:String} {r:List V->Hp->VK->Prop}
def tCB (r:List V->Hp->VK->Prop) (t:TA):TE:=fun σ H Q=>t σ H fun vs H1=>r vs H1 Q
theorem oy' (hc:a5' X (.builtin id) r) (hg:Gl X x) (hm:X.mg x=none) (hv:bootBuiltins x=some (.builtin id)) (ha:PA X (e :: es) t) (hn:x≠"__name__":=by decide) (hdb:(x == ("__debug__":Str))=false:=by decide)
  (he:starEach (e :: es) X.env=(false,eval e X.env) :: starEach es X.env:=by rfl) (hpl:(backTo pos (starEach es X.env)).any (·.1)=false:=by rfl):PE X (.Call (.Name x p) (e :: es) [] pos) (tCB r t):=by
 intro pins s σ H Q I h
 refine wpAny_Call_Name_kw (eg' I hg hm hv ?_ hn hdb)
 exact PyProof.Rows.callWith_builtin1 (thn (ha pos pins s σ H _ I h) fun us s1 ⟨vs,H1,I1,r1,q1⟩=>hc pins s1 σ H1 vs us Q I1 r1 q1) he hpl
theorem lf' (hc:a5' X (.type T) r) (hg:Gl X x) (hm:X.mg x=none) (hv:bootBuiltins x=some (.type T)) (ha:PA X (e :: es) t) (hn:x≠"__name__":=by decide) (hdb:(x == ("__debug__":Str))=false:=by decide)
  (he:starEach (e :: es) X.env=(false,eval e X.env) :: starEach es X.env:=by rfl) (hpl:(backTo pos (starEach es X.env)).any (·.1)=false:=by rfl):PE X (.Call (.Name x p) (e :: es) [] pos) (tCB r t):=by
 intro pins s σ H Q I h
 refine wpAny_Call_Name_kw (eg' I hg hm hv ?_ hn hdb)
 exact PyProof.Rows.callWith_type1 (thn (ha pos pins s σ H _ I h) fun us s1 ⟨vs,H1,I1,r1,q1⟩=>hc pins s1 σ H1 vs us Q I1 r1 q1) he hpl
end
end L2
namespace HT
open PySem PyProof.Rows
section
open PySem.SeqAt
open PySem.AutoSeq1 (wpAny_loadPart')
open PySem.MeetsSeq PySem.MeetsSeq2 PySem.MeetsSeq3
end
section
variable {prog:Program} {w:World} {A:Around} {E:Value->Shared->Prop} {s:Shared}
theorem se' {t b:Addr} {vs ws:List Value} {Q:Value->Shared->Prop} (ht:IsTup s.heap t vs.toArray) (hb:IsTup s.heap b ws.toArray) (hv:vs≠[])
  (h1:ws=[]->Q (.ref t) s) (h2:ws≠[]->Q (.ref s.heap.objs.size) { s with heap:=s.heap.push { cls:=.type "tuple",data:=.seq (vs++ws).toArray } })
  (hsz:vs.length+ws.length<=sizeLine):wpAny (model prog w) A (binaryOp .Add (.ref t) (.ref b)) Q E s:=by
 obtain⟨⟨cls,dd,data,sl⟩,ho,hc,n,hd⟩:=id ht
 obtain⟨⟨cls2,dd2,data2,sl2⟩,ho2,hc2,n2,hd2⟩:=id hb
 simp only at hc hd hc2 hd2
 subst hc hd hc2 hd2
 have e:vs.toArray++ws.toArray=(vs++ws).toArray:=by simp
 by_cases hw:ws=[]
 .exact concat_meets ⟨_,ho,rfl⟩ ⟨_,ho2,rfl⟩ noFill_tuple_add seq_tuple_add PySem.F.slot_tuple_add PySem.F.entry_tuple_add (PySem.F.args_tuple_add_2 _ _)
   (tuple_addW1 t b vs.toArray ws.toArray n n2 dd dd2 sl sl2 (by simpa using hv) (by simp[hw])) ⟨ho,ho2,h1 hw⟩
 .refine concat_meets ⟨_,ho,rfl⟩ ⟨_,ho2,rfl⟩ noFill_tuple_add seq_tuple_add PySem.F.slot_tuple_add PySem.F.entry_tuple_add (PySem.F.args_tuple_add_2 _ _)
   (tuple_addW2 t b vs.toArray ws.toArray n n2 dd dd2 sl sl2 (by simpa using hv) (by simpa using hw) (by rw[ai,ai];exact hsz)) ⟨ho,ho2,?_⟩
  rw[e]
  exact h2 hw
def sIx (n d:Nat):Option Int->Nat
 |none=>d
 |some v=>if v<0 then(v+(n:Int)).toNat else min v.toNat n
theorem oz' (n d:Nat):sIx n d none=d:=rfl
theorem sf' (n d k:Nat):sIx n d (some (k:Int))=min k n:=by
 show(if(k:Int)<0 then((k:Int)+(n:Int)).toNat else min (k:Int).toNat n)=min k n
 rw[if_neg (by omega),bb]
theorem vC' (n d:Nat) (hd:d<=n) (o:Option Int):sIx n d o<=n:=by
 cases o with
 |none=>exact hd
 |some v=>
  show(if v<0 then(v+(n:Int)).toNat else min v.toNat n)<=n
  by_cases hv:v<0
  .rw[if_pos hv];omega
  .rw[if_neg hv];exact Nat.min_le_right _ _
theorem lg' (v:Int) (n d:Nat):(if v<0 then max (v+(n:Int)) 0 else min v (n:Int))=((sIx n d (some v):Nat):Int):=by
 show(if v<0 then max (v+(n:Int)) 0 else min v (n:Int))=(((if v<0 then(v+(n:Int)).toNat else min v.toNat n):Nat):Int)
 by_cases hv:v<0
 .simp only[if_pos hv];omega
 .simp only[if_neg hv];omega
theorem j9' (lo hi:Option Int) (n:Nat):Builtin.Slice.sliceAdjust lo hi 1 (n:Int)=(((sIx n 0 lo:Nat):Int),((sIx n n hi:Nat):Int)):=by
 have h1:¬((1:Int)<0):=by omega
 unfold Builtin.Slice.sliceAdjust
 simp only[h1,if_false]
 refine Prod.ext ?_ ?_
 .cases lo with
  |none=>rfl
  |some v=>exact lg' v n 0
 .cases hi with
  |none=>rfl
  |some v=>exact lg' v n n
theorem ka' (i j:Nat):Builtin.Slice.slicePlaces (i:Int) (j:Int) 1=j-i:=by
 unfold Builtin.Slice.slicePlaces
 have h1:(1:Int) > 0:=by omega
 simp only[h1,if_true,Int.ediv_one]
 split<;>omega
theorem f3' {v:Value} {o:Option Int} {Q:Option Int->Shared->Prop} (p:IsPart v o) (h:Q o s):wpAny (model prog w) A (Builtin.Slice.slicePartIndex v) Q E s:=by
 cases p with
 |none=>exact slicePart_none h
 |int i t=>exact slicePart_int h
theorem dq' {sl:Addr} {vl vu:Value} {lo hi:Option Int} {n:Nat} {Q:Int×Int×Nat->Shared->Prop} (hs:s.heap.IsSliceOf sl vl vu .none) (pl:IsPart vl lo) (pu:IsPart vu hi)
  (h:Q (((sIx n 0 lo:Nat):Int),1,sIx n n hi-sIx n 0 lo) s):wpAny (model prog w) A (Builtin.Slice.sliceApplied (.ref sl) (pure (n:Int))) Q E s:=by
 obtain⟨os,hos,hcs,hds⟩:=id hs
 unfold Builtin.Slice.sliceApplied Builtin.Slice.sliceFields
 refine ab (ab (bu hos hds (x:=vl) rfl (ab (bu hos hds (x:=vu) rfl (ab (bu hos hds (x:=.none) rfl (av ?_)))))))
 refine ab (slicePart_none ?_)
 show wpAny _ _ (if((1:Int) == 0)=true then _ else _) _ _ s
 rw[if_neg (by decide)]
 refine ab (f3' pl (ab (f3' pu (ab (av ?_)))))
 show wpAny _ _ (match Builtin.Slice.sliceAdjust lo hi 1 (n:Int)with|(lo,hi)=>pure (lo,(1:Int),Builtin.Slice.slicePlaces lo hi 1)) _ _ s
 rw[j9' lo hi n]
 show wpAny _ _ (pure (((sIx n 0 lo:Nat):Int),(1:Int),Builtin.Slice.slicePlaces ((sIx n 0 lo:Nat):Int) ((sIx n n hi:Nat):Int) 1)) _ _ s
 rw[ka']
 exact av h
theorem oA' (xs:Array Value) (i k:Nat):((ah k).filterMap fun(m:Nat)=>xs[((i:Int)+(m:Int)*1).toNat]?).toArray=((xs.toList.drop i).take k).toArray:=by
 have e:(fun(m:Nat)=>xs[((i:Int)+(m:Int)*1).toNat]?)=fun m=>xs[i+m]?:=by
  funext m
  have:((i:Int)+(m:Int)*1).toNat=i+m:=by omega
  rw[this]
 rw[e]
 have:=pick_run xs i k
 rw[List.filterMap_map]at this
 have e2:((fun x=>xs[x]?)∘fun x=>i+x)=fun m=>xs[i+m]?:=rfl
 rw[e2]at this
 rw[this]
theorem eE' {t sl:Addr} {items:Array Value} {vl vu:Value} {lo hi:Option Int} {Q:Value->Shared->Prop} (ht:IsTup s.heap t items) (hs:s.heap.IsSliceOf sl vl vu .none) (pl:IsPart vl lo) (pu:IsPart vu hi)
  (hw:¬(sIx items.size 0 lo=0/\sIx items.size items.size hi=items.size))
  (h:Q (.ref s.heap.objs.size) { s with heap:=s.heap.push { cls:=.type "tuple",data:=.seq ((items.toList.drop (sIx items.size 0 lo)).take (sIx items.size items.size hi-sIx items.size 0 lo)).toArray } })
  (hsz:items.size<=sizeLine):wpAny (model prog w) A (getItem (.ref t) (.ref sl)) Q E s:=by
 have htake:sizeOk (.seq ((items.toList.drop (sIx items.size 0 lo)).take (sIx items.size items.size hi-sIx items.size 0 lo)).toArray):=by
  show((items.toList.drop (sIx items.size 0 lo)).take (sIx items.size items.size hi-sIx items.size 0 lo)).toArray.size<=sizeLine
  rw[ai,aS,di,aM]
  omega
 have hj:sIx items.size items.size hi<=items.size:=vC' _ _ (ak _) hi
 obtain⟨os,hos,hcs,hds⟩:=id hs
 have hTs:s.TypeIs (.ref sl) "slice":=⟨os,hos,hcs⟩
 unfold getItem
 try with_reducible refine br ?_
 first|refine ab (av ?_)|skip
 refine ab (wpAny_sequenceKey ht.typeIs (by decide) ?_)
 refine ab (bD (name:=Str.ofString "__getitem__") ht.typeIs PyProof.Rows.slot_tuple_getitem
  (cg PyProof.Rows.slot_tuple_getitem ht.typeIs entry_tuple_getitem ?_ (args_tuple_getitem _ _)))
 show wpAny _ _ (Builtin.Tuple.tupleItemsOf (.ref t) >>= _) _ _ s
 refine ab (tupleItemsOf_ ht ?_)
 refine ab (wpAny_typeOf hTs ?_)
 rw[if_pos (by decide)]
 refine ab (dq' hs pl pu ?_)
 have hno:¬((((sIx items.size 0 lo:Nat):Int) == 0&&(1:Int) == 1&&(sIx items.size items.size hi-sIx items.size 0 lo) == items.size)=true):=by
  intro q
  rw[af,af]at q
  have q1:((sIx items.size 0 lo:Nat):Int)=0:=eq_of_beq q.1.1
  have q2:sIx items.size items.size hi-sIx items.size 0 lo=items.size:=eq_of_beq q.2
  exact hw ⟨by omega,by omega⟩
 show wpAny _ _ (if(((sIx items.size 0 lo:Nat):Int) == 0&&(1:Int) == 1&&(sIx items.size items.size hi-sIx items.size 0 lo) == items.size)=true then _ else _) _ _ s
 rw[if_neg hno,oA']
 first
  |exact ab (m:=Builtin.Tuple.tupleExact _) (bP (av ⟨_,rfl,av h⟩) htake)
  |exact ab (m:=Builtin.Tuple.tupleExact _) (bP (ab (av (av ⟨_,rfl,av h⟩))) htake)
  |exact ab (ab (m:=Builtin.Tuple.tupleExact _) (bP (av (av ⟨_,rfl,av h⟩)) htake))
  |exact ab (ab (m:=Builtin.Tuple.tupleExact _) (bP (av ⟨_,rfl,av h⟩) htake))
end
end HT
namespace L2
open PySem PySem.Spec PyProof.Rows
abbrev TO:=St->Hp->(Option Int->Hp->Prop)->Prop
def PO (X:Cx) (e:Option Expr) (t:TO):Prop:=
 ∀(pins:List (Addr×Obj)) (s:Shared) (σ:St) (H:Hp) (Q:Option Int->Hp->Prop),Inv X pins σ H s->t σ H Q->
  wpAny (model X.prog X.w) X.A (evalPart e X.env) (fun u s'=>∃o H',Inv X pins σ H' s'/\IsPart u o/\Q o H') X.xe s
def iw':TO:=fun _ H Q=>Q none H
def sg' (t:TE):TO:=fun σ H Q=>t σ H fun x H1=>∃i,x=.int i/\Q (some i) H1
theorem eF' {ns:List Int}:∀{us:List Value},aK' (ns.map V.int) us->IntsAre us ns:=by
 induction ns with
 |nil=>intro us r;rw[List.map_nil]at r;cases r;exact .nil
 |cons n ns ih=>
  intro us r
  rw[aN]at r
  cases r with
  |cons r1 r2=>
   obtain⟨t,e⟩:=r1
   subst e
   exact .cons n t (ih r2)
section
variable {X:Cx} {e:Expr} {te:TE} {lo hi:Option Expr} {tl th:TO} {pos p2:Pos}
theorem sh':PO X none iw':=by
 intro pins s σ H Q I h
 rw[evalPart_none]
 exact av ⟨none,H,I,.none,h⟩
theorem si' (h:PE X e te):PO X (some e) (sg' te):=by
 intro pins s σ H Q I hw
 rw[evalPart_some]
 refine thn (h pins s σ H _ I hw) fun u s1 ⟨x,H1,I1,r1,q1⟩=>?_
 obtain⟨i,rfl,q⟩:=q1
 obtain⟨t,rfl⟩:=r1
 exact⟨some i,H1,I1,.int i t,q⟩
def SlR (X:Cx) (r:V->Option Int->Option Int->Hp->VK->Prop):Prop:=
 ∀(pins:List (Addr×Obj)) (s:Shared) (σ:St) (H:Hp) (x:V) (v vl vu:Value) (lo hi:Option Int) (sl:Addr) (Q:VK),Inv X pins σ H s->aD' x v->s.heap.IsSliceOf sl vl vu .none->IsPart vl lo->IsPart vu hi->r x lo hi H Q->
  ∃T id,typeLookup (.type T) "__getitem__"=pure (some (.builtin id))/\s.TypeIs v T/\wpAny (model X.prog X.w) X.A (getItem v (.ref sl)) (EP X pins σ Q) X.xe s
theorem SlR.or {r r':V->Option Int->Option Int->Hp->VK->Prop} (h:SlR X r) (h':SlR X r'):SlR X (fun x lo hi H Q=>r x lo hi H Q\/r' x lo hi H Q):=by
 intro pins s σ H x v vl vu lo hi sl Q I rx hs pl pu q
 rcases q with q|q
 .exact h pins s σ H x v vl vu lo hi sl Q I rx hs pl pu q
 .exact h' pins s σ H x v vl vu lo hi sl Q I rx hs pl pu q
def tSl (r:V->Option Int->Option Int->Hp->VK->Prop) (te:TE) (tl th:TO):TE:=fun σ H Q=>te σ H fun x H1=>tl σ H1 fun l H2=>th σ H2 fun u H3=>r x l u H3 Q
theorem oB' {r:V->Option Int->Option Int->Hp->VK->Prop} (hr:SlR X r) (he:PE X e te) (hl:PO X lo tl) (hu:PO X hi th):PE X (.Subscript e (.Slice lo hi none p2) pos) (tSl r te tl th):=by
 intro pins s σ H Q I h
 refine Subscript_ (thn (he pins s σ H _ I h) fun v s1 ⟨x,H1,I1,r1,q1⟩=>?_)
 refine wpAny_Slice (thn (hl pins s1 σ H1 _ I1 q1) fun vl s2 ⟨l,H2,I2,pl,q2⟩=>thn (hu pins s2 σ H2 _ I2 q2) fun vu s3 ⟨u,H3,I3,pu,q3⟩=>?_)
 rw[evalPart_none]
 refine av ?_
 have I4:Inv X pins σ H3 { s3 with heap:=s3.heap.push { cls:=.type "slice",data:=.fields #[vl,vu,.none] } }:=I3.kept (t':=s3.toks) fun b ob q=>ag _ q
 obtain⟨T,id,hT,ht,hg⟩:=hr pins { s3 with heap:=s3.heap.push { cls:=.type "slice",data:=.fields #[vl,vu,.none] } } σ H3 x v vl vu l u s3.heap.objs.size Q I4 r1 (Heap.IsSliceOf.new ..) pl pu q3
 show wpAny (model X.prog X.w) X.A (subscriptTail e (.Slice lo hi none p2) v (.ref s3.heap.objs.size)) (EP X pins σ Q) X.xe { s3 with heap:=s3.heap.push { cls:=.type "slice",data:=.fields #[vl,vu,.none] } }
 exact tail_any (ops:=[.ref s3.heap.objs.size,v]) ht hT hg (by with_unfolding_all rfl)
def oC' (xs:List V) (lo hi:Option Int):List V:=(xs.drop (HT.sIx xs.length 0 lo)).take (HT.sIx xs.length xs.length hi-HT.sIx xs.length 0 lo)
theorem fq' (xs:List V) (lo hi:Option Int):(oC' xs lo hi).length<=xs.length:=by
 unfold oC'
 rw[aS,di]
 omega
def zQ' (K:W.Frag):V->Option Int->Option Int->Hp->VK->Prop:=fun x lo hi H Q=>∃a xs,x=.ref a/\SqT K H a xs/\
 ¬(HT.sIx xs.length 0 lo=0/\HT.sIx xs.length xs.length hi=xs.length)/\∀p,H p=none->Q (.ref p) (upd H p (.tup (oC' xs lo hi)))
theorem vD':SlR X (zQ' X.K):=by
 intro pins s σ H x v vl vu lo hi sl Q I rx hs pl pu h
 obtain⟨a,xs,rfl,hx,hw,q⟩:=h
 cases rx
 obtain⟨its,r,ht,hz⟩:=I.tuple hx
 have hlen:its.toArray.size=xs.length:=by rw[ai];exact r.length.symm
 refine⟨"tuple",_,PyProof.Rows.slot_tuple_getitem.lookup,ht.typeIs,?_⟩
 refine HT.eE' ht hs pl pu (by rw[hlen];exact hw) ?_ (by rw[hlen];exact hz)
 rw[hlen]
 refine⟨.ref s.heap.objs.size,_,I.laid (t':=s.toks) (o:=.tup (oC' xs lo hi)) (fun b ob q=>ag _ q) (ak _) ?_,rfl,q _ (I.hok.fresh (ak _))⟩
 exact⟨aq (fq' xs lo hi) hz,_,(r.drop (HT.sIx xs.length 0 lo)).take (HT.sIx xs.length xs.length hi-HT.sIx xs.length 0 lo),qz'.new _ _⟩
def vE' (K:W.Frag):R2:=fun x y H Q=>∃a b xs ys,x=.ref a/\y=.ref b/\SqT K H a xs/\SqT K H b ys/\xs≠[]/\xs.length+ys.length<=sizeLine/\
 (ys=[]->Q (.ref a) H)/\(ys≠[]->∀p,H p=none->Q (.ref p) (upd H p (.tup (xs++ys))))
theorem aK'.nil_iff {xs:List V} {us:List Value} (r:aK' xs us):us=[]↔xs=[]:=by
 cases r with
 |nil=>simp
 |cons _ _=>simp
theorem sj':OpR X (binaryOp .Add) (vE' X.K):=by
 intro pins s σ H x y v u Q I rx ry h
 obtain⟨a,b,xs,ys,rfl,rfl,ha,hb,hx,hz,q1,q2⟩:=h
 cases rx
 cases ry
 obtain⟨its,r1,p1,_⟩:=I.tuple ha
 obtain⟨its2,r2,p2,_⟩:=I.tuple hb
 refine HT.se' p1 p2 (fun z=>hx (r1.nil_iff.mp z)) (fun z=>⟨.ref a,H,I,rfl,q1 (r2.nil_iff.mp z)⟩) (fun z=>?_) (by rw[<- r1.length,<- r2.length];exact hz)
 refine⟨.ref s.heap.objs.size,_,I.laid (t':=s.toks) (o:=.tup (xs++ys)) (fun b ob q=>ag _ q) (ak _) ?_,rfl,q2 (fun w=>z (r2.nil_iff.mpr w)) _ (I.hok.fresh (ak _))⟩
 exact⟨by rw[au];exact hz,_,r1.append r2,qz'.new _ _⟩
end
def ixN (n:Nat) (i:Int):Option Nat:=if 0<=i then(if i<n then some i.toNat else none)else if -(n:Int)<=i then some (i+n).toNat else none
def atI {α:Type} (xs:List α) (i:Int):Option α:=(ixN xs.length i).bind fun j=>xs[j]?
theorem lh' {n:Nat} {i:Int} {j:Nat} (h:ixN n i=some j):seqIndex? i n=some j/\j<n/\-(n:Int)<=i/\i<n:=by
 unfold ixN at h
 by_cases h0:0<=i
 .rw[if_pos h0]at h
  by_cases h1:i<n
  .rw[if_pos h1]at h
   have e:i.toNat=j:=Option.some.inj h
   exact⟨by rw[seqIndex_of h0 h1,e],by omega,by omega,h1⟩
  .rw[if_neg h1]at h;cases h
 .rw[if_neg h0]at h
  by_cases h1:-(n:Int)<=i
  .rw[if_pos h1]at h
   have e:(i+n).toNat=j:=Option.some.inj h
   exact⟨by rw[seqIndex_neg (by omega) h1,e],by omega,h1,by omega⟩
  .rw[if_neg h1]at h;cases h
theorem gp' {α:Type} {xs:List α} {i:Int} {v:α} (h:atI xs i=some v):∃j,seqIndex? i xs.length=some j/\xs[j]?=some v/\j<xs.length/\-(xs.length:Int)<=i/\i<xs.length:=by
 unfold atI at h
 cases e:ixN xs.length i with
 |none=>rw[e]at h;cases h
 |some j=>
  rw[e]at h
  obtain⟨h1,h2,h3,h4⟩:=lh' e
  exact⟨j,h1,h,h2,h3,h4⟩
theorem a8' {α:Type} {xs:List α} {j:Nat} {v:α} (h:xs[j]?=some v):atI xs (j:Int)=some v:=by
 have hj:j<xs.length:=(aI.mp h).1
 have e:ixN xs.length (j:Int)=some j:=by
  unfold ixN
  rw[if_pos (by omega),if_pos (by omega)];simp
 unfold atI;rw[e];exact h
def li' (b:Expr):Prop:=∀o i,subscripted b false o i=operate [o,i] (getItem o i)
def IxR (X:Cx) (r:R2):Prop:=
 ∀(value slice:Expr) (pins:List (Addr×Obj)) (s:Shared) (σ:St) (H:Hp) (x y:V) (v u:Value) (Q:VK),Inv X pins σ H s->aD' x v->aD' y u->r x y H Q->
  subscripted slice false v u=operate [v,u] (getItem v u)->wpAny (model X.prog X.w) X.A (subscriptTail value slice v u) (EP X pins σ Q) X.xe s
def MtR (X:Cx) (id:String) (r:V->List V->Hp->VK->Prop):Prop:=
 ∀(pins:List (Addr×Obj)) (s:Shared) (σ:St) (H:Hp) (x:V) (xs:List V) (v:Value) (us:List Value) (Q:VK),Inv X pins σ H s->aD' x v->aK' xs us->r x xs H Q->
  wpAny (model X.prog X.w) X.A (call (.builtin id) (v :: us)) (EP X pins σ Q) X.xe s
section
variable {X:Cx} {a b:Expr} {ta tb:TE} {pos:Pos}
theorem IxR.or {r r':R2} (h:IxR X r) (h':IxR X r'):IxR X (fun x y H Q=>r x y H Q\/r' x y H Q):=by
 intro value slice pins s σ H x y v u Q I rx ry q hs
 rcases q with q|q
 .exact h value slice pins s σ H x y v u Q I rx ry q hs
 .exact h' value slice pins s σ H x y v u Q I rx ry q hs
theorem Ax' {r:R2} (hr:IxR X r) (ha:PE X a ta) (hb:PE X b tb) (hs:li' b):PE X (.Subscript a b pos) (tOp r ta tb):=by
 intro pins s σ H Q I h
 exact Subscript_ (Ak' ha hb I h fun v u s2 x y H2 I2 rx ry q=>hr a b pins s2 σ H2 x y v u Q I2 rx ry q (hs _ _))
def gV' (K:W.Frag):R2:=fun x y H Q=>∃p xs i v,x=.ref p/\y=.int i/\SqL K H p xs/\atI xs i=some v/\Q v H
def jh' (K:W.Frag):R2:=fun x y H Q=>∃p xs i v,x=.ref p/\y=.int i/\SqT K H p xs/\atI xs i=some v/\Q v H
def CB':R2:=fun x y H Q=>∃z i c,x=.str z/\y=.int i/\z.length<=sizeLine/\atI z.cps.toList i=some c/\Q (.str ⟨#[c]⟩) H
theorem sk':IxR X (gV' X.K):=by
 intro value slice pins s σ H x y v u Q I rx ry h hs
 obtain⟨p,xs,i,z,rfl,rfl,hq,he,q⟩:=h
 cases rx
 obtain⟨t,rfl⟩:=ry
 obtain⟨its,r,pl,hz⟩:=I.list hq
 obtain⟨j,h1,h2,h3,h4,h5⟩:=gp' he
 obtain⟨w,ew,rw'⟩:=r.get h2
 have hl:=r.length
 have hn:=fo'
 have fin:EP X pins σ Q w s:=⟨z,H,I,rw',q⟩
 by_cases h0:0<=i
 .have hj:i.toNat=j:=by
   rw[seqIndex_of h0 h5]at h1
   exact Option.some.inj h1
  exact item_listR pl.isList h0 (by omega) (by rw[hj];simpa using ew) fin hs
 .have hj:(i+(its.toArray.size:Int)).toNat=j:=by
   rw[seqIndex_neg (by omega) h4]at h1
   rw[ai,<- hl]
   exact Option.some.inj h1
  exact subscriptTail_builtinR (x:=w) pl.isList.typeIs slot_list_getitem.lookup
   (wpAny_getItem_list_neg (Q:=fun r s'=>r=w/\EP X pins σ Q r s') pl.isList (by omega) (by rw[ai]<;>omega) (by omega) (by rw[hj];simpa using ew) ⟨rfl,fin⟩) hs
theorem vF':IxR X (jh' X.K):=by
 intro value slice pins s σ H x y v u Q I rx ry h hs
 obtain⟨p,xs,i,z,rfl,rfl,hq,he,q⟩:=h
 cases rx
 obtain⟨t,rfl⟩:=ry
 obtain⟨its,r,pl,hz⟩:=I.tuple hq
 obtain⟨j,h1,h2,h3,h4,h5⟩:=gp' he
 obtain⟨w,ew,rw'⟩:=r.get h2
 have hl:=r.length
 have hn:=fo'
 have fin:EP X pins σ Q w s:=⟨z,H,I,rw',q⟩
 exact subscriptTail_builtinR (x:=w) pl.typeIs slot_tuple_getitem.lookup
  (getItem_tuple (j:=j) (Q:=fun r s'=>r=w/\EP X pins σ Q r s') pl (by omega) (by omega) (by rw[ai,<- hl];exact h1) (by simpa using ew) ⟨rfl,fin⟩) hs
theorem vG':IxR X CB':=by
 intro value slice pins s σ H x y v u Q I rx ry h hs
 obtain⟨z,i,c,rfl,rfl,hz,he,q⟩:=h
 obtain⟨t,rfl⟩:=rx
 obtain⟨t',rfl⟩:=ry
 obtain⟨j,h1,h2,h3,h4,h5⟩:=gp' he
 have hl:z.cps.toList.length=z.length:=by simp[Str.length]
 rw[hl]at h1 h4 h5
 have hn:=fo'
 exact tail_any (typeIs_str s z t) slot_str_getitem.lookup (getItem_str (c:=c) (by
  have e1:decide (i < -(2 ^ 63:Int))=false:=decide_eq_false (by omega)
  have e2:decide (i ≥ 2 ^ 63)=false:=decide_eq_false (by omega)
  rw[e1,e2,Bool.or_false]) (by rw[h1];simpa using h2) ⟨.str ⟨#[c]⟩,H,I.tok _,⟨_,rfl⟩,q⟩) hs
def rIx (K:W.Frag):R2:=fun x y H Q=>gV' K x y H Q\/jh' K x y H Q\/CB' x y H Q
theorem vH':IxR X (rIx X.K):=sk'.or (vF'.or vG')
theorem kb' (its:List Value) (n j:Nat) (u:Value):Obj.mapSeq (·.setIfInBounds j u) { cls:=.type "list",data:=.seq its.toArray n }={ cls:=.type "list",data:=.seq (its.set j u).toArray n }:=by
 simp[Obj.mapSeq]
theorem Inv.lst {pins:List (Addr×Obj)} {σ:St} {H:Hp} {s:Shared} {p:Addr} {xs:List V} (I:Inv X pins σ H s) (h:H p=some (.lst xs)):
  ∃(its:List Value) (n:Nat),aK' xs its/\s.heap.get? p=some { cls:=.type "list",data:=.seq its.toArray n }/\xs.length<=sizeLine:=by
 obtain⟨z,its,n,r,e⟩:=I.hok p _ h
 exact⟨its,n,r,e,z⟩
theorem Inv.lstUpd {pins:List (Addr×Obj)} {σ:St} {H:Hp} {s:Shared} {p:Addr} {xs ys:List V} {its its':List Value} {n n':Nat} {f:Obj->Obj} (I:Inv X pins σ H s) (h:H p=some (.lst xs))
  (ho:s.heap.get? p=some { cls:=.type "list",data:=.seq its.toArray n }) (hf:f { cls:=.type "list",data:=.seq its.toArray n }={ cls:=.type "list",data:=.seq its'.toArray n' }) (r:aK' ys its') (hz:ys.length<=sizeLine) (t:Nat):
  Inv X pins σ (upd H p (.lst ys)) { s with heap:=s.heap.update p f,toks:=t }:=by
 have e:(s.heap.update p f).get? p=some { cls:=.type "list",data:=.seq its'.toArray n' }:=by
  rw[cv f ho (by rw[hf]<;>rfl),hf]
 refine I.write (x:=p) (e:=p) (by rw[h];trivial) (.inl rfl) (fun b u hb q=>(Heap.get?_update_other _ _ (Ne.symm hb)).trans q) ⟨_,e⟩ ?_
 exact⟨hz,its',n',r,e⟩
def eh':V->V->V->Hp->(Hp->Prop)->Prop:=fun o i v H Q=>∃p xs k j,o=.ref p/\i=.int k/\H p=some (.lst xs)/\ixN xs.length k=some j/\Q (upd H p (.lst (xs.set j v)))
theorem gq':Af' X eh':=by
 intro pins s σ H o i v ov iv u Q I ro ri rv h
 obtain⟨p,xs,k,j,rfl,rfl,hp,hj,q⟩:=h
 cases ro
 obtain⟨t,rfl⟩:=ri
 obtain⟨its,n,r,ho,hz⟩:=I.lst hp
 obtain⟨h1,h2,h3,h4⟩:=lh' hj
 have hl:=r.length
 have hn:=fo'
 have I':Inv X pins σ (upd H p (.lst (xs.set j v))) { s with heap:=s.heap.update p (Obj.mapSeq (·.setIfInBounds j u)) }:=
  I.lstUpd hp ho (kb' its n j u) (r.set rv j) (by rw[List.length_set];exact hz) s.toks
 by_cases h0:0<=k
 .have hk:k.toNat=j:=by
   rw[seqIndex_of h0 h4]at h1
   exact Option.some.inj h1
  exact W.ki_setAt ho h0 (by omega) (by rw[ai,<- hl];exact h4) (by rw[hk];exact⟨_,I',q⟩)
 .have hk:(k+(its.toArray.size:Int)).toNat=j:=by
   rw[seqIndex_neg (by omega) h3]at h1
   rw[ai,<- hl]
   exact Option.some.inj h1
  exact W.ki_setBack ho (by omega) (by rw[ai,<- hl];exact h3) (by omega) (by rw[hk];exact⟨_,I',q⟩)
theorem g4' (lo hi:Option Int) (n:Nat):(sliceBounds lo hi none n).1=((HT.sIx n 0 lo:Nat):Int)/\(sliceBounds lo hi none n).2.1=((HT.sIx n n hi:Nat):Int)/\(sliceBounds lo hi none n).2.2=1:=by
 refine⟨?_,?_,rfl⟩
 .cases lo with
  |none=>simp[sliceBounds,HT.sIx]
  |some i=>
   simp only[sliceBounds,HT.sIx,Option.getD_none,show(1:Int) > 0 by decide,if_true]
   by_cases h:i<0
   .simp only[h,if_true]<;>omega
   .simp only[h,if_false]<;>omega
 .cases hi with
  |none=>simp[sliceBounds,HT.sIx]
  |some i=>
   simp only[sliceBounds,HT.sIx,Option.getD_none,show(1:Int) > 0 by decide,if_true]
   by_cases h:i<0
   .simp only[h,if_true]<;>omega
   .simp only[h,if_false]<;>omega
theorem gr' (its:List Value) (lo hi:Option Int):slicePick its.toArray lo hi none=((its.drop (HT.sIx its.length 0 lo)).take (HT.sIx its.length its.length hi-HT.sIx its.length 0 lo)).toArray:=by
 obtain⟨h1,h2,h3⟩:=g4' lo hi its.toArray.size
 unfold slicePick
 rw[h1,h2,h3]
 simp only[sliceRange_one,pick_run,ai]<;>rfl
def zR' (K:W.Frag):V->Option Int->Option Int->Hp->VK->Prop:=fun x lo hi H Q=>∃a xs,x=.ref a/\SqL K H a xs/\∀p,H p=none->Q (.ref p) (upd H p (.lst (oC' xs lo hi)))
theorem sm':SlR X (zR' X.K):=by
 intro pins s σ H x v vl vu lo hi sl Q I rx hs pl pu h
 obtain⟨a,xs,rfl,hx,q⟩:=h
 cases rx
 obtain⟨its,r,ht,hz⟩:=I.list hx
 have hlen:=r.length
 refine⟨"list",_,slot_list_getitem.lookup,ht.isList.typeIs,?_⟩
 refine wpAny_getItem_list_slice ht.isList hs pl pu .none (by simp) ?_ (by rw[ai]<;>omega)
 rw[gr',<- hlen]
 refine⟨.ref s.heap.objs.size,_,I.laid (t':=s.toks) (o:=.lst (oC' xs lo hi)) (fun b ob q=>ag _ q) (ak _) ?_,rfl,q _ (I.hok.fresh (ak _))⟩
 exact⟨aq (fq' xs lo hi) hz,_,0,(r.drop (HT.sIx xs.length 0 lo)).take (HT.sIx xs.length xs.length hi-HT.sIx xs.length 0 lo),aC _ rfl⟩
def g5':V->Bool
 | .non=>true
 | .bl _=>true
 | .int _=>true
 | .str _=>true
 |_=>false
def eqV:V->V->Bool
 | .non,.non=>true
 | .bl a,.bl b=>a == b
 | .bl a,.int b=>(if a then 1 else 0) == b
 | .int a,.bl b=>a == (if b then 1 else 0)
 | .int a,.int b=>a == b
 | .str a,.str b=>a == b
 |_,_=>false
theorem vI' {A:Around} {s:Shared} {y x:V} {u v:Value} (ry:aD' y u) (rx:aD' x v) (fy:g5' y=true) (fx:g5' x=true):SeqAt.EqAt A s u v (eqV y x):=by
 cases y with
 |non=>
  cases ry
  cases x with
  |non=>cases rx;exact SeqAt.EqAt.same _
  |bl b=>cases rx;exact SeqAt.EqAt.none_bool b
  |int b=>obtain⟨t,rfl⟩:=rx;exact SeqAt.EqAt.none_int b t
  |str b=>obtain⟨t,rfl⟩:=rx;exact SeqAt.EqAt.none_str b t
  |_=>exact absurd (show false=true from fx) ay
 |bl a=>
  cases ry
  cases x with
  |non=>cases rx;exact SeqAt.EqAt.bool_none a
  |bl b=>cases rx;exact SeqAt.EqAt.bool_bool a b
  |int b=>obtain⟨t,rfl⟩:=rx;exact SeqAt.EqAt.bool_int a b t
  |str b=>obtain⟨t,rfl⟩:=rx;exact SeqAt.EqAt.bool_str a b t
  |_=>exact absurd (show false=true from fx) ay
 |int a=>
  obtain⟨t',rfl⟩:=ry
  cases x with
  |non=>cases rx;exact SeqAt.EqAt.int_none a t'
  |bl b=>cases rx;exact SeqAt.EqAt.int_bool a t' b
  |int b=>obtain⟨t,rfl⟩:=rx;exact SeqAt.EqAt.int_int a t' b t
  |str b=>obtain⟨t,rfl⟩:=rx;exact SeqAt.EqAt.int_str a t' b t
  |_=>exact absurd (show false=true from fx) ay
 |str a=>
  obtain⟨t',rfl⟩:=ry
  cases x with
  |non=>cases rx;exact SeqAt.EqAt.str_none a t'
  |bl b=>cases rx;exact SeqAt.EqAt.str_bool a t' b
  |int b=>obtain⟨t,rfl⟩:=rx;exact SeqAt.EqAt.str_int a t' b t
  |str b=>obtain⟨t,rfl⟩:=rx;exact SeqAt.EqAt.str_str a t' b t
  |_=>exact absurd (show false=true from fx) ay
 |_=>exact absurd (show false=true from fy) ay
def eqU (x:V) (u:Value):Bool:=match u with
 | .none=>eqV .non x
 | .bool b=>eqV (.bl b) x
 | .int i _=>eqV (.int i) x
 | .str z _=>eqV (.str z) x
 |_=>false
theorem qL' {x y:V} {u:Value} (r:aD' y u) (f:g5' y=true):eqU x u=eqV y x:=by
 cases y with
 |non=>cases r;rfl
 |bl b=>cases r;rfl
 |int i=>obtain⟨t,rfl⟩:=r;rfl
 |str z=>obtain⟨t,rfl⟩:=r;rfl
 |_=>exact absurd (show false=true from f) ay
theorem fr' {x:V}:∀{xs:List V} {us:List Value},aK' xs us->xs.all g5'=true->us.any (eqU x)=xs.any fun y=>eqV y x
 |_,_,.nil,_=>rfl
 |y :: xs,u :: us,.cons r t,f=>by
  rw[cJ,af]at f
  rw[cn,cn,qL' r f.1,fr' t f.2]
theorem ei' {A:Around} {s:Shared} {x:V} {v:Value} (rx:aD' x v) (fx:g5' x=true):∀{xs:List V} {us:List Value},aK' xs us->xs.all g5'=true->∀u∈us,SeqAt.EqAt A s u v (eqU x u)
 |_,_,.nil,_=>fun u hu=>by cases hu
 |y :: xs,u :: us,.cons r t,f=>fun u' hu=>by
  rw[cJ,af]at f
  rcases ap.mp hu with rfl|hu
  .rw[qL' r f.1];exact vI' r rx f.1 fx
  .exact ei' rx fx t f.2 u' hu
def inV (x:V) (xs:List V):Bool:=xs.any fun y=>eqV y x
def rIn (K:W.Frag) (neg:Bool):R2:=fun x y H Q=>∃p xs,y=.ref p/\(SqL K H p xs\/SqT K H p xs)/\g5' x=true/\xs.all g5'=true/\Q (.bl (if neg then !inV x xs else inV x xs)) H
theorem lj':OpR X (compareOp .In) (rIn X.K false):=by
 intro pins s σ H x y v u Q I rx ry h
 obtain⟨p,xs,rfl,hq,fx,fs,q⟩:=h
 cases ry
 rcases hq with hq|hq
 .obtain⟨its,r,pl,hz⟩:=I.list hq
  refine SeqAt.in_listAt (eqU x) pl.isList (fun w hw=>ei' rx fx r fs w (by simpa using hw)) ⟨.bl _,H,I,rfl,?_⟩
  rw[show its.toArray.any (eqU x)=its.any (eqU x) by simp,fr' r fs]
  exact q
 .obtain⟨its,r,pl,hz⟩:=I.tuple hq
  refine SeqAt.in_tupleAt (eqU x) pl (fun w hw=>ei' rx fx r fs w (by simpa using hw)) ⟨.bl _,H,I,rfl,?_⟩
  rw[show its.toArray.any (eqU x)=its.any (eqU x) by simp,fr' r fs]
  exact q
theorem g6':OpR X (compareOp .NotIn) (rIn X.K true):=by
 intro pins s σ H x y v u Q I rx ry h
 obtain⟨p,xs,rfl,hq,fx,fs,q⟩:=h
 cases ry
 rcases hq with hq|hq
 .obtain⟨its,r,pl,hz⟩:=I.list hq
  refine SeqAt.notIn_listAt (eqU x) pl.isList (fun w hw=>ei' rx fx r fs w (by simpa using hw)) ⟨.bl _,H,I,rfl,?_⟩
  rw[show its.toArray.any (eqU x)=its.any (eqU x) by simp,fr' r fs]
  exact q
 .obtain⟨its,r,pl,hz⟩:=I.tuple hq
  refine SeqAt.notIn_tupleAt (eqU x) pl (fun w hw=>ei' rx fx r fs w (by simpa using hw)) ⟨.bl _,H,I,rfl,?_⟩
  rw[show its.toArray.any (eqU x)=its.any (eqU x) by simp,fr' r fs]
  exact q
theorem a5'.or {f:Value} {r r':List V->Hp->VK->Prop} (h:a5' X f r) (h':a5' X f r'):a5' X f (fun xs H Q=>r xs H Q\/r' xs H Q):=by
 intro pins s σ H xs us Q I rs q
 rcases q with q|q
 .exact h pins s σ H xs us Q I rs q
 .exact h' pins s σ H xs us Q I rs q
theorem g7':a5' X (.type "list") (fun xs H Q=>∃p ys,xs=[.ref p]/\(SqL X.K H p ys\/SqT X.K H p ys)/\∀l,H l=none->Q (.ref l) (upd H l (.lst ys))):=by
 intro pins s σ H xs us Q I r h
 obtain⟨p,ys,rfl,hq,q⟩:=h
 obtain⟨u,rfl,rx⟩:=fp' r
 cases rx
 have fin:∀(its:List Value),aK' ys its->ys.length<=sizeLine->∀(h':Heap) (c':Nat),(∀b o',s.heap.get? b=some o'->h'.get? b=some o')->
   h'.get? s.heap.objs.size=some { cls:=.type "list",dict:=none,data:=.seq its.toArray c',slots:=#[] }->EP X pins σ Q (.ref s.heap.objs.size) { s with heap:=h' }:=fun its r' hz h' c' kp e=>
  ⟨.ref s.heap.objs.size,_,I.laid (t':=s.toks) kp (ak _) (show aG' X.prog X.w _ h' _ (.lst ys) from⟨hz,its,c',r',e⟩),rfl,q _ (I.hok.fresh (ak _))⟩
 rcases hq with hq|hq
 .obtain⟨its,r',pl,hz⟩:=I.list hq
  have hlen:=r'.length
  obtain⟨o,ho,hc,n,hd⟩:=pl.isList
  exact call_list_seq p (.inl rfl) ho hc hd (fun h' c' kp e=>fin its r' hz h' c' kp e) (by simp only[ai]<;>omega)
 .obtain⟨its,r',pl,hz⟩:=I.tuple hq
  have hlen:=r'.length
  obtain⟨o,ho,hc,n,hd⟩:=pl
  exact call_list_seq p (.inr rfl) ho hc hd (fun h' c' kp e=>fin its r' hz h' c' kp e) (by simp only[ai]<;>omega)
theorem gs':a5' X (.type "tuple") (fun xs H Q=>∃p ys,xs=[.ref p]/\((SqL X.K H p ys/\∀l,H l=none->Q (.ref l) (upd H l (.tup ys)))\/(SqT X.K H p ys/\Q (.ref p) H))):=by
 intro pins s σ H xs us Q I r h
 obtain⟨p,ys,rfl,h⟩:=h
 obtain⟨u,rfl,rx⟩:=fp' r
 cases rx
 rcases h with⟨hq,q⟩|⟨hq,q⟩
 .obtain⟨its,r',pl,hz⟩:=I.list hq
  have hlen:=r'.length
  refine call_tuple_list pl.isList (fun h' kp=>?_) (by simp only[ai]<;>omega)
  have I1:Inv X pins σ H { s with heap:=h' }:=I.kept (t':=s.toks) kp
  have I2:Inv X pins σ (upd H h'.objs.size (.tup ys)) { s with heap:=h'.push { cls:=.type "tuple",data:=.seq its.toArray } }:=
   I1.laid (t':=s.toks) (fun b o e=>ag _ e) (ak _) (show aG' X.prog X.w _ _ _ (.tup ys) from⟨hz,its,r',qz'.new _ _⟩)
  exact⟨.ref h'.objs.size,_,I2,rfl,q _ (I1.hok.fresh (ak _))⟩
 .obtain⟨its,r',pl,hz⟩:=I.tuple hq
  exact call_tuple_same pl ⟨.ref p,H,I,rfl,q⟩
def tyV (K:W.Frag) (T:String) (x:V) (H:Hp):Prop:=match x with
 | .str _=>T="str"
 | .int _=>T="int"
 | .ref p=>(T="list"/\∃xs,SqL K H p xs)\/(T="tuple"/\((∃o,K.lookup p=some o/\o.cls=.type "tuple"/\o.dict=none)\/∃xs,H p=some (.tup xs)))\/
   (T="dict"/\((∃kvs,H p=some (.dK kvs))\/∃kvs,H p=some (.dT kvs)))\/(T="set"/\∃S n,H p=some (.set S n))
 |_=>False
theorem qM' {pins:List (Addr×Obj)} {σ:St} {H:Hp} {s:Shared} {T:String} {x:V} {v:Value} (I:Inv X pins σ H s) (r:aD' x v) (ty:tyV X.K T x H):
  s.TypeIs v T/\∀a,v=.ref a->∃ob,s.heap.get? a=some ob/\ob.dict=none:=by
 cases x with
 |str z=>
  obtain⟨t,rfl⟩:=r
  cases(show T="str" from ty)
  exact⟨typeIs_str s z t,fun _ e=>nomatch e⟩
 |int i=>
  obtain⟨t,rfl⟩:=r
  cases(show T="int" from ty)
  exact⟨typeIs_int s i t,fun _ e=>nomatch e⟩
 |ref p=>
  cases r
  rcases ty with⟨rfl,xs,hq⟩|⟨rfl,⟨o,hk,hc,hd⟩|⟨xs,hk⟩⟩|⟨rfl,hk⟩|⟨rfl,S,n,hk⟩
  .obtain⟨its,_,pl,_⟩:=I.list hq
   refine⟨pl.isList.typeIs,fun a e=>?_⟩
   cases e
   obtain⟨o,n,e,c,hd,_⟩:=pl
   exact⟨o,e,hd⟩
  .refine⟨⟨o,I.kIn p o hk,hc⟩,fun a e=>?_⟩
   cases e
   exact⟨o,I.kIn _ o hk,hd⟩
  .obtain⟨_,_,_,o,e,c,_,hd⟩:=I.hok p _ hk
   refine⟨⟨o,e,c⟩,fun a e2=>?_⟩
   cases e2
   exact⟨o,e,hd⟩
  .have z:∃o,s.heap.get? p=some o/\o.ExactDict:=by
    rcases hk with⟨kvs,hk⟩|⟨kvs,hk⟩
    .obtain⟨_,_,_,_,o,_,_,e,ex,_⟩:=I.hok p _ hk
     exact⟨o,e,ex⟩
    .obtain⟨_,_,_,_,o,_,_,e,ex,_⟩:=I.hok p _ hk
     exact⟨o,e,ex⟩
   obtain⟨o,e,ex⟩:=z
   refine⟨⟨o,e,ex.1⟩,fun a e2=>?_⟩
   cases e2
   exact⟨o,e,ex.2.1⟩
  .obtain⟨o,_,_,_,e,ex,_⟩:=I.hok p _ hk
   refine⟨⟨o,e,ex.1⟩,fun a e2=>?_⟩
   cases e2
   exact⟨o,e,ex.2.1⟩
 |_=>exact False.elim ty
def Dp' (K:W.Frag) (T:String) (r:V->List V->Hp->VK->Prop) (to:TE):TE:=fun σ H Q=>to σ H fun x H1=>tyV K T x H1/\r x [] H1 Q
def tBM (K:W.Frag) (T:String) (r:V->List V->Hp->VK->Prop) (to:TE) (t:TA):TE:=fun σ H Q=>to σ H fun x H1=>tyV K T x H1/\t σ H1 fun xs H2=>r x xs H2 Q
variable {o e:Expr} {es:List Expr} {to:TE} {t:TA} {name:Str} {apos cpos:Pos} {T id:String} {r:V->List V->Hp->VK->Prop}
theorem vJ' (pa:PlainAttrs T) (slot:Slot T name id) (hty:typeOf (.builtin id)=pure (.type "method_descriptor")) (hm:MtR X id r) (ho:PE X o to)
  (hbase:attributeBase o name X.env (eval o X.env)=eval o X.env:=by rfl) (hline:(apos.endLine == cpos.line)=true:=by rfl):PE X (.Call (.Attribute o name apos) [] [] cpos) (Dp' X.K T r to):=by
 intro pins s σ H Q I h
 refine wpAny_Call_method0_late hbase hline (thn (ho pins s σ H _ I h) fun v s1 ⟨x,H1,I1,r1,ty,q1⟩=>?_)
 obtain⟨h1,h2⟩:=qM' I1 r1 ty
 exact⟨T,id,pa,slot,hty,h1,h2,Calls.callWith_builtin rfl (PySem.evalArgs_none (hm pins s1 σ H1 x [] v [] Q I1 r1 .nil q1))⟩
theorem Ay' (pa:PlainAttrs T) (slot:Slot T name id) (hty:typeOf (.builtin id)=pure (.type "method_descriptor")) (hm:MtR X id r) (ho:PE X o to) (ha:PA X (e :: es) t)
  (hbase:attributeBase o name X.env (eval o X.env)=eval o X.env:=by rfl)
  (hfew:((backTo cpos (starEach (e :: es) X.env)).all (fun x=>!x.1)&&(backToKw cpos (keywordEach [] X.env)).all (fun x=>x.1.isSome)
   && decide ((e :: es).length+([]:List Keyword).length+(if([]:List Keyword).isEmpty then 0 else 1)<30))=true:=by rfl)
  (hline:(apos.endLine == cpos.line)=true:=by rfl) (hs:starEach (e :: es) X.env=(false,eval e X.env) :: starEach es X.env:=by rfl) (hplain:(backTo cpos (starEach es X.env)).any (·.1)=false:=by rfl):
  PE X (.Call (.Attribute o name apos) (e :: es) [] cpos) (tBM X.K T r to t):=by
 intro pins s σ H Q I h
 refine wpAny_Call_method_late hbase hfew hline rfl (thn (ho pins s σ H _ I h) fun v s1 ⟨x,H1,I1,r1,ty,q1⟩=>?_)
 obtain⟨h1,h2⟩:=qM' I1 r1 ty
 refine⟨T,id,pa,slot,hty,h1,h2,?_⟩
 have hA:=ha cpos pins s1 σ H1 _ I1 q1
 rw[hs]at hA ⊢
 refine Calls.callWith_builtin (by show(false || (backTo cpos (starEach es X.env)).any (·.1))=false;rw[hplain]<;>rfl) (Calls.evalArgs_plain ?_)
 exact thn hA fun us s2 ⟨vs,H2,I2,r2,q2⟩=>hm pins s2 σ H2 x vs v us Q I2 r1 r2 q2
end
def MtM (X:Cx) (id:String) (r:V->List V->Hp->VK->Prop):Prop:=
 ∀(pins:List (Addr×Obj)) (s:Shared) (σ:St) (H:Hp) (x:V) (xs:List V) (v:Value) (us:List Value) (Q:VK),Inv X pins σ H s->aD' x v->aK' xs us->r x xs H Q->
  wpAny (model X.prog X.w) X.A (call (.builtin id) (v :: us)) (EP X pins σ Q) X.xe s
theorem aK'.one:∀{x:V} {us:List Value},aK' [x] us->∃u,us=[u]/\aD' x u
 |_,_,.cons r .nil=>⟨_,rfl,r⟩
theorem aK'.zero:∀{us:List Value},aK' [] us->us=[]
 |_,.nil=>rfl
theorem aK'.dropLast {xs:List V} {us:List Value} (h:aK' xs us):aK' xs.dropLast us.dropLast:=by
 induction h with
 |nil=>exact .nil
 |cons r t ih=>
  cases t with
  |nil=>exact .nil
  |cons q t'=>exact .cons r ih
theorem aK'.rep {xs:List V} {us:List Value} (h:aK' xs us):∀k:Nat,aK' (az k xs).flatten (az k us).flatten
 |0=>.nil
 |k+1=>by
  rw[cQ,cQ,cE,cE]
  exact aK'.append h (aK'.rep h k)
theorem kc' {α:Type} (l:List α):l.eraseIdx (l.length-1)=l.dropLast:=by
 induction l with
 |nil=>rfl
 |cons a r ih=>
  cases r with
  |nil=>rfl
  |cons b r=>
   have e:(a :: b :: r).length-1=((b :: r).length-1)+1:=by
    have h1:(a :: b :: r).length=r.length+2:=rfl
    have h2:(b :: r).length=r.length+1:=rfl
    omega
   rw[e,List.eraseIdx_cons_succ,ih]
   all_goals rfl
theorem g8' (its:List Value):∀(k:Nat) (acc:List Value),
  List.foldl (fun x1 x2=>x1++x2) acc.toArray (az k its.toArray)=(acc++(az k its).flatten).toArray
 |0,acc=>by simp
 |k+1,acc=>by
  have e:acc.toArray++its.toArray=(acc++its).toArray:=by simp
  have e2:(acc++its)++(az k its).flatten=acc++(az (k+1) its).flatten:=by
   rw[cQ,cE,bQ]
  rw[<- e2,<- g8' its k (acc++its),<- e,cQ,List.foldl_cons]
section
variable {X:Cx} {pins:List (Addr×Obj)} {σ:St} {H:Hp} {s:Shared} {l b:Addr} {xs ys zs:List V}
theorem Inv.lset {its its':List Value} {n:Nat} {f:Array Value->Array Value} {t':Nat} (I:Inv X pins σ H s) (hH:H l=some (.lst xs))
  (e:s.heap.get? l=some { cls:=.type "list",data:=.seq its.toArray n }) (hf:f its.toArray=its'.toArray) (hv:aK' ys its') (hz:ys.length<=sizeLine):
  Inv X pins σ (upd H l (.lst ys)) { s with heap:=s.heap.update l (Obj.mapSeq f),toks:=t' }:=by
 have q:=PySem.IsL.update e f
 rw[hf]at q
 refine I.write (x:=l) (e:=l) (by rw[hH];exact trivial) (.inl rfl) (fun b' u hb hu=>(Heap.get?_update_other s.heap (Obj.mapSeq f) (Ne.symm hb)).trans hu) ⟨_,q⟩ ?_
 exact⟨hz,its',_,hv,q⟩
theorem Inv.lnew {its:List Value} {t':Nat} (I:Inv X pins σ H s) (hv:aK' ys its) (hz:ys.length<=sizeLine):
  Inv X pins σ (upd H s.heap.objs.size (.lst ys)) { s with heap:=s.heap.push { cls:=.type "list",data:=.seq its.toArray },toks:=t' }:=
 I.laid (fun _ _ q=>ag _ q) (ak _) ⟨hz,its,0,hv,aC _ rfl⟩
theorem Inv.fresh (I:Inv X pins σ H s):H s.heap.objs.size=none:=I.hok.fresh (ak _)
theorem Inv.lstM (I:Inv X pins σ H s) (hH:H l=some (.lst xs)):xs.length<=sizeLine/\∃(its:List Value) (n:Nat),aK' xs its/\xs.length=its.length/\s.heap.get? l=some { cls:=.type "list",data:=.seq its.toArray n }:=by
 obtain⟨z,its,n,r,e⟩:=I.hok l _ hH
 exact⟨z,its,n,r,r.length,e⟩
theorem ji' {n:Nat} (h:n<=sizeLine):Builtin.List.listTooLong n=false:=by
 unfold Builtin.List.listTooLong
 exact decide_eq_false (by omega)
end
section
variable {X:Cx}
def lk':V->List V->Hp->VK->Prop:=fun x vs H Q=>∃l xs y,x=.ref l/\vs=[y]/\H l=some (.lst xs)/\xs.length<sizeLine/\Q .non (upd H l (.lst (xs++[y])))
theorem ll':MtM X "list.append" lk':=by
 intro pins s σ H x vs v us Q I rx rv h
 obtain⟨l,xs,y,rfl,rfl,hH,hz,q⟩:=h
 cases rx
 obtain⟨u,rfl,ru⟩:=rv.one
 obtain⟨z,its,n,r,hl,e⟩:=I.lstM hH
 refine call_meets F.slot_list_append ⟨_,e,rfl⟩ F.entry_list_append (F.args_list_append_2 _ _) (PySem.list_append l its.toArray n u (by rw[ai];omega)) ⟨e,?_⟩
 refine⟨.non,_,I.lset (its':=its++[u]) hH e (by simp) (r.append (.cons ru .nil)) ?_,rfl,q⟩
 rw[au,bB]
 omega
def lm':V->List V->Hp->VK->Prop:=fun x vs H Q=>∃l b xs zs,x=.ref l/\vs=[.ref b]/\H l=some (.lst xs)/\H b=some (.lst zs)/\xs.length+zs.length<=sizeLine/\Q .non (upd H l (.lst (xs++zs)))
theorem ln':MtM X "list.extend" lm':=by
 intro pins s σ H x vs v us Q I rx rv h
 obtain⟨l,b,xs,zs,rfl,rfl,hH,hB,hz,q⟩:=h
 cases rx
 obtain⟨u,rfl,ru⟩:=rv.one
 cases ru
 obtain⟨z,its,n,r,hl,e⟩:=I.lstM hH
 obtain⟨z2,its2,n2,r2,hl2,e2⟩:=I.lstM hB
 have hsz:its.toArray.size+its2.toArray.size<=sizeLine:=by rw[ai,ai];omega
 have hlong:¬(!its.toArray.isEmpty&&Builtin.List.listTooLong (its.toArray.size+its2.toArray.size))=true:=by
  rw[ji' hsz,Bool.and_false]
  exact ay
 refine call_meets F.slot_list_extend ⟨_,e,rfl⟩ F.entry_list_extend (F.args_list_extend_2 _ _)
  (AutoSeq1.list_extend_list_list_0 l its.toArray n b its2.toArray n2 hlong (by rw[ai];omega) (by omega)) ⟨e,e2,?_⟩
 refine⟨.non,_,I.lset (its':=its++its2) hH e (by simp) (r.append r2) ?_,rfl,q⟩
 rw[au]
 omega
def CC':V->List V->Hp->VK->Prop:=fun x vs H Q=>∃l xs y,x=.ref l/\vs=[]/\H l=some (.lst xs)/\xs[xs.length-1]?=some y/\Q y (upd H l (.lst xs.dropLast))
theorem vK':MtM X "list.pop" CC':=by
 intro pins s σ H x vs v us Q I rx rv h
 obtain⟨l,xs,y,rfl,rfl,hH,hy,q⟩:=h
 cases rx
 have hus:=rv.zero
 subst hus
 obtain⟨z,its,n,r,hl,e⟩:=I.lstM hH
 obtain⟨u,hu,ru⟩:=r.get hy
 have hy':its.toArray[its.toArray.size-1]?=some u:=by
  show its.toArray[its.length-1]?=some u
  rw[<- Array.getElem?_toList,<- hl]
  exact hu
 refine call_meets F.slot_list_pop ⟨_,e,rfl⟩ F.entry_list_pop (F.args_list_pop_1 _) (MeetsSeq.list_pop_last l its.toArray n u hy' (by rw[ai];omega)) ⟨e,?_⟩
 refine⟨y,_,I.lset (its':=its.dropLast) hH e ?_ r.dropLast ?_,ru,q⟩
 .show its.toArray.eraseIdxIfInBounds (its.toArray.size-1)=its.dropLast.toArray
  rw[ai,List.eraseIdxIfInBounds_toArray,kc']
 .rw[List.length_dropLast]
  omega
def CD':R2:=fun x y H Q=>∃l b xs zs,x=.ref l/\y=.ref b/\H l=some (.lst xs)/\H b=some (.lst zs)/\xs.length+zs.length<=sizeLine/\∀p,H p=none->Q (.ref p) (upd H p (.lst (xs++zs)))
theorem vL':OpR X (binaryOp .Add) CD':=by
 intro pins s σ H x y v u Q I rx ry h
 obtain⟨l,b,xs,zs,rfl,rfl,hH,hB,hz,q⟩:=h
 cases rx
 cases ry
 obtain⟨z,its,n,r,hl,e⟩:=I.lstM hH
 obtain⟨z2,its2,n2,r2,hl2,e2⟩:=I.lstM hB
 refine PySem.P.add_list e e2 ?_ (by rw[ai,ai];omega)
 have ea:its.toArray++its2.toArray=(its++its2).toArray:=by simp
 rw[ea]
 exact⟨.ref _,_,I.lnew (t':=s.toks) (r.append r2) (by rw[au];omega),rfl,q _ I.fresh⟩
def CE':R2:=fun x y H Q=>∃l k xs,x=.ref l/\y=.int k/\H l=some (.lst xs)/\-(2 ^ 63)<=k/\k<2 ^ 63/\xs.length*k.toNat<=sizeLine/\
 ∀p,H p=none->Q (.ref p) (upd H p (.lst (az k.toNat xs).flatten))
theorem sn' {α:Type} (xs:List α) (k:Nat):(az k xs).flatten.length=k*xs.length:=by
 induction k with
 |zero=>simp
 |succ k ih=>rw[cQ,cE,au,ih,Nat.succ_mul,Nat.add_comm]
theorem vM':OpR X (binaryOp .Mult) CE':=by
 intro pins s σ H x y v u Q I rx ry h
 obtain⟨l,k,xs,rfl,rfl,hH,h1,h2,hz,q⟩:=h
 cases rx
 obtain⟨t,rfl⟩:=ry
 obtain⟨z,its,n,r,hl,e⟩:=I.lstM hH
 have hlen:its.toArray.size*k.toNat<=sizeLine:=by rw[ai,<- hl];exact hz
 have hcap:¬its.toArray.size*k.toNat > (2 ^ 63-1) / 8:=by
  have:(sizeLine:Nat)<=(2 ^ 63-1) / 8:=by decide
  omega
 have hfit:¬(!Builtin.List.listFitsIndex k)=true:=by
  rw[fitsIndex_both h1 h2]
  exact ay
 have hlong:¬Builtin.List.listTooLong (its.toArray.size*k.toNat)=true:=by
  rw[ji' hlen]
  exact ay
 have hnew:List.foldl (fun x1 x2=>x1++x2) #[] (az (if its.toArray.isEmpty=true then 0 else k.toNat) its.toArray)=(az k.toNat its).flatten.toArray:=by
  have f0:∀m:Nat,List.foldl (fun x1 x2=>x1++x2) #[] (az m its.toArray)=(az m its).flatten.toArray:=fun m=>by
   have:=g8' its m []
   rw[List.nil_append]at this
   exact this
  rw[f0]
  cases its with
  |nil=>simp
  |cons a r'=>rw[if_neg (by simp)]
 refine wpAny_binaryOp_repeat_ref (T:="list") (U:="int") (by decide) ⟨_,e,rfl⟩ (fun s'=>typeIs_int s' k t) noFill_list_mul F.fills_int_mul F.slot_int_rmul repeat_list F.slot_int_index.lookup
  (call_meets F.slot_int_rmul (typeIs_int s k t) F.entry_int_rmul (F.args_int_rmul_2 _ _) (int___rmul___int_list k t l its.toArray n)
   ⟨e,rfl,⟨_,e,rfl⟩,call_meets F.slot_list_mul ⟨_,e,rfl⟩ F.entry_list_mul (F.args_list_mul_2 _ _) (AutoListH.list___mul___list_int_3 l its.toArray n k t hfit hcap hlong) ⟨e,?_⟩⟩)
 rw[hnew]
 exact⟨.ref _,_,I.lnew (t':=s.toks) (r.rep k.toNat) (by rw[sn',bc];exact hz),rfl,q _ I.fresh⟩
end
end L2
namespace Att
open PySem PySem.W PySem.Calls PyProof.Rows
theorem ft' {P:Params} {h:Heap}:∀(ns:List Int) (vs:List Value),WellAll P h vs (ns.map WData.int)->IntsAre vs ns:=by
 intro ns
 induction ns with
 |nil=>
  intro vs w
  rw[List.map_nil]at w
  cases w
  exact .nil
 |cons n ns ih=>
  intro vs w
  rw[aN]at w
  cases w with
  |cons a b=>
   cases a
   exact .cons _ _ (ih _ b)
theorem lo' {l:OpenLaw} {n:Nat} (hn:l.most=some n) {P:Params} {h:Heap} {args:List WData} {vals:List Value}
  (hpre:l.row.toRowW.claim.pre args=true) (hwl:WellAll P h vals args):
  ∃a vs ns,vals=[Value.ref a]/\args=[WData.list (ns.map WData.int)]/\h.get? a=some { cls:=.type "list",data:=.seq vs.toArray }/\IntsAre vs ns/\ns.length<=n:=by
 have hsh:WShape.hasAll [] args [.list .int]=true:=(pre_splitW hpre).1
 have hc:l.pre.holds [] { args:=args }=true:=(pre_splitW hpre).2
 obtain⟨d,r,rfl,h1,h2⟩:=hasAllW_cons hsh
 obtain rfl:=hasAllW_nil h2
 obtain⟨xs,rfl,h3⟩:=hasW_list h1
 obtain⟨ns,rfl⟩:=items_int h3
 have hlen:ns.length<=n:=by
  unfold OpenLaw.pre at hc
  have h4:(WTm.not (.lt (.lit (.int (n:Int))) (.len (.arg 0)))).holds [] { args:=[.list (ns.map .int)] }=true:=by
   have h4:=(holds_andW hc).1
   rw[hn]at h4
   exact h4
  have h5:=condW_of h4 (w_not (w_lt w_lit (w_len_list (w_arg rfl))))
  rw[ac]at h5
  refine Nat.le_of_not_lt fun q=>?_
  have q':(n:Int)<((ns.length:Nat):Int):=by omega
  first
   |(rw[decide_eq_true q']at h5;exact absurd h5 (by decide))
   |(simp at h5;omega)
 cases hwl with
 |cons w1 w2=>
  cases w2
  cases w1 with
  |list ho hall=>exact⟨_,_,ns,rfl,rfl,ho,ft' ns _ hall,hlen⟩
theorem lp' (l:OpenLaw) (args:List WData):l.row.toRowW.claim.post args (.bool true) args=true:=
 postW_of (r:=l.row.toRowW) (X:=(true == true))
  (show WShape.has [] (.bool true) .bool=true by first|rfl|decide|simp[WShape.has,WShape.arms,WShape.armsAll])
  (show(WTm.eq .res (.lit (.bool true))).value [] { args:=args,res:=some (.bool true),after:=args }=some (.bool (true == true)) from w_eq_bool (w_res rfl) w_lit) rfl
theorem ix' {l:OpenLaw} {n:Nat} {q:Program} {loose:List Str} {XP:(Str->Option Value)->Heap->Prop} {YP:World->Heap->Prop} {d:DefRec}
  (hn:l.most=some n) (hdf:d.params.defaults=[])
  (call:∀(w:World) (s₀ s₁:Shared) (mg mb:Str->Option Value) (fa:Addr) (o:Obj) (pm cd doc:Value) (a:Addr) (vs:List Value) (ns:List Int),
   Ground q loose [] XP w s₀ mg mb s₁.heap->YP w s₁.heap->
   s₁.heap.get? fa=some o->o.data=.func (docDef d.name d.params d.body d.scope pm cd doc)->s₁.heap.CodeRec cd d.name->mg d.name=some (.ref fa)->
   s₁.heap.get? a=some { cls:=.type "list",data:=.seq vs.toArray }->IntsAre vs ns->ns.length<=n->s₁.gens=#[]->
   codeAny (model l.prog w) callerA (.call (.ref fa) ⟨[.ref a],[]⟩) (fun r s'=>r=.ok (.ret (.bool true))/\OldK s₁.heap s'.heap/\s'.os=s₁.os/\AllBare s'.gens) s₁):
  WalkO q loose XP YP l.row.toRowW d [] (fun f vs=>PySem.call f vs):=by
 intro w s₀ s₁ mg mb G Y fa o pm cd doc dV kV ho hd hcd hD hmg hg args vals as hpre hlay hrd hwl hlo
 obtain rfl:dV=.none:=Dflts.none hD hdf
 obtain rfl:kV=.none:=Dflts.noKw hD
 obtain⟨a,vs,ns,rfl,rfl,hobj,hints,hlen⟩:=lo' hn hpre hwl
 refine enter_call (codeAny_mono (call w s₀ s₁ mg mb fa o pm cd doc a vs ns G Y ho (fd_plain hd) hcd hmg hobj hints hlen hg) fun r s' hq=>?_)
 obtain⟨rfl,h2,h3,h4⟩:=hq
 exact⟨.inl ⟨.bool true,.bool true,[],rfl,fun _=>rfl,.bool true,lp' l _,fun _=>⟨List.Pairwise.nil,fun _ hm=>(nomatch hm)⟩⟩,h2,h3,h4⟩
end Att
namespace L2
open PySem PySem.Spec PyProof.Rows
theorem g9':∀{vs:List Value} {ns:List Int},IntsAre vs ns->aK' (ns.map V.int) vs
 |_,_,.nil=>.nil
 |_,_,.cons n t h=>.cons ⟨t,rfl⟩ (g9' h)
def Az' (H:Hp):Prop:=∀b,H b=none\/∃o xs,H b=some (.frz o (.lst xs))
theorem oD' {P:Program} {w:World} {K:W.Frag} {mg mb:Str->Option Value} {CX:CXT} {k:Nat} {fa a:Addr} {fd:FuncData} {x:Str} {sp:Sp} {s₁:Shared} {vs:List Value} {ns:List Int}
  (KX:K.In s₁.heap) (hns:s₁.heap.Ns mainGlobals mg) (hb:s₁.heap.Ns builtinsNs mb) (hbb:∀x:Str,x≠"__name__"->mb x=bootBuiltins x) (hlim:s₁.heap.NoLimit) (hg:s₁.gens=#[])
  (ha:s₁.heap.get? a=some { cls:=.type "list",data:=.seq vs.toArray }) (hi:IntsAre vs ns) (hl:ns.length<=sizeLine) (hr:Room k callerA)
  (F:∀base:Heap,K.In base->base.Ns mainGlobals mg->FnOk P w K mg base CX k fa fd [x] sp) (hbind:∀(s:Shared) (u:Value),BindsTo s fd ⟨[u],[]⟩ [(x,u)])
  (hsp:∀H:Hp,Az' H->SqL K H a (ns.map V.int)->sp [.ref a] H (fun v _=>v=.bl true) fun _ _ _=>False)
  (hCX:∀H e s',CX [] H s₁ (fun _ _ _=>False) e s'->False):
  codeAny (model P w) callerA (.call (.ref fa) ⟨[.ref a],[]⟩) (fun r s'=>r=.ok (.ret (.bool true))/\OldK s₁.heap s'.heap/\s'.os=s₁.os/\AllBare s'.gens) s₁:=by
 have rv:=g9' hi
 have lenV:=hi.length
 have core:∀H:Hp,Az' H->SqL K H a (ns.map V.int)->HOk P w H s₁.heap->(∀b,H b≠none->b=a)->(H a≠none->K.lookup a=none)->
   codeAny (model P w) callerA (.call (.ref fa) ⟨[.ref a],[]⟩) (fun r s'=>r=.ok (.ret (.bool true))/\OldK s₁.heap s'.heap/\s'.os=s₁.os/\AllBare s'.gens) s₁:=by
  intro H hO hS hok hA hK
  have base_of:∀{b:Addr} {o:Obj},s₁.heap.get? b=some o->H b=none->(oi' s₁.heap H).get? b=some o:=fun e n=>oj' e n
  have noA:∀{b:Addr} {o:Obj} {es:Array DictEntry} {ep:Nat},s₁.heap.get? b=some o->o.data=.dict es ep->H b=none:=fun {b o es ep} e d=>by
   cases q:H b with
   |none=>rfl
   |some u=>
    have e':b=a:=hA b (by rw[q];simp)
    subst e'
    rw[ha]at e;cases e
    have d':Data.seq vs.toArray _=Data.dict es ep:=d
    cases d'
  have nsK:∀{b:Addr} {m:Str->Option Value},s₁.heap.Ns b m->(oi' s₁.heap H).Ns b m:=fun {b m} ⟨o,es,ep,e,d,r⟩=>⟨o,es,ep,base_of e (noA e d),d,r⟩
  have hKb:K.In (oi' s₁.heap H):=fun b o e=>base_of (KX b o e) (by
   cases q:H b with
   |none=>rfl
   |some u=>
    have e':b=a:=hA b (by rw[q];simp)
    subst e'
    rw[hK (by rw[q];simp)]at e;cases e)
  have hM:Mod K mg (oi' s₁.heap H):=⟨hKb,nsK hns,⟨mb,nsK hb,hbb⟩,let⟨mc,h1,h2⟩:=hlim;⟨mc,nsK h1,h2⟩⟩
  have e0:Env0 P w K mg (oi' s₁.heap H) callerA [] s₁ H:=⟨rfl,hM,fun b o e=>rW' e,Nat.le_of_eq (kW' _ _),trivial,fun b hb=>absurd (show b∈([]:List Addr) from hb) (by simp),hok,.of_eq hg⟩
  refine codeAny_mono ((F _ hKb (nsK hns)).run callerA [] s₁ H ⟨[.ref a],[]⟩ [.ref a] [.ref a] _ _ hr e0 (hbind s₁ (.ref a)) (.cons rfl .nil) (hsp H hO hS)) fun r s' h=>?_
  cases r with
  |error e=>exact(hCX H e s' h).elim
  |ok fl=>
   cases fl with
   |next=>exact False.elim h
   |brk=>exact False.elim h
   |cont=>exact False.elim h
   |ret u=>
    obtain⟨v,H',os,bare,un,hok',r',q⟩:=h
    have q':v=.bl true:=q
    subst q'
    obtain rfl:u=Value.bool true:=r'
    refine⟨rfl,OldK.of_keep fun b o e=>?_,os,bare⟩
    cases q:H b with
    |none=>exact un.keep b o e q (by intro z;exact absurd (show b∈([]:List Addr) from z) (by simp)) (by simp)
    |some u=>
     rcases hO b with z|⟨ob,xs,z⟩
     .rw[q]at z;cases z
     .have z2:=un.frzs b ob _ z
      obtain⟨e1,_⟩:=hok b _ z
      obtain⟨e2,_⟩:=hok' b _ z2
      rw[e]at e1;cases e1
      exact e2
 cases hk:K.lookup a with
 |some o=>
  have e:=KX a o hk
  rw[ha]at e
  cases e
  refine core (fun _=>none) (fun _=>.inl rfl) (.inr ⟨_,vs.toArray,_,hk,rfl,rfl,rfl,by rw[ai,lenV];exact hl,by simpa using rv⟩) (fun b u z=>by have z':(none:Option HO)=some u:=z;cases z') (fun b z=>absurd rfl z) fun z=>absurd rfl z
 |none=>
  refine core (fun b=>if b=a then some (.frz { cls:=.type "list",data:=.seq vs.toArray } (.lst (ns.map V.int)))else none) (fun b=>?_) (.inl (.inr ⟨{ cls:=.type "list",data:=.seq vs.toArray },if_pos rfl⟩)) (fun b u z=>?_) (fun b z=>?_) fun _=>hk
  .by_cases hb:b=a
   .exact .inr ⟨_,_,if_pos hb⟩
   .exact .inl (if_neg hb)
  .by_cases hb:b=a
   .have z':=(if_pos hb).symm.trans z
    cases z'
    subst hb
    exact⟨ha,by rw[ac];exact hl,vs,_,rv,ha⟩
   .have z':=(if_neg hb).symm.trans z
    cases z'
  .by_cases hb:b=a
   .exact hb
   .exact absurd (if_neg hb) z
theorem iy' {l:W.OpenLaw} {n k:Nat} {q:Program} {loose:List Str} {XP:(Str->Option Value)->Heap->Prop} {YP:World->Heap->Prop} {d:DefRec} {K:Params->W.Frag} {CX:World->CXT} {sp:World->Sp} {x:Str}
  (hn:l.most=some n) (hn2:n<=sizeLine) (hdf:d.params.defaults=[]) (hr:Room k callerA)
  (hY:∀(w:World) (h:Heap),YP w h->(K w.params).In h)
  (F:∀(w:World) (mg:Str->Option Value) (fa:Addr) (h:Heap),(K w.params).In h->h.Ns mainGlobals mg->mg d.name=some (.ref fa)->
   ∃fd:FuncData,(∀(s:Shared) (u:Value),BindsTo s fd ⟨[u],[]⟩ [(x,u)])/\
    ∀base:Heap,(K w.params).In base->base.Ns mainGlobals mg->FnOk l.prog w (K w.params) mg base (CX w) k fa fd [x] (sp w))
  (hsp:∀(w:World) (H:Hp) (a:Addr) (ns:List Int),ns.length<=n->Az' H->SqL (K w.params) H a (ns.map V.int)->sp w [.ref a] H (fun v _=>v=.bl true) fun _ _ _=>False)
  (hCX:∀(w:World) (H:Hp) (s:Shared) (e:Value) (s':Shared),CX w [] H s (fun _ _ _=>False) e s'->False):
  W.WalkO q loose XP YP l.row.toRowW d [] (fun f vs=>PySem.call f vs):=by
 refine Att.ix' hn hdf fun w s₀ s₁ mg mb fa o pm cd doc a vs ns G Y ho hd hcd hmg hobj hints hlen hg=>?_
 have KX:=hY w _ Y
 obtain⟨fd,hb,hF⟩:=F w mg fa _ KX G.T.g hmg
 exact oD' KX G.T.g G.T.b G.T.builtins G.T.nolimit hg hobj hints (aq hlen hn2) hr hF hb (fun H hO hS=>hsp w H a ns hlen hO hS) fun H e s'=>hCX w H s₁ e s'
def eG' (s:Stmt):Arguments:=match s with
 | .FunctionDef _ a _ _ _ _ _ _ _ _=>a
 |_=>{ posonlyargs:=[],args:=[],vararg:=none,kwonlyargs:=[],kw_defaults:=[],kwarg:=none,defaults:=[] }
def am' (s:Stmt):List Stmt:=match s with
 | .FunctionDef _ _ b _ _ _ _ _ _ _=>b
 |_=>[]
def ab' (s:Stmt):Scope:=match s with
 | .FunctionDef _ _ _ _ _ _ sc _ _ _=>sc
 |_=>{ kind:=.function,names:=[],isGenerator:=false,isCoroutine:=false }
abbrev CX0:CXT:=fun _ _ _ _ _ _=>False
abbrev E0:XK:=fun _ _ _=>False
structure Fun (K:W.Frag) (x qual:Str) (st:Stmt) (f:Addr) (fd:FuncData):Prop where
 ex:∃(oc:Value) (od:Option Addr) (kV doc pm:Value) (an:Option Addr) (cdv ct:Value) (osl:Array (Option Value)),
  fd=W.fnOf x qual (eG' st) (am' st) (ab' st) .none kV doc pm an cdv ct/\K.lookup f=some ⟨oc,od,.func fd,osl⟩/\W.codeIn K cdv qual=true
 kp:W.keepIn K (.ref f)=true
section
variable {P:Program} {w:World} {K:W.Frag} {mg:Str->Option Value} {base:Heap}
theorem Fun.ok {x qual:Str} {st:Stmt} {f:Addr} {fd:FuncData} {N ps:List Str} {k:Nat} {sp:Sp} (F:Fun K x qual st f fd) (S:FnScope N ps (ab' st)) (len:∀vs H Q E,sp vs H Q E->vs.length=ps.length)
  (hbody:∀(cdv:Value) (A:Around) (outer:List Env) (s:Shared) (H:Hp) (vs:List V) (Q:VK) (E:XK),Room k (A.deeper (envOfC qual (ab' st) s.heap.objs.size f cdv))->sp vs H Q E->
   ∃t,PSs (uY' CX0 P w K mg base N qual (ab' st) f cdv A outer s H E).nox (am' st) t/\t { nx:=fun _ H'=>Q .non H',rt:=Q } (ay' N vs) H):FnOk P w K mg base CX0 (k+1) f fd ps sp:=by
 obtain⟨oc,od,kV,doc,pm,an,cdv,ct,osl,rfl,lk,hcd⟩:=F.ex
 refine Aw' lk hcd S len fun A outer s H vs Q E hr hsp=>?_
 obtain⟨t,h,q⟩:=hbody cdv A outer s H vs Q E hr hsp
 exact⟨t,h.nox,q⟩
theorem Fun.binds {x qual:Str} {st:Stmt} {f:Addr} {fd:FuncData} {ps:List Str} (F:Fun K x qual st f fd)
  (h:∀(kV doc pm:Value) (an:Option Addr) (cdv ct:Value) (us:List Value),us.length=ps.length->bindArgs (W.fnOf x qual (eG' st) (am' st) (ab' st) .none kV doc pm an cdv ct) ⟨us,[]⟩=pure (ps.zip us)):fS' K fd ps []:=by
 obtain⟨oc,od,kV,doc,pm,an,cdv,ct,osl,rfl,lk,hcd⟩:=F.ex
 exact .all (h kV doc pm an cdv ct)
theorem vN' {x qual:Str} {st:Stmt} {f:Addr} {oc:Value} {od an:Option Addr} {osl:Array (Option Value)} {kV doc pm cdv ct:Value} (l:K.lookup f=some ⟨oc,od,.func (W.fnOf x qual (eG' st) (am' st) (ab' st) .none kV doc pm an cdv ct),osl⟩)
  (c:W.codeIn K cdv qual=true) (k:W.keepIn K (.ref f)=true):Fun K x qual st f (W.fnOf x qual (eG' st) (am' st) (ab' st) .none kV doc pm an cdv ct):=⟨⟨oc,od,kV,doc,pm,an,cdv,ct,osl,rfl,l,c⟩,k⟩
end
theorem al' {n:Nat} (h:n<=1000):n<sizeLine:=bG h (by decide)
def au' (H H':Hp):Prop:=∀b o,H b=some o->H' b=some o
theorem au'.refl (H:Hp):au' H H:=fun _ _ h=>h
theorem au'.trans {H H1 H2:Hp} (a:au' H H1) (b:au' H1 H2):au' H H2:=fun c o h=>b c o (a c o h)
theorem au'.free {H H':Hp} (e:au' H H') {l:Addr} (h:H' l=Option.none):H l=Option.none:=by
 cases q:H l with
 |none=>rfl
 |some o=>
  rw[e l o q]at h
  cases h
theorem au'.seq {K:W.Frag} {H H':Hp} {a:Addr} {xs:List V} (e:au' H H') (h:SqL K H a xs):SqL K H' a xs:=by
 rcases h with(h|⟨o,h⟩)|h
 .exact .inl (.inl (e _ _ h))
 .exact .inl (.inr ⟨o,e _ _ h⟩)
 .exact .inr h
def cS' (cells:List (Str×Addr)):List (Str×NameKind)->List (Str×Addr)->List (Str×Addr)
 | [],acc=>acc
 |(n,k) :: r,acc=>if k == .free then cS' cells r ((n,(cells.lookup n).getD 0) :: acc)else cS' cells r acc
def ha' (env:Env) (x:Str×NameKind) (r:List (Str×Addr)):Sem (ForInStep (List (Str×Addr))):=
 match x with|(name,kind)=>if(kind == .free)=true then(do let a <- cellOf env name;pure (ForInStep.yield ((name,a) :: r)))else pure (ForInStep.yield r)
theorem vO' {env:Env}:∀(names:List (Str×NameKind)) (acc:List (Str×Addr)),(∀n,(n,NameKind.free)∈names->∃c,env.cells.lookup n=some c)->
   forIn names acc (ha' env)=(pure (cS' env.cells names acc):Sem _):=by
  intro names
  induction names with
  |nil=>intro acc _;rfl
  |cons x r ih=>
   intro acc hh
   obtain⟨n,k⟩:=x
   rw[List.forIn_cons]
   have hr:=fun m hm=>hh m (aF _ hm)
   by_cases hk:k=.free
   .subst hk
    obtain⟨c,hc⟩:=hh n aJ
    have e1:cellOf env n=(pure c:Sem Addr):=by unfold cellOf;rw[hc]
    have e2:ha' env (n,NameKind.free) acc=pure (ForInStep.yield ((n,c) :: acc)):=by
     unfold ha'
     dsimp only
     rw[if_pos (by rfl),e1]
     rfl
    rw[e2]
    have e3:=ih ((n,c) :: acc) hr
    have e4:cS' env.cells ((n,NameKind.free) :: r) acc=cS' env.cells r ((n,c) :: acc):=by
     show(if(NameKind.free == NameKind.free)=true then _ else _)=_
     rw[if_pos (by rfl),hc]
     rfl
    rw[e4,<- e3]
    rfl
   .have hb:(k == NameKind.free)=false:=by simpa using hk
    have e2:ha' env (n,k) acc=pure (ForInStep.yield acc):=by
     unfold ha'
     dsimp only
     rw[if_neg (by rw[hb];exact ay)]
    rw[e2]
    have e4:cS' env.cells ((n,k) :: r) acc=cS' env.cells r acc:=by
     show(if(k == NameKind.free)=true then _ else _)=_
     rw[if_neg (by rw[hb];exact ay)]
    rw[e4,<- ih acc hr]
    rfl
theorem lq' {env:Env} {scope:Scope} (h:∀n,(n,NameKind.free)∈scope.names->∃c,env.cells.lookup n=some c):closureFor scope env=pure (cS' env.cells scope.names []):=by
 have e:=vO' (env:=env) scope.names [] h
 unfold closureFor
 have q:∀f:Str×NameKind->List (Str×Addr)->Sem (ForInStep (List (Str×Addr))),(∀x r,f x r=ha' env x r)->(forIn scope.names ([]:List (Str×Addr)) f >>= fun r=>pure r)=(pure (cS' env.cells scope.names []):Sem _):=by
  intro f hf
  have:f=ha' env:=funext fun x=>funext fun r=>hf x r
  rw[this,e]
  rfl
 refine q _ fun x r=>?_
 obtain⟨n,k⟩:=x
 unfold ha'
 first|done|(dsimp only;done)|(dsimp only;cases hk:k == NameKind.free<;>simp[hk])
set_option tactic.hygienic true in
theorem fu' {cells:List (Str×Addr)}:∀{names:List (Str×NameKind)} {acc:List (Str×Addr)} {n:Str} {c:Addr},(n,c)∈cS' cells names acc->(n,c)∈acc\/((n,NameKind.free)∈names/\c=(cells.lookup n).getD 0)
 | [],_,_,_,h=>.inl h
 |(m,k) :: r,acc,n,c,h=>by
  unfold cS' at h
  split at h
  .rename_i hk
   have hk':k=.free:=by simpa using hk
   subst hk'
   rcases fu' h with q|⟨q,e⟩
   .rcases ap.mp q with q|q
    .cases q;exact .inr ⟨aJ,rfl⟩
    .exact .inl q
   .exact .inr ⟨aF _ q,e⟩
  .rcases fu' h with q|⟨q,e⟩
   .exact .inl q
   .exact .inr ⟨aF _ q,e⟩
set_option tactic.hygienic true in
theorem fv' {cells:List (Str×Addr)}:∀{names:List (Str×NameKind)} {acc:List (Str×Addr)} {n:Str},((n,NameKind.free)∈names\/∃c,(n,c)∈acc)->∃c,(n,c)∈cS' cells names acc
 | [],_,_,h=>by
  rcases h with h|h
  .simp at h
  .exact h
 |(m,k) :: r,acc,n,h=>by
  unfold cS'
  split
  .rename_i hk
   refine fv' ?_
   rcases h with h|⟨c,h⟩
   .rcases ap.mp h with h|h
    .cases h;exact .inr ⟨_,aJ⟩
    .exact .inl h
   .exact .inr ⟨c,aF _ h⟩
  .rename_i hk
   refine fv' ?_
   rcases h with h|h
   .rcases ap.mp h with h|h
    .cases h;exact absurd rfl hk
    .exact .inl h
   .exact .inr h
theorem aR':∀(names:List (Str×NameKind)) (n:Nat) (acc:List (Str×Addr)),cellsFrom n names acc=cellsFrom n names []++acc
 | [],_,_=>rfl
 |(x,k) :: r,n,acc=>by
  unfold cellsFrom
  split
  .rw[aR' r (n+1) ((x,n) :: acc),aR' r (n+1) [(x,n)],bQ]
   rfl
  .exact aR' r n acc
theorem cw' {α:Type}:∀{l:List (Str×α)} {n:Str} {c:α},(n,c)∈l->∃c',l.lookup n=some c'
 |(k,v) :: r,n,c,h=>by
  rw[bM]
  cases hb:n == k with
  |true=>exact⟨v,rfl⟩
  |false=>
   rcases ap.mp h with e|h
   .cases e;simp at hb
   .exact cw' h
theorem cH' {env:Env}:∀{names:List (Str×NameKind)} {x:Str} {k':NameKind},
  (names.map fun(n,k)=>if(k == NameKind.free&&env.scope.kind == .function&&env.kindOf n == some .cell)then(n,NameKind.cell)else(n,k)).lookup x=some k'->∃k,names.lookup x=some k/\(k'=k\/(k=.free/\k'=.cell))
 | [],_,_,h=>by simp at h
 |(n,k) :: r,x,k',h=>by
  have ih:=@cH' env r x k'
  rw[aN]at h
  by_cases hc:(k == NameKind.free&&env.scope.kind == .function&&env.kindOf n == some .cell)=true
  .have e1:(match ((n,k):Str×NameKind)with|(n,k)=>if(k == NameKind.free&&env.scope.kind == .function&&env.kindOf n == some .cell)=true then(n,NameKind.cell)else(n,k))=(n,NameKind.cell):=if_pos hc
   rw[e1,bM]at h
   rw[bM]
   cases hx:x == n with
   |true=>
    rw[hx]at h
    cases h
    refine⟨k,rfl,.inr ⟨?_,rfl⟩⟩
    simp only[af]at hc
    exact beq_iff_eq.mp hc.1.1
   |false=>rw[hx]at h;exact ih h
  .have e1:(match ((n,k):Str×NameKind)with|(n,k)=>if(k == NameKind.free&&env.scope.kind == .function&&env.kindOf n == some .cell)=true then(n,NameKind.cell)else(n,k))=(n,k):=if_neg hc
   rw[e1,bM]at h
   rw[bM]
   cases hx:x == n with
   |true=>rw[hx]at h;cases h;exact⟨k,rfl,.inl rfl⟩
   |false=>rw[hx]at h;exact ih h
theorem bk' {env:Env}:∀{names:List (Str×NameKind)} {x:Str} {k:NameKind},names.lookup x=some k ->
  ∃k',(names.map fun(n,k)=>if(k == NameKind.free&&env.scope.kind == .function&&env.kindOf n == some .cell)then(n,NameKind.cell)else(n,k)).lookup x=some k'/\(k'=k\/(k=.free/\k'=.cell))
 | [],_,_,h=>by simp at h
 |(n,k0) :: r,x,k,h=>by
  have ih:=@bk' env r x k
  rw[aN]
  by_cases hc:(k0 == NameKind.free&&env.scope.kind == .function&&env.kindOf n == some .cell)=true
  .have e1:(match ((n,k0):Str×NameKind)with|(n,k)=>if(k == NameKind.free&&env.scope.kind == .function&&env.kindOf n == some .cell)=true then(n,NameKind.cell)else(n,k))=(n,NameKind.cell):=if_pos hc
   rw[e1,bM]
   rw[bM]at h
   cases hx:x == n with
   |true=>
    rw[hx]at h
    cases h
    refine⟨_,rfl,.inr ⟨?_,rfl⟩⟩
    simp only[af]at hc
    exact beq_iff_eq.mp hc.1.1
   |false=>rw[hx]at h;exact ih h
  .have e1:(match ((n,k0):Str×NameKind)with|(n,k)=>if(k == NameKind.free&&env.scope.kind == .function&&env.kindOf n == some .cell)=true then(n,NameKind.cell)else(n,k))=(n,k0):=if_neg hc
   rw[e1,bM]
   rw[bM]at h
   cases hx:x == n with
   |true=>rw[hx]at h;cases h;exact⟨_,rfl,.inl rfl⟩
   |false=>rw[hx]at h;exact ih h
section
variable {M:Model} {A:Around} {E:Value->Shared->Prop} {s:Shared}
abbrev bd' (h:Heap) (names:List (Str×NameKind)):Heap:=pushCells (h.push { cls:=.type "dict",data:=.dict #[] }) names
theorem ej' {scope:Scope} {globals:Addr} {cl:List (Str×Addr)} {qual:Str} {env:Env} {Q:Env->Shared->Prop}
  (h:Q (newEnv scope s.heap.objs.size globals (cellsFrom (s.heap.objs.size+1) scope.names cl) qual none .none (some env) builtinsNs) { s with heap:=bd' s.heap scope.names }):
  wpAny M A (newFunctionEnv scope globals cl [] qual none .none (some env)) Q E s:=by
 simp only[newFunctionEnv,Option.isSome_some,if_true]
 refine ab (wpAny_alloc ?_)
 refine ab (wpAny_layCells _ (fun name kind cells=>by cases hkc:kind == NameKind.cell<;>simp[hkc]) _ _ _ _ ?_)
 rw[show({ s with heap:=s.heap.push { cls:=.type "dict",data:=.dict #[] } }:Shared).heap.objs.size=s.heap.objs.size+1 from bA ..]
 exact ab (av (av h))
end
def Cx.comp (X:Cx) (scope:Scope) (s₀:Shared) (H₀:Hp) (ex:List Addr):Cx:=
 { X with
  s₀:=s₀,H₀:=H₀
  env:={ newEnv scope s₀.heap.objs.size X.env.globals (cellsFrom (s₀.heap.objs.size+1) scope.names (cS' X.env.cells scope.names [])) X.env.qual none .none (some X.env) builtinsNs with scope:=relabel scope X.env }
  outer:=X.stack,ex:=ex,fn:=fun x=>((cellsFrom (s₀.heap.objs.size+1) scope.names []).lookup x).isSome,pn:=[],xe:=fun _ _=>False }
structure CompSc (X:Cx) (scope:Scope):Prop where
 kind:scope.kind=.function
 names:∀x∈scope.names,x.2=.local->scope.names.lookup x.1=some .local
 one:∀n,(n,NameKind.cell)∈scope.names->scope.names.lookup n=some .cell
 free:∀n,(n,NameKind.free)∈scope.names->X.env.kindOf n=some .cell\/X.env.kindOf n=some .free
set_option tactic.hygienic true in
theorem cU':∀{names:List (Str×NameKind)} {n:Nat} {x:Str} {c:Addr},(x,c)∈cellsFrom n names []->(x,NameKind.cell)∈names
 | [],_,_,_,h=>by simp[cellsFrom]at h
 |(y,k) :: r,n,x,c,h=>by
  unfold cellsFrom at h
  split at h
  .rename_i hk
   have hk':k=.cell:=by simpa using hk
   subst hk'
   rw[aR']at h
   rcases aG.mp h with h|h
   .exact aF _ (cU' h)
   .have h':(x,c)=(y,n):=by simpa using h
    cases h'
    exact aJ
  .exact aF _ (cU' h)
def clr (own:List Nat) (σ:St):St:=own.foldl (fun σ i=>σ.set i none) σ
theorem fw':∀(own:List Nat) (σ:St),(clr own σ).length=σ.length
 | [],_=>rfl
 |i :: r,σ=>by
  show(clr r (σ.set i none)).length=_
  rw[fw' r,List.length_set]
theorem fx':∀{own:List Nat} {σ:St} {i:Nat} {v:V},(clr own σ)[i]?=some (some v)->σ[i]?=some (some v)/\i∉own
 | [],_,_,_,h=>⟨h,by simp⟩
 |j :: r,σ,i,v,h=>by
  obtain⟨h1,h2⟩:=fx' (own:=r) (σ:=σ.set j none) h
  by_cases e:j=i
  .subst e
   rw[List.getElem?_set]at h1
   simp at h1
  .rw[cf e]at h1
   exact⟨h1,by simp;exact⟨fun z=>e z.symm,h2⟩⟩
theorem iz':∀{own:List Nat} {σ:St} {i:Nat},i∉own->(clr own σ)[i]?=σ[i]?
 | [],_,_,_=>rfl
 |j :: r,σ,i,h=>by
  have h1:i≠j:=fun z=>h (by simp[z])
  have h2:i∉r:=fun z=>h (by simp[z])
  show(clr r (σ.set j none))[i]?=_
  rw[iz' h2,cf (Ne.symm h1)]
section
variable {X:Cx} {pins:List (Addr×Obj)} {σ:St} {H H':Hp} {s s':Shared} {scope:Scope} {ex:List Addr} {own:List Nat}
theorem kd' (I:Inv X pins σ H s) (S:CompSc X scope):
  (∀x c,(cS' X.env.cells scope.names []).lookup x=some c->X.env.cells.lookup x=some c)/\
  (∀x,(x,NameKind.free)∈scope.names->∃c,(cS' X.env.cells scope.names []).lookup x=some c)/\
  CellsOk (bd' s.heap scope.names) (s.heap.objs.size+1) (cellsFrom (s.heap.objs.size+1) scope.names []):=by
 have hc:∀x c,(x,c)∈cS' X.env.cells scope.names []->X.env.cells.lookup x=some c:=fun x c h=>by
  rcases fu' h with z|⟨z,e⟩
  .simp at z
  .obtain⟨c',e'⟩:=I.ok.has x (S.free x z)
   rw[e',Option.getD_some]at e
   rw[e',e]
 refine⟨fun x c h=>hc x c (PySem.mem_of_lookup h),fun x h=>?_,?_⟩
 .obtain⟨c,q⟩:=fv' (cells:=X.env.cells) (acc:=[]) (.inl h)
  exact cw' q
 .have q:=cellsFrom_ok scope.names (s.heap.push { cls:=.type "dict",data:=.dict #[] }) (s.heap.objs.size+1) [] ⟨fun _ _ hm=>(nomatch hm),List.Pairwise.nil⟩ (by rw[bA];exact ak _)
  rw[bA]at q
  exact q
theorem f4' (I:Inv X pins σ H s) (hex:∀b∈ex,ef' X pins H b) (hlt:∀b∈ex,b<s.heap.objs.size) (S:CompSc X scope)
  (hown:∀i x,X.N[i]?=some x->(scope.names.lookup x=some .local\/scope.names.lookup x=some .cell)->i∈own):
  Inv (X.comp scope s H ex) [] (clr own σ) H { s with heap:=bd' s.heap scope.names }:=by
 obtain⟨hcl,hcf,ok⟩:=kd' I S
 have lk:∀x c,(X.comp scope s H ex).env.cells.lookup x=some c->(cellsFrom (s.heap.objs.size+1) scope.names []).lookup x=some c\/((cellsFrom (s.heap.objs.size+1) scope.names []).lookup x=none/\X.env.cells.lookup x=some c):=fun x c h=>by
  have h':(cellsFrom (s.heap.objs.size+1) scope.names (cS' X.env.cells scope.names [])).lookup x=some c:=h
  rw[aR',List.lookup_append]at h'
  cases q:(cellsFrom (s.heap.objs.size+1) scope.names []).lookup x with
  |some d=>rw[q]at h';exact .inl h'
  |none=>rw[q]at h';exact .inr ⟨rfl,hcl x c h'⟩
 have newC:∀x c,(cellsFrom (s.heap.objs.size+1) scope.names []).lookup x=some c->(bd' s.heap scope.names).IsCell c none/\s.heap.objs.size+1<=c:=fun x c h=>ok.empty x c (PySem.mem_of_lookup h)
 have oldC:∀x c,X.env.cells.lookup x=some c->c<s.heap.objs.size:=fun x c h=>let⟨_,q⟩:=I.cell x c h;q.lt
 have keep:∀b o,s.heap.get? b=some o->(bd' s.heap scope.names).get? b=some o:=fun b o e=>pushCells_keeps _ _ b o (ag _ e)
 have fresh:∀b,s.heap.objs.size<=b->H b=none:=fun b hb=>I.hok.fresh hb
 have loc0:(X.comp scope s H ex).env.locals=s.heap.objs.size:=rfl
 refine⟨⟨I.ok.mod,S.kind,I.ok.glob,?_,ak _,fun x y c h1 h2=>?_,fun x hx=>?_,fun x c hf h=>?_,I.ok.hd,I.ok.frames,.inl rfl,fun b hb=>?_,I.bs,aq I.ok.bsz I.sz,fun b o e hb=>?_,fun b hb=>?_,I.stack,I.stkFree⟩,
  rfl,I.bare,Un.kept keep,⟨fun _=>none,?_,fun i x v h1 h2 h3=>?_⟩,fun x c h=>?_,fresh _ (ak _),fun x c h=>?_,fun p hp=>absurd (show p∈([]:List (Addr×Obj)) from hp) (by simp),I.hok.kept keep,?_⟩
 .show X.env.builtins=_
  exact I.ok.blt
 .rcases lk x c h1 with q1|⟨_,q1⟩<;>rcases lk y c h2 with q2|⟨_,q2⟩
  .exact name_of_addr ok.apart (PySem.mem_of_lookup q1) (PySem.mem_of_lookup q2)
  .exact absurd (aj (oldC y c q2) (aq (Nat.le_succ _) (newC x c q1).2)) (bm _)
  .exact absurd (aj (oldC x c q1) (aq (Nat.le_succ _) (newC y c q2).2)) (bm _)
  .exact I.ok.inj x y c q1 q2
 .have hx':(relabel scope X.env).names.lookup x=some .cell\/(relabel scope X.env).names.lookup x=some .free:=hx
  have fin:∀k,scope.names.lookup x=some k->(k=.cell\/k=.free)->∃c,(cellsFrom (s.heap.objs.size+1) scope.names (cS' X.env.cells scope.names [])).lookup x=some c:=fun k hk hkk=>by
   rw[aR',List.lookup_append]
   rcases hkk with rfl|rfl
   .obtain⟨c,q⟩:=go' (n:=s.heap.objs.size+1) hk
    exact⟨c,by rw[q];rfl⟩
   .obtain⟨c,q⟩:=hcf x (PySem.mem_of_lookup hk)
    cases z:(cellsFrom (s.heap.objs.size+1) scope.names []).lookup x with
    |some d=>exact⟨d,rfl⟩
    |none=>exact⟨c,by rw[q];rfl⟩
  rcases hx' with hx'|hx'<;>obtain⟨k,hk,e⟩:=cH' hx'
  .rcases e with e|⟨e,_⟩
   .exact fin k hk (.inl e.symm)
   .exact fin k hk (.inr e)
  .rcases e with e|⟨e,_⟩
   .exact fin k hk (.inr e.symm)
   .exact fin k hk (.inr e)
 .rcases lk x c h with q|⟨q,_⟩
  .have:=(newC x c q).2
   show s.heap.objs.size<=c
   omega
  .have hf':((cellsFrom (s.heap.objs.size+1) scope.names []).lookup x).isSome=true:=hf
   rw[q]at hf'
   cases hf'
 .refine⟨?_,fun x c h=>?_⟩
  .show b≠s.heap.objs.size
   exact aE (hlt b hb)
  .rcases lk x c h with q|⟨_,q⟩
   .intro e
    rw[e]at q
    exact absurd (aj (hlt b hb) (aq (Nat.le_succ _) (newC x b q).2)) (bm _)
   .exact(hex b hb).2.2.2.2.1 x c q
 .rcases(hex b hb).2.2.2.1 with z|z
  .exact I.ok.noex b o e z
  .exact absurd (aj (aw e) (aq I.ok.bsz z)) (bm _)
 .intro z
  rcases ap.mp (I.stkSub b z)with e|e
  .exact(hex b hb).2.1 e
  .exact(hex b hb).2.2.1 e
 .show(bd' s.heap scope.names).Ns s.heap.objs.size _
  exact(Heap.Ns.new s.heap (.type "dict")).keeps (pushCells_keeps _ _)
 .obtain⟨h2,hno⟩:=fx' h2
  have h3':(relabel scope X.env).names.lookup x=some .local\/(relabel scope X.env).names.lookup x=some .cell\/(relabel scope X.env).names.lookup x=some .free:=h3
  have h3k:∃k',(relabel scope X.env).names.lookup x=some k'/\(k'=.local\/k'=.cell\/k'=.free):=by
   rcases h3' with z|z|z
   .exact⟨_,z,.inl rfl⟩
   .exact⟨_,z,.inr (.inl rfl)⟩
   .exact⟨_,z,.inr (.inr rfl)⟩
  obtain⟨k',hk',hkk⟩:=h3k
  obtain⟨k,hk,e⟩:=cH' hk'
  have hfree:k=.free:=by
   rcases e with e|⟨e,_⟩
   .subst e
    rcases hkk with z|z|z
    .subst z;exact absurd (hown i x h1 (.inl hk)) hno
    .subst z;exact absurd (hown i x h1 (.inr hk)) hno
    .exact z
   .exact e
  subst hfree
  have hm:=PySem.mem_of_lookup hk
  have hv:Vis X.env.scope x:=by
   rcases S.free x hm with z|z
   .exact .inr (.inl z)
   .exact .inr (.inr z)
  obtain⟨m,hn,hl⟩:=I.loc
  obtain⟨u,r,l⟩:=hl i x v h1 h2 hv
  refine⟨u,r,?_⟩
  have hkind:(X.comp scope s H ex).env.kindOf x=some .cell\/(X.comp scope s H ex).env.kindOf x=some .free:=by
   show(relabel scope X.env).names.lookup x=some .cell\/(relabel scope X.env).names.lookup x=some .free
   rcases e with e|⟨_,e⟩
   .subst e;exact .inr hk'
   .subst e;exact .inl hk'
  have hcc:∃c,X.env.cells.lookup x=some c/\s.heap.IsCell c (some u):=by
   rcases l with⟨kk,_⟩|⟨_,c,e1,e2⟩
   .rcases S.free x hm with z|z
    .rw[z]at kk;cases kk
    .rw[z]at kk;cases kk
   .exact⟨c,e1,e2⟩
  obtain⟨c,e1,e2⟩:=hcc
  refine .inr ⟨hkind,c,?_,e2.keeps keep⟩
  show(cellsFrom (s.heap.objs.size+1) scope.names (cS' X.env.cells scope.names [])).lookup x=some c
  rw[aR',List.lookup_append]
  have hnone:(cellsFrom (s.heap.objs.size+1) scope.names []).lookup x=none:=by
   cases z:(cellsFrom (s.heap.objs.size+1) scope.names []).lookup x with
   |none=>rfl
   |some d=>
    exfalso
    have q1:=S.one x (cU' (PySem.mem_of_lookup z))
    rw[hk]at q1
    cases q1
  obtain⟨c',q⟩:=hcf x hm
  have q':=hcl x c' q
  rw[e1]at q'
  cases q'
  rw[hnone,q]
  rfl
 .rcases lk x c h with q|⟨_,q⟩
  .exact⟨_,(newC x c q).1⟩
  .obtain⟨v,z⟩:=I.cell x c q
   exact⟨v,z.keeps keep⟩
 .rcases lk x c h with q|⟨_,q⟩
  .have:=(newC x c q).2
   exact fresh c (by omega)
  .exact I.freeC x c q
 .rw[fw']
  exact I.len
end
section
variable {X:Cx} {pins:List (Addr×Obj)} {σ:St} {H H':Hp} {s s':Shared} {scope:Scope} {ex:List Addr} {own:List Nat}
theorem so' {P:Program} {w:World} {h h':Heap} {a:Addr} (x:HOk P w H h) (hn:H a=none) (hs:∀b o,b≠a->h.get? b=some o->h'.get? b=some o):HOk P w H h':=fun b ob e=>
 (x b ob e).stay (fun c w' hc q=>hs c w' (by
  rintro rfl
  rcases hc with rfl|hc
  .rw[hn]at e;cases e
  .rw[hn]at hc;cases hc) q) (fun _ q=>q) fun _ _ q=>q
theorem e7' {σ':St} {pins':List (Addr×Obj)} {h':Heap} (I:Inv X pins σ H s) (hex:∀b∈ex,ef' X pins H b) (J:Inv (X.comp scope s H ex) pins' σ' H' s') (hs:cD s.heap.objs.size s'.heap h'):
  Inv X pins σ H' { s' with heap:=h' }:=by
 have ne:∀b o,s.heap.get? b=some o->b≠s.heap.objs.size:=fun b o e=>aE (aw e)
 have u:Un (frs X.stack) ex H H' s.heap s'.heap:=J.base
 have hf:H' s.heap.objs.size=none:=J.free
 refine I.call' (s':={ s' with heap:=h' }) (ch:=ex) J.os ⟨fun b o e n hb hx=>?_,fun b o e n hb hx=>?_,u.free,fun b o e hx=>?_,u.tups,u.frzs,u.tbls⟩ (so' J.hok hf fun b o hb e=>(hs.2 b hb).trans e) J.bare fun b hb=>?_
 .exact(hs.2 b (ne b o e)).trans (u.keep b o e n hb hx)
 .obtain⟨sl,q⟩:=u.slot b o e n hb hx
  exact⟨sl,(hs.2 b (ne b o e)).trans q⟩
 .obtain⟨o',q⟩:=u.there b o e hx
  exact⟨o',(hs.2 b (ne b o e)).trans q⟩
 .obtain⟨f0,f1,f2,f3,f4,f5⟩:=hex b hb
  exact⟨f3,f1,f4,f5⟩
end
def PTs (X:Cx) (ifs:List Expr) (t:TT):Prop:=∀(pins:List (Addr×Obj)) (s:Shared) (σ:St) (H:Hp) (Q:Bool->Hp->Prop),Inv X pins σ H s->t σ H Q->
 wpAny (model X.prog X.w) X.A (forIn ifs true fun c r=>if r=true then do let ok <- isTrue c X.env (eval c X.env);pure (ForInStep.yield ok)else pure (ForInStep.yield r)) (TP X pins σ Q) X.xe s
theorem sq' {X:Cx}:PTs X [] (fun _ H Q=>Q true H):=fun pins s σ H Q I h=>wpAny_tests_nil ⟨H,I,h⟩
theorem sr' {X:Cx} {c:Expr} {t:TT} (hc:PT X c t):PTs X [c] t:=fun pins s σ H Q I h=>wpAny_tests_one (hc pins s σ H Q I h)
def Ext (ws:List Nat) (σ σ':St):Prop:=σ'.length=σ.length/\∀j,j∉ws->σ'[j]?=σ[j]?
theorem Ext.refl {ws:List Nat} {σ:St}:Ext ws σ σ:=⟨rfl,fun _ _=>rfl⟩
theorem Ext.trans {ws:List Nat} {σ σ1 σ2:St} (a:Ext ws σ σ1) (b:Ext ws σ1 σ2):Ext ws σ σ2:=⟨b.1.trans a.1,fun j hj=>(b.2 j hj).trans (a.2 j hj)⟩
theorem Ext.mono {ws ws':List Nat} {σ σ1:St} (a:Ext ws σ σ1) (h:∀j∈ws,j∈ws'):Ext ws' σ σ1:=⟨a.1,fun j hj=>a.2 j fun z=>hj (h j z)⟩
theorem Ext.clr {ws:List Nat} {σ:St}:Ext ws σ (clr ws σ):=⟨fw' _ _,fun j hj=>iz' hj⟩
theorem Ext.back {ws:List Nat} {σ σ':St} (a:Ext ws (L2.clr ws σ) σ') (i:Nat) (v:V) (h:(L2.clr ws σ)[i]?=some (some v)):σ'[i]?=some (some v):=by
 obtain⟨_,q⟩:=fx' h
 rw[a.2 i q]
 exact h
def uZ' (ws:List Nat) (g:TG):Prop:=∀(x:V) (σ:St) (H:Hp) (Q:St->Hp->Prop),g x σ H Q->g x σ H fun σ2 H2=>Q σ2 H2/\Ext ws σ σ2
theorem lr' {i:Nat} {ws:List Nat} (h:i∈ws):uZ' ws (cR' i):=fun x σ H Q q=>⟨q,by simp,fun j hj=>by
 have:i≠j:=fun z=>hj (z ▸ h)
 rw[cf this]⟩
def a6' (e:Expr) (d:Nat) (tg iter:Expr) (ifs:List Expr) (nx:Sem Unit) (it acc:Value) (env:Env):Sem Fin:=do
 standAt iter.pos
 match <- pyNext it with
 |none=>pure (.done .next)
 |some v=>
  letOwnedTupleGo tg it v
  assign tg env v
  let mut ok:=true
  for c in ifs do
   if ok then ok <- isTrue c env (eval c env)
  if ok then nx
  again (.compLoop e d it acc env)
abbrev TL (α:Type):=St->α->Hp->(α->Hp->Prop)->Prop
def cV' {α:Type} (X:Cx) (D:Addr) (Is:α->Obj->Prop) (ws:List Nat) (code:Sem Unit) (t:TL α):Prop:=
 ∀(pins:List (Addr×Obj)) (s:Shared) (σ:St) (H:Hp) (a:α) (o:Obj) (N:α->Hp->Prop),Inv X pins σ H s->ef' X pins H D->s.heap.get? D=some o->Is a o->t σ a H N->
  wpAny (model X.prog X.w) X.A code (fun _ s'=>∃σ' a' o' H',Inv X pins σ' H' s'/\Ext ws σ σ'/\s'.heap.get? D=some o'/\Is a' o'/\H' D=none/\N a' H') (fun _ _=>False) s
def a9' {α:Type} (ws:List Nat) (g:TG) (tc:TT) (aH':TL α) (J:It):TL α:=fun σ a H1 N=>
 ∃W:Nat->Nat->α->Hp->Prop,(∃m,W 0 m a H1)/\∀i m b H,W i m b H->
  (J.stop i H/\N b H)\/(J.go i H/\∀x H',J.yld i H x H'->g x (clr ws σ) H' fun σ2 H2=>tc σ2 H2 fun ok H3=>
   if ok=true then aH' σ2 b H3 (fun c H4=>∃m',m'<m/\W (i+1) m' c H4)else ∃m',m'<m/\W (i+1) m' b H3)
theorem fy' {α:Type} {Is:α->Obj->Prop} {X:Cx} {e:Expr} {d:Nat} {tg iter:Expr} {ifs:List Expr} {nx:Sem Unit} {it D:Addr} {fp:List Addr} {tn:Nat->Heap->Prop} {J:It} {g:TG} {tc:TT} {aH':TL α} {ws ws':List Nat}
  (hxe:X.xe=fun _ _=>False) (hcalm:X.calm=true)
  (hq:(Code.compLoop e d (.ref it) (.ref D) X.env).quiet=true) (hu:X.A.under (Code.compLoop e d (.ref it) (.ref D) X.env)=X.A)
  (hT:(model X.prog X.w).den (.compLoop e d (.ref it) (.ref D) X.env)=(a6' e d tg iter ifs nx (.ref it) (.ref D) X.env).onRaise (fun x=>do noteFrame x X.env;theTreesLotGoes x))
  (T:Turn X.prog X.w X.K tg J fp it tn) (hg:PG X tg g) (hge:uZ' ws g) (ht:PTs X ifs tc) (hn:cV' X D Is ws' nx aH') (hws:∀j∈ws',j∈ws) (hIs:∀a o,Is a o->∀v,o.data≠.cell v) (hDf:D∉fp)
  {pins:List (Addr×Obj)} {s:Shared} {σ:St} {H:Hp} {a:α} {o:Obj} {N:α->Hp->Prop} (I:Inv X pins σ H s) (hf:∀b∈fp,ef' X pins H b) (hD:ef' X pins H D) (ho:s.heap.get? D=some o) (ha:Is a o) (h0:tn 0 s.heap)
  (hw:a9' ws g tc aH' J σ a H N):
  codeAny (model X.prog X.w) X.A (.compLoop e d (.ref it) (.ref D) X.env) (fun r s'=>r=.ok .next/\∃a' o' H',Inv X pins (clr ws σ) H' s'/\s'.heap.get? D=some o'/\Is a' o'/\H' D=none/\N a' H') s:=by
 obtain⟨W,⟨m0,w0⟩,turn⟩:=hw
 have stat:∀{H':Hp} {pl:List (Addr×Obj)},(∀b∈D :: fp,H' b=none)->(∀b∈D :: fp,ef' X pins H' b):=fun {H' pl} hn b hb=>by
  rcases ap.mp hb with rfl|hb'
  .exact⟨hn _ aJ,hD.2⟩
  .exact⟨hn b hb,(hf b hb').2⟩
 refine codeAny_loop hq (fun n s'=>∃i b ob H',Inv X pins (clr ws σ) H' s'/\tn i s'.heap/\(∀b∈D :: fp,H' b=none)/\s'.heap.get? D=some ob/\Is b ob/\W i n b H') ?_ m0
  ⟨0,a,o,H,I.weak (fw' _ _) (fun i v q=>(fx' q).1),h0,fun b hb=>by
   rcases ap.mp hb with rfl|hb'
   .exact hD.1
   .exact(hf b hb').1,ho,ha,w0⟩
 rintro n s3 ⟨i,b,ob,H3,I3,st3,fr3,o3,is3,w3⟩
 rw[hu,hT]
 refine wpAny_noted ?_
 have hE:∀{β:Type} {c:Sem β} {Q:β->Shared->Prop} {s:Shared} {E:Value->Shared->Prop},wpAny (model X.prog X.w) X.A c Q (fun _ _=>False) s->wpAny (model X.prog X.w) X.A c Q E s:=fun h=>wpAny_mono h (fun _ _ q=>q) fun _ _ q=>q.elim
 refine hE ?_
 unfold a6'
 refine ab (ck (ab ?_))
 have hxeE:∀{β:Type} {c:Sem β} {Q:β->Shared->Prop} {s:Shared},wpAny (model X.prog X.w) X.A c Q X.xe s->wpAny (model X.prog X.w) X.A c Q (fun _ _=>False) s:=fun h=>by rw[hxe]at h;exact h
 have pD:Inv X (pins++cv' [D] s3.heap) (clr ws σ) H3 s3:=I3.pinned (fun b hb=>by
  have e:b=D:=by simpa using hb
  subst e
  exact stat (pl:=[]) fr3 b aJ) (fun b hb=>by
  have e:b=D:=by simpa using hb
  subst e
  exact⟨ob,o3,hIs _ _ is3⟩)
 have mD:(D,ob)∈cv' [D] s3.heap:=aN' (by simp) o3
 have fpD:∀{H':Hp},(∀b∈fp,H' b=none)->∀b∈fp,ef' X (pins++cv' [D] s3.heap) H' b:=fun {H'} hn b hb=>by
  obtain⟨_,f1,f2,f3,f4,f5⟩:=hf b hb
  refine⟨hn b hb,f1,f2,f3,f4,fun p hp=>?_⟩
  rcases aG.mp hp with q|q
  .exact f5 p (aT _ q)
  .rcases aG.mp q with q|q
   .exact f5 p (al _ q)
   .have e:p.1=D:=by simpa using(fn' q).1
    rw[e]
    rintro rfl
    exact hDf hb
 have fr3':∀b∈fp,H3 b=none:=fun b hb=>fr3 b (aF _ hb)
 rcases turn i n b H3 w3 with⟨stop,qn⟩|⟨go,step⟩
 .refine thn (T.done X rfl rfl rfl hcalm i _ s3 _ H3 _ pD (fpD fr3') st3 stop) fun r s4 ⟨hr,I4⟩=>?_
  subst hr
  have q4:=I4.pin (D,ob) (al _ (al _ mD))
  exact av ⟨rfl,b,ob,H3,I4.unpinned,q4.1,is3,q4.2.1,qn⟩
 .refine thn (T.item X rfl rfl rfl hcalm i _ s3 _ H3 _ pD (fpD fr3') st3 go) fun r s4 ⟨u,hr,h4⟩=>?_
  subst hr
  refine ab (thn h4 fun _ s5 ⟨x,H5,I5,r5,y5,st5,fr5⟩=>?_)
  have I5':=I5.pinned (fpD fr5) (T.obj _ _ st5)
  refine ab (thn (hxeE (hg _ s5 _ H5 x u _ I5' r5 (hge x _ H5 _ (step x H5 y5)))) fun _ s6 ⟨σ6,H6,I6,q6,x6⟩=>?_)
  refine ab (thn (hxeE (ht _ s6 σ6 H6 _ I6 q6)) fun ok s7 ⟨H7,I7,q7⟩=>?_)
  have q7D:=I7.pin (D,ob) (al _ (aT _ (al _ mD)))
  have q7f:∀b∈fp,∀o,s5.heap.get? b=some o->s7.heap.get? b=some o/\H7 b=none:=fun b hb o e =>
   let q:=I7.pin (b,o) (al _ (al _ (aN' hb e)))
   ⟨q.1,q.2.1⟩
  have st7:tn (i+1) s7.heap:=T.keep _ _ _ st5 fun b hb o e=>(q7f b hb o e).1
  have fr7:∀b∈fp,H7 b=none:=fun b hb=>by
   obtain⟨o,e,_⟩:=T.obj _ _ st5 b hb
   exact(q7f b hb o e).2
  have I7':Inv X pins σ6 H7 s7:=I7.unpinned.unpinned
  cases ok with
  |false=>
   have q7':∃m',m'<n/\W (i+1) m' b H7:=q7
   obtain⟨m',hm,w7⟩:=q7'
   refine av ⟨rfl,m',hm,i+1,b,ob,H7,I7'.weak ?_ x6.back,st7,fun c hc=>?_,q7D.1,is3,w7⟩
   .rw[x6.1]
   .rcases ap.mp hc with rfl|hc'
    .exact q7D.2.1
    .exact fr7 c hc'
  |true=>
   have I7p:=I7'.pinned (fun b hb=>stat (pl:=[]) (fun c hc=>by
    rcases ap.mp hc with rfl|hc'
    .exact q7D.2.1
    .exact fr7 c hc') b (aF _ hb)) (T.obj _ _ st7)
   have fD:ef' X (pins++cv' fp s7.heap) H7 D:=by
    obtain⟨_,f1,f2,f3,f4,f5⟩:=hD
    refine⟨q7D.2.1,f1,f2,f3,f4,fun p hp=>?_⟩
    rcases aG.mp hp with q|q
    .exact f5 p (aT _ q)
    .rcases aG.mp q with q|q
     .exact f5 p (al _ q)
     .intro z
      exact hDf (z ▸ (fn' q).1)
   refine ab (thn (hn _ s7 σ6 H7 b ob _ I7p fD q7D.1 is3 q7) fun _ s8 ⟨σ8,b8,o8,H8,I8,x8,e8,is8,n8,m',hm,w8⟩=>?_)
   have q8f:∀b∈fp,∀o,s7.heap.get? b=some o->s8.heap.get? b=some o/\H8 b=none:=fun b hb o e =>
    let q:=I8.pin (b,o) (al _ (al _ (aN' hb e)))
    ⟨q.1,q.2.1⟩
   have x8':Ext ws (clr ws σ) σ8:=x6.trans (x8.mono hws)
   refine av ⟨rfl,m',hm,i+1,b8,o8,H8,I8.unpinned.weak (by rw[x8'.1]) x8'.back,T.keep _ _ _ st7 fun b hb o e=>(q8f b hb o e).1,fun c hc=>?_,e8,is8,w8⟩
   rcases ap.mp hc with rfl|hc'
   .exact n8
   .obtain⟨o,e,_⟩:=T.obj _ _ st7 c hc'
    exact(q8f c hc' o e).2
def IsL (xs:List V) (o:Obj):Prop:=xs.length<=sizeLine/\∃(its:List Value) (n:Nat),aK' xs its/\o={ cls:=.type "list",data:=.seq its.toArray n }
theorem ek' (xs:List V) (o:Obj) (h:IsL xs o) (v:Option Value):o.data≠.cell v:=by
 obtain⟨_,its,n,_,rfl⟩:=h
 intro z
 cases z
def fz' (te:TE):TL (List V):=fun σ xs H N=>te σ H fun v H'=>xs.length<sizeLine/\N (xs++[v]) H'
theorem gt' {X:Cx} {D:Addr} {elt:Expr} {te:TE} (hxe:X.xe=fun _ _=>False) (he:PE X elt te):cV' X D IsL [] (do let _ <- call (.builtin "list.append") [.ref D,<- eval elt X.env]) (fz' te):=by
 intro pins s σ H xs o N I hD ho hi hq
 have I1:Inv X (pins++cv' [D] s.heap) σ H s:=I.pinned (fun b hb=>by
  have e:b=D:=by simpa using hb
  subst e
  exact hD) (fun b hb=>by
  have e:b=D:=by simpa using hb
  subst e
  exact⟨o,ho,ek' _ _ hi⟩)
 have h1:=he _ s σ H _ I1 hq
 rw[hxe]at h1
 refine ab (thn h1 fun u s1 ⟨v,H1,J1,r1,z1,n1⟩=>?_)
 have q1:=J1.pin (D,o) (al _ (al _ (aN' (by simp) ho)))
 obtain⟨zx,its,n,rv,rfl⟩:=hi
 have hl:=rv.length
 refine ab (wpAny_list_append_plain (items:=its.toArray) ⟨n,q1.1⟩ (fun h' hp hs=>?_) (by rw[ai,<- hl];exact zx))
 obtain⟨_,f1,f2,f3,f4,f5⟩:=hD
 have J2:Inv X pins σ H1 { s1 with heap:=h' }:=J1.unpinned.turned (it:=D) (t':=s1.toks) (fun b o hb e=>(hs.2 b hb).trans e) q1.2.1 f1 f3 f4 f5
 obtain⟨n',hp⟩:=hp
 refine av ⟨σ,xs++[v],_,H1,J2,Ext.refl,hp,⟨?_,its++[u],n',rv.append (.cons r1 .nil),?_⟩,q1.2.1,n1⟩
 .rw[au];exact z1
 .simp
def aY' (e:Expr) (d:Nat) (iter:Expr) (acc:Value) (env:Env):Sem Unit:=do
 let x <- eval iter env
 standAt iter.pos
 let x <- foldedSetIterable iter env x
 let _ <- runOwn (.compStart e (d+1) (<- holding [x] (pyIter x)) acc env) env
theorem gu' {M:Model} {A:Around} {e:Expr} {d:Nat} {it acc:Value} {env:Env} {R:Result->Shared->Prop} {s:Shared}
  (hq:(Code.compStart e d it acc env).quiet=true) (hu:A.under (Code.compStart e d it acc env)=A) (hql:∀it',(Code.compLoop e d it' acc env).quiet=true)
  (hden:M.den (.compStart e d it acc env)=(compStart e d it acc env).onRaise (fun x=>do noteFrame x env;standAt theWindowsPlace)) (hg:∃g,(clausesOf e)[d]?=some g/\g.is_async=0)
  (h0:codeAny M A (.compLoop e d it acc env) R s) (h1:∀E,wpAny M A (pyIter it) (fun it' s'=>it'=it/\s'=s) E s):codeAny M A (.compStart e d it acc env) R s:=by
 refine codeAny_of_tree ?_
 rw[hu,hden]
 refine wpAny_notedAt ?_
 obtain⟨g,eg,ea⟩:=hg
 unfold compStart
 rw[eg]
 have e1:((some g:Option Comprehension).elim false (fun x=>x.is_async != 0))=false:=by
  show(g.is_async != 0)=false
  rw[ea];rfl
 rw[e1]
 show wpAny _ _ (ask >>= _) _ _ s
 refine ab (wpAny_askSetting (wpAny_ite ?_))
 have fin:wpAny M A (again (.compLoop e d it acc env)) (fun fin s'=>match fin with | .done f=>R (.ok f) s' | .again c=>c.quiet=true/\codeAny M A c R s') (notedBy M A env fun x s'=>R (.error x) s') s:=av ⟨hql it,h0⟩
 split
 .first
   |exact fin
   |exact ab fin
   |exact ab (av fin)
 .refine ab (wpAny_rule ?_)
  refine ab (ck ?_)
  refine ab (wpAny_mono (h1 _) (fun it' s' q=>?_) fun _ _ q=>q)
  obtain⟨rfl,rfl⟩:=q
  exact fin
theorem jj' (own:List Nat) (σ:St):clr own (clr own σ)=clr own σ:=by
 apply bX
 intro i
 by_cases h:i∈own
 .have z:∀τ:St,(clr own τ)[i]?=none\/(clr own τ)[i]?=some none:=fun τ=>by
   cases q:(clr own τ)[i]? with
   |none=>exact .inl rfl
   |some o=>
    cases o with
    |none=>exact .inr rfl
    |some v=>exact absurd h (fx' q).2
  have hl:(clr own (clr own σ)).length=(clr own σ).length:=fw' _ _
  rcases z (clr own σ)with a|a<;>rcases z σ with b|b<;>rw[a,b]
  .have q1:=bq.mp a
   have q2:=(aI.mp b).1
   omega
  .have q1:=bq.mp b
   have q2:=(aI.mp a).1
   omega
 .rw[iz' h]
def iA' {α:Type} (wi:TI) (c:It->TL α):TL α:=fun σ a H N=>wi σ H fun J H1=>c J σ a H1 N
theorem e8' {α:Type} {Is:α->Obj->Prop} {X:Cx} {e:Expr} {d:Nat} {tg iter:Expr} {ifs:List Expr} {nx:Sem Unit} {D:Addr} {wi:TI} {g:TG} {tc:TT} {aH':TL α} {ws ws':List Nat}
  (hxe:X.xe=fun _ _=>False) (hcalm:X.calm=true)
  (hq:∀it,(Code.compLoop e (d+1) it (.ref D) X.env).quiet=true) (hu:∀it,X.A.under (Code.compLoop e (d+1) it (.ref D) X.env)=X.A)
  (hq':∀it,(Code.compStart e (d+1) it (.ref D) X.env).quiet=true) (hu':∀it,X.A.under (Code.compStart e (d+1) it (.ref D) X.env)=X.A)
  (hT:∀it,(model X.prog X.w).den (.compLoop e (d+1) it (.ref D) X.env)=(a6' e (d+1) tg iter ifs nx it (.ref D) X.env).onRaise (fun x=>do noteFrame x X.env;theTreesLotGoes x))
  (hS:∀it,(model X.prog X.w).den (.compStart e (d+1) it (.ref D) X.env)=(compStart e (d+1) it (.ref D) X.env).onRaise (fun x=>do noteFrame x X.env;standAt theWindowsPlace))
  (hcl:∃g,(clausesOf e)[d+1]?=some g/\g.is_async=0) (hfs:∀x,foldedSetIterable iter X.env x=pure x)
  (hi:PI X tg iter wi) (hg:PG X tg g) (hge:uZ' ws g) (ht:PTs X ifs tc) (hn:cV' X D Is ws' nx aH') (hws:∀j∈ws',j∈ws) (hIs:∀a o,Is a o->∀v,o.data≠.cell v):
  cV' X D Is ws (aY' e d iter (.ref D) X.env) (iA' wi (a9' ws g tc aH')):=by
 intro pins s σ H a o N I hD ho ha hw
 have I1:Inv X (pins++cv' [D] s.heap) σ H s:=I.pinned (fun b hb=>by
  have e:b=D:=by simpa using hb
  subst e
  exact hD) (fun b hb=>by
  have e:b=D:=by simpa using hb
  subst e
  exact⟨o,ho,hIs _ _ ha⟩)
 have h1:=hi _ s σ H _ I1 hw
 rw[hxe]at h1
 unfold aY'
 refine ab (thn h1 fun v s1 h2=>?_)
 refine ab (ck (ab (wpAny_of_eq (hfs v) ?_)))
 refine ab (br (thn h2 fun itv s2 h3=>?_))
 obtain⟨it,fp,tn,J,H2,rfl,I2,T,st2,f2,hc⟩:=h3
 have mD:(D,o)∈cv' [D] s.heap:=aN' (by simp) ho
 have q2:=I2.pin (D,o) (al _ (al _ mD))
 have hDf:D∉fp:=fun z=>(f2 D z).2.2.2.2.2 (D,o) (al _ (al _ mD)) rfl
 have f2':∀b∈fp,ef' X pins H2 b:=fun b hb=>by
  obtain⟨f0,f1,f2,f3,f4,f5⟩:=f2 b hb
  exact⟨f0,f1,f2,f3,f4,fun p hp=>f5 p (by
   rcases aG.mp hp with z|z
   .exact aT _ z
   .exact al _ (aT _ z))⟩
 have L:=fy' (Is:=Is) (D:=D) hxe hcalm (hq _) (hu _) (hT _) T hg hge ht hn hws hIs hDf I2.unpinned f2' ⟨q2.2.1,hD.2⟩ q2.1 ha st2 hc
 have L2:=gu' (hq' _) (hu' _) hq (hS _) hcl L (fun E=>T.self X.A 0 s2 _ E st2 ⟨rfl,rfl⟩)
 refine ab (wpAny_runOwn (codeAny_mono L2 fun r s3 h3=>?_))
 obtain⟨rfl,a',o',H',J',e',is',n',hN⟩:=h3
 exact av ⟨_,a',o',H',J',Ext.clr,e',is',n',hN⟩
def iB' (own:List Nat) (wi:TI) (g:TG) (tc:TT) (aH':TL (List V)):TE:=fun σ H Q=>wi σ H fun J H1=>a9' own g tc aH' J σ [] H1 fun xs H2=>∀p,H2 p=none->Q (.ref p) (upd H2 p (.lst xs))
structure CompIn (X:Cx) (e:Expr) (scope:Scope) (tg:Expr) (iter:Expr) (ifs:List Expr) (nx:Addr->Env->Sem Unit) (g:TG) (tc:TT) (aH':TL (List V)) (own:List Nat):Prop where
 sc:CompSc X scope
 ow:∀i x,X.N[i]?=some x->(scope.names.lookup x=some .local\/scope.names.lookup x=some .cell)->i∈own
 cl:∃gs,clausesOf e=⟨tg,iter,ifs,0⟩ :: gs
 fs:∀x,foldedSetIterable iter X.env x=pure x
 calm:X.calm=true
 q:∀it D env,(Code.compLoop e 0 it (.ref D) env).quiet=true/\(Code.compStart e 0 it (.ref D) env).quiet=true
 u:∀A it D env,Around.under A (Code.compLoop e 0 it (.ref D) env)=A/\Around.under A (Code.compStart e 0 it (.ref D) env)=A
 T:∀P w it D env,(model P w).den (.compLoop e 0 it (.ref D) env)=(a6' e 0 tg iter ifs (nx D env) it (.ref D) env).onRaise (fun x=>do noteFrame x env;theTreesLotGoes x)
 S:∀P w it D env,(model P w).den (.compStart e 0 it (.ref D) env)=(compStart e 0 it (.ref D) env).onRaise (fun x=>do noteFrame x env;standAt theWindowsPlace)
 ge:uZ' own g
 inn:∀s0 H0 ex D,PG (X.comp scope s0 H0 ex) tg g/\PTs (X.comp scope s0 H0 ex) ifs tc/\∃ws',(∀j∈ws',j∈own)/\cV' (X.comp scope s0 H0 ex) D IsL ws' (nx D (X.comp scope s0 H0 ex).env) aH'
section
variable {X:Cx} {e:Expr} {scope:Scope} {tg iter:Expr} {ifs:List Expr} {nx:Addr->Env->Sem Unit} {g:TG} {tc:TT} {aH':TL (List V)} {own:List Nat} {wi:TI}
theorem jk' (C:CompIn X e scope tg iter ifs nx g tc aH' own) (hi:PI X tg iter wi) {pins:List (Addr×Obj)} {s:Shared} {σ:St} {H:Hp} {R:V->Hp->Prop} (I:Inv X pins σ H s) (hw:iB' own wi g tc aH' σ H R)
  {use:Option (Value->Sem Unit)} {Q:Value->Shared->Prop} {pos:Pos}
  (fin:∀(s3 s':Shared) (H0 H':Hp) (ex:List Addr) (D:Addr) (xs:List V) (o:Obj) (σ':St),Inv X pins σ H0 s3->(∀b∈ex,ef' X pins H0 b)->Inv (X.comp scope s3 H0 ex) [] σ' H' s'->s'.heap.get? D=some o->D<s3.heap.objs.size->X.s₀.heap.objs.size<=D->ef' X pins H0 D->IsL xs o->H' D=none->R (.ref D) (upd H' D (.lst xs))->
   compPost (model X.prog X.w) X.A X.xe use Q (.ref D) s3.heap.objs.size (.ok .next) s'):
  wpAny (model X.prog X.w) X.A (comprehension e scope X.env pos (newList []) false (eval iter X.env) use) Q X.xe s:=by
 obtain⟨gs,hcl⟩:=C.cl
 refine wpAny_comprehension_free hcl C.fs (lq' fun n hn=>I.ok.has n (C.sc.free n hn)) C.sc.kind C.sc.names ?_
 refine thn (hi pins s σ H _ I hw) fun v s1 h1=>thn h1 fun itv s2 h2=>?_
 obtain⟨it,fp,tn,J,H2,rfl,I2,T,st2,f2,hc⟩:=h2
 refine bP (ej' ?_)
 have keep:∀b o,s2.heap.get? b=some o->(s2.heap.push { cls:=.type "list",dict:=none,data:=.seq ([]:List Value).toArray }).get? b=some o:=fun b o e=>ag _ e
 have I3:Inv X pins σ H2 { s2 with heap:=s2.heap.push { cls:=.type "list",dict:=none,data:=.seq ([]:List Value).toArray } }:=I2.kept (t':=s2.toks) keep
 have hsz:(s2.heap.push { cls:=.type "list",dict:=none,data:=.seq ([]:List Value).toArray }).objs.size=s2.heap.objs.size+1:=bA ..
 have fD:ef' X pins H2 s2.heap.objs.size:=I2.fpOk (ak _) (I2.hok.fresh (ak _))
 have hlt:∀b∈fp,b<s2.heap.objs.size:=fun b hb=>by
  obtain⟨o,e,_⟩:=T.obj _ _ st2 b hb
  exact aw e
 have hDf:s2.heap.objs.size∉fp:=fun z=>bm _ (hlt _ z)
 have hex:∀b∈s2.heap.objs.size :: fp,ef' X pins H2 b:=fun b hb=>by
  rcases ap.mp hb with rfl|hb
  .exact fD
  .exact f2 b hb
 generalize hs3:({ s2 with heap:=s2.heap.push { cls:=.type "list",dict:=none,data:=.seq ([]:List Value).toArray } }:Shared)=s3 at *
 have hs3s:s3.heap.objs.size=s2.heap.objs.size+1:=by rw[<- hs3];exact hsz
 have hlt3:∀b∈s2.heap.objs.size :: fp,b<s3.heap.objs.size:=fun b hb=>by
  rw[hs3s]
  rcases ap.mp hb with rfl|hb
  .exact Nat.lt_succ_self _
  .exact da (hlt b hb)
 have J0:=f4' (own:=own) I3 hex hlt3 C.sc C.ow
 obtain⟨c1,c2,ws',c4,c5⟩:=C.inn s3 H2 (s2.heap.objs.size :: fp) s2.heap.objs.size
 have kp:∀b o,s2.heap.get? b=some o->(bd' s3.heap scope.names).get? b=some o:=fun b o e=>pushCells_keeps _ _ b o (ag _ (by rw[<- hs3];exact keep b o e))
 have oD:(bd' s3.heap scope.names).get? s2.heap.objs.size=some { cls:=.type "list",dict:=none,data:=.seq ([]:List Value).toArray }:=pushCells_keeps _ _ _ _ (ag _ (by rw[<- hs3];exact aC _ rfl))
 have stat:∀b∈s2.heap.objs.size :: fp,ef' (X.comp scope s3 H2 (s2.heap.objs.size :: fp)) [] H2 b:=fun b hb=>
  ⟨(hex b hb).1,(J0.ok.exf b hb).1,J0.ok.exfs b hb,.inl hb,(J0.ok.exf b hb).2,fun p hp=>absurd (show p∈([]:List (Addr×Obj)) from hp) (by simp)⟩
 have T':Turn (X.comp scope s3 H2 (s2.heap.objs.size :: fp)).prog (X.comp scope s3 H2 (s2.heap.objs.size :: fp)).w (X.comp scope s3 H2 (s2.heap.objs.size :: fp)).K tg J fp it tn:=T
 have hc':a9' own g tc aH' J (clr own σ) [] H2 (fun xs H2=>∀p,H2 p=none->R (.ref p) (upd H2 p (.lst xs))):=by
  obtain⟨W,w0,turn⟩:=hc
  refine⟨W,w0,?_⟩
  rw[jj']
  exact turn
 have st3:tn 0 ({ s3 with heap:=bd' s3.heap scope.names }:Shared).heap:=T.keep _ _ _ st2 fun b hb o e=>kp b o e
 have L:=fy' (X:=X.comp scope s3 H2 (s2.heap.objs.size :: fp)) (Is:=IsL) (D:=s2.heap.objs.size) rfl C.calm (C.q _ _ _).1 (C.u _ _ _ _).1 (C.T _ _ _ _ _) T' c1 C.ge c2 c5 c4 ek' hDf J0
  (fun b hb=>stat b (aF _ hb)) (stat _ aJ) oD ⟨aK _,[],0,.nil,rfl⟩ st3 hc'
 have L2:=gu' (C.q _ _ _).2 (C.u _ _ _ _).2 (fun it'=>(C.q it' _ _).1) (C.S _ _ _ _ _) ⟨_,by rw[hcl];rfl,rfl⟩ L (fun E=>T.self _ 0 _ _ E st3 ⟨rfl,rfl⟩)
 refine codeAny_mono L2 fun r s' h=>?_
 obtain⟨rfl,xs,o',H',J',e',is',n',hN⟩:=h
 exact fin s3 s' H2 H' _ _ xs o' _ I3 hex J' e' (hlt3 _ aJ) I2.sz fD is' n' (hN _ n')
end
section
variable {X:Cx} {pins:List (Addr×Obj)} {σ:St} {H H':Hp} {s s':Shared} {D:Addr} {o:HO}
theorem Inv.track (I:Inv X pins σ H s) (f:ef' X pins H D) (h0:X.s₀.heap.objs.size<=D) (new:aG' X.prog X.w (upd H D o) s.heap D o):Inv X pins σ (upd H D o) s:=by
 obtain⟨f0,f1,f2,f3,f4,f5⟩:=f
 have ne:∀b ob,X.s₀.heap.get? b=some ob->b≠D:=fun b ob e=>aE (aj (aw e) h0)
 have neT:∀b u,H b=some u->b≠D:=fun b u e z=>by rw[z,f0]at e;cases e
 refine⟨I.ok,I.os,I.bare,⟨I.base.keep,I.base.slot,fun b ob e n hx=>by rw[af' (ne b ob e)];exact I.base.free b ob e n hx,I.base.there,fun b xs e=>?_,fun b ob u e=>?_,fun b ps e=>?_⟩,I.loc,I.cell,?_,fun x c e=>?_,fun p hp=>?_,fun b u e=>?_,I.len⟩
 .have q:=I.base.tups b xs e
  rw[af' (neT b _ q)];exact q
 .have q:=I.base.frzs b ob u e
  rw[af' (neT b _ q)];exact q
 .obtain⟨m,q⟩:=I.base.tbls b ps e
  exact⟨m,by rw[af' (neT b _ q)];exact q⟩
 .rw[af' (Ne.symm f1)];exact I.free
 .rw[af' (f4 x c e)];exact I.freeC x c e
 .obtain⟨e,n,r⟩:=I.pin p hp
  refine⟨e,?_,r⟩
  rw[af' (f5 p hp)];exact n
 .by_cases hb:b=D
  .subst hb
   rw[ac']at e;cases e
   exact new
  .rw[af' hb]at e
   exact(I.hok b u e).stay (fun _ _ _ q=>q) (fun c q=>by rw[af' (neT c _ q)];exact q) fun c xs q=>by rw[af' (neT c _ q)];exact q
end
section
variable {X:Cx} {e:Expr} {scope:Scope} {tg iter:Expr} {ifs:List Expr} {nx:Addr->Env->Sem Unit} {g:TG} {tc:TT} {aH':TL (List V)} {own:List Nat} {wi:TI}
theorem iC' (C:CompIn X e scope tg iter ifs nx g tc aH' own) (hi:PI X tg iter wi) {pos:Pos} (he:eval e X.env=comprehension e scope X.env pos (newList []) false (eval iter X.env)):PE X e (iB' own wi g tc aH'):=by
 intro pins s σ H Q I hw
 rw[he]
 refine jk' C hi I hw fun s3 s' H0 H' ex D xs o σ' I3 hex J e' hlt h0 fD is' n' hR=>?_
 obtain⟨m,hn,_⟩:=J.loc
 refine⟨m,hn,fun h' hs=>?_⟩
 have J2:=e7' I3 hex J hs
 obtain⟨z,its,n,rv,rfl⟩:=is'
 have neC:D≠s3.heap.objs.size:=aE hlt
 refine⟨.ref D,upd H' D (.lst xs),J2.track (o:=.lst xs) ⟨n',fD.2⟩ h0 ⟨z,its,n,rv,(hs.2 D neC).trans e'⟩,rfl,hR⟩
theorem ke' (C:CompIn X e scope tg iter ifs nx g tc aH' own) (hi:PI X tg iter wi) {i:Nat} {y:Str} {py pos pos2:Pos} (hN:X.N.Nodup) (hy:X.N[i]?=some y) (hx:Loc X.env.scope y) (hf:X.fn y=true\/X.env.scope.names.lookup y=some .local)
  (he:evalThenUse e X.env (assign (.Name y py) X.env)=(do let _ <- comprehension e scope X.env pos2 (newList []) false (eval iter X.env) (some (assign (.Name y py) X.env))))
  (hsw:swapsWith e (some (.Name y py)) pos.line X.env=pure true):PS X (.Assign [.Name y py] e pos) (jf' (iB' own wi g tc aH') (cR' i)):=by
 intro pins s σ H D I hw
 rw[exec_Assign_Name_used _ _ _ _ hsw]
 refine ab (ck (ab ?_))
 rw[he]
 refine ab (thn (Q:=fun _ s'=>SP X pins D .next s') (jk' C hi I hw fun s3 s' H0 H' ex D' xs o σ' I3 hex J e' hlt h0 fD is' n' hR=>?_) fun _ s' q=>av (av q))
 obtain⟨m,hn,_⟩:=J.loc
 have J2:Inv X pins σ H' s':=e7' I3 hex J (Heap.SameBut.refl ..)
 obtain⟨z,its,n,rv,rfl⟩:=is'
 have neC:D'≠s3.heap.objs.size:=aE hlt
 have J3:Inv X pins σ (upd H' D' (.lst xs)) s':=J2.track ⟨n',fD.2⟩ h0 ⟨z,its,n,rv,e'⟩
 have fC:ef' X pins H0 s3.heap.objs.size:=I3.fpOk (ak _) (I3.hok.fresh (ak _))
 refine wpAny_assign_Name (fl' J3 hN hy hx (v:=.ref D') rfl (fun s'' J4 hs=>?_) hf)
 obtain⟨a,hsa,ha⟩:=hs
 have haC:s3.heap.objs.size≠a:=by
  rcases ha with rfl|ha
  .exact fC.2.1
  .exact fun q=>fC.2.2.2.2.1 _ _ ha q.symm
 have hn':s'.heap.Ns s3.heap.objs.size m:=hn
 refine⟨m,hn'.sameBut hsa haC,fun h' hs'=>?_⟩
 have J5:Inv X pins (σ.set i (some (.ref D'))) (upd H' D' (.lst xs)) { s'' with heap:=h' }:=J4.turned (it:=s3.heap.objs.size) (t':=s''.toks) (fun b ob hb q=>(hs'.2 b hb).trans q) (by rw[af' (Ne.symm neC)];exact J.free) fC.2.1 fC.2.2.2.1 fC.2.2.2.2.1 fC.2.2.2.2.2
 exact⟨_,_,J5,hR⟩
end
def dt':Bool->Heap->Addr->Addr->Nat->Prop
 |true,h,it,a,i=>h.IsTupleIter it a i
 |false,h,it,a,i=>h.IsListIter it a i
def e4':Bool->Heap->Addr->Array Value->Prop
 |true,h,a,xs=>h.IsTuple a xs
 |false,h,a,xs=>h.IsList a xs
def ls':Bool->String
 |true=>"tuple_iterator"
 |false=>"list_iterator"
theorem dt'.obj {k:Bool} {h:Heap} {it a:Addr} {i:Nat} (x:dt' k h it a i):∃o,h.get? it=some o/\o.data=.fields #[.ref a,.int i 0]:=by
 cases k
 .obtain⟨o,e,_,d⟩:=x;exact⟨o,e,d⟩
 .obtain⟨o,e,_,d⟩:=x;exact⟨o,e,d⟩
theorem dt'.at {k:Bool} {h h':Heap} {it a:Addr} {i:Nat} (x:dt' k h it a i) (hk:∀o,h.get? it=some o->h'.get? it=some o):dt' k h' it a i:=by
 cases k
 .obtain⟨o,e,r⟩:=x;exact⟨o,hk o e,r⟩
 .obtain⟨o,e,r⟩:=x;exact⟨o,hk o e,r⟩
theorem e4'.at {k:Bool} {h h':Heap} {a:Addr} {xs:Array Value} (x:e4' k h a xs) (hk:∀o,h.get? a=some o->h'.get? a=some o):e4' k h' a xs:=by
 cases k
 .obtain⟨o,e,r⟩:=x;exact⟨o,hk o e,r⟩
 .obtain⟨o,e,r⟩:=x;exact⟨o,hk o e,r⟩
theorem e4'.lt {k:Bool} {h:Heap} {a:Addr} {xs:Array Value} (x:e4' k h a xs):a<h.objs.size:=by
 cases k
 .obtain⟨o,e,r⟩:=x;exact aw e
 .obtain⟨o,e,r⟩:=x;exact aw e
section
variable {prog:Program} {w:World} {A:Around} {E:Value->Shared->Prop} {s:Shared}
theorem bD' {k:Bool} {it l:Addr} {i:Nat} {items:Array Value} {x:Value} {Q:Value->Shared->Prop} (hit:dt' k s.heap it l i) (hl:e4' k s.heap l items) (hx:items[i]?=some x)
  (hQ:∀h',dt' k h' it l (i+1)->cD it s.heap h'->Q x { s with heap:=h' }):wpAny (model prog w) A (Builtin.SmallTypes.nextOf (.ref it)) Q E s:=by
 cases k
 .exact wpAny_nextOf_list_item hit hl hx hQ
 .have hit:s.heap.IsTupleIter it l i:=hit
  have hl:s.heap.IsTuple l items:=hl
  obtain⟨o,ho,hc,hd⟩:=id hit
  obtain⟨ol,hol,_,nl,hdl⟩:=hl
  unfold Builtin.SmallTypes.nextOf
  refine ab (bD (name:=Str.ofString "__next__") hit.typeIs F.slot_tuple_iterator_next
   (cg F.slot_tuple_iterator_next hit.typeIs F.entry_tuple_iterator_next ?_ (F.args_tuple_iterator_next_1 _)))
  show wpAny _ _ (field (.ref it) 0 >>= _) _ _ s
  refine ab (bu ho hd (x:=.ref l) rfl ?_)
  show wpAny _ _ (if(Value.ref l == Value.none)=true then _ else _) _ _ s
  rw[if_neg (show ¬((Value.ref l == Value.none)=true) from ay)]
  show wpAny _ _ (field (.ref it) 1 >>= _) _ _ s
  refine ab (bu ho hd (x:=.int i 0) rfl ?_)
  show wpAny _ _ (seqItems? (.ref l) >>= _) _ _ s
  refine ab (bZ hol hdl ?_)
  simp only[bb,hx]
  refine ab (wpAny_setField ho hd (by simp) (av ⟨x,rfl,av (hQ _ ?_ (Heap.SameBut.update ..))⟩))
  exact⟨_,cv _ ho (Obj.isFreed_of_fields (Obj.data_mapFields hd _)),(Obj.cls_mapFields ..).trans hc,by
   rw[Obj.data_mapFields hd];simp[rawInt]⟩
theorem dG' {k:Bool} {it l:Addr} {i:Nat} {items:Array Value} {Q:Value->Shared->Prop} (hh:A.handled=none) (hit:dt' k s.heap it l i) (hl:e4' k s.heap l items) (hx:items[i]?=none)
  (hE:∀h' e,Heap.ExtBut it s.heap h'->(∃o,h'.get? e=some o/\o.cls=.type "StopIteration")->E (.ref e) { s with heap:=h' }):wpAny (model prog w) A (Builtin.SmallTypes.nextOf (.ref it)) Q E s:=by
 cases k
 .exact wpAny_nextOf_list_end hh hit hl hx hE
 .have hit:s.heap.IsTupleIter it l i:=hit
  have hl:s.heap.IsTuple l items:=hl
  obtain⟨o,ho,hc,hd⟩:=id hit
  obtain⟨ol,hol,_,nl,hdl⟩:=hl
  unfold Builtin.SmallTypes.nextOf
  refine ab (bD (name:=Str.ofString "__next__") hit.typeIs F.slot_tuple_iterator_next
   (cg F.slot_tuple_iterator_next hit.typeIs F.entry_tuple_iterator_next ?_ (F.args_tuple_iterator_next_1 _)))
  show wpAny _ _ (field (.ref it) 0 >>= _) _ _ s
  refine ab (bu ho hd (x:=.ref l) rfl ?_)
  show wpAny _ _ (if(Value.ref l == Value.none)=true then _ else _) _ _ s
  rw[if_neg (show ¬((Value.ref l == Value.none)=true) from ay)]
  show wpAny _ _ (field (.ref it) 1 >>= _) _ _ s
  refine ab (bu ho hd (x:=.int i 0) rfl ?_)
  show wpAny _ _ (seqItems? (.ref l) >>= _) _ _ s
  refine ab (bZ hol hdl ?_)
  simp only[bb,hx]
  refine ab (wpAny_rule (ab (wpAny_setField ho hd (by simp) ?_)))
  show wpAny _ _ (newExc (.type "StopIteration") [] >>= _) _ _ _
  refine ab ?_
  simp only[newExc,newTuple]
  refine ab (bP ?_ (by size_fits))
  refine ab (m:=firstArgMember _ _) (wpAny_of_eq (a:=Value.none) (by first|rfl|(simp only[firstArgMember];rfl)) ?_)
  refine bP ?_ (by size_fits)
  simp only[raiseNew]
  refine ab (wpAny_handled ?_)
  first|rw[show A.in1.handled=none from hh]|rw[hh]
  refine ab (av (wpAny_throw ?_))
  exact hE _ _ (((Heap.SameBut.update ..).extBut.push _).push _) ⟨_,aC _ rfl,rfl⟩
end
abbrev zH1 (k:Bool) (h:Heap) (l1:Addr):Heap:=h.push { cls:=.type (ls' k),data:=.fields #[.ref l1,.int 0 0] }
abbrev zH2 (k j:Bool) (h:Heap) (l1 l2:Addr):Heap:=(zH1 k h l1).push { cls:=.type (ls' j),data:=.fields #[.ref l2,.int 0 0] }
abbrev zH3 (k j:Bool) (h:Heap) (l1 l2:Addr):Heap:=(zH2 k j h l1 l2).push { cls:=.type "tuple",data:=.seq #[.ref h.objs.size,.ref (zH1 k h l1).objs.size] }
abbrev zH4 (k j:Bool) (h:Heap) (l1 l2:Addr):Heap:=(zH3 k j h l1 l2).push { cls:=.type "tuple",data:=.seq #[.none,.none] }
abbrev zH5 (k j:Bool) (h:Heap) (l1 l2:Addr):Heap:=(zH4 k j h l1 l2).push { cls:=.type "zip",data:=.fields #[.none,.bool false,.bool false,.ref (zH2 k j h l1 l2).objs.size,.ref (zH3 k j h l1 l2).objs.size] }
set_option maxHeartbeats 4000000 in
theorem lu' (k j:Bool) (l1 l2:Addr) (xs ys:Array Value):
  Meets (Builtin.«zip.__new__» ⟨[.type "zip",.ref l1,.ref l2],[]⟩) (fun _ R s=>e4' k s.heap l1 xs/\e4' j s.heap l2 ys/\
   R (.ok (.ret (.ref (zH4 k j s.heap l1 l2).objs.size))) { s with heap:=zH5 k j s.heap l1 l2 }):=by
 cases k<;>cases j
 .exact meets_zip_new l1 l2 xs ys
 .exact .of_wp fun prog w A R s h=>by
   obtain⟨hp,g,d,tk,os⟩:=s;obtain⟨hl1,hl2,h⟩:=h
   have hsub:=sub_zip
   have hL1:Heap.IsList (Shared.heap ⟨hp,g,d,tk,os⟩) l1 xs:=hl1
   have hL2:Heap.IsTuple (Shared.heap ⟨hp.push { cls:=.type "list_iterator",data:=.fields #[.ref l1,.int 0 0] },g,d,tk,os⟩) l2 ys:=Heap.IsTuple.push hl2 _
   wp_walk using db hL1,cc hL2
   exact⟨_,rfl,h⟩
 .exact .of_wp fun prog w A R s h=>by
   obtain⟨hp,g,d,tk,os⟩:=s;obtain⟨hl1,hl2,h⟩:=h
   have hsub:=sub_zip
   have hL1:Heap.IsTuple (Shared.heap ⟨hp,g,d,tk,os⟩) l1 xs:=hl1
   have hL2:Heap.IsList (Shared.heap ⟨hp.push { cls:=.type "tuple_iterator",data:=.fields #[.ref l1,.int 0 0] },g,d,tk,os⟩) l2 ys:=Heap.IsList.push hl2 _
   wp_walk using cc hL1,db hL2
   exact⟨_,rfl,h⟩
 .exact .of_wp fun prog w A R s h=>by
   obtain⟨hp,g,d,tk,os⟩:=s;obtain⟨hl1,hl2,h⟩:=h
   have hsub:=sub_zip
   have hL1:Heap.IsTuple (Shared.heap ⟨hp,g,d,tk,os⟩) l1 xs:=hl1
   have hL2:Heap.IsTuple (Shared.heap ⟨hp.push { cls:=.type "tuple_iterator",data:=.fields #[.ref l1,.int 0 0] },g,d,tk,os⟩) l2 ys:=Heap.IsTuple.push hl2 _
   wp_walk using cc hL1,cc hL2
   exact⟨_,rfl,h⟩
section
variable {prog:Program} {w:World} {A:Around} {E:Value->Shared->Prop} {s:Shared}
theorem lv' {k j:Bool} {l1 l2:Addr} {xs ys:Array Value} {Q:Value->Shared->Prop} (hl1:e4' k s.heap l1 xs) (hl2:e4' j s.heap l2 ys)
  (h:∀h',IsZip h' (s.heap.objs.size+4) (s.heap.objs.size+2) (s.heap.objs.size+3) .none->IsPair h' (s.heap.objs.size+2) (.ref s.heap.objs.size) (.ref (s.heap.objs.size+1))->
   IsPair h' (s.heap.objs.size+3) .none .none->dt' k h' s.heap.objs.size l1 0->dt' j h' (s.heap.objs.size+1) l2 0->h'.objs.size=s.heap.objs.size+5->
   (∀c o,s.heap.get? c=some o->h'.get? c=some o)->Q (.ref (s.heap.objs.size+4)) { s with heap:=h' }):
  wpAny (model prog w) A (call (.type "zip") [.ref l1,.ref l2]) Q E s:=by
 refine callType_new F.called_zip (by decide) (F.typeCall_zip_2 _ _) (F.newCall_zip_2 _ _) (fun obj=>F.args_object_init_3 obj _ _) F.entry_zip_new
  (lu' k j l1 l2 xs ys) ⟨hl1,hl2,?_⟩
 have z1:(zH1 k s.heap l1).objs.size=s.heap.objs.size+1:=bA ..
 have z2:(zH2 k j s.heap l1 l2).objs.size=s.heap.objs.size+2:=by rw[bA,z1]
 have z3:(zH3 k j s.heap l1 l2).objs.size=s.heap.objs.size+3:=by rw[bA,z2]
 have z4:(zH4 k j s.heap l1 l2).objs.size=s.heap.objs.size+4:=by rw[bA,z3]
 have z5:(zH5 k j s.heap l1 l2).objs.size=s.heap.objs.size+5:=by rw[bA,z4]
 have g5:(zH5 k j s.heap l1 l2).get? (zH4 k j s.heap l1 l2).objs.size=some _:=aC _ rfl
 have g4:(zH5 k j s.heap l1 l2).get? (zH3 k j s.heap l1 l2).objs.size=some _:=ag _ (aC _ rfl)
 have g3:(zH5 k j s.heap l1 l2).get? (zH2 k j s.heap l1 l2).objs.size=some _:=ag _ (ag _ (aC _ rfl))
 have g2:(zH5 k j s.heap l1 l2).get? (zH1 k s.heap l1).objs.size=some { cls:=.type (ls' j),data:=.fields #[.ref l2,.int 0 0] }:=ag _ (ag _ (ag _ (aC _ rfl)))
 have g1:(zH5 k j s.heap l1 l2).get? s.heap.objs.size=some { cls:=.type (ls' k),data:=.fields #[.ref l1,.int 0 0] }:=ag _ (ag _ (ag _ (ag _ (aC _ rfl))))
 have gk:∀c o,s.heap.get? c=some o->(zH5 k j s.heap l1 l2).get? c=some o:=fun c o e=>ag _ (ag _ (ag _ (ag _ (ag _ e))))
 have mk:∀(c:Bool) (it l:Addr),(zH5 k j s.heap l1 l2).get? it=some { cls:=.type (ls' c),data:=.fields #[.ref l,.int 0 0] }->dt' c (zH5 k j s.heap l1 l2) it l 0:=fun c it l e=>by
  cases c
  .exact⟨_,e,rfl,rfl⟩
  .exact⟨_,e,rfl,rfl⟩
 show _/\_
 rw[z2,z3,z4]at g5
 rw[z1,z2]at g3
 rw[z3]at g4
 rw[z1]at g2
 rw[z4]
 exact⟨⟨_,g5,rfl⟩,h _ g5 g3 g4 (mk k _ _ g1) (mk j _ _ g2) z5 gk⟩
theorem jl' {k j:Bool} {z TI TO i1 i2 l1 l2:Addr} {k1 k2:Nat} {xs ys:Array Value} {x y a b:Value} {Q:Option Value->Shared->Prop} (D:ZipApart z TI TO i1 i2 l1 l2)
  (hz:IsZip s.heap z TI TO .none) (hTI:IsPair s.heap TI (.ref i1) (.ref i2)) (hTO:IsPair s.heap TO a b)
  (h1:dt' k s.heap i1 l1 k1) (h2:dt' j s.heap i2 l2 k2) (hl1:e4' k s.heap l1 xs) (hl2:e4' j s.heap l2 ys) (hx:xs[k1]?=some x) (hy:ys[k2]?=some y)
  (hQ:∀h',IsZip h' z TI TO (rawInt s.heap.objs.size)->IsPair h' TO x y->dt' k h' i1 l1 (k1+1)->dt' j h' i2 l2 (k2+1)->IsPair h' s.heap.objs.size x y->h'.objs.size=s.heap.objs.size+1->
   (∀c o,c≠z->c≠TO->c≠i1->c≠i2->s.heap.get? c=some o->h'.get? c=some o)->Q (some (.ref s.heap.objs.size)) { s with heap:=h' }):
  wpAny (model prog w) A (pyNext (.ref z)) Q E s:=by
 have hT:s.TypeIs (.ref z) "zip":=⟨_,hz,rfl⟩
 unfold pyNext
 refine ab (wpAny_attempt (bD (name:=Str.ofString "__next__") hT F.slot_zip_next
  (cg F.slot_zip_next hT F.entry_zip_next ?_ (F.args_zip_next_1 _))))
 show wpAny _ _ (field (.ref z) 2 >>= _) _ _ _
 refine ab (bu hz rfl (x:=.bool false) rfl ?_)
 show wpAny _ _ (field (.ref z) 3 >>= _) _ _ _
 refine ab (bu hz rfl (x:=.ref TI) rfl ?_)
 refine ab (bZ hTI rfl ?_)
 show wpAny _ _ (Builtin.SmallTypes.ownedTupleIsFree (.ref z) >>= _) _ _ _
 refine ab ?_
 unfold Builtin.SmallTypes.ownedTupleIsFree
 refine ab (bu hz rfl (x:=.none) rfl (av ?_))
 simp only[if_true]
 refine ab (wpAny_rule ?_)
 refine ab (bu hz rfl (x:=.ref TO) rfl ?_)
 refine ab (cw hz (by simp) fun h₁ hz₁ hs₁=>?_)
 replace hz₁:IsZip h₁ z TI TO .ellipsis:=hz₁
 refine ab ?_
 simp only[List.zipIdx_cons,List.zipIdx_nil,List.forIn_cons,List.forIn_nil]
 refine ab (ab (wpAny_onRaise ?_))
 show wpAny _ _ (Builtin.SmallTypes.nextOf (.ref i1) >>= _) _ _ _
 refine ab (bD' (h1.at fun o e=>hs₁.extBut _ _ D.i1z e) (hl1.at fun o e=>hs₁.extBut _ _ D.l1z e) hx fun h₂ h1₂ hs₂=>av ?_)
 have hTO₂:IsPair h₂ TO a b:=hs₂.extBut _ _ D.TOi1 (hs₁.extBut _ _ D.TOz hTO)
 refine ab (bZ hTO₂ rfl ?_)
 refine ab (wpAny_updateSeq_pair hTO₂ fun h₃ hTO₃ hs₃=>?_)
 replace hTO₃:IsPair h₃ TO x b:=hTO₃
 refine ab (wpAny_letGo (av ?_))
 refine ab (ab (wpAny_onRaise ?_))
 show wpAny _ _ (Builtin.SmallTypes.nextOf (.ref i2) >>= _) _ _ _
 refine ab (bD' (h2.at fun o e=>hs₃.extBut _ _ D.TOi2.symm (hs₂.extBut _ _ D.i12.symm (hs₁.extBut _ _ D.i2z e)))
  (hl2.at fun o e=>hs₃.extBut _ _ D.l2TO (hs₂.extBut _ _ D.l2i1 (hs₁.extBut _ _ D.l2z e))) hy fun h₄ h2₄ hs₄=>av ?_)
 have hTO₄:IsPair h₄ TO x b:=hs₄.extBut _ _ D.TOi2 hTO₃
 refine ab (bZ hTO₄ rfl ?_)
 refine ab (wpAny_updateSeq_pair hTO₄ fun h₅ hTO₅ hs₅=>?_)
 replace hTO₅:IsPair h₅ TO x y:=hTO₅
 refine ab (wpAny_letGo (av (av ?_)))
 refine ab (bZ hTO₅ rfl ?_)
 refine ab (wpAny_newTuple ?_)
 have hsz:h₅.objs.size=s.heap.objs.size:=by rw[hs₅.1,hs₄.1,hs₃.1,hs₂.1,hs₁.1]
 have hz₅:IsZip h₅ z TI TO .ellipsis:=hs₅.extBut _ _ D.TOz.symm (hs₄.extBut _ _ D.i2z.symm (hs₃.extBut _ _ D.TOz.symm (hs₂.extBut _ _ D.i1z.symm hz₁)))
 have hk₅:∀c o,c≠z->c≠TO->c≠i1->c≠i2->s.heap.get? c=some o->h₅.get? c=some o:=fun c o c1 c2 c3 c4 e=>
  hs₅.extBut _ _ c2 (hs₄.extBut _ _ c4 (hs₃.extBut _ _ c2 (hs₂.extBut _ _ c3 (hs₁.extBut _ _ c1 e))))
 have h1₅:dt' k h₅ i1 l1 (k1+1):=h1₂.at fun o e=>hs₅.extBut _ _ D.TOi1.symm (hs₄.extBut _ _ D.i12 (hs₃.extBut _ _ D.TOi1.symm e))
 have h2₅:dt' j h₅ i2 l2 (k2+1):=h2₄.at fun o e=>hs₅.extBut _ _ D.TOi2.symm e
 have hzlt:z<h₅.objs.size:=aw hz₅
 show wpAny _ _ (Builtin.SmallTypes.ownedTupleHandOut (.ref z) (.ref h₅.objs.size) >>= _) _ _ _
 refine ab ?_
 unfold Builtin.SmallTypes.ownedTupleHandOut
 have hz₆:IsZip (h₅.push { cls:=.type "tuple",data:=.seq #[x,y] }) z TI TO .ellipsis:=ag _ hz₅
 refine ab (cw hz₆ (by simp) fun h₇ hz₇ hs₇=>?_)
 replace hz₇:IsZip h₇ z TI TO (rawInt h₅.objs.size):=hz₇
 refine cw hz₇ (by simp) fun h₈ hz₈ hs₈=>?_
 replace hz₈:IsZip h₈ z TI TO (rawInt h₅.objs.size):=hz₈
 have up:∀c o,c≠z->h₅.get? c=some o->h₈.get? c=some o:=fun c o c1 e=>hs₈.extBut _ _ c1 (hs₇.extBut _ _ c1 (ag _ e))
 have hT₈:IsPair h₈ h₅.objs.size x y:=hs₈.extBut _ _ (bF hzlt) (hs₇.extBut _ _ (bF hzlt) (aC _ rfl))
 have hz8:h₈.objs.size=h₅.objs.size+1:=by rw[hs₈.1,hs₇.1,bA]
 rw[hsz]at hz₈ hT₈ hz8
 refine av ⟨_,rfl,av ?_⟩
 show Q (some (.ref h₅.objs.size)) _
 rw[hsz]
 exact hQ h₈ hz₈ (up _ _ D.TOz hTO₅) (h1₅.at fun o e=>up _ o D.i1z e) (h2₅.at fun o e=>up _ o D.i2z e) hT₈ hz8 fun c o c1 c2 c3 c4 e=>up c o c1 (hk₅ c o c1 c2 c3 c4 e)
theorem lw' {k j:Bool} {z TI TO i1 i2 l1 l2:Addr} {k1 k2:Nat} {xs ys:Array Value} {a b:Value} {Q:Option Value->Shared->Prop} (hh:A.handled=none) (D:ZipApart z TI TO i1 i2 l1 l2)
  (hz:IsZip s.heap z TI TO .none) (hTI:IsPair s.heap TI (.ref i1) (.ref i2)) (hTO:IsPair s.heap TO a b)
  (h1:dt' k s.heap i1 l1 k1) (h2:dt' j s.heap i2 l2 k2) (hl1:e4' k s.heap l1 xs) (hl2:e4' j s.heap l2 ys) (hend:xs[k1]?=none\/ys[k2]?=none)
  (hQ:∀h',(∀c o,c≠z->c≠TO->c≠i1->c≠i2->s.heap.get? c=some o->h'.get? c=some o)->Q none { s with heap:=h' }):wpAny (model prog w) A (pyNext (.ref z)) Q E s:=by
 have hT:s.TypeIs (.ref z) "zip":=⟨_,hz,rfl⟩
 unfold pyNext
 refine ab (wpAny_attempt (bD (name:=Str.ofString "__next__") hT F.slot_zip_next
  (cg F.slot_zip_next hT F.entry_zip_next ?_ (F.args_zip_next_1 _))))
 have fin:∀(h':Heap) (e:Addr),(∀c o,c≠z->c≠TO->c≠i1->c≠i2->s.heap.get? c=some o->h'.get? c=some o)->(∃o,h'.get? e=some o/\o.cls=.type "StopIteration")->
   wpAny (model prog w) A (do if <- isInstance (.ref e) (.type "StopIteration")then pure none else throw (.ref e)) Q E { s with heap:=h' }:=fun h' e hk ⟨o,ho,hc⟩=>
  ab (wpAny_isInstance (T:="StopIteration") (b:=true) ⟨o,ho,hc⟩ isSubtype_stop (av (hQ _ hk)))
 show wpAny _ _ (field (.ref z) 2 >>= _) _ _ _
 refine ab (bu hz rfl (x:=.bool false) rfl ?_)
 show wpAny _ _ (field (.ref z) 3 >>= _) _ _ _
 refine ab (bu hz rfl (x:=.ref TI) rfl ?_)
 refine ab (bZ hTI rfl ?_)
 show wpAny _ _ (Builtin.SmallTypes.ownedTupleIsFree (.ref z) >>= _) _ _ _
 refine ab ?_
 unfold Builtin.SmallTypes.ownedTupleIsFree
 refine ab (bu hz rfl (x:=.none) rfl (av ?_))
 simp only[if_true]
 refine ab (wpAny_rule ?_)
 refine ab (bu hz rfl (x:=.ref TO) rfl ?_)
 refine ab (cw hz (by simp) fun h₁ hz₁ hs₁=>?_)
 replace hz₁:IsZip h₁ z TI TO .ellipsis:=hz₁
 refine ab ?_
 simp only[List.zipIdx_cons,List.zipIdx_nil,List.forIn_cons,List.forIn_nil]
 refine ab (ab (wpAny_onRaise ?_))
 show wpAny _ _ (Builtin.SmallTypes.nextOf (.ref i1) >>= _) _ _ _
 have a1:=h1.at (h':=h₁) fun o e=>hs₁.extBut _ _ D.i1z e
 have b1:=hl1.at (h':=h₁) fun o e=>hs₁.extBut _ _ D.l1z e
 cases hx:xs[k1]? with
 |none=>
  refine ab (dG' (by first|exact hh|rfl) a1 b1 hx fun h₂ e hs₂ he=>?_)
  obtain⟨oe,hoe,hce⟩:=he
  have hz₂:IsZip h₂ z TI TO .ellipsis:=hs₂ _ _ D.i1z.symm hz₁
  have hez:e≠z:=fun x=>by subst x;rw[hz₂]at hoe;cases hoe;simp at hce
  refine cw hz₂ (by simp) fun h₃ _ hs₃=>fin h₃ e (fun c o c1 _ c3 _ x=>hs₃.extBut _ _ c1 (hs₂ _ _ c3 (hs₁.extBut _ _ c1 x))) ⟨oe,hs₃.extBut _ _ hez hoe,hce⟩
 |some x=>
  have hy:ys[k2]?=none:=by rcases hend with h|h;rw[hx]at h;cases h;exact h
  refine ab (bD' a1 b1 hx fun h₂ h1₂ hs₂=>av ?_)
  have hTO₂:IsPair h₂ TO a b:=hs₂.extBut _ _ D.TOi1 (hs₁.extBut _ _ D.TOz hTO)
  refine ab (bZ hTO₂ rfl ?_)
  refine ab (wpAny_updateSeq_pair hTO₂ fun h₃ hTO₃ hs₃=>?_)
  refine ab (wpAny_letGo (av ?_))
  refine ab (ab (wpAny_onRaise ?_))
  show wpAny _ _ (Builtin.SmallTypes.nextOf (.ref i2) >>= _) _ _ _
  refine ab (dG' (by first|exact hh|rfl) (h2.at fun o e=>hs₃.extBut _ _ D.TOi2.symm (hs₂.extBut _ _ D.i12.symm (hs₁.extBut _ _ D.i2z e)))
   (hl2.at fun o e=>hs₃.extBut _ _ D.l2TO (hs₂.extBut _ _ D.l2i1 (hs₁.extBut _ _ D.l2z e))) hy fun h₄ e hs₄ he=>?_)
  obtain⟨oe,hoe,hce⟩:=he
  have hz₄:IsZip h₄ z TI TO .ellipsis:=hs₄ _ _ D.i2z.symm (hs₃.extBut _ _ D.TOz.symm (hs₂.extBut _ _ D.i1z.symm hz₁))
  have hez:e≠z:=fun x=>by subst x;rw[hz₄]at hoe;cases hoe;simp at hce
  refine cw hz₄ (by simp) fun h₅ _ hs₅=>fin h₅ e (fun c o c1 c2 c3 c4 x=>hs₅.extBut _ _ c1 (hs₄ _ _ c4 (hs₃.extBut _ _ c2 (hs₂.extBut _ _ c3 (hs₁.extBut _ _ c1 x))))) ⟨oe,hs₅.extBut _ _ hez hoe,hce⟩
end
def Its (x:Str):It:=⟨fun i _=>i<x.cps.size,fun i H v H'=>H'=H/\∃c,x.cps[i]?=some c/\v=.str ⟨#[c]⟩,fun i _=>x.cps.size<=i⟩
theorem oE' {P:Program} {w:World} {K:W.Frag} {tg:Expr} (it:Addr) (x:Str) (ty:String) (t:Tok) (hty:ty="str_ascii_iterator"\/ty="str_iterator"):
  Turn P w K tg (Its x) [it] it (fun i h=>h.IsStrIter it ty x t i) where
 mem:=by simp
 obj:=fun i h st b hb=>by
  have e:b=it:=by simpa using hb
  subst e
  obtain⟨o,e,c,d⟩:=st
  exact⟨o,e,fun v z=>by rw[d]at z;cases z⟩
 keep:=fun i h h' st k=>by
  obtain⟨o,e,r⟩:=st
  exact⟨o,k it (by simp) o e,r⟩
 item:=by
  intro X hP hw hK hc i pins s σ H E I hf st hg
  subst hP hw hK
  obtain⟨f0,f1,f2,f3,f4,f5⟩:=hf it (by simp)
  have hg':i<x.cps.size:=hg
  have hx:x.cps[i]?=some x.cps[i]:=by simp[hg']
  have fin:∀h',h'.IsStrIter it ty x t (i+1)->cD it s.heap h'->∃u,some (Value.str ⟨#[x.cps[i]]⟩ s.toks)=some u/\
    wpAny (model X.prog X.w) X.A (letOwnedTupleGo tg (.ref it) u) (fun _ s2=>∃y H',Inv X pins σ H' s2/\aD' y u/\(Its x).yld i H y H'/\s2.heap.IsStrIter it ty x t (i+1)/\∀b∈[it],H' b=none) E { s with heap:=h',toks:=s.toks+1 }:=fun h' st' sb=>by
   have I1:Inv X pins σ H { s with heap:=h',toks:=s.toks+1 }:=I.turned (fun b o hb e=>(sb.2 b hb).trans e) f0 f1 f3 f4 f5
   obtain⟨o,e,c,d⟩:=id st'
   refine⟨_,rfl,oo' (s:={ s with heap:=h',toks:=s.toks+1 }) e c d ?_ ⟨.str ⟨#[x.cps[i]]⟩,H,I1,⟨_,rfl⟩,⟨rfl,_,hx,rfl⟩,st',fun b hb=>(hf b hb).1⟩⟩
   rcases hty with rfl|rfl<;>decide
  rcases hty with rfl|rfl
  .exact wpAny_pyNext_ascii_item st hx fin
  .exact wpAny_pyNext_wide_item st hx fin
 done:=by
  intro X hP hw hK hc i pins s σ H E I hf st hg
  subst hP hw hK
  obtain⟨f0,f1,f2,f3,f4,f5⟩:=hf it (by simp)
  have hg':x.cps.size<=i:=hg
  have hx:x.cps[i]?=none:=by simp[hg']
  have fin:∀h',Heap.ExtBut it s.heap h'->(none:Option Value)=none/\Inv X pins σ H { s with heap:=h' }:=fun h' eb=>⟨rfl,I.turned (t':=s.toks) (fun b o hb e=>eb b o hb e) f0 f1 f3 f4 f5⟩
  rcases hty with rfl|rfl
  .exact wpAny_pyNext_ascii_end (I.ok.hd hc) st hx fin
  .exact wpAny_pyNext_wide_end (I.ok.hd hc) st hx fin
 self:=fun _ _ _ _ _ st h=>by
  rcases hty with rfl|rfl
  .exact wpAny_pyIter_striter_ascii st h
  .exact wpAny_pyIter_striter_wide st h
def Sq (k:Bool) (K:W.Frag) (H:Hp) (a:Addr) (xs:List V):Prop:=match k with
 |true=>SqT K H a xs
 |false=>SqL K H a xs
theorem Inv.sq {X:Cx} {pins:List (Addr×Obj)} {σ:St} {H:Hp} {s:Shared} {k:Bool} {a:Addr} {xs:List V} (I:Inv X pins σ H s) (h:Sq k X.K H a xs):∃its:List Value,aK' xs its/\e4' k s.heap a its.toArray/\xs.length<=sizeLine:=by
 cases k
 .obtain⟨its,r,p,z⟩:=I.list h
  exact⟨its,r,p.isList,z⟩
 .obtain⟨its,r,p,z⟩:=I.tuple h
  exact⟨its,r,p,z⟩
theorem Inv.sq_inj {X:Cx} {pins:List (Addr×Obj)} {σ:St} {H:Hp} {s:Shared} {k:Bool} {a:Addr} {xs ys:List V} (I:Inv X pins σ H s) (h:Sq k X.K H a xs) (h':Sq k X.K H a ys):xs=ys:=by
 cases k
 .exact I.list_inj h h'
 .exact I.tuple_inj h h'
def u0' (k j:Bool) (K:W.Frag) (a b:Addr):It:=
 ⟨fun i H=>∃xs ys x y,Sq k K H a xs/\Sq j K H b ys/\xs[i]?=some x/\ys[i]?=some y,
  fun i H v H'=>∃p x y,v=.ref p/\H p=none/\(∀xs,Sq k K H a xs->xs[i]?=some x)/\(∀ys,Sq j K H b ys->ys[i]?=some y)/\H'=upd H p (.tup [x,y]),
  fun i H=>∃xs ys,Sq k K H a xs/\Sq j K H b ys/\(xs.length<=i\/ys.length<=i)⟩
abbrev Itz (k:Bool) (K:W.Frag) (a b:Addr):It:=u0' k k K a b
def zTn (k j:Bool) (z TI TO i1 i2 l1 l2:Addr) (i:Nat) (h:Heap):Prop:=
 IsZip h z TI TO .none/\IsPair h TI (.ref i1) (.ref i2)/\(∃a b,IsPair h TO a b)/\dt' k h i1 l1 i/\dt' j h i2 l2 i
theorem oF' {P:Program} {w:World} {K:W.Frag} {elts:List Expr} {kt:Nat} {pt:Pos} {k j:Bool} {z TI TO i1 i2 l1 l2:Addr} (D:ZipApart z TI TO i1 i2 l1 l2):
  Turn P w K (.Tuple elts kt pt) (u0' k j K l1 l2) [z,TI,TO,i1,i2] z (zTn k j z TI TO i1 i2 l1 l2) where
 mem:=by simp
 obj:=fun i h st b hb=>by
  obtain⟨hz,hTI,⟨_,_,hTO⟩,h1,h2⟩:=st
  simp only[ap,aA,or_false]at hb
  rcases hb with rfl|rfl|rfl|rfl|rfl
  .exact⟨_,hz,fun v=>(nomatch ·)⟩
  .exact⟨_,hTI,fun v=>(nomatch ·)⟩
  .exact⟨_,hTO,fun v=>(nomatch ·)⟩
  .obtain⟨o,e,d⟩:=h1.obj
   exact⟨o,e,fun v q=>by rw[d]at q;cases q⟩
  .obtain⟨o,e,d⟩:=h2.obj
   exact⟨o,e,fun v q=>by rw[d]at q;cases q⟩
 keep:=fun i h h' st kk=>by
  obtain⟨hz,hTI,⟨a,b,hTO⟩,h1,h2⟩:=st
  exact⟨kk z (by simp) _ hz,kk TI (by simp) _ hTI,⟨a,b,kk TO (by simp) _ hTO⟩,h1.at fun o e=>kk i1 (by simp) o e,h2.at fun o e=>kk i2 (by simp) o e⟩
 item:=by
  intro X hP hw hK hc i pins s σ H E I hf st hg
  subst hP hw hK
  obtain⟨xs,ys,x,y,hxs,hys,hx,hy⟩:=hg
  obtain⟨hz,hTI,⟨a,b,hTO⟩,h1,h2⟩:=st
  obtain⟨us,rus,ous,_⟩:=I.sq hxs
  obtain⟨vs,rvs,ovs,_⟩:=I.sq hys
  obtain⟨u,hu,ru⟩:=rus.get hx
  obtain⟨v,hv,rv⟩:=rvs.get hy
  refine jl' D hz hTI hTO h1 h2 ous ovs (x:=u) (y:=v) (by simpa using hu) (by simpa using hv) fun h' hz' hTO' h1' h2' hT hsz hk=>?_
  refine⟨_,rfl,wpAny_letOwnedTupleGo_zip (s:={ s with heap:=h' }) hz' fun h'' hz'' hs=>?_⟩
  have hs':cD z h' h'':=hs
  have zlt:z<s.heap.objs.size:=aw hz
  have neT:s.heap.objs.size≠z:=bF zlt
  have hkk:∀c o,c∉[z,TO,i1,i2]->s.heap.get? c=some o->h''.get? c=some o:=fun c o hc e=>by
   simp only[ap,aA,or_false,not_or]at hc
   exact(hs'.2 c hc.1).trans (hk c o hc.1 hc.2.1 hc.2.2.1 hc.2.2.2 e)
  have sub:∀c∈[z,TO,i1,i2],c∈[z,TI,TO,i1,i2]:=fun c hc=>by
   simp only[ap,aA,or_false]at hc ⊢
   rcases hc with h|h|h|h
   .exact .inl h
   .exact .inr (.inr (.inl h))
   .exact .inr (.inr (.inr (.inl h)))
   .exact .inr (.inr (.inr (.inr h)))
  have hTn:H s.heap.objs.size=none:=I.hok.fresh (ak _)
  have trk:∀c o,H c=some o->c∉[z,TO,i1,i2]:=fun c o e hc=>by rw[(hf c (sub c hc)).1]at e;cases e
  have I1:Inv X pins σ (upd H s.heap.objs.size (.tup [x,y])) { s with heap:=h'' }:=by
   refine I.step (g':=s.gens) (d':=s.drawn) (t':=s.toks) (ch:=[z,TO,i1,i2]) (fun c hc=>?_) (fun c o _ _ hc e _=>hkk c o hc e) (fun c o _ _ hc e _=>⟨o.slots,hkk c o hc e⟩)
    (fun c o _ e n=>by rw[af' (aE (aw e))];exact n) (fun c o hc e=>⟨o,hkk c o hc e⟩) (fun c ps e=>by rw[af' (ah' e hTn)];exact e) (fun c o p e=>by rw[af' (ah' e hTn)];exact e)
    (fun c ps e=>⟨#[],by rw[af' (ah' e hTn),e];simp⟩) (fun m hm=>?_) (fun c o e=>?_) I.bare
   .obtain⟨f0,f1,f2,f3,f4,f5⟩:=hf c (sub c hc)
    exact⟨f3,f1,f4,f5⟩
   .obtain⟨oo,es,ep,ho,r⟩:=hm
    exact⟨oo,es,ep,hkk _ oo (fun hc=>(hf _ (sub _ hc)).2.1 rfl) ho,r⟩
   .by_cases hb:c=s.heap.objs.size
    .subst hb
     rw[ac']at e;cases e
     exact⟨by show 2<=sizeLine;decide,[u,v],.cons ru (.cons rv .nil),⟨_,(hs'.2 _ neT).trans hT,rfl,⟨_,rfl⟩,rfl⟩⟩
    .rw[af' hb]at e
     refine(I.hok c o e).stay (fun d q hd eq=>hkk d q ?_ eq) (fun d q=>by rw[af' (ah' q hTn)];exact q) fun d qs q=>by rw[af' (ah' q hTn)];exact q
     rcases hd with rfl|hd
     .exact trk _ _ e
     .exact trk _ _ hd
  refine⟨.ref s.heap.objs.size,_,I1,rfl,⟨s.heap.objs.size,x,y,rfl,hTn,fun xs' h'=>by rw[I.sq_inj h' hxs];exact hx,fun ys' h'=>by rw[I.sq_inj h' hys];exact hy,rfl⟩,⟨hz'',?_,⟨u,v,?_⟩,?_,?_⟩,fun c hc=>?_⟩
  .exact(hs'.2 TI D.TIz).trans (hk TI _ D.TIz D.TITO D.TIi1 D.TIi2 hTI)
  .exact(hs'.2 TO D.TOz).trans hTO'
  .exact h1'.at fun o e=>(hs'.2 i1 D.i1z).trans e
  .exact h2'.at fun o e=>(hs'.2 i2 D.i2z).trans e
  .rw[af']
   .exact(hf c hc).1
   .intro q
    subst q
    simp only[ap,aA,or_false]at hc
    rcases hc with q|q|q|q|q
    .exact neT q
    .exact bm _ (q ▸ aw hTI)
    .exact bm _ (q ▸ aw hTO)
    .obtain⟨o,e,_⟩:=h1.obj
     exact bm _ (q ▸ aw e)
    .obtain⟨o,e,_⟩:=h2.obj
     exact bm _ (q ▸ aw e)
 done:=by
  intro X hP hw hK hc i pins s σ H E I hf st hg
  subst hP hw hK
  obtain⟨xs,ys,hxs,hys,hend⟩:=hg
  obtain⟨hz,hTI,⟨a,b,hTO⟩,h1,h2⟩:=st
  obtain⟨us,rus,ous,_⟩:=I.sq hxs
  obtain⟨vs,rvs,ovs,_⟩:=I.sq hys
  have l1':=rus.length
  have l2':=rvs.length
  refine lw' (I.ok.hd hc) D hz hTI hTO h1 h2 ous ovs ?_ fun h' hk=>⟨rfl,?_⟩
  .rcases hend with q|q
   .exact .inl (by simp;omega)
   .exact .inr (by simp;omega)
  have sub:∀c∈[z,TO,i1,i2],c∈[z,TI,TO,i1,i2]:=fun c hc=>by
   simp only[ap,aA,or_false]at hc ⊢
   rcases hc with h|h|h|h
   .exact .inl h
   .exact .inr (.inr (.inl h))
   .exact .inr (.inr (.inr (.inl h)))
   .exact .inr (.inr (.inr (.inr h)))
  have hkk:∀c o,c∉[z,TO,i1,i2]->s.heap.get? c=some o->h'.get? c=some o:=fun c o hc e=>by
   simp only[ap,aA,or_false,not_or]at hc
   exact hk c o hc.1 hc.2.1 hc.2.2.1 hc.2.2.2 e
  have trk:∀c o,H c=some o->c∉[z,TO,i1,i2]:=fun c o e hc=>by rw[(hf c (sub c hc)).1]at e;cases e
  refine I.step (g':=s.gens) (d':=s.drawn) (t':=s.toks) (ch:=[z,TO,i1,i2]) (fun c hc=>?_) (fun c o _ _ hc e _=>hkk c o hc e) (fun c o _ _ hc e _=>⟨o.slots,hkk c o hc e⟩)
    (fun c o _ e n=>n) (fun c o hc e=>⟨o,hkk c o hc e⟩) (fun c ps e=>e) (fun c o p e=>e) (fun c ps e=>⟨#[],by rw[e];simp⟩) (fun m hm=>?_) (fun c o e=>?_) I.bare
  .obtain⟨f0,f1,f2,f3,f4,f5⟩:=hf c (sub c hc)
   exact⟨f3,f1,f4,f5⟩
  .obtain⟨oo,es,ep,ho,r⟩:=hm
   exact⟨oo,es,ep,hkk _ oo (fun hc=>(hf _ (sub _ hc)).2.1 rfl) ho,r⟩
  .refine(I.hok c o e).stay (fun d q hd eq=>hkk d q ?_ eq) (fun d q=>q) fun d qs q=>q
   rcases hd with rfl|hd
   .exact trk _ _ e
   .exact trk _ _ hd
 self:=fun _ _ _ _ _ st h=>wpAny_pyIter_zip st.1 h
section
variable {X:Cx} {tg:Expr}
def AA' (K:W.Frag) (tl:TE):TI:=fun σ H R=>tl σ H fun x H1=>
 (∃a,x=.ref a/\(∃xs,SqL K H1 a xs)/\R (Itl K a) H1)\/(∃a,x=.ref a/\(∃xs,SqT K H1 a xs)/\R (Itt K a) H1)\/∃z,x=.str z/\R (Its z) H1
theorem vP' {l:Expr} {tl:TE} (hl:PE X l tl):PI X tg l (AA' X.K tl):=by
 intro pins s σ H R I h
 refine thn (hl pins s σ H _ I h) fun v s1 ⟨x,H1,I1,r1,q1⟩=>?_
 rcases q1 with⟨a,e,⟨xs,hq⟩,q⟩|⟨a,e,⟨xs,hq⟩,q⟩|⟨z,e,q⟩
 .subst e
  cases r1
  obtain⟨its,rv,p,hz⟩:=I1.list hq
  refine db p.isList ?_
  refine⟨s1.heap.objs.size,[s1.heap.objs.size],_,_,H1,rfl,I1.kept (t':=s1.toks) fun b o e=>ag _ e,k0' a _,⟨_,aC _ rfl,rfl,rfl⟩,fun b hb=>?_,q⟩
  have e:b=s1.heap.objs.size:=by simpa using hb
  subst e
  exact I1.fpOk (ak _) (I1.hok.fresh (ak _))
 .subst e
  cases r1
  obtain⟨its,rv,p,hz⟩:=I1.tuple hq
  refine cc (show s1.heap.IsTuple a its.toArray from p) ?_
  refine⟨s1.heap.objs.size,[s1.heap.objs.size],_,_,H1,rfl,I1.kept (t':=s1.toks) fun b o e=>ag _ e,j4' a _,⟨_,aC _ rfl,rfl,rfl⟩,fun b hb=>?_,q⟩
  have e:b=s1.heap.objs.size:=by simpa using hb
  subst e
  exact I1.fpOk (ak _) (I1.hok.fresh (ak _))
 .subst e
  obtain⟨t,rfl⟩:=r1
  have fin:∀(ty:String),(ty="str_ascii_iterator"\/ty="str_iterator")->PIE X pins σ tg R (.ref s1.heap.objs.size) { s1 with heap:=s1.heap.push { cls:=.type ty,data:=.fields #[.str z t,.int 0 0] } }:=fun ty hty=>by
   refine⟨s1.heap.objs.size,[s1.heap.objs.size],_,_,H1,rfl,I1.kept (t':=s1.toks) fun b o e=>ag _ e,oE' _ z ty t hty,⟨_,aC _ rfl,rfl,rfl⟩,fun b hb=>?_,q⟩
   have e:b=s1.heap.objs.size:=by simpa using hb
   subst e
   exact I1.fpOk (ak _) (I1.hok.fresh (ak _))
  cases ha:z.cps.all (· < 128)
  .exact wpAny_pyIter_wide ha (fin _ (.inr rfl))
  .exact wpAny_pyIter_ascii ha (fin _ (.inl rfl))
def AB' (K:W.Frag) (ta:TA):TI:=fun σ H R=>ta σ H fun vs H1=>∃(k j:Bool) (a b:Addr),vs=[.ref a,.ref b]/\(∃xs,Sq k K H1 a xs)/\(∃ys,Sq j K H1 b ys)/\R (u0' k j K a b) H1
theorem vQ' {a b:Expr} {ta:TA} {p pos:Pos} {elts:List Expr} {kt:Nat} {pt:Pos} (hg:Gl X "zip") (hm:X.mg "zip"=none) (ha:PA X [a,b] ta) (hs:starEach [a,b] X.env=[(false,eval a X.env),(false,eval b X.env)]) (hs2:starEach [b] X.env=[(false,eval b X.env)]):
  PI X (.Tuple elts kt pt) (.Call (.Name "zip" p) [a,b] [] pos) (AB' X.K ta):=by
 intro pins s σ H R I h
 refine Call_ (eg' I hg hm boot_zip (PyProof.Rows.callWith_type1 (thn (ha pos pins s σ H _ I h) fun us s1 ⟨vs,H1,I1,r1,q1⟩=>?_) (by rw[hs,hs2]) (by rw[hs2];rfl)))
 obtain⟨k,j,a,b,e,⟨xs,hxs⟩,⟨ys,hys⟩,q⟩:=q1
 subst e
 cases r1 with
 |cons r rr=>
  cases rr with
  |cons r' rr=>
   cases rr
   cases r
   cases r'
   obtain⟨us,rus,ous,_⟩:=I1.sq hxs
   obtain⟨vs,rvs,ovs,_⟩:=I1.sq hys
   refine lv' ous ovs fun h' hz hTI hTO h1 h2 hsz hk=>wpAny_pyIter_zip hz ?_
   refine⟨s1.heap.objs.size+4,[s1.heap.objs.size+4,s1.heap.objs.size+2,s1.heap.objs.size+3,s1.heap.objs.size,s1.heap.objs.size+1],_,_,H1,rfl,I1.kept (t':=s1.toks) hk,oF' (k:=k) (j:=j) (PyProof.Rows.zipApart_new ous.lt ovs.lt),⟨hz,hTI,⟨_,_,hTO⟩,h1,h2⟩,fun c hc=>?_,q⟩
   have hle:s1.heap.objs.size<=c:=by
    simp only[ap,aA,or_false]at hc
    rcases hc with rfl|rfl|rfl|rfl|rfl
    .exact aO _ _
    .exact aO _ _
    .exact aO _ _
    .exact ak _
    .exact aO _ _
   exact I1.fpOk hle (I1.hok.fresh hle)
end
def Itd (go:Nat->Hp->Prop) (val:Nat->Hp->V->Prop) (stop:Nat->Hp->Prop):It:=
 ⟨go,fun i H v H'=>∃p x,v=.ref p/\H p=none/\val i H x/\H'=upd H p (.tup [.int i,x]),stop⟩
structure EnSrc (P:Program) (w:World) (K:W.Frag) (e it:Addr) (Sx:Nat->Heap->Prop) (go:Nat->Hp->Prop) (val:Nat->Hp->V->Prop) (stop:Nat->Hp->Prop):Prop where
 ne:e≠it
 obj:∀i h,Sx i h->∃o,h.get? it=some o/\∀v,o.data≠.cell v
 keep:∀i h h',Sx i h->(∀o,h.get? it=some o->h'.get? it=some o)->Sx i h'
 item:∀(X:Cx),X.prog=P->X.w=w->X.K=K->X.calm=true->∀(i:Nat) (pins:List (Addr×Obj)) (s:Shared) (σ:St) (H:Hp),Inv X pins σ H s->H e=none->H it=none->e<s.heap.objs.size->(∃old,IsEnum s.heap e it i old)->Sx i s.heap->go i H->
  ∃n Pd Sd fp,Draws P w X.A.in1 it fp n Pd Sd/\e∉fp/\i<n/\Sd i s.heap/\(∀j h,Sd j h->Sx j h)/\∀u,Pd i u->∃x,aD' x u/\val i H x
 done:∀(X:Cx),X.prog=P->X.w=w->X.K=K->X.calm=true->∀(i:Nat) (pins:List (Addr×Obj)) (s:Shared) (σ:St) (H:Hp),Inv X pins σ H s->H e=none->H it=none->(∃old,IsEnum s.heap e it i old)->Sx i s.heap->stop i H->
  ∃Pd Sd fp,Draws P w X.A.in1 it fp i Pd Sd/\Sd i s.heap
theorem fA' {P:Program} {w:World} {K:W.Frag} {elts:List Expr} {kt:Nat} {pt:Pos} {e it:Addr} {Sx:Nat->Heap->Prop} {go:Nat->Hp->Prop} {val:Nat->Hp->V->Prop} {stop:Nat->Hp->Prop} (S:EnSrc P w K e it Sx go val stop):
  Turn P w K (.Tuple elts kt pt) (Itd go val stop) [e,it] e (fun i h=>(∃old,IsEnum h e it i old)/\Sx i h) where
 mem:=by simp
 obj:=fun i h st b hb=>by
  obtain⟨⟨old,he⟩,hs⟩:=st
  simp only[ap,aA,or_false]at hb
  rcases hb with rfl|rfl
  .exact⟨_,he,fun v=>(nomatch ·)⟩
  .exact S.obj i h hs
 keep:=fun i h h' st kk=>by
  obtain⟨⟨old,he⟩,hs⟩:=st
  exact⟨⟨old,kk e (by simp) _ he⟩,S.keep i h h' hs fun o q=>kk it (by simp) o q⟩
 item:=by
  intro X hP hw hK hc i pins s σ H E I hf st hg
  have hfe:=hf e (by simp)
  have hfi:=hf it (by simp)
  obtain⟨n,Pd,Sd,fp,D,hefp,hin,hsd,hsub,hval⟩:=S.item X hP hw hK hc i pins s σ H I hfe.1 hfi.1 (aw st.1.choose_spec) st.1 st.2 hg
  obtain⟨⟨old,he⟩,hs⟩:=st
  subst hP hw hK
  refine wpAny_pyNext_enum_itemD D he hsd hin S.ne hefp fun u h' tk hPu ho hs' hT hsz hk=>?_
  obtain⟨x,rx,vx⟩:=hval u hPu
  refine⟨_,rfl,wpAny_letOwnedTupleGo_enum (s:={ s with heap:=h',toks:=tk+1 }) ho fun h'' he'' hb=>?_⟩
  have hb':cD e h' h'':=hb
  have elt:e<s.heap.objs.size:=aw he
  have neT:s.heap.objs.size≠e:=bF elt
  have hTn:H s.heap.objs.size=none:=I.hok.fresh (ak _)
  have hkk:∀c o,c∉[e,it]->s.heap.get? c=some o->h''.get? c=some o:=fun c o hc q=>by
   simp only[ap,aA,or_false,not_or]at hc
   exact(hb'.2 c hc.1).trans (hk c o hc.1 hc.2 q)
  have trk:∀c o,H c=some o->c∉[e,it]:=fun c o q hc=>by rw[(hf c hc).1]at q;cases q
  have I1:Inv X pins σ (upd H s.heap.objs.size (.tup [.int i,x])) { s with heap:=h'',toks:=tk+1 }:=by
   refine I.step (g':=s.gens) (d':=s.drawn) (t':=tk+1) (ch:=[e,it]) (fun c hc=>?_) (fun c o _ _ hc q _=>hkk c o hc q) (fun c o _ _ hc q _=>⟨o.slots,hkk c o hc q⟩)
    (fun c o _ q n=>by rw[af' (aE (aw q))];exact n) (fun c o hc q=>⟨o,hkk c o hc q⟩) (fun c ps q=>by rw[af' (ah' q hTn)];exact q) (fun c o p q=>by rw[af' (ah' q hTn)];exact q)
    (fun c ps q=>⟨#[],by rw[af' (ah' q hTn),q];simp⟩) (fun m hm=>?_) (fun c o q=>?_) I.bare
   .obtain⟨f0,f1,f2,f3,f4,f5⟩:=hf c hc
    exact⟨f3,f1,f4,f5⟩
   .obtain⟨oo,es,ep,ho,r⟩:=hm
    exact⟨oo,es,ep,hkk _ oo (fun hc=>(hf _ hc).2.1 rfl) ho,r⟩
   .by_cases hb:c=s.heap.objs.size
    .subst hb
     rw[ac']at q;cases q
     exact⟨by show 2<=sizeLine;decide,[.int i tk,u],.cons ⟨_,rfl⟩ (.cons rx .nil),⟨_,(hb'.2 _ neT).trans hT,rfl,⟨_,rfl⟩,rfl⟩⟩
    .rw[af' hb]at q
     refine(I.hok c o q).stay (fun d q hd eq=>hkk d q ?_ eq) (fun d q=>by rw[af' (ah' q hTn)];exact q) fun d qs q=>by rw[af' (ah' q hTn)];exact q
     rcases hd with rfl|hd
     .exact trk _ _ (by assumption)
     .exact trk _ _ hd
  refine⟨.ref s.heap.objs.size,_,I1,rfl,⟨s.heap.objs.size,x,rfl,hTn,vx,rfl⟩,⟨⟨_,he''⟩,S.keep _ _ _ (hsub _ _ hs') fun o q=>(hb'.2 it (Ne.symm S.ne)).trans q⟩,fun c hc=>?_⟩
  rw[af']
  .exact(hf c hc).1
  .intro q
   subst q
   simp only[ap,aA,or_false]at hc
   rcases hc with q|q
   .exact neT q
   .obtain⟨o,e1,_⟩:=S.obj _ _ hs
    exact bm _ (q ▸ aw e1)
 done:=by
  intro X hP hw hK hc i pins s σ H E I hf st hg
  have hfe:=hf e (by simp)
  have hfi:=hf it (by simp)
  obtain⟨Pd,Sd,fp,D,hsd⟩:=S.done X hP hw hK hc i pins s σ H I hfe.1 hfi.1 st.1 st.2 hg
  obtain⟨⟨old,he⟩,hs⟩:=st
  subst hP hw hK
  refine wpAny_pyNext_enum_endD D he hsd fun h' hx=>⟨rfl,?_⟩
  obtain⟨f0,f1,f2,f3,f4,f5⟩:=hfi
  exact I.turned (t':=s.toks) (fun b o hb q=>hx b o hb q) f0 f1 f3 f4 f5
 self:=fun _ _ _ _ _ st h=>by
  obtain⟨⟨old,he⟩,_⟩:=st
  exact wpAny_pyIter_enum he h
def Ite (K:W.Frag) (a:Addr):It:=Itd (fun i H=>∃xs x,SqL K H a xs/\xs[i]?=some x) (fun i H x=>∀xs,SqL K H a xs->xs[i]?=some x) (fun i H=>∃xs,SqL K H a xs/\xs.length=i)
theorem ss' {P:Program} {w:World} {K:W.Frag} {e it a:Addr} (ne:e≠it) (na:a≠e) (nai:a≠it):EnSrc P w K e it (fun i h=>h.IsListIter it a i) (fun i H=>∃xs x,SqL K H a xs/\xs[i]?=some x) (fun i H x=>∀xs,SqL K H a xs->xs[i]?=some x) (fun i H=>∃xs,SqL K H a xs/\xs.length=i) where
 ne:=ne
 obj:=fun i h st=>by
  obtain⟨o,q,c,d⟩:=st
  exact⟨o,q,fun v z=>by rw[d]at z;cases z⟩
 keep:=fun i h h' st k=>st.at k
 item:=by
  intro X hP hw hK hc i pins s σ H I _ _ _ _ st hg
  obtain⟨xs,x,hxs,hx⟩:=hg
  subst hP hw hK
  obtain⟨its,rv,p,hz⟩:=I.list hxs
  have hl:=rv.length
  obtain⟨u,hu,ru⟩:=rv.get hx
  refine⟨_,_,_,_,Draws.list (show X.A.in1.handled=none from I.ok.hd hc) it a nai its.toArray,?_,?_,⟨st,p.isList⟩,fun j h q=>q.1,fun u' hu'=>⟨x,?_,fun ys hys=>by rw[I.list_inj hys hxs];exact hx⟩⟩
  .simp only[ap,aA,or_false,not_or]
   exact⟨ne,Ne.symm na⟩
  .have:=(aI.mp hx).1
   simp;omega
  .have e2:its[i]?=some u':=by simpa using hu'
   rw[hu]at e2
   cases e2
   exact ru
 done:=by
  intro X hP hw hK hc i pins s σ H I _ _ _ st hg
  obtain⟨xs,hxs,hx⟩:=hg
  subst hP hw hK
  obtain⟨its,rv,p,hz⟩:=I.list hxs
  have hl:=rv.length
  have e:i=its.toArray.size:=by simp;omega
  subst e
  exact⟨_,_,_,Draws.list (show X.A.in1.handled=none from I.ok.hd hc) it a nai its.toArray,st,p.isList⟩
def zS' (z:Str):It:=Itd (fun i _=>i<z.cps.size) (fun i _ v=>∃c,z.cps[i]?=some c/\v=.str ⟨#[c]⟩) (fun i _=>z.cps.size=i)
theorem vR' {P:Program} {w:World} {K:W.Frag} {e it:Addr} {z:Str} {t:Tok} {ty:String} (hty:ty="str_ascii_iterator"\/ty="str_iterator") (ne:e≠it):EnSrc P w K e it (fun i h=>h.IsStrIter it ty z t i) (fun i _=>i<z.cps.size) (fun i _ v=>∃c,z.cps[i]?=some c/\v=.str ⟨#[c]⟩) (fun i _=>z.cps.size=i) where
 ne:=ne
 obj:=fun i h st=>by
  obtain⟨o,q,c,d⟩:=st
  exact⟨o,q,fun v z=>by rw[d]at z;cases z⟩
 keep:=fun i h h' st k=>by
  obtain⟨o,q,r⟩:=st
  exact⟨o,k o q,r⟩
 item:=by
  intro X hP hw hK hc i pins s σ H I _ _ _ _ st hg
  subst hP hw hK
  have hh:X.A.in1.handled=none:=I.ok.hd hc
  rcases hty with rfl|rfl
  .refine⟨_,_,_,_,Draws.strAscii hh it z t,by simpa using ne,hg,st,fun j h q=>q,fun u hu=>?_⟩
   obtain⟨c,t',hc',rfl⟩:=hu
   exact⟨.str ⟨#[c]⟩,⟨_,rfl⟩,c,hc',rfl⟩
  .refine⟨_,_,_,_,Draws.strWide hh it z t,by simpa using ne,hg,st,fun j h q=>q,fun u hu=>?_⟩
   obtain⟨c,t',hc',rfl⟩:=hu
   exact⟨.str ⟨#[c]⟩,⟨_,rfl⟩,c,hc',rfl⟩
 done:=by
  intro X hP hw hK hc i pins s σ H I _ _ _ st hg
  subst hP hw hK
  have hh:X.A.in1.handled=none:=I.ok.hd hc
  have hg':z.cps.size=i:=hg
  subst hg'
  rcases hty with rfl|rfl
  .exact⟨_,_,_,Draws.strAscii hh it z t,st⟩
  .exact⟨_,_,_,Draws.strWide hh it z t,st⟩
theorem hv' {prog:Program} {w:World} {A:Around} (hh:A.handled=none) (it l:Addr) (hne:l≠it) (items:Array Value):
  Draws prog w A it [it,l] items.size (fun i v=>items[i]?=some v) (fun i h=>dt' true h it l i/\e4' true h l items) where
 live:=fun _ _ st=>let⟨o,ho,_⟩:=st.1.obj;⟨o,ho⟩
 frame:=fun _ _ _ st hk=>⟨st.1.at fun o e=>hk it (by simp) o e,st.2.at fun o e=>hk l (by simp) o e⟩
 item:=fun i s Q E hi st hQ=>by
  refine bD' st.1 st.2 (x:=items[i]) (by simp[hi]) fun h' hit' hs'=>?_
  exact hQ _ h' s.toks (by simp[hi]) ⟨hit',st.2.at fun o e=>hs'.extBut l o hne e⟩ hs'
 done:=fun s Q E st hE=>dG' hh st.1 st.2 (by simp) hE
set_option tactic.hygienic true in
open AutoSeq1 (wpAny_loadPart') in
theorem dW' (l:Addr) (items:Array Value) (n:Nat) (dct:Option Addr) (sl:Array (Option Value)):
  Meets (Builtin.«enumerate.__new__» ⟨[.type "enumerate",.ref l],[]⟩) (fun _ R s=>s.heap.get? l=some { cls:=.type "tuple",dict:=dct,data:=.seq items n,slots:=sl }/\
   R (.ok (.ret (.ref (s.heap.push { cls:=.type "tuple_iterator",data:=.fields #[.ref l,.int 0 0] }).objs.size)))
    { s with heap:=(s.heap.push { cls:=.type "tuple_iterator",data:=.fields #[.ref l,.int 0 0] }).push { cls:=.type "enumerate",data:=.fields #[.none,.bool false,.ref s.heap.objs.size,rawInt 0,.none,.none] } }):=
 .of_wp fun prog w A R s h=>by
  obtain⟨hp,g,d,tk,os⟩:=s;obtain⟨hl,h⟩:=h
  have hsub:=sub_enumerate
  have hL:Heap.IsTuple (Shared.heap ⟨hp,g,d,tk,os⟩) l items:=⟨_,hl,rfl,n,rfl⟩
  wp_walk using wpAny_loadPart' hl
  refine wpAny_stack_any fun st=>av ?_
  split
  .rename_i c _ _ _ _ _
   cases(c == Value.type "enumerate")
   .wp_walk using wpAny_loadPart' hl,cc hL
    exact⟨_,rfl,h⟩
   .wp_walk using wpAny_loadPart' hl,cc hL
    exact⟨_,rfl,h⟩
  .wp_walk using wpAny_loadPart' hl,cc hL
   exact⟨_,rfl,h⟩
theorem dX' {prog:Program} {w:World} {A:Around} {E:Value->Shared->Prop} {s:Shared} {l:Addr} {items:Array Value} {Q:Value->Shared->Prop} (hL:s.heap.IsTuple l items)
  (h:∀h',IsEnum h' (s.heap.objs.size+1) s.heap.objs.size 0 .none->dt' true h' s.heap.objs.size l 0->h'.objs.size=s.heap.objs.size+2->
   (∀b o,s.heap.get? b=some o->h'.get? b=some o)->Q (.ref (s.heap.objs.size+1)) { s with heap:=h' }):
  wpAny (model prog w) A (call (.type "enumerate") [.ref l]) Q E s:=by
 obtain⟨⟨c,dct,dt,sl⟩,hl,hc,n,hd⟩:=hL
 replace hc:c=.type "tuple":=hc
 replace hd:dt=.seq items n:=hd
 subst hc hd
 refine callType_new F.called_enumerate (by decide) (F.typeCall_enumerate_1 _) (F.newCall_enumerate_1 _) (fun obj=>F.args_object_init_2 obj _) F.entry_enumerate_new
  (dW' l items n dct sl) ⟨hl,?_⟩
 have hz:(s.heap.push { cls:=.type "tuple_iterator",data:=.fields #[.ref l,.int 0 0] }).objs.size=s.heap.objs.size+1:=bA ..
 show _/\_
 rw[hz]
 have he:IsEnum ((s.heap.push { cls:=.type "tuple_iterator",data:=.fields #[.ref l,.int 0 0] }).push
   { cls:=.type "enumerate",data:=.fields #[.none,.bool false,.ref s.heap.objs.size,rawInt 0,.none,.none] }) (s.heap.objs.size+1) s.heap.objs.size 0 .none:=by
  have:=aC (s.heap.push { cls:=.type "tuple_iterator",data:=.fields #[.ref l,.int 0 0] })
   (o:={ cls:=.type "enumerate",data:=.fields #[.none,.bool false,.ref s.heap.objs.size,rawInt 0,.none,.none] }) rfl
  rw[hz]at this;exact this
 refine⟨⟨_,he,rfl⟩,h _ he ⟨_,ag _ (aC _ rfl),rfl,rfl⟩ (by rw[bA,hz]) fun b o x=>ag _ (ag _ x)⟩
def zT' (K:W.Frag) (a:Addr):It:=Itd (fun i H=>∃xs x,SqT K H a xs/\xs[i]?=some x) (fun i H x=>∀xs,SqT K H a xs->xs[i]?=some x) (fun i H=>∃xs,SqT K H a xs/\xs.length=i)
theorem vS' {P:Program} {w:World} {K:W.Frag} {e it a:Addr} (ne:e≠it) (na:a≠e) (nai:a≠it):EnSrc P w K e it (fun i h=>dt' true h it a i) (fun i H=>∃xs x,SqT K H a xs/\xs[i]?=some x) (fun i H x=>∀xs,SqT K H a xs->xs[i]?=some x) (fun i H=>∃xs,SqT K H a xs/\xs.length=i) where
 ne:=ne
 obj:=fun i h st=>by
  obtain⟨o,q,d⟩:=st.obj
  exact⟨o,q,fun v z=>by rw[d]at z;cases z⟩
 keep:=fun i h h' st k=>st.at k
 item:=by
  intro X hP hw hK hc i pins s σ H I _ _ _ _ st hg
  obtain⟨xs,x,hxs,hx⟩:=hg
  subst hP hw hK
  obtain⟨its,rv,p,hz⟩:=I.tuple hxs
  have hl:=rv.length
  obtain⟨u,hu,ru⟩:=rv.get hx
  refine⟨_,_,_,_,hv' (show X.A.in1.handled=none from I.ok.hd hc) it a nai its.toArray,?_,?_,⟨st,p⟩,fun j h q=>q.1,fun u' hu'=>⟨x,?_,fun ys hys=>by rw[I.tuple_inj hys hxs];exact hx⟩⟩
  .simp only[ap,aA,or_false,not_or]
   exact⟨ne,Ne.symm na⟩
  .have:=(aI.mp hx).1
   simp;omega
  .have e2:its[i]?=some u':=by simpa using hu'
   rw[hu]at e2
   cases e2
   exact ru
 done:=by
  intro X hP hw hK hc i pins s σ H I _ _ _ st hg
  obtain⟨xs,hxs,hx⟩:=hg
  subst hP hw hK
  obtain⟨its,rv,p,hz⟩:=I.tuple hxs
  have hl:=rv.length
  have e:i=its.toArray.size:=by simp;omega
  subst e
  exact⟨_,_,_,hv' (show X.A.in1.handled=none from I.ok.hd hc) it a nai its.toArray,st,p⟩
section
variable {X:Cx}
def su' (K:W.Frag) (tl:TE):TI:=fun σ H R=>bA' tl gU' σ H fun vs H1=>∃x,vs=[x]/\
 ((∃a,x=.ref a/\(∃xs,SqL K H1 a xs)/\R (Ite K a) H1)\/(∃z,x=.str z/\R (zS' z) H1)\/∃a,x=.ref a/\(∃xs,SqT K H1 a xs)/\R (zT' K a) H1)
theorem fT':bootBuiltins "enumerate"=some (.type "enumerate"):=⋯
theorem sv' {a:Expr} {tl:TE} {p pos:Pos} {elts:List Expr} {kt:Nat} {pt:Pos} (hg:Gl X "enumerate") (hm:X.mg "enumerate"=none) (ha:PA X [a] (bA' tl gU')) (hs:starEach [a] X.env=[(false,eval a X.env)]):
  PI X (.Tuple elts kt pt) (.Call (.Name "enumerate" p) [a] [] pos) (su' X.K tl):=by
 intro pins s σ H R I h
 have h':bA' tl gU' σ H (fun vs H1=>∃x,vs=[x]/\((∃a,x=.ref a/\(∃xs,SqL X.K H1 a xs)/\R (Ite X.K a) H1)\/(∃z,x=.str z/\R (zS' z) H1)\/∃a,x=.ref a/\(∃xs,SqT X.K H1 a xs)/\R (zT' X.K a) H1)):=h
 refine Call_ (eg' I hg hm fT' (PyProof.Rows.callWith_type1 (thn (ha pos pins s σ H _ I h') fun us s1 ⟨vs,H1,I1,r1,q1⟩=>?_) (by rw[hs];rfl) (by rfl)))
 obtain⟨x,e,q1⟩:=q1
 subst e
 cases r1 with
 |cons r rr=>
  cases rr
  rcases q1 with⟨a,rfl,⟨xs,hxs⟩,q⟩|⟨z,rfl,q⟩|⟨a,rfl,⟨xs,hxs⟩,q⟩
  .cases r
   obtain⟨its,rv,pl,hz⟩:=I1.list hxs
   refine call_enumerate_list pl.isList fun h' he hit hsz hk=>wpAny_pyIter_enum he ?_
   have la:a<s1.heap.objs.size:=by
    obtain⟨o,q,_⟩:=pl.isList
    exact aw q
   refine⟨s1.heap.objs.size+1,[s1.heap.objs.size+1,s1.heap.objs.size],_,_,H1,rfl,I1.kept (t':=s1.toks) hk,fA' (ss' (Nat.succ_ne_self _) (aE (da la)) (aE la)),⟨⟨_,he⟩,hit⟩,fun c hc=>?_,q⟩
   have hle:s1.heap.objs.size<=c:=by
    simp only[ap,aA,or_false]at hc
    rcases hc with rfl|rfl<;>omega
   exact I1.fpOk hle (I1.hok.fresh hle)
  .obtain⟨t,rfl⟩:=r
   refine call_enumerate_str fun h' he hit hsz hk=>wpAny_pyIter_enum he ?_
   have hty:strIterType z="str_ascii_iterator"\/strIterType z="str_iterator":=by
    unfold strIterType
    split
    .exact .inl rfl
    .exact .inr rfl
   refine⟨s1.heap.objs.size+1,[s1.heap.objs.size+1,s1.heap.objs.size],_,_,H1,rfl,I1.kept (t':=s1.toks) hk,fA' (vR' hty (Nat.succ_ne_self _)),⟨⟨_,he⟩,hit⟩,fun c hc=>?_,q⟩
   have hle:s1.heap.objs.size<=c:=by
    simp only[ap,aA,or_false]at hc
    rcases hc with rfl|rfl<;>omega
   exact I1.fpOk hle (I1.hok.fresh hle)
  .cases r
   obtain⟨its,rv,pl,hz⟩:=I1.tuple hxs
   refine dX' (show s1.heap.IsTuple a its.toArray from pl) fun h' he hit hsz hk=>wpAny_pyIter_enum he ?_
   have la:a<s1.heap.objs.size:=by
    obtain⟨o,q,_⟩:=pl
    exact aw q
   refine⟨s1.heap.objs.size+1,[s1.heap.objs.size+1,s1.heap.objs.size],_,_,H1,rfl,I1.kept (t':=s1.toks) hk,fA' (vS' (Nat.succ_ne_self _) (aE (da la)) (aE la)),⟨⟨_,he⟩,hit⟩,fun c hc=>?_,q⟩
   have hle:s1.heap.objs.size<=c:=by
    simp only[ap,aA,or_false]at hc
    rcases hc with rfl|rfl<;>omega
   exact I1.fpOk hle (I1.hok.fresh hle)
end
section
variable {X:Cx}
theorem gv':a5' X (.type "int") (fun xs H Q=>∃x n,xs=[.str x]/\PySem.intText? x=some n/\x.length<=640/\Q (.int n) H):=by
 intro pins s σ H xs us Q I r h
 obtain⟨x,n,rfl,hn,hl,q⟩:=h
 obtain⟨u,rfl,t,rfl⟩:=fp' r
 exact W.KIN.call_text hn hl ⟨.int n,H,I.tok _,⟨_,rfl⟩,q⟩
def CF':List V->Hp->VK->Prop:=fun xs H Q=>((∃i,xs=[.int i]/\Q (.int i) H)\/∃k,xs=[.bl k]/\Q (.int (if k then 1 else 0)) H)\/∃x n,xs=[.str x]/\PySem.intText? x=some n/\x.length<=640/\Q (.int n) H
theorem lx':a5' X (.type "int") CF':=lb'.or gv'
def AC':R2:=fun x y H Q=>∃a n,x=.str a/\y=.int n/\-1000000<=n/\n<=1000000/\a.length*n.toNat<=1000000/\Q (.str (Txt.mul a n)) H
theorem kf':OpR X (binaryOp .Mult) AC':=by
 intro pins s σ H x y v u Q I rx ry h
 obtain⟨a,n,rfl,rfl,h1,h2,h3,q⟩:=h
 obtain⟨t,rfl⟩:=rx
 obtain⟨t',rfl⟩:=ry
 refine SB.mul ⟨?_,fun hn hc=>?_,fun hn hc=>?_⟩ fun t' k=>⟨.str (Txt.mul a n),H,I.tok _,⟨_,rfl⟩,q⟩
 .have e1:¬n < -(2 ^ 63:Int):=by omega
  have e2:¬n ≥ 2 ^ 63:=by omega
  simp[e1,e2]
  omega
 .have hn0:0<n:=by omega
  intro hgt
  have h4:(a.length:Int)*n<=1000000:=by
   have:((a.length*n.toNat:Nat):Int)<=1000000:=by omega
   rw[Int.natCast_mul,Int.toNat_of_nonneg (by omega)]at this
   exact this
  have h5:=(Int.ediv_lt_iff_lt_mul hn0).mp hgt
  omega
 .have e:Builtin.Str.tooLong (a.length*n.toNat)=false:=by
   unfold Builtin.Str.tooLong
   have:sizeLine=16777216:=sizeLine_eq
   simp
   omega
  exact e
def vT' (K:W.Frag):V->List V->Hp->VK->Prop:=fun x xs H Q=>∃(sep:Str) (p:Addr) (ys:List Str),x=.str sep/\xs=[.ref p]/\(SqL K H p (ys.map V.str)\/SqT K H p (ys.map V.str))/\(ys.map (·.length)).sum+ys.length*sep.length<=16777216/\Q (.str (Txt.join sep ys)) H
theorem eH':∀{ys:List Str} {us:List Value},aK' (ys.map V.str) us->StrsAre us ys
 | [],us,h=>by
  have e:=h.zero
  subst e
  exact .nil
 |y :: ys,_,.cons r t=>by
  obtain⟨k,rfl⟩:=r
  exact .cons y k (eH' t)
theorem sw':MtR X "str.join" (vT' X.K):=by
 intro pins s σ H x xs v us Q I rx rv h
 obtain⟨sep,p,ys,rfl,rfl,hs,hz,q⟩:=h
 obtain⟨t,rfl⟩:=rx
 obtain⟨u,rfl,ru⟩:=rv.one
 cases ru
 rcases hs with hs|hs
 .obtain⟨its,r,pl,_⟩:=I.list hs
  exact join_list pl.isList (eH' r) hz fun t' k=>⟨.str _,H,I.tok _,⟨_,rfl⟩,q⟩
 .obtain⟨its,r,pl,_⟩:=I.tuple hs
  exact join_tuple pl (eH' r) hz fun t' k=>⟨.str _,H,I.tok _,⟨_,rfl⟩,q⟩
def Dq':V->Option Int->Option Int->Hp->VK->Prop:=fun x lo hi H Q=>∃a,x=.str a/\a.length<=sizeLine/\Q (.str (Txt.slice a lo hi)) H
theorem vU':SlR X Dq':=by
 intro pins s σ H x v vl vu lo hi sl Q I rx hs pl pu h
 obtain⟨a,rfl,hz,q⟩:=h
 obtain⟨t,rfl⟩:=rx
 have fin:∀(l u:Option (Int×Tok)),l.map (·.1)=lo->u.map (·.1)=hi->s.heap.IsSlice sl l u none->wpAny (model X.prog X.w) X.A (getItem (.str a t) (.ref sl)) (EP X pins σ Q) X.xe s:=by
  intro l u e1 e2 hsl
  refine wpAny_getItem_str_slice (l:=l) (u:=u) (st:=none) hsl rfl ?_
  refine post_val_or_str ?_
  subst e1 e2
  exact⟨aq (Txt.slice_le a _ _) hz,fun t' k=>⟨.str _,H,I.tok _,⟨_,rfl⟩,q⟩⟩
 refine⟨"str",_,F.slot_str_getitem.lookup,typeIs_str _ _ _,?_⟩
 cases pl with
 |none=>
  cases pu with
  |none=>exact fin none none rfl rfl hs
  |int j u=>exact fin none (some (j,u)) rfl rfl hs
 |int i t1=>
  cases pu with
  |none=>exact fin (some (i,t1)) none rfl rfl hs
  |int j u=>exact fin (some (i,t1)) (some (j,u)) rfl rfl hs
def bm' (H:Hp):V->Option String
 | .non=>some "NoneType"
 | .bl _=>some "bool"
 | .int _=>some "int"
 | .str _=>some "str"
 | .ref a=>match H a with
  |some (.lst _)=>some "list"
  |some (.tup _)=>some "tuple"
  |some (.dK _)=>some "dict"
  |some (.dT _)=>some "dict"
  |some (.frz _ (.lst _))=>some "list"
  |_=>none
 |_=>none
set_option tactic.hygienic true in
theorem ly' {K:W.Frag} {H:Hp} {x:V} {T:String} (h:bm' H x=some T):TyOf K H x (.type T):=by
 cases x with
 |non=>cases h;exact .non
 |bl b=>cases h;exact .bl b
 |int i=>cases h;exact .int i
 |str y=>cases h;exact .str y
 |byt _=>cases h
 |flt _=>cases h
 |ty _=>cases h
 |ref a=>
  have h:(match H a with
   |some (.lst _)=>some "list"
   |some (.tup _)=>some "tuple"
   |some (.dK _)=>some "dict"
   |some (.dT _)=>some "dict"
   |some (.frz _ (.lst _))=>some "list"
   |_=>none)=some T:=h
  split at h
  .rename_i e;cases h;exact .lst e
  .rename_i e;cases h;exact .tup e
  .rename_i e;cases h;exact .dK e
  .rename_i e;cases h;exact .dT e
  .rename_i e;cases h;exact .frz e
  .cases h
def isT (T c:String):Bool:=T == c || (T == "bool"&&c == "int")
def cW':List String:=["NoneType","bool","int","str","list","tuple","dict"]
theorem eW' (K:W.Frag):∀T∈cW',∀c∈["bool","int","str","list","tuple","dict"],W.kitOne K (.type T) (.type c)=some (isT T c):=by
 intro T hT c hc
 simp only[cW',ap,aA,or_false]at hT hc
 rcases hT with rfl|rfl|rfl|rfl|rfl|rfl|rfl<;>rcases hc with rfl|rfl|rfl|rfl|rfl|rfl<;>rfl
def CG':List V->Hp->VK->Prop:=fun xs H Q=>
 (∃x T c,xs=[x,.ty c]/\bm' H x=some T/\T∈cW'/\c∈["bool","int","str","list","tuple","dict"]/\Q (.bl (isT T c)) H)\/
 (∃(x:V) (T:String) (p:Addr) (cs:List String),xs=[x,.ref p]/\bm' H x=some T/\T∈cW'/\H p=some (.tup (cs.map V.ty))/\(∀c∈cs,c∈["bool","int","str","list","tuple","dict"])/\Q (.bl (cs.any (isT T))) H)
theorem lz':∀{cs:List String} {us:List Value},aK' (cs.map V.ty) us->us=cs.map Value.type
 | [],us,h=>h.zero
 |c :: cs,_,.cons r t=>by
  have r':_=Value.type c:=r
  rw[r',lz' t]
  rfl
theorem eX' (K:W.Frag) {T:String} (hT:T∈cW'):∀{cs:List String},(∀c∈cs,c∈["bool","int","str","list","tuple","dict"])->W.kitAny K (.type T) (cs.map Value.type)=some (cs.any (isT T))
 | [],_=>rfl
 |c :: cs,h=>by
  have h1:=eW' K T hT c (h c aJ)
  have h2:=eX' K hT (cs:=cs) fun c' hc'=>h c' (aF _ hc')
  show(match W.kitOne K (.type T) (.type c)with|some true=>some true|some false=>W.kitAny K (.type T) (cs.map Value.type)|none=>none)=_
  rw[h1]
  cases hb:isT T c
  .rw[cn,hb]
   exact h2
  .rw[cn,hb]
   rfl
set_option tactic.hygienic true in
theorem kg' {pins:List (Addr×Obj)} {σ:St} {H:Hp} {s:Shared} {Q:Value->Shared->Prop} {E:Value->Shared->Prop} {b:Bool} {x:V} {u:Value} {T:String} {p:Addr} {dd:Option Addr} {its:List Value} {n:Nat} {sl:Array (Option Value)} (I:Inv X pins σ H s) (rx:aD' x u) (ty:bm' H x=some T)
  (hp:s.heap.get? p=some ⟨.type "tuple",dd,.seq its.toArray n,sl⟩) (e:W.kitAny X.K (.type T) its=some b) (h:∀tk,Q (.bool b) { s with toks:=tk }):
  wpAny (model X.prog X.w) X.A (call (.builtin "isinstance") [u,.ref p]) Q E s:=by
 cases x with
 |non=>cases ty;cases(show u=Value.none from rx);exact W.kia_tup W.kitx_none I.kIn True.intro hp e (fun z=>nomatch z) h
 |bl y=>cases ty;cases(show u=Value.bool y from rx);exact W.kia_tup W.kitx_bool I.kIn True.intro hp e (fun z=>nomatch z) h
 |int i=>cases ty;obtain⟨t,q⟩:=(show ∃t,u=Value.int i t from rx);cases q;exact W.kia_tup W.kitx_int I.kIn True.intro hp e (fun z=>nomatch z) h
 |str y=>cases ty;obtain⟨t,q⟩:=(show ∃t,u=Value.str y t from rx);cases q;exact W.kia_tup W.kitx_str I.kIn True.intro hp e (fun z=>nomatch z) h
 |byt _=>cases ty
 |flt _=>cases ty
 |ty _=>cases ty
 |ref a=>
  cases(show u=Value.ref a from rx)
  have ty:(match H a with
   |some (.lst _)=>some "list"
   |some (.tup _)=>some "tuple"
   |some (.dK _)=>some "dict"
   |some (.dT _)=>some "dict"
   |some (.frz _ (.lst _))=>some "list"
   |_=>none)=some T:=ty
  split at ty
  .rename_i xs ea
   cases ty
   obtain⟨_,_,n,_,h1⟩:=(show aG' X.prog X.w H s.heap a (.lst xs) from I.hok a _ ea)
   exact W.kia_tup W.kitx_list I.kIn ⟨_,h1,rfl⟩ hp e (fun z=>nomatch z) h
  .rename_i xs ea
   cases ty
   obtain⟨_,_,_,o,h1,h2,_⟩:=(show aG' X.prog X.w H s.heap a (.tup xs) from I.hok a _ ea)
   exact W.kia_tup W.kitx_tuple I.kIn ⟨o,h1,h2⟩ hp e (fun z=>nomatch z) h
  .rename_i kvs ea
   cases ty
   obtain⟨_,_,vs,_,o,es,ep,h1,h2,_⟩:=(show aG' X.prog X.w H s.heap a (.dK kvs) from I.hok a _ ea)
   exact W.kia_tup W.kitx_dict I.kIn ⟨o,h1,h2.1⟩ hp e (fun z=>nomatch z) h
  .rename_i kvs ea
   cases ty
   obtain⟨_,_,xs,_,o,es,ep,h1,h2,_⟩:=(show aG' X.prog X.w H s.heap a (.dT kvs) from I.hok a _ ea)
   exact W.kia_tup W.kitx_dict I.kIn ⟨o,h1,h2.1⟩ hp e (fun z=>nomatch z) h
  .rename_i ob xs ea
   cases ty
   obtain⟨_,_,_,n,_,h1⟩:=(show aG' X.prog X.w H s.heap a (.frz ob (.lst xs)) from I.hok a _ ea)
   exact W.kia_tup W.kitx_list I.kIn ⟨_,h1,rfl⟩ hp e (fun z=>nomatch z) h
  .cases ty
theorem oG':a5' X (.builtin "isinstance") CG':=by
 intro pins s σ H xs us Q I r h
 rcases h with⟨x,T,c,rfl,hT,hk,hc,q⟩|⟨x,T,p,cs,rfl,hT,hk,hp,hc,q⟩
 .obtain⟨u,w',rfl,r1,r2⟩:=k8' r
  have r2:w'=Value.type c:=r2
  subst r2
  exact ld' I r1 (ly' hT) (eW' X.K T hk c hc) fun tk=>⟨.bl _,H,I.tok _,rfl,q⟩
 .obtain⟨u,w',rfl,r1,r2⟩:=k8' r
  have r2:w'=Value.ref p:=r2
  subst r2
  obtain⟨_,its,rv,o,h1,h2,⟨n,h3⟩,_⟩:=(show aG' X.prog X.w H s.heap p (.tup (cs.map V.ty)) from I.hok p _ hp)
  have e:=lz' rv
  subst e
  obtain⟨oc,od,dat,osl⟩:=o
  have h2:oc=_:=h2
  have h3:dat=_:=h3
  subst h2 h3
  exact kg' I r1 hT h1 (eX' X.K hk hc) fun tk=>⟨.bl _,H,I.tok _,rfl,q⟩
def CH' (K:W.Frag) (any:Bool):List V->Hp->VK->Prop:=fun xs H Q=>∃(p:Addr) (bs:List Bool),xs=[.ref p]/\SqL K H p (bs.map V.bl)/\Q (.bl (if any then bs.any id else bs.all id)) H
theorem hA':∀{bs:List Bool} {us:List Value} {i:Nat} {v:Value},aK' (bs.map V.bl) us->us[i]?=some v->∃b,bs[i]?=some b/\v=.bool b
 | [],us,i,v,h,e=>by rw[h.zero]at e;simp at e
 |b :: bs,_,0,v,.cons r t,e=>by
  have r:_=Value.bool b:=r
  simp at e
  exact⟨b,rfl,by rw[<- e];exact r⟩
 |b :: bs,_,i+1,v,.cons r t,e=>by
  obtain⟨b',h1,h2⟩:=hA' (i:=i) t (by simpa using e)
  exact⟨b',by simpa using h1,h2⟩
theorem lA' (bs:List Bool):(ah bs.length).all (fun i=>bs.getD i false)=bs.all id:=by
 rw[cr,aQ,aQ]
 constructor
 .intro h b hb
  obtain⟨i,hi,rfl⟩:=cz.mp hb
  have:=h i (aB.mpr hi)
  simpa[aP,hi]using this
 .intro h i hi
  have hi:=aB.mp hi
  have:=h bs[i] (cI hi)
  simpa[aP,hi]using this
theorem lB' (bs:List Bool):(ah bs.length).any (fun i=>bs.getD i false)=bs.any id:=by
 rw[cr,bU,bU]
 constructor
 .rintro⟨i,hi,h⟩
  have hi:=aB.mp hi
  exact⟨bs[i],cI hi,by simpa[aP,hi]using h⟩
 .rintro⟨b,hb,h⟩
  obtain⟨i,hi,rfl⟩:=cz.mp hb
  exact⟨i,aB.mpr hi,by simpa[aP,hi]using h⟩
theorem lC' (hc:X.calm=true):a5' X (.builtin "all") (CH' X.K false):=by
 intro pins s σ H xs us Q I r h
 obtain⟨p,bs,rfl,hs,q⟩:=h
 obtain⟨u,rfl,ru⟩:=fp' r
 cases ru
 obtain⟨its,rv,pl,hz⟩:=I.list hs
 have hlen:its.toArray.size=bs.length:=by
  have:=rv.length
  rw[ac]at this
  rw[ai,this]
 refine call_all_walk (db pl.isList ?_)
 have hlt:p<s.heap.objs.size:=by obtain⟨o,n,e,_⟩:=pl;exact aw e
 refine⟨s.heap.objs.size,_,_,_,_,_,fun i=>bs.getD i false,rfl,Walks.list (A:=X.A.in1) (I.ok.hd hc) _ p (aE hlt) its.toArray,⟨⟨_,aC _ rfl,rfl,rfl⟩,Heap.IsList.push pl.isList _⟩,?_,fun h' tk hk=>?_⟩
 .intro i v s' Q' E' hv hq
  obtain⟨b,hb,rfl⟩:=hA' rv (i:=i) (by simpa using hv)
  refine bO ?_
  have e:bs.getD i false=b:=by rw[aP,hb];rfl
  have hq':Q' (bs.getD i false) s':=hq
  rw[e]at hq'
  exact hq'
 .rw[hlen,lA']
  exact⟨.bl _,H,I.kept fun b o e=>hk b o (by simp;exact aE (aw e)) (ag _ e),rfl,q⟩
def oH' (K:W.Frag) (mx:Bool):List V->Hp->VK->Prop:=fun xs H Q=>∃(p:Addr) (ns:List Int),xs=[.ref p]/\SqL K H p (ns.map V.int)/\ns≠[]/\∀M,M∈ns->(∀a∈ns,if mx then a<=M else M<=a)->Q (.int M) H
theorem lD' (hc:X.calm=true):a5' X (.builtin "max") (oH' X.K true):=by
 intro pins s σ H xs us Q I r h
 obtain⟨p,ns,rfl,hs,hne,q⟩:=h
 obtain⟨u,rfl,ru⟩:=fp' r
 cases ru
 obtain⟨its,rv,pl,hz⟩:=I.list hs
 have hi:=eF' rv
 obtain⟨xs,e⟩:=hi.allInts.items
 have hns:ns=xs.toList.map (·.1):=by
  rw[<- hi.numsOf,<- nums_intItems,<- e]
 have hsz:0<xs.size:=by
  have h3:=List.length_pos_iff.mpr hne
  rw[hns,ac,aM]at h3
  exact h3
 have hl:=pl.isList
 rw[e]at hl
 refine max_intList (I.ok.hd hc) hl hsz fun v h' tk hv hk=>?_
 obtain⟨t,rfl⟩:=intItems_at hv
 obtain⟨h1,h2⟩:=argBest_gt (numAt xs) (xs.size-1)
 refine⟨.int _,H,I.kept hk,⟨t,rfl⟩,q _ ?_ fun a ha=>?_⟩
 .rw[hns,numAt_eq];exact getD_mem (by rw[ac,aM];omega)
 .rw[hns]at ha
  obtain⟨j,hj,rfl⟩:=mem_getD ha
  rw[ac,aM]at hj
  rw[if_pos rfl,<- numAt_eq];exact h2 j (by omega)
theorem lE' (hc:X.calm=true):a5' X (.builtin "min") (oH' X.K false):=by
 intro pins s σ H xs us Q I r h
 obtain⟨p,ns,rfl,hs,hne,q⟩:=h
 obtain⟨u,rfl,ru⟩:=fp' r
 cases ru
 obtain⟨its,rv,pl,hz⟩:=I.list hs
 have hi:=eF' rv
 obtain⟨xs,e⟩:=hi.allInts.items
 have hns:ns=xs.toList.map (·.1):=by
  rw[<- hi.numsOf,<- nums_intItems,<- e]
 have hsz:0<xs.size:=by
  have h3:=List.length_pos_iff.mpr hne
  rw[hns,ac,aM]at h3
  exact h3
 have hl:=pl.isList
 rw[e]at hl
 refine min_intList (I.ok.hd hc) hl hsz fun v h' tk hv hk=>?_
 obtain⟨t,rfl⟩:=intItems_at hv
 obtain⟨h1,h2⟩:=argBest_lt (numAt xs) (xs.size-1)
 refine⟨.int _,H,I.kept hk,⟨t,rfl⟩,q _ ?_ fun a ha=>?_⟩
 .rw[hns,numAt_eq];exact getD_mem (by rw[ac,aM];omega)
 .rw[hns]at ha
  obtain⟨j,hj,rfl⟩:=mem_getD ha
  rw[ac,aM]at hj
  rw[if_neg (by decide),<- numAt_eq];exact h2 j (by omega)
end
section
variable {X:Cx}
def lF':V->List V->Hp->VK->Prop:=fun x vs H Q=>∃l xs y,∃i:Nat,x=.ref l/\vs=[.int i,y]/\H l=some (.lst xs)/\xs.length<sizeLine/\i<=xs.length/\Q .non (upd H l (.lst (xs.take i++y :: xs.drop i)))
set_option tactic.hygienic true in
theorem lG':MtM X "list.insert" lF':=by
 intro pins s σ H x vs v us Q I rx rv h
 obtain⟨l,xs,y,i,rfl,rfl,hH,hz,hi,q⟩:=h
 cases rx
 cases rv with
 |cons r1 rv=>
  cases rv with
  |cons r2 rv=>
   cases rv
   obtain⟨t,rfl⟩:=r1
   rename_i u
   obtain⟨z,its,n,r,hl,e⟩:=I.lstM hH
   have hb:i<2 ^ 62:=bG hi (bG z (show 2 ^ 24<2 ^ 62 from Nat.pow_lt_pow_right (by decide) (by decide)))
   have hfit:¬(!Builtin.List.listFitsIndex (i:Int))=true:=by
    unfold Builtin.List.listFitsIndex
    simp
    omega
   have hsz:its.toArray.size<=sizeLine:=by rw[ai];exact hl ▸ z
   generalize hj:(i:Int)=j at hfit
   have M:=AutoListH.list_insert_list_int_val_1 l its.toArray n j t u hfit hsz
   refine call_meets F.slot_list_insert ⟨_,e,rfl⟩ F.entry_list_insert (F.args_list_insert_3 _ _ _) M ⟨e,?_⟩
   subst hj
   refine⟨.non,_,I.lset (its':=its.take i++u :: its.drop i) hH e ?_ ((r.take i).append (.cons r2 (r.drop i))) ?_,rfl,q⟩
   .have hn:¬((i:Int)<0):=by omega
    simp only[hn,if_false,bb,ai]
    rw[Nat.min_eq_left (by omega)]
    simp
    exact cT (by simp)
   .simp
    omega
open PySem.SeqAt in
theorem eI' {A:Around} {s:Shared} {x y:V} {u v:Value} (rx:aD' x u) (ry:aD' y v) (h:zP' x y=true/\(∀b,x≠.byt b)\/x=y/\∃a,x=.ref a):EqAt A s u v (decide (x=y)):=by
 rcases h with⟨h,hb⟩|⟨rfl,a,rfl⟩
 .cases x with
  |non=>cases y with
   |non=>cases rx;cases ry;exact EqAt.same _
   |bl b=>cases rx;cases ry;exact EqAt.none_bool _
   |int b=>cases rx;obtain⟨t,rfl⟩:=ry;exact EqAt.none_int _ _
   |str b=>cases rx;obtain⟨t,rfl⟩:=ry;exact EqAt.none_str _ _
   |_=>cases h
  |bl a=>cases y with
   |non=>cases rx;cases ry;exact EqAt.bool_none _
   |bl b=>cases rx;cases ry;have:=EqAt.bool_bool (A:=A) (s:=s) a b;cases a<;>cases b<;>exact this
   |str b=>cases rx;obtain⟨t,rfl⟩:=ry;exact EqAt.bool_str _ _ _
   |_=>cases h
  |int a=>cases y with
   |non=>obtain⟨t,rfl⟩:=rx;cases ry;exact EqAt.int_none _ _
   |int b=>obtain⟨t,rfl⟩:=rx;obtain⟨t',rfl⟩:=ry;rw[iv'];exact EqAt.int_int _ _ _ _
   |str b=>obtain⟨t,rfl⟩:=rx;obtain⟨t',rfl⟩:=ry;exact EqAt.int_str _ _ _ _
   |_=>cases h
  |str a=>cases y with
   |non=>obtain⟨t,rfl⟩:=rx;cases ry;exact EqAt.str_none _ _
   |bl b=>obtain⟨t,rfl⟩:=rx;cases ry;exact EqAt.str_bool _ _ _
   |int b=>obtain⟨t,rfl⟩:=rx;obtain⟨t',rfl⟩:=ry;exact EqAt.str_int _ _ _ _
   |str b=>
    obtain⟨t,rfl⟩:=rx
    obtain⟨t',rfl⟩:=ry
    have e:decide (V.str a=V.str b)=(a == b):=by
     by_cases hab:a=b
     .subst hab;simp
     .rw[decide_eq_false (by intro z;cases z;exact hab rfl)];simp[hab]
    rw[e]
    exact EqAt.str_str _ _ _ _
   |_=>cases h
  |byt b=>exact absurd rfl (hb b)
  |_=>cases y<;>cases h
 .cases rx
  cases ry
  rw[decide_eq_true rfl]
  exact EqAt.same _
def LEq (xs ys:List V):Prop:=∀(i:Nat) x y,xs[i]?=some x->ys[i]?=some y->zP' x y=true/\(∀b,x≠.byt b)\/x=y/\∃a,x=.ref a
def zU' (K:W.Frag) (neg:Bool):V->V->Hp->VK->Prop:=fun x y H Q=>∃p q xs ys,x=.ref p/\y=.ref q/\SqL K H p xs/\SqL K H q ys/\(xs.length=ys.length->LEq xs ys)/\Q (.bl (if neg then !decide (xs=ys)else decide (xs=ys))) H
theorem lH' {xs ys:List V} (h:xs.length=ys.length):(ah xs.length).all (fun i=>decide (xs[i]?=ys[i]?))=decide (xs=ys):=by
 by_cases e:xs=ys
 .subst e
  simp
 .rw[decide_eq_false e,Bool.eq_false_iff]
  intro q
  rw[aQ]at q
  apply e
  apply bX
  intro i
  rcases cK i xs.length with hi|hi
  .exact of_decide_eq_true (q i (aB.mpr hi))
  .rw[bq.mpr hi,bq.mpr (by omega)]
open PySem.SeqAt in
theorem vV' (hu:X.A.units<cLine):OpR X (compareOp .Eq) (zU' X.K false):=by
 intro pins s σ H x y v u Q I rx ry h
 obtain⟨p,q,xs,ys,rfl,rfl,hp,hq,he,k⟩:=h
 cases rx
 cases ry
 obtain⟨its,r1,pl1,_⟩:=I.list hp
 obtain⟨its2,r2,pl2,_⟩:=I.list hq
 have l1:=r1.length
 have l2:=r2.length
 by_cases hl:xs.length=ys.length
 .refine eq_listAt (e:=fun i=>decide (xs[i]?=ys[i]?)) pl1.isList pl2.isList (by simp;omega) hu (fun j h1 h2=>?_) ?_
  .have j1:j<xs.length:=by simp at h1;omega
   have j2:j<ys.length:=by omega
   have g1:xs[j]?=some xs[j]:=aa j1
   have g2:ys[j]?=some ys[j]:=aa j2
   obtain⟨u1,e1,ru1⟩:=r1.get g1
   obtain⟨u2,e2,ru2⟩:=r2.get g2
   have f1:its.toArray[j]=u1:=by simp at h1 ⊢;rw[aa h1]at e1;exact Option.some.inj e1
   have f2:its2.toArray[j]=u2:=by simp at h2 ⊢;rw[aa h2]at e2;exact Option.some.inj e2
   rw[f1,f2,g1,g2]
   have e3:decide (some xs[j]=some ys[j])=decide (xs[j]=ys[j]):=by simp
   rw[e3]
   exact eI' ru1 ru2 (he hl j _ _ g1 g2)
  .have e4:(ah its.toArray.size).all (fun i=>decide (xs[i]?=ys[i]?))=decide (xs=ys):=by
    rw[ai,<- l1];exact lH' hl
   rw[e4]
   exact⟨.bl _,H,I,rfl,k⟩
 .refine eq_list_lengthsAt pl1.isList pl2.isList (by simp;omega) hu ?_
  rw[decide_eq_false (fun z=>hl (by rw[z]))]at k
  exact⟨.bl false,H,I,rfl,k⟩
open PySem.SeqAt in
theorem vW' (hu:X.A.units<cLine):OpR X (compareOp .NotEq) (zU' X.K true):=by
 intro pins s σ H x y v u Q I rx ry h
 obtain⟨p,q,xs,ys,rfl,rfl,hp,hq,he,k⟩:=h
 cases rx
 cases ry
 obtain⟨its,r1,pl1,_⟩:=I.list hp
 obtain⟨its2,r2,pl2,_⟩:=I.list hq
 have l1:=r1.length
 have l2:=r2.length
 obtain⟨⟨cls,dd,data,sl⟩,ho,hc,n,hd⟩:=pl1.isList
 obtain⟨⟨cls2,dd2,data2,sl2⟩,ho2,hc2,n2,hd2⟩:=pl2.isList
 simp only at hc hd hc2 hd2
 subst hc hd hc2 hd2
 by_cases hl:xs.length=ys.length
 .refine richCompare_meets_room (op:=.NotEq) ⟨_,ho,rfl⟩ ⟨_,ho2,rfl⟩ F.slot_list_ne F.entry_list_ne (F.args_list_ne_2 _ _) (list_neAt p q its.toArray its2.toArray n n2 dd dd2 sl sl2 (by simp;omega) (fun i=>decide (xs[i]?=ys[i]?))) ⟨ho,ho2,fun j h1 h2=>?_,?_⟩ hu
  .have j1:j<xs.length:=by simp at h1;omega
   have j2:j<ys.length:=by omega
   have g1:xs[j]?=some xs[j]:=aa j1
   have g2:ys[j]?=some ys[j]:=aa j2
   obtain⟨u1,e1,ru1⟩:=r1.get g1
   obtain⟨u2,e2,ru2⟩:=r2.get g2
   have f1:its.toArray[j]=u1:=by simp at h1 ⊢;rw[aa h1]at e1;exact Option.some.inj e1
   have f2:its2.toArray[j]=u2:=by simp at h2 ⊢;rw[aa h2]at e2;exact Option.some.inj e2
   rw[f1,f2,g1,g2]
   have e3:decide (some xs[j]=some ys[j])=decide (xs[j]=ys[j]):=by simp
   rw[e3]
   exact eI' ru1 ru2 (he hl j _ _ g1 g2)
  .have e4:(ah its.toArray.size).all (fun i=>decide (xs[i]?=ys[i]?))=decide (xs=ys):=by
    rw[ai,<- l1];exact lH' hl
   rw[e4]
   exact(show Value.bool (!decide (xs=ys))≠Value.notImplemented/\EP X pins σ Q (Value.bool (!decide (xs=ys))) s from⟨(fun x=>nomatch x),⟨.bl _,H,I,rfl,k⟩⟩)
 .refine richCompare_meets_room (op:=.NotEq) ⟨_,ho,rfl⟩ ⟨_,ho2,rfl⟩ F.slot_list_ne F.entry_list_ne (F.args_list_ne_2 _ _) (list_ne_lengthsAt p q its.toArray its2.toArray n n2 dd dd2 sl sl2 (by simp;omega)) ⟨ho,ho2,?_⟩ hu
  rw[decide_eq_false (fun z=>hl (by rw[z]))]at k
  exact(show Value.bool true≠Value.notImplemented/\EP X pins σ Q (Value.bool true) s from⟨(fun x=>nomatch x),⟨.bl true,H,I,rfl,k⟩⟩)
def rgs (i:Int) (n:Nat):List V:=(ah n).map fun(k:Nat)=>V.int (i+(k:Int))
def CI':List V->Hp->VK->Prop:=fun xs H Q=>∃i j:Int,(xs=[.int i,.int j]\/(i=0/\xs=[.int j]))/\∀p,H p=none->Q (.ref p) (upd H p (.rng i j))
theorem oI':a5' X (.type "range") CI':=by
 intro pins s σ H xs us Q I rv h
 obtain⟨i,j,hx,q⟩:=h
 have hn:H s.heap.objs.size=none:=I.hok.fresh (ak _)
 rcases hx with rfl|⟨rfl,rfl⟩
 .cases rv with
  |cons r1 rv=>
   cases rv with
   |cons r2 rv=>
    cases rv
    obtain⟨t,rfl⟩:=r1
    obtain⟨u,rfl⟩:=r2
    exact call_range_2 ⟨.ref s.heap.objs.size,_,I.laid (t':=s.toks+1) (fun _ _ e=>ag _ e) (ak _) (o:=.rng i j) ⟨t,u,s.toks,aC _ rfl⟩,rfl,q _ hn⟩
 .cases rv with
  |cons r1 rv=>
   cases rv
   obtain⟨t,rfl⟩:=r1
   exact call_range_1 ⟨.ref s.heap.objs.size,_,I.laid (t':=s.toks+1+1) (fun _ _ e=>ag _ e) (ak _) (o:=.rng 0 j) ⟨s.toks,t,s.toks+1,aC _ rfl⟩,rfl,q _ hn⟩
def CJ':List V->Hp->VK->Prop:=fun xs H Q=>∃r i j,xs=[.ref r]/\H r=some (.rng i j)/\(-(2 ^ 62)<=i/\i<2 ^ 62/\-(2 ^ 62)<=j/\j<2 ^ 62)/\(j-i).toNat<=sizeLine/\∀p,H p=none->Q (.ref p) (upd H p (.lst (rgs i (j-i).toNat)))
theorem oJ' (hc:X.calm=true):a5' X (.type "list") CJ':=by
 intro pins s σ H xs us Q I rv h
 obtain⟨r,i,j,rfl,hr,⟨h1,h2,h3,h4⟩,hz,q⟩:=h
 cases rv with
 |cons r1 rv=>
  cases rv
  cases r1
  obtain⟨t,u,v,e⟩:=(show aG' X.prog X.w H s.heap r (.rng i j) from I.hok r _ hr)
  refine call_list_range (n:=(j-i).toNat) (I.ok.hd hc) e (small_one h1 h2 h3 h4) (by rw[rangeSize_one];split<;>omega) hz fun h' tk' acc' c' hk hS hit=>?_
  obtain⟨hsz,hv⟩:=hit
  have hn:H s.heap.objs.size=none:=I.hok.fresh (ak _)
  have key:∀(n:Nat) (l:List Value) (f:Nat->Int),l.length=n->(∀k v,l[k]?=some v->∃t,v=Value.int (f k) t)->aK' ((ah n).map fun k=>V.int (f k)) l:=by
   intro n
   induction n with
   |zero=>intro l f hl hv;have:l=[]:=List.length_eq_zero_iff.mp hl;subst this;exact .nil
   |succ n ih=>
    intro l f hl hv
    cases l with
    |nil=>cases hl
    |cons x r=>
     rw[List.range_succ_eq_map,aN,ci]
     refine .cons (hv 0 x rfl) ?_
     exact ih r (fun k=>f (k+1)) (by simpa using hl) fun k v hk=>hv (k+1) v (by simpa using hk)
  refine⟨.ref s.heap.objs.size,_,I.laid (t':=tk') hk (ak _) (o:=.lst (rgs i (j-i).toNat)) ⟨by unfold rgs;rw[ac,aR];exact hz,acc'.toList,c',?_,hS⟩,rfl,q _ hn⟩
  refine key _ _ (fun k=>i+(k:Int)) (by rw[aM];exact hsz) fun k v hk=>?_
  obtain⟨t,e⟩:=hv k v (by simpa using hk)
  exact⟨t,by rw[e];simp⟩
end
section
variable {X:Cx}
theorem sx':OpR X (binaryOp .Mult) (rI IntMulOk fun i j=>.int (i*j)):=opI fun _ _ _ _ _ _ _ hc q=>mul_int q hc
def CK':V->Bool
 | .ty _=>false
 | .byt _=>false
 | .flt _=>false
 |_=>true
def zV' (neg:Bool):R2:=fun x y H Q=>∃b,y=.bl b/\CK' x=true/\Q (.bl (if neg then !decide (x=.bl b)else decide (x=.bl b))) H
theorem vX' {x:V} {v:Value} {b:Bool} (r:aD' x v) (h:CK' x=true):plainIs v (.bool b)=true/\(v == Value.bool b)=decide (x=.bl b):=by
 cases x with
 |non=>cases r;exact⟨rfl,rfl⟩
 |bl a=>cases r;refine⟨rfl,?_⟩;cases a<;>cases b<;>rfl
 |int i=>obtain⟨t,rfl⟩:=r;exact⟨rfl,rfl⟩
 |str i=>obtain⟨t,rfl⟩:=r;exact⟨rfl,rfl⟩
 |ref a=>cases r;exact⟨rfl,rfl⟩
 |_=>cases h
theorem vY':OpR X (compareOp .Is) (zV' false):=by
 intro pins s σ H x y v u Q I rx ry h
 obtain⟨b,rfl,hp,q⟩:=h
 cases ry
 obtain⟨h1,h2⟩:=vX' (b:=b) rx hp
 exact wpAny_is_plain h1 ⟨.bl _,H,I,by rw[h2];rfl,q⟩
theorem lI':OpR X (compareOp .IsNot) (zV' true):=by
 intro pins s σ H x y v u Q I rx ry h
 obtain⟨b,rfl,hp,q⟩:=h
 cases ry
 obtain⟨h1,h2⟩:=vX' (b:=b) rx hp
 exact wpAny_isNot_plain h1 ⟨.bl _,H,I,by rw[h2];rfl,q⟩
theorem oK':OpR X (binaryOp .FloorDiv) (rI (fun _ j=>0<j/\j.natAbs.log2<9000) fun i j=>.int (i / j)):=opI fun i j _ _ _ _ _ hc q=>by
 refine floordiv_int (by omega) ?_ (.inl (PyProof.noPylong_of_log2 hc.2))
 rw[Int.fdiv_eq_ediv_of_nonneg i (by omega)]
 exact q
def sy' (i j:Nat) (te:TE):TS:=fun D σ H=>te σ H fun v H1=>D.nx ((σ.set i (some v)).set j (some v)) H1
theorem sz' {i j:Nat} {x y:Expr} {e:Expr} {te:TE} {pos:Pos} (he:PE X e te) (hx:PG X x (cR' i)) (hy:PG X y (cR' j))
  (ha:(assignEach [x,y] X.env).map (·.2)=[assign x X.env,assign y X.env]) (hw:swappedStores [x,y] e X.env=pure none):PS X (.Assign [x,y] e pos) (sy' i j te):=by
 intro pins s σ H D I h
 refine wpAny_Assign_two (thn (he pins s σ H _ I h) fun v s1 ⟨u,H1,I1,r1,q1⟩=>?_) ha hw
 refine thn (hx pins s1 σ H1 u v (fun σ2 H2=>D.nx (σ2.set j (some u)) H2) I1 r1 q1) fun _ s2 hq=>?_
 obtain⟨σ2,H2,I2,q2⟩:=hq
 exact thn (hy pins s2 σ2 H2 u v D.nx I2 r1 q2) fun _ s3 ⟨σ3,H3,I3,q3⟩=>⟨σ3,H3,I3,q3⟩
end
section
variable {κ:Type} [DecidableEq κ]
def e9' (kvs:List (κ×V)) (k:κ):Option V:=(kvs.find? fun kv=>decide (kv.1=k)).map (·.2)
def gW' (kvs:List (κ×V)) (k:κ) (v:V):List (κ×V):=
 if(kvs.any fun kv=>decide (kv.1=k))=true then kvs.map (fun kv=>if kv.1=k then(kv.1,v)else kv)else kvs++[(k,v)]
theorem fa' {p:κ×V} {r:List (κ×V)} {k:κ} (e:p.1=k):e9' (p :: r) k=some p.2:=by simp[e9',cX,e]
theorem fb' {p:κ×V} {r:List (κ×V)} {k:κ} (e:¬p.1=k):e9' (p :: r) k=e9' r k:=by simp[e9',cX,e]
theorem fc' (k:κ):∀kvs:List (κ×V),(kvs.any fun kv=>decide (kv.1=k))=(e9' kvs k).isSome
 | []=>rfl
 |p :: r=>by
  rw[cn]
  by_cases e:p.1=k
  .simp only[fa' e,decide_eq_true e,Bool.true_or,Option.isSome_some]
  .rw[fb' e,decide_eq_false e,Bool.false_or];exact fc' k r
theorem d0' (kvs:List (κ×V)) (k:κ) (v:V):(gW' kvs k v).length<=kvs.length+1:=by
 unfold gW'
 split
 .rw[ac];omega
 .rw[au,bg,List.length_nil];omega
theorem jm' {kvs:List (κ×V)} {k:κ} (v:V) (h:e9' kvs k=none):gW' kvs k v=kvs++[(k,v)]:=by
 unfold gW'
 rw[fc',h]
 exact if_neg (by decide)
theorem oh'.isSome_eq {o:Option V} {u:Option Value} (r:oh' o u):o.isSome=u.isSome:=by
 cases o with
 |none=>cases u with
  |none=>rfl
  |some _=>exact(show False from r).elim
 |some _=>cases u with
  |none=>exact(show False from r).elim
  |some _=>rfl
theorem oh'.getD {o:Option V} {u:Option Value} {d:V} {d':Value} (r:oh' o u) (rd:aD' d d'):aD' (o.getD d) (u.getD d'):=by
 cases o with
 |none=>cases u with
  |none=>exact rd
  |some _=>exact(show False from r).elim
 |some _=>cases u with
  |none=>exact(show False from r).elim
  |some _=>exact r
theorem KV.val {kvs:List (κ×V)} {vs:List (κ×Value)} (r:KV kvs vs) (k:κ):oh' (e9' kvs k) (valueAt vs k):=by
 unfold KV at r
 induction r with
 |nil=>exact True.intro
 | @cons p q ps qs h t ih=>
  obtain⟨h1,h2⟩:=h
  by_cases e:p.1=k
  .have e':q.1=k:=h1.symm.trans e
   have b:valueAt (q :: qs) k=some q.2:=by simp[valueAt,cX,e']
   rw[fa' e,b];exact h2
  .have e':¬q.1=k:=fun z=>e (h1.trans z)
   have b:valueAt (q :: qs) k=valueAt qs k:=by simp[valueAt,cX,e']
   rw[fb' e,b];exact ih
theorem KV.any {kvs:List (κ×V)} {vs:List (κ×Value)} (r:KV kvs vs) (k:κ):(kvs.any fun kv=>decide (kv.1=k))=vs.any fun kv=>decide (kv.1=k):=by
 unfold KV at r
 induction r with
 |nil=>rfl
 |cons h t ih=>rw[cn,cn,ih,h.1]
theorem KV.repl {kvs:List (κ×V)} {vs:List (κ×Value)} (r:KV kvs vs) (k:κ) {y:V} {u:Value} (ry:aD' y u):
  KV (kvs.map fun kv=>if kv.1=k then(kv.1,y)else kv) (vs.map fun kv=>if kv.1=k then(kv.1,u)else kv):=by
 unfold KV at r ⊢
 induction r with
 |nil=>exact .nil
 | @cons p q ps qs h t ih=>
  rw[aN,aN]
  refine .cons ?_ ih
  obtain⟨h1,h2⟩:=h
  by_cases e:p.1=k
  .rw[if_pos e,if_pos (h1.symm.trans e)];exact⟨h1,ry⟩
  .rw[if_neg e,if_neg (fun z=>e (h1.trans z))];exact⟨h1,h2⟩
theorem KV.put {kvs:List (κ×V)} {vs:List (κ×Value)} (r:KV kvs vs) (k:κ) {y:V} {u:Value} (ry:aD' y u):KV (gW' kvs k y) (stored vs k u):=by
 unfold gW' stored
 rw[r.any k]
 by_cases e:(vs.any fun kv=>decide (kv.1=k))=true
 .rw[if_pos e,if_pos e];exact r.repl k ry
 .rw[if_neg e,if_neg e];exact Paired.snoc r ⟨rfl,ry⟩
theorem KV.keys {kvs:List (κ×V)} {vs:List (κ×Value)} (r:KV kvs vs):kvs.map (·.1)=vs.map (·.1):=by
 unfold KV at r
 induction r with
 |nil=>rfl
 |cons h t ih=>rw[aN,aN,ih,h.1]
theorem KV.length {kvs:List (κ×V)} {vs:List (κ×Value)} (r:KV kvs vs):kvs.length=vs.length:=Paired.length r
end
theorem kh' {P:Program} {w:World} {k:Key} {u:Value} (r:aD' (kV k) u):(az' P w).is k u=true:=by
 cases k with
 |inl i=>obtain⟨t,e⟩:=(show ∃t,u=Value.int i t from r);subst e;exact iq' P w i t
 |inr x=>obtain⟨t,e⟩:=(show ∃t,u=Value.str x t from r);subst e;exact ir' P w x t
 |non=>obtain rfl:u=Value.none:=r;rfl
theorem hB' {P:Program} {w:World}:∀{ks:List Key} {us:List Value},aK' (ks.map kV) us->ItemsAre (az' P w) ks us
 | [],_,r=>by rw[List.map_nil]at r;cases r;exact .nil
 |k :: ks,_,r=>by
  rw[aN]at r
  cases r with
  |cons h t=>exact .cons (kh' h) (hB' t)
abbrev KT (H:Hp):List (List Key×V)->List (List Key×Addr×Value)->Prop:=Paired fun p q=>p.1=q.1/\H q.2.1=some (.tup (p.1.map kV))/\aD' p.2 q.2.2
theorem KT.val {H:Hp} {kvs:List (List Key×V)} {xs:List (List Key×Addr×Value)} (r:KT H kvs xs) (k:List Key):oh' (e9' kvs k) ((atKey xs k).map (·.2)):=by
 induction r with
 |nil=>exact True.intro
 | @cons p q ps qs h t ih=>
  obtain⟨h1,_,h2⟩:=h
  by_cases e:p.1=k
  .have e':q.1=k:=h1.symm.trans e
   have b:atKey (q :: qs) k=some q.2:=by simp[atKey,cX,e']
   rw[fa' e,b];exact h2
  .have e':¬q.1=k:=fun z=>e (h1.trans z)
   have b:atKey (q :: qs) k=atKey qs k:=by simp[atKey,cX,e']
   rw[fb' e,b];exact ih
theorem KT.repl {H:Hp} {kvs:List (List Key×V)} {xs:List (List Key×Addr×Value)} (r:KT H kvs xs) (k:List Key) {y:V} {u:Value} (ry:aD' y u):
  KT H (kvs.map fun kv=>if kv.1=k then(kv.1,y)else kv) (xs.map (putAt k u)):=by
 induction r with
 |nil=>exact .nil
 | @cons p q ps qs h t ih=>
  rw[aN,aN]
  refine .cons ?_ ih
  obtain⟨h1,h2,h3⟩:=h
  unfold putAt
  by_cases e:p.1=k
  .rw[if_pos e,if_pos (h1.symm.trans e)];exact⟨h1,h2,ry⟩
  .rw[if_neg e,if_neg (fun z=>e (h1.trans z))];exact⟨h1,h2,h3⟩
theorem KT.put {H:Hp} {kvs:List (List Key×V)} {xs:List (List Key×Addr×Value)} (r:KT H kvs xs) (k:List Key) {b:Addr} {y:V} {u:Value} (hb:H b=some (.tup (k.map kV))) (ry:aD' y u):
  KT H (gW' kvs k y) (storedH xs k b u):=by
 have e:(kvs.any fun kv=>decide (kv.1=k))=(atKey xs k).isSome:=by
  rw[fc',(r.val k).isSome_eq,Option.isSome_map]
 unfold gW' storedH
 rw[e]
 by_cases q:(atKey xs k).isSome=true
 .rw[if_pos q,if_pos q];exact r.repl k ry
 .rw[if_neg q,if_neg q];exact Paired.snoc r ⟨rfl,hb,ry⟩
theorem KT.keeps {H H':Hp} {kvs:List (List Key×V)} {xs:List (List Key×Addr×Value)} (r:KT H kvs xs) (ht:∀b ys,H b=some (.tup ys)->H' b=some (.tup ys)):KT H' kvs xs:=
 Paired.mapP r fun _ _ z=>⟨z.1,ht _ _ z.2.1,z.2.2⟩
section
variable {P:Program} {w:World} {H:Hp} {h:Heap} {a:Addr}
theorem vZ' {u:HO} (ok:HOk P w H h) (e:Rd H a u):aG' P w H h a u:=e.ok ok
theorem lJ' {kvs:List (Key×V)} (ok:HOk P w H h) (e:Rd H a (.dK kvs)):kvs.length<=sizeLine/\(a == sysModules)=false/\∃vs,KV kvs vs/\h.DictOf (az' P w) a vs:=
 show aG' P w H h a (.dK kvs) from vZ' ok e
theorem v0' {kvs:List (Key×V)} (ok:HOk P w H h) (e:H a=some (.dK kvs)):kvs.length<=sizeLine/\(a == sysModules)=false/\∃vs,KV kvs vs/\h.DictOf (az' P w) a vs:=lJ' ok (.inl e)
theorem fB' {ks:List Key} (ok:HOk P w H h) (e:H a=some (.tup (ks.map kV))):(tupleKind (az' P w)).is h ks a:=by
 obtain⟨_,its,r,o,h1,h2,⟨n,h3⟩,_⟩:=(show aG' P w H h a (.tup (ks.map kV)) from ok a _ e)
 exact⟨o,its.toArray,n,h1,h2,h3,by simpa using hB' r⟩
theorem lK' {kvs:List (List Key×V)} (ok:HOk P w H h) (e:Rd H a (.dT kvs)):kvs.length<=sizeLine/\(a == sysModules)=false/\
  ∃xs,KT H kvs xs/\h.DictOfH (tupleKind (az' P w)) a xs:=by
 obtain⟨z,y,xs,r,o,es,ep,h1,h2,h3,h4,h5⟩:=(show aG' P w H h a (.dT kvs) from vZ' ok e)
 refine⟨z,y,xs,r,o,es,ep,h1,h2,h3,h4,fun x hx=>?_,h5⟩
 have all:∀{l:List (List Key×V)} {m:List (List Key×Addr×Value)},KT H l m->∀x∈m,(tupleKind (az' P w)).is h x.1 x.2.1:=by
  intro l m q
  induction q with
  |nil=>intro x hx;exact nomatch hx
  | @cons p q ps qs hq t ih=>
   intro x hx
   rcases ap.mp hx with e|hx
   .subst e
    exact fB' ok (by rw[<- hq.1];exact hq.2.1)
   .exact ih x hx
 exact all r x hx
theorem v1' {kvs:List (List Key×V)} (ok:HOk P w H h) (e:H a=some (.dT kvs)):kvs.length<=sizeLine/\(a == sysModules)=false/\
  ∃xs,KT H kvs xs/\h.DictOfH (tupleKind (az' P w)) a xs:=lK' ok (.inl e)
end
def f5' (H:Hp) (a:Addr) (y:V) (r:Option V):Prop:=
 (∃kvs k,Rd H a (.dK kvs)/\y=kV k/\r=e9' kvs k)\/∃kvs k b,Rd H a (.dT kvs)/\y=.ref b/\H b=some (.tup (k.map kV))/\r=e9' kvs k
def AD' (H:Hp) (a:Addr) (y v:V) (H':Hp):Prop:=
 (∃kvs k,H a=some (.dK kvs)/\y=kV k/\kvs.length<sizeLine/\H'=upd H a (.dK (gW' kvs k v)))\/
 ∃kvs k b,H a=some (.dT kvs)/\y=.ref b/\H b=some (.tup (k.map kV))/\kvs.length<sizeLine/\H'=upd H a (.dT (gW' kvs k v))
theorem f5'.k {H:Hp} {a:Addr} {kvs:List (Key×V)} {k:Key} (e:H a=some (.dK kvs)):f5' H a (kV k) (e9' kvs k):=.inl ⟨kvs,k,.inl e,rfl,rfl⟩
theorem f5'.t {H:Hp} {a b:Addr} {kvs:List (List Key×V)} {k:List Key} (e:H a=some (.dT kvs)) (eb:H b=some (.tup (k.map kV))):f5' H a (.ref b) (e9' kvs k):=.inr ⟨kvs,k,b,.inl e,rfl,eb,rfl⟩
section
variable {X:Cx} {pins:List (Addr×Obj)} {σ:St} {H:Hp} {s:Shared} {a:Addr} {y v:V} {u r:Value} {o:Option V} {A:Around} {E:Value->Shared->Prop}
theorem Inv.big (I:Inv X pins σ H s):sysModules<s.heap.objs.size:=by
 have h:mainGlobals<s.heap.objs.size:=(I.mod.glob.keeps I.bk).lt
 exact Nat.lt_trans (by decide) h
theorem Dr' {Q:Value->Shared->Prop} (hu:A.units+1<cLine) (I:Inv X pins σ H s) (g:f5' H a y o) (ry:aD' y u) (h:∀s',Inv X pins σ H s'->Q (.bool o.isSome) s'):
  wpAny (model X.prog X.w) A (compareOp .In u (.ref a)) Q E s:=by
 rcases g with⟨kvs,k,e,ey,l⟩|⟨kvs,k,b,e,ey,eb,l⟩
 .subst ey
  obtain⟨z,hd,vs,rel,dd⟩:=lJ' I.hok e
  refine wpAny_in_of (kh' ry) hd dd.mapOf ?_
  rw[<- (rel.val k).isSome_eq,<- l]
  exact h _ (I.tok _)
 .subst ey
  cases(show u=Value.ref b from ry)
  obtain⟨z,hd,xs,rel,dd⟩:=lK' I.hok e
  refine wpAny_in_heap (tupleKind_room_in1 hu) (fB' I.hok eb) hd dd ?_
  have q:=(rel.val k).isSome_eq
  rw[Option.isSome_map]at q
  rw[<- q,<- l]
  exact h _ (I.tok _)
theorem sA' {Q:Value->Shared->Prop} (hu:A.units+1<cLine) (I:Inv X pins σ H s) (g:f5' H a y o) (ry:aD' y u) (h:∀s',Inv X pins σ H s'->Q (.bool (!o.isSome)) s'):
  wpAny (model X.prog X.w) A (compareOp .NotIn u (.ref a)) Q E s:=by
 rcases g with⟨kvs,k,e,ey,l⟩|⟨kvs,k,b,e,ey,eb,l⟩
 .subst ey
  obtain⟨z,hd,vs,rel,dd⟩:=lJ' I.hok e
  refine wpAny_notIn_of (kh' ry) hd dd.mapOf ?_
  rw[<- (rel.val k).isSome_eq,<- l]
  exact h _ (I.tok _)
 .subst ey
  cases(show u=Value.ref b from ry)
  obtain⟨z,hd,xs,rel,dd⟩:=lK' I.hok e
  refine wpAny_notIn_heap (tupleKind_room_in1 hu) (fB' I.hok eb) hd dd ?_
  have q:=(rel.val k).isSome_eq
  rw[Option.isSome_map]at q
  rw[<- q,<- l]
  exact h _ (I.tok _)
theorem lL' {h':Heap} {t':Nat} {ob:HO} (I:Inv X pins σ H s) (mu:Mut (H a)) (hs:cD a s.heap h') (he:∃q,h'.get? a=some q) (new:aG' X.prog X.w (upd H a ob) h' a ob):
  Inv X pins σ (upd H a ob) { s with heap:=h',toks:=t' }:=
 I.write (x:=a) (e:=a) mu (.inl rfl) (fun b q hb z=>(hs.2 b hb).trans z) he new
theorem v2' {P:Program} {w:World} {H':Hp} {h':Heap} {kvs:List (Key×V)} {vs:List (Key×Value)} (z:kvs.length<=sizeLine) (hd:(a == sysModules)=false) (rel:KV kvs vs) (dd:h'.DictOf (az' P w) a vs):
  aG' P w H' h' a (.dK kvs):=⟨z,hd,vs,rel,dd⟩
theorem lM' {H':Hp} {Q:Unit->Shared->Prop} (hu:A.units+1<cLine) (I:Inv X pins σ H s) (g:AD' H a y v H') (ry:aD' y u) (rv:aD' v r) (h:∀s',Inv X pins σ H' s'->Q () s'):
  wpAny (model X.prog X.w) A (setItem (.ref a) u r) Q E s:=by
 rcases g with⟨kvs,k,e,ey,l,eH⟩|⟨kvs,k,b,e,ey,eb,l,eH⟩
 .subst ey eH
  obtain⟨z,hd,vs,rel,dd⟩:=v0' I.hok e
  have hz:vs.length<=sizeLine:=by rw[<- rel.length];exact z
  have hl:(gW' kvs k v).length<=sizeLine:=by have:=d0' kvs k v;omega
  refine wpAny_setItem_pairs (hsz:=hz) (kh' ry) dd fun h' dd' hs=>h _ ?_
  have he:∃q,h'.get? a=some q:=let⟨q,_,_,hq,_⟩:=dd';⟨q,hq⟩
  exact lL' I (by rw[e];exact True.intro) hs he (v2' hl hd (rel.put k rv) dd')
 .subst ey eH
  cases(show u=Value.ref b from ry)
  obtain⟨z,hd,xs,rel,dd⟩:=v1' I.hok e
  have hz:xs.length<=sizeLine:=by rw[<- Paired.length rel];exact z
  have hl:(gW' kvs k v).length<=sizeLine:=by have:=d0' kvs k v;omega
  refine wpAny_setItem_heap (hsz:=hz) (tupleKind_room_in1 hu) (fB' I.hok eb) dd fun h' dd' hs=>h _ ?_
  obtain⟨q,es,ep,hq,h2,h3,h4,_,h5⟩:=dd'
  refine lL' I (by rw[e];exact True.intro) hs ⟨q,hq⟩ ⟨hl,hd,_,(rel.put k eb rv).keeps fun c ys ec=>?_,q,es,ep,hq,h2,h3,h4,h5⟩
  rw[af' (z8' ec e (fun z=>nomatch z))]
  exact ec
end
def sB' (td ty tv:TE):TS:=fun D σ H=>tv σ H fun v H1=>td σ H1 fun x H2=>ty σ H2 fun y H3=>∃a H4,x=.ref a/\AD' H3 a y v H4/\D.nx σ H4
section
variable {X:Cx} {o i e value:Expr} {pos pos' tpos:Pos} {td ty tv:TE}
theorem sC' (hu:X.A.units+1<cLine) (ho:PE X o td) (hi:PE X i ty) (hv:PE X value tv) (hs:swapsWith value (some (.Subscript o i pos')) pos.line X.env=pure false):
  PS X (.Assign [.Subscript o i pos'] value pos) (sB' td ty tv):=by
 intro pins s σ H D I h
 refine wpAny_Assign_Subscript (thn (hv pins s σ H _ I h) fun r s1 ⟨v,H1,I1,rv,q1⟩=>thn (ho pins s1 σ H1 _ I1 q1) fun u s2 ⟨x,H2,I2,rx,q2⟩=>thn (hi pins s2 σ H2 _ I2 q2) fun iv s3 ⟨y,H3,I3,ry,a,H4,ex,g,q3⟩=>?_) hs
 subst ex
 obtain rfl:u=Value.ref a:=rx
 exact lM' hu I3 g ry rv fun s4 I4=>⟨σ,H4,I4,q3⟩
end
theorem oL' {P:Program} {w:World} {H:Hp} (h:Heap) (hb:sysModules<h.objs.size):aG' P w H (h.push { cls:=.type "dict",data:=.dict #[] }) h.objs.size (.dK []):=
 ⟨aK _,beq_eq_false_iff_ne.mpr (Ne.symm (aE hb)),[],.nil,Heap.DictOf.new h⟩
def lN':TE:=fun _ H Q=>∀p,H p=none->Q (.ref p) (upd H p (.dK []))
section
variable {X:Cx} {pos:Pos}
theorem oM':PE X (.Dict [] [] pos) lN':=fun pins s σ H Q I h=>
 wpAny_Dict_empty ⟨.ref s.heap.objs.size,_,I.laid (a:=s.heap.objs.size) (o:=.dK []) (t':=s.toks) (fun _ _ q=>ag _ q) (ak _) (oL' s.heap I.big),rfl,h _ (I.hok.fresh (ak _))⟩
end
structure M1 (X:Cx) (o:Expr) (m:Str) (apos:Pos) (e:Expr) (cpos:Pos):Prop where
 base:attributeBase o m X.env (eval o X.env)=eval o X.env
 few:((backTo cpos (starEach [e] X.env)).all (fun x=>!x.1)&&(backToKw cpos (keywordEach [] X.env)).all (fun x=>x.1.isSome)
  && decide (([e]:List Expr).length+([]:List Keyword).length+(if([]:List Keyword).isEmpty then 0 else 1)<30))=true
 line:(apos.endLine == cpos.line)=true
 trees:backTo cpos (starEach [e] X.env)=[(false,eval e X.env)]
def IsD (H:Hp) (a:Addr):Prop:=(∃kvs,Rd H a (.dK kvs))\/∃kvs,Rd H a (.dT kvs)
theorem v4' {X:Cx} {pins:List (Addr×Obj)} {σ:St} {H:Hp} {s:Shared} {a:Addr} (I:Inv X pins σ H s) (d:IsD H a):
  s.TypeIs (.ref a) "dict"/\(∀b,Value.ref a=.ref b->∃ob,s.heap.get? b=some ob/\ob.dict=none)/\(a == sysModules)=false:=by
 rcases d with⟨kvs,e⟩|⟨kvs,e⟩
 .obtain⟨_,hd,vs,_,dd⟩:=lJ' I.hok e
  refine⟨dd.typeIs,fun b q=>?_,hd⟩
  cases q
  obtain⟨ob,_,_,h1,h2,_⟩:=dd
  exact⟨ob,h1,h2.2.1⟩
 .obtain⟨_,hd,xs,_,dd⟩:=lK' I.hok e
  refine⟨dd.typeIs,fun b q=>?_,hd⟩
  cases q
  obtain⟨ob,_,_,h1,h2,_⟩:=dd
  exact⟨ob,h1,h2.2.1⟩
section
variable {X:Cx} {pins:List (Addr×Obj)} {σ:St} {H:Hp} {s:Shared} {a:Addr} {y d:V} {u r:Value} {o:Option V} {A:Around} {E:Value->Shared->Prop}
theorem v5' {Q:Value->Shared->Prop} (hu:A.units+1<cLine) (I:Inv X pins σ H s) (g:f5' H a y o) (ry:aD' y u) (h:∀w' s',Inv X pins σ H s'->aD' (o.getD .non) w'->Q w' s'):
  wpAny (model X.prog X.w) A (call (.builtin "dict.get") [.ref a,u]) Q E s:=by
 rcases g with⟨kvs,k,e,ey,l⟩|⟨kvs,k,b,e,ey,eb,l⟩
 .subst ey
  obtain⟨z,hd,vs,rel,dd⟩:=lJ' I.hok e
  refine call_meetsIn PySem.F.slot_dict_get dd.typeIs PySem.F.entry_dict_get (PySem.F.args_dict_get_2 _ _) (meets_dict_get (az' X.prog X.w) a (kh' ry) hd) ⟨_,dd.mapOf,h _ _ (I.tok _) ?_⟩
  rw[l]
  exact(rel.val k).getD rfl
 .subst ey
  cases(show u=Value.ref b from ry)
  obtain⟨z,hd,xs,rel,dd⟩:=lK' I.hok e
  refine call_meetsIn PySem.F.slot_dict_get dd.typeIs PySem.F.entry_dict_get (PySem.F.args_dict_get_2 _ _) (meetsH_dict_get (tupleKind (az' X.prog X.w)) a b hd) ⟨tupleKind_room_in1 hu,k,xs,fB' I.hok eb,dd,h _ _ (I.tok _) ?_⟩
  rw[l]
  exact(rel.val k).getD rfl
end
def Itc (lo c:Int) (n:Nat):It:=⟨fun i _=>i<n,fun i H x H'=>H'=H/\x=.int (lo+i*c),fun i _=>n<=i⟩
section
variable {X:Cx} {tg:Expr}
def AE' (i j c:Int):Nat:=if i<j then((j-i-1) / c+1).toNat else 0
def AF' (i j c:Int):Nat:=if c=-1 then(i-j).toNat else AE' i j c
end
section
variable {X:Cx}
theorem sD' {i:Int} (h:0<=i):Builtin.bitAnd i 1=i % 2:=by
 rw[PyProof.Rows.bitAnd_pp h (by decide)]
 have e:(1:Int).toNat=1:=rfl
 rw[e,Nat.and_one_is_mod]
 omega
theorem sE':OpR X (binaryOp .BitAnd) (rI (fun i j=>0<=i/\j=1) fun i _=>.int (i % 2)):=by
 intro pins s σ H x y v u Q I rx ry h
 obtain⟨i,j,rfl,rfl,⟨h0,rfl⟩,q⟩:=h
 refine vv' pins s σ H _ _ v u Q I rx ry ⟨i,1,rfl,rfl,?_⟩
 have q':Q (.int (i % 2)) H:=q
 rw[<- sD' h0]at q'
 exact q'
def inT (x y:Str):Bool:=!(Builtin.Str.occurrences x y 0 x.length 1).isEmpty
def zW' (neg:Bool):R2:=fun x y H Q=>∃a b,x=.str a/\y=.str b/\Q (.bl (if neg then !inT b a else inT b a)) H
theorem v6':OpR X (compareOp .In) (zW' false):=by
 intro pins s σ H x y v u Q I rx ry h
 obtain⟨a,b,rfl,rfl,q⟩:=h
 obtain⟨t,rfl⟩:=rx
 obtain⟨t',rfl⟩:=ry
 exact in_str ⟨.bl _,H,I,rfl,q⟩
theorem lO':OpR X (compareOp .NotIn) (zW' true):=by
 intro pins s σ H x y v u Q I rx ry h
 obtain⟨a,b,rfl,rfl,q⟩:=h
 obtain⟨t,rfl⟩:=rx
 obtain⟨t',rfl⟩:=ry
 have q':Q (.bl (!inT b a)) H:=q
 refine notIn_str ⟨.bl (!inT b a),H,I,?_,q'⟩
 show Value.bool _=Value.bool _
 simp[inT]
def lP':V->List V->Hp->VK->Prop:=fun x vs H Q=>∃i,x=.int i/\vs=[]/\Q (.int (Builtin.Int.intBits i)) H
theorem lQ':MtR X "int.bit_length" lP':=by
 intro pins s σ H x vs v us Q I rx rv h
 obtain⟨i,rfl,rfl,q⟩:=h
 obtain⟨t,rfl⟩:=rx
 rw[rv.zero]
 exact call_int_bit_length ⟨.int _,H,I.tok _,⟨_,rfl⟩,q⟩
end
section
variable {X:Cx}
def Ds' (x y:Str):Bool:=decide (y.cps.toList<x.cps.toList)
def CL':R2:=fun x y H Q=>∃a b,x=.str a/\y=.str b/\Q (.bl (Ds' a b)) H
theorem v7':OpR X (compareOp .Gt) CL':=by
 intro pins s σ H x y v u Q I rx ry h
 obtain⟨a,b,rfl,rfl,k⟩:=h
 obtain⟨t,rfl⟩:=rx
 obtain⟨t',rfl⟩:=ry
 exact PySem.P.gt_str ⟨.bl _,H,I,rfl,k⟩
def dSc:V->Bool
 | .int _=>true
 | .str _=>true
 | .bl _=>true
 | .non=>true
 |_=>false
def Dq (H:Hp):Nat->V->V->Prop
 |0,v,w=>v=w/\dSc v=true
 |n+1,v,w=>(v=w/\dSc v=true)\/∃a b xs ys,v=.ref a/\w=.ref b/\((H a=some (.lst xs)/\H b=some (.lst ys))\/(H a=some (.tup xs)/\H b=some (.tup ys)))/\xs.length=ys.length/\∀(i:Nat) x y,xs[i]?=some x->ys[i]?=some y->Dq H n x y
open PySem.SeqAt in
theorem v8' {A:Around} {s:Shared} {x:V} {u v:Value} (h:dSc x=true) (r1:aD' x u) (r2:aD' x v):EqAt A s u v true:=by
 have:=eI' (A:=A) (s:=s) r1 r2 (.inl (by cases x<;>first|(cases h;done)|exact⟨rfl,fun b=>by intro z;cases z⟩))
 rw[decide_eq_true rfl]at this
 exact this
theorem dH' {n:Nat}:(ah n).all (fun _=>true)=true:=by simp
theorem dr' {its:List Value} {j:Nat} {u:Value} (e:its[j]?=some u) (h:j<its.toArray.size):its.toArray[j]=u:=by
 simp at h ⊢
 rw[aa h]at e
 exact Option.some.inj e
open PySem.SeqAt in
theorem dI' {n:Nat} {H:Hp} {A:Around} {s:Shared} {xs ys:List V} {its its2:List Value} (ih:∀x y u v,Dq H n x y->aD' x u->aD' y v->EqAt A.in1 s u v true) (hl:xs.length=ys.length) (r1:aK' xs its) (r2:aK' ys its2)
  (he:∀(i:Nat) x y,xs[i]?=some x->ys[i]?=some y->Dq H n x y):∀j (h1:j<its.toArray.size) (h2:j<its2.toArray.size),EqAt A.in1 s its.toArray[j] its2.toArray[j] ((fun _=>true) j):=by
 intro j h1 h2
 have l1:=r1.length
 have j1:j<xs.length:=by simp at h1;omega
 have j2:j<ys.length:=by omega
 have g1:xs[j]?=some xs[j]:=aa j1
 have g2:ys[j]?=some ys[j]:=aa j2
 obtain⟨u1,e1,ru1⟩:=r1.get g1
 obtain⟨u2,e2,ru2⟩:=r2.get g2
 rw[dr' e1 h1,dr' e2 h2]
 exact ih _ _ _ _ (he j _ _ g1 g2) ru1 ru2
open PySem.SeqAt in
theorem v9' {pins:List (Addr×Obj)} {σ:L2.St} {H:Hp} {s:Shared} (I:Inv X pins σ H s):∀(n:Nat) (A:Around) (x y:V) (u v:Value),A.units+n<cLine->Dq H n x y->aD' x u->aD' y v->EqAt A s u v true:=by
 intro n
 induction n with
 |zero=>
  rintro A x y u v hu ⟨rfl,hs⟩ r1 r2
  exact v8' hs r1 r2
 |succ n ih=>
  rintro A x y u v hu h rx ry
  rcases h with⟨rfl,hs⟩|⟨a,b,xs,ys,rfl,rfl,hab,hl,he⟩
  .exact v8' hs rx ry
  cases rx
  cases ry
  by_cases hne:a=b
  .subst hne;exact EqAt.same _
  have ih':∀x y u v,Dq H n x y->aD' x u->aD' y v->EqAt A.in1 s u v true:=fun x y u v=>ih A.in1 x y u v (by show A.units+1+n<cLine;omega)
  rcases hab with⟨h1,h2⟩|⟨h1,h2⟩
  .obtain⟨its,r1,pl1,_⟩:=I.list (SqL.of h1)
   obtain⟨its2,r2,pl2,_⟩:=I.list (SqL.of h2)
   have l1:=r1.length
   have l2:=r2.length
   have:=RcAt.lists pl1.isList pl2.isList (by simp;omega) (by omega) (dI' ih' hl r1 r2 he)
   rw[dH']at this
   exact EqAt.of_refs hne this
  .obtain⟨its,r1,pl1,_⟩:=I.tuple (SqT.of h1)
   obtain⟨its2,r2,pl2,_⟩:=I.tuple (SqT.of h2)
   have l1:=r1.length
   have l2:=r2.length
   have:=RcAt.tuples pl1 pl2 (by omega) (dI' ih' hl r1 r2 he)
   rw[dH']at this
   have e:(true&&its.toArray.size == its2.toArray.size)=true:=by simp;omega
   rw[e]at this
   exact EqAt.of_refs hne this
def CM':R2:=fun x y H Q=>∃a b xs ys,x=.ref a/\y=.ref b/\H a=some (.tup xs)/\H b=some (.tup ys)/\xs.length=ys.length/\LEq xs ys/\Q (.bl (decide (xs=ys))) H
open PySem.SeqAt in
theorem wa' (hu:X.A.units+64<cLine):OpR X (compareOp .Eq) CM':=by
 intro pins s σ H x y v u Q I rx ry h
 obtain⟨p,q,xs,ys,rfl,rfl,hp,hq,hl,he,k⟩:=h
 cases rx
 cases ry
 obtain⟨its,r1,pl1,_⟩:=I.tuple (SqT.of hp)
 obtain⟨its2,r2,pl2,_⟩:=I.tuple (SqT.of hq)
 have l1:=r1.length
 have l2:=r2.length
 refine eq_tupleAt (e:=fun i=>decide (xs[i]?=ys[i]?)) pl1 pl2 (by omega) (fun j h1 h2=>?_) ?_
 .have j1:j<xs.length:=by simp at h1;omega
  have j2:j<ys.length:=by omega
  have g1:xs[j]?=some xs[j]:=aa j1
  have g2:ys[j]?=some ys[j]:=aa j2
  obtain⟨u1,e1,ru1⟩:=r1.get g1
  obtain⟨u2,e2,ru2⟩:=r2.get g2
  rw[dr' e1 h1,dr' e2 h2,g1,g2]
  have e3:decide (some xs[j]=some ys[j])=decide (xs[j]=ys[j]):=by simp
  rw[e3]
  exact eI' ru1 ru2 (he j _ _ g1 g2)
 .have e4:(ah (min its.toArray.size its2.toArray.size)).all (fun i=>decide (xs[i]?=ys[i]?))=decide (xs=ys):=by
   rw[ai,ai,<- l1,<- l2,<- hl,Nat.min_self];exact lH' hl
  have e5:(its.toArray.size == its2.toArray.size)=true:=by simp;omega
  rw[e4,e5,Bool.and_true]
  exact⟨.bl _,H,I,rfl,k⟩
def zX' (neg:Bool):R2:=fun x y H Q=>(∃n,n<=8/\Dq H n x y/\(∃a b,x=.ref a/\y=.ref b)/\Q (.bl (!neg)) H)\/(neg=false/\CM' x y H Q)
theorem Dq.open {H:Hp} {n:Nat} {a b:Addr} (h:Dq H n (.ref a) (.ref b)):∃m xs ys,n=m+1/\((H a=some (.lst xs)/\H b=some (.lst ys))\/(H a=some (.tup xs)/\H b=some (.tup ys)))/\xs.length=ys.length/\∀(i:Nat) x y,xs[i]?=some x->ys[i]?=some y->Dq H m x y:=by
 cases n with
 |zero=>exact(ay h.2).elim
 |succ m=>
  rcases h with⟨_,hs⟩|⟨a',b',xs,ys,e1,e2,hab,hl,he⟩
  .cases hs
  .cases e1;cases e2;exact⟨m,xs,ys,rfl,hab,hl,he⟩
open PySem.SeqAt in
theorem wb' (hu:X.A.units+64<cLine):OpR X (compareOp .Eq) (zX' false):=by
 intro pins s σ H x y v u Q I rx ry h
 rcases h with h|⟨_,h⟩
 case inr=>exact wa' hu pins s σ H x y v u Q I rx ry h
 obtain⟨n,hn,hd,⟨a,b,rfl,rfl⟩,k⟩:=h
 cases rx
 cases ry
 obtain⟨m,xs,ys,rfl,hab,hl,he⟩:=hd.open
 have ih':∀x y u v,Dq H m x y->aD' x u->aD' y v->EqAt X.A.in1 s u v true:=fun x y u v=>v9' I m X.A.in1 x y u v (by show X.A.units+1+m<cLine;omega)
 rcases hab with⟨h1,h2⟩|⟨h1,h2⟩
 .obtain⟨its,r1,pl1,_⟩:=I.list (SqL.of h1)
  obtain⟨its2,r2,pl2,_⟩:=I.list (SqL.of h2)
  have l1:=r1.length
  have l2:=r2.length
  refine eq_listAt pl1.isList pl2.isList (by simp;omega) (by omega) (dI' ih' hl r1 r2 he) ?_
  rw[dH']
  exact⟨.bl true,H,I,rfl,k⟩
 .obtain⟨its,r1,pl1,_⟩:=I.tuple (SqT.of h1)
  obtain⟨its2,r2,pl2,_⟩:=I.tuple (SqT.of h2)
  have l1:=r1.length
  have l2:=r2.length
  refine eq_tupleAt pl1 pl2 (by omega) (dI' ih' hl r1 r2 he) ?_
  have e:(true&&its.toArray.size == its2.toArray.size)=true:=by simp;omega
  rw[dH',e]
  exact⟨.bl true,H,I,rfl,k⟩
open PySem.SeqAt in
theorem wc' (hu:X.A.units+64<cLine):OpR X (compareOp .NotEq) (zX' true):=by
 intro pins s σ H x y v u Q I rx ry h
 rcases h with h|⟨hf,_⟩
 case inr=>cases hf
 obtain⟨n,hn,hd,⟨a,b,rfl,rfl⟩,k⟩:=h
 cases rx
 cases ry
 obtain⟨m,xs,ys,rfl,hab,hl,he⟩:=hd.open
 have ih':∀x y u v,Dq H m x y->aD' x u->aD' y v->EqAt X.A.in1 s u v true:=fun x y u v=>v9' I m X.A.in1 x y u v (by show X.A.units+1+m<cLine;omega)
 have hend:EP X pins σ Q (Value.bool false) s:=⟨.bl false,H,I,rfl,k⟩
 rcases hab with⟨h1,h2⟩|⟨h1,h2⟩
 .obtain⟨its,r1,pl1,_⟩:=I.list (SqL.of h1)
  obtain⟨its2,r2,pl2,_⟩:=I.list (SqL.of h2)
  have l1:=r1.length
  have l2:=r2.length
  obtain⟨⟨cls,dd,data,sl⟩,ho,hc,n1,hd1⟩:=pl1.isList
  obtain⟨⟨cls2,dd2,data2,sl2⟩,ho2,hc2,n2,hd2⟩:=pl2.isList
  simp only at hc hd1 hc2 hd2
  subst hc hd1 hc2 hd2
  refine richCompare_meets_room (op:=.NotEq) ⟨_,ho,rfl⟩ ⟨_,ho2,rfl⟩ F.slot_list_ne F.entry_list_ne (F.args_list_ne_2 _ _) (list_neAt a b its.toArray its2.toArray n1 n2 dd dd2 sl sl2 (by simp;omega) (fun _=>true)) ⟨ho,ho2,dI' ih' hl r1 r2 he,?_⟩ (by omega)
  rw[dH']
  exact(show Value.bool false≠Value.notImplemented/\EP X pins σ Q (Value.bool false) s from⟨(fun x=>nomatch x),hend⟩)
 .obtain⟨its,r1,pl1,_⟩:=I.tuple (SqT.of h1)
  obtain⟨its2,r2,pl2,_⟩:=I.tuple (SqT.of h2)
  have l1:=r1.length
  have l2:=r2.length
  obtain⟨⟨cls,dd,data,sl⟩,ho,hc,n1,hd1⟩:=id pl1
  obtain⟨⟨cls2,dd2,data2,sl2⟩,ho2,hc2,n2,hd2⟩:=id pl2
  simp only at hc hd1 hc2 hd2
  subst hc hd1 hc2 hd2
  refine richCompare_meets_room (op:=.NotEq) ⟨_,ho,rfl⟩ ⟨_,ho2,rfl⟩ F.slot_tuple_ne F.entry_tuple_ne (F.args_tuple_ne_2 _ _) (tuple_neAt a b its.toArray its2.toArray n1 n2 dd dd2 sl sl2 (fun _=>true)) ⟨ho,ho2,dI' ih' hl r1 r2 he,?_⟩ (by omega)
  have e:(true&&its.toArray.size == its2.toArray.size)=true:=by simp;omega
  rw[dH',e]
  exact(show Value.bool false≠Value.notImplemented/\EP X pins σ Q (Value.bool false) s from⟨(fun x=>nomatch x),hend⟩)
end
end L2
namespace HT
open PySem PyProof.Rows
open PySem.SeqAt
open PySem.MeetsSeq PySem.MeetsSeq2 PySem.MeetsSeq3
section
variable {prog:Program} {w:World} {A:Around} {E:Value->Shared->Prop} {s:Shared}
theorem oN' {t b:Addr} {ws:List Value} {Q:Value->Shared->Prop} (ht:IsTup s.heap t #[]) (hb:IsTup s.heap b ws.toArray) (h0:Q (.ref b) s):wpAny (model prog w) A (binaryOp .Add (.ref t) (.ref b)) Q E s:=by
 obtain⟨⟨cls,dd,data,sl⟩,ho,hc,n,hd⟩:=id ht
 obtain⟨⟨cls2,dd2,data2,sl2⟩,ho2,hc2,n2,hd2⟩:=id hb
 simp only at hc hd hc2 hd2
 subst hc hd hc2 hd2
 exact concat_meets ⟨_,ho,rfl⟩ ⟨_,ho2,rfl⟩ noFill_tuple_add seq_tuple_add PySem.F.slot_tuple_add PySem.F.entry_tuple_add (PySem.F.args_tuple_add_2 _ _)
  (tuple_addW0 t b #[] ws.toArray n n2 dd dd2 sl sl2 rfl) ⟨ho,ho2,h0⟩
end
end HT
namespace L2
open PySem PySem.Spec PyProof.Rows
section
variable {X:Cx}
def qN' (K:W.Frag):R2:=fun x y H Q=>∃a b ys,x=.ref a/\y=.ref b/\SqT K H a []/\SqT K H b ys/\Q (.ref b) H
theorem oO':OpR X (binaryOp .Add) (qN' X.K):=by
 intro pins s σ H x y v u Q I rx ry h
 obtain⟨a,b,ys,rfl,rfl,ha,hb,q⟩:=h
 cases rx
 cases ry
 obtain⟨its,r1,p1,_⟩:=I.tuple ha
 obtain⟨its2,r2,p2,_⟩:=I.tuple hb
 have e:its=[]:=r1.nil_iff.mpr rfl
 subst e
 exact HT.oN' p1 p2 ⟨.ref b,H,I,rfl,q⟩
end
end L2
namespace L2
open PySem PySem.Spec PyProof.Rows PySem.Calls PySem.NumText
def B2 (x:PySem.Str) (n:Int):Prop:=(x.cps.all (· < 128))=true/\(x.cps.toList.takeWhile (· != 0)).length<=640/\(int_private% "readNumeral") 0 2 (x.cps.toList.takeWhile (· != 0))=(int_private% "Numeral.value") n/\((x.cps.toList.takeWhile (· != 0)).length == x.cps.toList.length)=true
theorem oP' {M:Model} {A:Around} {E:Value->Shared->Prop} {s:Shared} {Q:Value->Shared->Prop} {v:Value} {text:List Nat} {n:Int}
  (hs:(text.takeWhile (· != 0)).length<=640) (hr:(int_private% "readNumeral") 0 2 (text.takeWhile (· != 0))=(int_private% "Numeral.value") n)
  (ha:((text.takeWhile (· != 0)).length == text.length)=true) (h:Q (.int n s.toks) { s with toks:=s.toks+1 }):
  wpAny M A ((int_private% "intFromText") v text 2) Q E s:=by
 obtain⟨hp,g,d,tk,os⟩:=s
 repeat (any_goals (first
  |assumption
  |(with_reducible refine wpAny_ite_true (decide_eq_true hs) ?_)
  |(with_reducible refine wpAny_ite_true (decide_eq_true ha) ?_)
  |wp_step))
 all_goals (try rw[hr])
 all_goals (try dsimp only)
 repeat (any_goals (first
  |assumption
  |(with_reducible refine wpAny_ite_true (decide_eq_true hs) ?_)
  |(with_reducible refine wpAny_ite_true (decide_eq_true ha) ?_)
  |wp_step))
set_option maxHeartbeats 4000000 in
theorem iD' {x:PySem.Str} {u v:Tok} {n:Int} (hb:B2 x n):Gives (Builtin.«int.__new__» ⟨[.type "int",.str x u,.int 2 v],[]⟩) (.int n):=
 .of_wp fun M A E s Q h=>by
  obtain⟨hp,g,d,tk,os⟩:=s
  have f1:=F.conv_sub_int
  have f2:=F.madeHere_int
  have f6:typeOf (.str x u)=pure (.type "str"):=rfl
  have hk:=W.KIN.Hid.mk hb
  clear hb
  repeat (any_goals (first
   |assumption
   |((with_reducible show wpAny _ _ ((int_private% "intFromText") _ _ _) _ _ _);rw[if_pos hk.out.1];refine oP' hk.out.2.1 hk.out.2.2.1 hk.out.2.2.2 ?_)
   |wp_step))
  all_goals first|exact⟨_,rfl,h⟩|skip
theorem fU' (a b:Value):checkTypeCall "int" ⟨[a,b],[]⟩=pure ():=by kernel_rfl
theorem gw' (a b:Value):checkBuiltinCall "int.__new__" ⟨[.type "int",a,b],[]⟩=pure ():=by kernel_rfl
section
variable {X:Cx}
def wd':List V->Hp->VK->Prop:=fun xs H Q=>∃x n,xs=[.str x,.int 2]/\B2 x n/\Q (.int n) H
theorem lR':a5' X (.type "int") wd':=by
 intro pins s σ H xs us Q I r h
 obtain⟨x,n,rfl,hb,q⟩:=h
 obtain⟨u,v,rfl,⟨t,rfl⟩,⟨t',rfl⟩⟩:=k8' r
 exact callType_new F.called_int F.newNe_int (fU' _ _) (gw' _ _) (fun obj=>F.args_object_init_3 obj _ _) F.entry_int_new (iD' hb).meets (show(Made.int n).post _ s from⟨rfl,⟨.int n,H,I.tok _,⟨_,rfl⟩,q⟩⟩)
theorem lS':a5' X (.type "int") (fun xs H Q=>CF' xs H Q\/wd' xs H Q):=lx'.or lR'
end
end L2
namespace HT
open PySem PyProof.Rows
section
variable {prog:Program} {w:World} {A:Around} {E:Value->Shared->Prop} {s:Shared}
theorem d1' {t sl:Addr} {items:Array Value} {vl vu:Value} {lo hi:Option Int} {Q:Value->Shared->Prop} (ht:IsTup s.heap t items) (hs:s.heap.IsSliceOf sl vl vu .none) (pl:IsPart vl lo) (pu:IsPart vu hi)
  (hw:sIx items.size 0 lo=0/\sIx items.size items.size hi=items.size)
  (h:Q (.ref t) s):wpAny (model prog w) A (getItem (.ref t) (.ref sl)) Q E s:=by
 obtain⟨os,hos,hcs,hds⟩:=id hs
 have hTs:s.TypeIs (.ref sl) "slice":=⟨os,hos,hcs⟩
 unfold getItem
 try with_reducible refine br ?_
 first|refine ab (av ?_)|skip
 refine ab (wpAny_sequenceKey ht.typeIs (by decide) ?_)
 refine ab (bD (name:=Str.ofString "__getitem__") ht.typeIs PyProof.Rows.slot_tuple_getitem
  (cg PyProof.Rows.slot_tuple_getitem ht.typeIs entry_tuple_getitem ?_ (args_tuple_getitem _ _)))
 show wpAny _ _ (Builtin.Tuple.tupleItemsOf (.ref t) >>= _) _ _ s
 refine ab (tupleItemsOf_ ht ?_)
 refine ab (wpAny_typeOf hTs ?_)
 rw[if_pos (by decide)]
 refine ab (dq' hs pl pu ?_)
 have hyes:(((sIx items.size 0 lo:Nat):Int) == 0&&(1:Int) == 1&&(sIx items.size items.size hi-sIx items.size 0 lo) == items.size)=true:=by
  rw[hw.1,hw.2]
  simp
 show wpAny _ _ (if(((sIx items.size 0 lo:Nat):Int) == 0&&(1:Int) == 1&&(sIx items.size items.size hi-sIx items.size 0 lo) == items.size)=true then _ else _) _ _ s
 rw[if_pos hyes]
 obtain⟨ot,hot,hct,nt,hdt⟩:=id ht
 refine ab (wpAny_mono (Q:=fun b s'=>b=true/\s'=s) (E:=E) ?_ ?_ (fun _ _ z=>z))
 .unfold Builtin.Tuple.tupleIsExact
  exact ab (wpAny_typeOf ht.typeIs (av ⟨rfl,rfl⟩))
 .rintro b s' ⟨rfl,rfl⟩
  rw[if_pos rfl]
  exact ab (wpAny_rule (av ⟨_,rfl,av h⟩))
end
end HT
namespace L2
open PySem PySem.Spec PyProof.Rows
section
variable {X:Cx}
def zY' (K:W.Frag):V->Option Int->Option Int->Hp->VK->Prop:=fun x lo hi H Q=>∃a xs,x=.ref a/\SqT K H a xs/\(HT.sIx xs.length 0 lo=0/\HT.sIx xs.length xs.length hi=xs.length)/\Q (.ref a) H
theorem oQ':SlR X (zY' X.K):=by
 intro pins s σ H x v vl vu lo hi sl Q I rx hs pl pu h
 obtain⟨a,xs,rfl,hx,hw,q⟩:=h
 cases rx
 obtain⟨its,r,ht,hz⟩:=I.tuple hx
 have hlen:its.toArray.size=xs.length:=by rw[ai];exact r.length.symm
 refine⟨"tuple",_,PyProof.Rows.slot_tuple_getitem.lookup,ht.typeIs,?_⟩
 exact HT.d1' ht hs pl pu (by rw[hlen];exact hw) ⟨.ref a,H,I,rfl,q⟩
end
end L2
namespace L2
open PySem PySem.Spec PyProof.Rows PySem.SeqAt
def Ls1 (H:Hp) (v:V) (ns:List Int):Prop:=∃p,v=.ref p/\H p=some (.lst (ns.map V.int))
def LL (H:Hp) (a:Addr) (L:List (List Int)):Prop:=∃vs,H a=some (.lst vs)/\vs.length=L.length/\∀(i:Nat) v ns,vs[i]?=some v->L[i]?=some ns->Ls1 H v ns
theorem bE':∀{a b:List Int},a.map V.int=b.map V.int->a=b
 | [],[],_=>rfl
 | [],_ :: _,h=>by cases h
 |_ :: _,[],h=>by cases h
 |x :: a,y :: b,h=>by
  rw[aN,aN]at h
  injection h with h1 h2
  injection h1 with h1
  rw[h1,bE' h2]
theorem gx' {α:Type} [DecidableEq α] {a b:List α} (h:a.length=b.length):(ah a.length).all (fun i=>decide (a[i]?=b[i]?))=decide (a=b):=by
 by_cases e:a=b
 .subst e;simp
 .rw[decide_eq_false e,Bool.eq_false_iff]
  intro z
  apply e
  apply bX
  intro i
  rw[aQ]at z
  by_cases hi:i<a.length
  .exact of_decide_eq_true (z i (aB.mpr hi))
  .rw[bj (by omega),bj (by omega)]
section
variable {X:Cx} {pins:List (Addr×Obj)} {σ:L2.St} {H:Hp} {s:Shared}
theorem qO' (I:Inv X pins σ H s) {A:Around} {v w:V} {u u':Value} {ns ms:List Int} (hu:A.units+1<cLine) (h1:Ls1 H v ns) (h2:Ls1 H w ms) (r1:aD' v u) (r2:aD' w u'):EqAt A s u u' (decide (ns=ms)):=by
 obtain⟨p,rfl,e1⟩:=h1
 obtain⟨q,rfl,e2⟩:=h2
 cases r1
 cases r2
 by_cases hpq:p=q
 .subst hpq
  rw[e1]at e2
  have:ns=ms:=bE' (by injection e2 with e2;injection e2 with e2)
  rw[decide_eq_true this]
  exact EqAt.same _
 obtain⟨its,v1,pl1,_⟩:=I.list (SqL.of e1)
 obtain⟨its2,v2,pl2,_⟩:=I.list (SqL.of e2)
 have l1:=v1.length
 have l2:=v2.length
 rw[ac]at l1 l2
 by_cases hl:ns.length=ms.length
 .have:=RcAt.lists (e:=fun j=>decide (ns[j]?=ms[j]?)) pl1.isList pl2.isList (by simp;omega) (by omega) (A:=A) (fun j h1 h2=>?_)
  .rw[ai,<- l1,gx' hl]at this
   exact EqAt.of_refs hpq this
  .have j1:j<ns.length:=by simp at h1;omega
   have j2:j<ms.length:=by omega
   obtain⟨u1,f1,ru1⟩:=v1.get (i:=j) (by rw[ao,aa j1];rfl)
   obtain⟨u2,f2,ru2⟩:=v2.get (i:=j) (by rw[ao,aa j2];rfl)
   rw[dr' f1 h1,dr' f2 h2]
   have:=eI' (A:=A.in1) (s:=s) ru1 ru2 (.inl ⟨rfl,fun b z=>by cases z⟩)
   rw[show decide (V.int ns[j]=V.int ms[j])=decide (ns[j]?=ms[j]?) by
    rw[aa j1,aa j2]
    simp]at this
   exact this
 .rw[decide_eq_false (fun z=>hl (by rw[z]))]
  exact EqAt.of_refs hpq (RcAt.lists_lengths pl1.isList pl2.isList (by simp;omega) (by omega))
def CN' (neg:Bool):R2:=fun x y H Q=>∃a b L M,x=.ref a/\y=.ref b/\LL H a L/\LL H b M/\Q (.bl (decide (L=M))) H
theorem we' (hu:X.A.units+64<cLine):OpR X (compareOp .Eq) (CN' false):=by
 intro pins s σ H x y v u Q I rx ry h
 obtain⟨a,b,L,M,rfl,rfl,⟨vs,ea,hla,ga⟩,⟨ws,eb,hlb,gb⟩,q⟩:=h
 cases rx
 cases ry
 obtain⟨its,v1,pl1,_⟩:=I.list (SqL.of ea)
 obtain⟨its2,v2,pl2,_⟩:=I.list (SqL.of eb)
 have l1:=v1.length
 have l2:=v2.length
 by_cases hl:L.length=M.length
 .refine eq_listAt (e:=fun j=>decide (L[j]?=M[j]?)) pl1.isList pl2.isList (by simp;omega) (by omega) (fun j h1 h2=>?_) ?_
  .have j1:j<L.length:=by simp at h1;omega
   have j2:j<M.length:=by omega
   obtain⟨u1,f1,ru1⟩:=v1.get (aa (show j<vs.length by omega))
   obtain⟨u2,f2,ru2⟩:=v2.get (aa (show j<ws.length by omega))
   rw[dr' f1 h1,dr' f2 h2]
   have:=qO' I (A:=X.A.in1) (show X.A.units+1+1<cLine by omega) (ga j _ _ (aa (by omega)) (aa j1)) (gb j _ _ (aa (by omega)) (aa j2)) ru1 ru2
   rw[show decide (L[j]=M[j])=decide (L[j]?=M[j]?) by rw[aa j1,aa j2];simp]at this
   exact this
  .rw[ai,<- l1,hla,gx' hl]
   exact⟨.bl _,H,I,rfl,q⟩
 .refine eq_list_lengthsAt pl1.isList pl2.isList (by simp;omega) (by omega) ?_
  rw[decide_eq_false (fun z=>hl (by rw[z]))]at q
  exact⟨.bl _,H,I,rfl,q⟩
def wf':R2:=fun x y H Q=>∃b L ns,Ls1 H x ns/\y=.ref b/\LL H b L/\Q (.bl (!decide (ns∈L))) H
open Classical in
theorem sF' (hu:X.A.units+64<cLine):OpR X (compareOp .NotIn) wf':=by
 intro pins s σ H x y v u Q I rx ry h
 obtain⟨b,L,ns,hx,rfl,⟨ws,eb,hlb,gb⟩,q⟩:=h
 cases ry
 obtain⟨its,v1,pl1,_⟩:=I.list (SqL.of eb)
 have l1:=v1.length
 refine notIn_listAt (fun u=>decide (∃p,u=Value.ref p/\H p=some (.lst (ns.map V.int)))) pl1.isList (fun w hw=>?_) ?_
 .obtain⟨i,hi⟩:=bn (show w∈its by simpa using hw)
  have hi':i<its.length:=(aI.mp hi).1
  obtain⟨u1,f1,ru1⟩:=v1.get (aa (show i<ws.length by omega))
  rw[hi]at f1
  cases f1
  have g:=gb i _ _ (aa (by omega)) (aa (show i<L.length by omega))
  have:=qO' I (A:=X.A.in1) (show X.A.units+1+1<cLine by omega) g hx ru1 rx
  obtain⟨p,ep,hp⟩:=g
  rw[ep]at ru1
  cases ru1
  have e:decide (L[i]=ns)=decide (∃p',Value.ref p=Value.ref p'/\H p'=some (.lst (ns.map V.int))):=by
   apply decide_eq_decide.mpr
   constructor
   .intro z;exact⟨p,rfl,by rw[<- z];exact hp⟩
   .rintro⟨p',z,hp'⟩
    cases z
    rw[hp]at hp'
    exact bE' (by injection hp' with hp';injection hp' with hp')
  rw[e]at this
  exact this
 .have e:(its.toArray.any fun u=>decide (∃p,u=Value.ref p/\H p=some (.lst (ns.map V.int))))=decide (ns∈L):=by
   rw[cr,List.any_toArray,bU]
   constructor
   .rintro⟨w,hw,hd⟩
    obtain⟨p,rfl,hp⟩:=of_decide_eq_true hd
    obtain⟨i,hi⟩:=bn hw
    have hi':i<its.length:=(aI.mp hi).1
    obtain⟨u1,f1,ru1⟩:=v1.get (aa (show i<ws.length by omega))
    rw[hi]at f1
    cases f1
    obtain⟨p',ep,hp'⟩:=gb i _ _ (aa (by omega)) (aa (show i<L.length by omega))
    rw[ep]at ru1
    cases ru1
    rw[hp]at hp'
    have:ns=L[i]:=bE' (by injection hp' with hp';injection hp' with hp')
    rw[this]
    exact decide_eq_true (cI _)
   .intro z
    obtain⟨i,hi⟩:=bn (of_decide_eq_true z)
    have hi':i<L.length:=(aI.mp hi).1
    obtain⟨u1,f1,ru1⟩:=v1.get (aa (show i<ws.length by omega))
    obtain⟨p',ep,hp'⟩:=gb i _ _ (aa (by omega)) hi
    rw[ep]at ru1
    cases ru1
    exact⟨_,aD f1,decide_eq_true ⟨p',rfl,hp'⟩⟩
  rw[e]
  exact⟨.bl _,H,I,rfl,q⟩
end
theorem jn' {X:Cx}:Cz' X (gV' X.K):=by
 intro pins s σ H x y v u Q I rx ry h
 obtain⟨p,xs,i,z,rfl,rfl,hq,he,q⟩:=h
 cases rx
 obtain⟨t,rfl⟩:=ry
 obtain⟨its,r,pl,hz⟩:=I.list hq
 obtain⟨j,h1,h2,h3,h4,h5⟩:=gp' he
 obtain⟨w,ew,rw'⟩:=r.get h2
 have hl:=r.length
 have hn:=fo'
 have fin:EP X pins σ Q w s:=⟨z,H,I,rw',q⟩
 by_cases h0:0<=i
 .have hj:i.toNat=j:=by
   rw[seqIndex_of h0 h5]at h1
   exact Option.some.inj h1
  exact wpAny_getItem_list pl.isList h0 (by omega) (by rw[hj];simpa using ew) fin
 .have hj:(i+(its.toArray.size:Int)).toNat=j:=by
   rw[seqIndex_neg (by omega) h4]at h1
   rw[ai,<- hl]
   exact Option.some.inj h1
  exact wpAny_getItem_list_neg pl.isList (by omega) (by rw[ai]<;>omega) (by omega) (by rw[hj];simpa using ew) fin
def wg' (K:W.Frag):List V->Hp->VK->Prop:=fun xs H Q=>∃(p:Addr) (ns:List Int),xs=[.ref p]/\SqL K H p (ns.map V.int)/\Q (.bl (ns.any fun n=>n != 0)) H
theorem lT':∀{ns:List Int} {us:List Value} {i:Nat} {v:Value},aK' (ns.map V.int) us->us[i]?=some v->∃n t,ns[i]?=some n/\v=.int n t
 | [],us,i,v,h,e=>by rw[h.zero]at e;simp at e
 |n :: ns,_,0,v,.cons r t,e=>by
  obtain⟨t',r⟩:=r
  simp at e
  exact⟨n,t',rfl,by rw[<- e];exact r⟩
 |n :: ns,_,i+1,v,.cons r t,e=>by
  simp at e
  obtain⟨m,t',h1,h2⟩:=lT' t e
  exact⟨m,t',by simpa using h1,h2⟩
theorem lU' {X:Cx} (hc:X.calm=true):a5' X (.builtin "any") (wg' X.K):=by
 intro pins s σ H xs us Q I r h
 obtain⟨p,ns,rfl,hs,q⟩:=h
 obtain⟨u,rfl,ru⟩:=fp' r
 cases ru
 obtain⟨its,rv,pl,hz⟩:=I.list hs
 have hlen:its.toArray.size=(ns.map fun n=>n != 0).length:=by
  have:=rv.length
  rw[ac]at this
  rw[ai,ac,<- this]
 refine call_any_walk (db pl.isList ?_)
 have hlt:p<s.heap.objs.size:=by obtain⟨o,n,e,_⟩:=pl;exact aw e
 refine⟨s.heap.objs.size,_,_,_,_,_,fun i=>(ns.map fun n=>n != 0).getD i false,rfl,Walks.list (A:=X.A.in1) (I.ok.hd hc) _ p (aE hlt) its.toArray,⟨⟨_,aC _ rfl,rfl,rfl⟩,Heap.IsList.push pl.isList _⟩,?_,fun h' tk hk=>?_⟩
 .intro i v s' Q' E' hv hq
  obtain⟨n,t,hb,rfl⟩:=lT' rv (i:=i) (by simpa using hv)
  have e:(ns.map fun n=>n != 0).getD i false=(n != 0):=by rw[aP,ao,hb];rfl
  have hq':Q' ((ns.map fun n=>n != 0).getD i false) s':=hq
  rw[e]at hq'
  exact PySem.P.truthy_int hq'
 .rw[hlen,lB']
  rw[show(ns.map fun n=>n != 0).any id=ns.any fun n=>n != 0 by rw[List.any_map];rfl]
  exact⟨.bl _,H,I.kept fun b o e=>hk b o (by simp;exact aE (aw e)) (ag _ e),rfl,q⟩
def SqE (K:W.Frag) (H:Hp) (p:Addr) (xs:List V):Prop:=∃k:Bool,Sq k K H p xs
section
variable {X:Cx} {env:Env}
def Fr {α:Type} (t:Sem α):Prop:=∀(M:Model) (Γ:PySem.Ctx) (Q:α->Pos->Shared->Prop) (E:Value->Pos->Shared->Prop) (p:Pos) (s:Shared),Sem.wp M Γ t Q E p s->Sem.wp M Γ t (fun a p' s'=>1<=s'.toks/\Q a p' s') E p s
end
end L2
namespace So
open PySem PySem.Spec PyProof.Rows
def lV':Bool->Keyed->Array Keyed->Nat->Nat->Nat->StateT SortSt Sem (Option Nat):=sortPriv% PySem.Builtin.gallop
end So
namespace So
open PySem PySem.Spec PyProof.Rows
def dnH (x y o:Array Keyed) (i j:Nat):Array Keyed:=x.extract 0 i++y.extract 0 j++o.reverse
def fbH (x y o:Array Keyed) (i j:Nat):Array Keyed:=y.extract 0 j++x.extract 0 i++o.reverse
abbrev TG:Type:=Option (Array Keyed)×Nat×Nat×Array Keyed×Nat×Nat×Nat
abbrev TI:Type:=Option (Array Keyed)×Nat×Nat×Array Keyed×Nat×Nat
abbrev TO:Type:=Option (Array Keyed)×Nat×Nat×Array Keyed×Nat
def hi3 (x y:Array Keyed) (i j:Nat) (o:Array Keyed) (mg ca cb:Nat):StateT SortSt Sem (ForInStep TG):=do
 let p <- elem' x (i-1)
 if(i-1 == 0)=true then pure (.done (some (dnH x y (o.push p) (i-1) j),i-1,j,o.push p,mg,ca,cb))
 else if(decide (ca<7)&&decide (cb<7))=true then pure (.done (none,i-1,j,o.push p,mg,ca,cb))else pure (.yield (none,i-1,j,o.push p,mg,ca,cb))
def hi2 (x y:Array Keyed) (i j:Nat) (o:Array Keyed) (mg ca cb:Nat):StateT SortSt Sem (ForInStep TG):=do
 let q <- elem' y (j-1)
 if(j-1 == 1)=true then pure (.done (some (fbH x y (o.push q) i (j-1)),i,j-1,o.push q,mg,ca,cb))
 else do
  let p <- elem' x (i-1)
  let r <- lV' true p y 0 (j-1) (j-1-1)
  match r with
  |some z=>
   if j-1-z > 0 then
    if(z == 1)=true then pure (.done (some (fbH x y (o.push q++(y.extract z (j-1)).reverse) i z),i,z,o.push q++(y.extract z (j-1)).reverse,mg,ca,j-1-z))
    else if(z == 0)=true then pure (.done (some (dnH x y (o.push q++(y.extract z (j-1)).reverse) i z),i,z,o.push q++(y.extract z (j-1)).reverse,mg,ca,j-1-z))
    else hi3 x y i z (o.push q++(y.extract z (j-1)).reverse) mg ca (j-1-z)
   else hi3 x y i (j-1) (o.push q) mg ca (j-1-z)
  |_=>pure (.done (some (dnH x y (o.push q) i (j-1)),i,j-1,o.push q,mg,ca,cb))
def hi1 (x y:Array Keyed) (i j:Nat) (o:Array Keyed) (mg ca cb:Nat):StateT SortSt Sem (ForInStep TG):=do
 modify fun st=>SortSt.mk' (kindOf st) (arrOf st) (pendingOf st) mg (failedOf st)
 let q <- elem' y (j-1)
 let r <- lV' false q x 0 i (i-1)
 match r with
 |some z=>
  if i-z > 0 then
   if(z == 0)=true then pure (.done (some (dnH x y (o++(x.extract z i).reverse) z j),z,j,o++(x.extract z i).reverse,mg,i-z,cb))
   else hi2 x y z j (o++(x.extract z i).reverse) mg (i-z) cb
  else hi2 x y i j o mg (i-z) cb
 |_=>pure (.done (some (dnH x y o i j),i,j,o,mg,ca,cb))
end So
namespace So
open PySem PySem.Spec PyProof.Rows
section
variable {M:Model} {A:Around} {E:Value->Shared->Prop} {s:Shared} {O:KeyOrd} {ky:Keyed->O.α} {P:Keyed->Prop} {kd:SortKind} {st0:SortSt} {lo nrem:Nat}
def ke (ky:Keyed->O.α) (a:Array Keyed) (i:Nat):O.α:=ky ((a[i]?).getD (Value.none,Value.none))
end
end So
namespace L2
open PySem PySem.Spec PyProof.Rows So
abbrev Itm:Type:=Int ⊕ PySem.Str
end L2
namespace PySem
namespace Ts
open SetTable
def u (x:Nat):Nat->Nat
 |0=>x
 |n+1=>5*u x n+1
end Ts
end PySem
namespace PySem
namespace Ts
open SetTable
def Lp (m:Nat) (h:Int):Nat->Nat×Nat
 |0=>(bits h % (m+1),bits h)
 |l+1=>leap m (Lp m h l).1 (Lp m h l).2
def mo (m i:Nat):Nat:=runEnd m i-i
def sg (m:Nat) (h:Int):Nat->Nat
 |0=>0
 |l+1=>sg m h l+mo m (Lp m h l).1+1
end Ts
end PySem
namespace PySem
namespace Ts
open SetTable
section
variable {prog:Program} {w:World}
def Tup (prog:Program) (w:World) (h:Heap) (q:List Int×Addr):Prop:=IsTupleKey (intKind prog w) h q.1 q.2
variable {A:Around} {E:Value->Shared->Prop} {s:Shared}
end
end Ts
end PySem
namespace L2
open PySem PySem.Spec PyProof.Rows
def AK' (h:Heap) (a:Addr):Heap:=h.update a fun o=>{ o with data:=.freed }
def dY' (h:Heap) (S:List Addr):Heap:=S.foldl AK' h
def CP' (h:Heap) (e:Addr) (cls:Value) (T:Addr):Prop:=∃oe vs oT ts a0,h.get? e=some oe/\(oe.cls=cls/\vs[0]?=some a0)/\oe.data=.fields vs/\vs[1]?=some (.ref T)/\T≠e/\h.get? T=some oT/\oT.data=.fields ts/\ts[3]?=some .none
structure FnCx (X:Cx):Prop where
 ex:X.ex=[]
 fn:∀x,X.fn x=true
 stk:X.stack=X.env :: X.outer
 fr:X.env.frame=some X.env.locals
section
variable {X:Cx} {pins:List (Addr×Obj)} {σ:St} {H:Hp} {s:Shared}
def CX1 (P:Program) (w:World) (mg:Str->Option Value):CXT:=fun outer H s E e s'=>∃(ea T Ca:Addr) (nm:Str) (H':Hp),e=.ref ea/\mg nm=some (.ref Ca)/\s'.os=s.os/\AllBare s'.gens/\Un (frs outer) [] H H' s.heap s'.heap/\HOk P w H' s'.heap/\
 CP' s'.heap ea (.ref Ca) T/\H' ea=none/\H' T=none/\s.heap.get? ea=none/\s.heap.get? T=none/\E (.str nm 0) none H'
end
end L2
namespace L2
open PySem PySem.Spec PyProof.Rows PySem.W
def CQ':Option Int->Value->Bool
 |some k,v=>Value.isInt k v
 |none,.none=>true
 |none,_=>false
theorem a7':∀{k:Option Int} {v:Value},CQ' k v=true->(∃i t,k=some i/\v=Value.int i t)\/(k=none/\v=Value.none)
 |some i,v,h=>by
  obtain⟨t,e⟩:=Value.isInt_shape (k:=i) (v:=v) h
  exact .inl ⟨i,t,rfl,e⟩
 |none,v,h=>by cases v<;>first|exact .inr ⟨rfl,rfl⟩|cases h
def okH:Option Int->Int
 |some k=>hashInt k
 |none=>0xFCA86420
def kj' (prog:Program) (w:World):PySem.KeyKind prog w (Option Int) where
 is:=CQ'
 hash:=okH
 inj:=fun v a b ha hb=>by
  rcases a7' ha with⟨i,t,rfl,rfl⟩|⟨rfl,rfl⟩
  .rcases a7' hb with⟨j,u,rfl,e⟩|⟨rfl,e⟩
   .injection e with e1 _;rw[e1]
   .exact nomatch e
  .rcases a7' hb with⟨j,u,rfl,e⟩|⟨rfl,e⟩
   .exact nomatch e
   .rfl
 byValue:=fun k v h=>by
  rcases a7' h with⟨i,t,rfl,rfl⟩|⟨rfl,rfl⟩<;>rfl
 pyHash:=fun hv h=>by
  rcases a7' hv with⟨i,t,rfl,rfl⟩|⟨rfl,rfl⟩
  .exact wpAny_pyHash_int h
  .exact fj' h
 eqBool:=fun {A E s a b u v Q} hu hv h=>by
  rcases a7' hu with⟨i,t,rfl,rfl⟩|⟨rfl,rfl⟩
  .rcases a7' hv with⟨j,u,rfl,rfl⟩|⟨rfl,rfl⟩
   .have e:decide ((some i:Option Int)=some j)=(i == j):=by
     by_cases q:i=j
     .subst q;simp
     .rw[decide_eq_false (fun z=>q (Option.some.inj z)),(beq_eq_false_iff_ne.mpr q)]
    rw[e]at h
    exact wpAny_eqBool_int h
   .exact SeqAt.EqAt.int_none i t _ _ _ _ h
  .rcases a7' hv with⟨j,u,rfl,rfl⟩|⟨rfl,rfl⟩
   .exact SeqAt.EqAt.none_int j u _ _ _ _ h
   .exact SeqAt.EqAt.same .none _ _ _ _ h
 «strs»:=fun k x t v h=>by
  rcases a7' h with⟨i,u,rfl,e⟩|⟨rfl,e⟩<;>exact nomatch e
end L2
namespace L2
open PySem PySem.Spec PyProof.Rows
def fC' {α:Type} (own:List Nat) (wi:TI) (g:TG) (tc:TT) (aH':TL α) (a0:α) (ho:Addr->α->HO) (ok:α->Hp->Prop):TE:=fun σ H Q=>wi σ H fun J H1=>a9' own g tc aH' J σ a0 H1 fun xs H2=>ok xs H2/\∀p,H2 p=none->Q (.ref p) (upd H2 p (ho p xs))
structure CompInG {α:Type} (Is:α->Obj->Prop) (X:Cx) (e:Expr) (scope:Scope) (tg:Expr) (iter:Expr) (ifs:List Expr) (nx:Addr->Env->Sem Unit) (g:TG) (tc:TT) (aH':TL α) (own:List Nat):Prop where
 sc:CompSc X scope
 ow:∀i x,X.N[i]?=some x->(scope.names.lookup x=some .local\/scope.names.lookup x=some .cell)->i∈own
 cl:∃gs,clausesOf e=⟨tg,iter,ifs,0⟩ :: gs
 fs:∀x,foldedSetIterable iter X.env x=pure x
 calm:X.calm=true
 q:∀it D env,(Code.compLoop e 0 it (.ref D) env).quiet=true/\(Code.compStart e 0 it (.ref D) env).quiet=true
 u:∀A it D env,Around.under A (Code.compLoop e 0 it (.ref D) env)=A/\Around.under A (Code.compStart e 0 it (.ref D) env)=A
 T:∀P w it D env,(model P w).den (.compLoop e 0 it (.ref D) env)=(a6' e 0 tg iter ifs (nx D env) it (.ref D) env).onRaise (fun x=>do noteFrame x env;theTreesLotGoes x)
 S:∀P w it D env,(model P w).den (.compStart e 0 it (.ref D) env)=(compStart e 0 it (.ref D) env).onRaise (fun x=>do noteFrame x env;standAt theWindowsPlace)
 ge:uZ' own g
 inn:∀s0 H0 ex D,PG (X.comp scope s0 H0 ex) tg g/\PTs (X.comp scope s0 H0 ex) ifs tc/\∃ws',(∀j∈ws',j∈own)/\cV' (X.comp scope s0 H0 ex) D Is ws' (nx D (X.comp scope s0 H0 ex).env) aH'
section
variable {X:Cx} {e:Expr} {scope:Scope} {tg iter:Expr} {ifs:List Expr} {nx:Addr->Env->Sem Unit} {g:TG} {tc:TT} {α:Type} {Is:α->Obj->Prop} {aH':TL α} {own:List Nat} {wi:TI} {a0:α} {o0:Bool->Obj} {newAcc:Sem Value} {ho:Addr->α->HO} {ok:α->Hp->Prop}
theorem hE' (hnew:∀(s:Shared) (Q:Value->Shared->Prop),(∀led,Q (.ref s.heap.objs.size) { s with heap:=s.heap.push (o0 led) })->wpAny (model X.prog X.w) X.A newAcc Q X.xe s) (hfr:∀led,(o0 led).isFreed=false) (ha0:∀led,Is a0 (o0 led)) (hda:∀(a:α) (o:Obj),Is a o->∀v:Option Value,o.data≠.cell v) (C:CompInG Is X e scope tg iter ifs nx g tc aH' own) (hi:PI X tg iter wi) {pins:List (Addr×Obj)} {s:Shared} {σ:St} {H:Hp} {R:V->Hp->Prop} (I:Inv X pins σ H s) (hw:fC' own wi g tc aH' a0 ho ok σ H R)
  {use:Option (Value->Sem Unit)} {Q:Value->Shared->Prop} {pos:Pos}
  (fin:∀(s3 s':Shared) (H0 H':Hp) (ex:List Addr) (D:Addr) (xs:α) (o:Obj) (σ':St),Inv X pins σ H0 s3->(∀b∈ex,ef' X pins H0 b)->Inv (X.comp scope s3 H0 ex) [] σ' H' s'->s'.heap.get? D=some o->D<s3.heap.objs.size->X.s₀.heap.objs.size<=D->ef' X pins H0 D->(D == sysModules)=false->Is xs o->H' D=none->ok xs H'->R (.ref D) (upd H' D (ho D xs))->
   compPost (model X.prog X.w) X.A X.xe use Q (.ref D) s3.heap.objs.size (.ok .next) s'):
  wpAny (model X.prog X.w) X.A (comprehension e scope X.env pos newAcc false (eval iter X.env) use) Q X.xe s:=by
 obtain⟨gs,hcl⟩:=C.cl
 refine wpAny_comprehension_free hcl C.fs (lq' fun n hn=>I.ok.has n (C.sc.free n hn)) C.sc.kind C.sc.names ?_
 refine thn (hi pins s σ H _ I hw) fun v s1 h1=>thn h1 fun itv s2 h2=>?_
 obtain⟨it,fp,tn,J,H2,rfl,I2,T,st2,f2,hc⟩:=h2
 refine hnew _ _ fun led=>ej' ?_
 have keep:∀b o,s2.heap.get? b=some o->(s2.heap.push (o0 led)).get? b=some o:=fun b o e=>ag _ e
 have I3:Inv X pins σ H2 { s2 with heap:=s2.heap.push (o0 led) }:=I2.kept (t':=s2.toks) keep
 have hsz:(s2.heap.push (o0 led)).objs.size=s2.heap.objs.size+1:=bA ..
 have fD:ef' X pins H2 s2.heap.objs.size:=I2.fpOk (ak _) (I2.hok.fresh (ak _))
 have hlt:∀b∈fp,b<s2.heap.objs.size:=fun b hb=>by
  obtain⟨o,e,_⟩:=T.obj _ _ st2 b hb
  exact aw e
 have hDf:s2.heap.objs.size∉fp:=fun z=>bm _ (hlt _ z)
 have hex:∀b∈s2.heap.objs.size :: fp,ef' X pins H2 b:=fun b hb=>by
  rcases ap.mp hb with rfl|hb
  .exact fD
  .exact f2 b hb
 generalize hs3:({ s2 with heap:=s2.heap.push (o0 led) }:Shared)=s3 at *
 have hs3s:s3.heap.objs.size=s2.heap.objs.size+1:=by rw[<- hs3];exact hsz
 have hlt3:∀b∈s2.heap.objs.size :: fp,b<s3.heap.objs.size:=fun b hb=>by
  rw[hs3s]
  rcases ap.mp hb with rfl|hb
  .exact Nat.lt_succ_self _
  .exact da (hlt b hb)
 have J0:=f4' (own:=own) I3 hex hlt3 C.sc C.ow
 obtain⟨c1,c2,ws',c4,c5⟩:=C.inn s3 H2 (s2.heap.objs.size :: fp) s2.heap.objs.size
 have kp:∀b o,s2.heap.get? b=some o->(bd' s3.heap scope.names).get? b=some o:=fun b o e=>pushCells_keeps _ _ b o (ag _ (by rw[<- hs3];exact keep b o e))
 have oD:(bd' s3.heap scope.names).get? s2.heap.objs.size=some (o0 led):=pushCells_keeps _ _ _ _ (ag _ (by rw[<- hs3];exact aC _ (hfr led)))
 have stat:∀b∈s2.heap.objs.size :: fp,ef' (X.comp scope s3 H2 (s2.heap.objs.size :: fp)) [] H2 b:=fun b hb=>
  ⟨(hex b hb).1,(J0.ok.exf b hb).1,J0.ok.exfs b hb,.inl hb,(J0.ok.exf b hb).2,fun p hp=>absurd (show p∈([]:List (Addr×Obj)) from hp) (by simp)⟩
 have T':Turn (X.comp scope s3 H2 (s2.heap.objs.size :: fp)).prog (X.comp scope s3 H2 (s2.heap.objs.size :: fp)).w (X.comp scope s3 H2 (s2.heap.objs.size :: fp)).K tg J fp it tn:=T
 have hc':a9' own g tc aH' J (clr own σ) a0 H2 (fun xs H2=>ok xs H2/\∀p,H2 p=none->R (.ref p) (upd H2 p (ho p xs))):=by
  obtain⟨W,w0,turn⟩:=hc
  refine⟨W,w0,?_⟩
  rw[jj']
  exact turn
 have st3:tn 0 ({ s3 with heap:=bd' s3.heap scope.names }:Shared).heap:=T.keep _ _ _ st2 fun b hb o e=>kp b o e
 have L:=fy' (X:=X.comp scope s3 H2 (s2.heap.objs.size :: fp)) (Is:=Is) (D:=s2.heap.objs.size) rfl C.calm (C.q _ _ _).1 (C.u _ _ _ _).1 (C.T _ _ _ _ _) T' c1 C.ge c2 c5 c4 hda hDf J0
  (fun b hb=>stat b (aF _ hb)) (stat _ aJ) oD (ha0 led) st3 hc'
 have L2:=gu' (C.q _ _ _).2 (C.u _ _ _ _).2 (fun it'=>(C.q it' _ _).1) (C.S _ _ _ _ _) ⟨_,by rw[hcl];rfl,rfl⟩ L (fun E=>T.self _ 0 _ _ E st3 ⟨rfl,rfl⟩)
 refine codeAny_mono L2 fun r s' h=>?_
 obtain⟨rfl,xs,o',H',J',e',is',n',hN⟩:=h
 exact fin s3 s' H2 H' _ _ xs o' _ I3 hex J' e' (hlt3 _ aJ) I2.sz fD (beq_eq_false_iff_ne.mpr (bF I2.big)) is' n' hN.1 (hN.2 _ n')
end
section
variable {X:Cx} {e:Expr} {scope:Scope} {tg iter:Expr} {ifs:List Expr} {nx:Addr->Env->Sem Unit} {g:TG} {tc:TT} {α:Type} {Is:α->Obj->Prop} {aH':TL α} {own:List Nat} {wi:TI} {a0:α} {o0:Bool->Obj} {newAcc:Sem Value} {ho:Addr->α->HO} {ok:α->Hp->Prop}
theorem oV' (hnew:∀(s:Shared) (Q:Value->Shared->Prop),(∀led,Q (.ref s.heap.objs.size) { s with heap:=s.heap.push (o0 led) })->wpAny (model X.prog X.w) X.A newAcc Q X.xe s) (hfr:∀led,(o0 led).isFreed=false) (ha0:∀led,Is a0 (o0 led)) (hda:∀(a:α) (o:Obj),Is a o->∀v:Option Value,o.data≠.cell v)
  (hfin:∀(a:α) (o:Obj) (D:Addr) (H:Hp) (h:Heap),Is a o->h.get? D=some o->(D == sysModules)=false->H D=none->ok a H->HOk X.prog X.w H h->aG' X.prog X.w (upd H D (ho D a)) h D (ho D a)) (C:CompInG Is X e scope tg iter ifs nx g tc aH' own) (hi:PI X tg iter wi) {pos:Pos} (he:eval e X.env=comprehension e scope X.env pos newAcc false (eval iter X.env)):PE X e (fC' own wi g tc aH' a0 ho ok):=by
 intro pins s σ H Q I hw
 rw[he]
 refine hE' hnew hfr ha0 hda C hi I hw fun s3 s' H0 H' ex D xs o σ' I3 hex J e' hlt h0 fD sy is' n' hok' hR=>?_
 obtain⟨m,hn,_⟩:=J.loc
 refine⟨m,hn,fun h' hs=>?_⟩
 have J2:=e7' I3 hex J hs
 have neC:D≠s3.heap.objs.size:=aE hlt
 refine⟨.ref D,upd H' D (ho D xs),J2.track (o:=ho D xs) ⟨n',fD.2⟩ h0 (hfin xs o D H' _ is' ((hs.2 D neC).trans e') sy n' hok' J2.hok),rfl,hR⟩
theorem iF' (hnew:∀(s:Shared) (Q:Value->Shared->Prop),(∀led,Q (.ref s.heap.objs.size) { s with heap:=s.heap.push (o0 led) })->wpAny (model X.prog X.w) X.A newAcc Q X.xe s) (hfr:∀led,(o0 led).isFreed=false) (ha0:∀led,Is a0 (o0 led)) (hda:∀(a:α) (o:Obj),Is a o->∀v:Option Value,o.data≠.cell v)
  (hfin:∀(a:α) (o:Obj) (D:Addr) (H:Hp) (h:Heap),Is a o->h.get? D=some o->(D == sysModules)=false->H D=none->ok a H->HOk X.prog X.w H h->aG' X.prog X.w (upd H D (ho D a)) h D (ho D a)) (C:CompInG Is X e scope tg iter ifs nx g tc aH' own) (hi:PI X tg iter wi) {i:Nat} {y:Str} {py pos pos2:Pos} (hN:X.N.Nodup) (hy:X.N[i]?=some y) (hx:Loc X.env.scope y) (hf:X.fn y=true\/X.env.scope.names.lookup y=some .local)
  (he:evalThenUse e X.env (assign (.Name y py) X.env)=(do let _ <- comprehension e scope X.env pos2 newAcc false (eval iter X.env) (some (assign (.Name y py) X.env))))
  (hsw:swapsWith e (some (.Name y py)) pos.line X.env=pure true):PS X (.Assign [.Name y py] e pos) (jf' (fC' own wi g tc aH' a0 ho ok) (cR' i)):=by
 intro pins s σ H D I hw
 rw[exec_Assign_Name_used _ _ _ _ hsw]
 refine ab (ck (ab ?_))
 rw[he]
 refine ab (thn (Q:=fun _ s'=>SP X pins D .next s') (hE' hnew hfr ha0 hda C hi I hw fun s3 s' H0 H' ex D' xs o σ' I3 hex J e' hlt h0 fD sy is' n' hok' hR=>?_) fun _ s' q=>av (av q))
 obtain⟨m,hn,_⟩:=J.loc
 have J2:Inv X pins σ H' s':=e7' I3 hex J (Heap.SameBut.refl ..)
 have neC:D'≠s3.heap.objs.size:=aE hlt
 have J3:Inv X pins σ (upd H' D' (ho D' xs)) s':=J2.track ⟨n',fD.2⟩ h0 (hfin xs o D' H' _ is' e' sy n' hok' J2.hok)
 have fC:ef' X pins H0 s3.heap.objs.size:=I3.fpOk (ak _) (I3.hok.fresh (ak _))
 refine wpAny_assign_Name (fl' J3 hN hy hx (v:=.ref D') rfl (fun s'' J4 hs=>?_) hf)
 obtain⟨a,hsa,ha⟩:=hs
 have haC:s3.heap.objs.size≠a:=by
  rcases ha with rfl|ha
  .exact fC.2.1
  .exact fun q=>fC.2.2.2.2.1 _ _ ha q.symm
 have hn':s'.heap.Ns s3.heap.objs.size m:=hn
 refine⟨m,hn'.sameBut hsa haC,fun h' hs'=>?_⟩
 have J5:Inv X pins (σ.set i (some (.ref D'))) (upd H' D' (ho D' xs)) { s'' with heap:=h' }:=J4.turned (it:=s3.heap.objs.size) (t':=s''.toks) (fun b ob hb q=>(hs'.2 b hb).trans q) (by rw[af' (Ne.symm neC)];exact J.free) fC.2.1 fC.2.2.2.1 fC.2.2.2.2.1 fC.2.2.2.2.2
 exact⟨_,_,J5,hR⟩
end
def kO:Option Int->V
 |some i=>.int i
 |none=>.non
theorem kk' {P:Program} {w:World} {k:Option Int} {u:Value} (r:aD' (kO k) u):(kj' P w).is k u=true/\u.scannable=true:=by
 cases k with
 |none=>cases r;exact⟨rfl,rfl⟩
 |some i=>
  obtain⟨t,rfl⟩:=r
  exact⟨by show Value.isInt i (.int i t)=true;simp[Value.isInt],rfl⟩
def IsS (a:(Option Int->Bool)×Nat) (o:Obj):Prop:=a.2<=4000/\(∃es ep t,o.data=.set es ep t)/\∃m,m<=a.2/\∀(P:Program) (w:World),o.SetObjOf (kj' P w) a.1 m
theorem qQ' {P:Program} {w:World} {S:Option Int->Bool} {n m:Nat} {o:Obj} (h:o.SetObjOf (kj' P w) S m) (hm:m<=n) (hn:n<=4000):IsS (S,n) o:=⟨hn,⟨_,_,_,h.2.choose_spec.choose_spec.choose_spec.1⟩,m,hm,fun P' w'=>h.transport (knd':=kj' P' w') rfl rfl⟩
theorem gA' (a:(Option Int->Bool)×Nat) (o:Obj) (h:IsS a o) (v:Option Value):o.data≠.cell v:=by
 obtain⟨_,⟨es,ep,t,hd⟩,_⟩:=h
 rw[hd]
 exact fun z=>nomatch z
def f7' (D:Addr) (S:Option Int->Bool) (n:Nat):HO:=.ext fun h=>∃o,h.get? D=some o/\IsS (S,n) o
theorem l9' {P:Program} {w:World} {H:Hp} {h:Heap} {D:Addr} {S:Option Int->Bool} {n:Nat} {o:Obj} (e:h.get? D=some o) (i:IsS (S,n) o):aG' P w H h D (f7' D S n):=
 ⟨⟨o,e,i⟩,⟨o,e⟩,fun h1 h2 ⟨o',e',i'⟩ k=>⟨o',k o' e',i'⟩⟩
section
variable {X:Cx}
theorem ma' {s:Shared} {D:Addr} {a:(Option Int->Bool)×Nat} {o:Obj} (e:s.heap.get? D=some o) (i:IsS a o):∃m,m<=a.2/\s.heap.SetOf (kj' X.prog X.w) D a.1 m:=by
 obtain⟨hn,_,m,hm,h⟩:=i
 exact⟨m,hm,(h X.prog X.w).setOf e (bG (aq hm hn) (by decide))⟩
def z0' (neg:Bool):R2:=fun x y H Q=>∃k D S n,x=kO k/\y=.ref D/\H D=some (f7' D S n)/\Q (.bl (if neg then !(S k)else S k)) H
theorem wo':OpR X (compareOp .In) (z0' false):=by
 intro pins s σ H x y v u Q I rx ry h
 obtain⟨k,D,S,n,rfl,rfl,hD,q⟩:=h
 cases ry
 obtain⟨o,e,i⟩:=(show aG' X.prog X.w H s.heap D (f7' D S n) from I.hok D _ hD).1
 obtain⟨m,_,hS⟩:=ma' (X:=X) e i
 exact wpAny_inSet_of (kk' rx).1 (kk' (P:=X.prog) (w:=X.w) rx).2 hS ⟨.bl (S k),H,I.tok _,rfl,q⟩
theorem mb':OpR X (compareOp .NotIn) (z0' true):=by
 intro pins s σ H x y v u Q I rx ry h
 obtain⟨k,D,S,n,rfl,rfl,hD,q⟩:=h
 cases ry
 obtain⟨o,e,i⟩:=(show aG' X.prog X.w H s.heap D (f7' D S n) from I.hok D _ hD).1
 obtain⟨m,_,hS⟩:=ma' (X:=X) e i
 exact wpAny_notInSet_of (kk' rx).1 (kk' (P:=X.prog) (w:=X.w) rx).2 hS ⟨.bl (!S k),H,I.tok _,rfl,q⟩
def inL (ns:List Int):Option Int->Bool
 |some i=>ns.contains i
 |none=>false
def qR' (K:W.Frag):List V->Hp->VK->Prop:=fun xs H Q=>∃a ns,xs=[.ref a]/\SqL K H a (ns.map V.int)/\ns.length<=3999/\∀p,H p=none->Q (.ref p) (upd H p (f7' p (inL ns) ns.length))
theorem mc' (hc:X.calm=true):a5' X (.type "set") (qR' X.K):=by
 intro pins s σ H xs us Q I rv h
 obtain⟨a,ns,rfl,hs,hl,q⟩:=h
 cases rv with
 |cons r1 rv=>
  cases rv
  cases r1
  obtain⟨its,r,pl,hz⟩:=I.list hs
  have hlen:=r.length
  rw[ac]at hlen
  refine call_set_list (I.ok.hd hc) pl.isList (eF' r) (by rw[ai,<- hlen];exact bG (Nat.succ_le_succ hl) (by decide)) fun h' tk hS hk=>?_
  have hn:H s.heap.objs.size=none:=I.hok.fresh (ak _)
  obtain⟨o,ho,hso⟩:=hS.objOf
  have fl:=firstMet_length_le (fun i=>ns.getD i 0) its.toArray.size
  have key:o.SetObjOf (kj' X.prog X.w) (inL ns) (firstMet (fun i=>ns.getD i 0) its.toArray.size).length:=by
   obtain⟨hex,es,ep,t,hd,hel,hmem,hsz,hf⟩:=hso
   refine⟨hex,es,ep,t,hd,fun e he=>?_,fun k=>?_,hsz,hf⟩
   .obtain⟨⟨j,hj,hh⟩,hsc⟩:=hel e he
    exact⟨⟨some j,hj,hh⟩,hsc⟩
   .cases k with
    |none=>
     constructor
     .intro z;cases z
     .rintro⟨e,he,hi⟩
      obtain⟨⟨j,hj,hh⟩,hsc⟩:=hel e he
      obtain⟨t',et⟩:=Value.isInt_shape hj
      rw[et]at hi
      cases hi
    |some i=>
     have:=hmem i
     dsimp only at this
     rw[firstMet_any]at this
     refine Iff.trans ?_ this
     show ns.contains i=true↔_
     have en:(ah its.toArray.size).map (fun i=>ns.getD i 0)=ns:=by
      rw[ai,<- hlen]
      apply bX
      intro j
      rw[ao]
      by_cases hj:j<ns.length
      .rw[aY hj]
       simp[List.getD,hj]
      .rw[bq.mpr (by simpa using hj),bq.mpr (by omega)]
       rfl
     rw[en,List.contains_eq_any_beq]
     constructor
     .intro z
      rw[bU]at z ⊢
      obtain⟨x,hx,e⟩:=z
      exact⟨x,hx,by rw[beq_iff_eq]at e ⊢;exact e.symm⟩
     .intro z
      rw[bU]at z ⊢
      obtain⟨x,hx,e⟩:=z
      exact⟨x,hx,by rw[beq_iff_eq]at e ⊢;exact e.symm⟩
  refine⟨.ref s.heap.objs.size,_,I.laid (t':=tk) (fun b o hb=>hk b o (aw hb) hb) (ak _) (o:=f7' s.heap.objs.size (inL ns) ns.length) (l9' ho (qQ' key (aq fl (by rw[ai,hlen];exact ak _)) (by omega))),rfl,q _ hn⟩
def hF' (te:TE):TL ((Option Int->Bool)×Nat):=fun σ a H N=>te σ H fun v H'=>∃k,v=kO k/\a.2<4000/\N (fun j=>a.1 j || decide (j=k),a.2+1) H'
theorem md' {D:Addr} {elt:Expr} {te:TE} (hxe:X.xe=fun _ _=>False) (he:PE X elt te):cV' X D IsS [] (do let v <- eval elt X.env;standAt elt.pos;let _ <- call (.builtin "set.add") [.ref D,v]) (hF' te):=by
 intro pins s σ H a o N I hD ho hi hq
 have I1:Inv X (pins++cv' [D] s.heap) σ H s:=I.pinned (fun b hb=>by
  have e:b=D:=by simpa using hb
  subst e
  exact hD) (fun b hb=>by
  have e:b=D:=by simpa using hb
  subst e
  exact⟨o,ho,gA' _ _ hi⟩)
 have h1:=he _ s σ H _ I1 hq
 rw[hxe]at h1
 refine ab (thn h1 fun u s1 ⟨v,H1,J1,r1,k,ek,z1,n1⟩=>?_)
 subst ek
 have q1:=J1.pin (D,o) (al _ (al _ (aN' (by simp) ho)))
 obtain⟨m,hm,hS⟩:=ma' (X:=X) q1.1 hi
 refine ab (ck (ab (call_set_add (kk' r1).1 (kk' (P:=X.prog) (w:=X.w) r1).2 hS (bG (Nat.succ_le_of_lt (bG hm z1)) (by decide)) fun h' hs hS'=>?_)))
 obtain⟨_,f1,f2,f3,f4,f5⟩:=hD
 obtain⟨o',ho',hso⟩:=hS'.objOf
 have J2:Inv X pins σ H1 { s1 with heap:=h',toks:=s1.toks+1 }:=J1.unpinned.turned (it:=D) (t':=s1.toks+1) (fun b o hb e=>(hs.2 b hb).trans e) q1.2.1 f1 f3 f4 f5
 exact av ⟨σ,_,o',H1,J2,Ext.refl,ho',qQ' hso (by split<;>omega) (by omega),q1.2.1,n1⟩
theorem sM' {A:Around} {E:Value->Shared->Prop} (s:Shared) (Q:Value->Shared->Prop) (h:∀led,Q (.ref s.heap.objs.size) { s with heap:=s.heap.push { cls:=.type "set",dict:=none,data:=.set #[] 0 (.fresh 0 0 led) } }):wpAny (model X.prog X.w) A (newSet (.type "set")) Q E s:=by
 unfold newSet setsByText
 refine ab (ab (wpAny_askSetting (av ?_)))
 exact bP (h _)
theorem oW' (led:Bool):IsS (fun _=>false,0) { cls:=.type "set",dict:=none,data:=.set #[] 0 (.fresh 0 0 led) }:=⟨aK _,⟨_,_,_,rfl⟩,0,ak _,fun _ _=>setObjOf_fresh led⟩
end
abbrev NH:Int:=0xFCA86420
section
variable {prog:Program} {w:World} {A:Around} {E:Value->Shared->Prop} {s:Shared}
theorem me' {d:Addr} {o:Obj} {es:Array DictEntry} {ep:Nat} {Q:Option Nat->Shared->Prop} (ho:s.heap.get? d=some o) (hd:o.data=.dict es ep) (hno:∀e∈es.toList,e.hash≠NH) (h:Q none s):
  wpAny (model prog w) A (dictFind d .none NH) Q E s:=by
 have hp:placesWithHash es.size (fun i=>es[i]?.map (·.hash)) NH=[]:=by
  unfold placesWithHash
  rw[List.filter_eq_nil_iff]
  intro i hi hc
  dsimp only at hc
  cases he:es[i]? with
  |none=>rw[he]at hc;cases hc
  |some e=>
   rw[he]at hc
   have hm:e∈es.toList:=dg.mpr (Array.mem_of_getElem? he)
   exact hno e hm (by simpa using hc)
 unfold dictFind
 try with_reducible refine br ?_
 refine ab (wpAny_dictEntries ho hd ?_)
 dsimp only
 rw[hp]
 rw[if_pos (show((Value.none :: ([]:List Nat).filterMap (fun i=>es[i]?.map (·.key))).all carriedByValue)=true by rfl)]
 unfold dictWalkPlain
 simp only[List.forIn_nil,pure_bind,bind_pure]
 exact av h
theorem fV' {d:Addr} (hd:(d == sysModules)=false):
  MeetsIn prog w (Builtin.«dict.get» ⟨[.ref d,.none],[]⟩) (fun _ R s=>∃o es ep,s.heap.get? d=some o/\o.data=.dict es ep/\(∀e∈es.toList,e.hash≠NH)/\R (.ok (.ret .none)) { s with toks:=s.toks+1 }):=
 .of_wp fun A R s ⟨o,es,ep,h1,h2,h3,h⟩=>by
  show wpAny _ _ (dictGet d .none >>= _) _ _ s
  refine ab ?_
  unfold dictGet
  try with_reducible refine br ?_
  refine ab (fj' (ab (me' (s:={ s with toks:=s.toks+1 }) h1 h2 h3 (av ?_))))
  show wpAny _ _ (Builtin.Dict.missed d .none >>= _) _ _ _
  exact ab (wpAny_missed_other hd (av ⟨.none,rfl,h⟩))
end
theorem hG' {P:Program} {w:World} {k:Key}:∀{es:List DictEntry} {vs:List (Key×Value)} {en:DictEntry},Pairs (az' P w) es vs->en∈es->(az' P w).is k en.key=true->k∈vs.map (·.1)
 |_,_,_,.nil,h,_=>by cases h
 |_,_,en,.cons (e:=e) (kv:=kv) h1 h2 r,h,hk=>by
  rcases ap.mp h with rfl|h
  .rw[(az' P w).inj _ _ _ hk h1]
   exact aJ
  .exact aF _ (hG' r h hk)
theorem cy' {α β:Type} {F:α->β->Prop}:∀{xs:List α} {ys:List β} {y:β},Paired F xs ys->y∈ys->∃x∈xs,F x y
 |_,_,_,.nil,h=>by cases h
 |_,_,y,.cons h1 r,h=>by
  rcases ap.mp h with rfl|h
  .exact⟨_,aJ,h1⟩
  .obtain⟨x,hx,hf⟩:=cy' r h
   exact⟨x,aF _ hx,hf⟩
def NoN (H:Hp) (a:Addr):Prop:=(∃kvs,H a=some (.dK kvs)/\∀kv∈kvs,∃i:Int,kv.1=.inl i/\hashInt i≠NH)\/
 ∃kvs,H a=some (.dT kvs)/\∀kv∈kvs,∃is:List Int,kv.1=is.map Key.inl/\reduceHash (Builtin.Tuple.tupleHashOf (is.map hashInt))≠NH
theorem NoN.at {X:Cx} {pins:List (Addr×Obj)} {σ:St} {H:Hp} {s:Shared} {a:Addr} (I:Inv X pins σ H s) (h:NoN H a):(a == sysModules)=false/\s.TypeIs (.ref a) "dict"/\∃o es ep,s.heap.get? a=some o/\o.data=.dict es ep/\∀e∈es.toList,e.hash≠NH:=by
 rcases h with⟨kvs,e,hk⟩|⟨kvs,e,hk⟩
 .obtain⟨z,hd,vs,rel,dd⟩:=v0' I.hok e
  refine⟨hd,dd.typeIs,?_⟩
  obtain⟨o,es,ep,h1,_,h3,h4,h5,_⟩:=dd
  refine⟨o,es,ep,h1,h3,fun en hen=>?_⟩
  obtain⟨k,hk1,hk2⟩:=h4 en (dg.mp hen)
  have hin:k∈kvs.map (·.1):=by
   rw[rel.keys]
   exact hG' h5 hen hk1
  obtain⟨kv,hkv,rfl⟩:=bi.mp hin
  obtain⟨i,ei,hi⟩:=hk kv hkv
  rw[hk2,ei]
  exact hi
 .obtain⟨z,hd,xs,rel,dd⟩:=v1' I.hok e
  refine⟨hd,dd.typeIs,?_⟩
  obtain⟨o,es,ep,h1,_,h3,h4,_⟩:=dd
  refine⟨o,es,ep,h1,h3,fun en hen=>?_⟩
  rw[h4]at hen
  obtain⟨x,hx,rfl⟩:=bi.mp hen
  obtain⟨kv,hkv,hp⟩:=cy' rel hx
  obtain⟨is,ei,hi⟩:=hk kv hkv
  show(tupleKind (az' X.prog X.w)).hash x.1≠NH
  rw[<- hp.1,ei]
  show reduceHash (Builtin.Tuple.tupleHashOf ((is.map Key.inl).map (az' X.prog X.w).hash))≠NH
  rw[ci]
  exact hi
theorem wp' {X:Cx} {pins:List (Addr×Obj)} {σ:St} {H:Hp} {s:Shared} {a:Addr} {A:Around} {E:Value->Shared->Prop} {Q:Value->Shared->Prop} (I:Inv X pins σ H s) (g:NoN H a) (h:∀s',Inv X pins σ H s'->Q .none s'):
  wpAny (model X.prog X.w) A (call (.builtin "dict.get") [.ref a,.none]) Q E s:=by
 obtain⟨hd,ht,o,es,ep,h1,h2,h3⟩:=g.at I
 exact call_meetsIn PySem.F.slot_dict_get ht PySem.F.entry_dict_get (PySem.F.args_dict_get_2 _ _) (fV' hd) ⟨o,es,ep,h1,h2,h3,h _ (I.tok _)⟩
def wq' (P:Program) (w:World) (kvs:List (Key×V)) (o:Obj):Prop:=kvs.length<=sizeLine/\∃vs es ep,KV kvs vs/\o.ExactDict/\o.data=.dict es ep/\KeysOf (az' P w) es/\Pairs (az' P w) es.toList vs/\(vs.map (·.1)).Nodup
theorem hH' {P:Program} {w:World} (a:List (Key×V)) (o:Obj) (h:wq' P w a o) (v:Option Value):o.data≠.cell v:=by
 obtain⟨_,_,es,ep,_,_,hd,_⟩:=h
 rw[hd]
 exact fun z=>nomatch z
theorem jr' {X:Cx} {A:Around} {E:Value->Shared->Prop} (s:Shared) (Q:Value->Shared->Prop) (h:∀_led:Bool,Q (.ref s.heap.objs.size) { s with heap:=s.heap.push { cls:=.type "dict",dict:=none,data:=.dict #[] } }):wpAny (model X.prog X.w) A newDict Q E s:=bP (h true)
theorem mf' {P:Program} {w:World} (_led:Bool):wq' P w [] { cls:=.type "dict",dict:=none,data:=.dict #[] }:=
 ⟨aK _,[],#[],0,.nil,⟨rfl,rfl,rfl⟩,rfl,fun e he=>by simp at he,.nil,cS⟩
theorem wr' {P:Program} {w:World} (a:List (Key×V)) (o:Obj) (D:Addr) (H:Hp) (h:Heap) (i:wq' P w a o) (e:h.get? D=some o) (sy:(D == sysModules)=false) (_:H D=none) (_:True) (_:HOk P w H h):aG' P w (upd H D (.dK a)) h D (.dK a):=by
 obtain⟨z,vs,es,ep,h1,h2,h3,h4,h5,h6⟩:=i
 exact⟨z,sy,vs,h1,o,es,ep,e,h2,h3,h4,h5,h6⟩
section
variable {X:Cx}
def js' (tk tv:TE):TL (List (Key×V)):=fun σ a H N=>tk σ H fun y H1=>tv σ H1 fun v H2=>∃k,y=kV k/\a.length<sizeLine/\N (gW' a k v) H2
theorem mg' {D:Addr} {ke ve:Expr} {tk tv:TE} (hxe:X.xe=fun _ _=>False) (hk:PE X ke tk) (hv:PE X ve tv):cV' X D (wq' X.prog X.w) [] (do
   let kv <- eval ke X.env
   let vv <- holding [kv] (eval ve X.env)
   match Value.ref D with
   | .ref d=>do
    standAt { ke.pos with endLine:=ve.pos.endLine,endCol:=ve.pos.endCol }
    holding [kv,vv] (dictSet d kv vv)
   |_=>unsupported "internal:dictcomp") (js' tk tv):=by
 intro pins s σ H a o N I hD ho hi hq
 have pinD:∀{s1:Shared} {pins1:List (Addr×Obj)} {H1:Hp},Inv X pins1 σ H1 s1->ef' X pins1 H1 D->s1.heap.get? D=some o->Inv X (pins1++cv' [D] s1.heap) σ H1 s1:=fun J f e=>J.pinned (fun b hb=>by
  have z:b=D:=by simpa using hb
  subst z
  exact f) (fun b hb=>by
  have z:b=D:=by simpa using hb
  subst z
  exact⟨o,e,hH' _ _ hi⟩)
 have h1:=hk _ s σ H _ (pinD I hD ho) hq
 rw[hxe]at h1
 refine ab (thn h1 fun u s1 ⟨y,H1,J1,r1,hq1⟩=>?_)
 have q1:=J1.pin (D,o) (al _ (al _ (aN' (by simp) ho)))
 have h2:=hv _ s1 σ H1 _ J1 hq1
 rw[hxe]at h2
 refine ab (br (thn h2 fun u2 s2 ⟨v,H2,J2,r2,k,ek,z2,n2⟩=>?_))
 subst ek
 have q2:=J2.pin (D,o) (al _ (al _ (aN' (by simp) ho)))
 obtain⟨z,vs,es,ep,g1,g2,g3,g4,g5,g6⟩:=hi
 have dd:s2.heap.DictOf (az' X.prog X.w) D vs:=⟨o,es,ep,q2.1,g2,g3,g4,g5,g6⟩
 refine ab (ck (br (wpAny_dictSet_pairs (hsz:=by rw[<- g1.length];exact z) (kh' r1) dd fun h' dd' hs=>?_)))
 obtain⟨_,f1,f2,f3,f4,f5⟩:=hD
 obtain⟨o',es',ep',d1,d2,d3,d4,d5,d6⟩:=dd'
 have J3:Inv X pins σ H2 { s2 with heap:=h',toks:=s2.toks+1 }:=J2.unpinned.turned (it:=D) (t':=s2.toks+1) (fun b o hb e=>(hs.2 b hb).trans e) q2.2.1 f1 f3 f4 f5
 exact⟨σ,_,o',H2,J3,Ext.refl,d1,⟨aq (d0' a k v) z2,_,es',ep',g1.put k r2,d2,d3,d4,d5,d6⟩,q2.2.1,n2⟩
end
abbrev KTL:=List (List Key×Addr×V)
def wu' (P:Program) (w:World) (a:KTL) (o:Obj):Prop:=a.length<=sizeLine/\∃(xs:List (List Key×Addr×Value)) (es:Array DictEntry) (ep:Nat),Paired (fun(p:List Key×Addr×V) (q:List Key×Addr×Value)=>p.1=q.1/\p.2.1=q.2.1/\aD' p.2.2 q.2.2) a xs/\o.ExactDict/\o.data=.dict es ep/\es.toList=xs.map (entryOfKey (tupleKind (az' P w)))/\(xs.map (·.1)).Nodup
theorem hJ' {P:Program} {w:World} (a:KTL) (o:Obj) (h:wu' P w a o) (v:Option Value):o.data≠.cell v:=by
 obtain⟨_,_,es,ep,_,_,hd,_⟩:=h
 rw[hd]
 exact fun z=>nomatch z
theorem mh' {P:Program} {w:World} (_led:Bool):wu' P w [] { cls:=.type "dict",dict:=none,data:=.dict #[] }:=
 ⟨aK _,[],#[],0,.nil,⟨rfl,rfl,rfl⟩,rfl,rfl,cS⟩
def okT (a:KTL) (H:Hp):Prop:=∀x∈a,H x.2.1=some (.tup (x.1.map kV))
def plT (a:KTL):List (List Key×V):=a.map fun x=>(x.1,x.2.2)
theorem f8' {H:Hp}:∀{a:KTL} {xs:List (List Key×Addr×Value)},Paired (fun(p:List Key×Addr×V) (q:List Key×Addr×Value)=>p.1=q.1/\p.2.1=q.2.1/\aD' p.2.2 q.2.2) a xs->okT a H->Paired (fun(p:List Key×V) (q:List Key×Addr×Value)=>p.1=q.1/\H q.2.1=some (.tup (p.1.map kV))/\aD' p.2 q.2.2) (plT a) xs
 |_,_,.nil,_=>.nil
 |_,_,.cons h r,ok=>.cons ⟨h.1,by rw[<- h.2.1];exact ok _ aJ,h.2.2⟩ (f8' r fun x hx=>ok x (aF _ hx))
theorem wv' {P:Program} {w:World} (a:KTL) (o:Obj) (D:Addr) (H:Hp) (h:Heap) (i:wu' P w a o) (e:h.get? D=some o) (sy:(D == sysModules)=false) (hD:H D=none) (ok:okT a H) (_:HOk P w H h):aG' P w (upd H D (.dT (plT a))) h D (.dT (plT a)):=by
 obtain⟨z,xs,es,ep,h1,h2,h3,h4,h5⟩:=i
 refine⟨by unfold plT;rw[ac];exact z,sy,xs,f8' h1 fun x hx=>?_,o,es,ep,e,h2,h3,h4,h5⟩
 rw[af' (ah' (ok x hx) hD)]
 exact ok x hx
section
variable {X:Cx}
def jt' (tk tv:TE):TL KTL:=fun σ a H N=>tk σ H fun y H1=>tv σ H1 fun v H2=>∃(k:List Key) (b:Addr),y=.ref b/\H2 b=some (.tup (k.map kV))/\okT a H2/\(∀x∈a,x.1≠k)/\a.length<sizeLine/\N (a++[(k,b,v)]) H2
theorem mi' {D:Addr} {ke ve:Expr} {tk tv:TE} (hu:X.A.units+1<cLine) (hxe:X.xe=fun _ _=>False) (hk:PE X ke tk) (hv:PE X ve tv):cV' X D (wu' X.prog X.w) [] (do
   let kv <- eval ke X.env
   let vv <- holding [kv] (eval ve X.env)
   match Value.ref D with
   | .ref d=>do
    standAt { ke.pos with endLine:=ve.pos.endLine,endCol:=ve.pos.endCol }
    holding [kv,vv] (dictSet d kv vv)
   |_=>unsupported "internal:dictcomp") (jt' tk tv):=by
 intro pins s σ H a o N I hD ho hi hq
 have pinD:∀{s1:Shared} {pins1:List (Addr×Obj)} {H1:Hp},Inv X pins1 σ H1 s1->ef' X pins1 H1 D->s1.heap.get? D=some o->Inv X (pins1++cv' [D] s1.heap) σ H1 s1:=fun J f e=>J.pinned (fun b hb=>by
  have z:b=D:=by simpa using hb
  subst z
  exact f) (fun b hb=>by
  have z:b=D:=by simpa using hb
  subst z
  exact⟨o,e,hJ' _ _ hi⟩)
 have h1:=hk _ s σ H _ (pinD I hD ho) hq
 rw[hxe]at h1
 refine ab (thn h1 fun u s1 ⟨y,H1,J1,r1,hq1⟩=>?_)
 have h2:=hv _ s1 σ H1 _ J1 hq1
 rw[hxe]at h2
 refine ab (br (thn h2 fun u2 s2 ⟨v,H2,J2,r2,k,b,ek,eb,ok,nw,z2,n2⟩=>?_))
 subst ek
 cases(show u=Value.ref b from r1)
 have q2:=J2.pin (D,o) (al _ (al _ (aN' (by simp) ho)))
 obtain⟨z,xs,es,ep,g1,g2,g3,g4,g5⟩:=hi
 have hxl:=Paired.length g1
 have dd:s2.heap.DictOfH (tupleKind (az' X.prog X.w)) D xs:=⟨o,es,ep,q2.1,g2,g3,g4,fun x hx=>by
  obtain⟨p,hp,e1,e2,_⟩:=cy' g1 hx
  rw[<- e1,<- e2]
  exact fB' J2.hok (ok p hp),g5⟩
 refine ab (ck (br (wpAny_dictSet_heap (hsz:=by rw[<- hxl];exact z) (show X.A.units<cLine from Nat.lt_of_succ_lt hu) (fB' J2.hok eb) dd fun h' dd' hs=>?_)))
 obtain⟨_,f1,f2,f3,f4,f5⟩:=hD
 have hnew:∀x∈xs,x.1≠k:=fun x hx e=>by
  obtain⟨p,hp,e1,_⟩:=cy' g1 hx
  exact nw p hp (e1.trans e)
 rw[storedH_new (by unfold atKey;rw[List.find?_eq_none.mpr (fun x hx=>by simpa using hnew x hx)];rfl)]at dd'
 obtain⟨o',es',ep',d1,d2,d3,d4,d5,d6⟩:=dd'
 have J3:Inv X pins σ H2 { s2 with heap:=h',toks:=s2.toks+(tupleKind (az' X.prog X.w)).draws k }:=J2.unpinned.turned (it:=D) (t':=s2.toks+(tupleKind (az' X.prog X.w)).draws k) (fun b o hb e=>(hs.2 b hb).trans e) q2.2.1 f1 f3 f4 f5
 exact⟨σ,_,o',H2,J3,Ext.refl,d1,⟨by rw[au];exact z2,_,es',ep',Paired.snoc g1 ⟨rfl,rfl,r2⟩,d2,d3,d4,d6⟩,q2.2.1,n2⟩
end
def AL' (neg:Bool) (ty td:TE):TE:=fun σ H Q=>ty σ H fun y H1=>td σ H1 fun x H2=>(∃a o,x=.ref a/\f5' H2 a y o/\Q (.bl (if neg then !o.isSome else o.isSome)) H2)\/z0' neg y x H2 Q
def mj' (td ty:TE):TE:=fun σ H Q=>td σ H fun x H1=>∃a,x=.ref a/\IsD H1 a/\ty σ H1 fun y H2=>(∃o,f5' H2 a y o/\Q (o.getD .non) H2)\/(y=.non/\NoN H2 a/\Q .non H2)
section
variable {X:Cx} {o e f i:Expr} {apos cpos:Pos} {td ty tx:TE}
theorem qS' (hu:X.A.units+1<cLine) (hi:PE X i ty) (ho:PE X o td):PC X .In i o (AL' false ty td):=by
 intro pins s σ H Q I h
 refine thn (hi pins s σ H _ I h) fun iv s1 ⟨y,H1,I1,ry,q1⟩=>thn (ho pins s1 σ H1 _ I1 q1) fun u s2 ⟨x,H2,I2,rx,q2⟩=>?_
 rcases q2 with⟨a,ov,ex,g,q2⟩|q2
 .subst ex
  obtain rfl:u=Value.ref a:=rx
  exact Dr' hu I2 g ry fun s3 I3=>⟨.bl ov.isSome,H2,I3,rfl,q2⟩
 .exact wo' pins s2 σ H2 y x iv u Q I2 ry rx q2
theorem hK' (hu:X.A.units+1<cLine) (hi:PE X i ty) (ho:PE X o td):PC X .NotIn i o (AL' true ty td):=by
 intro pins s σ H Q I h
 refine thn (hi pins s σ H _ I h) fun iv s1 ⟨y,H1,I1,ry,q1⟩=>thn (ho pins s1 σ H1 _ I1 q1) fun u s2 ⟨x,H2,I2,rx,q2⟩=>?_
 rcases q2 with⟨a,ov,ex,g,q2⟩|q2
 .subst ex
  obtain rfl:u=Value.ref a:=rx
  exact sA' hu I2 g ry fun s3 I3=>⟨.bl (!ov.isSome),H2,I3,rfl,q2⟩
 .exact mb' pins s2 σ H2 y x iv u Q I2 ry rx q2
theorem oX' (hu:X.A.units+1<cLine) (ho:PE X o td) (he:PE X e ty) (m:M1 X o "get" apos e cpos):PE X (.Call (.Attribute o "get" apos) [e] [] cpos) (mj' td ty):=by
 intro pins s σ H Q I h
 refine wpAny_Call_method m.base m.few m.line PySem.F.plainAttrs_dict PySem.F.slot_dict_get PySem.F.type_dict_get (thn (ho pins s σ H _ I h) fun u s1 ⟨x,H1,I1,rx,a,ex,d,q1⟩=>?_)
 subst ex
 obtain rfl:u=Value.ref a:=rx
 obtain⟨t1,t2,_⟩:=v4' I1 d
 refine⟨t1,t2,?_⟩
 rw[m.trees]
 refine Calls.callWith_builtin rfl (Calls.evalArgs_plain (Calls.spliced_cons (thn (he pins s1 σ H1 _ I1 q1) fun iv s2 ⟨y,H2,I2,ry,q2⟩=>Calls.spliced_nil ?_)))
 rcases q2 with⟨ov,g,q2⟩|⟨ey,g,q2⟩
 .exact v5' hu I2 g ry fun w' s3 I3 rw'=>⟨_,H2,I3,rw',q2⟩
 .subst ey
  obtain rfl:iv=Value.none:=ry
  exact wp' I2 g fun s3 I3=>⟨.non,H2,I3,rfl,q2⟩
end
abbrev ww' (own:List Nat) (wi:TI) (g:TG) (tc:TT) (aH':TL ((Option Int->Bool)×Nat)):TE:=fC' own wi g tc aH' (fun _=>false,0) (fun p a=>f7' p a.1 a.2) fun _ _=>True
abbrev wx' (own:List Nat) (wi:TI) (g:TG) (tc:TT) (tk tv:TE):TE:=fC' own wi g tc (js' tk tv) [] (fun _ a=>.dK a) fun _ _=>True
abbrev wy' (own:List Nat) (wi:TI) (g:TG) (tc:TT) (tk tv:TE):TE:=fC' own wi g tc (jt' tk tv) [] (fun _ a=>.dT (plT a)) okT
section
variable {X:Cx} {e:Expr} {scope:Scope} {tg iter:Expr} {ifs:List Expr} {nx:Addr->Env->Sem Unit} {g:TG} {tc:TT} {own:List Nat} {wi:TI}
theorem sN' {P:Program} {w:World} (a:(Option Int->Bool)×Nat) (o:Obj) (D:Addr) (H:Hp) (h:Heap) (i:IsS a o) (e:h.get? D=some o) (_:(D == sysModules)=false) (_:H D=none) (_:True) (_:HOk P w H h):aG' P w (upd H D (f7' D a.1 a.2)) h D (f7' D a.1 a.2):=l9' e i
theorem sO' {α:Type} {Is:α->Obj->Prop} {aH':TL α} {a0:α} {o0:Bool->Obj} {newAcc:Sem Value} {ho:Addr->α->HO} {ok:α->Hp->Prop} {i:Nat} {y:Str} {py pos pos2:Pos}
  (hnew:∀(s:Shared) (Q:Value->Shared->Prop),(∀led,Q (.ref s.heap.objs.size) { s with heap:=s.heap.push (o0 led) })->wpAny (model X.prog X.w) X.A newAcc Q X.xe s) (hfr:∀led,(o0 led).isFreed=false) (ha0:∀led,Is a0 (o0 led)) (hda:∀(a:α) (o:Obj),Is a o->∀v:Option Value,o.data≠.cell v)
  (hfin:∀(a:α) (o:Obj) (D:Addr) (H:Hp) (h:Heap),Is a o->h.get? D=some o->(D == sysModules)=false->H D=none->ok a H->HOk X.prog X.w H h->aG' X.prog X.w (upd H D (ho D a)) h D (ho D a))
  (C:CompInG Is X e scope tg iter ifs nx g tc aH' own) (hi:PI X tg iter wi) (hN:X.N.Nodup) (hy:X.N[i]?=some y) (hx:Loc X.env.scope y) (hf:X.fn y=true\/X.env.scope.names.lookup y=some .local)
  (hG:PG X (.Name y py) (cR' i))
  (he:eval e X.env=comprehension e scope X.env pos2 newAcc false (eval iter X.env))
  (he2:evalThenUse e X.env (assign (.Name y py) X.env)=(do let _ <- comprehension e scope X.env pos2 newAcc false (eval iter X.env) (some (assign (.Name y py) X.env))))
  (hsw:∃b,swapsWith e (some (.Name y py)) pos.line X.env=pure b):PS X (.Assign [.Name y py] e pos) (jf' (fC' own wi g tc aH' a0 ho ok) (cR' i)):=by
 obtain⟨b,hb⟩:=hsw
 cases b with
 |true=>exact iF' hnew hfr ha0 hda hfin C hi hN hy hx hf he2 hb
 |false=>exact gX' (oV' hnew hfr ha0 hda hfin C hi he) hG hb rfl
end
end L2
namespace L2
open PySem PySem.Spec PyProof.Rows PySem.Ts
def Trk (H:Hp) (L:List (List Int×Addr)):Prop:=∀q∈L,H q.2=some (.tup (q.1.map V.int))
section
variable {X:Cx}
def CR' (a:List (List Int×Addr)) (k:List Int) (b:Addr):List (List Int×Addr):=if k∈a.map (·.1)then a else a++[(k,b)]
def wz' (te:TE):TL (List (List Int×Addr)):=fun σ a H N=>te σ H fun v H'=>∃(k:List Int) (b:Addr),v=.ref b/\H' b=some (.tup (k.map V.int))/\Trk H' a/\a.length<4000/\N (CR' a k b) H'
def kI (k:List Int):List Itm:=k.map Sum.inl
variable {e:Expr} {scope:Scope} {tg iter:Expr} {ifs:List Expr} {nx:Addr->Env->Sem Unit} {g:TG} {tc:TT} {aH':TL (List (List Int×Addr))} {own:List Nat} {wi:TI}
end
section
variable {X:Cx} {pos:Pos}
def wA' (K:W.Frag) (n:Nat) (t:TGs):TG:=fun v σ H Q=>∃a xs,v=.ref a/\(SqT K H a xs\/SqL K H a xs)/\xs.length=n/\t xs σ H Q
theorem qT' {es:List Expr} {k:Nat} {t:TGs} {n:Nat} (hc:X.calm=true) (h:PGs X es t)
  (hn:(assignEach es X.env).length=n:=by rfl) (hst:(assignEach es X.env).findIdx? (·.1)=none:=by rfl):PG X (.Tuple es k pos) (wA' X.K n t):=by
 intro pins s σ H v u Q I r hw
 obtain⟨a,xs,e1,hq,hl,hw⟩:=hw
 rcases hq with hq|hq
 .exact vl' hc h hn hst pins s σ H v u Q I r ⟨a,xs,e1,hq,hl,hw⟩
 .subst e1
  cases r
  obtain⟨its,rv,pl,hz⟩:=I.list hq
  rw[assign_Tuple]
  refine ab (ck ?_)
  unfold unpack
  rw[hn,hst]
  have e:n=its.toArray.size:=by simp[<- hl,rv.length]
  rw[e]
  refine ab (br (W.kun_itemsOf (I.ok.hd hc) pl.isList fun h' hx=>?_))
  have I1:Inv X pins σ H { s with heap:=h' }:=I.kept (t':=s.toks) fun b o e=>hx b o (aE (aw e)) e
  exact h pins _ σ H xs _ Q I1 (by simpa using rv) hw
end
end L2
namespace L2
open PySem PySem.Spec PyProof.Rows PySem.SeqAt
def Pw {α:Type} (R:V->α->Prop) (vs:List V) (as:List α):Prop:=vs.length=as.length/\∀(i:Nat) v a,vs[i]?=some v->as[i]?=some a->R v a
def LsR (H:Hp) {α:Type} (R:V->α->Prop) (v:V) (as:List α):Prop:=∃p vs,v=.ref p/\H p=some (.lst vs)/\Pw R vs as
def TpI (H:Hp) (v:V) (ns:List Int):Prop:=∃p,v=.ref p/\H p=some (.tup (ns.map V.int))
def u2' {α:Type} (R:V->α->Prop):Prop:=∀x a b,R x a->R x b->a=b
theorem Pw.fun1 {α:Type} {R:V->α->Prop} (hR:u2' R) {vs:List V} {as bs:List α} (h1:Pw R vs as) (h2:Pw R vs bs):as=bs:=by
 apply bX
 intro i
 by_cases hi:i<vs.length
 .have g:=aa hi
  have g1:=aa (show i<as.length by rw[<- h1.1];exact hi)
  have g2:=aa (show i<bs.length by rw[<- h2.1];exact hi)
  rw[g1,g2,hR _ _ _ (h1.2 i _ _ g g1) (h2.2 i _ _ g g2)]
 .rw[bj (by rw[<- h1.1];omega),bj (by rw[<- h2.1];omega)]
theorem LsR.fun1 {H:Hp} {α:Type} {R:V->α->Prop} (hR:u2' R):u2' (LsR H R):=by
 rintro x a b ⟨p,vs,rfl,e,h⟩ ⟨q,ws,z,e',h'⟩
 cases z
 rw[e]at e'
 cases e'
 exact h.fun1 hR h'
theorem TpI.fun1 {H:Hp}:u2' (TpI H):=by
 rintro x a b ⟨p,rfl,e⟩ ⟨q,z,e'⟩
 cases z
 rw[e]at e'
 exact bE' (by injection e' with e';injection e' with e')
section
variable {X:Cx} {pins:List (Addr×Obj)} {σ:L2.St} {H:Hp} {s:Shared}
theorem wB' (I:Inv X pins σ H s) {A:Around} {v w:V} {u u':Value} {ns ms:List Int} (hu:A.units+1<cLine) (h1:TpI H v ns) (h2:TpI H w ms) (r1:aD' v u) (r2:aD' w u'):EqAt A s u u' (decide (ns=ms)):=by
 obtain⟨p,rfl,e1⟩:=h1
 obtain⟨q,rfl,e2⟩:=h2
 cases r1
 cases r2
 by_cases hpq:p=q
 .subst hpq
  rw[e1]at e2
  have:ns=ms:=bE' (by injection e2 with e2;injection e2 with e2)
  rw[decide_eq_true this]
  exact EqAt.same _
 obtain⟨its,v1,pl1,_⟩:=I.tuple (SqT.of e1)
 obtain⟨its2,v2,pl2,_⟩:=I.tuple (SqT.of e2)
 have l1:=v1.length
 have l2:=v2.length
 rw[ac]at l1 l2
 have:=RcAt.tuples (e:=fun j=>decide (ns[j]?=ms[j]?)) pl1 pl2 (A:=A) (by omega) (fun j h1 h2=>?_)
 .rw[ai,ai,<- l1,<- l2]at this
  have e:((ah (min ns.length ms.length)).all (fun j=>decide (ns[j]?=ms[j]?))&&ns.length == ms.length)=decide (ns=ms):=by
   by_cases hl:ns.length=ms.length
   .rw[show min ns.length ms.length=ns.length by omega,gx' hl,hl,BEq.rfl,Bool.and_true]
   .rw[decide_eq_false (fun z=>hl (by rw[z])),beq_eq_false_iff_ne.mpr hl,Bool.and_false]
  rw[e]at this
  exact EqAt.of_refs hpq this
 .have j1:j<ns.length:=by simp at h1;omega
  have j2:j<ms.length:=by simp at h2;omega
  obtain⟨u1,f1,ru1⟩:=v1.get (i:=j) (by rw[ao,aa j1];rfl)
  obtain⟨u2,f2,ru2⟩:=v2.get (i:=j) (by rw[ao,aa j2];rfl)
  rw[dr' f1 h1,dr' f2 h2]
  have:=eI' (A:=A.in1) (s:=s) ru1 ru2 (.inl ⟨rfl,fun b z=>by cases z⟩)
  rw[show decide (V.int ns[j]=V.int ms[j])=decide (ns[j]?=ms[j]?) by
   rw[aa j1,aa j2]
   simp]at this
  exact this
theorem wC' (I:Inv X pins σ H s) {A:Around} {α:Type} [DecidableEq α] {R:V->α->Prop} (hR:u2' R) {v w:V} {u u':Value} {as bs:List α} (hu:A.units+1<cLine)
  (ih:∀x y a b u u',R x a->R y b->aD' x u->aD' y u'->EqAt A.in1 s u u' (decide (a=b))) (h1:LsR H R v as) (h2:LsR H R w bs) (r1:aD' v u) (r2:aD' w u'):EqAt A s u u' (decide (as=bs)):=by
 obtain⟨p,vs,rfl,e1,g1⟩:=h1
 obtain⟨q,ws,rfl,e2,g2⟩:=h2
 cases r1
 cases r2
 by_cases hpq:p=q
 .subst hpq
  rw[e1]at e2
  cases e2
  rw[decide_eq_true (g1.fun1 hR g2)]
  exact EqAt.same _
 obtain⟨its,v1,pl1,_⟩:=I.list (SqL.of e1)
 obtain⟨its2,v2,pl2,_⟩:=I.list (SqL.of e2)
 have l1:=v1.length
 have l2:=v2.length
 have k1:=g1.1
 have k2:=g2.1
 by_cases hl:as.length=bs.length
 .have:=RcAt.lists (e:=fun j=>decide (as[j]?=bs[j]?)) pl1.isList pl2.isList (by simp;omega) (by omega) (A:=A) (fun j h1 h2=>?_)
  .rw[ai,<- l1,k1,gx' hl]at this
   exact EqAt.of_refs hpq this
  .have j1:j<as.length:=by simp at h1;omega
   have j2:j<bs.length:=by omega
   obtain⟨u1,f1,ru1⟩:=v1.get (i:=j) (aa (show j<vs.length by omega))
   obtain⟨u2,f2,ru2⟩:=v2.get (i:=j) (aa (show j<ws.length by omega))
   rw[dr' f1 h1,dr' f2 h2]
   have:=ih _ _ _ _ _ _ (g1.2 j _ _ (aa (by omega)) (aa j1)) (g2.2 j _ _ (aa (by omega)) (aa j2)) ru1 ru2
   rw[show decide (as[j]=bs[j])=decide (as[j]?=bs[j]?) by
    rw[aa j1,aa j2]
    simp]at this
   exact this
 .rw[decide_eq_false (fun z=>hl (by rw[z]))]
  exact EqAt.of_refs hpq (RcAt.lists_lengths pl1.isList pl2.isList (by simp;omega) (by omega))
def CS':R2:=fun x y H Q=>∃(k:List (List Int)) (L:List (List (List Int))),LsR H (TpI H) x k/\LsR H (LsR H (TpI H)) y L/\Q (.bl (decide (k∈L))) H
open Classical in
theorem wD' (hu:X.A.units+64<cLine):OpR X (compareOp .In) CS':=by
 intro pins s σ H x y v u Q I rx ry h
 obtain⟨k,L,hx,⟨b,ws,rfl,eb,gb⟩,q⟩:=h
 cases ry
 obtain⟨its,v1,pl1,_⟩:=I.list (SqL.of eb)
 have l1:=v1.length
 have hlb:=gb.1
 have fn:u2' (LsR H (TpI H)):=LsR.fun1 TpI.fun1
 have eqs:∀x y a b u u',LsR H (TpI H) x a->LsR H (TpI H) y b->aD' x u->aD' y u'->EqAt X.A.in1 s u u' (decide (a=b)):=fun x y a b u u' h1 h2 r1 r2=>
  wC' I TpI.fun1 (show X.A.units+1+1<cLine by omega) (fun x y a b u u' h1 h2 r1 r2=>wB' I (A:=X.A.in1.in1) (show X.A.units+1+1+1<cLine by omega) h1 h2 r1 r2) h1 h2 r1 r2
 refine in_listAt (fun u=>decide (∃x,aD' x u/\LsR H (TpI H) x k)) pl1.isList (fun w hw=>?_) ?_
 .obtain⟨i,hi⟩:=bn (show w∈its by simpa using hw)
  have hi':i<its.length:=(aI.mp hi).1
  obtain⟨u1,f1,ru1⟩:=v1.get (aa (show i<ws.length by omega))
  rw[hi]at f1
  cases f1
  have g:=gb.2 i _ _ (aa (by omega)) (aa (show i<L.length by omega))
  have:=eqs _ _ _ _ _ _ g hx ru1 rx
  have e:decide (L[i]=k)=decide (∃x,aD' x w/\LsR H (TpI H) x k):=by
   apply decide_eq_decide.mpr
   constructor
   .intro z;exact⟨_,ru1,z ▸ g⟩
   .rintro⟨x',rx',hx'⟩
    obtain⟨p,vs,ep,e1,g1⟩:=g
    obtain⟨p',vs',rfl,e1',g1'⟩:=hx'
    rw[ep]at ru1
    cases ru1
    cases rx'
    rw[e1]at e1'
    cases e1'
    exact g1.fun1 TpI.fun1 g1'
  rw[e]at this
  exact this
 .have e:(its.toArray.any fun u=>decide (∃x,aD' x u/\LsR H (TpI H) x k))=decide (k∈L):=by
   rw[cr,List.any_toArray,bU]
   constructor
   .rintro⟨w,hw,hd⟩
    obtain⟨x',rx',hx'⟩:=of_decide_eq_true hd
    obtain⟨i,hi⟩:=bn hw
    have hi':i<its.length:=(aI.mp hi).1
    obtain⟨u1,f1,ru1⟩:=v1.get (aa (show i<ws.length by omega))
    rw[hi]at f1
    cases f1
    obtain⟨p,vs,ep,e1,g1⟩:=gb.2 i _ _ (aa (by omega)) (aa (show i<L.length by omega))
    obtain⟨p',vs',rfl,e1',g1'⟩:=hx'
    rw[ep]at ru1
    cases ru1
    cases rx'
    rw[e1]at e1'
    cases e1'
    rw[<- g1.fun1 TpI.fun1 g1']
    exact decide_eq_true (cI _)
   .intro z
    obtain⟨i,hi⟩:=bn (of_decide_eq_true z)
    have hi':i<L.length:=(aI.mp hi).1
    obtain⟨u1,f1,ru1⟩:=v1.get (aa (show i<ws.length by omega))
    exact⟨_,aD f1,decide_eq_true ⟨_,ru1,gb.2 i _ _ (aa (by omega)) hi⟩⟩
  rw[e]
  exact⟨.bl _,H,I,rfl,q⟩
end
section
variable {X:Cx} {e st:Expr} {te:TE} {ts:TO} {p2 pos:Pos}
def CT' {α:Type} (xs:List α) (n:Nat):List α:=(ah ((xs.length+n-1) / n)).filterMap fun k=>xs[k*n]?
theorem aK'.pick {xs:List V} {its:List Value} (r:aK' xs its) (f:Nat->Nat):∀l:List Nat,aK' (l.filterMap fun k=>xs[f k]?) (l.filterMap fun k=>its[f k]?)
 | []=>.nil
 |k :: l=>by
  rw[bH,bH]
  have hl:=r.length
  cases hx:xs[f k]? with
  |none=>
   have:its[f k]?=none:=by
    rw[bq]at hx ⊢
    omega
   rw[this]
   exact aK'.pick r f l
  |some x=>
   obtain⟨u,hu,ru⟩:=r.get hx
   rw[hu]
   exact .cons ru (aK'.pick r f l)
end
section
variable {prog:Program} {w:World} {A:Around} {E:Value->Shared->Prop} {s:Shared}
theorem eJ' {M:Model} {a:Addr} {Q:Option Obj->Shared->Prop} (h:Q (s.heap.get? a) s):wpAny M A (loadIfAlive a) Q E s:=fun Γ p _=>by
 show Sem.wp M Γ (Sem.loadIfAlive a Sem.pure) _ _ p s
 rw[Sem.wp_loadIfAlive]
 exact h
def sP' (h:Heap) (z TI TO:Addr) (f0 f1:Value):Prop:=h.get? z=some { cls:=.type "zip",data:=.fields #[f0,f1,.bool false,.ref TI,.ref TO] }
theorem ju' {b1:Bool} {z TI TO T:Addr} {oT:Obj} {Q:Bool->Shared->Prop} (hz:sP' s.heap z TI TO (rawInt T) (.bool b1)) (hT:s.heap.get? T=some oT)
  (hQ:∀h',sP' h' z TI TO (rawInt T) (.bool true)->cD z s.heap h'->Q false { s with heap:=h' }):wpAny (model prog w) A (Builtin.SmallTypes.ownedTupleIsFree (.ref z)) Q E s:=by
 unfold Builtin.SmallTypes.ownedTupleIsFree
 refine ab (bu hz rfl (x:=rawInt T) rfl ?_)
 have eT:((T:Int)).toNat=T:=bb T
 simp only[rawInt]
 rw[eT]
 refine ab (eJ' ?_)
 rw[hT]
 simp only[Option.isNone_some,ce,if_false]
 refine ab (bu hz rfl (x:=.bool b1) rfl ?_)
 cases b1 with
 |true=>
  rw[if_neg (by decide)]
  exact av (hQ s.heap hz ⟨rfl,fun _ _=>rfl⟩)
 |false=>
  rw[if_pos (by decide)]
  refine ab (cw hz (by simp) fun h' hz' hs'=>av (hQ h' hz' hs'))
theorem ml' {k j b1:Bool} {z TI TO i1 i2 l1 l2 T:Addr} {k1 k2:Nat} {xs ys:Array Value} {x y:Value} {oT:Obj} {Q:Option Value->Shared->Prop} (D:ZipApart z TI TO i1 i2 l1 l2)
  (hz:sP' s.heap z TI TO (rawInt T) (.bool b1)) (hT:s.heap.get? T=some oT) (hTI:IsPair s.heap TI (.ref i1) (.ref i2))
  (h1:dt' k s.heap i1 l1 k1) (h2:dt' j s.heap i2 l2 k2) (hl1:e4' k s.heap l1 xs) (hl2:e4' j s.heap l2 ys) (hx:xs[k1]?=some x) (hy:ys[k2]?=some y)
  (hQ:∀h',sP' h' z TI TO (rawInt T) (.bool true)->dt' k h' i1 l1 (k1+1)->dt' j h' i2 l2 (k2+1)->IsPair h' s.heap.objs.size x y->h'.objs.size=s.heap.objs.size+1->
   (∀c o,c≠z->c≠i1->c≠i2->s.heap.get? c=some o->h'.get? c=some o)->Q (some (.ref s.heap.objs.size)) { s with heap:=h' }):
  wpAny (model prog w) A (pyNext (.ref z)) Q E s:=by
 have hTz:s.TypeIs (.ref z) "zip":=⟨_,hz,rfl⟩
 unfold pyNext
 refine ab (wpAny_attempt (bD (name:=Str.ofString "__next__") hTz F.slot_zip_next
  (cg F.slot_zip_next hTz F.entry_zip_next ?_ (F.args_zip_next_1 _))))
 show wpAny _ _ (field (.ref z) 2 >>= _) _ _ _
 refine ab (bu hz rfl (x:=.bool false) rfl ?_)
 show wpAny _ _ (field (.ref z) 3 >>= _) _ _ _
 refine ab (bu hz rfl (x:=.ref TI) rfl ?_)
 refine ab (bZ hTI rfl ?_)
 show wpAny _ _ (Builtin.SmallTypes.ownedTupleIsFree (.ref z) >>= _) _ _ _
 refine ab (ju' hz hT fun h₁ hz₁ hs₁=>?_)
 simp only[ce,if_false]
 rw[<- Array.forIn_toList]
 simp only[List.forIn_cons,List.forIn_nil]
 have hTI₁:IsPair h₁ TI (.ref i1) (.ref i2):=hs₁.extBut _ _ D.TIz hTI
 refine ab (ab (ab (br ?_)))
 show wpAny _ _ (Builtin.SmallTypes.nextOf (.ref i1) >>= _) _ _ _
 refine ab (bD' (s:={ s with heap:=h₁ }) (h1.at fun o e=>hs₁.extBut _ _ D.i1z e) (hl1.at fun o e=>hs₁.extBut _ _ D.l1z e) hx fun h₂ h1₂ hs₂=>av ?_)
 refine av ?_
 dsimp only
 refine ab (ab (br ?_))
 show wpAny _ _ (Builtin.SmallTypes.nextOf (.ref i2) >>= _) _ _ _
 refine ab (bD' (s:={ s with heap:=h₂ }) (h2.at fun o e=>hs₂.extBut _ _ D.i12.symm (hs₁.extBut _ _ D.i2z e)) (hl2.at fun o e=>hs₂.extBut _ _ D.l2i1 (hs₁.extBut _ _ D.l2z e)) hy fun h₃ h2₃ hs₃=>av ?_)
 refine av ?_
 dsimp only
 refine av ?_
 dsimp only
 refine ab (wpAny_newTuple (hsz:=by show 2<=sizeLine;decide) ?_)
 have hsz:h₃.objs.size=s.heap.objs.size:=by rw[hs₃.1,hs₂.1,hs₁.1]
 refine av ⟨_,rfl,av ?_⟩
 show Q (some (.ref h₃.objs.size)) _
 rw[hsz]
 have up:∀c o,h₃.get? c=some o->(h₃.push { cls:=.type "tuple",data:=.seq #[x,y] }).get? c=some o:=fun c o e=>ag _ e
 refine hQ _ (up _ _ (hs₃.extBut _ _ D.i2z.symm (hs₂.extBut _ _ D.i1z.symm hz₁))) (h1₂.at fun o e=>up _ _ (hs₃.extBut _ _ D.i12 e)) (h2₃.at fun o e=>up _ _ e) ?_ (by rw[bA,hsz]) fun c o c1 c2 c3 e=>up _ _ (hs₃.extBut _ _ c3 (hs₂.extBut _ _ c2 (hs₁.extBut _ _ c1 e)))
 have:=aC h₃ (o:={ cls:=.type "tuple",data:=.seq #[x,y] }) rfl
 rw[hsz]at this
 exact this
theorem oY' {k j b1:Bool} {z TI TO i1 i2 l1 l2 T:Addr} {k1 k2:Nat} {xs ys:Array Value} {oT:Obj} {Q:Option Value->Shared->Prop} (hh:A.handled=none) (D:ZipApart z TI TO i1 i2 l1 l2)
  (hz:sP' s.heap z TI TO (rawInt T) (.bool b1)) (hT:s.heap.get? T=some oT) (hTI:IsPair s.heap TI (.ref i1) (.ref i2))
  (h1:dt' k s.heap i1 l1 k1) (h2:dt' j s.heap i2 l2 k2) (hl1:e4' k s.heap l1 xs) (hl2:e4' j s.heap l2 ys) (hend:xs[k1]?=none)
  (hQ:∀h',(∀c o,c≠z->c≠i1->c≠i2->s.heap.get? c=some o->h'.get? c=some o)->Q none { s with heap:=h' }):wpAny (model prog w) A (pyNext (.ref z)) Q E s:=by
 have hTz:s.TypeIs (.ref z) "zip":=⟨_,hz,rfl⟩
 unfold pyNext
 refine ab (wpAny_attempt (bD (name:=Str.ofString "__next__") hTz F.slot_zip_next
  (cg F.slot_zip_next hTz F.entry_zip_next ?_ (F.args_zip_next_1 _))))
 show wpAny _ _ (field (.ref z) 2 >>= _) _ _ _
 refine ab (bu hz rfl (x:=.bool false) rfl ?_)
 show wpAny _ _ (field (.ref z) 3 >>= _) _ _ _
 refine ab (bu hz rfl (x:=.ref TI) rfl ?_)
 refine ab (bZ hTI rfl ?_)
 show wpAny _ _ (Builtin.SmallTypes.ownedTupleIsFree (.ref z) >>= _) _ _ _
 refine ab (ju' hz hT fun h₁ hz₁ hs₁=>?_)
 simp only[ce,if_false]
 rw[<- Array.forIn_toList]
 simp only[List.forIn_cons,List.forIn_nil]
 refine ab (ab (ab (br ?_)))
 show wpAny _ _ (Builtin.SmallTypes.nextOf (.ref i1) >>= _) _ _ _
 refine ab (dG' (s:={ s with heap:=h₁ }) (by first|exact hh|rfl) (h1.at fun o e=>hs₁.extBut _ _ D.i1z e) (hl1.at fun o e=>hs₁.extBut _ _ D.l1z e) hend fun h₂ e hs₂ he=>?_)
 obtain⟨oe,hoe,hce⟩:=he
 refine ab (wpAny_isInstance (T:="StopIteration") (b:=true) ⟨oe,hoe,hce⟩ isSubtype_stop (av (hQ _ ?_)))
 exact fun c o c1 c2 c3 x=>hs₂ _ _ c2 (hs₁.extBut _ _ c1 x)
structure Zst (h0:Heap) (B:Nat) (k j:Bool) (z TI TO i1 i2 l1 l2 S:Addr) (xs ys:Array Value) (i:Nat) (h:Heap):Prop where
 zs:(i=0/\IsZip h z TI TO .none/\∃a b,IsPair h TO a b)\/(0<i/\∃b1,sP' h z TI TO (rawInt B) (.bool b1))
 ti:IsPair h TI (.ref i1) (.ref i2)
 h1:dt' k h i1 l1 i
 h2:dt' j h i2 l2 i
 o1:e4' k h l1 xs
 o2:e4' j h l2 ys
 sz:h.objs.size=B+i
 pr:∀m,m<i->∃x y,xs[m]?=some x/\ys[m]?=some y/\IsPair h (B+m) x y
 kp:∀c o,h0.get? c=some o->h.get? c=some o
structure Zap (h0:Heap) (B:Nat) (z TI TO i1 i2 l1 l2 S:Addr):Prop where
 D:ZipApart z TI TO i1 i2 l1 l2
 bz:z<B
 bTO:TO<B
 b1:i1<B
 b2:i2<B
 bS:S<B
 Sz:S≠z
 STI:S≠TI
 STO:S≠TO
 S1:S≠i1
 S2:S≠i2
 Sl1:S≠l1
 Sl2:S≠l2
 nz:h0.objs.size<=z
 nTO:h0.objs.size<=TO
 n1:h0.objs.size<=i1
 n2:h0.objs.size<=i2
 nS:h0.objs.size<=S
def kl' (B i:Nat):Array Value:=((ah i).map fun m=>Value.ref (B+m)).toArray
theorem mm' {B i:Nat}:(kl' B i).push (.ref (B+i))=kl' B (i+1):=by unfold kl';rw[bx,ax];simp
theorem Zst.drawn {h0:Heap} {B:Nat} {k j:Bool} {z TI TO i1 i2 l1 l2 S:Addr} {xs ys:Array Value} {i:Nat} {Q:Option Value->Shared->Prop} (P:Zap h0 B z TI TO i1 i2 l1 l2 S) (Z:Zst h0 B k j z TI TO i1 i2 l1 l2 S xs ys i s.heap) (hi:i<xs.size) (hij:i<ys.size)
  (hQ:∀h',Zst h0 B k j z TI TO i1 i2 l1 l2 S xs ys (i+1) h'->(∀o,s.heap.get? S=some o->h'.get? S=some o)->Q (some (.ref (B+i))) { s with heap:=h' }):wpAny (model prog w) A (pyNext (.ref z)) Q E s:=by
 obtain⟨zs,ti,h1,h2,o1,o2,sz,pr,kp⟩:=Z
 have hx:xs[i]?=some xs[i]:=aV hi
 have hy:ys[i]?=some ys[i]:=aV hij
 have fin:∀h' b1,sP' h' z TI TO (rawInt B) (.bool b1)->dt' k h' i1 l1 (i+1)->dt' j h' i2 l2 (i+1)->IsPair h' s.heap.objs.size xs[i] ys[i]->h'.objs.size=s.heap.objs.size+1->(∀c o,c≠z->c≠TO->c≠i1->c≠i2->s.heap.get? c=some o->h'.get? c=some o)->Q (some (.ref s.heap.objs.size)) { s with heap:=h' }:=by
  intro h' b1 q1 q2 q3 q4 q5 q6
  rw[sz]at q4 q5 ⊢
  refine hQ h' ⟨.inr ⟨by omega,b1,q1⟩,q6 _ _ P.D.TIz P.D.TITO P.D.TIi1 P.D.TIi2 ti,q2,q3,o1.at fun o e=>q6 _ _ P.D.l1z P.D.l1TO P.D.l1i1 P.D.l1i2 e,o2.at fun o e=>q6 _ _ P.D.l2z P.D.l2TO P.D.l2i1 P.D.l2i2 e,by rw[q5,Nat.add_assoc],fun m hm=>?_,fun c o e=>?_⟩ fun o e=>q6 _ _ P.Sz P.STO P.S1 P.S2 e
  .by_cases hmi:m=i
   .subst hmi
    exact⟨_,_,hx,hy,q4⟩
   .obtain⟨x,y,e1,e2,e3⟩:=pr m (by omega)
    exact⟨x,y,e1,e2,q6 _ _ (bF (aj P.bz (aO _ _))) (bF (aj P.bTO (aO _ _))) (bF (aj P.b1 (aO _ _))) (bF (aj P.b2 (aO _ _))) e3⟩
  .have hc:=aw e
   exact q6 _ _ (aE (aj hc P.nz)) (aE (aj hc P.nTO)) (aE (aj hc P.n1)) (aE (aj hc P.n2)) (kp _ _ e)
 rcases zs with⟨e0,hz,a,b,hTO⟩|⟨e0,b1,hz⟩
 .refine jl' P.D hz ti hTO h1 h2 o1 o2 hx hy fun h' q1 _ q2 q3 q4 q5 q6=>fin h' false ?_ q2 q3 q4 q5 q6
  rw[show B=s.heap.objs.size by omega]
  exact q1
 .obtain⟨x0,y0,_,_,hT⟩:=pr 0 e0
  exact ml' P.D hz hT ti h1 h2 o1 o2 hx hy fun h' q1 q2 q3 q4 q5 q6=>fin h' true q1 q2 q3 q4 q5 fun c o c1 _ c3 c4 e=>q6 c o c1 c3 c4 e
theorem Zst.over {h0:Heap} {B:Nat} {k j:Bool} {z TI TO i1 i2 l1 l2 S:Addr} {xs ys:Array Value} {i:Nat} {Q:Option Value->Shared->Prop} (hh:A.handled=none) (P:Zap h0 B z TI TO i1 i2 l1 l2 S) (Z:Zst h0 B k j z TI TO i1 i2 l1 l2 S xs ys i s.heap) (hi:xs.size=i)
  (hQ:∀h',(∀m,m<i->∃x y,xs[m]?=some x/\ys[m]?=some y/\IsPair h' (B+m) x y)->(∀c o,h0.get? c=some o->h'.get? c=some o)->(∀o,s.heap.get? S=some o->h'.get? S=some o)->Q none { s with heap:=h' }):wpAny (model prog w) A (pyNext (.ref z)) Q E s:=by
 obtain⟨zs,ti,h1,h2,o1,o2,sz,pr,kp⟩:=Z
 have hx:xs[i]?=none:=by rw[Array.getElem?_eq_none_iff];omega
 have fin:∀h',(∀c o,c≠z->c≠TO->c≠i1->c≠i2->s.heap.get? c=some o->h'.get? c=some o)->Q none { s with heap:=h' }:=by
  intro h' q6
  refine hQ h' (fun m hm=>?_) (fun c o e=>?_) fun o e=>q6 _ _ P.Sz P.STO P.S1 P.S2 e
  .obtain⟨x,y,e1,e2,e3⟩:=pr m hm
   exact⟨x,y,e1,e2,q6 _ _ (bF (aj P.bz (aO _ _))) (bF (aj P.bTO (aO _ _))) (bF (aj P.b1 (aO _ _))) (bF (aj P.b2 (aO _ _))) e3⟩
  .have hc:=aw e
   exact q6 _ _ (aE (aj hc P.nz)) (aE (aj hc P.nTO)) (aE (aj hc P.n1)) (aE (aj hc P.n2)) (kp _ _ e)
 rcases zs with⟨e0,hz,a,b,hTO⟩|⟨e0,b1,hz⟩
 .exact lw' hh P.D hz ti hTO h1 h2 o1 o2 (.inl hx) fun h' q=>fin h' q
 .obtain⟨x0,y0,_,_,hT⟩:=pr 0 e0
  exact oY' hh P.D hz hT ti h1 h2 o1 o2 hx fun h' q=>fin h' fun c o c1 _ c3 c4 e=>q c o c1 c3 c4 e
theorem Zst.keepS {h0:Heap} {B:Nat} {k j:Bool} {z TI TO i1 i2 l1 l2 S:Addr} {xs ys:Array Value} {i:Nat} {h h':Heap} (P:Zap h0 B z TI TO i1 i2 l1 l2 S) (Z:Zst h0 B k j z TI TO i1 i2 l1 l2 S xs ys i h) (hs:cD S h h'):Zst h0 B k j z TI TO i1 i2 l1 l2 S xs ys i h':=by
 obtain⟨zs,ti,h1,h2,o1,o2,sz,pr,kp⟩:=Z
 have q:∀c o,c≠S->h.get? c=some o->h'.get? c=some o:=fun c o hc e=>(hs.2 c hc).trans e
 refine⟨?_,q _ _ P.STI.symm ti,h1.at fun o e=>q _ _ P.S1.symm e,h2.at fun o e=>q _ _ P.S2.symm e,o1.at fun o e=>q _ _ P.Sl1.symm e,o2.at fun o e=>q _ _ P.Sl2.symm e,by rw[hs.1];exact sz,fun m hm=>?_,fun c o e=>?_⟩
 .rcases zs with⟨e0,hz,a,b,hTO⟩|⟨e0,b1,hz⟩
  .exact .inl ⟨e0,q _ _ P.Sz.symm hz,a,b,q _ _ P.STO.symm hTO⟩
  .exact .inr ⟨e0,b1,q _ _ P.Sz.symm hz⟩
 .obtain⟨x,y,e1,e2,e3⟩:=pr m hm
  exact⟨x,y,e1,e2,q _ _ (bF (aj P.bS (aO _ _))) e3⟩
 .exact q _ _ (aE (aj (aw e) P.nS)) (kp _ _ e)
theorem oZ' {R:Result->Shared->Prop} {h0:Heap} {B:Nat} {k j:Bool} {z TI TO i1 i2 l1 l2 S:Addr} {xs ys:Array Value} {n:Nat} {res:Value} (hh:A.in1.handled=none) (P:Zap h0 B z TI TO i1 i2 l1 l2 S) (hxs:xs.size=n) (hys:ys.size=n) (hn:n<=sizeLine):
  ∀(m i:Nat) (s:Shared) (c:Nat),n-i=m->i<=n->Zst h0 B k j z TI TO i1 i2 l1 l2 S xs ys i s.heap->s.heap.get? S=some { cls:=.type "list",dict:=none,data:=.seq (kl' B i) c,slots:=#[] }->
   (∀h' c',(∀m,m<n->∃x y,xs[m]?=some x/\ys[m]?=some y/\IsPair h' (B+m) x y)->(∀c o,h0.get? c=some o->h'.get? c=some o)->h'.get? S=some { cls:=.type "list",dict:=none,data:=.seq (kl' B n) c',slots:=#[] }->R (.ok (.ret res)) { s with heap:=h' })->
   codeAny (model prog w) A (.builtin "list.extend.loop" ⟨[.ref S,.ref z,res],[]⟩) R s:=by
 intro m
 induction m with
 |zero=>
  intro i s c hk hi Z hS hR
  have hin:i=n:=by omega
  subst hin
  refine codeAny_builtin PySem.F.entry_extend_loop ?_
  rw[Around.under_plainId PySem.F.plain_extend_loop _]
  show wpAny _ A.in1 (pyNext (.ref z) >>= _) _ _ s
  refine ab (Z.over hh P hxs fun h' q1 q2 q3=>?_)
  exact av (hR h' c q1 q2 (q3 _ hS))
 |succ m ih=>
  intro i s c hk hi Z hS hR
  refine codeAny_builtin PySem.F.entry_extend_loop ?_
  rw[Around.under_plainId PySem.F.plain_extend_loop _]
  show wpAny _ A.in1 (pyNext (.ref z) >>= _) _ _ s
  refine ab (Z.drawn P (by omega) (by omega) fun h' Z' q3=>?_)
  have hS':=q3 _ hS
  have hasz:(kl' B i).size=i:=by unfold kl';simp
  show wpAny _ A.in1 (updateSeq S (·.push (.ref (B+i))) >>= _) _ _ _
  have hS2:=cv (Obj.mapSeq (·.push (Value.ref (B+i)))) hS' rfl
  obtain⟨c',hS3⟩:∃c',(h'.update S (Obj.mapSeq (·.push (Value.ref (B+i))))).get? S=some { cls:=.type "list",dict:=none,data:=.seq (kl' B (i+1)) c',slots:=#[] }:=⟨_,by rw[<- mm'];exact hS2⟩
  refine ab (wpAny_updateSeq (s:={ s with heap:=h' }) hS' rfl (av ⟨plainId_quiet PySem.F.plain_extend_loop _,ih (i+1) _ c' (by omega) (by omega) (Z'.keepS P (Heap.SameBut.update ..)) hS3 fun h'' c'' q1 q2 q3=>hR h'' c'' q1 q2 q3⟩) (by rw[hasz];omega) (by show((kl' B i).push _).size<=sizeLine+1;rw[Array.size_push,hasz];omega))
end
section
variable {prog:Program} {w:World} {A:Around} {E:Value->Shared->Prop} {s:Shared}
theorem mn':typeLookup (.type "zip") "__len__"=pure none:=by rw[typeLookup_type,builtinLookup_eq_fast];kernel_rfl
theorem km':typeLookup (.type "zip") "__length_hint__"=pure none:=by rw[typeLookup_type,builtinLookup_eq_fast];kernel_rfl
theorem o0' {r:Addr} {Q:Bool->Shared->Prop} (hT:s.TypeIs (.ref r) "zip") (h:Q true s):wpAny (model prog w) A (Builtin.List.listLengthHint (.ref r)) Q E s:=by
 unfold Builtin.List.listLengthHint
 refine ab (wpAny_specialOf hT mn' ?_)
 dsimp only
 rw[if_neg (by decide),if_neg (by decide)]
 refine ab (wpAny_specialOf hT km' ?_)
 exact av h
theorem kn' {R:Result->Shared->Prop} {h0:Heap} {B:Nat} {k j:Bool} {z TI TO i1 i2 l1 l2 S:Addr} {xs ys:Array Value} {n c₀:Nat} {res:Value} (hh:A.in1.handled=none) (P:Zap h0 B z TI TO i1 i2 l1 l2 S) (hxs:xs.size=n) (hys:ys.size=n) (hn:n<=sizeLine)
  (Z:Zst h0 B k j z TI TO i1 i2 l1 l2 S xs ys 0 s.heap) (hS:s.heap.get? S=some { cls:=.type "list",data:=.seq #[] c₀ })
  (hR:∀h' c',(∀m,m<n->∃x y,xs[m]?=some x/\ys[m]?=some y/\IsPair h' (B+m) x y)->(∀c o,h0.get? c=some o->h'.get? c=some o)->h'.get? S=some { cls:=.type "list",dict:=none,data:=.seq (kl' B n) c',slots:=#[] }->R (.ok (.ret res)) { s with heap:=h' }):
  wpAny (model prog w) A.in1 (Builtin.List.listExtendWith (.ref S) (.ref z) res)
   (fun fin s'=>match fin with | .done f=>R (.ok f) s' | .again c'=>c'.quiet=true/\codeAny (model prog w) A c' R s') (fun e s'=>R (.error e) s') s:=by
 have hz:IsZip s.heap z TI TO .none:=by
  rcases Z.zs with⟨_,hz,_⟩|⟨e0,_⟩
  .exact hz
  .omega
 have hT:s.TypeIs (.ref z) "zip":=⟨_,hz,rfl⟩
 unfold Builtin.List.listExtendWith
 refine ab (wpAny_typeOf (T:="zip") hT ?_)
 have h1:Builtin.List.listSameRef (.ref S) (.ref z)=false:=by simp[Builtin.List.listSameRef,P.Sz]
 simp only[h1,show(Value.type "zip" == Value.type "list")=false by decide,show(Value.type "zip" == Value.type "tuple")=false by decide,Bool.or_false,ce,if_false]
 refine ab (wpAny_pyIter_zip hz ?_)
 refine ab (br (o0' hT ?_))
 rw[if_pos (by rfl)]
 refine ab (wpAny_rule ?_)
 refine ab ?_
 show wpAny _ _ (updateSeq S (·.push .none) >>= fun _=>updateSeq S (·.pop)) _ _ _
 refine ab (wpAny_updateSeq hS rfl ?_)
 have hS₂:=cv (Obj.mapSeq (·.push Value.none)) hS rfl
 refine wpAny_updateSeq (hz:=by seq_fits) hS₂ rfl ?_
 have hS₃:=cv (Obj.mapSeq (·.pop)) hS₂ rfl
 have Z2:=(Z.keepS P (Heap.SameBut.update ..)).keepS P (Heap.SameBut.update (s.heap.update S (Obj.mapSeq (·.push Value.none))) S (Obj.mapSeq (·.pop)))
 exact av ⟨plainId_quiet PySem.F.plain_extend_loop _,oZ' hh P hxs hys hn n 0 _ _ (by omega) (aK _) Z2 hS₃ fun h' c' q1 q2 q3=>hR h' c' q1 q2 q3⟩
theorem gB' {h0:Heap} {k j:Bool} {l1 l2:Addr} {xs ys:Array Value} {n:Nat} {Q:Value->Shared->Prop} (hh:A.handled=none) (hxs:xs.size=n) (hys:ys.size=n) (hn:n<=sizeLine)
  (o1:e4' k h0 l1 xs) (o2:e4' j h0 l2 ys)
  (hz:IsZip s.heap (h0.objs.size+4) (h0.objs.size+2) (h0.objs.size+3) .none) (hTI:IsPair s.heap (h0.objs.size+2) (.ref h0.objs.size) (.ref (h0.objs.size+1))) (hTO:IsPair s.heap (h0.objs.size+3) .none .none)
  (h1:dt' k s.heap h0.objs.size l1 0) (h2:dt' j s.heap (h0.objs.size+1) l2 0) (hsz:s.heap.objs.size=h0.objs.size+5) (hk:∀c o,h0.get? c=some o->s.heap.get? c=some o)
  (hQ:∀h' c',(∀m,m<n->∃x y,xs[m]?=some x/\ys[m]?=some y/\IsPair h' (h0.objs.size+6+m) x y)->(∀c o,h0.get? c=some o->h'.get? c=some o)->h'.get? (h0.objs.size+5)=some { cls:=.type "list",dict:=none,data:=.seq (kl' (h0.objs.size+6) n) c',slots:=#[] }->Q (.ref (h0.objs.size+5)) { s with heap:=h' }):
  wpAny (model prog w) A (call (.type "list") [.ref (h0.objs.size+4)]) Q E s:=by
 refine callType_codes (Q₁:=fun obj s₁=>obj=.ref s.heap.objs.size/\s₁={ s with heap:=s.heap.push { cls:=.type "list",data:=.seq #[] } }) PySem.F.called_list (PySem.F.typeCall_list_1 _) PySem.F.entry_list_init
  (code_list_new _ ⟨rfl,rfl⟩) fun obj s₁ h₁=>?_
 obtain⟨rfl,rfl⟩:=h₁
 have hS:(s.heap.push { cls:=.type "list",data:=.seq #[] }).get? s.heap.objs.size=some { cls:=.type "list",data:=.seq #[] }:=aC _ rfl
 refine⟨⟨_,hS,rfl⟩,PySem.F.args_list_init_2 _ _,?_⟩
 have lt1:l1<h0.objs.size:=o1.lt
 have lt2:l2<h0.objs.size:=o2.lt
 rw[hsz]at hS ⊢
 have P:Zap h0 (h0.objs.size+6) (h0.objs.size+4) (h0.objs.size+2) (h0.objs.size+3) h0.objs.size (h0.objs.size+1) l1 l2 (h0.objs.size+5):=by
  have e:∀a b:Nat,a≠b->(show Addr from a)≠(show Addr from b):=fun a b h=>h
  have lt1':(l1:Nat)<h0.objs.size:=lt1
  have lt2':(l2:Nat)<h0.objs.size:=lt2
  refine⟨⟨?_,?_,?_,?_,?_,?_,?_,?_,?_,?_,?_,?_,?_,?_,?_,?_,?_,?_⟩,?_,?_,?_,?_,?_,?_,?_,?_,?_,?_,?_,?_,?_,?_,?_,?_,?_⟩<;>first|(apply e;omega;done)|exact aE lt1|exact aE lt2|exact aE (aj lt1 (aO _ _))|exact aE (aj lt2 (aO _ _))|exact bF (aj lt1 (aO _ _))|exact bF (aj lt2 (aO _ _))|(show(_:Nat)<_;omega)|(show(_:Nat)<=_;omega)
 have Z0:Zst h0 (h0.objs.size+6) k j (h0.objs.size+4) (h0.objs.size+2) (h0.objs.size+3) h0.objs.size (h0.objs.size+1) l1 l2 (h0.objs.size+5) xs ys 0 (s.heap.push { cls:=.type "list",data:=.seq #[] }):=by
  have up:∀c o,s.heap.get? c=some o->(s.heap.push { cls:=.type "list",data:=.seq #[] }).get? c=some o:=fun c o e=>ag _ e
  exact⟨.inl ⟨rfl,up _ _ hz,_,_,up _ _ hTO⟩,up _ _ hTI,h1.at fun o e=>up _ _ e,h2.at fun o e=>up _ _ e,o1.at fun o e=>up _ _ (hk _ _ e),o2.at fun o e=>up _ _ (hk _ _ e),by rw[bA,hsz],fun m hm=>absurd hm (Nat.not_lt_zero _),fun c o e=>up _ _ (hk _ _ e)⟩
 show wpAny _ _ (do let old <- Builtin.List.listItems (.ref (h0.objs.size+5));Builtin.List.listUpdate (.ref (h0.objs.size+5)) (fun _=>#[]);letGo old.toList.reverse;Builtin.List.listExtendWith (.ref (h0.objs.size+5)) (.ref (h0.objs.size+4)) .none) _ _ _
 refine ab ?_
 unfold Builtin.List.listItems
 refine ab (bZ hS rfl (av ?_))
 show wpAny _ _ (updateSeq (h0.objs.size+5) (fun _=>#[]) >>= fun _=>letGo (#[]:Array Value).toList.reverse >>= fun _=>Builtin.List.listExtendWith (.ref (h0.objs.size+5)) (.ref (h0.objs.size+4)) .none) _ _ _
 refine ab (wpAny_updateSeq hS rfl ?_)
 have hS₂:=cv (Obj.mapSeq (fun _=>(#[]:Array Value))) hS rfl
 refine ab (wpAny_letGo ?_)
 refine kn' (by simp[hh]) P hxs hys hn (Z0.keepS P (Heap.SameBut.update ..)) hS₂ fun h' c' q1 q2 q3=>?_
 exact⟨rfl,hQ h' c' q1 q2 q3⟩
end
section
variable {X:Cx} {pins:List (Addr×Obj)} {σ:St} {H H':Hp} {s:Shared} {h':Heap}
theorem Inv.laidN {t':Nat} (I:Inv X pins σ H s) (k:∀b u,s.heap.get? b=some u->h'.get? b=some u) (sub:∀b u,H b=some u->H' b=some u) (fr:∀b,H b=none->b<s.heap.objs.size->H' b=none)
  (new:∀b u,H' b=some u->H b=some u\/aG' X.prog X.w H' h' b u):Inv X pins σ H' { s with heap:=h',toks:=t' }:=by
 refine I.step (g':=s.gens) (d':=s.drawn) (t':=t') (ch:=[]) (fun c hc=>absurd hc aA) (fun c o _ _ _ e _=>k c o e) (fun c o _ _ _ e _=>⟨o.slots,k c o e⟩)
  (fun c o _ e n=>fr c n (aw e)) (fun c o _ e=>⟨o,k c o e⟩) (fun c ps e=>sub _ _ e) (fun c o p e=>sub _ _ e) (fun c ps e=>⟨#[],by rw[sub _ _ e];simp⟩) (fun m hm=>?_) (fun c o e=>?_) I.bare
 .obtain⟨oo,es,ep,ho,r⟩:=hm
  exact⟨oo,es,ep,k _ oo ho,r⟩
 .rcases new c o e with e0|h
  .exact(I.hok c o e0).stay (fun d q hd eq=>k d q eq) (fun d q=>sub _ _ q) fun d qs q=>sub _ _ q
  .exact h
end
section
variable {X:Cx}
def AM' (K:W.Frag) (ta:TA):TE:=fun σ H Q=>ta σ H fun vs H1=>∃(k j:Bool) (a b:Addr) (xs ys:List V),vs=[.ref a,.ref b]/\Sq k K H1 a xs/\Sq j K H1 b ys/\xs.length=ys.length/\
 ∀(l:Addr) (as:List Addr) (H':Hp),H1 l=none->(∀b u,H1 b=some u->H' b=some u)->(∀p∈as,H1 p=none)->H' l=some (.lst (as.map V.ref))->as.length=xs.length->(∀(i:Nat) p x y,as[i]?=some p->xs[i]?=some x->ys[i]?=some y->H' p=some (.tup [x,y]))->Q (.ref l) H'
theorem f9':∀(l:List Addr),aK' (l.map V.ref) (l.map Value.ref)
 | []=>.nil
 |a :: l=>.cons rfl (f9' l)
theorem wE' {a b:Expr} {ta:TA} {p p2 pos pos2:Pos} (hc:X.calm=true) (hg1:Gl X "list") (hm1:X.mg "list"=none) (hg2:Gl X "zip") (hm2:X.mg "zip"=none) (ha:PA X [a,b] ta) (hs:starEach [a,b] X.env=[(false,eval a X.env),(false,eval b X.env)]) (hs2:starEach [b] X.env=[(false,eval b X.env)]):
  PE X (.Call (.Name "list" p) [.Call (.Name "zip" p2) [a,b] [] pos2] [] pos) (AM' X.K ta):=by
 intro pins s σ H Q I h
 refine wpAny_Call_Name_kw (eg' I hg1 hm1 boot_list ?_)
 refine PyProof.Rows.callWith_type1 ?_
 show wpAny _ _ (spliced [(false,eval (.Call (.Name "zip" p2) [a,b] [] pos2) X.env)]) _ _ s
 refine Calls.spliced_cons ?_
 refine Call_ (eg' I hg2 hm2 boot_zip (PyProof.Rows.callWith_type1 (thn (ha pos2 pins s σ H _ I h) fun us s1 ⟨vs,H1,I1,r1,k,j,l1,l2,xs,ys,e,hxs,hys,hlen,q⟩=>?_) (by rw[hs,hs2]) (by rw[hs2];rfl)))
 subst e
 cases r1 with
 |cons r rr=>
  cases rr with
  |cons r' rr=>
   cases rr
   cases r
   cases r'
   obtain⟨us,rus,ous,hz1⟩:=I1.sq hxs
   obtain⟨ws,rws,ows,hz2⟩:=I1.sq hys
   have e1:=rus.length
   have e2:=rws.length
   refine lv' ous ows fun h' hz hTI hTO h1 h2 hsz hk=>Calls.spliced_nil ?_
   refine gB' (n:=xs.length) (h0:=s1.heap) (s:={ s1 with heap:=h' }) (I.ok.hd hc) (by rw[ai,<- e1]) (by rw[ai,<- e2];exact hlen.symm) hz1 ous ows hz hTI hTO h1 h2 hsz hk fun h'' c' q1 q2 q3=>?_
   have hB:∀b u,H1 b=some u->b<s1.heap.objs.size:=fun b u e=>by
    rcases cK b s1.heap.objs.size with z|z
    .exact z
    .rw[I1.hok.fresh z]at e;cases e
   let B:=s1.heap.objs.size+6
   let as:List Addr:=(ah xs.length).map fun m=>B+m
   let H':Hp:=fun b=>if b=s1.heap.objs.size+5 then some (.lst (as.map V.ref))else if B<=b/\b<B+xs.length then some (.tup [(xs[b-B]?).getD .non,(ys[b-B]?).getD .non])else H1 b
   have old:∀b,b<s1.heap.objs.size->H' b=H1 b:=fun b hb=>by
    show(if b=s1.heap.objs.size+5 then _ else if B<=b/\b<B+xs.length then _ else H1 b)=_
    rw[if_neg (fun z=>?_),if_neg (fun z=>?_)]
    .exact absurd hb (Nat.not_lt.mpr (aq (aO _ _) z.1))
    .rw[z]at hb;exact absurd hb (Nat.not_lt.mpr (aO _ _))
   have sub:∀b u,H1 b=some u->H' b=some u:=fun b u e=>by rw[old b (hB b u e)];exact e
   have tupP:∀m,m<xs.length->H' (B+m)=some (.tup [(xs[m]?).getD .non,(ys[m]?).getD .non]):=fun m hm=>by
    show(if B+m=s1.heap.objs.size+5 then _ else if B<=B+m/\B+m<B+xs.length then _ else H1 (B+m))=_
    rw[if_neg (show ¬(s1.heap.objs.size+6)+m=s1.heap.objs.size+5 by omega),if_pos ⟨aO _ _,Nat.add_lt_add_left hm _⟩,Nat.add_sub_cancel_left]
   have lstP:H' (s1.heap.objs.size+5)=some (.lst (as.map V.ref)):=if_pos rfl
   have hal:as.length=xs.length:=by show((ah xs.length).map _).length=_;rw[ac,aR]
   refine⟨.ref (s1.heap.objs.size+5),H',I1.laidN (t':=s1.toks) q2 sub (fun b e hb=>by rw[old b hb];exact e) fun b u e=>?_,rfl,q _ as H' (I1.hok.fresh (aO _ _)) sub (fun p hp=>?_) lstP hal fun i p x y hp hx hy=>?_⟩
   .by_cases hb:b<s1.heap.objs.size
    .rw[old b hb]at e;exact .inl e
    .right
     by_cases hl:b=s1.heap.objs.size+5
     .subst hl
      rw[lstP]at e
      cases e
      refine⟨by rw[ac,hal];exact hz1,as.map Value.ref,c',f9' as,?_⟩
      rw[q3]
      congr 3
      show kl' (s1.heap.objs.size+6) xs.length=(List.map Value.ref ((ah xs.length).map fun m=>s1.heap.objs.size+6+m)).toArray
      unfold kl'
      rw[ci]
      rfl
     .by_cases hr:B<=b/\b<B+xs.length
      .obtain⟨m,rfl⟩:∃m,b=B+m:=⟨b-B,(Nat.add_sub_cancel' hr.1).symm⟩
       have hm:m<xs.length:=Nat.lt_of_add_lt_add_left hr.2
       have hmy:m<ys.length:=hlen ▸ hm
       rw[tupP m hm]at e
       cases e
       obtain⟨u,v,eu,ev,hp⟩:=q1 m hm
       obtain⟨u',eu',ru⟩:=rus.get (i:=m) (x:=xs[m]) (aa hm)
       obtain⟨v',ev',rv⟩:=rws.get (i:=m) (x:=ys[m]) (aa hmy)
       have eu2:us[m]?=some u:=by simpa using eu
       have ev2:ws[m]?=some v:=by simpa using ev
       rw[eu2]at eu'
       rw[ev2]at ev'
       cases eu'
       cases ev'
       rw[aa hm,aa hmy]
       exact⟨by show 2<=sizeLine;decide,[u,v],.cons ru (.cons rv .nil),⟨_,hp,rfl,⟨_,rfl⟩,rfl⟩⟩
      .exfalso
       have:H' b=H1 b:=by
        show(if b=s1.heap.objs.size+5 then _ else if B<=b/\b<B+xs.length then _ else H1 b)=_
        rw[if_neg hl,if_neg hr]
       rw[this,I1.hok.fresh (Nat.not_lt.mp hb)]at e
       cases e
   .obtain⟨m,_,rfl⟩:=bi.mp hp
    exact I1.hok.fresh (aq (aO _ _) (aO _ _))
   .have hi:i<xs.length:=(aI.mp hx).1
    have:as[i]?=some (B+i):=by
     show((ah xs.length).map fun m=>B+m)[i]?=_
     rw[ao,aY hi]
     rfl
    rw[this]at hp
    cases hp
    rw[tupP i hi,hx,hy]
    rfl
end
end L2
namespace L2
open PySem PySem.Spec PyProof.Rows
section
variable {prog:Program} {w:World} {A:Around} {R:Result->Shared->Prop} {I:Addr} {fp wr:List Addr} {G:Array GenState->Array GenState->Prop} {n:Nat} {St:Nat->Shared->Prop}
abbrev kT (prog:Program) (w:World):=tupleKind (az' prog w)
end
section
variable {prog:Program} {w:World} {A:Around} {E:Value->Shared->Prop} {s:Shared}
set_option maxRecDepth 100000 in
set_option maxHeartbeats 3200000 in
end
end L2
namespace R3
open PySem PySem.Spec PyProof.Rows L2
inductive Bf where
 |len|abs|int|isinstance|all|max|min|list|tuple|range|set|anyI
 deriving DecidableEq
inductive Mf where
 |append|extend|join|insert|bitlen|popL
 deriving DecidableEq
inductive Zf where
 |eqB|ninB|ltS|inP
 deriving DecidableEq
set_option genInjectivity false
mutual
inductive Ce where
 |var (i:Nat)|int (n:Int)|bl (b:Bool)|non|str (x:Str)|ty (n:String)
 |bin (op:Operator) (a b:Ce)
 |neg (a:Ce)|not (a:Ce)
 |and (a b:Ce)|or (a b:Ce)
 |cmp (op:CmpOp) (a b:Ce)
 |chn (op op':CmpOp) (a b c:Ce)
 |ife (q:Cq) (a b:Ce)
 |tup (es:Ces)|lst (es:Ces)
 |idx (a b:Ce)
 |cut (a:Ce) (lo hi:Co)
 |call (f:Str) (es:Ces)
 |blt (f:Bf) (es:Ces)
 |met (m:Mf) (o:Ce) (es:Ces)
 |comp (elt:Ce) (own:List Nat) (t:Ct) (it:Ci) (q:Cqo) (r:Cc)
 |dnew|din (neg:Bool) (a b:Ce)|dgt (a b:Ce)
 |cmv (k:Zf) (a b:Ce)
 |lzp (a b:Ce)
inductive Ces where
 |nil|cons (e:Ce) (r:Ces)
inductive Cq where
 |val (e:Ce)|not (q:Cq)|and (a b:Cq)|or (a b:Cq)|cmp (op:CmpOp) (a b:Ce)|chn (op op':CmpOp) (a b c:Ce)|din (neg:Bool) (a b:Ce)
inductive Cqo where
 |none|some (q:Cq)
inductive Co where
 |none|some (e:Ce)
inductive Ci where
 |val (e:Ce)|range1 (a:Ce)|range2 (a b:Ce)|zip (a b:Ce)|enum (a:Ce)
inductive Ct where
 |name (i:Nat)|tup (ts:Cts)|sub (o i:Ce)
inductive Cts where
 |nil|cons (t:Ct) (r:Cts)
inductive Cc where
 |nil|cons (ws:List Nat) (t:Ct) (it:Ci) (q:Cqo) (r:Cc)
end
mutual
inductive Cs where
 |expr (e:Ce)|ret (e:Ce)|asg (t:Ct) (e:Ce)|par (i j:Nat) (a b:Ce)|asg2 (i j:Nat) (a b:Ce)|aug (i:Nat) (sub:Bool) (e:Ce)
 |ite (q:Cq) (a b:Css)|whl (q:Cq) (b:Css)|for_ (t:Ct) (it:Ci) (b:Css)|dput (o i e:Ce)|augS (o i:Ce) (sub:Bool) (e:Ce)|asgc (i j:Nat) (e:Ce)
 |setc2 (i:Nat) (elt:Ce) (own:List Nat) (t:Ct) (it:Ci) (q:Cqo) (ws:List Nat) (t2:Ct) (it2:Ci) (q2:Cqo)|dctc (tup:Bool) (i:Nat) (k v:Ce) (own:List Nat) (t:Ct) (it:Ci) (q:Cqo)
inductive Css where
 |nil|cons (s:Cs) (r:Css)
end
set_option genInjectivity true
def z1' (i j:Int):Prop:=0<=j/\j<=1000000/\i.natAbs<2 ^ 250*2 ^ 250*2 ^ 250
def sQ' (_ j:Int):Prop:=0<j/\(j<1073741824\/j.natAbs.log2<9000)
def o1' (i j:Int):Prop:=(-(2 ^ 64)<i/\i<2 ^ 64)\/(-(2 ^ 64)<j/\j<2 ^ 64)\/IntMulOk i j
section
variable (K:W.Frag)
def fW':Operator->R2
 | .Add=>fun x y H Q=>match x,y with
  | .int i,.int j=>Q (.int (i+j)) H
  | .str i,.str j=>i.length+j.length<=sizeLine/\Q (.str (i++j)) H
  |x,y=>CD' x y H Q\/vE' K x y H Q\/qN' K x y H Q
 | .Sub=>rI0 fun i j=>.int (i-j)
 | .Mult=>fun x y H Q=>match x,y with
  | .int i,.int j=>o1' i j/\Q (.int (i*j)) H
  | .str a,.int n=>-1000000<=n/\n<=1000000/\a.length*n.toNat<=1000000/\Q (.str (Txt.mul a n)) H
  |x,y=>CE' x y H Q
 | .Mod=>rI (fun _ j=>0<j) fun i j=>.int (i % j)
 | .FloorDiv=>rI sQ' fun i j=>.int (i / j)
 | .Pow=>rI Ao' fun i j=>.int (i ^ j.toNat)
 | .LShift=>rI z1' fun i j=>.int (i*2 ^ j.toNat)
 | .RShift=>rI (fun _ j=>0<=j) fun i j=>.int (i / 2 ^ j.toNat)
 | .BitAnd=>rI (fun i j=>0<=i/\j=1) fun i _=>.int (i % 2)
 |_=>fun _ _ _ _=>False
def dZ':CmpOp->R2
 | .Eq=>fun x y H Q=>match x,y with
  | .ref a,.ref b=>zU' K false (.ref a) (.ref b) H Q\/zX' false (.ref a) (.ref b) H Q
  |x,y=>rEq x y H Q
 | .NotEq=>fun x y H Q=>match x,y with
  | .ref a,.ref b=>zU' K true (.ref a) (.ref b) H Q\/zX' true (.ref a) (.ref b) H Q
  |x,y=>rNe x y H Q
 | .Lt=>rI0 fun i j=>.bl (decide (i<j))
 | .LtE=>rI0 fun i j=>.bl (decide (i<=j))
 | .Gt=>fun x y H Q=>match x with
  | .str a=>CL' (.str a) y H Q
  |x=>rI0 (fun i j=>.bl (decide (j<i))) x y H Q
 | .GtE=>rI0 fun i j=>.bl (decide (j<=i))
 | .Is=>fun x y H Q=>match y with
  | .bl b=>zV' false x (.bl b) H Q
  |y=>y=.non/\Q (.bl (decide (x=.non))) H
 | .IsNot=>fun x y H Q=>match y with
  | .bl b=>zV' true x (.bl b) H Q
  |y=>y=.non/\Q (.bl (!decide (x=.non))) H
 | .In=>fun x y H Q=>match y with
  | .str b=>zW' false x (.str b) H Q
  |y=>rIn K false x y H Q
 | .NotIn=>fun x y H Q=>match y with
  | .str b=>zW' true x (.str b) H Q
  |y=>rIn K true x y H Q
def dJ':Bf->List V->Hp->VK->Prop
 | .len=>fun xs H Q=>∃x n,xs=[x]/\CA' K x H n/\Q (.int n) H
 | .abs=>fun xs H Q=>∃i,xs=[.int i]/\Q (.int (if i<0 then -i else i)) H
 | .int=>fun xs H Q=>match xs with
  | [.int i]=>Q (.int i) H
  | [.bl k]=>Q (.int (if k then 1 else 0)) H
  | [.str x]=>∃n,PySem.intText? x=some n/\x.length<=640/\Q (.int n) H
  | [.str x,.int j]=>j=2/\∃n,B2 x n/\Q (.int n) H
  |_=>False
 | .isinstance=>fun xs H Q=>CG' xs H Q\/False
 | .all=>CH' K false
 | .anyI=>wg' K
 | .max=>fun xs H Q=>match xs with
  | [.int i,.int j]=>Q (.int (if j > i then j else i)) H
  |xs=>oH' K true xs H Q
 | .min=>fun xs H Q=>match xs with
  | [.int i,.int j]=>Q (.int (if j<i then j else i)) H
  |xs=>oH' K false xs H Q
 | .list=>fun xs H Q=>(∃p ys,xs=[.ref p]/\(SqL K H p ys\/SqT K H p ys)/\∀l,H l=none->Q (.ref l) (upd H l (.lst ys)))\/CJ' xs H Q
 | .range=>CI'
 | .set=>qR' K
 | .tuple=>fun xs H Q=>∃p ys,xs=[.ref p]/\((SqL K H p ys/\∀l,H l=none->Q (.ref l) (upd H l (.tup ys)))\/(SqT K H p ys/\Q (.ref p) H))
def og':Mf->V->List V->Hp->VK->Prop
 | .append=>lk'
 | .extend=>lm'
 | .join=>vT' K
 | .insert=>lF'
 | .bitlen=>lP'
 | .popL=>CC'
def hL':Mf->String
 | .join=>"str"
 | .bitlen=>"int"
 |_=>"list"
def mo':Mf->Str
 | .append=>"append"
 | .extend=>"extend"
 | .join=>"join"
 | .insert=>"insert"
 | .bitlen=>"bit_length"
 | .popL=>"pop"
def fD':Bf->Str
 | .len=>"len"
 | .abs=>"abs"
 | .int=>"int"
 | .isinstance=>"isinstance"
 | .all=>"all"
 | .anyI=>"any"
 | .max=>"max"
 | .min=>"min"
 | .list=>"list"
 | .tuple=>"tuple"
 | .range=>"range"
 | .set=>"set"
def qU':R2:=fun x y H Q=>match x,y with
 | .str z,.int i=>z.length<=sizeLine/\∃c,atI z.cps.toList i=some c/\Q (.str ⟨#[c]⟩) H
 |x,y=>gV' K x y H Q\/jh' K x y H Q
def rSl:V->Option Int->Option Int->Hp->VK->Prop:=fun x lo hi H Q=>match x with
 | .str a=>a.length<=sizeLine/\Q (.str (Txt.slice a lo hi)) H
 |x=>zR' K x lo hi H Q\/zQ' K x lo hi H Q\/zY' K x lo hi H Q
end
def CU':Zf->CmpOp
 | .eqB=>.Eq
 | .ninB=>.NotIn
 | .ltS=>.Lt
 | .inP=>.In
def rZf:Zf->R2
 | .eqB=>CN' false
 | .ninB=>wf'
 | .ltS=>fun x y H Q=>∃i j,x=.str i/\y=.str j/\Q (.bl (decide (i.cps.toList<j.cps.toList))) H
 | .inP=>CS'
structure Rc where
 N:List Str
 B:List Str
 K:W.Frag
 fs:Str->Option Sp
 xk:L2.St->XK:=fun _=>E0
 cl:Str->Option Addr:=fun _=>none
def o2' (neg:Bool) (ty td:TE):TE:=AL' neg ty td
def o3':Cts->Nat
 | .nil=>0
 | .cons _ r=>o3' r+1
mutual
def tE (C:Rc):Ce->TE
 | .var i=>zL' i
 | .int n=>tC (.int n)
 | .bl b=>tC (.bl b)
 | .non=>tC .non
 | .str x=>tC (.str x)
 | .ty n=>tC (.ty n)
 | .bin op a b=>tOp (fW' C.K op) (tE C a) (tE C b)
 | .neg a=>tUn (rU fun i=>.int (-i)) (tE C a)
 | .not a=>r1' (tE C a)
 | .and a b=>ok' (tE C a) (tE C b)
 | .or a b=>zM' (tE C a) (tE C b)
 | .cmp op a b=>tOp (dZ' C.K op) (tE C a) (tE C b)
 | .chn op op' a b c=>eU' (dZ' C.K op) (dZ' C.K op') (tE C a) (tE C b) (tE C c)
 | .ife q a b=>tIf (tQ C q) (tE C a) (tE C b)
 | .tup es=>vA' (tA C es)
 | .lst es=>Av' (tA C es)
 | .idx a b=>tOp (qU' C.K) (tE C a) (tE C b)
 | .cut a lo hi=>tSl (rSl C.K) (tE C a) (tO C lo) (tO C hi)
 | .call f es=>fun σ H Q=>match C.fs f with
  |some sp=>ox' sp [] (C.xk σ) (tA C es) σ H Q
  |none=>False
 | .blt f es=>tCB (dJ' C.K f) (tA C es)
 | .met m o es=>tBM C.K (hL' m) (og' C.K m) (tE C o) (tA C es)
 | .dnew=>lN'
 | .din neg a b=>o2' neg (tE C a) (tE C b)
 | .dgt a b=>mj' (tE C a) (tE C b)
 | .lzp a b=>AM' C.K (bA' (tE C a) (bA' (tE C b) gU'))
 | .cmv k a b=>tOp (rZf k) (tE C a) (tE C b)
 | .comp elt own t it q r=>iB' own (tI C it) (tG C t) (tQo C q) (tR C r (fz' (tE C elt)))
def tA (C:Rc):Ces->TA
 | .nil=>gU'
 | .cons e r=>bA' (tE C e) (tA C r)
def tQ (C:Rc):Cq->TT
 | .val e=>fun σ H Q=>tE C e σ H fun x H'=>∃k,vy' C.K x H' k/\Q k H'
 | .not q=>Aa' (tQ C q)
 | .and a b=>vc' (tQ C a) (tQ C b)
 | .or a b=>tOr (tQ C a) (tQ C b)
 | .cmp op a b=>gY' (tOp (dZ' C.K op) (tE C a) (tE C b))
 | .chn op op' a b c=>gY' (eU' (dZ' C.K op) (dZ' C.K op') (tE C a) (tE C b) (tE C c))
 | .din neg a b=>gY' (o2' neg (tE C a) (tE C b))
def tQo (C:Rc):Cqo->TT
 | .none=>fun _ H Q=>Q true H
 | .some q=>tQ C q
def tO (C:Rc):Co->TO
 | .none=>iw'
 | .some e=>sg' (tE C e)
def tI (C:Rc):Ci->TI
 | .val e=>AA' C.K (tE C e)
 | .range1 a=>r7' (bA' (tE C a) gU')
 | .range2 a b=>r8' (bA' (tE C a) (bA' (tE C b) gU'))
 | .zip a b=>AB' C.K (bA' (tE C a) (bA' (tE C b) gU'))
 | .enum a=>su' C.K (tE C a)
def tG (C:Rc):Ct->TG
 | .name i=>cR' i
 | .tup ts=>wA' C.K (o3' ts) (tGs C ts)
 | .sub o i=>Ag' (tE C o) (tE C i) eh'
def tGs (C:Rc):Cts->TGs
 | .nil=>vk'
 | .cons t r=>iu' (tG C t) (tGs C r)
def tR (C:Rc):Cc->TL (List V)->TL (List V)
 | .nil,em=>em
 | .cons ws t it q r,em=>iA' (tI C it) (a9' ws (tG C t) (tQo C q) (tR C r em))
end
mutual
def tS (C:Rc):Cs->TS
 | .expr e=>r4' (tE C e)
 | .ret e=>Ac' (tE C e)
 | .asg t e=>jf' (tE C e) (tG C t)
 | .par i j a b=>Ah' i j (bA' (tE C a) (bA' (tE C b) gU'))
 | .asg2 i j a b=>jf' (vA' (bA' (tE C a) (bA' (tE C b) gU'))) (wA' C.K 2 (iu' (cR' i) (iu' (cR' j) vk')))
 | .aug i sub e=>Ai' i (tE C e) (ipI fun i j=>if sub then i-j else i+j)
 | .augS o i sub e=>r6' (tE C o) (tE C i) (tE C e) (gV' C.K) (ipI fun i j=>if sub then i-j else i+j) eh'
 | .ite q a b=>Ad' (tQ C q) (tSs C a) (tSs C b)
 | .whl q b=>kZ' (tQ C q) (tSs C b)
 | .for_ t it b=>Aj' (tI C it) (tG C t) (tSs C b)
 | .asgc i j e=>sy' i j (tE C e)
 | .dput o i e=>sB' (tE C o) (tE C i) (tE C e)
 | .setc2 i elt own t it q ws t2 it2 q2=>jf' (ww' own (tI C it) (tG C t) (tQo C q) (iA' (tI C it2) (a9' ws (tG C t2) (tQo C q2) (hF' (tE C elt))))) (cR' i)
 | .dctc tup i k v own t it q=>if tup then jf' (wy' own (tI C it) (tG C t) (tQo C q) (tE C k) (tE C v)) (cR' i)else jf' (wx' own (tI C it) (tG C t) (tQo C q) (tE C k) (tE C v)) (cR' i)
def tSs (C:Rc):Css->TS
 | .nil=>r2'
 | .cons s r=>Ab' (tS C s) (tSs C r)
end
def vis (sc:Scope) (x:Str):Bool:=match sc.names.lookup x with
 |some .local=>true
 |some .cell=>true
 |some .free=>true
 |_=>false
def locb (sc:Scope) (x:Str):Bool:=match sc.names.lookup x with
 |some .local=>true
 |some .cell=>true
 |_=>false
def glb (sc:Scope) (x:Str):Bool:=decide (sc.names.lookup x=some .globalImplicit)
def du' (N:List Str) (i:Nat) (x:Str):Bool:=decide (N[i]?=some x)&&!(x == ("__debug__":Str))&&!(x == ("__classdict__":Str))
def aB':Expr->Bool
 | .Starred ..=>false
 |_=>true
def aP':Expr->Bool
 | .Set ..=>false
 |_=>true
def cX':Expr->Bool
 | .Slice ..=>false
 |_=>true
def mp':Expr->Bool
 | .Call _ [] _ _=>false
 |_=>true
def qV':Expr->Bool
 | .UnaryOp .Not _ _=>false
 | .BoolOp ..=>false
 | .IfExp ..=>false
 | .Compare ..=>false
 |_=>true
def hP':List String:=["list","tuple","str","bool","int","dict","ValueError"]
def kS' (N:List Str) (sc scope:Scope) (own:List Nat):Bool:=
 decide (scope.kind=.function)&&
 scope.names.all (fun x=>(decide (x.2≠.local) || decide (scope.names.lookup x.1=some .local))&&(decide (x.2≠.cell) || decide (scope.names.lookup x.1=some .cell))&&
  (decide (x.2≠.free) || decide (sc.names.lookup x.1=some .cell) || decide (sc.names.lookup x.1=some .free)))&&
 (ah N.length).all (fun i=>match N[i]? with
  |some x=>(decide (scope.names.lookup x≠some .local)&&decide (scope.names.lookup x≠some .cell)) || decide (i∈own)
  |none=>true)
def hQ':Ci->Expr->Bool
 | .zip _ _,.Tuple ..=>true
 | .zip _ _,_=>false
 | .enum _,.Tuple ..=>true
 | .enum _,_=>false
 |_,_=>true
mutual
def gC' (own:List Nat):Ct->Bool
 | .name i=>decide (i∈own)
 | .tup ts=>mq' own ts
 | .sub _ _=>false
def mq' (own:List Nat):Cts->Bool
 | .nil=>true
 | .cons t r=>gC' own t&&mq' own r
end
def tld (B:List Str):Bool:=decide (("~":Str)∈B)
def hat (B:List Str):Bool:=decide (("^":Str)∈B)
def pct (B:List Str):Bool:=decide (("%":Str)∈B)
def u3' (x:Str):Str:=⟨#[33]++x.cps⟩
theorem av' {P:Prop} (h:false=true):P:=(ay h).elim
theorem hT' {a b:Bool} (h:(a&&b)=true):a=true/\b=true:=by
 cases a with
 |true=>exact⟨rfl,h⟩
 |false=>exact av' h
def AN' (e:Expr) (f:Expr->Expr->Bool):Bool:=match e with
 | .BoolOp .And [x,y] _=>f x y
 | .BoolOp .And (x :: y :: z :: r) pos=>f x (.BoolOp .And (y :: z :: r) pos)
 |_=>false
theorem mr' {e:Expr} {f:Expr->Expr->Bool} (h:AN' e f=true):(∃x y pos,e=.BoolOp .And [x,y] pos/\f x y=true)\/∃x y z r pos,e=.BoolOp .And (x :: y :: z :: r) pos/\f x (.BoolOp .And (y :: z :: r) pos)=true:=by
 cases e with
 |BoolOp o vs pos=>
  cases o with
  |And=>
   cases vs with
   |nil=>exact av' h
   |cons x r=>
    cases r with
    |nil=>exact av' h
    |cons y r=>
     cases r with
     |nil=>exact .inl ⟨x,y,pos,rfl,h⟩
     |cons z r=>exact .inr ⟨x,y,z,r,pos,rfl,h⟩
  |_=>exact av' h
 |_=>exact av' h
def vOr (e:Expr) (f:Expr->Expr->Bool):Bool:=match e with
 | .BoolOp .Or [x,y] _=>f x y
 | .BoolOp .Or (x :: y :: z :: r) pos=>f x (.BoolOp .Or (y :: z :: r) pos)
 |_=>false
theorem qW' {e:Expr} {f:Expr->Expr->Bool} (h:vOr e f=true):(∃x y pos,e=.BoolOp .Or [x,y] pos/\f x y=true)\/∃x y z r pos,e=.BoolOp .Or (x :: y :: z :: r) pos/\f x (.BoolOp .Or (y :: z :: r) pos)=true:=by
 cases e with
 |BoolOp o vs pos=>
  cases o with
  |Or=>
   cases vs with
   |nil=>exact av' h
   |cons x r=>
    cases r with
    |nil=>exact av' h
    |cons y r=>
     cases r with
     |nil=>exact .inl ⟨x,y,pos,rfl,h⟩
     |cons z r=>exact .inr ⟨x,y,z,r,pos,rfl,h⟩
  |_=>exact av' h
 |_=>exact av' h
def aO' {α:Type} (z:List α) (f:Bool):Bool:=match z with
 | []=>f
 |_=>false
theorem ao' {α:Type} {z:List α} {f:Bool} (h:aO' z f=true):z=[]/\f=true:=by
 cases z with
 |nil=>exact⟨rfl,h⟩
 |_=>exact av' h
def aw' {α:Type} (z:List α) (f:α->List α->Bool):Bool:=match z with
 |x :: r=>f x r
 |_=>false
theorem ai' {α:Type} {z:List α} {f:α->List α->Bool} (h:aw' z f=true):∃x r,z=x :: r/\f x r=true:=by
 cases z with
 |cons x r=>exact⟨x,r,rfl,h⟩
 |_=>exact av' h
def ms' {α:Type} (z:Option α) (f:Bool):Bool:=match z with
 |none=>f
 |_=>false
theorem hU' {α:Type} {z:Option α} {f:Bool} (h:ms' z f=true):z=none/\f=true:=by
 cases z with
 |none=>exact⟨rfl,h⟩
 |_=>exact av' h
def mt' {α:Type} (z:Option α) (f:α->Bool):Bool:=match z with
 |some x=>f x
 |_=>false
theorem hV' {α:Type} {z:Option α} {f:α->Bool} (h:mt' z f=true):∃x,z=some x/\f x=true:=by
 cases z with
 |some x=>exact⟨x,rfl,h⟩
 |_=>exact av' h
def fX' (z:Comprehension) (f:Expr->Expr->List Expr->Int->Bool):Bool:=f z.target z.iter z.ifs z.is_async
theorem b1' {z:Comprehension} {f:Expr->Expr->List Expr->Int->Bool} (h:fX' z f=true):∃a b c d,z=⟨a,b,c,d⟩/\f a b c d=true:=by
 cases z
 exact⟨_,_,_,_,rfl,h⟩
def ba' (z:Expr) (f:Str->Pos->Bool):Bool:=match z with
 | .Name x0 x1=>f x0 x1
 |_=>false
theorem aC' {z f} (h:ba' z f=true):∃x0 x1,z=.Name x0 x1/\f x0 x1=true:=by
 cases z with
 |Name x0 x1=>exact⟨x0,x1,rfl,h⟩
 |_=>exact av' h
def cj' (z:Expr) (f:Const->Nat->Pos->Bool):Bool:=match z with
 | .Constant x0 x1 x2=>f x0 x1 x2
 |_=>false
theorem bG' {z f} (h:cj' z f=true):∃x0 x1 x2,z=.Constant x0 x1 x2/\f x0 x1 x2=true:=by
 cases z with
 |Constant x0 x1 x2=>exact⟨x0,x1,x2,rfl,h⟩
 |_=>exact av' h
def qX' (z:Const) (f:Int->Bool):Bool:=match z with
 | .int x0=>f x0
 |_=>false
theorem mu' {z f} (h:qX' z f=true):∃x0,z=.int x0/\f x0=true:=by
 cases z with
 |int x0=>exact⟨x0,rfl,h⟩
 |_=>exact av' h
def mv' (z:Const) (f:Bool->Bool):Bool:=match z with
 | .bool x0=>f x0
 |_=>false
theorem ko' {z f} (h:mv' z f=true):∃x0,z=.bool x0/\f x0=true:=by
 cases z with
 |bool x0=>exact⟨x0,rfl,h⟩
 |_=>exact av' h
def mw' (z:Const) (f:Bool):Bool:=match z with
 | .none=>f
 |_=>false
theorem kp' {z f} (h:mw' z f=true):z=.none/\f=true:=by
 cases z with
 |none=>exact⟨rfl,h⟩
 |_=>exact av' h
def qY' (z:Const) (f:Str->Bool):Bool:=match z with
 | .str x0=>f x0
 |_=>false
theorem mx' {z f} (h:qY' z f=true):∃x0,z=.str x0/\f x0=true:=by
 cases z with
 |str x0=>exact⟨x0,rfl,h⟩
 |_=>exact av' h
def jv' (z:Expr) (f:Expr->Operator->Expr->Pos->Bool):Bool:=match z with
 | .BinOp x0 x1 x2 x3=>f x0 x1 x2 x3
 |_=>false
theorem iG' {z f} (h:jv' z f=true):∃x0 x1 x2 x3,z=.BinOp x0 x1 x2 x3/\f x0 x1 x2 x3=true:=by
 cases z with
 |BinOp x0 x1 x2 x3=>exact⟨x0,x1,x2,x3,rfl,h⟩
 |_=>exact av' h
def eK' (z:Expr) (f:UnaryOp->Expr->Pos->Bool):Bool:=match z with
 | .UnaryOp x0 x1 x2=>f x0 x1 x2
 |_=>false
theorem em' {z f} (h:eK' z f=true):∃x0 x1 x2,z=.UnaryOp x0 x1 x2/\f x0 x1 x2=true:=by
 cases z with
 |UnaryOp x0 x1 x2=>exact⟨x0,x1,x2,rfl,h⟩
 |_=>exact av' h
def my' (z:UnaryOp) (f:Bool):Bool:=match z with
 | .USub=>f
 |_=>false
theorem kq' {z f} (h:my' z f=true):z=.USub/\f=true:=by
 cases z with
 |USub=>exact⟨rfl,h⟩
 |_=>exact av' h
def qZ' (z:UnaryOp) (f:Bool):Bool:=match z with
 | .Not=>f
 |_=>false
theorem mz' {z f} (h:qZ' z f=true):z=.Not/\f=true:=by
 cases z with
 |Not=>exact⟨rfl,h⟩
 |_=>exact av' h
def eL' (z:Expr) (f:Expr->List CmpOp->List Expr->Pos->Bool):Bool:=match z with
 | .Compare x0 x1 x2 x3=>f x0 x1 x2 x3
 |_=>false
theorem en' {z f} (h:eL' z f=true):∃x0 x1 x2 x3,z=.Compare x0 x1 x2 x3/\f x0 x1 x2 x3=true:=by
 cases z with
 |Compare x0 x1 x2 x3=>exact⟨x0,x1,x2,x3,rfl,h⟩
 |_=>exact av' h
def jw' (z:Expr) (f:Expr->Expr->Expr->Pos->Bool):Bool:=match z with
 | .IfExp x0 x1 x2 x3=>f x0 x1 x2 x3
 |_=>false
theorem iH' {z f} (h:jw' z f=true):∃x0 x1 x2 x3,z=.IfExp x0 x1 x2 x3/\f x0 x1 x2 x3=true:=by
 cases z with
 |IfExp x0 x1 x2 x3=>exact⟨x0,x1,x2,x3,rfl,h⟩
 |_=>exact av' h
def dK' (z:Expr) (f:List Expr->Nat->Pos->Bool):Bool:=match z with
 | .Tuple x0 x1 x2=>f x0 x1 x2
 |_=>false
theorem ck' {z f} (h:dK' z f=true):∃x0 x1 x2,z=.Tuple x0 x1 x2/\f x0 x1 x2=true:=by
 cases z with
 |Tuple x0 x1 x2=>exact⟨x0,x1,x2,rfl,h⟩
 |_=>exact av' h
def mA' (z:Expr) (f:List Expr->Pos->Bool):Bool:=match z with
 | .List x0 x1=>f x0 x1
 |_=>false
theorem kr' {z f} (h:mA' z f=true):∃x0 x1,z=.List x0 x1/\f x0 x1=true:=by
 cases z with
 |List x0 x1=>exact⟨x0,x1,rfl,h⟩
 |_=>exact av' h
def bW' (z:Expr) (f:Expr->Expr->Pos->Bool):Bool:=match z with
 | .Subscript x0 x1 x2=>f x0 x1 x2
 |_=>false
theorem bn' {z f} (h:bW' z f=true):∃x0 x1 x2,z=.Subscript x0 x1 x2/\f x0 x1 x2=true:=by
 cases z with
 |Subscript x0 x1 x2=>exact⟨x0,x1,x2,rfl,h⟩
 |_=>exact av' h
def jx' (z:Expr) (f:Option Expr->Option Expr->Option Expr->Pos->Bool):Bool:=match z with
 | .Slice x0 x1 x2 x3=>f x0 x1 x2 x3
 |_=>false
theorem iI' {z f} (h:jx' z f=true):∃x0 x1 x2 x3,z=.Slice x0 x1 x2 x3/\f x0 x1 x2 x3=true:=by
 cases z with
 |Slice x0 x1 x2 x3=>exact⟨x0,x1,x2,x3,rfl,h⟩
 |_=>exact av' h
def dv' (z:Expr) (f:Expr->List Expr->List Keyword->Pos->Bool):Bool:=match z with
 | .Call x0 x1 x2 x3=>f x0 x1 x2 x3
 |_=>false
theorem bF' {z f} (h:dv' z f=true):∃x0 x1 x2 x3,z=.Call x0 x1 x2 x3/\f x0 x1 x2 x3=true:=by
 cases z with
 |Call x0 x1 x2 x3=>exact⟨x0,x1,x2,x3,rfl,h⟩
 |_=>exact av' h
def dw' (z:Expr) (f:Expr->Str->Pos->Bool):Bool:=match z with
 | .Attribute x0 x1 x2=>f x0 x1 x2
 |_=>false
theorem dx' {z f} (h:dw' z f=true):∃x0 x1 x2,z=.Attribute x0 x1 x2/\f x0 x1 x2=true:=by
 cases z with
 |Attribute x0 x1 x2=>exact⟨x0,x1,x2,rfl,h⟩
 |_=>exact av' h
def mB' (z:Expr) (f:List (Option Expr)->List Expr->Pos->Bool):Bool:=match z with
 | .Dict x0 x1 x2=>f x0 x1 x2
 |_=>false
theorem ks' {z f} (h:mB' z f=true):∃x0 x1 x2,z=.Dict x0 x1 x2/\f x0 x1 x2=true:=by
 cases z with
 |Dict x0 x1 x2=>exact⟨x0,x1,x2,rfl,h⟩
 |_=>exact av' h
def fE' (z:Expr) (f:Expr->Expr->List Comprehension->Scope->Pos->Bool):Bool:=match z with
 | .DictComp x0 x1 x2 x3 x4=>f x0 x1 x2 x3 x4
 |_=>false
theorem fY' {z f} (h:fE' z f=true):∃x0 x1 x2 x3 x4,z=.DictComp x0 x1 x2 x3 x4/\f x0 x1 x2 x3 x4=true:=by
 cases z with
 |DictComp x0 x1 x2 x3 x4=>exact⟨x0,x1,x2,x3,x4,rfl,h⟩
 |_=>exact av' h
def cY' (z:Expr) (f:Expr->List Comprehension->Scope->Pos->Bool):Bool:=match z with
 | .ListComp x0 x1 x2 x3=>f x0 x1 x2 x3
 |_=>false
theorem cI' {z f} (h:cY' z f=true):∃x0 x1 x2 x3,z=.ListComp x0 x1 x2 x3/\f x0 x1 x2 x3=true:=by
 cases z with
 |ListComp x0 x1 x2 x3=>exact⟨x0,x1,x2,x3,rfl,h⟩
 |_=>exact av' h
def mC' (z:Stmt) (f:Expr->Pos->Bool):Bool:=match z with
 | .Expr x0 x1=>f x0 x1
 |_=>false
theorem kt' {z f} (h:mC' z f=true):∃x0 x1,z=.Expr x0 x1/\f x0 x1=true:=by
 cases z with
 |Expr x0 x1=>exact⟨x0,x1,rfl,h⟩
 |_=>exact av' h
def hW' (z:Stmt) (f:Option Expr->Pos->Bool):Bool:=match z with
 | .Return x0 x1=>f x0 x1
 |_=>false
theorem hX' {z f} (h:hW' z f=true):∃x0 x1,z=.Return x0 x1/\f x0 x1=true:=by
 cases z with
 |Return x0 x1=>exact⟨x0,x1,rfl,h⟩
 |_=>exact av' h
def bX' (z:Stmt) (f:List Expr->Expr->Pos->Bool):Bool:=match z with
 | .Assign x0 x1 x2=>f x0 x1 x2
 |_=>false
theorem a1' {z f} (h:bX' z f=true):∃x0 x1 x2,z=.Assign x0 x1 x2/\f x0 x1 x2=true:=by
 cases z with
 |Assign x0 x1 x2=>exact⟨x0,x1,x2,rfl,h⟩
 |_=>exact av' h
def ga' (z:Expr) (f:Expr->List Comprehension->Scope->Pos->Bool):Bool:=match z with
 | .SetComp x0 x1 x2 x3=>f x0 x1 x2 x3
 |_=>false
theorem gD' {z f} (h:ga' z f=true):∃x0 x1 x2 x3,z=.SetComp x0 x1 x2 x3/\f x0 x1 x2 x3=true:=by
 cases z with
 |SetComp x0 x1 x2 x3=>exact⟨x0,x1,x2,x3,rfl,h⟩
 |_=>exact av' h
def dy' (z:Stmt) (f:Expr->Operator->Expr->Pos->Bool):Bool:=match z with
 | .AugAssign x0 x1 x2 x3=>f x0 x1 x2 x3
 |_=>false
theorem dz' {z f} (h:dy' z f=true):∃x0 x1 x2 x3,z=.AugAssign x0 x1 x2 x3/\f x0 x1 x2 x3=true:=by
 cases z with
 |AugAssign x0 x1 x2 x3=>exact⟨x0,x1,x2,x3,rfl,h⟩
 |_=>exact av' h
def wF' (z:Stmt) (f:Expr->List Stmt->List Stmt->Pos->Bool):Bool:=match z with
 | .If x0 x1 x2 x3=>f x0 x1 x2 x3
 |_=>false
theorem o4' {z f} (h:wF' z f=true):∃x0 x1 x2 x3,z=.If x0 x1 x2 x3/\f x0 x1 x2 x3=true:=by
 cases z with
 |If x0 x1 x2 x3=>exact⟨x0,x1,x2,x3,rfl,h⟩
 |_=>exact av' h
def jy' (z:Stmt) (f:Expr->List Stmt->List Stmt->Pos->Bool):Bool:=match z with
 | .While x0 x1 x2 x3=>f x0 x1 x2 x3
 |_=>false
theorem iJ' {z f} (h:jy' z f=true):∃x0 x1 x2 x3,z=.While x0 x1 x2 x3/\f x0 x1 x2 x3=true:=by
 cases z with
 |While x0 x1 x2 x3=>exact⟨x0,x1,x2,x3,rfl,h⟩
 |_=>exact av' h
def q0' (z:Stmt) (f:Expr->Expr->List Stmt->List Stmt->Pos->Bool):Bool:=match z with
 | .For x0 x1 x2 x3 x4=>f x0 x1 x2 x3 x4
 |_=>false
theorem mD' {z f} (h:q0' z f=true):∃x0 x1 x2 x3 x4,z=.For x0 x1 x2 x3 x4/\f x0 x1 x2 x3 x4=true:=by
 cases z with
 |For x0 x1 x2 x3 x4=>exact⟨x0,x1,x2,x3,x4,rfl,h⟩
 |_=>exact av' h
def v1 (zz:Expr) (f:Str->Bool):Bool:=ba' zz fun y1 y2=>f y1
theorem AO' {zz f} {P:Prop} (h:v1 zz f=true) (k:∀x w1,zz=.Name x w1->f x=true->P):P:=by
 obtain⟨y1,y2,e0,h⟩:=aC' h
 exact k y1 y2 (by rw[e0]) h
def v2 (zz:Expr) (f:Int->Bool):Bool:=cj' zz fun y1 y2 y3=>qX' y1 fun y4=>f y4
theorem Dv' {zz f} {P:Prop} (h:v2 zz f=true) (k:∀m w1 w2,zz=.Constant (.int m) w1 w2->f m=true->P):P:=by
 obtain⟨y1,y2,y3,e0,h⟩:=bG' h
 obtain⟨y4,e1,h⟩:=mu' h
 exact k y4 y2 y3 (by rw[e0,e1]) h
def v3 (zz:Expr) (f:Bool->Bool):Bool:=cj' zz fun y1 y2 y3=>mv' y1 fun y4=>f y4
theorem Dw' {zz f} {P:Prop} (h:v3 zz f=true) (k:∀c w1 w2,zz=.Constant (.bool c) w1 w2->f c=true->P):P:=by
 obtain⟨y1,y2,y3,e0,h⟩:=bG' h
 obtain⟨y4,e1,h⟩:=ko' h
 exact k y4 y2 y3 (by rw[e0,e1]) h
def v4 (zz:Expr) (f:Bool):Bool:=cj' zz fun y1 y2 y3=>mw' y1 (f)
theorem Dx' {zz f} {P:Prop} (h:v4 zz f=true) (k:∀w1 w2,zz=.Constant .none w1 w2->f=true->P):P:=by
 obtain⟨y1,y2,y3,e0,h⟩:=bG' h
 obtain⟨e1,h⟩:=kp' h
 exact k y2 y3 (by rw[e0,e1]) h
def v5 (zz:Expr) (f:Str->Bool):Bool:=cj' zz fun y1 y2 y3=>qY' y1 fun y4=>f y4
theorem Dy' {zz f} {P:Prop} (h:v5 zz f=true) (k:∀y w1 w2,zz=.Constant (.str y) w1 w2->f y=true->P):P:=by
 obtain⟨y1,y2,y3,e0,h⟩:=bG' h
 obtain⟨y4,e1,h⟩:=mx' h
 exact k y4 y2 y3 (by rw[e0,e1]) h
def v6 (zz:Expr) (f:Expr->Operator->Expr->Bool):Bool:=jv' zz fun y1 y2 y3 y4=>f y1 y2 y3
theorem Dz' {zz f} {P:Prop} (h:v6 zz f=true) (k:∀ea op' eb w1,zz=.BinOp ea op' eb w1->f ea op' eb=true->P):P:=by
 obtain⟨y1,y2,y3,y4,e0,h⟩:=iG' h
 exact k y1 y2 y3 y4 (by rw[e0]) h
def v7 (zz:Expr) (f:Expr->Bool):Bool:=eK' zz fun y1 y2 y3=>my' y1 (f y2)
theorem DA' {zz f} {P:Prop} (h:v7 zz f=true) (k:∀ea w1,zz=.UnaryOp .USub ea w1->f ea=true->P):P:=by
 obtain⟨y1,y2,y3,e0,h⟩:=em' h
 obtain⟨e1,h⟩:=kq' h
 exact k y2 y3 (by rw[e0,e1]) h
def v8 (zz:Expr) (f:Expr->Bool):Bool:=eK' zz fun y1 y2 y3=>qZ' y1 (f y2)
theorem CV' {zz f} {P:Prop} (h:v8 zz f=true) (k:∀ea w1,zz=.UnaryOp .Not ea w1->f ea=true->P):P:=by
 obtain⟨y1,y2,y3,e0,h⟩:=em' h
 obtain⟨e1,h⟩:=mz' h
 exact k y2 y3 (by rw[e0,e1]) h
def v9 (zz:Expr) (f:Expr->CmpOp->Expr->Bool):Bool:=eL' zz fun y1 y2 y3 y4=>aw' y2 fun y5 y6=>aO' y6 (aw' y3 fun y7 y8=>aO' y8 (f y1 y5 y7))
theorem wG' {zz f} {P:Prop} (h:v9 zz f=true) (k:∀ea op' eb w1,zz=.Compare ea (op' :: []) (eb :: []) w1->f ea op' eb=true->P):P:=by
 obtain⟨y1,y2,y3,y4,e0,h⟩:=en' h
 obtain⟨y5,y6,e1,h⟩:=ai' h
 obtain⟨e2,h⟩:=ao' h
 obtain⟨y7,y8,e3,h⟩:=ai' h
 obtain⟨e4,h⟩:=ao' h
 exact k y1 y5 y7 y4 (by rw[e0,e1,e2,e3,e4]) h
def v10 (zz:Expr) (f:Expr->CmpOp->CmpOp->Expr->Expr->Bool):Bool:=eL' zz fun y1 y2 y3 y4=>aw' y2 fun y5 y6=>aw' y6 fun y7 y8=>aO' y8 (aw' y3 fun y9 y10=>aw' y10 fun y11 y12=>aO' y12 (f y1 y5 y7 y9 y11))
theorem wH' {zz f} {P:Prop} (h:v10 zz f=true) (k:∀ea o1 o2 eb ec w1,zz=.Compare ea (o1 :: (o2 :: [])) (eb :: (ec :: [])) w1->f ea o1 o2 eb ec=true->P):P:=by
 obtain⟨y1,y2,y3,y4,e0,h⟩:=en' h
 obtain⟨y5,y6,e1,h⟩:=ai' h
 obtain⟨y7,y8,e2,h⟩:=ai' h
 obtain⟨e3,h⟩:=ao' h
 obtain⟨y9,y10,e4,h⟩:=ai' h
 obtain⟨y11,y12,e5,h⟩:=ai' h
 obtain⟨e6,h⟩:=ao' h
 exact k y1 y5 y7 y9 y11 y4 (by rw[e0,e1,e2,e3,e4,e5,e6]) h
def v11 (zz:Expr) (f:Expr->Expr->Expr->Bool):Bool:=jw' zz fun y1 y2 y3 y4=>f y1 y2 y3
theorem AP' {zz f} {P:Prop} (h:v11 zz f=true) (k:∀eq ea eb w1,zz=.IfExp eq ea eb w1->f eq ea eb=true->P):P:=by
 obtain⟨y1,y2,y3,y4,e0,h⟩:=iH' h
 exact k y1 y2 y3 y4 (by rw[e0]) h
def v12 (zz:Expr) (f:List Expr->Bool):Bool:=dK' zz fun y1 y2 y3=>f y1
theorem wI' {zz f} {P:Prop} (h:v12 zz f=true) (k:∀xs w1 w2,zz=.Tuple xs w1 w2->f xs=true->P):P:=by
 obtain⟨y1,y2,y3,e0,h⟩:=ck' h
 exact k y1 y2 y3 (by rw[e0]) h
def v13 (zz:Expr) (f:List Expr->Bool):Bool:=mA' zz fun y1 y2=>f y1
theorem AQ' {zz f} {P:Prop} (h:v13 zz f=true) (k:∀xs w1,zz=.List xs w1->f xs=true->P):P:=by
 obtain⟨y1,y2,e0,h⟩:=kr' h
 exact k y1 y2 (by rw[e0]) h
def v14 (zz:Expr) (f:Expr->Expr->Bool):Bool:=bW' zz fun y1 y2 y3=>f y1 y2
theorem wJ' {zz f} {P:Prop} (h:v14 zz f=true) (k:∀ea eb w1,zz=.Subscript ea eb w1->f ea eb=true->P):P:=by
 obtain⟨y1,y2,y3,e0,h⟩:=bn' h
 exact k y1 y2 y3 (by rw[e0]) h
def v15 (zz:Expr) (f:Expr->Option Expr->Option Expr->Bool):Bool:=bW' zz fun y1 y2 y3=>jx' y2 fun y4 y5 y6 y7=>ms' y6 (f y1 y4 y5)
theorem AR' {zz f} {P:Prop} (h:v15 zz f=true) (k:∀ea l h w1 w2,zz=.Subscript ea (.Slice l h none w1) w2->f ea l h=true->P):P:=by
 obtain⟨y1,y2,y3,e0,h⟩:=bn' h
 obtain⟨y4,y5,y6,y7,e1,h⟩:=iI' h
 obtain⟨e2,h⟩:=hU' h
 exact k y1 y4 y5 y7 y3 (by rw[e0,e1,e2]) h
def v16 (zz:Expr) (f:Str->Expr->List Expr->Bool):Bool:=dv' zz fun y1 y2 y3 y4=>ba' y1 fun y5 y6=>aw' y2 fun y7 y8=>aO' y3 (f y5 y7 y8)
theorem wK' {zz f} {P:Prop} (h:v16 zz f=true) (k:∀x w1 e r w2,zz=.Call (.Name x w1) (e :: r) [] w2->f x e r=true->P):P:=by
 obtain⟨y1,y2,y3,y4,e0,h⟩:=bF' h
 obtain⟨y5,y6,e1,h⟩:=aC' h
 obtain⟨y7,y8,e2,h⟩:=ai' h
 obtain⟨e3,h⟩:=ao' h
 exact k y5 y6 y7 y8 y4 (by rw[e0,e1,e2,e3]) h
def v17 (zz:Expr) (f:Expr->Str->Pos->List Expr->Pos->Bool):Bool:=dv' zz fun y1 y2 y3 y4=>dw' y1 fun y5 y6 y7=>aO' y3 (f y5 y6 y7 y2 y4)
theorem AS' {zz f} {P:Prop} (h:v17 zz f=true) (k:∀eo nm apos args pos,zz=.Call (.Attribute eo nm apos) args [] pos->f eo nm apos args pos=true->P):P:=by
 obtain⟨y1,y2,y3,y4,e0,h⟩:=bF' h
 obtain⟨y5,y6,y7,e1,h⟩:=dx' h
 obtain⟨e2,h⟩:=ao' h
 exact k y5 y6 y7 y2 y4 (by rw[e0,e1,e2]) h
def v18 (zz:Expr) (f:Bool):Bool:=mB' zz fun y1 y2 y3=>aO' y1 (aO' y2 (f))
theorem AT' {zz f} {P:Prop} (h:v18 zz f=true) (k:∀w1,zz=.Dict [] [] w1->f=true->P):P:=by
 obtain⟨y1,y2,y3,e0,h⟩:=ks' h
 obtain⟨e1,h⟩:=ao' h
 obtain⟨e2,h⟩:=ao' h
 exact k y3 (by rw[e0,e1,e2]) h
def v20 (zz:Expr) (f:Expr->Str->Pos->Expr->Pos->Bool):Bool:=dv' zz fun y1 y2 y3 y4=>dw' y1 fun y5 y6 y7=>aw' y2 fun y8 y9=>aO' y9 (aO' y3 (f y5 y6 y7 y8 y4))
theorem AU' {zz f} {P:Prop} (h:v20 zz f=true) (k:∀eo nm apos y pos,zz=.Call (.Attribute eo nm apos) (y :: []) [] pos->f eo nm apos y pos=true->P):P:=by
 obtain⟨y1,y2,y3,y4,e0,h⟩:=bF' h
 obtain⟨y5,y6,y7,e1,h⟩:=dx' h
 obtain⟨y8,y9,e2,h⟩:=ai' h
 obtain⟨e3,h⟩:=ao' h
 obtain⟨e4,h⟩:=ao' h
 exact k y5 y6 y7 y8 y4 (by rw[e0,e1,e2,e3,e4]) h
def v23 (zz:Expr) (f:Str->Expr->Bool):Bool:=dv' zz fun y1 y2 y3 y4=>ba' y1 fun y5 y6=>aw' y2 fun y7 y8=>aO' y8 (aO' y3 (f y5 y7))
theorem wL' {zz f} {P:Prop} (h:v23 zz f=true) (k:∀x w1 y w2,zz=.Call (.Name x w1) (y :: []) [] w2->f x y=true->P):P:=by
 obtain⟨y1,y2,y3,y4,e0,h⟩:=bF' h
 obtain⟨y5,y6,e1,h⟩:=aC' h
 obtain⟨y7,y8,e2,h⟩:=ai' h
 obtain⟨e3,h⟩:=ao' h
 obtain⟨e4,h⟩:=ao' h
 exact k y5 y6 y7 y4 (by rw[e0,e1,e2,e3,e4]) h
def v84 (zz:Expr) (f:Str->Str->Expr->Expr->Bool):Bool:=dv' zz fun y1 y2 y3 y4=>ba' y1 fun y5 y6=>aw' y2 fun y7 y8=>dv' y7 fun y9 y10 y11 y12=>ba' y9 fun y13 y14=>aw' y10 fun y15 y16=>aw' y16 fun y17 y18=>aO' y18 (aO' y11 (aO' y8 (aO' y3 (f y5 y13 y15 y17))))
theorem AV' {zz f} {P:Prop} (h:v84 zz f=true) (k:∀n1 w1 n2 w2 y y' w3 w4,zz=.Call (.Name n1 w1) ((.Call (.Name n2 w2) (y :: (y' :: [])) [] w3) :: []) [] w4->f n1 n2 y y'=true->P):P:=by
 obtain⟨y1,y2,y3,y4,e0,h⟩:=bF' h
 obtain⟨y5,y6,e1,h⟩:=aC' h
 obtain⟨y7,y8,e2,h⟩:=ai' h
 obtain⟨y9,y10,y11,y12,e3,h⟩:=bF' h
 obtain⟨y13,y14,e4,h⟩:=aC' h
 obtain⟨y15,y16,e5,h⟩:=ai' h
 obtain⟨y17,y18,e6,h⟩:=ai' h
 obtain⟨e7,h⟩:=ao' h
 obtain⟨e8,h⟩:=ao' h
 obtain⟨e9,h⟩:=ao' h
 obtain⟨e10,h⟩:=ao' h
 exact k y5 y6 y13 y14 y15 y17 y12 y4 (by rw[e0,e1,e2,e3,e4,e5,e6,e7,e8,e9,e10]) h
def v26 (zz:Expr) (f:Expr->Expr->Expr->List Expr->Int->Scope->Bool):Bool:=cY' zz fun y1 y2 y3 y4=>aw' y2 fun y5 y6=>fX' y5 fun y7 y8 y9 y10=>aO' y6 (f y1 y7 y8 y9 y10 y3)
theorem AW' {zz f} {P:Prop} (h:v26 zz f=true) (k:∀ee tg iter ifs a scope w1,zz=.ListComp ee (⟨tg,iter,ifs,a⟩ :: []) scope w1->f ee tg iter ifs a scope=true->P):P:=by
 obtain⟨y1,y2,y3,y4,e0,h⟩:=cI' h
 obtain⟨y5,y6,e1,h⟩:=ai' h
 obtain⟨y7,y8,y9,y10,e2,h⟩:=b1' h
 obtain⟨e3,h⟩:=ao' h
 exact k y1 y7 y8 y9 y10 y3 y4 (by rw[e0,e1,e2,e3]) h
def v27 (zz:Expr) (f:Expr->Expr->Expr->List Expr->Int->Expr->Expr->List Expr->Int->Scope->Bool):Bool:=cY' zz fun y1 y2 y3 y4=>aw' y2 fun y5 y6=>fX' y5 fun y7 y8 y9 y10=>aw' y6 fun y11 y12=>fX' y11 fun y13 y14 y15 y16=>aO' y12 (f y1 y7 y8 y9 y10 y13 y14 y15 y16 y3)
theorem AX' {zz f} {P:Prop} (h:v27 zz f=true) (k:∀ee tg iter ifs a tg2 iter2 ifs2 a2 scope w1,zz=.ListComp ee (⟨tg,iter,ifs,a⟩ :: (⟨tg2,iter2,ifs2,a2⟩ :: [])) scope w1->f ee tg iter ifs a tg2 iter2 ifs2 a2 scope=true->P):P:=by
 obtain⟨y1,y2,y3,y4,e0,h⟩:=cI' h
 obtain⟨y5,y6,e1,h⟩:=ai' h
 obtain⟨y7,y8,y9,y10,e2,h⟩:=b1' h
 obtain⟨y11,y12,e3,h⟩:=ai' h
 obtain⟨y13,y14,y15,y16,e4,h⟩:=b1' h
 obtain⟨e5,h⟩:=ao' h
 exact k y1 y7 y8 y9 y10 y13 y14 y15 y16 y3 y4 (by rw[e0,e1,e2,e3,e4,e5]) h
def v28 (zz:Expr) (f:Expr->Expr->Expr->List Expr->Int->Expr->Expr->List Expr->Int->Expr->Expr->List Expr->Int->Scope->Bool):Bool:=cY' zz fun y1 y2 y3 y4=>aw' y2 fun y5 y6=>fX' y5 fun y7 y8 y9 y10=>aw' y6 fun y11 y12=>fX' y11 fun y13 y14 y15 y16=>aw' y12 fun y17 y18=>fX' y17 fun y19 y20 y21 y22=>aO' y18 (f y1 y7 y8 y9 y10 y13 y14 y15 y16 y19 y20 y21 y22 y3)
theorem AY' {zz f} {P:Prop} (h:v28 zz f=true) (k:∀ee tg iter ifs a tg2 iter2 ifs2 a2 tg3 iter3 ifs3 a3 scope w1,zz=.ListComp ee (⟨tg,iter,ifs,a⟩ :: (⟨tg2,iter2,ifs2,a2⟩ :: (⟨tg3,iter3,ifs3,a3⟩ :: []))) scope w1->f ee tg iter ifs a tg2 iter2 ifs2 a2 tg3 iter3 ifs3 a3 scope=true->P):P:=by
 obtain⟨y1,y2,y3,y4,e0,h⟩:=cI' h
 obtain⟨y5,y6,e1,h⟩:=ai' h
 obtain⟨y7,y8,y9,y10,e2,h⟩:=b1' h
 obtain⟨y11,y12,e3,h⟩:=ai' h
 obtain⟨y13,y14,y15,y16,e4,h⟩:=b1' h
 obtain⟨y17,y18,e5,h⟩:=ai' h
 obtain⟨y19,y20,y21,y22,e6,h⟩:=b1' h
 obtain⟨e7,h⟩:=ao' h
 exact k y1 y7 y8 y9 y10 y13 y14 y15 y16 y19 y20 y21 y22 y3 y4 (by rw[e0,e1,e2,e3,e4,e5,e6,e7]) h
def v29 (zz:List Expr) (f:Bool):Bool:=aO' zz (f)
theorem mE' {zz f} {P:Prop} (h:v29 zz f=true) (k:zz=[]->f=true->P):P:=by
 obtain⟨e0,h⟩:=ao' h
 exact k (by rw[e0]) h
def v30 (zz:List Expr) (f:Expr->List Expr->Bool):Bool:=aw' zz fun y1 y2=>f y1 y2
theorem o5' {zz f} {P:Prop} (h:v30 zz f=true) (k:∀x xs,zz=(x :: xs)->f x xs=true->P):P:=by
 obtain⟨y1,y2,e0,h⟩:=ai' h
 exact k y1 y2 (by rw[e0]) h
def v31 (zz:List Expr) (f:Expr->Bool):Bool:=aw' zz fun y1 y2=>aO' y2 (f y1)
theorem AZ' {zz f} {P:Prop} (h:v31 zz f=true) (k:∀e,zz=(e :: [])->f e=true->P):P:=by
 obtain⟨y1,y2,e0,h⟩:=ai' h
 obtain⟨e1,h⟩:=ao' h
 exact k y1 (by rw[e0,e1]) h
def v32 (zz:Option Expr) (f:Bool):Bool:=ms' zz (f)
theorem A0' {zz f} {P:Prop} (h:v32 zz f=true) (k:zz=none->f=true->P):P:=by
 obtain⟨e0,h⟩:=hU' h
 exact k (by rw[e0]) h
def v33 (zz:Option Expr) (f:Expr->Bool):Bool:=mt' zz fun y1=>f y1
theorem A1' {zz f} {P:Prop} (h:v33 zz f=true) (k:∀y,zz=(some y)->f y=true->P):P:=by
 obtain⟨y1,e0,h⟩:=hV' h
 exact k y1 (by rw[e0]) h
def v34 (zz:Expr) (f:Str->Expr->Expr->Bool):Bool:=dv' zz fun y1 y2 y3 y4=>ba' y1 fun y5 y6=>aw' y2 fun y7 y8=>aw' y8 fun y9 y10=>aO' y10 (aO' y3 (f y5 y7 y9))
theorem wM' {zz f} {P:Prop} (h:v34 zz f=true) (k:∀n w1 y z w2,zz=.Call (.Name n w1) (y :: (z :: [])) [] w2->f n y z=true->P):P:=by
 obtain⟨y1,y2,y3,y4,e0,h⟩:=bF' h
 obtain⟨y5,y6,e1,h⟩:=aC' h
 obtain⟨y7,y8,e2,h⟩:=ai' h
 obtain⟨y9,y10,e3,h⟩:=ai' h
 obtain⟨e4,h⟩:=ao' h
 obtain⟨e5,h⟩:=ao' h
 exact k y5 y6 y7 y9 y4 (by rw[e0,e1,e2,e3,e4,e5]) h
def v36 (zz:Stmt) (f:Expr->Bool):Bool:=mC' zz fun y1 y2=>f y1
theorem A2' {zz f} {P:Prop} (h:v36 zz f=true) (k:∀x w1,zz=.Expr x w1->f x=true->P):P:=by
 obtain⟨y1,y2,e0,h⟩:=kt' h
 exact k y1 y2 (by rw[e0]) h
def v37 (zz:Stmt) (f:Expr->Bool):Bool:=hW' zz fun y1 y2=>mt' y1 fun y3=>f y3
theorem A3' {zz f} {P:Prop} (h:v37 zz f=true) (k:∀x w1,zz=.Return (some x) w1->f x=true->P):P:=by
 obtain⟨y1,y2,e0,h⟩:=hX' h
 obtain⟨y3,e1,h⟩:=hV' h
 exact k y3 y2 (by rw[e0,e1]) h
def v39 (zz:Stmt) (f:Expr->Expr->Bool):Bool:=bX' zz fun y1 y2 y3=>aw' y1 fun y4 y5=>aO' y5 (f y4 y2)
theorem A4' {zz f} {P:Prop} (h:v39 zz f=true) (k:∀tg x w1,zz=.Assign (tg :: []) x w1->f tg x=true->P):P:=by
 obtain⟨y1,y2,y3,e0,h⟩:=a1' h
 obtain⟨y4,y5,e1,h⟩:=ai' h
 obtain⟨e2,h⟩:=ao' h
 exact k y4 y2 y3 (by rw[e0,e1,e2]) h
def v41 (zz:Stmt) (f:Str->Pos->Expr->Expr->Expr->List Expr->Int->Expr->Expr->List Expr->Int->Scope->Bool):Bool:=bX' zz fun y1 y2 y3=>aw' y1 fun y4 y5=>ba' y4 fun y6 y7=>aO' y5 (ga' y2 fun y8 y9 y10 y11=>aw' y9 fun y12 y13=>fX' y12 fun y14 y15 y16 y17=>aw' y13 fun y18 y19=>fX' y18 fun y20 y21 y22 y23=>aO' y19 (f y6 y7 y8 y14 y15 y16 y17 y20 y21 y22 y23 y10))
theorem A5' {zz f} {P:Prop} (h:v41 zz f=true) (k:∀y py ee tg iter ifs a tg2 iter2 ifs2 a2 scope w1 w2,zz=.Assign ((.Name y py) :: []) (.SetComp ee (⟨tg,iter,ifs,a⟩ :: (⟨tg2,iter2,ifs2,a2⟩ :: [])) scope w1) w2->f y py ee tg iter ifs a tg2 iter2 ifs2 a2 scope=true->P):P:=by
 obtain⟨y1,y2,y3,e0,h⟩:=a1' h
 obtain⟨y4,y5,e1,h⟩:=ai' h
 obtain⟨y6,y7,e2,h⟩:=aC' h
 obtain⟨e3,h⟩:=ao' h
 obtain⟨y8,y9,y10,y11,e4,h⟩:=gD' h
 obtain⟨y12,y13,e5,h⟩:=ai' h
 obtain⟨y14,y15,y16,y17,e6,h⟩:=b1' h
 obtain⟨y18,y19,e7,h⟩:=ai' h
 obtain⟨y20,y21,y22,y23,e8,h⟩:=b1' h
 obtain⟨e9,h⟩:=ao' h
 exact k y6 y7 y8 y14 y15 y16 y17 y20 y21 y22 y23 y10 y11 y3 (by rw[e0,e1,e2,e3,e4,e5,e6,e7,e8,e9]) h
def v42 (zz:Stmt) (f:Str->Pos->Expr->Expr->Expr->Expr->List Expr->Int->Scope->Bool):Bool:=bX' zz fun y1 y2 y3=>aw' y1 fun y4 y5=>ba' y4 fun y6 y7=>aO' y5 (fE' y2 fun y8 y9 y10 y11 y12=>aw' y10 fun y13 y14=>fX' y13 fun y15 y16 y17 y18=>aO' y14 (f y6 y7 y8 y9 y15 y16 y17 y18 y11))
theorem A6' {zz f} {P:Prop} (h:v42 zz f=true) (k:∀y py ke ve tg iter ifs a scope w1 w2,zz=.Assign ((.Name y py) :: []) (.DictComp ke ve (⟨tg,iter,ifs,a⟩ :: []) scope w1) w2->f y py ke ve tg iter ifs a scope=true->P):P:=by
 obtain⟨y1,y2,y3,e0,h⟩:=a1' h
 obtain⟨y4,y5,e1,h⟩:=ai' h
 obtain⟨y6,y7,e2,h⟩:=aC' h
 obtain⟨e3,h⟩:=ao' h
 obtain⟨y8,y9,y10,y11,y12,e4,h⟩:=fY' h
 obtain⟨y13,y14,e5,h⟩:=ai' h
 obtain⟨y15,y16,y17,y18,e6,h⟩:=b1' h
 obtain⟨e7,h⟩:=ao' h
 exact k y6 y7 y8 y9 y15 y16 y17 y18 y11 y12 y3 (by rw[e0,e1,e2,e3,e4,e5,e6,e7]) h
def v43 (zz:Stmt) (f:Str->Pos->Str->Pos->Expr->Expr->Bool):Bool:=bX' zz fun y1 y2 y3=>aw' y1 fun y4 y5=>dK' y4 fun y6 y7 y8=>aw' y6 fun y9 y10=>ba' y9 fun y11 y12=>aw' y10 fun y13 y14=>ba' y13 fun y15 y16=>aO' y14 (aO' y5 (dK' y2 fun y17 y18 y19=>aw' y17 fun y20 y21=>aw' y21 fun y22 y23=>aO' y23 (f y11 y12 y15 y16 y20 y22)))
theorem A7' {zz f} {P:Prop} (h:v43 zz f=true) (k:∀x px y py w1 w2 ea eb w3 w4 w5,zz=.Assign ((.Tuple ((.Name x px) :: ((.Name y py) :: [])) w1 w2) :: []) (.Tuple (ea :: (eb :: [])) w3 w4) w5->f x px y py ea eb=true->P):P:=by
 obtain⟨y1,y2,y3,e0,h⟩:=a1' h
 obtain⟨y4,y5,e1,h⟩:=ai' h
 obtain⟨y6,y7,y8,e2,h⟩:=ck' h
 obtain⟨y9,y10,e3,h⟩:=ai' h
 obtain⟨y11,y12,e4,h⟩:=aC' h
 obtain⟨y13,y14,e5,h⟩:=ai' h
 obtain⟨y15,y16,e6,h⟩:=aC' h
 obtain⟨e7,h⟩:=ao' h
 obtain⟨e8,h⟩:=ao' h
 obtain⟨y17,y18,y19,e9,h⟩:=ck' h
 obtain⟨y20,y21,e10,h⟩:=ai' h
 obtain⟨y22,y23,e11,h⟩:=ai' h
 obtain⟨e12,h⟩:=ao' h
 exact k y11 y12 y15 y16 y7 y8 y20 y22 y18 y19 y3 (by rw[e0,e1,e2,e3,e4,e5,e6,e7,e8,e9,e10,e11,e12]) h
def v44 (zz:Stmt) (f:Str->Str->Expr->Expr->Bool):Bool:=bX' zz fun y1 y2 y3=>aw' y1 fun y4 y5=>dK' y4 fun y6 y7 y8=>aw' y6 fun y9 y10=>ba' y9 fun y11 y12=>aw' y10 fun y13 y14=>ba' y13 fun y15 y16=>aO' y14 (aO' y5 (dK' y2 fun y17 y18 y19=>aw' y17 fun y20 y21=>aw' y21 fun y22 y23=>aO' y23 (f y11 y15 y20 y22)))
theorem A8' {zz f} {P:Prop} (h:v44 zz f=true) (k:∀x w1 y w2 w3 w4 ea eb w5 w6 w7,zz=.Assign ((.Tuple ((.Name x w1) :: ((.Name y w2) :: [])) w3 w4) :: []) (.Tuple (ea :: (eb :: [])) w5 w6) w7->f x y ea eb=true->P):P:=by
 obtain⟨y1,y2,y3,e0,h⟩:=a1' h
 obtain⟨y4,y5,e1,h⟩:=ai' h
 obtain⟨y6,y7,y8,e2,h⟩:=ck' h
 obtain⟨y9,y10,e3,h⟩:=ai' h
 obtain⟨y11,y12,e4,h⟩:=aC' h
 obtain⟨y13,y14,e5,h⟩:=ai' h
 obtain⟨y15,y16,e6,h⟩:=aC' h
 obtain⟨e7,h⟩:=ao' h
 obtain⟨e8,h⟩:=ao' h
 obtain⟨y17,y18,y19,e9,h⟩:=ck' h
 obtain⟨y20,y21,e10,h⟩:=ai' h
 obtain⟨y22,y23,e11,h⟩:=ai' h
 obtain⟨e12,h⟩:=ao' h
 exact k y11 y12 y15 y16 y7 y8 y20 y22 y18 y19 y3 (by rw[e0,e1,e2,e3,e4,e5,e6,e7,e8,e9,e10,e11,e12]) h
def v47 (zz:Stmt) (f:Str->Str->Expr->Bool):Bool:=bX' zz fun y1 y2 y3=>aw' y1 fun y4 y5=>ba' y4 fun y6 y7=>aw' y5 fun y8 y9=>ba' y8 fun y10 y11=>aO' y9 (f y6 y10 y2)
theorem A9' {zz f} {P:Prop} (h:v47 zz f=true) (k:∀x w1 y w2 ee w3,zz=.Assign ((.Name x w1) :: ((.Name y w2) :: [])) ee w3->f x y ee=true->P):P:=by
 obtain⟨y1,y2,y3,e0,h⟩:=a1' h
 obtain⟨y4,y5,e1,h⟩:=ai' h
 obtain⟨y6,y7,e2,h⟩:=aC' h
 obtain⟨y8,y9,e3,h⟩:=ai' h
 obtain⟨y10,y11,e4,h⟩:=aC' h
 obtain⟨e5,h⟩:=ao' h
 exact k y6 y7 y10 y11 y2 y3 (by rw[e0,e1,e2,e3,e4,e5]) h
def v48 (zz:Stmt) (f:Expr->Expr->Expr->Bool):Bool:=bX' zz fun y1 y2 y3=>aw' y1 fun y4 y5=>bW' y4 fun y6 y7 y8=>aO' y5 (f y6 y7 y2)
theorem Ba' {zz f} {P:Prop} (h:v48 zz f=true) (k:∀eo ei w1 ee w2,zz=.Assign ((.Subscript eo ei w1) :: []) ee w2->f eo ei ee=true->P):P:=by
 obtain⟨y1,y2,y3,e0,h⟩:=a1' h
 obtain⟨y4,y5,e1,h⟩:=ai' h
 obtain⟨y6,y7,y8,e2,h⟩:=bn' h
 obtain⟨e3,h⟩:=ao' h
 exact k y6 y7 y8 y2 y3 (by rw[e0,e1,e2,e3]) h
def v49 (zz:Stmt) (f:Str->Operator->Expr->Bool):Bool:=dy' zz fun y1 y2 y3 y4=>ba' y1 fun y5 y6=>f y5 y2 y3
theorem Bb' {zz f} {P:Prop} (h:v49 zz f=true) (k:∀x w1 op ee w2,zz=.AugAssign (.Name x w1) op ee w2->f x op ee=true->P):P:=by
 obtain⟨y1,y2,y3,y4,e0,h⟩:=dz' h
 obtain⟨y5,y6,e1,h⟩:=aC' h
 exact k y5 y6 y2 y3 y4 (by rw[e0,e1]) h
def v50 (zz:Stmt) (f:Expr->List Stmt->List Stmt->Bool):Bool:=wF' zz fun y1 y2 y3 y4=>f y1 y2 y3
theorem Bc' {zz f} {P:Prop} (h:v50 zz f=true) (k:∀x ss rs w1,zz=.If x ss rs w1->f x ss rs=true->P):P:=by
 obtain⟨y1,y2,y3,y4,e0,h⟩:=o4' h
 exact k y1 y2 y3 y4 (by rw[e0]) h
def v51 (zz:Stmt) (f:Expr->List Stmt->Bool):Bool:=jy' zz fun y1 y2 y3 y4=>aO' y3 (f y1 y2)
theorem Bd' {zz f} {P:Prop} (h:v51 zz f=true) (k:∀x ss w1,zz=.While x ss [] w1->f x ss=true->P):P:=by
 obtain⟨y1,y2,y3,y4,e0,h⟩:=iJ' h
 obtain⟨e1,h⟩:=ao' h
 exact k y1 y2 y4 (by rw[e0,e1]) h
def v52 (zz:Stmt) (f:Expr->Expr->List Stmt->Bool):Bool:=q0' zz fun y1 y2 y3 y4 y5=>aO' y4 (f y1 y2 y3)
theorem Be' {zz f} {P:Prop} (h:v52 zz f=true) (k:∀tg iter ss w1,zz=.For tg iter ss [] w1->f tg iter ss=true->P):P:=by
 obtain⟨y1,y2,y3,y4,y5,e0,h⟩:=mD' h
 obtain⟨e1,h⟩:=ao' h
 exact k y1 y2 y3 y5 (by rw[e0,e1]) h
def v56 (zz:List Stmt) (f:Bool):Bool:=aO' zz (f)
theorem Bf' {zz f} {P:Prop} (h:v56 zz f=true) (k:zz=[]->f=true->P):P:=by
 obtain⟨e0,h⟩:=ao' h
 exact k (by rw[e0]) h
def v57 (zz:List Stmt) (f:Stmt->List Stmt->Bool):Bool:=aw' zz fun y1 y2=>f y1 y2
theorem Bg' {zz f} {P:Prop} (h:v57 zz f=true) (k:∀x xs,zz=(x :: xs)->f x xs=true->P):P:=by
 obtain⟨y1,y2,e0,h⟩:=ai' h
 exact k y1 y2 (by rw[e0]) h
def v58 (zz:Stmt) (f:Expr->Expr->Operator->Expr->Bool):Bool:=dy' zz fun y1 y2 y3 y4=>bW' y1 fun y5 y6 y7=>f y5 y6 y2 y3
theorem Bh' {zz f} {P:Prop} (h:v58 zz f=true) (k:∀eo ei w1 op ee w2,zz=.AugAssign (.Subscript eo ei w1) op ee w2->f eo ei op ee=true->P):P:=by
 obtain⟨y1,y2,y3,y4,e0,h⟩:=dz' h
 obtain⟨y5,y6,y7,e1,h⟩:=bn' h
 exact k y5 y6 y7 y2 y3 y4 (by rw[e0,e1]) h
mutual
def mE (N B:List Str) (sc:Scope):Ce->Expr->Bool
 | .var i,e=>v1 e fun x=>du' N i x&&vis sc x
 | .int n,e=>v2 e fun m=>decide (n=m)
 | .bl b,e=>v3 e fun c=>decide (b=c)
 | .non,e=>v4 e (true)
 | .str x,e=>v5 e fun y=>decide (x=y)
 | .ty n,e=>v1 e fun x=>decide (x=Str.ofString n)&&glb sc x&&hP'.contains n&&decide (x∈B)
 | .bin op a b,e=>v6 e fun ea op' eb=>decide (op=op')&&mE N B sc a ea&&mE N B sc b eb
 | .neg a,e=>v7 e fun ea=>mE N B sc a ea
 | .not a,e=>v8 e fun ea=>mE N B sc a ea
 | .and a b,e=>AN' e fun x y=>mE N B sc a x&&mE N B sc b y
 | .or a b,e=>vOr e fun x y=>mE N B sc a x&&mE N B sc b y
 | .cmp op a b,e=>v9 e fun ea op' eb=>decide (op=op')&&mE N B sc a ea&&mE N B sc b eb&&aP' eb
 | .chn op1 op2 a b c,e=>v10 e fun ea o1 o2 eb ec=>decide (op1=o1)&&decide (op2=o2)&&mE N B sc a ea&&mE N B sc b eb&&mE N B sc c ec&&aP' ec
 | .ife q a b,e=>v11 e fun eq ea eb=>mQ N B sc q eq&&mE N B sc a ea&&mE N B sc b eb
 | .tup es,e=>v12 e fun xs=>mA N B sc es xs
 | .lst es,e=>v13 e fun xs=>mA N B sc es xs
 | .idx a b,e=>v14 e fun ea eb=>mE N B sc a ea&&mE N B sc b eb&&cX' eb
 | .cut a lo hi,e=>v15 e fun ea l h=>mE N B sc a ea&&mO N B sc lo l&&mO N B sc hi h
 | .call f es,e=>v16 e fun x e r=>decide (x=f)&&glb sc x&&mA N B sc es (e :: r)&&!(x == ("__debug__":Str))&&!(hat B)&&!(tld B&&decide (u3' x∈B))
 | .blt f es,e=>v16 e fun x e r=>decide (x=fD' f)&&glb sc x&&mA N B sc es (e :: r)&&decide (x∈B)&&(!(hat B) || decide (f=.isinstance))
 | .met m o es,e=>v17 e fun eo nm apos args pos=>decide (nm=mo' m)&&mE N B sc o eo&&mp' eo&&(apos.endLine == pos.line)&&mA N B sc es args&&decide (args.length<28)
 | .dnew,e=>v18 e (true)
 | .din neg a b,e=>v9 e fun ea op' eb=>decide (op'=if neg then .NotIn else .In)&&mE N B sc a ea&&mE N B sc b eb&&aP' eb
 | .dgt a b,e=>v20 e fun eo nm apos y pos=>decide (nm="get")&&mE N B sc a eo&&mp' eo&&(apos.endLine == pos.line)&&mE N B sc b y&&aB' y
 | .lzp a b,e=>v84 e fun n1 n2 y y2=>decide (n1="list")&&decide (n2="zip")&&glb sc n1&&decide (n1∈B)&&glb sc n2&&decide (n2∈B)&&mE N B sc a y&&aB' y&&mE N B sc b y2&&aB' y2&&!(hat B)
 | .cmv k a b,e=>v9 e fun ea op' eb=>decide (op'=CU' k)&&mE N B sc a ea&&mE N B sc b eb&&aP' eb
 | .comp elt own t it q .nil,e=>v26 e fun ee tg iter ifs a scope=>!(hat B)&&kS' N sc scope own&&mE N ("~" :: B) scope elt ee&&gC' own t&&decide (a=0)&&mI N B sc it iter&&hQ' it tg&&aP' iter&&mT N ("~" :: B) scope t tg&&mQo N ("~" :: B) scope q ifs
 | .comp elt own t it q (.cons ws t2 it2 q2 .nil),e=>v27 e fun ee tg iter ifs a tg2 iter2 ifs2 a2 scope=>!(hat B)&&kS' N sc scope own&&mE N ("~" :: B) scope elt ee&&gC' own t&&decide (a=0)&&mI N B sc it iter&&hQ' it tg&&aP' iter&&mT N ("~" :: B) scope t tg&&mQo N ("~" :: B) scope q ifs&&
    decide (a2=0)&&mI N ("~" :: B) scope it2 iter2&&hQ' it2 tg2&&aP' iter2&&mT N ("~" :: B) scope t2 tg2&&mQo N ("~" :: B) scope q2 ifs2&&gC' ws t2&&ws.all (fun j=>decide (j∈own))
 | .comp elt own t it q (.cons ws t2 it2 q2 (.cons ws3 t3 it3 q3 .nil)),e=>v28 e fun ee tg iter ifs a tg2 iter2 ifs2 a2 tg3 iter3 ifs3 a3 scope=>!(hat B)&&kS' N sc scope own&&mE N ("~" :: B) scope elt ee&&gC' own t&&decide (a=0)&&mI N B sc it iter&&hQ' it tg&&aP' iter&&mT N ("~" :: B) scope t tg&&mQo N ("~" :: B) scope q ifs&&
    decide (a2=0)&&mI N ("~" :: B) scope it2 iter2&&hQ' it2 tg2&&aP' iter2&&mT N ("~" :: B) scope t2 tg2&&mQo N ("~" :: B) scope q2 ifs2&&gC' ws t2&&ws.all (fun j=>decide (j∈own))&&
    decide (a3=0)&&mI N ("~" :: B) scope it3 iter3&&hQ' it3 tg3&&aP' iter3&&mT N ("~" :: B) scope t3 tg3&&mQo N ("~" :: B) scope q3 ifs3&&gC' ws3 t3&&ws3.all (fun j=>decide (j∈ws))
 | .comp _ _ _ _ _ (.cons _ _ _ _ (.cons _ _ _ _ (.cons _ _ _ _ _))),_=>false
def mA (N B:List Str) (sc:Scope):Ces->List Expr->Bool
 | .nil,es=>v29 es (true)
 | .cons e r,es=>v30 es fun x xs=>mE N B sc e x&&aB' x&&mA N B sc r xs
def mQ (N B:List Str) (sc:Scope):Cq->Expr->Bool
 | .val e,x=>mE N B sc e x&&qV' x
 | .not q,x=>v8 x fun y=>mQ N B sc q y
 | .and a b,e=>AN' e fun x y=>mQ N B sc a x&&mQ N B sc b y
 | .or a b,e=>vOr e fun x y=>mQ N B sc a x&&mQ N B sc b y
 | .cmp op a b,e=>v9 e fun ea op' eb=>decide (op=op')&&mE N B sc a ea&&mE N B sc b eb&&aP' eb
 | .chn op1 op2 a b c,e=>v10 e fun ea o1 o2 eb ec=>decide (op1=o1)&&decide (op2=o2)&&mE N B sc a ea&&mE N B sc b eb&&mE N B sc c ec&&aP' ec
 | .din neg a b,e=>v9 e fun ea op' eb=>decide (op'=if neg then .NotIn else .In)&&mE N B sc a ea&&mE N B sc b eb&&aP' eb
def mQo (N B:List Str) (sc:Scope):Cqo->List Expr->Bool
 | .none,es=>v29 es (true)
 | .some q,es=>v31 es fun e=>mQ N B sc q e
def mO (N B:List Str) (sc:Scope):Co->Option Expr->Bool
 | .none,x=>v32 x (true)
 | .some e,x=>v33 x fun y=>mE N B sc e y
def mI (N B:List Str) (sc:Scope):Ci->Expr->Bool
 | .val e,x=>mE N B sc e x
 | .range1 a,x=>v23 x fun n y=>decide (n="range")&&glb sc n&&decide (n∈B)&&mE N B sc a y&&aB' y
 | .range2 a b,x=>v34 x fun n y z=>decide (n="range")&&glb sc n&&decide (n∈B)&&mE N B sc a y&&aB' y&&mE N B sc b z&&aB' z
 | .zip a b,x=>v34 x fun n y z=>decide (n="zip")&&glb sc n&&decide (n∈B)&&mE N B sc a y&&aB' y&&mE N B sc b z&&aB' z
 | .enum a,x=>v23 x fun n y=>decide (n="enumerate")&&glb sc n&&decide (n∈B)&&mE N B sc a y&&aB' y
def mT (N B:List Str) (sc:Scope):Ct->Expr->Bool
 | .name i,e=>v1 e fun x=>du' N i x&&locb sc x
 | .tup ts,e=>v12 e fun es=>mTs N B sc ts es&&!(hat B)
 | .sub o i,e=>v14 e fun eo ei=>mE N B sc o eo&&mE N B sc i ei&&cX' ei
def mTs (N B:List Str) (sc:Scope):Cts->List Expr->Bool
 | .nil,es=>v29 es (true)
 | .cons t r,es=>v30 es fun x xs=>mT N B sc t x&&aB' x&&mTs N B sc r xs
end
def iK':Ce->Bool
 |_=>false
mutual
def mS (N B:List Str) (sc:Scope):Cs->Stmt->Bool
 | .expr e,s=>v36 s fun x=>mE N B sc e x&&(match e with | .comp ..=>false|_=>true)&&!iK' e
 | .ret e,s=>v37 s fun x=>mE N B sc e x
 | .asg t e,s=>v39 s fun tg x=>mE N B sc e x&&!iK' e&&mT N B sc t tg&&aB' tg&&(match tg,x with
   | .Tuple ..,.Tuple vs _ _=>vs.all (foldedForSure 8)
   | .Tuple ..,.ListComp ..=>false
   |_,_=>true)
 | .setc2 i elt own t it q ws t2 it2 q2,s=>v41 s fun y py ee tg iter ifs a tg2 iter2 ifs2 a2 scope=>!(hat B)&&mT N B sc (.name i) (.Name y py)&&kS' N sc scope own&&mE N ("~" :: B) scope elt ee&&gC' own t&&decide (a=0)&&mI N B sc it iter&&hQ' it tg&&aP' iter&&mT N ("~" :: B) scope t tg&&mQo N ("~" :: B) scope q ifs&&
    decide (a2=0)&&mI N ("~" :: B) scope it2 iter2&&hQ' it2 tg2&&aP' iter2&&mT N ("~" :: B) scope t2 tg2&&mQo N ("~" :: B) scope q2 ifs2&&gC' ws t2&&ws.all (fun j=>decide (j∈own))
 | .dctc _ i k v own t it q,s=>v42 s fun y py ke ve tg iter ifs a scope=>!(hat B)&&mT N B sc (.name i) (.Name y py)&&kS' N sc scope own&&mE N ("~" :: B) scope k ke&&mE N ("~" :: B) scope v ve&&gC' own t&&decide (a=0)&&mI N B sc it iter&&hQ' it tg&&aP' iter&&mT N ("~" :: B) scope t tg&&mQo N ("~" :: B) scope q ifs
 | .par i j a b,s=>v43 s fun x px y py ea eb=>du' N i x&&du' N j y&&decide (i≠j)&&decide (sc.names.lookup x=some .local)&&decide (sc.names.lookup y=some .local)&&
    mE N B sc a ea&&mE N B sc b eb&&aB' ea&&aB' eb&&(px.line == py.line)&&(!(foldedForSure 8 ea&&foldedForSure 8 eb))&&(!(constantsAlone 8 ea&&constantsAlone 8 eb))&&!(hat B)
 | .asg2 i j a b,s=>v44 s fun x y ea eb=>du' N i x&&du' N j y&&locb sc x&&locb sc y&&(decide (sc.names.lookup x=some .cell) || decide (sc.names.lookup y=some .cell))&&
    mE N B sc a ea&&mE N B sc b eb&&aB' ea&&aB' eb&&!(hat B)
 | .asgc i j e,s=>v47 s fun x y ee=>du' N i x&&locb sc x&&du' N j y&&locb sc y&&mE N B sc e ee
 | .dput o i e,s=>v48 s fun eo ei ee=>mE N B sc o eo&&mE N B sc i ei&&cX' ei&&mE N B sc e ee&&(match ee with
   | .ListComp ..=>false
   | .SetComp ..=>false
   | .DictComp ..=>false
   |_=>true)
 | .aug i sub e,s=>v49 s fun x op ee=>du' N i x&&locb sc x&&mE N B sc e ee&&decide (op=if sub then .Sub else .Add)
 | .augS o i sub e,s=>v58 s fun eo ei op ee=>mE N B sc o eo&&mE N B sc i ei&&cX' ei&&mE N B sc e ee&&decide (op=if sub then .Sub else .Add)
 | .ite q a b,s=>v50 s fun x ss rs=>mQ N B sc q x&&mSs N B sc a ss&&mSs N B sc b rs
 | .whl q b,s=>v51 s fun x ss=>mQ N B sc q x&&mSs N B sc b ss
 | .for_ t it b,s=>v52 s fun tg iter ss=>mI N B sc it iter&&hQ' it tg&&aP' iter&&mT N B sc t tg&&mSs N B sc b ss&&!(hat B)
def mSs (N B:List Str) (sc:Scope):Css->List Stmt->Bool
 | .nil,ss=>v56 ss (true)
 | .cons s r,ss=>v57 ss fun x xs=>mS N B sc s x&&mSs N B sc r xs
end
def sR' (CX:CXT) (X:Cx) (xk:L2.St->XK):Prop:=∀(pins:List (Addr×Obj)) (σ:L2.St) (H:Hp) (s:Shared) (e:Value) (s':Shared),Inv X pins σ H s->CX X.stack H s (xk σ) e s'->X.xe e s'
theorem q1' {X:Cx} {xk:L2.St->XK}:sR' CX0 X xk:=fun _ _ _ _ _ _ _ h=>h.elim
structure Rok (C:Rc) (B:List Str) (X:Cx) (sc:Scope):Prop where
 hN:X.N=C.N
 nd:C.N.Nodup
 hK:X.K=C.K
 own:PassesOwn (model X.prog X.w) X.A X.env X.xe
 calm:hat B=false->X.calm=true
 hu:X.A.units+64<cLine
 gd:X.A.guards=some []
 loc:∀x,sc.names.lookup x=some .local->X.env.scope.names.lookup x=some .local
 cel:∀x,sc.names.lookup x=some .cell->X.env.scope.names.lookup x=some .cell/\X.fn x=true
 fre:∀x,sc.names.lookup x=some .free->X.env.scope.names.lookup x=some .cell\/X.env.scope.names.lookup x=some .free
 glo:∀x,sc.names.lookup x=some .globalImplicit->X.env.kindOf x=some .globalImplicit
 fn:∀x sp,C.fs x=some sp->hat B=false->(tld B=true->u3' x∉B)->∃f fd ps k CX,FnOk X.prog X.w X.K X.mg X.base CX k f fd ps sp/\Room k X.A/\X.mg x=some (.ref f)/\W.keepIn X.K (.ref f)=true/\fS' X.K fd ps []/\(CX=CX0\/CX=CX1 X.prog X.w X.mg/\u3' x∈B)/\sR' CX X C.xk
 blt:∀x∈B,X.mg x=none
 mrk:X.mg "~"=none/\X.mg "^"=none/\X.mg "%"=none
 cls:∀c Ca,C.cl c=some Ca->X.mg c=some (.ref Ca)/\W.nsIn X.K mainGlobals c=some (some (.ref Ca))
 fx:tld B=false->FnCx X
 nohat:tld B=false->hat B=false
 xr:tld B=false->pct B=false->∀nm Ca pins σ H s e t,C.cl nm=some Ca->Inv X pins σ H s->H e=none->X.s₀.heap.get? e=none->(∀p∈X.pn++pins,p.1≠e)->s.heap.get? e=some { cls:=.ref Ca,data:=.fields #[.ref t,.none,.none,.none,.bool false,.none] }->C.xk σ (.str nm 0) none H->X.xe (.ref e) s
theorem Rok.hu1 {C:Rc} {B:List Str} {X:Cx} {sc:Scope} (R:Rok C B X sc):X.A.units+1<cLine:=by have:=R.hu;omega
section
variable {C:Rc} {B:List Str} {X:Cx} {sc:Scope}
set_option tactic.hygienic true in
theorem Rok.vis (R:Rok C B X sc) {x:Str} (h:R3.vis sc x=true):Vis X.env.scope x:=by
 unfold R3.vis at h
 split at h
 .rename_i e;exact .inl (R.loc x e)
 .rename_i e;exact .inr (.inl (R.cel x e).1)
 .rename_i e
  rcases R.fre x e with q|q
  .exact .inr (.inl q)
  .exact .inr (.inr q)
 .cases h
set_option tactic.hygienic true in
theorem Rok.locb (R:Rok C B X sc) {x:Str} (h:R3.locb sc x=true):Loc X.env.scope x/\(X.fn x=true\/X.env.scope.names.lookup x=some .local):=by
 unfold R3.locb at h
 split at h
 .rename_i e;exact⟨.inl (R.loc x e),.inr (R.loc x e)⟩
 .rename_i e;exact⟨.inr (R.cel x e).1,.inl (R.cel x e).2⟩
 .cases h
theorem Rok.glb (R:Rok C B X sc) {x:Str} (h:R3.glb sc x=true):Gl X x:=R.glo x (of_decide_eq_true h)
theorem aW' {N:List Str} {i:Nat} {x:Str} (h:du' N i x=true):N[i]?=some x/\(x == ("__debug__":Str))=false/\(x == ("__classdict__":Str))=false:=by
 unfold du' at h
 simp only[af,decide_eq_true_eq,bo]at h
 exact⟨h.1.1,h.1.2,h.2⟩
theorem aq' {e:Expr} {es:List Expr} {env:Env} (h:aB' e=true):starEach (e :: es) env=(false,eval e env) :: starEach es env:=by
 cases e<;>first|rfl|cases h
theorem gE' {N B:List Str} {sc:Scope} {env:Env} {pos:Pos}:∀{es:Ces} {xs:List Expr},mA N B sc es xs=true->(backTo pos (starEach xs env)).any (·.1)=false
 | .nil,xs,h=>by
  refine mE' h fun e0 g=>?_
  clear h
  subst e0
  revert g
  intro h
  rfl
 | .cons e r,xs,h=>by
  refine o5' h fun x xs e0 g=>?_
  clear h
  subst e0
  revert g
  intro h
  simp only[af]at h
  rw[aq' h.1.2]
  have ih:=gE' (env:=env) (pos:=pos) (es:=r) h.2
  exact ih
theorem a2' {e:Expr} {env:Env} (h:aP' e=true) (x:Value):foldedSetIterable e env x=pure x:=by
 cases e<;>first|rfl|cases h
theorem cz' {op:CmpOp} {e:Expr} (h:aP' e=true):behindInMarks op e=false:=by
 cases e<;>first|rfl|cases h
theorem mF' {o1 o2:CmpOp} {a e:Expr} (h:aP' e=true):lastMarks [o1,o2] [a,e]=false:=by
 show behindInMarks o2 e=false
 exact cz' h
theorem o6' {e:Expr} (h:cX' e=true):li' e:=by
 intro o i
 cases e<;>first|rfl|cases h
theorem iL' {e:Expr} {f:Str} {env:Env} {w:Sem Value} (h:mp' e=true):attributeBase e f env w=w:=by
 cases e with
 |Call g args kw pos=>
  cases args with
  |nil=>cases h
  |cons a r=>cases g<;>rfl
 |_=>rfl
theorem mG' {e:Expr} {env:Env} (h:qV' e=true) (w:Sem Value):isTrue e env w=(do let v <- w;standAt e.pos;holding [v] (truthy v)):=by
 cases e with
 |UnaryOp op a p=>cases op<;>first|rfl|cases h
 |_=>first|rfl|cases h
theorem OpR.imp {f:Value->Value->Sem Value} {r r':R2} (h:OpR X f r) (i:∀x y H Q,r' x y H Q->r x y H Q):OpR X f r':=fun pins s σ H x y v u Q I rx ry q=>h pins s σ H x y v u Q I rx ry (i _ _ _ _ q)
theorem a5'.imp {f:Value} {r r':List V->Hp->VK->Prop} (h:a5' X f r) (i:∀xs H Q,r' xs H Q->r xs H Q):a5' X f r':=fun pins s σ H xs us Q I rv q=>h pins s σ H xs us Q I rv (i _ _ _ q)
theorem ixM:IxR X (qU' X.K):=by
 intro value slice pins s σ H x y v u Q I rx ry q hp
 refine vH' value slice pins s σ H x y v u Q I rx ry ?_ hp
 unfold qU' at q
 split at q
 .obtain⟨z,c,hc,q⟩:=q
  exact .inr (.inr ⟨_,_,c,rfl,rfl,z,hc,q⟩)
 .rcases q with q|q
  .exact .inl q
  .exact .inr (.inl q)
theorem wN' {CX:CXT} {k:Nat} {f:Addr} {fd:FuncData} {ps:List Str} {sp:Sp} {dvs:List V} {ds:List Value} {E:XK} {pins:List (Addr×Obj)} {σ:L2.St} {H:Hp} {s:Shared} {Q:VK} {us:List Value} {vs:List V} (F:FnOk X.prog X.w X.K X.mg X.base CX k f fd ps sp) (hr:Room k X.A) (hb:fS' X.K fd ps ds) (hd:aK' dvs ds)
  (hx:∀e s',CX X.stack H s E e s'->X.xe e s') (I:Inv X pins σ H s) (r:aK' vs us) (h:sp (vs++dvs) H Q E):wpAny (model X.prog X.w) X.A (call (.ref f) us) (EP X pins σ Q) X.xe s:=by
 have r2:=r.append hd
 have hl:(us++ds).length=ps.length:=r2.length ▸ F.len _ _ _ _ h
 have go:=F.run X.A X.stack s H ⟨us,[]⟩ (us++ds) (vs++dvs) Q E hr I.env0 (hb s us I.kIn hl) r2 h
 refine wpAny_call (codeAny_mono go fun r s' hq=>?_)
 match r,hq with
 | .error e,hq=>exact hx e s' hq
 | .ok (.ret u),hq=>exact I.after hq
theorem o7' {CX:CXT} {k:Nat} {f:Addr} {fd:FuncData} {ps:List Str} {sp:Sp} {dvs:List V} {ds:List Value} {xk:L2.St->XK} {x:Str} {p pos:Pos} {e:Expr} {es:List Expr} {t:TA} (F:FnOk X.prog X.w X.K X.mg X.base CX k f fd ps sp) (hr:Room k X.A) (hg:Gl X x) (hm:X.mg x=some (.ref f)) (hk:W.keepIn X.K (.ref f)=true) (hb:fS' X.K fd ps ds) (hd:aK' dvs ds) (hx:sR' CX X xk)
  (ha:PA X (e :: es) t) (hdb:(x == ("__debug__":Str))=false) (he:starEach (e :: es) X.env=(false,eval e X.env) :: starEach es X.env) (hpl:(backTo pos (starEach es X.env)).any (·.1)=false):
  PE X (.Call (.Name x p) (e :: es) [] pos) (fun σ H Q=>ox' sp dvs (xk σ) t σ H Q):=by
 intro pins s σ H Q I h
 refine wpAny_Call_Name_kw (rY' I hg hm ?_ hdb)
 exact W.callWith_K (h₀:=X.base) I.ok.mod.kin hk (thn (ha pos pins s σ H _ I h) fun us s1 ⟨vs,H1,I1,r,q⟩=>⟨I1.kIn,wN' F hr hb hd (fun e s' c=>hx pins σ H1 s1 e s' I1 c) I1 r q⟩) he hpl
theorem sS' {a:Int} (h:a.natAbs<2 ^ 250*2 ^ 250*2 ^ 250):(Builtin.Int.intBits a:Int)<=750:=by
 rw[<- Nat.pow_add,<- Nat.pow_add]at h
 unfold Builtin.Int.intBits
 by_cases h0:a.natAbs=0
 .rw[if_pos (by simpa using h0)];decide
 .rw[if_neg (by simpa using h0)]
  have:=(Nat.log2_lt h0).mpr h
  omega
theorem sT' {X:Cx}:OpR X (binaryOp .LShift) (rI z1' fun i j=>.int (i*2 ^ j.toNat)):=opI fun _ _ _ _ _ _ _ hc q=>lshift_int hc.1 (by have:=sS' hc.2.2;have:=hc.2.1;omega) q
theorem wO' (op:Operator):OpR X (binaryOp op) (fW' X.K op):=by
 cases op with
 |Add=>
  refine OpR.imp ((vp'.or j8').or (vL'.or (sj'.or oO'))) fun x y H Q q=>?_
  unfold fW' at q
  dsimp only at q
  split at q
  .exact .inl (.inl ⟨_,_,rfl,rfl,q⟩)
  .exact .inl (.inr ⟨_,_,rfl,rfl,q.1,q.2⟩)
  .exact .inr q
 |Sub=>exact vq'
 |Mult=>
  refine OpR.imp (sx'.or (kf'.or vM')) fun x y H Q q=>?_
  unfold fW' at q
  dsimp only at q
  split at q
  .refine .inl ⟨_,_,rfl,rfl,?_,q.2⟩
   rcases q.1 with h|h|h
   .exact zO'.ok (.inl h)
   .exact zO'.ok (.inr h)
   .exact h
  .exact .inr (.inl ⟨_,_,rfl,rfl,q.1,q.2.1,q.2.2.1,q.2.2.2⟩)
  .exact .inr (.inr q)
 |Mod=>exact vr'
 |FloorDiv=>
  refine OpR.imp (sa'.or oK') fun x y H Q q=>?_
  obtain⟨i,j,h1,h2,⟨h3,h4⟩,q⟩:=q
  rcases h4 with h4|h4
  .exact .inl ⟨i,j,h1,h2,⟨h3,h4⟩,q⟩
  .exact .inr ⟨i,j,h1,h2,⟨h3,h4⟩,q⟩
 |Pow=>exact vt'
 |LShift=>exact sT'
 |RShift=>exact vu'
 |MatMult=>exact fun _ _ _ _ _ _ _ _ _ _ _ _ h=>h.elim
 |Div=>exact fun _ _ _ _ _ _ _ _ _ _ _ _ h=>h.elim
 |BitOr=>exact fun _ _ _ _ _ _ _ _ _ _ _ _ h=>h.elim
 |BitXor=>exact fun _ _ _ _ _ _ _ _ _ _ _ _ h=>h.elim
 |BitAnd=>exact sE'
theorem gb' (hu':X.A.units+64<cLine) (op:CmpOp):OpR X (compareOp op) (dZ' X.K op):=by
 cases op with
 |Eq=>
  refine OpR.imp (Ap'.or ((vV' (by omega)).or (wb' hu'))) fun x y H Q q=>?_
  unfold dZ' at q
  dsimp only at q
  split at q
  .exact .inr q
  .exact .inl q
 |NotEq=>
  refine OpR.imp (Aq'.or ((vW' (by omega)).or (wc' hu'))) fun x y H Q q=>?_
  unfold dZ' at q
  dsimp only at q
  split at q
  .exact .inr q
  .exact .inl q
 |Lt=>exact Ar'
 |LtE=>exact As'
 |Gt=>
  refine OpR.imp (At'.or v7') fun x y H Q q=>?_
  unfold dZ' at q
  dsimp only at q
  split at q
  .exact .inr q
  .exact .inl q
 |GtE=>exact Au'
 |Is=>
  refine OpR.imp (vx'.or vY') fun x y H Q q=>?_
  unfold dZ' at q
  dsimp only at q
  split at q
  .exact .inr q
  .exact .inl q
 |IsNot=>
  refine OpR.imp (sb'.or lI') fun x y H Q q=>?_
  unfold dZ' at q
  dsimp only at q
  split at q
  .exact .inr q
  .exact .inl q
 |In=>
  refine OpR.imp (v6'.or lj') fun x y H Q q=>?_
  unfold dZ' at q
  dsimp only at q
  split at q
  .exact .inl q
  .exact .inr q
 |NotIn=>
  refine OpR.imp (lO'.or g6') fun x y H Q q=>?_
  unfold dZ' at q
  dsimp only at q
  split at q
  .exact .inl q
  .exact .inr q
theorem Bi' (hu':X.A.units+64<cLine) (k:Zf):OpR X (compareOp (CU' k)) (rZf k):=by
 cases k with
 |eqB=>exact we' hu'
 |ninB=>exact sF' hu'
 |ltS=>exact k6'
 |inP=>exact wD' hu'
theorem Bj':SlR X (rSl X.K):=by
 intro pins s σ H x v vl vu lo hi sl Q I rx hs pl pu q
 refine(sm'.or (vD'.or (oQ'.or vU'))) pins s σ H x v vl vu lo hi sl Q I rx hs pl pu ?_
 unfold rSl at q
 split at q
 .exact .inr (.inr (.inr ⟨_,rfl,q.1,q.2⟩))
 .rcases q with q|q|q
  .exact .inl q
  .exact .inr (.inl q)
  .exact .inr (.inr (.inl q))
inductive BltIs:Bf->Prop where
 |fn (f:Bf) (id:String) (hv:bootBuiltins (fD' f)=some (.builtin id)) (h:∀X:Cx,(X.calm=true\/f=.isinstance)->a5' X (.builtin id) (dJ' X.K f)):BltIs f
 |ty (f:Bf) (T:String) (hv:bootBuiltins (fD' f)=some (.type T)) (h:∀X:Cx,(X.calm=true\/f=.isinstance)->a5' X (.type T) (dJ' X.K f)):BltIs f
theorem wP' (f:Bf):BltIs f:=by
 cases f with
 |len=>exact .fn _ "len" ⋯ fun X _=>ow'
 |abs=>exact .fn _ "abs" ⋯ fun X _=>ov'
 |int=>
  refine .ty _ "int" ⋯ fun X _=>a5'.imp lS' fun xs H Q q=>?_
  unfold dJ' at q
  dsimp only at q
  split at q
  .exact .inl (.inl (.inl ⟨_,rfl,q⟩))
  .exact .inl (.inl (.inr ⟨_,rfl,q⟩))
  .obtain⟨n,h1,h2,q⟩:=q
   exact .inl (.inr ⟨_,n,rfl,h1,h2,q⟩)
  .obtain⟨rfl,n,h1,q⟩:=q
   exact .inr ⟨_,n,rfl,h1,q⟩
  .exact q.elim
 |set=>exact .ty _ "set" ⋯ fun X c0=>have c:X.calm=true:=c0.resolve_right (fun z=>by cases z);mc' c
 |isinstance=>exact .fn _ "isinstance" ⋯ fun X _=>a5'.imp oG' fun _ _ _ q=>q.resolve_right id
 |all=>exact .fn _ "all" ⋯ fun X c0=>have c:X.calm=true:=c0.resolve_right (fun z=>by cases z);lC' c
 |anyI=>exact .fn _ "any" ⋯ fun X c0=>have c:X.calm=true:=c0.resolve_right (fun z=>by cases z);lU' c
 |max=>
  refine .fn _ "max" ⋯ fun X c0=>have c:X.calm=true:=c0.resolve_right (fun z=>by cases z);a5'.imp ((k9' c).or (lD' c)) fun xs H Q q=>?_
  unfold dJ' at q
  dsimp only at q
  split at q
  .exact .inl ⟨_,_,rfl,q⟩
  .exact .inr q
 |min=>
  refine .fn _ "min" ⋯ fun X c0=>have c:X.calm=true:=c0.resolve_right (fun z=>by cases z);a5'.imp ((la' c).or (lE' c)) fun xs H Q q=>?_
  unfold dJ' at q
  dsimp only at q
  split at q
  .exact .inl ⟨_,_,rfl,q⟩
  .exact .inr q
 |list=>exact .ty _ "list" ⋯ fun X c0=>have c:X.calm=true:=c0.resolve_right (fun z=>by cases z);g7'.or (oJ' c)
 |range=>exact .ty _ "range" ⋯ fun X _=>oI'
 |tuple=>exact .ty _ "tuple" ⋯ fun X _=>gs'
structure MetIs (m:Mf) (id:String):Prop where
 pa:PlainAttrs (hL' m)
 slot:Slot (hL' m) (mo' m) id
 ty:typeOf (.builtin id)=pure (.type "method_descriptor")
 h:∀X:Cx,MtR X id (og' X.K m)
theorem wQ' (m:Mf):∃id,MetIs m id:=by
 cases m with
 |append=>exact⟨_,F.plainAttrs_list,F.slot_list_append,F.type_list_append,fun _=>ll'⟩
 |extend=>exact⟨_,F.plainAttrs_list,F.slot_list_extend,F.type_list_extend,fun _=>ln'⟩
 |join=>exact⟨_,F.plainAttrs_str,F.slot_str_join,F.type_str_join,fun _=>sw'⟩
 |insert=>exact⟨_,F.plainAttrs_list,F.slot_list_insert,F.type_list_insert,fun _=>lG'⟩
 |bitlen=>exact⟨_,F.plainAttrs_int,F.slot_int_bit_length,F.type_int_bit_length,fun _=>lQ'⟩
 |popL=>exact⟨_,F.plainAttrs_list,F.slot_list_pop,F.type_list_pop,fun _=>vK'⟩
end
theorem d2' {N:List Str} {sc scope:Scope} {own:List Nat} (h:kS' N sc scope own=true):scope.kind=.function/\(∀x∈scope.names,x.2=.local->scope.names.lookup x.1=some .local)/\(∀n,(n,NameKind.cell)∈scope.names->scope.names.lookup n=some .cell)/\
  (∀n,(n,NameKind.free)∈scope.names->sc.names.lookup n=some .cell\/sc.names.lookup n=some .free)/\∀(i:Nat) (x:Str),N[i]?=some x->(scope.names.lookup x=some .local\/scope.names.lookup x=some .cell)->i∈own:=by
 unfold kS' at h
 simp only[af,decide_eq_true_eq,aQ,bT]at h
 obtain⟨⟨hk,hn⟩,ho⟩:=h
 refine⟨hk,fun x hx e=>?_,fun n hn'=>?_,fun n hn'=>?_,fun i x e hx=>?_⟩
 .exact(hn x hx).1.1.resolve_left fun q=>q e
 .exact(hn _ hn').1.2.resolve_left fun q=>q rfl
 .rcases(hn _ hn').2 with(q|q)|q
  .exact absurd rfl q
  .exact .inl q
  .exact .inr q
 .have:=ho i (aB.mpr (aI.mp e).1)
  rw[e]at this
  simp only[bT,af,decide_eq_true_eq]at this
  rcases this with⟨q1,q2⟩|q
  .rcases hx with z|z
   .exact absurd z q1
   .exact absurd z q2
  .exact q
theorem Rok.compSc {C:Rc} {B:List Str} {X:Cx} {sc scope:Scope} {own:List Nat} (R:Rok C B X sc) (h:kS' C.N sc scope own=true):CompSc X scope:=by
 obtain⟨h1,h2,h3,h4,h5⟩:=d2' h
 refine⟨h1,h2,h3,fun n hn=>?_⟩
 rcases h4 n hn with q|q
 .exact .inl (R.cel n q).1
 .exact R.fre n q
theorem eo' {B:List Str}:tld ("~" :: B)=true:=decide_eq_true (aJ)
theorem Rok.comp {C:Rc} {B:List Str} {X:Cx} {sc scope:Scope} {own:List Nat} (R:Rok C B X sc) (hh:hat B=false) (h:kS' C.N sc scope own=true) (s0:Shared) (H0:Hp) (ex:List Addr):Rok C ("~" :: B) (X.comp scope s0 H0 ex) scope:=by
 refine⟨R.hN,R.nd,R.hK,PassesOwn.never,fun _=>R.calm hh,R.hu,R.gd,fun x e=>lookup_relabel_local e,fun x e=>⟨?_,?_⟩,fun x e=>?_,fun x e=>?_,fun x sp e _ ht=>?_,fun x hx=>?_,R.mrk,R.cls,(fun z=>by rw[eo']at z;cases z),(fun z=>by rw[eo']at z;cases z),(fun z=>by rw[eo']at z;cases z)⟩
 .obtain⟨k',e1,e2⟩:=bk' (env:=X.env) e
  rcases e2 with rfl|⟨q,_⟩
  .exact e1
  .cases q
 .exact W.cellsFrom_some _ _ _ (.inl e)
 .obtain⟨k',e1,e2⟩:=bk' (env:=X.env) e
  rcases e2 with rfl|⟨_,rfl⟩
  .exact .inr e1
  .exact .inl e1
 .obtain⟨k',e1,e2⟩:=bk' (env:=X.env) e
  rcases e2 with rfl|⟨q,_⟩
  .exact e1
  .cases q
 .have hb:u3' x∉B:=fun z=>ht eo' (aF _ z)
  obtain⟨f,fd,ps,k,CX,h1,h2,h3,h4,h5,h6,_⟩:=R.fn x sp e hh fun _=>hb
  rcases h6 with rfl|⟨_,z⟩
  .exact⟨f,fd,ps,k,CX0,h1,h2,h3,h4,h5,.inl rfl,q1'⟩
  .exact absurd z hb
 .rcases ap.mp hx with rfl|hx
  .exact R.mrk.1
  .exact R.blt x hx
mutual
theorem jz' (C:Rc) (own:List Nat):∀(t:Ct),gC' own t=true->∀(x:V) (σ:L2.St) (H:Hp) (Q Q':L2.St->Hp->Prop),tG C t x σ H Q->(∀σ2 H2,Q σ2 H2->Ext own σ σ2->Q' σ2 H2)->tG C t x σ H Q'
 | .name i,h,x,σ,H,Q,Q',q,m=>by
  obtain⟨q1,q2⟩:=lr' (of_decide_eq_true (show decide (i∈own)=true from h)) x σ H Q q
  exact m _ _ q1 q2
 | .tup ts,h,x,σ,H,Q,Q',q,m=>by
  replace h:mq' own ts=true:=h
  obtain⟨a,xs,e,hs,hl,q⟩:=q
  exact⟨a,xs,e,hs,hl,hY' C own ts h xs σ H Q Q' q m⟩
 | .sub _ _,h,_,_,_,_,_,_,_=>av' h
theorem hY' (C:Rc) (own:List Nat):∀(ts:Cts),mq' own ts=true->∀(xs:List V) (σ:L2.St) (H:Hp) (Q Q':L2.St->Hp->Prop),tGs C ts xs σ H Q->(∀σ2 H2,Q σ2 H2->Ext own σ σ2->Q' σ2 H2)->tGs C ts xs σ H Q'
 | .nil,h,xs,σ,H,Q,Q',q,m=>by
  replace q:xs=[]/\Q σ H:=q
  exact And.intro q.1 (m _ _ q.2 Ext.refl)
 | .cons t r,h,xs,σ,H,Q,Q',q,m=>by
  replace h:=hT' (show(gC' own t&&mq' own r)=true from h)
  replace q:∃v vr,xs=v :: vr/\tG C t v σ H fun σ' H'=>tGs C r vr σ' H' Q:=q
  obtain⟨v,vr,e,q⟩:=q
  show ∃v vr,xs=v :: vr/\tG C t v σ H fun σ' H'=>tGs C r vr σ' H' Q'
  exact⟨v,vr,e,jz' C own t h.1 v σ H _ _ q fun σ2 H2 q2 x2=>hY' C own r h.2 vr σ2 H2 _ _ q2 fun σ3 H3 q3 x3=>m _ _ q3 (x2.trans x3)⟩
end
theorem cJ' {C:Rc} {own:List Nat} {t:Ct} (h:gC' own t=true):uZ' own (tG C t):=fun x σ H Q q=>jz' C own t h x σ H Q _ q fun _ _ q x=>⟨q,x⟩
theorem d3':∀{ts:Cts} {es:List Expr} {N B:List Str} {sc:Scope} {env:Env},mTs N B sc ts es=true->(assignEach es env).length=o3' ts/\(assignEach es env).findIdx? (·.1)=none
 | .nil,es,N,B,sc,env,h=>by
  refine mE' h fun e0 g=>?_
  clear h
  subst e0
  revert g
  intro h
  exact⟨rfl,rfl⟩
 | .cons t r,es,N,B,sc,env,h=>by
  refine o5' h fun x xs e0 g=>?_
  clear h
  subst e0
  revert g
  intro h
  simp only[af]at h
  obtain⟨h1,h2⟩:=d3' (env:=env) h.2
  have e:assignEach (x :: xs) env=(false,assign x env) :: assignEach xs env:=by
   have hs:=h.1.2
   cases x<;>first|rfl|cases hs
  rw[e]
  refine⟨by rw[bg,h1];rfl,?_⟩
  rw[List.findIdx?_cons,h2]
  rfl
theorem iM' {x:Expr} {xs:List Expr} {env:Env} (hs:aB' x=true):(assignEach (x :: xs) env).map (·.2)=assign x env :: (assignEach xs env).map (·.2):=by
 cases x<;>first|rfl|cases hs
theorem sU' {o i:Expr} {pos:Pos} {env:Env} (h:cX' i=true) (v:Value):assign (.Subscript o i pos) env v=(do
   let ov <- holding [v] (eval o env)
   let iv <- holding [v,ov] (eval i env)
   standAt pos
   holding [v,ov,iv] (setItem ov iv v)
   release [v,ov,iv] []):=by
 cases i<;>first|rfl|cases h
def o8' (C:Rc) (X:Cx) (e:Expr):Ce->Prop
 | .comp elt own t it q r=>∃tg iter ifs nx scope pos,CompIn X e scope tg iter ifs nx (tG C t) (tQo C q) (tR C r (fz' (tE C elt))) own/\PI X tg iter (tI C it)/\
   eval e X.env=comprehension e scope X.env pos (newList []) false (eval iter X.env)/\(∀u,evalThenUse e X.env u=(do let _ <- comprehension e scope X.env pos (newList []) false (eval iter X.env) (some u)))/\
   ∀y py line,∃b,swapsWith e (some (.Name y py)) line X.env=pure b
 |_=>True
theorem o9' (P w it D env ee tg iter ifs tg2 iter2 ifs2 scope pos):(model P w).den (.compLoop (.ListComp ee [⟨tg,iter,ifs,0⟩,⟨tg2,iter2,ifs2,0⟩] scope pos) 0 it (.ref D) env)=(a6' (.ListComp ee [⟨tg,iter,ifs,0⟩,⟨tg2,iter2,ifs2,0⟩] scope pos) 0 tg iter ifs (aY' (.ListComp ee [⟨tg,iter,ifs,0⟩,⟨tg2,iter2,ifs2,0⟩] scope pos) 0 iter2 (.ref D) env) it (.ref D) env).onRaise (fun x=>do noteFrame x env;theTreesLotGoes x):=by
 show(compTurn _ _ _ _ _).onRaise _=_
 congr 1
 unfold a6' aY'
 simp only[bind_assoc,pure_bind]
 rfl
def wR' (ke ve:Expr) (D:Addr) (env:Env):Sem Unit:=do
 let kv <- eval ke env
 let vv <- holding [kv] (eval ve env)
 match Value.ref D with
 | .ref d=>do
  standAt { ke.pos with endLine:=ve.pos.endLine,endCol:=ve.pos.endCol }
  holding [kv,vv] (dictSet d kv vv)
 |_=>unsupported "internal:dictcomp"
theorem DB' {N B:List Str} {sc:Scope} {elt:Ce} {own:List Nat} {t:Ct} {it:Ci} {q:Cqo} {e:Expr} (h:mE N B sc (.comp elt own t it q .nil) e=true):∃ee tg iter ifs scope pos,e=.ListComp ee [⟨tg,iter,ifs,0⟩] scope pos/\
  hat B=false/\kS' N sc scope own=true/\mE N ("~" :: B) scope elt ee=true/\gC' own t=true/\mI N B sc it iter=true/\hQ' it tg=true/\aP' iter=true/\mT N ("~" :: B) scope t tg=true/\mQo N ("~" :: B) scope q ifs=true:=by
 refine AW' h fun ee tg iter ifs a scope w1 e0 g=>?_
 clear h
 subst e0
 revert g
 intro h
 simp only[af,decide_eq_true_eq,bo]at h
 obtain⟨⟨⟨⟨⟨⟨⟨⟨⟨hh,hsc⟩,helt⟩,hown⟩,rfl⟩,h1⟩,h2⟩,h3⟩,h4⟩,h5⟩:=h
 exact⟨_,_,_,_,_,_,rfl,hh,hsc,helt,hown,h1,h2,h3,h4,h5⟩
theorem DC' {N B:List Str} {sc:Scope} {elt:Ce} {own:List Nat} {t:Ct} {it:Ci} {q:Cqo} {ws:List Nat} {t2:Ct} {it2:Ci} {q2:Cqo} {e:Expr} (h:mE N B sc (.comp elt own t it q (.cons ws t2 it2 q2 .nil)) e=true):
  ∃ee tg iter ifs tg2 iter2 ifs2 scope pos,e=.ListComp ee [⟨tg,iter,ifs,0⟩,⟨tg2,iter2,ifs2,0⟩] scope pos/\
  hat B=false/\kS' N sc scope own=true/\mE N ("~" :: B) scope elt ee=true/\gC' own t=true/\mI N B sc it iter=true/\hQ' it tg=true/\aP' iter=true/\mT N ("~" :: B) scope t tg=true/\mQo N ("~" :: B) scope q ifs=true/\
  mI N ("~" :: B) scope it2 iter2=true/\hQ' it2 tg2=true/\aP' iter2=true/\mT N ("~" :: B) scope t2 tg2=true/\mQo N ("~" :: B) scope q2 ifs2=true/\gC' ws t2=true/\∀j∈ws,j∈own:=by
 refine AX' h fun ee tg iter ifs a tg2 iter2 ifs2 a2 scope w1 e0 g=>?_
 clear h
 subst e0
 revert g
 intro h
 simp only[af,decide_eq_true_eq,aQ,bo]at h
 obtain⟨⟨⟨⟨⟨⟨⟨⟨⟨⟨⟨⟨⟨⟨⟨⟨⟨hh,hsc⟩,helt⟩,hown⟩,rfl⟩,h1⟩,h2⟩,h3⟩,h4⟩,h5⟩,rfl⟩,g1⟩,g2⟩,g3⟩,g4⟩,g5⟩,g6⟩,g7⟩:=h
 exact⟨_,_,_,_,_,_,_,_,_,rfl,hh,hsc,helt,hown,h1,h2,h3,h4,h5,g1,g2,g3,g4,g5,g6,g7⟩
theorem mH' (P w it D env ee tg iter ifs tg2 iter2 ifs2 tg3 iter3 ifs3 scope pos):(model P w).den (.compLoop (.ListComp ee [⟨tg,iter,ifs,0⟩,⟨tg2,iter2,ifs2,0⟩,⟨tg3,iter3,ifs3,0⟩] scope pos) 0 it (.ref D) env)=(a6' (.ListComp ee [⟨tg,iter,ifs,0⟩,⟨tg2,iter2,ifs2,0⟩,⟨tg3,iter3,ifs3,0⟩] scope pos) 0 tg iter ifs (aY' (.ListComp ee [⟨tg,iter,ifs,0⟩,⟨tg2,iter2,ifs2,0⟩,⟨tg3,iter3,ifs3,0⟩] scope pos) 0 iter2 (.ref D) env) it (.ref D) env).onRaise (fun x=>do noteFrame x env;theTreesLotGoes x):=by
 show(compTurn _ _ _ _ _).onRaise _=_
 congr 1
 unfold a6' aY'
 simp only[bind_assoc,pure_bind]
 rfl
theorem ku' (P w it D env ee tg iter ifs tg2 iter2 ifs2 tg3 iter3 ifs3 scope pos):(model P w).den (.compLoop (.ListComp ee [⟨tg,iter,ifs,0⟩,⟨tg2,iter2,ifs2,0⟩,⟨tg3,iter3,ifs3,0⟩] scope pos) 1 it (.ref D) env)=(a6' (.ListComp ee [⟨tg,iter,ifs,0⟩,⟨tg2,iter2,ifs2,0⟩,⟨tg3,iter3,ifs3,0⟩] scope pos) 1 tg2 iter2 ifs2 (aY' (.ListComp ee [⟨tg,iter,ifs,0⟩,⟨tg2,iter2,ifs2,0⟩,⟨tg3,iter3,ifs3,0⟩] scope pos) 1 iter3 (.ref D) env) it (.ref D) env).onRaise (fun x=>do noteFrame x env;theTreesLotGoes x):=by
 show(compTurn _ _ _ _ _).onRaise _=_
 congr 1
 unfold a6' aY'
 simp only[bind_assoc,pure_bind]
 rfl
theorem DD' {N B:List Str} {sc:Scope} {elt:Ce} {own:List Nat} {t:Ct} {it:Ci} {q:Cqo} {ws:List Nat} {t2:Ct} {it2:Ci} {q2:Cqo} {ws3:List Nat} {t3:Ct} {it3:Ci} {q3:Cqo} {e:Expr} (h:mE N B sc (.comp elt own t it q (.cons ws t2 it2 q2 (.cons ws3 t3 it3 q3 .nil))) e=true):
  ∃ee tg iter ifs tg2 iter2 ifs2 tg3 iter3 ifs3 scope pos,e=.ListComp ee [⟨tg,iter,ifs,0⟩,⟨tg2,iter2,ifs2,0⟩,⟨tg3,iter3,ifs3,0⟩] scope pos/\
  hat B=false/\kS' N sc scope own=true/\mE N ("~" :: B) scope elt ee=true/\gC' own t=true/\mI N B sc it iter=true/\hQ' it tg=true/\aP' iter=true/\mT N ("~" :: B) scope t tg=true/\mQo N ("~" :: B) scope q ifs=true/\
  (mI N ("~" :: B) scope it2 iter2=true/\hQ' it2 tg2=true/\aP' iter2=true/\mT N ("~" :: B) scope t2 tg2=true/\mQo N ("~" :: B) scope q2 ifs2=true/\gC' ws t2=true/\∀j∈ws,j∈own)/\
  mI N ("~" :: B) scope it3 iter3=true/\hQ' it3 tg3=true/\aP' iter3=true/\mT N ("~" :: B) scope t3 tg3=true/\mQo N ("~" :: B) scope q3 ifs3=true/\gC' ws3 t3=true/\∀j∈ws3,j∈ws:=by
 refine AY' h fun ee tg iter ifs a tg2 iter2 ifs2 a2 tg3 iter3 ifs3 a3 scope w1 e0 g=>?_
 clear h
 subst e0
 revert g
 intro h
 simp only[af,decide_eq_true_eq,aQ,bo]at h
 obtain⟨⟨⟨⟨⟨⟨⟨⟨⟨⟨⟨⟨⟨⟨⟨⟨⟨⟨⟨⟨⟨⟨⟨⟨⟨hh,hsc⟩,helt⟩,hown⟩,rfl⟩,h1⟩,h2⟩,h3⟩,h4⟩,h5⟩,rfl⟩,g1⟩,g2⟩,g3⟩,g4⟩,g5⟩,g6⟩,g7⟩,rfl⟩,k1⟩,k2⟩,k3⟩,k4⟩,k5⟩,k6⟩,k7⟩:=h
 exact⟨_,_,_,_,_,_,_,_,_,_,_,_,rfl,hh,hsc,helt,hown,h1,h2,h3,h4,h5,⟨g1,g2,g3,g4,g5,g6,g7⟩,k1,k2,k3,k4,k5,k6,k7⟩
theorem DE' {N B:List Str} {sc:Scope} {elt:Ce} {own:List Nat} {t:Ct} {it:Ci} {q:Cqo} {ws:List Nat} {t2:Ct} {it2:Ci} {q2:Cqo} {ws3:List Nat} {t3:Ct} {it3:Ci} {q3:Cqo} {ws4:List Nat} {t4:Ct} {it4:Ci} {q4:Cqo} {r4:Cc} {e:Expr} (h:mE N B sc (.comp elt own t it q (.cons ws t2 it2 q2 (.cons ws3 t3 it3 q3 (.cons ws4 t4 it4 q4 r4)))) e=true):False:=by
 exact av' h
set_option maxHeartbeats 4000000
theorem mI' (P w it D env ee tg iter ifs tg2 iter2 ifs2 scope pos):(model P w).den (.compLoop (.SetComp ee [⟨tg,iter,ifs,0⟩,⟨tg2,iter2,ifs2,0⟩] scope pos) 0 it (.ref D) env)=(a6' (.SetComp ee [⟨tg,iter,ifs,0⟩,⟨tg2,iter2,ifs2,0⟩] scope pos) 0 tg iter ifs (aY' (.SetComp ee [⟨tg,iter,ifs,0⟩,⟨tg2,iter2,ifs2,0⟩] scope pos) 0 iter2 (.ref D) env) it (.ref D) env).onRaise (fun x=>do noteFrame x env;theTreesLotGoes x):=by
 show(compTurn _ _ _ _ _).onRaise _=_
 congr 1
 unfold a6' aY'
 simp only[bind_assoc,pure_bind]
 rfl
mutual
theorem sE0 {C:Rc}:∀(c:Ce) {B:List Str} {X:Cx} {sc:Scope} {e:Expr},Rok C B X sc->mE C.N B sc c e=true->PE X e (tE C c)/\o8' C X e c
 | .var i,B,X,sc,e,R,h=>by
  refine⟨?_,trivial⟩
  refine AO' h fun x w1 e0 g=>?_
  clear h
  subst e0
  revert g
  intro h
  simp only[af]at h
  obtain⟨h1,h2,h3⟩:=aW' h.1
  rw[show tE C (.var i)=(zL' i) from rfl]
  exact qA' (by rw[R.hN];exact h1) (R.vis h.2) h2 h3
 | .int n,B,X,sc,e,R,h=>by
  refine⟨?_,trivial⟩
  refine Dv' h fun m w1 w2 e0 g=>?_
  clear h
  subst e0
  revert g
  intro h
  cases of_decide_eq_true h
  rw[show tE C (.int n)=(tC (.int n)) from rfl]
  exact u9'
 | .bl n,B,X,sc,e,R,h=>by
  refine⟨?_,trivial⟩
  refine Dw' h fun c w1 w2 e0 g=>?_
  clear h
  subst e0
  revert g
  intro h
  cases of_decide_eq_true h
  rw[show tE C (.bl n)=(tC (.bl n)) from rfl]
  exact z9'
 | .non,B,X,sc,e,R,h=>by
  refine⟨?_,trivial⟩
  refine Dx' h fun w1 w2 e0 g=>?_
  clear h
  subst e0
  revert g
  intro h
  rw[show tE C .non=(tC .non) from rfl]
  exact va'
 | .str n,B,X,sc,e,R,h=>by
  refine⟨?_,trivial⟩
  refine Dy' h fun y w1 w2 e0 g=>?_
  clear h
  subst e0
  revert g
  intro h
  cases of_decide_eq_true h
  rw[show tE C (.str n)=(tC (.str n)) from rfl]
  exact vb'
 | .ty n,B,X,sc,e,R,h=>by
  refine⟨?_,trivial⟩
  refine AO' h fun x w1 e0 g=>?_
  clear h
  subst e0
  revert g
  intro h
  simp only[af,decide_eq_true_eq]at h
  obtain⟨⟨⟨rfl,h2⟩,h3⟩,h4⟩:=h
  rw[show tE C (.ty n)=(tC (.ty n)) from rfl]
  have hb:bootBuiltins (Str.ofString n)=some (.type n)/\Str.ofString n≠"__name__"/\(Str.ofString n == ("__debug__":Str))=false:=by
   simp only[hP',cZ,ap,aA,or_false]at h3
   rcases h3 with rfl|rfl|rfl|rfl|rfl|rfl|rfl<;>decide +kernel
  exact rZ' (v:=.ty n) (R.glb h2) (R.blt _ h4) hb.1 rfl hb.2.1 hb.2.2
 | .bin op a b,B,X,sc,e,R,h=>by
  refine⟨?_,trivial⟩
  refine Dz' h fun ea op' eb w1 e0 g=>?_
  clear h
  subst e0
  revert g
  intro h
  simp only[af,decide_eq_true_eq]at h
  obtain⟨⟨rfl,h1⟩,h2⟩:=h
  rw[show tE C (.bin op a b)=(tOp (fW' C.K op) (tE C a) (tE C b)) from rfl]
  rw[<- R.hK]
  exact Al' (wO' _) ((sE0 a R h1).1) ((sE0 b R h2).1)
 | .neg a,B,X,sc,e,R,h=>by
  refine⟨?_,trivial⟩
  refine DA' h fun ea w1 e0 g=>?_
  clear h
  subst e0
  revert g
  intro h
  rw[show tE C (.neg a)=(tUn (rU fun i=>.int (-i)) (tE C a)) from rfl]
  exact Am' vw' ((sE0 a R h).1)
 | .not a,B,X,sc,e,R,h=>by
  refine⟨?_,trivial⟩
  refine CV' h fun ea w1 e0 g=>?_
  clear h
  subst e0
  revert g
  intro h
  rw[show tE C (.not a)=(r1' (tE C a)) from rfl]
  exact vh' ((sE0 a R h).1)
 | .and a b,B,X,sc,e,R,h=>by
  refine⟨?_,trivial⟩
  replace h:=mr' h
  rcases h with⟨x,y,pos,rfl,h⟩|⟨x,y,z,r,pos,rfl,h⟩
  .simp only[af]at h
   rw[show tE C (.and a b)=(ok' (tE C a) (tE C b)) from rfl]
   exact qF' ((sE0 a R h.1).1) (qE' ((sE0 b R h.2).1))
  .simp only[af]at h
   rw[show tE C (.and a b)=(ok' (tE C a) (tE C b)) from rfl]
   exact qF' ((sE0 a R h.1).1) ((sE0 b R h.2).1)
 | .or a b,B,X,sc,e,R,h=>by
  refine⟨?_,trivial⟩
  replace h:=qW' h
  rcases h with⟨x,y,pos,rfl,h⟩|⟨x,y,z,r,pos,rfl,h⟩
  .simp only[af]at h
   rw[show tE C (.or a b)=(zM' (tE C a) (tE C b)) from rfl]
   exact vg' ((sE0 a R h.1).1) (qE' ((sE0 b R h.2).1))
  .simp only[af]at h
   rw[show tE C (.or a b)=(zM' (tE C a) (tE C b)) from rfl]
   exact vg' ((sE0 a R h.1).1) ((sE0 b R h.2).1)
 | .cmp op a b,B,X,sc,e,R,h=>by
  refine⟨?_,trivial⟩
  refine wG' h fun ea op' eb w1 e0 g=>?_
  clear h
  subst e0
  revert g
  intro h
  simp only[af,decide_eq_true_eq]at h
  obtain⟨⟨⟨rfl,h1⟩,h2⟩,h3⟩:=h
  rw[show tE C (.cmp op a b)=(tOp (dZ' C.K op) (tE C a) (tE C b)) from rfl]
  rw[<- R.hK]
  exact k7' (gb' R.hu _) ((sE0 a R h1).1) ((sE0 b R h2).1) (cz' h3)
 | .chn op1 op2 a b c,B,X,sc,e,R,h=>by
  refine⟨?_,trivial⟩
  refine wH' h fun ea o1 o2 eb ec w1 e0 g=>?_
  clear h
  subst e0
  revert g
  intro h
  simp only[af,decide_eq_true_eq]at h
  obtain⟨⟨⟨⟨⟨rfl,rfl⟩,h1⟩,h2⟩,h3⟩,h4⟩:=h
  rw[show tE C (.chn op1 op2 a b c)=(eU' (dZ' C.K op1) (dZ' C.K op2) (tE C a) (tE C b) (tE C c)) from rfl]
  rw[<- R.hK]
  exact or' (gb' R.hu _) (gb' R.hu _) ((sE0 a R h1).1) ((sE0 b R h2).1) ((sE0 c R h3).1) (mF' h4)
 | .ife q a b,B,X,sc,e,R,h=>by
  refine⟨?_,trivial⟩
  refine AP' h fun eq ea eb w1 e0 g=>?_
  clear h
  subst e0
  revert g
  intro h
  simp only[af]at h
  rw[show tE C (.ife q a b)=(tIf (tQ C q) (tE C a) (tE C b)) from rfl]
  exact ol' (sQ q R h.1.1).1 ((sE0 a R h.1.2).1) ((sE0 b R h.2).1)
 | .tup es,B,X,sc,e,R,h=>by
  refine⟨?_,trivial⟩
  refine wI' h fun xs w1 w2 e0 g=>?_
  clear h
  subst e0
  revert g
  intro h
  rw[show tE C (.tup es)=(vA' (tA C es)) from rfl]
  exact qK' (sA es R h)
 | .lst es,B,X,sc,e,R,h=>by
  refine⟨?_,trivial⟩
  refine AQ' h fun xs w1 e0 g=>?_
  clear h
  subst e0
  revert g
  intro h
  rw[show tE C (.lst es)=(Av' (tA C es)) from rfl]
  exact vB' (sA es R h)
 | .idx a b,B,X,sc,e,R,h=>by
  refine⟨?_,trivial⟩
  refine wJ' h fun ea eb w1 e0 g=>?_
  clear h
  subst e0
  revert g
  intro h
  simp only[af]at h
  rw[show tE C (.idx a b)=(tOp (qU' C.K) (tE C a) (tE C b)) from rfl]
  rw[<- R.hK]
  exact Ax' ixM ((sE0 a R h.1.1).1) ((sE0 b R h.1.2).1) (o6' h.2)
 | .cut a lo hi,B,X,sc,e,R,h=>by
  refine⟨?_,trivial⟩
  refine AR' h fun ea l h_ w1 w2 e0 g=>?_
  clear h
  subst e0
  revert g
  intro h
  simp only[af]at h
  rw[show tE C (.cut a lo hi)=(tSl (rSl C.K) (tE C a) (tO C lo) (tO C hi)) from rfl]
  rw[<- R.hK]
  exact oB' Bj' ((sE0 a R h.1.1).1) (sO lo R h.1.2) (sO hi R h.2)
 | .call f es,B,X,sc,e,R,h=>by
  refine⟨?_,trivial⟩
  refine wK' h fun x w1 e r pos e0 g=>?_
  clear h
  subst e0
  revert g
  intro h
  simp only[af,decide_eq_true_eq,bo]at h
  obtain⟨⟨⟨⟨⟨rfl,h1⟩,h2⟩,h3⟩,hh⟩,h6⟩:=h
  rw[show tE C (.call x es)=(fun σ H Q=>match C.fs x with|some sp=>ox' sp [] (C.xk σ) (tA C es) σ H Q|none=>False) from rfl]
  have ht:tld B=true->u3' x∉B:=fun t m=>by rw[t,decide_eq_true m]at h6;cases h6
  cases hf:C.fs x with
  |none=>exact fun _ _ _ _ _ _ q=>q.elim
  |some sp=>
   obtain⟨f,fd,ps,k,CX,F,hr,hm,hk,hb,_,hx⟩:=R.fn x sp hf hh ht
   have hs:aB' e=true:=by
    cases es with
    |nil=>exact av' h2
    |cons c r=>exact(hT' (hT' h2).1).2
   have hp:(backTo pos (starEach r X.env)).any (·.1)=false:=by
    have q:=gE' (env:=X.env) (pos:=pos) h2
    rw[aq' hs]at q
    exact q
   exact o7' F hr (R.glb h1) hm hk hb .nil hx (sA es R h2) h3 (aq' hs) hp
 | .blt f es,B,X,sc,e,R,h=>by
  refine⟨?_,trivial⟩
  refine wK' h fun x w1 e r pos e0 g=>?_
  clear h
  subst e0
  revert g
  intro h
  simp only[af,decide_eq_true_eq,bT,bo]at h
  obtain⟨⟨⟨⟨rfl,h1⟩,h2⟩,h4⟩,h5⟩:=h
  have hcc:X.calm=true\/f=.isinstance:=h5.imp R.calm id
  rw[show tE C (.blt f es)=(tCB (dJ' C.K f) (tA C es)) from rfl]
  have hs:aB' e=true:=by
   cases es with
   |nil=>exact av' h2
   |cons c r=>exact(hT' (hT' h2).1).2
  have hp:(backTo pos (starEach r X.env)).any (·.1)=false:=by
   have q:=gE' (env:=X.env) (pos:=pos) h2
   rw[aq' hs]at q
   exact q
  rw[<- R.hK]
  have hn:fD' f≠"__name__"/\(fD' f == ("__debug__":Str))=false:=by cases f<;>decide +kernel
  cases wP' f with
  |fn id hv hc=>exact oy' (hc X hcc) (R.glb h1) (R.blt _ h4) hv (sA es R h2) hn.1 hn.2 (aq' hs) hp
  |ty T hv hc=>exact lf' (hc X hcc) (R.glb h1) (R.blt _ h4) hv (sA es R h2) hn.1 hn.2 (aq' hs) hp
 | .dnew,B,X,sc,e,R,h=>by
  refine⟨?_,trivial⟩
  refine AT' h fun w1 e0 g=>?_
  clear h
  subst e0
  revert g
  intro h
  rw[show tE C .dnew=(lN') from rfl];exact oM'
 | .din neg a b,B,X,sc,e,R,h=>by
  refine⟨?_,trivial⟩
  refine wG' h fun ea op' eb w1 e0 g=>?_
  clear h
  subst e0
  revert g
  intro h
  simp only[af,decide_eq_true_eq]at h
  obtain⟨⟨⟨rfl,h1⟩,h2⟩,h3⟩:=h
  rw[show tE C (.din neg a b)=(o2' neg (tE C a) (tE C b)) from rfl]
  cases neg with
  |true=>exact qB' (hK' R.hu1 (sE0 a R h1).1 (sE0 b R h2).1) (cz' h3)
  |false=>exact qB' (qS' R.hu1 (sE0 a R h1).1 (sE0 b R h2).1) (cz' h3)
 | .dgt a b,B,X,sc,e,R,h=>by
  refine⟨?_,trivial⟩
  refine AU' h fun eo nm apos y pos e0 g=>?_
  clear h
  subst e0
  revert g
  intro h
  simp only[af,decide_eq_true_eq]at h
  obtain⟨⟨⟨⟨⟨rfl,h1⟩,h2⟩,h3⟩,h4⟩,h5⟩:=h
  rw[show tE C (.dgt a b)=(mj' (tE C a) (tE C b)) from rfl]
  have e2:=aq' (env:=X.env) (es:=[]) h5
  refine oX' R.hu1 (sE0 a R h1).1 (sE0 b R h4).1 ⟨iL' h2,?_,h3,?_⟩
  .rw[e2];rfl
  .rw[e2];rfl
 | .met m o es,B,X,sc,e,R,h=>by
  refine⟨?_,trivial⟩
  refine AS' h fun eo nm apos args pos e0 g=>?_
  clear h
  subst e0
  revert g
  intro h
  simp only[af,decide_eq_true_eq]at h
  obtain⟨⟨⟨⟨⟨rfl,h1⟩,h2⟩,h3⟩,h4⟩,h5⟩:=h
  rw[show tE C (.met m o es)=(tBM C.K (hL' m) (og' C.K m) (tE C o) (tA C es)) from rfl]
  rw[<- R.hK]
  obtain⟨id,M⟩:=wQ' m
  cases args with
  |nil=>
   cases es with
   |cons c r=>exact av' h4
   |nil=>
    exact vJ' M.pa M.slot M.ty (M.h X) ((sE0 o R h1).1) (iL' h2) h3
  |cons a r=>
   have hs:aB' a=true:=by
    cases es with
    |nil=>exact av' h4
    |cons c r=>exact(hT' (hT' h4).1).2
   have hq:=gE' (env:=X.env) (pos:=pos) h4
   have hp:(backTo pos (starEach r X.env)).any (·.1)=false:=by
    rw[aq' hs]at hq
    exact hq
   refine Ay' M.pa M.slot M.ty (M.h X) ((sE0 o R h1).1) (sA es R h4) (iL' h2) ?_ h3 (aq' hs) hp
   have e1:(backTo pos (starEach (a :: r) X.env)).all (fun x=>!x.1)=true:=by
    rw[aQ]
    intro x hx
    rw[List.any_eq_false]at hq
    simpa using hq x hx
   rw[e1]
   show(true&&true&&decide ((a :: r).length+0+0<30))=true
   simp only[bR,decide_eq_true_eq]
   omega
 | .lzp a b,B,X,sc,e,R,h=>by
  refine⟨?_,trivial⟩
  refine AV' h fun n1 w1 n2 w2 y y' w3 w4 e0 g=>?_
  clear h
  subst e0
  revert g
  intro h
  simp only[af,decide_eq_true_eq,bo]at h
  obtain⟨⟨⟨⟨⟨⟨⟨⟨⟨⟨rfl,rfl⟩,h1⟩,h2⟩,h3⟩,h4⟩,h5⟩,h6⟩,h7⟩,h8⟩,h9⟩:=h
  rw[show tE C (.lzp a b)=(AM' C.K (bA' (tE C a) (bA' (tE C b) gU'))) from rfl]
  rw[<- R.hK]
  have e2:starEach [_] X.env=[(false,eval _ X.env)]:=aq' (es:=[]) h8
  exact wE' (R.calm h9) (R.glb h1) (R.blt _ h2) (R.glb h3) (R.blt _ h4) (bC' (sE0 a R h5).1 (bC' (sE0 b R h7).1 eV' (aq' h8)) (aq' h6)) (by rw[aq' h6,e2]) e2
 | .cmv k a b,B,X,sc,e,R,h=>by
  refine⟨?_,trivial⟩
  refine wG' h fun ea op' eb w1 e0 g=>?_
  clear h
  subst e0
  revert g
  intro h
  simp only[af,decide_eq_true_eq]at h
  obtain⟨⟨⟨rfl,h1⟩,h2⟩,h3⟩:=h
  rw[show tE C (.cmv k a b)=(tOp (rZf k) (tE C a) (tE C b)) from rfl]
  exact k7' (Bi' R.hu _) (sE0 a R h1).1 (sE0 b R h2).1 (cz' h3)
 | .comp elt own t it q .nil,B,X,sc,e,R,h=>by
  have D:o8' C X e (.comp elt own t it q .nil):=by
   obtain⟨ee,tg,iter,ifs,scope,pos,rfl,hh,hsc,helt,hown,h1,h2,h3,h4,h5⟩:=DB' h
   refine⟨tg,iter,ifs,fun D env=>do let _ <- call (.builtin "list.append") [.ref D,<- eval ee env],scope,_,⟨R.compSc hsc,?_,⟨[],rfl⟩,a2' h3,R.calm hh,fun _ _ _=>⟨rfl,rfl⟩,fun _ _ _ _=>⟨rfl,rfl⟩,fun _ _ _ _ _=>rfl,fun _ _ _ _ _=>rfl,cJ' hown,?_⟩,sI it R h1 h2,rfl,fun _=>rfl,fun _ _ _=>⟨_,rfl⟩⟩
   .rw[R.hN];exact(d2' hsc).2.2.2.2
   .intro s0 H0 ex D
    have R':=R.comp hh hsc s0 H0 ex
    refine⟨sG t R' h4,sQo q R' h5,[],by simp,?_⟩
    exact gt' rfl (sE0 elt R' helt).1
  refine⟨?_,D⟩
  obtain⟨tg,iter,ifs,nx,scope,pos,D,hi,he,_⟩:=D
  rw[show tE C (.comp elt own t it q .nil)=(iB' own (tI C it) (tG C t) (tQo C q) (tR C .nil (fz' (tE C elt)))) from rfl]
  exact iC' D hi he
 | .comp elt own t it q (.cons ws t2 it2 q2 .nil),B,X,sc,e,R,h=>by
  have D:o8' C X e (.comp elt own t it q (.cons ws t2 it2 q2 .nil)):=by
   obtain⟨ee,tg,iter,ifs,tg2,iter2,ifs2,scope,pos,rfl,hh,hsc,helt,hown,h1,h2,h3,h4,h5,g1,g2,g3,g4,g5,g6,g7⟩:=DC' h
   refine⟨tg,iter,ifs,fun D env=>aY' (.ListComp ee [⟨tg,iter,ifs,0⟩,⟨tg2,iter2,ifs2,0⟩] scope pos) 0 iter2 (.ref D) env,scope,_,⟨R.compSc hsc,?_,⟨_,rfl⟩,a2' h3,R.calm hh,fun _ _ _=>⟨rfl,rfl⟩,fun _ _ _ _=>⟨rfl,rfl⟩,fun _ _ _ _ _=>o9' _ _ _ _ _ _ _ _ _ _ _ _ _ _,fun _ _ _ _ _=>rfl,cJ' hown,?_⟩,sI it R h1 h2,rfl,fun _=>rfl,fun _ _ _=>⟨_,rfl⟩⟩
   .rw[R.hN];exact(d2' hsc).2.2.2.2
   .intro s0 H0 ex D
    have R':=R.comp hh hsc s0 H0 ex
    refine⟨sG t R' h4,sQo q R' h5,ws,g7,?_⟩
    exact e8' (nx:=do let _ <- call (.builtin "list.append") [.ref D,<- eval ee (X.comp scope s0 H0 ex).env]) rfl (R.calm hh) (fun _=>rfl) (fun _=>rfl) (fun _=>rfl) (fun _=>rfl) (fun _=>rfl) (fun _=>rfl) ⟨_,rfl,rfl⟩ (a2' g3) (sI it2 R' g1 g2) (sG t2 R' g4) (cJ' g6) (sQo q2 R' g5) (gt' rfl (sE0 elt R' helt).1) (by simp) ek'
  refine⟨?_,D⟩
  obtain⟨tg,iter,ifs,nx,scope,pos,D,hi,he,_⟩:=D
  rw[show tE C (.comp elt own t it q (.cons ws t2 it2 q2 .nil))=(iB' own (tI C it) (tG C t) (tQo C q) (tR C (.cons ws t2 it2 q2 .nil) (fz' (tE C elt)))) from rfl]
  exact iC' D hi he
 | .comp elt own t it q (.cons ws t2 it2 q2 (.cons ws3 t3 it3 q3 .nil)),B,X,sc,e,R,h=>by
  have D:o8' C X e (.comp elt own t it q (.cons ws t2 it2 q2 (.cons ws3 t3 it3 q3 .nil))):=by
   obtain⟨ee,tg,iter,ifs,tg2,iter2,ifs2,tg3,iter3,ifs3,scope,pos,rfl,hh,hsc,helt,hown,h1,h2,h3,h4,h5,⟨g1,g2,g3,g4,g5,g6,g7⟩,k1,k2,k3,k4,k5,k6,k7⟩:=DD' h
   refine⟨tg,iter,ifs,fun D env=>aY' (.ListComp ee [⟨tg,iter,ifs,0⟩,⟨tg2,iter2,ifs2,0⟩,⟨tg3,iter3,ifs3,0⟩] scope pos) 0 iter2 (.ref D) env,scope,_,⟨R.compSc hsc,?_,⟨_,rfl⟩,a2' h3,R.calm hh,fun _ _ _=>⟨rfl,rfl⟩,fun _ _ _ _=>⟨rfl,rfl⟩,fun _ _ _ _ _=>mH' _ _ _ _ _ _ _ _ _ _ _ _ _ _ _ _ _,fun _ _ _ _ _=>rfl,cJ' hown,?_⟩,sI it R h1 h2,rfl,fun _=>rfl,fun _ _ _=>⟨_,rfl⟩⟩
   .rw[R.hN];exact(d2' hsc).2.2.2.2
   .intro s0 H0 ex D
    have R':=R.comp hh hsc s0 H0 ex
    refine⟨sG t R' h4,sQo q R' h5,ws,g7,?_⟩
    exact e8' (d:=0) (nx:=aY' (.ListComp ee [⟨tg,iter,ifs,0⟩,⟨tg2,iter2,ifs2,0⟩,⟨tg3,iter3,ifs3,0⟩] scope pos) 1 iter3 (.ref D) (X.comp scope s0 H0 ex).env) rfl (R.calm hh) (fun _=>rfl) (fun _=>rfl) (fun _=>rfl) (fun _=>rfl) (fun _=>ku' _ _ _ _ _ _ _ _ _ _ _ _ _ _ _ _ _) (fun _=>rfl) ⟨_,rfl,rfl⟩ (a2' g3) (sI it2 R' g1 g2) (sG t2 R' g4) (cJ' g6) (sQo q2 R' g5)
     (e8' (d:=1) (nx:=do let _ <- call (.builtin "list.append") [.ref D,<- eval ee (X.comp scope s0 H0 ex).env]) rfl (R.calm hh) (fun _=>rfl) (fun _=>rfl) (fun _=>rfl) (fun _=>rfl) (fun _=>rfl) (fun _=>rfl) ⟨_,rfl,rfl⟩ (a2' k3) (sI it3 R' k1 k2) (sG t3 R' k4) (cJ' k6) (sQo q3 R' k5) (gt' rfl (sE0 elt R' helt).1) (by simp) ek') k7 ek'
  refine⟨?_,D⟩
  obtain⟨tg,iter,ifs,nx,scope,pos,D,hi,he,_⟩:=D
  rw[show tE C (.comp elt own t it q (.cons ws t2 it2 q2 (.cons ws3 t3 it3 q3 .nil)))=(iB' own (tI C it) (tG C t) (tQo C q) (tR C (.cons ws t2 it2 q2 (.cons ws3 t3 it3 q3 .nil)) (fz' (tE C elt)))) from rfl]
  exact iC' D hi he
 | .comp elt own t it q (.cons ws t2 it2 q2 (.cons _ _ _ _ (.cons _ _ _ _ _))),B,X,sc,e,R,h=>(DE' h).elim
termination_by structural c=>c
theorem sA {C:Rc}:∀(es:Ces) {B:List Str} {X:Cx} {sc:Scope} {xs:List Expr},Rok C B X sc->mA C.N B sc es xs=true->PA X xs (tA C es)
 | .nil,B,X,sc,xs,R,h=>by
  refine mE' h fun e0 g=>?_
  clear h
  subst e0
  revert g
  intro h
  rw[show tA C .nil=(gU') from rfl]
  exact eV'
 | .cons e r,B,X,sc,xs,R,h=>by
  refine o5' h fun x xs e0 g=>?_
  clear h
  subst e0
  revert g
  intro h
  simp only[af]at h
  rw[show tA C (.cons e r)=(bA' (tE C e) (tA C r)) from rfl]
  exact bC' ((sE0 e R h.1.1).1) (sA r R h.2) (aq' h.1.2)
termination_by structural c=>c
theorem sQ {C:Rc}:∀(q:Cq) {B:List Str} {X:Cx} {sc:Scope} {e:Expr},Rok C B X sc->mQ C.N B sc q e=true->PT X e (tQ C q)/\((∃op vs pos,e=.BoolOp op vs pos)->PW X e (tQ C q))
 | .val c,B,X,sc,e,R,h=>by
  replace h:=hT' h
  refine⟨?_,fun⟨op,vs,pos,z⟩=>?_⟩
  .rw[show tQ C (.val c)=(fun σ H Q=>tE C c σ H fun x H'=>∃k,vy' C.K x H' k/\Q k H') from rfl]
   rw[<- R.hK]
   exact ou' (sE0 c R h.1).1 (mG' h.2)
  .subst z;exact av' h.2
 | .din neg a b,B,X,sc,e,R,h=>by
  refine wG' h fun ea op' eb w1 e0 g=>?_
  clear h
  subst e0
  revert g
  intro h
  simp only[af,decide_eq_true_eq]at h
  obtain⟨⟨⟨rfl,h1⟩,h2⟩,h3⟩:=h
  rw[show tQ C (.din neg a b)=(gY' (o2' neg (tE C a) (tE C b))) from rfl]
  cases neg with
  |true=>exact⟨qC' (hK' R.hu1 (sE0 a R h1).1 (sE0 b R h2).1) (cz' h3),fun⟨op,vs,pos,z⟩=>by cases z⟩
  |false=>exact⟨qC' (qS' R.hu1 (sE0 a R h1).1 (sE0 b R h2).1) (cz' h3),fun⟨op,vs,pos,z⟩=>by cases z⟩
 | .not q,B,X,sc,e,R,h=>by
  refine CV' h fun y w1 e0 g=>?_
  clear h
  subst e0
  revert g
  intro h
  rw[show tQ C (.not q)=(Aa' (tQ C q)) from rfl]
  exact⟨vf' (sQ q R h).1,fun⟨op,vs,pos,z⟩=>by cases z⟩
 | .and a b,B,X,sc,e,R,h=>by
  replace h:=mr' h
  rcases h with⟨x,y,pos,rfl,h⟩|⟨x,y,z,r,pos,rfl,h⟩
  .simp only[af]at h
   rw[show tQ C (.and a b)=(vc' (tQ C a) (tQ C b)) from rfl]
   have w:PW X (.BoolOp .And [x,y] pos) (vc' (tQ C a) (tQ C b)):=qD' (sQ a R h.1).1 (r0' (sQ b R h.2).1)
   exact⟨w.pt,fun _=>w⟩
  .simp only[af]at h
   rw[show tQ C (.and a b)=(vc' (tQ C a) (tQ C b)) from rfl]
   have w:=qD' (sQ a R h.1).1 ((sQ b R h.2).2 ⟨_,_,_,rfl⟩)
   exact⟨w.pt,fun _=>w⟩
 | .or a b,B,X,sc,e,R,h=>by
  replace h:=qW' h
  rcases h with⟨x,y,pos,rfl,h⟩|⟨x,y,z,r,pos,rfl,h⟩
  .simp only[af]at h
   rw[show tQ C (.or a b)=(tOr (tQ C a) (tQ C b)) from rfl]
   have w:PW X (.BoolOp .Or [x,y] pos) (tOr (tQ C a) (tQ C b)):=ve' (sQ a R h.1).1 (vd' (sQ b R h.2).1)
   exact⟨w.pt,fun _=>w⟩
  .simp only[af]at h
   rw[show tQ C (.or a b)=(tOr (tQ C a) (tQ C b)) from rfl]
   have w:=ve' (sQ a R h.1).1 ((sQ b R h.2).2 ⟨_,_,_,rfl⟩)
   exact⟨w.pt,fun _=>w⟩
 | .cmp op a b,B,X,sc,e,R,h=>by
  refine wG' h fun ea op' eb w1 e0 g=>?_
  clear h
  subst e0
  revert g
  intro h
  simp only[af,decide_eq_true_eq]at h
  obtain⟨⟨⟨rfl,h1⟩,h2⟩,h3⟩:=h
  rw[show tQ C (.cmp op a b)=(gY' (tOp (dZ' C.K op) (tE C a) (tE C b))) from rfl]
  rw[<- R.hK]
  exact⟨sc' (gb' R.hu _) (sE0 a R h1).1 (sE0 b R h2).1 (cz' h3),fun⟨op,vs,pos,z⟩=>by cases z⟩
 | .chn op1 op2 a b c,B,X,sc,e,R,h=>by
  refine wH' h fun ea o1 o2 eb ec w1 e0 g=>?_
  clear h
  subst e0
  revert g
  intro h
  simp only[af,decide_eq_true_eq]at h
  obtain⟨⟨⟨⟨⟨rfl,rfl⟩,h1⟩,h2⟩,h3⟩,h4⟩:=h
  rw[show tQ C (.chn op1 op2 a b c)=(gY' (eU' (dZ' C.K op1) (dZ' C.K op2) (tE C a) (tE C b) (tE C c))) from rfl]
  rw[<- R.hK]
  exact⟨ot' (gb' R.hu _) (gb' R.hu _) (sE0 a R h1).1 (sE0 b R h2).1 (sE0 c R h3).1 (mF' h4),fun⟨op,vs,pos,z⟩=>by cases z⟩
termination_by structural c=>c
theorem sQo {C:Rc}:∀(q:Cqo) {B:List Str} {X:Cx} {sc:Scope} {es:List Expr},Rok C B X sc->mQo C.N B sc q es=true->PTs X es (tQo C q)
 | .none,B,X,sc,es,R,h=>by
  refine mE' h fun e0 g=>?_
  clear h
  subst e0
  revert g
  intro h
  rw[show tQo C .none=(fun _ H Q=>Q true H) from rfl];exact sq'
 | .some q,B,X,sc,es,R,h=>by
  refine AZ' h fun e e0 g=>?_
  clear h
  subst e0
  revert g
  intro h
  rw[show tQo C (.some q)=(tQ C q) from rfl];exact sr' (sQ q R h).1
termination_by structural c=>c
theorem sO {C:Rc}:∀(o:Co) {B:List Str} {X:Cx} {sc:Scope} {e:Option Expr},Rok C B X sc->mO C.N B sc o e=true->PO X e (tO C o)
 | .none,B,X,sc,e,R,h=>by
  refine A0' h fun e0 g=>?_
  clear h
  subst e0
  revert g
  intro h
  rw[show tO C .none=(iw') from rfl];exact sh'
 | .some c,B,X,sc,e,R,h=>by
  refine A1' h fun y e0 g=>?_
  clear h
  subst e0
  revert g
  intro h
  rw[show tO C (.some c)=(sg' (tE C c)) from rfl];exact si' (sE0 c R h).1
termination_by structural c=>c
theorem sI {C:Rc}:∀(i:Ci) {B:List Str} {X:Cx} {sc:Scope} {x tg:Expr},Rok C B X sc->mI C.N B sc i x=true->hQ' i tg=true->PI X tg x (tI C i)
 | .val c,B,X,sc,x,tg,R,h,_=>by
  rw[show tI C (.val c)=(AA' C.K (tE C c)) from rfl]
  rw[<- R.hK]
  exact vP' (sE0 c R h).1
 | .range1 a,B,X,sc,x,tg,R,h,_=>by
  refine wL' h fun n w1 y w2 e0 g=>?_
  clear h
  subst e0
  revert g
  intro h
  simp only[af,decide_eq_true_eq]at h
  obtain⟨⟨⟨⟨rfl,h1⟩,h2⟩,h3⟩,h4⟩:=h
  rw[show tI C (.range1 a)=(r7' (bA' (tE C a) gU')) from rfl]
  exact k1' (R.glb h1) (R.blt _ h2) (bC' (sE0 a R h3).1 eV' (aq' h4)) (aq' h4)
 | .range2 a b,B,X,sc,x,tg,R,h,_=>by
  refine wM' h fun n w1 y z w2 e0 g=>?_
  clear h
  subst e0
  revert g
  intro h
  simp only[af,decide_eq_true_eq]at h
  obtain⟨⟨⟨⟨⟨⟨rfl,h1⟩,h2⟩,h3⟩,h4⟩,h5⟩,h6⟩:=h
  rw[show tI C (.range2 a b)=(r8' (bA' (tE C a) (bA' (tE C b) gU'))) from rfl]
  have e2:starEach [_] X.env=[(false,eval _ X.env)]:=aq' (es:=[]) h6
  exact k2' (R.glb h1) (R.blt _ h2) (bC' (sE0 a R h3).1 (bC' (sE0 b R h5).1 eV' (aq' h6)) (aq' h4)) (by rw[aq' h4,e2]) e2
 | .zip a b,B,X,sc,x,tg,R,h,hz=>by
  refine wM' h fun n w1 y z w2 e0 g=>?_
  clear h
  subst e0
  revert g
  intro h
  simp only[af,decide_eq_true_eq]at h
  obtain⟨⟨⟨⟨⟨⟨rfl,h1⟩,h2⟩,h3⟩,h4⟩,h5⟩,h6⟩:=h
  rw[show tI C (.zip a b)=(AB' C.K (bA' (tE C a) (bA' (tE C b) gU'))) from rfl]
  rw[<- R.hK]
  have e2:starEach [_] X.env=[(false,eval _ X.env)]:=aq' (es:=[]) h6
  cases tg with
  |Tuple es k p=>exact vQ' (R.glb h1) (R.blt _ h2) (bC' (sE0 a R h3).1 (bC' (sE0 b R h5).1 eV' (aq' h6)) (aq' h4)) (by rw[aq' h4,e2]) e2
  |_=>cases hz
 | .enum a,B,X,sc,x,tg,R,h,hz=>by
  refine wL' h fun n w1 y w2 e0 g=>?_
  clear h
  subst e0
  revert g
  intro h
  simp only[af,decide_eq_true_eq]at h
  obtain⟨⟨⟨⟨rfl,h1⟩,h2⟩,h3⟩,h4⟩:=h
  rw[show tI C (.enum a)=(su' C.K (tE C a)) from rfl]
  rw[<- R.hK]
  cases tg with
  |Tuple es k p=>exact sv' (R.glb h1) (R.blt _ h2) (bC' (sE0 a R h3).1 eV' (aq' h4)) (aq' h4)
  |_=>cases hz
termination_by structural c=>c
theorem sG {C:Rc}:∀(t:Ct) {B:List Str} {X:Cx} {sc:Scope} {e:Expr},Rok C B X sc->mT C.N B sc t e=true->PG X e (tG C t)
 | .name i,B,X,sc,e,R,h=>by
  refine AO' h fun x w1 e0 g=>?_
  clear h
  subst e0
  revert g
  intro h
  simp only[af]at h
  obtain⟨h1,h2,h3⟩:=aW' h.1
  obtain⟨h4,h5⟩:=R.locb h.2
  rw[show tG C (.name i)=(cR' i) from rfl]
  exact fm' (by rw[R.hN];exact R.nd) (by rw[R.hN];exact h1) h4 h5
 | .tup ts,B,X,sc,e,R,h=>by
  refine wI' h fun es w1 w2 e0 g=>?_
  clear h
  subst e0
  revert g
  intro h
  rw[show tG C (.tup ts)=(wA' C.K (o3' ts) (tGs C ts)) from rfl]
  rw[<- R.hK]
  simp only[af,bo]at h
  exact qT' (R.calm h.2) (sGs ts R h.1) (d3' h.1).1 (d3' h.1).2
 | .sub o i,B,X,sc,e,R,h=>by
  refine wJ' h fun eo ei w1 e0 g=>?_
  clear h
  subst e0
  revert g
  intro h
  simp only[af]at h
  rw[show tG C (.sub o i)=(Ag' (tE C o) (tE C i) eh') from rfl]
  exact vm' (sE0 o R h.1.1).1 (sE0 i R h.1.2).1 gq' (sU' h.2)
termination_by structural c=>c
theorem sGs {C:Rc}:∀(ts:Cts) {B:List Str} {X:Cx} {sc:Scope} {es:List Expr},Rok C B X sc->mTs C.N B sc ts es=true->PGs X es (tGs C ts)
 | .nil,B,X,sc,es,R,h=>by
  refine mE' h fun e0 g=>?_
  clear h
  subst e0
  revert g
  intro h
  rw[show tGs C .nil=(vk') from rfl];exact kX'
 | .cons t r,B,X,sc,es,R,h=>by
  refine o5' h fun x xs e0 g=>?_
  clear h
  subst e0
  revert g
  intro h
  simp only[af]at h
  rw[show tGs C (.cons t r)=(iu' (tG C t) (tGs C r)) from rfl]
  exact gn' (sG t R h.1.1) (sGs r R h.2) (iM' h.1.2)
termination_by structural c=>c
end
theorem sE {C:Rc} {B:List Str} (c:Ce) {X:Cx} {sc:Scope} {e:Expr} (R:Rok C B X sc) (h:mE C.N B sc c e=true):PE X e (tE C c):=(sE0 c R h).1
end R3
set_option maxHeartbeats 4000000
namespace R3
open PySem PySem.Spec PyProof.Rows L2
def fF':Expr->Bool
 | .ListComp ..=>false
 | .SetComp ..=>false
 | .DictComp ..=>false
 |_=>true
theorem pa' {x tg:Expr} {l:Nat} {env:Env} (h:fF' x=true):swapsWithSole [tg] x l env=pure false:=by
 cases x<;>first|rfl|cases h
theorem kv' {x:Expr} {l:Nat} {env:Env} (h:fF' x=true):swapsWith x none l env=pure false:=by
 cases x<;>first|rfl|cases h
set_option tactic.hygienic true in
theorem mJ' {N B:List Str} {sc:Scope} {c:Ce} {x:Expr} (h:mE N B sc c x=true) (hd:iK' c=false) (hx:fF' x=false):∃elt own t it q r,c=.comp elt own t it q r/\∃ee gens scope pos,x=.ListComp ee gens scope pos:=by
 cases x<;>first|(cases hx;done)|skip
 .cases c<;>first|(exact av' h)|(cases hd;done)|exact⟨_,_,_,_,_,_,rfl,_,_,_,_,rfl⟩
 .cases c<;>first|(exact av' h)|(cases hd;done)|(rename_i r;cases r<;>first|(exact av' h)|(cases hd;done)|(rename_i r;cases r<;>first|(exact av' h)|(cases hd;done)|(rename_i r;cases r<;>exact av' h)))
 .cases c<;>first|(exact av' h)|(cases hd;done)|(rename_i r;cases r<;>first|(exact av' h)|(cases hd;done)|(rename_i r;cases r<;>first|(exact av' h)|(cases hd;done)|(rename_i r;cases r<;>exact av' h)))
def mK':Expr->Bool
 | .Starred ..=>true
 |_=>false
theorem nst {e:Expr} (h:aB' e=true):mK' e=false:=by
 cases e<;>first|rfl|cases h
theorem iN' {x y:Str} {px py pt pt2:Pos} {kt k2:Nat} {ea eb:Expr} {env:Env} (hb:env.scope.kind=.function) (kx:env.kindOf x=some .local) (ky:env.kindOf y=some .local) (hxy:x≠y) (hl:px.line=py.line) (h8:aB' ea=true) (h9:aB' eb=true)
  (h11:(foldedForSure 8 ea&&foldedForSure 8 eb)=false) (h12:(constantsAlone 8 ea&&constantsAlone 8 eb)=false):swappedStores [.Tuple [.Name x px,.Name y py] kt pt] (.Tuple [ea,eb] k2 pt2) env=pure (some [x,y]):=by
 have hbk:env.blockKind=.function:=by unfold Env.blockKind;rw[hb];rfl
 have p1:(Expr.Name x px).pos=px:=rfl
 have p2:(Expr.Name y py).pos=py:=rfl
 have hyx:(y == x)=false:=by simpa using fun z=>hxy z.symm
 have s1:[ea,eb].any mK'=false:=by
  rw[cn,cn,List.any_nil,nst h8,nst h9]
  rfl
 have s2:[ea,eb].all (foldedForSure 8)=false:=by
  rw[cJ,cJ,List.all_nil,Bool.and_true];exact h11
 have s3:[ea,eb].all (constantsAlone 8)=false:=by
  rw[cJ,cJ,List.all_nil,Bool.and_true];exact h12
 have s4:([x,y].eraseDups).length=2:=by
  simp[List.eraseDups_cons,hxy,hyx]
 unfold swappedStores
 dsimp only
 refine(if_neg ?_).trans ((if_neg (Bool.eq_false_iff.mp s1)).trans ?_)
 .simp[hbk]
 rw[s2,s3]
 simp[kx,ky,p1,p2,hl,bH,s4]
theorem eM' {tg:Expr} {env:Env} (h:aB' tg=true):(assignEach [tg] env).map (·.2)=[assign tg env]:=by
 cases tg<;>first|rfl|cases h
def sV':Expr->Expr->Bool
 | .Tuple ..,.Tuple ..=>false
 | .List ..,.Tuple ..=>false
 |_,_=>true
theorem gc' {tg x:Expr} {env:Env} (h:sV' tg x=true):swappedStores [tg] x env=pure none:=by
 cases tg<;>first|rfl|(cases x<;>first|rfl|cases h)
theorem hZ' {x y:Str} {px py pt pt2:Pos} {kt k2:Nat} {ea eb:Expr} {env:Env} (hc:env.kindOf x=some .cell\/env.kindOf y=some .cell) (h8:aB' ea=true) (h9:aB' eb=true):
  swappedStores [.Tuple [.Name x px,.Name y py] kt pt] (.Tuple [ea,eb] k2 pt2) env=pure none:=by
 have s1:[ea,eb].any mK'=false:=by
  rw[cn,cn,List.any_nil,nst h8,nst h9]
  rfl
 unfold swappedStores
 dsimp only
 by_cases hb:(!([Expr.Name x px,Expr.Name y py].length == 2 || [Expr.Name x px,Expr.Name y py].length == 3) || [ea,eb].length != [Expr.Name x px,Expr.Name y py].length || env.blockKind != ScopeKind.function)=true
 .exact if_pos hb
 .refine(if_neg hb).trans ((if_neg (Bool.eq_false_iff.mp s1)).trans (if_pos ?_))
  rcases hc with hc|hc
  .by_cases hy:(env.kindOf y == some NameKind.local&&(Expr.Name y py).pos.line == (Option.map (fun x=>x.pos.line) [Expr.Name x px,Expr.Name y py].head?).getD 0)=true<;>simp[bH,hc,hy]<;>(try split)<;>simp
  .by_cases hy:(env.kindOf x == some NameKind.local&&(Expr.Name x px).pos.line == (Option.map (fun x=>x.pos.line) [Expr.Name x px,Expr.Name y py].head?).getD 0)=true<;>simp[bH,hc,hy]<;>(try split)<;>simp
theorem h0' {tg:Expr} {vs:List Expr} {k:Nat} {pos:Pos} {env:Env} (h:vs.all (foldedForSure 8)=true):swappedStores [tg] (.Tuple vs k pos) env=pure none:=by
 have key:∀ts:List Expr,swappedStores [.Tuple ts 0 pos] (.Tuple vs k pos) env=pure none:=by
  intro ts
  unfold swappedStores
  dsimp only
  split
  .rfl
  .split
   .rfl
   .split
    .rfl
    .rfl
 cases tg<;>first|rfl|exact key _
theorem mL' {i:Expr} (h:cX' i=true) (ov iv new:Value):augStore i ov iv new=(do holding [new,ov,iv] (setItem ov iv new);release [new,ov,iv] [];pure .next):=by
 cases i<;>first|rfl|cases h
theorem sW' {N B:List Str} {sc:Scope} {t:Ct} {a:List Expr} {p:Pos} (h:mT N B sc t (.List a p)=true):False:=by
 cases t<;>exact av' h
set_option maxHeartbeats 4000000
mutual
theorem sS:∀(c:Cs) {C:Rc} {B:List Str} {X:Cx} {sc:Scope} {s:Stmt},Rok C B X sc->X.env.scope.kind=.function->mS C.N B sc c s=true->PS X s (tS C c)
 | .expr e,C,B,X,sc,s,R,hk,h=>by
  refine A2' h fun x w1 e0 g=>?_
  clear h
  subst e0
  revert g
  intro h
  obtain⟨hc,hd⟩:=hT' h
  clear h
  obtain⟨hc,hm⟩:=hT' hc
  replace hd:iK' e=false:=by cases z:iK' e with
   |false=>rfl
   |true=>rw[z]at hd;exact av' hd
  rw[show tS C (.expr e)=(r4' (tE C e)) from rfl]
  refine r5' (sE e R hc) (kv' ?_)
  cases hx:fF' x with
  |true=>rfl
  |false=>
   obtain⟨elt,own,t,it,q,r,rfl,_⟩:=mJ' hc hd hx
   exact av' hm
 | .ret e,C,B,X,sc,s,R,hk,h=>by
  refine A3' h fun x w1 e0 g=>?_
  clear h
  subst e0
  revert g
  intro h
  rw[show tS C (.ret e)=(Ac' (tE C e)) from rfl]
  exact vi' (sE e R h)
 | .asg t e,C,B,X,sc,s,R,hk,h=>by
  refine A4' h fun tg x pos e0 g=>?_
  clear h
  subst e0
  revert g
  intro h
  obtain⟨h,h4⟩:=hT' h
  obtain⟨h,h3⟩:=hT' h
  obtain⟨h,h2⟩:=hT' h
  obtain⟨h1,h0⟩:=hT' h
  replace h0:iK' e=false:=by cases z:iK' e with
   |false=>rfl
   |true=>rw[z]at h0;exact av' h0
  rw[show tS C (.asg t e)=(jf' (tE C e) (tG C t)) from rfl]
  have hw:swappedStores [tg] x X.env=pure none:=by
   cases tg with
   |Tuple a b c=>cases x<;>first|exact gc' rfl|exact h0' h4|exact av' h4
   |List a b=>exact(sW' h2).elim
   |_=>exact gc' rfl
  cases hx:fF' x with
  |true=>exact gX' (sE e R h1) (sG t R h2) (pa' hx) hw (eM' h3)
  |false=>
   obtain⟨elt,own,t',it,q,r,rfl,ee,gens,scope,p2,rfl⟩:=mJ' h1 h0 hx
   have D:=(sE0 _ R h1).2
   obtain⟨tg',iter,ifs,nx,scope',pos',D,hi,he,hu,hsw⟩:=D
   cases t with
   |name i=>
    cases tg with
    |Name y py=>
     obtain⟨b,hb⟩:=hsw y py pos.line
     cases b with
     |true=>
      replace h2:=hT' h2
      obtain⟨g1,g2,g3⟩:=aW' h2.1
      obtain⟨g4,g5⟩:=R.locb h2.2
      exact ke' D hi (by rw[R.hN];exact R.nd) (by rw[R.hN];exact g1) g4 g5 (hu _) hb
     |false=>exact gX' (sE _ R h1) (sG _ R h2) hb hw (eM' h3)
    |_=>exact av' h2
   |tup ts=>
    cases tg with
    |Tuple a b c=>exact av' h4
    |_=>exact av' h2
   |sub o i=>
    cases tg with
    |Subscript a b c=>exact gX' (sE _ R h1) (sG _ R h2) rfl hw (eM' h3)
    |_=>exact av' h2
 | .setc2 i elt own t it q ws t2 it2 q2,C,B,X,sc,s,R,hk,h=>by
  refine A5' h fun y py ee tg iter ifs a tg2 iter2 ifs2 a2 scope p2 pos e0 g=>?_
  clear h
  subst e0
  revert g
  intro h
  simp only[af,decide_eq_true_eq,bo,aQ]at h
  obtain⟨⟨⟨⟨⟨⟨⟨⟨⟨⟨⟨⟨⟨⟨⟨⟨⟨⟨hh,hnm⟩,hsc⟩,helt⟩,hown⟩,rfl⟩,h1⟩,h2⟩,h3⟩,h4⟩,h5⟩,rfl⟩,f1⟩,f2⟩,f3⟩,f4⟩,f5⟩,f6⟩,f7⟩:=h
  have hnm':=hnm
  replace hnm:=hT' hnm
  obtain⟨g1,g2,g3⟩:=aW' hnm.1
  obtain⟨g4,g5⟩:=R.locb hnm.2
  rw[show tS C (.setc2 i elt own t it q ws t2 it2 q2)=(jf' (ww' own (tI C it) (tG C t) (tQo C q) (iA' (tI C it2) (a9' ws (tG C t2) (tQo C q2) (hF' (tE C elt))))) (cR' i)) from rfl]
  refine sO' (nx:=fun D env=>aY' (.SetComp ee [⟨tg,iter,ifs,0⟩,⟨tg2,iter2,ifs2,0⟩] scope p2) 0 iter2 (.ref D) env) sM' (fun _=>rfl) oW' gA' sN' ⟨R.compSc hsc,?_,⟨_,rfl⟩,a2' h3,R.calm hh,fun _ _ _=>⟨rfl,rfl⟩,fun _ _ _ _=>⟨rfl,rfl⟩,fun _ _ _ _ _=>mI' _ _ _ _ _ _ _ _ _ _ _ _ _ _,fun _ _ _ _ _=>rfl,cJ' hown,?_⟩ (sI it R h1 h2) (by rw[R.hN];exact R.nd) (by rw[R.hN];exact g1) g4 g5 (sG (.name i) R hnm') rfl rfl ⟨_,rfl⟩
  .rw[R.hN];exact(d2' hsc).2.2.2.2
  .intro s0 H0 ex D
   have R':=R.comp hh hsc s0 H0 ex
   refine⟨sG t R' h4,sQo q R' h5,ws,f7,?_⟩
   exact e8' (nx:=do let v <- eval ee (X.comp scope s0 H0 ex).env;standAt ee.pos;let _ <- call (.builtin "set.add") [.ref D,v]) rfl (R.calm hh) (fun _=>rfl) (fun _=>rfl) (fun _=>rfl) (fun _=>rfl) (fun _=>rfl) (fun _=>rfl) ⟨_,rfl,rfl⟩ (a2' f3) (sI it2 R' f1 f2) (sG t2 R' f4) (cJ' f6) (sQo q2 R' f5) (md' rfl (sE elt R' helt)) (by simp) gA'
 | .dctc tup i k v own t it q,C,B,X,sc,s,R,hk,h=>by
  refine A6' h fun y py ke ve tg iter ifs a scope p2 pos e0 g=>?_
  clear h
  subst e0
  revert g
  intro h
  simp only[af,decide_eq_true_eq,bo]at h
  obtain⟨⟨⟨⟨⟨⟨⟨⟨⟨⟨⟨hh,hnm⟩,hsc⟩,hke⟩,hve⟩,hown⟩,rfl⟩,h1⟩,h2⟩,h3⟩,h4⟩,h5⟩:=h
  have hnm':=hnm
  replace hnm:=hT' hnm
  obtain⟨g1,g2,g3⟩:=aW' hnm.1
  obtain⟨g4,g5⟩:=R.locb hnm.2
  rw[show tS C (.dctc tup i k v own t it q)=(if tup then jf' (wy' own (tI C it) (tG C t) (tQo C q) (tE C k) (tE C v)) (cR' i)else jf' (wx' own (tI C it) (tG C t) (tQo C q) (tE C k) (tE C v)) (cR' i)) from rfl]
  cases tup with
  |false=>
   refine sO' (Is:=wq' X.prog X.w) (nx:=fun D env=>wR' ke ve D env) jr' (fun _=>rfl) mf' hH' wr' ⟨R.compSc hsc,?_,⟨[],rfl⟩,a2' h3,R.calm hh,fun _ _ _=>⟨rfl,rfl⟩,fun _ _ _ _=>⟨rfl,rfl⟩,fun _ _ _ _ _=>rfl,fun _ _ _ _ _=>rfl,cJ' hown,?_⟩ (sI it R h1 h2) (by rw[R.hN];exact R.nd) (by rw[R.hN];exact g1) g4 g5 (sG (.name i) R hnm') rfl rfl ⟨_,rfl⟩
   .rw[R.hN];exact(d2' hsc).2.2.2.2
   .intro s0 H0 ex D
    have R':=R.comp hh hsc s0 H0 ex
    exact⟨sG t R' h4,sQo q R' h5,[],by simp,mg' rfl (sE k R' hke) (sE v R' hve)⟩
  |true=>
   refine sO' (Is:=wu' X.prog X.w) (nx:=fun D env=>wR' ke ve D env) jr' (fun _=>rfl) mh' hJ' wv' ⟨R.compSc hsc,?_,⟨[],rfl⟩,a2' h3,R.calm hh,fun _ _ _=>⟨rfl,rfl⟩,fun _ _ _ _=>⟨rfl,rfl⟩,fun _ _ _ _ _=>rfl,fun _ _ _ _ _=>rfl,cJ' hown,?_⟩ (sI it R h1 h2) (by rw[R.hN];exact R.nd) (by rw[R.hN];exact g1) g4 g5 (sG (.name i) R hnm') rfl rfl ⟨_,rfl⟩
   .rw[R.hN];exact(d2' hsc).2.2.2.2
   .intro s0 H0 ex D
    have R':=R.comp hh hsc s0 H0 ex
    exact⟨sG t R' h4,sQo q R' h5,[],by simp,mi' R'.hu1 rfl (sE k R' hke) (sE v R' hve)⟩
 | .par i j a b,C,B,X,sc,s,R,hk,h=>by
  refine A7' h fun x px y py kt pt ea eb k2 pt2 pos e0 g=>?_
  clear h
  subst e0
  revert g
  intro h
  simp only[af,decide_eq_true_eq,bo,beq_iff_eq]at h
  obtain⟨⟨⟨⟨⟨⟨⟨⟨⟨⟨⟨⟨h1,h2⟩,h3⟩,h4⟩,h5⟩,h6⟩,h7⟩,h8⟩,h9⟩,h10⟩,h11⟩,h12⟩,hh⟩:=h
  obtain⟨g1,g2,g3⟩:=aW' h1
  obtain⟨f1,f2,f3⟩:=aW' h2
  rw[show tS C (.par i j a b)=(Ah' i j (bA' (tE C a) (bA' (tE C b) gU'))) from rfl]
  have lx:=R.loc x h4
  have ly:=R.loc y h5
  refine vn' (R.calm hh) (by rw[R.hN];exact R.nd) (by rw[R.hN];exact g1) (by rw[R.hN];exact f1) h3 lx ly (bC' (sE a R h6) (bC' (sE b R h7) eV' (aq' h9)) (aq' h8)) ?_
  have hxy:x≠y:=fun z=>h3 (gm' R.nd g1 (z ▸ f1))
  exact iN' hk lx ly hxy h10 h8 h9 h11 h12
 | .asg2 i j a b,C,B,X,sc,s,R,hk,h=>by
  refine A8' h fun x px y py kt pt ea eb k2 pt2 pos e0 g=>?_
  clear h
  subst e0
  revert g
  intro h
  simp only[af,bT,decide_eq_true_eq,bo]at h
  obtain⟨⟨⟨⟨⟨⟨⟨⟨⟨h1,h2⟩,h3⟩,h4⟩,h5⟩,h6⟩,h7⟩,h8⟩,h9⟩,hh⟩:=h
  obtain⟨g1,g2,g3⟩:=aW' h1
  obtain⟨f1,f2,f3⟩:=aW' h2
  obtain⟨g4,g5⟩:=R.locb h3
  obtain⟨f4,f5⟩:=R.locb h4
  rw[show tS C (.asg2 i j a b)=(jf' (vA' (bA' (tE C a) (bA' (tE C b) gU'))) (wA' C.K 2 (iu' (cR' i) (iu' (cR' j) vk')))) from rfl]
  rw[<- R.hK]
  refine gX' (qK' (bC' (sE a R h6) (bC' (sE b R h7) eV' (aq' h9)) (aq' h8))) (qT' (R.calm hh) (gn' (fm' (by rw[R.hN];exact R.nd) (by rw[R.hN];exact g1) g4 g5) (gn' (fm' (by rw[R.hN];exact R.nd) (by rw[R.hN];exact f1) f4 f5) kX'))) rfl (hZ' ?_ h8 h9) rfl
  rcases h5 with q|q
  .exact .inl (R.cel x q).1
  .exact .inr (R.cel y q).1
 | .asgc i j e,C,B,X,sc,s,R,hk,h=>by
  refine A9' h fun x w1 y w2 ee w3 e0 g=>?_
  clear h
  subst e0
  revert g
  intro h
  simp only[af]at h
  obtain⟨⟨⟨⟨h1,h2⟩,h3⟩,h4⟩,h5⟩:=h
  obtain⟨g1,g2,g3⟩:=aW' h1
  obtain⟨g4,g5⟩:=R.locb h2
  obtain⟨k1,k2,k3⟩:=aW' h3
  obtain⟨k4,k5⟩:=R.locb h4
  rw[show tS C (.asgc i j e)=(sy' i j (tE C e)) from rfl]
  exact sz' (sE e R h5) (fm' (by rw[R.hN];exact R.nd) (by rw[R.hN];exact g1) g4 g5) (fm' (by rw[R.hN];exact R.nd) (by rw[R.hN];exact k1) k4 k5) rfl rfl
 | .dput o i e,C,B,X,sc,s,R,hk,h=>by
  refine Ba' h fun eo ei w1 ee w2 e0 g=>?_
  clear h
  subst e0
  revert g
  intro h
  simp only[af]at h
  obtain⟨⟨⟨⟨h1,h2⟩,h3⟩,h4⟩,h5⟩:=h
  rw[show tS C (.dput o i e)=(sB' (tE C o) (tE C i) (tE C e)) from rfl]
  refine sC' R.hu1 (sE o R h1) (sE i R h2) (sE e R h4) ?_
  cases ee<;>first|rfl|cases h5
 | .aug i sub e,C,B,X,sc,s,R,hk,h=>by
  refine Bb' h fun x w1 op ee w2 e0 g=>?_
  clear h
  subst e0
  revert g
  intro h
  simp only[af,decide_eq_true_eq]at h
  obtain⟨⟨⟨h1,h2⟩,h3⟩,rfl⟩:=h
  obtain⟨g1,g2,g3⟩:=aW' h1
  obtain⟨g4,g5⟩:=R.locb h2
  rw[show tS C (.aug i sub e)=(Ai' i (tE C e) (ipI fun i j=>if sub then i-j else i+j)) from rfl]
  cases sub with
  |true=>exact qG' (by rw[R.hN];exact R.nd) (by rw[R.hN];exact g1) g4 (sE e R h3) qI' g5
  |false=>exact qG' (by rw[R.hN];exact R.nd) (by rw[R.hN];exact g1) g4 (sE e R h3) qH' g5
 | .augS o i sub e,C,B,X,sc,s,R,hk,h=>by
  refine Bh' h fun eo ei w1 op ee w2 e0 g=>?_
  clear h
  subst e0
  revert g
  intro h
  simp only[af,decide_eq_true_eq]at h
  obtain⟨⟨⟨⟨h1,h2⟩,h3⟩,h4⟩,rfl⟩:=h
  rw[show tS C (.augS o i sub e)=(r6' (tE C o) (tE C i) (tE C e) (gV' C.K) (ipI fun i j=>if sub then i-j else i+j) eh') from rfl]
  rw[<- R.hK]
  cases sub with
  |true=>exact kY' (sE o R h1) (sE i R h2) jn' (sE e R h4) qI' gq' (mL' h3)
  |false=>exact kY' (sE o R h1) (sE i R h2) jn' (sE e R h4) qH' gq' (mL' h3)
 | .ite q a b,C,B,X,sc,s,R,hk,h=>by
  refine Bc' h fun x ss rs w1 e0 g=>?_
  clear h
  subst e0
  revert g
  intro h
  simp only[af]at h
  rw[show tS C (.ite q a b)=(Ad' (tQ C q) (tSs C a) (tSs C b)) from rfl]
  exact Ae' (sQ q R h.1.1).1 (sSs a R hk h.1.2) (sSs b R hk h.2)
 | .whl q b,C,B,X,sc,s,R,hk,h=>by
  refine Bd' h fun x ss w1 e0 g=>?_
  clear h
  subst e0
  revert g
  intro h
  simp only[af]at h
  rw[show tS C (.whl q b)=(kZ' (tQ C q) (tSs C b)) from rfl]
  exact on' R.own (sQ q R h.1).1 (sSs b R hk h.2)
 | .for_ t it b,C,B,X,sc,s,R,hk,h=>by
  refine Be' h fun tg iter ss w1 e0 g=>?_
  clear h
  subst e0
  revert g
  intro h
  simp only[af,bo]at h
  obtain⟨⟨⟨⟨⟨h1,h2⟩,h3⟩,h4⟩,h5⟩,hh⟩:=h
  rw[show tS C (.for_ t it b)=(Aj' (tI C it) (tG C t) (tSs C b)) from rfl]
  exact vo' R.own (R.calm hh) (sI it R h1 h2) (sG t R h4) (sSs b R hk h5) (a2' h3)
theorem sSs:∀(c:Css) {C:Rc} {B:List Str} {X:Cx} {sc:Scope} {ss:List Stmt},Rok C B X sc->X.env.scope.kind=.function->mSs C.N B sc c ss=true->PSs X ss (tSs C c)
 | .nil,C,B,X,sc,ss,R,hk,h=>by
  refine Bf' h fun e0 g=>?_
  clear h
  subst e0
  revert g
  intro h
  rw[show tSs C .nil=(r2') from rfl];exact r3'
 | .cons c r,C,B,X,sc,ss,R,hk,h=>by
  refine Bg' h fun x xs e0 g=>?_
  clear h
  subst e0
  revert g
  intro h
  simp only[af]at h
  rw[show tSs C (.cons c r)=(Ab' (tS C c) (tSs C r)) from rfl]
  exact om' (sS c R hk h.1) (sSs r R hk h.2)
end
section
variable {P:Program} {w:World} {K:W.Frag} {mg:Str->Option Value} {base:Heap}
structure Ask (P:Program) (w:World) (K:W.Frag) (mg:Str->Option Value) (base:Heap) (k:Nat) (C:Rc):Prop where
 fs:∀y sp',C.fs y=some sp'->∃f' fd' ps',(FnOk P w K mg base CX0 k f' fd' ps' sp'\/FnOk P w K mg base (CX1 P w mg) k f' fd' ps' sp'/\u3' y∈C.B)/\mg y=some (.ref f')/\W.keepIn K (.ref f')=true/\fS' K fd' ps' []
 B:∀y∈C.B,mg y=none
 mrk:mg "~"=none/\mg "^"=none/\mg "%"=none
 cl:∀c Ca,C.cl c=some Ca->mg c=some (.ref Ca)/\W.nsIn K mainGlobals c=some (some (.ref Ca))
 nt:tld C.B=false
 nh:hat C.B=false
theorem sX' {x qual:Str} {st:Stmt} {f:Addr} {fd:FuncData} {ps:List Str} {k:Nat} {sp:Sp} (F:Fun K x qual st f fd) (C:Rc) (S:FnScope C.N ps (ab' st)) (hK:C.K=K) (code:Css) (hm:mSs C.N C.B (ab' st) code (am' st)=true)
  (len:∀vs H Q E,sp vs H Q E->vs.length=ps.length) (ask:Ask P w K mg base k C) (hxk:C.xk=fun _=>E0)
  (hbody:∀vs H Q E,sp vs H Q E->tSs C code { nx:=fun _ H'=>Q .non H',rt:=Q } (ay' C.N vs) H):FnOk P w K mg base CX0 (k+1) f fd ps sp:=by
 refine F.ok S len fun cdv A outer s H vs Q E hr h=>⟨_,sSs code (sc:=ab' st) (B:=C.B) ?_ S.kind hm,hbody vs H Q E h⟩
 refine⟨rfl,S.nd,hK.symm,PassesOwn.never,fun _=>rfl,hr.units,hr.gd,fun _ e=>e,fun _ e=>⟨e,rfl⟩,fun _ e=>.inr e,fun _ e=>e,fun y sp' e _ _=>?_,ask.B,ask.mrk,ask.cl,fun _=>⟨rfl,fun _=>rfl,rfl,rfl⟩,fun _=>ask.nh,fun _ _ nm Ca pins σ H s e t _ _ _ _ _ _ z=>?_⟩
 .obtain⟨f',fd',ps',h1,h2,h3,h4⟩:=ask.fs y sp' e
  rcases h1 with h1|⟨h1,hb⟩
  .exact⟨f',fd',ps',k,CX0,h1,hr,h2,h3,h4,.inl rfl,q1'⟩
  .refine⟨f',fd',ps',k,_,h1,hr,h2,h3,h4,.inr ⟨rfl,hb⟩,?_⟩
   rintro pins σ H s e s' I ⟨ea,T,Ca,nm,H',_,_,_,_,_,_,_,_,_,_,_,z⟩
   rw[hxk]at z
   exact z.elim
 .rw[hxk]at z
  exact z.elim
end
def pb' (a:Addr) (k:Nat) (h:Heap):Prop:=∃(x y z:Int) (t1 t2 t3:Tok) (n:Nat),h.get? a=some { cls:=.type "list",data:=.seq #[.int x t1,.int y t2,.int z t3] n }/\0<=x/\0<=y/\y<2 ^ 62/\0<=z/\z<=k
def dL' (a:Addr) (k:Nat):HO:=.ext (pb' a k)
def h4' (x y z:Int):HO:=.lst [.int x,.int y,.int z]
theorem wS' {a:Addr} {n k:Nat} (e:dL' a n=dL' a k):n<=k:=by
 have e1:pb' a n=pb' a k:=HO.ext.inj e
 let o:Obj:={ cls:=.type "list",data:=.seq #[.int 0 0,.int 0 0,.int n 0] 0 }
 let h0:Heap:={ (default:Heap)with objs:=Array.replicate a default }
 have hs:h0.objs.size=a:=Array.size_replicate
 have g:(h0.push o).get? a=some o:=by
  have:=aC h0 (o:=o) rfl
  rw[hs]at this
  exact this
 have q:pb' a n (h0.push o):=⟨0,0,n,0,0,0,0,g,by omega,by omega,by decide,by omega,by omega⟩
 rw[e1]at q
 obtain⟨x,y,z,t1,t2,t3,m,g2,_,_,_,_,hz⟩:=q
 rw[g]at g2
 have g3:=Option.some.inj g2
 have g4:(#[.int 0 0,.int 0 0,.int n 0]:Array Value)=#[.int x t1,.int y t2,.int z t3]:=by
  have:o.data=_:=congrArg Obj.data g3
  injection this
 have g6:=congrArg Array.toList g4
 simp only[List.cons.injEq,Value.int.injEq]at g6
 have g5:(n:Int)=z:=g6.2.2.1.1
 omega
theorem mM' {P:Program} {w:World} {H:Hp} {h:Heap} {b:Addr} {x y z:Int} {k:Nat} (hok:HOk P w H h) (e:H b=some (h4' x y z)) (hx:0<=x) (hy:0<=y) (hy2:y<2 ^ 62) (hz:0<=z) (hk:z<=k):HOk P w (upd H b (dL' b k)) h:=by
 intro c o ec
 by_cases hc:c=b
 .subst hc
  rw[ac']at ec
  cases ec
  obtain⟨_,its,n,rv,g⟩:=(show aG' P w H h c (.lst _) from hok c _ e)
  cases rv with
  |cons r1 r=>
   cases r with
   |cons r2 r=>
    cases r with
    |cons r3 r=>
     cases r
     obtain⟨t1,rfl⟩:=r1
     obtain⟨t2,rfl⟩:=r2
     obtain⟨t3,rfl⟩:=r3
     refine⟨⟨x,y,z,t1,t2,t3,n,g,hx,hy,hy2,hz,hk⟩,⟨_,g⟩,fun h1 h2 q kk=>?_⟩
     obtain⟨x,y,z,t1,t2,t3,n,g,r⟩:=q
     exact⟨x,y,z,t1,t2,t3,n,kk _ g,r⟩
 .rw[af' hc]at ec
  have ne:∀d u,H d=some u->(∀xs,u≠.lst xs)->d≠b:=fun d u q nu z=>by subst z;rw[e]at q;cases q;exact nu _ rfl
  exact(hok c o ec).stay (fun _ _ _ q=>q) (fun d q=>by rw[af' (ne d _ q fun _ z=>by cases z)];exact q) fun d xs q=>by rw[af' (ne d _ q fun _ z=>by cases z)];exact q
theorem pc' {P:Program} {w:World} {H:Hp} {h:Heap} {b:Addr} {k:Nat} (hok:HOk P w H h) (e:H b=some (dL' b k)):∃x y z:Int,0<=x/\0<=y/\y<2 ^ 62/\0<=z/\z<=k/\HOk P w (upd H b (h4' x y z)) h:=by
 obtain⟨⟨x,y,z,t1,t2,t3,n,g,hx,hy,hy2,hz,hk⟩,_,_⟩:=(show aG' P w H h b (.ext _) from hok b _ e)
 refine⟨x,y,z,hx,hy,hy2,hz,hk,fun c o ec=>?_⟩
 by_cases hc:c=b
 .subst hc
  rw[ac']at ec
  cases ec
  exact⟨by show 3<=sizeLine;decide,[.int x t1,.int y t2,.int z t3],n,.cons ⟨_,rfl⟩ (.cons ⟨_,rfl⟩ (.cons ⟨_,rfl⟩ .nil)),g⟩
 .rw[af' hc]at ec
  have ne:∀d u,H d=some u->(∀φ,u≠.ext φ)->d≠b:=fun d u q nu z=>by subst z;rw[e]at q;cases q;exact nu _ rfl
  exact(hok c o ec).stay (fun _ _ _ q=>q) (fun d q=>by rw[af' (ne d _ q fun _ z=>by cases z)];exact q) fun d xs q=>by rw[af' (ne d _ q fun _ z=>by cases z)];exact q
theorem pd' {fs ex:List Addr} {H H':Hp} {h h':Heap} {b:Addr} {xs:List V} {o:HO} (u:Un fs ex H H' h h') (e:H' b=some (.lst xs)):Un fs ex H (upd H' b o) h h' where
 keep:=u.keep
 slot:=u.slot
 free:=fun c ob q n hx=>by
  have z:=u.free c ob q n hx
  rw[af' (fun z2=>by subst z2;rw[e]at z;cases z)]
  exact z
 there:=u.there
 tups:=fun c ys q=>by
  have z:=u.tups c ys q
  rw[af' (fun z2=>by subst z2;rw[e]at z;cases z)]
  exact z
 frzs:=fun c ob ys q=>by
  have z:=u.frzs c ob ys q
  rw[af' (fun z2=>by subst z2;rw[e]at z;cases z)]
  exact z
 tbls:=fun c ps q=>by
  obtain⟨m,z⟩:=u.tbls c ps q
  exact⟨m,by rw[af' (fun z2=>by subst z2;rw[e]at z;cases z)];exact z⟩
theorem sY' {fs ex:List Addr} {H H':Hp} {h h':Heap} {b:Addr} {φ:Heap->Prop} {o:HO} (u:Un fs ex (upd H b o) H' h h') (e:H b=some (.ext φ)):Un fs ex H H' h h':=by
 have ne:∀c,H c=none->c≠b:=fun c n z=>by subst z;rw[e]at n;cases n
 have ne2:∀c v,H c=some v->(∀ψ,v≠.ext ψ)->c≠b:=fun c v q nv z=>by subst z;rw[e]at q;cases q;exact nv _ rfl
 exact⟨fun c ob q n=>u.keep c ob q (by rw[af' (ne c n)];exact n),fun c ob q n=>u.slot c ob q (by rw[af' (ne c n)];exact n),fun c ob q n=>u.free c ob q (by rw[af' (ne c n)];exact n),u.there,
  fun c ys q=>u.tups c ys (by rw[af' (ne2 c _ q fun _ z=>by cases z)];exact q),fun c ob ys q=>u.frzs c ob ys (by rw[af' (ne2 c _ q fun _ z=>by cases z)];exact q),fun c ps q=>u.tbls c ps (by rw[af' (ne2 c _ q fun _ z=>by cases z)];exact q)⟩
section
variable {P:Program} {w:World} {K:W.Frag} {mg:Str->Option Value} {base:Heap} {k:Nat} {f:Addr} {fd:FuncData} {ps:List Str} {sp sp':Sp}
def CW' (Q:VK) (v:V) (H:Hp):Prop:=∃b x y z m,H b=some (h4' x y z)/\0<=x/\0<=y/\y<2 ^ 62/\0<=z/\z<=((m:Nat):Int)/\Q v (upd H b (dL' b m))
theorem mN' (F:FnOk P w K mg base CX0 k f fd ps sp) (h:∀vs H Q E,sp' vs H Q E->sp vs H (CW' Q) E):FnOk P w K mg base CX0 k f fd ps sp':=by
 refine⟨fun vs H Q E q=>F.len vs H _ E (h _ _ _ _ q),fun A outer s H args us vs Q E hr e0 hb hv hs=>?_⟩
 refine codeAny_mono (F.run A outer s H args us vs _ E hr e0 hb hv (h _ _ _ _ hs)) fun r s' hq=>?_
 cases r with
 |error e=>exact hq
 |ok fl=>
  cases fl with
  |next=>exact hq
  |brk=>exact hq
  |cont=>exact hq
  |ret u=>
   obtain⟨v,H',os,bare,un,hok,rv,b,x,y,z,m,eb,hx,hy,hy2,hz,hm,q⟩:=hq
   exact⟨v,_,os,bare,pd' un eb,mM' hok eb hx hy hy2 hz hm,rv,q⟩
theorem sZ' (F:FnOk P w K mg base CX0 k f fd ps sp) (h:∀vs H Q E,sp' vs H Q E->∃b n,H b=some (dL' b n)/\∀x y z,0<=x->0<=y->y<2 ^ 62->0<=z->z<=((n:Nat):Int)->sp vs (upd H b (h4' x y z)) Q E) (len:∀vs H Q E,sp' vs H Q E->vs.length=ps.length):FnOk P w K mg base CX0 k f fd ps sp':=by
 refine⟨len,fun A outer s H args us vs Q E hr e0 hb hv hs=>?_⟩
 obtain⟨b,n,eb,hsp⟩:=h _ _ _ _ hs
 obtain⟨x,y,z,hx,hy,hy2,hz,hn,hok⟩:=pc' e0.hok eb
 have ne:∀c,H c=none->c≠b:=fun c n z=>by subst z;rw[eb]at n;cases n
 have e1:Env0 P w K mg base A outer s (upd H b (h4' x y z)):=⟨e0.frames,e0.mod,fun c o e=>⟨(e0.bs c o e).1,by rw[af' (ne c (e0.bs c o e).2)];exact(e0.bs c o e).2⟩,e0.bsz,e0.funs,fun c hc=>by rw[af' (ne c (e0.frf c hc))];exact e0.frf c hc,hok,e0.bare⟩
 refine codeAny_mono (F.run A outer s _ args us vs Q E hr e1 hb hv (hsp x y z hx hy hy2 hz hn)) fun r s' hq=>?_
 cases r with
 |error e=>exact hq
 |ok fl=>
  cases fl with
  |next=>exact hq
  |brk=>exact hq
  |cont=>exact hq
  |ret u=>
   obtain⟨v,H',os,bare,un,hok,rv,q⟩:=hq
   exact⟨v,H',os,bare,sY' un eb,hok,rv,q⟩
end
structure Go (c:Nat) (H H':Hp):Prop where
 box:∀a n,H a=some (dL' a n)->∃m,m<=n+c/\H' a=some (dL' a m)
 oth:∀a o,H a=some o->(∀φ,o≠.ext φ)->H' a=some o
 free:∀a,H' a=none->H a=none
theorem Go.of_same {c:Nat} {H H':Hp} (h:au' H H'):Go c H H':=⟨fun a n e=>⟨n,by omega,h a _ e⟩,fun a o e _=>h a o e,fun a e=>h.free e⟩
theorem Go.refl {c:Nat} {H:Hp}:Go c H H:=.of_same (au'.refl H)
theorem Go.trans {c d:Nat} {H H1 H2:Hp} (a:Go c H H1) (b:Go d H1 H2):Go (c+d) H H2:=⟨fun p n e=>by
  obtain⟨m,hm,e1⟩:=a.box p n e
  obtain⟨m',hm',e2⟩:=b.box p m e1
  exact⟨m',by omega,e2⟩,fun p o e no=>b.oth p o (a.oth p o e no) no,fun p e=>a.free p (b.free p e)⟩
theorem Go.mono {c d:Nat} {H H1:Hp} (a:Go c H H1) (h:c<=d):Go d H H1:=⟨fun p n e=>by
  obtain⟨m,hm,e1⟩:=a.box p n e
  exact⟨m,by omega,e1⟩,a.oth,a.free⟩
theorem Go.lst {c:Nat} {H H1:Hp} (a:Go c H H1) {p:Addr} {xs:List V} (e:H p=some (.lst xs)):H1 p=some (.lst xs):=a.oth p _ e fun _ z=>by cases z
theorem Go.tup {c:Nat} {H H1:Hp} (a:Go c H H1) {p:Addr} {xs:List V} (e:H p=some (.tup xs)):H1 p=some (.tup xs):=a.oth p _ e fun _ z=>by cases z
theorem Go.seq {c:Nat} {K:W.Frag} {H H1:Hp} (g:Go c H H1) {a:Addr} {xs:List V} (h:SqL K H a xs):SqL K H1 a xs:=by
 rcases h with(h|⟨o,h⟩)|h
 .exact .inl (.inl (g.lst h))
 .exact .inl (.inr ⟨o,g.oth _ _ h fun _ z=>by cases z⟩)
 .exact .inr h
theorem Go.new {c:Nat} {H:Hp} {p:Addr} (h:H p=none) (o:HO):Go c H (upd H p o):=.of_same fun b u q=>by rw[af' (ah' q h)];exact q
theorem Go.draw {H:Hp} {b:Addr} {n m:Nat} (e:H b=some (dL' b n)) (h:m<=n+1) (o:HO):Go 1 H (upd (upd H b o) b (dL' b m)):=by
 rw[fk']
 refine⟨fun p k q=>?_,fun p u q no=>?_,fun p q=>?_⟩
 .by_cases hp:p=b
  .subst hp
   rw[e]at q
   have:=wS' (Option.some.inj q)
   exact⟨m,by omega,ac'⟩
  .exact⟨k,by omega,by rw[af' hp];exact q⟩
 .rw[af']
  .exact q
  .intro z
   subst z
   rw[e]at q
   cases q
   exact no _ rfl
 .by_cases hp:p=b
  .subst hp
   rw[ac']at q
   cases q
  .rw[af' hp]at q
   exact q
section
variable {C:Rc} {σ:L2.St} {H:Hp} {Q:VK} {D:Ends} {Qb:Bool->Hp->Prop}
def kV (o:Option (Option V)) (H:Hp) (Q:VK):Prop:=∃v,o=some (some v)/\Q v H
theorem mO' {v:V}:kV (some (some v)) H Q=Q v H:=propext ⟨fun⟨u,e,q⟩=>by cases e;exact q,fun q=>⟨v,rfl,q⟩⟩
theorem q2' {i:Nat}:tE C (.var i) σ H Q=kV σ[i]? H Q:=rfl
theorem wT' {n:Int}:tE C (.int n) σ H Q=Q (.int n) H:=rfl
theorem Bk' {b:Bool}:tE C (.bl b) σ H Q=Q (.bl b) H:=rfl
theorem wU':tE C .non σ H Q=Q .non H:=rfl
theorem wV' {x:Str}:tE C (.str x) σ H Q=Q (.str x) H:=rfl
theorem Bl' {x:String}:tE C (.ty x) σ H Q=Q (.ty x) H:=rfl
def kB1 (C:Rc) (σ:L2.St) (op:Operator) (b:Ce) (Q:VK):VK:=fun x H=>tE C b σ H fun y H2=>fW' C.K op x y H2 Q
def kB2 (C:Rc) (op:Operator) (x:V) (Q:VK):VK:=fun y H=>fW' C.K op x y H Q
theorem q3' {op:Operator} {a b:Ce}:tE C (.bin op a b) σ H Q=tE C a σ H (kB1 C σ op b Q):=rfl
theorem q4' {op:Operator} {b:Ce} {x:V}:kB1 C σ op b Q x H=tE C b σ H (kB2 C op x Q):=rfl
theorem q5' {op:Operator} {x y:V}:kB2 C op x Q y H=fW' C.K op x y H Q:=rfl
def kC1 (C:Rc) (σ:L2.St) (op:CmpOp) (b:Ce) (Q:VK):VK:=fun x H=>tE C b σ H fun y H2=>dZ' C.K op x y H2 Q
def kC2 (C:Rc) (op:CmpOp) (x:V) (Q:VK):VK:=fun y H=>dZ' C.K op x y H Q
theorem wW' {op:CmpOp} {a b:Ce}:tE C (.cmp op a b) σ H Q=tE C a σ H (kC1 C σ op b Q):=rfl
theorem wX' {op:CmpOp} {b:Ce} {x:V}:kC1 C σ op b Q x H=tE C b σ H (kC2 C op x Q):=rfl
theorem wY' {op:CmpOp} {x y:V}:kC2 C op x Q y H=dZ' C.K op x y H Q:=rfl
def kI1 (C:Rc) (σ:L2.St) (b:Ce) (Q:VK):VK:=fun x H=>tE C b σ H fun y H2=>qU' C.K x y H2 Q
def kI2 (C:Rc) (x:V) (Q:VK):VK:=fun y H=>qU' C.K x y H Q
theorem wZ' {a b:Ce}:tE C (.idx a b) σ H Q=tE C a σ H (kI1 C σ b Q):=rfl
theorem w0' {b:Ce} {x:V}:kI1 C σ b Q x H=tE C b σ H (kI2 C x Q):=rfl
theorem w1' {x y:V}:kI2 C x Q y H=qU' C.K x y H Q:=rfl
def CX' (Q:VK):VK:=fun x H=>rU (fun i=>.int (-i)) x H Q
theorem w2' {a:Ce}:tE C (.neg a) σ H Q=tE C a σ H (CX' Q):=rfl
theorem pe' {i:Int}:CX' Q (.int i) H=Q (.int (-i)) H:=propext ⟨fun⟨u,e,q⟩=>by cases e;exact q,fun q=>⟨i,rfl,q⟩⟩
def kT (Qb:Bool->Hp->Prop):VK:=fun x H=>∃k,x=.bl k/\Qb k H
theorem Bm' {k:Bool}:kT Qb (.bl k) H=Qb k H:=propext ⟨fun⟨u,e,q⟩=>by cases e;exact q,fun q=>⟨k,rfl,q⟩⟩
theorem w3' {op:CmpOp} {a b:Ce}:tQ C (.cmp op a b) σ H Qb=tE C a σ H (kC1 C σ op b (kT Qb)):=rfl
def w4' (Qb:Bool->Hp->Prop):Bool->Hp->Prop:=fun c H=>Qb (!c) H
theorem w5' {q:Cq}:tQ C (.not q) σ H Qb=tQ C q σ H (w4' Qb):=rfl
theorem pf' {c:Bool}:w4' Qb c H=Qb (!c) H:=rfl
def s0' (C:Rc) (σ:L2.St) (b:Cq) (Qb:Bool->Hp->Prop):Bool->Hp->Prop:=fun c H=>if c=true then tQ C b σ H Qb else Qb false H
def Bn' (C:Rc) (σ:L2.St) (b:Cq) (Qb:Bool->Hp->Prop):Bool->Hp->Prop:=fun c H=>if c=true then Qb true H else tQ C b σ H Qb
theorem w6' {a b:Cq}:tQ C (.and a b) σ H Qb=tQ C a σ H (s0' C σ b Qb):=rfl
theorem Bo' {a b:Cq}:tQ C (.or a b) σ H Qb=tQ C a σ H (Bn' C σ b Qb):=rfl
theorem s1' {b:Cq}:s0' C σ b Qb true H=tQ C b σ H Qb:=rfl
theorem s2' {b:Cq}:s0' C σ b Qb false H=Qb false H:=rfl
theorem w7' {b:Cq}:Bn' C σ b Qb true H=Qb true H:=rfl
theorem w8' {b:Cq}:Bn' C σ b Qb false H=tQ C b σ H Qb:=rfl
variable {K:W.Frag} {i j:Int} {x y:Str}
theorem w9':fW' K .Add (.int i) (.int j) H Q=Q (.int (i+j)) H:=rfl
theorem xa':fW' K .Add (.str x) (.str y) H Q=(x.length+y.length<=sizeLine/\Q (.str (x++y)) H):=rfl
theorem Bp':fW' K .Sub (.int i) (.int j) H Q=Q (.int (i-j)) H:=propext ⟨fun⟨_,_,e,e',q⟩=>by cases e;cases e';exact q,fun q=>⟨_,_,rfl,rfl,q⟩⟩
theorem Bq':fW' K .Mult (.int i) (.int j) H Q=(o1' i j/\Q (.int (i*j)) H):=rfl
theorem xb':fW' K .Mult (.str x) (.int j) H Q=(-1000000<=j/\j<=1000000/\x.length*j.toNat<=1000000/\Q (.str (Txt.mul x j)) H):=rfl
theorem Br':fW' K .Mod (.int i) (.int j) H Q=(0<j/\Q (.int (i % j)) H):=propext ⟨fun⟨_,_,e,e',c,q⟩=>by cases e;cases e';exact⟨c,q⟩,fun q=>⟨_,_,rfl,rfl,q.1,q.2⟩⟩
theorem Bs':fW' K .FloorDiv (.int i) (.int j) H Q=(sQ' i j/\Q (.int (i / j)) H):=propext ⟨fun⟨_,_,e,e',c,q⟩=>by cases e;cases e';exact⟨c,q⟩,fun q=>⟨_,_,rfl,rfl,q.1,q.2⟩⟩
theorem Bt':fW' K .Pow (.int i) (.int j) H Q=(Ao' i j/\Q (.int (i ^ j.toNat)) H):=propext ⟨fun⟨_,_,e,e',c,q⟩=>by cases e;cases e';exact⟨c,q⟩,fun q=>⟨_,_,rfl,rfl,q.1,q.2⟩⟩
theorem DF':dZ' K .Lt (.int i) (.int j) H Q=Q (.bl (decide (i<j))) H:=propext ⟨fun⟨_,_,e,e',q⟩=>by cases e;cases e';exact q,fun q=>⟨_,_,rfl,rfl,q⟩⟩
theorem DG':dZ' K .LtE (.int i) (.int j) H Q=Q (.bl (decide (i<=j))) H:=propext ⟨fun⟨_,_,e,e',q⟩=>by cases e;cases e';exact q,fun q=>⟨_,_,rfl,rfl,q⟩⟩
theorem DH':dZ' K .Gt (.int i) (.int j) H Q=Q (.bl (decide (j<i))) H:=propext ⟨fun⟨_,_,e,e',q⟩=>by cases e;cases e';exact q,fun q=>⟨_,_,rfl,rfl,q⟩⟩
theorem DI':dZ' K .GtE (.int i) (.int j) H Q=Q (.bl (decide (j<=i))) H:=propext ⟨fun⟨_,_,e,e',q⟩=>by cases e;cases e';exact q,fun q=>⟨_,_,rfl,rfl,q⟩⟩
theorem DJ':dZ' K .Eq (.int i) (.int j) H Q=Q (.bl (decide (i=j))) H:=by
 have e:decide (V.int i=V.int j)=decide (i=j):=by simp
 exact propext ⟨fun q=>e ▸ q.2,fun q=>⟨rfl,e.symm ▸ q⟩⟩
theorem xc' {a:Addr}:qU' K (.ref a) (.int i) H Q=(gV' K (.ref a) (.int i) H Q\/jh' K (.ref a) (.int i) H Q):=rfl
def s3' (C:Rc) (r:Css) (D:Ends):Ends:={ D with nx:=tSs C r D }
theorem xd':tSs C .nil D σ H=D.nx σ H:=rfl
theorem s4' {s:Cs} {r:Css}:tSs C (.cons s r) D σ H=tS C s (s3' C r D) σ H:=rfl
theorem fG' {r:Css}:(s3' C r D).nx σ H=tSs C r D σ H:=rfl
theorem xe' {r:Css}:(s3' C r D).rt=D.rt:=rfl
theorem xf' {r:Css}:(s3' C r D).bk=D.bk:=rfl
theorem xg' {r:Css}:(s3' C r D).ct=D.ct:=rfl
theorem Bu' {e:Ce}:tS C (.ret e) D σ H=tE C e σ H D.rt:=rfl
def xh' (D:Ends) (σ:L2.St):VK:=fun _ H=>D.nx σ H
theorem xi' {e:Ce}:tS C (.expr e) D σ H=tE C e σ H (xh' D σ):=rfl
theorem pg' {v:V}:xh' D σ v H=D.nx σ H:=rfl
def CY' (i:Nat) (D:Ends) (σ:L2.St):VK:=fun x H=>D.nx (σ.set i (some x)) H
theorem Bv' {i:Nat} {e:Ce}:tS C (.asg (.name i) e) D σ H=tE C e σ H (CY' i D σ):=rfl
theorem s5' {i:Nat} {v:V}:CY' i D σ v H=D.nx (σ.set i (some v)) H:=rfl
def xj' (C:Rc) (o i:Ce) (D:Ends) (σ:L2.St):VK:=fun v H=>tE C o σ H fun p H1=>tE C i σ H1 fun k H2=>eh' p k v H2 fun H3=>D.nx σ H3
def xk' (C:Rc) (i:Ce) (v:V) (D:Ends) (σ:L2.St):VK:=fun p H1=>tE C i σ H1 fun k H2=>eh' p k v H2 fun H3=>D.nx σ H3
def xl' (p v:V) (D:Ends) (σ:L2.St):VK:=fun k H2=>eh' p k v H2 fun H3=>D.nx σ H3
theorem Bw' {o i e:Ce}:tS C (.asg (.sub o i) e) D σ H=tE C e σ H (xj' C o i D σ):=rfl
theorem ph' {o i:Ce} {v:V}:xj' C o i D σ v H=tE C o σ H (xk' C i v D σ):=rfl
theorem pi' {i:Ce} {v p:V}:xk' C i v D σ p H=tE C i σ H (xl' p v D σ):=rfl
theorem pj' {v p k:V}:xl' p v D σ k H=eh' p k v H (D.nx σ):=rfl
def kIf (C:Rc) (a b:Css) (D:Ends) (σ:L2.St):Bool->Hp->Prop:=fun c H=>if c=true then tSs C a D σ H else tSs C b D σ H
theorem DK' {q:Cq} {a b:Css}:tS C (.ite q a b) D σ H=tQ C q σ H (kIf C a b D σ):=rfl
theorem Bx' {a b:Css}:kIf C a b D σ true H=tSs C a D σ H:=rfl
theorem By' {a b:Css}:kIf C a b D σ false H=tSs C b D σ H:=rfl
theorem bB' {p:Prop} [Decidable p] {F:Bool->Hp->Prop} (h1:p->F true H) (h2:¬p->F false H):F (decide p) H:=by
 by_cases h:p
 .rw[decide_eq_true h];exact h1 h
 .rw[decide_eq_false h];exact h2 h
end
section
variable {C:Rc} {σ:L2.St} {H:Hp} {Q:VK} {D:Ends} {Qb:Bool->Hp->Prop} {Qs:List V->Hp->Prop}
def kA1 (C:Rc) (σ:L2.St) (r:Ces) (Qs:List V->Hp->Prop):VK:=fun x H=>tA C r σ H fun xs H2=>Qs (x :: xs) H2
def kA2 (x:V) (Qs:List V->Hp->Prop):List V->Hp->Prop:=fun xs H=>Qs (x :: xs) H
theorem Bz':tA C .nil σ H Qs=Qs [] H:=rfl
theorem xm' {e:Ce} {r:Ces}:tA C (.cons e r) σ H Qs=tE C e σ H (kA1 C σ r Qs):=rfl
theorem xn' {r:Ces} {x:V}:kA1 C σ r Qs x H=tA C r σ H (kA2 x Qs):=rfl
theorem xo' {x:V} {xs:List V}:kA2 x Qs xs H=Qs (x :: xs) H:=rfl
def xp' (Q:VK):List V->Hp->Prop:=fun xs H=>xs.length<=sizeLine/\∀p,H p=none->Q (.ref p) (upd H p (.tup xs))
def CZ' (Q:VK):List V->Hp->Prop:=fun xs H=>xs.length<=sizeLine/\∀p,H p=none->Q (.ref p) (upd H p (.lst xs))
theorem xq' {es:Ces}:tE C (.tup es) σ H Q=tA C es σ H (xp' Q):=rfl
theorem xr' {es:Ces}:tE C (.lst es) σ H Q=tA C es σ H (CZ' Q):=rfl
theorem s6' {xs:List V}:xp' Q xs H=(xs.length<=sizeLine/\∀p,H p=none->Q (.ref p) (upd H p (.tup xs))):=rfl
theorem s7' {xs:List V}:CZ' Q xs H=(xs.length<=sizeLine/\∀p,H p=none->Q (.ref p) (upd H p (.lst xs))):=rfl
def s8' (o:Option Sp) (E:XK) (Q:VK):List V->Hp->Prop:=fun vs H=>match o with
 |some sp=>sp (vs++[]) H Q E
 |none=>False
theorem s9' {f:Str} {es:Ces} {sp:Sp} (h:C.fs f=some sp):tE C (.call f es) σ H Q=tA C es σ H (s8' (some sp) (C.xk σ) Q):=by
 show(match C.fs f with|some sp=>ox' sp [] (C.xk σ) (tA C es) σ H Q|none=>False)=_
 rw[h]
 rfl
theorem pk' {sp:Sp} {E:XK} {vs:List V}:s8' (some sp) E Q vs H=sp vs H Q E:=by
 show sp (vs++[]) H Q E=_
 rw[cW]
def C0' (C:Rc) (f:Bf) (Q:VK):List V->Hp->Prop:=fun vs H=>dJ' C.K f vs H Q
theorem xt' {f:Bf} {es:Ces}:tE C (.blt f es) σ H Q=tA C es σ H (C0' C f Q):=rfl
theorem ta' {f:Bf} {vs:List V}:C0' C f Q vs H=dJ' C.K f vs H Q:=rfl
def xu' (C:Rc) (σ:L2.St) (m:Mf) (es:Ces) (Q:VK):VK:=fun x H=>tyV C.K (hL' m) x H/\tA C es σ H fun xs H2=>og' C.K m x xs H2 Q
def xv' (C:Rc) (m:Mf) (x:V) (Q:VK):List V->Hp->Prop:=fun xs H=>og' C.K m x xs H Q
theorem xw' {m:Mf} {o:Ce} {es:Ces}:tE C (.met m o es) σ H Q=tE C o σ H (xu' C σ m es Q):=rfl
theorem pl' {m:Mf} {es:Ces} {x:V}:xu' C σ m es Q x H=(tyV C.K (hL' m) x H/\tA C es σ H (xv' C m x Q)):=rfl
theorem pm' {m:Mf} {x:V} {xs:List V}:xv' C m x Q xs H=og' C.K m x xs H Q:=rfl
def BA' (C:Rc) (σ:L2.St) (a b:Ce) (Q:VK):Bool->Hp->Prop:=fun c H=>if c=true then tE C a σ H Q else tE C b σ H Q
theorem xx' {q:Cq} {a b:Ce}:tE C (.ife q a b) σ H Q=tQ C q σ H (BA' C σ a b Q):=rfl
theorem xy' {a b:Ce}:BA' C σ a b Q true H=tE C a σ H Q:=rfl
theorem xz' {a b:Ce}:BA' C σ a b Q false H=tE C b σ H Q:=rfl
def xA' (Q:VK):VK:=fun x H=>∃c,x=.bl c/\Q (.bl (!c)) H
theorem xB' {a:Ce}:tE C (.not a) σ H Q=tE C a σ H (xA' Q):=rfl
theorem pn' {c:Bool}:xA' Q (.bl c) H=Q (.bl (!c)) H:=propext ⟨fun⟨u,e,q⟩=>by cases e;exact q,fun q=>⟨c,rfl,q⟩⟩
def tb' (C:Rc) (σ:L2.St) (b:Ce) (Q:VK):VK:=fun x H=>∃c,x=.bl c/\if c=true then tE C b σ H Q else Q (.bl false) H
def BB' (C:Rc) (σ:L2.St) (b:Ce) (Q:VK):VK:=fun x H=>∃c,x=.bl c/\if c=true then Q (.bl true) H else tE C b σ H Q
theorem xC' {a b:Ce}:tE C (.and a b) σ H Q=tE C a σ H (tb' C σ b Q):=rfl
theorem BC' {a b:Ce}:tE C (.or a b) σ H Q=tE C a σ H (BB' C σ b Q):=rfl
theorem tc' {b:Ce}:tb' C σ b Q (.bl true) H=tE C b σ H Q:=propext ⟨fun⟨u,e,q⟩=>by cases e;exact q,fun q=>⟨_,rfl,q⟩⟩
theorem td' {b:Ce}:tb' C σ b Q (.bl false) H=Q (.bl false) H:=propext ⟨fun⟨u,e,q⟩=>by cases e;exact q,fun q=>⟨_,rfl,q⟩⟩
theorem xD' {b:Ce}:BB' C σ b Q (.bl true) H=Q (.bl true) H:=propext ⟨fun⟨u,e,q⟩=>by cases e;exact q,fun q=>⟨_,rfl,q⟩⟩
theorem xE' {b:Ce}:BB' C σ b Q (.bl false) H=tE C b σ H Q:=propext ⟨fun⟨u,e,q⟩=>by cases e;exact q,fun q=>⟨_,rfl,q⟩⟩
def z2' (C:Rc) (Qb:Bool->Hp->Prop):VK:=fun x H=>∃k,vy' C.K x H k/\Qb k H
theorem xF' {e:Ce}:tQ C (.val e) σ H Qb=tE C e σ H (z2' C Qb):=rfl
theorem te' {b:Bool}:z2' C Qb (.bl b) H=Qb b H:=propext ⟨fun⟨u,e,q⟩=>by
  have e:u=b:=e
  subst e
  exact q,fun q=>⟨b,rfl,q⟩⟩
def xG' (C:Rc) (σ:L2.St) (lo hi:Co) (Q:VK):VK:=fun x H=>tO C lo σ H fun l H2=>tO C hi σ H2 fun u H3=>rSl C.K x l u H3 Q
def xH' (C:Rc) (σ:L2.St) (hi:Co) (x:V) (Q:VK):Option Int->Hp->Prop:=fun l H=>tO C hi σ H fun u H3=>rSl C.K x l u H3 Q
def xI' (C:Rc) (x:V) (l:Option Int) (Q:VK):Option Int->Hp->Prop:=fun u H=>rSl C.K x l u H Q
theorem xJ' {a:Ce} {lo hi:Co}:tE C (.cut a lo hi) σ H Q=tE C a σ H (xG' C σ lo hi Q):=rfl
theorem po' {lo hi:Co} {x:V}:xG' C σ lo hi Q x H=tO C lo σ H (xH' C σ hi x Q):=rfl
theorem pp' {hi:Co} {x:V} {l:Option Int}:xH' C σ hi x Q l H=tO C hi σ H (xI' C x l Q):=rfl
theorem pq' {x:V} {l u:Option Int}:xI' C x l Q u H=rSl C.K x l u H Q:=rfl
variable {Qo:Option Int->Hp->Prop}
def pr' (Qo:Option Int->Hp->Prop):VK:=fun x H=>∃i,x=.int i/\Qo (some i) H
theorem xK':tO C .none σ H Qo=Qo none H:=rfl
theorem xL' {e:Ce}:tO C (.some e) σ H Qo=tE C e σ H (pr' Qo):=rfl
theorem mP' {i:Int}:pr' Qo (.int i) H=Qo (some i) H:=propext ⟨fun⟨u,e,q⟩=>by cases e;exact q,fun q=>⟨i,rfl,q⟩⟩
theorem xM' {K:W.Frag} {a:Addr} {l u:Option Int}:rSl K (.ref a) l u H Q=(zR' K (.ref a) l u H Q\/zQ' K (.ref a) l u H Q\/zY' K (.ref a) l u H Q):=rfl
def C1' (i:Nat) (sub:Bool) (x:V) (D:Ends) (σ:L2.St):VK:=fun y H=>∃a b,x=.int a/\y=.int b/\D.nx (σ.set i (some (.int (if sub then a-b else a+b)))) H
theorem BD' {i:Nat} {sub:Bool} {e:Ce} {a:Int} (h:σ[i]?=some (some (.int a))):tS C (.aug i sub e) D σ H=tE C e σ H (C1' i sub (.int a) D σ):=by
 show(∃x,σ[i]?=some (some x)/\tE C e σ H fun y H1=>(ipI fun i j=>if sub then i-j else i+j) x y H1 fun z H2=>D.nx (σ.set i (some z)) H2)=_
 rw[h]
 exact propext ⟨fun⟨x,e,q⟩=>by cases e;exact q,fun q=>⟨_,rfl,q⟩⟩
theorem pt' {i:Nat} {sub:Bool} {a b:Int}:C1' i sub (.int a) D σ (.int b) H=D.nx (σ.set i (some (.int (if sub then a-b else a+b)))) H:=propext ⟨fun⟨_,_,e,e',q⟩=>by cases e;cases e';exact q,fun q=>⟨_,_,rfl,rfl,q⟩⟩
def tf' (C:Rc) (σ:L2.St) (i j:Nat) (b:Ce) (D:Ends):VK:=fun v H=>tE C b σ H fun w H1=>D.nx ((σ.set i (some v)).set j (some w)) H1
def xN' (σ:L2.St) (i j:Nat) (v:V) (D:Ends):VK:=fun w H=>D.nx ((σ.set i (some v)).set j (some w)) H
theorem pu' {i j:Nat} {b:Ce} {v:V}:tf' C σ i j b D v H=tE C b σ H (xN' σ i j v D):=rfl
theorem pv' {i j:Nat} {v w:V}:xN' σ i j v D w H=D.nx ((σ.set i (some v)).set j (some w)) H:=rfl
end
def cb (b:Bool):Nat:=if b then 49 else 48
def tx (l:List Bool):Str:=⟨(l.map cb).toArray⟩
theorem mQ' {a:List Bool}:(tx a).length=a.length:=by show(a.map cb).toArray.size=_;simp
theorem mR' {a:List Bool}:(tx a).cps.size=a.length:=by show(a.map cb).toArray.size=_;simp
theorem xO' {a:List Bool} {i:Nat}:(tx a).cps[i]?=a[i]?.map cb:=by show(a.map cb).toArray[i]?=_;simp
theorem xP' {a b:List Bool}:tx a++tx b=tx (a++b):=by
 show(⟨(a.map cb).toArray++(b.map cb).toArray⟩:Str)=⟨((a++b).map cb).toArray⟩
 simp
theorem BE':(PySem.Str.ofString "01")=tx [false,true]:=⋯
theorem DL':(PySem.Str.ofString "0")=tx [false]:=⋯
theorem DM':(PySem.Str.ofString "1")=tx [true]:=⋯
theorem xQ':(PySem.Str.ofString "")=tx []:=⋯
theorem q6' {c:Bool}:PySem.intText? (tx [c])=some (if c then 1 else 0):=by cases c<;>decide +kernel
theorem aj' {N:List Str} {vs:List V} {n:Nat} (h:N.length=n):L2.ay' N vs=vs.map some++az (n-vs.length) none:=by subst h;rfl
section
variable {C:Rc} {σ:L2.St} {H:Hp} {Q:VK} {D:Ends} {Qb:Bool->Hp->Prop}
theorem xS' {i:Nat} {v:V} {R:L2.St->Hp->Prop}:tG C (.name i) v σ H R=R (σ.set i (some v)) H:=rfl
theorem dA' {i j:Nat} {a:Addr} {x y:V} {R:L2.St->Hp->Prop} (h:SqT C.K H a [x,y]) (q:R ((σ.set i (some x)).set j (some y)) H):tG C (.tup (.cons (.name i) (.cons (.name j) .nil))) (.ref a) σ H R:=
 ⟨a,[x,y],rfl,.inl h,rfl,_,_,rfl,_,_,rfl,rfl,q⟩
theorem q8' {i j k:Nat} {a:Addr} {x y z:V} {R:L2.St->Hp->Prop} (h:SqT C.K H a [x,y,z]) (q:R (((σ.set i (some x)).set j (some y)).set k (some z)) H):tG C (.tup (.cons (.name i) (.cons (.name j) (.cons (.name k) .nil)))) (.ref a) σ H R:=
 ⟨a,[x,y,z],rfl,.inl h,rfl,_,_,rfl,_,_,rfl,_,_,rfl,rfl,q⟩
def xT' (C:Rc) (t:Ct) (b:Css) (D:Ends) (σ:L2.St) (J:It) (H1:Hp):Prop:=∃W:Nat->Nat->L2.St->Hp->Prop,(∃m,W 0 m σ H1)/\∀i m σ H,W i m σ H->
 (J.stop i H/\D.nx σ H)\/(J.go i H/\∃N:L2.St->Hp->Prop,(∀σ' H',N σ' H'->∃m',m'<m/\W (i+1) m' σ' H')/\∀x H',J.yld i H x H'->tG C t x σ H' fun σ2 H2=>tSs C b { D with nx:=N,ct:=N,bk:=D.nx } σ2 H2)
theorem BF' {t:Ct} {it:Ci} {b:Css}:tS C (.for_ t it b) D σ H=tI C it σ H (xT' C t b D σ):=rfl
def kIv (C:Rc) (R:It->Hp->Prop):VK:=fun x H1=>
 (∃a,x=.ref a/\(∃xs,SqL C.K H1 a xs)/\R (Itl C.K a) H1)\/(∃a,x=.ref a/\(∃xs,SqT C.K H1 a xs)/\R (Itt C.K a) H1)\/∃z,x=.str z/\R (Its z) H1
theorem BG' {e:Ce} {R:It->Hp->Prop}:tI C (.val e) σ H R=tE C e σ H (kIv C R):=rfl
def kR1 (R:It->Hp->Prop):VK:=fun x H1=>∃j:Int,x=.int j/\-(2 ^ 62)<=j/\j<2 ^ 62/\R (Itr 0 j.toNat) H1
theorem pw' {e:Ce} {R:It->Hp->Prop}:tI C (.range1 e) σ H R=tE C e σ H fun x H1=>∃j:Int,[x]=[.int j]/\-(2 ^ 62)<=j/\j<2 ^ 62/\R (Itr 0 j.toNat) H1:=rfl
theorem mS' {e:Ce} {R:It->Hp->Prop}:tI C (.range1 e) σ H R=tE C e σ H (kR1 R):=by
 rw[pw']
 congr 1
 funext x H1
 unfold kR1
 simp only[List.cons.injEq,and_true]
def z3' (R:It->Hp->Prop) (x:V):VK:=fun y H1=>∃i j:Int,x=.int i/\y=.int j/\(-(2 ^ 62)<=i/\i<2 ^ 62/\-(2 ^ 62)<=j/\j<2 ^ 62)/\R (Itr i (j-i).toNat) H1
def BH' (C:Rc) (σ:L2.St) (e:Ce) (R:It->Hp->Prop):VK:=fun x H1=>tE C e σ H1 (z3' R x)
theorem mT' {a b:Ce} {R:It->Hp->Prop}:tI C (.range2 a b) σ H R=tE C a σ H (BH' C σ b R):=by
 show(tE C a σ H fun x H1=>tE C b σ H1 fun y H2=>∃i j:Int,[x,y]=[.int i,.int j]/\(-(2 ^ 62)<=i/\i<2 ^ 62/\-(2 ^ 62)<=j/\j<2 ^ 62)/\R (Itr i (j-i).toNat) H2)=_
 congr 1
 funext x H1
 unfold BH'
 congr 1
 funext y H2
 unfold z3'
 simp only[List.cons.injEq,and_true,and_assoc]
theorem th' {e:Ce} {R:It->Hp->Prop} {x:V}:BH' C σ e R x H=tE C e σ H (z3' R x):=rfl
def kZ2 (C:Rc) (R:It->Hp->Prop) (x:V):VK:=fun y H1=>∃(k j:Bool) (a b:Addr),x=.ref a/\y=.ref b/\(∃xs,Sq k C.K H1 a xs)/\(∃ys,Sq j C.K H1 b ys)/\R (u0' k j C.K a b) H1
def kZ1 (C:Rc) (σ:L2.St) (e:Ce) (R:It->Hp->Prop):VK:=fun x H1=>tE C e σ H1 (kZ2 C R x)
theorem BI' {a b:Ce} {R:It->Hp->Prop}:tI C (.zip a b) σ H R=tE C a σ H (kZ1 C σ b R):=by
 show(tE C a σ H fun x H1=>tE C b σ H1 fun y H2=>∃(k j:Bool) (p q:Addr),[x,y]=[.ref p,.ref q]/\(∃xs,Sq k C.K H2 p xs)/\(∃ys,Sq j C.K H2 q ys)/\R (u0' k j C.K p q) H2)=_
 congr 1
 funext x H1
 unfold kZ1
 congr 1
 funext y H2
 unfold kZ2
 simp only[List.cons.injEq,and_true,and_assoc]
theorem xU' {e:Ce} {R:It->Hp->Prop} {x:V}:kZ1 C σ e R x H=tE C e σ H (kZ2 C R x):=rfl
def kEn (C:Rc) (R:It->Hp->Prop):VK:=fun x H1=>(∃a,x=.ref a/\(∃xs,SqL C.K H1 a xs)/\R (Ite C.K a) H1)\/(∃z,x=.str z/\R (zS' z) H1)\/∃a,x=.ref a/\(∃xs,SqT C.K H1 a xs)/\R (zT' C.K a) H1
theorem xV' {a:Ce} {R:It->Hp->Prop}:tI C (.enum a) σ H R=tE C a σ H (kEn C R):=by
 show(tE C a σ H fun x H1=>∃y,[x]=[y]/\((∃a,y=.ref a/\(∃xs,SqL C.K H1 a xs)/\R (Ite C.K a) H1)\/(∃z,y=.str z/\R (zS' z) H1)\/∃a,y=.ref a/\(∃xs,SqT C.K H1 a xs)/\R (zT' C.K a) H1))=_
 congr 1
 funext x H1
 unfold kEn
 exact propext ⟨fun⟨y,e,q⟩=>by cases e;exact q,fun q=>⟨x,rfl,q⟩⟩
theorem jA' {R:It->Hp->Prop} {a:Addr} {xs:List V} (h:SqL C.K H a xs) (q:R (Ite C.K a) H):kEn C R (.ref a) H:=.inl ⟨a,rfl,⟨xs,h⟩,q⟩
theorem mU' {R:It->Hp->Prop} {z:Str} (q:R (Its z) H):kIv C R (.str z) H:=.inr (.inr ⟨z,rfl,q⟩)
theorem aF' {R:It->Hp->Prop} {a:Addr} {xs:List V} (h:SqL C.K H a xs) (q:R (Itl C.K a) H):kIv C R (.ref a) H:=.inl ⟨a,rfl,⟨xs,h⟩,q⟩
theorem bo' {R:It->Hp->Prop} {a:Addr} {xs:List V} (h:SqT C.K H a xs) (q:R (Itt C.K a) H):kIv C R (.ref a) H:=.inr (.inl ⟨a,rfl,⟨xs,h⟩,q⟩)
theorem fH' {R:It->Hp->Prop} {j:Int} (h0:-(2 ^ 62)<=j) (h1:j<2 ^ 62) (q:R (Itr 0 j.toNat) H):kR1 R (.int j) H:=⟨j,rfl,h0,h1,q⟩
theorem xW' {R:It->Hp->Prop} {i j:Int} (h0:-(2 ^ 62)<=i) (h1:i<2 ^ 62) (h2:-(2 ^ 62)<=j) (h3:j<2 ^ 62) (q:R (Itr i (j-i).toNat) H):z3' R (.int i) (.int j) H:=⟨i,j,rfl,rfl,⟨h0,h1,h2,h3⟩,q⟩
theorem mV' {R:It->Hp->Prop} {a b:Addr} {xs ys:List V} (h:SqL C.K H a xs) (h2:SqL C.K H b ys) (q:R (Itz false C.K a b) H):kZ2 C R (.ref a) (.ref b) H:=⟨false,false,a,b,rfl,rfl,⟨xs,h⟩,⟨ys,h2⟩,q⟩
theorem px' {a:Addr} {xs:List V} {t:Ct} {b:Css} (Pv:Nat->L2.St->Hp->Prop) (h0:Pv 0 σ H) (hl:∀i σ H,i<=xs.length->Pv i σ H->SqL C.K H a xs)
  (hs:∀i x σ H,xs[i]?=some x->Pv i σ H->tG C t x σ H (tSs C b { D with nx:=Pv (i+1),ct:=Pv (i+1),bk:=D.nx })) (hd:∀σ H,Pv xs.length σ H->D.nx σ H):xT' C t b D σ (Itl C.K a) H:=oq' Pv h0 hl hs hd
theorem BJ' {a:Addr} {xs:List V} {t:Ct} {b:Css} (Pv:Nat->L2.St->Hp->Prop) (h0:Pv 0 σ H) (hl:∀i σ H,i<=xs.length->Pv i σ H->SqT C.K H a xs)
  (hs:∀i x σ H,xs[i]?=some x->Pv i σ H->tG C t x σ H (tSs C b { D with nx:=Pv (i+1),ct:=Pv (i+1),bk:=D.nx })) (hd:∀σ H,Pv xs.length σ H->D.nx σ H):xT' C t b D σ (Itt C.K a) H:=r9' Pv h0 hl hs hd
theorem h5' {lo:Int} {n:Nat} {t:Ct} {b:Css} (Pv:Nat->L2.St->Hp->Prop) (h0:Pv 0 σ H)
  (hs:∀i σ H,i<n->Pv i σ H->tG C t (.int (lo+i)) σ H (tSs C b { D with nx:=Pv (i+1),ct:=Pv (i+1),bk:=D.nx })) (hd:∀σ H,Pv n σ H->D.nx σ H):xT' C t b D σ (Itr lo n) H:=k3' Pv h0 hs hd
theorem xX' {a:Addr} {xs:List V} {t:Ct} {b:Css} (Pv:Nat->L2.St->Hp->Prop) (h0:Pv 0 σ H) (hl:∀i σ H,i<=xs.length->Pv i σ H->SqL C.K H a xs)
  (hs:∀i x σ H p,xs[i]?=some x->H p=none->Pv i σ H->tG C t (.ref p) σ (upd H p (.tup [.int i,x])) (tSs C b { D with nx:=Pv (i+1),ct:=Pv (i+1),bk:=D.nx })) (hd:∀σ H,Pv xs.length σ H->D.nx σ H):xT' C t b D σ (Ite C.K a) H:=by
 refine⟨fun i m σ H=>m=xs.length-i/\i<=xs.length/\Pv i σ H,⟨xs.length,by simp,aK _,h0⟩,?_⟩
 rintro i m σ H ⟨rfl,hi,p⟩
 have q:=hl i σ H hi p
 by_cases hlt:i<xs.length
 .refine .inr ⟨⟨xs,xs[i],q,by simp[hlt]⟩,Pv (i+1),fun σ' H' p'=>⟨xs.length-(i+1),by omega,rfl,hlt,p'⟩,fun x H' y=>?_⟩
  obtain⟨ad,v,rfl,hn,y,rfl⟩:=y
  exact hs i v σ _ ad (y xs q) hn p
 .have e:i=xs.length:=by omega
  subst e
  exact .inl ⟨⟨xs,q,rfl⟩,hd σ H p⟩
def z4' (C:Rc) (b:Css) (D:Ends) (N:L2.St->Hp->Prop) (σ:L2.St):Bool->Hp->Prop:=fun c H1=>if c=true then ∃N':L2.St->Hp->Prop,(∀σ' H',N' σ' H'->N σ' H')/\tSs C b { D with nx:=N',ct:=N',bk:=D.nx } σ H1 else D.nx σ H1
theorem jB' {q:Cq} {b:Css} (Pv:Nat->L2.St->Hp->Prop) (m:Nat) (h0:Pv m σ H) (hs:∀m σ H,Pv m σ H->tQ C q σ H (z4' C b D (fun σ' H'=>∃m',m'<m/\Pv m' σ' H') σ)):tS C (.whl q b) D σ H:=⟨Pv,⟨m,h0⟩,hs⟩
theorem jC' {b:Css} {N:L2.St->Hp->Prop} (h:tSs C b { D with nx:=N,ct:=N,bk:=D.nx } σ H):z4' C b D N σ true H:=⟨N,fun _ _ q=>q,h⟩
theorem jD' {b:Css} {N:L2.St->Hp->Prop} (h:D.nx σ H):z4' C b D N σ false H:=by unfold z4';rw[if_neg (by decide)];exact h
def gF' (xs:List V) (P:List V->Hp->Prop):VK:=fun v H=>xs.length<sizeLine/\P (xs++[v]) H
def kCT (C:Rc) (elt:Ce) (xs:List V) (P:List V->Hp->Prop) (σ:L2.St):Bool->Hp->Prop:=fun ok H=>if ok=true then tE C elt σ H (gF' xs P)else P xs H
def kCG (C:Rc) (elt:Ce) (q:Cqo) (xs:List V) (P:List V->Hp->Prop):L2.St->Hp->Prop:=fun σ H=>tQo C q σ H (kCT C elt xs P σ)
theorem xY' {elt:Ce} {xs:List V} {P:List V->Hp->Prop}:kCG C elt .none xs P σ H=tE C elt σ H (gF' xs P):=rfl
theorem BK' {elt:Ce} {q:Cq} {xs:List V} {P:List V->Hp->Prop}:kCG C elt (.some q) xs P σ H=tQ C q σ H (kCT C elt xs P σ):=rfl
theorem BL' {elt:Ce} {xs:List V} {P:List V->Hp->Prop}:kCT C elt xs P σ true H=tE C elt σ H (gF' xs P):=rfl
theorem BM' {elt:Ce} {xs:List V} {P:List V->Hp->Prop}:kCT C elt xs P σ false H=P xs H:=rfl
theorem jE' {xs:List V} {P:List V->Hp->Prop} {v:V}:gF' xs P v H=(xs.length<sizeLine/\P (xs++[v]) H):=rfl
def mW' (Q:VK) (xs:List V) (H2:Hp):Prop:=∀p,H2 p=none->Q (.ref p) (upd H2 p (.lst xs))
def h6' (C:Rc) (elt:Ce) (own:List Nat) (t:Ct) (q:Cqo) (σ:L2.St) (Q:VK) (J:It) (H1:Hp):Prop:=a9' own (tG C t) (tQo C q) (fz' (tE C elt)) J σ [] H1 (mW' Q)
theorem ti' {elt:Ce} {own:List Nat} {t:Ct} {it:Ci} {q:Cqo}:tE C (.comp elt own t it q .nil) σ H Q=tI C it σ H (h6' C elt own t q σ Q):=rfl
theorem gG' {elt:Ce} {own:List Nat} {t:Ct} {q:Cqo} {J:It} {n:Nat} (Pv:Nat->List V->Hp->Prop) (h0:Pv 0 [] H) (hgo:∀i xs H,i<n->Pv i xs H->J.go i H) (hstop:∀xs H,Pv n xs H->J.stop n H)
  (hs:∀i xs H x H' (R:List V->Hp->Prop),i<n->Pv i xs H->J.yld i H x H'->(∀ys H2,Pv (i+1) ys H2->R ys H2)->tG C t x (clr own σ) H' (kCG C elt q xs R)) (hd:∀xs H,Pv n xs H->mW' Q xs H):h6' C elt own t q σ Q J H:=by
 refine⟨fun i m xs H=>m=n-i/\i<=n/\Pv i xs H,⟨n,by simp,aK _,h0⟩,?_⟩
 rintro i m xs H ⟨rfl,hi,p⟩
 by_cases hlt:i<n
 .refine .inr ⟨hgo i xs H hlt p,fun x H' y=>?_⟩
  exact hs i xs H x H' (fun c H4=>∃m',m'<n-i/\(m'=n-(i+1)/\i+1<=n/\Pv (i+1) c H4)) hlt p y fun ys H2 p2=>⟨n-(i+1),by omega,rfl,hlt,p2⟩
 .have e:i=n:=by omega
  subst e
  exact .inl ⟨hstop xs H p,hd xs H p⟩
theorem eq' {elt:Ce} {own:List Nat} {t:Ct} {q:Cqo} {a:Addr} {vs:List V} (Pv:Nat->List V->Hp->Prop) (h0:Pv 0 [] H) (hl:∀i xs H,Pv i xs H->SqL C.K H a vs)
  (hs:∀i xs H x (R:List V->Hp->Prop),vs[i]?=some x->Pv i xs H->(∀ys H2,Pv (i+1) ys H2->R ys H2)->tG C t x (clr own σ) H (kCG C elt q xs R)) (hd:∀xs H,Pv vs.length xs H->mW' Q xs H):h6' C elt own t q σ Q (Itl C.K a) H:=
 gG' (n:=vs.length) Pv h0 (fun i xs H hi p=>⟨vs,vs[i],hl i xs H p,by simp[hi]⟩) (fun xs H p=>⟨vs,hl _ xs H p,ak _⟩) (fun i xs H x H' R hi p y k=>by
  obtain⟨e,y⟩:=y
  subst e
  exact hs i xs H' x R (y vs (hl i xs H' p)) p k) hd
theorem gd' {elt:Ce} {own:List Nat} {t:Ct} {q:Cqo} {a:Addr} {vs:List V} (Pv:Nat->List V->Hp->Prop) (h0:Pv 0 [] H) (hl:∀i xs H,Pv i xs H->SqT C.K H a vs)
  (hs:∀i xs H x (R:List V->Hp->Prop),vs[i]?=some x->Pv i xs H->(∀ys H2,Pv (i+1) ys H2->R ys H2)->tG C t x (clr own σ) H (kCG C elt q xs R)) (hd:∀xs H,Pv vs.length xs H->mW' Q xs H):h6' C elt own t q σ Q (Itt C.K a) H:=
 gG' (n:=vs.length) Pv h0 (fun i xs H hi p=>⟨vs,vs[i],hl i xs H p,by simp[hi]⟩) (fun xs H p=>⟨vs,hl _ xs H p,ak _⟩) (fun i xs H x H' R hi p y k=>by
  obtain⟨e,y⟩:=y
  subst e
  exact hs i xs H' x R (y vs (hl i xs H' p)) p k) hd
theorem jF' {elt:Ce} {own:List Nat} {t:Ct} {q:Cqo} {lo:Int} {n:Nat} (Pv:Nat->List V->Hp->Prop) (h0:Pv 0 [] H)
  (hs:∀i xs H (R:List V->Hp->Prop),i<n->Pv i xs H->(∀ys H2,Pv (i+1) ys H2->R ys H2)->tG C t (.int (lo+i)) (clr own σ) H (kCG C elt q xs R)) (hd:∀xs H,Pv n xs H->mW' Q xs H):h6' C elt own t q σ Q (Itr lo n) H:=
 gG' (n:=n) Pv h0 (fun i xs H hi p=>hi) (fun xs H p=>ak _) (fun i xs H x H' R hi p y k=>by
  obtain⟨e,rfl⟩:=y
  subst e
  exact hs i xs H' R hi p k) hd
theorem q9' {elt:Ce} {own:List Nat} {t:Ct} {q:Cqo} {k j:Bool} {a b:Addr} {vs ws:List V} (hw:vs.length=ws.length) (Pv:Nat->List V->Hp->Prop) (h0:Pv 0 [] H) (hl:∀i xs H,Pv i xs H->Sq k C.K H a vs/\Sq j C.K H b ws)
  (hs:∀i xs H x y p (R:List V->Hp->Prop),vs[i]?=some x->ws[i]?=some y->H p=none->Pv i xs H->(∀ys H2,Pv (i+1) ys H2->R ys H2)->tG C t (.ref p) (clr own σ) (upd H p (.tup [x,y])) (kCG C elt q xs R)) (hd:∀xs H,Pv vs.length xs H->mW' Q xs H):h6' C elt own t q σ Q (u0' k j C.K a b) H:=
 gG' (n:=vs.length) Pv h0 (fun i xs H hi p=>⟨vs,ws,vs[i],ws[i],(hl i xs H p).1,(hl i xs H p).2,by simp[hi],by simp[hw ▸ hi]⟩) (fun xs H p=>⟨vs,ws,(hl _ xs H p).1,(hl _ xs H p).2,.inl (ak _)⟩) (fun i xs H x H' R hi p y kk=>by
  obtain⟨ad,u,v,rfl,hn,y1,y2,rfl⟩:=y
  exact hs i xs H u v ad R (y1 vs (hl i xs H p).1) (y2 ws (hl i xs H p).2) hn p kk) hd
end
section
variable {C:Rc} {K:W.Frag} {σ:L2.St} {H:Hp} {Q:VK} {D:Ends} {Qb:Bool->Hp->Prop}
theorem ag' {f:Str} {es:Ces} {sp:Sp} (h:C.fs f=some sp) (q:tA C es σ H (s8' (some sp) (C.xk σ) Q)):tE C (.call f es) σ H Q:=by
 rw[s9' h]
 exact q
theorem fI' {a:Addr} {xs:List V} (h:SqL K H a xs) (q:Q (.int xs.length) H):dJ' K .len [.ref a] H Q:=⟨_,_,rfl,.inl ⟨xs,h,rfl⟩,q⟩
theorem cl' {a:Addr} {xs:List V} (h:SqT K H a xs) (q:Q (.int xs.length) H):dJ' K .len [.ref a] H Q:=⟨_,_,rfl,.inr ⟨xs,h,rfl⟩,q⟩
theorem xZ' {i:Int}:dJ' K .abs [.int i] H Q=Q (.int (if i<0 then -i else i)) H:=propext ⟨fun⟨u,e,q⟩=>by cases e;exact q,fun q=>⟨_,rfl,q⟩⟩
theorem kw' {i:Int}:dJ' K .int [.int i] H Q=Q (.int i) H:=rfl
theorem mX' {k:Bool}:dJ' K .int [.bl k] H Q=Q (.int (if k then 1 else 0)) H:=rfl
theorem mY' {c:Bool}:dJ' K .int [.str (tx [c])] H Q=Q (.int (if c then 1 else 0)) H:=propext ⟨fun⟨n,e,_,q⟩=>by rw[q6']at e;cases e;exact q,fun q=>⟨_,q6',by rw[mQ',bB];decide,q⟩⟩
theorem tj' {i j:Int}:dJ' K .max [.int i,.int j] H Q=Q (.int (if j > i then j else i)) H:=rfl
theorem tl' {i j:Int}:dJ' K .min [.int i,.int j] H Q=Q (.int (if j<i then j else i)) H:=rfl
theorem mZ' {a:Addr} {ns:List Int} (h:SqL K H a (ns.map V.int)) (hn:ns≠[]) (q:∀M,M∈ns->(∀b∈ns,b<=M)->Q (.int M) H):dJ' K .max [.ref a] H Q:=⟨a,ns,rfl,h,hn,fun M h1 h2=>q M h1 h2⟩
theorem fJ' {a:Addr} {bs:List Bool} (h:SqL K H a (bs.map V.bl)) (q:Q (.bl (bs.all id)) H):dJ' K .all [.ref a] H Q:=⟨a,bs,rfl,h,q⟩
theorem x0' {x:V} {T c:String} (h:bm' H x=some T) (hT:T∈cW') (hc:c∈["bool","int","str","list","tuple","dict"]) (q:Q (.bl (isT T c)) H):dJ' K .isinstance [x,.ty c] H Q:=.inl (.inl ⟨x,T,c,rfl,h,hT,hc,q⟩)
theorem tm' {x:V} {T c d:String} {p:Addr} (h:bm' H x=some T) (hT:T∈cW') (hp:H p=some (.tup [.ty c,.ty d])) (hc:c∈["bool","int","str","list","tuple","dict"]) (hd:d∈["bool","int","str","list","tuple","dict"]) (q:Q (.bl (isT T c || isT T d)) H):dJ' K .isinstance [x,.ref p] H Q:=
 .inl <| .inr ⟨x,T,p,[c,d],rfl,h,hT,hp,fun e he=>by
  simp only[ap,aA,or_false]at he
  rcases he with rfl|rfl
  .exact hc
  .exact hd,by simpa using q⟩
theorem a3' {a:Addr} {xs:List V} {i:Int} {v:V} (h:SqL K H a xs) (e:atI xs i=some v) (q:Q v H):gV' K (.ref a) (.int i) H Q\/jh' K (.ref a) (.int i) H Q:=.inl ⟨a,xs,i,v,rfl,rfl,h,e,q⟩
theorem aA' {a:Addr} {xs:List V} {i:Int} {v:V} (h:SqT K H a xs) (e:atI xs i=some v) (q:Q v H):gV' K (.ref a) (.int i) H Q\/jh' K (.ref a) (.int i) H Q:=.inr ⟨a,xs,i,v,rfl,rfl,h,e,q⟩
theorem x1' {a:Addr} {u v:V} {k:Bool} (h:SqL K H a [u,v]) (q:Q (if k then v else u) H):gV' K (.ref a) (.int (if k then 1 else 0)) H Q\/jh' K (.ref a) (.int (if k then 1 else 0)) H Q:=by
 refine a3' h ?_ q
 cases k<;>rfl
theorem tn' {a:Addr} {u v:V} {k:Bool} (h:SqT K H a [u,v]) (q:Q (if k then v else u) H):gV' K (.ref a) (.int (if k then 1 else 0)) H Q\/jh' K (.ref a) (.int (if k then 1 else 0)) H Q:=by
 refine aA' h ?_ q
 cases k<;>rfl
theorem to' {x y:List Bool}:fW' K .Add (.str (tx x)) (.str (tx y)) H Q=(x.length+y.length<=sizeLine/\Q (.str (tx (x++y))) H):=by
 rw[xa',mQ',mQ',xP']
theorem x2' {a:Addr} {xs:List V} {y:V} {i:Nat} (h:H a=some (.lst xs)) (hz:xs.length<sizeLine) (hi:i<=xs.length) (q:Q .non (upd H a (.lst (xs.take i++y :: xs.drop i)))):og' K .insert (.ref a) [.int i,y] H Q:=⟨a,xs,y,i,rfl,rfl,h,hz,hi,q⟩
theorem dB' {j:Int} (q:∀p,H p=none->Q (.ref p) (upd H p (.rng 0 j))):dJ' K .range [.int j] H Q:=⟨0,j,.inr ⟨rfl,rfl⟩,q⟩
theorem et' {r:Addr} {i j:Int} (h:H r=some (.rng i j)) (h1:-(2 ^ 62)<=i) (h2:i<2 ^ 62) (h3:-(2 ^ 62)<=j) (h4:j<2 ^ 62) (hz:(j-i).toNat<=sizeLine) (q:∀p,H p=none->Q (.ref p) (upd H p (.lst (rgs i (j-i).toNat)))):dJ' K .list [.ref r] H Q:=.inr ⟨r,i,j,rfl,h,⟨h1,h2,h3,h4⟩,hz,q⟩
theorem jG' {a:Addr} {xs:List V} (h:SqL K H a xs) (q:∀p,H p=none->Q (.ref p) (upd H p (.lst xs))):dJ' K .list [.ref a] H Q:=.inl ⟨a,xs,rfl,.inl h,q⟩
theorem py' {a:Addr} {xs:List V} (h:SqT K H a xs) (q:∀p,H p=none->Q (.ref p) (upd H p (.lst xs))):dJ' K .list [.ref a] H Q:=.inl ⟨a,xs,rfl,.inr h,q⟩
theorem iO' {a:Addr} {xs:List V} (h:SqL K H a xs) (q:∀p,H p=none->Q (.ref p) (upd H p (.tup xs))):dJ' K .tuple [.ref a] H Q:=⟨a,xs,rfl,.inl ⟨h,q⟩⟩
theorem DN' {x:V}:dZ' K .Is x .non H Q=Q (.bl (decide (x=.non))) H:=propext ⟨fun⟨_,q⟩=>q,fun q=>⟨rfl,q⟩⟩
theorem tp' {x:V}:dZ' K .IsNot x .non H Q=Q (.bl (!decide (x=.non))) H:=propext ⟨fun⟨_,q⟩=>q,fun q=>⟨rfl,q⟩⟩
def kG (C:Rc) (t:Ct) (D:Ends) (σ:L2.St):VK:=fun v H=>tG C t v σ H D.nx
theorem iP' {t:Ct} {e:Ce}:tS C (.asg t e) D σ H=tE C e σ H (kG C t D σ):=rfl
theorem x4' {i j:Nat} {a b:Ce}:tS C (.asg2 i j a b) D σ H=tA C (.cons a (.cons b .nil)) σ H (xp' (kG C (.tup (.cons (.name i) (.cons (.name j) .nil))) D σ)):=rfl
theorem iQ' {i j:Nat} {a:Addr} {x y:V} (h:SqT C.K H a [x,y]) (q:D.nx ((σ.set i (some x)).set j (some y)) H):kG C (.tup (.cons (.name i) (.cons (.name j) .nil))) D σ (.ref a) H:=dA' h q
theorem iR' {i j k:Nat} {a:Addr} {x y z:V} (h:SqT C.K H a [x,y,z]) (q:D.nx (((σ.set i (some x)).set j (some y)).set k (some z)) H):kG C (.tup (.cons (.name i) (.cons (.name j) (.cons (.name k) .nil)))) D σ (.ref a) H:=q8' h q
theorem BN' {i j:Nat} {a b:Ce}:tS C (.par i j a b) D σ H=tE C a σ H (tf' C σ i j b D):=by
 show(tE C a σ H fun x H1=>tE C b σ H1 fun y H2=>∃v w,[x,y]=[v,w]/\D.nx ((σ.set i (some v)).set j (some w)) H2)=_
 congr 1
 funext x H1
 unfold tf'
 congr 1
 funext y H2
 exact propext ⟨fun⟨v,w,e,q⟩=>by cases e;exact q,fun q=>⟨x,y,rfl,q⟩⟩
theorem x5' {xs:List V} {n:Nat}:oC' xs none (some (n:Int))=xs.take n:=by
 unfold oC'
 rw[HT.sf',HT.oz']
 rcases Nat.le_total n xs.length with h|h
 .rw[Nat.min_eq_left h];simp
 .rw[Nat.min_eq_right h];simp[cT h]
theorem tq' {a:Addr} {xs:List V} {lo hi:Option Int} (h:SqL K H a xs) (q:∀p,H p=none->Q (.ref p) (upd H p (.lst (oC' xs lo hi)))):zR' K (.ref a) lo hi H Q\/zQ' K (.ref a) lo hi H Q\/zY' K (.ref a) lo hi H Q:=.inl ⟨a,xs,rfl,h,q⟩
theorem jH' {a:Addr} {xs:List V} {y:V} (h:H a=some (.lst xs)) (hz:xs.length<sizeLine) (q:Q .non (upd H a (.lst (xs++[y])))):og' K .append (.ref a) [y] H Q:=⟨a,xs,y,rfl,rfl,h,hz,q⟩
theorem tyL {a:Addr} {xs:List V} {m:Mf} (h:H a=some (.lst xs)) (hm:hL' m="list"):tyV K (hL' m) (.ref a) H:=.inl ⟨hm,xs,SqL.of h⟩
theorem x6' {a b:Addr} {xs zs:List V} (h:H a=some (.lst xs)) (h2:H b=some (.lst zs)) (hz:xs.length+zs.length<=sizeLine) (q:∀p,H p=none->Q (.ref p) (upd H p (.lst (xs++zs)))):fW' K .Add (.ref a) (.ref b) H Q:=.inl ⟨a,b,xs,zs,rfl,rfl,h,h2,hz,q⟩
theorem ae' {H:Hp} {p:Addr} (h:H p=none) (o:HO):au' H (upd H p o):=fun b u q=>by rw[af' (ah' q h)];exact q
theorem snw {H:Hp} {p:Addr} (h:H p=none) (o:HO):au' H (upd H p o)/\upd H p o p=some o:=⟨ae' h o,ac'⟩
theorem an' {α:Type} {l:List α} {i:Nat} {c:α} (hc:l[i]?=some c):i<l.length:=by
 rcases cK i l.length with h|h
 .exact h
 .rw[bq.mpr h]at hc;cases hc
theorem tr':tE C .dnew σ H Q=(∀p,H p=none->Q (.ref p) (upd H p (.dK []))):=rfl
def C2' (x:V) (Q:VK):VK:=fun y H=>∃a v,x=.ref a/\f5' H a y (some v)/\Q v H
def DO' (C:Rc) (σ:L2.St) (b:Ce) (Q:VK):VK:=fun x H=>tE C b σ H (C2' x Q)
theorem ts' {b:Ce} {x:V}:DO' C σ b Q x H=tE C b σ H (C2' x Q):=rfl
end
end R3
namespace R3
open PySem PySem.Spec PyProof.Rows L2 PySem.Builtin PySem.Builtin.Str
section
variable {C:Rc} {K:W.Frag} {σ:L2.St} {H:Hp} {Q:VK} {D:Ends} {Qb:Bool->Hp->Prop} {i j:Int}
theorem BO':fW' K .LShift (.int i) (.int j) H Q=(z1' i j/\Q (.int (i*2 ^ j.toNat)) H):=propext ⟨fun⟨_,_,e,e',c,q⟩=>by cases e;cases e';exact⟨c,q⟩,fun q=>⟨_,_,rfl,rfl,q.1,q.2⟩⟩
theorem BP':fW' K .RShift (.int i) (.int j) H Q=(0<=j/\Q (.int (i / 2 ^ j.toNat)) H):=propext ⟨fun⟨_,_,e,e',c,q⟩=>by cases e;cases e';exact⟨c,q⟩,fun q=>⟨_,_,rfl,rfl,q.1,q.2⟩⟩
theorem pz':og' K .bitlen (.int i) [] H Q=Q (.int (Builtin.Int.intBits i)) H:=propext ⟨fun⟨a,e1,e2,q⟩=>by cases e1;exact q,fun q=>⟨_,rfl,rfl,q⟩⟩
theorem pA' {n:Int}:z2' C Qb (.int n) H=Qb (!decide (n=0)) H:=by
 have e:(n != 0)=!decide (n=0):=by
  by_cases h:n=0
  .subst h;rfl
  .rw[decide_eq_false h];simpa using h
 exact propext ⟨fun⟨u,h,q⟩=>by
  have h:u=(n != 0):=h
  subst h
  rw[e]at q
  exact q,fun q=>⟨n != 0,rfl,by rw[e];exact q⟩⟩
theorem iS' {a:Addr} {xs:List V} (h:SqL C.K H a xs) (q:Qb (!xs.isEmpty) H):z2' C Qb (.ref a) H:=⟨_,.inl ⟨xs,h,rfl⟩,q⟩
theorem tt' {i:Nat} {e:Ce} {r:Css} (h:∀K:VK,(∀v H',tSs C r D (σ.set i (some v)) H'->K v H')->tE C e σ H K):tSs C (.cons (.asg (.name i) e) r) D σ H:=h _ fun _ _ q=>q
theorem BQ' {s:Cs} {r:Css} (h:∀N:L2.St->Hp->Prop,(∀σ' H',tSs C r D σ' H'->N σ' H')->tS C s { D with nx:=N } σ H):tSs C (.cons s r) D σ H:=h _ fun _ _ q=>q
def C3' (R:It->Hp->Prop) (x y:V):VK:=fun z H1=>∃i j c:Int,x=.int i/\y=.int j/\z=.int c/\(-(2 ^ 60)<=i/\i<2 ^ 60/\-(2 ^ 60)<=j/\j<2 ^ 60/\(0<c/\c<2 ^ 29\/c=-1))/\R (Itc i c (AF' i j c)) H1
def BR' (C:Rc) (σ:L2.St) (e:Ce) (R:It->Hp->Prop) (x:V):VK:=fun y H1=>tE C e σ H1 (C3' R x y)
def DP' (C:Rc) (σ:L2.St) (e e':Ce) (R:It->Hp->Prop):VK:=fun x H1=>tE C e σ H1 (BR' C σ e' R x)
theorem tu' {e e':Ce} {R:It->Hp->Prop} {x:V}:DP' C σ e e' R x H=tE C e σ H (BR' C σ e' R x):=rfl
theorem tv' {e:Ce} {R:It->Hp->Prop} {x y:V}:BR' C σ e R x y H=tE C e σ H (C3' R x y):=rfl
def x7' (C:Rc) (elt:Ce) (ws:List Nat) (t2:Ct) (q2:Cqo) (xs:List V) (P:List V->Hp->Prop) (σ:L2.St) (J:It) (H1:Hp):Prop:=a9' ws (tG C t2) (tQo C q2) (fz' (tE C elt)) J σ xs H1 P
def z5' (C:Rc) (elt:Ce) (ws:List Nat) (t2:Ct) (it2:Ci) (q2:Cqo) (xs:List V) (P:List V->Hp->Prop) (σ:L2.St):Bool->Hp->Prop:=fun ok H=>if ok=true then tI C it2 σ H (x7' C elt ws t2 q2 xs P σ)else P xs H
def z6' (C:Rc) (elt:Ce) (q:Cqo) (ws:List Nat) (t2:Ct) (it2:Ci) (q2:Cqo) (xs:List V) (P:List V->Hp->Prop):L2.St->Hp->Prop:=fun σ H=>tQo C q σ H (z5' C elt ws t2 it2 q2 xs P σ)
theorem x9' {elt:Ce} {ws:List Nat} {t2:Ct} {it2:Ci} {q2:Cqo} {xs:List V} {P:List V->Hp->Prop}:z6' C elt .none ws t2 it2 q2 xs P σ H=tI C it2 σ H (x7' C elt ws t2 q2 xs P σ):=rfl
theorem ya' {elt:Ce} {q:Cq} {ws:List Nat} {t2:Ct} {it2:Ci} {q2:Cqo} {xs:List V} {P:List V->Hp->Prop}:z6' C elt (.some q) ws t2 it2 q2 xs P σ H=tQ C q σ H (z5' C elt ws t2 it2 q2 xs P σ):=rfl
theorem yb' {elt:Ce} {ws:List Nat} {t2:Ct} {it2:Ci} {q2:Cqo} {xs:List V} {P:List V->Hp->Prop}:z5' C elt ws t2 it2 q2 xs P σ true H=tI C it2 σ H (x7' C elt ws t2 q2 xs P σ):=rfl
theorem yc' {elt:Ce} {ws:List Nat} {t2:Ct} {it2:Ci} {q2:Cqo} {xs:List V} {P:List V->Hp->Prop}:z5' C elt ws t2 it2 q2 xs P σ false H=P xs H:=rfl
def m0' (C:Rc) (elt:Ce) (own:List Nat) (t:Ct) (q:Cqo) (ws:List Nat) (t2:Ct) (it2:Ci) (q2:Cqo) (σ:L2.St) (Q:VK) (J:It) (H1:Hp):Prop:=a9' own (tG C t) (tQo C q) (iA' (tI C it2) (a9' ws (tG C t2) (tQo C q2) (fz' (tE C elt)))) J σ [] H1 (mW' Q)
theorem pB' {elt:Ce} {own:List Nat} {t:Ct} {it:Ci} {q:Cqo} {ws:List Nat} {t2:Ct} {it2:Ci} {q2:Cqo}:tE C (.comp elt own t it q (.cons ws t2 it2 q2 .nil)) σ H Q=tI C it σ H (m0' C elt own t q ws t2 it2 q2 σ Q):=rfl
theorem pC' {elt:Ce} {own:List Nat} {t:Ct} {q:Cqo} {ws:List Nat} {t2:Ct} {it2:Ci} {q2:Cqo} {J:It} {n:Nat} (Pv:Nat->List V->Hp->Prop) (h0:Pv 0 [] H) (hgo:∀i xs H,i<n->Pv i xs H->J.go i H) (hstop:∀xs H,Pv n xs H->J.stop n H)
  (hs:∀i xs H x H' (R:List V->Hp->Prop),i<n->Pv i xs H->J.yld i H x H'->(∀ys H2,Pv (i+1) ys H2->R ys H2)->tG C t x (clr own σ) H' (z6' C elt q ws t2 it2 q2 xs R)) (hd:∀xs H,Pv n xs H->mW' Q xs H):m0' C elt own t q ws t2 it2 q2 σ Q J H:=by
 refine⟨fun i m xs H=>m=n-i/\i<=n/\Pv i xs H,⟨n,by simp,aK _,h0⟩,?_⟩
 rintro i m xs H ⟨rfl,hi,p⟩
 by_cases hlt:i<n
 .refine .inr ⟨hgo i xs H hlt p,fun x H' y=>?_⟩
  exact hs i xs H x H' (fun c H4=>∃m',m'<n-i/\(m'=n-(i+1)/\i+1<=n/\Pv (i+1) c H4)) hlt p y fun ys H2 p2=>⟨n-(i+1),by omega,rfl,hlt,p2⟩
 .have e:i=n:=by omega
  subst e
  exact .inl ⟨hstop xs H p,hd xs H p⟩
theorem yd' {elt:Ce} {ws:List Nat} {t2:Ct} {q2:Cqo} {xs:List V} {P:List V->Hp->Prop} {J:It} {n:Nat} (Pv:Nat->List V->Hp->Prop) (h0:Pv 0 xs H) (hgo:∀i xs H,i<n->Pv i xs H->J.go i H) (hstop:∀xs H,Pv n xs H->J.stop n H)
  (hs:∀i xs H x H' (R:List V->Hp->Prop),i<n->Pv i xs H->J.yld i H x H'->(∀ys H2,Pv (i+1) ys H2->R ys H2)->tG C t2 x (clr ws σ) H' (kCG C elt q2 xs R)) (hd:∀xs H,Pv n xs H->P xs H):x7' C elt ws t2 q2 xs P σ J H:=by
 refine⟨fun i m xs H=>m=n-i/\i<=n/\Pv i xs H,⟨n,by simp,aK _,h0⟩,?_⟩
 rintro i m xs H ⟨rfl,hi,p⟩
 by_cases hlt:i<n
 .refine .inr ⟨hgo i xs H hlt p,fun x H' y=>?_⟩
  exact hs i xs H x H' (fun c H4=>∃m',m'<n-i/\(m'=n-(i+1)/\i+1<=n/\Pv (i+1) c H4)) hlt p y fun ys H2 p2=>⟨n-(i+1),by omega,rfl,hlt,p2⟩
 .have e:i=n:=by omega
  subst e
  exact .inl ⟨hstop xs H p,hd xs H p⟩
theorem tw' {elt:Ce} {own:List Nat} {t:Ct} {q:Cqo} {ws:List Nat} {t2:Ct} {it2:Ci} {q2:Cqo} {a:Addr} {vs:List V} (Pv:Nat->List V->Hp->Prop) (h0:Pv 0 [] H) (hl:∀i xs H,Pv i xs H->SqL C.K H a vs)
  (hs:∀i xs H x (R:List V->Hp->Prop),vs[i]?=some x->Pv i xs H->(∀ys H2,Pv (i+1) ys H2->R ys H2)->tG C t x (clr own σ) H (z6' C elt q ws t2 it2 q2 xs R)) (hd:∀xs H,Pv vs.length xs H->mW' Q xs H):m0' C elt own t q ws t2 it2 q2 σ Q (Itl C.K a) H:=
 pC' (n:=vs.length) Pv h0 (fun i xs H hi p=>⟨vs,vs[i],hl i xs H p,by simp[hi]⟩) (fun xs H p=>⟨vs,hl _ xs H p,ak _⟩) (fun i xs H x H' R hi p y k=>by
  obtain⟨e,y⟩:=y
  subst e
  exact hs i xs H' x R (y vs (hl i xs H' p)) p k) hd
theorem ye' {elt:Ce} {ws:List Nat} {t2:Ct} {q2:Cqo} {xs:List V} {P:List V->Hp->Prop} {l:List Bool} (Pv:Nat->List V->Hp->Prop) (h0:Pv 0 xs H)
  (hs:∀i xs H c (R:List V->Hp->Prop),l[i]?=some c->Pv i xs H->(∀ys H2,Pv (i+1) ys H2->R ys H2)->tG C t2 (.str (tx [c])) (clr ws σ) H (kCG C elt q2 xs R)) (hd:∀xs H,Pv l.length xs H->P xs H):x7' C elt ws t2 q2 xs P σ (Its (tx l)) H:=
 yd' (n:=l.length) Pv h0 (fun i xs H hi p=>by show i<(tx l).cps.size;rw[mR'];exact hi) (fun xs H p=>by show(tx l).cps.size<=l.length;rw[mR'];exact ak _) (fun i xs H x H' R hi p y k=>by
  obtain⟨e,c,hc,rfl⟩:=y
  subst e
  rw[xO',aa hi]at hc
  cases hc
  exact hs i xs H' l[i] R (aa hi) p k) hd
end
def ax' (l:List (Str×Sp)) (y:Str):Option Sp:=l.lookup y
theorem ad' {x:Str} {s:Sp} {l:List (Str×Sp)}:ax' ((x,s) :: l) x=some s:=by unfold ax';simp
theorem aa' {x y:Str} {s:Sp} {l:List (Str×Sp)} (h:(y == x)=false):ax' ((x,s) :: l) y=ax' l y:=by
 unfold ax'
 rw[bM,h]
theorem ge' {y:Str} {s:Sp}:∀{l:List (Str×Sp)},ax' l y=some s->(y,s)∈l
 | [],h=>by cases h
 |(x,t) :: l,h=>by
  unfold ax' at h
  rw[bM]at h
  cases e:y == x with
  |true=>
   rw[e]at h
   cases h
   rw[eq_of_beq e]
   exact aJ ..
  |false=>
   rw[e]at h
   exact aF _ (ge' h)
theorem ar' {P:Program} {w:World} {K:W.Frag} {mg:Str->Option Value} {base:Heap} {k:Nat} {l:List (Str×Sp)} (h:∀p∈l,∃f' fd' ps',FnOk P w K mg base CX0 k f' fd' ps' p.2/\mg p.1=some (.ref f')/\W.keepIn K (.ref f')=true/\fS' K fd' ps' []):
  ∀y sp',ax' l y=some sp'->∃f' fd' ps',FnOk P w K mg base CX0 k f' fd' ps' sp'/\mg y=some (.ref f')/\W.keepIn K (.ref f')=true/\fS' K fd' ps' []:=fun y sp' e=>h (y,sp') (ge' e)
theorem ak' {P:Program} {w:World} {K:W.Frag} {mg:Str->Option Value} {base:Heap} {x qual:Str} {st:Stmt} {f:Addr} {fd:FuncData} {ps:List Str} {k:Nat} {sp:Sp} (F:Fun K x qual st f fd) (C:Rc) (S:FnScope C.N ps (ab' st)) (hK:C.K=K) (code:Css) (hm:mSs C.N C.B (ab' st) code (am' st)=true)
  (len:∀vs H Q E,sp vs H Q E->vs.length=ps.length)
  (hfs:∀y sp',C.fs y=some sp'->∃f' fd' ps',FnOk P w K mg base CX0 k f' fd' ps' sp'/\mg y=some (.ref f')/\W.keepIn K (.ref f')=true/\fS' K fd' ps' []) (hB:∀y∈C.B,mg y=none) (hmk:mg "~"=none/\mg "^"=none/\mg "%"=none) (nt:tld C.B=false) (nh:hat C.B=false) (hxk:C.xk=fun _=>E0) (hcl:C.cl=fun _=>none)
  (hbody:∀vs H Q E,sp vs H Q E->tSs C code { nx:=fun _ H'=>Q .non H',rt:=Q } (ay' C.N vs) H):FnOk P w K mg base CX0 (k+1) f fd ps sp:=
 sX' F C S hK code hm len ⟨fun y sp' e=>by
  obtain⟨f',fd',ps',h1,h2⟩:=hfs y sp' e
  exact⟨f',fd',ps',.inl h1,h2⟩,hB,hmk,(fun c Ca e=>by rw[hcl]at e;cases e),nt,nh⟩ hxk hbody
theorem mC {α:Type} {P:α->Prop} {a:α} {l:List α} (h:P a/\∀x∈l,P x):∀x∈a :: l,P x:=List.forall_mem_cons.mpr h
theorem mN {α:Type} {P:α->Prop}:∀x∈([]:List α),P x:=fun y hy=>absurd hy aA
theorem kx' {α:Type} {P:List α->Prop} (h:∀x0,P [x0]):∀us:List α,us.length=1->P us
 | [x0],_=>h x0
theorem fR' {α:Type} {P:List α->Prop} (h:∀x0 x1,P [x0,x1]):∀us:List α,us.length=2->P us
 | [x0,x1],_=>h x0 x1
theorem u4' {α:Type} {P:List α->Prop} (h:∀x0 x1 x2,P [x0,x1,x2]):∀us:List α,us.length=3->P us
 | [x0,x1,x2],_=>h x0 x1 x2
theorem u5' {α:Type} {P:List α->Prop} (h:∀x0 x1 x2 x3,P [x0,x1,x2,x3]):∀us:List α,us.length=4->P us
 | [x0,x1,x2,x3],_=>h x0 x1 x2 x3
theorem DQ' {α:Type} {P:List α->Prop} (h:∀x0 x1 x2 x3 x4,P [x0,x1,x2,x3,x4]):∀us:List α,us.length=5->P us
 | [x0,x1,x2,x3,x4],_=>h x0 x1 x2 x3 x4
def jI' {α:Type} (aH':TL α) (b:α) (P:α->Hp->Prop) (σ:L2.St):Bool->Hp->Prop:=fun ok H=>if ok=true then aH' σ b H P else P b H
def iT' {α:Type} (tc:TT) (aH':TL α) (b:α) (P:α->Hp->Prop):L2.St->Hp->Prop:=fun σ H=>tc σ H (jI' aH' b P σ)
def kCl {α:Type} (own:List Nat) (g:TG) (tc:TT) (aH':TL α) (σ:L2.St) (a:α) (N:α->Hp->Prop) (J:It) (H:Hp):Prop:=a9' own g tc aH' J σ a H N
section
variable {C:Rc} {σ:L2.St} {H:Hp} {Q:VK} {D:Ends} {α:Type}
theorem tx' {aH':TL α} {b:α} {P:α->Hp->Prop}:iT' (tQo C .none) aH' b P σ H=aH' σ b H P:=rfl
theorem ty' {q:Cq} {aH':TL α} {b:α} {P:α->Hp->Prop}:iT' (tQo C (.some q)) aH' b P σ H=tQ C q σ H (jI' aH' b P σ):=rfl
theorem pD' {aH':TL α} {b:α} {P:α->Hp->Prop}:jI' aH' b P σ true H=aH' σ b H P:=rfl
theorem pE' {aH':TL α} {b:α} {P:α->Hp->Prop}:jI' aH' b P σ false H=P b H:=rfl
theorem pF' {own:List Nat} {g:TG} {tc:TT} {aH':TL α} {J:It} {a:α} {N:α->Hp->Prop} {n:Nat} (Pv:Nat->α->Hp->Prop) (h0:Pv 0 a H) (hgo:∀i b H,i<n->Pv i b H->J.go i H) (hstop:∀b H,Pv n b H->J.stop n H)
  (hs:∀i b H x H' (R:α->Hp->Prop),i<n->Pv i b H->J.yld i H x H'->(∀c H2,Pv (i+1) c H2->R c H2)->g x (clr own σ) H' (iT' tc aH' b R)) (hd:∀b H,Pv n b H->N b H):kCl own g tc aH' σ a N J H:=by
 refine⟨fun i m b H=>m=n-i/\i<=n/\Pv i b H,⟨n,by simp,aK _,h0⟩,?_⟩
 rintro i m b H ⟨rfl,hi,p⟩
 by_cases hlt:i<n
 .refine .inr ⟨hgo i b H hlt p,fun x H' y=>?_⟩
  exact hs i b H x H' (fun c H4=>∃m',m'<n-i/\(m'=n-(i+1)/\i+1<=n/\Pv (i+1) c H4)) hlt p y fun ys H2 p2=>⟨n-(i+1),by omega,rfl,hlt,p2⟩
 .have e:i=n:=by omega
  subst e
  exact .inl ⟨hstop b H p,hd b H p⟩
theorem C4' {own:List Nat} {g:TG} {tc:TT} {aH':TL α} {b0:α} {N:α->Hp->Prop} {a:Addr} {vs:List V} (Pv:Nat->α->Hp->Prop) (h0:Pv 0 b0 H) (hl:∀i b H,Pv i b H->SqL C.K H a vs)
  (hs:∀i b H x (R:α->Hp->Prop),vs[i]?=some x->Pv i b H->(∀c H2,Pv (i+1) c H2->R c H2)->g x (clr own σ) H (iT' tc aH' b R)) (hd:∀b H,Pv vs.length b H->N b H):kCl own g tc aH' σ b0 N (Itl C.K a) H:=
 pF' (n:=vs.length) Pv h0 (fun i xs H hi p=>⟨vs,vs[i],hl i xs H p,by simp[hi]⟩) (fun xs H p=>⟨vs,hl _ xs H p,ak _⟩) (fun i xs H x H' R hi p y k=>by
  obtain⟨e,y⟩:=y
  subst e
  exact hs i xs H' x R (y vs (hl i xs H' p)) p k) hd
theorem C5' {own:List Nat} {g:TG} {tc:TT} {aH':TL α} {b0:α} {N:α->Hp->Prop} {a:Addr} {vs:List V} (Pv:Nat->α->Hp->Prop) (h0:Pv 0 b0 H) (hl:∀i b H,Pv i b H->SqT C.K H a vs)
  (hs:∀i b H x (R:α->Hp->Prop),vs[i]?=some x->Pv i b H->(∀c H2,Pv (i+1) c H2->R c H2)->g x (clr own σ) H (iT' tc aH' b R)) (hd:∀b H,Pv vs.length b H->N b H):kCl own g tc aH' σ b0 N (Itt C.K a) H:=
 pF' (n:=vs.length) Pv h0 (fun i xs H hi p=>⟨vs,vs[i],hl i xs H p,by simp[hi]⟩) (fun xs H p=>⟨vs,hl _ xs H p,ak _⟩) (fun i xs H x H' R hi p y k=>by
  obtain⟨e,y⟩:=y
  subst e
  exact hs i xs H' x R (y vs (hl i xs H' p)) p k) hd
theorem C6' {own:List Nat} {g:TG} {tc:TT} {aH':TL α} {b0:α} {N:α->Hp->Prop} {a:Addr} {vs:List V} (Pv:Nat->α->Hp->Prop) (h0:Pv 0 b0 H) (hl:∀i b H,Pv i b H->SqL C.K H a vs)
  (hs:∀i b H x p (R:α->Hp->Prop),vs[i]?=some x->H p=none->Pv i b H->(∀c H2,Pv (i+1) c H2->R c H2)->g (.ref p) (clr own σ) (upd H p (.tup [.int i,x])) (iT' tc aH' b R)) (hd:∀b H,Pv vs.length b H->N b H):kCl own g tc aH' σ b0 N (Ite C.K a) H:=
 pF' (n:=vs.length) Pv h0 (fun i xs H hi p=>⟨vs,vs[i],hl i xs H p,by simp[hi]⟩) (fun xs H p=>⟨vs,hl _ xs H p,rfl⟩) (fun i xs H x H' R hi p y k=>by
  obtain⟨ad,v,rfl,hn,y,rfl⟩:=y
  exact hs i xs H v ad R (y vs (hl i xs H p)) hn p k) hd
theorem DR' {own:List Nat} {g:TG} {tc:TT} {aH':TL α} {b0:α} {N:α->Hp->Prop} {lo:Int} {n:Nat} (Pv:Nat->α->Hp->Prop) (h0:Pv 0 b0 H)
  (hs:∀i b H (R:α->Hp->Prop),i<n->Pv i b H->(∀c H2,Pv (i+1) c H2->R c H2)->g (.int (lo+i)) (clr own σ) H (iT' tc aH' b R)) (hd:∀b H,Pv n b H->N b H):kCl own g tc aH' σ b0 N (Itr lo n) H:=
 pF' (n:=n) Pv h0 (fun i xs H hi p=>hi) (fun xs H p=>ak _) (fun i xs H x H' R hi p y k=>by
  obtain⟨e,rfl⟩:=y
  subst e
  exact hs i xs H' R hi p k) hd
theorem pG' {elt:Ce} {own:List Nat} {t:Ct} {it:Ci} {q:Cqo} {ws:List Nat} {t2:Ct} {it2:Ci} {q2:Cqo} {r:Cc}:tE C (.comp elt own t it q (.cons ws t2 it2 q2 r)) σ H Q=tI C it σ H (kCl own (tG C t) (tQo C q) (tR C (.cons ws t2 it2 q2 r) (fz' (tE C elt))) σ [] (mW' Q)):=rfl
theorem tz' {ws:List Nat} {t:Ct} {it:Ci} {q:Cqo} {r:Cc} {em:TL (List V)} {b:List V} {P:List V->Hp->Prop}:tR C (.cons ws t it q r) em σ b H P=tI C it σ H (kCl ws (tG C t) (tQo C q) (tR C r em) σ b P):=rfl
theorem yf' {em:TL (List V)} {b:List V} {P:List V->Hp->Prop}:tR C .nil em σ b H P=em σ b H P:=rfl
theorem tA' {elt:Ce} {b:List V} {P:List V->Hp->Prop}:fz' (tE C elt) σ b H P=tE C elt σ H (gF' b P):=rfl
def BS' (b:(Option Int->Bool)×Nat) (P:(Option Int->Bool)×Nat->Hp->Prop):VK:=fun v H=>∃k,v=kO k/\b.2<4000/\P (fun j=>b.1 j || decide (j=k),b.2+1) H
theorem pH' {elt:Ce} {b:(Option Int->Bool)×Nat} {P:(Option Int->Bool)×Nat->Hp->Prop}:hF' (tE C elt) σ b H P=tE C elt σ H (BS' b P):=rfl
theorem tC' {it:Ci} {own:List Nat} {g:TG} {tc:TT} {aH':TL α} {b:α} {P:α->Hp->Prop}:iA' (tI C it) (a9' own g tc aH') σ b H P=tI C it σ H (kCl own g tc aH' σ b P):=rfl
def BT' (i:Nat) (D:Ends) (σ:L2.St):(Option Int->Bool)×Nat->Hp->Prop:=fun a H2=>True/\∀p,H2 p=none->D.nx (σ.set i (some (.ref p))) (upd H2 p (f7' p a.1 a.2))
theorem tD' {i:Nat} {elt:Ce} {own:List Nat} {t:Ct} {it:Ci} {q:Cqo} {ws:List Nat} {t2:Ct} {it2:Ci} {q2:Cqo}:tS C (.setc2 i elt own t it q ws t2 it2 q2) D σ H=tI C it σ H (kCl own (tG C t) (tQo C q) (iA' (tI C it2) (a9' ws (tG C t2) (tQo C q2) (hF' (tE C elt)))) σ (fun _=>false,0) (BT' i D σ)):=rfl
theorem yg' {K:W.Frag} {a:Addr} {ns:List Int} (h:SqL K H a (ns.map V.int)) (hl:ns.length<=3999) (q:∀p,H p=none->Q (.ref p) (upd H p (f7' p (inL ns) ns.length))):dJ' K .set [.ref a] H Q:=⟨a,ns,rfl,h,hl,q⟩
def BU' (i:Nat) (D:Ends) (σ:L2.St):List (Key×V)->Hp->Prop:=fun a H2=>True/\∀p,H2 p=none->D.nx (σ.set i (some (.ref p))) (upd H2 p (.dK a))
def BV' (i:Nat) (D:Ends) (σ:L2.St):KTL->Hp->Prop:=fun a H2=>okT a H2/\∀p,H2 p=none->D.nx (σ.set i (some (.ref p))) (upd H2 p (.dT (plT a)))
theorem tE' {i:Nat} {k v:Ce} {own:List Nat} {t:Ct} {it:Ci} {q:Cqo}:tS C (.dctc false i k v own t it q) D σ H=tI C it σ H (kCl own (tG C t) (tQo C q) (js' (tE C k) (tE C v)) σ [] (BU' i D σ)):=rfl
theorem tF' {i:Nat} {k v:Ce} {own:List Nat} {t:Ct} {it:Ci} {q:Cqo}:tS C (.dctc true i k v own t it q) D σ H=tI C it σ H (kCl own (tG C t) (tQo C q) (jt' (tE C k) (tE C v)) σ [] (BV' i D σ)):=rfl
def C7' (a:List (Key×V)) (P:List (Key×V)->Hp->Prop) (y:V):VK:=fun v H2=>∃k,y=L2.kV k/\a.length<sizeLine/\P (gW' a k v) H2
def C8' (C:Rc) (σ:L2.St) (v:Ce) (a:List (Key×V)) (P:List (Key×V)->Hp->Prop):VK:=fun y H1=>tE C v σ H1 (C7' a P y)
theorem pI' {k v:Ce} {a:List (Key×V)} {P:List (Key×V)->Hp->Prop}:js' (tE C k) (tE C v) σ a H P=tE C k σ H (C8' C σ v a P):=rfl
theorem tG' {v:Ce} {a:List (Key×V)} {P:List (Key×V)->Hp->Prop} {y:V}:C8' C σ v a P y H=tE C v σ H (C7' a P y):=rfl
def C9' (a:KTL) (P:KTL->Hp->Prop) (y:V):VK:=fun v H2=>∃(k:List Key) (b:Addr),y=.ref b/\H2 b=some (.tup (k.map L2.kV))/\okT a H2/\(∀x∈a,x.1≠k)/\a.length<sizeLine/\P (a++[(k,b,v)]) H2
def Da' (C:Rc) (σ:L2.St) (v:Ce) (a:KTL) (P:KTL->Hp->Prop):VK:=fun y H1=>tE C v σ H1 (C9' a P y)
theorem pJ' {k v:Ce} {a:KTL} {P:KTL->Hp->Prop}:jt' (tE C k) (tE C v) σ a H P=tE C k σ H (Da' C σ v a P):=rfl
theorem tH' {v:Ce} {a:KTL} {P:KTL->Hp->Prop} {y:V}:Da' C σ v a P y H=tE C v σ H (C9' a P y):=rfl
def BW' (b:List (List Int×Addr)) (P:List (List Int×Addr)->Hp->Prop):VK:=fun v H'=>∃(k:List Int) (p:Addr),v=.ref p/\H' p=some (.tup (k.map V.int))/\Trk H' b/\b.length<4000/\P (CR' b k p) H'
theorem pK' {elt:Ce} {b:List (List Int×Addr)} {P:List (List Int×Addr)->Hp->Prop}:wz' (tE C elt) σ b H P=tE C elt σ H (BW' b P):=rfl
def pL' (neg:Bool) (y:V) (Q:VK):VK:=fun x H2=>(∃a o,x=.ref a/\f5' H2 a y o/\Q (.bl (if neg then !o.isSome else o.isSome)) H2)\/z0' neg y x H2 Q
def tI' (C:Rc) (σ:L2.St) (neg:Bool) (b:Ce) (Q:VK):VK:=fun y H1=>tE C b σ H1 (pL' neg y Q)
theorem yh' {neg:Bool} {a b:Ce}:tE C (.din neg a b) σ H Q=tE C a σ H (tI' C σ neg b Q):=rfl
theorem yi' {neg:Bool} {a b:Ce} {Qb:Bool->Hp->Prop}:tQ C (.din neg a b) σ H Qb=tE C a σ H (tI' C σ neg b (kT Qb)):=rfl
theorem pM' {neg:Bool} {b:Ce} {y:V}:tI' C σ neg b Q y H=tE C b σ H (pL' neg y Q):=rfl
theorem m1' {neg:Bool} {k:Option Int} {y:V} {p:Addr} {S:Option Int->Bool} {n:Nat} (hy:y=kO k) (h:H p=some (f7' p S n)) (q:Q (.bl (if neg then !(S k)else S k)) H):pL' neg y Q (.ref p) H:=.inr ⟨k,p,S,n,hy,rfl,h,q⟩
theorem m2' {neg:Bool} {y:V} {p:Addr} {o:Option V} (h:f5' H p y o) (q:Q (.bl (if neg then !o.isSome else o.isSome)) H):pL' neg y Q (.ref p) H:=.inl ⟨p,o,rfl,h,q⟩
def iU' (a:Addr) (Q:VK):VK:=fun y H2=>(∃o,f5' H2 a y o/\Q (o.getD .non) H2)\/(y=.non/\NoN H2 a/\Q .non H2)
def yj' (C:Rc) (σ:L2.St) (b:Ce) (Q:VK):VK:=fun x H1=>∃a,x=.ref a/\IsD H1 a/\tE C b σ H1 (iU' a Q)
theorem yk' {a b:Ce}:tE C (.dgt a b) σ H Q=tE C a σ H (yj' C σ b Q):=rfl
def ra' (a:Addr) (y:V) (Q:VK):VK:=fun z H3=>∃o,f5' H3 a y o/\Q (o.getD z) H3
def yl' (C:Rc) (σ:L2.St) (c:Ce) (a:Addr) (Q:VK):VK:=fun y H2=>tE C c σ H2 (ra' a y Q)
theorem m3' {c:Ce} {a:Addr} {y:V}:yl' C σ c a Q y H=tE C c σ H (ra' a y Q):=rfl
theorem gH' {b:Ce} {p:Addr} (h:IsD H p) (q:tE C b σ H (iU' p Q)):yj' C σ b Q (.ref p) H:=⟨p,rfl,h,q⟩
theorem m4' {p:Addr} {y:V} {o:Option V} (h:f5' H p y o) (q:Q (o.getD .non) H):iU' p Q y H:=.inl ⟨o,h,q⟩
theorem m5' {p:Addr} (h:NoN H p) (q:Q .non H):iU' p Q .non H:=.inr ⟨rfl,h,q⟩
end
section
variable {C:Rc} {σ:L2.St} {H:Hp} {Q:VK} {Qb:Bool->Hp->Prop}
def kW1 (C:Rc) (σ:L2.St) (k:Zf) (b:Ce) (Q:VK):VK:=fun x H=>tE C b σ H fun y H'=>rZf k x y H' Q
def kW2 (k:Zf) (x:V) (Q:VK):VK:=fun y H=>rZf k x y H Q
theorem ym' {k:Zf} {a b:Ce}:tE C (.cmv k a b) σ H Q=tE C a σ H (kW1 C σ k b Q):=rfl
theorem yn' {k:Zf} {b:Ce} {x:V}:kW1 C σ k b Q x H=tE C b σ H (kW2 k x Q):=rfl
theorem yo' {a b:Addr} {L M:List (List Int)} (h:LL H a L) (h2:LL H b M) (q:Q (.bl (decide (L=M))) H):kW2 .eqB (.ref a) Q (.ref b) H:=⟨a,b,L,M,rfl,rfl,h,h2,q⟩
theorem rb' {K:W.Frag} {a:Addr} {xs:List V} {y:V} (h:H a=some (.lst (xs++[y]))) (q:Q y (upd H a (.lst xs))):og' K .popL (.ref a) [] H Q:=⟨a,xs++[y],y,rfl,rfl,h,by simp,by simpa using q⟩
theorem tJ' {K:W.Frag} {a:Addr} {ns:List Int} (h:SqL K H a (ns.map V.int)) (q:Q (.bl (ns.any fun n=>n != 0)) H):dJ' K .anyI [.ref a] H Q:=⟨a,ns,rfl,h,q⟩
section
variable {D:Ends}
def BX' (x y z:V) (sub:Bool) (D:Ends) (σ:L2.St):VK:=fun w H4=>ipI (fun i j=>if sub then i-j else i+j) z w H4 fun u H5=>eh' x y u H5 fun H6=>D.nx σ H6
def BY' (C:Rc) (e:Ce) (sub:Bool) (x:V) (D:Ends) (σ:L2.St):VK:=fun y H2=>gV' C.K x y H2 fun z H3=>tE C e σ H3 (BX' x y z sub D σ)
def Db' (C:Rc) (i:Ce) (sub:Bool) (e:Ce) (D:Ends) (σ:L2.St):VK:=fun x H1=>tE C i σ H1 (BY' C e sub x D σ)
theorem yp' {o i e:Ce} {sub:Bool}:tS C (.augS o i sub e) D σ H=tE C o σ H (Db' C i sub e D σ):=rfl
theorem tK' {i e:Ce} {sub:Bool} {x:V}:Db' C i sub e D σ x H=tE C i σ H (BY' C e sub x D σ):=rfl
theorem yq' {a:Addr} {xs:List V} {k:Int} {z:V} {e:Ce} {sub:Bool} (h:H a=some (.lst xs)) (hk:atI xs k=some z) (q:tE C e σ H (BX' (.ref a) (.int k) z sub D σ)):BY' C e sub (.ref a) D σ (.int k) H:=⟨a,xs,k,z,rfl,rfl,SqL.of h,hk,q⟩
theorem rc' {a:Addr} {xs:List V} {k m n:Int} {j:Nat} {sub:Bool} (h:H a=some (.lst xs)) (hj:ixN xs.length k=some j) (q:D.nx σ (upd H a (.lst (xs.set j (.int (if sub then m-n else m+n)))))):BX' (.ref a) (.int k) (.int m) sub D σ (.int n) H:=⟨m,n,rfl,rfl,a,xs,k,j,rfl,rfl,h,hj,q⟩
def BZ' (x v:V) (D:Ends) (σ:L2.St):VK:=fun y H3=>∃a H4,x=.ref a/\AD' H3 a y v H4/\D.nx σ H4
def B0' (C:Rc) (i:Ce) (v:V) (D:Ends) (σ:L2.St):VK:=fun x H2=>tE C i σ H2 (BZ' x v D σ)
def Dc' (C:Rc) (o i:Ce) (D:Ends) (σ:L2.St):VK:=fun v H1=>tE C o σ H1 (B0' C i v D σ)
theorem yr' {o i e:Ce}:tS C (.dput o i e) D σ H=tE C e σ H (Dc' C o i D σ):=rfl
theorem tL' {o i:Ce} {v:V}:Dc' C o i D σ v H=tE C o σ H (B0' C i v D σ):=rfl
theorem tM' {i:Ce} {v x:V}:B0' C i v D σ x H=tE C i σ H (BZ' x v D σ):=rfl
theorem pN' {a:Addr} {kvs:List (Key×V)} {k:Key} {v:V} (h:H a=some (.dK kvs)) (hz:kvs.length<sizeLine) (q:D.nx σ (upd H a (.dK (gW' kvs k v)))):BZ' (.ref a) v D σ (L2.kV k) H:=⟨a,_,rfl,.inl ⟨kvs,k,h,rfl,hz,rfl⟩,q⟩
end
def B1' (C:Rc) (Q:VK) (x:V):VK:=fun y H1=>∃(k j:Bool) (a b:Addr) (xs ys:List V),[x,y]=[.ref a,.ref b]/\Sq k C.K H1 a xs/\Sq j C.K H1 b ys/\xs.length=ys.length/\
 ∀(l:Addr) (as:List Addr) (H':Hp),H1 l=none->(∀b u,H1 b=some u->H' b=some u)->(∀p∈as,H1 p=none)->H' l=some (.lst (as.map V.ref))->as.length=xs.length->(∀(i:Nat) p x y,as[i]?=some p->xs[i]?=some x->ys[i]?=some y->H' p=some (.tup [x,y]))->Q (.ref l) H'
def Dd' (C:Rc) (σ:L2.St) (b:Ce) (Q:VK):VK:=fun x H1=>tE C b σ H1 (B1' C Q x)
theorem yt' {a b:Ce}:tE C (.lzp a b) σ H Q=tE C a σ H (Dd' C σ b Q):=rfl
theorem tN' {b:Ce} {x:V}:Dd' C σ b Q x H=tE C b σ H (B1' C Q x):=rfl
theorem yu' {k j:Bool} {a b:Addr} {xs ys:List V} (h1:Sq k C.K H a xs) (h2:Sq j C.K H b ys) (hl:xs.length=ys.length)
  (q:∀(l:Addr) (as:List Addr) (H':Hp),H l=none->(∀b u,H b=some u->H' b=some u)->(∀p∈as,H p=none)->H' l=some (.lst (as.map V.ref))->as.length=xs.length->(∀(i:Nat) p x y,as[i]?=some p->xs[i]?=some x->ys[i]?=some y->H' p=some (.tup [x,y]))->Q (.ref l) H'):B1' C Q (.ref a) (.ref b) H:=⟨k,j,a,b,xs,ys,rfl,h1,h2,hl,q⟩
def B2' (C:Rc) (σ:L2.St) (b:Ce) (Q:VK):VK:=fun x H1=>tE C b σ H1 (pr' fun l H2=>∃(a:Addr) (xs:List V) (n:Nat),x=.ref a/\l=some (n:Int)/\0<n/\SqL C.K H2 a xs/\∀p,H2 p=none->Q (.ref p) (upd H2 p (.lst (CT' xs n))))
theorem pO' {b:Ce} {x:V}:B2' C σ b Q x H=tE C b σ H (pr' fun l H2=>∃(a:Addr) (xs:List V) (n:Nat),x=.ref a/\l=some (n:Int)/\0<n/\SqL C.K H2 a xs/\∀p,H2 p=none->Q (.ref p) (upd H2 p (.lst (CT' xs n)))):=rfl
end
def ct' {α β:Type} (R:α->β->Prop):List α->List β->Prop
 | [],[]=>True
 |a :: as,b :: bs=>R a b/\ct' R as bs
 |_,_=>False
section
variable {α β:Type} {R S:α->β->Prop}
theorem ct'.mono (h:∀a b,R a b->S a b):∀{as:List α} {bs:List β},ct' R as bs->ct' S as bs
 | [],[],_=>trivial
 |_ :: _,_ :: _,q=>⟨h _ _ q.1,ct'.mono h q.2⟩
 | [],_ :: _,q=>q.elim
 |_ :: _,[],q=>q.elim
theorem ct'.len:∀{as:List α} {bs:List β},ct' R as bs->as.length=bs.length
 | [],[],_=>rfl
 |_ :: _,_ :: _,q=>by simp[ct'.len q.2]
 | [],_ :: _,q=>q.elim
 |_ :: _,[],q=>q.elim
theorem ct'.app:∀{as cs:List α} {bs ds:List β},ct' R as bs->ct' R cs ds->ct' R (as++cs) (bs++ds)
 | [],_,[],_,_,q=>q
 |_ :: _,_,_ :: _,_,p,q=>⟨p.1,ct'.app p.2 q⟩
 | [],_,_ :: _,_,p,_=>p.elim
 |_ :: _,_,[],_,p,_=>p.elim
theorem ct'.snoc {a:α} {b:β} {as:List α} {bs:List β} (h:ct' R as bs) (r:R a b):ct' R (as++[a]) (bs++[b]):=h.app ⟨r,trivial⟩
theorem ct'.get:∀{as:List α} {bs:List β} {i:Nat} {b:β},ct' R as bs->bs[i]?=some b->∃a,as[i]?=some a/\R a b
 | [],[],_,_,_,e=>by cases e
 |a :: _,_ :: _,0,_,q,e=>by cases e;exact⟨a,rfl,q.1⟩
 |_ :: as,_ :: bs,i+1,b,q,e=>by
  obtain⟨a,h1,h2⟩:=ct'.get (i:=i) (b:=b) q.2 (by simpa using e)
  exact⟨a,by simpa using h1,h2⟩
 | [],_ :: _,_,_,q,_=>q.elim
 |_ :: _,[],_,_,q,_=>q.elim
theorem ct'.getL:∀{as:List α} {bs:List β} {i:Nat} {a:α},ct' R as bs->as[i]?=some a->∃b,bs[i]?=some b/\R a b
 | [],[],_,_,_,e=>by cases e
 |_ :: _,b :: _,0,_,q,e=>by cases e;exact⟨b,rfl,q.1⟩
 |_ :: as,_ :: bs,i+1,a,q,e=>by
  obtain⟨b,h1,h2⟩:=ct'.getL (i:=i) (a:=a) q.2 (by simpa using e)
  exact⟨b,by simpa using h1,h2⟩
 | [],_ :: _,_,_,q,_=>q.elim
 |_ :: _,[],_,_,q,_=>q.elim
end
end R3
section
open PySem PySem.Spec PyProof.Rows L2 R3
local macro_rules | `(tactic| symm) => `(tactic| try walk_at "sy")
set_option hygiene false in
local macro_rules | `(tactic| walk_at "sy") => `(tactic| simp only [ym', yn', yr', tL', tM', yp', tK', yt', tN', pO', pG', tz', yf', tA', yh', yi', pM', yk', m3', tD', tE', tF', pH', pK', tC', pI', tG', pJ', tH', tx', ty', pD', pE', q2', wT', Bk', wU', wV', Bl', q3', q4', q5', wW', wX', wY', wZ', w0', w1', w2', pe', Bm', w3', w5', pf', w6', Bo', s1', s2', w7', w8', BO', BP', pz', pA', tu', tv', x9', ya', yb', yc', pB', w9', to', Bp', Bq', xb', Br', Bs', Bt', DF', DG', DH', DI', DJ', tr', ts', DN', tp', xc', xd', s4', fG', xe', xf', xg', Bu', xi', pg', Bv', s5', Bw', ph', pi', pj', DK', Bx', By', mO', xn', xo', Bz', xm', xq', xr', s6', s7', pk', xt', ta', xw', pl', pm', xx', xy', xz', xB', pn', xC', BC', tc', td', xD', xE', xF', te', xJ', po', pp', pq', xK', xL', mP', xM', pt', pu', pv', BN', x4', xZ', kw', mX', mY', tj', tl', BE', DL', DM', xQ', BF', BG', mS', mT', th', BI', xU', xV', xS', ti', xY', BK', BL', BM', jE', clr, List.foldl_cons, List.foldl_nil, L2.ay', aN, List.map_nil, bg, List.length_nil, List.cons_append, List.nil_append, az, Nat.reduceSub, Nat.reduceAdd, cx, cy, List.getElem?_cons_zero, List.getElem?_cons_succ, reduceCtorEq, decide_true, decide_false, eq_self, Bool.not_true, Bool.not_false, bne_self_eq_false, BEq.rfl])
namespace LW
open PySem PySem.Spec PyProof.Rows L2 R3
def ew':Css:=(.cons (.ite (.cmp .Lt (.var 1) (.blt .len (.cons (.var 0) .nil))) (.cons (.ret (.idx (.var 0) (.var 1)))
  .nil) .nil)
  (.cons (.ret (.int 0))
  .nil))
def pP':Css:=(.cons (.asg (.name 2) (.call "_law_cell_at" (.cons (.var 0) (.cons (.var 1) .nil))))
  (.cons (.ret (.lst (.cons (.bin .Mult (.blt .abs (.cons (.var 2) .nil)) (.blt .int (.cons (.cmp .GtE (.blt .abs (.cons (.var 2) .nil)) (.bin .Pow (.int 10) (.int 18))) .nil))) (.cons (.bin .Add (.bin .Add (.bin .Mod (.var 2) (.int 2305843009213693951)) (.bin .Mult (.int 39373) (.var 1))) (.int 17)) (.cons (.int 0) .nil)))))
  .nil))
def jJ':Css:=(.cons (.ite (.cmp .Gt (.idx (.var 0) (.int 0)) (.int 0)) (.cons (.asg (.name 2) (.bin .Mod (.idx (.var 0) (.int 0)) (.var 1)))
  (.cons (.asg (.sub (.var 0) (.int 0)) (.bin .FloorDiv (.idx (.var 0) (.int 0)) (.var 1)))
  (.cons (.ret (.var 2))
  .nil))) .nil)
  (.cons (.asg (.sub (.var 0) (.int 2)) (.bin .Add (.idx (.var 0) (.int 2)) (.int 1)))
  (.cons (.asg (.name 3) (.bin .Mod (.bin .Mult (.bin .Add (.idx (.var 0) (.int 1)) (.bin .Mult (.int 48271) (.idx (.var 0) (.int 2)))) (.bin .Add (.int 39373) (.idx (.var 0) (.int 2)))) (.int 2147483647)))
  (.cons (.asg (.name 4) (.bin .Mod (.bin .Mult (.bin .Add (.var 3) (.idx (.var 0) (.int 2))) (.bin .Add (.bin .Mod (.var 3) (.int 40009)) (.int 7))) (.int 2147483629)))
  (.cons (.ret (.bin .Mod (.bin .FloorDiv (.bin .Mod (.bin .Add (.bin .Mult (.var 4) (.int 48271)) (.var 3)) (.int 2147483587)) (.int 64)) (.var 1)))
  .nil)))))
def gf' (K:W.Frag):Sp:=fun vs H Q _=>∃(a:Addr) (ns:List Int) (k:Int),vs=[.ref a,.int k]/\SqL K H a (ns.map V.int)/\0<=k/\∀c:Int,Q (.int c) H
theorem pQ' {ns:List Int} {k:Int} (h0:0<=k) (h1:k<ns.length):∃c:Int,atI (ns.map V.int) k=some (.int c):=by
 obtain⟨j,rfl⟩:=aL h0
 have hk:j<ns.length:=by omega
 exact⟨ns[j],a8' (by rw[ao,aa hk];rfl)⟩
theorem m6' {C:Rc} (hN:C.N.length=2):∀vs H Q E,gf' C.K vs H Q E->tSs C ew' { nx:=fun _ H'=>Q .non H',rt:=Q } (L2.ay' C.N vs) H:=by
 intro vs H Q E h
 obtain⟨a,ns,k,rfl,hs,hk,q⟩:=h
 rw[aj' hN]
 unfold ew'
 symm
 refine fI' hs ?_
 rw[ac]
 symm
 refine bB' (fun c=>?_) fun _=>?_
 .obtain⟨v,hv⟩:=pQ' hk c
  symm
  exact a3' hs hv (q v)
 .symm
  exact q 0
def m7' (K:W.Frag):Sp:=fun vs H Q _=>∃(a:Addr) (ns:List Int) (k:Int),vs=[.ref a,.int k]/\SqL K H a (ns.map V.int)/\0<=k/\k<=1000/\∀(p:Addr) (x y:Int),H p=none->0<=x->0<=y->y<2 ^ 62->Q (.ref p) (upd H p (h4' x y 0))
theorem pR' {C:Rc} (hN:C.N.length=3) (hf:C.fs "_law_cell_at"=some (gf' C.K)):∀vs H Q E,m7' C.K vs H Q E->tSs C pP' { nx:=fun _ H'=>Q .non H',rt:=Q } (L2.ay' C.N vs) H:=by
 intro vs H Q E h
 obtain⟨a,ns,k,rfl,hs,hk,hk2,q⟩:=h
 rw[aj' hN]
 unfold pP'
 symm
 refine ag' hf ?_
 symm
 refine⟨a,ns,k,rfl,hs,hk,fun c=>?_⟩
 symm
 have hm0:0<=c % 2305843009213693951:=Int.emod_nonneg _ (by decide)
 have hm1:c % 2305843009213693951<2305843009213693951:=cU _ (by decide)
 refine⟨⟨by decide,by decide,by decide⟩,?_,by decide,.inl ⟨by decide,by decide⟩,by decide,fun p hp=>q p _ _ hp ?_ ?_ ?_⟩
 .refine .inr (.inl ⟨?_,?_⟩)<;>split<;>split<;>decide
 .split<;>split<;>omega
 .omega
 .omega
section
variable {K:W.Frag} {H:Hp} {b:Addr} {x y z:Int} {Q:VK}
theorem ix0 (h:H b=some (h4' x y z)) (q:Q (.int x) H):gV' K (.ref b) (.int 0) H Q\/jh' K (.ref b) (.int 0) H Q:=.inl ⟨b,_,0,_,rfl,rfl,SqL.of h,rfl,q⟩
theorem ix1 (h:H b=some (h4' x y z)) (q:Q (.int y) H):gV' K (.ref b) (.int 1) H Q\/jh' K (.ref b) (.int 1) H Q:=.inl ⟨b,_,1,_,rfl,rfl,SqL.of h,rfl,q⟩
theorem ix2 (h:H b=some (h4' x y z)) (q:Q (.int z) H):gV' K (.ref b) (.int 2) H Q\/jh' K (.ref b) (.int 2) H Q:=.inl ⟨b,_,2,_,rfl,rfl,SqL.of h,rfl,q⟩
theorem st0 {u:Int} {Q:Hp->Prop} (h:H b=some (h4' x y z)) (q:Q (upd H b (h4' u y z))):eh' (.ref b) (.int 0) (.int u) H Q:=⟨b,_,0,0,rfl,rfl,h,rfl,q⟩
theorem st2 {u:Int} {Q:Hp->Prop} (h:H b=some (h4' x y z)) (q:Q (upd H b (h4' x y u))):eh' (.ref b) (.int 2) (.int u) H Q:=⟨b,_,2,2,rfl,rfl,h,rfl,q⟩
end
def gI':Sp:=fun vs H Q _=>∃(b:Addr) (x y z m:Int),vs=[.ref b,.int m]/\H b=some (h4' x y z)/\0<=x/\0<=y/\y<2 ^ 62/\0<=z/\z<=2 ^ 40/\0<m/\m<4611686018427387904/\
 ∀(r x' z':Int),0<=r->r<m->0<=x'->0<=z'->z'<=z+1->Q (.int r) (upd H b (h4' x' y z'))
theorem m8' {C:Rc} (hN:C.N.length=5):∀vs H Q E,gI' vs H Q E->tSs C jJ' { nx:=fun _ H'=>Q .non H',rt:=Q } (L2.ay' C.N vs) H:=by
 intro vs H Q E h
 obtain⟨b,x,y,z,m,rfl,hb,hx,hy,hy2,hz,hz2,hm,hm2,q⟩:=h
 rw[aj' hN]
 unfold jJ'
 walk_at "sy"
 refine ix0 hb ?_
 walk_at "sy"
 refine bB' (fun c=>?_) fun _=>?_
 .walk_at "sy"
  refine ix0 hb ?_
  walk_at "sy"
  refine⟨hm,?_⟩
  refine ix0 hb ?_
  walk_at "sy"
  refine⟨⟨hm,.inr (aj ((Nat.log2_lt (by omega)).mpr (show m.natAbs<2 ^ 62 by omega)) (by decide))⟩,st0 hb ?_⟩
  walk_at "sy"
  exact q _ _ _ (Int.emod_nonneg _ (by omega)) (cU _ hm) (Int.ediv_nonneg hx (by omega)) hz (by omega)
 .walk_at "sy"
  refine ix2 hb ?_
  walk_at "sy"
  refine st2 hb ?_
  have hb':upd H b (h4' x y (z+1)) b=some (h4' x y (z+1)):=ac'
  walk_at "sy"
  refine ix1 hb' ?_
  walk_at "sy"
  refine ix2 hb' ?_
  walk_at "sy"
  refine⟨.inl ⟨by decide,by decide⟩,?_⟩
  refine ix2 hb' ?_
  walk_at "sy"
  refine⟨.inr (.inl ⟨by omega,by omega⟩),by decide,?_⟩
  refine ix2 hb' ?_
  walk_at "sy"
  generalize (y+48271*(z+1))*(39373+(z+1)) % 2147483647=once
  have ho0:0<=once % 40009:=Int.emod_nonneg _ (by decide)
  have ho1:once % 40009<40009:=cU _ (by decide)
  refine⟨by decide,.inr (.inl ⟨by omega,by omega⟩),by decide,.inr (.inl ⟨by decide,by decide⟩),by decide,⟨by decide,by decide⟩,hm,?_⟩
  exact q _ _ _ (Int.emod_nonneg _ (by omega)) (cU _ hm) hx (by omega) (by omega)
def aI':Sp:=fun vs H Q _=>∃(b:Addr) (n:Nat) (m:Int),vs=[.ref b,.int m]/\H b=some (dL' b n)/\n<=2 ^ 40/\0<m/\m<4611686018427387904/\∀(r:Int) (H':Hp),0<=r->r<m->Go 1 H H'->Q (.int r) H'
theorem tO' {P:Program} {w:World} {K:W.Frag} {mg:Str->Option Value} {base:Heap} {k:Nat} {f:Addr} {fd:FuncData} {ps:List Str} (hp:ps.length=2) (F:FnOk P w K mg base CX0 k f fd ps gI'):FnOk P w K mg base CX0 k f fd ps aI':=by
 refine sZ' (mN' (sp':=fun vs H Q E=>gI' vs H (CW' Q) E) F fun _ _ _ _ h=>h) (fun vs H Q E h=>?_) fun vs H Q E h=>?_
 .obtain⟨b,n,m,rfl,hb,hn,hm,hm2,q⟩:=h
  refine⟨b,n,hb,fun x y z hx hy hy2 hz hzn=>⟨b,x,y,z,m,rfl,ac',hx,hy,hy2,hz,by omega,hm,hm2,fun r x' z' h1 h2 h3 h4 h5=>?_⟩⟩
  refine⟨b,x',y,z',n+1,ac',h3,hy,hy2,h4,by omega,?_⟩
  refine q r _ h1 h2 ?_
  rw[fk']
  exact Go.draw hb (ak _) _
 .obtain⟨b,n,m,rfl,_⟩:=h
  rw[hp]
  rfl
def ky' (K:W.Frag):Sp:=fun vs H Q _=>∃(a:Addr) (ns:List Int) (k:Int),vs=[.ref a,.int k]/\SqL K H a (ns.map V.int)/\0<=k/\k<=1000/\∀(p:Addr),H p=none->Q (.ref p) (upd H p (dL' p 0))
theorem yv' {P:Program} {w:World} {K:W.Frag} {mg:Str->Option Value} {base:Heap} {k:Nat} {f:Addr} {fd:FuncData} {ps:List Str} (F:FnOk P w K mg base CX0 k f fd ps (m7' K)):FnOk P w K mg base CX0 k f fd ps (ky' K):=by
 refine mN' F fun vs H Q E h=>?_
 obtain⟨a,ns,k,rfl,hs,h0,h1,q⟩:=h
 refine⟨a,ns,k,rfl,hs,h0,h1,fun p x y hp hx hy hy2=>⟨p,x,y,0,0,ac',hx,hy,hy2,by omega,by omega,?_⟩⟩
 rw[fk']
 exact q p hp
theorem _root_.R3.Go.boxed {c n:Nat} {H H':Hp} {b:Addr} (g:Go c H H') (h:H b=some (dL' b n)) (hn:n+c<=2 ^ 40):∃m,H' b=some (dL' b m)/\m<=n+c/\m<=2 ^ 40:=by
 obtain⟨m,hm,e⟩:=g.box b n h
 exact⟨m,e,hm,by omega⟩
def Sc:V->Bool
 | .non=>true
 | .bl _=>true
 | .int _=>true
 | .str _=>true
 |_=>false
def Eqv (H:Hp):Nat->V->V->Prop
 |0,v,w=>v=w/\Sc v=true
 |n+1,v,w=>(v=w/\Sc v=true)\/∃a b xs ys,v=.ref a/\w=.ref b/\((H a=some (.lst xs)/\H b=some (.lst ys))\/(H a=some (.tup xs)/\H b=some (.tup ys)))/\xs.length<=sizeLine/\xs.length=ys.length/\∀(i:Nat) x y,xs[i]?=some x->ys[i]?=some y->Eqv H n x y
def m9' (n:Nat):Sp:=fun vs H Q _=>∃v w,vs=[v,w]/\Eqv H n v w/\∀H',au' H H'->Q (.bl true) H'
section
variable {K:W.Frag} {H:Hp} {Q:VK}
theorem na' {x:V} {T c:String} {k:Bool} (h:bm' H x=some T) (hk:isT T c=k) (hT:T∈cW') (hc:c∈["bool","int","str","list","tuple","dict"]) (q:Q (.bl k) H):dJ' K .isinstance [x,.ty c] H Q:=x0' h hT hc (by rw[hk];exact q)
theorem De' {x:V} {T c d:String} {p:Addr} {k:Bool} (h:bm' H x=some T) (hp:H p=some (.tup [.ty c,.ty d])) (hk:(isT T c || isT T d)=k) (hT:T∈cW') (hc:c∈["bool","int","str","list","tuple","dict"]) (hd:d∈["bool","int","str","list","tuple","dict"]) (q:Q (.bl k) H):dJ' K .isinstance [x,.ref p] H Q:=tm' h hT hp hc hd (by rw[hk];exact q)
end
end LW
namespace LW
open PySem PySem.Spec PyProof.Rows L2 R3
def jK':Css:=(.cons (.ite (.cmp .Eq (.call "_law_take" (.cons (.var 0) (.cons (.int 8) .nil))) (.int 0)) (.cons (.ret (.bin .Add (.int 7) (.call "_law_take" (.cons (.var 0) (.cons (.bin .Sub (.var 3) (.int 6)) .nil)))))
  .nil) .nil)
  (.cons (.ret (.bin .Add (.var 1) (.call "_law_take" (.cons (.var 0) (.cons (.bin .Add (.bin .Sub (.var 2) (.var 1)) (.int 1)) .nil)))))
  .nil))
def bb':Css:=(.cons (.asg (.name 2) (.lst .nil))
  (.cons (.for_ (.name 3) (.range1 (.var 1)) (.cons (.expr (.met .insert (.var 2) (.cons (.call "_law_take" (.cons (.var 0) (.cons (.bin .Add (.var 3) (.int 1)) .nil))) (.cons (.var 3) .nil))))
  .nil))
  (.cons (.asg (.name 4) (.bin .Mult (.lst (.cons .non .nil)) (.var 1)))
  (.cons (.for_ (.tup (.cons (.name 5) (.cons (.name 6) .nil))) (.enum (.var 2)) (.cons (.asg (.name 7) (.idx (.bin .Add (.var 2) (.cut (.var 2) .none (.some (.int 1)))) (.bin .Add (.var 5) (.int 1))))
  (.cons (.asg (.name 8) (.idx (.lst (.cons (.call "_law_take" (.cons (.var 0) (.cons (.var 1) .nil))) (.cons .non .nil))) (.blt .int (.cons (.cmp .Eq (.call "_law_take" (.cons (.var 0) (.cons (.int 3) .nil))) (.int 0)) .nil))))
  (.cons (.asg (.sub (.var 4) (.var 6)) (.idx (.lst (.cons (.tup (.cons (.var 7) (.cons (.var 8) .nil))) (.cons (.tup (.cons (.var 8) (.cons (.var 7) .nil))) .nil))) (.call "_law_take" (.cons (.var 0) (.cons (.int 2) .nil)))))
  .nil))))
  (.cons (.ret (.blt .tuple (.cons (.var 4) .nil)))
  .nil)))))
abbrev Rm:=Option Nat×Option Nat
def oV:Option Nat->V
 |none=>.non
 |some n=>.int n
def Tp (H H':Hp):Prop:=∀a xs,H a=some (.tup xs)->H' a=some (.tup xs)
theorem Tp.trans {H H1 H2:Hp} (a:Tp H H1) (b:Tp H1 H2):Tp H H2:=fun c x h=>b c x (a c x h)
theorem _root_.R3.Go.tp {c:Nat} {H H':Hp} (g:Go c H H'):Tp H H':=fun a xs h=>g.tup h
theorem ap' {H H':Hp} (s:au' H H'):Tp H H':=fun a xs h=>s _ _ h
theorem rd' {H:Hp} {p:Addr} (h:H p=none) (o:HO):Tp H (upd H p o):=ap' (ae' h o)
theorem re' {H:Hp} {p:Addr} {xs:List V} (h:H p=some (.lst xs)) (o:HO):Tp H (upd H p o):=fun a ys e=>by
 rw[af' (fun z=>by subst z;rw[h]at e;cases e)]
 exact e
theorem _root_.R3.Go.upd {c:Nat} {H H':Hp} {l:Addr} {o:HO} (g:Go c H H') (h:H l=none):Go c H (L2.upd H' l o):=by
 refine⟨fun a n e=>?_,fun a u e no=>?_,fun a e=>?_⟩
 .obtain⟨m,hm,e1⟩:=g.box a n e
  exact⟨m,hm,by rw[af' (ah' e h)];exact e1⟩
 .rw[af' (ah' e h)]
  exact g.oth a u e no
 .by_cases hl:a=l
  .subst hl
   exact h
  .rw[af' hl]at e
   exact g.free a e
theorem bZ' {Q:VK} {m:Int} {H0 H:Hp} {b:Addr} {n0 c:Nat} (hb:H0 b=some (dL' b n0)) (g:Go c H0 H) (hn:n0+c<=2 ^ 40) (hm:0<m) (hm2:m<4611686018427387904) (q:∀r H',0<=r->r<m->Go 1 H H'->Go (c+1) H0 H'->Q (.int r) H'):aI' [.ref b,.int m] H Q E0:=by
 obtain⟨n,hb1,_,hn1⟩:=g.boxed hb hn
 exact⟨b,n,m,rfl,hb1,hn1,hm,hm2,fun r H' h0 h1 g1=>q r H' h0 h1 g1 (g.trans g1)⟩
def gg':Sp:=fun vs H Q _=>∃(b:Addr) (n:Nat) (x y z:Int),vs=[.ref b,.int x,.int y,.int z]/\H b=some (dL' b n)/\n<=2 ^ 39/\0<=x/\x<=y/\y<=1000/\7<=z/\z<=1000/\∀(r:Int) (H':Hp),(x<=r/\r<=y\/7<=r/\r<=z)->Go 2 H H'->Q (.int r) H'
theorem nb' {C:Rc} (hN:C.N.length=4) (hT:C.fs "_law_take"=some aI'):∀vs H Q E,gg' vs H Q E->tSs C jK' { nx:=fun _ H'=>Q .non H',rt:=Q } (L2.ay' C.N vs) H:=by
 intro vs H Q E h
 obtain⟨b,n,x,y,z,rfl,hb,hn,hx,hxy,hy,hz,hz2,q⟩:=h
 rw[aj' hN]
 unfold jK'
 walk_at "sy"
 refine ag' hT ?_
 walk_at "sy"
 refine bZ' hb (Go.refl (c:=0)) (by omega) (by decide) (by decide) fun r1 H1 h0 h1 g1 g01=>?_
 walk_at "sy"
 refine bB' (fun hc=>?_) fun hc=>?_
 .walk_at "sy"
  refine ag' hT ?_
  walk_at "sy"
  refine bZ' hb g01 (by omega) (by omega) (by omega) fun r2 H2 h20 h21 g2 g02=>?_
  walk_at "sy"
  exact q _ _ (.inr ⟨by omega,by omega⟩) g02
 .walk_at "sy"
  refine ag' hT ?_
  walk_at "sy"
  refine bZ' hb g01 (by omega) (by omega) (by omega) fun r2 H2 h20 h21 g2 g02=>?_
  walk_at "sy"
  exact q _ _ (.inl ⟨by omega,by omega⟩) g02
def eY' (H:Hp) (v:V) (r:Rm):Prop:=∃p,v=.ref p/\H p=some (.tup [oV r.1,oV r.2])
theorem eY'.mono {H H':Hp} {v:V} {r:Rm} (t:Tp H H') (h:eY' H v r):eY' H' v r:=by
 obtain⟨p,e,h⟩:=h
 exact⟨p,e,t _ _ h⟩
def cZ' (H:Hp):List V->List Rm->Prop
 | [],[]=>True
 |v :: vs,r :: rs=>eY' H v r/\cZ' H vs rs
 |_,_=>False
theorem cZ'.mono {H H':Hp} (t:Tp H H'):∀{vs:List V} {M:List Rm},cZ' H vs M->cZ' H' vs M
 | [],[],_=>trivial
 |v :: vs,r :: rs,h=>⟨h.1.mono t,cZ'.mono t h.2⟩
 | [],_ :: _,h=>h.elim
 |_ :: _,[],h=>h.elim
theorem cZ'.len {H:Hp}:∀{vs:List V} {M:List Rm},cZ' H vs M->vs.length=M.length
 | [],[],_=>rfl
 |v :: vs,r :: rs,h=>by simp[cZ'.len h.2]
 | [],_ :: _,h=>h.elim
 |_ :: _,[],h=>h.elim
theorem cZ'.snoc {H:Hp} {v:V} {r:Rm} (hr:eY' H v r):∀{vs:List V} {M:List Rm},cZ' H vs M->cZ' H (vs++[v]) (M++[r])
 | [],[],_=>⟨hr,trivial⟩
 |v :: vs,r :: rs,h=>⟨h.1,cZ'.snoc hr h.2⟩
 | [],_ :: _,h=>h.elim
 |_ :: _,[],h=>h.elim
theorem cZ'.get {H:Hp}:∀{vs:List V} {M:List Rm} {i:Nat} {r:Rm},cZ' H vs M->M[i]?=some r->∃p,vs[i]?=some (.ref p)/\H p=some (.tup [oV r.1,oV r.2])
 | [],[],i,r,_,e=>by cases e
 |v :: vs,r :: rs,0,r',h,e=>by
  cases e
  obtain⟨p,rfl,hp⟩:=h.1
  exact⟨p,rfl,hp⟩
 |v :: vs,r :: rs,i+1,r',h,e=>cZ'.get (i:=i) h.2 (by simpa using e)
 | [],_ :: _,_,_,h,_=>h.elim
 |_ :: _,[],_,_,h,_=>h.elim
def IsM (H:Hp) (a:Addr) (M:List Rm):Prop:=∃vs,H a=some (.tup vs)/\cZ' H vs M
theorem IsM.mono {H H':Hp} {a:Addr} {M:List Rm} (t:Tp H H') (h:IsM H a M):IsM H' a M:=by
 obtain⟨vs,h1,h2⟩:=h
 exact⟨vs,t _ _ h1,h2.mono t⟩
def OkR (N:Nat) (r:Rm):Prop:=(∀n,r.1=some n->n<N)/\∀n,r.2=some n->n<N
def OkM (M:List Rm):Prop:=∀r∈M,OkR M.length r
def fK' (N0 N1 c:Nat):Sp:=fun vs H Q _=>∃(b:Addr) (n N:Nat),vs=[.ref b,.int N]/\H b=some (dL' b n)/\n<=2 ^ 39/\N0<=N/\N<=N1/\∀(a:Addr) (M:List Rm) (H':Hp),Go c H H'->IsM H' a M->OkM M->M.length=N->Q (.ref a) H'
theorem yw' {K:W.Frag} {H:Hp} {Q:VK} {a:Addr} {xs:List V} {k:Nat} (h:H a=some (.lst xs)) (hk:k<=1000) (hz:xs.length*k<=sizeLine) (q:∀p,H p=none->Q (.ref p) (upd H p (.lst (az k xs).flatten))):fW' K .Mult (.ref a) (.int k) H Q:=by
 refine⟨a,k,xs,rfl,rfl,h,by omega,by omega,by simpa using hz,fun p hp=>?_⟩
 rw[bb]
 exact q p hp
theorem tP' {H:Hp} {R:Hp->Prop} {a:Addr} {xs:List V} {k:Nat} {v:V} (h:H a=some (.lst xs)) (hk:k<xs.length) (q:R (upd H a (.lst (xs.set k v)))):eh' (.ref a) (.int k) v H R:=by
 refine⟨a,xs,k,k,rfl,rfl,h,?_,q⟩
 unfold ixN
 rw[if_pos (by omega),if_pos (by omega)]
 simp
def nV (n:Nat):V:=.int n
theorem jL' {H:Hp} {P:Rm->Prop}:∀{vs:List V},(∀m,m<vs.length->∃r v,P r/\vs[m]?=some v/\eY' H v r)->∃M,cZ' H vs M/\∀r∈M,P r
 | [],_=>⟨[],trivial,fun r hr=>by cases hr⟩
 |v :: vs,h=>by
  obtain⟨r,v',ho,e,hr⟩:=h 0 (by simp)
  cases e
  obtain⟨M,h1,h2⟩:=jL' (vs:=vs) fun m hm=>by
   obtain⟨r,v,h1,h2,h3⟩:=h (m+1) (by simpa using hm)
   exact⟨r,v,h1,by simpa using h2,h3⟩
  exact⟨r :: M,⟨hr,h1⟩,fun x hx=>by
   rcases ap.mp hx with rfl|hx
   .exact ho
   .exact h2 x hx⟩
def OkD (N:Nat) (r:Rm):Prop:=OkR N r/\(r.1=none->r.2≠none)
def yx':Sp:=fun vs H Q _=>∃(b:Addr) (n N:Nat),vs=[.ref b,.int N]/\H b=some (dL' b n)/\n<=2 ^ 39/\1<=N/\N<=60/\∀(a:Addr) (M:List Rm) (H':Hp),Go 400 H H'->IsM H' a M->OkM M->M.length=N->(∀r∈M,r.1=none->r.2≠none)->Q (.ref a) H'
theorem kz' {C:Rc} (hN:C.N.length=9) (hT:C.fs "_law_take"=some aI'):∀vs H Q E,yx' vs H Q E->tSs C bb' { nx:=fun _ H'=>Q .non H',rt:=Q } (L2.ay' C.N vs) H:=by
 intro vs H Q E h
 obtain⟨b,n,N,rfl,hb,hn,hN0,hN1,q⟩:=h
 rw[aj' hN]
 unfold bb'
 walk_at "sy"
 refine⟨by decide,fun l hl=>?_⟩
 refine fH' (by omega) (by omega) (h5' (fun i σ H'=>(∃x3 x4 x5 x6 x7 x8,σ=[some (.ref b),some (.int N),some (.ref l),x3,x4,x5,x6,x7,x8])/\Go i H H'/\∃os:List Nat,H' l=some (.lst (os.map nV))/\os.length=i/\(∀m∈os,m<N)/\∀m,m<i->m∈os) ⟨⟨_,_,_,_,_,_,rfl⟩,(Go.refl (c:=0)).upd hl,[],ac',rfl,(fun m hm=>by cases hm),fun m hm=>by omega⟩ ?_ ?_)
 .rintro i σ H1 hi ⟨⟨x3,x4,x5,x6,x7,x8,rfl⟩,g1,os,hl1,hlen,hlt,hall⟩
  walk_at "sy"
  refine⟨tyL hl1 rfl,ag' hT ?_⟩
  walk_at "sy"
  refine bZ' hb g1 (by omega) (by omega) (by omega) fun r2 H2 h20 h21 g12 g2=>?_
  have hl2:=g12.lst hl1
  walk_at "sy"
  obtain⟨j,rfl⟩:=aL h20
  refine x2' hl2 (by rw[ac];exact al' (by omega)) (by rw[ac];omega) ?_
  walk_at "sy"
  refine⟨⟨_,_,_,_,_,_,rfl⟩,g2.upd hl,os.take j++i :: os.drop j,?_,?_,?_,?_⟩
  .rw[ac',ax,aN,List.map_take,List.map_drop]
   simp[nV]
  .simp;omega
  .intro m hm
   rcases aG.mp hm with hm|hm
   .exact hlt m (List.mem_of_mem_take hm)
   .rcases ap.mp hm with rfl|hm
    .omega
    .exact hlt m (List.mem_of_mem_drop hm)
  .intro m hm
   by_cases e:m=i
   .subst e;simp
   .have:=hall m (by omega)
    rw[<- bJ j os]at this
    rcases aG.mp this with h|h
    .exact aG.mpr (.inl h)
    .exact aG.mpr (.inr (aF _ h))
 rintro σ H1 ⟨⟨x3,x4,x5,x6,x7,x8,rfl⟩,g1,os,hl1,hlen,hlt,hall⟩
 rw[bb]at g1 hlen hall
 walk_at "sy"
 refine⟨by decide,fun p hp=>?_⟩
 have hpl:l≠p:=ah' hl1 hp
 refine yw' ac' (by omega) (cC (al' (by simp;omega))) fun w hw=>?_
 have gw:=(g1.upd (o:=.lst [.non]) (g1.free _ hp)).upd (o:=.lst (az N [V.non]).flatten) ((g1.upd (o:=.lst [.non]) (g1.free _ hp)).free _ hw)
 have hlw:upd (upd H1 p (.lst [.non])) w (.lst (az N [V.non]).flatten) l=some (.lst (os.map nV)):=ae' hw _ _ _ (ae' hp _ _ _ hl1)
 have hww:upd (upd H1 p (.lst [.non])) w (.lst (az N [V.non]).flatten) w=some (.lst (az N V.non)):=by
  rw[ac'];simp
 have hw0:H w=none:=(g1.upd (o:=.lst [.non]) (g1.free _ hp)).free _ hw
 have hwl:l≠w:=ah' (ae' hp (.lst [.non]) _ _ hl1) hw
 generalize upd (upd H1 p (.lst [.non])) w (.lst (az N [V.non]).flatten)=H2 at gw hlw hww
 walk_at "sy"
 refine jA' (SqL.of hlw) (xX' (xs:=os.map nV) (fun t σ H'=>(∃x3 x5 x6 x7 x8,σ=[some (.ref b),some (.int N),some (.ref l),x3,some (.ref w),x5,x6,x7,x8])/\Go (N+3*t) H H'/\H' l=some (.lst (os.map nV))/\∃ws,H' w=some (.lst ws)/\ws.length=N/\∀m∈os.take t,∃r v,OkD N r/\ws[m]?=some v/\eY' H' v r) ⟨⟨_,_,_,_,_,rfl⟩,gw.mono (by omega),hlw,_,hww,by simp,fun m hm=>by cases hm⟩ (fun t σ H' _ pv=>SqL.of pv.2.2.1) ?_ ?_)
 .rintro t x σ H3 e hx he ⟨⟨x3,x5,x6,x7,x8,rfl⟩,g3,hl3,ws,hw3,hwn,hws⟩
  rw[ao]at hx
  cases eo:os[t]? with
  |none=>rw[eo]at hx;cases hx
  |some room=>
   rw[eo]at hx
   cases hx
   have ht:=an' eo
   refine dA' (SqT.of ac') ?_
   have s4:=ae' he (.tup [.int t,nV room])
   have g4:=g3.upd (o:=.tup [.int t,nV room]) (g3.free _ he)
   generalize upd H3 e (.tup [.int t,nV room])=H4 at s4 g4
   have hl4:=s4 _ _ hl3
   walk_at "sy"
   refine tq' (SqL.of hl4) fun c hc=>?_
   rw[show(1:Int)=((1:Nat):Int) from rfl,x5']
   have s5:=ae' hc (.lst ((os.map nV).take 1))
   have g5:=g4.upd (o:=.lst ((os.map nV).take 1)) (g4.free _ hc)
   have hc5:upd H4 c (.lst ((os.map nV).take 1)) c=some (.lst ((os.map nV).take 1)):=ac'
   generalize upd H4 c (.lst ((os.map nV).take 1))=H5 at s5 g5 hc5
   walk_at "sy"
   refine x6' (s5 _ _ hl4) hc5 (cC (al' (by simp;omega))) fun d hd=>?_
   have s6:=ae' hd (.lst (os.map nV++(os.map nV).take 1))
   have g6:=g5.upd (o:=.lst (os.map nV++(os.map nV).take 1)) (g5.free _ hd)
   have hd6:upd H5 d (.lst (os.map nV++(os.map nV).take 1)) d=some (.lst ((os++os.take 1).map nV)):=by rw[ac',ax,List.map_take]
   generalize upd H5 d (.lst (os.map nV++(os.map nV).take 1))=H6 at s6 g6 hd6
   obtain⟨on,eon,hon⟩:∃on,(os++os.take 1)[t+1]?=some on/\on<N:=by
    have hl:t+1<(os++os.take 1).length:=by simp;omega
    refine⟨_,aa hl,?_⟩
    rcases aG.mp (cI hl)with h|h
    .exact hlt _ h
    .exact hlt _ (List.mem_of_mem_take h)
   walk_at "sy"
   refine a3' (SqL.of hd6) (v:=nV on) (a8' (j:=t+1) (by rw[ao,eon];rfl)) ?_
   walk_at "sy"
   refine ag' hT ?_
   walk_at "sy"
   refine bZ' hb g6 (by omega) (by omega) (by omega) fun r7 H7 h70 h71 g67 g7=>?_
   walk_at "sy"
   refine⟨by decide,fun f hf=>?_⟩
   refine ag' hT ?_
   walk_at "sy"
   refine bZ' hb (g7.upd (o:=.lst [.int r7,.non]) (g7.free _ hf)) (by omega) (by omega) (by omega) fun r8 H8 h80 h81 g78 g8=>?_
   have hf8:H8 f=some (.lst [.int r7,.non]):=g78.lst ac'
   have keep8:∀a xs,H3 a=some (.lst xs)->H8 a=some (.lst xs):=fun a xs h=>g78.lst (ae' hf _ _ _ (g67.lst (s6 _ _ (s5 _ _ (s4 _ _ h)))))
   have tp8:Tp H3 H8:=(((ap' s4).trans (ap' s5)).trans (ap' s6)).trans (g67.tp.trans ((rd' hf _).trans g78.tp))
   walk_at "sy"
   refine x1' (SqL.of hf8) ?_
   obtain⟨o,eo2,hoo⟩:∃o:Option Nat,(if decide (r8=0)=true then V.non else V.int r7)=oV o/\∀m,o=some m->m<N:=by
    split
    .exact⟨none,rfl,fun m hm=>by cases hm⟩
    .exact⟨some r7.toNat,by show _=V.int _;congr 1;omega,fun m hm=>by cases hm;omega⟩
   rw[eo2]
   walk_at "sy"
   refine⟨by decide,fun p1 hp1=>?_⟩
   have s9:=ae' hp1 (.tup [nV on,oV o])
   have g9:=g8.upd (o:=.tup [nV on,oV o]) (g8.free _ hp1)
   have h9:upd H8 p1 (.tup [nV on,oV o]) p1=some (.tup [nV on,oV o]):=ac'
   generalize upd H8 p1 (.tup [nV on,oV o])=H9 at s9 g9 h9
   refine⟨by decide,fun p2 hp2=>?_⟩
   have s10:=ae' hp2 (.tup [oV o,nV on])
   have g10:=g9.upd (o:=.tup [oV o,nV on]) (g9.free _ hp2)
   have h10:upd H9 p2 (.tup [oV o,nV on]) p2=some (.tup [oV o,nV on]):=ac'
   generalize upd H9 p2 (.tup [oV o,nV on])=H10 at s10 g10 h10
   refine⟨by decide,fun p3 hp3=>?_⟩
   have s11:=ae' hp3 (.lst [.ref p1,.ref p2])
   have g11:=g10.upd (o:=.lst [.ref p1,.ref p2]) (g10.free _ hp3)
   have h11:upd H10 p3 (.lst [.ref p1,.ref p2]) p3=some (.lst [.ref p1,.ref p2]):=ac'
   generalize upd H10 p3 (.lst [.ref p1,.ref p2])=H11 at s11 g11 h11
   refine ag' hT ?_
   walk_at "sy"
   refine bZ' hb g11 (by omega) (by omega) (by omega) fun r12 H12 h120 h121 g1112 g12=>?_
   have tpx:Tp H3 H12:=(((tp8.trans (ap' s9)).trans (ap' s10)).trans (ap' s11)).trans g1112.tp
   have hl12:H12 l=some (.lst (os.map nV)):=g1112.lst (s11 _ _ (s10 _ _ (s9 _ _ (keep8 _ _ hl3))))
   have hw12:H12 w=some (.lst ws):=g1112.lst (s11 _ _ (s10 _ _ (s9 _ _ (keep8 _ _ hw3))))
   have h1:H12 p1=some (.tup [nV on,oV o]):=g1112.tup (s11 _ _ (s10 _ _ h9))
   have h2:H12 p2=some (.tup [oV o,nV on]):=g1112.tup (s11 _ _ h10)
   walk_at "sy"
   have hroom:room<N:=hlt room (aD eo)
   have fin:∀(pz:Addr) (rz:Rm),OkD N rz->H12 pz=some (.tup [oV rz.1,oV rz.2])->eh' (.ref w) (nV room) (.ref pz) H12 (fun H'=>(∃x3' x5 x6 x7 x8,[some (V.ref b),some (V.int N),some (V.ref l),x3,some (V.ref w),some (V.int t),some (nV room),some (nV on),some (oV o)]=[some (.ref b),some (.int N),some (.ref l),x3',some (.ref w),x5,x6,x7,x8])/\Go (N+3*(t+1)) H H'/\H' l=some (.lst (os.map nV))/\∃ws,H' w=some (.lst ws)/\ws.length=N/\∀m∈os.take (t+1),∃r v,OkD N r/\ws[m]?=some v/\eY' H' v r):=by
    intro pz rz hrz hpz
    refine tP' hw12 (by omega) ⟨⟨_,_,_,_,_,rfl⟩,(g12.upd hw0).mono (by omega),by rw[af' hwl];exact hl12,_,ac',by rw[List.length_set];exact hwn,fun m hm=>?_⟩
    by_cases em:m=room
    .subst em
     exact⟨rz,.ref pz,hrz,by rw[cG (by omega)],pz,rfl,re' hw12 _ _ _ hpz⟩
    .rw[bN,eo]at hm
     rcases aG.mp hm with hm|hm
     .obtain⟨r,v,q1,q2,q3⟩:=hws m hm
      exact⟨r,v,q1,by rw[cf (Ne.symm em)];exact q2,q3.mono (tpx.trans (re' hw12 _))⟩
     .exact absurd (by simpa using hm) em
   have h121':r12=0\/r12=1:=by omega
   rcases h121' with rfl|rfl
   .refine a3' (SqL.of (g1112.lst h11)) (v:=.ref p1) rfl ?_
    walk_at "sy"
    exact fin p1 (some on,o) ⟨⟨fun m hm=>by cases hm;exact hon,hoo⟩,fun z=>by cases z⟩ h1
   .refine a3' (SqL.of (g1112.lst h11)) (v:=.ref p2) rfl ?_
    walk_at "sy"
    exact fin p2 (o,some on) ⟨⟨hoo,fun m hm=>by cases hm;exact hon⟩,fun _ z=>by cases z⟩ h2
 .rintro σ H3 ⟨⟨x3,x5,x6,x7,x8,rfl⟩,g3,hl3,ws,hw3,hwn,hws⟩
  walk_at "sy"
  refine iO' (SqL.of hw3) fun p hp=>?_
  rw[ac,<- ac (f:=nV),ac,bp]at hws
  rw[ac]at g3
  obtain⟨M,hM,hO⟩:=jL' (P:=OkD N) (vs:=ws) (H:=H3) fun m hm=>hws m (hall m (by omega))
  have e:M.length=N:=by rw[<- hM.len];exact hwn
  exact q p M _ ((g3.upd (g3.free _ hp)).mono (by omega)) ⟨ws,ac',hM.mono (rd' hp _)⟩ (fun r hr=>by rw[e];exact(hO r hr).1) e fun r hr=>(hO r hr).2
theorem nc' {C:Rc} (hN:C.N.length=9) (hT:C.fs "_law_take"=some aI'):∀vs H Q E,fK' 1 60 400 vs H Q E->tSs C bb' { nx:=fun _ H'=>Q .non H',rt:=Q } (L2.ay' C.N vs) H:=fun vs H Q E ⟨b,n,N,h1,h2,h3,h4,h5,q⟩=>kz' hN hT vs H Q E ⟨b,n,N,h1,h2,h3,h4,h5,fun a M H' g i o l _=>q a M H' g i o l⟩
end LW
namespace SR
open PySem PySem.Spec PyProof.Rows L2 R3 LW
theorem tQ' {n:Nat} (h:n<=1000):n<=sizeLine:=cC (al' h)
def tn (l:List Bool) (n:Nat):List Bool:=(l.take n).map (!·)++l.drop n
theorem DS' {α:Type} {x:α} {r:List α}:atI (x :: r) 0=some x:=a8' (xs:=x :: r) (j:=0) rfl
end SR
namespace CK
open PySem PySem.Spec PyProof.Rows L2 R3 LW SR
def b2':Css:=(.cons (.ret (.and (.blt .isinstance (.cons (.var 0) (.cons (.ty "int") .nil))) (.not (.blt .isinstance (.cons (.var 0) (.cons (.ty "bool") .nil))))))
  .nil)
def b3':Css:=(.cons (.ret (.and (.call "is_number" (.cons (.var 0) .nil)) (.chn .LtE .LtE (.var 1) (.var 0) (.var 2))))
  .nil)
def c0':Css:=(.cons (.ret (.and (.blt .isinstance (.cons (.var 0) (.cons (.ty "tuple") .nil))) (.cmp .Eq (.blt .len (.cons (.var 0) .nil)) (.int 2))))
  .nil)
def b4':Css:=(.cons (.ret (.blt .isinstance (.cons (.var 0) (.cons (.tup (.cons (.ty "list") (.cons (.ty "tuple") .nil))) .nil))))
  .nil)
def bp':Css:=(.cons (.ret (.and (.call "is_listed" (.cons (.var 0) .nil)) (.and (.cmp .Eq (.blt .len (.cons (.var 0) .nil)) (.var 1)) (.blt .all (.cons (.comp (.call "is_number" (.cons (.var 2) .nil)) [2] (.name 2) (.val (.var 0)) .none .nil) .nil)))))
  .nil)
def c1':Css:=(.cons (.ret (.or (.cmp .Is (.var 0) .non) (.call "is_within" (.cons (.var 0) (.cons (.int 0) (.cons (.bin .Sub (.var 1) (.int 1)) .nil))))))
  .nil)
def c2':Css:=(.cons (.ret (.and (.call "is_pair" (.cons (.var 0) .nil)) (.and (.call "is_lead" (.cons (.idx (.var 0) (.int 0)) (.cons (.var 1) .nil))) (.call "is_lead" (.cons (.idx (.var 0) (.int 1)) (.cons (.var 1) .nil))))))
  .nil)
def bH':Css:=(.cons (.ite (.not (.val (.blt .isinstance (.cons (.var 0) (.cons (.ty "tuple") .nil))))) (.cons (.ret (.bl false))
  .nil) .nil)
  (.cons (.ret (.blt .all (.cons (.comp (.call "is_room" (.cons (.var 1) (.cons (.blt .len (.cons (.var 0) .nil)) .nil))) [1] (.name 1) (.val (.var 0)) .none .nil) .nil)))
  .nil))
theorem iV' {H H':Hp} (s:au' H H') {v:V} {T:String} (h:bm' H v=some T):bm' H' v=some T:=by
 cases v with
 |ref a=>
  simp only[bm']at h ⊢
  cases e:H a with
  |none=>rw[e]at h;cases h
  |some o=>rw[e]at h;rw[s _ _ e];exact h
 |_=>exact h
def Val (H:Hp) (v:V):Prop:=(∃i,v=.int i)\/((∀i,v≠.int i)/\∃T∈["NoneType","bool","str","list","tuple"],bm' H v=some T)
theorem Val.mono {H H':Hp} (s:au' H H') {v:V} (h:Val H v):Val H' v:=by
 rcases h with h|⟨h0,T,hT,h⟩
 .exact .inl h
 .exact .inr ⟨h0,T,hT,iV' s h⟩
def isN:V->Bool
 | .int _=>true
 |_=>false
theorem yy' {v:V} (h:∀i,v≠.int i):isN v=false:=by
 cases v with
 |int i=>exact absurd rfl (h i)
 |_=>rfl
def cm':Sp:=fun vs H Q _=>∃v,vs=[v]/\Val H v/\Q (.bl (isN v)) H
theorem kA' {C:Rc} (hN:C.N.length=1):∀vs H Q E,cm' vs H Q E->tSs C b2' { nx:=fun _ H'=>Q .non H',rt:=Q } (L2.ay' C.N vs) H:=by
 intro vs H Q E h
 obtain⟨v,rfl,hv,q⟩:=h
 rw[aj' hN]
 unfold b2'
 symm
 rcases hv with⟨i,rfl⟩|⟨h0,T,hT,hv⟩
 .refine na' (T:="int") rfl (k:=true) rfl (by decide) (by decide) ?_
  symm
  refine na' (T:="int") rfl (k:=false) rfl (by decide) (by decide) ?_
  symm
  exact q
 .rw[yy' h0]at q
  simp only[ap,aA,or_false]at hT
  rcases hT with rfl|rfl|rfl|rfl|rfl
  .refine na' hv (k:=false) rfl (by decide) (by decide) ?_
   symm
   exact q
  .refine na' hv (k:=true) rfl (by decide) (by decide) ?_
   symm
   refine na' hv (k:=true) rfl (by decide) (by decide) ?_
   symm
   exact q
  .refine na' hv (k:=false) rfl (by decide) (by decide) ?_
   symm
   exact q
  .refine na' hv (k:=false) rfl (by decide) (by decide) ?_
   symm
   exact q
  .refine na' hv (k:=false) rfl (by decide) (by decide) ?_
   symm
   exact q
theorem tR' {C:Rc} {σ:L2.St} {H:Hp} {Q:VK} {c1 c2 c3:Ce} {a n m:Int} (h1:∀Q,Q (V.int a) H->tE C c1 σ H Q) (h2:∀Q,Q (V.int n) H->tE C c2 σ H Q) (h3:∀Q,Q (V.int m) H->tE C c3 σ H Q) (ha:a<=n) (hb:n<=m) (q:Q (.bl true) H):tE C (.chn .LtE .LtE c1 c2 c3) σ H Q:=by
 show eU' (dZ' C.K .LtE) (dZ' C.K .LtE) (tE C c1) (tE C c2) (tE C c3) σ H Q
 unfold eU'
 refine h1 _ (h2 _ ⟨a,n,rfl,rfl,true,?_,?_⟩)
 .show V.bl (decide (a<=n))=_
  rw[decide_eq_true ha]
 .rw[if_pos rfl]
  refine h3 _ ⟨n,m,rfl,rfl,?_⟩
  show Q (V.bl (decide (n<=m))) H
  rw[decide_eq_true hb]
  exact q
def dM':Sp:=fun vs H Q _=>∃(i lo hi:Int),vs=[.int i,.int lo,.int hi]/\lo<=i/\i<=hi/\Q (.bl true) H
theorem iW' {C:Rc} (hN:C.N.length=3) (hI:C.fs "is_number"=some cm'):∀vs H Q E,dM' vs H Q E->tSs C b3' { nx:=fun _ H'=>Q .non H',rt:=Q } (L2.ay' C.N vs) H:=by
 intro vs H Q E h
 obtain⟨i,lo,hi,rfl,h1,h2,q⟩:=h
 rw[aj' hN]
 unfold b3'
 symm
 refine ag' hI ?_
 symm
 refine⟨_,rfl,.inl ⟨i,rfl⟩,?_⟩
 simp only[isN]
 symm
 exact tR' (a:=lo) (n:=i) (m:=hi) (fun Q q=>by symm;exact q) (fun Q q=>by symm;exact q) (fun Q q=>by symm;exact q) h1 h2 q
def h7':Sp:=fun vs H Q _=>∃(o:Option Nat) (N:Nat),vs=[oV o,.int N]/\(∀x,o=some x->x<N)/\Q (.bl true) H
theorem nd' {C:Rc} (hN:C.N.length=2) (hW:C.fs "is_within"=some dM'):∀vs H Q E,h7' vs H Q E->tSs C c1' { nx:=fun _ H'=>Q .non H',rt:=Q } (L2.ay' C.N vs) H:=by
 intro vs H Q E h
 obtain⟨o,N,rfl,ho,q⟩:=h
 rw[aj' hN]
 unfold c1'
 cases o with
 |none=>
  simp only[oV]
  symm
  exact q
 |some x=>
  have:=ho x rfl
  simp only[oV]
  symm
  refine ag' hW ?_
  symm
  refine⟨_,_,_,rfl,by omega,by omega,?_⟩
  symm
  exact q
def h8':Sp:=fun vs H Q _=>∃(p:Addr) (r:Rm) (N:Nat),vs=[.ref p,.int N]/\H p=some (.tup [oV r.1,oV r.2])/\OkR N r/\Q (.bl true) H
def e5':Sp:=fun vs H Q _=>∃(a:Addr) (M:List Rm),vs=[.ref a]/\IsM H a M/\OkM M/\M.length<=500/\∀H',au' H H'->Q (.bl true) H'
theorem pS' {C:Rc} (hN:C.N.length=2) (hR:C.fs "is_room"=some h8'):∀vs H Q E,e5' vs H Q E->tSs C bH' { nx:=fun _ H'=>Q .non H',rt:=Q } (L2.ay' C.N vs) H:=by
 intro vs H Q E h
 obtain⟨a,M,rfl,hM,hO,hl,q⟩:=h
 obtain⟨mv,hmv,hmr⟩:=id hM
 have hml:=hmr.len
 rw[aj' hN]
 unfold bH'
 symm
 refine na' (T:="tuple") (by simp only[bm',hmv]) (k:=true) rfl (by decide) (by decide) ?_
 symm
 refine bo' (SqT.of hmv) (gd' (vs:=mv) (fun i xs H'=>xs=(az i true).map V.bl/\i<=M.length/\H'=H) ⟨rfl,aK _,rfl⟩ (fun i xs H' pv=>SqT.of (by rw[pv.2.2];exact hmv)) ?_ ?_)
 .rintro i xs H' x R hx ⟨rfl,hi,rfl⟩ hR'
  have hi':i<M.length:=by rw[<- hml];exact an' hx
  obtain⟨pr,epr,hpr⟩:=hmr.get (aa hi')
  rw[hx]at epr
  cases epr
  symm
  refine ag' hR ?_
  symm
  refine cl' (SqT.of hmv) ?_
  symm
  refine⟨pr,M[i],M.length,by rw[hml],hpr,hO _ (cI hi'),?_⟩
  symm
  refine⟨by rw[ac,bI];exact al' (by omega),hR' _ _ ⟨?_,by omega,rfl⟩⟩
  rw[cB,ax]
  rfl
 .rintro xs H' ⟨rfl,_,rfl⟩ p hp
  symm
  refine fJ' (SqL.of ac') ?_
  have e:(az mv.length true).all id=true:=by simp
  rw[e]
  exact q _ (ae' hp _)
def Lt (H:Hp) (a:Addr) (vs:List V):Prop:=H a=some (.lst vs)\/H a=some (.tup vs)
theorem Lt.mono {H H':Hp} (s:au' H H') {a:Addr} {vs:List V} (h:Lt H a vs):Lt H' a vs:=by
 rcases h with h|h
 .exact .inl (s _ _ h)
 .exact .inr (s _ _ h)
theorem tS' {C:Rc} {elt:Ce} {own:List Nat} {t:Ct} {q:Cqo} {σ:L2.St} {H:Hp} {Q:VK} {a:Addr} {vs:List V} (hk:Lt H a vs) (Pv:Nat->List V->Hp->Prop) (h0:Pv 0 [] H) (hl:∀i xs H',Pv i xs H'->au' H H')
  (hs:∀i xs H x (R:List V->Hp->Prop),vs[i]?=some x->Pv i xs H->(∀ys H2,Pv (i+1) ys H2->R ys H2)->tG C t x (clr own σ) H (kCG C elt q xs R)) (hd:∀xs H,Pv vs.length xs H->mW' Q xs H):kIv C (h6' C elt own t q σ Q) (.ref a) H:=by
 rcases hk with hk|hk
 .exact aF' (SqL.of hk) (eq' Pv h0 (fun i xs H' p=>SqL.of (hl i xs H' p _ _ hk)) hs hd)
 .exact bo' (SqT.of hk) (gd' Pv h0 (fun i xs H' p=>SqT.of (hl i xs H' p _ _ hk)) hs hd)
theorem yz' {K:W.Frag} {H:Hp} {Q:VK} {a:Addr} {vs:List V} (hk:Lt H a vs) (q:Q (.int vs.length) H):dJ' K .len [.ref a] H Q:=by
 rcases hk with hk|hk
 .exact fI' (SqL.of hk) q
 .exact cl' (SqT.of hk) q
theorem tT' {K:W.Frag} {H:Hp} {Q:VK} {a:Addr} {vs:List V} (hk:Lt H a vs) (q:∀p,H p=none->Q (.ref p) (upd H p (.lst vs))):dJ' K .list [.ref a] H Q:=by
 rcases hk with hk|hk
 .exact jG' (SqL.of hk) q
 .exact py' (SqT.of hk) q
theorem Lt.ty {H:Hp} {a:Addr} {vs:List V} (hk:Lt H a vs):∃T,bm' H (.ref a)=some T/\(T="list"\/T="tuple"):=by
 rcases hk with hk|hk
 .exact⟨"list",by simp only[bm',hk],.inl rfl⟩
 .exact⟨"tuple",by simp only[bm',hk],.inr rfl⟩
def Tl (H:Hp) (v:V):Option (List V)->Prop
 |some vs=>∃a,v=.ref a/\Lt H a vs/\(∀x∈vs,Val H x)/\vs.length<=61
 |none=>∃T∈["NoneType","bool","int","str"],bm' H v=some T
theorem Tl.mono {H H':Hp} (s:au' H H') {v:V} {o:Option (List V)} (h:Tl H v o):Tl H' v o:=by
 cases o with
 |none=>
  obtain⟨T,hT,h⟩:=h
  exact⟨T,hT,iV' s h⟩
 |some vs=>
  obtain⟨a,e,h1,h2,h3⟩:=h
  exact⟨a,e,h1.mono s,fun x hx=>(h2 x hx).mono s,h3⟩
theorem ne' {K:W.Frag} {H:Hp} {Q:VK} {v:V} {o:Option (List V)} {p:Addr} (h:Tl H v o) (hp:H p=some (.tup [.ty "list",.ty "tuple"])) (q:Q (.bl o.isSome) H):dJ' K .isinstance [v,.ref p] H Q:=by
 cases o with
 |none=>
  obtain⟨T,hT,h⟩:=h
  simp only[ap,aA,or_false]at hT
  rcases hT with rfl|rfl|rfl|rfl<;>exact De' h hp (k:=false) rfl (by decide) (by decide) (by decide) q
 |some vs=>
  obtain⟨a,rfl,h1,_⟩:=h
  obtain⟨T,hT,h⟩:=h1.ty
  rcases h with rfl|rfl<;>exact De' hT hp (k:=true) rfl (by decide) (by decide) (by decide) q
def nf':Sp:=fun vs H Q _=>∃v o,vs=[v]/\Tl H v o/\∀H',au' H H'->Q (.bl o.isSome) H'
theorem pT' {C:Rc} (hN:C.N.length=1):∀vs H Q E,nf' vs H Q E->tSs C b4' { nx:=fun _ H'=>Q .non H',rt:=Q } (L2.ay' C.N vs) H:=by
 intro vs H Q E h
 obtain⟨v,o,rfl,hv,q⟩:=h
 rw[aj' hN]
 unfold b4'
 symm
 refine⟨by decide,fun p hp=>?_⟩
 have s:=ae' hp (.tup [.ty "list",.ty "tuple"])
 exact ne' (hv.mono s) ac' (q _ s)
def arN (n:Int):Option (List V)->Bool
 |some vs=>decide ((vs.length:Int)=n)&&vs.all isN
 |none=>false
def eZ':Sp:=fun vs H Q _=>∃v n o,vs=[v,.int n]/\Tl H v o/\∀H',au' H H'->Q (.bl (arN n o)) H'
theorem ng' {C:Rc} (hN:C.N.length=3) (hL:C.fs "is_listed"=some nf') (hI:C.fs "is_number"=some cm'):∀vs H Q E,eZ' vs H Q E->tSs C bp' { nx:=fun _ H'=>Q .non H',rt:=Q } (L2.ay' C.N vs) H:=by
 intro vs H Q E h
 obtain⟨v,n,o,rfl,hv,q⟩:=h
 rw[aj' hN]
 unfold bp'
 symm
 refine ag' hL ?_
 symm
 refine⟨v,o,rfl,hv,fun H1 s1=>?_⟩
 have hv1:=hv.mono s1
 cases o with
 |none=>
  simp only[Option.isSome]
  symm
  exact q H1 s1
 |some vs=>
  obtain⟨a,rfl,hk,hvs,hz⟩:=hv1
  simp only[Option.isSome]
  symm
  refine yz' hk ?_
  symm
  simp only[arN]at q
  by_cases hn:(vs.length:Int)=n
  .rw[decide_eq_true hn,bR]at q
   rw[decide_eq_true hn]
   symm
   refine tS' hk (fun i xs H'=>xs=((vs.take i).map isN).map V.bl/\i<=vs.length/\H'=H1) ⟨rfl,aK _,rfl⟩ (fun i xs H' pv=>by rw[pv.2.2];exact au'.refl _) ?_ ?_
   .rintro i xs H' x R hx ⟨rfl,hi,rfl⟩ hR
    have hi':=an' hx
    symm
    refine ag' hI ?_
    symm
    refine⟨x,rfl,hvs x (aD hx),?_⟩
    symm
    refine⟨by simp;exact al' (by omega),hR _ _ ⟨?_,by omega,rfl⟩⟩
    rw[bN,hx,ax,ax]
    rfl
   .rintro xs H' ⟨rfl,_,rfl⟩ p hp
    symm
    refine fJ' (SqL.of ac') ?_
    rw[bp]
    rw[show(vs.map isN).all id=vs.all isN by rw[List.all_map];rfl]
    exact q _ (s1.trans (ae' hp _))
  .rw[decide_eq_false hn,cm]at q
   rw[decide_eq_false hn]
   symm
   exact q H1 s1
end CK
namespace LW
open PySem PySem.Spec PyProof.Rows L2 R3
def stp (M:List Rm) (r:Nat) (c:Bool):Option Nat:=match M[r]? with
 |some rm=>if c then rm.2 else rm.1
 |none=>none
theorem ds' {M:List Rm} (hM:OkM M) {r:Nat} {c:Bool} {n:Nat} (h:stp M r c=some n):n<M.length:=by
 unfold stp at h
 cases e:M[r]? with
 |none=>rw[e]at h;cases h
 |some rm=>
  rw[e]at h
  have:=hM rm (aD e)
  cases c
  .exact this.1 n h
  .exact this.2 n h
theorem iX' {C:Rc} {H:Hp} {a:Addr} {M:List Rm} {r:Nat} {c:Bool} {Q:VK} (hM:IsM H a M) (hr:r<M.length) (q:∀p,(∀Q':VK,Q' (oV (stp M r c)) H->gV' C.K (.ref p) (.int (if c then 1 else 0)) H Q'\/jh' C.K (.ref p) (.int (if c then 1 else 0)) H Q')->Q (.ref p) H):gV' C.K (.ref a) (.int r) H Q\/jh' C.K (.ref a) (.int r) H Q:=by
 obtain⟨vs,ha,hv⟩:=hM
 obtain⟨p,hp,hpt⟩:=hv.get (aa hr)
 refine aA' (SqT.of ha) (v:=.ref p) (a8' hp) (q p fun Q' q'=>?_)
 refine tn' (SqT.of hpt) ?_
 have e:stp M r c=if c then M[r].2 else M[r].1:=by unfold stp;rw[aa hr]
 rw[e]at q'
 cases c<;>exact q'
end LW
namespace LW
open PySem PySem.Spec PyProof.Rows L2 R3
def bI':Css:=(.cons (.asg (.name 4) (.idx (.idx (.var 0) (.var 2)) (.blt .int (.cons (.var 3) .nil))))
  (.cons (.ret (.ife (.cmp .Is (.var 4) .non) (.int 0) (.idx (.var 1) (.var 4))))
  .nil))
def cA':Css:=(.cons (.ret (.comp (.bin .Add (.call "behind_bit" (.cons (.var 0) (.cons (.var 1) (.cons (.var 2) (.cons (.str "0") .nil))))) (.call "behind_bit" (.cons (.var 0) (.cons (.var 1) (.cons (.var 2) (.cons (.str "1") .nil)))))) [2] (.name 2) (.range1 (.blt .len (.cons (.var 0) .nil))) .none .nil))
  .nil)
def fe':Css:=(.cons (.asg (.name 3) (.lst (.cons (.comp (.ife (.or (.cmp .Is (.var 1) .non) (.cmp .Eq (.var 4) (.var 1))) (.int 1) (.int 0)) [4] (.name 4) (.range1 (.blt .len (.cons (.var 0) .nil))) .none .nil) .nil)))
  (.cons (.for_ (.name 5) (.range1 (.var 2)) (.cons (.expr (.met .append (.var 3) (.cons (.call "way_sums" (.cons (.var 0) (.cons (.idx (.var 3) (.neg (.int 1))) .nil))) .nil)))
  .nil))
  (.cons (.ret (.var 3))
  .nil)))
def dN':Css:=(.cons (.ret (.idx (.call "ways" (.cons (.var 0) (.cons .non (.cons (.var 1) .nil)))) (.var 1)))
  .nil)
theorem h9' {H H':Hp} {a:Addr} {o:HO} (s:au' H H') (h:H a=none):au' H (upd H' a o):=fun b u q=>by
 rw[af' (ah' q h)]
 exact s b u q
theorem tU' {α:Type} {vs:List α} {i:Nat} {v:α} (hl:vs.length=i+1) (h:vs[i]?=some v):atI vs (-1)=some v:=by
 unfold atI ixN
 rw[if_neg (by omega),if_pos (by omega)]
 show vs[((-1:Int)+(vs.length:Int)).toNat]?=some v
 rw[show((-1:Int)+(vs.length:Int)).toNat=i by omega]
 exact h
def ow (f:Nat->Nat):Option Nat->Nat
 |none=>0
 |some m=>f m
def wy (M:List Rm) (g:Option Nat):Nat->Nat->Nat
 |0,r=>if g=none\/g=some r then 1 else 0
 |n+1,r=>ow (wy M g n) (stp M r false)+ow (wy M g n) (stp M r true)
def wyL (M:List Rm) (g:Option Nat) (n:Nat):List Int:=(ah M.length).map fun r=>((wy M g n r:Nat):Int)
def oi (ns:List Int):Option Nat->Int
 |none=>0
 |some m=>ns.getD m 0
def wsL (M:List Rm) (ns:List Int) (k:Nat):List Int:=(ah k).map fun r=>oi ns (stp M r false)+oi ns (stp M r true)
theorem tV' {M:List Rm} {g:Option Nat} {n m:Nat} (h:m<M.length):(wyL M g n).getD m 0=wy M g n m:=by
 unfold wyL
 rw[aP,ao,aY h]
 rfl
theorem nh' {M:List Rm} {g:Option Nat} {n:Nat}:(wyL M g n).length=M.length:=by unfold wyL;simp
theorem yA' {M:List Rm} (hM:OkM M) {g:Option Nat} {n r:Nat} {c:Bool}:oi (wyL M g n) (stp M r c)=((ow (wy M g n) (stp M r c):Nat):Int):=by
 cases e:stp M r c with
 |none=>rfl
 |some m=>exact tV' (ds' hM e)
theorem yB' {M:List Rm} (hM:OkM M) {g:Option Nat} {n:Nat}:wsL M (wyL M g n) M.length=wyL M g (n+1):=by
 unfold wsL
 show _=(ah M.length).map fun r=>((wy M g (n+1) r:Nat):Int)
 apply bL
 intro r _
 rw[yA' hM,yA' hM]
 show _=((ow (wy M g n) (stp M r false)+ow (wy M g n) (stp M r true):Nat):Int)
 omega
def dO' (K:W.Frag):Sp:=fun vs H Q _=>∃(a b:Addr) (M:List Rm) (r:Nat) (c:Bool) (ns:List Int),vs=[.ref a,.ref b,.int r,.str (tx [c])]/\IsM H a M/\OkM M/\r<M.length/\SqL K H b (ns.map V.int)/\ns.length=M.length/\Q (.int (oi ns (stp M r c))) H
theorem iY' {C:Rc} (hN:C.N.length=5):∀vs H Q E,dO' C.K vs H Q E->tSs C bI' { nx:=fun _ H'=>Q .non H',rt:=Q } (L2.ay' C.N vs) H:=by
 intro vs H Q E h
 obtain⟨a,b,M,r,c,ns,rfl,hM,hO,hr,hb,hl,q⟩:=h
 rw[aj' hN]
 unfold bI'
 walk_at "sy"
 refine iX' (c:=c) hM hr fun p hp=>?_
 symm
 refine hp _ ?_
 cases e:stp M r c with
 |none=>
  rw[e]at q
  simp only[oV]
  symm
  exact q
 |some m=>
  rw[e]at q
  have hm:=ds' hO e
  simp only[oV]
  symm
  refine a3' hb (v:=.int (ns.getD m 0)) (a8' ?_) q
  rw[ao,aa (by omega)]
  simp[aP,(by omega:m<ns.length)]
def aJ' (K:W.Frag):Sp:=fun vs H Q _=>∃(a b:Addr) (M:List Rm) (ns:List Int),vs=[.ref a,.ref b]/\IsM H a M/\OkM M/\M.length<=500/\SqL K H b (ns.map V.int)/\ns.length=M.length/\∀p,H p=none->Q (.ref p) (upd H p (.lst ((wsL M ns M.length).map V.int)))
theorem gJ' {C:Rc} (hN:C.N.length=3) (hB:C.fs "behind_bit"=some (dO' C.K)):∀vs H Q E,aJ' C.K vs H Q E->tSs C cA' { nx:=fun _ H'=>Q .non H',rt:=Q } (L2.ay' C.N vs) H:=by
 intro vs H Q E h
 obtain⟨a,b,M,ns,rfl,hM,hO,hM5,hb,hl,q⟩:=h
 rw[aj' hN]
 unfold cA'
 obtain⟨rv,ha,hrv⟩:=id hM
 walk_at "sy"
 refine cl' (SqT.of ha) ?_
 rw[hrv.len]
 refine fH' (by omega) (by omega) (jF' (fun i xs H'=>H'=H/\xs=(wsL M ns i).map V.int) ⟨rfl,rfl⟩ ?_ ?_)
 .rintro i xs H' R hi ⟨rfl,rfl⟩ hR
  rw[show(0:Int)+(i:Int)=(i:Int) by omega]
  have hi':i<M.length:=by omega
  symm
  refine ag' hB ?_
  symm
  refine⟨a,b,M,i,false,ns,rfl,hM,hO,hi',hb,hl,?_⟩
  symm
  refine ag' hB ?_
  symm
  refine⟨a,b,M,i,true,ns,rfl,hM,hO,hi',hb,hl,?_⟩
  symm
  refine⟨by rw[ac];unfold wsL;simp;exact al' (by omega),hR _ _ ⟨rfl,?_⟩⟩
  unfold wsL
  rw[bx,ax,ax]
  rfl
 .rintro xs H' ⟨rfl,rfl⟩ p hp
  exact q p hp
def ia' (K:W.Frag):Sp:=fun vs H Q _=>∃(a:Addr) (M:List Rm) (g:Option Nat) (n:Nat),vs=[.ref a,oV g,.int n]/\IsM H a M/\OkM M/\M.length<=500/\n<=900/\
 ∀(l:Addr) (vs':List V) (H':Hp),H l=none->au' H H'->H' l=some (.lst vs')->ct' (fun v k=>∃e,v=V.ref e/\e≠l/\H e=none/\H' e=some (.lst ((wyL M g k).map V.int))) vs' (ah (n+1))->Q (.ref l) H'
theorem ni' {C:Rc} (hN:C.N.length=6) (hW:C.fs "way_sums"=some (aJ' C.K)):∀vs H Q E,ia' C.K vs H Q E->tSs C fe' { nx:=fun _ H'=>Q .non H',rt:=Q } (L2.ay' C.N vs) H:=by
 intro vs H Q E h
 obtain⟨a,M,g,n,rfl,hM,hO,hM5,hn,q⟩:=h
 rw[aj' hN]
 unfold fe'
 obtain⟨rv,ha,hrv⟩:=id hM
 walk_at "sy"
 refine cl' (SqT.of ha) ?_
 rw[hrv.len]
 refine fH' (by omega) (by omega) (jF' (fun i xs H'=>H'=H/\xs=((ah i).map fun r=>((wy M g 0 r:Nat):Int)).map V.int) ⟨rfl,rfl⟩ ?_ ?_)
 .rintro i xs H' R hi ⟨rfl,rfl⟩ hR
  rw[show(0:Int)+(i:Int)=(i:Int) by omega]
  have fin:∀k:Nat,k=wy M g 0 i->gF' (((ah i).map fun r=>((wy M g 0 r:Nat):Int)).map V.int) R (.int k) H':=by
   rintro k rfl
   refine⟨by simp;exact al' (by omega),hR _ _ ⟨rfl,?_⟩⟩
   rw[bx,ax,ax]
   rfl
  cases g with
  |none=>
   simp only[oV]
   symm
   exact fin 1 (by simp[wy])
  |some k=>
   simp only[oV]
   symm
   refine bB' (fun hc=>?_) fun hc=>?_
   .symm
    exact fin 1 (by have:k=i:=(by omega);simp[wy,this])
   .symm
    exact fin 0 (by have:k≠i:=fun z=>hc (by omega);simp[wy,this])
 rintro xs H1 ⟨rfl,rfl⟩ e0 he0
 rw[bb]
 have s2:=ae' he0 (.lst (((ah M.length).map fun r=>((wy M g 0 r:Nat):Int)).map V.int))
 have he2:upd H1 e0 (.lst (((ah M.length).map fun r=>((wy M g 0 r:Nat):Int)).map V.int)) e0=some (.lst ((wyL M g 0).map V.int)):=ac'
 generalize upd H1 e0 (.lst (((ah M.length).map fun r=>((wy M g 0 r:Nat):Int)).map V.int))=H2 at s2 he2
 symm
 refine⟨by decide,fun l hl=>?_⟩
 have hl0:H1 l=none:=s2.free hl
 have hel0:e0≠l:=ah' he2 hl
 symm
 refine fH' (by omega) (by omega) (h5' (fun i σ H'=>au' H1 H'/\(∃x4 x5,σ=[some (.ref a),some (oV g),some (.int n),some (.ref l),x4,x5])/\∃vs',H' l=some (.lst vs')/\ct' (fun v k=>∃e,v=V.ref e/\e≠l/\H1 e=none/\H' e=some (.lst ((wyL M g k).map V.int))) vs' (ah (i+1))) ⟨h9' s2 hl0,⟨_,_,rfl⟩,[.ref e0],ac',⟨e0,rfl,hel0,he0,by rw[af' hel0];exact he2⟩,trivial⟩ ?_ ?_)
 .rintro i σ H3 hi ⟨s3,⟨x4,x5,rfl⟩,vs',hl3,hA⟩
  have hvl:=hA.len
  obtain⟨v,ev,e,rfl,hel,he1,he3⟩:=hA.get (i:=i) (b:=i) (by rw[aY (by omega)])
  rw[aR]at hvl
  symm
  refine⟨tyL hl3 rfl,ag' hW ?_⟩
  symm
  have elast:atI vs' (-1)=some (.ref e):=tU' hvl ev
  refine a3' (SqL.of hl3) elast ?_
  symm
  refine⟨a,e,M,wyL M g i,rfl,hM.mono (ap' s3),hO,hM5,SqL.of he3,nh',fun p hp=>?_⟩
  rw[yB' hO]
  have s4:=ae' hp (.lst ((wyL M g (i+1)).map V.int))
  have hp4:upd H3 p (.lst ((wyL M g (i+1)).map V.int)) p=some (.lst ((wyL M g (i+1)).map V.int)):=ac'
  generalize upd H3 p (.lst ((wyL M g (i+1)).map V.int))=H4 at s4 hp4
  have hpl:p≠l:=fun z=>by subst z;rw[hl3]at hp;cases hp
  symm
  refine jH' (s4 _ _ hl3) (al' (by omega)) ?_
  symm
  refine⟨h9' (s3.trans s4) hl0,⟨_,_,rfl⟩,vs'++[.ref p],ac',?_⟩
  rw[bx]
  refine ct'.snoc (hA.mono fun v k ⟨e',h1,h2,h3,h4⟩=>⟨e',h1,h2,h3,by rw[af' h2];exact s4 _ _ h4⟩) ⟨p,rfl,hpl,(s3.free hp),by rw[af' hpl];exact hp4⟩
 .rintro σ H3 ⟨s3,⟨x4,x5,rfl⟩,vs',hl3,hA⟩
  rw[bb]at hA
  symm
  exact q l vs' H3 hl0 s3 hl3 hA
def cB':Sp:=fun vs H Q _=>∃(a:Addr) (M:List Rm) (n:Nat),vs=[.ref a,.int n]/\IsM H a M/\OkM M/\M.length<=500/\n<=900/\∀(e:Addr) (H':Hp),H e=none->au' H H'->H' e=some (.lst ((wyL M none n).map V.int))->Q (.ref e) H'
theorem iZ' {C:Rc} (hN:C.N.length=2) (hW:C.fs "ways"=some (ia' C.K)):∀vs H Q E,cB' vs H Q E->tSs C dN' { nx:=fun _ H'=>Q .non H',rt:=Q } (L2.ay' C.N vs) H:=by
 intro vs H Q E h
 obtain⟨a,M,n,rfl,hM,hO,hM5,hn,q⟩:=h
 rw[aj' hN]
 unfold dN'
 walk_at "sy"
 refine ag' hW ?_
 symm
 refine⟨a,M,none,n,rfl,hM,hO,hM5,hn,fun l vs' H' hl s hl' hA=>?_⟩
 obtain⟨v,ev,e,rfl,hel,he1,he3⟩:=hA.get (i:=n) (b:=n) (by rw[aY (by omega)])
 symm
 exact a3' (SqL.of hl') (a8' ev) (q e H' he1 s he3)
end LW
namespace LW
open PySem PySem.Spec PyProof.Rows L2 R3
theorem nj' {a b:Nat} (ha:a<=2 ^ 2000) (hb:b<=2 ^ 2000):o1' (a:Int) (b:Int):=by
 have key:∀{a:Nat},a<=2 ^ 2000->Builtin.Int.intBits ((a:Nat):Int)<=2001:=fun {a} h=>intBits_le_iff.mpr (by
  rw[cV]
  exact bG h (Nat.pow_lt_pow_right (by decide) (by decide)))
 exact .inr (.inr (IntMulOk.of_le (key ha) (key hb) (by decide)))
end LW
namespace RW
open PySem PySem.Spec PyProof.Rows L2 R3 LW SR
def ob (f:Nat->List (List Bool)) (b:Bool):Option Nat->List (List Bool)
 |none=>[]
 |some m=>(f m).map (b :: ·)
def rws (M:List Rm) (g:Option Nat):Nat->Nat->List (List Bool)
 |0,r=>if g=none\/g=some r then[[]]else[]
 |n+1,r=>ob (rws M g n) false (stp M r false)++ob (rws M g n) true (stp M r true)
def od (f:Nat->Int):Option Nat->Int
 |none=>0
 |some m=>f m
def ext (M:List Rm) (g:Option Nat) (k:Nat) (w:List Bool×Nat):List (List Bool):=(rws M g k w.2).map (w.1++·)
end RW
namespace TM
open PySem PySem.Spec PyProof.Rows L2 R3 LW
def c3':Css:=(.cons (.asg (.name 2) (.blt .set (.cons (.var 1) .nil)))
  (.cons (.setc2 3 (.var 5) [4,5] (.name 4) (.val (.var 1)) .none [5] (.name 5) (.val (.idx (.var 0) (.var 4))) .none)
  (.cons (.ret (.comp (.var 4) [4] (.name 4) (.val (.var 1)) (.some (.and (.din false (.var 4) (.var 3)) (.or (.din false (.idx (.idx (.var 0) (.var 4)) (.int 0)) (.var 2)) (.din false (.idx (.idx (.var 0) (.var 4)) (.int 1)) (.var 2))))) .nil))
  .nil)))
def c4':Css:=(.cons (.dctc false 2 (.var 4) (.var 3) [3,4] (.tup (.cons (.name 3) (.cons (.name 4) .nil))) (.enum (.var 1)) .none)
  (.cons (.ret (.blt .tuple (.cons (.comp (.tup (.cons (.dgt (.var 2) (.idx (.idx (.var 0) (.var 4)) (.int 0))) (.cons (.dgt (.var 2) (.idx (.idx (.var 0) (.var 4)) (.int 1))) .nil))) [4] (.name 4) (.val (.var 1)) .none .nil) .nil)))
  .nil))
def c5':Css:=(.cons (.asg (.name 1) (.blt .list (.cons (.blt .range (.cons (.blt .len (.cons (.var 0) .nil)) .nil)) .nil)))
  (.cons (.asg (.name 2) (.call "lasting" (.cons (.var 0) (.cons (.var 1) .nil))))
  (.cons (.whl (.cmp .Lt (.blt .len (.cons (.var 2) .nil)) (.blt .len (.cons (.var 1) .nil))) (.cons (.asg (.name 1) (.var 2))
  (.cons (.asg (.name 2) (.call "lasting" (.cons (.var 0) (.cons (.var 1) .nil))))
  .nil)))
  (.cons (.ret (.tup (.cons (.call "part_of" (.cons (.var 0) (.cons (.var 1) .nil))) (.cons (.var 1) .nil))))
  .nil))))
def oI (o:Option Nat):Option Int:=o.map Int.ofNat
theorem pU' {o:Option Nat}:oV o=kO (oI o):=by cases o<;>rfl
theorem rf' {a b:Option Nat} (h:oI a=oI b):a=b:=by
 cases a<;>cases b<;>simp[oI]at h ⊢
 omega
def fs1 (M:List Rm) (r:Nat):Option Nat:=(M[r]?.getD (none,none)).1
def fs2 (M:List Rm) (r:Nat):Option Nat:=(M[r]?.getD (none,none)).2
theorem fL' {C:Rc} {H:Hp} {a:Addr} {M:List Rm} {r:Nat} {Q:VK} (hM:IsM H a M) (hr:r<M.length) (q:∀p,H p=some (.tup [oV (fs1 M r),oV (fs2 M r)])->Q (.ref p) H):gV' C.K (.ref a) (.int r) H Q\/jh' C.K (.ref a) (.int r) H Q:=by
 obtain⟨vs,ha,hv⟩:=hM
 obtain⟨p,hp,hpt⟩:=hv.get (aa hr)
 refine aA' (SqT.of ha) (v:=.ref p) (a8' hp) (q p ?_)
 unfold fs1 fs2
 rw[aa hr]
 exact hpt
def ldS (M:List Rm) (rs:List Nat):Option Int->Bool:=fun k=>rs.any fun r=>decide (k=oI (fs1 M r)) || decide (k=oI (fs2 M r))
theorem pV' {M:List Rm} {rs:List Nat} {r:Nat}:ldS M (rs++[r])=fun k=>(ldS M rs k || decide (k=oI (fs1 M r))) || decide (k=oI (fs2 M r)):=by
 funext k
 unfold ldS
 rw[List.any_append]
 simp[Bool.or_assoc]
def inR (rs:List Nat) (o:Option Nat):Bool:=match o with
 |some n=>rs.contains n
 |none=>false
theorem rg' {rs:List Nat} {o:Option Nat}:inL (rs.map Int.ofNat) (oI o)=inR rs o:=by
 cases o with
 |none=>rfl
 |some n=>
  show(rs.map Int.ofNat).contains (Int.ofNat n)=rs.contains n
  induction rs with
  |nil=>rfl
  |cons a rs ih=>
   rw[aN,List.contains_cons,List.contains_cons,ih]
   congr 1
   by_cases h:n=a
   .subst h;simp
   .rw[beq_eq_false_iff_ne.mpr h,beq_eq_false_iff_ne.mpr (fun z=>h (Int.ofNat.inj z))]
def ey' (M:List Rm) (rs:List Nat) (r:Nat):Bool:=ldS M rs (some (r:Int))&&(inR rs (fs1 M r) || inR rs (fs2 M r))
def lst (M:List Rm) (rs:List Nat):List Nat:=rs.filter (ey' M rs)
theorem tW' {rs:List Nat}:(rs.map Int.ofNat).map V.int=rs.map nV:=by rw[ci];rfl
def ib':Sp:=fun vs H Q _=>∃(a l:Addr) (M:List Rm) (rs:List Nat),vs=[.ref a,.ref l]/\IsM H a M/\H l=some (.lst (rs.map nV))/\(∀r∈rs,r<M.length)/\rs.length<=500/\∀(p:Addr) (H':Hp),H p=none->au' H H'->H' p=some (.lst ((lst M rs).map nV))->Q (.ref p) H'
theorem nk' {C:Rc} (hN:C.N.length=6):∀vs H Q E,ib' vs H Q E->tSs C c3' { nx:=fun _ H'=>Q .non H',rt:=Q } (L2.ay' C.N vs) H:=by
 intro vs H Q E h
 obtain⟨a,l,M,rs,rfl,hM,hl,hrs,hlen,q⟩:=h
 rw[aj' hN]
 unfold c3'
 symm
 refine yg' (ns:=rs.map Int.ofNat) (SqL.of (by rw[tW'];exact hl)) (by rw[ac];omega) fun p hp=>?_
 have s1:=ae' hp (f7' p (inL (rs.map Int.ofNat)) (rs.map Int.ofNat).length)
 have hp1:upd H p (f7' p (inL (rs.map Int.ofNat)) (rs.map Int.ofNat).length) p=some (f7' p (inL (rs.map Int.ofNat)) (rs.map Int.ofNat).length):=ac'
 generalize upd H p (f7' p (inL (rs.map Int.ofNat)) (rs.map Int.ofNat).length)=H1 at s1 hp1 ⊢
 have hl1:=s1 _ _ hl
 have hM1:=hM.mono (ap' s1)
 symm
 refine aF' (SqL.of hl1) (C4' (vs:=rs.map nV) (fun i b H'=>b.1=ldS M (rs.take i)/\b.2=2*i/\H'=H1) ⟨rfl,rfl,rfl⟩ (fun i b H' pv=>SqL.of (by rw[pv.2.2];exact hl1)) ?_ ?_)
 .rintro i ⟨S,n⟩ H' x R hx ⟨hS,hn,hH⟩ hR
  subst hH
  rw[ao]at hx
  cases er:rs[i]? with
  |none=>rw[er]at hx;cases hx
  |some r=>
  rw[er]at hx
  cases hx
  have hi:=an' er
  have hrM:=hrs r (aD er)
  dsimp only at hS hn
  subst hS hn
  simp only[nV]
  symm
  refine fL' hM1 hrM fun pr hpr=>?_
  symm
  refine bo' (SqT.of hpr) (C5' (vs:=[oV (fs1 M r),oV (fs2 M r)]) (fun j b H''=>b.1=(fun k=>(if j=0 then ldS M (rs.take i) k else if j=1 then(ldS M (rs.take i) k || decide (k=oI (fs1 M r)))else(ldS M (rs.take i) k || decide (k=oI (fs1 M r))) || decide (k=oI (fs2 M r))))/\b.2=2*i+j/\H''=H') ⟨rfl,rfl,rfl⟩ (fun j b H' pv=>SqT.of (by rw[pv.2.2];exact hpr)) ?_ ?_)
  .rintro j ⟨S,n⟩ H' x R2 hx ⟨hS,hn,rfl⟩ hR2
   dsimp only at hS hn
   subst hS hn
   have hj:j=0\/j=1:=by
    have:=an' hx
    simp only[bg,List.length_nil]at this
    omega
   rcases hj with rfl|rfl
   .simp only[List.getElem?_cons_zero,Option.some.injEq]at hx
    subst hx
    symm
    refine⟨oI (fs1 M r),pU',by omega,hR2 _ _ ⟨?_,rfl,rfl⟩⟩
    funext k
    simp
   .simp only[List.getElem?_cons_succ,List.getElem?_cons_zero,Option.some.injEq]at hx
    subst hx
    symm
    refine⟨oI (fs2 M r),pU',by omega,hR2 _ _ ⟨?_,rfl,rfl⟩⟩
    funext k
    simp
  .rintro⟨S,n⟩ H' ⟨hS,hn,rfl⟩
   dsimp only at hS hn
   subst hS hn
   refine hR _ _ ⟨?_,by simp;omega,rfl⟩
   rw[show rs.take (i+1)=rs.take i++[r] by rw[bN,er];rfl,pV']
   rfl
 .rintro⟨S,n⟩ H' ⟨hS,hn,rfl⟩
  dsimp only at hS hn
  rw[ac,bp]at hS
  subst hS
  refine⟨trivial,fun p2 hp2=>?_⟩
  dsimp only
  have s2:=ae' hp2 (f7' p2 (ldS M rs) n)
  have hp22:upd H' p2 (f7' p2 (ldS M rs) n) p2=some (f7' p2 (ldS M rs) n):=ac'
  generalize upd H' p2 (f7' p2 (ldS M rs) n)=H2 at s2 hp22 ⊢
  have hl2:=s2 _ _ hl1
  have hp12:=s2 _ _ hp1
  have hM2:=hM1.mono (ap' s2)
  symm
  refine aF' (SqL.of hl2) (eq' (vs:=rs.map nV) (fun i xs H'=>xs=((rs.take i).filter (ey' M rs)).map nV/\H'=H2) ⟨rfl,rfl⟩ (fun i xs H' pv=>SqL.of (by rw[pv.2];exact hl2)) ?_ ?_)
  .rintro i xs H' x R hx ⟨rfl,rfl⟩ hR
   rw[ao]at hx
   cases er:rs[i]? with
   |none=>rw[er]at hx;cases hx
   |some r=>
   rw[er]at hx
   cases hx
   have hi:=an' er
   have hrM:=hrs r (aD er)
   have et:(rs.take (i+1)).filter (ey' M rs)=(rs.take i).filter (ey' M rs)++[r].filter (ey' M rs):=by rw[bN,er,List.filter_append];rfl
   have hfl:((rs.take i).filter (ey' M rs)).length<=500:=aq (cL ..) (by rw[aS];omega)
   have yes:ey' M rs r=true->R (((rs.take i).filter (ey' M rs)).map nV++[nV r]) H':=fun h=>hR _ _ ⟨by rw[et,List.filter_cons,if_pos h,ax];rfl,rfl⟩
   have no:ey' M rs r=false->R (((rs.take i).filter (ey' M rs)).map nV) H':=fun h=>hR _ _ ⟨by rw[et,List.filter_cons,if_neg (by rw[h];decide)];simp,rfl⟩
   have e1:=rg' (rs:=rs) (o:=fs1 M r)
   have e2:=rg' (rs:=rs) (o:=fs2 M r)
   unfold ey' at yes no
   simp only[nV]at yes ⊢
   symm
   refine m1' (k:=some (r:Int)) rfl hp22 ?_
   simp only[ce,if_false]
   cases hld:ldS M rs (some (r:Int))with
   |false=>
    rw[hld]at no
    symm
    exact no rfl
   |true=>
    rw[hld]at yes no
    symm
    refine fL' hM2 hrM fun pr hpr=>?_
    symm
    refine aA' (SqT.of hpr) (v:=oV (fs1 M r)) rfl ?_
    symm
    refine m1' pU' hp12 ?_
    simp only[ce,if_false]
    rw[e1]
    cases h1:inR rs (fs1 M r)with
    |true=>
     rw[h1]at yes
     symm
     exact⟨by rw[ac];exact al' (by omega),yes rfl⟩
    |false=>
     rw[h1]at yes no
     symm
     refine fL' hM2 hrM fun pr hpr=>?_
     symm
     refine aA' (SqT.of hpr) (v:=oV (fs2 M r)) rfl ?_
     symm
     refine m1' pU' hp12 ?_
     simp only[ce,if_false]
     rw[e2]
     cases h2:inR rs (fs2 M r)with
     |true=>
      rw[h2]at yes
      symm
      exact⟨by rw[ac];exact al' (by omega),yes rfl⟩
     |false=>
      rw[h2]at no
      symm
      exact no rfl
  .rintro xs H' ⟨rfl,rfl⟩ p3 hp3
   rw[ac,bp]
   have hfin:upd H' p3 (.lst ((rs.filter (ey' M rs)).map nV)) p3=some (.lst ((lst M rs).map nV)):=ac'
   exact q p3 _ ((s1.trans s2).free hp3) (s1.trans (s2.trans (ae' hp3 _))) hfin
theorem kB' {i:Nat} (h:i<=1000):hashInt (i:Int)=i:=by
 unfold hashInt rawHash
 have e:(((i:Int).natAbs:Nat):Int) % ((2 ^ 61-1:Nat):Int)=i:=by
  rw[cV]
  exact Int.emod_eq_of_lt (by omega) (Int.ofNat_lt.mpr (show i<2 ^ 61-1 by omega))
 dsimp only
 rw[e]
 have h1:¬((i:Int)<0):=by omega
 have h2:((i:Int) == -1)=false:=by rw[beq_eq_false_iff_ne];omega
 simp only[h1,if_false,h2,ce]
def TbK (n m:Nat) (kvs:List (Key×V)):Prop:=∀kv∈kvs,∃r j:Nat,kv=(.inl (r:Int),.int j)/\r<n/\j<m
theorem TbK.non {H:Hp} {p:Addr} {n m:Nat} {kvs:List (Key×V)} (h:TbK n m kvs) (hn:n<=1000) (hp:H p=some (.dK kvs)):NoN H p:=.inl ⟨kvs,hp,fun kv hkv=>by
 obtain⟨r,j,rfl,hr,_⟩:=h kv hkv
 exact⟨r,rfl,by rw[kB' (by omega)];show(r:Int)≠0xFCA86420;omega⟩⟩
theorem yC' {M:List Rm} {rs:List Nat}:(lst M rs).length<=rs.length:=cL ..
theorem nl' {M:List Rm} {rs:List Nat} {r:Nat} (h:r∈lst M rs):r∈rs:=(List.mem_filter.mp h).1
theorem rh' {n:Nat}:rgs 0 n=(ah n).map nV:=by
 unfold rgs
 apply bL
 intro k _
 show V.int (0+(k:Int))=V.int k
 rw[Int.zero_add]
end TM
namespace BD
open PySem PySem.Spec PyProof.Rows L2 R3 LW TM
def aS':Css:=(.cons (.asg (.tup (.cons (.name 1) (.cons (.name 2) (.cons (.name 3) (.cons (.name 4) (.cons (.name 5) .nil)))))) (.var 0))
  (.cons (.asg (.name 6) (.ife (.cmp .Is (.var 5) .non) (.lst (.cons (.int 0) .nil)) (.blt .list (.cons (.blt .range (.cons (.bin .Add (.var 5) (.int 1)) .nil)) .nil))))
  (.cons (.ret (.comp (.tup (.cons (.var 7) (.cons (.var 9) (.cons (.var 10) .nil)))) [7,8,9,10] (.tup (.cons (.name 7) (.cons (.name 8) .nil))) (.val (.tup (.cons (.tup (.cons (.int 0) (.cons (.var 2) .nil))) (.cons (.tup (.cons (.int 1) (.cons (.var 4) .nil))) .nil)))) .none (.cons [9,10] (.name 9) (.range2 (.int 1) (.bin .Add (.var 8) (.int 1))) .none (.cons [10] (.name 10) (.val (.var 6)) .none .nil))))
  .nil)))
def bq':Css:=(.cons (.asg (.tup (.cons (.name 3) (.cons (.name 4) (.cons (.name 5) (.cons (.name 6) (.cons (.name 7) .nil)))))) (.var 0))
  (.cons (.asg (.tup (.cons (.name 8) (.cons (.name 9) (.cons (.name 10) .nil)))) (.var 1))
  (.cons (.ite (.cmp .IsNot (.var 7) .non) (.cons (.aug 10 false (.ife (.cmp .Eq (.var 2) (.int 1)) (.int 1) (.neg (.int 1))))
  .nil) .nil)
  (.cons (.ite (.cmp .Eq (.var 2) (.var 8)) (.cons (.ret (.tup (.cons (.var 2) (.cons (.bin .Add (.var 9) (.int 1)) (.cons (.var 10) .nil)))))
  .nil) .nil)
  (.cons (.ite (.cmp .Lt (.var 9) (.ife (.cmp .Eq (.var 8) (.int 1)) (.var 5) (.var 3))) (.cons (.ret .non)
  .nil) .nil)
  (.cons (.ret (.tup (.cons (.var 2) (.cons (.int 1) (.cons (.var 10) .nil)))))
  .nil))))))
def aL':Css:=(.cons (.dctc true 2 (.var 4) (.var 3) [3,4] (.tup (.cons (.name 3) (.cons (.name 4) .nil))) (.enum (.var 1)) .none)
  (.cons (.ret (.blt .tuple (.cons (.comp (.tup (.cons (.dgt (.var 2) (.call "room_behind" (.cons (.var 0) (.cons (.var 4) (.cons (.int 0) .nil))))) (.cons (.dgt (.var 2) (.call "room_behind" (.cons (.var 0) (.cons (.var 4) (.cons (.int 1) .nil))))) .nil))) [4] (.name 4) (.val (.var 1)) .none .nil) .nil)))
  .nil))
def bJ':Css:=(.cons (.asg (.tup (.cons (.name 1) (.cons (.name 2) .nil))) (.call "trimmed" (.cons (.call "machine_in_bounds" (.cons (.var 0) (.cons (.call "rooms_in_bounds" (.cons (.var 0) .nil)) .nil))) .nil)))
  (.cons (.ret (.var 1))
  .nil))
structure IsB (H:Hp) (p:Addr) (l0 h0 l1 h1:Nat) (sp:Option Nat):Prop where
 at':H p=some (.tup [nV l0,nV h0,nV l1,nV h1,oV sp])
 b0:h0<=8
 b1:h1<=8
 bs:∀s,sp=some s->s<=16
theorem IsB.mono {H H':Hp} {p:Addr} {l0 h0 l1 h1:Nat} {sp:Option Nat} (h:IsB H p l0 h0 l1 h1 sp) (t:Tp H H'):IsB H' p l0 h0 l1 h1 sp:=⟨t _ _ h.at',h.b0,h.b1,h.bs⟩
theorem ri' {C:Rc} {H:Hp} {σ:L2.St} {i j k m n:Nat} {a:Addr} {x y z u v:V} {R:L2.St->Hp->Prop} (h:SqT C.K H a [x,y,z,u,v]) (q:R (((((σ.set i (some x)).set j (some y)).set k (some z)).set m (some u)).set n (some v)) H):tG C (.tup (.cons (.name i) (.cons (.name j) (.cons (.name k) (.cons (.name m) (.cons (.name n) .nil)))))) (.ref a) σ H R:=
 ⟨a,[x,y,z,u,v],rfl,.inl h,rfl,_,_,rfl,_,_,rfl,_,_,rfl,_,_,rfl,_,_,rfl,rfl,q⟩
abbrev K3:=Nat×Nat×Nat
def kT' (H:Hp) (v:V) (k:K3):Prop:=∃p,v=.ref p/\H p=some (.tup [nV k.1,nV k.2.1,nV k.2.2])
theorem kT'.mono {H H':Hp} (s:au' H H') {v:V} {k:K3} (h:kT' H v k):kT' H' v k:=by
 obtain⟨p,e,hp⟩:=h
 exact⟨p,e,s _ _ hp⟩
def r1 (lv:List Nat) (b pl:Nat):List K3:=lv.map fun l=>(b,pl,l)
def r2 (lv:List Nat) (b:Nat) (h:Nat):List K3:=(ah h).flatMap fun j=>r1 lv b (j+1)
def rk (lv:List Nat) (h0 h1:Nat):List K3:=r2 lv 0 h0++r2 lv 1 h1
def lvs:Option Nat->List Nat
 |none=>[0]
 |some s=>ah (s+1)
theorem i0' {lv:List Nat} {b h:Nat}:r2 lv b (h+1)=r2 lv b h++r1 lv b (h+1):=by
 unfold r2
 rw[bx,List.flatMap_append]
 simp
theorem ic' {lv:List Nat} {b:Nat}:∀{h},(r2 lv b h).length=h*lv.length
 |0=>by rw[Nat.zero_mul];rfl
 |h+1=>by rw[i0',au,ic',dk,Nat.one_mul];unfold r1;rw[ac]
theorem id' {lv:List Nat} {b h:Nat} {k:K3}:k∈r2 lv b h->k.1=b/\1<=k.2.1/\k.2.1<=h/\k.2.2∈lv:=by
 unfold r2 r1
 intro hk
 obtain⟨j,hj,hk⟩:=List.mem_flatMap.mp hk
 obtain⟨l,hl,rfl⟩:=bi.mp hk
 have:=aB.mp hj
 exact⟨rfl,by show 1<=j+1;omega,by show j+1<=h;omega,hl⟩
theorem rj' {α β:Type} {f:α->β} (hf:∀x y,f x=f y->x=y):∀{l:List α},l.Nodup->(l.map f).Nodup
 | [],_=>cS
 |a :: l,h=>by
  rw[cu]at h
  rw[aN,cu]
  refine⟨fun z=>?_,rj' hf h.2⟩
  obtain⟨x,hx,e⟩:=bi.mp z
  rw[hf _ _ e]at hx
  exact h.1 hx
theorem tX' {lv:List Nat} (hl:lv.Nodup) {b:Nat}:∀{h},(r2 lv b h).Nodup
 |0=>cS
 |h+1=>by
  rw[i0',cP]
  refine⟨tX' hl,rj' (fun x y e=>by injection e with _ e;injection e) hl,fun x hx y hy e=>?_⟩
  subst e
  have h1:=(id' hx).2.2.1
  unfold r1 at hy
  obtain⟨l,_,rfl⟩:=bi.mp hy
  have:h+1<=h:=h1
  omega
theorem B4' {lv:List Nat} (hl:lv.Nodup) {h0 h1:Nat}:(rk lv h0 h1).Nodup:=by
 unfold rk
 rw[cP]
 refine⟨tX' hl,tX' hl,fun x hx y hy e=>?_⟩
 subst e
 have a:=(id' hx).1
 have b:=(id' hy).1
 omega
theorem yD' {sp:Option Nat}:(lvs sp).Nodup:=by
 cases sp with
 |none=>exact cu.mpr ⟨aA,cS⟩
 |some s=>exact List.nodup_range
theorem rk' {sp:Option Nat} (h:∀s,sp=some s->s<=16):(lvs sp).length<=17/\∀l∈lvs sp,l<=16:=by
 cases sp with
 |none=>exact⟨by decide,fun l hl=>by have:l=0:=(by simpa[lvs]using hl);omega⟩
 |some s=>
  have:=h s rfl
  refine⟨by show(ah (s+1)).length<=17;rw[aR];omega,fun l hl=>?_⟩
  have:=aB.mp (show l∈ah (s+1) from hl)
  omega
theorem tY' {sp:Option Nat} {h0 h1:Nat} (hs:∀s,sp=some s->s<=16) (a0:h0<=8) (a1:h1<=8):(rk (lvs sp) h0 h1).length<=272/\∀k∈rk (lvs sp) h0 h1,k.1<2/\k.2.1<9/\k.2.2<17:=by
 obtain⟨h,hm⟩:=rk' hs
 constructor
 .unfold rk
  rw[au,ic',ic']
  have e0:h0*(lvs sp).length<=8*17:=dh a0 h
  have e1:h1*(lvs sp).length<=8*17:=dh a1 h
  omega
 .intro k hk
  unfold rk at hk
  rcases aG.mp hk with hk|hk
  .obtain⟨e,_,e2,e3⟩:=id' hk
   have:=hm _ e3
   omega
  .obtain⟨e,_,e2,e3⟩:=id' hk
   have:=hm _ e3
   omega
def nm':Sp:=fun vs H Q _=>∃(bd:Addr) (l0 h0 l1 h1:Nat) (sp:Option Nat),vs=[.ref bd]/\IsB H bd l0 h0 l1 h1 sp/\∀(p:Addr) (xs:List V) (H':Hp),au' H H'->H' p=some (.lst xs)->ct' (kT' H') xs (rk (lvs sp) h0 h1)->Q (.ref p) H'
theorem ie' {H H':Hp} (s:au' H H') {xs:List V} {ks:List K3} (h:ct' (kT' H) xs ks):ct' (kT' H') xs ks:=h.mono fun _ _ z=>z.mono s
theorem pW' {C:Rc} (hN:C.N.length=11):∀vs H Q E,nm' vs H Q E->tSs C aS' { nx:=fun _ H'=>Q .non H',rt:=Q } (L2.ay' C.N vs) H:=by
 intro vs H Q E h
 obtain⟨bd,l0,h0,l1,h1,sp,rfl,hB,q⟩:=h
 rw[aj' hN]
 unfold aS'
 symm
 rw[iP']
 symm
 refine ri' (C:=C) (SqT.of hB.at') ?_
 simp only[fG',cx,cy]
 obtain⟨hlv,hlm⟩:=rk' hB.bs
 refine tt' fun K hK=>?_
 have aH':∀(pl:Addr) (H1:Hp),au' H H1->H1 pl=some (.lst ((lvs sp).map nV))->K (.ref pl) H1:=by
  intro pl H1 s1 hpl
  refine hK _ _ ?_
  symm
  refine⟨by show 2<=sizeLine;decide,fun q0 hq0=>?_⟩
  have t0:=ae' hq0 (.tup [.int 0,nV h0])
  have e0:upd H1 q0 (.tup [.int 0,nV h0]) q0=some (.tup [.int 0,nV h0]):=ac'
  generalize upd H1 q0 (.tup [.int 0,nV h0])=H2 at t0 e0 ⊢
  symm
  refine⟨by show 2<=sizeLine;decide,fun q1 hq1=>?_⟩
  have t1:=ae' hq1 (.tup [.int 1,nV h1])
  have e1:upd H2 q1 (.tup [.int 1,nV h1]) q1=some (.tup [.int 1,nV h1]):=ac'
  generalize upd H2 q1 (.tup [.int 1,nV h1])=H3 at t1 e1 ⊢
  symm
  refine⟨by show 2<=sizeLine;decide,fun q2 hq2=>?_⟩
  have t2:=ae' hq2 (.tup [.ref q0,.ref q1])
  have e2:upd H3 q2 (.tup [.ref q0,.ref q1]) q2=some (.tup [.ref q0,.ref q1]):=ac'
  generalize upd H3 q2 (.tup [.ref q0,.ref q1])=H4 at t2 e2 ⊢
  have s4:au' H1 H4:=t0.trans (t1.trans t2)
  have e04:=t2 _ _ (t1 _ _ e0)
  have e14:=t2 _ _ e1
  have hpl4:=s4 _ _ hpl
  have hrk:=(tY' hB.bs hB.b0 hB.b1 (h0:=h0) (h1:=h1)).1
  refine bo' (SqT.of e2) (C5' (vs:=[.ref q0,.ref q1]) (fun i xs H'=>au' H4 H'/\ct' (kT' H') xs (if i=0 then[]else if i=1 then r2 (lvs sp) 0 h0 else rk (lvs sp) h0 h1)) ⟨au'.refl _,trivial⟩ (fun i xs H' pv=>SqT.of (pv.1 _ _ e2)) ?_ ?_)
  .rintro i xs H5 x R hx ⟨s5,hA⟩ hR
   have hi2:i=0\/i=1:=by
    have:=an' hx
    simp only[bg,List.length_nil]at this
    omega
   obtain⟨qq,b,hh,rfl,hqq,hh8,pre,hpre,hpost,hb⟩:∃(qq:Addr) (b hh:Nat),x=.ref qq/\H5 qq=some (.tup [.int b,nV hh])/\hh<=8/\∃pre,ct' (kT' H5) xs pre/\(∀ys H6,au' H4 H6->ct' (kT' H6) ys (pre++r2 (lvs sp) b hh)->R ys H6)/\(pre++r2 (lvs sp) b hh).length<=272:=by
    rcases hi2 with rfl|rfl
    .cases hx
     refine⟨q0,0,h0,rfl,s5 _ _ e04,hB.b0,[],hA,fun ys H6 s6 h6=>hR _ _ ⟨s6,h6⟩,?_⟩
     rw[List.nil_append]
     unfold rk at hrk
     rw[au]at hrk
     omega
    .cases hx
     exact⟨q1,1,h1,rfl,s5 _ _ e14,hB.b1,r2 (lvs sp) 0 h0,hA,fun ys H6 s6 h6=>hR _ _ ⟨s6,h6⟩,hrk⟩
   refine dA' (C:=C) (SqT.of hqq) ?_
   simp only[nV]
   symm
   rw[au,ic']at hb
   have hap:=hpre.len
   refine xW' (by omega) (by omega) (by omega) (by omega) (DR' (n:=((hh:Int)+1-1).toNat) (fun j ys H6=>au' H4 H6/\ct' (kT' H6) ys (pre++r2 (lvs sp) b j)) ⟨s5,by simpa[r2]using hpre⟩ ?_ ?_)
   .rintro j ys H6 R2 hj ⟨s6,h6⟩ hR2
    have hjh:j<hh:=by omega
    have hjl:j*(lvs sp).length+(lvs sp).length<=hh*(lvs sp).length:=by
     have:=aH (lvs sp).length hjh
     rw[Nat.succ_mul]at this
     exact this
    symm
    refine aF' (SqL.of (s6 _ _ hpl4)) (C4' (vs:=(lvs sp).map nV) (fun m zs H7=>au' H4 H7/\ct' (kT' H7) zs (pre++r2 (lvs sp) b j++r1 ((lvs sp).take m) b (j+1))) ⟨s6,by simpa[r1]using h6⟩ (fun m zs H7 pv=>SqL.of (pv.1 _ _ hpl4)) ?_ ?_)
    .rintro m zs H7 x R3 hx ⟨s7,h7⟩ hR3
     rw[ao]at hx
     cases er:(lvs sp)[m]? with
     |none=>rw[er]at hx;cases hx
     |some lv=>
     rw[er]at hx
     cases hx
     have hm:=an' er
     have h7l:=h7.len
     rw[au,au,ic']at h7l
     unfold r1 at h7l
     rw[ac,aS]at h7l
     simp only[nV]
     symm
     refine⟨by show 3<=sizeLine;decide,fun q8 hq8=>?_⟩
     have t8:=ae' hq8 (.tup [.int b,.int (1+j),.int lv])
     have e8:upd H7 q8 (.tup [.int b,.int (1+j),.int lv]) q8=some (.tup [nV b,nV (j+1),nV lv]):=by
      rw[ac']
      show some (HO.tup [.int b,.int (1+(j:Int)),.int lv])=some (HO.tup [.int b,.int ((j+1:Nat):Int),.int lv])
      rw[show(1:Int)+j=((j+1:Nat):Int) by omega]
     generalize upd H7 q8 (.tup [.int b,.int (1+j),.int lv])=H8 at t8 e8 ⊢
     refine⟨al' (by omega),hR3 _ _ ⟨s7.trans t8,?_⟩⟩
     rw[show r1 ((lvs sp).take (m+1)) b (j+1)=r1 ((lvs sp).take m) b (j+1)++[(b,j+1,lv)] by unfold r1;rw[bN,er,ax];rfl,<- bQ]
     exact(ie' t8 h7).snoc ⟨q8,rfl,e8⟩
    .rintro zs H7 ⟨s7,h7⟩
     rw[ac,bp,bQ,<- i0']at h7
     exact hR2 _ _ ⟨s7,h7⟩
   .rintro ys H6 ⟨s6,h6⟩
    rw[show((hh:Int)+1-1).toNat=hh by omega]at h6
    exact hpost ys H6 s6 h6
  .rintro xs H5 ⟨s5,hA⟩ p9 hp9
   have s9:=ae' hp9 (.lst xs)
   exact q p9 xs _ (s1.trans (s4.trans (s5.trans s9))) ac' (ie' s9 hA)
 symm
 cases sp with
 |none=>
  simp only[oV]
  symm
  refine⟨by decide,fun pl hpl=>?_⟩
  exact aH' pl _ (ae' hpl _) ac'
 |some s=>
  have hs:=hB.bs s rfl
  simp only[oV]
  symm
  refine dB' fun pr hpr=>?_
  symm
  refine et' ac' (by omega) (by omega) (by omega) (by omega) (cC (al' (by omega))) fun pl hpl=>?_
  rw[show((s:Int)+1-0).toNat=s+1 by omega,rh']
  exact aH' pl _ ((ae' hpr _).trans (ae' hpl _)) ac'
theorem B5':∀b:Fin 2,∀p:Fin 9,∀l:Fin 17,reduceHash (Builtin.Tuple.tupleHashOf [hashInt (b.val:Int),hashInt (p.val:Int),hashInt (l.val:Int)])≠NH:=⋯
def kI (k:K3):List Int:=[(k.1:Int),(k.2.1:Int),(k.2.2:Int)]
def kK (k:K3):List Key:=(kI k).map Key.inl
theorem rl' {a b:K3} (h:kK a=kK b):a=b:=by
 obtain⟨a1,a2,a3⟩:=a
 obtain⟨b1,b2,b3⟩:=b
 unfold kK kI at h
 simp only[aN,List.map_nil,List.cons.injEq,Key.inl.injEq,and_true]at h
 obtain⟨h1,h2,h3⟩:=h
 rw[show a1=b1 by omega,show a2=b2 by omega,show a3=b3 by omega]
theorem yE' {k:K3}:(kK k).map L2.kV=[nV k.1,nV k.2.1,nV k.2.2]:=rfl
theorem nn' {ks:List K3} {i:Nat} {k:K3} (h:ks.Nodup) (hk:ks[i]?=some k):k∉ks.take i:=by
 intro hm
 have hi:=an' hk
 have e:ks=ks.take i++k :: ks.drop (i+1):=by
  have h1:=bJ i ks
  rw[List.drop_eq_getElem_cons hi]at h1
  rw[aa hi]at hk
  rw[Option.some.inj hk]at h1
  exact h1.symm
 rw[e,cP]at h
 exact h.2.2 k hm k aJ rfl
theorem if' {ks:List K3} {i:Nat} {k:K3} (hk:ks[i]?=some k):ks.take (i+1)=ks.take i++[k]:=by rw[bN,hk];rfl
def TbT (ks:List K3) (m:Nat) (a:KTL):Prop:=∀x∈a,∃(k:K3) (j:Nat),k∈ks/\x.1=kK k/\x.2.2=.int j/\j<m
theorem TbT.non {H:Hp} {p:Addr} {ks:List K3} {m:Nat} {a:KTL} (h:TbT ks m a) (hk:∀k∈ks,k.1<2/\k.2.1<9/\k.2.2<17) (hp:H p=some (.dT (plT a))):NoN H p:=.inr ⟨plT a,hp,fun kv hkv=>by
 obtain⟨x,hx,rfl⟩:=bi.mp hkv
 obtain⟨k,j,hks,e,_⟩:=h x hx
 obtain⟨h1,h2,h3⟩:=hk k hks
 exact⟨kI k,e,B5' ⟨k.1,h1⟩ ⟨k.2.1,h2⟩ ⟨k.2.2,h3⟩⟩⟩
end BD
namespace BE
open PySem PySem.Spec PyProof.Rows L2 R3 LW TM BD
def lvl (sp:Option Nat) (lv c:Nat):Int:=match sp with
 |none=>lv
 |some _=>(lv:Int)+if c=1 then 1 else -1
def bh (l0 l1:Nat) (sp:Option Nat) (k:K3) (c:Nat):Option (List Int):=
 if c=k.1 then some [(c:Int),(k.2.1:Int)+1,lvl sp k.2.2 c]else if k.2.1<(if k.1=1 then l1 else l0)then none else some [(c:Int),1,lvl sp k.2.2 c]
def no':Sp:=fun vs H Q _=>∃(bd rm:Addr) (l0 h0 l1 h1:Nat) (sp:Option Nat) (k:K3) (c:Nat),vs=[.ref bd,.ref rm,.int c]/\IsB H bd l0 h0 l1 h1 sp/\H rm=some (.tup [nV k.1,nV k.2.1,nV k.2.2])/\(bh l0 l1 sp k c=none->∀H',au' H H'->Q .non H')/\∀z,bh l0 l1 sp k c=some z->∀(p:Addr) (H':Hp),au' H H'->H' p=some (.tup (z.map V.int))->Q (.ref p) H'
theorem pX' {C:Rc} (hN:C.N.length=11):∀vs H Q E,no' vs H Q E->tSs C bq' { nx:=fun _ H'=>Q .non H',rt:=Q } (L2.ay' C.N vs) H:=by
 intro vs H Q E h
 obtain⟨bd,rm,l0,h0,l1,h1,sp,⟨b,pl,lv⟩,c,rfl,hB,hrm,q1,q2⟩:=h
 rw[aj' hN]
 unfold bq'
 symm
 rw[iP']
 symm
 refine ri' (C:=C) (SqT.of hB.at') ?_
 symm
 rw[iP']
 symm
 refine iR' (SqT.of hrm) ?_
 simp only[nV,fG',cx,cy]
 refine BQ' fun N hNx=>?_
 have aH':∀lev:Int,lvl sp lv c=lev->N [some (.ref bd),some (.ref rm),some (.int c),some (.int l0),some (.int h0),some (.int l1),some (.int h1),some (oV sp),some (.int b),some (.int pl),some (.int lev)] H:=by
  intro lev hlev
  refine hNx _ _ ?_
  have e:bh l0 l1 sp (b,pl,lv) c=if c=b then some [(c:Int),(pl:Int)+1,lev]else if pl<(if b=1 then l1 else l0)then none else some [(c:Int),1,lev]:=by
   unfold bh
   rw[<- hlev]
  symm
  refine bB' (fun hq=>?_) fun hq=>?_
  .have hq:c=b:=by omega
   symm
   refine⟨by show 3<=sizeLine;decide,fun p hp=>?_⟩
   exact q2 _ (by rw[e,if_pos hq]) p _ (ae' hp _) ac'
  have hq:¬c=b:=by omega
  symm
  refine bB' (fun hb=>?_) fun hb=>?_
  .have hb:b=1:=by omega
   symm
   refine bB' (fun hq2=>?_) fun hq2=>?_
   .symm
    exact q1 (by rw[e,if_neg hq,if_pos hb,if_pos (by omega)]) _ (au'.refl _)
   .symm
    refine⟨by show 3<=sizeLine;decide,fun p hp=>?_⟩
    exact q2 _ (by rw[e,if_neg hq,if_pos hb,if_neg (by omega)]) p _ (ae' hp _) ac'
  .have hb:¬b=1:=by omega
   symm
   refine bB' (fun hq2=>?_) fun hq2=>?_
   .symm
    exact q1 (by rw[e,if_neg hq,if_neg hb,if_pos (by omega)]) _ (au'.refl _)
   .symm
    refine⟨by show 3<=sizeLine;decide,fun p hp=>?_⟩
    exact q2 _ (by rw[e,if_neg hq,if_neg hb,if_neg (by omega)]) p _ (ae' hp _) ac'
 cases sp with
 |none=>
  simp only[oV]
  symm
  exact aH' _ rfl
 |some s=>
  simp only[oV]
  symm
  rw[BD' (a:=(lv:Int)) rfl]
  symm
  refine bB' (fun hq=>?_) fun hq=>?_
  .symm
   exact aH' _ (by show(lv:Int)+(if c=1 then 1 else -1)=_;(rw[if_pos (by omega)]<;>rfl))
  .symm
   exact aH' _ (by show(lv:Int)+(if c=1 then 1 else -1)=_;(rw[if_neg (by omega)]<;>rfl))
def ixK (ks:List K3) (z:Option (List Int)):Option Nat:=match z with
 |none=>none
 |some z=>ks.findIdx? fun k=>decide (BD.kI k=z)
def plN (ks:List K3) (m:Nat):List (List Key×V):=(ah m).map fun i:Nat=>(kK (ks[i]?.getD (0,0,0)),V.int i)
theorem pY' {ks:List K3} {m:Nat} {k:K3} (h:ks[m]?=some k):plN ks (m+1)=plN ks m++[(kK k,V.int m)]:=by
 unfold plN
 rw[bx,ax]
 simp[h]
theorem tZ' {ks:List K3} {z:List Int} (h:∀k∈ks,BD.kI k≠z):ixK ks (some z)=none:=by
 show ks.findIdx? _=none
 rw[List.findIdx?_eq_none_iff]
 intro k hk
 exact decide_eq_false (h k hk)
theorem t0' {ks:List K3} {z:List Int} {i:Nat} {k:K3} (hn:ks.Nodup) (hk:ks[i]?=some k) (hz:BD.kI k=z):ixK ks (some z)=some i:=by
 show ks.findIdx? _=some i
 have hi:=an' hk
 rw[List.findIdx?_eq_some_iff_getElem]
 refine⟨hi,?_,fun j hj=>?_⟩
 .rw[aa hi]at hk
  rw[Option.some.inj hk]
  exact decide_eq_true hz
 .have hjl:j<ks.length:=by omega
  intro hd
  have hd:=of_decide_eq_true hd
  have e:kK ks[j]=kK k:=by unfold kK;rw[hd,hz]
  have e2:=rl' e
  have h1:ks[j]?=some k:=by rw[aa hjl,e2]
  have:=nn' hn hk
  exact this (aD (l:=ks.take i) (i:=j) (by rw[List.getElem?_take,if_pos hj];exact h1))
theorem np':∀{a b:List Int},(a.map Key.inl:List Key)=b.map Key.inl->a=b
 | [],[],_=>rfl
 | [],_ :: _,h=>by cases h
 |_ :: _,[],h=>by cases h
 |x :: a,y :: b,h=>by
  rw[aN,aN]at h
  injection h with h1 h2
  injection h1 with h1
  rw[h1,np' h2]
theorem t1' {ks:List K3} (hn:ks.Nodup) (z:List Int):(e9' (plN ks ks.length) (z.map Key.inl)).getD .non=oV (ixK ks (some z)):=by
 have e0:e9' (plN ks ks.length) (z.map Key.inl)=((ah ks.length).find? fun i=>decide (kK (ks[i]?.getD (0,0,0))=z.map Key.inl)).map fun i:Nat=>V.int (i:Int):=by
  unfold e9' plN
  rw[List.find?_map,Option.map_map]
  rfl
 rw[e0]
 cases e:(ah ks.length).find? fun i=>decide (kK (ks[i]?.getD (0,0,0))=z.map Key.inl)with
 |none=>
  rw[List.find?_eq_none]at e
  rw[tZ' fun k hk hz=>?_]
  .rfl
  .obtain⟨i,hi⟩:=bn hk
   refine e i (aB.mpr (an' hi)) (decide_eq_true ?_)
   rw[hi]
   show(BD.kI k).map Key.inl=_
   rw[hz]
 |some i=>
  have h0:=List.find?_some e
  have h1:=of_decide_eq_true h0
  have h2:=aB.mp (List.mem_of_find?_eq_some e)
  have h3:ks[i]?=some ks[i]:=aa h2
  rw[h3]at h1
  rw[t0' hn h3 (np' h1)]
  rfl
def mx (l0 l1:Nat) (sp:Option Nat) (ks:List K3) (k:K3):Rm:=(ixK ks (bh l0 l1 sp k 0),ixK ks (bh l0 l1 sp k 1))
def ig':Sp:=fun vs H Q _=>∃(bd l:Addr) (l0 h0 l1 h1:Nat) (sp:Option Nat) (xs:List V),vs=[.ref bd,.ref l]/\IsB H bd l0 h0 l1 h1 sp/\H l=some (.lst xs)/\ct' (kT' H) xs (rk (lvs sp) h0 h1)/\∀(p:Addr) (H':Hp),au' H H'->IsM H' p ((rk (lvs sp) h0 h1).map (mx l0 l1 sp (rk (lvs sp) h0 h1)))->Q (.ref p) H'
theorem nq' {C:Rc} (hN:C.N.length=5) (hR:C.fs "room_behind"=some no'):∀vs H Q E,ig' vs H Q E->tSs C aL' { nx:=fun _ H'=>Q .non H',rt:=Q } (L2.ay' C.N vs) H:=by
 intro vs H Q E h
 obtain⟨bd,l,l0,h0,l1,h1,sp,xs,rfl,hB,hl,hA,q⟩:=h
 rw[aj' hN]
 unfold aL'
 obtain⟨hrl,hrb⟩:=tY' hB.bs hB.b0 hB.b1 (h0:=h0) (h1:=h1)
 have hnd:=B4' (yD' (sp:=sp)) (h0:=h0) (h1:=h1)
 generalize hks:rk (lvs sp) h0 h1=ks at hA q hrl hrb hnd
 have hxl:=hA.len
 symm
 refine jA' (SqL.of hl) (C6' (vs:=xs) (fun i b H'=>i<=ks.length/\plT b=plN ks i/\TbT (ks.take i) ks.length b/\okT b H'/\b.length=i/\au' H H') ⟨aK _,rfl,fun x h=>absurd h aA,fun x h=>absurd h aA,rfl,au'.refl _⟩ (fun i b H' pv=>SqL.of (pv.2.2.2.2.2 _ _ hl)) ?_ ?_)
 .rintro i b H1 x p R hx hp ⟨_,hpl,hb,hok,hbl,s1⟩ hR'
  obtain⟨k,hk,pk,rfl,hpk⟩:=hA.getL hx
  have hi:=an' hk
  refine dA' (SqT.of ac') ?_
  have t2:=ae' hp (.tup [.int i,.ref pk])
  have s2:=s1.trans t2
  generalize upd H1 p (.tup [.int i,.ref pk])=H2 at t2 s2 ⊢
  have ok2:okT b H2:=fun y hy=>t2 _ _ (hok y hy)
  symm
  refine⟨kK k,pk,rfl,by rw[yE'];exact s2 _ _ hpk,ok2,fun y hy e=>?_,al' (by omega),hR' _ _ ⟨hi,?_,fun y hy=>?_,fun y hy=>?_,by simp[hbl],s2⟩⟩
  .obtain⟨k',j,hk',e',_⟩:=hb y hy
   have ek:k'=k:=rl' (e'.symm.trans e)
   subst ek
   exact nn' hnd hk hk'
  .rw[pY' hk,<- hpl]
   unfold plT
   rw[ax]
   rfl
  .rw[if' hk]
   rcases aG.mp hy with hy|hy
   .obtain⟨k',j,hk',e'⟩:=hb y hy
    exact⟨k',j,aT _ hk',e'⟩
   .have:y=(kK k,pk,V.int i):=by simpa using hy
    subst this
    exact⟨k,i,al _ (aX.mpr rfl),rfl,rfl,hi⟩
  .rcases aG.mp hy with hy|hy
   .exact ok2 y hy
   .have:y=(kK k,pk,V.int i):=by simpa using hy
    subst this
    show H2 pk=some (.tup ((kK k).map L2.kV))
    rw[yE']
    exact s2 _ _ hpk
 .rintro a H1 ⟨_,hpl,hb,hok,hal,s1⟩
  rw[hxl,bp]at hb
  rw[hxl]at hpl
  refine⟨hok,fun p hp=>?_⟩
  have s2:=s1.trans (ae' hp (.dT (plT a)))
  have hp2:upd H1 p (.dT (plT a)) p=some (.dT (plT a)):=ac'
  generalize upd H1 p (.dT (plT a))=H2 at s2 hp2 ⊢
  have get0:∀{H3:Hp} {Q':VK},au' H2 H3->Q' (oV (ixK ks none)) H3->iU' p Q' .non H3:=fun s3 q'=>m5' (hb.non hrb (s3 _ _ hp2)) q'
  have get1:∀{H3:Hp} {Q':VK} {pz:Addr} {z:List Int},au' H2 H3->H3 pz=some (.tup (z.map V.int))->Q' (oV (ixK ks (some z))) H3->iU' p Q' (.ref pz) H3:=by
   intro H3 Q' pz z s3 hz q'
   refine m4' (f5'.t (k:=z.map Key.inl) (s3 _ _ hp2) (by rw[hz,ci];rfl)) ?_
   rw[hpl,t1' hnd]
   exact q'
  symm
  refine aF' (SqL.of (s2 _ _ hl)) (eq' (vs:=xs) (fun i ys H'=>i<=ks.length/\cZ' H' ys ((ks.take i).map (mx l0 l1 sp ks))/\au' H2 H') ⟨aK _,trivial,au'.refl _⟩ (fun i ys H' pv=>SqL.of (pv.2.2 _ _ (s2 _ _ hl))) ?_ ?_)
  .rintro i ys H3 x R hx ⟨_,hR',s3⟩ hRR
   obtain⟨k,hk,pk,rfl,hpk⟩:=hA.getL hx
   have hi:=an' hk
   have s23:=s2.trans s3
   symm
   refine gH' (.inr ⟨plT a,.inl (s3 _ _ hp2)⟩) ?_
   refine ag' hR ?_
   symm
   have half:∀(H4:Hp),au' H3 H4->kA1 C (List.set (clr [4] [some (.ref bd),some (.ref l),some (.ref p),none,none]) 4 (some (.ref pk))) (.cons (.dgt (.var 2) (.call "room_behind" (.cons (.var 0) (.cons (.var 4) (.cons (.int 1) .nil))))) .nil) (xp' (gF' ys R)) (oV (ixK ks (bh l0 l1 sp k 0))) H4:=by
    intro H4 s34
    have s4:=s3.trans s34
    symm
    refine gH' (.inr ⟨plT a,.inl (s4 _ _ hp2)⟩) ?_
    refine ag' hR ?_
    symm
    have second:∀(H5:Hp),au' H4 H5->kA1 C (List.set (clr [4] [some (.ref bd),some (.ref l),some (.ref p),none,none]) 4 (some (.ref pk))) .nil (kA2 (oV (ixK ks (bh l0 l1 sp k 0))) (xp' (gF' ys R))) (oV (ixK ks (bh l0 l1 sp k 1))) H5:=by
     intro H5 s45
     symm
     refine⟨by show 2<=sizeLine;decide,fun p6 hp6=>?_⟩
     have s6:=ae' hp6 (.tup [oV (ixK ks (bh l0 l1 sp k 0)),oV (ixK ks (bh l0 l1 sp k 1))])
     have h6:upd H5 p6 (.tup [oV (ixK ks (bh l0 l1 sp k 0)),oV (ixK ks (bh l0 l1 sp k 1))]) p6=some (.tup [oV (ixK ks (bh l0 l1 sp k 0)),oV (ixK ks (bh l0 l1 sp k 1))]):=ac'
     generalize upd H5 p6 (.tup [oV (ixK ks (bh l0 l1 sp k 0)),oV (ixK ks (bh l0 l1 sp k 1))])=H6 at s6 h6 ⊢
     have hyl:=hR'.len
     rw[ac,aS]at hyl
     refine⟨al' (by omega),hRR _ _ ⟨hi,?_,(s4.trans s45).trans s6⟩⟩
     rw[if' hk,ax]
     exact(hR'.mono (ap' (s34.trans (s45.trans s6)))).snoc ⟨p6,rfl,h6⟩
    refine⟨bd,pk,l0,h0,l1,h1,sp,k,1,rfl,hB.mono (ap' (s2.trans s4)),(s2.trans s4) _ _ hpk,fun e H5 s45=>get0 (s4.trans s45) (by rw[<- e];exact second H5 s45),fun z e pz H5 s45 hz=>get1 (s4.trans s45) hz (by rw[<- e];exact second H5 s45)⟩
   refine⟨bd,pk,l0,h0,l1,h1,sp,k,0,rfl,hB.mono (ap' s23),s23 _ _ hpk,fun e H4 s34=>get0 (s3.trans s34) (by rw[<- e];exact half H4 s34),fun z e pz H4 s34 hz=>get1 (s3.trans s34) hz (by rw[<- e];exact half H4 s34)⟩
  .rintro ys H3 ⟨_,hR',s3⟩ p5 hp5
   rw[hxl,bp]at hR'
   symm
   have h5:upd H3 p5 (.lst ys) p5=some (.lst ys):=ac'
   have s5:=ae' hp5 (.lst ys)
   generalize upd H3 p5 (.lst ys)=H5 at h5 s5 ⊢
   refine iO' (SqL.of h5) fun p6 hp6=>?_
   have s6:=ae' hp6 (.tup ys)
   exact q p6 _ (s2.trans (s3.trans (s5.trans s6))) ⟨ys,ac',hR'.mono (ap' (s5.trans s6))⟩
def Sus (M:List Rm) (S:List Nat):Prop:=∀r∈S,r<M.length/\(∃r'∈S,fs1 M r'=some r\/fs2 M r'=some r)/\∃r'∈S,fs1 M r=some r'\/fs2 M r=some r'
theorem jM' {M:List Rm} {S rs:List Nat} (h:Sus M S) (hs:∀r∈S,r∈rs):∀r∈S,r∈lst M rs:=by
 intro r hr
 obtain⟨_,⟨r1,hr1,e1⟩,⟨r2,hr2,e2⟩⟩:=h r hr
 refine List.mem_filter.mpr ⟨hs r hr,?_⟩
 unfold ey'
 rw[af]
 constructor
 .unfold ldS
  rw[bU]
  refine⟨r1,hs r1 hr1,?_⟩
  rw[bT]
  rcases e1 with e|e
  .left;rw[e];exact decide_eq_true rfl
  .right;rw[e];exact decide_eq_true rfl
 .rw[bT]
  rcases e2 with e|e
  .left;rw[e];exact cZ.mpr (hs r2 hr2)
  .right;rw[e];exact cZ.mpr (hs r2 hr2)
end BE
namespace K31
open PySem PySem.Spec PyProof.Rows L2 R3 LW
def b5':Css:=(.cons (.asg (.name 3) (.blt .list (.cons (.var 1) .nil)))
  (.cons (.for_ (.name 4) (.range1 (.var 2)) (.cons (.asg (.name 3) (.call "way_sums" (.cons (.var 0) (.cons (.var 3) .nil))))
  .nil))
  (.cons (.ret (.var 3))
  .nil)))
def b6':Css:=(.cons (.ret (.blt .all (.cons (.comp (.cmp .LtE (.met .bitlen (.var 2) .nil) (.var 1)) [2] (.name 2) (.val (.var 0)) .none .nil) .nil)))
  .nil)
def bK':Css:=(.cons (.asg (.name 4) (.comp (.int 1) [5] (.name 5) (.val (.var 0)) .none .nil))
  (.cons (.for_ (.name 6) (.range2 (.int 1) (.bin .Add (.var 3) (.int 1))) (.cons (.asg (.name 4) (.call "walk_sums" (.cons (.var 0) (.cons (.var 4) (.cons (.var 2) .nil)))))
  (.cons (.ite (.val (.call "are_below" (.cons (.var 4) (.cons (.bin .Mult (.var 1) (.var 6)) .nil)))) (.cons (.ret (.tup (.cons (.var 6) (.cons (.var 4) .nil))))
  .nil) .nil)
  .nil)))
  (.cons (.ret .non)
  .nil)))
def gK':Css:=(.cons (.asg (.name 1) (.bin .Add (.int 1) (.idx (.lst (.cons (.int 0) (.cons (.int 0) (.cons (.int 1) (.cons (.int 2) (.cons (.int 3) .nil)))))) (.call "_law_take" (.cons (.var 0) (.cons (.int 5) .nil))))))
  (.cons (.ret (.tup (.cons (.var 1) (.cons (.blt .min (.cons (.int 8) (.cons (.bin .Add (.var 1) (.idx (.lst (.cons (.int 0) (.cons (.int 1) (.cons (.int 1) (.cons (.int 2) (.cons (.int 2) (.cons (.int 3) (.cons (.int 4) .nil)))))))) (.call "_law_take" (.cons (.var 0) (.cons (.int 7) .nil))))) .nil))) .nil))))
  .nil))
open SR CK RW TM BD BE
def wN (M:List Rm) (n:Nat):List Nat:=(ah M.length).map (wy M none n)
theorem yF' {M:List Rm} {n:Nat}:(wN M n).length=M.length:=by unfold wN;simp
theorem wN0 {M:List Rm}:wN M 0=az M.length 1:=by
 apply bX
 intro i
 unfold wN
 rw[ao]
 by_cases h:i<M.length
 .rw[aY h,List.getElem?_replicate,if_pos h]
  rfl
 .rw[bj (by simpa using h),List.getElem?_replicate,if_neg h]
  rfl
def rm':Sp:=fun vs H Q _=>∃(a b:Addr) (M:List Rm) (n q:Nat),vs=[.ref a,.ref b,.int q]/\IsM H a M/\OkM M/\M.length<=500/\q<=900/\H b=some (.lst ((wN M n).map nV))/\∀p H',H p=none->au' H H'->H' p=some (.lst ((wN M (n+q)).map nV))->Q (.ref p) H'
def bel (b:Nat) (ns:List Nat):Bool:=ns.all fun c=>decide (c<2 ^ b)
theorem t2' {c p:Nat}:decide (((Builtin.Int.intBits (c:Int):Nat):Int)<=(p:Int))=decide (c<2 ^ p):=by
 unfold Builtin.Int.intBits
 rw[cV]
 by_cases hc:c=0
 .subst hc
  have:=Nat.two_pow_pos p
  simp[this]
 .rw[if_neg (by simpa using hc)]
  apply decide_eq_decide.mpr
  rw[<- Nat.log2_lt hc]
  omega
def d4':Sp:=fun vs H Q _=>∃(c:Addr) (ns:List Nat) (b:Nat),vs=[.ref c,.int b]/\Lt H c (ns.map nV)/\ns.length<=900/\∀H',au' H H'->Q (.bl (bel b ns)) H'
theorem kC' {C:Rc} (hN:C.N.length=3):∀vs H Q E,d4' vs H Q E->tSs C b6' { nx:=fun _ H'=>Q .non H',rt:=Q } (L2.ay' C.N vs) H:=by
 intro vs H Q E h
 obtain⟨c,ns,b,rfl,hc,hl,q⟩:=h
 rw[aj' hN]
 unfold b6'
 symm
 refine tS' hc (fun i xs H'=>i<=ns.length/\xs=((ns.take i).map fun c=>decide (c<2 ^ b)).map V.bl/\H'=H) ⟨aK _,rfl,rfl⟩ (fun i xs H' pv=>by rw[pv.2.2];exact au'.refl _) ?_ ?_
 .rintro i xs H' x R hx ⟨_,rfl,rfl⟩ hR
  rw[ao]at hx
  obtain⟨n,hn,rfl⟩:=cH.mp hx
  have hi:=an' hn
  simp only[nV]
  symm
  refine⟨rfl,?_⟩
  symm
  rw[t2']
  refine⟨by rw[ac,ac,aS];exact al' (by omega),hR _ _ ⟨hi,?_,rfl⟩⟩
  rw[bN,hn,ax,ax]
  rfl
 .rintro xs H' ⟨_,rfl,rfl⟩ p hp
  symm
  refine fJ' (SqL.of ac') ?_
  rw[ac,bp,show(ns.map fun c=>decide (c<2 ^ b)).all id=bel b ns by unfold bel;rw[List.all_map];rfl]
  exact q _ (ae' hp _)
def okm (M:List Rm) (p q m:Nat):Bool:=bel (p*m) (wN M (q*m))
def Hit (M:List Rm) (p q most:Nat) (o:Option Nat):Prop:=(o=none/\∀j,j<most->okm M p q (j+1)=false)\/∃i,i<most/\o=some (i+1)/\okm M p q (i+1)=true/\∀j,j<i->okm M p q (j+1)=false
def Res (H0 H:Hp) (M:List Rm) (q:Nat) (v:V):Option Nat->Prop
 |none=>v=.non
 |some m=>∃t c,v=.ref t/\H t=some (.tup [.int m,.ref c])/\H0 c=none/\H c=some (.lst ((wN M (q*m)).map nV))
def u6':Sp:=fun vs H Q _=>∃(a:Addr) (M:List Rm) (p q most:Nat),vs=[.ref a,.int p,.int q,.int most]/\IsM H a M/\OkM M/\M.length<=100/\p<=8/\q<=8/\most<=100/\∀v o H',au' H H'->Hit M p q most o->Res H H' M q v o->Q v H'
theorem t3' {M:List Rm} {i:Nat}:(az i 1:List Nat).map nV++[V.int 1]=(az (i+1) 1).map nV:=by
 rw[cB,ax]
 rfl
def yG':Sp:=fun vs H Q _=>∃(a c:Addr) (M:List Rm) (p q m:Nat) (ns:List Nat),vs=[.ref a,.int p,.int q,.int m,.ref c]/\IsM H a M/\OkM M/\M.length<=60/\p<=8/\q<=8/\1<=m/\m<=100/\Lt H c (ns.map nV)/\ns.length<=60/\∀H',au' H H'->Q (.bl (decide (ns=wN M (q*m))&&bel (p*m) ns)) H'
def fM':Sp:=fun vs H Q _=>∃(b:Addr) (n:Nat),vs=[.ref b]/\H b=some (dL' b n)/\n<=2 ^ 38/\∀(t:Addr) (p q:Nat) H',Go 2 H H'->1<=p->p<=4->1<=q->q<=8->p<=q->H' t=some (.tup [.int p,.int q])->Q (.ref t) H'
theorem kD' {C:Rc} (hN:C.N.length=2) (hT:C.fs "_law_take"=some aI'):∀vs H Q E,fM' vs H Q E->tSs C gK' { nx:=fun _ H'=>Q .non H',rt:=Q } (L2.ay' C.N vs) H:=by
 intro vs H Q E h
 obtain⟨b,n,rfl,hb,hn,q⟩:=h
 rw[aj' hN]
 unfold gK'
 symm
 refine⟨by decide,fun l1 hl1=>?_⟩
 have g1:Go 0 H (upd H l1 (.lst [.int 0,.int 0,.int 1,.int 2,.int 3])):=Go.new hl1 _
 have hl1':upd H l1 (.lst [.int 0,.int 0,.int 1,.int 2,.int 3]) l1=some (.lst [.int 0,.int 0,.int 1,.int 2,.int 3]):=ac'
 generalize upd H l1 (.lst [.int 0,.int 0,.int 1,.int 2,.int 3])=H1 at g1 hl1' ⊢
 refine ag' hT ?_
 symm
 refine bZ' hb g1 (by omega) (by decide) (by decide) fun x0 H2 hx0 hx1 g2 g02=>?_
 obtain⟨x,rfl⟩:=aL hx0
 obtain⟨y,ey,hy⟩:∃y:Nat,atI [V.int 0,.int 0,.int 1,.int 2,.int 3] (x:Int)=some (.int y)/\y<=3:=by
  match x,hx1 with
  |0,_=>exact⟨0,rfl,by omega⟩
  |1,_=>exact⟨0,rfl,by omega⟩
  |2,_=>exact⟨1,rfl,by omega⟩
  |3,_=>exact⟨2,rfl,by omega⟩
  |4,_=>exact⟨3,rfl,by omega⟩
  |x+5,h=>omega
 symm
 refine a3' (SqL.of (g2.lst hl1')) ey ?_
 symm
 refine⟨by decide,fun l2 hl2=>?_⟩
 have g3:Go 1 H (upd H2 l2 (.lst [.int 0,.int 1,.int 1,.int 2,.int 2,.int 3,.int 4])):=(g02.trans (Go.new (c:=0) hl2 _)).mono (by omega)
 have hl3':upd H2 l2 (.lst [.int 0,.int 1,.int 1,.int 2,.int 2,.int 3,.int 4]) l2=some (.lst [.int 0,.int 1,.int 1,.int 2,.int 2,.int 3,.int 4]):=ac'
 generalize upd H2 l2 (.lst [.int 0,.int 1,.int 1,.int 2,.int 2,.int 3,.int 4])=H3 at g3 hl3' ⊢
 refine ag' hT ?_
 symm
 refine bZ' hb g3 (by omega) (by decide) (by decide) fun z0 H4 hz0 hz1 g4 g04=>?_
 obtain⟨z,rfl⟩:=aL hz0
 obtain⟨w,ew,hw⟩:∃w:Nat,atI [V.int 0,.int 1,.int 1,.int 2,.int 2,.int 3,.int 4] (z:Int)=some (.int w)/\w<=4:=by
  match z,hz1 with
  |0,_=>exact⟨0,rfl,by omega⟩
  |1,_=>exact⟨1,rfl,by omega⟩
  |2,_=>exact⟨1,rfl,by omega⟩
  |3,_=>exact⟨2,rfl,by omega⟩
  |4,_=>exact⟨2,rfl,by omega⟩
  |5,_=>exact⟨3,rfl,by omega⟩
  |6,_=>exact⟨4,rfl,by omega⟩
  |z+7,h=>omega
 symm
 refine a3' (SqL.of (g4.lst hl3')) ew ?_
 symm
 obtain⟨r,er,hr1,hr8,hyr⟩:∃r:Nat,(if(1+(y:Int)+(w:Int))<8 then(1+(y:Int)+(w:Int))else 8)=(r:Int)/\1<=r/\r<=8/\1+y<=r:=by
  split
  .exact⟨1+y+w,by omega,by omega,by omega,by omega⟩
  .exact⟨8,rfl,by omega,by omega,by omega⟩
 rw[er]
 refine⟨by decide,fun t ht=>?_⟩
 rw[show(1:Int)+(y:Int)=((1+y:Nat):Int) by omega]
 exact q t (1+y) r _ ((g04.trans (Go.new (c:=0) ht _)).mono (by omega)) (by omega) (by omega) hr1 hr8 hyr ac'
def gL':Sp:=fun vs H Q _=>∃(b:Addr) (n:Nat),vs=[.ref b]/\H b=some (dL' b n)/\n<=2 ^ 37/\∀(t a:Addr) (M:List Rm) (p q:Nat) (H':Hp),Go 1100 H H'->H' t=some (.tup [.ref a,.int p,.int q])->IsM H' a M->OkM M->1<=M.length->M.length<=12->1<=p->p<=4->1<=q->q<=8->p<=q->Q (.ref t) H'
def yH':Sp:=fun vs H Q _=>∃(a:Addr) (M:List Rm) (p q most:Nat),vs=[.ref a,.int p,.int q,.int most]/\IsM H a M/\OkM M/\1<=M.length/\M.length<=100/\p<=8/\q<=8/\most<=100/\∀v o H',au' H H'->Hit M p q most o->Res H H' M q v o->Q v H'
structure FsRight (C:Rc):Prop where
 take:C.fs "_law_take"=some aI'
 asked:C.fs "_law_asked"=some gL'
 due:C.fs "_law_due"=some yH'
 tl:C.fs "too_little"=some u6'
 same:C.fs "_law_same"=some (m9' 2)
 shows:C.fs "shows_too_little"=some yG'
end K31
namespace K30
open PySem PySem.Spec PyProof.Rows L2 R3 LW
def bL':Css:=(.cons (.asg (.name 3) (.lst (.cons (.tup (.cons (.str "") (.cons (.var 1) .nil))) .nil)))
  (.cons (.for_ (.name 4) (.range1 (.var 2)) (.cons (.asg (.name 3) (.comp (.tup (.cons (.bin .Add (.var 5) (.var 7)) (.cons (.idx (.idx (.var 0) (.var 6)) (.blt .int (.cons (.var 7) .nil))) .nil))) [5,6,7] (.tup (.cons (.name 5) (.cons (.name 6) .nil))) (.val (.var 3)) .none (.cons [7] (.name 7) (.val (.str "01")) (.some (.cmp .IsNot (.idx (.idx (.var 0) (.var 6)) (.blt .int (.cons (.var 7) .nil))) .non)) .nil)))
  .nil))
  (.cons (.ret (.var 3))
  .nil)))
def c6':Css:=(.cons (.ret (.comp (.call "walks_from" (.cons (.var 0) (.cons (.var 2) (.cons (.var 1) .nil)))) [2] (.name 2) (.range1 (.blt .len (.cons (.var 0) .nil))) .none .nil))
  .nil)
def cC':Css:=(.cons (.asg (.name 2) (.comp (.lst .nil) [3] (.name 3) (.val (.var 0)) .none .nil))
  (.cons (.for_ (.tup (.cons (.name 3) (.cons (.name 4) .nil))) (.enum (.call "powered" (.cons (.var 0) (.cons (.var 1) .nil)))) (.cons (.for_ (.tup (.cons (.name 5) (.cons (.name 6) .nil))) (.val (.var 4)) (.cons (.expr (.met .append (.idx (.var 2) (.var 6)) (.cons (.var 3) .nil)))
  .nil))
  .nil))
  (.cons (.ret (.var 2))
  .nil)))
def aT':Css:=(.cons (.asg (.name 4) (.blt .list (.cons (.var 3) .nil)))
  (.cons (.asg (.name 5) (.call "walk_sums" (.cons (.var 0) (.cons (.var 4) (.cons (.var 2) .nil)))))
  (.cons (.asg (.name 6) (.call "walks_to" (.cons (.var 0) (.cons (.var 2) .nil))))
  (.cons (.asg (.name 7) (.blt .list (.cons (.blt .range (.cons (.blt .len (.cons (.var 0) .nil)) .nil)) .nil)))
  (.cons (.whl (.val (.var 7)) (.cons (.asg (.name 8) (.met .popL (.var 7) .nil))
  (.cons (.asg (.name 9) (.bin .Sub (.idx (.var 4) (.var 8)) (.bin .RShift (.idx (.var 5) (.var 8)) (.var 1))))
  (.cons (.ite (.cmp .Gt (.var 9) (.int 0)) (.cons (.augS (.var 4) (.var 8) true (.var 9))
  (.cons (.for_ (.name 10) (.val (.idx (.var 6) (.var 8))) (.cons (.augS (.var 5) (.var 10) true (.var 9))
  .nil))
  (.cons (.expr (.met .extend (.var 7) (.cons (.idx (.var 6) (.var 8)) .nil)))
  .nil))) .nil)
  .nil))))
  (.cons (.ret (.var 4))
  .nil))))))
def dP':Css:=(.cons (.asg (.name 4) (.call "greatest_within" (.cons (.var 0) (.cons (.var 1) (.cons (.var 2) (.cons (.comp (.var 3) [5] (.name 5) (.val (.var 0)) .none .nil) .nil))))))
  (.cons (.ret (.ife (.val (.blt .anyI (.cons (.var 4) .nil))) (.var 4) .non))
  .nil))
open SR CK RW TM BD BE K31
def dr (M:List Rm) (r:Nat):List Nat:=(LW.stp M r false).toList++(LW.stp M r true).toList
def en (M:List Rm):Nat->Nat->List Nat
 |0,r=>[r]
 |n+1,r=>(en M n r).flatMap (dr M)
def ss (M:List Rm) (n:Nat) (w:Nat->Nat) (r:Nat):Nat:=((en M n r).map w).sum
def st1 (M:List Rm) (w:Nat->Nat) (r:Nat):Nat:=ow w (LW.stp M r false)+ow w (LW.stp M r true)
theorem rn' {w:Nat->Nat} {o:Option Nat}:ow w o=(o.toList.map w).sum:=by cases o<;>simp[ow]
theorem yI' {M:List Rm} {w:Nat->Nat} {r:Nat}:st1 M w r=((dr M r).map w).sum:=by
 unfold st1 dr
 rw[ax,List.sum_append,rn',rn']
theorem jN' (f:Nat->List Nat) (w:Nat->Nat):∀l:List Nat,((l.flatMap f).map w).sum=(l.map fun e=>((f e).map w).sum).sum
 | []=>rfl
 |x :: l=>by rw[List.flatMap_cons,ax,List.sum_append,aN,cR,jN' f w l]
theorem t4' {M:List Rm} {n:Nat} {w:Nat->Nat} {r:Nat}:ss M (n+1) w r=ss M n (st1 M w) r:=by
 unfold ss
 rw[show en M (n+1) r=(en M n r).flatMap (dr M) from rfl,jN']
 congr 1
 exact bL fun e _=>yI'.symm
def it (M:List Rm) (w:Nat->Nat):Nat->Nat->Nat
 |0=>w
 |n+1=>st1 M (it M w n)
theorem nr' {M:List Rm}:∀{n:Nat} {w:Nat->Nat},it M w (n+1)=it M (st1 M w) n
 |0,w=>rfl
 |n+1,w=>by
  show st1 M (it M w (n+1))=st1 M (it M (st1 M w) n)
  rw[nr']
theorem gM' {M:List Rm}:∀{n:Nat} {w:Nat->Nat} {r:Nat},it M w n r=ss M n w r
 |0,w,r=>by unfold ss en;simp[it]
 |n+1,w,r=>by rw[nr',gM',t4']
theorem B6' {M:List Rm} (hO:OkM M) {r e:Nat} (h:e∈dr M r):e<M.length:=by
 unfold dr at h
 rcases aG.mp h with h|h
 .exact LW.ds' hO (Option.mem_toList.mp h)
 .exact LW.ds' hO (Option.mem_toList.mp h)
theorem ro' {M:List Rm} {r:Nat}:(dr M r).length<=2:=by
 unfold dr
 cases LW.stp M r false<;>cases LW.stp M r true<;>simp
theorem t5' {M:List Rm} (hO:OkM M):∀{n r e:Nat},r<M.length->e∈en M n r->e<M.length
 |0,r,e,hr,h=>by
  rw[aX.mp h]
  exact hr
 |n+1,r,e,hr,h=>by
  obtain⟨x,_,hx⟩:=List.mem_flatMap.mp h
  exact B6' hO hx
theorem ff' {f:Nat->List Nat} {k:Nat} (h:∀e,(f e).length<=k):∀l:List Nat,(l.flatMap f).length<=l.length*k
 | []=>aK _
 |x :: l=>by
  rw[List.flatMap_cons,au,bg,Nat.succ_mul]
  have:=h x
  have:=ff' h l
  omega
theorem rp' {M:List Rm} {r:Nat}:∀{n:Nat},(en M n r).length<=2 ^ n
 |0=>ak _
 |n+1=>by
  have h1:=ff' (f:=dr M) (k:=2) (fun _=>ro') (en M n r)
  have h2:=rp' (M:=M) (r:=r) (n:=n)
  show((en M n r).flatMap (dr M)).length<=_
  rw[bK]
  exact aq h1 (aH 2 h2)
theorem rq':∀{l:List Nat} {u w:Nat->Nat},(∀e∈l,u e<=w e)->(l.map u).sum<=(l.map w).sum
 | [],_,_,_=>ak _
 |x :: l,u,w,h=>by
  rw[aN,aN,cR,cR]
  have:=h x (by simp)
  have:=rq' (l:=l) (u:=u) (w:=w) fun e he=>h e (by simp[he])
  omega
theorem t6' {M:List Rm} (hO:OkM M) {n r:Nat} {u w:Nat->Nat} (hr:r<M.length) (h:∀e,e<M.length->u e<=w e):ss M n u r<=ss M n w r:=rq' fun e he=>h e (t5' hO hr he)
theorem ns' {c:Nat} {w:Nat->Nat}:∀l:List Nat,(l.map fun e=>c*w e).sum=c*(l.map w).sum
 | []=>rfl
 |x :: l=>by rw[aN,aN,cR,cR,ns' l,bV]
theorem rr' {M:List Rm} {n r c:Nat} {w:Nat->Nat}:ss M n (fun e=>c*w e) r=c*ss M n w r:=ns' _
def dY' (w:Nat->Nat) (a l:Nat):Nat->Nat:=fun e=>if e=a then w e-l else w e
theorem gN' {w:Nat->Nat} {a k:Nat} (hl:k<=w a):∀l:List Nat,(l.map w).sum=(l.map (dY' w a k)).sum+k*l.count a
 | []=>rfl
 |x :: l=>by
  rw[aN,aN,cR,cR,gN' hl l,List.count_cons]
  by_cases h:x=a
  .subst h
   rw[if_pos (by simp)]
   have:dY' w x k x=w x-k:=by unfold dY';rw[if_pos rfl]
   rw[this,bV]
   omega
  .rw[if_neg (by simpa using h),Nat.add_zero]
   have:dY' w a k x=w x:=by unfold dY';rw[if_neg h]
   rw[this]
   omega
theorem i2' {M:List Rm} {n r:Nat} {w:Nat->Nat} {a k:Nat} (hl:k<=w a):ss M n w r=ss M n (dY' w a k) r+k*(en M n r).count a:=gN' hl _
def Okw (M:List Rm) (p q:Nat) (u:Nat->Nat):Prop:=∀r,r<M.length->u r*2 ^ p<=ss M q u r
def Up (M:List Rm) (m:Nat) (u:Nat->Nat):Prop:=∀r,r<M.length->u r<=m
structure Gr (M:List Rm) (p q m:Nat) (w:Nat->Nat):Prop where
 up:Up M m w
 ok:Okw M p q w
 top:∀u,Up M m u->Okw M p q u->∀r,r<M.length->u r<=w r
def wL (M:List Rm) (w:Nat->Nat):List Nat:=(ah M.length).map w
theorem cD' {M:List Rm} {w:Nat->Nat}:(wL M w).length=M.length:=by unfold wL;simp
theorem ez' {M:List Rm} {w:Nat->Nat} {r:Nat} (h:r<M.length):(wL M w)[r]?=some (w r):=by
 unfold wL
 rw[ao,aY h]
 rfl
theorem pZ' {M:List Rm} {w:Nat->Nat} {r:Nat} (h:r<M.length):atI ((wL M w).map nV) (r:Int)=some (.int (w r)):=a8' (by rw[ao,ez' h];rfl)
theorem rt' {M:List Rm} {w:Nat->Nat} {r k:Nat}:((wL M w).map nV).set r (.int (w r-k:Nat))=(wL M (dY' w r k)).map nV:=by
 apply bX
 intro i
 unfold wL
 rw[List.getElem?_set,ao,ao,ao,ao,ac,ac,aR]
 by_cases hi:i<M.length
 .rw[aY hi]
  by_cases h:r=i
  .subst h
   rw[if_pos rfl,if_pos hi]
   show _=some (nV (dY' w r k r))
   unfold dY'
   rw[if_pos rfl]
   rfl
  .rw[if_neg h]
   show _=some (nV (dY' w r k i))
   unfold dY'
   rw[if_neg (fun z=>h z.symm)]
   rfl
 .rw[bj (by simpa using hi)]
  by_cases h:r=i
  .rw[if_pos h,if_neg (by rw[h];exact hi)]
   rfl
  .rw[if_neg h]
   rfl
theorem ru' {M:List Rm} (hO:OkM M) {w:Nat->Nat}:(wsL M ((wL M w).map fun n:Nat=>(n:Int)) M.length).map V.int=(wL M (st1 M w)).map nV:=by
 unfold wsL
 have e:∀r c,oi ((wL M w).map fun n:Nat=>(n:Int)) (LW.stp M r c)=((ow w (LW.stp M r c):Nat):Int):=by
  intro r c
  cases e:LW.stp M r c with
  |none=>rfl
  |some m=>
   show((wL M w).map fun n:Nat=>(n:Int)).getD m 0=_
   rw[aP,ao,ez' (LW.ds' hO e)]
   rfl
 show _=((ah M.length).map (st1 M w)).map nV
 rw[ci,ci]
 apply bL
 intro r _
 show V.int (oi _ (LW.stp M r false)+oi _ (LW.stp M r true))=V.int _
 rw[e,e]
 show V.int _=V.int ((ow w (LW.stp M r false)+ow w (LW.stp M r true):Nat):Int)
 rw[Int.natCast_add]
theorem rv' {ns:List Nat}:ns.map nV=(ns.map fun n:Nat=>(n:Int)).map V.int:=by
 rw[ci]
 rfl
def IsE (n:Nat) (H:Hp) (v:V) (e:Nat):Prop:=∃q b,v=.ref q/\b.length=n/\H q=some (.tup [.str (tx b),.int e])
theorem gO' {n:Nat} {H H':Hp} (s:au' H H') {v:V} {e:Nat} (h:IsE n H v e):IsE n H' v e:=by
 obtain⟨q,b,h1,h2,h3⟩:=h
 exact⟨q,b,h1,h2,s _ _ h3⟩
def sb (M:List Rm) (e:Nat) (c:Bool):List Nat:=(LW.stp M e c).toList
theorem ry' {M:List Rm} {e:Nat} {c:Bool}:(sb M e c).length<=1:=by
 unfold sb
 cases LW.stp M e c<;>simp
def yJ':Sp:=fun vs H Q _=>∃(a:Addr) (M:List Rm) (n r:Nat),vs=[.ref a,.int r,.int n]/\IsM H a M/\OkM M/\M.length<=100/\n<=8/\r<M.length/\∀(l:Addr) (ws:List V) (H':Hp),H l=none->au' H H'->H' l=some (.lst ws)->ct' (IsE n H') ws (en M n r)->Q (.ref l) H'
theorem fg' {M:List Rm} {n r:Nat} (h:n<=8):(en M n r).length<=256:=aq rp' (cA (by decide) h)
theorem t7' {C:Rc} (hN:C.N.length=8):∀vs H Q E,yJ' vs H Q E->tSs C bL' { nx:=fun _ H'=>Q .non H',rt:=Q } (L2.ay' C.N vs) H:=by
 intro vs H Q E h
 obtain⟨a,M,n,r,rfl,hM,hO,hM1,hn,hr,q⟩:=h
 rw[aj' hN]
 unfold bL'
 symm
 refine⟨by decide,fun t0 ht0=>?_⟩
 obtain⟨s0,ht0'⟩:=snw ht0 (.tup [.str (tx []),.int r])
 generalize upd H t0 _=H0 at s0 ht0' ⊢
 refine⟨by decide,fun l0 hl0=>?_⟩
 obtain⟨s1,hl1⟩:=snw hl0 (.lst [.ref t0])
 generalize upd H0 l0 _=H1 at s1 hl1 ⊢
 symm
 refine fH' (by omega) (by omega) (h5' (fun i σ H'=>i<=n/\au' H H'/\∃d ws,(∃x4 x5 x6 x7,σ=[some (.ref a),some (.int r),some (.int n),some (.ref d),x4,x5,x6,x7])/\H d=none/\H' d=some (.lst ws)/\ct' (IsE i H') ws (en M i r)) ⟨aK _,s0.trans s1,l0,_,⟨_,_,_,_,rfl⟩,s0.free hl0,hl1,⟨⟨t0,[],rfl,rfl,s1 _ _ ht0'⟩,trivial⟩⟩ ?_ ?_)
 .rintro i σ H4 hi ⟨_,s4,d',ws',⟨x4,x5,x6,x7,rfl⟩,_,hd4,hws4⟩
  have hi:i<n:=by omega
  have hwl:=hws4.len
  have hlen:=fg' (M:=M) (n:=i) (r:=r) (by omega)
  have hlen1:=fg' (M:=M) (n:=i+1) (r:=r) (by omega)
  symm
  refine aF' (SqL.of hd4) (tw' (vs:=ws') (fun j xs H'=>au' H4 H'/\ct' (IsE (i+1) H') xs (((en M i r).take j).flatMap (dr M))) ⟨au'.refl _,trivial⟩ (fun j xs H' w=>SqL.of (w.1 _ _ hd4)) ?_ ?_)
  .rintro j xs H5 v R hv ⟨s5,hA5⟩ hR
   have hj:=an' hv
   obtain⟨e,hej,qv,b,rfl,hbl,hqv⟩:=hws4.getL hv
   have hqv5:=s5 _ _ hqv
   have he:=t5' hO hr (aD hej)
   have hpre:(((en M i r).take j).flatMap (dr M)).length<=256*2:=by
    have h1:=ff' (f:=dr M) (k:=2) (fun _=>ro') ((en M i r).take j)
    have h2:((en M i r).take j).length<=256:=by rw[aS];omega
    omega
   refine dA' (SqT.of hqv5) ?_
   symm
   refine mU' (ye' (l:=[false,true]) (fun t ys H'=>au' H4 H'/\ct' (IsE (i+1) H') ys (((en M i r).take j).flatMap (dr M)++((if 0<t then sb M e false else[])++(if 1<t then sb M e true else[])))) ⟨s5,by simpa using hA5⟩ ?_ ?_)
   .rintro t ys H6 c R2 hc ⟨s6,hA6⟩ hR2
    have htc:t=if c then 1 else 0:=by
     match t,hc with
     |0,hc=>cases hc;rfl
     |1,hc=>cases hc;rfl
     |t+2,hc=>cases hc
    have after:∀xs:List Nat,xs=(((en M i r).take j).flatMap (dr M)++((if 0<t then sb M e false else[])++(if 1<t then sb M e true else[])))++sb M e c->xs=((en M i r).take j).flatMap (dr M)++((if 0<t+1 then sb M e false else[])++(if 1<t+1 then sb M e true else[])):=by
     rintro xs rfl
     cases c with
     |false=>rw[htc];simp
     |true=>rw[htc];simp
    have hyl:ys.length<sizeLine:=by
     have:=hA6.len
     rw[au,au]at this
     have b1:(if 0<t then sb M e false else[]).length<=1:=by split<;>simp[ry']
     have b2:(if 1<t then sb M e true else[]).length<=1:=by split<;>simp[ry']
     exact al' (by omega)
    have hM6:=hM.mono (ap' (s4.trans s6))
    symm
    refine iX' (c:=c) hM6 he fun pr2 hpr2=>?_
    symm
    refine hpr2 _ ?_
    cases hs:LW.stp M e c with
    |none=>
     simp only[oV]
     symm
     refine hR2 _ _ ⟨s6,?_⟩
     rw[<- after _ rfl]
     have:sb M e c=[]:=by unfold sb;rw[hs];rfl
     rw[this,cW]
     exact hA6
    |some m=>
     simp only[oV]
     symm
     refine⟨show b.length+1<=sizeLine from tQ' (by omega),?_⟩
     refine iX' (c:=c) hM6 he fun pr3 hpr3=>?_
     symm
     refine hpr3 _ ?_
     rw[hs]
     simp only[oV]
     symm
     refine⟨by decide,fun p7 hp7=>?_⟩
     symm
     refine⟨hyl,hR2 _ _ ⟨s6.trans (ae' hp7 _),?_⟩⟩
     rw[<- after _ rfl]
     have:sb M e c=[m]:=by unfold sb;rw[hs];rfl
     rw[this]
     exact ct'.snoc (hA6.mono fun v w h=>gO' (ae' hp7 _) h) ⟨p7,b++[c],rfl,by simp[hbl],ac'⟩
   .rintro ys H6 ⟨s6,hA6⟩
    refine hR _ _ ⟨s6,?_⟩
    rw[bN,hej,List.flatMap_append]
    simpa[dr,sb]using hA6
  .rintro xs H5 ⟨s5,hA5⟩ p5 hp5
   rw[hwl,bp]at hA5
   symm
   exact⟨hi,s4.trans (s5.trans (ae' hp5 _)),p5,xs,⟨_,_,_,_,rfl⟩,s4.free (s5.free hp5),ac',hA5.mono fun v w h=>gO' (ae' hp5 _) h⟩
 .rintro σ H4 ⟨_,s4,d',ws',⟨x4,x5,x6,x7,rfl⟩,hd0,hd4,hws4⟩
  rw[show((n:Int)).toNat=n by omega]at hws4
  symm
  exact q d' ws' H4 hd0 s4 hd4 hws4
def z7' (M:List Rm) (n:Nat) (H0 H:Hp) (v:V) (r:Nat):Prop:=∃l ws,v=.ref l/\H0 l=none/\H l=some (.lst ws)/\ct' (IsE n H) ws (en M n r)
theorem ii' {M:List Rm} {n:Nat} {H0 H H':Hp} (s:au' H H') {v:V} {r:Nat} (h:z7' M n H0 H v r):z7' M n H0 H' v r:=by
 obtain⟨l,ws,h1,h0,h2,h3⟩:=h
 exact⟨l,ws,h1,h0,s _ _ h2,h3.mono fun v e h=>gO' s h⟩
def yK':Sp:=fun vs H Q _=>∃(a:Addr) (M:List Rm) (n:Nat),vs=[.ref a,.int n]/\IsM H a M/\OkM M/\M.length<=100/\n<=8/\∀(l:Addr) (ws:List V) (H':Hp),H l=none->au' H H'->H' l=some (.lst ws)->ct' (z7' M n H H') ws (ah M.length)->Q (.ref l) H'
theorem t8' {C:Rc} (hN:C.N.length=3) (hW:C.fs "walks_from"=some yJ'):∀vs H Q E,yK' vs H Q E->tSs C c6' { nx:=fun _ H'=>Q .non H',rt:=Q } (L2.ay' C.N vs) H:=by
 intro vs H Q E h
 obtain⟨a,M,n,rfl,hM,hO,hM1,hn,q⟩:=h
 rw[aj' hN]
 unfold c6'
 obtain⟨mv,hmv,hmr⟩:=id hM
 have hml:=hmr.len
 symm
 refine cl' (SqT.of hmv) ?_
 rw[hml]
 refine fH' (by omega) (by omega) (jF' (fun i xs H'=>i<=M.length/\au' H H'/\ct' (z7' M n H H') xs (ah i)) ⟨aK _,au'.refl _,trivial⟩ ?_ ?_)
 .rintro i xs H1 R hi ⟨_,s1,hA⟩ hR
  have hi:i<M.length:=by omega
  rw[Int.zero_add]
  symm
  refine ag' hW ?_
  symm
  refine⟨a,M,n,i,rfl,hM.mono (ap' s1),hO,hM1,hn,hi,fun l ws H2 hl s2 hl2 hws=>?_⟩
  have:=hA.len
  rw[aR]at this
  symm
  refine⟨al' (by omega),hR _ _ ⟨hi,s1.trans s2,?_⟩⟩
  rw[bx]
  exact ct'.snoc (hA.mono fun v r h=>ii' s2 h) ⟨l,ws,rfl,s1.free hl,hl2,hws⟩
 .rintro xs H1 ⟨_,s1,hA⟩ p hp
  rw[show((M.length:Int)).toNat=M.length by omega]at hA
  symm
  exact q p xs _ (s1.free hp) (s1.trans (ae' hp _)) ac' (hA.mono fun v r h=>ii' (ae' hp _) h)
def sl (M:List Rm) (q i e:Nat):List Nat:=(ah i).flatMap fun r=>az ((en M q r).count e) r
theorem nt' {M:List Rm} {q i e:Nat}:sl M q (i+1) e=sl M q i e++az ((en M q i).count e) i:=by
 unfold sl
 rw[bx,List.flatMap_append]
 simp
theorem rz' {M:List Rm} {q e:Nat} (hq:q<=8) {i:Nat}:(sl M q i e).length<=i*256:=by
 unfold sl
 have:=ff' (f:=fun r=>az ((en M q r).count e) r) (k:=256) (fun r=>by rw[bI];exact aq List.count_le_length (fg' hq)) (ah i)
 rw[aR]at this
 exact this
theorem nu' {M:List Rm} {q i e x:Nat} (h:x∈sl M q i e):x<i:=by
 unfold sl at h
 obtain⟨r,hr,hx⟩:=List.mem_flatMap.mp h
 rw[(List.mem_replicate.mp hx).2]
 exact aB.mp hr
theorem fh' {M:List Rm} {q e r:Nat}:∀{i:Nat},(sl M q i e).count r=if r<i then(en M q r).count e else 0
 |0=>by simp[sl]
 |i+1=>by
  rw[nt',List.count_append,fh',List.count_replicate]
  by_cases h2:r=i
  .subst h2
   simp
  .have h3:(i == r)=false:=by simpa using fun z=>h2 z.symm
   rw[h3]
   by_cases h:r<i
   .have:r<i+1:=by omega
    simp[h,this]
   .have:¬r<i+1:=by omega
    simp[h,this]
structure Srs (H0 H:Hp) (S:Addr) (As:List Addr) (L:Nat->List Nat):Prop where
 top:H S=some (.lst (As.map V.ref))
 nd:As.Nodup
 out:S∉As
 free:∀x∈As,H0 x=none
 own:∀e x,As[e]?=some x->H x=some (.lst ((L e).map nV))
theorem Srs.mono {H0 H H':Hp} {S:Addr} {As:List Addr} {L:Nat->List Nat} (h:Srs H0 H S As L) (s:au' H H'):Srs H0 H' S As L:=⟨s _ _ h.top,h.nd,h.out,h.free,fun e x hx=>s _ _ (h.own e x hx)⟩
def But (As:List Addr) (H H':Hp):Prop:=∀x u,H x=some u->x∉As->H' x=some u
theorem nv' {As:List Addr} (h:As.Nodup) {i j:Nat} {x:Addr} (hi:As[i]?=some x) (hj:As[j]?=some x):i=j:=by
 have h1:=an' hi
 have h2:=an' hj
 rw[aa h1]at hi
 rw[aa h2]at hj
 exact(List.getElem_inj h).mp ((Option.some.inj hi).trans (Option.some.inj hj).symm)
theorem Srs.put {H0 H:Hp} {S:Addr} {As:List Addr} {L L':Nat->List Nat} (s:Srs H0 H S As L) {e:Nat} {x:Addr} (hx:As[e]?=some x) (hL:∀e',e'≠e->L' e'=L e'):Srs H0 (upd H x (.lst ((L' e).map nV))) S As L':=by
 have hm:=aD hx
 refine⟨?_,s.nd,s.out,s.free,fun e' x' hx'=>?_⟩
 .rw[af' (fun z=>s.out (by rw[z];exact hm))]
  exact s.top
 .by_cases h:e'=e
  .subst h
   rw[hx]at hx'
   cases hx'
   exact ac'
  .rw[af' (fun z=>h (nv' s.nd (by rw[<- z];exact hx') hx)),hL e' h]
   exact s.own e' x' hx'
def yL':Sp:=fun vs H Q _=>∃(a:Addr) (M:List Rm) (q:Nat),vs=[.ref a,.int q]/\IsM H a M/\OkM M/\M.length<=100/\q<=8/\∀(S:Addr) (As:List Addr) (H':Hp),H S=none->au' H H'->As.length=M.length->Srs H H' S As (sl M q M.length)->Q (.ref S) H'
theorem dQ' {l:List Nat} {k e x:Nat} (h:l[k]?=some x):(l.take (k+1)).count e=(l.take k).count e+if x=e then 1 else 0:=by
 rw[bN,h,List.count_append]
 congr 1
 simp[List.count_cons]
theorem t9' {C:Rc} (hN:C.N.length=7) (hP:C.fs "powered"=some yK'):∀vs H Q E,yL' vs H Q E->tSs C cC' { nx:=fun _ H'=>Q .non H',rt:=Q } (L2.ay' C.N vs) H:=by
 intro vs H Q E h
 obtain⟨a,M,q',rfl,hM,hO,hM1,hq,q⟩:=h
 rw[aj' hN]
 unfold cC'
 obtain⟨mv,hmv,hmr⟩:=id hM
 have hml:=hmr.len
 symm
 refine bo' (SqT.of hmv) (gd' (fun i xs H'=>i<=mv.length/\au' H H'/\∃As:List Addr,xs=As.map V.ref/\As.length=i/\As.Nodup/\∀x∈As,H x=none/\H' x=some (.lst [])) ⟨aK _,au'.refl _,[],rfl,rfl,cS,fun x hx=>by cases hx⟩ (fun i xs H' pv=>SqT.of (pv.2.1 _ _ hmv)) ?_ ?_)
 .rintro i xs H' x R hx ⟨_,s1,As,rfl,hAl,hnd,hA⟩ hR
  have hi:=an' hx
  symm
  refine⟨by decide,fun p hp=>?_⟩
  symm
  refine⟨by rw[ac];exact al' (by omega),hR _ _ ⟨hi,s1.trans (ae' hp _),As++[p],by rw[ax];rfl,by rw[au,hAl];rfl,?_,fun x hx=>?_⟩⟩
  .rw[cP]
   refine⟨hnd,by simp,fun x hx y hy=>?_⟩
   rw[aX.mp hy]
   rintro rfl
   rw[(hA x hx).2]at hp
   cases hp
  .rcases aG.mp hx with hx|hx
   .exact⟨(hA x hx).1,ae' hp _ _ _ (hA x hx).2⟩
   .rw[aX.mp hx]
    exact⟨s1.free hp,ac'⟩
 rintro xs H1 ⟨_,s1,As,rfl,hAl,hnd,hA⟩ S hS
 have hS0:=s1.free hS
 have sr:Srs H (upd H1 S (.lst (As.map V.ref))) S As (sl M q' 0):=by
  refine⟨ac',hnd,fun m=>?_,fun x hx=>(hA x hx).1,fun e x hx=>?_⟩
  .have:=(hA S m).2
   rw[hS]at this
   cases this
  .have hm:=aD hx
   rw[af' (ah' (hA x hm).2 hS),(hA x hm).2]
   rfl
 have s2:=s1.trans (ae' hS (.lst (As.map V.ref)))
 generalize upd H1 S (.lst (As.map V.ref))=H2 at sr s2 ⊢
 rw[hml]at hAl
 symm
 refine ag' hP ?_
 symm
 refine⟨a,M,q',rfl,hM.mono (ap' s2),hO,hM1,hq,fun W ws H3 hW0 s3 hW hws=>?_⟩
 have hwl:=hws.len
 rw[aR]at hwl
 have hAs:∀x∈As,∃u,H2 x=some u:=fun x hx=>by
  obtain⟨e,he⟩:=bn hx
  exact⟨_,sr.own e x he⟩
 have hout:∀x,H2 x=none->x∉As:=fun x h m=>by
  obtain⟨u,hu⟩:=hAs x m
  rw[h]at hu
  cases hu
 have hSA:∀H',But As H3 H'->au' H H':=fun H' b x u e=>b x u (s3 _ _ (s2 _ _ e)) fun m=>by rw[sr.free x m]at e;cases e
 refine jA' (SqL.of hW) (xX' (xs:=ws) (fun i σ H'=>i<=M.length/\(∃x3 x4 x5 x6,σ=[some (.ref a),some (.int q'),some (.ref S),x3,x4,x5,x6])/\But As H3 H'/\Srs H H' S As (sl M q' i)) ⟨aK _,⟨_,_,_,_,rfl⟩,fun x u e _=>e,⟨s3 _ _ sr.top,sr.nd,sr.out,sr.free,fun e x hx=>s3 _ _ (sr.own e x hx)⟩⟩ (fun i σ H' _ pv=>SqL.of (pv.2.2.1 _ _ hW (hout W hW0))) ?_ ?_)
 .rintro i x σ H4 p hx hp ⟨_,⟨x3,x4,x5,x6,rfl⟩,b4,sr4⟩
  have hi:=an' hx
  rw[hwl]at hi
  obtain⟨r,hr,l,ws',rfl,hl0,hl3,hE⟩:=hws.getL hx
  rw[aY hi]at hr
  cases hr
  have hel:=hE.len
  have hen:=fg' (M:=M) (n:=q') (r:=i) hq
  obtain⟨s5,hp5⟩:=snw hp (.tup [.int i,.ref l])
  generalize upd H4 p _=H5 at s5 hp5 ⊢
  have b5:But As H3 H5:=fun x u e m=>s5 _ _ (b4 x u e m)
  have sr5:=sr4.mono s5
  refine dA' (SqT.of hp5) ?_
  symm
  refine aF' (SqL.of (b5 _ _ hl3 (hout l hl0))) (px' (xs:=ws') (fun k σ H'=>k<=ws'.length/\(∃x5 x6,σ=[some (.ref a),some (.int q'),some (.ref S),some (.int i),some (.ref l),x5,x6])/\But As H3 H'/\Srs H H' S As (fun e=>sl M q' i e++az (((en M q' i).take k).count e) i)) ⟨aK _,⟨_,_,rfl⟩,b5,?_⟩ (fun k σ H' _ pv=>SqL.of (pv.2.2.1 _ _ hl3 (hout l hl0))) ?_ ?_)
  .have e:(fun e=>sl M q' i e++az (((en M q' i).take 0).count e) i)=sl M q' i:=by
    funext e
    simp
   rw[e]
   exact sr5
  .rintro k v σ H6 hv ⟨_,⟨y5,y6,rfl⟩,b6,sr6⟩
   have hk:=an' hv
   obtain⟨e,hek,qv,b,rfl,_,hqv⟩:=hE.getL hv
   have he:=t5' hO hi (aD hek)
   have hqA:qv∉As:=fun m=>by
    obtain⟨j,hj⟩:=bn m
    have:=s3 _ _ (sr.own j qv hj)
    rw[hqv]at this
    cases this
   obtain⟨xA,hxA⟩:∃xA,As[e]?=some xA:=⟨_,aa (by omega)⟩
   have hmA:=aD hxA
   refine dA' (SqT.of (b6 _ _ hqv hqA)) ?_
   symm
   refine a3' (SqL.of sr6.top) (v:=.ref xA) (a8' (by rw[ao,hxA];rfl)) ?_
   symm
   have hown:=sr6.own e xA hxA
   have hz:((sl M q' i e++az (((en M q' i).take k).count e) i).map nV).length<sizeLine:=by
    have h1:=rz' (M:=M) (e:=e) hq (i:=i)
    have h2:((en M q' i).take k).count e<=256:=aq List.count_le_length (by rw[aS];omega)
    rw[ac,au,bI]
    have h3:i*256<=100*256:=aH 256 (by omega)
    show _<2 ^ 24
    omega
   refine⟨tyL hown rfl,jH' hown hz ?_⟩
   have hput:=sr6.put (L':=fun e'=>sl M q' i e'++az (((en M q' i).take (k+1)).count e') i) hxA (fun e' he'=>by rw[dQ' hek,if_neg (fun z=>he' z.symm),Nat.add_zero])
   have e1:((sl M q' i e++az (((en M q' i).take (k+1)).count e) i).map nV)=(sl M q' i e++az (((en M q' i).take k).count e) i).map nV++[.int i]:=by
    rw[dQ' hek,if_pos rfl,cB,<- bQ,ax]
    rfl
   rw[e1]at hput
   exact⟨hk,⟨_,_,rfl⟩,fun x u hx m=>by
    rw[af' (fun z=>m (by rw[z];exact hmA))]
    exact b6 x u hx m,hput⟩
  .rintro σ H6 ⟨_,⟨y5,y6,rfl⟩,b6,sr6⟩
   have e:(fun e=>sl M q' i e++az (((en M q' i).take ws'.length).count e) i)=sl M q' (i+1):=by
    funext e
    rw[hel,bp,nt']
   rw[e]at sr6
   exact⟨hi,⟨_,_,_,_,rfl⟩,b6,sr6⟩
 .rintro σ H4 ⟨_,⟨x3,x4,x5,x6,rfl⟩,b4,sr4⟩
  rw[hwl]at sr4
  symm
  exact q S As H4 hS0 (hSA H4 b4) hAl sr4
def cn':Sp:=fun vs H Q _=>∃(a b:Addr) (M:List Rm) (w:Nat->Nat) (q:Nat),vs=[.ref a,.ref b,.int q]/\IsM H a M/\OkM M/\M.length<=500/\q<=900/\Lt H b ((wL M w).map nV)/\∀p H',H p=none->au' H H'->H' p=some (.lst ((wL M (it M w q)).map nV))->Q (.ref p) H'
theorem kE' {C:Rc} (hN:C.N.length=5) (hW:C.fs "way_sums"=some (aJ' C.K)):∀vs H Q E,cn' vs H Q E->tSs C b5' { nx:=fun _ H'=>Q .non H',rt:=Q } (L2.ay' C.N vs) H:=by
 intro vs H Q E h
 obtain⟨a,b,M,w,q',rfl,hM,hO,hM5,hq,hb,q⟩:=h
 rw[aj' hN]
 unfold b5'
 symm
 refine tT' hb fun c hc=>?_
 obtain⟨s1,hc1⟩:=snw hc (.lst ((wL M w).map nV))
 generalize upd H c _=H1 at s1 hc1 ⊢
 symm
 refine fH' (by omega) (by omega) (h5' (fun i σ H2=>(∃c x4,σ=[some (.ref a),some (.ref b),some (.int q'),some (.ref c),x4]/\H c=none/\H2 c=some (.lst ((wL M (it M w i)).map nV)))/\au' H H2) ⟨⟨c,_,rfl,hc,hc1⟩,s1⟩ ?_ ?_)
 .rintro i σ H2 hi ⟨⟨c2,x4,rfl,hc0,hc2⟩,s2⟩
  symm
  refine ag' hW ?_
  symm
  refine⟨a,c2,M,(wL M (it M w i)).map fun n:Nat=>(n:Int),rfl,hM.mono (ap' s2),hO,hM5,SqL.of (by rw[hc2,rv']),by rw[ac,cD'],fun p hp=>?_⟩
  rw[ru' hO]
  symm
  exact⟨⟨p,_,rfl,s2.free hp,ac'⟩,s2.trans (ae' hp _)⟩
 .rintro σ H2 ⟨⟨c2,x4,rfl,hc0,hc2⟩,s2⟩
  rw[show((q':Int)).toNat=q' by omega]at hc2
  symm
  exact q c2 H2 hc0 s2 hc2
def tot (M:List Rm) (w:Nat->Nat):Nat:=((ah M.length).map w).sum
theorem p0' {M:List Rm} {w:Nat->Nat} {r k:Nat} (hr:r<M.length) (hk:k<=w r):tot M w=tot M (dY' w r k)+k:=by
 unfold tot
 rw[gN' hk,List.count_range,if_pos hr,cY]
structure Jn (M:List Rm) (p q m:Nat) (w:Nat->Nat) (wt:List Nat):Prop where
 up:Up M m w
 top:∀u,Up M m u->Okw M p q u->∀r,r<M.length->u r<=w r
 ok:∀r,r<M.length->r∉wt->w r*2 ^ p<=ss M q w r
 lt:∀r∈wt,r<M.length
theorem Jn.fin {M:List Rm} {p q m:Nat} {w:Nat->Nat} (h:Jn M p q m w []):Gr M p q m w:=⟨h.up,fun r hr=>h.ok r hr (by simp),h.top⟩
theorem Jn.keep {M:List Rm} {p q m:Nat} {w:Nat->Nat} {wt:List Nat} {r:Nat} (h:Jn M p q m w (wt++[r])) (hr:w r<=ss M q w r / 2 ^ p):Jn M p q m w wt:=by
 refine⟨h.up,h.top,fun x hx hn=>?_,fun x hx=>h.lt x (by simp[hx])⟩
 by_cases e:x=r
 .subst e
  exact(Nat.le_div_iff_mul_le (Nat.two_pow_pos p)).mp hr
 .exact h.ok x hx (by simp[hn,e])
theorem ua' {M:List Rm} {q r a k:Nat} {w:Nat->Nat} (hk:k<=w a) (hr:r<M.length) (h:r∉sl M q M.length a):ss M q (dY' w a k) r=ss M q w r:=by
 have e:=i2' (M:=M) (n:=q) (r:=r) hk
 have c:(en M q r).count a=0:=by
  have:=fh' (M:=M) (q:=q) (e:=a) (r:=r) (i:=M.length)
  rw[if_pos hr]at this
  rw[<- this]
  exact List.count_eq_zero.mpr h
 rw[c]at e
 omega
theorem Jn.lose {M:List Rm} {p q m:Nat} {w:Nat->Nat} {wt:List Nat} {r:Nat} (hO:OkM M) (h:Jn M p q m w (wt++[r])) (hr:ss M q w r / 2 ^ p<w r):Jn M p q m (dY' w r (w r-ss M q w r / 2 ^ p)) (wt++sl M q M.length r):=by
 have hrn:=h.lt r (by simp)
 have hk:w r-ss M q w r / 2 ^ p<=w r:=Nat.sub_le _ _
 have hle:∀x,dY' w r (w r-ss M q w r / 2 ^ p) x<=w x:=fun x=>by unfold dY';split<;>omega
 have hat:dY' w r (w r-ss M q w r / 2 ^ p) r=ss M q w r / 2 ^ p:=by unfold dY';rw[if_pos rfl];omega
 refine⟨fun x hx=>aq (hle x) (h.up x hx),fun u hu ho x hx=>?_,fun x hx hn=>?_,fun x hx=>?_⟩
 .by_cases e:x=r
  .subst e
   rw[hat,Nat.le_div_iff_mul_le (Nat.two_pow_pos p)]
   exact aq (ho x hx) (t6' hO hx (h.top u hu ho))
  .unfold dY'
   rw[if_neg e]
   exact h.top u hu ho x hx
 .rw[aG,not_or]at hn
  rw[ua' hk hx hn.2]
  by_cases e:x=r
  .subst e
   rw[hat]
   exact Nat.div_mul_le_self _ _
  .unfold dY'
   rw[if_neg e]
   exact h.ok x hx (by simp[hn.1,e])
 .rcases aG.mp hx with hx|hx
  .exact h.lt x (by simp[hx])
  .exact nu' hx
def sf (M:List Rm) (q:Nat) (w:Nat->Nat) (a k j:Nat):Nat->Nat:=fun r=>ss M q w r-k*((sl M q M.length a).take j).count r
theorem ub' {M:List Rm} {q:Nat} {w:Nat->Nat} {a k j x:Nat} (h:(sl M q M.length a)[j]?=some x):dY' (sf M q w a k j) x k=sf M q w a k (j+1):=by
 funext r
 unfold dY' sf
 rw[dQ' h]
 by_cases e:r=x
 .subst e
  rw[if_pos rfl,if_pos rfl,bV,cY,Nat.sub_sub]
 .rw[if_neg e,if_neg (fun z=>e z.symm),Nat.add_zero]
theorem B7' {M:List Rm} {q:Nat} {w:Nat->Nat} {a k j x:Nat} (hk:k<=w a) (h:(sl M q M.length a)[j]?=some x):k<=sf M q w a k j x:=by
 have hx:=nu' (aD h)
 have e:=i2' (M:=M) (n:=q) (r:=x) hk
 have c:=fh' (M:=M) (q:=q) (e:=a) (r:=x) (i:=M.length)
 rw[if_pos hx]at c
 have c1:=dQ' (e:=x) h
 rw[if_pos rfl]at c1
 have c2:((sl M q M.length a).take (j+1)).count x<=(sl M q M.length a).count x:=List.Sublist.count_le x (List.take_sublist _ _)
 unfold sf
 have h3:k*(((sl M q M.length a).take j).count x+1)<=k*(en M q x).count a:=cj k (by omega)
 rw[bV,cY]at h3
 omega
theorem yM' {M:List Rm} {q:Nat} {w:Nat->Nat} {a k:Nat} (hk:k<=w a):wL M (sf M q w a k (sl M q M.length a).length)=wL M (ss M q (dY' w a k)):=by
 unfold wL
 apply bL
 intro r hr
 have hr:=aB.mp hr
 unfold sf
 rw[bp,fh',if_pos hr,i2' hk,Nat.add_sub_cancel]
theorem rA' {n j:Nat} (h:j<n):ixN n (j:Int)=some j:=by
 unfold ixN
 rw[if_pos (by omega),if_pos (by omega)]
 simp
theorem ij' {m:Nat}:∀l:List Nat,(l.map fun _=>m).sum=l.length*m
 | []=>by simp
 |x :: l=>by rw[aN,cR,ij' l,bg,Nat.succ_mul,Nat.add_comm]
theorem nw' {M:List Rm} {m:Nat}:tot M (fun _=>m)=M.length*m:=by
 unfold tot
 rw[ij',aR]
theorem DT' {n:Nat}:rgs 0 n=(ah n).map nV:=by
 unfold rgs
 apply bL
 intro i _
 show V.int _=V.int _
 rw[Int.zero_add]
def yN':Sp:=fun vs H Q _=>∃(a b:Addr) (M:List Rm) (p q m:Nat),vs=[.ref a,.int p,.int q,.ref b]/\IsM H a M/\OkM M/\M.length<=16/\p<=8/\q<=8/\M.length*m<=3000/\H b=some (.lst ((wL M fun _=>m).map nV))/\∀(c:Addr) (w:Nat->Nat) (H':Hp),H c=none->au' H H'->H' c=some (.lst ((wL M w).map nV))->Gr M p q m w->Q (.ref c) H'
theorem uc' {C:Rc} (hN:C.N.length=11) (hWs:C.fs "walk_sums"=some cn') (hWt:C.fs "walks_to"=some yL'):∀vs H Q E,yN' vs H Q E->tSs C aT' { nx:=fun _ H'=>Q .non H',rt:=Q } (L2.ay' C.N vs) H:=by
 intro vs H Q E h
 obtain⟨a,b,M,p,q',m,rfl,hM,hO,hM1,hp,hq,hm,hb,q⟩:=h
 rw[aj' hN]
 unfold aT'
 symm
 refine jG' (SqL.of hb) fun c hc=>?_
 obtain⟨s1,hc1⟩:=snw hc (.lst ((wL M fun _=>m).map nV))
 generalize upd H c _=H1 at s1 hc1 ⊢
 symm
 refine ag' hWs ?_
 symm
 refine⟨a,c,M,fun _=>m,q',rfl,hM.mono (ap' s1),hO,by omega,by omega,.inl hc1,fun d H2 hd0 s2 hd=>?_⟩
 rw[show wL M (it M (fun _=>m) q')=wL M (ss M q' fun _=>m) by unfold wL;exact bL fun r _=>gM']at hd
 have hc2:=s2 _ _ hc1
 have s02:=s1.trans s2
 symm
 refine ag' hWt ?_
 symm
 refine⟨a,M,q',rfl,hM.mono (ap' s02),hO,by omega,hq,fun S As H3 hS0 s3 hAl sr=>?_⟩
 obtain⟨mv,hmv,hmr⟩:=id (hM.mono (ap' (s02.trans s3)))
 have hml:=hmr.len
 symm
 refine cl' (SqT.of hmv) ?_
 rw[hml]
 symm
 refine dB' fun pr hpr=>?_
 symm
 refine et' ac' (by omega) (by omega) (by omega) (by omega) (cC (al' (by omega))) fun T hT=>?_
 rw[show((M.length:Int)-0).toNat=M.length by omega,DT']
 have s4:=ae' hpr (.rng 0 M.length)
 generalize upd H3 pr (.rng 0 M.length)=H4 at s4 hT ⊢
 have s5:=ae' hT (.lst ((ah M.length).map nV))
 have hT5:upd H4 T (.lst ((ah M.length).map nV)) T=some (.lst ((ah M.length).map nV)):=ac'
 have s24:=s3.trans s4
 have nT:∀x u,H4 x=some u->x≠T:=fun x u e=>ah' e hT
 generalize upd H4 T (.lst ((ah M.length).map nV))=H5 at s5 hT5 ⊢
 have hc4:=s24 _ _ hc2
 have hd4:=s24 _ _ hd
 have hcd:c≠d:=ah' hc1 hd0
 have hcT:=nT c _ hc4
 have hdT:=nT d _ hd4
 have sr4:=sr.mono s4
 have hSn:S≠c/\S≠d/\S≠T:=⟨(ah' hc2 hS0).symm,(ah' hd hS0).symm,nT S _ sr4.top⟩
 have hAn:∀x∈As,x≠c/\x≠d/\x≠T:=fun x hx=>by
  have h0:=sr.free x hx
  obtain⟨e,he⟩:=bn hx
  exact⟨(ah' hc2 h0).symm,(ah' hd h0).symm,nT x _ (sr4.own e x he)⟩
 have sr5:=sr4.mono s5
 have hd0':=s1.free hd0
 have hT0:=s02.free (s24.free hT)
 have back:∀H',But [c,d,T] H5 H'->au' H H':=fun H' b x u e=>b x u ((s02.trans (s24.trans s5)) _ _ e) (by
  simp only[ap,aA,or_false,not_or]
  exact⟨ah' e hc,ah' e hd0',ah' e hT0⟩)
 have stays:∀H',But [c,d,T] H5 H'->H' S=some (.lst (As.map V.ref))/\∀e x,As[e]?=some x->H' x=some (.lst ((sl M q' M.length e).map nV)):=fun H' b=>⟨b _ _ sr5.top (by simp only[ap,aA,or_false,not_or];exact hSn),fun e x he=>b _ _ (sr5.own e x he) (by simp only[ap,aA,or_false,not_or];exact hAn x (aD he))⟩
 have K0:∀e,(sl M q' M.length e).length<=4096:=fun e=>aq (rz' hq) (aH 256 hM1)
 symm
 refine jB' (fun N σ H'=>∃w wt x8 x9 x10,N=wt.length+4097*tot M w/\σ=[some (.ref a),some (.int p),some (.int q'),some (.ref b),some (.ref c),some (.ref d),some (.ref S),some (.ref T),x8,x9,x10]/\Jn M p q' m w wt/\H' c=some (.lst ((wL M w).map nV))/\H' d=some (.lst ((wL M (ss M q' w)).map nV))/\H' T=some (.lst (wt.map nV))/\wt.length+4096*tot M w<=16+4096*3000/\But [c,d,T] H5 H') _ ⟨fun _=>m,ah M.length,_,_,_,rfl,rfl,⟨fun _ _=>ak _,fun u hu _ r hr=>hu r hr,fun r hr hn=>absurd (aB.mpr hr) hn,fun r hr=>aB.mp hr⟩,s5 _ _ hc4,s5 _ _ hd4,hT5,?_,fun x u e _=>e⟩ ?_
 .rw[aR,nw']
  have:=hm
  omega
 rintro N σ H6 ⟨w,wt,x8,x9,x10,rfl,rfl,J,hc6,hd6,hT6,hz,b6⟩
 symm
 refine iS' (SqL.of hT6) ?_
 rcases List.eq_nil_or_concat wt with rfl|⟨wt',r,rfl⟩
 .refine jD' ?_
  symm
  exact q c w H6 hc (back H6 b6) hc6 J.fin
 .rw[List.concat_eq_append]at hT6 J hz ⊢
  have e0:(!(((wt'++[r]).map nV)).isEmpty)=true:=by simp
  rw[e0]
  refine jC' ?_
  have hr:=J.lt r (by simp)
  rw[au,bB]at hz
  symm
  refine⟨tyL hT6 rfl,?_⟩
  refine rb' (xs:=wt'.map nV) (y:=.int r) (by rw[hT6,ax];rfl) ?_
  have hc7:upd H6 T (.lst (wt'.map nV)) c=some (.lst ((wL M w).map nV)):=by rw[af' hcT];exact hc6
  have hd7:upd H6 T (.lst (wt'.map nV)) d=some (.lst ((wL M (ss M q' w)).map nV)):=by rw[af' hdT];exact hd6
  have hT7:upd H6 T (.lst (wt'.map nV)) T=some (.lst (wt'.map nV)):=ac'
  have b7:But [c,d,T] H5 (upd H6 T (.lst (wt'.map nV))):=fun x u e n=>by
   rw[af' (fun z=>n (by simp[z]))]
   exact b6 x u e n
  generalize upd H6 T (.lst (wt'.map nV))=H7 at hc7 hd7 hT7 b7 ⊢
  symm
  refine a3' (SqL.of hc7) (pZ' hr) ?_
  symm
  refine a3' (SqL.of hd7) (pZ' hr) ?_
  symm
  refine⟨by omega,?_⟩
  have ediv:((ss M q' w r:Nat):Int) / 2 ^ ((p:Int)).toNat=((ss M q' w r / 2 ^ p:Nat):Int):=by
   rw[show((p:Int)).toNat=p by omega,Int.natCast_ediv,Int.natCast_pow]
   rfl
  rw[ediv]
  symm
  refine bB' (fun hl=>?_) fun hl=>?_
  .have hlt:ss M q' w r / 2 ^ p<w r:=by omega
   have hk:w r-ss M q' w r / 2 ^ p<=w r:=Nat.sub_le _ _
   have hJ:=J.lose hO hlt
   have htot:=p0' (M:=M) hr hk
   have hk1:1<=w r-ss M q' w r / 2 ^ p:=by omega
   rw[show((w r:Nat):Int)-((ss M q' w r / 2 ^ p:Nat):Int)=((w r-ss M q' w r / 2 ^ p:Nat):Int) by omega]
   generalize w r-ss M q' w r / 2 ^ p=k at hk hJ htot hk1 ⊢
   symm
   refine yq' hc7 (pZ' hr) ?_
   symm
   refine rc' hc7 (rA' (by rw[ac,cD'];exact hr)) ?_
   rw[if_pos rfl,show((w r:Nat):Int)-(k:Int)=((w r-k:Nat):Int) by omega,rt']
   have hc8:upd H7 c (.lst ((wL M (dY' w r k)).map nV)) c=some (.lst ((wL M (dY' w r k)).map nV)):=ac'
   have hd8:upd H7 c (.lst ((wL M (dY' w r k)).map nV)) d=some (.lst ((wL M (sf M q' w r k 0)).map nV)):=by
    rw[af' hcd.symm,hd7]
    have e:sf M q' w r k 0=ss M q' w:=by
     funext x
     unfold sf
     simp
    rw[e]
   have hT8:upd H7 c (.lst ((wL M (dY' w r k)).map nV)) T=some (.lst (wt'.map nV)):=by rw[af' hcT.symm];exact hT7
   have b8:But [c,d,T] H5 (upd H7 c (.lst ((wL M (dY' w r k)).map nV))):=fun x u e n=>by
    rw[af' (fun z=>n (by simp[z]))]
    exact b7 x u e n
   generalize upd H7 c (.lst ((wL M (dY' w r k)).map nV))=H8 at hc8 hd8 hT8 b8 ⊢
   obtain⟨xA,hxA⟩:∃xA,As[r]?=some xA:=⟨_,aa (by omega)⟩
   symm
   refine a3' (SqL.of (stays H8 b8).1) (v:=.ref xA) (a8' (by rw[ao,hxA];rfl)) ?_
   refine aF' (SqL.of ((stays H8 b8).2 r xA hxA)) (px' (xs:=(sl M q' M.length r).map nV) (fun j σ H'=>j<=(sl M q' M.length r).length/\(∃x10,σ=[some (.ref a),some (.int p),some (.int q'),some (.ref b),some (.ref c),some (.ref d),some (.ref S),some (.ref T),some (.int r),some (.int k),x10])/\H' c=some (.lst ((wL M (dY' w r k)).map nV))/\H' d=some (.lst ((wL M (sf M q' w r k j)).map nV))/\H' T=some (.lst (wt'.map nV))/\But [c,d,T] H5 H') ⟨aK _,⟨_,rfl⟩,hc8,hd8,hT8,b8⟩ (fun j σ H' _ pv=>SqL.of ((stays H' pv.2.2.2.2.2).2 r xA hxA)) ?_ ?_)
   .rintro j v σ H9 hv ⟨_,⟨y10,rfl⟩,hc9,hd9,hT9,b9⟩
    rw[ao]at hv
    obtain⟨x,hx,rfl⟩:=cH.mp hv
    have hxl:=nu' (aD hx)
    have hge:=B7' (w:=w) hk hx
    have hj:=an' hx
    simp only[nV]
    symm
    refine yq' hd9 (pZ' hxl) ?_
    symm
    refine rc' hd9 (rA' (by rw[ac,cD'];exact hxl)) ?_
    rw[if_pos rfl,show((sf M q' w r k j x:Nat):Int)-(k:Int)=((sf M q' w r k j x-k:Nat):Int) by omega,rt',ub' hx]
    refine⟨hj,⟨_,rfl⟩,by rw[af' hcd];exact hc9,ac',by rw[af' hdT.symm];exact hT9,fun y u e n=>?_⟩
    rw[af' (fun z=>n (by simp[z]))]
    exact b9 y u e n
   .rintro σ H9 ⟨_,⟨y10,rfl⟩,hc9,hd9,hT9,b9⟩
    rw[ac,yM' hk]at hd9
    symm
    refine⟨tyL hT9 rfl,a3' (SqL.of (stays H9 b9).1) (v:=.ref xA) (a8' (by rw[ao,hxA];rfl)) ?_⟩
    symm
    have hL:=K0 r
    have hz2:wt'.length+(sl M q' M.length r).length<=2 ^ 24:=by omega
    refine⟨T,xA,_,_,rfl,rfl,hT9,(stays H9 b9).2 r xA hxA,by rw[ac,ac];exact hz2,?_⟩
    rw[<- ax]
    refine⟨_,?_,dY' w r k,wt'++sl M q' M.length r,_,_,_,rfl,rfl,hJ,by rw[af' hcT];exact hc9,by rw[af' hdT];exact hd9,ac',?_,fun y u e n=>?_⟩
    .rw[au,au,bB]
     omega
    .rw[au]
     omega
    .rw[af' (fun z=>n (by simp[z]))]
     exact b9 y u e n
  .have hle:w r<=ss M q' w r / 2 ^ p:=by omega
   symm
   refine⟨wt'.length+4097*tot M w,?_,w,wt',_,_,_,rfl,rfl,J.keep hle,hc7,hd7,hT7,by omega,b7⟩
   rw[au,bB]
   omega
theorem p1' {M:List Rm} {m:Nat}:wL M (fun _=>m)=az M.length m:=by
 unfold wL
 rw[List.map_const',aR]
theorem p2' {i m:Nat}:(az i m).map nV++[V.int m]=(az (i+1) m).map nV:=by
 rw[cB,ax]
 rfl
def ud':Sp:=fun vs H Q _=>∃(a:Addr) (M:List Rm) (p q m:Nat),vs=[.ref a,.int p,.int q,.int m]/\IsM H a M/\OkM M/\M.length<=16/\p<=8/\q<=8/\M.length*m<=3000/\∀(v:V) (w:Nat->Nat) (H':Hp),au' H H'->Gr M p q m w->((∃c,v=.ref c/\H c=none/\H' c=some (.lst ((wL M w).map nV))/\∃r,r<M.length/\w r≠0)\/v=.non/\∀r,r<M.length->w r=0)->Q v H'
theorem ue' {C:Rc} (hN:C.N.length=6) (hG:C.fs "greatest_within"=some yN'):∀vs H Q E,ud' vs H Q E->tSs C dP' { nx:=fun _ H'=>Q .non H',rt:=Q } (L2.ay' C.N vs) H:=by
 intro vs H Q E h
 obtain⟨a,M,p,q',m,rfl,hM,hO,hM1,hp,hq,hm,q⟩:=h
 rw[aj' hN]
 unfold dP'
 obtain⟨mv,hmv,hmr⟩:=id hM
 have hml:=hmr.len
 symm
 refine ag' hG ?_
 symm
 refine bo' (SqT.of hmv) (gd' (fun i xs H'=>i<=mv.length/\xs=(az i m).map nV/\H'=H) ⟨aK _,rfl,rfl⟩ (fun i xs H' pv=>by rw[pv.2.2];exact SqT.of hmv) ?_ ?_)
 .rintro i xs H' x R hx ⟨_,rfl,rfl⟩ hR
  have hi:=an' hx
  symm
  exact⟨by rw[ac,bI];exact al' (by omega),hR _ _ ⟨hi,p2',rfl⟩⟩
 rintro xs H0 ⟨_,rfl,rfl⟩ b hb
 rw[hml,<- p1']
 obtain⟨s1,hb1⟩:=snw hb (.lst ((wL M fun _=>m).map nV))
 generalize upd H0 b _=H1 at s1 hb1 ⊢
 symm
 refine⟨a,b,M,p,q',m,rfl,hM.mono (ap' s1),hO,hM1,hp,hq,hm,hb1,fun c w H2 hc s2 hc2 hg=>?_⟩
 symm
 refine tJ' (ns:=(wL M w).map fun n:Nat=>(n:Int)) (SqL.of (by rw[hc2,rv'])) ?_
 cases e:((wL M w).map fun n:Nat=>(n:Int)).any fun n=>n != 0 with
 |true=>
  symm
  refine q _ w H2 (s1.trans s2) hg (.inl ⟨c,rfl,s1.free hc,hc2,?_⟩)
  obtain⟨z,hz,hz0⟩:=bU.mp e
  obtain⟨n,hn,rfl⟩:=bi.mp hz
  unfold wL at hn
  obtain⟨r,hr,rfl⟩:=bi.mp hn
  refine⟨r,aB.mp hr,?_⟩
  simpa using hz0
 |false=>
  symm
  refine q _ w H2 (s1.trans s2) hg (.inr ⟨rfl,fun r hr=>?_⟩)
  rw[List.any_eq_false]at e
  have:=e ((w r:Nat):Int) (bi.mpr ⟨w r,aD (ez' hr),rfl⟩)
  simpa using this
def yO':Sp:=fun vs H Q _=>∃(a:Addr) (M:List Rm) (p q m:Nat),vs=[.ref a,.int p,.int q,.int m]/\IsM H a M/\OkM M/\M.length<=12/\p<=8/\q<=8/\m<=200/\∀(c:Addr) (w:Nat->Nat) (H':Hp),H c=none->au' H H'->Gr M p q m w->H' c=some (.lst ((wL M w).map nV))->Q (.ref c) H'
def DU':Sp:=fun vs H Q _=>∃(x y:Addr) (M:List Rm) (u w:Nat->Nat),vs=[.ref x,.ref y]/\M.length<=100/\H x=some (.lst ((wL M u).map nV))/\H y=some (.lst ((wL M w).map nV))/\(∀r,r<M.length->u r<=w r)/\∀H',au' H H'->Q (.bl true) H'
structure FsRight (C:Rc):Prop where
 take:C.fs "_law_take"=some aI'
 asked:C.fs "_law_asked"=some gL'
 told:C.fs "_law_told"=some yO'
 am:C.fs "_law_at_most"=some DU'
end K30
namespace K28
open PySem PySem.Spec PyProof.Rows L2 R3 LW
open SR CK RW TM BD BE K31 K30
def okB (M:List Rm) (p q:Nat) (u:Nat->Nat):Bool:=(ah M.length).all fun r=>decide (u r*2 ^ p<=ss M q u r)
def DV':Sp:=fun vs H Q _=>∃(a w:Addr) (M:List Rm) (p q:Nat) (u:Nat->Nat),vs=[.ref a,.int p,.int q,.ref w]/\IsM H a M/\OkM M/\M.length<=100/\p<=8/\q<=8/\Up M 1000000 u/\H w=some (.lst ((wL M u).map nV))/\∀H',au' H H'->Q (.bl (!decide (tot M u=0)&&okB M p q u)) H'
structure Ld (M:List Rm) (p q m:Nat) (w:Nat->Nat):Prop where
 up:Up M m w
 top:∀u,Up M m u->Okw M p q u->∀r,r<M.length->u r<=w r
def DW':Sp:=fun vs H Q _=>∃(a:Addr) (M:List Rm) (p q m:Nat),vs=[.ref a,.int p,.int q,.int m]/\IsM H a M/\OkM M/\M.length<=12/\p<=8/\q<=8/\∀(v:V) (w:Nat->Nat) (H':Hp),au' H H'->Gr M p q m w->((∃c,v=.ref c/\H c=none/\H' c=some (.lst ((wL M w).map nV))/\tot M w≠0)\/v=.non/\tot M w=0)->Q v H'
def fl (l:List Nat):Nat->Nat:=fun r=>l.getD r 0
def good (M:List Rm) (p q:Nat) (l:List Nat):Bool:=!decide (tot M (fl l)=0)&&okB M p q (fl l)
def DX':Sp:=fun vs H Q _=>∃(a:Addr) (M:List Rm) (p q m:Nat) (w:Nat->Nat),vs=[.ref a,.int p,.int q,.int m]/\IsM H a M/\OkM M/\M.length<=3/\p<=8/\q<=8/\m<=3/\Gr M p q m w/\∀(v:V) (H':Hp),au' H H'->((tot M w≠0/\∃c,v=.ref c/\H' c=some (.lst ((wL M w).map nV)))\/tot M w=0/\v=.non)->Q v H'
structure FsRight (C:Rc):Prop where
 take:C.fs "_law_take"=some aI'
 asked:C.fs "_law_asked"=some gL'
 ld:C.fs "_law_let_down"=some DW'
 en:C.fs "enough"=some ud'
 same:C.fs "_law_same"=some (m9' 1)
 ae:C.fs "_law_are_enough"=some DV'
 ba:C.fs "_law_by_all"=some DX'
end K28
namespace K29
open PySem PySem.Spec PyProof.Rows L2 R3 LW
open K30 K31 SR CK RW TM BD BE K28
def pos:V->Bool
 | .int i=>decide (0<=i)
 |_=>false
def vN:V->Nat
 | .int i=>i.toNat
 |_=>0
def fv (vs:List V):Nat->Nat:=fun r=>vN (vs.getD r .non)
def gdP (M:List Rm) (p q:Nat):Option (List V)->Bool
 |some vs=>decide (vs.length=M.length)&&(vs.all pos&&(!decide (tot M (fv vs)=0)&&okB M p q (fv vs)))
 |none=>false
theorem yP' {M:List Rm}:∀{vs:List V},vs.length=M.length->vs.all pos=true->vs=(wL M (fv vs)).map nV:=by
 intro vs hl hp
 apply bX
 intro i
 by_cases hi:i<vs.length
 .have hx:=aQ.mp hp _ (cI hi)
  rw[ao,ez' (by omega),aa hi]
  show some vs[i]=some (V.int ((vN (vs.getD i .non):Nat):Int))
  rw[aP,aa hi]
  show some vs[i]=some (V.int ((vN vs[i]:Nat):Int))
  cases h:vs[i]with
  |int n=>
   rw[h]at hx
   have h0:0<=n:=of_decide_eq_true hx
   show some (V.int n)=some (V.int ((n.toNat:Nat):Int))
   rw[Int.toNat_of_nonneg h0]
  |_=>rw[h]at hx;cases hx
 .rw[bj (by omega),bj (by rw[ac,cD'];omega)]
theorem B8' {K:W.Frag} {H:Hp} {a:Addr} {vs:List V} (h:Lt H a vs):SqE K H a vs:=by
 rcases h with h|h
 .exact⟨false,SqL.of h⟩
 .exact⟨true,SqT.of h⟩
def Bd (o:Option (List V)):Prop:=∀vs,o=some vs->∀x∈vs,vN x<=2 ^ 90
def yQ':Sp:=fun vs H Q _=>∃(a:Addr) (M:List Rm) (p q:Nat) (v:V) (o:Option (List V)),vs=[.ref a,.int p,.int q,v]/\IsM H a M/\OkM M/\M.length<=60/\p<=8/\q<=8/\Tl H v o/\Bd o/\∀H',au' H H'->Q (.bl (gdP M p q o)) H'
def DY':Sp:=fun vs H Q _=>∃(a:Addr) (M:List Rm) (p q:Nat) (v:V) (o:Option (List V)),vs=[.ref a,.int p,.int q,v]/\IsM H a M/\OkM M/\M.length<=60/\p<=8/\q<=8/\Tl H v o/\∀H',au' H H'->Q (.bl (gdP M p q o)) H'
def scT:V->Bool
 | .non=>true
 | .int _=>true
 | .str _=>true
 | .bl _=>true
 |_=>false
def Va (H:Hp) (v:V):Prop:=(scT v=true\/∃a vs,v=.ref a/\Lt H a vs)/\vN v<=2 ^ 90
def Pp (H:Hp) (v:V):Prop:=scT v=true\/∃a vs,v=.ref a/\Lt H a vs/\(∀x∈vs,Va H x)/\vs.length<=61
def p3':Sp:=fun vs H Q _=>∃(b:Addr) (m:Nat) (a pw:Addr) (M:List Rm) (w:Nat->Nat),vs=[.ref b,.ref a,.ref pw]/\H b=some (dL' b m)/\m<=2 ^ 38/\IsM H a M/\1<=M.length/\M.length<=12/\H pw=some (.lst ((wL M w).map nV))/\Up M 1000 w/\∀(pl:Addr) (ws:List V) (H':Hp),Go 40 H H'->H' pl=some (.lst ws)->ws.length<=20->(∀x∈ws,Pp H' x)->Q (.ref pl) H'
theorem B9' {M:List Rm} {u:Nat->Nat} {H:Hp} {c:Addr} (h:H c=some (.lst ((wL M u).map nV))) (hl:M.length<=61):Tl H (.ref c) (some ((wL M u).map nV)):=⟨c,rfl,.inl h,fun x hx=>by
 obtain⟨n,_,rfl⟩:=bi.mp hx
 exact .inl ⟨_,rfl⟩,by rw[ac,cD'];exact hl⟩
structure FsRight (C:Rc):Prop where
 take:C.fs "_law_take"=some aI'
 asked:C.fs "_law_asked"=some gL'
 en:C.fs "enough"=some ud'
 se:C.fs "shows_enough"=some DY'
 papers:C.fs "_law_papers"=some p3'
 due:C.fs "_law_due"=some yQ'
end K29
namespace GR
open PySem PySem.Spec PyProof.Rows L2 R3 LW SR RW
def aZ':Css:=(.cons (.whl (.val (.var 1)) (.cons (.par 0 1 (.var 1) (.bin .Mod (.var 0) (.var 1)))
  .nil))
  (.cons (.ret (.var 0))
  .nil))
def br':Css:=(.cons (.asg (.name 2) (.call "common_divisor" (.cons (.var 0) (.cons (.var 1) .nil))))
  (.cons (.ret (.tup (.cons (.bin .FloorDiv (.var 0) (.var 2)) (.cons (.bin .FloorDiv (.var 1) (.var 2)) .nil))))
  .nil))
def bM':Css:=(.cons (.ret (.cmp .LtE (.bin .Mult (.idx (.var 0) (.int 0)) (.idx (.var 1) (.int 1))) (.bin .Mult (.idx (.var 1) (.int 0)) (.idx (.var 0) (.int 1)))))
  .nil)
def dR':Css:=(.cons (.asg (.name 2) (.comp (.int 1) [3] (.name 3) (.val (.var 0)) .none .nil))
  (.cons (.for_ (.name 4) (.range1 (.var 1)) (.cons (.asg (.name 2) (.comp (.bin .Add (.var 5) (.var 6)) [5,6] (.tup (.cons (.name 5) (.cons (.name 6) .nil))) (.zip (.var 2) (.call "way_sums" (.cons (.var 0) (.cons (.var 2) .nil)))) .none .nil))
  .nil))
  (.cons (.asg (.name 7) (.comp (.call "fraction_of" (.cons (.var 6) (.cons (.var 5) .nil))) [5,6] (.tup (.cons (.name 5) (.cons (.name 6) .nil))) (.zip (.var 2) (.call "way_sums" (.cons (.var 0) (.cons (.var 2) .nil)))) .none .nil))
  (.cons (.asgc 8 9 (.idx (.var 7) (.int 0)))
  (.cons (.for_ (.name 10) (.val (.var 7)) (.cons (.asg (.name 8) (.ife (.val (.call "is_at_most" (.cons (.var 10) (.cons (.var 8) .nil)))) (.var 10) (.var 8)))
  (.cons (.asg (.name 9) (.ife (.val (.call "is_at_most" (.cons (.var 9) (.cons (.var 10) .nil)))) (.var 10) (.var 9)))
  .nil)))
  (.cons (.ret (.tup (.cons (.var 8) (.cons (.var 9) (.cons (.var 2) .nil)))))
  .nil))))))
def yR' (D:Ends) (σ:L2.St) (i j:Nat):VK:=fun v H1=>D.nx ((σ.set i (some v)).set j (some v)) H1
theorem rB' {C:Rc} {D:Ends} {σ:L2.St} {H:Hp} {i j:Nat} {e:Ce}:tS C (.asgc i j e) D σ H=tE C e σ H (yR' D σ i j):=rfl
theorem p4' {D:Ends} {σ:L2.St} {H:Hp} {i j:Nat} {v:V}:yR' D σ i j v H=D.nx ((σ.set i (some v)).set j (some v)) H:=rfl
def gw (M:List Rm):Nat->Nat->Nat
 |0,_=>1
 |s+1,r=>gw M s r+(ow (gw M s) (LW.stp M r false)+ow (gw M s) (LW.stp M r true))
def tw (M:List Rm) (s r:Nat):Nat:=ow (gw M s) (LW.stp M r false)+ow (gw M s) (LW.stp M r true)
def gwL (M:List Rm) (s:Nat):List Int:=(ah M.length).map fun r=>((gw M s r:Nat):Int)
def twL (M:List Rm) (s:Nat):List Int:=(ah M.length).map fun r=>((tw M s r:Nat):Int)
theorem cT' {M:List Rm}:∀{s r:Nat},1<=gw M s r
 |0,_=>ak _
 |s+1,r=>aq (cT' (s:=s) (r:=r)) (aO _ _)
theorem kF' {f:Nat->Nat} {b:Nat} (h:∀m,f m<=b):∀o,ow f o<=b
 |none=>aK _
 |some m=>h m
theorem fZ' {M:List Rm}:∀{s r:Nat},gw M s r<=3 ^ s
 |0,_=>ak _
 |s+1,r=>by
  have h1:=fZ' (M:=M) (s:=s) (r:=r)
  have h2:=kF' (fun m=>fZ' (M:=M) (s:=s) (r:=m)) (LW.stp M r false)
  have h3:=kF' (fun m=>fZ' (M:=M) (s:=s) (r:=m)) (LW.stp M r true)
  show gw M s r+(ow (gw M s) (LW.stp M r false)+ow (gw M s) (LW.stp M r true))<=3 ^ (s+1)
  rw[bK]
  omega
theorem uf' {M:List Rm} {s r:Nat}:tw M s r<=3 ^ (s+1):=by
 have h2:=kF' (fun m=>fZ' (M:=M) (s:=s) (r:=m)) (LW.stp M r false)
 have h3:=kF' (fun m=>fZ' (M:=M) (s:=s) (r:=m)) (LW.stp M r true)
 show ow (gw M s) (LW.stp M r false)+ow (gw M s) (LW.stp M r true)<=_
 rw[bK]
 omega
theorem e0' {a b:Nat} (h:a<=b):3 ^ a<=3 ^ b:=cA (by decide) h
theorem rC' {M:List Rm} {s r:Nat} (h:s<=60):gw M s r<=3 ^ 61:=aq fZ' (e0' (by omega))
theorem yS' {M:List Rm} {s r:Nat} (h:s<=60):tw M s r<=3 ^ 61:=aq uf' (e0' (by omega))
theorem d5' {M:List Rm} {s:Nat}:(gwL M s).length=M.length:=by unfold gwL;simp
theorem i3' {M:List Rm} {s:Nat}:(twL M s).length=M.length:=by unfold twL;simp
theorem ug' {M:List Rm} {s m:Nat} (h:m<M.length):(gwL M s).getD m 0=gw M s m:=by
 unfold gwL
 rw[aP,ao,aY h]
 rfl
theorem rD' {M:List Rm} {s m:Nat} {v:V} (h:((gwL M s).map V.int)[m]?=some v):m<M.length/\v=.int (gw M s m):=by
 have hm:=an' h
 rw[ac,d5']at hm
 rw[ao]at h
 unfold gwL at h
 rw[ao,aY hm]at h
 cases h
 exact⟨hm,rfl⟩
theorem rE' {M:List Rm} {s m:Nat} {v:V} (h:((twL M s).map V.int)[m]?=some v):m<M.length/\v=.int (tw M s m):=by
 have hm:=an' h
 rw[ac,i3']at hm
 rw[ao]at h
 unfold twL at h
 rw[ao,aY hm]at h
 cases h
 exact⟨hm,rfl⟩
theorem yT' {M:List Rm} (hM:OkM M) {s r:Nat} {c:Bool}:oi (gwL M s) (LW.stp M r c)=((ow (gw M s) (LW.stp M r c):Nat):Int):=by
 cases e:LW.stp M r c with
 |none=>rfl
 |some m=>exact ug' (ds' hM e)
theorem rF' {M:List Rm} (hM:OkM M) {s:Nat}:wsL M (gwL M s) M.length=twL M s:=by
 unfold wsL twL
 apply bL
 intro r _
 rw[yT' hM,yT' hM]
 unfold tw
 omega
theorem nx' {n:Nat} (h:n<=3 ^ 61) (h1:1<=n):sQ' i (n:Int):=by
 refine⟨by omega,.inr ?_⟩
 rw[cV]
 exact aj (Nat.log2_lt (by omega) |>.mpr (bG h (by decide:3 ^ 61<2 ^ 100))) (by decide)
theorem jO' {a b:Nat} (ha:a<=3 ^ 61) (hb:b<=3 ^ 61):o1' (a:Int) (b:Int):=nj' (aq ha (by decide)) (aq hb (by decide))
def cE':Sp:=fun vs H Q _=>∃(x y:Nat),vs=[.int x,.int y]/\Q (.int (bW x y)) H
theorem i4' {C:Rc} (hN:C.N.length=2):∀vs H Q E,cE' vs H Q E->tSs C aZ' { nx:=fun _ H'=>Q .non H',rt:=Q } (L2.ay' C.N vs) H:=by
 intro vs H Q E h
 obtain⟨x,y,rfl,q⟩:=h
 rw[aj' hN]
 unfold aZ'
 symm
 refine jB' (fun m σ H'=>H'=H/\∃u v:Nat,σ=[some (.int u),some (.int v)]/\m=v/\bW u v=bW x y) y ⟨rfl,x,y,rfl,rfl,rfl⟩ ?_
 rintro m σ H' ⟨rfl,u,v,rfl,rfl,hg⟩
 symm
 by_cases hv:m=0
 .subst hv
  rw[show(!decide (((0:Nat):Int)=0))=false from rfl]
  refine jD' ?_
  symm
  rw[Nat.gcd_zero_right]at hg
  rw[hg]
  exact q
 .rw[show(!decide (((m:Nat):Int)=0))=true by simp;omega]
  refine jC' ?_
  symm
  refine⟨by omega,u % m,Nat.mod_lt _ (by omega),trivial,m,u % m,?_,rfl,?_⟩
  .rw[Int.natCast_emod]
  .rw[<- hg,Nat.gcd_comm u m,Nat.gcd_rec m u,Nat.gcd_comm]
def ik':Sp:=fun vs H Q _=>∃(x y:Nat),vs=[.int x,.int y]/\1<=y/\y<=3 ^ 61/\∀p,H p=none->Q (.ref p) (upd H p (.tup [.int ((x / bW x y:Nat):Int),.int ((y / bW x y:Nat):Int)]))
theorem rG' {x y:Nat} (h:1<=y):bW x y<=y:=Nat.le_of_dvd h (Nat.gcd_dvd_right x y)
theorem ny' {x y:Nat} (h:1<=y):1<=bW x y:=Nat.gcd_pos_of_pos_right x h
theorem nz' {C:Rc} (hN:C.N.length=3) (hC:C.fs "common_divisor"=some cE'):∀vs H Q E,ik' vs H Q E->tSs C br' { nx:=fun _ H'=>Q .non H',rt:=Q } (L2.ay' C.N vs) H:=by
 intro vs H Q E h
 obtain⟨x,y,rfl,hy,hy2,q⟩:=h
 rw[aj' hN]
 unfold br'
 symm
 refine ag' hC ?_
 symm
 refine⟨x,y,rfl,?_⟩
 have hd:=nx' (i:=x) (aq (rG' (x:=x) hy) hy2) (ny' (x:=x) hy)
 symm
 refine⟨hd,hd,by decide,fun p hp=>?_⟩
 have:=q p hp
 rw[Int.natCast_ediv,Int.natCast_ediv]at this
 exact this
def b7':Sp:=fun vs H Q _=>∃(a b:Addr) (x y u v:Nat),vs=[.ref a,.ref b]/\H a=some (.tup [.int x,.int y])/\H b=some (.tup [.int u,.int v])/\x<=3 ^ 61/\y<=3 ^ 61/\u<=3 ^ 61/\v<=3 ^ 61/\Q (.bl (decide (x*v<=u*y))) H
theorem i5' {C:Rc} (hN:C.N.length=2):∀vs H Q E,b7' vs H Q E->tSs C bM' { nx:=fun _ H'=>Q .non H',rt:=Q } (L2.ay' C.N vs) H:=by
 intro vs H Q E h
 obtain⟨a,b,x,y,u,v,rfl,ha,hb,hx,hy,hu,hv,q⟩:=h
 rw[aj' hN]
 unfold bM'
 symm
 refine aA' (SqT.of ha) (v:=.int x) rfl ?_
 symm
 refine aA' (SqT.of hb) (v:=.int v) rfl ?_
 symm
 refine⟨jO' hx hv,?_⟩
 refine aA' (SqT.of hb) (v:=.int u) rfl ?_
 symm
 refine aA' (SqT.of ha) (v:=.int y) rfl ?_
 symm
 refine⟨jO' hu hy,?_⟩
 have e:decide ((x:Int)*v<=u*y)=decide (x*v<=u*y):=by
  exact decide_eq_decide.mpr ⟨fun h=>by exact_mod_cast h,fun h=>by exact_mod_cast h⟩
 rw[e]
 exact q
def Df' (M:List Rm) (s p q:Nat):Prop:=bW p q=1/\1<=q/\(∀r,r<M.length->p*gw M s r<=tw M s r*q)/\∃r,r<M.length/\p*gw M s r=tw M s r*q
def Dg' (M:List Rm) (s p q:Nat):Prop:=bW p q=1/\1<=q/\(∀r,r<M.length->tw M s r*q<=p*gw M s r)/\∃r,r<M.length/\p*gw M s r=tw M s r*q
def fp (M:List Rm) (s r:Nat):Nat:=tw M s r / bW (tw M s r) (gw M s r)
def fq (M:List Rm) (s r:Nat):Nat:=gw M s r / bW (tw M s r) (gw M s r)
theorem jP' {M:List Rm} {s r:Nat}:bW (fp M s r) (fq M s r)=1:=Nat.gcd_div_gcd_div_gcd_of_pos_right cT'
theorem il' {M:List Rm} {s r:Nat}:fp M s r*gw M s r=tw M s r*fq M s r:=by
 unfold fp fq
 obtain⟨u,hu⟩:=Nat.gcd_dvd_left (tw M s r) (gw M s r)
 obtain⟨v,hv⟩:=Nat.gcd_dvd_right (tw M s r) (gw M s r)
 have hg:1<=bW (tw M s r) (gw M s r):=ny' cT'
 generalize bW (tw M s r) (gw M s r)=g at hu hv hg
 rw[hu,hv,Nat.mul_div_cancel_left _ hg,Nat.mul_div_cancel_left _ hg,bY,aU]
theorem gh' {M:List Rm} {s r:Nat}:1<=fq M s r:=Nat.div_pos (rG' cT') (ny' cT')
theorem i6' {M:List Rm} {s r:Nat} (h:s<=60):fp M s r<=3 ^ 61:=aq (Nat.div_le_self _ _) (yS' h)
theorem i7' {M:List Rm} {s r:Nat} (h:s<=60):fq M s r<=3 ^ 61:=aq (Nat.div_le_self _ _) (rC' h)
def yU' (M:List Rm) (s i p q:Nat):Prop:=bW p q=1/\1<=q/\p<=3 ^ 61/\q<=3 ^ 61/\(∀r,r<i->p*gw M s r<=tw M s r*q)/\∃r,r<M.length/\p*gw M s r=tw M s r*q
def yV' (M:List Rm) (s i u v:Nat):Prop:=bW u v=1/\1<=v/\u<=3 ^ 61/\v<=3 ^ 61/\(∀r,r<i->tw M s r*v<=u*gw M s r)/\∃r,r<M.length/\u*gw M s r=tw M s r*v
theorem uh' {M:List Rm} {n i p q:Nat} (h:yU' M n i p q) (hi:i<M.length) (hn:n<=60) (hc:fp M n i*q<=p*fq M n i):yU' M n (i+1) (fp M n i) (fq M n i):=by
 obtain⟨l1,l2,hp,hq,l3,l4⟩:=h
 refine⟨jP',gh',i6' hn,i7' hn,fun r hr=>?_,i,hi,il'⟩
 by_cases e:r=i
 .subst e;exact Nat.le_of_eq il'
 .have h3:=l3 r (by omega)
  refine bC (c:=q) ?_ l2
  calc fp M n i*gw M n r*q=(fp M n i*q)*gw M n r:=by rw[aW]
   _<=(p*fq M n i)*gw M n r:=aH _ hc
   _=(p*gw M n r)*fq M n i:=by rw[aW]
   _<=(tw M n r*q)*fq M n i:=aH _ h3
   _=tw M n r*fq M n i*q:=by rw[aW]
theorem ui' {M:List Rm} {n i p q:Nat} (h:yU' M n i p q) (hc:¬fp M n i*q<=p*fq M n i):yU' M n (i+1) p q:=by
 obtain⟨l1,l2,hp,hq,l3,l4⟩:=h
 refine⟨l1,l2,hp,hq,fun r hr=>?_,l4⟩
 by_cases e:r=i
 .subst e
  have hc':p*fq M n r<=fp M n r*q:=by omega
  refine bC (c:=fq M n r) ?_ gh'
  calc p*gw M n r*fq M n r=(p*fq M n r)*gw M n r:=by rw[aW]
   _<=(fp M n r*q)*gw M n r:=aH _ hc'
   _=(fp M n r*gw M n r)*q:=by rw[aW]
   _=(tw M n r*fq M n r)*q:=by rw[il']
   _=tw M n r*q*fq M n r:=by rw[aW]
 .exact l3 r (by omega)
theorem nA' {M:List Rm} {n i u v:Nat} (h:yV' M n i u v) (hi:i<M.length) (hn:n<=60) (hc:u*fq M n i<=fp M n i*v):yV' M n (i+1) (fp M n i) (fq M n i):=by
 obtain⟨g1,g2,hp,hq,g3,g4⟩:=h
 refine⟨jP',gh',i6' hn,i7' hn,fun r hr=>?_,i,hi,il'⟩
 by_cases e:r=i
 .subst e;exact Nat.le_of_eq il'.symm
 .have h3:=g3 r (by omega)
  refine bC (c:=v) ?_ g2
  calc tw M n r*fq M n i*v=(tw M n r*v)*fq M n i:=by rw[aW]
   _<=(u*gw M n r)*fq M n i:=aH _ h3
   _=(u*fq M n i)*gw M n r:=by rw[aW]
   _<=(fp M n i*v)*gw M n r:=aH _ hc
   _=fp M n i*gw M n r*v:=by rw[aW]
theorem nB' {M:List Rm} {n i u v:Nat} (h:yV' M n i u v) (hc:¬u*fq M n i<=fp M n i*v):yV' M n (i+1) u v:=by
 obtain⟨g1,g2,hp,hq,g3,g4⟩:=h
 refine⟨g1,g2,hp,hq,fun r hr=>?_,g4⟩
 by_cases e:r=i
 .subst e
  have hc':fp M n r*v<=u*fq M n r:=by omega
  refine bC (c:=fq M n r) ?_ gh'
  calc tw M n r*v*fq M n r=(tw M n r*fq M n r)*v:=by rw[aW]
   _=(fp M n r*gw M n r)*v:=by rw[il']
   _=(fp M n r*v)*gw M n r:=by rw[aW]
   _<=(u*fq M n r)*gw M n r:=aH _ hc'
   _=u*gw M n r*fq M n r:=by rw[aW]
 .exact g3 r (by omega)
def gi' (H:Hp) (a:Addr) (p q:Nat):Prop:=H a=some (.tup [.int p,.int q])
def be':Sp:=fun vs H Q _=>∃(a:Addr) (M:List Rm) (n:Nat),vs=[.ref a,.int n]/\IsM H a M/\OkM M/\1<=M.length/\M.length<=100/\n<=60/\
 ∀(t l h w:Addr) (p q u v:Nat) (H':Hp),au' H H'->H w=none->H' t=some (.tup [.ref l,.ref h,.ref w])->gi' H' l p q->gi' H' h u v->H' w=some (.lst ((gwL M n).map V.int))->Df' M n p q->Dg' M n u v->Q (.ref t) H'
theorem uj' {C:Rc} {σ:L2.St} {H:Hp} {Q:VK} {i j:Nat} {w y:Addr} {M:List Rm} {s:Nat} (hij:i≠j) (hi:i<(clr [i,j] σ).length) (hj:j<(clr [i,j] σ).length) (hM:M.length<=100) (hw:H w=some (.lst ((gwL M s).map V.int))) (hy:H y=some (.lst ((twL M s).map V.int)))
  (q:∀p H',H p=none->au' H H'->H' p=some (.lst ((gwL M (s+1)).map V.int))->Q (.ref p) H'):h6' C (.bin .Add (.var i) (.var j)) [i,j] (.tup (.cons (.name i) (.cons (.name j) .nil))) .none σ Q (Itz false C.K w y) H:=by
 refine q9' (vs:=(gwL M s).map V.int) (ws:=(twL M s).map V.int) (by rw[ac,ac,d5',i3']) (fun k xs H'=>au' H H'/\xs=((ah k).map fun r=>((gw M (s+1) r:Nat):Int)).map V.int) ⟨au'.refl _,rfl⟩ (fun k xs H' pv=>⟨SqL.of (pv.1 _ _ hw),SqL.of (pv.1 _ _ hy)⟩) ?_ ?_
 .rintro k xs H' x z p R hx hz hp ⟨s1,rfl⟩ hR
  obtain⟨hk,rfl⟩:=rD' hx
  obtain⟨_,rfl⟩:=rE' hz
  refine dA' (SqT.of ac') ?_
  have e1:(((clr [i,j] σ).set i (some (V.int (gw M s k)))).set j (some (V.int (tw M s k))))[i]?=some (some (V.int (gw M s k))):=by
   rw[cf (fun h=>hij h.symm),cG hi]
  have e2:(((clr [i,j] σ).set i (some (V.int (gw M s k)))).set j (some (V.int (tw M s k))))[j]?=some (some (V.int (tw M s k))):=by
   rw[cG (by rw[List.length_set];exact hj)]
  rw[xY']
  simp only[q3',q2',e1,e2,mO',q4',q5',w9',jE']
  refine⟨by simp;exact al' (by omega),hR _ _ ⟨s1.trans (ae' hp _),?_⟩⟩
  rw[bx,ax,ax]
  rfl
 .rintro xs H' ⟨s1,rfl⟩ p hp
  have hl:((gwL M s).map V.int).length=M.length:=by rw[ac,d5']
  rw[hl]
  exact q p _ (s1.free hp) (s1.trans (ae' hp _)) ac'
theorem i8' {C:Rc} (hN:C.N.length=11) (hW:C.fs "way_sums"=some (aJ' C.K)) (hF:C.fs "fraction_of"=some ik') (hA:C.fs "is_at_most"=some b7'):∀vs H Q E,be' vs H Q E->tSs C dR' { nx:=fun _ H'=>Q .non H',rt:=Q } (L2.ay' C.N vs) H:=by
 intro vs H Q E h
 obtain⟨a,M,n,rfl,hM,hO,hM1,hM2,hn,q⟩:=h
 rw[aj' hN]
 unfold dR'
 obtain⟨rv,ha,hrv⟩:=id hM
 symm
 refine bo' (SqT.of ha) (gd' (vs:=rv) (fun i xs H'=>H'=H/\xs=((ah i).map fun r=>((gw M 0 r:Nat):Int)).map V.int) ⟨rfl,rfl⟩ (fun i xs H' pv=>by rw[pv.1];exact SqT.of ha) ?_ ?_)
 .rintro i xs H' x R hx ⟨rfl,rfl⟩ hR
  have hi:=an' hx
  rw[hrv.len]at hi
  symm
  refine⟨by simp;exact al' (by omega),hR _ _ ⟨rfl,?_⟩⟩
  rw[bx,ax,ax]
  rfl
 rintro xs H' ⟨rfl,rfl⟩ w0 hw0
 rw[hrv.len]
 have s1:=ae' hw0 (.lst (((ah M.length).map fun r=>((gw M 0 r:Nat):Int)).map V.int))
 have hw1:upd H' w0 (.lst (((ah M.length).map fun r=>((gw M 0 r:Nat):Int)).map V.int)) w0=some (.lst ((gwL M 0).map V.int)):=ac'
 generalize upd H' w0 (.lst (((ah M.length).map fun r=>((gw M 0 r:Nat):Int)).map V.int))=H1 at s1 hw1 ⊢
 symm
 refine fH' (by omega) (by omega) (h5' (fun i σ H2=>au' H' H2/\∃w x3 x4 x5 x6 x7 x8 x9 x10,σ=[some (.ref a),some (.int n),some (.ref w),x3,x4,x5,x6,x7,x8,x9,x10]/\H' w=none/\H2 w=some (.lst ((gwL M i).map V.int))) ⟨s1,w0,none,none,none,none,none,none,none,none,rfl,hw0,hw1⟩ ?_ ?_)
 .rintro i σ H2 hi ⟨s2,w,x3,x4,x5,x6,x7,x8,x9,x10,rfl,hw,hw2⟩
  symm
  refine ag' hW ?_
  symm
  refine⟨a,w,M,gwL M i,rfl,hM.mono (ap' s2),hO,by omega,SqL.of hw2,d5',fun y hy=>?_⟩
  rw[rF' hO]
  have s3:=ae' hy (.lst ((twL M i).map V.int))
  have hy3:upd H2 y (.lst ((twL M i).map V.int)) y=some (.lst ((twL M i).map V.int)):=ac'
  generalize upd H2 y (.lst ((twL M i).map V.int))=H3 at s3 hy3 ⊢
  have hw3:=s3 _ _ hw2
  refine mV' (SqL.of hw3) (SqL.of hy3) (uj' (by decide) (by simp[clr]) (by simp[clr]) hM2 hw3 hy3 fun p H4 hp s4 hp4=>?_)
  symm
  exact⟨s2.trans (s3.trans s4),p,_,_,_,_,_,_,_,_,rfl,(s2.trans s3).free hp,hp4⟩
 rintro σ H2 ⟨s2,w,x3,x4,x5,x6,x7,x8,x9,x10,rfl,hw,hw2⟩
 rw[bb]at hw2
 symm
 refine ag' hW ?_
 symm
 refine⟨a,w,M,gwL M n,rfl,hM.mono (ap' s2),hO,by omega,SqL.of hw2,d5',fun y hy=>?_⟩
 rw[rF' hO]
 have s3:=ae' hy (.lst ((twL M n).map V.int))
 have hy3:upd H2 y (.lst ((twL M n).map V.int)) y=some (.lst ((twL M n).map V.int)):=ac'
 generalize upd H2 y (.lst ((twL M n).map V.int))=H3 at s3 hy3 ⊢
 have hw3:=s3 _ _ hw2
 refine mV' (SqL.of hw3) (SqL.of hy3) (q9' (vs:=(gwL M n).map V.int) (ws:=(twL M n).map V.int) (by rw[ac,ac,d5',i3']) (fun k xs H4=>au' H3 H4/\k<=M.length/\ct' (fun v r=>∃p,v=V.ref p/\gi' H4 p (fp M n r) (fq M n r)) xs (ah k)) ⟨au'.refl _,by omega,trivial⟩ (fun k xs H4 pv=>⟨SqL.of (pv.1 _ _ hw3),SqL.of (pv.1 _ _ hy3)⟩) ?_ ?_)
 .rintro k xs H4 x z p R hx hz hp ⟨s4,_,hxs⟩ hR
  obtain⟨hk,rfl⟩:=rD' hx
  obtain⟨_,rfl⟩:=rE' hz
  refine dA' (SqT.of ac') ?_
  have s5:=ae' hp (.tup [V.int (gw M n k),V.int (tw M n k)])
  generalize upd H4 p (.tup [V.int (gw M n k),V.int (tw M n k)])=H5 at s5 ⊢
  symm
  refine ag' hF ?_
  symm
  refine⟨tw M n k,gw M n k,rfl,cT',rC' hn,fun f hf=>?_⟩
  have s6:=ae' hf (.tup [.int ((fp M n k:Nat):Int),.int ((fq M n k:Nat):Int)])
  have hf6:upd H5 f (.tup [.int ((fp M n k:Nat):Int),.int ((fq M n k:Nat):Int)]) f=some (.tup [.int ((fp M n k:Nat):Int),.int ((fq M n k:Nat):Int)]):=ac'
  show gF' xs R (.ref f) (upd H5 f (.tup [.int ((fp M n k:Nat):Int),.int ((fq M n k:Nat):Int)]))
  generalize upd H5 f (.tup [.int ((fp M n k:Nat):Int),.int ((fq M n k:Nat):Int)])=H6 at s6 hf6 ⊢
  have hl:=hxs.len
  rw[aR]at hl
  refine⟨al' (by omega),hR _ _ ⟨s4.trans (s5.trans s6),by omega,?_⟩⟩
  rw[bx]
  exact ct'.snoc (hxs.mono fun v r ⟨p,e,h⟩=>⟨p,e,(s5.trans s6) _ _ h⟩) ⟨f,rfl,hf6⟩
 rintro xs H4 ⟨s4,_,hxs⟩ fl hfl
 rw[ac,d5']at hxs
 have hlx:=hxs.len
 rw[aR]at hlx
 have s5:=ae' hfl (.lst xs)
 have hfl5:upd H4 fl (.lst xs) fl=some (.lst xs):=ac'
 generalize upd H4 fl (.lst xs)=H5 at s5 hfl5 ⊢
 replace hxs:=hxs.mono fun v r ⟨p,e,h⟩=>(⟨p,e,s5 _ _ h⟩:∃p,v=V.ref p/\gi' H5 p (fp M n r) (fq M n r))
 have hw5:=(s4.trans s5) _ _ hw3
 obtain⟨v0,e0,f0,rfl,hf0⟩:=hxs.get (i:=0) (b:=0) (by rw[aY (by omega)])
 have ea:atI xs 0=some (.ref f0):=by
  have:=a8' (j:=0) e0
  exact this
 symm
 rw[rB']
 symm
 refine a3' (SqL.of hfl5) ea ?_
 simp only[rB',p4']
 symm
 refine aF' (SqL.of hfl5) (px' (xs:=xs) (fun i σ H6=>H6=H5/\∃l h x3 x4 x5 x6 x10 p q u v,σ=[some (.ref a),some (.int n),some (.ref w),x3,x4,x5,x6,some (.ref fl),some (.ref l),some (.ref h),x10]/\gi' H5 l p q/\gi' H5 h u v/\yU' M n i p q/\yV' M n i u v)
   ⟨rfl,f0,f0,_,_,_,_,_,_,_,_,_,rfl,hf0,hf0,⟨jP',gh',i6' hn,i7' hn,(fun r hr=>by omega),0,by omega,il'⟩,⟨jP',gh',i6' hn,i7' hn,(fun r hr=>by omega),0,by omega,il'⟩⟩ (fun i σ H6 _ pv=>by rw[pv.1];exact SqL.of hfl5) ?_ ?_)
 .rintro i x σ H6 hx ⟨rfl,l,h,x3,x4,x5,x6,x10,p,q,u,v,rfl,hl,hh,hlo,hhi⟩
  obtain⟨r',er,f,rfl,hf⟩:=hxs.getL hx
  have hi:i<M.length:=by rw[<- hlx];exact an' hx
  rw[aY hi]at er
  cases er
  symm
  refine ag' hA ?_
  symm
  refine⟨f,l,_,_,p,q,rfl,hf,hl,i6' hn,i7' hn,hlo.2.2.1,hlo.2.2.2.1,?_⟩
  symm
  refine bB' (fun hc=>?_) fun hc=>?_
  .have hlo':=uh' hlo hi hn hc
   symm
   refine ag' hA ?_
   symm
   refine⟨h,f,u,v,_,_,rfl,hh,hf,hhi.2.2.1,hhi.2.2.2.1,i6' hn,i7' hn,?_⟩
   symm
   refine bB' (fun hd=>?_) fun hd=>?_
   .symm
    exact⟨trivial,f,f,_,_,_,_,_,_,_,_,_,rfl,hf,hf,hlo',nA' hhi hi hn hd⟩
   .symm
    exact⟨trivial,f,h,_,_,_,_,_,_,_,_,_,rfl,hf,hh,hlo',nB' hhi hd⟩
  .have hlo':=ui' hlo hc
   symm
   refine ag' hA ?_
   symm
   refine⟨h,f,u,v,_,_,rfl,hh,hf,hhi.2.2.1,hhi.2.2.2.1,i6' hn,i7' hn,?_⟩
   symm
   refine bB' (fun hd=>?_) fun hd=>?_
   .symm
    exact⟨trivial,l,f,_,_,_,_,_,_,_,_,_,rfl,hl,hf,hlo',nA' hhi hi hn hd⟩
   .symm
    exact⟨trivial,l,h,_,_,_,_,_,_,_,_,_,rfl,hl,hh,hlo',nB' hhi hd⟩
 .rintro σ H6 ⟨rfl,l,h,x3,x4,x5,x6,x10,p,q',u,v,rfl,hl,hh,hlo,hhi⟩
  rw[hlx]at hlo hhi
  symm
  refine⟨by decide,fun t ht=>?_⟩
  have s6:=ae' ht (.tup [V.ref l,V.ref h,V.ref w])
  exact q t l h w p q' u v _ (s2.trans (s3.trans (s4.trans (s5.trans s6)))) hw ac' (s6 _ _ hl) (s6 _ _ hh) (s6 _ _ hw5) ⟨hlo.1,hlo.2.1,hlo.2.2.2.2.1,hlo.2.2.2.2.2⟩ ⟨hhi.1,hhi.2.1,hhi.2.2.2.2.1,hhi.2.2.2.2.2⟩
end GR
namespace K26
open PySem PySem.Spec PyProof.Rows L2 R3 LW
def bs':Css:=(.cons (.ite (.not (.and (.val (.call "is_pair" (.cons (.var 0) .nil))) (.and (.val (.call "is_number" (.cons (.idx (.var 0) (.int 0)) .nil))) (.val (.call "is_number" (.cons (.idx (.var 0) (.int 1)) .nil)))))) (.cons (.ret (.bl false))
  .nil) .nil)
  (.cons (.ret (.and (.cmp .GtE (.idx (.var 0) (.int 0)) (.int 0)) (.and (.cmp .GtE (.idx (.var 0) (.int 1)) (.int 1)) (.cmp .Eq (.call "common_divisor" (.cons (.idx (.var 0) (.int 0)) (.cons (.idx (.var 0) (.int 1)) .nil))) (.int 1)))))
  .nil))
def bt':Css:=(.cons (.ret (.and (.call "are_numbers" (.cons (.var 0) (.cons (.var 1) .nil))) (.blt .all (.cons (.comp (.cmp .GtE (.var 2) (.int 1)) [2] (.name 2) (.val (.var 0)) .none .nil) .nil))))
  .nil)
def aX':Css:=(.cons (.ite (.not (.and (.val (.call "is_machine" (.cons (.var 0) .nil))) (.and (.val (.call "is_fraction" (.cons (.var 1) .nil))) (.val (.call "is_fraction" (.cons (.var 2) .nil)))))) (.cons (.ret (.bl false))
  .nil) .nil)
  (.cons (.ite (.not (.val (.call "are_weights" (.cons (.var 3) (.cons (.blt .len (.cons (.var 0) .nil)) .nil))))) (.cons (.ret (.bl false))
  .nil) .nil)
  (.cons (.asg (.name 4) (.lzp (.call "way_sums" (.cons (.var 0) (.cons (.var 3) .nil))) (.var 3)))
  (.cons (.ret (.blt .all (.cons (.comp (.and (.call "is_at_most" (.cons (.var 1) (.cons (.var 5) .nil))) (.call "is_at_most" (.cons (.var 5) (.cons (.var 2) .nil)))) [5] (.name 5) (.val (.var 4)) .none .nil) .nil)))
  .nil))))
open K30 K31 SR CK RW K28 K29 GR
def vI:V->Int
 | .int i=>i
 |_=>0
def Ft (H:Hp) (v:V):Option (List V)->Prop
 |some xs=>∃a,v=.ref a/\H a=some (.tup xs)/\∀x∈xs,Val H x
 |none=>∃T∈["NoneType","bool","int","str","list"],bm' H v=some T
theorem Ft.mono {H H':Hp} (s:au' H H') {v:V} {o:Option (List V)} (h:Ft H v o):Ft H' v o:=by
 cases o with
 |none=>
  obtain⟨T,hT,h⟩:=h
  exact⟨T,hT,iV' s h⟩
 |some xs=>
  obtain⟨a,e,h1,h2⟩:=h
  exact⟨a,e,s _ _ h1,fun x hx=>(h2 x hx).mono s⟩
theorem yW' {K:W.Frag} {H:Hp} {Q:VK} {v:V} {o:Option (List V)} (h:Ft H v o) (q:Q (.bl o.isSome) H):dJ' K .isinstance [v,.ty "tuple"] H Q:=by
 cases o with
 |none=>
  obtain⟨T,hT,h⟩:=h
  simp only[ap,aA,or_false]at hT
  rcases hT with rfl|rfl|rfl|rfl|rfl<;>exact na' h (k:=false) rfl (by decide) (by decide) q
 |some xs=>
  obtain⟨a,rfl,h1,_⟩:=h
  exact na' (T:="tuple") (by simp only[bm',h1]) (k:=true) rfl (by decide) (by decide) q
def pr2:Option (List V)->Bool
 |some xs=>decide ((xs.length:Int)=2)
 |none=>false
def dC':Sp:=fun vs H Q _=>∃v o,vs=[v]/\Ft H v o/\Q (.bl (pr2 o)) H
theorem kH' {C:Rc} (hN:C.N.length=1):∀vs H Q E,dC' vs H Q E->tSs C c0' { nx:=fun _ H'=>Q .non H',rt:=Q } (L2.ay' C.N vs) H:=by
 intro vs H Q E h
 obtain⟨v,o,rfl,hv,q⟩:=h
 rw[aj' hN]
 unfold c0'
 symm
 refine yW' hv ?_
 cases o with
 |none=>
  simp only[Option.isSome]
  symm
  exact q
 |some xs=>
  obtain⟨a,rfl,h1,_⟩:=hv
  simp only[Option.isSome]
  symm
  refine cl' (SqT.of h1) ?_
  symm
  exact q
theorem yX' {H:Hp} (o:Option Nat):Val H (oV o):=by
 cases o with
 |none=>exact .inr ⟨fun i z=>(nomatch z),"NoneType",by decide,rfl⟩
 |some x=>exact .inl ⟨_,rfl⟩
theorem kI' {C:Rc} (hN:C.N.length=2) (hP:C.fs "is_pair"=some dC') (hL:C.fs "is_lead"=some h7'):∀vs H Q E,h8' vs H Q E->tSs C c2' { nx:=fun _ H'=>Q .non H',rt:=Q } (L2.ay' C.N vs) H:=by
 intro vs H Q E h
 obtain⟨p,r,N,rfl,hp,hr,q⟩:=h
 rw[aj' hN]
 unfold c2'
 symm
 refine ag' hP ?_
 symm
 refine⟨.ref p,some [oV r.1,oV r.2],rfl,⟨p,rfl,hp,fun x hx=>?_⟩,?_⟩
 .simp only[ap,aA,or_false]at hx
  rcases hx with rfl|rfl<;>exact yX' _
 rw[show pr2 (some [oV r.1,oV r.2])=true from rfl]
 symm
 refine ag' hL ?_
 symm
 refine aA' (SqT.of hp) (v:=oV r.1) rfl ?_
 symm
 refine⟨r.1,N,rfl,hr.1,?_⟩
 symm
 refine ag' hL ?_
 symm
 refine aA' (SqT.of hp) (v:=oV r.2) rfl ?_
 symm
 refine⟨r.2,N,rfl,hr.2,?_⟩
 symm
 exact q
def frP (x y:V):Bool:=isN x&&(isN y&&(decide (0<=vI x)&&(decide (1<=vI y)&&decide (bW (vI x).toNat (vI y).toNat=1))))
def frB:Option (List V)->Bool
 |some [x,y]=>frP x y
 |_=>false
theorem nC' {xs:List V} (h:¬(xs.length:Int)=2):frB (some xs)=false:=by
 match xs,h with
 | [],_=>rfl
 | [_],_=>rfl
 | [_,_],h=>exact absurd rfl h
 |_ :: _ :: _ :: _,_=>rfl
theorem rH' {xs:List V} (h:(xs.length:Int)=2):∃x y,xs=[x,y]:=by
 match xs,h with
 | [x,y],_=>exact⟨x,y,rfl⟩
 | [],h=>cases h
 | [_],h=>cases h
 |a :: b :: c :: l,h=>simp only[bg]at h;omega
theorem eO' {x:V} (h:isN x=true):∃i,x=.int i:=by
 cases x with
 |int i=>exact⟨i,rfl⟩
 |_=>cases h
def gj':Sp:=fun vs H Q _=>∃v o,vs=[v]/\Ft H v o/\Q (.bl (frB o)) H
theorem nD' {C:Rc} (hN:C.N.length=1) (hP:C.fs "is_pair"=some dC') (hI:C.fs "is_number"=some cm') (hD:C.fs "common_divisor"=some cE'):∀vs H Q E,gj' vs H Q E->tSs C bs' { nx:=fun _ H'=>Q .non H',rt:=Q } (L2.ay' C.N vs) H:=by
 intro vs H Q E h
 obtain⟨v,o,rfl,hv,q⟩:=h
 rw[aj' hN]
 unfold bs'
 symm
 refine ag' hP ?_
 symm
 refine⟨v,o,rfl,hv,?_⟩
 cases o with
 |none=>
  simp only[pr2]
  symm
  exact q
 |some xs=>
  obtain⟨a,rfl,h1,h2⟩:=hv
  simp only[pr2]
  by_cases hl:(xs.length:Int)=2
  case neg=>
   rw[nC' hl]at q
   rw[decide_eq_false hl]
   symm
   exact q
  obtain⟨x,y,rfl⟩:=rH' hl
  rw[decide_eq_true hl]
  symm
  refine ag' hI ?_
  symm
  refine aA' (SqT.of h1) (v:=x) rfl ?_
  symm
  refine⟨x,rfl,h2 x (by simp),?_⟩
  have q:Q (.bl (frP x y)) H:=q
  unfold frP at q
  cases ex:isN x with
  |false=>
   rw[ex,cm]at q
   symm
   exact q
  |true=>
   rw[ex,bR]at q
   symm
   refine ag' hI ?_
   symm
   refine aA' (SqT.of h1) (v:=y) rfl ?_
   symm
   refine⟨y,rfl,h2 y (by simp),?_⟩
   cases ey:isN y with
   |false=>
    rw[ey,cm]at q
    symm
    exact q
   |true=>
    rw[ey,bR]at q
    obtain⟨i,rfl⟩:=eO' ex
    obtain⟨j,rfl⟩:=eO' ey
    have q:Q (.bl (decide (0<=i)&&(decide (1<=j)&&decide (bW i.toNat j.toNat=1)))) H:=q
    symm
    refine aA' (SqT.of h1) (v:=.int i) rfl ?_
    symm
    by_cases hi:0<=i
    case neg=>
     rw[decide_eq_false hi,cm]at q
     rw[decide_eq_false hi]
     symm
     exact q
    rw[decide_eq_true hi,bR]at q
    rw[decide_eq_true hi]
    symm
    refine aA' (SqT.of h1) (v:=.int j) rfl ?_
    symm
    by_cases hj:1<=j
    case neg=>
     rw[decide_eq_false hj,cm]at q
     rw[decide_eq_false hj]
     symm
     exact q
    rw[decide_eq_true hj,bR]at q
    rw[decide_eq_true hj]
    symm
    refine ag' hD ?_
    symm
    refine aA' (SqT.of h1) (v:=.int i) rfl ?_
    symm
    refine aA' (SqT.of h1) (v:=.int j) rfl ?_
    symm
    obtain⟨n,rfl⟩:=aL hi
    obtain⟨m,rfl⟩:=aL (show 0<=j by omega)
    refine⟨n,m,rfl,?_⟩
    symm
    rw[bb,bb]at q
    have e:decide (((bW n m:Nat):Int)=1)=decide (bW n m=1):=decide_eq_decide.mpr ⟨fun h=>by omega,fun h=>by omega⟩
    rw[e]
    exact q
def fN:Option (List V)->Nat
 |some [x,_]=>(vI x).toNat
 |_=>0
def fD:Option (List V)->Nat
 |some [_,y]=>(vI y).toNat
 |_=>0
theorem Ft.good {H:Hp} {v:V} {o:Option (List V)} (h:Ft H v o) (g:frB o=true):∃a,v=.ref a/\H a=some (.tup [.int (fN o),.int (fD o)])/\1<=fD o/\bW (fN o) (fD o)=1:=by
 cases o with
 |none=>cases g
 |some xs=>
  obtain⟨a,rfl,h1,_⟩:=h
  by_cases hl:(xs.length:Int)=2
  case neg=>rw[nC' hl]at g;cases g
  obtain⟨x,y,rfl⟩:=rH' hl
  have g:frP x y=true:=g
  unfold frP at g
  simp only[af,decide_eq_true_eq]at g
  obtain⟨g1,g2,g3,g4,g5⟩:=g
  obtain⟨i,rfl⟩:=eO' g1
  obtain⟨j,rfl⟩:=eO' g2
  simp only[vI]at g3 g4 g5
  refine⟨a,rfl,?_,?_,g5⟩
  .rw[h1]
   show _=some (HO.tup [V.int ((i.toNat:Nat):Int),V.int ((j.toNat:Nat):Int)])
   rw[Int.toNat_of_nonneg g3,Int.toNat_of_nonneg (show 0<=j by omega)]
  .show 1<=j.toNat
   omega
def BdF (o:Option (List V)):Prop:=fN o<=3 ^ 61/\fD o<=3 ^ 61
def rI' (v:V):Bool:=isN v&&decide (1<=vI v)
def arW (n:Int):Option (List V)->Bool
 |some vs=>decide ((vs.length:Int)=n)&&vs.all rI'
 |none=>false
def gk':Sp:=fun vs H Q _=>∃v n o,vs=[v,.int n]/\Tl H v o/\∀H',au' H H'->Q (.bl (arW n o)) H'
theorem p5' {vs:List V}:vs.all rI'=(vs.all isN&&vs.all fun v=>decide (1<=vI v)):=by
 induction vs with
 |nil=>rfl
 |cons v vs ih=>
  rw[cJ,cJ,cJ,ih]
  unfold rI'
  cases isN v<;>cases decide (1<=vI v)<;>simp
theorem nE' {C:Rc} (hN:C.N.length=3) (hA:C.fs "are_numbers"=some eZ'):∀vs H Q E,gk' vs H Q E->tSs C bt' { nx:=fun _ H'=>Q .non H',rt:=Q } (L2.ay' C.N vs) H:=by
 intro vs H Q E h
 obtain⟨v,n,o,rfl,hv,q⟩:=h
 rw[aj' hN]
 unfold bt'
 symm
 refine ag' hA ?_
 symm
 refine⟨v,n,o,rfl,hv,fun H1 s1=>?_⟩
 have hv1:=hv.mono s1
 cases o with
 |none=>
  simp only[arN]
  symm
  exact q H1 s1
 |some vs=>
  obtain⟨a,rfl,hk,hvs,hz⟩:=hv1
  simp only[arN]
  simp only[arW,p5']at q
  rw[<- Bool.and_assoc]at q
  cases e:decide ((vs.length:Int)=n)&&vs.all isN with
  |false=>
   rw[e,cm]at q
   symm
   exact q H1 s1
  |true=>
   rw[e,bR]at q
   rw[af]at e
   have hi:=e.2
   symm
   refine tS' hk (fun i xs H'=>xs=((vs.take i).map fun v=>decide (1<=vI v)).map V.bl/\i<=vs.length/\H'=H1) ⟨rfl,aK _,rfl⟩ (fun i xs H' pv=>by rw[pv.2.2];exact au'.refl _) ?_ ?_
   .rintro i xs H' x R hx ⟨rfl,hi',rfl⟩ hR
    have hi':=an' hx
    obtain⟨k,rfl⟩:=eO' (aQ.mp hi x (aD hx))
    symm
    refine⟨by simp;exact al' (by omega),hR _ _ ⟨?_,by omega,rfl⟩⟩
    rw[bN,hx,ax,ax]
    rfl
   .rintro xs H' ⟨rfl,_,rfl⟩ p hp
    symm
    refine fJ' (SqL.of ac') ?_
    rw[bp]
    rw[show(vs.map fun v=>decide (1<=vI v)).all id=vs.all fun v=>decide (1<=vI v) by rw[List.all_map];rfl]
    exact q _ (s1.trans (ae' hp _))
def okG (M:List Rm) (ol oh:Option (List V)) (w:Nat->Nat):Bool:=(ah M.length).all fun r=>decide (fN ol*w r<=st1 M w r*fD ol)&&decide (st1 M w r*fD oh<=fN oh*w r)
def gdW (M:List Rm) (ol oh:Option (List V)):Option (List V)->Bool
 |some vs=>decide ((vs.length:Int)=M.length)&&(vs.all rI'&&okG M ol oh (fv vs))
 |none=>false
def gdG (M:List Rm) (ol oh o:Option (List V)):Bool:=frB ol&&(frB oh&&gdW M ol oh o)
theorem uk' {M:List Rm} {vs:List V} (hl:(vs.length:Int)=M.length) (h:vs.all rI'=true):vs=(wL M (fv vs)).map nV:=by
 refine yP' (by omega) (aQ.mpr fun x hx=>?_)
 have:=aQ.mp h x hx
 unfold rI' at this
 rw[af]at this
 obtain⟨i,rfl⟩:=eO' this.1
 have hi:1<=i:=of_decide_eq_true this.2
 exact decide_eq_true (by omega)
theorem Cb' {vs:List V} {o:Option (List V)} (e:o=some vs) (h:Bd o) (r:Nat):fv vs r<=2 ^ 90:=by
 unfold fv
 rw[aP]
 cases hx:vs[r]? with
 |none=>exact aK _
 |some x=>exact h vs e x (aD hx)
theorem yZ' {M:List Rm} {w:Nat->Nat} {b r:Nat} (h:∀r,w r<=b):st1 M w r<=2*b:=by
 unfold st1
 have h1:=kF' h (LW.stp M r false)
 have h2:=kF' h (LW.stp M r true)
 omega
theorem ul' {M:List Rm} {w:Nat->Nat}:((wL M w).map fun n:Nat=>(n:Int)).map V.int=(wL M w).map nV:=by
 rw[ci]
 rfl
def Dh':Sp:=fun vs H Q _=>∃(a:Addr) (M:List Rm) (lo hi v:V) (ol oh o:Option (List V)),vs=[.ref a,lo,hi,v]/\IsM H a M/\OkM M/\M.length<=60/\Ft H lo ol/\BdF ol/\Ft H hi oh/\BdF oh/\Tl H v o/\Bd o/\∀H',au' H H'->Q (.bl (gdG M ol oh o)) H'
theorem y0' {M:List Rm} {ol oh:Option (List V)} {u:Nat->Nat}:okG M ol oh u=true↔∀r,r<M.length->fN ol*u r<=st1 M u r*fD ol/\st1 M u r*fD oh<=fN oh*u r:=by
 unfold okG
 rw[aQ]
 constructor
 .intro h r hr
  have:=h r (aB.mpr hr)
  simp only[af,decide_eq_true_eq]at this
  exact this
 .intro h r hr
  have:=h r (aB.mp hr)
  simp only[af,decide_eq_true_eq]
  exact this
def LoW (M:List Rm) (om:Nat->Nat) (p q:Nat):Prop:=bW p q=1/\1<=q/\(∀r,r<M.length->p*om r<=st1 M om r*q)/\∃r,r<M.length/\p*om r=st1 M om r*q
def HiW (M:List Rm) (om:Nat->Nat) (p q:Nat):Prop:=bW p q=1/\1<=q/\(∀r,r<M.length->st1 M om r*q<=p*om r)/\∃r,r<M.length/\p*om r=st1 M om r*q
theorem nF' {p q x y:Nat} (hg:bW p q=1) (e:p*y=x*q) (hy:1<=y) (hq:1<=q):p<=x/\q<=y:=by
 have d:q ∣ y:=Nat.Coprime.dvd_of_dvd_mul_left (Nat.Coprime.symm hg) ⟨x,by rw[e,bc]⟩
 have h2:q<=y:=Nat.le_of_dvd hy d
 refine⟨?_,h2⟩
 refine bC (c:=y) ?_ hy
 rw[e]
 exact cj x h2
def nG':Sp:=fun vs H Q _=>∃(a w:Addr) (M:List Rm) (om:Nat->Nat),vs=[.ref a,.ref w]/\IsM H a M/\OkM M/\1<=M.length/\M.length<=100/\(∀r,1<=om r)/\(∀r,om r<=3 ^ 40)/\H w=some (.lst ((wL M om).map nV))/\∀(t l h:Addr) (p q u v:Nat) (H':Hp),au' H H'->H' t=some (.tup [.ref l,.ref h])->gi' H' l p q->gi' H' h u v->LoW M om p q->HiW M om u v->Q (.ref t) H'
def FpF (B H:Hp) (v:V):Prop:=scT v=true\/(∃a vs,v=.ref a/\B a=none/\H a=some (.lst vs))\/∃a xs,v=.ref a/\B a=none/\H a=some (.tup xs)/\xs.all scT=true/\BdF (some xs)
def DZ':Sp:=fun vs H Q _=>∃(b:Addr) (m:Nat) (a:Addr) (p q:Nat),vs=[.ref b,.ref a]/\H b=some (dL' b m)/\m<=2 ^ 38/\gi' H a p q/\1<=q/\p<=3 ^ 30/\q<=3 ^ 30/\∀(x:V) (H':Hp),Go 2 H H'->FpF H H' x->Q x H'
def VaF (B:Hp) (pw:Addr) (H:Hp) (v:V):Prop:=(scT v=true\/∃a vs,v=.ref a/\(B a=none\/a=pw)/\Lt H a vs)/\vN v<=2 ^ 90
def PpF (B:Hp) (pw:Addr) (H:Hp) (v:V):Prop:=scT v=true\/∃a vs,v=.ref a/\B a=none/\Lt H a vs/\(∀x∈vs,VaF B pw H x)/\vs.length<=61
def D0':Sp:=fun vs H Q _=>∃(b:Addr) (m:Nat) (pw:Addr) (M:List Rm) (om:Nat->Nat),vs=[.ref b,.ref pw]/\H b=some (dL' b m)/\m<=2 ^ 38/\1<=M.length/\M.length<=12/\H pw=some (.lst ((wL M om).map nV))/\(∀r,om r<=3 ^ 30)/\∀(x:V) (H':Hp),Go 3 H H'->PpF H pw H' x->Q x H'
theorem y1' {M:List Rm} {n:Nat}:(gwL M n).map V.int=(wL M (gw M n)).map nV:=by
 unfold gwL wL
 rw[ci,ci]
 rfl
def g1 (l:List Nat):Nat->Nat:=fun r=>l.getD r 1
structure Ask (H:Hp) (a l h w:Addr) (M:List Rm) (om:Nat->Nat) (p q u v:Nat):Prop where
 mach:IsM H a M
 ok:OkM M
 one:1<=M.length
 few:M.length<=12
 lo:gi' H l p q
 hi:gi' H h u v
 wts:H w=some (.lst ((wL M om).map nV))
 pos:∀r,1<=om r
 bd:∀r,om r<=3 ^ 29
 isLo:LoW M om p q
 isHi:HiW M om u v
def Cc':Sp:=fun vs H Q _=>∃(b:Addr) (n:Nat),vs=[.ref b]/\H b=some (dL' b n)/\n<=2 ^ 37/\∀(t a l h w:Addr) (M:List Rm) (om:Nat->Nat) (p q u v:Nat) (H':Hp),Go 500 H H'->H' t=some (.tup [.ref a,.ref l,.ref h,.ref w])->Ask H' a l h w M om p q u v->Q (.ref t) H'
theorem jQ' {p q:Nat} (h1:bW p q=1) (h2:1<=q):frB (some [V.int (p:Int),V.int (q:Int)])=true:=by
 show(true&&(true&&(decide (0<=(p:Int))&&(decide (1<=(q:Int))&&decide (bW p q=1)))))=true
 rw[decide_eq_true (show(0:Int)<=p by omega),decide_eq_true (show(1:Int)<=q by omega),decide_eq_true h1]
 rfl
theorem nH' {H:Hp} {a:Addr} {p q:Nat} (h:gi' H a p q):Ft H (.ref a) (some [V.int (p:Int),V.int (q:Int)]):=⟨a,rfl,h,fun x hx=>by
 simp only[ap,aA,or_false]at hx
 rcases hx with rfl|rfl<;>exact .inl ⟨_,rfl⟩⟩
structure FsRight (C:Rc):Prop where
 take:C.fs "_law_take"=some aI'
 ask:C.fs "_law_asked"=some Cc'
 ends:C.fs "_law_ends"=some nG'
 bf:C.fs "_law_bent_fraction"=some DZ'
 bw:C.fs "_law_bent_weights"=some D0'
 sg:C.fs "shows_growth"=some Dh'
 due:C.fs "_law_due"=some Dh'
end K26
namespace TE
open PySem PySem.Spec PyProof.Rows L2 R3 LW TM BD BE
def ixR (rs:List Nat):Option Nat->Option Nat
 |none=>none
 |some n=>if n∈rs then some (rs.idxOf n)else none
theorem jR' {rs:List Nat} {n:Nat}:ixR rs (some n)=if n∈rs then some (rs.idxOf n)else none:=rfl
theorem y2' {rs:List Nat} (h:rs.Nodup) {i j:Nat} {hi:i<rs.length} {hj:j<rs.length} (e:rs[i]=rs[j]):i=j:=by
 rcases Nat.lt_trichotomy i j with z|z|z
 .exact absurd e (cq.mp h i j hi hj z)
 .exact z
 .exact absurd e.symm (cq.mp h j i hj hi z)
def prt (M:List Rm) (rs:List Nat):List Rm:=rs.map fun r=>(ixR rs (fs1 M r),ixR rs (fs2 M r))
theorem un' {M:List Rm} {rs:List Nat}:(prt M rs).length=rs.length:=by unfold prt;rw[ac]
theorem rJ' {rs:List Nat} {o:Option Nat} {x:Nat} (h:ixR rs o=some x):x<rs.length:=by
 cases o with
 |none=>cases h
 |some n=>
  rw[jR']at h
  by_cases hn:n∈rs
  .rw[if_pos hn]at h
   injection h with h
   rw[<- h]
   exact List.idxOf_lt_length_of_mem hn
  .rw[if_neg hn]at h
   cases h
theorem y3' {M:List Rm} {rs:List Nat}:OkM (prt M rs):=by
 intro r hr
 obtain⟨x,_,rfl⟩:=bi.mp hr
 rw[un']
 exact⟨fun n h=>rJ' h,fun n h=>rJ' h⟩
def ziR:List Nat->Nat->List (Key×V)
 | [],_=>[]
 |r :: rs,k=>((Key.inl (r:Int):Key),V.int k) :: ziR rs (k+1)
theorem jS' {r:Nat}:∀{rs:List Nat} {k:Nat},ziR (rs++[r]) k=ziR rs k++[((Key.inl (r:Int):Key),V.int (k+rs.length:Nat))]
 | [],k=>by simp[ziR]
 |a :: rs,k=>by
  show _ :: ziR (rs++[r]) (k+1)=_ :: (ziR rs (k+1)++_)
  rw[jS',bg,show k+1+rs.length=k+(rs.length+1) by omega]
theorem uo' {a b:Nat}:((Key.inl (a:Int):Key)=Key.inl (b:Int))↔a=b:=⟨fun h=>by injection h with h;omega,fun h=>by rw[h]⟩
theorem i9' {x:Nat}:∀{rs:List Nat} {k:Nat},e9' (ziR rs k) (Key.inl (x:Int))=if x∈rs then some (V.int (k+rs.idxOf x:Nat))else none
 | [],k=>by simp[ziR,e9']
 |r :: rs,k=>by
  by_cases h:r=x
  .subst h
   rw[show ziR (r :: rs) k=((Key.inl (r:Int):Key),V.int k) :: ziR rs (k+1) from rfl,fa' rfl]
   simp
  .rw[show ziR (r :: rs) k=((Key.inl (r:Int):Key),V.int k) :: ziR rs (k+1) from rfl,fb' (fun z=>h (uo'.mp z)),i9']
   have hx:¬x=r:=fun z=>h z.symm
   have e1:(r == x)=false:=by rw[beq_eq_false_iff_ne];exact h
   simp only[ap,hx,false_or]
   rw[List.idxOf_cons,e1]
   split
   .simp only[cond_false]
    rw[show k+1+rs.idxOf x=k+(rs.idxOf x+1) by omega]
   .rfl
theorem nI':∀{rs:List Nat} {k:Nat},(ziR rs k).length=rs.length
 | [],_=>rfl
 |_ :: rs,k=>by show(ziR rs (k+1)).length+1=_;rw[nI'];rfl
theorem rK' {n:Nat}:∀{rs:List Nat} {k m:Nat},(∀r∈rs,r<n)->k+rs.length<=m->TbK n m (ziR rs k)
 | [],_,_,_,_=>fun kv h=>absurd h aA
 |r :: rs,k,m,h,hm=>fun kv hkv=>by
  rw[bg]at hm
  rcases ap.mp hkv with rfl|hkv
  .exact⟨r,k,rfl,h r (by simp),by omega⟩
  .exact rK' (k:=k+1) (fun x hx=>h x (by simp[hx])) (by omega) kv hkv
theorem rL' {C:Rc} {H:Hp} {Q:VK} {p:Addr} {n:Nat} {rs:List Nat} {o:Option Nat} (h:∀r∈rs,r<n) (hn:n<=1000) (hp:H p=some (.dK (ziR rs 0))) (q:Q (oV (ixR rs o)) H):iU' p Q (oV o) H:=by
 cases o with
 |none=>exact m5' ((rK' (m:=rs.length) h (by omega)).non hn hp) q
 |some x=>
  refine m4' (f5'.k (k:=.inl (x:Int)) hp) ?_
  rw[i9']
  rw[jR']at q
  by_cases hx:x∈rs
  .rw[if_pos hx]at q ⊢
   rw[Nat.zero_add]
   exact q
  .rw[if_neg hx]at q ⊢
   exact q
def fN':Sp:=fun vs H Q _=>∃(a l:Addr) (M:List Rm) (rs:List Nat),vs=[.ref a,.ref l]/\IsM H a M/\M.length<=500/\H l=some (.lst (rs.map nV))/\(∀r∈rs,r<M.length)/\rs.Nodup/\rs.length<=500/\∀(p:Addr) (H':Hp),au' H H'->IsM H' p (prt M rs)->Q (.ref p) H'
theorem kJ' {C:Rc} (hN:C.N.length=5):∀vs H Q E,fN' vs H Q E->tSs C c4' { nx:=fun _ H'=>Q .non H',rt:=Q } (L2.ay' C.N vs) H:=by
 intro vs H Q E h
 obtain⟨a,l,M,rs,rfl,hM,hM5,hl,hrs,hnd,hlen,q⟩:=h
 rw[aj' hN]
 unfold c4'
 symm
 refine jA' (SqL.of hl) (C6' (vs:=rs.map nV) (fun i b H'=>b=ziR (rs.take i) 0/\i<=rs.length/\au' H H') ⟨rfl,aK _,au'.refl _⟩ (fun i b H' pv=>SqL.of (pv.2.2 _ _ hl)) ?_ ?_)
 .rintro i b H1 x p R hx hp ⟨rfl,hi0,s1⟩ hR
  rw[ao]at hx
  cases er:rs[i]? with
  |none=>rw[er]at hx;cases hx
  |some r=>
  rw[er]at hx
  cases hx
  have hi:=an' er
  refine dA' (SqT.of ac') ?_
  have s2:=s1.trans (ae' hp (.tup [.int i,nV r]))
  generalize upd H1 p (.tup [.int i,nV r])=H2 at s2 ⊢
  simp only[nV]
  symm
  have et:rs.take (i+1)=rs.take i++[r]:=by rw[bN,er];rfl
  have hno:r∉rs.take i:=fun hm=>by
   obtain⟨j,hj,ej⟩:=cz.mp hm
   rw[aS]at hj
   rw[dc]at ej
   have er':rs[i]'hi=r:=by rw[aa hi]at er;exact Option.some.inj er
   have:=y2' hnd (hi:=by omega) (hj:=hi) (ej.trans er'.symm)
   omega
  refine⟨.inl (r:Int),rfl,by rw[nI',aS];exact al' (by omega),hR _ _ ⟨?_,by omega,s2⟩⟩
  rw[jm' _ (by rw[i9',if_neg hno]),et,jS',aS,Nat.min_eq_left (by omega),Nat.zero_add]
 .rintro kvs H1 ⟨rfl,_,s1⟩
  rw[ac,bp]
  refine⟨trivial,fun p hp=>?_⟩
  have s2:=s1.trans (ae' hp (.dK (ziR rs 0)))
  have hp2:upd H1 p (.dK (ziR rs 0)) p=some (.dK (ziR rs 0)):=ac'
  generalize upd H1 p (.dK (ziR rs 0))=H2 at s2 hp2 ⊢
  symm
  refine aF' (SqL.of (s2 _ _ hl)) (eq' (vs:=rs.map nV) (fun i xs H'=>cZ' H' xs ((rs.take i).map fun r=>(ixR rs (fs1 M r),ixR rs (fs2 M r)))/\i<=rs.length/\au' H2 H') ⟨trivial,aK _,au'.refl _⟩ (fun i xs H' pv=>SqL.of (pv.2.2 _ _ (s2 _ _ hl))) ?_ ?_)
  .rintro i xs H3 x R hx ⟨hR',hi0,s3⟩ hR
   rw[ao]at hx
   cases er:rs[i]? with
   |none=>rw[er]at hx;cases hx
   |some r=>
   rw[er]at hx
   cases hx
   have hi:=an' er
   have hrM:=hrs r (aD er)
   have hM3:=hM.mono (ap' (s2.trans s3))
   have hp3:=s3 _ _ hp2
   simp only[nV]
   symm
   refine gH' (.inl ⟨_,.inl hp3⟩) ?_
   symm
   refine fL' hM3 hrM fun pr hpr=>?_
   symm
   refine aA' (SqT.of hpr) (v:=oV (fs1 M r)) rfl ?_
   refine rL' (C:=C) hrs (by omega) hp3 ?_
   symm
   refine gH' (.inl ⟨_,.inl hp3⟩) ?_
   symm
   refine fL' hM3 hrM fun pr hpr=>?_
   symm
   refine aA' (SqT.of hpr) (v:=oV (fs2 M r)) rfl ?_
   refine rL' (C:=C) hrs (by omega) hp3 ?_
   symm
   refine⟨by show 2<=sizeLine;decide,fun p4 hp4=>?_⟩
   have s4:=ae' hp4 (.tup [oV (ixR rs (fs1 M r)),oV (ixR rs (fs2 M r))])
   have h4:upd H3 p4 (.tup [oV (ixR rs (fs1 M r)),oV (ixR rs (fs2 M r))]) p4=some (.tup [oV (ixR rs (fs1 M r)),oV (ixR rs (fs2 M r))]):=ac'
   generalize upd H3 p4 (.tup [oV (ixR rs (fs1 M r)),oV (ixR rs (fs2 M r))])=H4 at s4 h4 ⊢
   have hxl:=hR'.len
   rw[ac,aS]at hxl
   refine⟨al' (by omega),hR _ _ ⟨?_,by omega,s3.trans s4⟩⟩
   rw[bN,er,ax]
   exact(hR'.mono (ap' s4)).snoc ⟨p4,rfl,h4⟩
  .rintro xs H3 ⟨hR',_,s3⟩ p5 hp5
   rw[ac,bp]at hR'
   symm
   have h5:upd H3 p5 (.lst xs) p5=some (.lst xs):=ac'
   have s5:=ae' hp5 (.lst xs)
   generalize upd H3 p5 (.lst xs)=H5 at h5 s5 ⊢
   refine iO' (SqL.of h5) fun p6 hp6=>?_
   have s6:=ae' hp6 (.tup xs)
   exact q p6 _ (s2.trans (s3.trans (s5.trans s6))) ⟨xs,ac',hR'.mono (ap' (s5.trans s6))⟩
structure Rs (M:List Rm) (rs:List Nat):Prop where
 rise:rs.Pairwise (· < ·)
 lt:∀r∈rs,r<M.length
 fix:lst M rs=rs
 all:∀S,Sus M S->∀r∈S,r∈rs
theorem up' {rs:List Nat} (h:rs.Pairwise (· < ·)):rs.Nodup:=h.imp fun {a b} z=>aE z
theorem jT':∀{a b:List Nat},a.Pairwise (· < ·)->b.Pairwise (· < ·)->(∀x,x∈a↔x∈b)->a=b
 | [],[],_,_,_=>rfl
 | [],y :: b,_,_,h=>absurd ((h y).mpr (by simp)) aA
 |x :: a,[],_,_,h=>absurd ((h x).mp (by simp)) aA
 |x :: a,y :: b,ha,hb,h=>by
  rw[List.pairwise_cons]at ha hb
  have e:x=y:=by
   rcases ap.mp ((h x).mp (by simp))with e|e
   .exact e
   .rcases ap.mp ((h y).mpr (by simp))with e'|e'
    .exact e'.symm
    .have:=hb.1 x e
     have:=ha.1 y e'
     omega
  subst e
  congr 1
  refine jT' ha.2 hb.2 fun z=>?_
  have:=h z
  simp only[ap]at this
  constructor
  .intro hz
   rcases this.mp (.inr hz)with e|e
   .have:=ha.1 z hz;omega
   .exact e
  .intro hz
   rcases this.mpr (.inr hz)with e|e
   .have:=hb.1 z hz;omega
   .exact e
theorem uq' {M:List Rm} {rs:List Nat} (hl:∀r∈rs,r<M.length) (h:lst M rs=rs):Sus M rs:=by
 intro r hr
 have h2:r∈lst M rs:=by rw[h];exact hr
 have h3:=(List.mem_filter.mp h2).2
 unfold ey' at h3
 rw[af,bT]at h3
 refine⟨hl r hr,?_,?_⟩
 .obtain⟨r',hr',e⟩:=bU.mp h3.1
  refine⟨r',hr',?_⟩
  rw[bT,decide_eq_true_eq,decide_eq_true_eq]at e
  rcases e with e|e
  .exact .inl (rf' (b:=some r) (by rw[<- e];rfl))
  .exact .inr (rf' (b:=some r) (by rw[<- e];rfl))
 .have key:∀o,inR rs o=true->∃r'∈rs,o=some r':=fun o ho=>by
   cases o with
   |none=>cases ho
   |some n=>exact⟨n,cZ.mp ho,rfl⟩
  rcases h3.2 with e|e
  .obtain⟨r',hr',e'⟩:=key _ e
   exact⟨r',hr',.inl e'⟩
  .obtain⟨r',hr',e'⟩:=key _ e
   exact⟨r',hr',.inr e'⟩
theorem Rs.sus {M:List Rm} {rs:List Nat} (h:Rs M rs):Sus M rs:=uq' h.lt h.fix
theorem Rs.uniq {M:List Rm} {rs rs':List Nat} (h:Rs M rs) (h':Rs M rs'):rs=rs':=jT' h.rise h'.rise fun x=>⟨fun z=>h'.all _ h.sus x z,fun z=>h.all _ h'.sus x z⟩
set_option tactic.hygienic true in
theorem im' {α:Type} {p:α->Bool}:∀{l:List α},l.length<=(l.filter p).length->l.filter p=l
 | [],_=>rfl
 |a :: l,h=>by
  rw[List.filter_cons]at h ⊢
  have:=cL p l
  split at h
  .rename_i hp
   rw[if_pos hp]
   rw[bg,bg]at h
   rw[im' (by omega)]
  .rw[bg]at h
   omega
def fO':Sp:=fun vs H Q _=>∃(a:Addr) (M:List Rm),vs=[.ref a]/\IsM H a M/\M.length<=500/\∀(p p' l:Addr) (rs:List Nat) (H':Hp),au' H H'->H l=none->H' p=some (.tup [.ref p',.ref l])->H' l=some (.lst (rs.map nV))->IsM H' p' (prt M rs)->Rs M rs->Q (.ref p) H'
theorem kK' {C:Rc} (hN:C.N.length=3) (hL:C.fs "lasting"=some ib') (hP:C.fs "part_of"=some fN'):∀vs H Q E,fO' vs H Q E->tSs C c5' { nx:=fun _ H'=>Q .non H',rt:=Q } (L2.ay' C.N vs) H:=by
 intro vs H Q E h
 obtain⟨a,M,rfl,hM,hM5,q⟩:=h
 rw[aj' hN]
 unfold c5'
 obtain⟨mv,hmv,hmr⟩:=id hM
 symm
 refine cl' (SqT.of hmv) ?_
 rw[hmr.len]
 symm
 refine dB' fun pr hpr=>?_
 symm
 have hsz:((M.length:Int)-0).toNat<=sizeLine:=cC (al' (by omega))
 refine et' ac' (by omega) (by omega) (by omega) (by omega) hsz fun p1 hp1=>?_
 rw[show((M.length:Int)-0).toNat=M.length by omega,rh']
 have s1:=(ae' hpr (.rng 0 M.length)).trans (ae' hp1 (.lst ((ah M.length).map nV)))
 have h1:upd (upd H pr (.rng 0 M.length)) p1 (.lst ((ah M.length).map nV)) p1=some (.lst ((ah M.length).map nV)):=ac'
 have f1:H p1=none:=(ae' hpr (.rng 0 M.length)).free hp1
 generalize upd (upd H pr (.rng 0 M.length)) p1 (.lst ((ah M.length).map nV))=H1 at s1 h1 ⊢
 symm
 refine ag' hL ?_
 symm
 refine⟨a,p1,M,ah M.length,rfl,hM.mono (ap' s1),h1,fun r hr=>aB.mp hr,by rw[aR];omega,fun p2 H2 hp2 s2 h2=>?_⟩
 symm
 refine jB' (fun m σ H'=>au' H H'/\∃(l1 l2:Addr) (rs:List Nat),σ=[some (.ref a),some (.ref l1),some (.ref l2)]/\H l1=none/\H l2=none/\H' l1=some (.lst (rs.map nV))/\H' l2=some (.lst ((lst M rs).map nV))/\(∀r∈rs,r<M.length)/\rs.Pairwise (· < ·)/\rs.length<=M.length/\(∀S,Sus M S->∀r∈S,r∈rs)/\m=rs.length) _ ⟨s1.trans s2,p1,p2,ah M.length,rfl,f1,s1.free hp2,s2 _ _ h1,h2,fun r hr=>aB.mp hr,List.pairwise_lt_range,by rw[aR];omega,fun S hS r hr=>aB.mpr (hS r hr).1,rfl⟩ ?_
 rintro m σ H3 ⟨s3,l1,l2,rs,rfl,f1,f2,hl1,hl2,hrs,hri,hrl,hSr,rfl⟩
 symm
 refine fI' (SqL.of hl2) ?_
 symm
 refine fI' (SqL.of hl1) ?_
 rw[ac,ac]
 symm
 have hle:=yC' (M:=M) (rs:=rs)
 refine bB' (fun hc=>jC' ?_) fun hc=>jD' ?_
 .symm
  refine ag' hL ?_
  symm
  refine⟨a,l2,M,lst M rs,rfl,hM.mono (ap' s3),hl2,fun r hr=>hrs r (nl' hr),by omega,fun p4 H4 hp4 s4 h4=>?_⟩
  symm
  exact⟨(lst M rs).length,by omega,s3.trans s4,l2,p4,lst M rs,rfl,f2,s3.free hp4,s4 _ _ hl2,h4,fun r hr=>hrs r (nl' hr),hri.sublist List.filter_sublist,by omega,fun S hS=>jM' hS (hSr S hS),rfl⟩
 .symm
  refine ag' hP ?_
  symm
  refine⟨a,l1,M,rs,rfl,hM.mono (ap' s3),hM5,hl1,hrs,up' hri,by omega,fun p4 H4 s4 hM4=>?_⟩
  symm
  refine⟨by show 2<=sizeLine;decide,fun p5 hp5=>?_⟩
  have s5:=ae' hp5 (.tup [.ref p4,.ref l1])
  exact q p5 p4 l1 rs _ (s3.trans (s4.trans s5)) f1 ac' (s5 _ _ (s4 _ _ hl1)) (hM4.mono (ap' s5)) ⟨hri,hrs,im' (by have:¬((lst M rs).length:Int)<rs.length:=hc;unfold lst at this;omega),hSr⟩
end TE
namespace K71
open PySem PySem.Spec PyProof.Rows L2 R3 LW
open SR RW TM BD BE TE CK K31 K30 K28 K29
def Mx (l0 h0 l1 h1:Nat) (sp:Option Nat):List Rm:=(rk (lvs sp) h0 h1).map (mx l0 l1 sp (rk (lvs sp) h0 h1))
def IsO (l0 h0 l1 h1:Nat) (sp:Option Nat) (M:List Rm):Prop:=∃rs,Rs (Mx l0 h0 l1 h1 sp) rs/\M=prt (Mx l0 h0 l1 h1 sp) rs
theorem IsO.uniq {l0 h0 l1 h1:Nat} {sp:Option Nat} {M M':List Rm} (h:IsO l0 h0 l1 h1 sp M) (h':IsO l0 h0 l1 h1 sp M'):M=M':=by
 obtain⟨rs,e1,rfl⟩:=h
 obtain⟨rs',e2,rfl⟩:=h'
 rw[e1.uniq e2]
theorem IsO.ok {l0 h0 l1 h1:Nat} {sp:Option Nat} {M:List Rm} (h:IsO l0 h0 l1 h1 sp M):OkM M:=by
 obtain⟨rs,e1,rfl⟩:=h
 exact y3'
def e3':Sp:=fun vs H Q _=>∃(bd:Addr) (l0 h0 l1 h1:Nat) (sp:Option Nat),vs=[.ref bd]/\IsB H bd l0 h0 l1 h1 sp/\∀(p:Addr) (M:List Rm) (H':Hp),au' H H'->IsM H' p M->IsO l0 h0 l1 h1 sp M->Q (.ref p) H'
theorem nJ' {C:Rc} (hN:C.N.length=3) (hT:C.fs "trimmed"=some fO') (hM:C.fs "machine_in_bounds"=some ig') (hR:C.fs "rooms_in_bounds"=some nm'):∀vs H Q E,e3' vs H Q E->tSs C bJ' { nx:=fun _ H'=>Q .non H',rt:=Q } (L2.ay' C.N vs) H:=by
 intro vs H Q E h
 obtain⟨bd,l0,h0,l1,h1,sp,rfl,hB,q⟩:=h
 rw[aj' hN]
 unfold bJ'
 have hrl:=(tY' hB.bs hB.b0 hB.b1 (h0:=h0) (h1:=h1)).1
 symm
 rw[iP']
 refine ag' hT ?_
 symm
 refine ag' hM ?_
 symm
 refine ag' hR ?_
 symm
 refine⟨bd,l0,h0,l1,h1,sp,rfl,hB,fun p xs H1 s1 hp hxs=>?_⟩
 symm
 refine⟨bd,p,l0,h0,l1,h1,sp,xs,rfl,hB.mono (ap' s1),hp,hxs,fun p2 H2 s2 hM2=>?_⟩
 symm
 refine⟨p2,_,rfl,hM2,by rw[ac];omega,fun p3 p' l rs H3 s3 _ hp3 hl hM3 hRs=>?_⟩
 refine iQ' (SqT.of hp3) ?_
 symm
 exact q p' _ H3 (s1.trans (s2.trans s3)) hM3 ⟨rs,hRs,rfl⟩
theorem ur' {M:List Rm} {n:Nat}:∀{q:Nat},it M (wy M none n) q=wy M none (n+q)
 |0=>rfl
 |q+1=>by
  show st1 M (it M (wy M none n) q)=_
  rw[ur']
  rfl
theorem iy' {vs:List V} {H:Hp} {Q:VK} {E:XK} (h:K31.rm' vs H Q E):cn' vs H Q E:=by
 obtain⟨a,b,M,n,q,rfl,hM,hO,hl,hq,hb,k⟩:=h
 refine⟨a,b,M,wy M none n,q,rfl,hM,hO,hl,hq,.inl hb,fun p H' hp s hp'=>k p H' hp s ?_⟩
 rw[hp',ur']
 rfl
theorem p6' {C:Rc} (hN:C.N.length=7) (hW:C.fs "walk_sums"=some cn') (hB:C.fs "are_below"=some d4'):∀vs H Q E,u6' vs H Q E->tSs C bK' { nx:=fun _ H'=>Q .non H',rt:=Q } (L2.ay' C.N vs) H:=by
 intro vs H Q E h
 obtain⟨a,M,p,q',most,rfl,hM,hO,hM1,hp,hq,hmost,q⟩:=h
 rw[aj' hN]
 unfold bK'
 obtain⟨mv,hmv,hmr⟩:=id hM
 have hml:=hmr.len
 symm
 refine bo' (SqT.of hmv) (gd' (fun i xs H'=>i<=mv.length/\xs=(az i 1).map nV/\H'=H) ⟨aK _,rfl,rfl⟩ (fun i xs H' pv=>by rw[pv.2.2];exact SqT.of hmv) ?_ ?_)
 .rintro i xs H' x R hx ⟨_,rfl,rfl⟩ hR
  have hi:=an' hx
  symm
  exact⟨by rw[ac,bI];exact al' (by omega),hR _ _ ⟨hi,t3' (M:=M),rfl⟩⟩
 rintro xs H0 ⟨_,rfl,rfl⟩ c hc
 rw[hml,<- wN0]
 obtain⟨s1,hc1⟩:=snw hc (.lst ((wN M 0).map nV))
 generalize upd H0 c _=H1 at s1 hc1 ⊢
 symm
 refine xW' (by omega) (by omega) (by omega) (by omega) ?_
 rw[show((most:Int)+1-1).toNat=most by omega]
 refine h5' (fun i σ H2=>i<=most/\(∃c x5 x6,σ=[some (.ref a),some (.int p),some (.int q'),some (.int most),some (.ref c),x5,x6]/\H2 c=some (.lst ((wN M (q'*i)).map nV)))/\au' H0 H2/\∀j,j<i->okm M p q' (j+1)=false) ⟨aK _,⟨c,_,_,rfl,hc1⟩,s1,fun j hj=>absurd hj (by omega)⟩ ?_ ?_
 .rintro i σ H2 hi ⟨_,⟨c2,x5,x6,rfl,hc2⟩,s2,hno⟩
  rw[show(1:Int)+(i:Int)=((i+1:Nat):Int) by omega]
  symm
  refine ag' hW ?_
  symm
  refine iy' ⟨a,c2,M,q'*i,q',rfl,hM.mono (ap' s2),hO,by omega,by omega,hc2,fun c3 H3 hc30 s3 hc3=>?_⟩
  rw[show q'*i+q'=q'*(i+1) by rw[bV,cY]]at hc3
  symm
  refine ag' hB ?_
  symm
  refine⟨.inl ⟨by omega,by omega⟩,?_⟩
  rw[show(p:Int)*((i+1:Nat):Int)=((p*(i+1):Nat):Int) by rw[Int.natCast_mul]]
  refine⟨c3,wN M (q'*(i+1)),p*(i+1),rfl,.inl hc3,by rw[yF'];omega,fun H4 s4=>?_⟩
  have s24:=s2.trans (s3.trans s4)
  rw[show bel (p*(i+1)) (wN M (q'*(i+1)))=okm M p q' (i+1) from rfl]
  cases hk:okm M p q' (i+1)with
  |true=>
   symm
   refine⟨by decide,fun t ht=>?_⟩
   exact q (.ref t) (some (i+1)) _ (s24.trans (ae' ht _)) (.inr ⟨i,by omega,rfl,hk,hno⟩) ⟨t,c3,rfl,ac',s2.free hc30,ae' ht _ _ _ (s4 _ _ hc3)⟩
  |false=>
   symm
   refine⟨by omega,⟨c3,_,_,rfl,s4 _ _ hc3⟩,s24,fun j hj=>?_⟩
   rcases cK j i with h|h
   .exact hno j h
   .rw[show j=i by omega];exact hk
 .rintro σ H2 ⟨_,⟨c2,x5,x6,rfl,hc2⟩,s2,hno⟩
  symm
  exact q .non none H2 s2 (.inl ⟨rfl,hno⟩) rfl
theorem rM' {M:List Rm} {w:Nat->Nat} {m:Nat}:∀{n:Nat},it M w (m+n)=it M (it M w m) n
 |0=>rfl
 |n+1=>by
  show st1 M (it M w (m+n))=st1 M (it M (it M w m) n)
  rw[rM']
theorem nL' {M:List Rm} (hO:OkM M) {p q:Nat} {w:Nat->Nat} (h:Okw M p q w):∀{m r:Nat},r<M.length->w r*2 ^ (p*m)<=it M w (q*m) r
 |0,r,hr=>by rw[Nat.mul_zero,Nat.mul_zero,Nat.pow_zero,cY];exact ak _
 |m+1,r,hr=>by
  have ih:=nL' hO h (m:=m) hr
  have h1:ss M (q*m) (fun e=>2 ^ p*w e) r<=ss M (q*m) (it M w q) r:=t6' hO hr fun e he=>by
   have:=h e he
   rw[gM',bc]
   exact this
  rw[rr']at h1
  rw[bV,cY,bV,cY,Nat.add_comm (q*m) q,rM',gM']
  rw[gM']at ih
  refine aq ?_ h1
  have:=cj (2 ^ p) ih
  refine aq (Nat.le_of_eq ?_) this
  rw[Nat.pow_add,bc (2 ^ p),aU]
theorem y4' {M:List Rm}:(fun _:Nat=>1)=wy M none 0:=by
 funext r
 show 1=if _ then _ else _
 rw[if_pos (.inl rfl)]
theorem y5' {M:List Rm} (hO:OkM M) {w:Nat->Nat} {c n r:Nat} (hr:r<M.length) (h:∀e,e<M.length->w e<=c):it M w n r<=c*wy M none n r:=by
 have h1:ss M n w r<=ss M n (fun _=>c*1) r:=t6' hO hr fun e he=>by have:=h e he;omega
 have e:ss M n (fun _=>c*1) r=c*ss M n (fun _=>1) r:=rr' (w:=fun _=>1)
 rw[gM']
 refine aq h1 (Nat.le_of_eq ?_)
 rw[e,<- gM',y4' (M:=M),ur',Nat.zero_add]
theorem rN' {w:Nat->Nat}:∀{n:Nat},1<=n->∃r,r<n/\∀e,e<n->w e<=w r
 |0,h=>absurd h (by decide)
 |1,_=>⟨0,by decide,fun e he=>by rw[show e=0 by omega];exact ak _⟩
 |n+2,_=>by
  obtain⟨r,hr,h⟩:=rN' (w:=w) (n:=n+1) (by omega)
  by_cases z:w r<=w (n+1)
  .refine⟨n+1,by omega,fun e he=>?_⟩
   by_cases q:e=n+1
   .rw[q];exact ak _
   .exact aq (h e (by omega)) z
  .refine⟨r,by omega,fun e he=>?_⟩
   by_cases q:e=n+1
   .rw[q];omega
   .exact h e (by omega)
theorem in' {M:List Rm} (hO:OkM M) {p q:Nat} {w:Nat->Nat} (h:Okw M p q w) (hw:∃r,r<M.length/\w r≠0) (m:Nat):okm M p q m=false:=by
 obtain⟨r0,hr0,hw0⟩:=hw
 obtain⟨r,hr,ht⟩:=rN' (w:=w) (n:=M.length) (by omega)
 have h1:=nL' hO h (m:=m) hr
 have h2:=y5' hO (n:=q*m) hr ht
 have hpos:0<w r:=by have:=ht r0 hr0;omega
 have h3:2 ^ (p*m)<=wy M none (q*m) r:=Nat.le_of_mul_le_mul_left (aq h1 h2) hpos
 unfold okm bel
 rw[List.all_eq_false]
 refine⟨wy M none (q*m) r,?_,?_⟩
 .unfold wN
  exact bi.mpr ⟨r,aB.mpr hr,rfl⟩
 .rw[decide_eq_false (by omega)]
  exact ay
def itn (M:List Rm):Nat->List Nat->List Nat
 |0,rs=>rs
 |n+1,rs=>itn M n (lst M rs)
theorem ja' {M:List Rm}:∀{n:Nat} {rs:List Nat},(itn M n rs).Sublist rs
 |0,rs=>List.Sublist.refl _
 |n+1,rs=>(ja' (n:=n) (rs:=lst M rs)).trans List.filter_sublist
theorem nM' {M:List Rm} {S:List Nat} (h:Sus M S):∀{n:Nat} {rs:List Nat},(∀r∈S,r∈rs)->∀r∈S,r∈itn M n rs
 |0,rs,k=>k
 |n+1,rs,k=>nM' h (n:=n) (jM' h k)
theorem us' {M:List Rm} {n:Nat} (hf:lst M (itn M n (ah M.length))=itn M n (ah M.length)):Rs M (itn M n (ah M.length)):=
 ⟨List.Pairwise.sublist ja' List.pairwise_lt_range,fun r hr=>aB.mp (ja'.subset hr),hf,fun S hS r hr=>nM' hS (fun r hr=>aB.mpr (hS r hr).1) r hr⟩
abbrev Cd:=Nat×Nat×Nat×Nat×Option Nat
def mX (c:Cd):List Rm:=Mx c.1 c.2.1 c.2.2.1 c.2.2.2.1 c.2.2.2.2
def mO (c:Cd) (n:Nat):List Rm:=prt (mX c) (itn (mX c) n (ah (mX c).length))
def y6' (c:Cd) (n:Nat):Bool:=decide (lst (mX c) (itn (mX c) n (ah (mX c).length))=itn (mX c) n (ah (mX c).length))&&decide (1<=(mO c n).length)&&decide ((mO c n).length<=16)
theorem jb' {c:Cd} {n:Nat} (h:y6' c n=true) {M:List Rm} (hI:IsO c.1 c.2.1 c.2.2.1 c.2.2.2.1 c.2.2.2.2 M):M=mO c n/\1<=M.length/\M.length<=16:=by
 unfold y6' at h
 simp only[af,decide_eq_true_eq]at h
 have e:M=mO c n:=hI.uniq ⟨_,us' h.1.1,rfl⟩
 rw[e]
 exact⟨rfl,h.1.2,h.2⟩
end K71
namespace K11
open PySem PySem.Spec PyProof.Rows L2 R3 LW
def c7':Css:=(.cons (.asg (.name 2) .dnew)
  (.cons (.asg (.name 3) (.lst (.cons (.var 1) .nil)))
  (.cons (.whl (.val (.var 3)) (.cons (.asg (.name 4) (.met .popL (.var 3) .nil))
  (.cons (.for_ (.name 5) (.val (.idx (.var 0) (.var 4))) (.cons (.ite (.and (.cmp .IsNot (.var 5) .non) (.din true (.var 5) (.var 2))) (.cons (.dput (.var 2) (.var 5) (.bl true))
  (.cons (.expr (.met .append (.var 3) (.cons (.var 5) .nil)))
  .nil)) .nil)
  .nil))
  .nil)))
  (.cons (.ret (.var 2))
  .nil))))
def eA':Css:=(.cons (.asg (.name 1) (.blt .list (.cons (.blt .range (.cons (.blt .len (.cons (.var 0) .nil)) .nil)) .nil)))
  (.cons (.asg (.name 2) (.comp (.call "reached" (.cons (.var 0) (.cons (.var 3) .nil))) [3] (.name 3) (.val (.var 1)) .none .nil))
  (.cons (.asg (.name 4) (.lst .nil))
  (.cons (.for_ (.name 3) (.val (.var 1)) (.cons (.asg (.name 5) (.comp (.var 6) [6] (.name 6) (.val (.var 1)) (.some (.and (.din false (.var 6) (.idx (.var 2) (.var 3))) (.din false (.var 3) (.idx (.var 2) (.var 6))))) .nil))
  (.cons (.ite (.and (.val (.var 5)) (.cmp .Eq (.idx (.var 5) (.int 0)) (.var 3))) (.cons (.expr (.met .append (.var 4) (.cons (.var 5) .nil)))
  .nil) .nil)
  .nil)))
  (.cons (.ret (.var 4))
  .nil)))))
def c8':Css:=(.cons (.ret (.and (.call "is_machine" (.cons (.var 0) .nil)) (.cmv .eqB (.call "rings" (.cons (.var 0) .nil)) (.lst (.cons (.blt .list (.cons (.blt .range (.cons (.blt .len (.cons (.var 0) .nil)) .nil)) .nil)) .nil)))))
  .nil)
open SR CK
def ed (M:List Rm) (a b:Nat):Bool:=match M[a]? with
 |some r=>decide (r.1=some b) || decide (r.2=some b)
 |none=>false
def wp (M:List Rm):Nat->Nat->Nat->Bool
 |0,i,j=>ed M i j
 |k+1,i,j=>wp M k i j || (wp M k i k&&wp M k k j)
def rch (M:List Rm) (i j:Nat):Bool:=wp M M.length i j
theorem wp_mono {M:List Rm} {k i j:Nat} (h:wp M k i j=true):wp M (k+1) i j=true:=by
 show(wp M k i j || _)=true
 rw[h];rfl
theorem y7' {M:List Rm} {i j:Nat} (h:ed M i j=true):∀k,wp M k i j=true
 |0=>h
 |k+1=>wp_mono (y7' h k)
theorem kL' {M:List Rm} {k i j:Nat} (h:wp M (k+1) i j=true):wp M k i j=true\/(wp M k i k=true/\wp M k k j=true):=by
 have h:(wp M k i j || (wp M k i k&&wp M k k j))=true:=h
 rw[bT,af]at h
 exact h
theorem jU' {M:List Rm} {k i j:Nat} (h1:wp M k i k=true) (h2:wp M k k j=true):wp M (k+1) i j=true:=by
 show(wp M k i j || (wp M k i k&&wp M k k j))=true
 rw[h1,h2];simp
theorem p7' {M:List Rm}:∀{k i m j:Nat},m<k->wp M k i m=true->wp M k m j=true->wp M k i j=true
 |0,_,_,_,h,_,_=>by omega
 |k+1,i,m,j,h,h1,h2=>by
  by_cases hm:m=k
  .subst hm
   have a1:wp M m i m=true:=by rcases kL' h1 with h|h;exact h;exact h.1
   have a2:wp M m m j=true:=by rcases kL' h2 with h|h;exact h;exact h.2
   exact jU' a1 a2
  .have hk:m<k:=by omega
   rcases kL' h1 with b1|⟨b1,b2⟩
   .rcases kL' h2 with c1|⟨c1,c2⟩
    .exact wp_mono (p7' hk b1 c1)
    .exact jU' (p7' hk b1 c1) c2
   .rcases kL' h2 with c1|⟨c1,c2⟩
    .exact jU' b1 (p7' hk b2 c1)
    .exact jU' b1 c2
theorem jV' {M:List Rm} {i m j:Nat} (hm:m<M.length) (h1:rch M i m=true) (h2:rch M m j=true):rch M i j=true:=p7' hm h1 h2
theorem gl' {M:List Rm} {i j:Nat} (h:ed M i j=true):rch M i j=true:=y7' h _
theorem p8' {M:List Rm} {S:Nat->Prop} {r:Nat} (h:∀i j,(i=r\/S i)->ed M i j=true->S j):∀{k i j:Nat},(i=r\/S i)->wp M k i j=true->S j
 |0,i,j,hi,hw=>h i j hi hw
 |k+1,i,j,hi,hw=>by
  rcases kL' hw with hw|⟨h1,h2⟩
  .exact p8' h hi hw
  .exact p8' h (.inr (p8' h hi h1)) h2
theorem Cd' {M:List Rm} {i j:Nat} (hM:OkM M) (h:ed M i j=true):i<M.length/\j<M.length:=by
 unfold ed at h
 cases e:M[i]? with
 |none=>rw[e]at h;cases h
 |some r=>
  rw[e]at h
  refine⟨an' e,?_⟩
  have hr:=hM r (aD e)
  simp only[bT,decide_eq_true_eq]at h
  rcases h with h|h
  .exact hr.1 j h
  .exact hr.2 j h
def cl (M:List Rm) (a:Nat):List Nat:=(ah M.length).filter fun b=>rch M a b&&rch M b a
def fst (M:List Rm) (a:Nat):Bool:=decide ((cl M a).head?=some a)
def rgo (M:List Rm) (i:Nat):List (List Nat):=((ah i).filter (fst M)).map (cl M)
theorem jW' {M:List Rm} {i:Nat}:rgo M (i+1)=rgo M i++if fst M i=true then[cl M i]else[]:=by
 unfold rgo
 rw[bx,List.filter_append,ax]
 congr 1
 cases h:fst M i<;>simp[h]
theorem rO':∀(n:Nat) (l:List Nat),l.Nodup->(∀x∈l,x<n)->l.length<=n
 |0,l,_,h=>by
  cases l with
  |nil=>exact ak _
  |cons a r=>exact absurd (h a aJ) (by omega)
 |n+1,l,hn,h=>by
  have h1:=rO' n (l.erase n) (hn.erase n) fun x hx=>by
   have h2:=h x (List.mem_of_mem_erase hx)
   have h3:x≠n:=fun e=>by subst e;exact hn.not_mem_erase hx
   omega
  have h2:=List.length_erase_le (a:=n) (l:=l)
  have h3:l.length<=(l.erase n).length+1:=by
   rw[List.length_erase];split<;>omega
  omega
def ks (fs:List Nat):List (Key×V):=fs.map fun i:Nat=>((Key.inl (i:Int):Key),V.bl true)
theorem p9' {fs:List Nat} {x:Nat}:(e9' (ks fs) (Key.inl (x:Int))).isSome=decide (x∈fs):=by
 rw[<- fc',cr,bU]
 constructor
 .rintro⟨y,hy,hd⟩
  obtain⟨i,hi,rfl⟩:=bi.mp hy
  have:=of_decide_eq_true hd
  injection this with this
  have:i=x:=by omega
  subst this
  exact decide_eq_true hi
 .intro h
  exact⟨_,bi.mpr ⟨x,of_decide_eq_true h,rfl⟩,by simp⟩
theorem y8' {fs:List Nat} {x:Nat} (h:x∉fs):gW' (ks fs) (Key.inl (x:Int)) (V.bl true)=ks (fs++[x]):=by
 have hn:e9' (ks fs) (Key.inl (x:Int))=none:=by
  have:=p9' (fs:=fs) (x:=x)
  rw[decide_eq_false h]at this
  cases e:e9' (ks fs) (Key.inl (x:Int))with
  |none=>rfl
  |some v=>rw[e]at this;cases this
 rw[jm' _ hn]
 unfold ks
 rw[ax]
 rfl
theorem nd1 {y:Nat}:[y].Nodup:=by simp
structure Rst (M:List Rm) (r:Nat) (fs ws:List Nat):Prop where
 nd:fs.Nodup
 lt:∀x∈fs,x<M.length
 wa:∀x∈ws,x=r\/x∈fs
 rc:∀x∈fs,rch M r x=true
 wl:ws.length<=fs.length+1
def dD':Sp:=fun vs H Q _=>∃(a:Addr) (M:List Rm) (r:Nat),vs=[.ref a,.int r]/\IsM H a M/\OkM M/\M.length<=120/\r<M.length/\∀(d:Addr) (fs:List Nat) H',H d=none->au' H H'->H' d=some (.dK (ks fs))->(∀x,x∈fs↔rch M r x=true)->Q (.ref d) H'
theorem io' {C:Rc} (hN:C.N.length=6):∀vs H Q E,dD' vs H Q E->tSs C c7' { nx:=fun _ H'=>Q .non H',rt:=Q } (L2.ay' C.N vs) H:=by
 intro vs H Q E h
 obtain⟨a,M,r,rfl,hM,hO,hl,hr,q⟩:=h
 rw[aj' hN]
 unfold c7'
 symm
 intro d hd
 have hd1:upd H d (.dK []) d=some (.dK (ks [])):=ac'
 have s1:=ae' hd (.dK [])
 generalize upd H d (.dK [])=H1 at hd1 s1 ⊢
 symm
 refine⟨by decide,fun w hw=>?_⟩
 have hwd:w≠d:=fun e=>by subst e;rw[hd1]at hw;cases hw
 have hwH:H w=none:=s1.free hw
 have hw2:upd H1 w (.lst [.int r]) w=some (.lst (([r]:List Nat).map fun i:Nat=>V.int i)):=ac'
 have hd2:upd H1 w (.lst [.int r]) d=some (.dK (ks [])):=by rw[af' (Ne.symm hwd)];exact hd1
 have hk2:∀b u,H b=some u->upd H1 w (.lst [.int r]) b=some u:=fun b u e=>by rw[af' (ah' e hwH)];exact s1 _ _ e
 generalize upd H1 w (.lst [.int r])=H2 at hw2 hd2 hk2 ⊢
 have hbd:∀b u,H b=some u->b≠d/\b≠w:=fun b u e=>⟨ah' e hd,ah' e hwH⟩
 refine jB' (fun m σ H3=>∃fs ws x4 x5,m=2*(M.length-fs.length)+ws.length/\σ=[some (.ref a),some (.int r),some (.ref d),some (.ref w),x4,x5]/\H3 d=some (.dK (ks fs))/\H3 w=some (.lst (ws.map fun i:Nat=>V.int i))/\au' H H3/\Rst M r fs ws/\∀x,(x=r\/x∈fs)->x∉ws->∀y,ed M x y=true->y∈fs) (2*(M.length-0)+1) ⟨[],[r],_,_,rfl,rfl,hd2,hw2,hk2,⟨cS,fun x hx=>(by cases hx),fun x hx=>.inl (aX.mp hx),fun x hx=>(by cases hx),ak _⟩,fun x hx hn=>absurd (aX.mpr (hx.resolve_right (fun z=>by cases z))) hn⟩ ?_
 rintro m σ H3 ⟨fs,ws,x4,x5,rfl,rfl,hd3,hw3,s3,R3,B3⟩
 symm
 refine iS' (SqL.of hw3) ?_
 rcases List.eq_nil_or_concat ws with rfl|⟨ws',here,rfl⟩
 .refine jD' ?_
  symm
  refine q d fs H3 hd s3 hd3 fun x=>⟨R3.rc x,fun hx=>?_⟩
  exact p8' (S:=fun x=>x∈fs) (r:=r) (fun i j hi he=>B3 i hi (by simp) j he) (.inl rfl) hx
 .rw[List.concat_eq_append]at hw3 R3 B3 ⊢
  have e0:(!(((ws'++[here]).map fun i:Nat=>V.int i)).isEmpty)=true:=by simp
  rw[e0]
  refine jC' ?_
  have hhere:here=r\/here∈fs:=R3.wa here (by simp)
  have hhl:here<M.length:=by rcases hhere with rfl|h;exact hr;exact R3.lt _ h
  symm
  refine⟨tyL hw3 rfl,?_⟩
  refine rb' (xs:=ws'.map fun i:Nat=>V.int i) (y:=.int here) (by rw[hw3,ax];rfl) ?_
  have hwd3:upd H3 w (.lst (ws'.map fun i:Nat=>V.int i)) d=some (.dK (ks fs)):=by rw[af' (Ne.symm hwd)];exact hd3
  have hww3:upd H3 w (.lst (ws'.map fun i:Nat=>V.int i)) w=some (.lst (ws'.map fun i:Nat=>V.int i)):=ac'
  have s4:au' H (upd H3 w (.lst (ws'.map fun i:Nat=>V.int i))):=fun b u e=>by rw[af' (hbd b u e).2];exact s3 _ _ e
  generalize upd H3 w (.lst (ws'.map fun i:Nat=>V.int i))=H4 at hwd3 hww3 s4 ⊢
  obtain⟨mv,hmv,hmr⟩:=hM.mono (fun b xs e=>s4 _ _ e)
  obtain⟨pr,epr,hpr⟩:=hmr.get (aa hhl)
  symm
  refine aA' (SqT.of hmv) (a8' epr) ?_
  refine bo' (SqT.of hpr) ?_
  have hpw:pr≠w:=fun e=>by subst e;rw[hww3]at hpr;cases hpr
  have hpd:pr≠d:=fun e=>by subst e;rw[hwd3]at hpr;cases hpr
  have hLd:∀y,ed M here y=true↔some y∈[M[here].1,M[here].2]:=fun y=>by
   unfold ed
   rw[aa hhl]
   simp only[bT,decide_eq_true_eq,ap,aA,or_false]
   constructor
   .rintro(h|h)
    .exact .inl h.symm
    .exact .inr h.symm
   .rintro(h|h)
    .exact .inl h.symm
    .exact .inr h.symm
  have hpr':H4 pr=some (.tup ([M[here].1,M[here].2].map oV)):=hpr
  generalize [M[here].1,M[here].2]=Ld at hLd hpr'
  refine BJ' (xs:=Ld.map oV) (fun j σ H5=>∃fs' wj x5,σ=[some (.ref a),some (.int r),some (.ref d),some (.ref w),some (.int here),x5]/\H5 d=some (.dK (ks fs'))/\H5 w=some (.lst (wj.map fun i:Nat=>V.int i))/\au' H H5/\H5 pr=some (.tup (Ld.map oV))/\Rst M r fs' wj/\(here=r\/here∈fs')/\(∀x,(x=r\/x∈fs')->x∉wj->x≠here->∀y,ed M x y=true->y∈fs')/\(∀(i:Nat) y,i<j->Ld[i]?=some (some y)->y∈fs')/\2*(M.length-fs'.length)+wj.length<=2*(M.length-fs.length)+ws'.length) ⟨fs,ws',_,rfl,hwd3,hww3,s4,hpr',⟨R3.nd,R3.lt,fun x hx=>R3.wa x (aT _ hx),R3.rc,by have:=R3.wl;rw[au]at this;omega⟩,hhere,fun x hx hn hne=>B3 x hx (fun z=>by rcases aG.mp z with z|z;exact hn z;exact hne (aX.mp z)),fun i y hi=>absurd hi (by omega),ak _⟩ (fun j σ H5 _ pv=>?_) ?_ ?_
  .obtain⟨_,_,_,_,_,_,_,h,_⟩:=pv
   exact SqT.of h
  .rintro j x σ H5 hx ⟨fs',wj,x5,rfl,hd5,hw5,s5,hp5,R5,hh5,B5,L5,m5⟩
   rw[ao]at hx
   obtain⟨o,ho,rfl⟩:=cH.mp hx
   have skip:(∀y,o=some y->y∈fs')->∀(i:Nat) y,i<j+1->Ld[i]?=some (some y)->y∈fs':=fun hin i y hi e=>by
    rcases cK i j with h|h
    .exact L5 i y h e
    .have:i=j:=by omega
     subst this
     rw[ho]at e
     exact hin y (Option.some.inj e)
   cases o with
   |none=>
    simp only[oV]
    symm
    exact⟨fs',wj,_,rfl,hd5,hw5,s5,hp5,R5,hh5,B5,skip (fun y z=>by cases z),m5⟩
   |some y=>
    have hey:ed M here y=true:=(hLd y).mpr (aD ho)
    have hyl:=(Cd' hO hey).2
    simp only[oV]
    symm
    refine m2' (o:=e9' (ks fs') (Key.inl (y:Int))) (f5'.k (k:=.inl _) hd5) ?_
    rw[if_pos rfl,p9']
    by_cases hy:y∈fs'
    .rw[decide_eq_true hy]
     symm
     exact⟨fs',wj,_,rfl,hd5,hw5,s5,hp5,R5,hh5,B5,skip (fun z e=>by cases e;exact hy),m5⟩
    .rw[decide_eq_false hy]
     have hfl:(fs'++[y]).length<=M.length:=rO' _ _ (cP.mpr ⟨R5.nd,nd1,fun u hu v hv e=>by cases aX.mp hv;subst e;exact hy hu⟩) fun x hx=>by
      rcases aG.mp hx with hx|hx
      .exact R5.lt x hx
      .cases aX.mp hx;exact hyl
     rw[au,bB]at hfl
     symm
     refine pN' (k:=Key.inl (y:Int)) hd5 (by unfold ks;rw[ac];exact al' (by omega)) ?_
     rw[y8' hy]
     have hw6:upd H5 d (.dK (ks (fs'++[y]))) w=some (.lst (wj.map fun i:Nat=>V.int i)):=by rw[af' hwd];exact hw5
     have hd6:upd H5 d (.dK (ks (fs'++[y]))) d=some (.dK (ks (fs'++[y]))):=ac'
     have hp6:upd H5 d (.dK (ks (fs'++[y]))) pr=some (.tup (Ld.map oV)):=by rw[af' hpd];exact hp5
     have s6:au' H (upd H5 d (.dK (ks (fs'++[y])))):=fun b u e=>by rw[af' (hbd b u e).1];exact s5 _ _ e
     generalize upd H5 d (.dK (ks (fs'++[y])))=H6 at hw6 hd6 hp6 s6 ⊢
     symm
     have hwl:=R5.wl
     refine⟨tyL hw6 rfl,jH' hw6 (by rw[ac];exact al' (by omega)) ?_⟩
     symm
     refine⟨fs'++[y],wj++[y],_,rfl,by rw[af' (Ne.symm hwd)];exact hd6,by rw[ac',ax];rfl,fun b u e=>by rw[af' (hbd b u e).2];exact s6 _ _ e,by rw[af' hpw];exact hp6,?_,hh5.imp id fun h=>aT _ h,?_,?_,?_⟩
     .refine⟨cP.mpr ⟨R5.nd,nd1,fun u hu v hv e=>by cases aX.mp hv;subst e;exact hy hu⟩,fun x hx=>?_,fun x hx=>?_,fun x hx=>?_,by rw[au,au,bB];omega⟩
      .rcases aG.mp hx with hx|hx
       .exact R5.lt x hx
       .cases aX.mp hx;exact hyl
      .rcases aG.mp hx with hx|hx
       .exact(R5.wa x hx).imp id fun h=>aT _ h
       .exact .inr (al _ hx)
      .rcases aG.mp hx with hx|hx
       .exact R5.rc x hx
       .cases aX.mp hx
        rcases hh5 with rfl|h
        .exact gl' hey
        .exact jV' hhl (R5.rc _ h) (gl' hey)
     .intro x hx hn hne z hz
      have hn1:x∉wj:=fun h=>hn (aT _ h)
      have hn2:x≠y:=fun h=>hn (al _ (by rw[h];exact aX.mpr rfl))
      refine aT _ (B5 x (hx.imp id fun h=>?_) hn1 hne z hz)
      rcases aG.mp h with h|h
      .exact h
      .exact absurd (aX.mp h) hn2
     .intro i z hi e
      rcases cK i j with h|h
      .exact aT _ (L5 i z h e)
      .have:i=j:=by omega
       subst this
       rw[ho]at e
       have:y=z:=Option.some.inj (Option.some.inj e)
       subst this
       exact al _ (aX.mpr rfl)
     .rw[au,au,bB]
      omega
  .rintro σ H5 ⟨fs',wj,x5,rfl,hd5,hw5,s5,hp5,R5,hh5,B5,L5,m5⟩
   symm
   refine⟨2*(M.length-fs'.length)+wj.length,by rw[au,bB];omega,fs',wj,_,_,rfl,rfl,hd5,hw5,s5,R5,fun x hx hn y hy=>?_⟩
   by_cases hxe:x=here
   .subst hxe
    obtain⟨i,hi⟩:=bn ((hLd y).mp hy)
    exact L5 i y (by rw[ac];exact an' hi) hi
   .exact B5 x hx hn hxe y hy
def iN (l:List Nat):List V:=l.map fun i:Nat=>V.int i
theorem rP' {l:List Nat}:iN l=(l.map fun i:Nat=>(i:Int)).map V.int:=by unfold iN;rw[ci];rfl
def nn (L:List (List Nat)):List (List Int):=L.map fun l=>l.map fun i:Nat=>(i:Int)
theorem jX':∀{a b:List Nat},(a.map fun i:Nat=>(i:Int))=(b.map fun i:Nat=>(i:Int))->a=b
 | [],[],_=>rfl
 | [],_ :: _,h=>by cases h
 |_ :: _,[],h=>by cases h
 |x :: a,y :: b,h=>by
  rw[aN,aN]at h
  injection h with h1 h2
  rw[jX' h2,show x=y by omega]
theorem rQ':∀{a b:List (List Nat)},nn a=nn b->a=b
 | [],[],_=>rfl
 | [],_ :: _,h=>by cases h
 |_ :: _,[],h=>by cases h
 |x :: a,y :: b,h=>by
  unfold nn at h
  rw[aN,aN]at h
  injection h with h1 h2
  rw[rQ' (a:=a) (b:=b) h2,jX' h1]
def kM' (H0 H:Hp) (a:Addr) (L:List (List Nat)):Prop:=∃vs,H a=some (.lst vs)/\ct' (fun v l=>∃p,v=.ref p/\H0 p=none/\p≠a/\H p=some (.lst (iN l))) vs L
theorem kM'.ll {H0 H:Hp} {a:Addr} {L:List (List Nat)} (h:kM' H0 H a L):LL H a (nn L):=by
 obtain⟨vs,e,q⟩:=h
 refine⟨vs,e,by rw[q.len];unfold nn;rw[ac],fun i v ns hv hn=>?_⟩
 obtain⟨l,hl,p,rfl,_,_,hp⟩:=q.getL hv
 unfold nn at hn
 rw[ao,hl]at hn
 cases hn
 exact⟨p,rfl,by rw[hp,rP']⟩
theorem ut' {M:List Rm} {i:Nat}:(rgo M i).length<=i:=by
 unfold rgo
 rw[ac]
 exact aq (cL _ _) (by simp)
theorem jY' {n:Nat}:L2.rgs 0 n=iN (ah n):=by
 unfold L2.rgs iN
 apply bL
 intro k _
 rw[Int.zero_add]
theorem nN' {l:List Nat} {i:Nat} {x:V} (h:(iN l)[i]?=some x):∃n,l[i]?=some n/\x=.int n:=by
 unfold iN at h
 rw[ao]at h
 obtain⟨n,hn,rfl⟩:=cH.mp h
 exact⟨n,hn,rfl⟩
theorem fP' {n i k:Nat} (h:(ah n)[i]?=some k):i<n/\k=i:=by
 have hi:i<n:=by have:=an' h;rwa [aR]at this
 rw[aY hi]at h
 exact⟨hi,(Option.some.inj h).symm⟩
theorem qa' {f:Nat->Bool} {i:Nat}:(ah (i+1)).filter f=(ah i).filter f++if f i=true then[i]else[]:=by
 rw[bx,List.filter_append]
 congr 1
 cases h:f i<;>simp[h]
theorem jZ' {M:List Rm} {a:Nat}:fst M a=(!(cl M a).isEmpty&&decide ((cl M a).head?=some a)):=by
 unfold fst
 cases h:cl M a with
 |nil=>simp
 |cons x r=>simp
def eP':Sp:=fun vs H Q _=>∃(a:Addr) (M:List Rm),vs=[.ref a]/\IsM H a M/\OkM M/\M.length<=120/\∀(l:Addr) H',H l=none->au' H H'->kM' H H' l (rgo M M.length)->Q (.ref l) H'
theorem kN' {C:Rc} (hN:C.N.length=7) (hR:C.fs "reached"=some dD'):∀vs H Q E,eP' vs H Q E->tSs C eA' { nx:=fun _ H'=>Q .non H',rt:=Q } (L2.ay' C.N vs) H:=by
 intro vs H Q E h
 obtain⟨a,M,rfl,hM,hO,hl,q⟩:=h
 rw[aj' hN]
 unfold eA'
 obtain⟨mv,hmv,hmr⟩:=id hM
 have hml:=hmr.len
 symm
 refine cl' (SqT.of hmv) ?_
 rw[hml]
 symm
 refine dB' fun u hu=>?_
 symm
 refine et' ac' (by omega) (by omega) (by omega) (by omega) (cC (al' (by omega))) fun R hR0=>?_
 rw[show((M.length:Int)-0).toNat=M.length by omega,jY']
 have s1:=(ae' hu (.rng 0 (M.length:Int))).trans (ae' hR0 (.lst (iN (ah M.length))))
 have hR1:upd (upd H u (.rng 0 (M.length:Int))) R (.lst (iN (ah M.length))) R=some (.lst (iN (ah M.length))):=ac'
 generalize upd (upd H u (.rng 0 (M.length:Int))) R (.lst (iN (ah M.length)))=H1 at s1 hR1 ⊢
 symm
 refine aF' (SqL.of hR1) ?_
 refine eq' (fun i xs H2=>∃gs:List Addr,xs=gs.map V.ref/\gs.length=i/\au' H1 H2/\∀(j:Nat) g,gs[j]?=some g->∃fs,H2 g=some (.dK (ks fs))/\∀x,x∈fs↔rch M j x=true) ⟨[],rfl,rfl,au'.refl _,fun j g h=>by cases h⟩ (fun i xs H2 pv=>by obtain⟨_,_,_,s,_⟩:=pv;exact SqL.of (s _ _ hR1)) ?_ ?_
 .rintro i xs H2 x K hx ⟨gs,rfl,hgl,s2,hg⟩ hK
  obtain⟨n,hn,rfl⟩:=nN' hx
  obtain⟨hi,rfl⟩:=fP' hn
  symm
  refine ag' hR ?_
  symm
  refine⟨a,M,n,rfl,hM.mono (fun b xs e=>(s1.trans s2) _ _ e),hO,hl,hi,fun d fs H3 hd0 s3 hd hfs=>?_⟩
  refine⟨by rw[ac,hgl];exact al' (by omega),hK _ _ ⟨gs++[d],by rw[ax];rfl,by rw[au,hgl];rfl,s2.trans s3,fun j g hj=>?_⟩⟩
  by_cases hjl:j<gs.length
  .rw[List.getElem?_append_left hjl]at hj
   obtain⟨fs',k1,k2⟩:=hg j g hj
   exact⟨fs',s3 _ _ k1,k2⟩
  .rw[List.getElem?_append_right (by omega)]at hj
   have e:j-gs.length=0:=by
    rcases Nat.eq_zero_or_pos (j-gs.length)with h|h
    .exact h
    .rw[bj (show[d].length<=_ from h)]at hj;cases hj
   rw[e]at hj
   cases hj
   have:j=n:=by omega
   subst this
   exact⟨fs,hd,hfs⟩
 .rintro xs H2 ⟨gs,rfl,hgl,s2,hg⟩ B hB0
  have hil:(iN (ah M.length)).length=M.length:=by unfold iN;simp
  rw[hil]at hgl
  have s3:=s2.trans (ae' hB0 (.lst (gs.map V.ref)))
  have hB3:upd H2 B (.lst (gs.map V.ref)) B=some (.lst (gs.map V.ref)):=ac'
  have hg3:∀(j:Nat) g,gs[j]?=some g->∃fs,upd H2 B (.lst (gs.map V.ref)) g=some (.dK (ks fs))/\∀x,x∈fs↔rch M j x=true:=fun j g hj=>by
   obtain⟨fs,k1,k2⟩:=hg j g hj
   exact⟨fs,ae' hB0 _ _ _ k1,k2⟩
  generalize upd H2 B (.lst (gs.map V.ref))=H3 at s3 hB3 hg3 ⊢
  have s03:=s1.trans s3
  symm
  refine⟨by decide,fun T hT=>?_⟩
  have hTH:H T=none:=s03.free hT
  have hT4:upd H3 T (.lst []) T=some (.lst []):=ac'
  have hS4:∀o,au' H3 (upd (upd H3 T (.lst [])) T o):=fun o=>by rw[fk'];exact ae' hT o
  generalize upd H3 T (.lst [])=H4 at hT4 hS4 ⊢
  have hold:∀H5,(∀o,au' H3 (upd H5 T o))->au' H3 H5:=fun H5 hS b u e=>by
   have hb:b≠T:=ah' e hT
   have:=hS (.lst []) b u e
   rwa [af' hb]at this
  symm
  refine aF' (SqL.of (hold _ hS4 _ _ (s3 _ _ hR1))) ?_
  refine px' (fun i σ H5=>(∃x3 x5 x6,σ=[some (.ref a),some (.ref R),some (.ref B),x3,some (.ref T),x5,x6])/\(∀o,au' H3 (upd H5 T o))/\kM' H H5 T (rgo M i)) ⟨⟨_,_,_,rfl⟩,hS4,[],hT4,trivial⟩ (fun i σ H5 _ pv=>SqL.of (hold _ pv.2.1 _ _ (s3 _ _ hR1))) ?_ ?_
  .rintro i x σ H5 hx ⟨⟨x3,x5,x6,rfl⟩,hS5,vs,hT5,hall⟩
   obtain⟨n,hn,rfl⟩:=nN' hx
   obtain⟨hi,rfl⟩:=fP' hn
   have s5:=hold _ hS5
   symm
   refine aF' (SqL.of (s5 _ _ (s3 _ _ hR1))) ?_
   refine eq' (fun k xs H6=>k<=M.length/\xs=iN ((ah k).filter fun b=>rch M n b&&rch M b n)/\H6=H5) ⟨aK _,rfl,rfl⟩ (fun k xs H6 pv=>by rw[pv.2.2];exact SqL.of (s5 _ _ (s3 _ _ hR1))) ?_ ?_
   .rintro k xs H6 x K hx ⟨_,rfl,rfl⟩ hK
    obtain⟨m,hm,rfl⟩:=nN' hx
    obtain⟨hk,rfl⟩:=fP' hm
    obtain⟨g1,hg1⟩:∃g,gs[n]?=some g:=⟨_,aa (by omega)⟩
    obtain⟨g2,hg2⟩:∃g,gs[m]?=some g:=⟨_,aa (by omega)⟩
    obtain⟨f1,d1,e1⟩:=hg3 n g1 hg1
    obtain⟨f2,d2,e2⟩:=hg3 m g2 hg2
    have hsz:∀(f:Nat->Bool),(iN ((ah m).filter f)).length<sizeLine:=fun f=>by
     unfold iN
     rw[ac]
     have:=cL f (ah m)
     rw[aR]at this
     exact al' (by omega)
    have hrs:=qa' (f:=fun b=>rch M n b&&rch M b n) (i:=m)
    symm
    refine a3' (SqL.of (s5 _ _ hB3)) (v:=.ref g1) (a8' (by rw[ao,hg1];rfl)) ?_
    symm
    refine m2' (o:=e9' (ks f1) (Key.inl (m:Int))) (f5'.k (k:=.inl _) (s5 _ _ d1)) ?_
    rw[if_neg (by decide),p9']
    by_cases h1:rch M n m=true
    .rw[decide_eq_true ((e1 m).mpr h1)]
     symm
     refine a3' (SqL.of (s5 _ _ hB3)) (v:=.ref g2) (a8' (by rw[ao,hg2];rfl)) ?_
     symm
     refine m2' (o:=e9' (ks f2) (Key.inl (n:Int))) (f5'.k (k:=.inl _) (s5 _ _ d2)) ?_
     rw[if_neg (by decide),p9']
     by_cases h2:rch M m n=true
     .rw[decide_eq_true ((e2 n).mpr h2)]
      symm
      refine⟨hsz _,hK _ _ ⟨hk,?_,rfl⟩⟩
      rw[hrs,h1,h2]
      unfold iN
      simp
     .rw[decide_eq_false (fun z=>h2 ((e2 n).mp z))]
      symm
      refine hK _ _ ⟨hk,?_,rfl⟩
      rw[hrs,if_neg (by rw[af];exact fun z=>h2 z.2),cW]
    .rw[decide_eq_false (fun z=>h1 ((e1 m).mp z))]
     symm
     refine hK _ _ ⟨hk,?_,rfl⟩
     rw[hrs,if_neg (by rw[af];exact fun z=>h1 z.1),cW]
   .rintro xs H6 ⟨_,rfl,rfl⟩ p hp
    rw[hil,show((ah M.length).filter fun b=>rch M n b&&rch M b n)=cl M n from rfl]
    have hpT:p≠T:=fun e=>by subst e;rw[hT5]at hp;cases hp
    have hpH:H p=none:=s03.free (s5.free hp)
    have s6:=ae' hp (.lst (iN (cl M n)))
    have hp6:upd H6 p (.lst (iN (cl M n))) p=some (.lst (iN (cl M n))):=ac'
    generalize upd H6 p (.lst (iN (cl M n)))=H7 at s6 hp6 ⊢
    have hS7:∀o,au' H3 (upd H7 T o):=fun o b u e=>by
     rw[af' (ah' e hT)]
     exact s6 _ _ (s5 _ _ e)
    have hall7:=hall.mono (S:=fun v l=>∃p,v=.ref p/\H p=none/\p≠T/\H7 p=some (.lst (iN l))) fun v l ⟨p,e,h0,h1,h2⟩=>⟨p,e,h0,h1,s6 _ _ h2⟩
    have hT7:=s6 _ _ hT5
    symm
    refine iS' (SqL.of hp6) ?_
    have hem:(iN (cl M n)).isEmpty=(cl M n).isEmpty:=by unfold iN;rw[List.isEmpty_map]
    rw[hem]
    have hno:fst M n=false->kM' H H7 T (rgo M (n+1)):=fun hf=>by
     rw[jW',if_neg (by rw[hf];exact ay),cW]
     exact⟨vs,hT7,hall7⟩
    cases hc:cl M n with
    |nil=>
     rw[show(!([]:List Nat).isEmpty)=false from rfl]
     symm
     exact⟨⟨_,_,_,rfl⟩,hS7,hno (by rw[jZ',hc];rfl)⟩
    |cons x r=>
     rw[show(!(x :: r).isEmpty)=true from rfl]
     symm
     refine a3' (SqL.of hp6) (v:=.int x) (by rw[hc];exact DS') ?_
     symm
     have hfe:fst M n=decide (x=n):=by rw[jZ',hc];simp
     by_cases hxn:x=n
     .rw[decide_eq_true (show(x:Int)=(n:Int) by omega)]
      symm
      have hvl:=hall.len
      have hrl:=ut' (M:=M) (i:=n)
      refine⟨tyL hT7 rfl,jH' hT7 (al' (by omega)) ?_⟩
      symm
      refine⟨⟨_,_,_,rfl⟩,fun o=>by rw[fk'];exact hS7 o,?_⟩
      rw[jW',if_pos (by rw[hfe];exact decide_eq_true hxn)]
      refine⟨_,ac',(hall7.mono fun v l ⟨p',e,h0,h1,h2⟩=>⟨p',e,h0,h1,by rw[af' h1];exact h2⟩).snoc ⟨p,rfl,hpH,hpT,by rw[af' hpT];exact hp6⟩⟩
     .rw[decide_eq_false (show ¬(x:Int)=(n:Int) by omega)]
      symm
      exact⟨⟨_,_,_,rfl⟩,hS7,hno (by rw[hfe];exact decide_eq_false hxn)⟩
  .rintro σ H5 ⟨⟨x3,x5,x6,rfl⟩,hS5,hnew⟩
   rw[hil]at hnew
   symm
   exact q T H5 hTH (s03.trans (hold _ hS5)) hnew
def dS':Sp:=fun vs H Q _=>∃(a:Addr) (M:List Rm),vs=[.ref a]/\IsM H a M/\OkM M/\M.length<=120/\∀H',au' H H'->Q (.bl (decide (rgo M M.length=[ah M.length]))) H'
theorem ll1 {H:Hp} {b p:Addr} {l:List Nat} (h:H b=some (.lst [.ref p])) (hp:H p=some (.lst (iN l))):LL H b (nn [l]):=by
 refine⟨_,h,rfl,fun i v ns hv hn=>?_⟩
 match i,hv,hn with
 |0,hv,hn=>
  cases hv
  cases hn
  exact⟨p,rfl,by rw[hp,rP']⟩
 |i+1,hv,hn=>cases hv
theorem ip' {C:Rc} (hN:C.N.length=1) (hI:C.fs "is_machine"=some e5') (hR:C.fs "rings"=some eP'):∀vs H Q E,dS' vs H Q E->tSs C c8' { nx:=fun _ H'=>Q .non H',rt:=Q } (L2.ay' C.N vs) H:=by
 intro vs H Q E h
 obtain⟨a,M,rfl,hM,hO,hl,q⟩:=h
 rw[aj' hN]
 unfold c8'
 symm
 refine ag' hI ?_
 symm
 refine⟨a,M,rfl,hM,hO,by omega,fun H1 s1=>?_⟩
 symm
 refine ag' hR ?_
 symm
 refine⟨a,M,rfl,hM.mono (fun b xs e=>s1 _ _ e),hO,hl,fun l H2 hl0 s2 hL=>?_⟩
 obtain⟨mv,hmv,hmr⟩:=hM.mono (fun b xs e=>(s1.trans s2) _ _ e)
 have hml:=hmr.len
 symm
 refine cl' (SqT.of hmv) ?_
 rw[hml]
 symm
 refine dB' fun u hu=>?_
 symm
 refine et' ac' (by omega) (by omega) (by omega) (by omega) (cC (al' (by omega))) fun R hR0=>?_
 rw[show((M.length:Int)-0).toNat=M.length by omega,jY']
 have s3:=(ae' hu (.rng 0 (M.length:Int))).trans (ae' hR0 (.lst (iN (ah M.length))))
 have hR1:upd (upd H2 u (.rng 0 (M.length:Int))) R (.lst (iN (ah M.length))) R=some (.lst (iN (ah M.length))):=ac'
 generalize upd (upd H2 u (.rng 0 (M.length:Int))) R (.lst (iN (ah M.length)))=H3 at s3 hR1 ⊢
 symm
 refine⟨by decide,fun b hb=>?_⟩
 have s4:=s3.trans (ae' hb (.lst [.ref R]))
 have hL4:LL (upd H3 b (.lst [.ref R])) l (nn (rgo M M.length)):=by
  obtain⟨vs,e,hv,g⟩:=hL.ll
  refine⟨vs,s4 _ _ e,hv,fun i v ns h1 h2=>?_⟩
  obtain⟨p,e1,e2⟩:=g i v ns h1 h2
  exact⟨p,e1,s4 _ _ e2⟩
 refine yo' hL4 (ll1 (l:=ah M.length) ac' (ae' hb _ _ _ hR1)) ?_
 rw[show decide (nn (rgo M M.length)=nn [ah M.length])=decide (rgo M M.length=[ah M.length]) from decide_eq_decide.mpr ⟨rQ',fun e=>by rw[e]⟩]
 exact q _ ((s1.trans s2).trans s4)
end K11
namespace K68
open PySem PySem.Spec PyProof.Rows L2 R3 LW
def c9':List Str:=["thing"]
def b8':List Str:=["bool","int","isinstance"]
def da':List Str:=["thing","low","high"]
def b9':List Str:=[]
def d6':List Str:=["thing"]
def db':List Str:=["isinstance","len","tuple"]
def dc':List Str:=["thing"]
def ca':List Str:=["isinstance","list","tuple"]
def co':List Str:=["thing","many","each"]
def bu':List Str:=["all","len"]
def d7':List Str:=["thing","many"]
def de':List Str:=[]
def d8':List Str:=["thing","many"]
def df':List Str:=[]
def cK':List Str:=["thing","room"]
def bN':List Str:=["all","isinstance","len","tuple"]
def d9':List Str:=["machine","rooms","inside","led_to","room","lead"]
def dg':List Str:=["set"]
def ea':List Str:=["machine","numbers","anew","at","room"]
def dh':List Str:=["enumerate","tuple"]
def eb':List Str:=["machine","numbers","fewer"]
def di':List Str:=["len","list","range"]
def ec':List Str:=["machine","room","found","waiting","here","lead"]
def dj':List Str:=[]
def fQ':List Str:=["machine","rooms","beyond","room","told","ring","other"]
def eB':List Str:=["len","list","range"]
def ed':List Str:=["machine"]
def dk':List Str:=["len","list","range"]
def cL':List Str:=["machine","room","many","walks","step","row","end","bit"]
def bO':List Str:=["int","range"]
def ee':List Str:=["machine","many","room"]
def dl':List Str:=["len","range"]
def bP':List Str:=["machine","numbers","room","bit","lead"]
def bc':List Str:=["int"]
def cF':List Str:=["machine","numbers","room"]
def bY':List Str:=["len","range"]
def fi':List Str:=["machine","goal","many","left","room","step"]
def eC':List Str:=["len","range"]
def eQ':List Str:=["machine","many"]
def dT':List Str:=[]
def bv':List Str:=["one","other"]
def a0':List Str:=[]
def cp':List Str:=["thing"]
def bw':List Str:=[]
def cq':List Str:=["top","below","divisor"]
def bx':List Str:=[]
def cM':List Str:=["one","other"]
def bQ':List Str:=[]
def eR':List Str:=["machine","steps","weights","room","step","own","way","fractions","low","high","fraction"]
def dU':List Str:=["range","zip"]
def cr':List Str:=["thing","many","each"]
def by':List Str:=["all"]
def b0':List Str:=["machine","low","high","weights","fractions","each"]
def bf':List Str:=["all","len","list","zip"]
def bg':List Str:=["bounds","low0","high0","low1","high1","spread","levels","bit","high","place","level"]
def aU':List Str:=["list","range"]
def cs':List Str:=["bounds","room","bit","low0","high0","low1","high1","spread","last","place","level"]
def bz':List Str:=[]
def a4':List Str:=["bounds","rooms","numbers","at","room"]
def aM':List Str:=["enumerate","tuple"]
def cN':List Str:=["bounds","less","numbers"]
def bR':List Str:=[]
def dm':List Str:=["machine","numbers","many","sums","step"]
def cb':List Str:=["list","range"]
def dE':List Str:=["machine","q","sources","room","walks","row","end"]
def cG':List Str:=["enumerate"]
def bi':List Str:=["machine","p","q","limits","weights","sums","sources","waiting","room","lost","source"]
def aV':List Str:=["len","list","range"]
def eS':List Str:=["machine","p","q","most","weights","room"]
def dV':List Str:=["any"]
def dn':List Str:=["counts","bits","count"]
def cc':List Str:=["all"]
def cO':List Str:=["machine","p","q","most","counts","room","m"]
def bS':List Str:=["range"]
def eD':List Str:=["_law_script","_law_k"]
def dF':List Str:=["len"]
def qc':List Str:=["_law_script","_law_k","_law_cell"]
def nO':List Str:=["abs","int"]
def nP':List Str:=["_law_box_here","_law_many_here","_law_found","_law_once","_law_twice"]
def j0':List Str:=[]
def nQ':List Str:=["_law_box_here","_law_least","_law_few","_law_most"]
def j1':List Str:=[]
def cP':List Str:=["_law_box_here","_law_many_here","_law_order","_law_k","_law_rooms","_law_at","_law_room","_law_on","_law_other"]
def bT':List Str:=["enumerate","int","range","tuple"]
def jc':List Str:=["_law_box_here","_law_p"]
def gP':List Str:=["min"]
def jd':List Str:=["_law_one","_law_many_here","_law_found","_law_turn"]
def gQ':List Str:=["range"]
def gR':Css:=(.cons (.asg (.name 2) (.tup (.cons (.int 1) (.cons (.int 1) .nil))))
  (.cons (.for_ (.name 3) (.range1 (.var 1)) (.cons (.asg (.name 2) (.tup (.cons (.bin .Mult (.idx (.var 2) (.int 0)) (.idx (.var 0) (.int 0))) (.cons (.bin .Mult (.idx (.var 2) (.int 1)) (.idx (.var 0) (.int 1))) .nil))))
  .nil))
  (.cons (.ret (.var 2))
  .nil)))
def cQ':List Str:=["_law_box_here","_law_machine","_law_steps","_law_low","_law_high","_law_weights","_law_further","_law_times","_law_papers","_law_one","_law_other","_law_some"]
def bU':List Str:=["all","min"]
def bV':Css:=(.cons (.asg (.tup (.cons (.name 3) (.cons (.name 4) (.cons (.name 5) .nil)))) (.call "growth" (.cons (.var 1) (.cons (.var 2) .nil))))
  (.cons (.asg (.name 6) (.call "growth" (.cons (.var 1) (.cons (.blt .min (.cons (.int 60) (.cons (.bin .Add (.bin .Add (.var 2) (.int 1)) (.call "_law_take" (.cons (.var 0) (.cons (.int 9) .nil)))) .nil))) .nil))))
  (.cons (.asg (.name 7) (.bin .Add (.int 2) (.call "_law_take" (.cons (.var 0) (.cons (.int 5) .nil)))))
  (.cons (.asg (.name 8) (.lst (.cons (.tup (.cons (.var 3) (.cons (.var 4) (.cons (.var 5) .nil)))) (.cons (.var 6) (.cons (.tup (.cons (.var 3) (.cons (.var 4) (.cons (.idx (.var 6) (.int 2)) .nil)))) (.cons (.tup (.cons (.var 3) (.cons (.var 4) (.cons (.comp (.bin .Mult (.var 7) (.var 9)) [9] (.name 9) (.val (.var 5)) .none .nil) .nil)))) .nil))))))
  (.cons (.ret (.blt .all (.cons (.comp (.call "shows_growth" (.cons (.var 1) (.cons (.var 9) (.cons (.var 10) (.cons (.var 11) .nil))))) [9,10,11] (.tup (.cons (.name 9) (.cons (.name 10) (.cons (.name 11) .nil)))) (.val (.var 8)) .none .nil) .nil)))
  .nil)))))
def do':List Str:=["_law_box_here","_law_machine","_law_steps","_law_p","_law_q","_law_low","_law_high","_law_weights","_law_most","_law_least","_law_paper"]
def cd':List Str:=[]
def ce':Css:=(.cons (.asg (.tup (.cons (.name 5) (.cons (.name 6) (.cons (.name 7) .nil)))) (.call "growth" (.cons (.var 1) (.cons (.var 2) .nil))))
  (.cons (.par 8 9 (.call "_law_power" (.cons (.var 6) (.cons (.var 4) .nil))) (.call "_law_power" (.cons (.var 5) (.cons (.var 4) .nil))))
  (.cons (.asg (.name 7) (.call "enough" (.cons (.var 1) (.cons (.var 3) (.cons (.var 4) (.cons (.bin .Add (.int 1) (.call "_law_take" (.cons (.var 0) (.cons (.int 60) .nil)))) .nil))))))
  (.cons (.asg (.name 10) (.call "too_little" (.cons (.var 1) (.cons (.var 3) (.cons (.var 4) (.cons (.int 30) .nil))))))
  (.cons (.ite (.and (.cmp .Lt (.idx (.var 8) (.int 0)) (.bin .LShift (.idx (.var 8) (.int 1)) (.var 3))) (.cmp .IsNot (.var 7) .non)) (.cons (.ret (.bl false))
  .nil) .nil)
  (.cons (.ite (.and (.cmp .GtE (.idx (.var 9) (.int 0)) (.bin .LShift (.idx (.var 9) (.int 1)) (.var 3))) (.cmp .IsNot (.var 10) .non)) (.cons (.ret (.bl false))
  .nil) .nil)
  (.cons (.ret (.or (.cmp .Is (.var 7) .non) (.cmp .Is (.var 10) .non)))
  .nil)))))))
def dp':List Str:=["_law_box_here","_law_highs","_law_narrow","_law_wide","_law_steps","_law_low","_law_high","_law_many_here"]
def cf':List Str:=["all","max","range"]
def cg':Css:=(.cons (.asg (.name 1) (.lst (.cons (.bin .Add (.int 1) (.call "_law_take" (.cons (.var 0) (.cons (.int 4) .nil)))) (.cons (.bin .Add (.int 2) (.call "_law_take" (.cons (.var 0) (.cons (.int 4) .nil)))) .nil))))
  (.cons (.asg2 2 3 (.call "machine_of" (.cons (.tup (.cons (.int 1) (.cons (.idx (.var 1) (.int 0)) (.cons (.int 1) (.cons (.idx (.var 1) (.int 1)) (.cons .non .nil)))))) .nil)) (.call "machine_of" (.cons (.tup (.cons (.int 1) (.cons (.bin .Add (.idx (.var 1) (.int 0)) (.int 1)) (.cons (.int 1) (.cons (.idx (.var 1) (.int 1)) (.cons .non .nil)))))) .nil)))
  (.cons (.ite (.or (.not (.val (.call "is_ring" (.cons (.var 2) .nil)))) (.not (.val (.call "is_ring" (.cons (.var 3) .nil))))) (.cons (.ret (.bl false))
  .nil) .nil)
  (.cons (.asg (.name 4) (.bin .Add (.int 6) (.call "_law_take" (.cons (.var 0) (.cons (.int 20) .nil)))))
  (.cons (.par 5 6 (.idx (.call "growth" (.cons (.var 2) (.cons (.var 4) .nil))) (.int 0)) (.idx (.call "growth" (.cons (.var 3) (.cons (.var 4) .nil))) (.int 1)))
  (.cons (.ite (.cmp .Gt (.bin .Mult (.idx (.var 5) (.int 0)) (.idx (.var 6) (.int 1))) (.bin .Mult (.idx (.var 6) (.int 0)) (.idx (.var 5) (.int 1)))) (.cons (.ret (.bl false))
  .nil) .nil)
  (.cons (.ret (.blt .all (.cons (.comp (.cmp .LtE (.blt .max (.cons (.call "counts" (.cons (.var 2) (.cons (.var 7) .nil))) .nil)) (.blt .max (.cons (.call "counts" (.cons (.var 3) (.cons (.var 7) .nil))) .nil))) [7] (.name 7) (.range1 (.int 12)) .none .nil) .nil)))
  .nil)))))))
def je':List Str:=["_law_box_here","_law_machine","_law_steps","_law_p","_law_q"]
def gS':List Str:=["max"]
def gT':Css:=(.cons (.asg (.name 1) (.call "_law_ring_machine" (.cons (.var 0) (.cons (.call "_law_many" (.cons (.var 0) (.cons (.int 1) (.cons (.int 5) (.cons (.int 12) .nil))))) .nil))))
  (.cons (.ite (.cmp .Eq (.call "_law_take" (.cons (.var 0) (.cons (.int 3) .nil))) (.int 0)) (.cons (.asg (.name 1) (.call "machine_of" (.cons (.tup (.cons (.int 1) (.cons (.bin .Add (.int 1) (.call "_law_take" (.cons (.var 0) (.cons (.int 4) .nil)))) (.cons (.int 1) (.cons (.bin .Add (.int 1) (.call "_law_take" (.cons (.var 0) (.cons (.int 4) .nil)))) (.cons .non .nil)))))) .nil)))
  .nil) .nil)
  (.cons (.asg (.name 2) (.call "_law_take" (.cons (.var 0) (.cons (.int 41) .nil))))
  (.cons (.asg (.tup (.cons (.name 3) (.cons (.name 4) .nil))) (.call "_law_rates" (.cons (.var 0) .nil)))
  (.cons (.ite (.cmp .Gt (.blt .max (.cons (.call "counts" (.cons (.var 1) (.cons (.var 4) .nil))) .nil)) (.int 40)) (.cons (.asg (.tup (.cons (.name 3) (.cons (.name 4) .nil))) (.tup (.cons (.int 1) (.cons (.int 2) .nil))))
  .nil) .nil)
  (.cons (.ite (.or (.not (.val (.call "_law_papers_right" (.cons (.var 0) (.cons (.var 1) (.cons (.var 2) .nil)))))) (.not (.val (.call "_law_rates_right" (.cons (.var 0) (.cons (.var 1) (.cons (.var 2) (.cons (.var 3) (.cons (.var 4) .nil))))))))) (.cons (.ret (.bl false))
  .nil) .nil)
  (.cons (.ret (.call "_law_wider_right" (.cons (.var 0) .nil)))
  .nil)))))))
def qd':List Str:=["_law_script","_law_k"]
def nR':List Str:=["len","max","min","range"]
def qe':Css:=(.cons (.for_ (.name 1) (.range1 (.blt .max (.cons (.int 3) (.cons (.blt .min (.cons (.blt .len (.cons (.var 0) .nil)) (.cons (.int 6) .nil))) .nil)))) (.cons (.ite (.not (.val (.call "_law_right" (.cons (.call "_law_box" (.cons (.var 0) (.cons (.var 1) .nil))) .nil)))) (.cons (.ret (.bl false))
  .nil) .nil)
  .nil))
  (.cons (.ret (.bl true))
  .nil))
open K30 K31 SR CK RW K28 K29 GR K26 K71 K11 TM BD BE TE
theorem y9' {w v:Nat->Nat} {a b:Nat} {o:Option Nat} (h:∀m,o=some m->a*w m<=v m*b):a*ow w o<=ow v o*b:=by
 cases o with
 |none=>simp[ow]
 |some m=>exact h m rfl
theorem za' {w v:Nat->Nat} {a b:Nat} {o:Option Nat} (h:∀m,o=some m->v m*b<=a*w m):ow v o*b<=a*ow w o:=by
 cases o with
 |none=>simp[ow]
 |some m=>exact h m rfl
theorem nS' {M:List Rm} (hO:OkM M) {w v:Nat->Nat} {a b:Nat} (h:∀r,r<M.length->a*w r<=v r*b) (r:Nat):a*st1 M w r<=st1 M v r*b:=by
 unfold st1
 rw[bV,dk]
 exact Nat.add_le_add (y9' fun m e=>h m (LW.ds' hO e)) (y9' fun m e=>h m (LW.ds' hO e))
theorem rR' {M:List Rm} (hO:OkM M) {w v:Nat->Nat} {a b:Nat} (h:∀r,r<M.length->v r*b<=a*w r) (r:Nat):st1 M v r*b<=a*st1 M w r:=by
 unfold st1
 rw[bV,dk]
 exact Nat.add_le_add (za' fun m e=>h m (LW.ds' hO e)) (za' fun m e=>h m (LW.ds' hO e))
theorem rS' {w v:Nat->Nat} {o:Option Nat}:ow (fun r=>w r+v r) o=ow w o+ow v o:=by cases o<;>rfl
theorem nT' {M:List Rm} {w v:Nat->Nat} {r:Nat}:st1 M (fun r=>w r+v r) r=st1 M w r+st1 M v r:=by
 unfold st1
 rw[rS',rS']
 omega
theorem rT' {w:Nat->Nat} {c:Nat} {o:Option Nat}:ow (fun r=>c*w r) o=c*ow w o:=by cases o<;>simp[ow]
theorem nU' {M:List Rm} {w:Nat->Nat} {c r:Nat}:st1 M (fun r=>c*w r) r=c*st1 M w r:=by
 unfold st1
 rw[rT',rT',bV]
theorem zb' {M:List Rm} {s:Nat}:gw M (s+1)=fun r=>gw M s r+st1 M (gw M s) r:=rfl
theorem zc' {M:List Rm} (hO:OkM M) {a b s:Nat} (h:∀r,r<M.length->a*gw M s r<=st1 M (gw M s) r*b):∀k r,r<M.length->a*gw M (s+k) r<=st1 M (gw M (s+k)) r*b
 |0,r,hr=>h r hr
 |k+1,r,hr=>by
  have ih:=zc' hO h k
  show a*gw M (s+k+1) r<=st1 M (gw M (s+k+1)) r*b
  rw[zb',nT',bV,dk]
  exact Nat.add_le_add (ih r hr) (nS' hO ih r)
theorem zd' {M:List Rm} (hO:OkM M) {a b s:Nat} (h:∀r,r<M.length->st1 M (gw M s) r*b<=a*gw M s r):∀k r,r<M.length->st1 M (gw M (s+k)) r*b<=a*gw M (s+k) r
 |0,r,hr=>h r hr
 |k+1,r,hr=>by
  have ih:=zd' hO h k
  show st1 M (gw M (s+k+1)) r*b<=a*gw M (s+k+1) r
  rw[zb',nT',bV,dk]
  exact Nat.add_le_add (ih r hr) (rR' hO ih r)
theorem ze' {M:List Rm} (hO:OkM M) {w:Nat->Nat} {a b:Nat} (h:∀r,r<M.length->a*w r<=st1 M w r*b):∀n r,r<M.length->a ^ n*w r<=it M w n r*b ^ n
 |0,r,_=>by simp[it]
 |n+1,r,hr=>by
  have ih:=ze' hO h n
  have h1:a ^ n*st1 M w r<=st1 M (it M w n) r*b ^ n:=nS' hO ih r
  show a ^ (n+1)*w r<=st1 M (it M w n) r*b ^ (n+1)
  calc a ^ (n+1)*w r=a ^ n*(a*w r):=by rw[bK,aU]
   _<=a ^ n*(st1 M w r*b):=cj _ (h r hr)
   _=a ^ n*st1 M w r*b:=by rw[aU]
   _<=st1 M (it M w n) r*b ^ n*b:=aH _ h1
   _=st1 M (it M w n) r*b ^ (n+1):=by rw[bK,aU]
theorem zf' {M:List Rm} (hO:OkM M) {w:Nat->Nat} {a b:Nat} (h:∀r,r<M.length->st1 M w r*b<=a*w r):∀n r,r<M.length->it M w n r*b ^ n<=a ^ n*w r
 |0,r,_=>by simp[it]
 |n+1,r,hr=>by
  have ih:=zf' hO h n
  have h1:st1 M (it M w n) r*b ^ n<=a ^ n*st1 M w r:=rR' hO ih r
  show st1 M (it M w n) r*b ^ (n+1)<=a ^ (n+1)*w r
  calc st1 M (it M w n) r*b ^ (n+1)=st1 M (it M w n) r*b ^ n*b:=by rw[bK,aU]
   _<=a ^ n*st1 M w r*b:=aH _ h1
   _=a ^ n*(st1 M w r*b):=by rw[aU]
   _<=a ^ n*(a*w r):=cj _ (h r hr)
   _=a ^ (n+1)*w r:=by rw[bK,aU]
theorem zg' {M:List Rm} (hO:OkM M) {w v:Nat->Nat} {x y:Nat} (h:∀r,r<M.length->x*v r<=w r*y):∀n r,r<M.length->x*it M v n r<=it M w n r*y
 |0,r,hr=>h r hr
 |n+1,r,hr=>nS' hO (zg' hO h n) r
theorem nV' {w v:Nat->Nat} (hw:∀r,1<=w r):∀{n:Nat},1<=n->∃r,r<n/\∀e,e<n->v e*w r<=v r*w e
 |0,h=>absurd h (by decide)
 |1,_=>⟨0,by decide,fun e he=>by rw[show e=0 by omega];exact ak _⟩
 |n+2,_=>by
  obtain⟨r,hr,h⟩:=nV' (w:=w) (v:=v) hw (n:=n+1) (by omega)
  by_cases z:v r*w (n+1)<=v (n+1)*w r
  .refine⟨n+1,by omega,fun e he=>?_⟩
   by_cases q:e=n+1
   .rw[q];exact ak _
   .have h1:=h e (by omega)
    refine bC (c:=w r) ?_ (hw r)
    calc v e*w (n+1)*w r=(v e*w r)*w (n+1):=by rw[aW]
     _<=(v r*w e)*w (n+1):=aH _ h1
     _=(v r*w (n+1))*w e:=by rw[aW]
     _<=(v (n+1)*w r)*w e:=aH _ z
     _=v (n+1)*w e*w r:=by rw[aW]
  .refine⟨r,by omega,fun e he=>?_⟩
   by_cases q:e=n+1
   .rw[q];omega
   .exact h e (by omega)
theorem kO' {M:List Rm} (hO:OkM M) {w v:Nat->Nat} {a b p q:Nat} (hw:∀r,1<=w r) (h:∀r,r<M.length->st1 M w r*b<=a*w r) (hv:Okw M p q v) (hc:a ^ q<b ^ q*2 ^ p):∀r,r<M.length->v r=0:=by
 intro r1 hr1
 refine Decidable.byContradiction fun hn=>?_
 obtain⟨r,hr,ht⟩:=nV' (w:=w) (v:=v) hw (n:=M.length) (by omega)
 have hvr:1<=v r:=by
  have h1:=ht r1 hr1
  have h2:1<=v r1*w r:=dh (show 1<=v r1 by omega) (hw r)
  refine Nat.one_le_iff_ne_zero.mpr fun z=>?_
  rw[z,Nat.zero_mul]at h1
  omega
 have h1:=hv r hr
 rw[<- gM']at h1
 have h2:w r*it M v q r<=it M w q r*v r:=zg' hO (x:=w r) (y:=v r) (fun e he=>by have:=ht e he;rw[bc (w r),bc (w e)];exact this) q r hr
 have h3:=zf' hO h q r hr
 have h4:(v r*w r)*(b ^ q*2 ^ p)<=(v r*w r)*a ^ q:=by
  calc (v r*w r)*(b ^ q*2 ^ p)=(v r*2 ^ p)*w r*b ^ q:=by rw[bc (b ^ q),<- aU,aW (v r)]
   _<=it M v q r*w r*b ^ q:=aH _ (aH _ h1)
   _=(w r*it M v q r)*b ^ q:=by rw[bc (w r)]
   _<=(it M w q r*v r)*b ^ q:=aH _ h2
   _=(it M w q r*b ^ q)*v r:=by rw[aW]
   _<=(a ^ q*w r)*v r:=aH _ h3
   _=(v r*w r)*a ^ q:=by rw[aU,bc (a ^ q),bc (w r)]
 have h5:=Nat.le_of_mul_le_mul_left h4 (Nat.mul_pos hvr (hw r))
 omega
theorem zh' {M:List Rm} (hO:OkM M) {w:Nat->Nat} {a b p q:Nat} (hb:1<=b) (h:∀r,r<M.length->a*w r<=st1 M w r*b) (hc:b ^ q*2 ^ p<=a ^ q):Okw M p q w:=by
 intro r hr
 rw[<- gM']
 have h1:=ze' hO h q r hr
 refine bC (c:=b ^ q) ?_ (Nat.pow_pos hb)
 calc w r*2 ^ p*b ^ q=(b ^ q*2 ^ p)*w r:=by rw[aU,bc (2 ^ p),bc]
  _<=a ^ q*w r:=aH _ hc
  _<=_:=h1
def Emb (M N:List Rm) (e:Nat->Nat):Prop:=(∀r,r<M.length->e r<N.length)/\∀r c m,r<M.length->LW.stp M r c=some m->LW.stp N (e r) c=some (e m)
theorem rU' {M N:List Rm} {e:Nat->Nat} (hE:Emb M N e) (hO:OkM M) {u w:Nat->Nat} {a b:Nat} (h:∀r,r<M.length->a*u r<=w (e r)*b) {r:Nat} (hr:r<M.length) (c:Bool):a*ow u (LW.stp M r c)<=ow w (LW.stp N (e r) c)*b:=by
 cases z:LW.stp M r c with
 |none=>simp[ow]
 |some m=>
  rw[hE.2 r c m hr z]
  exact h m (LW.ds' hO z)
theorem nW' {M N:List Rm} {e:Nat->Nat} (hE:Emb M N e) (hO:OkM M) {u w:Nat->Nat} {a b:Nat} (h:∀r,r<M.length->a*u r<=w (e r)*b) {r:Nat} (hr:r<M.length):a*st1 M u r<=st1 N w (e r)*b:=by
 unfold st1
 rw[bV,dk]
 exact Nat.add_le_add (rU' hE hO h hr false) (rU' hE hO h hr true)
theorem Cf' {M N:List Rm} {e:Nat->Nat} (hE:Emb M N e) (hO:OkM M) {u w:Nat->Nat} {p q x y:Nat} (hu:∀r,1<=u r) (hw:∀r,1<=w r) (hM:1<=M.length) (hl:∀r,r<M.length->p*u r<=st1 M u r*q) (hh:∀r,r<N.length->st1 N w r*y<=x*w r):p*y<=x*q:=by
 obtain⟨r,hr,ht⟩:=nV' (w:=fun r=>w (e r)) (v:=u) (fun r=>hw _) (n:=M.length) hM
 have h1:w (e r)*st1 M u r<=st1 N w (e r)*u r:=nW' hE hO (fun r' hr'=>by have:=ht r' hr';rw[bc (w (e r)),bc (w (e r'))];exact this) hr
 have h2:=hl r hr
 have h3:=hh (e r) (hE.1 r hr)
 refine Nat.le_of_mul_le_mul_left (c:=u r*w (e r)) ?_ (Nat.mul_pos (hu r) (hw _))
 calc u r*w (e r)*(p*y)=(p*u r)*(w (e r)*y):=by simp only[aU,bc,bY]
  _<=(st1 M u r*q)*(w (e r)*y):=aH _ h2
  _=(w (e r)*st1 M u r)*(q*y):=by simp only[aU,bc,bY]
  _<=(st1 N w (e r)*u r)*(q*y):=aH _ h1
  _=(st1 N w (e r)*y)*(u r*q):=by simp only[aU,bc,bY]
  _<=(x*w (e r))*(u r*q):=aH _ h3
  _=u r*w (e r)*(x*q):=by simp only[aU,bc,bY]
theorem rV' {M N:List Rm} {e:Nat->Nat} (hE:Emb M N e) (hO:OkM M):∀n r,r<M.length->wy M none n r<=wy N none n (e r)
 |0,r,hr=>ak _
 |n+1,r,hr=>by
  have:=nW' hE hO (u:=wy M none n) (w:=wy N none n) (a:=1) (b:=1) (fun r hr=>by have:=rV' hE hO n r hr;omega) hr
  rw[Nat.one_mul,cY]at this
  exact this
structure FsSGl (C:Rc):Prop where
 isM:C.fs "is_machine"=some e5'
 isFr:C.fs "is_fraction"=some gj'
 areW:C.fs "are_weights"=some gk'
 ways:C.fs "way_sums"=some (aJ' C.K)
 most:C.fs "is_at_most"=some b7'
def Cg':Sp:=fun vs H Q _=>∃(a:Addr) (M:List Rm) (lo hi v:V) (ol oh o:Option (List V)),vs=[.ref a,lo,hi,v]/\IsM H a M/\OkM M/\M.length<=60/\Ft H lo ol/\BdF ol/\Ft H hi oh/\BdF oh/\Tl H v o/\Bd o/\(∀w vs,v=.ref w->o=some vs->H w=some (.lst vs))/\∀H',au' H H'->Q (.bl (gdG M ol oh o)) H'
theorem qf' {C:Rc} (hN:C.N.length=6) (F:FsSGl C):∀vs H Q E,Cg' vs H Q E->tSs C aX' { nx:=fun _ H'=>Q .non H',rt:=Q } (L2.ay' C.N vs) H:=by
 intro vs H Q E h
 obtain⟨a,M,lo,hi,v,ol,oh,o,rfl,hM,hO,hl,hlo,bl,hhi,bh,hv,bv,hL,q⟩:=h
 rw[aj' hN]
 unfold aX'
 symm
 refine ag' F.isM ?_
 symm
 refine⟨a,M,rfl,hM,hO,by omega,fun H1 s1=>?_⟩
 symm
 refine ag' F.isFr ?_
 symm
 refine⟨lo,ol,rfl,hlo.mono s1,?_⟩
 unfold gdG at q
 cases el:frB ol with
 |false=>
  rw[el,cm]at q
  symm
  exact q H1 s1
 |true=>
  rw[el,bR]at q
  symm
  refine ag' F.isFr ?_
  symm
  refine⟨hi,oh,rfl,hhi.mono s1,?_⟩
  cases eh:frB oh with
  |false=>
   rw[eh,cm]at q
   symm
   exact q H1 s1
  |true=>
   rw[eh,bR]at q
   obtain⟨mv,hmv,hmr⟩:=id hM
   have hml:=hmr.len
   obtain⟨pl,rfl,hpl,l1,_⟩:=hlo.good el
   obtain⟨ph,rfl,hph,h1,_⟩:=hhi.good eh
   symm
   refine ag' F.areW ?_
   symm
   refine cl' (SqT.of (s1 _ _ hmv)) ?_
   rw[hml]
   symm
   refine⟨v,_,o,rfl,hv.mono s1,fun H2 s2=>?_⟩
   have s12:=s1.trans s2
   cases o with
   |none=>
    simp only[arW]
    symm
    exact q H2 s12
   |some vs=>
    obtain⟨w,rfl,hk,hvs,hz⟩:=hv
    simp only[arW]
    simp only[gdW]at q
    rw[<- Bool.and_assoc]at q
    cases e:decide ((vs.length:Int)=M.length)&&vs.all rI' with
    |false=>
     rw[e,cm]at q
     symm
     exact q H2 s12
    |true=>
     rw[e,bR]at q
     rw[af,decide_eq_true_eq]at e
     have evs:=uk' e.1 e.2
     have hf:=Cb' rfl bv
     generalize fv vs=u at evs hf q
     subst evs
     have hk2:=hk.mono s12
     symm
     refine ag' F.ways ?_
     symm
     refine⟨a,w,M,(wL M u).map fun n:Nat=>(n:Int),rfl,hM.mono (ap' s12),hO,by omega,by rw[ul'];exact SqL.of (s12 _ _ (hL w _ rfl rfl)),by rw[ac,cD'],fun y hy=>?_⟩
     rw[ru' hO]
     obtain⟨s3,hy3⟩:=snw hy (.lst ((wL M (st1 M u)).map nV))
     generalize upd H2 y _=H3 at s3 hy3 ⊢
     have s13:=s12.trans s3
     symm
     obtain⟨kb,hkb⟩:=B8' (K:=C.K) (hk2.mono s3)
     refine yu' (k:=false) (SqL.of hy3) hkb (by rw[ac,ac,cD',cD']) fun l as H4 hl4 s4 has hl4' hal hat=>?_
     have s4:au' H3 H4:=s4
     have s14:=s13.trans s4
     rw[ac,cD']at hal
     symm
     refine aF' (SqL.of hl4') (eq' (fun i xs H'=>i<=M.length/\xs=((ah i).map fun r=>decide (fN ol*u r<=st1 M u r*fD ol)&&decide (st1 M u r*fD oh<=fN oh*u r)).map V.bl/\H'=H4) ⟨aK _,rfl,rfl⟩ (fun i xs H' pv=>by rw[pv.2.2];exact SqL.of hl4') ?_ ?_)
     .rintro i xs H' x R hx ⟨_,rfl,rfl⟩ hR
      have hi:=an' hx
      rw[ac,hal]at hi
      rw[ao]at hx
      obtain⟨px,hpx,rfl⟩:=cH.mp hx
      have hpt:=hat i px (nV (st1 M u i)) (nV (u i)) hpx (by rw[ao,ez' hi];rfl) (by rw[ao,ez' hi];rfl)
      have b1:st1 M u i<=3 ^ 61:=aq (yZ' hf) (by decide)
      have b2:u i<=3 ^ 61:=aq (hf i) (by decide)
      symm
      refine ag' F.most ?_
      symm
      refine⟨pl,px,_,_,_,_,rfl,s14 _ _ hpl,hpt,bl.1,bl.2,b1,b2,?_⟩
      have fin:∀k:Bool,k=(decide (fN ol*u i<=st1 M u i*fD ol)&&decide (st1 M u i*fD oh<=fN oh*u i))->(((ah i).map fun r=>decide (fN ol*u r<=st1 M u r*fD ol)&&decide (st1 M u r*fD oh<=fN oh*u r)).map V.bl).length<sizeLine/\R (((ah i).map fun r=>decide (fN ol*u r<=st1 M u r*fD ol)&&decide (st1 M u r*fD oh<=fN oh*u r)).map V.bl++[.bl k]) H':=by
       rintro k rfl
       refine⟨by simp;exact al' (by omega),hR _ _ ⟨hi,?_,rfl⟩⟩
       rw[bx,ax,ax]
       rfl
      cases e1:decide (fN ol*u i<=st1 M u i*fD ol)with
      |false=>
       symm
       exact fin false (by rw[e1];rfl)
      |true=>
       symm
       refine ag' F.most ?_
       symm
       refine⟨px,ph,_,_,_,_,rfl,hpt,s14 _ _ hph,b1,b2,bh.1,bh.2,?_⟩
       symm
       exact fin _ (by rw[e1,bR])
     .rintro xs H' ⟨_,rfl,rfl⟩ p hp
      rw[ac,hal]
      symm
      refine fJ' (SqL.of ac') ?_
      rw[show((ah M.length).map fun r=>decide (fN ol*u r<=st1 M u r*fD ol)&&decide (st1 M u r*fD oh<=fN oh*u r)).all id=okG M ol oh u by unfold okG;rw[List.all_map];rfl]
      exact q _ (s14.trans (ae' hp _))
def nX':Sp:=fun vs H Q _=>∃(a l h w:Addr) (M:List Rm) (om:Nat->Nat) (p q u v:Nat),vs=[.ref a,.ref l,.ref h,.ref w]/\IsM H a M/\OkM M/\M.length<=60/\gi' H l p q/\gi' H h u v/\p<=3 ^ 61/\q<=3 ^ 61/\u<=3 ^ 61/\v<=3 ^ 61/\bW p q=1/\1<=q/\bW u v=1/\1<=v/\H w=some (.lst ((wL M om).map nV))/\(∀r,1<=om r)/\(∀r,om r<=2 ^ 90)/\(∀r,r<M.length->p*om r<=st1 M om r*q)/\(∀r,r<M.length->st1 M om r*v<=u*om r)/\∀H',au' H H'->Q (.bl true) H'
theorem uu' {M:List Rm} {om:Nat->Nat} {p q u v:Nat} (hO:OkM M) (hu:∀r,1<=om r) (g1:bW p q=1) (g2:1<=q) (g3:bW u v=1) (g4:1<=v) (h1:∀r,r<M.length->p*om r<=st1 M om r*q) (h2:∀r,r<M.length->st1 M om r*v<=u*om r):gdG M (some [V.int (p:Int),V.int (q:Int)]) (some [V.int (u:Int),V.int (v:Int)]) (some ((wL M om).map nV))=true:=by
 have ef:∀r,r<M.length->fv ((wL M om).map nV) r=om r:=fun r hr=>by
  unfold fv
  rw[aP,ao,ez' hr]
  exact bb _
 have es:∀r,st1 M (fv ((wL M om).map nV)) r=st1 M om r:=fun r=>by
  have eo:∀c,ow (fv ((wL M om).map nV)) (LW.stp M r c)=ow om (LW.stp M r c):=fun c=>by
   cases e:LW.stp M r c with
   |none=>rfl
   |some m=>exact ef m (LW.ds' hO e)
  unfold st1
  rw[eo,eo]
 unfold gdG
 rw[jQ' g1 g2,jQ' g3 g4,bR,bR]
 show(decide ((((wL M om).map nV).length:Int)=M.length)&&(((wL M om).map nV).all rI'&&okG M _ _ (fv ((wL M om).map nV))))=true
 rw[af,af]
 refine⟨decide_eq_true (by rw[ac,cD']),aQ.mpr fun x hx=>?_,y0'.mpr fun r hr=>?_⟩
 .obtain⟨n,hn,rfl⟩:=bi.mp hx
  obtain⟨r,_,rfl⟩:=bi.mp hn
  have:=hu r
  show(true&&decide ((1:Int)<=((om r:Nat):Int)))=true
  rw[bR]
  exact decide_eq_true (by omega)
 .rw[es,ef r hr]
  exact⟨h1 r hr,h2 r hr⟩
theorem qg' {C:Rc} (hN:C.N.length=6) (F:FsSGl C):∀vs H Q E,nX' vs H Q E->tSs C aX' { nx:=fun _ H'=>Q .non H',rt:=Q } (L2.ay' C.N vs) H:=by
 intro vs H Q E h
 obtain⟨a,l,h,w,M,om,p,q',u,v,rfl,hM,hO,hl60,hl,hh,b1,b2,b3,b4,g1,g2,g3,g4,hw,hu,hb,k1,k2,q⟩:=h
 refine qf' hN F _ H Q E ⟨a,M,.ref l,.ref h,.ref w,_,_,some ((wL M om).map nV),rfl,hM,hO,hl60,nH' hl,⟨by show((p:Int)).toNat<=_;omega,by show((q':Int)).toNat<=_;omega⟩,nH' hh,⟨by show((u:Int)).toNat<=_;omega,by show((v:Int)).toNat<=_;omega⟩,B9' hw (by omega),fun vs e x hx=>?_,fun w' vs e1 e2=>?_,?_⟩
 .cases e
  obtain⟨n,hn,rfl⟩:=bi.mp hx
  obtain⟨r,_,rfl⟩:=bi.mp hn
  have:=hb r
  show((om r:Nat):Int).toNat<=_
  omega
 .cases e1
  cases e2
  exact hw
 .rw[uu' hO hu g1 g2 g3 g4 k1 k2]
  exact q
theorem nY' {x n:Nat} (h:x<=3 ^ 50) (hn:n<=8):x ^ n<=2 ^ 640:=by
 by_cases h0:x=0
 .subst h0
  by_cases e:n=0
  .subst e;exact Nat.one_le_two_pow
  .rw[Nat.zero_pow (by omega)];exact aK _
 .calc x ^ n<=x ^ 8:=cA (by omega) hn
   _<=(2 ^ 80) ^ 8:=Nat.pow_le_pow_left (aq h (by decide)) 8
   _=2 ^ 640:=by rw[<- Nat.pow_mul]
def nZ':Sp:=fun vs H Q _=>∃(a:Addr) (x y n:Nat),vs=[.ref a,.int n]/\gi' H a x y/\x<=3 ^ 50/\y<=3 ^ 50/\n<=8/\∀(p:Addr) (H':Hp),au' H H'->gi' H' p (x ^ n) (y ^ n)->Q (.ref p) H'
theorem qh' {C:Rc} (hN:C.N.length=4):∀vs H Q E,nZ' vs H Q E->tSs C gR' { nx:=fun _ H'=>Q .non H',rt:=Q } (L2.ay' C.N vs) H:=by
 intro vs H Q E h
 obtain⟨a,x,y,n,rfl,ha,hx,hy,hn,q⟩:=h
 rw[aj' hN]
 unfold gR'
 symm
 refine⟨by decide,fun p1 hp1=>?_⟩
 obtain⟨s1,h1⟩:=snw hp1 (.tup [V.int 1,V.int 1])
 generalize upd H p1 _=H1 at s1 h1 ⊢
 symm
 refine fH' (by omega) (by omega) (h5' (fun i σ H'=>au' H H'/\∃p x3,σ=[some (.ref a),some (.int n),some (.ref p),x3]/\gi' H' p (x ^ i) (y ^ i)) ⟨s1,p1,_,rfl,h1⟩ ?_ ?_)
 .rintro i σ H2 hi ⟨s2,p,x3,rfl,hp⟩
  have hi:i<n:=by omega
  have ha2:=s2 _ _ ha
  have c1:3 ^ 50<=2 ^ 640:=aq (by decide:3 ^ 50<=2 ^ 80) (cA (by decide) (by decide))
  have c2:2 ^ 640<=2 ^ 2000:=cA (by decide) (by decide)
  symm
  refine aA' (SqT.of hp) (v:=.int (x ^ i:Nat)) rfl ?_
  symm
  refine aA' (SqT.of ha2) (v:=.int x) rfl ?_
  symm
  refine⟨nj' (aq (nY' hx (by omega)) c2) (aq hx (aq c1 c2)),?_⟩
  refine aA' (SqT.of hp) (v:=.int (y ^ i:Nat)) rfl ?_
  symm
  refine aA' (SqT.of ha2) (v:=.int y) rfl ?_
  symm
  refine⟨nj' (aq (nY' hy (by omega)) c2) (aq hy (aq c1 c2)),by decide,fun p3 hp3=>?_⟩
  refine⟨s2.trans (ae' hp3 _),p3,_,rfl,?_⟩
  unfold gi'
  rw[ac',bK,bK,Int.natCast_mul,Int.natCast_mul]
 .rintro σ H2 ⟨s2,p,x3,rfl,hp⟩
  rw[bb]at hp
  symm
  exact q p H2 s2 hp
theorem uv' {M:List Rm} (hn:1<=M.length) (h:∀r,r+1<M.length->ed M r (r+1)=true) (h0:ed M (M.length-1) 0=true):rgo M M.length=[ah M.length]:=by
 have up:∀k i,i<k->k<M.length->rch M i k=true:=by
  intro k
  induction k with
  |zero=>intro i hi;omega
  |succ k ih=>
   intro i hi hk
   by_cases e:i=k
   .subst e;exact gl' (h i hk)
   .exact jV' (by omega) (ih i (by omega) (by omega)) (gl' (h k hk))
 have back:∀i,i<M.length->rch M i 0=true:=by
  intro i hi
  by_cases e:i=M.length-1
  .rw[e];exact gl' h0
  .exact jV' (by omega) (up (M.length-1) i (by omega) (by omega)) (gl' h0)
 have all:∀i j,i<M.length->j<M.length->rch M i j=true:=by
  intro i j hi hj
  by_cases e:j=0
  .rw[e];exact back i hi
  .exact jV' (by omega) (back i hi) (up j 0 (by omega) hj)
 have hc:∀a,a<M.length->cl M a=ah M.length:=by
  intro a ha
  unfold cl
  rw[List.filter_eq_self]
  intro b hb
  rw[all a b ha (aB.mp hb),all b a (aB.mp hb) ha]
  rfl
 obtain⟨n,e⟩:∃n,M.length=n+1:=⟨M.length-1,by omega⟩
 have hf:∀a,a<M.length->fst M a=decide (a=0):=by
  intro a ha
  unfold fst
  rw[hc a ha,e,List.range_succ_eq_map]
  show decide (some 0=some a)=_
  apply decide_eq_decide.mpr
  constructor
  .intro z;cases z;rfl
  .intro z;rw[z]
 unfold rgo
 have e1:(ah M.length).filter (fst M)=[0]:=by
  rw[List.filter_congr (q:=fun a=>decide (a=0)) fun a ha=>hf a (aB.mp ha),e,List.range_succ_eq_map,List.filter_cons_of_pos (by rfl)]
  congr 1
  rw[List.filter_eq_nil_iff]
  intro a ha
  obtain⟨b,_,rfl⟩:=bi.mp ha
  simp
 rw[e1]
 show[cl M 0]=_
 rw[hc 0 (by omega)]
def qi' (M:List Rm):Bool:=decide (1<=M.length)&&((ah (M.length-1)).all (fun r=>ed M r (r+1))&&ed M (M.length-1) 0)
theorem j2' {M:List Rm} (h:qi' M=true):rgo M M.length=[ah M.length]:=by
 unfold qi' at h
 rw[af,af,decide_eq_true_eq]at h
 exact uv' h.1 (fun r hr=>aQ.mp h.2.1 r (aB.mpr (by omega))) h.2.2
def Di' (M N:List Rm) (e:Nat->Nat):Bool:=(ah M.length).all fun r=>decide (e r<N.length)&&[false,true].all fun c=>match LW.stp M r c with
 |none=>true
 |some m=>decide (LW.stp N (e r) c=some (e m))
theorem uw' {M N:List Rm} {e:Nat->Nat} (h:Di' M N e=true):Emb M N e:=by
 have h1:=fun r hr=>aQ.mp h r (aB.mpr hr)
 refine⟨fun r hr=>?_,fun r c m hr z=>?_⟩
 .have:=h1 r hr
  rw[af]at this
  exact of_decide_eq_true this.1
 .have:=h1 r hr
  rw[af]at this
  have:=aQ.mp this.2 c (by cases c<;>simp)
  rw[z]at this
  exact of_decide_eq_true this
def eN (h0:Nat) (r:Nat):Nat:=if r<h0 then r else r+1
def cN (h0 h1:Nat):Cd:=(1,h0,1,h1,none)
def wOk (i j:Nat):Bool:=y6' (cN (i+1) (j+2)) 0&&(y6' (cN (i+2) (j+2)) 0&&(qi' (mO (cN (i+1) (j+2)) 0)&&(qi' (mO (cN (i+2) (j+2)) 0)&&Di' (mO (cN (i+1) (j+2)) 0) (mO (cN (i+2) (j+2)) 0) (eN (i+1)))))
theorem ux':((ah 4).all fun i=>(ah 4).all fun j=>wOk i j)=true:=⋯
theorem zi' {i j:Nat} (hi:i<4) (hj:j<4) {M N:List Rm} (hM:IsO 1 (i+1) 1 (j+2) none M) (hN:IsO 1 (i+2) 1 (j+2) none N):1<=M.length/\M.length<=16/\1<=N.length/\N.length<=16/\rgo M M.length=[ah M.length]/\rgo N N.length=[ah N.length]/\Emb M N (eN (i+1)):=by
 have h:=aQ.mp (aQ.mp ux' i (aB.mpr hi)) j (aB.mpr hj)
 unfold wOk at h
 simp only[af]at h
 obtain⟨f1,f2,r1,r2,e⟩:=h
 obtain⟨eM,m1,m2⟩:=jb' f1 (M:=M) hM
 obtain⟨eN',n1,n2⟩:=jb' f2 (M:=N) hN
 refine⟨m1,m2,n1,n2,?_,?_,?_⟩
 .rw[eM];exact j2' r1
 .rw[eN'];exact j2' r2
 .rw[eM,eN'];exact uw' e
theorem qj' {M:List Rm} {s p q:Nat} (h:Df' M s p q) (hs:s<=49):p<=3 ^ 50/\q<=3 ^ 50:=by
 obtain⟨h1,h2,_,r,_,e⟩:=h
 have:=nF' h1 e cT' h2
 exact⟨aq this.1 (aq uf' (e0' (by omega))),aq this.2 (aq fZ' (e0' (by omega)))⟩
theorem qk' {M:List Rm} {s p q:Nat} (h:Dg' M s p q) (hs:s<=49):p<=3 ^ 50/\q<=3 ^ 50:=by
 obtain⟨h1,h2,_,r,_,e⟩:=h
 have:=nF' h1 e cT' h2
 exact⟨aq this.1 (aq uf' (e0' (by omega))),aq this.2 (aq fZ' (e0' (by omega)))⟩
structure Shw (H:Hp) (M:List Rm) (x:V):Prop where
 ex:∃(t l h w:Addr) (om:Nat->Nat) (p q u v:Nat),x=.ref t/\H t=some (.tup [.ref l,.ref h,.ref w])/\gi' H l p q/\gi' H h u v/\p<=3 ^ 61/\q<=3 ^ 61/\u<=3 ^ 61/\v<=3 ^ 61/\bW p q=1/\1<=q/\bW u v=1/\1<=v/\H w=some (.lst ((wL M om).map nV))/\(∀r,1<=om r)/\(∀r,om r<=2 ^ 90)/\(∀r,r<M.length->p*om r<=st1 M om r*q)/\(∀r,r<M.length->st1 M om r*v<=u*om r)
theorem Shw.mono {H H':Hp} (s:au' H H') {M:List Rm} {x:V} (h:Shw H M x):Shw H' M x:=by
 obtain⟨t,l,h,w,om,p,q,u,v,e,ht,hl,hh,k1,k2,k3,k4,k5,k6,k7,k8,hw,r⟩:=h.ex
 exact⟨t,l,h,w,om,p,q,u,v,e,s _ _ ht,s _ _ hl,s _ _ hh,k1,k2,k3,k4,k5,k6,k7,k8,s _ _ hw,r⟩
def zj':Sp:=fun vs H Q _=>∃(b:Addr) (n:Nat) (a:Addr) (M:List Rm) (s:Nat),vs=[.ref b,.ref a,.int s]/\H b=some (dL' b n)/\n<=2 ^ 38/\IsM H a M/\OkM M/\1<=M.length/\M.length<=16/\s<=40/\∀H',Go 2 H H'->Q (.bl true) H'
structure FsPR (C:Rc):Prop where
 grow:C.fs "growth"=some be'
 take:C.fs "_law_take"=some aI'
 sg:C.fs "shows_growth"=some nX'
theorem uy' {C:Rc} (hN:C.N.length=12) (F:FsPR C):∀vs H Q E,zj' vs H Q E->tSs C bV' { nx:=fun _ H'=>Q .non H',rt:=Q } (L2.ay' C.N vs) H:=by
 intro vs H Q E h
 obtain⟨b,n,a,M,s,rfl,hb,hn,hM,hO,hM1,hM2,hs,q⟩:=h
 rw[aj' hN]
 unfold bV'
 symm
 rw[iP']
 refine ag' F.grow ?_
 symm
 refine⟨a,M,s,rfl,hM,hO,by omega,by omega,by omega,fun t l h w p q' u v H1 s1 _ ht hl hh hw hlo hhi=>?_⟩
 refine iR' (SqT.of ht) ?_
 simp only[fG',cx,cy]
 have hM1':=hM.mono (ap' s1)
 symm
 refine ag' F.grow ?_
 symm
 refine ag' F.take ?_
 symm
 refine⟨b,n,_,rfl,s1 _ _ hb,by omega,by omega,by omega,fun k H2 hk0 hk1 e2=>?_⟩
 obtain⟨k,rfl⟩:=aL hk0
 obtain⟨n2,hb2,hn2,_⟩:=e2.boxed (s1 _ _ hb) (by omega)
 have hk:k<9:=by omega
 symm
 rw[if_pos (show(s:Int)+1+k<60 by omega),show(s:Int)+1+(k:Int)=((s+(1+k):Nat):Int) by omega]
 have hM2':=hM1'.mono e2.tp
 refine⟨a,M,s+(1+k),rfl,hM2',hO,by omega,by omega,by omega,fun t' l' h' w' p' q'' u' v' H3 s3 _ ht' hl' hh' hw' hlo' hhi'=>?_⟩
 symm
 refine ag' F.take ?_
 symm
 refine⟨b,n2,_,rfl,s3 _ _ hb2,by omega,by omega,by omega,fun j H4 hj0 hj1 e4=>?_⟩
 obtain⟨j,rfl⟩:=aL hj0
 rw[y1']at hw hw'
 have k14:Go 2 H1 H4:=(e2.trans (Go.of_same (c:=0) s3)).trans e4
 have c90:3 ^ 49<=2 ^ 90:=by decide
 have c50:3 ^ 50<=3 ^ 61:=by decide
 have gs:∀r,gw M s r<=3 ^ 40:=fun r=>aq fZ' (e0' hs)
 have c40:6*3 ^ 40<=2 ^ 90:=by decide
 have bl:=qj' hlo (by omega)
 have bh:=qk' hhi (by omega)
 have bl':=qj' hlo' (by omega)
 have bh':=qk' hhi' (by omega)
 have gpos:∀n r,1<=gw M n r:=fun n r=>cT'
 have gle:∀r,gw M (s+(1+k)) r<=2 ^ 90:=fun r=>aq fZ' (aq (e0' (by omega)) c90)
 have hl4:=k14.tup hl
 have hh4:=k14.tup hh
 have hw4:=k14.lst hw
 have ht4:=e4.tup ht'
 have hl4':=e4.tup hl'
 have hh4':=e4.tup hh'
 have hw4':=e4.lst hw'
 symm
 refine⟨by decide,fun p5 hp5=>?_⟩
 obtain⟨s5,h5⟩:=snw hp5 (.tup [V.ref l,V.ref h,V.ref w])
 generalize upd H4 p5 _=H5 at s5 h5 ⊢
 have T5:Shw H5 M (.ref p5):=⟨p5,l,h,w,gw M s,p,q',u,v,rfl,h5,s5 _ _ hl4,s5 _ _ hh4,by omega,by omega,by omega,by omega,hlo.1,hlo.2.1,hhi.1,hhi.2.1,s5 _ _ hw4,gpos s,fun r=>by have:=gs r;omega,hlo.2.2.1,hhi.2.2.1⟩
 have T5':Shw H5 M (.ref t'):=⟨t',l',h',w',gw M (s+(1+k)),p',q'',u',v',rfl,s5 _ _ ht4,s5 _ _ hl4',s5 _ _ hh4',by omega,by omega,by omega,by omega,hlo'.1,hlo'.2.1,hhi'.1,hhi'.2.1,s5 _ _ hw4',gpos _,gle,hlo'.2.2.1,hhi'.2.2.1⟩
 symm
 refine aA' (SqT.of (s5 _ _ ht4)) (v:=.ref w') rfl ?_
 symm
 refine⟨by decide,fun p6 hp6=>?_⟩
 obtain⟨s6,h6⟩:=snw hp6 (.tup [V.ref l,V.ref h,V.ref w'])
 generalize upd H5 p6 _=H6 at s6 h6 ⊢
 have s56:=s5.trans s6
 have T6:Shw H6 M (.ref p6):=⟨p6,l,h,w',gw M (s+(1+k)),p,q',u,v,rfl,h6,s56 _ _ hl4,s56 _ _ hh4,by omega,by omega,by omega,by omega,hlo.1,hlo.2.1,hhi.1,hhi.2.1,s56 _ _ hw4',gpos _,gle,zc' hO hlo.2.2.1 (1+k),zd' hO hhi.2.2.1 (1+k)⟩
 symm
 have hw6:=s56 _ _ hw4
 refine aF' (SqL.of hw6) (eq' (fun i xs H'=>i<=M.length/\xs=(((wL M (gw M s)).take i).map ((2+j) * ·)).map nV/\H'=H6) ⟨aK _,rfl,rfl⟩ (fun i xs H' pv=>by rw[pv.2.2];exact SqL.of hw6) ?_ ?_)
 .rintro i xs H' x R hx ⟨_,rfl,rfl⟩ hR
  have hi:i<M.length:=by have:=an' hx;rwa [ac,cD']at this
  rw[ao,ez' hi]at hx
  cases hx
  simp only[nV]
  symm
  refine⟨.inl ⟨by omega,by omega⟩,?_⟩
  refine⟨by rw[ac,ac,aS,cD'];exact al' (by omega),hR _ _ ⟨hi,?_,rfl⟩⟩
  rw[bN,ez' hi,ax,ax]
  show _=_++[V.int (((2+j)*gw M s i:Nat):Int)]
  rw[Int.natCast_mul]
  rfl
 rintro xs H' ⟨_,rfl,rfl⟩ p7 hp7
 rw[ac,cD',show(wL M (gw M s)).take M.length=wL M (gw M s) by rw[cT (by rw[cD'];exact ak _)],show(wL M (gw M s)).map ((2+j) * ·)=wL M fun r=>(2+j)*gw M s r by unfold wL;rw[ci];rfl]
 obtain⟨s7,h7⟩:=snw hp7 (.lst ((wL M fun r=>(2+j)*gw M s r).map nV))
 generalize upd H' p7 _=H7 at s7 h7 ⊢
 symm
 refine⟨by decide,fun p8 hp8=>?_⟩
 obtain⟨s8,h8⟩:=snw hp8 (.tup [V.ref l,V.ref h,V.ref p7])
 generalize upd H7 p8 _=H8 at s8 h8 ⊢
 have s58:=s56.trans (s7.trans s8)
 have T8:Shw H8 M (.ref p8):=⟨p8,l,h,p7,fun r=>(2+j)*gw M s r,p,q',u,v,rfl,h8,s58 _ _ hl4,s58 _ _ hh4,by omega,by omega,by omega,by omega,hlo.1,hlo.2.1,hhi.1,hhi.2.1,s8 _ _ h7,fun r=>dh (show 1<=2+j by omega) (gpos s r),fun r=>aq (dh (show 2+j<=6 by omega) (gs r)) c40,fun r hr=>by
  rw[nU',bY,aU]
  exact cj _ (hlo.2.2.1 r hr),fun r hr=>by
  rw[nU',bY u,aU]
  exact cj _ (hhi.2.2.1 r hr)⟩
 refine⟨by decide,fun p9 hp9=>?_⟩
 obtain⟨s9,h9⟩:=snw hp9 (.lst [V.ref p5,V.ref t',V.ref p6,V.ref p8])
 generalize upd H8 p9 _=H9 at s9 h9 ⊢
 have T9:∀x∈[V.ref p5,V.ref t',V.ref p6,V.ref p8],Shw H9 M x:=by
  intro x hx
  simp only[ap,aA,or_false]at hx
  rcases hx with rfl|rfl|rfl|rfl
  .exact T5.mono (s6.trans (s7.trans (s8.trans s9)))
  .exact T5'.mono (s6.trans (s7.trans (s8.trans s9)))
  .exact T6.mono (s7.trans (s8.trans s9))
  .exact T8.mono s9
 have E9:Go 2 H H9:=((Go.of_same (c:=0) s1).trans k14).trans (Go.of_same (c:=0) (s58.trans s9))
 have hM9:=hM.mono E9.tp
 symm
 refine aF' (SqL.of h9) (eq' (fun i xs H'=>i<=4/\xs=(az i true).map V.bl/\au' H9 H') ⟨aK _,rfl,au'.refl _⟩ (fun i xs H' pv=>SqL.of (pv.2.2 _ _ h9)) ?_ ?_)
 .rintro i xs H' x R hx ⟨_,rfl,s10⟩ hR
  have hi:i<4:=an' hx
  obtain⟨t,l,h,w,om,p,q,u,v,rfl,ht,hl,hh,k1,k2,k3,k4,k5,k6,k7,k8,hw,k9,k10,k11,k12⟩:=((T9 x (aD hx)).mono s10).ex
  refine q8' (SqT.of ht) ?_
  symm
  refine ag' F.sg ?_
  symm
  refine⟨a,l,h,w,M,om,p,q,u,v,rfl,hM9.mono (ap' s10),hO,by omega,hl,hh,k1,k2,k3,k4,k5,k6,k7,k8,hw,k9,k10,k11,k12,fun H11 s11=>?_⟩
  symm
  refine⟨by rw[ac,bI];exact al' (by omega),hR _ _ ⟨hi,?_,s10.trans s11⟩⟩
  rw[cB,ax]
  rfl
 .rintro xs H' ⟨_,rfl,s10⟩ p11 hp11
  symm
  have h11:upd H' p11 (.lst [V.bl true,V.bl true,V.bl true,V.bl true]) p11=some (.lst ([true,true,true,true].map V.bl)):=ac'
  refine fJ' (SqL.of h11) ?_
  rw[show[true,true,true,true].all id=true from rfl]
  exact q _ ((E9.trans (Go.of_same (c:=0) (s10.trans (ae' hp11 _)))).mono (by omega))
def zk':Sp:=fun vs H Q _=>∃(b:Addr) (n:Nat) (a:Addr) (M:List Rm) (s p q:Nat),vs=[.ref b,.ref a,.int s,.int p,.int q]/\H b=some (dL' b n)/\n<=2 ^ 38/\IsM H a M/\OkM M/\1<=M.length/\M.length<=16/\s<=40/\p<=8/\q<=8/\∀H',Go 1 H H'->Q (.bl true) H'
structure FsRR (C:Rc):Prop where
 grow:C.fs "growth"=some be'
 pow:C.fs "_law_power"=some nZ'
 en:C.fs "enough"=some ud'
 take:C.fs "_law_take"=some aI'
 tl:C.fs "too_little"=some u6'
theorem n0' {x n p:Nat} (hx:x<=3 ^ 50) (hn:n<=8) (hp:p<=8):z1' ((x ^ n:Nat):Int) (p:Int):=by
 refine⟨by omega,by omega,?_⟩
 rw[cV,<- Nat.pow_add,<- Nat.pow_add]
 exact bG (nY' hx hn) (Nat.pow_lt_pow_right (by decide) (by decide))
theorem uz' {C:Rc} (hN:C.N.length=11) (F:FsRR C):∀vs H Q E,zk' vs H Q E->tSs C ce' { nx:=fun _ H'=>Q .non H',rt:=Q } (L2.ay' C.N vs) H:=by
 intro vs H Q E h
 obtain⟨b,n,a,M,s,p,q',rfl,hb,hn,hM,hO,hM1,hM2,hs,hp,hq,q⟩:=h
 rw[aj' hN]
 unfold ce'
 symm
 rw[iP']
 refine ag' F.grow ?_
 symm
 refine⟨a,M,s,rfl,hM,hO,by omega,by omega,by omega,fun t l h w x y u v H1 s1 _ ht hl hh hw hlo hhi=>?_⟩
 refine iR' (SqT.of ht) ?_
 simp only[fG',cx,cy]
 have bl:=qj' hlo (by omega)
 have bh:=qk' hhi (by omega)
 symm
 refine ag' F.pow ?_
 symm
 refine⟨h,u,v,q',rfl,hh,bh.1,bh.2,hq,fun p2 H2 s2 hp2=>?_⟩
 symm
 refine ag' F.pow ?_
 symm
 refine⟨l,x,y,q',rfl,s2 _ _ hl,bl.1,bl.2,hq,fun p3 H3 s3 hp3=>?_⟩
 have s13:=s1.trans (s2.trans s3)
 symm
 refine ag' F.en ?_
 symm
 refine ag' F.take ?_
 symm
 refine⟨b,n,_,rfl,s13 _ _ hb,by omega,by omega,by omega,fun k H4 hk0 hk1 e4=>?_⟩
 obtain⟨k,rfl⟩:=aL hk0
 have E4:=(Go.of_same (c:=0) s13).trans e4
 have hM4:=hM.mono E4.tp
 symm
 rw[show(1:Int)+(k:Int)=((1+k:Nat):Int) by omega]
 refine⟨a,M,p,q',1+k,rfl,hM4,hO,by omega,hp,hq,by have:=dh hM2 (show 1+k<=60 by omega);omega,fun vw we H5 s5 hG hv=>?_⟩
 symm
 refine ag' F.tl ?_
 symm
 refine⟨a,M,p,q',30,rfl,hM4.mono (ap' s5),hO,by omega,hp,hq,by omega,fun vp o H6 s6 hit hres=>?_⟩
 have s46:=s5.trans s6
 have hp6:=s46 _ _ (e4.tup (s3 _ _ hp2))
 have hp36:=s46 _ _ (e4.tup hp3)
 have fin:∀H',au' H6 H'->Q (.bl true) H':=fun H' s'=>q H' ((E4.trans (Go.of_same (c:=0) (s46.trans s'))).mono (by omega))
 symm
 refine aA' (SqT.of hp6) (v:=.int (u ^ q':Nat)) rfl ?_
 symm
 refine aA' (SqT.of hp6) (v:=.int (v ^ q':Nat)) rfl ?_
 symm
 refine⟨n0' bh.2 hq hp,?_⟩
 rw[bb]
 have no1:(∃r,r<M.length/\we r≠0)->¬((u ^ q':Nat):Int)<((v ^ q':Nat):Int)*2 ^ p:=by
  rintro⟨r,hr,hz⟩ hc
  exact hz (kO' hO (w:=gw M s) (fun r=>cT') hhi.2.2.1 hG.ok (by exact_mod_cast hc) r hr)
 have no2:((x ^ q':Nat):Int) ≥ ((y ^ q':Nat):Int)*2 ^ p->vp=.non:=by
  intro hc
  have hk:Okw M p q' (gw M s):=zh' hO hlo.2.1 hlo.2.2.1 (by exact_mod_cast hc)
  have hb:=fun m=>in' hO hk ⟨0,by omega,by have:=cT' (M:=M) (s:=s) (r:=0);omega⟩ m
  rcases hit with⟨rfl,_⟩|⟨i,_,rfl,h1,_⟩
  .exact hres
  .rw[hb]at h1;cases h1
 have no3:(∃r,r<M.length/\we r≠0)->vp=.non:=by
  intro hz
  have hb:=fun m=>in' hO hG.ok hz m
  rcases hit with⟨rfl,_⟩|⟨i,_,rfl,h1,_⟩
  .exact hres
  .rw[hb]at h1;cases h1
 have vps:vp=.non\/∃c,vp=.ref c:=by
  rcases hit with⟨rfl,_⟩|⟨i,_,rfl,h1,_⟩
  .exact .inl hres
  .obtain⟨c,_,e,_⟩:=hres
   exact .inr ⟨c,e⟩
 rcases hv with⟨c,rfl,_,_,hz⟩|⟨rfl,_⟩
 .have ev:=no3 hz
  subst ev
  rw[decide_eq_false (no1 hz)]
  symm
  refine aA' (SqT.of hp36) (v:=.int (x ^ q':Nat)) rfl ?_
  symm
  refine aA' (SqT.of hp36) (v:=.int (y ^ q':Nat)) rfl ?_
  symm
  refine⟨n0' bl.2 hq hp,?_⟩
  refine bB' (fun hc=>?_) fun hc=>?_
  .symm
   exact fin _ (au'.refl _)
  .symm
   exact fin _ (au'.refl _)
 .have aH':∀k1:Bool,k1=true\/k1=false:=fun k1=>by cases k1<;>simp
  rcases aH' (decide (((u ^ q':Nat):Int)<((v ^ q':Nat):Int)*2 ^ p))with e|e<;>rw[e]<;>symm
  all_goals
   refine aA' (SqT.of hp36) (v:=.int (x ^ q':Nat)) rfl ?_
   symm
   refine aA' (SqT.of hp36) (v:=.int (y ^ q':Nat)) rfl ?_
   symm
   refine⟨n0' bl.2 hq hp,?_⟩
   rw[bb]
   refine bB' (fun hc=>?_) fun hc=>?_
   .have ev:=no2 hc
    subst ev
    symm
    exact fin _ (au'.refl _)
   .symm
    exact fin _ (au'.refl _)
theorem n3' {H:Hp} {p:Addr} {x y:Int} {h0 h1:Nat} (h:H p=some (.tup [V.int 1,V.int x,V.int 1,V.int y,V.non])) (e1:x=(h0:Int)) (e2:y=(h1:Int)) (b0:h0<=8) (b1:h1<=8):IsB H p 1 h0 1 h1 none:=⟨by rw[h,e1,e2];rfl,b0,b1,fun s z=>by cases z⟩
theorem uA' {M N:List Rm} {e:Nat->Nat} {n:Nat} (hE:Emb M N e) (hO:OkM M) {m1 m2:Int} (h1:m1∈wyL M none n) (h2:∀b∈wyL N none n,b<=m2):m1<=m2:=by
 obtain⟨r,hr,rfl⟩:=bi.mp h1
 have hr:=aB.mp hr
 have h3:=h2 ((wy N none n (e r):Nat):Int) (bi.mpr ⟨e r,aB.mpr (hE.1 r hr),rfl⟩)
 have h4:=rV' hE hO n r hr
 show((wy M none n r:Nat):Int)<=m2
 omega
theorem n4' {M:List Rm} {n:Nat} (h:1<=M.length):wyL M none n≠[]:=fun z=>by
 have:=nh' (M:=M) (g:=none) (n:=n)
 rw[z]at this
 simp at this
 omega
def zl':Sp:=fun vs H Q _=>∃(b:Addr) (n:Nat),vs=[.ref b]/\H b=some (dL' b n)/\n<=2 ^ 38/\∀H',Go 3 H H'->Q (.bl true) H'
structure FsWR (C:Rc):Prop where
 take:C.fs "_law_take"=some aI'
 mof:C.fs "machine_of"=some e3'
 ring:C.fs "is_ring"=some dS'
 grow:C.fs "growth"=some be'
 cnt:C.fs "counts"=some cB'
theorem uB' {C:Rc} (hN:C.N.length=8) (F:FsWR C):∀vs H Q E,zl' vs H Q E->tSs C cg' { nx:=fun _ H'=>Q .non H',rt:=Q } (L2.ay' C.N vs) H:=by
 intro vs H Q E h
 obtain⟨b,n,rfl,hb,hn,q⟩:=h
 rw[aj' hN]
 unfold cg'
 symm
 refine ag' F.take ?_
 symm
 refine⟨b,n,_,rfl,hb,by omega,by omega,by omega,fun i H1 hi0 hi1 e1=>?_⟩
 obtain⟨i,rfl⟩:=aL hi0
 obtain⟨n1,hb1,hn1,_⟩:=e1.boxed hb (by omega)
 symm
 refine ag' F.take ?_
 symm
 refine⟨b,n1,_,rfl,hb1,by omega,by omega,by omega,fun j H2 hj0 hj1 e2=>?_⟩
 obtain⟨j,rfl⟩:=aL hj0
 obtain⟨n2,hb2,hn2,_⟩:=e2.boxed hb1 (by omega)
 symm
 refine⟨by decide,fun p3 hp3=>?_⟩
 obtain⟨s3,h3⟩:=snw hp3 (.lst [V.int (1+(i:Int)),V.int (2+(j:Int))])
 generalize upd H2 p3 _=H3 at s3 h3 ⊢
 symm
 refine ag' F.mof ?_
 symm
 refine a3' (SqL.of h3) (v:=.int (1+(i:Int))) rfl ?_
 symm
 refine a3' (SqL.of h3) (v:=.int (2+(j:Int))) rfl ?_
 symm
 refine⟨by decide,fun p4 hp4=>?_⟩
 obtain⟨s4,h4⟩:=snw hp4 (.tup [V.int 1,V.int (1+(i:Int)),V.int 1,V.int (2+(j:Int)),V.non])
 generalize upd H3 p4 _=H4 at s4 h4 ⊢
 refine⟨p4,1,i+1,1,j+2,none,rfl,n3' h4 (by omega) (by omega) (by omega) (by omega),fun a M H5 s5 hM hI=>?_⟩
 symm
 refine ag' F.mof ?_
 symm
 have h35:=(s4.trans s5) _ _ h3
 refine a3' (SqL.of h35) (v:=.int (1+(i:Int))) rfl ?_
 symm
 refine a3' (SqL.of h35) (v:=.int (2+(j:Int))) rfl ?_
 symm
 refine⟨by decide,fun p6 hp6=>?_⟩
 obtain⟨s6,h6⟩:=snw hp6 (.tup [V.int 1,V.int (1+(i:Int)+1),V.int 1,V.int (2+(j:Int)),V.non])
 generalize upd H5 p6 _=H6 at s6 h6 ⊢
 refine⟨p6,1,i+2,1,j+2,none,rfl,n3' h6 (by omega) (by omega) (by omega) (by omega),fun a' N H7 s7 hN' hI'=>?_⟩
 obtain⟨m1,m2,n1',n2',r1,r2,hE⟩:=zi' (by omega) (by omega) hI hI'
 have hO:=hI.ok
 have hO':=hI'.ok
 symm
 refine⟨by decide,fun p8 hp8=>iQ' (SqT.of ac') ?_⟩
 have s8:=ae' hp8 (.tup [V.ref a,V.ref a'])
 generalize upd H7 p8 (.tup [V.ref a,V.ref a'])=H8 at s8 ⊢
 simp only[fG',cx,cy]
 have hM8:=hM.mono (ap' ((s6.trans s7).trans s8))
 have hN8:=hN'.mono (ap' s8)
 have s28:=s3.trans (s4.trans (s5.trans (s6.trans (s7.trans s8))))
 symm
 refine ag' F.ring ?_
 symm
 refine⟨a,M,rfl,hM8,hO,by omega,fun H9 s9=>?_⟩
 rw[decide_eq_true r1]
 symm
 refine ag' F.ring ?_
 symm
 refine⟨a',N,rfl,hN8.mono (ap' s9),hO',by omega,fun H10 s10=>?_⟩
 rw[decide_eq_true r2]
 have s810:=s9.trans s10
 symm
 refine ag' F.take ?_
 symm
 refine⟨b,n2,_,rfl,(s28.trans s810) _ _ hb2,by omega,by omega,by omega,fun k H11 hk0 hk1 e11=>?_⟩
 obtain⟨k,rfl⟩:=aL hk0
 have hM11:=(hM8.mono (ap' s810)).mono e11.tp
 have hN11:=(hN8.mono (ap' s810)).mono e11.tp
 have E11:Go 3 H H11:=((e1.trans e2).trans (Go.of_same (c:=0) (s28.trans s810))).trans e11
 symm
 rw[show(6:Int)+(k:Int)=((6+k:Nat):Int) by omega]
 refine ag' F.grow ?_
 symm
 refine⟨a,M,6+k,rfl,hM11,hO,by omega,by omega,by omega,fun t l h w p q' u v H12 s12 _ ht hl hh hw hlo hhi=>?_⟩
 symm
 refine aA' (SqT.of ht) (v:=.ref l) rfl ?_
 symm
 refine ag' F.grow ?_
 symm
 refine⟨a',N,6+k,rfl,hN11.mono (ap' s12),hO',by omega,by omega,by omega,fun t' l' h' w' p' q'' u' v' H13 s13 _ ht' hl' hh' hw' hlo' hhi'=>?_⟩
 have bl:=qj' hlo (by omega)
 have bh:=qk' hhi' (by omega)
 have c50:3 ^ 50<=3 ^ 61:=by decide
 have hl13:=s13 _ _ hl
 have hM13:=hM11.mono (ap' (s12.trans s13))
 have hN13:=hN11.mono (ap' (s12.trans s13))
 symm
 refine aA' (SqT.of ht') (v:=.ref h') rfl ?_
 symm
 refine aA' (SqT.of hl13) (v:=.int p) rfl ?_
 symm
 refine aA' (SqT.of hh') (v:=.int v') rfl ?_
 symm
 refine⟨jO' (by omega) (by omega),?_⟩
 refine aA' (SqT.of hh') (v:=.int u') rfl ?_
 symm
 refine aA' (SqT.of hl13) (v:=.int q') rfl ?_
 symm
 refine⟨jO' (by omega) (by omega),?_⟩
 have hle:p*v'<=u'*q':=Cf' hE hO (u:=gw M (6+k)) (w:=gw N (6+k)) (fun r=>cT') (fun r=>cT') m1 hlo.2.2.1 hhi'.2.2.1
 rw[decide_eq_false (show ¬(p:Int)*v' > (u':Int)*q' from fun z=>by
  have z':u'*q'<p*v':=by exact_mod_cast z
  omega)]
 symm
 refine fH' (by omega) (by omega) (jF' (fun i xs H'=>au' H13 H'/\xs=(az i true).map V.bl) ⟨au'.refl _,rfl⟩ ?_ ?_)
 .rintro i xs H' R hi ⟨s14,rfl⟩ hR
  have hi:i<12:=hi
  rw[show(0:Int)+(i:Int)=(i:Int) by omega]
  symm
  refine ag' F.cnt ?_
  symm
  refine⟨a,M,i,rfl,hM13.mono (ap' s14),hO,by omega,by omega,fun c1 H15 _ s15 hc1=>?_⟩
  symm
  refine mZ' (SqL.of hc1) (n4' m1) fun x1 hx1 hx1'=>?_
  symm
  refine ag' F.cnt ?_
  symm
  refine⟨a',N,i,rfl,hN13.mono (ap' (s14.trans s15)),hO',by omega,by omega,fun c2 H16 _ s16 hc2=>?_⟩
  symm
  refine mZ' (SqL.of hc2) (n4' n1') fun x2 hx2 hx2'=>?_
  symm
  rw[decide_eq_true (uA' hE hO hx1 hx2')]
  refine⟨by rw[ac,bI];exact al' (by omega),hR _ _ ⟨s14.trans (s15.trans s16),?_⟩⟩
  rw[cB,ax]
  rfl
 .rintro xs H' ⟨s14,rfl⟩ p15 hp15
  have hxl:((az (12:Int).toNat true).map V.bl)=[true,true,true,true,true,true,true,true,true,true,true,true].map V.bl:=rfl
  rw[hxl]
  obtain⟨s15,h15⟩:=snw hp15 (.lst ([true,true,true,true,true,true,true,true,true,true,true,true].map V.bl))
  generalize upd H' p15 _=H15 at h15 s15 ⊢
  symm
  refine fJ' (SqL.of h15) ?_
  rw[show[true,true,true,true,true,true,true,true,true,true,true,true].all id=true from rfl]
  exact q _ ((E11.trans (Go.of_same (c:=0) ((s12.trans s13).trans (s14.trans s15)))).mono (by omega))
def nOk (i j:Nat):Bool:=y6' (cN (i+1) (j+1)) 0
theorem uC':((ah 4).all fun i=>(ah 4).all fun j=>nOk i j)=true:=⋯
theorem zm' {i j:Nat} (hi:i<4) (hj:j<4) {M:List Rm} (hM:IsO 1 (i+1) 1 (j+1) none M):1<=M.length/\M.length<=16:=by
 have h:=aQ.mp (aQ.mp uC' i (aB.mpr hi)) j (aB.mpr hj)
 exact(jb' h (M:=M) hM).2
def eT':Sp:=fun vs H Q _=>∃(b:Addr),vs=[.ref b]/\H b=some (dL' b 0)/\∀H',Go 1200 H H'->Q (.bl true) H'
structure FsRight (C:Rc):Prop where
 many:C.fs "_law_many"=some gg'
 ring:C.fs "_law_ring_machine"=some (fK' 1 60 400)
 take:C.fs "_law_take"=some aI'
 mof:C.fs "machine_of"=some e3'
 rates:C.fs "_law_rates"=some fM'
 cnt:C.fs "counts"=some cB'
 pr:C.fs "_law_papers_right"=some zj'
 rr:C.fs "_law_rates_right"=some zk'
 wr:C.fs "_law_wider_right"=some zl'
theorem kP' {C:Rc} (hN:C.N.length=5) (F:FsRight C):∀vs H Q E,eT' vs H Q E->tSs C gT' { nx:=fun _ H'=>Q .non H',rt:=Q } (L2.ay' C.N vs) H:=by
 intro vs H Q E h
 obtain⟨b,rfl,hb,q⟩:=h
 rw[aj' hN]
 unfold gT'
 symm
 refine ag' F.ring ?_
 symm
 refine ag' F.many ?_
 symm
 refine⟨b,0,1,5,12,rfl,hb,by decide,by decide,by decide,by decide,by decide,by decide,fun r H1 hr e1=>?_⟩
 obtain⟨N,rfl⟩:=aL (show 0<=r by omega)
 obtain⟨n1,hb1,hn1,_⟩:=e1.boxed hb (by omega)
 symm
 refine⟨b,n1,N,rfl,hb1,by omega,by omega,by omega,fun a M H2 e2 hM hO hMl=>?_⟩
 obtain⟨n2,hb2,hn2,_⟩:=e2.boxed hb1 (by omega)
 have E2:=e1.trans e2
 symm
 generalize hD:s3' C _ _=D0
 have fin:∀(a:Addr) (M:List Rm) (H3:Hp),IsM H3 a M->OkM M->1<=M.length->M.length<=16->Go 410 H H3->D0.nx [some (.ref b),some (.ref a),none,none,none] H3:=by
  intro a M H3 hM hO hM1 hM2 E3
  obtain⟨n3,hb3,hn3,_⟩:=E3.boxed hb (by omega)
  rw[<- hD]
  symm
  refine ag' F.take ?_
  symm
  refine⟨b,n3,_,rfl,hb3,by omega,by omega,by omega,fun s H4 hs0 hs1 e4=>?_⟩
  obtain⟨s,rfl⟩:=aL hs0
  obtain⟨n4,hb4,hn4,_⟩:=e4.boxed hb3 (by omega)
  symm
  rw[iP']
  refine ag' F.rates ?_
  symm
  refine⟨b,n4,rfl,hb4,by omega,fun t p q' H5 e5 hp1 hp4 hq1 hq8 _ ht=>?_⟩
  refine iQ' (SqT.of ht) ?_
  simp only[fG',cx,cy]
  have E5:=E3.trans (e4.trans e5)
  obtain⟨n5,hb5,hn5,_⟩:=E5.boxed hb (by omega)
  have hM5:=(hM.mono e4.tp).mono e5.tp
  symm
  generalize hD1:s3' C _ _=D1
  have fin2:∀(p q':Nat) (H6:Hp),p<=8->q'<=8->au' H5 H6->D1.nx [some (.ref b),some (.ref a),some (.int s),some (.int p),some (.int q')] H6:=by
   intro p q' H6 hp hq s6
   rw[<- hD1]
   symm
   refine ag' F.pr ?_
   symm
   refine⟨b,n5,a,M,s,rfl,s6 _ _ hb5,by omega,hM5.mono (ap' s6),hO,hM1,hM2,by omega,fun H7 e7=>?_⟩
   obtain⟨n7,hb7,hn7,_⟩:=e7.boxed (s6 _ _ hb5) (by omega)
   symm
   refine ag' F.rr ?_
   symm
   refine⟨b,n7,a,M,s,p,q',rfl,hb7,by omega,(hM5.mono (ap' s6)).mono e7.tp,hO,hM1,hM2,by omega,hp,hq,fun H8 e8=>?_⟩
   obtain⟨n8,hb8,hn8,_⟩:=e8.boxed hb7 (by omega)
   symm
   refine ag' F.wr ?_
   symm
   refine⟨b,n8,rfl,hb8,by omega,fun H9 e9=>?_⟩
   symm
   exact q _ ((E5.trans ((Go.of_same (c:=0) s6).trans (e7.trans (e8.trans e9)))).mono (by omega))
  refine ag' F.cnt ?_
  symm
  refine⟨a,M,q',rfl,hM5,hO,by omega,by omega,fun c1 H6 _ s6 hc1=>?_⟩
  symm
  refine mZ' (SqL.of hc1) (n4' hM1) fun x1 _ _=>?_
  symm
  refine bB' (fun hc=>?_) fun hc=>?_
  .symm
   refine⟨by decide,fun z hz=>?_⟩
   refine dA' (SqT.of ac') ?_
   exact fin2 1 2 _ (by decide) (by decide) (s6.trans (ae' hz _))
  .symm
   exact fin2 p q' _ (by omega) (by omega) s6
 refine ag' F.take ?_
 symm
 refine⟨b,n2,_,rfl,hb2,by omega,by omega,by omega,fun c H3 hc0 hc1 e3=>?_⟩
 obtain⟨n3,hb3,hn3,_⟩:=e3.boxed hb2 (by omega)
 have E3:=E2.trans e3
 symm
 refine bB' (fun hc=>?_) fun hc=>?_
 .symm
  refine ag' F.mof ?_
  symm
  refine ag' F.take ?_
  symm
  refine⟨b,n3,_,rfl,hb3,by omega,by omega,by omega,fun i H4 hi0 hi1 e4=>?_⟩
  obtain⟨i,rfl⟩:=aL hi0
  obtain⟨n4,hb4,hn4,_⟩:=e4.boxed hb3 (by omega)
  symm
  refine ag' F.take ?_
  symm
  refine⟨b,n4,_,rfl,hb4,by omega,by omega,by omega,fun j H5 hj0 hj1 e5=>?_⟩
  obtain⟨j,rfl⟩:=aL hj0
  symm
  refine⟨by decide,fun p6 hp6=>?_⟩
  obtain⟨s6,h6⟩:=snw hp6 (.tup [V.int 1,V.int (1+(i:Int)),V.int 1,V.int (1+(j:Int)),V.non])
  generalize upd H5 p6 _=H6 at s6 h6 ⊢
  refine⟨p6,1,i+1,1,j+1,none,rfl,n3' h6 (by omega) (by omega) (by omega) (by omega),fun a' M' H7 s7 hM' hI=>?_⟩
  have hl:=zm' (by omega) (by omega) hI
  symm
  exact fin a' M' _ hM' hI.ok hl.1 hl.2 ((E3.trans ((e4.trans e5).trans (Go.of_same (c:=0) (s6.trans s7)))).mono (by omega))
 .symm
  exact fin a M _ (hM.mono e3.tp) hO (by omega) (by omega) (E3.mono (by omega))
def n5' (K:W.Frag):Sp:=fun vs H Q _=>∃(a:Addr) (ns:List Int),vs=[.ref a]/\SqL K H a (ns.map V.int)/\ns.length<=63/\∀H',Q (.bl true) H'
theorem ql' {C:Rc} (hN:C.N.length=2) (hB:C.fs "_law_box"=some (ky' C.K)) (hR:C.fs "_law_right"=some eT'):∀vs H Q E,n5' C.K vs H Q E->tSs C qe' { nx:=fun _ H'=>Q .non H',rt:=Q } (L2.ay' C.N vs) H:=by
 intro vs H Q E h
 obtain⟨a,ns,rfl,hs,h63,q⟩:=h
 rw[aj' hN]
 unfold qe'
 symm
 refine fI' hs ?_
 rw[ac]
 symm
 generalize hNe:(if(3:Int)<(if(ns.length:Int)<6 then(ns.length:Int)else 6)then(if(ns.length:Int)<6 then(ns.length:Int)else 6)else 3)=N
 have hN0:0<=N/\N<=6:=by
  rw[<- hNe]
  split<;>split<;>omega
 refine fH' (by omega) (by omega) (h5' (fun i σ H'=>(∃x1,σ=[some (.ref a),x1])/\SqL C.K H' a (ns.map V.int)) ⟨⟨none,rfl⟩,hs⟩ ?_ ?_)
 .rintro i σ H0 hi ⟨⟨x1,rfl⟩,hs0⟩
  symm
  refine ag' hR ?_
  symm
  refine ag' hB ?_
  symm
  refine⟨a,ns,_,rfl,hs0,by omega,by omega,fun b hb=>?_⟩
  have hs1:=(ae' hb (dL' b 0)).seq hs0
  have hb1:upd H0 b (dL' b 0) b=some (dL' b 0):=ac'
  generalize upd H0 b (dL' b 0)=H1 at hs1 hb1 ⊢
  symm
  refine⟨b,rfl,hb1,fun H2 g2=>?_⟩
  symm
  exact⟨⟨_,rfl⟩,g2.seq hs1⟩
 .rintro σ H0 ⟨⟨x1,rfl⟩,hs0⟩
  symm
  exact q H0
end K68
namespace K68
open PySem PySem.Spec PyProof.Rows L2 R3 LW K30 K31 SR CK RW K28 K29 GR K26 K71 K11 TM BD BE TE
def top (i:Nat):Stmt:=PySem.Challenge.pw_runbound_k68_whole_growth_and_room.main.body.getD i (.Pass ⟨0,0,0,0⟩)
theorem uD':mSs c9' b8' (ab' (top 1)) b2' (am' (top 1))=true:=⋯
theorem qm':FnScope c9' ["thing"] (ab' (top 1)):=⟨rfl,rfl,rfl,⋯,rfl,⋯,⋯⟩
theorem qn':mSs da' b9' (ab' (top 2)) b3' (am' (top 2))=true:=⋯
theorem n6':FnScope da' ["thing","low","high"] (ab' (top 2)):=⟨rfl,rfl,rfl,⋯,rfl,⋯,⋯⟩
theorem zn':mSs d6' db' (ab' (top 3)) c0' (am' (top 3))=true:=⋯
theorem uE':FnScope d6' ["thing"] (ab' (top 3)):=⟨rfl,rfl,rfl,⋯,rfl,⋯,⋯⟩
theorem qo':mSs dc' ca' (ab' (top 4)) b4' (am' (top 4))=true:=⋯
theorem n7':FnScope dc' ["thing"] (ab' (top 4)):=⟨rfl,rfl,rfl,⋯,rfl,⋯,⋯⟩
theorem zo':mSs co' bu' (ab' (top 5)) bp' (am' (top 5))=true:=⋯
theorem uF':FnScope co' ["thing","many"] (ab' (top 5)):=⟨rfl,rfl,rfl,⋯,rfl,⋯,⋯⟩
theorem zp':mSs d7' de' (ab' (top 7)) c1' (am' (top 7))=true:=⋯
theorem uG':FnScope d7' ["thing","many"] (ab' (top 7)):=⟨rfl,rfl,rfl,⋯,rfl,⋯,⋯⟩
theorem zq':mSs d8' df' (ab' (top 8)) c2' (am' (top 8))=true:=⋯
theorem uH':FnScope d8' ["thing","many"] (ab' (top 8)):=⟨rfl,rfl,rfl,⋯,rfl,⋯,⋯⟩
theorem Ch':mSs cK' bN' (ab' (top 9)) bH' (am' (top 9))=true:=⋯
theorem zr':FnScope cK' ["thing"] (ab' (top 9)):=⟨rfl,rfl,rfl,⋯,rfl,⋯,⋯⟩
theorem zs':mSs d9' dg' (ab' (top 10)) c3' (am' (top 10))=true:=⋯
theorem uI':FnScope d9' ["machine","rooms"] (ab' (top 10)):=⟨rfl,rfl,rfl,⋯,rfl,⋯,⋯⟩
theorem zt':mSs ea' dh' (ab' (top 11)) c4' (am' (top 11))=true:=⋯
theorem uJ':FnScope ea' ["machine","numbers"] (ab' (top 11)):=⟨rfl,rfl,rfl,⋯,rfl,⋯,⋯⟩
theorem zu':mSs eb' di' (ab' (top 12)) c5' (am' (top 12))=true:=⋯
theorem uK':FnScope eb' ["machine"] (ab' (top 12)):=⟨rfl,rfl,rfl,⋯,rfl,⋯,⋯⟩
theorem n8':mSs ec' dj' (ab' (top 13)) c7' (am' (top 13))=true:=⋯
theorem kQ':FnScope ec' ["machine","room"] (ab' (top 13)):=⟨rfl,rfl,rfl,⋯,rfl,⋯,⋯⟩
theorem uL':mSs fQ' eB' (ab' (top 14)) eA' (am' (top 14))=true:=⋯
theorem qp':FnScope fQ' ["machine"] (ab' (top 14)):=⟨rfl,rfl,rfl,⋯,rfl,⋯,⋯⟩
theorem qq':mSs ed' dk' (ab' (top 15)) c8' (am' (top 15))=true:=⋯
theorem n9':FnScope ed' ["machine"] (ab' (top 15)):=⟨rfl,rfl,rfl,⋯,rfl,⋯,⋯⟩
theorem D1':mSs cL' bO' (ab' (top 16)) bL' (am' (top 16))=true:=⋯
theorem Ci':FnScope cL' ["machine","room","many"] (ab' (top 16)):=⟨rfl,rfl,rfl,⋯,rfl,⋯,⋯⟩
theorem D2':mSs ee' dl' (ab' (top 17)) c6' (am' (top 17))=true:=⋯
theorem Cj':FnScope ee' ["machine","many"] (ab' (top 17)):=⟨rfl,rfl,rfl,⋯,rfl,⋯,⋯⟩
theorem qr':mSs bP' bc' (ab' (top 19)) bI' (am' (top 19))=true:=⋯
theorem oa':FnScope bP' ["machine","numbers","room","bit"] (ab' (top 19)):=⟨rfl,rfl,rfl,⋯,rfl,⋯,⋯⟩
theorem ob':mSs cF' bY' (ab' (top 20)) cA' (am' (top 20))=true:=⋯
theorem kR':FnScope cF' ["machine","numbers"] (ab' (top 20)):=⟨rfl,rfl,rfl,⋯,rfl,⋯,⋯⟩
theorem zv':mSs fi' eC' (ab' (top 21)) fe' (am' (top 21))=true:=⋯
theorem uM':FnScope fi' ["machine","goal","many"] (ab' (top 21)):=⟨rfl,rfl,rfl,⋯,rfl,⋯,⋯⟩
theorem qs':mSs eQ' dT' (ab' (top 22)) dN' (am' (top 22))=true:=⋯
theorem oc':FnScope eQ' ["machine","many"] (ab' (top 22)):=⟨rfl,rfl,rfl,⋯,rfl,⋯,⋯⟩
theorem qt':mSs bv' a0' (ab' (top 24)) aZ' (am' (top 24))=true:=⋯
theorem od':FnScope bv' ["one","other"] (ab' (top 24)):=⟨rfl,rfl,rfl,⋯,rfl,⋯,⋯⟩
theorem zw':mSs cp' bw' (ab' (top 25)) bs' (am' (top 25))=true:=⋯
theorem uN':FnScope cp' ["thing"] (ab' (top 25)):=⟨rfl,rfl,rfl,⋯,rfl,⋯,⋯⟩
theorem zx':mSs cq' bx' (ab' (top 26)) br' (am' (top 26))=true:=⋯
theorem uO':FnScope cq' ["top","below"] (ab' (top 26)):=⟨rfl,rfl,rfl,⋯,rfl,⋯,⋯⟩
theorem qu':mSs cM' bQ' (ab' (top 27)) bM' (am' (top 27))=true:=⋯
theorem oe':FnScope cM' ["one","other"] (ab' (top 27)):=⟨rfl,rfl,rfl,⋯,rfl,⋯,⋯⟩
theorem qv':mSs eR' dU' (ab' (top 28)) dR' (am' (top 28))=true:=⋯
theorem of':FnScope eR' ["machine","steps"] (ab' (top 28)):=⟨rfl,rfl,rfl,⋯,rfl,⋯,⋯⟩
theorem zy':mSs cr' by' (ab' (top 29)) bt' (am' (top 29))=true:=⋯
theorem uP':FnScope cr' ["thing","many"] (ab' (top 29)):=⟨rfl,rfl,rfl,⋯,rfl,⋯,⋯⟩
theorem D3':mSs b0' bf' (ab' (top 30)) aX' (am' (top 30))=true:=⋯
theorem Ck':FnScope b0' ["machine","low","high","weights"] (ab' (top 30)):=⟨rfl,rfl,rfl,⋯,rfl,⋯,⋯⟩
theorem Cl':mSs bg' aU' (ab' (top 32)) aS' (am' (top 32))=true:=⋯
theorem zz':FnScope bg' ["bounds"] (ab' (top 32)):=⟨rfl,rfl,rfl,⋯,rfl,⋯,⋯⟩
theorem D4':mSs cs' bz' (ab' (top 33)) bq' (am' (top 33))=true:=⋯
theorem Cm':FnScope cs' ["bounds","room","bit"] (ab' (top 33)):=⟨rfl,rfl,rfl,⋯,rfl,⋯,⋯⟩
theorem Cn':mSs a4' aM' (ab' (top 34)) aL' (am' (top 34))=true:=⋯
theorem zA':FnScope a4' ["bounds","rooms"] (ab' (top 34)):=⟨rfl,rfl,rfl,⋯,rfl,⋯,⋯⟩
theorem Co':mSs cN' bR' (ab' (top 35)) bJ' (am' (top 35))=true:=⋯
theorem zB':FnScope cN' ["bounds"] (ab' (top 35)):=⟨rfl,rfl,rfl,⋯,rfl,⋯,⋯⟩
theorem zC':mSs dm' cb' (ab' (top 37)) b5' (am' (top 37))=true:=⋯
theorem uQ':FnScope dm' ["machine","numbers","many"] (ab' (top 37)):=⟨rfl,rfl,rfl,⋯,rfl,⋯,⋯⟩
theorem D5':mSs dE' cG' (ab' (top 38)) cC' (am' (top 38))=true:=⋯
theorem Cp':FnScope dE' ["machine","q"] (ab' (top 38)):=⟨rfl,rfl,rfl,⋯,rfl,⋯,⋯⟩
theorem D6':mSs bi' aV' (ab' (top 39)) aT' (am' (top 39))=true:=⋯
theorem Cq':FnScope bi' ["machine","p","q","limits"] (ab' (top 39)):=⟨rfl,rfl,rfl,⋯,rfl,⋯,⋯⟩
theorem D7':mSs eS' dV' (ab' (top 40)) dP' (am' (top 40))=true:=⋯
theorem Cr':FnScope eS' ["machine","p","q","most"] (ab' (top 40)):=⟨rfl,rfl,rfl,⋯,rfl,⋯,⋯⟩
theorem uR':mSs dn' cc' (ab' (top 41)) b6' (am' (top 41))=true:=⋯
theorem qw':FnScope dn' ["counts","bits"] (ab' (top 41)):=⟨rfl,rfl,rfl,⋯,rfl,⋯,⋯⟩
theorem D8':mSs cO' bS' (ab' (top 42)) bK' (am' (top 42))=true:=⋯
theorem Cs':FnScope cO' ["machine","p","q","most"] (ab' (top 42)):=⟨rfl,rfl,rfl,⋯,rfl,⋯,⋯⟩
theorem zD':mSs eD' dF' (ab' (top 44)) ew' (am' (top 44))=true:=⋯
theorem uS':FnScope eD' ["_law_script","_law_k"] (ab' (top 44)):=⟨rfl,rfl,rfl,⋯,rfl,⋯,⋯⟩
theorem Ct':mSs qc' nO' (ab' (top 45)) pP' (am' (top 45))=true:=⋯
theorem zE':FnScope qc' ["_law_script","_law_k"] (ab' (top 45)):=⟨rfl,rfl,rfl,⋯,rfl,⋯,⋯⟩
theorem zF':mSs nP' j0' (ab' (top 46)) jJ' (am' (top 46))=true:=⋯
theorem uT':FnScope nP' ["_law_box_here","_law_many_here"] (ab' (top 46)):=⟨rfl,rfl,rfl,⋯,rfl,⋯,⋯⟩
theorem zG':mSs nQ' j1' (ab' (top 47)) jK' (am' (top 47))=true:=⋯
theorem uU':FnScope nQ' ["_law_box_here","_law_least","_law_few","_law_most"] (ab' (top 47)):=⟨rfl,rfl,rfl,⋯,rfl,⋯,⋯⟩
theorem zH':mSs cP' bT' (ab' (top 48)) bb' (am' (top 48))=true:=⋯
theorem uV':FnScope cP' ["_law_box_here","_law_many_here"] (ab' (top 48)):=⟨rfl,rfl,rfl,⋯,rfl,⋯,⋯⟩
theorem uW':mSs jc' gP' (ab' (top 49)) gK' (am' (top 49))=true:=⋯
theorem qx':FnScope jc' ["_law_box_here"] (ab' (top 49)):=⟨rfl,rfl,rfl,⋯,rfl,⋯,⋯⟩
theorem Cu':mSs jd' gQ' (ab' (top 50)) gR' (am' (top 50))=true:=⋯
theorem zI':FnScope jd' ["_law_one","_law_many_here"] (ab' (top 50)):=⟨rfl,rfl,rfl,⋯,rfl,⋯,⋯⟩
theorem D9':mSs cQ' bU' (ab' (top 51)) bV' (am' (top 51))=true:=⋯
theorem Cv':FnScope cQ' ["_law_box_here","_law_machine","_law_steps"] (ab' (top 51)):=⟨rfl,rfl,rfl,⋯,rfl,⋯,⋯⟩
theorem Ea':mSs do' cd' (ab' (top 52)) ce' (am' (top 52))=true:=⋯
theorem Cw':FnScope do' ["_law_box_here","_law_machine","_law_steps","_law_p","_law_q"] (ab' (top 52)):=⟨rfl,rfl,rfl,⋯,rfl,⋯,⋯⟩
theorem Eb':mSs dp' cf' (ab' (top 53)) cg' (am' (top 53))=true:=⋯
theorem Cx':FnScope dp' ["_law_box_here"] (ab' (top 53)):=⟨rfl,rfl,rfl,⋯,rfl,⋯,⋯⟩
theorem uX':mSs je' gS' (ab' (top 54)) gT' (am' (top 54))=true:=⋯
theorem qy':FnScope je' ["_law_box_here"] (ab' (top 54)):=⟨rfl,rfl,rfl,⋯,rfl,⋯,⋯⟩
theorem Cy':mSs qd' nR' (ab' (top 55)) qe' (am' (top 55))=true:=⋯
theorem zJ':FnScope qd' ["_law_script"] (ab' (top 55)):=⟨rfl,rfl,rfl,⋯,rfl,⋯,⋯⟩
set_option maxHeartbeats 0 in
set_option hygiene false in
local macro_rules | `(tactic| walk_at "o") => `(tactic| (intro vs H Q E h; repeat (first | (obtain ⟨rfl, _⟩ := h; rfl) | (obtain ⟨_, h⟩ := h))))
def FnD (K:W.Frag) (x:Str) (st:Stmt):Prop:=∃(f:Addr) (fd:FuncData),W.nsIn K mainGlobals x=some (some (.ref f))/\Fun K x x st f fd
theorem as' {K:W.Frag} {x:Str} {st:Stmt} {f:Addr} {oc:Value} {od an:Option Addr} {osl:Array (Option Value)} {kV doc pm cdv ct:Value} (a:W.nsIn K mainGlobals x=some (some (.ref f))) (l:K.lookup f=some ⟨oc,od,.func (W.fnOf x x (eG' st) (am' st) (ab' st) .none kV doc pm an cdv ct),osl⟩) (c:W.codeIn K cdv x=true) (k:W.keepIn K (.ref f)=true):FnD K x st:=⟨f,_,a,vN' l c k⟩
set_option hygiene false in
local macro_rules | `(tactic| walk_at "b") => `(tactic| (intro _ _ _ _ _ _ us hl; first | exact kx' (P:=fun us=>bindArgs _ ({ pos:=us }:Args)=pure (aZ _ us)) (fun _=>rfl) us hl | exact u4' (P:=fun us=>bindArgs _ ({ pos:=us }:Args)=pure (aZ _ us)) (fun _ _ _=>rfl) us hl | exact fR' (P:=fun us=>bindArgs _ ({ pos:=us }:Args)=pure (aZ _ us)) (fun _ _=>rfl) us hl | exact u5' (P:=fun us=>bindArgs _ ({ pos:=us }:Args)=pure (aZ _ us)) (fun _ _ _ _=>rfl) us hl | exact DQ' (P:=fun us=>bindArgs _ ({ pos:=us }:Args)=pure (aZ _ us)) (fun _ _ _ _ _=>rfl) us hl))
theorem zK' {l:W.OpenLaw} {w:World} {K:W.Frag} {h:Heap} {mg:Str->Option Value} {fa:Addr} (X:K.In h) (G:h.Ns mainGlobals mg) (hfa:mg "law"=some (.ref fa))
  (p1:FnD K "is_number" (top 1))
  (p2:FnD K "is_within" (top 2))
  (p3:FnD K "is_pair" (top 3))
  (p4:FnD K "is_listed" (top 4))
  (p5:FnD K "are_numbers" (top 5))
  (p6:FnD K "is_lead" (top 7))
  (p7:FnD K "is_room" (top 8))
  (p8:FnD K "is_machine" (top 9))
  (p9:FnD K "lasting" (top 10))
  (p10:FnD K "part_of" (top 11))
  (p11:FnD K "trimmed" (top 12))
  (p12:FnD K "reached" (top 13))
  (p13:FnD K "rings" (top 14))
  (p14:FnD K "is_ring" (top 15))
  (p15:FnD K "walks_from" (top 16))
  (p16:FnD K "powered" (top 17))
  (p17:FnD K "behind_bit" (top 19))
  (p18:FnD K "way_sums" (top 20))
  (p19:FnD K "ways" (top 21))
  (p20:FnD K "counts" (top 22))
  (p21:FnD K "common_divisor" (top 24))
  (p22:FnD K "is_fraction" (top 25))
  (p23:FnD K "fraction_of" (top 26))
  (p24:FnD K "is_at_most" (top 27))
  (p25:FnD K "growth" (top 28))
  (p26:FnD K "are_weights" (top 29))
  (p27:FnD K "shows_growth" (top 30))
  (p28:FnD K "rooms_in_bounds" (top 32))
  (p29:FnD K "room_behind" (top 33))
  (p30:FnD K "machine_in_bounds" (top 34))
  (p31:FnD K "machine_of" (top 35))
  (p32:FnD K "walk_sums" (top 37))
  (p33:FnD K "walks_to" (top 38))
  (p34:FnD K "greatest_within" (top 39))
  (p35:FnD K "enough" (top 40))
  (p36:FnD K "are_below" (top 41))
  (p37:FnD K "too_little" (top 42))
  (p38:FnD K "_law_cell_at" (top 44))
  (p39:FnD K "_law_box" (top 45))
  (p40:FnD K "_law_take" (top 46))
  (p41:FnD K "_law_many" (top 47))
  (p42:FnD K "_law_ring_machine" (top 48))
  (p43:FnD K "_law_rates" (top 49))
  (p44:FnD K "_law_power" (top 50))
  (p45:FnD K "_law_papers_right" (top 51))
  (p46:FnD K "_law_rates_right" (top 52))
  (p47:FnD K "_law_wider_right" (top 53))
  (p48:FnD K "_law_right" (top 54))
  (p49:FnD K "law" (top 55))
  (z1:W.nsIn K mainGlobals "~"=some none)
  (z2:W.nsIn K mainGlobals "^"=some none)
  (z3:W.nsIn K mainGlobals "%"=some none)
  (z4:W.nsIn K mainGlobals "bool"=some none)
  (z5:W.nsIn K mainGlobals "int"=some none)
  (z6:W.nsIn K mainGlobals "isinstance"=some none)
  (z7:W.nsIn K mainGlobals "len"=some none)
  (z8:W.nsIn K mainGlobals "tuple"=some none)
  (z9:W.nsIn K mainGlobals "list"=some none)
  (z10:W.nsIn K mainGlobals "all"=some none)
  (z11:W.nsIn K mainGlobals "set"=some none)
  (z12:W.nsIn K mainGlobals "enumerate"=some none)
  (z13:W.nsIn K mainGlobals "range"=some none)
  (z14:W.nsIn K mainGlobals "zip"=some none)
  (z15:W.nsIn K mainGlobals "any"=some none)
  (z16:W.nsIn K mainGlobals "abs"=some none)
  (z17:W.nsIn K mainGlobals "min"=some none)
  (z18:W.nsIn K mainGlobals "max"=some none):
  ∃fd:FuncData,(∀(s:Shared) (v:Value),BindsTo s fd ⟨[v],[]⟩ [("_law_script",v)])/\∀base:Heap,K.In base->base.Ns mainGlobals mg->FnOk l.prog w K mg base CX0 60 fa fd ["_law_script"] (n5' K):=by
 obtain⟨f1,g1,a1,F1⟩:=p1
 obtain⟨f2,g2,a2,F2⟩:=p2
 obtain⟨f3,g3,a3,F3⟩:=p3
 obtain⟨f4,g4,a4,F4⟩:=p4
 obtain⟨f5,g5,a5,F5⟩:=p5
 obtain⟨f6,g6,a6,F6⟩:=p6
 obtain⟨f7,g7,a7,F7⟩:=p7
 obtain⟨f8,g8,a8,F8⟩:=p8
 obtain⟨f9,g9,a9,F9⟩:=p9
 obtain⟨f10,g10,a10,F10⟩:=p10
 obtain⟨f11,g11,a11,F11⟩:=p11
 obtain⟨f12,g12,a12,F12⟩:=p12
 obtain⟨f13,g13,a13,F13⟩:=p13
 obtain⟨f14,g14,a14,F14⟩:=p14
 obtain⟨f15,g15,a15,F15⟩:=p15
 obtain⟨f16,g16,a16,F16⟩:=p16
 obtain⟨f17,g17,a17,F17⟩:=p17
 obtain⟨f18,g18,a18,F18⟩:=p18
 obtain⟨f19,g19,a19,F19⟩:=p19
 obtain⟨f20,g20,a20,F20⟩:=p20
 obtain⟨f21,g21,a21,F21⟩:=p21
 obtain⟨f22,g22,a22,F22⟩:=p22
 obtain⟨f23,g23,a23,F23⟩:=p23
 obtain⟨f24,g24,a24,F24⟩:=p24
 obtain⟨f25,g25,a25,F25⟩:=p25
 obtain⟨f26,g26,a26,F26⟩:=p26
 obtain⟨f27,g27,a27,F27⟩:=p27
 obtain⟨f28,g28,a28,F28⟩:=p28
 obtain⟨f29,g29,a29,F29⟩:=p29
 obtain⟨f30,g30,a30,F30⟩:=p30
 obtain⟨f31,g31,a31,F31⟩:=p31
 obtain⟨f32,g32,a32,F32⟩:=p32
 obtain⟨f33,g33,a33,F33⟩:=p33
 obtain⟨f34,g34,a34,F34⟩:=p34
 obtain⟨f35,g35,a35,F35⟩:=p35
 obtain⟨f36,g36,a36,F36⟩:=p36
 obtain⟨f37,g37,a37,F37⟩:=p37
 obtain⟨f38,g38,a38,F38⟩:=p38
 obtain⟨f39,g39,a39,F39⟩:=p39
 obtain⟨f40,g40,a40,F40⟩:=p40
 obtain⟨f41,g41,a41,F41⟩:=p41
 obtain⟨f42,g42,a42,F42⟩:=p42
 obtain⟨f43,g43,a43,F43⟩:=p43
 obtain⟨f44,g44,a44,F44⟩:=p44
 obtain⟨f45,g45,a45,F45⟩:=p45
 obtain⟨f46,g46,a46,F46⟩:=p46
 obtain⟨f47,g47,a47,F47⟩:=p47
 obtain⟨f48,g48,a48,F48⟩:=p48
 obtain⟨f49,g49,a49,F49⟩:=p49
 obtain⟨oc49,od49,kV49,dc49,pm49,an49,cd49,ct49,sl49,rfl,l49,c49⟩:=F49.ex
 have e:=hfa.symm.trans (W.mg_of X G a49)
 cases e
 have b1:=F1.binds (ps:=["thing"]) (by walk_at "b")
 have m1:=W.mg_of X G a1
 have b2:=F2.binds (ps:=["thing","low","high"]) (by walk_at "b")
 have m2:=W.mg_of X G a2
 have b3:=F3.binds (ps:=["thing"]) (by walk_at "b")
 have m3:=W.mg_of X G a3
 have b4:=F4.binds (ps:=["thing"]) (by walk_at "b")
 have m4:=W.mg_of X G a4
 have b5:=F5.binds (ps:=["thing","many"]) (by walk_at "b")
 have m5:=W.mg_of X G a5
 have b6:=F6.binds (ps:=["thing","many"]) (by walk_at "b")
 have m6:=W.mg_of X G a6
 have b7:=F7.binds (ps:=["thing","many"]) (by walk_at "b")
 have m7:=W.mg_of X G a7
 have b8:=F8.binds (ps:=["thing"]) (by walk_at "b")
 have m8:=W.mg_of X G a8
 have b9:=F9.binds (ps:=["machine","rooms"]) (by walk_at "b")
 have m9:=W.mg_of X G a9
 have b10:=F10.binds (ps:=["machine","numbers"]) (by walk_at "b")
 have m10:=W.mg_of X G a10
 have b11:=F11.binds (ps:=["machine"]) (by walk_at "b")
 have m11:=W.mg_of X G a11
 have b12:=F12.binds (ps:=["machine","room"]) (by walk_at "b")
 have m12:=W.mg_of X G a12
 have b13:=F13.binds (ps:=["machine"]) (by walk_at "b")
 have m13:=W.mg_of X G a13
 have b14:=F14.binds (ps:=["machine"]) (by walk_at "b")
 have m14:=W.mg_of X G a14
 have b15:=F15.binds (ps:=["machine","room","many"]) (by walk_at "b")
 have m15:=W.mg_of X G a15
 have b16:=F16.binds (ps:=["machine","many"]) (by walk_at "b")
 have m16:=W.mg_of X G a16
 have b17:=F17.binds (ps:=["machine","numbers","room","bit"]) (by walk_at "b")
 have m17:=W.mg_of X G a17
 have b18:=F18.binds (ps:=["machine","numbers"]) (by walk_at "b")
 have m18:=W.mg_of X G a18
 have b19:=F19.binds (ps:=["machine","goal","many"]) (by walk_at "b")
 have m19:=W.mg_of X G a19
 have b20:=F20.binds (ps:=["machine","many"]) (by walk_at "b")
 have m20:=W.mg_of X G a20
 have b21:=F21.binds (ps:=["one","other"]) (by walk_at "b")
 have m21:=W.mg_of X G a21
 have b22:=F22.binds (ps:=["thing"]) (by walk_at "b")
 have m22:=W.mg_of X G a22
 have b23:=F23.binds (ps:=["top","below"]) (by walk_at "b")
 have m23:=W.mg_of X G a23
 have b24:=F24.binds (ps:=["one","other"]) (by walk_at "b")
 have m24:=W.mg_of X G a24
 have b25:=F25.binds (ps:=["machine","steps"]) (by walk_at "b")
 have m25:=W.mg_of X G a25
 have b26:=F26.binds (ps:=["thing","many"]) (by walk_at "b")
 have m26:=W.mg_of X G a26
 have b27:=F27.binds (ps:=["machine","low","high","weights"]) (by walk_at "b")
 have m27:=W.mg_of X G a27
 have b28:=F28.binds (ps:=["bounds"]) (by walk_at "b")
 have m28:=W.mg_of X G a28
 have b29:=F29.binds (ps:=["bounds","room","bit"]) (by walk_at "b")
 have m29:=W.mg_of X G a29
 have b30:=F30.binds (ps:=["bounds","rooms"]) (by walk_at "b")
 have m30:=W.mg_of X G a30
 have b31:=F31.binds (ps:=["bounds"]) (by walk_at "b")
 have m31:=W.mg_of X G a31
 have b32:=F32.binds (ps:=["machine","numbers","many"]) (by walk_at "b")
 have m32:=W.mg_of X G a32
 have b33:=F33.binds (ps:=["machine","q"]) (by walk_at "b")
 have m33:=W.mg_of X G a33
 have b34:=F34.binds (ps:=["machine","p","q","limits"]) (by walk_at "b")
 have m34:=W.mg_of X G a34
 have b35:=F35.binds (ps:=["machine","p","q","most"]) (by walk_at "b")
 have m35:=W.mg_of X G a35
 have b36:=F36.binds (ps:=["counts","bits"]) (by walk_at "b")
 have m36:=W.mg_of X G a36
 have b37:=F37.binds (ps:=["machine","p","q","most"]) (by walk_at "b")
 have m37:=W.mg_of X G a37
 have b38:=F38.binds (ps:=["_law_script","_law_k"]) (by walk_at "b")
 have m38:=W.mg_of X G a38
 have b39:=F39.binds (ps:=["_law_script","_law_k"]) (by walk_at "b")
 have m39:=W.mg_of X G a39
 have b40:=F40.binds (ps:=["_law_box_here","_law_many_here"]) (by walk_at "b")
 have m40:=W.mg_of X G a40
 have b41:=F41.binds (ps:=["_law_box_here","_law_least","_law_few","_law_most"]) (by walk_at "b")
 have m41:=W.mg_of X G a41
 have b42:=F42.binds (ps:=["_law_box_here","_law_many_here"]) (by walk_at "b")
 have m42:=W.mg_of X G a42
 have b43:=F43.binds (ps:=["_law_box_here"]) (by walk_at "b")
 have m43:=W.mg_of X G a43
 have b44:=F44.binds (ps:=["_law_one","_law_many_here"]) (by walk_at "b")
 have m44:=W.mg_of X G a44
 have b45:=F45.binds (ps:=["_law_box_here","_law_machine","_law_steps"]) (by walk_at "b")
 have m45:=W.mg_of X G a45
 have b46:=F46.binds (ps:=["_law_box_here","_law_machine","_law_steps","_law_p","_law_q"]) (by walk_at "b")
 have m46:=W.mg_of X G a46
 have b47:=F47.binds (ps:=["_law_box_here"]) (by walk_at "b")
 have m47:=W.mg_of X G a47
 have b48:=F48.binds (ps:=["_law_box_here"]) (by walk_at "b")
 have m48:=W.mg_of X G a48
 have m49:=W.mg_of X G a49
 have n1:=W.mg_none_of X G z1
 have n2:=W.mg_none_of X G z2
 have n3:=W.mg_none_of X G z3
 have n4:=W.mg_none_of X G z4
 have n5:=W.mg_none_of X G z5
 have n6:=W.mg_none_of X G z6
 have n7:=W.mg_none_of X G z7
 have n8:=W.mg_none_of X G z8
 have n9:=W.mg_none_of X G z9
 have n10:=W.mg_none_of X G z10
 have n11:=W.mg_none_of X G z11
 have n12:=W.mg_none_of X G z12
 have n13:=W.mg_none_of X G z13
 have n14:=W.mg_none_of X G z14
 have n15:=W.mg_none_of X G z15
 have n16:=W.mg_none_of X G z16
 have n17:=W.mg_none_of X G z17
 have n18:=W.mg_none_of X G z18
 refine⟨W.fnOf "law" "law" (eG' (top 55)) (am' (top 55)) (ab' (top 55)) .none kV49 dc49 pm49 an49 cd49 ct49,fun s v=>.of_eq rfl,fun base _ _=>?_⟩
 have O1:=ak' (P:=l.prog) (w:=w) (mg:=mg) (base:=base) (k:=0) F1 { N:=c9',B:=b8',K:=K,fs:=ax' [] } qm' rfl b2' uD' (sp:=cm') (by walk_at "o") (ar' mN) (mC ⟨n4,(mC ⟨n5,(mC ⟨n6,mN⟩)⟩)⟩) ⟨n1,n2,n3⟩ ⋯ ⋯ rfl rfl (kA' rfl  )
 have O2:=ak' (P:=l.prog) (w:=w) (mg:=mg) (base:=base) (k:=1) F2 { N:=da',B:=b9',K:=K,fs:=ax' [("is_number",cm')] } n6' rfl b3' qn' (sp:=dM') (by walk_at "o") (ar' (mC ⟨⟨_,_,_,(O1).mono (by omega),m1,F1.kp,b1⟩,mN⟩)) mN ⟨n1,n2,n3⟩ ⋯ ⋯ rfl rfl (iW' rfl (show ax' _ "is_number"=some (cm') from ad') )
 have O3:=ak' (P:=l.prog) (w:=w) (mg:=mg) (base:=base) (k:=0) F3 { N:=d6',B:=db',K:=K,fs:=ax' [] } uE' rfl c0' zn' (sp:=dC') (by walk_at "o") (ar' mN) (mC ⟨n6,(mC ⟨n7,(mC ⟨n8,mN⟩)⟩)⟩) ⟨n1,n2,n3⟩ ⋯ ⋯ rfl rfl (kH' rfl  )
 have O4:=ak' (P:=l.prog) (w:=w) (mg:=mg) (base:=base) (k:=0) F4 { N:=dc',B:=ca',K:=K,fs:=ax' [] } n7' rfl b4' qo' (sp:=nf') (by walk_at "o") (ar' mN) (mC ⟨n6,(mC ⟨n9,(mC ⟨n8,mN⟩)⟩)⟩) ⟨n1,n2,n3⟩ ⋯ ⋯ rfl rfl (pT' rfl  )
 have O5:=ak' (P:=l.prog) (w:=w) (mg:=mg) (base:=base) (k:=1) F5 { N:=co',B:=bu',K:=K,fs:=ax' [("is_listed",nf'),("is_number",cm')] } uF' rfl bp' zo' (sp:=eZ') (by walk_at "o") (ar' (mC ⟨⟨_,_,_,(O4).mono (by omega),m4,F4.kp,b4⟩,(mC ⟨⟨_,_,_,(O1).mono (by omega),m1,F1.kp,b1⟩,mN⟩)⟩)) (mC ⟨n10,(mC ⟨n7,mN⟩)⟩) ⟨n1,n2,n3⟩ ⋯ ⋯ rfl rfl (ng' rfl (show ax' _ "is_listed"=some (nf') from ad') (show ax' _ "is_number"=some (cm') from((aa' ⋯).trans ad')) )
 have O6:=ak' (P:=l.prog) (w:=w) (mg:=mg) (base:=base) (k:=2) F6 { N:=d7',B:=de',K:=K,fs:=ax' [("is_within",dM')] } uG' rfl c1' zp' (sp:=h7') (by walk_at "o") (ar' (mC ⟨⟨_,_,_,(O2).mono (by omega),m2,F2.kp,b2⟩,mN⟩)) mN ⟨n1,n2,n3⟩ ⋯ ⋯ rfl rfl (nd' rfl (show ax' _ "is_within"=some (dM') from ad') )
 have O7:=ak' (P:=l.prog) (w:=w) (mg:=mg) (base:=base) (k:=3) F7 { N:=d8',B:=df',K:=K,fs:=ax' [("is_pair",dC'),("is_lead",h7')] } uH' rfl c2' zq' (sp:=h8') (by walk_at "o") (ar' (mC ⟨⟨_,_,_,(O3).mono (by omega),m3,F3.kp,b3⟩,(mC ⟨⟨_,_,_,(O6).mono (by omega),m6,F6.kp,b6⟩,mN⟩)⟩)) mN ⟨n1,n2,n3⟩ ⋯ ⋯ rfl rfl (kI' rfl (show ax' _ "is_pair"=some (dC') from ad') (show ax' _ "is_lead"=some (h7') from((aa' ⋯).trans ad')) )
 have O8:=ak' (P:=l.prog) (w:=w) (mg:=mg) (base:=base) (k:=4) F8 { N:=cK',B:=bN',K:=K,fs:=ax' [("is_room",h8')] } zr' rfl bH' Ch' (sp:=e5') (by walk_at "o") (ar' (mC ⟨⟨_,_,_,(O7).mono (by omega),m7,F7.kp,b7⟩,mN⟩)) (mC ⟨n10,(mC ⟨n6,(mC ⟨n7,(mC ⟨n8,mN⟩)⟩)⟩)⟩) ⟨n1,n2,n3⟩ ⋯ ⋯ rfl rfl (pS' rfl (show ax' _ "is_room"=some (h8') from ad') )
 have O9:=ak' (P:=l.prog) (w:=w) (mg:=mg) (base:=base) (k:=0) F9 { N:=d9',B:=dg',K:=K,fs:=ax' [] } uI' rfl c3' zs' (sp:=ib') (by walk_at "o") (ar' mN) (mC ⟨n11,mN⟩) ⟨n1,n2,n3⟩ ⋯ ⋯ rfl rfl (nk' rfl  )
 have O10:=ak' (P:=l.prog) (w:=w) (mg:=mg) (base:=base) (k:=0) F10 { N:=ea',B:=dh',K:=K,fs:=ax' [] } uJ' rfl c4' zt' (sp:=fN') (by walk_at "o") (ar' mN) (mC ⟨n12,(mC ⟨n8,mN⟩)⟩) ⟨n1,n2,n3⟩ ⋯ ⋯ rfl rfl (kJ' rfl  )
 have O11:=ak' (P:=l.prog) (w:=w) (mg:=mg) (base:=base) (k:=1) F11 { N:=eb',B:=di',K:=K,fs:=ax' [("lasting",ib'),("part_of",fN')] } uK' rfl c5' zu' (sp:=fO') (by walk_at "o") (ar' (mC ⟨⟨_,_,_,(O9).mono (by omega),m9,F9.kp,b9⟩,(mC ⟨⟨_,_,_,(O10).mono (by omega),m10,F10.kp,b10⟩,mN⟩)⟩)) (mC ⟨n7,(mC ⟨n9,(mC ⟨n13,mN⟩)⟩)⟩) ⟨n1,n2,n3⟩ ⋯ ⋯ rfl rfl (kK' rfl (show ax' _ "lasting"=some (ib') from ad') (show ax' _ "part_of"=some (fN') from((aa' ⋯).trans ad')) )
 have O12:=ak' (P:=l.prog) (w:=w) (mg:=mg) (base:=base) (k:=0) F12 { N:=ec',B:=dj',K:=K,fs:=ax' [] } kQ' rfl c7' n8' (sp:=dD') (by walk_at "o") (ar' mN) mN ⟨n1,n2,n3⟩ ⋯ ⋯ rfl rfl (io' rfl  )
 have O13:=ak' (P:=l.prog) (w:=w) (mg:=mg) (base:=base) (k:=1) F13 { N:=fQ',B:=eB',K:=K,fs:=ax' [("reached",dD')] } qp' rfl eA' uL' (sp:=eP') (by walk_at "o") (ar' (mC ⟨⟨_,_,_,(O12).mono (by omega),m12,F12.kp,b12⟩,mN⟩)) (mC ⟨n7,(mC ⟨n9,(mC ⟨n13,mN⟩)⟩)⟩) ⟨n1,n2,n3⟩ ⋯ ⋯ rfl rfl (kN' rfl (show ax' _ "reached"=some (dD') from ad') )
 have O14:=ak' (P:=l.prog) (w:=w) (mg:=mg) (base:=base) (k:=5) F14 { N:=ed',B:=dk',K:=K,fs:=ax' [("is_machine",e5'),("rings",eP')] } n9' rfl c8' qq' (sp:=dS') (by walk_at "o") (ar' (mC ⟨⟨_,_,_,(O8).mono (by omega),m8,F8.kp,b8⟩,(mC ⟨⟨_,_,_,(O13).mono (by omega),m13,F13.kp,b13⟩,mN⟩)⟩)) (mC ⟨n7,(mC ⟨n9,(mC ⟨n13,mN⟩)⟩)⟩) ⟨n1,n2,n3⟩ ⋯ ⋯ rfl rfl (ip' rfl (show ax' _ "is_machine"=some (e5') from ad') (show ax' _ "rings"=some (eP') from((aa' ⋯).trans ad')) )
 have O15:=ak' (P:=l.prog) (w:=w) (mg:=mg) (base:=base) (k:=0) F15 { N:=cL',B:=bO',K:=K,fs:=ax' [] } Ci' rfl bL' D1' (sp:=yJ') (by walk_at "o") (ar' mN) (mC ⟨n5,(mC ⟨n13,mN⟩)⟩) ⟨n1,n2,n3⟩ ⋯ ⋯ rfl rfl (t7' rfl  )
 have O16:=ak' (P:=l.prog) (w:=w) (mg:=mg) (base:=base) (k:=1) F16 { N:=ee',B:=dl',K:=K,fs:=ax' [("walks_from",yJ')] } Cj' rfl c6' D2' (sp:=yK') (by walk_at "o") (ar' (mC ⟨⟨_,_,_,(O15).mono (by omega),m15,F15.kp,b15⟩,mN⟩)) (mC ⟨n7,(mC ⟨n13,mN⟩)⟩) ⟨n1,n2,n3⟩ ⋯ ⋯ rfl rfl (t8' rfl (show ax' _ "walks_from"=some (yJ') from ad') )
 have O17:=ak' (P:=l.prog) (w:=w) (mg:=mg) (base:=base) (k:=0) F17 { N:=bP',B:=bc',K:=K,fs:=ax' [] } oa' rfl bI' qr' (sp:=dO' K) (by walk_at "o") (ar' mN) (mC ⟨n5,mN⟩) ⟨n1,n2,n3⟩ ⋯ ⋯ rfl rfl (iY' (C:={ N:=bP',B:=bc',K:=K,fs:=ax' [] }) rfl  )
 have O18:=ak' (P:=l.prog) (w:=w) (mg:=mg) (base:=base) (k:=1) F18 { N:=cF',B:=bY',K:=K,fs:=ax' [("behind_bit",dO' K)] } kR' rfl cA' ob' (sp:=aJ' K) (by walk_at "o") (ar' (mC ⟨⟨_,_,_,(O17).mono (by omega),m17,F17.kp,b17⟩,mN⟩)) (mC ⟨n7,(mC ⟨n13,mN⟩)⟩) ⟨n1,n2,n3⟩ ⋯ ⋯ rfl rfl (gJ' (C:={ N:=cF',B:=bY',K:=K,fs:=ax' [("behind_bit",dO' K)] }) rfl (show ax' _ "behind_bit"=some (dO' K) from ad') )
 have O19:=ak' (P:=l.prog) (w:=w) (mg:=mg) (base:=base) (k:=2) F19 { N:=fi',B:=eC',K:=K,fs:=ax' [("way_sums",aJ' K)] } uM' rfl fe' zv' (sp:=ia' K) (by walk_at "o") (ar' (mC ⟨⟨_,_,_,(O18).mono (by omega),m18,F18.kp,b18⟩,mN⟩)) (mC ⟨n7,(mC ⟨n13,mN⟩)⟩) ⟨n1,n2,n3⟩ ⋯ ⋯ rfl rfl (ni' (C:={ N:=fi',B:=eC',K:=K,fs:=ax' [("way_sums",aJ' K)] }) rfl (show ax' _ "way_sums"=some (aJ' K) from ad') )
 have O20:=ak' (P:=l.prog) (w:=w) (mg:=mg) (base:=base) (k:=3) F20 { N:=eQ',B:=dT',K:=K,fs:=ax' [("ways",ia' K)] } oc' rfl dN' qs' (sp:=cB') (by walk_at "o") (ar' (mC ⟨⟨_,_,_,(O19).mono (by omega),m19,F19.kp,b19⟩,mN⟩)) mN ⟨n1,n2,n3⟩ ⋯ ⋯ rfl rfl (iZ' rfl (show ax' _ "ways"=some (ia' K) from ad') )
 have O21:=ak' (P:=l.prog) (w:=w) (mg:=mg) (base:=base) (k:=0) F21 { N:=bv',B:=a0',K:=K,fs:=ax' [] } od' rfl aZ' qt' (sp:=cE') (by walk_at "o") (ar' mN) mN ⟨n1,n2,n3⟩ ⋯ ⋯ rfl rfl (i4' rfl  )
 have O22:=ak' (P:=l.prog) (w:=w) (mg:=mg) (base:=base) (k:=1) F22 { N:=cp',B:=bw',K:=K,fs:=ax' [("is_pair",dC'),("is_number",cm'),("common_divisor",cE')] } uN' rfl bs' zw' (sp:=gj') (by walk_at "o") (ar' (mC ⟨⟨_,_,_,(O3).mono (by omega),m3,F3.kp,b3⟩,(mC ⟨⟨_,_,_,(O1).mono (by omega),m1,F1.kp,b1⟩,(mC ⟨⟨_,_,_,(O21).mono (by omega),m21,F21.kp,b21⟩,mN⟩)⟩)⟩)) mN ⟨n1,n2,n3⟩ ⋯ ⋯ rfl rfl (nD' rfl (show ax' _ "is_pair"=some (dC') from ad') (show ax' _ "is_number"=some (cm') from((aa' ⋯).trans ad')) (show ax' _ "common_divisor"=some (cE') from((aa' ⋯).trans ((aa' ⋯).trans ad'))) )
 have O23:=ak' (P:=l.prog) (w:=w) (mg:=mg) (base:=base) (k:=1) F23 { N:=cq',B:=bx',K:=K,fs:=ax' [("common_divisor",cE')] } uO' rfl br' zx' (sp:=ik') (by walk_at "o") (ar' (mC ⟨⟨_,_,_,(O21).mono (by omega),m21,F21.kp,b21⟩,mN⟩)) mN ⟨n1,n2,n3⟩ ⋯ ⋯ rfl rfl (nz' rfl (show ax' _ "common_divisor"=some (cE') from ad') )
 have O24:=ak' (P:=l.prog) (w:=w) (mg:=mg) (base:=base) (k:=0) F24 { N:=cM',B:=bQ',K:=K,fs:=ax' [] } oe' rfl bM' qu' (sp:=b7') (by walk_at "o") (ar' mN) mN ⟨n1,n2,n3⟩ ⋯ ⋯ rfl rfl (i5' rfl  )
 have O25:=ak' (P:=l.prog) (w:=w) (mg:=mg) (base:=base) (k:=2) F25 { N:=eR',B:=dU',K:=K,fs:=ax' [("way_sums",aJ' K),("fraction_of",ik'),("is_at_most",b7')] } of' rfl dR' qv' (sp:=be') (by walk_at "o") (ar' (mC ⟨⟨_,_,_,(O18).mono (by omega),m18,F18.kp,b18⟩,(mC ⟨⟨_,_,_,(O23).mono (by omega),m23,F23.kp,b23⟩,(mC ⟨⟨_,_,_,(O24).mono (by omega),m24,F24.kp,b24⟩,mN⟩)⟩)⟩)) (mC ⟨n13,(mC ⟨n14,mN⟩)⟩) ⟨n1,n2,n3⟩ ⋯ ⋯ rfl rfl (i8' rfl (show ax' _ "way_sums"=some (aJ' K) from ad') (show ax' _ "fraction_of"=some (ik') from((aa' ⋯).trans ad')) (show ax' _ "is_at_most"=some (b7') from((aa' ⋯).trans ((aa' ⋯).trans ad'))) )
 have O26:=ak' (P:=l.prog) (w:=w) (mg:=mg) (base:=base) (k:=2) F26 { N:=cr',B:=by',K:=K,fs:=ax' [("are_numbers",eZ')] } uP' rfl bt' zy' (sp:=gk') (by walk_at "o") (ar' (mC ⟨⟨_,_,_,(O5).mono (by omega),m5,F5.kp,b5⟩,mN⟩)) (mC ⟨n10,mN⟩) ⟨n1,n2,n3⟩ ⋯ ⋯ rfl rfl (nE' rfl (show ax' _ "are_numbers"=some (eZ') from ad') )
 have O27:=ak' (P:=l.prog) (w:=w) (mg:=mg) (base:=base) (k:=5) F27 { N:=b0',B:=bf',K:=K,fs:=ax' [("is_machine",e5'),("is_fraction",gj'),("are_weights",gk'),("way_sums",aJ' K),("is_at_most",b7')] } Ck' rfl aX' D3' (sp:=nX') (by walk_at "o") (ar' (mC ⟨⟨_,_,_,(O8).mono (by omega),m8,F8.kp,b8⟩,(mC ⟨⟨_,_,_,(O22).mono (by omega),m22,F22.kp,b22⟩,(mC ⟨⟨_,_,_,(O26).mono (by omega),m26,F26.kp,b26⟩,(mC ⟨⟨_,_,_,(O18).mono (by omega),m18,F18.kp,b18⟩,(mC ⟨⟨_,_,_,(O24).mono (by omega),m24,F24.kp,b24⟩,mN⟩)⟩)⟩)⟩)⟩)) (mC ⟨n10,(mC ⟨n7,(mC ⟨n9,(mC ⟨n14,mN⟩)⟩)⟩)⟩) ⟨n1,n2,n3⟩ ⋯ ⋯ rfl rfl (qg' rfl ⟨(show ax' _ "is_machine"=some (e5') from ad'),(show ax' _ "is_fraction"=some (gj') from((aa' ⋯).trans ad')),(show ax' _ "are_weights"=some (gk') from((aa' ⋯).trans ((aa' ⋯).trans ad'))),(show ax' _ "way_sums"=some (aJ' K) from((aa' ⋯).trans ((aa' ⋯).trans ((aa' ⋯).trans ad')))),(show ax' _ "is_at_most"=some (b7') from((aa' ⋯).trans ((aa' ⋯).trans ((aa' ⋯).trans ((aa' ⋯).trans ad')))))⟩ )
 have O28:=ak' (P:=l.prog) (w:=w) (mg:=mg) (base:=base) (k:=0) F28 { N:=bg',B:=aU',K:=K,fs:=ax' [] } zz' rfl aS' Cl' (sp:=nm') (by walk_at "o") (ar' mN) (mC ⟨n9,(mC ⟨n13,mN⟩)⟩) ⟨n1,n2,n3⟩ ⋯ ⋯ rfl rfl (pW' rfl  )
 have O29:=ak' (P:=l.prog) (w:=w) (mg:=mg) (base:=base) (k:=0) F29 { N:=cs',B:=bz',K:=K,fs:=ax' [] } Cm' rfl bq' D4' (sp:=no') (by walk_at "o") (ar' mN) mN ⟨n1,n2,n3⟩ ⋯ ⋯ rfl rfl (pX' rfl  )
 have O30:=ak' (P:=l.prog) (w:=w) (mg:=mg) (base:=base) (k:=1) F30 { N:=a4',B:=aM',K:=K,fs:=ax' [("room_behind",no')] } zA' rfl aL' Cn' (sp:=ig') (by walk_at "o") (ar' (mC ⟨⟨_,_,_,(O29).mono (by omega),m29,F29.kp,b29⟩,mN⟩)) (mC ⟨n12,(mC ⟨n8,mN⟩)⟩) ⟨n1,n2,n3⟩ ⋯ ⋯ rfl rfl (nq' rfl (show ax' _ "room_behind"=some (no') from ad') )
 have O31:=ak' (P:=l.prog) (w:=w) (mg:=mg) (base:=base) (k:=2) F31 { N:=cN',B:=bR',K:=K,fs:=ax' [("trimmed",fO'),("machine_in_bounds",ig'),("rooms_in_bounds",nm')] } zB' rfl bJ' Co' (sp:=e3') (by walk_at "o") (ar' (mC ⟨⟨_,_,_,(O11).mono (by omega),m11,F11.kp,b11⟩,(mC ⟨⟨_,_,_,(O30).mono (by omega),m30,F30.kp,b30⟩,(mC ⟨⟨_,_,_,(O28).mono (by omega),m28,F28.kp,b28⟩,mN⟩)⟩)⟩)) mN ⟨n1,n2,n3⟩ ⋯ ⋯ rfl rfl (nJ' rfl (show ax' _ "trimmed"=some (fO') from ad') (show ax' _ "machine_in_bounds"=some (ig') from((aa' ⋯).trans ad')) (show ax' _ "rooms_in_bounds"=some (nm') from((aa' ⋯).trans ((aa' ⋯).trans ad'))) )
 have O32:=ak' (P:=l.prog) (w:=w) (mg:=mg) (base:=base) (k:=2) F32 { N:=dm',B:=cb',K:=K,fs:=ax' [("way_sums",aJ' K)] } uQ' rfl b5' zC' (sp:=cn') (by walk_at "o") (ar' (mC ⟨⟨_,_,_,(O18).mono (by omega),m18,F18.kp,b18⟩,mN⟩)) (mC ⟨n9,(mC ⟨n13,mN⟩)⟩) ⟨n1,n2,n3⟩ ⋯ ⋯ rfl rfl (kE' rfl (show ax' _ "way_sums"=some (aJ' K) from ad') )
 have O33:=ak' (P:=l.prog) (w:=w) (mg:=mg) (base:=base) (k:=2) F33 { N:=dE',B:=cG',K:=K,fs:=ax' [("powered",yK')] } Cp' rfl cC' D5' (sp:=yL') (by walk_at "o") (ar' (mC ⟨⟨_,_,_,(O16).mono (by omega),m16,F16.kp,b16⟩,mN⟩)) (mC ⟨n12,mN⟩) ⟨n1,n2,n3⟩ ⋯ ⋯ rfl rfl (t9' rfl (show ax' _ "powered"=some (yK') from ad') )
 have O34:=ak' (P:=l.prog) (w:=w) (mg:=mg) (base:=base) (k:=3) F34 { N:=bi',B:=aV',K:=K,fs:=ax' [("walk_sums",cn'),("walks_to",yL')] } Cq' rfl aT' D6' (sp:=yN') (by walk_at "o") (ar' (mC ⟨⟨_,_,_,(O32).mono (by omega),m32,F32.kp,b32⟩,(mC ⟨⟨_,_,_,(O33).mono (by omega),m33,F33.kp,b33⟩,mN⟩)⟩)) (mC ⟨n7,(mC ⟨n9,(mC ⟨n13,mN⟩)⟩)⟩) ⟨n1,n2,n3⟩ ⋯ ⋯ rfl rfl (uc' rfl (show ax' _ "walk_sums"=some (cn') from ad') (show ax' _ "walks_to"=some (yL') from((aa' ⋯).trans ad')) )
 have O35:=ak' (P:=l.prog) (w:=w) (mg:=mg) (base:=base) (k:=4) F35 { N:=eS',B:=dV',K:=K,fs:=ax' [("greatest_within",yN')] } Cr' rfl dP' D7' (sp:=ud') (by walk_at "o") (ar' (mC ⟨⟨_,_,_,(O34).mono (by omega),m34,F34.kp,b34⟩,mN⟩)) (mC ⟨n15,mN⟩) ⟨n1,n2,n3⟩ ⋯ ⋯ rfl rfl (ue' rfl (show ax' _ "greatest_within"=some (yN') from ad') )
 have O36:=ak' (P:=l.prog) (w:=w) (mg:=mg) (base:=base) (k:=0) F36 { N:=dn',B:=cc',K:=K,fs:=ax' [] } qw' rfl b6' uR' (sp:=d4') (by walk_at "o") (ar' mN) (mC ⟨n10,mN⟩) ⟨n1,n2,n3⟩ ⋯ ⋯ rfl rfl (kC' rfl  )
 have O37:=ak' (P:=l.prog) (w:=w) (mg:=mg) (base:=base) (k:=3) F37 { N:=cO',B:=bS',K:=K,fs:=ax' [("walk_sums",cn'),("are_below",d4')] } Cs' rfl bK' D8' (sp:=u6') (by walk_at "o") (ar' (mC ⟨⟨_,_,_,(O32).mono (by omega),m32,F32.kp,b32⟩,(mC ⟨⟨_,_,_,(O36).mono (by omega),m36,F36.kp,b36⟩,mN⟩)⟩)) (mC ⟨n13,mN⟩) ⟨n1,n2,n3⟩ ⋯ ⋯ rfl rfl (p6' rfl (show ax' _ "walk_sums"=some (cn') from ad') (show ax' _ "are_below"=some (d4') from((aa' ⋯).trans ad')) )
 have O38:=ak' (P:=l.prog) (w:=w) (mg:=mg) (base:=base) (k:=0) F38 { N:=eD',B:=dF',K:=K,fs:=ax' [] } uS' rfl ew' zD' (sp:=gf' K) (by walk_at "o") (ar' mN) (mC ⟨n7,mN⟩) ⟨n1,n2,n3⟩ ⋯ ⋯ rfl rfl (m6' (C:={ N:=eD',B:=dF',K:=K,fs:=ax' [] }) rfl  )
 have O39:=yv' (ak' (P:=l.prog) (w:=w) (mg:=mg) (base:=base) (k:=1) F39 { N:=qc',B:=nO',K:=K,fs:=ax' [("_law_cell_at",gf' K)] } zE' rfl pP' Ct' (sp:=m7' K) (by walk_at "o") (ar' (mC ⟨⟨_,_,_,(O38).mono (by omega),m38,F38.kp,b38⟩,mN⟩)) (mC ⟨n16,(mC ⟨n5,mN⟩)⟩) ⟨n1,n2,n3⟩ ⋯ ⋯ rfl rfl (pR' (C:={ N:=qc',B:=nO',K:=K,fs:=ax' [("_law_cell_at",gf' K)] }) rfl (show ax' _ "_law_cell_at"=some (gf' K) from ad') ))
 have O40:=tO' rfl (ak' (P:=l.prog) (w:=w) (mg:=mg) (base:=base) (k:=0) F40 { N:=nP',B:=j0',K:=K,fs:=ax' [] } uT' rfl jJ' zF' (sp:=gI') (by walk_at "o") (ar' mN) mN ⟨n1,n2,n3⟩ ⋯ ⋯ rfl rfl (m8' rfl  ))
 have O41:=ak' (P:=l.prog) (w:=w) (mg:=mg) (base:=base) (k:=1) F41 { N:=nQ',B:=j1',K:=K,fs:=ax' [("_law_take",aI')] } uU' rfl jK' zG' (sp:=gg') (by walk_at "o") (ar' (mC ⟨⟨_,_,_,(O40).mono (by omega),m40,F40.kp,b40⟩,mN⟩)) mN ⟨n1,n2,n3⟩ ⋯ ⋯ rfl rfl (nb' rfl (show ax' _ "_law_take"=some (aI') from ad') )
 have O42:=ak' (P:=l.prog) (w:=w) (mg:=mg) (base:=base) (k:=1) F42 { N:=cP',B:=bT',K:=K,fs:=ax' [("_law_take",aI')] } uV' rfl bb' zH' (sp:=fK' 1 60 400) (by walk_at "o") (ar' (mC ⟨⟨_,_,_,(O40).mono (by omega),m40,F40.kp,b40⟩,mN⟩)) (mC ⟨n12,(mC ⟨n5,(mC ⟨n13,(mC ⟨n8,mN⟩)⟩)⟩)⟩) ⟨n1,n2,n3⟩ ⋯ ⋯ rfl rfl (nc' rfl (show ax' _ "_law_take"=some (aI') from ad') )
 have O43:=ak' (P:=l.prog) (w:=w) (mg:=mg) (base:=base) (k:=1) F43 { N:=jc',B:=gP',K:=K,fs:=ax' [("_law_take",aI')] } qx' rfl gK' uW' (sp:=fM') (by walk_at "o") (ar' (mC ⟨⟨_,_,_,(O40).mono (by omega),m40,F40.kp,b40⟩,mN⟩)) (mC ⟨n17,mN⟩) ⟨n1,n2,n3⟩ ⋯ ⋯ rfl rfl (kD' rfl (show ax' _ "_law_take"=some (aI') from ad') )
 have O44:=ak' (P:=l.prog) (w:=w) (mg:=mg) (base:=base) (k:=0) F44 { N:=jd',B:=gQ',K:=K,fs:=ax' [] } zI' rfl gR' Cu' (sp:=nZ') (by walk_at "o") (ar' mN) (mC ⟨n13,mN⟩) ⟨n1,n2,n3⟩ ⋯ ⋯ rfl rfl (qh' rfl  )
 have O45:=ak' (P:=l.prog) (w:=w) (mg:=mg) (base:=base) (k:=6) F45 { N:=cQ',B:=bU',K:=K,fs:=ax' [("growth",be'),("_law_take",aI'),("shows_growth",nX')] } Cv' rfl bV' D9' (sp:=zj') (by walk_at "o") (ar' (mC ⟨⟨_,_,_,(O25).mono (by omega),m25,F25.kp,b25⟩,(mC ⟨⟨_,_,_,(O40).mono (by omega),m40,F40.kp,b40⟩,(mC ⟨⟨_,_,_,(O27).mono (by omega),m27,F27.kp,b27⟩,mN⟩)⟩)⟩)) (mC ⟨n10,(mC ⟨n17,mN⟩)⟩) ⟨n1,n2,n3⟩ ⋯ ⋯ rfl rfl (uy' rfl ⟨(show ax' _ "growth"=some (be') from ad'),(show ax' _ "_law_take"=some (aI') from((aa' ⋯).trans ad')),(show ax' _ "shows_growth"=some (nX') from((aa' ⋯).trans ((aa' ⋯).trans ad')))⟩ )
 have O46:=ak' (P:=l.prog) (w:=w) (mg:=mg) (base:=base) (k:=5) F46 { N:=do',B:=cd',K:=K,fs:=ax' [("growth",be'),("_law_power",nZ'),("enough",ud'),("_law_take",aI'),("too_little",u6')] } Cw' rfl ce' Ea' (sp:=zk') (by walk_at "o") (ar' (mC ⟨⟨_,_,_,(O25).mono (by omega),m25,F25.kp,b25⟩,(mC ⟨⟨_,_,_,(O44).mono (by omega),m44,F44.kp,b44⟩,(mC ⟨⟨_,_,_,(O35).mono (by omega),m35,F35.kp,b35⟩,(mC ⟨⟨_,_,_,(O40).mono (by omega),m40,F40.kp,b40⟩,(mC ⟨⟨_,_,_,(O37).mono (by omega),m37,F37.kp,b37⟩,mN⟩)⟩)⟩)⟩)⟩)) mN ⟨n1,n2,n3⟩ ⋯ ⋯ rfl rfl (uz' rfl ⟨(show ax' _ "growth"=some (be') from ad'),(show ax' _ "_law_power"=some (nZ') from((aa' ⋯).trans ad')),(show ax' _ "enough"=some (ud') from((aa' ⋯).trans ((aa' ⋯).trans ad'))),(show ax' _ "_law_take"=some (aI') from((aa' ⋯).trans ((aa' ⋯).trans ((aa' ⋯).trans ad')))),(show ax' _ "too_little"=some (u6') from((aa' ⋯).trans ((aa' ⋯).trans ((aa' ⋯).trans ((aa' ⋯).trans ad')))))⟩ )
 have O47:=ak' (P:=l.prog) (w:=w) (mg:=mg) (base:=base) (k:=6) F47 { N:=dp',B:=cf',K:=K,fs:=ax' [("_law_take",aI'),("machine_of",e3'),("is_ring",dS'),("growth",be'),("counts",cB')] } Cx' rfl cg' Eb' (sp:=zl') (by walk_at "o") (ar' (mC ⟨⟨_,_,_,(O40).mono (by omega),m40,F40.kp,b40⟩,(mC ⟨⟨_,_,_,(O31).mono (by omega),m31,F31.kp,b31⟩,(mC ⟨⟨_,_,_,(O14).mono (by omega),m14,F14.kp,b14⟩,(mC ⟨⟨_,_,_,(O25).mono (by omega),m25,F25.kp,b25⟩,(mC ⟨⟨_,_,_,(O20).mono (by omega),m20,F20.kp,b20⟩,mN⟩)⟩)⟩)⟩)⟩)) (mC ⟨n10,(mC ⟨n18,(mC ⟨n13,mN⟩)⟩)⟩) ⟨n1,n2,n3⟩ ⋯ ⋯ rfl rfl (uB' rfl ⟨(show ax' _ "_law_take"=some (aI') from ad'),(show ax' _ "machine_of"=some (e3') from((aa' ⋯).trans ad')),(show ax' _ "is_ring"=some (dS') from((aa' ⋯).trans ((aa' ⋯).trans ad'))),(show ax' _ "growth"=some (be') from((aa' ⋯).trans ((aa' ⋯).trans ((aa' ⋯).trans ad')))),(show ax' _ "counts"=some (cB') from((aa' ⋯).trans ((aa' ⋯).trans ((aa' ⋯).trans ((aa' ⋯).trans ad')))))⟩ )
 have O48:=ak' (P:=l.prog) (w:=w) (mg:=mg) (base:=base) (k:=7) F48 { N:=je',B:=gS',K:=K,fs:=ax' [("_law_many",gg'),("_law_ring_machine",fK' 1 60 400),("_law_take",aI'),("machine_of",e3'),("_law_rates",fM'),("counts",cB'),("_law_papers_right",zj'),("_law_rates_right",zk'),("_law_wider_right",zl')] } qy' rfl gT' uX' (sp:=eT') (by walk_at "o") (ar' (mC ⟨⟨_,_,_,(O41).mono (by omega),m41,F41.kp,b41⟩,(mC ⟨⟨_,_,_,(O42).mono (by omega),m42,F42.kp,b42⟩,(mC ⟨⟨_,_,_,(O40).mono (by omega),m40,F40.kp,b40⟩,(mC ⟨⟨_,_,_,(O31).mono (by omega),m31,F31.kp,b31⟩,(mC ⟨⟨_,_,_,(O43).mono (by omega),m43,F43.kp,b43⟩,(mC ⟨⟨_,_,_,(O20).mono (by omega),m20,F20.kp,b20⟩,(mC ⟨⟨_,_,_,(O45).mono (by omega),m45,F45.kp,b45⟩,(mC ⟨⟨_,_,_,(O46).mono (by omega),m46,F46.kp,b46⟩,(mC ⟨⟨_,_,_,(O47).mono (by omega),m47,F47.kp,b47⟩,mN⟩)⟩)⟩)⟩)⟩)⟩)⟩)⟩)⟩)) (mC ⟨n18,mN⟩) ⟨n1,n2,n3⟩ ⋯ ⋯ rfl rfl (kP' rfl ⟨(show ax' _ "_law_many"=some (gg') from ad'),(show ax' _ "_law_ring_machine"=some (fK' 1 60 400) from((aa' ⋯).trans ad')),(show ax' _ "_law_take"=some (aI') from((aa' ⋯).trans ((aa' ⋯).trans ad'))),(show ax' _ "machine_of"=some (e3') from((aa' ⋯).trans ((aa' ⋯).trans ((aa' ⋯).trans ad')))),(show ax' _ "_law_rates"=some (fM') from((aa' ⋯).trans ((aa' ⋯).trans ((aa' ⋯).trans ((aa' ⋯).trans ad'))))),(show ax' _ "counts"=some (cB') from((aa' ⋯).trans ((aa' ⋯).trans ((aa' ⋯).trans ((aa' ⋯).trans ((aa' ⋯).trans ad')))))),(show ax' _ "_law_papers_right"=some (zj') from((aa' ⋯).trans ((aa' ⋯).trans ((aa' ⋯).trans ((aa' ⋯).trans ((aa' ⋯).trans ((aa' ⋯).trans ad'))))))),(show ax' _ "_law_rates_right"=some (zk') from((aa' ⋯).trans ((aa' ⋯).trans ((aa' ⋯).trans ((aa' ⋯).trans ((aa' ⋯).trans ((aa' ⋯).trans ((aa' ⋯).trans ad')))))))),(show ax' _ "_law_wider_right"=some (zl') from((aa' ⋯).trans ((aa' ⋯).trans ((aa' ⋯).trans ((aa' ⋯).trans ((aa' ⋯).trans ((aa' ⋯).trans ((aa' ⋯).trans ((aa' ⋯).trans ad')))))))))⟩ )
 exact ak' (P:=l.prog) (w:=w) (mg:=mg) (base:=base) (k:=59) F49 { N:=qd',B:=nR',K:=K,fs:=ax' [("_law_box",ky' K),("_law_right",eT')] } zJ' rfl qe' Cy' (sp:=n5' K) (by walk_at "o") (ar' (mC ⟨⟨_,_,_,(O39).mono (by omega),m39,F39.kp,b39⟩,(mC ⟨⟨_,_,_,(O48).mono (by omega),m48,F48.kp,b48⟩,mN⟩)⟩)) (mC ⟨n7,(mC ⟨n18,(mC ⟨n17,(mC ⟨n13,mN⟩)⟩)⟩)⟩) ⟨n1,n2,n3⟩ ⋯ ⋯ rfl rfl (ql' (C:={ N:=qd',B:=nR',K:=K,fs:=ax' [("_law_box",ky' K),("_law_right",eT')] }) rfl (show ax' _ "_law_box"=some (ky' K) from ad') (show ax' _ "_law_right"=some (eT') from((aa' ⋯).trans ad')) )
theorem walk {l:W.OpenLaw} {q:Program} {loose:List Str} {XP:(Str->Option Value)->Heap->Prop} {d:DefRec} {K:Params->W.Frag} {bs:List Addr} {m t:Nat} (hn:l.most=some 63) (hdf:d.params.defaults=[]) (e:∀P,bs=(K P).map (·.1))
  (F:∀(w:World) (mg:Str->Option Value) (fa:Addr) (h:Heap),(K w.params).In h->h.Ns mainGlobals mg->mg d.name=some (.ref fa)->
   ∃fd:FuncData,(∀(s:Shared) (u:Value),BindsTo s fd ⟨[u],[]⟩ [("_law_script",u)])/\∀base:Heap,(K w.params).In base->base.Ns mainGlobals mg->FnOk l.prog w (K w.params) mg base CX0 60 fa fd ["_law_script"] (n5' (K w.params))):
  W.WalkX q loose XP (W.X.obsZ bs) (W.X.valZ K m t) l.row.toRowW d [] (fun f vs=>PySem.call f vs):=
 fun w s₀ s₁ mg mb G y a o pm cd doc dV kV h1 h2 h3 h4 h5 h6 args vals cs La=>L2.iy' (YP:=fun w h=>(K w.params).In h) (n:=63) (k:=60) (x:="_law_script") (CX:=fun _=>CX0) (sp:=fun w=>n5' (K w.params)) hn (by decide) hdf ⟨rfl,by decide,by decide,rfl⟩ (fun _ _ Y=>Y) F (fun _ _ a ns hl _ hS=>⟨a,ns,rfl,hS,hl,fun _=>rfl⟩) (fun _ _ _ _ _ z=>z) w s₀ s₁ mg mb G (W.InK.keeps w _ _ (W.X.z_facts e y).2.1 La.keeps) a o pm cd doc dV kV h1 h2 h3 h4 h5 h6 args vals cs
end K68
end
open PySem PySem.W PyProof.Rows
namespace PySem.W.Fast
noncomputable section
def tw1911798146605256880:=0
def tw1936227128003923680:=0
def tw17441785586203329809:=0
def tw14799418578428207136:=0
def tw1149083252227792005:=0
def tw2968441729063188897:=0
def tw16227143189345858091:=0
def tw15224608161098730002:=0
def tw705892158781702605:=0
def tw5926368421877822242:=0
def tw3453912818329479067:=0
def tw840225044710864623:=0
def tw2541255557346275575:=0
def tw9315788915800697900:=0
def tw8784481258967937634:=0
def tw10877082064029883316:=0
def tw11462005478171553836:=0
def tw10630945308341008967:=0
def tw13943405637943661913:=0
def tw6777773812077858927:=0
def tw10548194102128282630:=0
def tw6421949107887648467:=0
def tw10645093136284383999:=0
def tw3079491370425827419:=0
def tw17664339634603450832:=0
def tw4126710431929310841:=0
def tw9118254867708606261:=0
def tw12105448755672452046:=0
def tw13425598600867771930:=0
def tw18191385749182942244:=0
def tw18336246739126309547:=0
def tw8986266900450948954:=0
def tw1282196653717034807:=0
def tw2261990325844007982:=0
def tw5399859968377286066:=0
def tw5367394667709055850:=0
def tw13209230813010498470:=0
def tw746341963087156825:=0
def tw8285067032847668677:=0
def tw8722665161060995478:=0
def tw2817372479367882817:=0
def tw18262204514866869098:=0
def tw2102192529414573257:=0
def tw1437247276377848790:=0
def tw1601330279155348161:=0
def tw12487895213181407340:=0
def tw7649766635810117484:=0
def tw12331441604625748849:=0
def tw6001579040895979782:=0
def tw17784710372828268299:=0
def tw12190383683807218230:=0
def tw10415529734650065321:=0
def tw9495022681109627183:=0
def tw8262833608921042399:=0
def tw17639990362395730603:=0
def tw11357831780583452547:=0
def tw8653439173408895118:=0
def tw4514555476714113282:=0
def tw4627995778906750748:=0
def tw17613621087231303631:=0
end
end PySem.W.Fast
set_option maxRecDepth 100000 in
set_option maxHeartbeats 0 in
theorem PySem.Challenge.cw_runbound_k68_whole_growth_and_room_holds : PySem.Challenge.rw_runbound_k68_whole_growth_and_room.Holds := by
 w_on; o_law; z_head; (case hw => w_witness2)
 k_fill
 refine K68.walk (l := PySem.Challenge.rw_runbound_k68_whole_growth_and_room) rfl rfl (fun _ => rfl) ?F
 case F =>
  intro w mg fa h KX G hmg
  refine' K68.zK' KX G hmg (K68.as' _ _ _ _) (K68.as' _ _ _ _) (K68.as' _ _ _ _) (K68.as' _ _ _ _) (K68.as' _ _ _ _) (K68.as' _ _ _ _) (K68.as' _ _ _ _) (K68.as' _ _ _ _) (K68.as' _ _ _ _) (K68.as' _ _ _ _) (K68.as' _ _ _ _) (K68.as' _ _ _ _) (K68.as' _ _ _ _) (K68.as' _ _ _ _) (K68.as' _ _ _ _) (K68.as' _ _ _ _) (K68.as' _ _ _ _) (K68.as' _ _ _ _) (K68.as' _ _ _ _) (K68.as' _ _ _ _) (K68.as' _ _ _ _) (K68.as' _ _ _ _) (K68.as' _ _ _ _) (K68.as' _ _ _ _) (K68.as' _ _ _ _) (K68.as' _ _ _ _) (K68.as' _ _ _ _) (K68.as' _ _ _ _) (K68.as' _ _ _ _) (K68.as' _ _ _ _) (K68.as' _ _ _ _) (K68.as' _ _ _ _) (K68.as' _ _ _ _) (K68.as' _ _ _ _) (K68.as' _ _ _ _) (K68.as' _ _ _ _) (K68.as' _ _ _ _) (K68.as' _ _ _ _) (K68.as' _ _ _ _) (K68.as' _ _ _ _) (K68.as' _ _ _ _) (K68.as' _ _ _ _) (K68.as' _ _ _ _) (K68.as' _ _ _ _) (K68.as' _ _ _ _) (K68.as' _ _ _ _) (K68.as' _ _ _ _) (K68.as' _ _ _ _) (K68.as' _ _ _ _) _ _ _ _ _ _ _ _ _ _ _ _ _ _ _ _ _ _
  all_goals try k_is
  all_goals try k_is
