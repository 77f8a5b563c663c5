import PyProof.Rows.All
import Wide.All
import OpenK.AllK
import Wide.FinOn
import Lean
import PyProof.EqAt
import PyProof.EqKinds
import PyProof.TupleCall
import KE.KDictList
import PyProof.Rows.TupAdd
import PyProof.Rows.SortStr
import PyProof.Rows.SortWalk
import PyProof.CollectIter
import PyProof.Rows.Tup
import PyProof.TupleOfSeq
import PyProof.ReprRoads
import PyProof.CallStr
import PyProof.SeqRoads2
import KE.KSortTup
import PyProof.SetRoads
import PyProof.Rows.SetFrom
import PyProof.TupleKey
import PyProof.IsRules
import KE.KSetDisp
import PyProof.Rows.SortShell
import PyProof.DictFindH
import KE.KUnpack
import PyProof.IsiH_list
import PyProof.FactsAll.dict_1
import PySem.Challenge.RW_runbound_k13_rooms_apart
open PySem renaming wpAny_bind → aa,wpAny_pure → af,wpAny_holding → aR,wpAny_callSpecial?_slot → aW,wpAny_field → aZ,wpAny_call_entry → bf,wpAny_seqItems → bm,wpAny_pyIter_tuple → bw,wpAny_newObj_type → bx,wpAny_setField_rec → bI,wpAny_passesOwn → bY,wpAny_setState_of → ce,wpAny_standAt → cf,wpAny_specialOf → cu,wpAny_truthy_bool → cz,wpAny_rule → cH
open List renaming getElem?_eq_getElem → ac,length_map → ai,size_toArray → aj,mem_append → al,length_append → am,mem_cons_of_mem → ao,mem_cons → aq,getElem?_eq_some_iff → av,mem_append_right → ax,mem_cons_self → aA,replicate → aC,mem_append_left → aD,map_cons → aE,length_take → aF,getElem?_map → aG,range → aH,getD_eq_getElem?_getD → aI,not_mem_nil → aK,take_append_drop → aL,mem_of_getElem? → aN,map_append → aO,mem_map → aP,mem_range → aT,append_assoc → aV,pairwise_append → aX,length_cons → aY,getElem?_eq_none → bd,lookup_cons → bj,length_range → bo,getElem?_of_mem → bp,replicate_succ → bB,flatten_cons → bC,getElem?_append_left → bE,getElem?_eq_none_iff → bF,nodup_cons → bG,filter_cons → bJ,getElem?_set_ne → bK,filterMap_cons → bN,getElem?_append_right → bP,length_drop → bQ,mem_singleton → bT,pairwise_iff_getElem → bV,mem_of_mem_drop → bW,mem_of_mem_take → bX,ext_getElem? → bZ,pairwise_map → cc,getElem?_range → ci,pairwise_singleton → cj,eq_nil_of_length_eq_zero → ck,take_of_length_le → cm,zip → cr,append_nil → cw,length_singleton → cx,find?_cons → cy,any_cons → cA,getElem_drop → cB,mem_iff_getElem → cD,cons_append → cE,length → cG,map_nil → cI,all_cons → cL
open PySem.Heap renaming get?_push_of_some → ae,get?_push_size → aw,lt_size → az,get?_update_self → bb,size_push → bg,SameBut → bu
open Nat renaming lt_of_lt_of_le → ag,le_refl → ak,ne_of_lt → aB,le_add_right → aJ,le_trans → aS,lt_or_ge → bc,zero_le → bh,not_lt_zero → bi,lt_irrefl → bn,ne_of_gt → bq,le_of_lt → br,le_of_lt_succ → bD,mul_assoc → bM,add_sub_cancel_left → cg,mod_eq_of_lt → cF,mul_comm → cJ,pow_succ → cK
open Bool renaming and_eq_true → ah,false_ne_true → ap,not_eq_true' → bv,false_eq_true → bR,eq_iff_iff → cv
open Array renaming length_toList → au,getElem?_eq_getElem → ay,toList_append → aQ,getElem?_eq_some_iff → aU,getD_eq_getD_getElem? → ba,mem_toList_iff → bL,getElem?_toList → bU,toList_push → cC
open Int renaming eq_ofNat_of_zero_le → aM,toNat_natCast → bA,emod_lt_of_pos → cq
open Option renaming isSome_iff_exists → bH,map_eq_some_iff → bO
set_option genSizeOf false
set_option Elab.async false
set_option compiler.extract_closed false
set_option linter.all false
set_option maxRecDepth 100000
set_option tactic.hygienic false
namespace L2
open PySem PySem.Spec PyProof.Rows
section
variable {prog:Program} {w:World} {A:Around} {E:Value->Shared->Prop} {s:Shared}
theorem bf' (s:Shared):s.TypeIs .none "NoneType":=rfl
theorem dY' {Q:Int->Shared->Prop} (h:Q 0xFCA86420 { s with toks:=s.toks+1 }):wpAny (model prog w) A (pyHash .none) Q E s:=by
 unfold pyHash
 have hv:[Value.none].any Value.onHeap=false:=rfl
 refine aa ?_
 rw[cRoomFor,if_neg (by rw[hv];exact ap)];refine af ?_
 refine aa (cu (bf' s) F.slot_NoneType_hash.lookup ?_)
 show wpAny _ _ (if(some (Value.builtin "NoneType.__hash__") == some Value.none)=true then _ else _) Q E s
 rw[if_neg (by rw[beq_builtin_none];exact ap)]
 refine aa (cu (bf' s) F.slot_NoneType_hash.lookup ?_)
 show wpAny _ _ (callSpecialIfBoundUnlessNone? (.none) "__hash__" _ >>= _) Q E s
 refine aa (wpAny_callSpecialIfBoundUnlessNone?_slot (bf' s) F.slot_NoneType_hash
  (bf F.slot_NoneType_hash (bf' s) F.entry_NoneType_hash
   (show wpAny _ _ (do ret (<- mkInt 0xFCA86420)) _ _ s from wpAny_ret_mkInt ?_) (F.args_NoneType_hash_1 _)))
 exact af h
end
inductive Key where
 |inl (i:Int)|inr (x:Str)|non
 deriving DecidableEq
def gg':Key->Value->Bool
 | .inl k,v=>Value.isInt k v
 | .inr x,v=>Value.isStrOf x v
 | .non,.none=>true
 | .non,_=>false
def uC' (w:World):Key->Int
 | .inl k=>hashInt k
 | .inr x=>hashStr w x
 | .non=>0xFCA86420
theorem ay':∀{k:Key} {v:Value},gg' k v=true->(∃i t,k=Key.inl i/\v=Value.int i t)\/(∃x t,k=Key.inr x/\v=Value.str x t)\/(k=Key.non/\v=Value.none)
 | .inl i,v,h=>by
  obtain⟨t,e⟩:=Value.isInt_shape (k:=i) (v:=v) h
  exact .inl ⟨i,t,rfl,e⟩
 | .inr x,v,h=>by
  obtain⟨t,e⟩:=Value.isStrOf_shape (x:=x) (v:=v) h
  exact .inr (.inl ⟨x,t,rfl,e⟩)
 | .non,v,h=>by cases v<;>first|exact .inr (.inr ⟨rfl,rfl⟩)|cases h
theorem gR' (i:Int) (t:Tok):gg' (.inl i) (.int i t)=true:=by simp[gg',Value.isInt]
theorem gS' (x:Str) (t:Tok):gg' (.inr x) (.str x t)=true:=by simp[gg',Value.isStrOf]
theorem oH' (a b:Int):decide ((Key.inl a:Key)=Key.inl b)=(a == b):=by
 by_cases e:a=b
 .rw[e,decide_eq_true rfl,beq_self_eq_true]
 .rw[decide_eq_false (fun q=>e (Key.inl.inj q)),beq_eq_false_iff_ne.mpr e]
theorem oI' (a b:Str):decide ((Key.inr a:Key)=Key.inr b)=decide (a=b):=by
 by_cases e:a=b
 .rw[e,decide_eq_true rfl,decide_eq_true rfl]
 .rw[decide_eq_false (fun q=>e (Key.inr.inj q)),decide_eq_false e]
theorem da' {a b:Key} (h:a≠b):decide (a=b)=false:=decide_eq_false h
def at' (prog:Program) (w:World):PySem.KeyKind prog w Key where
 is:=gg'
 hash:=uC' w
 inj:=fun v a b ha hb=>by
  rcases ay' ha with⟨i,t,rfl,rfl⟩|⟨x,t,rfl,rfl⟩|⟨rfl,rfl⟩<;>rcases ay' hb with⟨j,u,rfl,e⟩|⟨y,u,rfl,e⟩|⟨rfl,e⟩<;>
   first|rfl|(injection e with e1 _;rw[e1])|exact nomatch e
 byValue:=fun k v h=>by
  rcases ay' h with⟨i,t,rfl,rfl⟩|⟨x,t,rfl,rfl⟩|⟨rfl,rfl⟩<;>rfl
 pyHash:=fun hv h=>by
  rcases ay' hv with⟨i,t,rfl,rfl⟩|⟨x,t,rfl,rfl⟩|⟨rfl,rfl⟩
  .exact wpAny_pyHash_int h
  .exact wpAny_pyHash_str h
  .exact dY' h
 eqBool:=fun {A E s a b u v Q} hu hv h=>by
  rcases ay' hu with⟨i,t,rfl,rfl⟩|⟨x,t,rfl,rfl⟩|⟨rfl,rfl⟩
  .rcases ay' hv with⟨j,u,rfl,rfl⟩|⟨y,u,rfl,rfl⟩|⟨rfl,rfl⟩
   .rw[oH']at h;exact wpAny_eqBool_int h
   .rw[da' (a:=Key.inl i) (b:=Key.inr y) (fun q=>nomatch q)]at h;exact SeqAt.EqAt.int_str i t y u _ _ _ _ h
   .rw[da' (a:=Key.inl i) (b:=Key.non) (fun q=>nomatch q)]at h;exact SeqAt.EqAt.int_none i t _ _ _ _ h
  .rcases ay' hv with⟨j,u,rfl,rfl⟩|⟨y,u,rfl,rfl⟩|⟨rfl,rfl⟩
   .rw[da' (a:=Key.inr x) (b:=Key.inl j) (fun q=>nomatch q)]at h;exact SeqAt.EqAt.str_int x t j u _ _ _ _ h
   .rw[oI']at h;exact wpAny_eqBool_str h
   .rw[da' (a:=Key.inr x) (b:=Key.non) (fun q=>nomatch q)]at h;exact SeqAt.EqAt.str_none x t _ _ _ _ h
  .rcases ay' hv with⟨j,u,rfl,rfl⟩|⟨y,u,rfl,rfl⟩|⟨rfl,rfl⟩
   .rw[da' (a:=Key.non) (b:=Key.inl j) (fun q=>nomatch q)]at h;exact SeqAt.EqAt.none_int j u _ _ _ _ h
   .rw[da' (a:=Key.non) (b:=Key.inr y) (fun q=>nomatch q)]at h;exact SeqAt.EqAt.none_str y u _ _ _ _ h
   .rw[decide_eq_true rfl]at h;exact SeqAt.EqAt.same .none _ _ _ _ h
 «strs»:=fun k x t v h=>by
  rcases ay' h with⟨i,u,rfl,e⟩|⟨y,u,rfl,e⟩|⟨rfl,e⟩
  .exact nomatch e
  .injection e with e1 _
   subst e1
   cases v<;>rfl
  .exact nomatch e
theorem eK' (prog:Program) (w:World) (i:Int) (t:Tok):(at' prog w).is (.inl i) (.int i t)=true:=gR' i t
theorem eL' (prog:Program) (w:World) (x:Str) (t:Tok):(at' prog w).is (.inr x) (.str x t)=true:=gS' x t
inductive V where
 |non|bl (b:Bool)|int (i:Int)|str (x:Str)|byt (b:Array UInt8)|flt (b:UInt64)|ref (a:Addr)|ty (n:String)
 deriving DecidableEq
def as':V->Value->Prop
 | .non,u=>u=Value.none
 | .bl b,u=>u=Value.bool b
 | .int i,u=>∃t,u=Value.int i t
 | .str x,u=>∃t,u=Value.str x t
 | .byt b,u=>∃t,u=Value.bytes b t
 | .flt b,u=>∃t,u=Value.float b t
 | .ref a,u=>u=Value.ref a
 | .ty n,u=>u=Value.type n
abbrev ax':List V->List Value->Prop:=Paired as'
theorem ax'.length {xs:List V} {us:List Value} (r:ax' xs us):xs.length=us.length:=Paired.length r
theorem ax'.get:∀{xs:List V} {us:List Value} {i:Nat} {x:V},ax' xs us->xs[i]?=some x->∃u,us[i]?=some u/\as' x u
 |_,_,_,_,.nil,e=>by simp at e
 |_,_,0,_,.cons r _,e=>by simp at e;subst e;exact⟨_,rfl,r⟩
 |_,_,i+1,x,.cons _ t,e=>by
  obtain⟨u,h1,h2⟩:=ax'.get (i:=i) (x:=x) t (by simpa using e)
  exact⟨u,by simpa using h1,h2⟩
theorem ax'.set {x:V} {u:Value} (r:as' x u):∀{xs:List V} {us:List Value} (i:Nat),ax' xs us->ax' (xs.set i x) (us.set i u)
 |_,_,_,.nil=>.nil
 |_,_,0,.cons _ t=>.cons r t
 |_,_,i+1,.cons q t=>.cons q (ax'.set r i t)
theorem ax'.append:∀{xs ys:List V} {us ws:List Value},ax' xs us->ax' ys ws->ax' (xs++ys) (us++ws)
 |_,_,_,_,.nil,s=>s
 |_,_,_,_,.cons r t,s=>.cons r (ax'.append t s)
theorem ax'.take:∀{xs:List V} {us:List Value} (n:Nat),ax' xs us->ax' (xs.take n) (us.take n)
 |_,_,0,_=>.nil
 |_,_,_+1,.nil=>.nil
 |_,_,n+1,.cons r t=>.cons r (ax'.take n t)
theorem ax'.drop:∀{xs:List V} {us:List Value} (n:Nat),ax' xs us->ax' (xs.drop n) (us.drop n)
 |_,_,0,r=>r
 |_,_,_+1,.nil=>.nil
 |_,_,n+1,.cons _ t=>ax'.drop n t
def lb':Option V->Option Value->Prop
 |some v,some u=>as' v u
 |none,none=>True
 |_,_=>False
def KV {κ:Type}:List (κ×V)->List (κ×Value)->Prop:=Paired fun(p:κ×V) (q:κ×Value)=>p.1=q.1/\as' p.2 q.2
def kV:Key->V
 | .inl i=>.int i
 | .inr x=>.str x
 | .non=>.non
inductive HO where
 |lst (xs:List V)
 |tup (xs:List V)
 |dK (kvs:List (Key×V))|dT (kvs:List (List Key×V))
 |set (S:Int->Bool) (n:Nat)
 |ins (C dx:Addr) (fs:List (Str×V))
 |own (x:Addr)
 |xd (fs:List (Str×V))
 |met (f x:Addr)
 |rng (lo hi:Int)
 |frz (o:Obj) (u:HO)
 |tbl (ps:Array Value)
 |ext (φ:Heap->Prop)
abbrev Hp:=Addr->Option HO
def upd (H:Hp) (a:Addr) (o:HO):Hp:=fun b=>if b=a then some o else H b
theorem aa' {H:Hp} {a:Addr} {o:HO}:upd H a o a=some o:=by unfold upd;rw[if_pos rfl]
theorem ac' {H:Hp} {a b:Addr} {o:HO} (h:b≠a):upd H a o b=H b:=by unfold upd;rw[if_neg h]
theorem eM' {H:Hp} {a:Addr} {o u:HO}:upd (upd H a o) a u=upd H a u:=by
 funext b;unfold upd;split<;>rfl
theorem sd' {H:Hp} {a b:Addr} {o u:HO} (h:H a=some o) (h':H b=some u) (d:o≠u):a≠b:=by
 intro e;subst e;rw[h]at h';exact d (Option.some.inj h')
theorem ae' {H:Hp} {a b:Addr} {o:HO} (h:H a=some o) (h':H b=none):a≠b:=by
 intro e;subst e;rw[h]at h';cases h'
def lc' (h:Heap) (a:Addr) (items:Array Value):Prop:=∃o,h.get? a=some o/\o.cls=.type "tuple"/\(∃n,o.data=.seq items n)/\o.dict=none
theorem lc'.tup {h:Heap} {a:Addr} {items:Array Value} (x:lc' h a items):IsTup h a items:=let⟨o,e,c,⟨n,d⟩,_⟩:=x;⟨o,e,c,n,d⟩
theorem lc'.new (h:Heap) (items:Array Value):lc' (h.push { cls:=.type "tuple",data:=.seq items }) h.objs.size items:=⟨_,aw _ rfl,rfl,⟨_,rfl⟩,rfl⟩
section
variable (P:Program) (w:World)
def aF' (H:Hp) (h:Heap) (a:Addr):HO->Prop
 | .lst xs=>xs.length<=sizeLine/\∃(its:List Value) (n:Nat),ax' xs its/\h.get? a=some { cls:=.type "list",data:=.seq its.toArray n }
 | .tup xs=>xs.length<=sizeLine/\∃its:List Value,ax' xs its/\lc' h a its.toArray
 | .dK kvs=>kvs.length<=sizeLine/\(a == sysModules)=false/\∃vs,KV kvs vs/\h.DictOf (at' P w) a vs
 | .dT kvs=>kvs.length<=sizeLine/\(a == sysModules)=false/\∃xs:List (List Key×Addr×Value),
   Paired (fun(p:List Key×V) (q:List Key×Addr×Value)=>p.1=q.1/\H q.2.1=some (.tup (p.1.map kV))/\as' p.2 q.2.2) kvs xs/\
   ∃o es ep,h.get? a=some o/\o.ExactDict/\o.data=.dict es ep/\es.toList=xs.map (entryOfKey (tupleKind (at' P w)))/\(xs.map (·.1)).Nodup
 | .set S n=>h.SetOf (intKind P w) a S n
 | .ins C dx fs=>H dx=some (.own a)/\fs.length<=1000/\dx≠a/\h.get? a=some (W.instObj C dx)/\
   ∃mA,h.Ns1 dx mA/\(∀f,lb' (fs.lookup f) (mA f))/\PySem.Within mA (fs.map (·.1))
 | .own _=>∃o,h.get? a=some o
 | .xd fs=>∃mA,h.Ns1 a mA/\∀f,lb' (fs.lookup f) (mA f)
 | .rng lo hi=>∃t u v,h.get? a=some { cls:=.type "range",data:=.fields #[.int lo t,.int hi u,.int 1 v] }
 | .frz o u=>h.get? a=some o/\aF' H h a u
 | .tbl ps=>h.get? a=some { cls:=.none,data:=.fields ps }
 | .met f x=>h.get? a=some (W.methodObj (.ref f) (.ref x))
 | .ext φ=>φ h/\(∃o,h.get? a=some o)/\∀h1 h2:Heap,φ h1->(∀o,h1.get? a=some o->h2.get? a=some o)->φ h2
def HOk (H:Hp) (h:Heap):Prop:=∀a o,H a=some o->aF' P w H h a o
end
section
variable {P:Program} {w:World} {H H':Hp} {h h':Heap} {a:Addr} {o:HO}
theorem aF'.lt (x:aF' P w H h a o):a<h.objs.size:=by
 cases o with
 |lst xs=>obtain⟨_,_,_,_,e⟩:=x;exact az e
 |tup xs=>obtain⟨_,_,_,p⟩:=x;exact p.tup.lt
 |dK kvs=>obtain⟨_,_,_,_,o,_,_,e,_⟩:=x;exact az e
 |dT kvs=>obtain⟨_,_,_,_,o,_,_,e,_⟩:=x;exact az e
 |set S n=>obtain⟨o,_,_,_,e,_⟩:=x;exact az e
 |ins C dx fs=>obtain⟨_,_,_,e,_⟩:=x;exact az e
 |own y=>obtain⟨_,e⟩:=x;exact az e
 |xd fs=>obtain⟨_,⟨_,_,_,e,_⟩,_⟩:=x;exact az e
 |rng lo hi=>obtain⟨_,_,_,e⟩:=x;exact az e
 |frz ob u=>obtain⟨e,_⟩:=x;exact az e
 |tbl ps=>exact az (show h.get? a=some _ from x)
 |met f y=>exact az (show h.get? a=some _ from x)
 |ext φ=>obtain⟨_,⟨_,e⟩,_⟩:=x;exact az e
theorem Paired.mapP {α β:Type} {F G:α->β->Prop}:∀{l₁:List α} {l₂:List β},Paired F l₁ l₂->(∀a b,F a b->G a b)->Paired G l₁ l₂
 |_,_,.nil,_=>.nil
 |_,_,.cons r t,f=>.cons (f _ _ r) (Paired.mapP t f)
theorem aF'.stay (x:aF' P w H h a o) (k:∀b u,(b=a\/H b=some (.own a))->h.get? b=some u->h'.get? b=some u)
  (ho:∀b,H b=some (.own a)->H' b=some (.own a)) (ht:∀b xs,H b=some (.tup xs)->H' b=some (.tup xs)):aF' P w H' h' a o:=by
 induction o with
 |lst xs=>obtain⟨z,its,n,r,e⟩:=x;exact⟨z,its,n,r,k _ _ (.inl rfl) e⟩
 |tup xs=>obtain⟨z,its,r,ob,e,c⟩:=x;exact⟨z,its,r,ob,k _ _ (.inl rfl) e,c⟩
 |dK kvs=>obtain⟨z,y,vs,r,ob,es,ep,e,c⟩:=x;exact⟨z,y,vs,r,ob,es,ep,k _ _ (.inl rfl) e,c⟩
 |dT kvs=>
  obtain⟨z,y,xs,r,ob,es,ep,e,c⟩:=x
  exact⟨z,y,xs,Paired.mapP r fun p q z=>⟨z.1,ht _ _ z.2.1,z.2.2⟩,ob,es,ep,k _ _ (.inl rfl) e,c⟩
 |set S n=>obtain⟨ob,es,ep,t,e,c⟩:=x;exact⟨ob,es,ep,t,k _ _ (.inl rfl) e,c⟩
 |ins C dx fs=>
  obtain⟨d,z,ne,e,mA,⟨od,es,ep,e2,c⟩,r⟩:=x
  exact⟨ho _ d,z,ne,k _ _ (.inl rfl) e,mA,⟨od,es,ep,k _ _ (.inr d) e2,c⟩,r⟩
 |own y=>obtain⟨ob,e⟩:=x;exact⟨ob,k _ _ (.inl rfl) e⟩
 |xd fs=>obtain⟨mA,⟨od,es,ep,e,c⟩,r⟩:=x;exact⟨mA,⟨od,es,ep,k _ _ (.inl rfl) e,c⟩,r⟩
 |rng lo hi=>obtain⟨t,u,v,e⟩:=x;exact⟨t,u,v,k _ _ (.inl rfl) e⟩
 |frz ob u ih=>obtain⟨e,q⟩:=x;exact⟨k _ _ (.inl rfl) e,ih q⟩
 |tbl ps=>
  have e:h.get? a=some { cls:=.none,data:=.fields ps }:=x
  show h'.get? a=some { cls:=.none,data:=.fields ps }
  exact k a _ (.inl rfl) e
 |met f y=>
  have e:h.get? a=some (W.methodObj (.ref f) (.ref y)):=x
  show h'.get? a=some (W.methodObj (.ref f) (.ref y))
  exact k a _ (.inl rfl) e
 |ext φ=>obtain⟨p,⟨o,e⟩,st⟩:=x;exact⟨st _ _ p fun o q=>k _ _ (.inl rfl) q,⟨o,k _ _ (.inl rfl) e⟩,st⟩
theorem HOk.lt (x:HOk P w H h) (e:H a=some o):a<h.objs.size:=(x a o e).lt
theorem HOk.fresh (x:HOk P w H h) (e:h.objs.size<=a):H a=none:=by
 cases q:H a with
 |none=>rfl
 |some u=>exact absurd (ag (x.lt q) e) (bn _)
theorem HOk.kept (x:HOk P w H h) (k:∀b u,h.get? b=some u->h'.get? b=some u):HOk P w H h':=fun a o e=>
 (x a o e).stay (fun b u _ q=>k b u q) (fun _ q=>q) fun _ _ q=>q
theorem HOk.laid (x:HOk P w H h) (k:∀b u,h.get? b=some u->h'.get? b=some u) (hp:h.objs.size<=a) (new:aF' P w (upd H a o) h' a o):HOk P w (upd H a o) h':=fun b u e=>by
 have hn:=x.fresh hp
 by_cases hb:b=a
 .subst hb;rw[aa']at e;cases e;exact new
 .rw[ac' hb]at e
  exact(x b u e).stay (fun c v _ q=>k c v q) (fun c q=>by rw[ac' (ae' q hn)];exact q) fun c xs q=>by rw[ac' (ae' q hn)];exact q
end
def Rd (H:Hp) (a:Addr) (u:HO):Prop:=H a=some u\/∃o,H a=some (.frz o u)
theorem Rd.ok {P:Program} {w:World} {H:Hp} {h:Heap} {a:Addr} {u:HO} (r:Rd H a u) (x:HOk P w H h):aF' P w H h a u:=by
 rcases r with r|⟨o,r⟩
 .exact x a u r
 .obtain⟨_,q⟩:=x a _ r
  exact q
def Mut:Option HO->Prop
 |some (.lst _)=>True
 |some (.dK _)=>True
 |some (.dT _)=>True
 |some (.set _ _)=>True
 |some (.ins _ _ _)=>True
 |some (.ext _)=>True
 |_=>False
section
variable {P:Program} {w:World} {H:Hp} {h h':Heap} {x e:Addr} {o':HO}
theorem HOk.write (ok:HOk P w H h) (mu:Mut (H x)) (he:e=x\/H e=some (.own x)) (k:∀b u,b≠e->h.get? b=some u->h'.get? b=some u) (heo:∃u,h'.get? e=some u)
  (new:aF' P w (upd H x o') h' x o'):HOk P w (upd H x o') h':=fun b u q=>by
 have nown:∀c y,H c=some (.own y)->c≠x:=fun c y r z=>by subst z;rw[r]at mu;exact mu
 have ntup:∀c xs,H c=some (.tup xs)->c≠x:=fun c xs r z=>by subst z;rw[r]at mu;exact mu
 by_cases hb:b=x
 .subst hb;rw[aa']at q;cases q;exact new
 .rw[ac' hb]at q
  by_cases hbe:b=e
  .have q':H b=some (.own x):=by
    rcases he with z|z
    .exact absurd (hbe.trans z) hb
    .rw[hbe];exact z
   rw[q]at q';cases q'
   obtain⟨v,hv⟩:=heo
   exact⟨v,by rw[hbe];exact hv⟩
  .refine(ok b u q).stay (fun c v hc r=>k c v ?_ r) (fun c r=>by rw[ac' (nown c b r)];exact r) fun c xs r=>by rw[ac' (ntup c xs r)];exact r
   rcases hc with rfl|hc
   .exact hbe
   .rintro rfl
    rcases he with z|z
    .exact nown c b hc z
    .rw[hc]at z;cases z;exact hb rfl
end
structure Un (fs ex:List Addr) (H H':Hp) (h h':Heap):Prop where
 keep:∀b o,h.get? b=some o->H b=none->b∉fs->b∉ex->h'.get? b=some o
 slot:∀b o,h.get? b=some o->H b=none->b∈fs->b∉ex->∃sl,h'.get? b=some { o with slots:=sl }
 free:∀b o,h.get? b=some o->H b=none->b∉ex->H' b=none
 there:∀b o,h.get? b=some o->b∉ex->∃o',h'.get? b=some o'
 tups:∀b xs,H b=some (.tup xs)->H' b=some (.tup xs)
 frzs:∀b o u,H b=some (.frz o u)->H' b=some (.frz o u)
 tbls:∀b ps,H b=some (.tbl ps)->∃more,H' b=some (.tbl (ps++more))
section
variable {fs fs' ex ex':List Addr} {H H1 H2:Hp} {h h1 h2 h':Heap} {a x e:Addr} {o:HO}
theorem Un.any (u:Un fs ex H H1 h h1) {b:Addr} {ob:Obj} (q:h.get? b=some ob) (n:H b=none) (hx:b∉ex):∃sl,h1.get? b=some { ob with slots:=sl }:=by
 by_cases hb:b∈fs
 .exact u.slot b ob q n hb hx
 .exact⟨ob.slots,u.keep b ob q n hb hx⟩
theorem Un.kept (k:∀b u,h.get? b=some u->h'.get? b=some u):Un fs ex H H h h':=
 ⟨fun b ob q _ _ _=>k b ob q,fun b ob q _ _ _=>⟨ob.slots,k b ob q⟩,fun _ _ _ n _=>n,fun b ob q _=>⟨ob,k b ob q⟩,fun _ _ q=>q,fun _ _ _ q=>q,fun _ ps q=>⟨#[],by rw[q];simp⟩⟩
theorem Un.refl:Un fs ex H H h h:=Un.kept fun _ _ q=>q
theorem Un.laid (k:∀b u,h.get? b=some u->h'.get? b=some u) (hp:h.objs.size<=a) (hn:H a=none):Un fs ex H (upd H a o) h h' where
 keep:=fun b u q _ _ _=>k b u q
 slot:=fun b u q _ _ _=>⟨u.slots,k b u q⟩
 free:=fun b u q n _=>by rw[ac' (aB (ag (az q) hp))];exact n
 there:=fun b u q _=>⟨u,k b u q⟩
 tups:=fun b xs q=>by rw[ac' (ae' q hn)];exact q
 frzs:=fun b u xs q=>by rw[ac' (ae' q hn)];exact q
 tbls:=fun b ps q=>⟨#[],by rw[ac' (ae' q hn),q];simp⟩
theorem Un.write (mu:Mut (H x)) (he:e=x\/H e=some (.own x)) (k:∀b u,b≠e->h.get? b=some u->h'.get? b=some u) (heo:∃u,h'.get? e=some u):Un fs ex H (upd H x o) h h':=by
 have hx:∀b,H b=none->b≠x:=fun b n z=>by subst z;rw[n]at mu;exact mu
 have hb:∀b,H b=none->b≠e:=fun b n z=>by
  subst z
  rcases he with r|r
  .exact hx b n r
  .rw[n]at r;cases r
 have hm:∀b u,H b=some u->¬Mut (some u)->b≠x:=fun b u q nm z=>by subst z;rw[q]at mu;exact nm mu
 refine⟨fun b u q n _ _=>k b u (hb b n) q,fun b u q n _ _=>⟨u.slots,k b u (hb b n) q⟩,fun b u q n _=>by rw[ac' (hx b n)];exact n,fun b u q _=>?_,
  fun b xs q=>by rw[ac' (hm b _ q fun z=>z)];exact q,fun b u xs q=>by rw[ac' (hm b _ q fun z=>z)];exact q,fun b ps q=>⟨#[],by rw[ac' (hm b _ q fun z=>z),q];simp⟩⟩
 by_cases hbe:b=e
 .subst hbe;exact heo
 .exact⟨u,k b u hbe q⟩
end
def trk (h:Heap) (H:Hp):List Addr:=(aH h.objs.size).filter fun a=>(H a).isSome
def jD' (h:Heap) (H:Hp):Heap:=W.hideAll h (trk h H)
theorem gT' (h:Heap) (H:Hp):(jD' h H).objs.size=h.objs.size:=W.hideAll_size _ _
theorem jE' {h:Heap} {H:Hp} {b:Addr} {o:Obj} (e:h.get? b=some o) (n:H b=none):(jD' h H).get? b=some o:=
 W.hideAll_get _ e fun hm=>by
  have q:(H b).isSome=true:=(List.mem_filter.mp hm).2
  rw[n]at q;simp at q
theorem mM' {h:Heap} {H:Hp} {b:Addr} {o:Obj} (e:(jD' h H).get? b=some o):h.get? b=some o/\H b=none:=by
 have e':h.get? b=some o:=W.of_hideAll (trk h H) e
 refine⟨e',?_⟩
 cases q:H b with
 |none=>rfl
 |some x=>
  have hm:b∈trk h H:=List.mem_filter.mpr ⟨aT.mpr (az e'),by simp[q]⟩
  have z:(jD' h H).get? b=none:=W.hideAll_none (trk h H) hm
  rw[z]at e;cases e
def mN' (g h:Heap) (L:Addr):List (Addr×Obj):=(aH h.objs.size).filterMap fun a=>if a=L\/(g.get? a).isSome=true then none else(h.get? a).map fun o=>(a,o)
def a5' (g h:Heap) (L d:Addr):List (Addr×Obj):=(mN' g h L).filter fun p=>decide (p.1≠d)
structure Mod (K:W.Frag) (mg:Str->Option Value) (base:Heap):Prop where
 kin:K.In base
 glob:base.Ns mainGlobals mg
 blt:∃mb,base.Ns builtinsNs mb/\∀x:Str,x≠"__name__"->mb x=bootBuiltins x
 nolimit:base.NoLimit
set_option genInjectivity false
structure Cx where
 prog:Program
 w:World
 K:W.Frag
 mg:Str->Option Value
 base:Heap
 A:Around
 N:List Str
 s₀:Shared
 H₀:Hp
 env:Env
 outer:List Env
 stack:List Env
 ex:List Addr
 fn:Str->Bool
 calm:Bool
 pn:List (Addr×Obj)
 xe:Value->Shared->Prop
set_option genInjectivity true
def frs (l:List Env):List Addr:=l.filterMap (·.frame)
abbrev Cx.fs (X:Cx):List Addr:=frs X.outer
def Vis (sc:Scope) (x:Str):Prop:=sc.names.lookup x=some .local\/sc.names.lookup x=some .cell\/sc.names.lookup x=some .free
def Loc (sc:Scope) (x:Str):Prop:=sc.names.lookup x=some .local\/sc.names.lookup x=some .cell
def uD' (env:Env) (h:Heap) (m:Str->Option Value) (x:Str) (u:Value):Prop:=
 (env.kindOf x=some .local/\m x=some u)\/((env.kindOf x=some .cell\/env.kindOf x=some .free)/\∃c,env.cells.lookup x=some c/\h.IsCell c (some u))
structure Cx.Ok (X:Cx):Prop where
 mod:Mod X.K X.mg X.base
 kind:X.env.scope.kind=.function
 glob:X.env.globals=mainGlobals
 blt:X.env.builtins=builtinsNs
 above:X.s₀.heap.objs.size<=X.env.locals
 inj:∀x y c,X.env.cells.lookup x=some c->X.env.cells.lookup y=some c->x=y
 has:∀x,(X.env.kindOf x=some .cell\/X.env.kindOf x=some .free)->∃c,X.env.cells.lookup x=some c
 cab:∀x c,X.fn x=true->X.env.cells.lookup x=some c->X.s₀.heap.objs.size<=c
 hd:X.calm=true->X.A.handled=none
 frames:X.A.frames=some X.stack
 stk:X.stack=X.outer\/(X.stack=X.env :: X.outer/\X.env.frame=some X.env.locals)
 exf:∀b∈X.ex,b≠X.env.locals/\∀x c,X.env.cells.lookup x=some c->c≠b
 bs:∀b o,X.base.get? b=some o->X.s₀.heap.get? b=some o/\X.H₀ b=none
 bsz:X.base.objs.size<=X.s₀.heap.objs.size
 noex:∀b o,X.base.get? b=some o->b∉X.ex
 exfs:∀b∈X.ex,b∉X.fs
 funs:X.s₀.heap.FunFrames X.base X.outer
 frf:∀b∈X.fs,X.H₀ b=none
structure Inv (X:Cx) (pins:List (Addr×Obj)) (σ:List (Option V)) (H:Hp) (s:Shared):Prop where
 ok:X.Ok
 os:s.os=X.s₀.os
 bare:AllBare s.gens
 base:Un X.fs X.ex X.H₀ H X.s₀.heap s.heap
 loc:∃m,s.heap.Ns X.env.locals m/\∀(i:Nat) (x:Str) (v:V),X.N[i]?=some x->σ[i]?=some (some v)->Vis X.env.scope x->∃u,as' v u/\uD' X.env s.heap m x u
 cell:∀x c,X.env.cells.lookup x=some c->∃v,s.heap.IsCell c v
 free:H X.env.locals=none
 freeC:∀x c,X.env.cells.lookup x=some c->H c=none
 pin:∀p∈X.pn++pins,s.heap.get? p.1=some p.2/\H p.1=none/\p.1≠X.env.locals/\p.1∉X.fs/\∀v,p.2.data≠.cell v
 hok:HOk X.prog X.w H s.heap
 len:σ.length=X.N.length
section
variable {X:Cx} {pins:List (Addr×Obj)} {σ:List (Option V)} {H H':Hp} {s:Shared} {h':Heap}
theorem Cx.Ok.nofr (ok:X.Ok) {b:Addr} {o:Obj} (e:X.base.get? b=some o):b∉X.fs:=fun hb=>by
 have:=(ok.funs.mem hb).1
 rw[e]at this;cases this
theorem Inv.bs (I:Inv X pins σ H s):∀b o,X.base.get? b=some o->s.heap.get? b=some o/\H b=none:=fun b o e=>
 ⟨I.base.keep b o (I.ok.bs b o e).1 (I.ok.bs b o e).2 (I.ok.nofr e) (I.ok.noex b o e),I.base.free b o (I.ok.bs b o e).1 (I.ok.bs b o e).2 (I.ok.noex b o e)⟩
theorem Inv.bk (I:Inv X pins σ H s):∀b o,X.base.get? b=some o->s.heap.get? b=some o:=fun b o e=>(I.bs b o e).1
theorem Inv.mod (I:Inv X pins σ H s):Mod X.K X.mg X.base:=I.ok.mod
theorem Inv.kIn (I:Inv X pins σ H s):X.K.In s.heap:=I.ok.mod.kin.keeps I.bk
theorem Inv.fr (I:Inv X pins σ H s):∃m,Fr X.base X.env.locals s.heap m:=
 let⟨m,hn,_⟩:=I.loc
 ⟨m,hn,I.bk,aS I.ok.bsz I.ok.above⟩
theorem Inv.lt (I:Inv X pins σ H s):X.env.locals<s.heap.objs.size:=let⟨_,hn,_⟩:=I.loc;hn.lt
theorem Inv.sz (I:Inv X pins σ H s):X.s₀.heap.objs.size<=s.heap.objs.size:=aS I.ok.above (br I.lt)
theorem Inv.nofs (I:Inv X pins σ H s) {a:Addr} (h:s.heap.objs.size<=a):a∉X.fs:=fun hb=>by
 obtain⟨_,o,ho,_⟩:=I.ok.funs.mem hb
 exact absurd (ag (az ho) (aS I.sz h)) (bn _)
theorem Inv.cne (I:Inv X pins σ H s):∀x c,X.env.cells.lookup x=some c->c≠X.env.locals:=fun x c e z=>by
 obtain⟨v,o,ho,hd⟩:=I.cell x c e
 obtain⟨m,⟨o',es,ep,ho',hd',_⟩,_⟩:=I.loc
 rw[z,ho']at ho;cases ho;rw[hd']at hd;cases hd
theorem Inv.funs (I:Inv X pins σ H s):s.heap.FunFrames X.base X.outer:=by
 have all:∀(l:List Env),(∀b∈frs l,b∈X.fs)->X.s₀.heap.FunFrames X.base l->s.heap.FunFrames X.base l:=by
  intro l
  induction l with
  |nil=>intro _ _;trivial
  |cons env r ih=>
   intro hs hl
   obtain⟨hk,⟨L,o,hf,hn,ho,hd⟩,hr⟩:=hl
   have hL:L∈X.fs:=hs L (by unfold frs;rw[bN,hf];exact aA)
   obtain⟨sl,e⟩:=I.base.slot L o ho (I.ok.frf L hL) hL fun z=>I.ok.exfs L z hL
   exact⟨hk,⟨L,_,hf,hn,e,hd⟩,ih (fun b hb=>hs b (by unfold frs;rw[bN,hf];exact ao _ hb)) hr⟩
 exact all X.outer (fun _ hb=>hb) I.ok.funs
theorem Inv.stack (I:Inv X pins σ H s):s.heap.FunFrames X.base X.stack:=by
 rcases I.ok.stk with e|⟨e,hf⟩
 .rw[e];exact I.funs
 .rw[e]
  obtain⟨m,hn,_⟩:=I.loc
  refine .cons (by rw[I.ok.kind];decide) hf hn ?_ I.funs
  exact Heap.get?_none_of_le (aS I.ok.bsz I.ok.above)
theorem Inv.stkSub (I:Inv X pins σ H s):∀b∈frs X.stack,b∈X.env.locals :: X.fs:=fun b hb=>by
 rcases I.ok.stk with e|⟨e,hf⟩
 .rw[e]at hb;exact ao _ hb
 .rw[e]at hb
  unfold frs at hb
  rw[bN,hf]at hb
  exact hb
theorem Inv.stkFree (I:Inv X pins σ H s):∀b∈frs X.stack,H b=none:=fun b hb=>by
 rcases aq.mp (I.stkSub b hb)with e|hb
 .rw[e];exact I.free
 .obtain⟨_,o,ho,_⟩:=I.ok.funs.mem hb
  exact I.base.free b o ho (I.ok.frf b hb) fun z=>I.ok.exfs b z hb
theorem Inv.step {g':Array GenState} {t':Nat} {d':Drawn} {ch:List Addr} (I:Inv X pins σ H s)
  (hch:∀b∈ch,(b∈X.ex\/X.s₀.heap.objs.size<=b)/\b≠X.env.locals/\(∀x c,X.env.cells.lookup x=some c->c≠b)/\∀p∈X.pn++pins,p.1≠b)
  (keep:∀b o,b≠X.env.locals->b∉X.fs->b∉ch->s.heap.get? b=some o->H b=none->h'.get? b=some o)
  (slot:∀b o,b≠X.env.locals->b∈X.fs->b∉ch->s.heap.get? b=some o->H b=none->∃sl,h'.get? b=some { o with slots:=sl }) (free:∀b o,b∉ch->s.heap.get? b=some o->H b=none->H' b=none)
  (there:∀b o,b∉ch->s.heap.get? b=some o->∃o',h'.get? b=some o')
  (tups:∀b xs,H b=some (.tup xs)->H' b=some (.tup xs)) (frzs:∀b o u,H b=some (.frz o u)->H' b=some (.frz o u)) (tbls:∀b ps,H b=some (.tbl ps)->∃more,H' b=some (.tbl (ps++more)))
  (ns:∀m,s.heap.Ns X.env.locals m->h'.Ns X.env.locals m) (hok:HOk X.prog X.w H' h') (hg:AllBare g'):
  Inv X pins σ H' { s with heap:=h',gens:=g',drawn:=d',toks:=t' }:=by
 have neL:∀b o,X.s₀.heap.get? b=some o->b≠X.env.locals:=fun b o e=>aB (ag (az e) I.ok.above)
 have neC:∀b o,X.s₀.heap.get? b=some o->b∉X.ex->b∉ch:=fun b o e hx hb=>by
  rcases(hch b hb).1 with z|z
  .exact hx z
  .exact absurd (ag (az e) z) (bn _)
 have cellK:∀x c,X.env.cells.lookup x=some c->∀v,s.heap.IsCell c v->h'.IsCell c v:=fun x c e v ⟨o,ho,hd⟩=>by
  have nch:c∉ch:=fun z=>(hch c z).2.2.1 x c e rfl
  by_cases hc:c∈X.fs
  .obtain⟨sl,q⟩:=slot c o (I.cne x c e) hc nch ho (I.freeC x c e)
   exact⟨_,q,hd⟩
  .exact⟨o,keep c o (I.cne x c e) hc nch ho (I.freeC x c e),hd⟩
 refine⟨I.ok,I.os,hg,⟨fun b o e n hb hx=>?_,fun b o e n hb hx=>?_,fun b o e n hx=>?_,fun b o e hx=>?_,fun b xs e=>tups b xs (I.base.tups b xs e),fun b o xs e=>frzs b o xs (I.base.frzs b o xs e),fun b ps e=>?_⟩,?_,fun x c e=>?_,?_,fun x c e=>?_,fun p hp=>?_,hok,I.len⟩
 .exact keep b o (neL b o e) hb (neC b o e hx) (I.base.keep b o e n hb hx) (I.base.free b o e n hx)
 .obtain⟨sl,e1⟩:=I.base.slot b o e n hb hx
  obtain⟨sl',e2⟩:=slot b _ (neL b o e) hb (neC b o e hx) e1 (I.base.free b o e n hx)
  exact⟨sl',e2⟩
 .obtain⟨o',e1⟩:=I.base.there b o e hx
  exact free b o' (neC b o e hx) e1 (I.base.free b o e n hx)
 .obtain⟨o',e1⟩:=I.base.there b o e hx
  exact there b o' (neC b o e hx) e1
 .obtain⟨m1,e1⟩:=I.base.tbls b ps e
  obtain⟨m2,e2⟩:=tbls b _ e1
  exact⟨m1++m2,by rw[e2,Array.append_assoc]⟩
 .obtain⟨m,hn,hl⟩:=I.loc
  refine⟨m,ns m hn,fun i x v e1 e2 e3=>?_⟩
  obtain⟨u,r,l⟩:=hl i x v e1 e2 e3
  refine⟨u,r,?_⟩
  rcases l with l|⟨k,c,e,z⟩
  .exact .inl l
  .exact .inr ⟨k,c,e,cellK x c e _ z⟩
 .obtain⟨v,z⟩:=I.cell x c e
  exact⟨v,cellK x c e v z⟩
 .obtain⟨m,⟨o,_,_,ho,_⟩,_⟩:=I.loc
  exact free _ o (fun z=>(hch _ z).2.1 rfl) ho I.free
 .obtain⟨v,o,ho,hd⟩:=I.cell x c e
  exact free c o (fun z=>(hch c z).2.2.1 x c e rfl) ho (I.freeC x c e)
 .obtain⟨e,n,ne,nf,d⟩:=I.pin p hp
  have nch:p.1∉ch:=fun z=>(hch p.1 z).2.2.2 p hp rfl
  exact⟨keep p.1 p.2 ne nf nch e n,free p.1 p.2 nch e n,ne,nf,d⟩
theorem Inv.un {t':Nat} (I:Inv X pins σ H s) (u:Un X.fs [] H H' s.heap h') (hok:HOk X.prog X.w H' h'):Inv X pins σ H' { s with heap:=h',toks:=t' }:=by
 obtain⟨m,⟨o,es,ep,ho,r⟩,_⟩:=id I.loc
 obtain⟨sl,hL⟩:=u.any ho I.free (by simp)
 exact I.step (g':=s.gens) (d':=s.drawn) (ch:=[]) (fun _ z=>nomatch z) (fun b o _ hb _ e n=>u.keep b o e n hb (by simp)) (fun b o _ hb _ e n=>u.slot b o e n hb (by simp)) (fun b o _ e n=>u.free b o e n (by simp)) (fun b o _ e=>u.there b o e (by simp)) u.tups u.frzs u.tbls (fun m' hm=>by
  obtain⟨o',es',ep',ho',r'⟩:=hm
  rw[ho]at ho';cases ho'
  exact⟨_,es',ep',hL,r'⟩) hok I.bare
theorem Inv.call {g':Array GenState} {t':Nat} {d':Drawn} {ch:List Addr} (I:Inv X pins σ H s) (u:Un (frs X.stack) ch H H' s.heap h') (hok:HOk X.prog X.w H' h') (hg:AllBare g')
  (hch:∀b∈ch,(b∈X.ex\/X.s₀.heap.objs.size<=b)/\b≠X.env.locals/\(∀x c,X.env.cells.lookup x=some c->c≠b)/\∀p∈X.pn++pins,p.1≠b):
  Inv X pins σ H' { s with heap:=h',gens:=g',drawn:=d',toks:=t' }:=by
 obtain⟨m,⟨o,es,ep,ho,r⟩,_⟩:=id I.loc
 obtain⟨sl,hL⟩:=u.any ho I.free fun z=>(hch _ z).2.1 rfl
 exact I.step (ch:=ch) hch (fun b o hL hb hc e n=>u.keep b o e n (fun z=>(aq.mp (I.stkSub b z)).elim hL hb) hc) (fun b o _ _ hc e n=>u.any e n hc) (fun b o hc e n=>u.free b o e n hc) (fun b o hc e=>u.there b o e hc) u.tups u.frzs u.tbls (fun m' hm=>by
  obtain⟨o',es',ep',ho',r'⟩:=hm
  rw[ho]at ho';cases ho'
  exact⟨_,es',ep',hL,r'⟩) hok hg
theorem Inv.turned {t':Nat} {it:Addr} (I:Inv X pins σ H s) (k:∀b o,b≠it->s.heap.get? b=some o->h'.get? b=some o) (hn:H it=none) (hL:it≠X.env.locals)
  (h1:it∈X.ex\/X.s₀.heap.objs.size<=it) (h2:∀x c,X.env.cells.lookup x=some c->c≠it) (h3:∀p∈X.pn++pins,p.1≠it):Inv X pins σ H { s with heap:=h',toks:=t' }:=by
 have nit:∀b u,H b=some u->b≠it:=fun b u e z=>by rw[z,hn]at e;cases e
 refine I.step (g':=s.gens) (d':=s.drawn) (ch:=[it]) (fun b hb=>?_) (fun b o _ _ hc e _=>k b o (fun z=>hc (by simp[z])) e) (fun b o _ _ hc e _=>⟨o.slots,k b o (fun z=>hc (by simp[z])) e⟩) (fun _ _ _ _ n=>n)
  (fun b o hc e=>⟨o,k b o (fun z=>hc (by simp[z])) e⟩) (fun _ _ e=>e) (fun _ _ _ e=>e) (fun b ps e=>⟨#[],by rw[e];simp⟩) (fun m hm=>?_) (fun b u e=>?_) I.bare
 .have e:b=it:=by simpa using hb
  subst e
  exact⟨h1,hL,h2,h3⟩
 .obtain⟨o,es,ep,ho,r⟩:=hm
  exact⟨o,es,ep,k _ o (Ne.symm hL) ho,r⟩
 .refine(I.hok b u e).stay (fun c v hc q=>k c v ?_ q) (fun _ q=>q) fun _ _ q=>q
  rcases hc with z|z
  .rw[z];exact nit b u e
  .exact nit c _ z
theorem Inv.tok (I:Inv X pins σ H s) (t:Nat):Inv X pins σ H { s with toks:=t }:=I.un (h':=s.heap) (t':=t) Un.refl I.hok
theorem Inv.kept {t':Nat} (I:Inv X pins σ H s) (k:∀b u,s.heap.get? b=some u->h'.get? b=some u):Inv X pins σ H { s with heap:=h',toks:=t' }:=I.un (Un.kept k) (I.hok.kept k)
theorem Inv.laid {a:Addr} {o:HO} {t':Nat} (I:Inv X pins σ H s) (k:∀b u,s.heap.get? b=some u->h'.get? b=some u) (hp:s.heap.objs.size<=a) (new:aF' X.prog X.w (upd H a o) h' a o):
  Inv X pins σ (upd H a o) { s with heap:=h',toks:=t' }:=I.un (Un.laid k hp (I.hok.fresh hp)) (I.hok.laid k hp new)
theorem Inv.write {x e:Addr} {o:HO} {t':Nat} (I:Inv X pins σ H s) (mu:Mut (H x)) (he:e=x\/H e=some (.own x)) (k:∀b u,b≠e->s.heap.get? b=some u->h'.get? b=some u) (heo:∃u,h'.get? e=some u)
  (new:aF' X.prog X.w (upd H x o) h' x o):Inv X pins σ (upd H x o) { s with heap:=h',toks:=t' }:=I.un (Un.write mu he k heo) (I.hok.write mu he k heo new)
theorem Inv.weak {σ':List (Option V)} (I:Inv X pins σ H s) (hl:σ'.length=σ.length) (w:∀(i:Nat) v,σ'[i]?=some (some v)->σ[i]?=some (some v)):Inv X pins σ' H s:=
 ⟨I.ok,I.os,I.bare,I.base,let⟨m,hn,hl'⟩:=I.loc;⟨m,hn,fun i x v e1 e2 e3=>hl' i x v e1 (w i v e2) e3⟩,I.cell,I.free,I.freeC,I.pin,I.hok,hl.trans I.len⟩
theorem Inv.pins_of {pins':List (Addr×Obj)} (I:Inv X pins σ H s) (h:∀p∈pins',s.heap.get? p.1=some p.2/\H p.1=none/\p.1≠X.env.locals/\p.1∉X.fs/\∀v,p.2.data≠.cell v):Inv X pins' σ H s:=
 ⟨I.ok,I.os,I.bare,I.base,I.loc,I.cell,I.free,I.freeC,fun p hp=>(al.mp hp).elim (fun z=>I.pin p (aD _ z)) (h p),I.hok,I.len⟩
theorem du' {N:List Str} (hN:N.Nodup) {i j:Nat} {x:Str} (a:N[i]?=some x) (b:N[j]?=some x):i=j:=by
 obtain⟨h1,e1⟩:=av.mp a
 obtain⟨h2,e2⟩:=av.mp b
 exact(List.getElem_inj hN).mp (e1.trans e2.symm)
theorem dZ' {M:Model} {A:Around} {E:Value->Shared->Prop} {i:Nat} {x:Str} {v:V} {u:Value} {Q:Unit->Shared->Prop} (I:Inv X pins σ H s) (hN:X.N.Nodup) (hi:X.N[i]?=some x) (hx:Loc X.env.scope x) (r:as' v u)
  (h:∀s',Inv X pins (σ.set i (some v)) H s'->(∃a,bu a s.heap s'.heap/\(a=X.env.locals\/X.env.cells.lookup x=some a))->Q () s') (hf:X.fn x=true\/X.env.scope.names.lookup x=some .local:=by first|exact .inl rfl|exact .inr rfl|assumption):wpAny M A (storeName X.env x u) Q E s:=by
 obtain⟨m,hn,hl⟩:=id I.loc
 have hcls:(X.env.scope.kind == .class || (X.env.scope.kind == .module&&X.env.locals != X.env.globals))=false:=by rw[I.ok.kind];rfl
 have hiσ:i<σ.length:=by rw[I.len];exact(av.mp hi).1
 have cne:=I.cne
 have tracked:∀{a:Addr} {h':Heap},(∃o,s.heap.get? a=some o/\H a=none)->bu a s.heap h'->HOk X.prog X.w H h':=fun {a h'} ha hs b ob e=>by
  obtain⟨_,_,hfree⟩:=ha
  refine(I.hok b ob e).stay (fun c w' hc q=>(hs.2 c ?_).trans q) (fun _ q=>q) fun _ _ q=>q
  rintro rfl
  rcases hc with rfl|hc
  .rw[hfree]at e;cases e
  .rw[hfree]at hc;cases hc
 rcases hx with hk|hk
 .refine wpAny_storeName_local hk hn (fun h' hn' hs=>?_) hcls
  obtain⟨oL,_,_,hoL,_⟩:=id hn
  refine h _ ⟨I.ok,I.os,I.bare,⟨fun b o e n hb hx=>?_,fun b o e n hb hx=>?_,I.base.free,fun b o e hx=>?_,I.base.tups,I.base.frzs,I.base.tbls⟩,⟨_,hn',fun j y v' e1 e2 e3=>?_⟩,fun y c e=>?_,I.free,I.freeC,fun p hp=>?_,tracked ⟨oL,hoL,I.free⟩ hs,by simpa using I.len⟩ ⟨_,hs,.inl rfl⟩
  .exact(hs.2 b (aB (ag (az e) I.ok.above))).trans (I.base.keep b o e n hb hx)
  .obtain⟨sl,e1⟩:=I.base.slot b o e n hb hx
   exact⟨sl,(hs.2 b (aB (ag (az e) I.ok.above))).trans e1⟩
  .obtain⟨o',e1⟩:=I.base.there b o e hx
   exact⟨o',(hs.2 b (aB (ag (az e) I.ok.above))).trans e1⟩
  .by_cases hj:j=i
   .subst hj
    rw[hi]at e1;cases e1
    rw[List.getElem?_set_self hiσ]at e2
    cases e2
    exact⟨u,r,.inl ⟨hk,by simp⟩⟩
   .rw[bK (Ne.symm hj)]at e2
    obtain⟨u',r',q⟩:=hl j y v' e1 e2 e3
    refine⟨u',r',?_⟩
    rcases q with⟨k,e⟩|⟨k,c,e,z⟩
    .refine .inl ⟨k,?_⟩
     have:y≠x:=fun e=>hj (du' hN e1 (e ▸ hi))
     simp[this,e]
    .exact .inr ⟨k,c,e,z.sameBut hs (cne y c e)⟩
  .obtain⟨w',z⟩:=I.cell y c e
   exact⟨w',z.sameBut hs (cne y c e)⟩
  .obtain⟨e,n,ne,nf,d⟩:=I.pin p hp
   exact⟨(hs.2 p.1 ne).trans e,n,ne,nf,d⟩
 .have hfn:X.fn x=true:=by
   rcases hf with z|z
   .exact z
   .rw[z]at hk;cases hk
  obtain⟨c,hc⟩:=I.ok.has x (.inl hk)
  obtain⟨w',z⟩:=I.cell x c hc
  refine wpAny_storeName_cell I.ok.kind hk hc z (fun h' hc' hs=>?_)
  obtain⟨oc,hoc,hocd⟩:=id z
  refine h { s with heap:=h' } ⟨I.ok,I.os,I.bare,⟨fun b o e n hb hx=>?_,fun b o e n hb hx=>?_,I.base.free,fun b o e hx=>?_,I.base.tups,I.base.frzs,I.base.tbls⟩,⟨m,hn.sameBut hs (Ne.symm (cne x c hc)),fun j y v' e1 e2 e3=>?_⟩,fun y c' e=>?_,I.free,I.freeC,fun p hp=>?_,tracked ⟨oc,hoc,I.freeC x c hc⟩ hs,by simpa using I.len⟩ ⟨c,hs,.inr hc⟩
  .exact(hs.2 b (aB (ag (az e) (I.ok.cab x c hfn hc)))).trans (I.base.keep b o e n hb hx)
  .obtain⟨sl,e1⟩:=I.base.slot b o e n hb hx
   exact⟨sl,(hs.2 b (aB (ag (az e) (I.ok.cab x c hfn hc)))).trans e1⟩
  .obtain⟨o',e1⟩:=I.base.there b o e hx
   exact⟨o',(hs.2 b (aB (ag (az e) (I.ok.cab x c hfn hc)))).trans e1⟩
  .by_cases hj:j=i
   .subst hj
    rw[hi]at e1;cases e1
    rw[List.getElem?_set_self hiσ]at e2
    cases e2
    exact⟨u,r,.inr ⟨.inl hk,c,hc,hc'⟩⟩
   .rw[bK (Ne.symm hj)]at e2
    obtain⟨u',r',q⟩:=hl j y v' e1 e2 e3
    refine⟨u',r',?_⟩
    rcases q with q|⟨k,c',e,z'⟩
    .exact .inl q
    .refine .inr ⟨k,c',e,z'.sameBut hs ?_⟩
     rintro rfl
     exact hj (du' hN e1 (I.ok.inj _ _ _ e hc ▸ hi))
  .by_cases hcc:c'=c
   .subst hcc;exact⟨_,hc'⟩
   .obtain⟨w2,z2⟩:=I.cell y c' e
    exact⟨w2,z2.sameBut hs hcc⟩
  .obtain⟨e,n,ne,nf,d⟩:=I.pin p hp
   refine⟨(hs.2 p.1 ?_).trans e,n,ne,nf,d⟩
   intro q
   rw[q,hoc]at e
   have q':oc=p.2:=Option.some.inj e
   exact d w' (by rw[<- q'];exact hocd)
theorem dv' {M:Model} {A:Around} {E:Value->Shared->Prop} {i:Nat} {x:Str} {v:V} {u:Value} {Q:Unit->Shared->Prop} (I:Inv X pins σ H s) (hN:X.N.Nodup) (hi:X.N[i]?=some x) (hx:Loc X.env.scope x) (r:as' v u)
  (h:∀s',Inv X pins (σ.set i (some v)) H s'->Q () s') (hf:X.fn x=true\/X.env.scope.names.lookup x=some .local:=by first|exact .inl rfl|exact .inr rfl|assumption):wpAny M A (storeName X.env x u) Q E s:=
 dZ' I hN hi hx r (fun s' I' _=>h s' I') hf
theorem Inv.call' {s':Shared} {ch:List Addr} (I:Inv X pins σ H s) (ho:s'.os=s.os) (u:Un (frs X.stack) ch H H' s.heap s'.heap) (hok:HOk X.prog X.w H' s'.heap) (hg:AllBare s'.gens)
  (hch:∀b∈ch,(b∈X.ex\/X.s₀.heap.objs.size<=b)/\b≠X.env.locals/\(∀x c,X.env.cells.lookup x=some c->c≠b)/\∀p∈X.pn++pins,p.1≠b):Inv X pins σ H' s':=by
 obtain⟨h',g',d',t',o'⟩:=s'
 have e:o'=s.os:=ho
 subst e
 exact I.call (g':=g') (t':=t') (d':=d') u hok hg hch
end
abbrev XK:=Value->Option Addr->Hp->Prop
abbrev St:=List (Option V)
abbrev VK:=V->Hp->Prop
abbrev TE:=St->Hp->VK->Prop
abbrev TT:=St->Hp->(Bool->Hp->Prop)->Prop
abbrev TA:=St->Hp->(List V->Hp->Prop)->Prop
structure Ends where
 nx:St->Hp->Prop
 rt:VK
 bk:St->Hp->Prop:=fun _ _=>False
 ct:St->Hp->Prop:=fun _ _=>False
abbrev TS:=Ends->St->Hp->Prop
def EP (X:Cx) (pins:List (Addr×Obj)) (σ:St) (Q:VK) (u:Value) (s':Shared):Prop:=∃v H',Inv X pins σ H' s'/\as' v u/\Q v H'
def TP (X:Cx) (pins:List (Addr×Obj)) (σ:St) (Q:Bool->Hp->Prop) (b:Bool) (s':Shared):Prop:=∃H',Inv X pins σ H' s'/\Q b H'
def AP (X:Cx) (pins:List (Addr×Obj)) (σ:St) (Q:List V->Hp->Prop) (us:List Value) (s':Shared):Prop:=∃vs H',Inv X pins σ H' s'/\ax' vs us/\Q vs H'
def SP (X:Cx) (pins:List (Addr×Obj)) (D:Ends) (f:Flow) (s':Shared):Prop:=
 match f with
 | .next=>∃σ' H',Inv X pins σ' H' s'/\D.nx σ' H'
 | .brk=>∃σ' H',Inv X pins σ' H' s'/\D.bk σ' H'
 | .cont=>∃σ' H',Inv X pins σ' H' s'/\D.ct σ' H'
 | .ret u=>∃v σ' H',Inv X pins σ' H' s'/\as' v u/\D.rt v H'
def PE (X:Cx) (e:Expr) (t:TE):Prop:=
 ∀(pins:List (Addr×Obj)) (s:Shared) (σ:St) (H:Hp) (Q:VK),Inv X pins σ H s->t σ H Q->wpAny (model X.prog X.w) X.A (eval e X.env) (EP X pins σ Q) X.xe s
def PT (X:Cx) (e:Expr) (t:TT):Prop:=
 ∀(pins:List (Addr×Obj)) (s:Shared) (σ:St) (H:Hp) (Q:Bool->Hp->Prop),Inv X pins σ H s->t σ H Q->wpAny (model X.prog X.w) X.A (isTrue e X.env (eval e X.env)) (TP X pins σ Q) X.xe s
def PW (X:Cx) (e:Expr) (t:TT):Prop:=
 ∀(whole:Sem Value) (pins:List (Addr×Obj)) (s:Shared) (σ:St) (H:Hp) (Q:Bool->Hp->Prop),Inv X pins σ H s->t σ H Q->wpAny (model X.prog X.w) X.A (isTrue e X.env whole) (TP X pins σ Q) X.xe s
theorem PW.pt {X:Cx} {e:Expr} {t:TT} (h:PW X e t):PT X e t:=h _
def PA (X:Cx) (es:List Expr) (t:TA):Prop:=
 ∀(pos:Pos) (pins:List (Addr×Obj)) (s:Shared) (σ:St) (H:Hp) (Q:List V->Hp->Prop),Inv X pins σ H s->t σ H Q->wpAny (model X.prog X.w) X.A (spliced (backTo pos (starEach es X.env))) (AP X pins σ Q) X.xe s
def PS (X:Cx) (st:Stmt) (t:TS):Prop:=
 ∀(pins:List (Addr×Obj)) (s:Shared) (σ:St) (H:Hp) (D:Ends),Inv X pins σ H s->t D σ H->wpAny (model X.prog X.w) X.A (exec st X.env) (SP X pins D) X.xe s
def PSs (X:Cx) (st:List Stmt) (t:TS):Prop:=
 ∀(pins:List (Addr×Obj)) (s:Shared) (σ:St) (H:Hp) (D:Ends),Inv X pins σ H s->t D σ H->wpAny (model X.prog X.w) X.A (execs st X.env) (SP X pins D) X.xe s
theorem thn {α:Type} {t:Sem α} {Q Q':α->Shared->Prop} {M:Model} {A:Around} {E:Value->Shared->Prop} {s:Shared} (h:wpAny M A t Q E s) (hQ:∀a s,Q a s->Q' a s):wpAny M A t Q' E s:=wpAny_mono h hQ fun _ _ x=>x
section
variable {X:Cx}
theorem bin {a b:Expr} {ta tb:TE} (ha:PE X a ta) (hb:PE X b tb) {pins:List (Addr×Obj)} {s:Shared} {σ:St} {H:Hp} {R:V->V->Hp->Prop} (I:Inv X pins σ H s) (h:ta σ H fun x H1=>tb σ H1 fun y H2=>R x y H2)
  {α:Type} {Q:α->Shared->Prop} {f:Value->Value->Sem α}
  (hf:∀v u s2 x y H2,Inv X pins σ H2 s2->as' x v->as' y u->R x y H2->wpAny (model X.prog X.w) X.A (f v u) Q X.xe s2):
  wpAny (model X.prog X.w) X.A (eval a X.env) (fun v s₁=>wpAny (model X.prog X.w) X.A (eval b X.env) (fun u s₂=>wpAny (model X.prog X.w) X.A (f v u) Q X.xe s₂) X.xe s₁) X.xe s:=by
 refine thn (ha pins s σ H _ I h) fun v s1 ⟨x,H1,I1,r1,q1⟩=>?_
 refine thn (hb pins s1 σ H1 _ I1 q1) fun u s2 ⟨y,H2,I2,r2,q2⟩=>?_
 exact hf v u s2 x y H2 I2 r1 r2 q2
def rX' (i:Nat):TE:=fun σ H Q=>∃v,σ[i]?=some (some v)/\Q v H
def tC (v:V):TE:=fun _ H Q=>Q v H
theorem ld' {i:Nat} {x:Str} {pos:Pos} (hN:X.N[i]?=some x) (hv:Vis X.env.scope x) (hd:(x == ("__debug__":Str))=false:=by decide) (hcd:(x == ("__classdict__":Str))=false:=by decide):PE X (.Name x pos) (rX' i):=by
 intro pins s σ H Q I h
 obtain⟨v,e,h⟩:=h
 obtain⟨m,hn,hl⟩:=I.loc
 obtain⟨u,r,l⟩:=hl i x v hN e hv
 have fin:EP X pins σ Q u s:=⟨v,H,I,r,h⟩
 rcases l with⟨hk,hm⟩|⟨hk,c,hc,hcell⟩
 .exact wpAny_Name (wpAny_loadName_local I.ok.kind hk hn hm fin) hd
 .rcases hk with hk|hk
  .exact wpAny_Name (wpAny_loadName_cell I.ok.kind hk hc hcell fin) hd
  .exact wpAny_Name (wpAny_loadName_free I.ok.kind hk hc hcell fin hcd) hd
theorem oJ' {i j pos}:PE X (.Constant (.int i) j pos) (tC (.int i)):=fun _ _ _ H _ I h=>wpAny_Constant_int ⟨.int i,H,I.tok _,⟨_,rfl⟩,h⟩
theorem se' {b j pos}:PE X (.Constant (.bool b) j pos) (tC (.bl b)):=fun _ _ _ H _ I h=>Constant_bool ⟨.bl b,H,I,rfl,h⟩
theorem oK' {j pos}:PE X (.Constant .none j pos) (tC .non):=fun _ _ _ H _ I h=>Constant_none ⟨.non,H,I,rfl,h⟩
theorem oL' {x j pos}:PE X (.Constant (.str x) j pos) (tC (.str x)):=fun _ _ _ H _ I h=>Calls.Constant_str ⟨.str x,H,I.tok _,⟨_,rfl⟩,h⟩
def Gl (X:Cx) (x:Str):Prop:=X.env.kindOf x=some .globalImplicit
theorem mO' {E:Value->Shared->Prop} {pins:List (Addr×Obj)} {s:Shared} {σ:St} {H:Hp} {x:Str} {u:Value} {pos:Pos} {Q:Value->Shared->Prop} (I:Inv X pins σ H s) (hg:Gl X x) (hm:X.mg x=some u) (h:Q u s)
  (hd:(x == ("__debug__":Str))=false:=by decide):wpAny (model X.prog X.w) X.A (eval (.Name x pos) X.env) Q E s:=
 Calls.Name_function_global I.ok.kind hg (Calls.loadGlobal_global (by rw[I.ok.glob];exact I.mod.glob.keeps I.bk) hm h) hd
theorem cz' {E:Value->Shared->Prop} {pins:List (Addr×Obj)} {s:Shared} {σ:St} {H:Hp} {x:Str} {u:Value} {pos:Pos} {Q:Value->Shared->Prop} (I:Inv X pins σ H s) (hg:Gl X x) (hm:X.mg x=none) (hv:bootBuiltins x=some u) (h:Q u s)
  (hn:x≠"__name__":=by decide) (hd:(x == ("__debug__":Str))=false:=by decide):wpAny (model X.prog X.w) X.A (eval (.Name x pos) X.env) Q E s:=by
 obtain⟨mb,h1,h2⟩:=I.mod.blt
 exact Calls.Name_function_global I.ok.kind hg (Calls.loadGlobal_builtin (by rw[I.ok.glob];exact I.mod.glob.keeps I.bk) hm (by rw[I.ok.blt];exact h1.keeps I.bk) ((h2 x hn).trans hv) h) hd
variable {a b:Expr} {ta tb:TE} {pos:Pos}
variable {tA tB':TT} {a5':List Expr}
def oM' (t u:TT):TT:=fun σ H Q=>t σ H fun c H1=>if c=true then u σ H1 Q else Q false H1
def tOr (t u:TT):TT:=fun σ H Q=>t σ H fun c H1=>if c=true then Q true H1 else u σ H1 Q
theorem mP' (ha:PT X a tA):PW X (.BoolOp .And [a] pos) tA:=by
 intro wh pins s σ H Q I h
 refine isTrue_and (thn (ha pins s σ H Q I h) fun c s1 e=>?_)
 cases c with
 |true=>exact isTrue_and_nil e
 |false=>exact e
theorem oN' (ha:PT X a tA):PW X (.BoolOp .Or [a] pos) tA:=by
 intro wh pins s σ H Q I h
 refine isTrue_or (thn (ha pins s σ H Q I h) fun c s1 e=>?_)
 cases c with
 |false=>exact isTrue_or_nil e
 |true=>exact e
theorem le' (ha:PT X a tA) (hb:PW X (.BoolOp .And (b :: a5') pos) tB'):PW X (.BoolOp .And (a :: b :: a5') pos) (oM' tA tB'):=by
 intro wh pins s σ H Q I h
 refine isTrue_and (thn (ha pins s σ H _ I h) fun c s1 ⟨H1,I1,q1⟩=>?_)
 cases c with
 |true=>exact hb wh pins s1 σ H1 Q I1 q1
 |false=>exact⟨H1,I1,q1⟩
theorem oO' (ha:PT X a tA) (hb:PW X (.BoolOp .Or (b :: a5') pos) tB'):PW X (.BoolOp .Or (a :: b :: a5') pos) (tOr tA tB'):=by
 intro wh pins s σ H Q I h
 refine isTrue_or (thn (ha pins s σ H _ I h) fun c s1 ⟨H1,I1,q1⟩=>?_)
 cases c with
 |true=>exact⟨H1,I1,q1⟩
 |false=>exact hb wh pins s1 σ H1 Q I1 q1
def jF' (ta tb:TE):TE:=fun σ H Q=>ta σ H fun x H1=>∃c,x=.bl c/\if c=true then tb σ H1 Q else Q (.bl false) H1
def rY' (ta tb:TE):TE:=fun σ H Q=>ta σ H fun x H1=>∃c,x=.bl c/\if c=true then Q (.bl true) H1 else tb σ H1 Q
theorem lf' {op} {t:TE} (h:PE X a t):PE X (.BoolOp op [a] pos) t:=fun pins s σ H Q I hw=>BoolOp_one (h pins s σ H Q I hw)
theorem lg' (ha:PE X a ta) (hb:PE X (.BoolOp .And (b :: a5') pos) tb):PE X (.BoolOp .And (a :: b :: a5') pos) (jF' ta tb):=by
 intro pins s σ H Q I h
 refine BoolOp_and (thn (ha pins s σ H _ I h) fun v s1 ⟨x,H1,I1,r1,q1⟩=>?_)
 obtain⟨c,rfl,q1⟩:=q1
 cases r1
 refine cz ?_
 cases c with
 |true=>exact hb pins s1 σ H1 Q I1 q1
 |false=>exact⟨.bl false,H1,I1,rfl,q1⟩
theorem oP' (ha:PE X a ta) (hb:PE X (.BoolOp .Or (b :: a5') pos) tb):PE X (.BoolOp .Or (a :: b :: a5') pos) (rY' ta tb):=by
 intro pins s σ H Q I h
 refine BoolOp_or (thn (ha pins s σ H _ I h) fun v s1 ⟨x,H1,I1,r1,q1⟩=>?_)
 obtain⟨c,rfl,q1⟩:=q1
 cases r1
 refine cz ?_
 cases c with
 |false=>exact hb pins s1 σ H1 Q I1 q1
 |true=>exact⟨.bl true,H1,I1,rfl,q1⟩
def tIf (t:TT) (ta tb:TE):TE:=fun σ H Q=>t σ H fun c H1=>if c=true then ta σ H1 Q else tb σ H1 Q
theorem jG' {c:Expr} (hc:PT X c tA) (ha:PE X a ta) (hb:PE X b tb):PE X (.IfExp c a b pos) (tIf tA ta tb):=by
 intro pins s σ H Q I h
 refine wpAny_IfExp (thn (hc pins s σ H _ I h) fun d s1 ⟨H1,I1,q1⟩=>?_)
 cases d with
 |true=>exact ha pins s1 σ H1 Q I1 q1
 |false=>exact hb pins s1 σ H1 Q I1 q1
end
def SqL (K:W.Frag) (H:Hp) (a:Addr) (xs:List V):Prop:=
 Rd H a (.lst xs)\/
  ∃(o:Obj) (its:Array Value) (n:Nat),K.lookup a=some o/\o.cls=.type "list"/\o.dict=none/\o.data=.seq its n/\its.size<=sizeLine/\ax' xs its.toList
def SqT (K:W.Frag) (H:Hp) (a:Addr) (xs:List V):Prop:=
 Rd H a (.tup xs)\/
  ∃(o:Obj) (its:Array Value) (n:Nat),K.lookup a=some o/\o.cls=.type "tuple"/\o.data=.seq its n/\its.size<=sizeLine/\ax' xs its.toList
def uE':Value->Option V
 | .none=>some .non
 | .bool b=>some (.bl b)
 | .int i _=>some (.int i)
 | .str x _=>some (.str x)
 | .bytes b _=>some (.byt b)
 | .float b _=>some (.flt b)
 | .ref a=>some (.ref a)
 | .type n=>some (.ty n)
 |_=>none
theorem as'.abs {x:V} {u:Value} (r:as' x u):uE' u=some x:=by
 cases x with
 |non=>cases r;rfl
 |bl _=>cases r;rfl
 |int _=>obtain⟨t,rfl⟩:=r;rfl
 |str _=>obtain⟨t,rfl⟩:=r;rfl
 |byt _=>obtain⟨t,rfl⟩:=r;rfl
 |flt _=>obtain⟨t,rfl⟩:=r;rfl
 |ref _=>cases r;rfl
 |ty _=>cases r;rfl
theorem as'.inj {x y:V} {u:Value} (r:as' x u) (q:as' y u):x=y:=Option.some.inj (r.abs.symm.trans q.abs)
theorem ax'.inj:∀{xs ys:List V} {us:List Value},ax' xs us->ax' ys us->xs=ys
 |_,_,_,.nil,.nil=>rfl
 |_,_,_,.cons r t,.cons r' t'=>by rw[r.inj r',ax'.inj t t']
section
variable {X:Cx} {pins:List (Addr×Obj)} {σ:St} {H:Hp} {s:Shared} {a:Addr} {xs ys:List V}
theorem SqL.of {K:W.Frag} (h:H a=some (.lst xs)):SqL K H a xs:=.inl (.inl h)
theorem SqT.of {K:W.Frag} (h:H a=some (.tup xs)):SqT K H a xs:=.inl (.inl h)
theorem Inv.list (I:Inv X pins σ H s) (h:SqL X.K H a xs):∃its:List Value,ax' xs its/\PlainL s.heap a its.toArray/\xs.length<=sizeLine:=by
 rcases h with h|⟨o,its,n,hk,hc,hd,hs,hz,r⟩
 .obtain⟨z,its,n,r,e⟩:=h.ok I.hok
  exact⟨its,r,⟨_,n,e,rfl,rfl,rfl⟩,z⟩
 .refine⟨its.toList,r,⟨o,n,I.kIn a o hk,hc,hd,by simpa using hs⟩,?_⟩
  have e:=r.length
  simp only[au]at e
  omega
theorem Inv.tuple (I:Inv X pins σ H s) (h:SqT X.K H a xs):∃its:List Value,ax' xs its/\IsTup s.heap a its.toArray/\xs.length<=sizeLine:=by
 rcases h with h|⟨o,its,n,hk,hc,hs,hz,r⟩
 .obtain⟨z,its,r,p⟩:=h.ok I.hok
  exact⟨its,r,p.tup,z⟩
 .refine⟨its.toList,r,⟨o,I.kIn a o hk,hc,n,by simpa using hs⟩,?_⟩
  have e:=r.length
  simp only[au]at e
  omega
theorem Inv.list_inj (I:Inv X pins σ H s) (h:SqL X.K H a xs) (h':SqL X.K H a ys):xs=ys:=by
 obtain⟨its,r,⟨o,n,e,_,_,d⟩,_⟩:=I.list h
 obtain⟨its',r',⟨o',n',e',_,_,d'⟩,_⟩:=I.list h'
 rw[e]at e';cases e'
 rw[d]at d'
 injection d' with d1 _
 have:its=its':=by simpa using congrArg Array.toList d1
 subst this
 exact r.inj r'
theorem Inv.tuple_inj (I:Inv X pins σ H s) (h:SqT X.K H a xs) (h':SqT X.K H a ys):xs=ys:=by
 obtain⟨its,r,⟨o,e,_,n,d⟩,_⟩:=I.tuple h
 obtain⟨its',r',⟨o',e',_,n',d'⟩,_⟩:=I.tuple h'
 rw[e]at e';cases e'
 rw[d]at d'
 injection d' with d1 _
 have:its=its':=by simpa using congrArg Array.toList d1
 subst this
 exact r.inj r'
end
abbrev Cx.wish (X:Cx) (E:Value->Shared->Prop):Cx:={ X with xe:=E }
abbrev Cx.nox (X:Cx):Cx:=X.wish fun _ _=>False
theorem Cx.Ok.wish {X:Cx} (ok:X.Ok) (E:Value->Shared->Prop):(X.wish E).Ok:=
 ⟨ok.mod,ok.kind,ok.glob,ok.blt,ok.above,ok.inj,ok.has,ok.cab,ok.hd,ok.frames,ok.stk,ok.exf,ok.bs,ok.bsz,ok.noex,ok.exfs,ok.funs,ok.frf⟩
theorem Cx.Ok.unwish {X:Cx} {E:Value->Shared->Prop} (ok:(X.wish E).Ok):X.Ok:=
 ⟨ok.mod,ok.kind,ok.glob,ok.blt,ok.above,ok.inj,ok.has,ok.cab,ok.hd,ok.frames,ok.stk,ok.exf,ok.bs,ok.bsz,ok.noex,ok.exfs,ok.funs,ok.frf⟩
section
variable {X:Cx} {pins:List (Addr×Obj)} {σ:St} {H:Hp} {s:Shared} {E:Value->Shared->Prop}
theorem Inv.wish (I:Inv X pins σ H s) (E:Value->Shared->Prop):Inv (X.wish E) pins σ H s:=⟨I.ok.wish E,I.os,I.bare,I.base,I.loc,I.cell,I.free,I.freeC,I.pin,I.hok,I.len⟩
theorem Inv.unwish (I:Inv (X.wish E) pins σ H s):Inv X pins σ H s:=⟨I.ok.unwish,I.os,I.bare,I.base,I.loc,I.cell,I.free,I.freeC,I.pin,I.hok,I.len⟩
theorem SP.unwish {D:Ends} {f:Flow} {s':Shared} (h:SP (X.wish E) pins D f s'):SP X pins D f s':=by
 cases f with
 |next=>obtain⟨σ',H',I,q⟩:=h;exact⟨σ',H',I.unwish,q⟩
 |brk=>obtain⟨σ',H',I,q⟩:=h;exact⟨σ',H',I.unwish,q⟩
 |cont=>obtain⟨σ',H',I,q⟩:=h;exact⟨σ',H',I.unwish,q⟩
 |ret u=>obtain⟨v,σ',H',I,r,q⟩:=h;exact⟨v,σ',H',I.unwish,r,q⟩
theorem PSs.nox {st:List Stmt} {t:TS} (h:PSs X.nox st t):PSs X st t:=fun pins s σ H D I hw=>
 wpAny_mono (h pins s σ H D (I.wish _) hw) (fun _ _ q=>q.unwish) fun _ _ z=>False.elim z
end
section
variable {X:Cx} {st:Stmt} {a5':List Stmt} {t u:TS} {e:Expr} {te:TE} {pos:Pos}
def mQ':TS:=fun D σ H=>D.nx σ H
def sf' (t u:TS):TS:=fun D σ H=>t { D with nx:=u D } σ H
theorem mR':PSs X [] mQ':=fun _ _ σ H _ I h=>wpAny_execs_nil ⟨σ,H,I,h⟩
theorem jH' (h1:PS X st t) (h2:PSs X a5' u):PSs X (st :: a5') (sf' t u):=by
 intro pins s σ H D I h
 refine wpAny_execs_cons (thn (h1 pins s σ H { D with nx:=u D } I h) fun f s1 q=>?_)
 cases f with
 |next=>
  obtain⟨σ',H',I',q⟩:=q
  exact h2 pins s1 σ' H' D I' q
 |ret v=>exact q
 |brk=>exact q
 |cont=>exact q
theorem Inv.quiet {pins:List (Addr×Obj)} {σ:St} {H:Hp} {s:Shared} (I:Inv X pins σ H s):interactive X.env=false:=by simp[interactive,I.ok.kind]
def mS' (te:TE):TS:=fun D σ H=>te σ H fun _ H1=>D.nx σ H1
theorem mT' (he:PE X e te) (hs:swapsWith e none pos.line X.env=pure false:=by rfl):PS X (.Expr e pos) (mS' te):=by
 intro pins s σ H D I h
 exact wpAny_Expr_any (thn (he pins s σ H _ I h) fun v s1 ⟨x,H1,I1,r1,q1⟩=>⟨σ,H1,I1,q1⟩) I.quiet hs
def sg' (te:TE):TS:=fun D σ H=>te σ H D.rt
theorem oQ' (he:PE X e te):PS X (.Return (some e) pos) (sg' te):=by
 intro pins s σ H D I h
 exact wpAny_Return_some (thn (he pins s σ H _ I h) fun v s1 ⟨x,H1,I1,r1,q1⟩=>⟨x,σ,H1,I1,r1,q1⟩)
def sh' (c:TT) (t u:TS):TS:=fun D σ H=>c σ H fun b H1=>if b=true then t D σ H1 else u D σ H1
theorem si' {c:Expr} {a b:List Stmt} {tc:TT} (hc:PT X c tc) (ha:PSs X a t) (hb:PSs X b u):PS X (.If c a b pos) (sh' tc t u):=by
 intro pins s σ H D I h
 refine wpAny_If (thn (hc pins s σ H _ I h) fun d s1 ⟨H1,I1,q1⟩=>?_)
 cases d with
 |true=>exact ha pins s1 σ H1 D I1 q1
 |false=>exact hb pins s1 σ H1 D I1 q1
end
abbrev TG:=V->St->Hp->(St->Hp->Prop)->Prop
abbrev TGs:=List V->St->Hp->(St->Hp->Prop)->Prop
def PG (X:Cx) (target:Expr) (t:TG):Prop:=
 ∀(pins:List (Addr×Obj)) (s:Shared) (σ:St) (H:Hp) (v:V) (u:Value) (Q:St->Hp->Prop),Inv X pins σ H s->as' v u->t v σ H Q->
  wpAny (model X.prog X.w) X.A (assign target X.env u) (fun _ s'=>∃σ' H',Inv X pins σ' H' s'/\Q σ' H') X.xe s
def PGs (X:Cx) (ts:List Expr) (t:TGs):Prop:=
 ∀(pins:List (Addr×Obj)) (s:Shared) (σ:St) (H:Hp) (vs:List V) (us:List Value) (Q:St->Hp->Prop),Inv X pins σ H s->ax' vs us->t vs σ H Q->
  wpAny (model X.prog X.w) X.A (assignInOrder ((assignEach ts X.env).map (·.2)) us) (fun _ s'=>∃σ' H',Inv X pins σ' H' s'/\Q σ' H') X.xe s
abbrev sj':=V->V->V->Hp->(Hp->Prop)->Prop
def tV' (X:Cx) (t:sj'):Prop:=
 ∀(pins:List (Addr×Obj)) (s:Shared) (σ:St) (H:Hp) (o i v:V) (ov iv u:Value) (Q:Hp->Prop),Inv X pins σ H s->as' o ov->as' i iv->as' v u->t o i v H Q->
  wpAny (model X.prog X.w) X.A (setItem ov iv u) (fun _ s'=>∃H',Inv X pins σ H' s'/\Q H') X.xe s
abbrev TIp:=V->V->Hp->VK->Prop
section
variable {X:Cx} {pos:Pos}
def gU' (i:Nat):TG:=fun v σ H Q=>Q (σ.set i (some v)) H
theorem mU' {i:Nat} {x:Str} (hN:X.N.Nodup) (hi:X.N[i]?=some x) (hx:Loc X.env.scope x) (hf:X.fn x=true\/X.env.scope.names.lookup x=some .local:=by first|exact .inl rfl|exact .inr rfl|assumption):PG X (.Name x pos) (gU' i):=by
 intro pins s σ H v u Q I r h
 exact wpAny_assign_Name (dv' I hN hi hx r (fun s' I'=>⟨_,H,I',h⟩) hf)
def sk':TGs:=fun vs σ H Q=>vs=[]/\Q σ H
def mV' (t:TG) (u:TGs):TGs:=fun vs σ H Q=>∃v r,vs=v :: r/\t v σ H fun σ' H'=>u r σ' H' Q
theorem mW':PGs X [] sk':=by
 intro pins s σ H vs us Q I r h
 obtain⟨e,h⟩:=h
 subst e
 cases r
 exact assignInOrder_nil ⟨σ,H,I,h⟩
theorem jI' {e:Expr} {es:List Expr} {t:TG} {u:TGs} (h1:PG X e t) (h2:PGs X es u)
  (hs:(assignEach (e :: es) X.env).map (·.2)=assign e X.env :: (assignEach es X.env).map (·.2):=by rfl):PGs X (e :: es) (mV' t u):=by
 intro pins s σ H vs us Q I r h
 obtain⟨v,vr,e1,h⟩:=h
 subst e1
 cases r with
 |cons r rr=>
  rw[hs]
  refine assignInOrder_cons (thn (h1 pins s σ H _ _ _ I r h) fun _ s1 ⟨σ1,H1,I1,q1⟩=>?_)
  exact h2 pins s1 σ1 H1 _ _ Q I1 rr q1
def uF' (K:W.Frag) (n:Nat) (t:TGs):TG:=fun v σ H Q=>∃a xs,v=.ref a/\SqT K H a xs/\xs.length=n/\t xs σ H Q
theorem oR' {es:List Expr} {k:Nat} {t:TGs} {n:Nat} (hc:X.calm=true) (h:PGs X es t)
  (hn:(assignEach es X.env).length=n:=by rfl) (hst:(assignEach es X.env).findIdx? (·.1)=none:=by rfl):PG X (.Tuple es k pos) (uF' X.K n t):=by
 intro pins s σ H v u Q I r hw
 obtain⟨a,xs,e1,hq,hl,hw⟩:=hw
 subst e1
 cases r
 obtain⟨its,rv,ht,hz⟩:=I.tuple hq
 refine assign_Tuple_tuple (I.ok.hd hc) ht (by simp[hn,<- hl,rv.length]) hst fun h' hx=>?_
 have I1:Inv X pins σ H { s with heap:=h' }:=I.kept (t':=s.toks) fun b o e=>hx b o (aB (az e)) e
 exact h pins _ σ H xs _ Q I1 (by simpa using rv) hw
def sm' (to ti:TE) (t:sj'):TG:=fun v σ H Q=>to σ H fun o H1=>ti σ H1 fun i H2=>t o i v H2 fun H3=>Q σ H3
theorem oS' {o i:Expr} {to ti:TE} {t:sj'} (ho:PE X o to) (hi:PE X i ti) (hs:tV' X t)
  (ha:∀v,assign (.Subscript o i pos) X.env v=(do
   let ov <- holding [v] (eval o X.env)
   let iv <- holding [v,ov] (eval i X.env)
   standAt pos
   holding [v,ov,iv] (setItem ov iv v)
   release [v,ov,iv] []):=by intro _;rfl):PG X (.Subscript o i pos) (sm' to ti t):=by
 intro pins s σ H v u Q I r h
 rw[ha]
 refine aa (aR (thn (ho pins s σ H _ I h) fun ov s1 ⟨x,H1,I1,r1,q1⟩=>?_))
 refine aa (aR (thn (hi pins s1 σ H1 _ I1 q1) fun iv s2 ⟨y,H2,I2,r2,q2⟩=>?_))
 refine aa (cf (aa (aR (thn (hs pins s2 σ H2 x y v ov iv u _ I2 r1 r2 r q2) fun _ s3 ⟨H3,I3,q3⟩=>?_))))
 exact wpAny_release ⟨σ,H3,I3,q3⟩
def rZ' (te:TE) (g:TG):TS:=fun D σ H=>te σ H fun x H1=>g x σ H1 D.nx
theorem gV' {tg e:Expr} {te:TE} {g:TG} (he:PE X e te) (hg:PG X tg g) (hs:swapsWithSole [tg] e pos.line X.env=pure false:=by rfl) (hw:swappedStores [tg] e X.env=pure none:=by rfl)
  (h1:(assignEach [tg] X.env).map (·.2)=[assign tg X.env]:=by rfl):PS X (.Assign [tg] e pos) (rZ' te g):=by
 intro pins s σ H D I h
 refine wpAny_Assign_stores (thn (he pins s σ H _ I h) fun v s1 ⟨x,H1,I1,r1,q1⟩=>?_) hs hw
 rw[h1]
 exact thn (hg pins s1 σ H1 x v _ I1 r1 q1) fun _ s2 q=>q
def sn' (i j:Nat) (ta:TA):TS:=fun D σ H=>ta σ H fun vs H1=>∃v w,vs=[v,w]/\D.nx ((σ.set i (some v)).set j (some w)) H1
theorem oT' {i j:Nat} {x y:Str} {a b:Expr} {ta:TA} {px py pt:Pos} {kt k2 pt2} (hc:X.calm=true) (hN:X.N.Nodup) (hi:X.N[i]?=some x) (hj:X.N[j]?=some y) (hij:i≠j)
  (hx:X.env.scope.names.lookup x=some .local) (hy:X.env.scope.names.lookup y=some .local) (ha:PA X [a,b] ta)
  (hw:swappedStores [.Tuple [.Name x px,.Name y py] kt pt] (.Tuple [a,b] k2 pt2) X.env=pure (some [x,y]))
  (hs:swapsWithSole [.Tuple [.Name x px,.Name y py] kt pt] (.Tuple [a,b] k2 pt2) pos.line X.env=pure false:=by rfl):
  PS X (.Assign [.Tuple [.Name x px,.Name y py] kt pt] (.Tuple [a,b] k2 pt2) pos) (sn' i j ta):=by
 intro pins s σ H D I h
 rw[exec_Assign_arm]
 refine aa (cf ?_)
 rw[hs]
 refine aa (af ?_)
 rw[if_neg (by decide)]
 refine aa (Tuple_ (thn (ha _ pins s σ H _ I h) fun us s1 ⟨vs,H1,I1,r1,q1⟩=>?_))
 obtain⟨v,w,e1,q1⟩:=q1
 subst e1
 obtain⟨u1,u2,rfl,rv,rw'⟩:∃u1 u2,us=[u1,u2]/\as' v u1/\as' w u2:=by
  cases r1 with
  |cons p q=>
   cases q with
   |cons p' q'=>
    cases q'
    exact⟨_,_,rfl,p,p'⟩
 refine bx ?_ (by show 2<=sizeLine;decide)
 have I2:Inv X pins σ H1 { s1 with heap:=s1.heap.push { cls:=.type "tuple",data:=.seq [u1,u2].toArray } }:=I1.kept (t':=s1.toks) fun b o e=>ae _ e
 rw[hw]
 refine aa (af ?_)
 show wpAny (model X.prog X.w) X.A (do rule "assign.swapped-stores";let items <- unpackItems (.ref s1.heap.objs.size) 2 none;assignInOrder [fun v=>bindName X.env y v,fun v=>bindName X.env x v] items.reverse;pure Flow.next) _ _ _
 refine aa (cH (aa (unpackItems_tuple (items:=#[u1,u2]) (I.ok.hd hc) (IsTup.new s1.heap _) fun h' hx'=>?_)))
 have I3:=I2.kept (h':=h') (t':=s1.toks) fun b o e=>hx' b o (aB (az e)) e
 show wpAny _ _ (assignInOrder [fun v=>bindName X.env y v,fun v=>bindName X.env x v] [u2,u1] >>= fun _=>pure Flow.next) _ _ _
 refine aa (assignInOrder_cons (wpAny_bindName (dv' I3 hN hj (.inl hy) rw' (fun s2 I4=>?_) (.inr hy))))
 refine assignInOrder_cons (wpAny_bindName (dv' I4 hN hi (.inl hx) rv (fun s3 I5=>assignInOrder_nil (af ?_)) (.inr hx)))
 rw[List.set_comm _ _ (Ne.symm hij)]at I5
 exact⟨_,H1,I5,q1⟩
def ipI (f:Int->Int->Int):TIp:=fun x y H Q=>∃i j,x=.int i/\y=.int j/\Q (.int (f i j)) H
end
section
variable {X:Cx} {pos:Pos}
def gW' (c:TT) (tb:TS):TS:=fun D σ H=>∃W:Nat->St->Hp->Prop,(∃m,W m σ H)/\∀m σ H,W m σ H->
 c σ H fun b H1=>if b=true then ∃N:St->Hp->Prop,(∀σ' H',N σ' H'->∃m',m'<m/\W m' σ' H')/\tb { D with nx:=N,ct:=N,bk:=D.nx } σ H1 else D.nx σ H1
theorem jJ' {c:Expr} {body:List Stmt} {tc:TT} {tb:TS} (hp:PassesOwn (model X.prog X.w) X.A X.env X.xe) (hc:PT X c tc) (hb:PSs X body tb):PS X (.While c body [] pos) (gW' tc tb):=by
 intro pins s σ H D I h
 obtain⟨W,⟨m0,w0⟩,turn⟩:=h
 refine wpAny_While (codeAny_whileLoop (fun n s'=>∃σ' H',Inv X pins σ' H' s'/\W n σ' H') ?_ m0 ⟨σ,H,I,w0⟩)
 rintro n s1 ⟨σ1,H1,I1,w1⟩
 refine bY hp (thn (hc pins s1 σ1 H1 _ I1 (turn n σ1 H1 w1)) fun b s2 ⟨H2,I2,q2⟩=>?_)
 cases b with
 |true=>
  obtain⟨N,hN,q2⟩:=q2
  rw[if_pos rfl]
  refine bY hp (thn (hb pins s2 σ1 H2 _ I2 q2) fun f s3 q3=>?_)
  cases f with
  |next=>
   obtain⟨σ3,H3,I3,n3⟩:=q3
   obtain⟨m',hm,w3⟩:=hN σ3 H3 n3
   exact⟨m',hm,σ3,H3,I3,w3⟩
  |cont=>
   obtain⟨σ3,H3,I3,n3⟩:=q3
   obtain⟨m',hm,w3⟩:=hN σ3 H3 n3
   exact⟨m',hm,σ3,H3,I3,w3⟩
  |brk=>exact q3
  |ret v=>exact q3
 |false=>
  rw[if_neg ap]
  exact wpAny_execs_nil ⟨σ1,H2,I2,q2⟩
end
structure It where
 go:Nat->Hp->Prop
 yld:Nat->Hp->V->Hp->Prop
 stop:Nat->Hp->Prop
def c2' (X:Cx) (pins:List (Addr×Obj)) (H:Hp) (b:Addr):Prop:=
 H b=none/\b≠X.env.locals/\b∉X.fs/\(b∈X.ex\/X.s₀.heap.objs.size<=b)/\(∀x c,X.env.cells.lookup x=some c->c≠b)/\∀p∈X.pn++pins,p.1≠b
theorem Inv.fpOk {X:Cx} {pins:List (Addr×Obj)} {σ:St} {H H':Hp} {s:Shared} {b:Addr} (I:Inv X pins σ H s) (hb:s.heap.objs.size<=b) (hn:H' b=none):c2' X pins H' b:=by
 refine⟨hn,bq (ag I.lt hb),I.nofs hb,.inr (aS I.sz hb),fun x c e z=>?_,fun p hp z=>?_⟩
 .obtain⟨v,q⟩:=I.cell x c e
  exact absurd (ag q.lt (by rw[z];exact hb)) (bn _)
 .exact absurd (ag (az (I.pin p hp).1) (by rw[z];exact hb)) (bn _)
structure Turn (P:Program) (w:World) (K:W.Frag) (tg:Expr) (J:It) (fp:List Addr) (it:Addr) (tn:Nat->Heap->Prop):Prop where
 mem:it∈fp
 obj:∀i h,tn i h->∀b∈fp,∃o,h.get? b=some o/\∀v,o.data≠.cell v
 keep:∀i h h',tn i h->(∀b∈fp,∀o,h.get? b=some o->h'.get? b=some o)->tn i h'
 item:∀(X:Cx),X.prog=P->X.w=w->X.K=K->X.calm=true->∀(i:Nat) (pins:List (Addr×Obj)) (s:Shared) (σ:St) (H:Hp) (E:Value->Shared->Prop),Inv X pins σ H s->(∀b∈fp,c2' X pins H b)->tn i s.heap->J.go i H->
  wpAny (model P w) X.A (pyNext (.ref it)) (fun r s1=>∃u,r=some u/\
   wpAny (model P w) X.A (letOwnedTupleGo tg (.ref it) u) (fun _ s2=>∃x H',Inv X pins σ H' s2/\as' x u/\J.yld i H x H'/\tn (i+1) s2.heap/\∀b∈fp,H' b=none) E s1) E s
 done:∀(X:Cx),X.prog=P->X.w=w->X.K=K->X.calm=true->∀(i:Nat) (pins:List (Addr×Obj)) (s:Shared) (σ:St) (H:Hp) (E:Value->Shared->Prop),Inv X pins σ H s->(∀b∈fp,c2' X pins H b)->tn i s.heap->J.stop i H->
  wpAny (model P w) X.A (pyNext (.ref it)) (fun r s1=>r=none/\Inv X pins σ H s1) E s
 self:∀(A:Around) (i:Nat) (s:Shared) (Q:Value->Shared->Prop) (E:Value->Shared->Prop),tn i s.heap->Q (.ref it) s->wpAny (model P w) A (pyIter (.ref it)) Q E s
abbrev TI:=St->Hp->(It->Hp->Prop)->Prop
def PIE (X:Cx) (pins:List (Addr×Obj)) (σ:St) (tg:Expr) (R:It->Hp->Prop) (itv:Value) (s2:Shared):Prop:=
 ∃(it:Addr) (fp:List Addr) (tn:Nat->Heap->Prop) (J:It) (H':Hp),itv=.ref it/\Inv X pins σ H' s2/\Turn X.prog X.w X.K tg J fp it tn/\tn 0 s2.heap/\(∀b∈fp,c2' X pins H' b)/\R J H'
def PI (X:Cx) (tg iter:Expr) (wi:TI):Prop:=
 ∀(pins:List (Addr×Obj)) (s:Shared) (σ:St) (H:Hp) (R:It->Hp->Prop),Inv X pins σ H s->wi σ H R->
  wpAny (model X.prog X.w) X.A (eval iter X.env) (fun v s1=>wpAny (model X.prog X.w) X.A (pyIter v) (PIE X pins σ tg R) X.xe s1) X.xe s
theorem gX' {M:Model} {A:Around} {E:Value->Shared->Prop} {s:Shared} {tg:Expr} {it:Addr} {u:Value} {o:Obj} {n:String} {vs:Array Value} {Q:Unit->Shared->Prop} (ho:s.heap.get? it=some o) (hc:o.cls=.type n) (hd:o.data=.fields vs)
  (hn:["enumerate","zip","dict_itemiterator","dict_reverseitemiterator","odict_iterator","itertools.zip_longest","itertools.pairwise"].contains n=false) (hQ:Q () s):wpAny M A (letOwnedTupleGo tg (.ref it) u) Q E s:=by
 unfold letOwnedTupleGo
 cases tg<;>first
  |exact af hQ
  |(cases u<;>first
    |exact af hQ
    |(refine aa (wpAny_load ho ?_)
      rw[hc,hd]
      show wpAny M A (if(["enumerate","zip","dict_itemiterator","dict_reverseitemiterator","odict_iterator","itertools.zip_longest","itertools.pairwise"].contains n&&vs[0]? == some (rawInt _))=true then _ else _) Q E s
      rw[if_neg (by intro h;rw[hn,Bool.false_and]at h;cases h)]
      exact af hQ))
def Itl (K:W.Frag) (a:Addr):It:=
 ⟨fun i H=>∃xs x,SqL K H a xs/\xs[i]?=some x,fun i H x H'=>H'=H/\∀xs,SqL K H a xs->xs[i]?=some x,fun i H=>∃xs,SqL K H a xs/\xs.length<=i⟩
def Itt (K:W.Frag) (a:Addr):It:=
 ⟨fun i H=>∃xs x,SqT K H a xs/\xs[i]?=some x,fun i H x H'=>H'=H/\∀xs,SqT K H a xs->xs[i]?=some x,fun i H=>∃xs,SqT K H a xs/\xs.length<=i⟩
def Itr (lo:Int) (n:Nat):It:=⟨fun i _=>i<n,fun i H x H'=>H'=H/\x=.int (lo+i),fun i _=>n<=i⟩
theorem gY' {P:Program} {w:World} {K:W.Frag} {tg:Expr} (a it:Addr):Turn P w K tg (Itl K a) [it] it (fun i h=>h.IsListIter it a i) where
 mem:=by simp
 obj:=fun i h st b hb=>by
  have e:b=it:=by simpa using hb
  subst e
  obtain⟨o,e,c,d⟩:=st
  exact⟨o,e,fun v z=>by rw[d]at z;cases z⟩
 keep:=fun i h h' st k=>st.at fun o e=>k it (by simp) o e
 item:=by
  intro X hP hw hK hc i pins s σ H E I hf st hg
  subst hP hw hK
  obtain⟨xs,x,hq,hx⟩:=hg
  obtain⟨its,rv,p,hz⟩:=I.list hq
  obtain⟨u,hu,ru⟩:=rv.get hx
  obtain⟨f0,f1,f2,f3,f4,f5⟩:=hf it (by simp)
  refine wpAny_pyNext_list_item st p.isList (x:=u) (by simpa using hu) fun h' st' sb=>?_
  have I1:Inv X pins σ H { s with heap:=h' }:=I.turned (t':=s.toks) (fun b o hb e=>(sb.2 b hb).trans e) f0 f1 f3 f4 f5
  obtain⟨o,e,c,d⟩:=id st'
  exact⟨u,rfl,gX' (s:={ s with heap:=h' }) e c d (by decide) ⟨x,H,I1,ru,⟨rfl,fun ys hy=>by rw[I.list_inj hy hq];exact hx⟩,st',fun b hb=>(hf b hb).1⟩⟩
 done:=by
  intro X hP hw hK hc i pins s σ H E I hf st hg
  subst hP hw hK
  obtain⟨xs,hq,hx⟩:=hg
  obtain⟨its,rv,p,hz⟩:=I.list hq
  obtain⟨f0,f1,f2,f3,f4,f5⟩:=hf it (by simp)
  have hl:=rv.length
  exact wpAny_pyNext_list_end (I.ok.hd hc) st p.isList (by simp;omega) fun h' eb=>⟨rfl,I.turned (t':=s.toks) (fun b o hb e=>eb b o hb e) f0 f1 f3 f4 f5⟩
 self:=fun _ _ _ _ _ st h=>wpAny_pyIter_listiter st h
theorem gh' {P:Program} {w:World} {K:W.Frag} {tg:Expr} (a it:Addr):Turn P w K tg (Itt K a) [it] it (fun i h=>h.IsTupleIter it a i) where
 mem:=by simp
 obj:=fun i h st b hb=>by
  have e:b=it:=by simpa using hb
  subst e
  obtain⟨o,e,c,d⟩:=st
  exact⟨o,e,fun v z=>by rw[d]at z;cases z⟩
 keep:=fun i h h' st k=>st.at fun o e=>k it (by simp) o e
 item:=by
  intro X hP hw hK hc i pins s σ H E I hf st hg
  subst hP hw hK
  obtain⟨xs,x,hq,hx⟩:=hg
  obtain⟨its,rv,p,hz⟩:=I.tuple hq
  obtain⟨u,hu,ru⟩:=rv.get hx
  obtain⟨f0,f1,f2,f3,f4,f5⟩:=hf it (by simp)
  refine wpAny_pyNext_tuple_item st (show s.heap.IsTuple a its.toArray from p) (x:=u) (by simpa using hu) fun h' st' sb=>?_
  have I1:Inv X pins σ H { s with heap:=h' }:=I.turned (t':=s.toks) (fun b o hb e=>(sb.2 b hb).trans e) f0 f1 f3 f4 f5
  obtain⟨o,e,c,d⟩:=id st'
  exact⟨u,rfl,gX' (s:={ s with heap:=h' }) e c d (by decide) ⟨x,H,I1,ru,⟨rfl,fun ys hy=>by rw[I.tuple_inj hy hq];exact hx⟩,st',fun b hb=>(hf b hb).1⟩⟩
 done:=by
  intro X hP hw hK hc i pins s σ H E I hf st hg
  subst hP hw hK
  obtain⟨xs,hq,hx⟩:=hg
  obtain⟨its,rv,p,hz⟩:=I.tuple hq
  obtain⟨f0,f1,f2,f3,f4,f5⟩:=hf it (by simp)
  have hl:=rv.length
  exact wpAny_pyNext_tuple_end (I.ok.hd hc) st (show s.heap.IsTuple a its.toArray from p) (by simp;omega) fun h' eb=>⟨rfl,I.turned (t':=s.toks) (fun b o hb e=>eb b o hb e) f0 f1 f3 f4 f5⟩
 self:=fun _ _ _ _ _ st h=>wpAny_pyIter_tupleiter st h
theorem gi' {P:Program} {w:World} {K:W.Frag} {tg:Expr} (it:Addr) (lo:Int) (n:Nat):Turn P w K tg (Itr lo n) [it] it (fun i h=>IsRangeIter h it (lo+(i:Nat)*1) ((n:Int)-(i:Nat)) 1) where
 mem:=by simp
 obj:=fun i h st b hb=>by
  have e:b=it:=by simpa using hb
  subst e
  exact⟨_,st,fun v z=>by
   have z':Data.fields _=Data.cell v:=z
   cases z'⟩
 keep:=fun i h h' st k=>k it (by simp) _ st
 item:=by
  intro X hP hw hK hc i pins s σ H E I hf st hg
  subst hP hw hK
  obtain⟨f0,f1,f2,f3,f4,f5⟩:=hf it (by simp)
  have W:=Walks.range (prog:=X.prog) (w:=X.w) (I.ok.hd hc) it lo 1 n
  refine W.item i s _ _ hg st fun v h' tk hv st' kk=>?_
  obtain⟨t,rfl⟩:=hv
  have I1:Inv X pins σ H { s with heap:=h',toks:=tk }:=I.turned (fun b o hb e=>kk b o (by simpa using hb) e) f0 f1 f3 f4 f5
  refine⟨_,rfl,gX' (s:={ s with heap:=h',toks:=tk }) (n:="range_iterator") st' rfl rfl (by decide) ⟨.int (lo+i),H,I1,⟨t,?_⟩,⟨rfl,rfl⟩,st',fun b hb=>(hf b hb).1⟩⟩
  rw[Int.mul_one]
 done:=by
  intro X hP hw hK hc i pins s σ H E I hf st hg
  subst hP hw hK
  obtain⟨f0,f1,f2,f3,f4,f5⟩:=hf it (by simp)
  exact wpAny_pyNext_range_end (I.ok.hd hc) st (by have:n<=i:=hg;omega) fun h' eb=>⟨rfl,I.turned (t':=s.toks) (fun b o hb e=>eb b o hb e) f0 f1 f3 f4 f5⟩
 self:=fun _ _ _ _ _ st h=>wpAny_pyIter_rangeiter st h
section
variable {X:Cx} {tg:Expr}
theorem jK' {pins:List (Addr×Obj)} {σ:St} {H:Hp} {s:Shared} {R:It->Hp->Prop} {E:Value->Shared->Prop} {lo hi:Int} {t u v:Tok} {tk:Nat} (I:Inv X pins σ H s) (h1:-(2 ^ 62)<=lo) (h2:lo<2 ^ 62) (h3:-(2 ^ 62)<=hi) (h4:hi<2 ^ 62)
  (q:R (Itr lo (hi-lo).toNat) H):wpAny (model X.prog X.w) X.A (pyIter (.ref s.heap.objs.size)) (PIE X pins σ tg R) E { s with heap:=s.heap.push { cls:=.type "range",data:=.fields #[.int lo t,.int hi u,.int 1 v] },toks:=tk }:=by
 refine wpAny_pyIter_range (IsRange.new ..) (small_one h1 h2 h3 h4) ?_
 have I1:Inv X pins σ H { s with heap:=s.heap.push { cls:=.type "range",data:=.fields #[.int lo t,.int hi u,.int 1 v] },toks:=tk }:=I.kept fun b o e=>ae _ e
 refine⟨(s.heap.push { cls:=.type "range",data:=.fields #[.int lo t,.int hi u,.int 1 v] }).objs.size,[(s.heap.push { cls:=.type "range",data:=.fields #[.int lo t,.int hi u,.int 1 v] }).objs.size],_,_,H,rfl,
  I1.kept (t':=tk) fun b o e=>ae _ e,gi' _ lo (hi-lo).toNat,?_,fun b hb=>?_,q⟩
 .have e1:lo+((0:Nat):Int)*1=lo:=by simp
  have e2:(((hi-lo).toNat:Nat):Int)-((0:Nat):Int)=Builtin.Range.rangeSize lo hi 1:=by rw[rangeSize_one];split<;>omega
  show IsRangeIter _ _ (lo+((0:Nat):Int)*1) ((((hi-lo).toNat:Nat):Int)-((0:Nat):Int)) 1
  rw[e1,e2]
  exact aw _ rfl
 .have e:b=(s.heap.push { cls:=.type "range",data:=.fields #[.int lo t,.int hi u,.int 1 v] }).objs.size:=by simpa using hb
  subst e
  exact I1.fpOk (ak _) (I1.hok.fresh (ak _))
def mX' (ta:TA):TI:=fun σ H R=>ta σ H fun vs H1=>∃j:Int,vs=[.int j]/\-(2 ^ 62)<=j/\j<2 ^ 62/\R (Itr 0 j.toNat) H1
theorem gZ' {a:Expr} {ta:TA} {p pos:Pos} (hg:Gl X "range") (hm:X.mg "range"=none) (ha:PA X [a] ta) (hs:starEach [a] X.env=[(false,eval a X.env)]:=by rfl):PI X tg (.Call (.Name "range" p) [a] [] pos) (mX' ta):=by
 intro pins s σ H R I h
 refine Call_ (cz' I hg hm boot_range (PyProof.Rows.callWith_type1 (thn (ha pos pins s σ H _ I h) fun us s1 ⟨vs,H1,I1,r1,q1⟩=>?_) hs rfl))
 obtain⟨j,e,q1,q2,q⟩:=q1
 subst e
 cases r1 with
 |cons r rr=>
  cases rr
  obtain⟨t,rfl⟩:=r
  exact call_range_1 (jK' I1 (by omega) (by omega) q1 q2 (by simpa using q))
def so' (wi:TI) (g:TG) (tb:TS):TS:=fun D σ H=>wi σ H fun J H1=>∃W:Nat->Nat->St->Hp->Prop,(∃m,W 0 m σ H1)/\∀i m σ H,W i m σ H->
 (J.stop i H/\D.nx σ H)\/(J.go i H/\∃N:St->Hp->Prop,(∀σ' H',N σ' H'->∃m',m'<m/\W (i+1) m' σ' H')/\∀x H',J.yld i H x H'->g x σ H' fun σ2 H2=>tb { D with nx:=N,ct:=N,bk:=D.nx } σ2 H2)
def bQ' (fp:List Addr) (h:Heap):List (Addr×Obj):=fp.filterMap fun b=>(h.get? b).map fun o=>(b,o)
theorem aU' {fp:List Addr} {h:Heap} {b:Addr} {o:Obj} (hb:b∈fp) (e:h.get? b=some o):(b,o)∈bQ' fp h:=List.mem_filterMap.mpr ⟨b,hb,by rw[e];rfl⟩
theorem cA' {fp:List Addr} {h:Heap} {p:Addr×Obj} (hp:p∈bQ' fp h):p.1∈fp/\h.get? p.1=some p.2:=by
 obtain⟨b,hb,e⟩:=List.mem_filterMap.mp hp
 cases q:h.get? b with
 |none=>rw[q]at e;cases e
 |some o=>
  rw[q]at e
  have e':(b,o)=p:=Option.some.inj e
  subst e'
  exact⟨hb,q⟩
theorem Inv.pinned {pins:List (Addr×Obj)} {σ:St} {H:Hp} {s:Shared} {fp:List Addr} (I:Inv X pins σ H s) (hf:∀b∈fp,c2' X pins H b) (ho:∀b∈fp,∃o,s.heap.get? b=some o/\∀v,o.data≠.cell v):Inv X (pins++bQ' fp s.heap) σ H s:=
 I.pins_of fun p hp=>(al.mp hp).elim (fun z=>I.pin p (ax _ z)) fun z=>by
  obtain⟨hb,e⟩:=cA' z
  obtain⟨f0,f1,f2,_⟩:=hf p.1 hb
  obtain⟨o,e',d⟩:=ho p.1 hb
  rw[e]at e';cases e'
  exact⟨e,f0,f1,f2,d⟩
theorem Inv.unpinned {pins pl:List (Addr×Obj)} {σ:St} {H:Hp} {s:Shared} (I:Inv X (pins++pl) σ H s):Inv X pins σ H s:=I.pins_of fun p hp=>I.pin p (ax _ (aD _ hp))
theorem oU' {iter:Expr} {body:List Stmt} {wi:TI} {g:TG} {tb:TS} {pos:Pos} (hp:PassesOwn (model X.prog X.w) X.A X.env X.xe) (hc:X.calm=true) (hi:PI X tg iter wi) (hg:PG X tg g) (hb:PSs X body tb)
  (hs:∀x,foldedSetIterable iter X.env x=pure x:=by intro _;rfl):PS X (.For tg iter body [] pos) (so' wi g tb):=by
 intro pins s σ H D I h
 refine wpAny_For (thn (hi pins s σ H _ I h) fun v s1 h1=>thn h1 fun itv s2 h2=>?_) hs
 obtain⟨it,fp,tn,J,H2,e,I2,T,st2,f2,W,⟨m0,w0⟩,turn⟩:=h2
 subst e
 have stat:∀{H':Hp},(∀b∈fp,H' b=none)->∀b∈fp,c2' X pins H' b:=fun hn b hb=>⟨hn b hb,(f2 b hb).2⟩
 refine codeAny_forLoop_any (fun n s'=>∃i σ' H',Inv X pins σ' H' s'/\tn i s'.heap/\(∀b∈fp,H' b=none)/\W i n σ' H') ?_ m0 ⟨0,σ,H2,I2,st2,fun b hb=>(f2 b hb).1,w0⟩
 rintro n s3 ⟨i,σ3,H3,I3,st3,fr3,w3⟩
 rcases turn i n σ3 H3 w3 with⟨stop,qn⟩|⟨go,N,hN,step⟩
 .refine bY hp (thn (T.done X rfl rfl rfl hc i pins s3 σ3 H3 X.xe I3 (stat fr3) st3 stop) fun r s4 ⟨hr,I4⟩=>?_)
  subst hr
  exact wpAny_execs_nil ⟨σ3,H3,I4,qn⟩
 .refine bY hp (thn (T.item X rfl rfl rfl hc i pins s3 σ3 H3 X.xe I3 (stat fr3) st3 go) fun r s4 ⟨u,hr,h4⟩=>?_)
  subst hr
  refine bY hp (thn h4 fun _ s5 ⟨x,H5,I5,r5,y5,st5,fr5⟩=>?_)
  have I5':=I5.pinned (stat fr5) (T.obj _ _ st5)
  refine bY hp (thn (hg _ s5 σ3 H5 x u _ I5' r5 (step x H5 y5)) fun _ s6 ⟨σ6,H6,I6,q6⟩=>?_)
  refine bY hp (thn (hb _ s6 σ6 H6 _ I6 q6) fun f s7 q7=>?_)
  have again:∀{σ7:St} {H7:Hp},Inv X (pins++bQ' fp s5.heap) σ7 H7 s7->N σ7 H7->∃m,m<n/\∃i σ' H',Inv X pins σ' H' s7/\tn i s7.heap/\(∀b∈fp,H' b=none)/\W i m σ' H':=fun {σ7 H7} I7 n7=>by
   obtain⟨m',hm,w7⟩:=hN σ7 H7 n7
   refine⟨m',hm,i+1,σ7,H7,I7.unpinned,T.keep _ _ _ st5 fun b hb o e=>(I7.pin (b,o) (ax _ (ax _ (aU' hb e)))).1,fun b hb=>?_,w7⟩
   obtain⟨o,e,d⟩:=T.obj _ _ st5 b hb
   exact(I7.pin (b,o) (ax _ (ax _ (aU' hb e)))).2.1
  cases f with
  |next=>obtain⟨σ7,H7,I7,n7⟩:=q7;exact again I7 n7
  |cont=>obtain⟨σ7,H7,I7,n7⟩:=q7;exact again I7 n7
  |brk=>obtain⟨σ7,H7,I7,q7⟩:=q7;exact⟨σ7,H7,I7.unpinned,q7⟩
  |ret v=>obtain⟨x7,σ7,H7,I7,r7,q7⟩:=q7;exact⟨x7,σ7,H7,I7.unpinned,r7,q7⟩
end
theorem jL' {K:W.Frag} {a:Addr} {xs:List V} {g:TG} {tb:TS} {D:Ends} {σ:St} {H:Hp} (Pv:Nat->St->Hp->Prop) (h0:Pv 0 σ H) (hl:∀i σ H,i<=xs.length->Pv i σ H->SqL K H a xs)
  (hs:∀i x σ H,xs[i]?=some x->Pv i σ H->g x σ H fun σ2 H2=>tb { D with nx:=Pv (i+1),ct:=Pv (i+1),bk:=D.nx } σ2 H2) (hd:∀σ H,Pv xs.length σ H->D.nx σ H):
  ∃W:Nat->Nat->St->Hp->Prop,(∃m,W 0 m σ H)/\∀i m σ H,W i m σ H->
   ((Itl K a).stop i H/\D.nx σ H)\/((Itl K a).go i H/\∃N:St->Hp->Prop,(∀σ' H',N σ' H'->∃m',m'<m/\W (i+1) m' σ' H')/\∀x H',(Itl K a).yld i H x H'->g x σ H' fun σ2 H2=>tb { D with nx:=N,ct:=N,bk:=D.nx } σ2 H2):=by
 refine⟨fun i m σ H=>m=xs.length-i/\i<=xs.length/\Pv i σ H,⟨xs.length,by simp,bh _,h0⟩,?_⟩
 rintro i m σ H ⟨rfl,hi,p⟩
 have q:=hl i σ H hi p
 by_cases hlt:i<xs.length
 .refine .inr ⟨⟨xs,xs[i],q,by simp[hlt]⟩,Pv (i+1),fun σ' H' p'=>⟨xs.length-(i+1),by omega,rfl,hlt,p'⟩,fun x H' y=>?_⟩
  obtain⟨e,y⟩:=y
  subst e
  exact hs i x σ _ (y xs q) p
 .have e:i=xs.length:=by omega
  subst e
  exact .inl ⟨⟨xs,q,ak _⟩,hd σ H p⟩
theorem mY' {K:W.Frag} {a:Addr} {xs:List V} {g:TG} {tb:TS} {D:Ends} {σ:St} {H:Hp} (Pv:Nat->St->Hp->Prop) (h0:Pv 0 σ H) (hl:∀i σ H,i<=xs.length->Pv i σ H->SqT K H a xs)
  (hs:∀i x σ H,xs[i]?=some x->Pv i σ H->g x σ H fun σ2 H2=>tb { D with nx:=Pv (i+1),ct:=Pv (i+1),bk:=D.nx } σ2 H2) (hd:∀σ H,Pv xs.length σ H->D.nx σ H):
  ∃W:Nat->Nat->St->Hp->Prop,(∃m,W 0 m σ H)/\∀i m σ H,W i m σ H->
   ((Itt K a).stop i H/\D.nx σ H)\/((Itt K a).go i H/\∃N:St->Hp->Prop,(∀σ' H',N σ' H'->∃m',m'<m/\W (i+1) m' σ' H')/\∀x H',(Itt K a).yld i H x H'->g x σ H' fun σ2 H2=>tb { D with nx:=N,ct:=N,bk:=D.nx } σ2 H2):=by
 refine⟨fun i m σ H=>m=xs.length-i/\i<=xs.length/\Pv i σ H,⟨xs.length,by simp,bh _,h0⟩,?_⟩
 rintro i m σ H ⟨rfl,hi,p⟩
 have q:=hl i σ H hi p
 by_cases hlt:i<xs.length
 .refine .inr ⟨⟨xs,xs[i],q,by simp[hlt]⟩,Pv (i+1),fun σ' H' p'=>⟨xs.length-(i+1),by omega,rfl,hlt,p'⟩,fun x H' y=>?_⟩
  obtain⟨e,y⟩:=y
  subst e
  exact hs i x σ _ (y xs q) p
 .have e:i=xs.length:=by omega
  subst e
  exact .inl ⟨⟨xs,q,ak _⟩,hd σ H p⟩
theorem g0' {lo:Int} {n:Nat} {g:TG} {tb:TS} {D:Ends} {σ:St} {H:Hp} (Pv:Nat->St->Hp->Prop) (h0:Pv 0 σ H)
  (hs:∀i σ H,i<n->Pv i σ H->g (.int (lo+i)) σ H fun σ2 H2=>tb { D with nx:=Pv (i+1),ct:=Pv (i+1),bk:=D.nx } σ2 H2) (hd:∀σ H,Pv n σ H->D.nx σ H):
  ∃W:Nat->Nat->St->Hp->Prop,(∃m,W 0 m σ H)/\∀i m σ H,W i m σ H->
   ((Itr lo n).stop i H/\D.nx σ H)\/((Itr lo n).go i H/\∃N:St->Hp->Prop,(∀σ' H',N σ' H'->∃m',m'<m/\W (i+1) m' σ' H')/\∀x H',(Itr lo n).yld i H x H'->g x σ H' fun σ2 H2=>tb { D with nx:=N,ct:=N,bk:=D.nx } σ2 H2):=by
 refine⟨fun i m σ H=>m=n-i/\i<=n/\Pv i σ H,⟨n,by simp,bh _,h0⟩,?_⟩
 rintro i m σ H ⟨rfl,hi,p⟩
 by_cases hlt:i<n
 .refine .inr ⟨hlt,Pv (i+1),fun σ' H' p'=>⟨n-(i+1),by omega,rfl,hlt,p'⟩,fun x H' y=>?_⟩
  obtain⟨e,y⟩:=y
  subst e y
  exact hs i σ _ hlt p
 .have e:i=n:=by omega
  subst e
  exact .inl ⟨ak _,hd σ H p⟩
abbrev R2:=V->V->Hp->VK->Prop
def OpR (X:Cx) (f:Value->Value->Sem Value) (r:R2):Prop:=
 ∀(pins:List (Addr×Obj)) (s:Shared) (σ:St) (H:Hp) (x y:V) (v u:Value) (Q:VK),Inv X pins σ H s->as' x v->as' y u->r x y H Q->
  wpAny (model X.prog X.w) X.A (f v u) (EP X pins σ Q) X.xe s
def UnR (X:Cx) (f:Value->Sem Value) (r:V->Hp->VK->Prop):Prop:=
 ∀(pins:List (Addr×Obj)) (s:Shared) (σ:St) (H:Hp) (x:V) (v:Value) (Q:VK),Inv X pins σ H s->as' x v->r x H Q->
  wpAny (model X.prog X.w) X.A (f v) (EP X pins σ Q) X.xe s
def aN' (X:Cx) (f:Value) (r:List V->Hp->VK->Prop):Prop:=
 ∀(pins:List (Addr×Obj)) (s:Shared) (σ:St) (H:Hp) (xs:List V) (us:List Value) (Q:VK),Inv X pins σ H s->ax' xs us->r xs H Q->
  wpAny (model X.prog X.w) X.A (call f us) (EP X pins σ Q) X.xe s
def uG' (X:Cx) (r:V->Hp->(Bool->Hp->Prop)->Prop):Prop:=
 ∀(pins:List (Addr×Obj)) (s:Shared) (σ:St) (H:Hp) (x:V) (v:Value) (Q:Bool->Hp->Prop),Inv X pins σ H s->as' x v->r x H Q->
  wpAny (model X.prog X.w) X.A (truthy v) (TP X pins σ Q) X.xe s
def tOp (r:R2) (ta tb:TE):TE:=fun σ H Q=>ta σ H fun x H1=>tb σ H1 fun y H2=>r x y H2 Q
def tUn (r:V->Hp->VK->Prop) (ta:TE):TE:=fun σ H Q=>ta σ H fun x H1=>r x H1 Q
def rI (C:Int->Int->Prop) (g:Int->Int->V):R2:=fun x y H Q=>∃i j,x=.int i/\y=.int j/\C i j/\Q (g i j) H
def rI0 (g:Int->Int->V):R2:=fun x y H Q=>∃i j,x=.int i/\y=.int j/\Q (g i j) H
def rU (g:Int->V):V->Hp->VK->Prop:=fun x H Q=>∃i,x=.int i/\Q (g i) H
section
variable {X:Cx} {a b c:Expr} {ta tb tc:TE} {pos:Pos}
theorem sq' (ha:PE X a ta) (hb:PE X b tb) {pins:List (Addr×Obj)} {s:Shared} {σ:St} {H:Hp} {R:V->V->Hp->Prop} (I:Inv X pins σ H s)
  (h:ta σ H fun x H1=>tb σ H1 fun y H2=>R x y H2) {Q:Value->Shared->Prop} {f:Value->Value->Sem Value}
  (hf:∀v u s2 x y H2,Inv X pins σ H2 s2->as' x v->as' y u->R x y H2->wpAny (model X.prog X.w) X.A (f v u) Q X.xe s2):
  wpAny (model X.prog X.w) X.A (eval a X.env) (fun v s₁=>wpAny (model X.prog X.w) X.A (eval b X.env) (fun u s₂=>wpAny (model X.prog X.w) X.A (f v u) Q X.xe s₂) X.xe s₁) X.xe s:=by
 refine thn (ha pins s σ H _ I h) fun v s1 ⟨x,H1,I1,r1,q1⟩=>?_
 refine thn (hb pins s1 σ H1 _ I1 q1) fun u s2 ⟨y,H2,I2,r2,q2⟩=>?_
 exact hf v u s2 x y H2 I2 r1 r2 q2
theorem sr' {op:Operator} {r:R2} (ho:OpR X (binaryOp op) r) (ha:PE X a ta) (hb:PE X b tb):PE X (.BinOp a op b pos) (tOp r ta tb):=by
 intro pins s σ H Q I h
 exact wpAny_BinOp (sq' ha hb I h fun v u s2 x y H2 I2 rx ry q=>ho pins s2 σ H2 x y v u Q I2 rx ry q)
theorem ss' {op:UnaryOp} {r:V->Hp->VK->Prop} (ho:UnR X (unaryOp op) r) (ha:PE X a ta):PE X (.UnaryOp op a pos) (tUn r ta):=by
 intro pins s σ H Q I h
 exact UnaryOp_ (thn (ha pins s σ H _ I h) fun v s1 ⟨x,H1,I1,r1,q1⟩=>ho pins s1 σ H1 x v Q I1 r1 q1)
theorem opI {f:Value->Value->Sem Value} {C:Int->Int->Prop} {g:Int->Int->Int}
  (rule:∀(i j:Int) (t u:Tok) (s:Shared) (Q:Value->Shared->Prop) (E:Value->Shared->Prop),C i j->Q (.int (g i j) s.toks) { s with toks:=s.toks+1 }->wpAny (model X.prog X.w) X.A (f (.int i t) (.int j u)) Q E s):
  OpR X f (rI C fun i j=>.int (g i j)):=by
 intro pins s σ H x y v u Q I rx ry h
 obtain⟨i,j,rfl,rfl,hc,q⟩:=h
 obtain⟨t,rfl⟩:=rx
 obtain⟨t',rfl⟩:=ry
 exact rule i j t t' s _ _ hc ⟨.int (g i j),H,I.tok _,⟨_,rfl⟩,q⟩
theorem su' {f:Value->Value->Sem Value} {g:Int->Int->Int}
  (rule:∀(i j:Int) (t u:Tok) (s:Shared) (Q:Value->Shared->Prop) (E:Value->Shared->Prop),Q (.int (g i j) s.toks) { s with toks:=s.toks+1 }->wpAny (model X.prog X.w) X.A (f (.int i t) (.int j u)) Q E s):
  OpR X f (rI0 fun i j=>.int (g i j)):=by
 intro pins s σ H x y v u Q I rx ry h
 obtain⟨i,j,rfl,rfl,q⟩:=h
 obtain⟨t,rfl⟩:=rx
 obtain⟨t',rfl⟩:=ry
 exact rule i j t t' s _ _ ⟨.int (g i j),H,I.tok _,⟨_,rfl⟩,q⟩
theorem r0' {f:Value->Value->Sem Value} {g:Int->Int->Bool}
  (rule:∀(i j:Int) (t u:Tok) (s:Shared) (Q:Value->Shared->Prop) (E:Value->Shared->Prop),Q (.bool (g i j)) s->wpAny (model X.prog X.w) X.A (f (.int i t) (.int j u)) Q E s):
  OpR X f (rI0 fun i j=>.bl (g i j)):=by
 intro pins s σ H x y v u Q I rx ry h
 obtain⟨i,j,rfl,rfl,q⟩:=h
 obtain⟨t,rfl⟩:=rx
 obtain⟨t',rfl⟩:=ry
 exact rule i j t t' s _ _ ⟨.bl (g i j),H,I,rfl,q⟩
def uH' (i j:Int):Prop:=0<j/\j<1073741824
def sv' (i j:Int):Prop:=0<=j/\j<=1000000/\i.natAbs<2 ^ 64
def r1' (i j:Int):Prop:=(-(2 ^ 64)<i/\i<2 ^ 64)\/(-(2 ^ 64)<j/\j<2 ^ 64)
theorem r1'.ok {i j:Int} (h:r1' i j):IntMulOk i j:=by
 rcases h with⟨h1,h2⟩|⟨h1,h2⟩
 .exact .of_left (intBits_le_64 h1 h2)
 .exact .of_right (intBits_le_64 h1 h2)
theorem gj' (k:Nat):(0:Int)<=2 ^ k:=by
 rw[two_pow_cast]
 exact Int.natCast_nonneg _
theorem oV':OpR X (binaryOp .Add) (rI0 fun i j=>.int (i+j)):=su' fun _ _ _ _ _ _ _ q=>add_int q
theorem oW':OpR X (binaryOp .Sub) (rI0 fun i j=>.int (i-j)):=su' fun _ _ _ _ _ _ _ q=>sub_int q
theorem mZ':OpR X (binaryOp .FloorDiv) (rI uH' fun i j=>.int (i / j)):=opI fun i j _ _ _ _ _ hc q=>by
 have h1:(0:Int)<j:=hc.1
 have h2:j<1073741824:=hc.2
 exact floordiv_int (by omega) (by rw[Int.fdiv_eq_ediv_of_nonneg i (by omega)];exact q) (.inl (PyProof.noPylong_small (by omega)))
theorem oX':OpR X (binaryOp .Mod) (rI (fun _ j=>0<j) fun i j=>.int (i % j)):=opI fun i j _ _ _ _ _ hc q=>by
 have h1:(0:Int)<j:=hc
 exact mod_int' (by omega) (by rw[Int.fmod_eq_emod_of_nonneg i (by omega)];exact q)
theorem oY':OpR X (binaryOp .Pow) (rI sv' fun i j=>.int (i ^ j.toNat)):=opI fun _ _ _ _ _ _ _ hc q=>pow_int_small hc.1 hc.2.1 hc.2.2 q
theorem oZ':OpR X (binaryOp .RShift) (rI (fun _ j=>0<=j) fun i j=>.int (i / 2 ^ j.toNat)):=opI fun i j _ _ _ _ _ hc q=>
 rshift_int hc (by rw[Int.fdiv_eq_ediv_of_nonneg i (gj' _)];exact q)
theorem o0':OpR X (binaryOp .BitAnd) (rI0 fun i j=>.int (Builtin.bitAnd i j)):=su' fun _ _ _ _ _ _ _ q=>and_int q
theorem unI {f:Value->Sem Value} {g:Int->Int}
  (rule:∀(i:Int) (t:Tok) (s:Shared) (Q:Value->Shared->Prop) (E:Value->Shared->Prop),Q (.int (g i) s.toks) { s with toks:=s.toks+1 }->wpAny (model X.prog X.w) X.A (f (.int i t)) Q E s):
  UnR X f (rU fun i=>.int (g i)):=by
 intro pins s σ H x v Q I rx h
 obtain⟨i,rfl,q⟩:=h
 obtain⟨t,rfl⟩:=rx
 exact rule i t s _ _ ⟨.int (g i),H,I.tok _,⟨_,rfl⟩,q⟩
theorem o1':UnR X (unaryOp .USub) (rU fun i=>.int (-i)):=unI fun _ _ _ _ _ q=>neg_int q
end
def lh':V->V->Bool
 | .non,.non=>true | .non,.int _=>true | .int _,.non=>true | .non,.bl _=>true | .bl _,.non=>true | .non,.str _=>true | .str _,.non=>true
 | .int _,.int _=>true | .bl _,.bl _=>true | .str _,.str _=>true | .byt _,.byt _=>true
 | .int _,.str _=>true | .str _,.int _=>true | .bl _,.str _=>true | .str _,.bl _=>true
 |_,_=>false
def rEq:R2:=fun x y H Q=>lh' x y=true/\Q (.bl (decide (x=y))) H
def rNe:R2:=fun x y H Q=>lh' x y=true/\Q (.bl (!decide (x=y))) H
theorem eN' {i j:Int}:decide (V.int i=V.int j)=(i == j):=by
 rw[cv]
 simp
theorem li' {i j:Bool}:decide (V.bl i=V.bl j)=(i == j):=by
 rw[cv]
 simp
theorem g2' {i j:Str}:decide (V.str i=V.str j)=(i == j):=by
 rw[cv]
 simp
theorem g3' {i j:Array UInt8}:decide (V.byt i=V.byt j)=(i.toList == j.toList):=by
 rw[cv]
 cases i
 cases j
 simp
section
variable {X:Cx} {a b c:Expr} {ta tb tc:TE} {pos:Pos}
theorem ar' {pins:List (Addr×Obj)} {σ:St} {H:Hp} {s:Shared} {Q:VK} {k k':Bool} (I:Inv X pins σ H s) (q:Q (.bl k) H) (e:k=k'):EP X pins σ Q (.bool k') s:=by
 subst e
 exact⟨.bl k,H,I,rfl,q⟩
theorem sw':OpR X (compareOp .Eq) rEq:=by
 intro pins s σ H x y v u Q I rx ry h
 obtain⟨hs,q⟩:=h
 cases x with
 |non=>
  cases rx
  cases y with
  |non=>cases ry;exact PySem.EqNone.eq_none_none (ar' I q (by simp))
  |bl j=>cases ry;exact PySem.EqNone.eq_none_bool (ar' I q (by simp))
  |int j=>obtain⟨t',rfl⟩:=ry;exact PySem.EqNone.eq_none_int (ar' I q (by simp))
  |str j=>obtain⟨t',rfl⟩:=ry;exact PySem.EqNone.eq_none_str (ar' I q (by simp))
  |_=>exact absurd (show false=true from hs) ap
 |bl i=>
  cases rx
  cases y with
  |non=>cases ry;exact PySem.EqNone.eq_bool_none (ar' I q (by simp))
  |bl j=>cases ry;exact eq_bool (ar' I q li')
  |str j=>obtain⟨t',rfl⟩:=ry;exact PySem.EqMixed.eq_bool_str (ar' I q (by simp))
  |_=>exact absurd (show false=true from hs) ap
 |int i=>
  obtain⟨t,rfl⟩:=rx
  cases y with
  |non=>cases ry;exact PySem.EqNone.eq_int_none (ar' I q (by simp))
  |int j=>obtain⟨t',rfl⟩:=ry;exact eq_int (ar' I q eN')
  |str j=>obtain⟨t',rfl⟩:=ry;exact PySem.EqMixed.eq_int_str (ar' I q (by simp))
  |_=>exact absurd (show false=true from hs) ap
 |str i=>
  obtain⟨t,rfl⟩:=rx
  cases y with
  |non=>cases ry;exact PySem.EqNone.eq_str_none (ar' I q (by simp))
  |bl j=>cases ry;exact PySem.EqMixed.eq_str_bool (ar' I q (by simp))
  |int j=>obtain⟨t',rfl⟩:=ry;exact PySem.EqMixed.eq_str_int (ar' I q (by simp))
  |str j=>obtain⟨t',rfl⟩:=ry;exact eq_str (ar' I q g2')
  |_=>exact absurd (show false=true from hs) ap
 |byt i=>
  obtain⟨t,rfl⟩:=rx
  cases y with
  |byt j=>obtain⟨t',rfl⟩:=ry;exact W.eq_bytes (ar' I q g3')
  |_=>exact absurd (show false=true from hs) ap
 |_=>cases y<;>exact absurd (show false=true from hs) ap
theorem sx':OpR X (compareOp .NotEq) rNe:=by
 intro pins s σ H x y v u Q I rx ry h
 obtain⟨hs,q⟩:=h
 cases x with
 |non=>
  cases rx
  cases y with
  |non=>cases ry;exact PySem.EqNone.ne_none_none (ar' I q (by simp))
  |bl j=>cases ry;exact PySem.EqNone.ne_none_bool (ar' I q (by simp))
  |int j=>obtain⟨t',rfl⟩:=ry;exact PySem.EqNone.ne_none_int (ar' I q (by simp))
  |str j=>obtain⟨t',rfl⟩:=ry;exact PySem.EqNone.ne_none_str (ar' I q (by simp))
  |_=>exact absurd (show false=true from hs) ap
 |bl i=>
  cases rx
  cases y with
  |non=>cases ry;exact PySem.EqNone.ne_bool_none (ar' I q (by simp))
  |bl j=>cases ry;exact ne_bool (ar' I q (congrArg not li'))
  |str j=>obtain⟨t',rfl⟩:=ry;exact PySem.EqMixed.ne_bool_str (ar' I q (by simp))
  |_=>exact absurd (show false=true from hs) ap
 |int i=>
  obtain⟨t,rfl⟩:=rx
  cases y with
  |non=>cases ry;exact PySem.EqNone.ne_int_none (ar' I q (by simp))
  |int j=>obtain⟨t',rfl⟩:=ry;exact ne_int (ar' I q (congrArg not eN'))
  |str j=>obtain⟨t',rfl⟩:=ry;exact PySem.EqMixed.ne_int_str (ar' I q (by simp))
  |_=>exact absurd (show false=true from hs) ap
 |str i=>
  obtain⟨t,rfl⟩:=rx
  cases y with
  |non=>cases ry;exact PySem.EqNone.ne_str_none (ar' I q (by simp))
  |bl j=>cases ry;exact PySem.EqMixed.ne_str_bool (ar' I q (by simp))
  |int j=>obtain⟨t',rfl⟩:=ry;exact PySem.EqMixed.ne_str_int (ar' I q (by simp))
  |str j=>obtain⟨t',rfl⟩:=ry;exact ne_str (ar' I q (congrArg not g2'))
  |_=>exact absurd (show false=true from hs) ap
 |byt i=>
  obtain⟨t,rfl⟩:=rx
  cases y with
  |byt j=>obtain⟨t',rfl⟩:=ry;exact W.ne_bytes (ar' I q (congrArg not g3'))
  |_=>exact absurd (show false=true from hs) ap
 |_=>cases y<;>exact absurd (show false=true from hs) ap
theorem sy':OpR X (compareOp .Lt) (rI0 fun i j=>.bl (decide (i<j))):=r0' fun _ _ _ _ _ _ _ q=>lt_int q
theorem sz':OpR X (compareOp .LtE) (rI0 fun i j=>.bl (decide (i<=j))):=r0' fun _ _ _ _ _ _ _ q=>le_int q
theorem sA':OpR X (compareOp .Gt) (rI0 fun i j=>.bl (decide (j<i))):=r0' fun _ _ _ _ _ _ _ q=>gt_int q
theorem sB':OpR X (compareOp .GtE) (rI0 fun i j=>.bl (decide (j<=i))):=r0' fun _ _ _ _ _ _ _ q=>ge_int q
theorem g4':OpR X (compareOp .Lt) (fun x y H Q=>∃i j,x=.str i/\y=.str j/\Q (.bl (decide (i.cps.toList<j.cps.toList))) H):=by
 intro pins s σ H x y v u Q I rx ry h
 obtain⟨i,j,rfl,rfl,q⟩:=h
 obtain⟨t,rfl⟩:=rx
 obtain⟨t',rfl⟩:=ry
 exact lt_str (ar' I q rfl)
theorem o2':OpR X (compareOp .Is) (fun x y H Q=>y=.non/\Q (.bl (decide (x=.non))) H):=by
 intro pins s σ H x y v u Q I rx ry h
 obtain⟨rfl,q⟩:=h
 cases ry
 refine is_none_gen (ar' I q ?_)
 cases x<;>first
  |(cases rx;rfl)
  |(obtain⟨t,rfl⟩:=rx;rfl)
theorem m0':OpR X (compareOp .IsNot) (fun x y H Q=>y=.non/\Q (.bl (!decide (x=.non))) H):=by
 intro pins s σ H x y v u Q I rx ry h
 obtain⟨rfl,q⟩:=h
 cases ry
 refine isnot_none_gen (ar' I q ?_)
 cases x<;>first
  |(cases rx;rfl)
  |(obtain⟨t,rfl⟩:=rx;rfl)
theorem OpR.or {f:Value->Value->Sem Value} {r r':R2} (h:OpR X f r) (h':OpR X f r'):OpR X f (fun x y H Q=>r x y H Q\/r' x y H Q):=by
 intro pins s σ H x y v u Q I rx ry q
 rcases q with q|q
 .exact h pins s σ H x y v u Q I rx ry q
 .exact h' pins s σ H x y v u Q I rx ry q
theorem m1' {op:CmpOp} {r:R2} (ho:OpR X (compareOp op) r) (ha:PE X a ta) (hb:PE X b tb) (hm:behindInMarks op b=false):PE X (.Compare a [op] [b] pos) (tOp r ta tb):=by
 intro pins s σ H Q I h
 exact wpAny_Compare1 (sq' ha hb I h fun v u s2 x y H2 I2 rx ry q=>ho pins s2 σ H2 x y v u Q I2 rx ry q) hm
def g5' (t:TE):TT:=fun σ H Q=>t σ H fun x H'=>∃k,x=.bl k/\Q k H'
theorem g6' {op:CmpOp} {r:R2} (ho:OpR X (compareOp op) r) (ha:PE X a ta) (hb:PE X b tb) (hm:behindInMarks op b=false):PT X (.Compare a [op] [b] pos) (g5' (tOp r ta tb)):=by
 intro pins s σ H Q I h
 refine wpAny_isTrue_Compare1 (thn (ha pins s σ H _ I h) fun v s1 ⟨x,H1,I1,r1,q1⟩=>thn (hb pins s1 σ H1 _ I1 q1) fun u s2 ⟨y,H2,I2,r2,q2⟩=>
  thn (ho pins s2 σ H2 x y v u _ I2 r1 r2 q2) fun c s3 ⟨z,H3,I3,r3,k,e,q3⟩=>?_) hm
 subst e
 cases r3
 exact cz ⟨H3,I3,q3⟩
def o3' (K:W.Frag) (x:V) (H:Hp) (k:Bool):Prop:=
 match x with
 | .non=>k=false
 | .bl b=>k=b
 | .int i=>k=(i != 0)
 | .str y=>y.length<=sizeLine/\k=((y.length:Int) != 0)
 | .byt y=>y.size<=sizeLine/\k=((y.size:Int) != 0)
 | .ref p=>(∃xs,SqL K H p xs/\k=!xs.isEmpty)\/(∃xs,SqT K H p xs/\k=!xs.isEmpty)\/∃kvs,H p=some (.dK kvs)/\k=!kvs.isEmpty
 |_=>False
theorem gk' {κ:Type} {kvs:List (κ×V)} {vs:List (κ×Value)} (r:KV kvs vs):(!vs.isEmpty)=!kvs.isEmpty:=by
 cases r<;>rfl
theorem db' {xs:List V} {its:List Value} (r:ax' xs its):(!its.toArray.isEmpty)=!xs.isEmpty:=by
 cases r<;>simp
theorem dc':(sizeLine:Nat)<2 ^ 63:=by rw[sizeLine_eq];decide
theorem o4':uG' X (fun x H Q=>∃k,o3' X.K x H k/\Q k H):=by
 intro pins s σ H x v Q I rx h
 obtain⟨k,e,q⟩:=h
 have hl:=dc'
 have hs:sizeLine=16777216:=sizeLine_eq
 cases x with
 |non=>
  cases rx
  have e':k=false:=e
  subst e'
  exact truthy_none ⟨H,I,q⟩
 |bl b=>
  cases rx
  have e':k=b:=e
  subst e'
  exact cz ⟨H,I,q⟩
 |int i=>
  obtain⟨t,rfl⟩:=rx
  have e':k=(i != 0):=e
  subst e'
  exact PySem.P.truthy_int ⟨H,I,q⟩
 |str y=>
  obtain⟨t,rfl⟩:=rx
  obtain⟨hy,e'⟩:y.length<=sizeLine/\k=((y.length:Int) != 0):=e
  subst e'
  exact PySem.P.truthy_str (by omega) ⟨H,I.tok _,q⟩
 |byt y=>
  obtain⟨t,rfl⟩:=rx
  obtain⟨hy,e'⟩:y.size<=sizeLine/\k=((y.size:Int) != 0):=e
  subst e'
  exact W.truthy_bytes (by omega) ⟨H,I.tok _,q⟩
 |ref p=>
  cases rx
  have e':(∃xs,SqL X.K H p xs/\k=!xs.isEmpty)\/(∃xs,SqT X.K H p xs/\k=!xs.isEmpty)\/∃kvs,H p=some (.dK kvs)/\k=!kvs.isEmpty:=e
  rcases e' with⟨xs,hx,e'⟩|⟨xs,hx,e'⟩|⟨kvs,hx,e'⟩
  .subst e'
   obtain⟨its,r,pl,hz⟩:=I.list hx
   have hlen:=r.length
   exact wpAny_truthy_list pl.isList (by simp only[aj];omega) ⟨H,I.tok _,by rw[db' r];exact q⟩
  .subst e'
   obtain⟨its,r,pl,hz⟩:=I.tuple hx
   have hlen:=r.length
   exact truthy_tuple pl (by simp only[aj];omega) ⟨H,I.tok _,by rw[db' r];exact q⟩
  .subst e'
   obtain⟨hz,hS,vs,r,m⟩:kvs.length<=sizeLine/\(p == sysModules)=false/\∃vs,KV kvs vs/\s.heap.DictOf (at' X.prog X.w) p vs:=I.hok p _ hx
   have hlen:kvs.length=vs.length:=Paired.length r
   exact wpAny_truthy_dict hS m (by omega) ⟨H,I.tok _,by rw[gk' r];exact q⟩
 |_=>exact(show False from e).elim
theorem jM' (ha:PE X a ta) (he:∀whole,isTrue a X.env whole=(do let v <- whole;standAt a.pos;holding [v] (truthy v))):
  PT X a (fun σ H Q=>ta σ H fun x H'=>∃k,o3' X.K x H' k/\Q k H'):=by
 intro pins s σ H Q I h
 exact isTrue_plain (thn (ha pins s σ H _ I h) fun v s1 ⟨x,H1,I1,r1,q1⟩=>o4' pins s1 σ H1 x v Q I1 r1 q1) (he _)
theorem gl':OpR X (binaryOp .Add) (fun x y H Q=>∃i j,x=.str i/\y=.str j/\i.length+j.length<=sizeLine/\Q (.str (i++j)) H):=by
 intro pins s σ H x y v u Q I rx ry h
 obtain⟨i,j,rfl,rfl,hz,q⟩:=h
 obtain⟨t,rfl⟩:=rx
 obtain⟨t',rfl⟩:=ry
 exact add_str (fun t' tk=>⟨.str (i++j),H,I.tok _,⟨_,rfl⟩,q⟩) hz
theorem c3' {x:V} {us:List Value} (r:ax' [x] us):∃u,us=[u]/\as' x u:=by
 cases r with
 |cons r1 r2=>cases r2;exact⟨_,rfl,r1⟩
theorem o5' {x y:V} {us:List Value} (r:ax' [x,y] us):∃u w',us=[u,w']/\as' x u/\as' y w':=by
 cases r with
 |cons r1 r2=>
  cases r2 with
  |cons r3 r4=>cases r4;exact⟨_,_,rfl,r1,r3⟩
theorem jN':aN' X (.builtin "abs") (fun xs H Q=>∃i,xs=[.int i]/\Q (.int (if i<0 then -i else i)) H):=by
 intro pins s σ H xs us Q I r h
 obtain⟨i,rfl,q⟩:=h
 obtain⟨u,rfl,t,rfl⟩:=c3' r
 exact call_abs_int fun u tk=>⟨.int (if i<0 then -i else i),H,I.tok _,⟨_,rfl⟩,q⟩
theorem g7' (hc:X.calm=true):aN' X (.builtin "min") (fun xs H Q=>∃i j,xs=[.int i,.int j]/\Q (.int (if j<i then j else i)) H):=by
 intro pins s σ H xs us Q I r h
 obtain⟨i,j,rfl,q⟩:=h
 obtain⟨u,w',rfl,⟨t,rfl⟩,⟨t',rfl⟩⟩:=o5' r
 refine min_two_ints (I.ok.hd hc) fun h' tk k=>⟨_,H,I.kept k,?_,q⟩
 by_cases hj:j<i
 .rw[if_pos hj,if_pos hj];exact⟨_,rfl⟩
 .rw[if_neg hj,if_neg hj];exact⟨_,rfl⟩
theorem g8':aN' X (.type "int") (fun xs H Q=>(∃i,xs=[.int i]/\Q (.int i) H)\/∃k,xs=[.bl k]/\Q (.int (if k then 1 else 0)) H):=by
 intro pins s σ H xs us Q I r h
 rcases h with⟨i,rfl,q⟩|⟨k,rfl,q⟩
 .obtain⟨u,rfl,t,rfl⟩:=c3' r
  exact call_int_int ⟨.int i,H,I,⟨_,rfl⟩,q⟩
 .obtain⟨u,rfl,r1⟩:=c3' r
  cases r1
  exact call_int_bool ⟨.int (if k then 1 else 0),H,I.tok _,⟨_,rfl⟩,q⟩
def tW' (K:W.Frag) (x:V) (H:Hp) (n:Nat):Prop:=
 match x with
 | .str y=>y.length<=sizeLine/\n=y.length
 | .byt y=>y.size<=sizeLine/\n=y.size
 | .ref p=>(∃xs,SqL K H p xs/\n=xs.length)\/∃xs,SqT K H p xs/\n=xs.length
 |_=>False
theorem jO':aN' X (.builtin "len") (fun xs H Q=>∃x n,xs=[x]/\tW' X.K x H n/\Q (.int n) H):=by
 intro pins s σ H xs us Q I r h
 obtain⟨x,n,rfl,e,q⟩:=h
 obtain⟨u,rfl,rx⟩:=c3' r
 have hl:=dc'
 have hs:sizeLine=16777216:=sizeLine_eq
 cases x with
 |str y=>
  obtain⟨t,rfl⟩:=rx
  obtain⟨hy,e'⟩:y.length<=sizeLine/\n=y.length:=e
  subst e'
  exact len_str (by omega) ⟨.int _,H,I.tok _,⟨_,rfl⟩,q⟩
 |byt y=>
  obtain⟨t,rfl⟩:=rx
  obtain⟨hy,e'⟩:y.size<=sizeLine/\n=y.size:=e
  subst e'
  exact W.len_bytes (by omega) ⟨.int _,H,I.tok _,⟨_,rfl⟩,q⟩
 |ref p=>
  cases rx
  have e':(∃xs,SqL X.K H p xs/\n=xs.length)\/∃xs,SqT X.K H p xs/\n=xs.length:=e
  rcases e' with⟨xs,hx,e'⟩|⟨xs,hx,e'⟩
  .subst e'
   obtain⟨its,r',pl,hz⟩:=I.list hx
   have hlen:=r'.length
   exact Calls.call_len_list pl.isList (by simp only[aj];omega) ⟨.int xs.length,H,I.tok _,⟨_,by simp only[aj];rw[hlen]⟩,q⟩
  .subst e'
   obtain⟨its,r',pl,hz⟩:=I.tuple hx
   have hlen:=r'.length
   exact len_tuple pl (by simp only[aj];omega) ⟨.int xs.length,H,I.tok _,⟨_,by simp only[aj];rw[hlen]⟩,q⟩
 |_=>exact(show False from e).elim
end
structure ObjM (h:Heap) (x dx C:Addr) (mA:Str->Option Value):Prop where
 obj:h.get? x=some (W.instObj C dx)
 ns:h.Ns1 dx mA
 ne:dx≠x
section
variable {prog:Program} {w:World} {A:Around} {E:Value->Shared->Prop} {s:Shared} {K:W.Frag} {x dx C f:Addr} {mA:Str->Option Value} {name:Str} {v:Value}
end
section
variable {P:Program} {w:World} {H H':Hp} {h h':Heap} {a C dx:Addr} {fs fs':List (Str×V)}
end
structure Cls (K:W.Frag) (C:Addr):Prop where
 pg:W.plainGet K C Str.empty=true
 hd:W.hasDictIn K C=true
 po:W.plainOver K C=true
 sa:W.findIn K (.ref C) "__setattr__"=some (some (.builtin "object.__setattr__"))
theorem Cls.get {K:W.Frag} {C:Addr} (c:Cls K C) (f:Str):W.plainGet K C f=true:=c.pg
structure Con (K:W.Frag) (C:Addr) (f:Str) (v:V) (u:Value):Prop where
 at_:W.findIn K (.ref C) f=some (some u)
 rel:as' v u
 get:W.specialIn K u "__get__"=some none
 cp:W.copiedNames.contains f=false
structure Meth (K:W.Frag) (C:Addr) (m:Str) (f:Addr):Prop where
 at_:W.findIn K (.ref C) m=some (some (.ref f))
 fn:W.isFn K (.ref f)=true
 kp:W.keepIn K (.ref f)=true
section
variable {X:Cx} {pins:List (Addr×Obj)} {σ:St} {H:Hp} {s:Shared} {a C dx:Addr} {fs:List (Str×V)} {f:Str} {v:V} {A:Around} {E:Value->Shared->Prop}
end
section
variable {X:Cx} {o e value:Expr} {f:Str} {pos pos' tpos:Pos} {ta tv:TE}
end
section
variable {X:Cx} {pins:List (Addr×Obj)} {σ:St} {H:Hp} {s:Shared} {A:Around} {E:Value->Shared->Prop} {Q:Value->Shared->Prop} {c:Value} {b:Bool}
inductive TyOf (K:W.Frag) (H:Hp):V->Value->Prop where
 |non:TyOf K H .non (.type "NoneType")
 |bl (x:Bool):TyOf K H (.bl x) (.type "bool")
 |int (i:Int):TyOf K H (.int i) (.type "int")
 |str (x:Str):TyOf K H (.str x) (.type "str")
 |flt (x:UInt64):TyOf K H (.flt x) (.type "float")
 |lst {a:Addr} {xs:List V} (e:H a=some (.lst xs)):TyOf K H (.ref a) (.type "list")
 |frz {a:Addr} {o:Obj} {xs:List V} (e:H a=some (.frz o (.lst xs))):TyOf K H (.ref a) (.type "list")
 |tup {a:Addr} {xs:List V} (e:H a=some (.tup xs)):TyOf K H (.ref a) (.type "tuple")
 |dK {a:Addr} {kvs:List (Key×V)} (e:H a=some (.dK kvs)):TyOf K H (.ref a) (.type "dict")
 |dT {a:Addr} {kvs:List (List Key×V)} (e:H a=some (.dT kvs)):TyOf K H (.ref a) (.type "dict")
 |ins {a C dx:Addr} {fs:List (Str×V)} (e:H a=some (.ins C dx fs)) (cl:Cls K C) (ha:W.findIn K (.ref C) "__class__"=some (some (.builtin "object.__class__")))
   (hn:W.specialIn K (.builtin "object.__class__") "__get__"=some (some (.builtin "getset_descriptor.__get__"))) (htk:W.takesIn K (.builtin "object.__class__")=some true)
   (hm:W.mroIn K C (.type "object")=some true):TyOf K H (.ref a) (.ref C)
end
structure Room (k:Nat) (A:Around):Prop where
 hd:A.handled=none
 dp:A.depth+3*k+5<recursionLimit
 un:A.units+16*k+200<cLine
 gd:A.guards=some []
theorem Room.mono {j k:Nat} {A:Around} (r:Room k A) (h:j<=k):Room j A:=⟨r.hd,by have:=r.dp;omega,by have:=r.un;omega,r.gd⟩
theorem Room.deeper {k:Nat} {A:Around} (r:Room (k+1) A) (env:Env):Room k (A.deeper env):=
 ⟨r.hd,by have:=r.dp;show A.depth+1+3*k+5<_;omega,by have:=r.un;show A.units+3+16*k+200<_;omega,r.gd⟩
theorem Room.depth {k:Nat} {A:Around} (r:Room k A):A.depth<recursionLimit:=by have:=r.dp;omega
theorem Room.units {k:Nat} {A:Around} (r:Room k A):A.units+64<cLine:=by have:=r.un;omega
def fg':TA:=fun _ H Q=>Q [] H
def be' (ta:TE) (tr:TA):TA:=fun σ H Q=>ta σ H fun x H1=>tr σ H1 fun xs H2=>Q (x :: xs) H2
section
variable {X:Cx} {e:Expr} {es:List Expr} {te:TE} {t:TA} {pos:Pos}
theorem de':PA X [] fg':=fun _ _ _ _ H Q I h=>Calls.spliced_nil ⟨[],H,I,.nil,h⟩
theorem bj' (ha:PE X e te) (hr:PA X es t) (hs:starEach (e :: es) X.env=(false,eval e X.env) :: starEach es X.env:=by rfl):PA X (e :: es) (be' te t):=by
 intro pos pins s σ H Q I h
 rw[hs]
 show wpAny _ _ (spliced ((false,eval e X.env) :: backTo pos (starEach es X.env))) _ _ s
 refine Calls.spliced_cons (thn (ha pins s σ H _ I h) fun u s1 ⟨x,H1,I1,r1,q1⟩=>?_)
 exact thn (hr pos pins s1 σ H1 _ I1 q1) fun us s2 ⟨xs,H2,I2,r2,q2⟩=>⟨x :: xs,H2,I2,.cons r1 r2,q2⟩
def sC' (t:TA):TE:=fun σ H Q=>t σ H fun xs H1=>xs.length<=sizeLine/\∀p,H1 p=none->Q (.ref p) (upd H1 p (.tup xs))
def sD' (t:TA):TE:=fun σ H Q=>t σ H fun xs H1=>xs.length<=sizeLine/\∀p,H1 p=none->Q (.ref p) (upd H1 p (.lst xs))
theorem o6' {x1} (h:PA X es t):PE X (.Tuple es x1 pos) (sC' t):=by
 intro pins s σ H Q I hq
 refine wpAny_Tuple_spliced (thn (h pos pins s σ H _ I hq) fun us s1 ⟨xs,H1,I1,r,z,q⟩=>⟨by rw[<- r.length];exact z,?_⟩)
 have hf:H1 s1.heap.objs.size=none:=I1.hok.fresh (ak _)
 refine⟨.ref s1.heap.objs.size,upd H1 s1.heap.objs.size (.tup xs),I1.laid (t':=s1.toks) (fun b u e=>ae _ e) (ak _) ?_,rfl,q _ hf⟩
 exact⟨z,us,r,⟨_,aw _ rfl,rfl,⟨_,rfl⟩,rfl⟩⟩
theorem o7' (h:PA X es t):PE X (.List es pos) (sD' t):=by
 intro pins s σ H Q I hq
 refine wpAny_List_spliced (thn (h pos pins s σ H _ I hq) fun us s1 ⟨xs,H1,I1,r,z,q⟩=>⟨by rw[<- r.length];exact z,?_⟩)
 have hf:H1 s1.heap.objs.size=none:=I1.hok.fresh (ak _)
 refine⟨.ref s1.heap.objs.size,upd H1 s1.heap.objs.size (.lst xs),I1.laid (t':=s1.toks) (fun b u e=>ae _ e) (ak _) ?_,rfl,q _ hf⟩
 exact⟨z,us,0,r,aw _ rfl⟩
end
abbrev Sp:=List V->Hp->VK->XK->Prop
abbrev CXT:=List Env->Hp->Shared->XK->Value->Shared->Prop
structure Env0 (P:Program) (w:World) (K:W.Frag) (mg:Str->Option Value) (base:Heap) (A:Around) (outer:List Env) (s:Shared) (H:Hp):Prop where
 frames:A.frames=some outer
 mod:Mod K mg base
 bs:∀b o,base.get? b=some o->s.heap.get? b=some o/\H b=none
 bsz:base.objs.size<=s.heap.objs.size
 funs:s.heap.FunFrames base outer
 frf:∀b∈frs outer,H b=none
 hok:HOk P w H s.heap
 bare:AllBare s.gens
def CE (outer:List Env) (P:Program) (w:World) (H:Hp) (s:Shared) (Q:VK) (u:Value) (s':Shared):Prop:=
 ∃v H',s'.os=s.os/\AllBare s'.gens/\Un (frs outer) [] H H' s.heap s'.heap/\HOk P w H' s'.heap/\as' v u/\Q v H'
def CR (CX:CXT) (outer:List Env) (P:Program) (w:World) (H:Hp) (s:Shared) (Q:VK) (E:XK) (r:Result) (s':Shared):Prop:=
 match r with
 | .ok (.ret u)=>CE outer P w H s Q u s'
 | .ok _=>False
 | .error e=>CX outer H s E e s'
structure FnOk (P:Program) (w:World) (K:W.Frag) (mg:Str->Option Value) (base:Heap) (CX:CXT) (k:Nat) (f:Addr) (fd:FuncData) (ps:List Str) (sp:Sp):Prop where
 len:∀vs H Q E,sp vs H Q E->vs.length=ps.length
 run:∀(A:Around) (outer:List Env) (s:Shared) (H:Hp) (args:Args) (us:List Value) (vs:List V) (Q:VK) (E:XK),Room k A->Env0 P w K mg base A outer s H->BindsTo s fd args (ps.zip us)->ax' vs us->sp vs H Q E->
  codeAny (model P w) A (.call (.ref f) args) (CR CX outer P w H s Q E) s
theorem FnOk.mono {P:Program} {w:World} {K:W.Frag} {mg:Str->Option Value} {base:Heap} {CX:CXT} {j k:Nat} {f:Addr} {fd:FuncData} {ps:List Str} {sp:Sp} (F:FnOk P w K mg base CX j f fd ps sp) (h:j<=k):
  FnOk P w K mg base CX k f fd ps sp:=⟨F.len,fun A outer s H args us vs Q E hr=>F.run A outer s H args us vs Q E (hr.mono h)⟩
section
variable {X:Cx} {pins:List (Addr×Obj)} {σ:St} {H:Hp} {s s':Shared}
theorem Inv.env0 (I:Inv X pins σ H s):Env0 X.prog X.w X.K X.mg X.base X.A X.stack s H:=
 ⟨I.ok.frames,I.ok.mod,I.bs,aS I.ok.bsz I.sz,I.stack,I.stkFree,I.hok,I.bare⟩
theorem Inv.after {Q:VK} {u:Value} (I:Inv X pins σ H s) (h:CE X.stack X.prog X.w H s Q u s'):EP X pins σ Q u s':=by
 obtain⟨v,H',os,bare,un,hok,r,q⟩:=h
 obtain⟨hh,g,d,t,os'⟩:=s'
 obtain rfl:os'=s.os:=os
 exact⟨v,H',I.call (h':=hh) (g':=g) (d':=d) (t':=t) (ch:=[]) un hok bare (fun b z=>absurd z (by simp)),r,q⟩
end
def jP' (sp:Sp) (dvs:List V) (E:XK) (t:TA):TE:=fun σ H Q=>t σ H fun vs H1=>sp (vs++dvs) H1 Q E
def c4' (K:W.Frag) (fd:FuncData) (ps:List Str) (ds:List Value):Prop:=
 ∀(s:Shared) (us:List Value),K.In s.heap->(us++ds).length=ps.length->BindsTo s fd ⟨us,[]⟩ (ps.zip (us++ds))
theorem c4'.all {K:W.Frag} {fd:FuncData} {ps:List Str} (h:∀us:List Value,us.length=ps.length->bindArgs fd ⟨us,[]⟩=pure (ps.zip us)):c4' K fd ps []:=fun s us _ hl=>by
 rw[cw]at hl ⊢
 exact .of_eq (h us hl)
section
variable {X:Cx} {CX:CXT} {k:Nat} {f C:Addr} {fd:FuncData} {ps:List Str} {sp:Sp} {dvs:List V} {ds:List Value} {E:XK} {x m:Str} {p pos apos:Pos} {e o:Expr} {es:List Expr} {ta:TE} {t:TA}
structure Mk (K:W.Frag) (C f:Addr):Prop where
 makes:W.makesIn K C=true
 init:W.findIn K (.ref C) "__init__"=some (some (.ref f))
 fn:W.isFn K (.ref f)=true
 kp:W.keepIn K (.ref C)=true
end
section
variable {X:Cx} {CX:CXT} {k:Nat} {f C:Addr} {fd:FuncData} {ps ks:List Str} {sp:Sp} {E:XK} {x m:Str} {p pos apos kpos:Pos} {e o:Expr} {es:List Expr} {kws:List Keyword} {te ta:TE} {t tk:TA} {nm:Option Str}
structure KBinds (K:W.Frag) (fd:FuncData) (ps ks:List Str) (g:List Value->List Value->List Value) (gV:List V->List V->List V):Prop where
 to:∀(s:Shared) (us ws:List Value),K.In s.heap->(g us ws).length=ps.length->BindsTo s fd ⟨us,ks.zip ws⟩ (ps.zip (g us ws))
 rel:∀{vs:List V} {us:List Value} {zs:List V} {ws:List Value},ax' vs us->ax' zs ws->ax' (gV vs zs) (g us ws)
variable {g:List Value->List Value->List Value} {gV:List V->List V->List V}
end
structure FnScope (N P:List Str) (sc:Scope):Prop where
 kind:sc.kind=.function
 co:sc.isCoroutine=false
 gen:sc.isGenerator=false
 nd:N.Nodup
 pre:N.take P.length=P
 par:∀x∈P,sc.names.lookup x=some .local\/sc.names.lookup x=some .cell
 nofree:∀y∈sc.names,y.2≠.free
theorem d0' {kindOf:Str->Option NameKind} {x:Str}:∀{binds:List (Str×Value)} {m:Str->Option Value},(∀v,(x,v)∉binds)->bindL kindOf binds m x=m x
 | [],_,_=>rfl
 |(n,v) :: r,m,h=>by
  unfold bindL
  rw[d0' fun w hw=>h w (ao _ hw)]
  split
  .have:x≠n:=by rintro rfl;exact h v aA
   simp[this]
  .rfl
theorem d1' {kindOf:Str->Option NameKind} {x:Str}:∀{binds:List (Str×Value)} {m:Str->Option Value},(∀v,(x,v)∉binds)->bindC kindOf binds m x=m x
 | [],_,_=>rfl
 |(n,v) :: r,m,h=>by
  unfold bindC
  rw[d1' fun w hw=>h w (ao _ hw)]
  split
  .rfl
  .have:x≠n:=by rintro rfl;exact h v aA
   simp[this]
theorem d2' {kindOf:Str->Option NameKind} {x:Str} {v:Value}:∀{P:List Str} {vs:List Value} {i:Nat} {m:Str->Option Value},P.Nodup->P[i]?=some x->vs[i]?=some v->kindOf x=some .local->
  bindL kindOf (P.zip vs) m x=some v
 | [],_,_,_,_,h,_,_=>by simp at h
 |_ :: _,[],_,_,_,_,h,_=>by simp at h
 |p :: P,w :: vs,0,m,nd,h1,h2,hk=>by
  simp at h1 h2;subst h1;subst h2
  show bindL kindOf ((p,w) :: P.zip vs) m p=_
  unfold bindL
  rw[d0' fun v hv=>(bG.mp nd).1 (List.of_mem_zip hv).1,if_pos hk]
  simp
 |p :: P,w :: vs,i+1,m,nd,h1,h2,hk=>by
  show bindL kindOf ((p,w) :: P.zip vs) m x=_
  unfold bindL
  exact d2' (i:=i) (bG.mp nd).2 (by simpa using h1) (by simpa using h2) hk
theorem d3' {kindOf:Str->Option NameKind} {x:Str} {v:Value}:∀{P:List Str} {vs:List Value} {i:Nat} {m:Str->Option Value},P.Nodup->P[i]?=some x->vs[i]?=some v->kindOf x≠some .local->
  bindC kindOf (P.zip vs) m x=some v
 | [],_,_,_,_,h,_,_=>by simp at h
 |_ :: _,[],_,_,_,_,h,_=>by simp at h
 |p :: P,w :: vs,0,m,nd,h1,h2,hk=>by
  simp at h1 h2;subst h1;subst h2
  show bindC kindOf ((p,w) :: P.zip vs) m p=_
  unfold bindC
  rw[d1' fun v hv=>(bG.mp nd).1 (List.of_mem_zip hv).1,if_neg hk]
  simp
 |p :: P,w :: vs,i+1,m,nd,h1,h2,hk=>by
  show bindC kindOf ((p,w) :: P.zip vs) m x=_
  unfold bindC
  exact d3' (i:=i) (bG.mp nd).2 (by simpa using h1) (by simpa using h2) hk
def aO' (N:List Str) (vs:List V):St:=vs.map some++aC (N.length-vs.length) none
def oz' (CX:CXT) (P:Program) (w:World) (K:W.Frag) (mg:Str->Option Value) (base:Heap) (N:List Str) (qual:Str) (scope:Scope) (f:Addr) (cd:Value) (A:Around) (outer:List Env) (s:Shared) (H:Hp) (E:XK):Cx where
 prog:=P
 w:=w
 K:=K
 mg:=mg
 base:=base
 A:=A.deeper (envOfC qual scope s.heap.objs.size f cd)
 N:=N
 s₀:=s
 H₀:=H
 env:=envOfC qual scope s.heap.objs.size f cd
 outer:=outer
 stack:=envOfC qual scope s.heap.objs.size f cd :: outer
 ex:=[]
 calm:=true
 fn:=fun _=>true
 pn:=[]
 xe:=fun e s'=>wpAny (model P w) (A.deeper (envOfC qual scope s.heap.objs.size f cd)) (leaving (envOfC qual scope s.heap.objs.size f cd) e) (fun _ s''=>CX outer H s E e s'') (fun e' s''=>CX outer H s E e' s'') s'
theorem dw' {sc:Scope} {n:Nat} {x:Str} (h:sc.names.lookup x=some .cell):∃c,(cellsFrom n sc.names []).lookup x=some c:=by
 have q:=W.cellsFrom_some sc.names n [] (.inl h)
 exact bH.mp q
theorem g9' {CX:CXT} {P:Program} {w:World} {K:W.Frag} {mg:Str->Option Value} {base:Heap} {N ps:List Str} {qual:Str} {scope:Scope} {f:Addr} {cd:Value} {A:Around} {outer:List Env} {s s1:Shared} {H:Hp} {E:XK} {us:List Value} {vs:List V}
  (S:FnScope N ps scope) (hd:A.handled=none) (e0:Env0 P w K mg base A outer s H) (hl:vs.length=ps.length) (r:ax' vs us)
  (x:InCallC s s.heap.objs.size (bindL (envOfC qual scope s.heap.objs.size f cd).kindOf (ps.zip us) fun _=>none) (cellsFrom (s.heap.objs.size+1) scope.names []) (bindC (envOfC qual scope s.heap.objs.size f cd).kindOf (ps.zip us) fun _=>none) s1):
  Inv (oz' CX P w K mg base N qual scope f cd A outer s H E) [] (aO' N vs) H s1:=by
 have hpl:ps.length<=N.length:=by have:=congrArg cG S.pre;rw[aF]at this;omega
 obtain⟨h1,tk,rfl,hk⟩:=x.done
 have noA:∀b:Addr,b∉(oz' CX P w K mg base N qual scope f cd A outer s H E).ex:=fun b z=>absurd (show b∈([]:List Addr) from z) (by simp)
 refine⟨⟨e0.mod,S.kind,rfl,rfl,ak _,fun y z c h1 h2=>?_,fun y hy=>?_,fun y c _ h=>?_,fun _=>hd,Around.frames_deeper e0.frames,.inr ⟨rfl,rfl⟩,fun b z=>absurd z (noA b),e0.bs,e0.bsz,fun b _ _=>noA b,fun b z=>absurd z (noA b),e0.funs,e0.frf⟩,
  rfl,e0.bare,Un.kept hk,⟨_,x.toInCall.ns,fun i y v h1 h2 h3=>?_⟩,fun y c h=>⟨_,x.cell y c h⟩,e0.hok.fresh (ak _),fun y c h=>?_,fun p hp=>absurd (show p∈([]:List (Addr×Obj)) from hp) (by simp),e0.hok.kept hk,?_⟩
 .exact name_of_addr x.apart (PySem.mem_of_lookup h1) (PySem.mem_of_lookup h2)
 .have hy:scope.names.lookup y=some .cell\/scope.names.lookup y=some .free:=hy
  rcases hy with hy|hy
  .exact dw' hy
  .exact absurd rfl (S.nofree _ (PySem.mem_of_lookup hy))
 .exact br (x.above y c (PySem.mem_of_lookup h))
 .have hi:i<vs.length:=by
   unfold aO' at h2
   by_cases hi:i<vs.length
   .exact hi
   .rw[bP (by simpa using hi)]at h2
    rw[List.getElem?_replicate]at h2
    split at h2<;>cases h2
  have ha:vs[i]?=some v:=by
   unfold aO' at h2
   rw[bE (by simpa using hi),aG]at h2
   cases e:vs[i]? with
   |none=>rw[e]at h2;cases h2
   |some a=>rw[e]at h2;cases h2;rfl
  obtain⟨u,hu,rv⟩:=r.get ha
  have hp:ps[i]?=some y:=by
   rw[<- S.pre,List.getElem?_take_of_lt (by omega)];exact h1
  have ndP:ps.Nodup:=by rw[<- S.pre];exact S.nd.sublist (List.take_sublist _ _)
  refine⟨u,rv,?_⟩
  rcases S.par y (aN hp)with k|k
  .exact .inl ⟨k,d2' ndP hp hu k⟩
  .obtain⟨c,e⟩:=dw' (n:=s.heap.objs.size+1) k
   refine .inr ⟨.inl k,c,e,?_⟩
   have q:=x.cell y c e
   rw[d3' ndP hp hu (by show scope.names.lookup y≠_;rw[k];decide)]at q
   exact q
 .exact e0.hok.fresh (br (x.above y c (PySem.mem_of_lookup h)))
 .unfold aO'
  show _=N.length
  rw[am,ai,List.length_replicate]
  omega
theorem sE' {CX:CXT} {P:Program} {w:World} {K:W.Frag} {mg:Str->Option Value} {base:Heap} {k:Nat} {f:Addr} {name qual:Str} {params:Arguments} {body:List Stmt} {scope:Scope} {dV kV doc pm cdv ct oc:Value} {an od:Option Addr}
  {osl:Array (Option Value)} {N ps:List Str} {sp:Sp} (lk:K.lookup f=some ⟨oc,od,.func (W.fnOf name qual params body scope dV kV doc pm an cdv ct),osl⟩) (hcd:W.codeIn K cdv qual=true) (S:FnScope N ps scope)
  (len:∀vs H Q E,sp vs H Q E->vs.length=ps.length)
  (hbody:∀(A:Around) (outer:List Env) (s:Shared) (H:Hp) (vs:List V) (Q:VK) (E:XK),Room k (A.deeper (envOfC qual scope s.heap.objs.size f cdv))->sp vs H Q E->
   ∃t,PSs (oz' CX P w K mg base N qual scope f cdv A outer s H E) body t/\t { nx:=fun _ H'=>Q .non H',rt:=Q } (aO' N vs) H):
  FnOk P w K mg base CX (k+1) f (W.fnOf name qual params body scope dV kV doc pm an cdv ct) ps sp:=by
 refine⟨len,fun A outer s H args us vs Q E hr e0 hb r hsp=>?_⟩
 have hl:=len _ _ _ _ hsp
 have KX:K.In s.heap:=e0.mod.kin.keeps fun b o e=>(e0.bs b o e).1
 have lim:s.heap.NoLimit:=e0.mod.nolimit.keeps fun b o e=>(e0.bs b o e).1
 have hkind:∀y∈ps.zip us,scope.names.lookup y.1=some .local\/(scope.names.lookup y.1=some .cell/\((cellsFrom (s.heap.objs.size+1) scope.names []).lookup y.1).isSome=true):=fun⟨n,v⟩ hy=>by
  rcases S.par n (List.of_mem_zip hy).1 with q|q
  .exact .inl q
  .exact .inr ⟨q,W.cellsFrom_some _ _ _ (.inl q)⟩
 refine codeAny_call_function hr.depth (KX _ _ lk) rfl S.co S.gen rfl (W.codeRec_of KX hcd) (hb _ _ _ _ ?_)
 refine wpAny_newFunctionEnv_cells S.kind hkind fun env he s1 x=>?_
 subst he
 refine⟨lim.keeps x.toInCall.keep,codeAny_func ?_⟩
 obtain⟨t,ht,hq⟩:=hbody A outer s H vs Q E (hr.deeper _) hsp
 have I:Inv (oz' CX P w K mg base N qual scope f cdv A outer s H E) [] (aO' N vs) H s1:=g9' S hr.hd e0 hl r x
 refine wpAny_mono (ht [] s1 (aO' N vs) H _ I hq) (fun fl s' hs=>?_) fun e s' hs=>hs
 have fin:∀{σ':St} {H':Hp} {v:V} {u:Value},Inv (oz' CX P w K mg base N qual scope f cdv A outer s H E) [] σ' H' s'->as' v u->Q v H'->CE outer P w H s Q u s':=
  fun {σ' H' v u} J rv q=>⟨v,H',J.os,J.bare,J.base,J.hok,rv,q⟩
 cases fl with
 |ret u=>
  obtain⟨v,σ',H',J,rv,q⟩:=hs
  exact fin J rv q
 |next=>
  obtain⟨σ',H',J,q⟩:=hs
  exact fin (v:=V.non) (u:=Value.none) J rfl q
 |brk=>
  obtain⟨_,_,_,q⟩:=hs
  exact False.elim q
 |cont=>
  obtain⟨_,_,_,q⟩:=hs
  exact False.elim q
section
variable {X:Cx} {x:Str} {p pos:Pos} {e:Expr} {es:List Expr} {t:TA} {id T:String} {r:List V->Hp->VK->Prop}
def tCB (r:List V->Hp->VK->Prop) (t:TA):TE:=fun σ H Q=>t σ H fun vs H1=>r vs H1 Q
theorem jQ' (hc:aN' X (.builtin id) r) (hg:Gl X x) (hm:X.mg x=none) (hv:bootBuiltins x=some (.builtin id)) (ha:PA X (e :: es) t) (hn:x≠"__name__":=by decide) (hdb:(x == ("__debug__":Str))=false:=by decide)
  (he:starEach (e :: es) X.env=(false,eval e X.env) :: starEach es X.env:=by rfl) (hpl:(backTo pos (starEach es X.env)).any (·.1)=false:=by rfl):PE X (.Call (.Name x p) (e :: es) [] pos) (tCB r t):=by
 intro pins s σ H Q I h
 refine wpAny_Call_Name_kw (cz' I hg hm hv ?_ hn hdb)
 exact PyProof.Rows.callWith_builtin1 (thn (ha pos pins s σ H _ I h) fun us s1 ⟨vs,H1,I1,r1,q1⟩=>hc pins s1 σ H1 vs us Q I1 r1 q1) he hpl
theorem ha' (hc:aN' X (.type T) r) (hg:Gl X x) (hm:X.mg x=none) (hv:bootBuiltins x=some (.type T)) (ha:PA X (e :: es) t) (hn:x≠"__name__":=by decide) (hdb:(x == ("__debug__":Str))=false:=by decide)
  (he:starEach (e :: es) X.env=(false,eval e X.env) :: starEach es X.env:=by rfl) (hpl:(backTo pos (starEach es X.env)).any (·.1)=false:=by rfl):PE X (.Call (.Name x p) (e :: es) [] pos) (tCB r t):=by
 intro pins s σ H Q I h
 refine wpAny_Call_Name_kw (cz' I hg hm hv ?_ hn hdb)
 exact PyProof.Rows.callWith_type1 (thn (ha pos pins s σ H _ I h) fun us s1 ⟨vs,H1,I1,r1,q1⟩=>hc pins s1 σ H1 vs us Q I1 r1 q1) he hpl
end
end L2
namespace HT
open PySem PyProof.Rows
section
open PySem.SeqAt
open PySem.AutoSeq1 (wpAny_loadPart')
open PySem.MeetsSeq PySem.MeetsSeq2 PySem.MeetsSeq3
end
section
variable {prog:Program} {w:World} {A:Around} {E:Value->Shared->Prop} {s:Shared}
theorem m2' {t b:Addr} {vs ws:List Value} {Q:Value->Shared->Prop} (ht:IsTup s.heap t vs.toArray) (hb:IsTup s.heap b ws.toArray) (hv:vs≠[])
  (h1:ws=[]->Q (.ref t) s) (h2:ws≠[]->Q (.ref s.heap.objs.size) { s with heap:=s.heap.push { cls:=.type "tuple",data:=.seq (vs++ws).toArray } })
  (hsz:vs.length+ws.length<=sizeLine):wpAny (model prog w) A (binaryOp .Add (.ref t) (.ref b)) Q E s:=by
 obtain⟨⟨cls,dd,data,sl⟩,ho,hc,n,hd⟩:=id ht
 obtain⟨⟨cls2,dd2,data2,sl2⟩,ho2,hc2,n2,hd2⟩:=id hb
 simp only at hc hd hc2 hd2
 subst hc hd hc2 hd2
 have e:vs.toArray++ws.toArray=(vs++ws).toArray:=by simp
 by_cases hw:ws=[]
 .exact concat_meets ⟨_,ho,rfl⟩ ⟨_,ho2,rfl⟩ noFill_tuple_add seq_tuple_add PySem.F.slot_tuple_add PySem.F.entry_tuple_add (PySem.F.args_tuple_add_2 _ _)
   (tuple_addW1 t b vs.toArray ws.toArray n n2 dd dd2 sl sl2 (by simpa using hv) (by simp[hw])) ⟨ho,ho2,h1 hw⟩
 .refine concat_meets ⟨_,ho,rfl⟩ ⟨_,ho2,rfl⟩ noFill_tuple_add seq_tuple_add PySem.F.slot_tuple_add PySem.F.entry_tuple_add (PySem.F.args_tuple_add_2 _ _)
   (tuple_addW2 t b vs.toArray ws.toArray n n2 dd dd2 sl sl2 (by simpa using hv) (by simpa using hw) (by rw[aj,aj];exact hsz)) ⟨ho,ho2,?_⟩
  rw[e]
  exact h2 hw
def sIx (n d:Nat):Option Int->Nat
 |none=>d
 |some v=>if v<0 then(v+(n:Int)).toNat else min v.toNat n
theorem fh' (n d:Nat):sIx n d none=d:=rfl
theorem dx' (n d k:Nat):sIx n d (some (k:Int))=min k n:=by
 show(if(k:Int)<0 then((k:Int)+(n:Int)).toNat else min (k:Int).toNat n)=min k n
 rw[if_neg (by omega),bA]
theorem o8' (n d:Nat) (hd:d<=n) (o:Option Int):sIx n d o<=n:=by
 cases o with
 |none=>exact hd
 |some v=>
  show(if v<0 then(v+(n:Int)).toNat else min v.toNat n)<=n
  by_cases hv:v<0
  .rw[if_pos hv];omega
  .rw[if_neg hv];exact Nat.min_le_right _ _
theorem he' (v:Int) (n d:Nat):(if v<0 then max (v+(n:Int)) 0 else min v (n:Int))=((sIx n d (some v):Nat):Int):=by
 show(if v<0 then max (v+(n:Int)) 0 else min v (n:Int))=(((if v<0 then(v+(n:Int)).toNat else min v.toNat n):Nat):Int)
 by_cases hv:v<0
 .simp only[if_pos hv];omega
 .simp only[if_neg hv];omega
theorem gm' (lo hi:Option Int) (n:Nat):Builtin.Slice.sliceAdjust lo hi 1 (n:Int)=(((sIx n 0 lo:Nat):Int),((sIx n n hi:Nat):Int)):=by
 have h1:¬((1:Int)<0):=by omega
 unfold Builtin.Slice.sliceAdjust
 simp only[h1,if_false]
 refine Prod.ext ?_ ?_
 .cases lo with
  |none=>rfl
  |some v=>exact he' v n 0
 .cases hi with
  |none=>rfl
  |some v=>exact he' v n n
theorem gn' (i j:Nat):Builtin.Slice.slicePlaces (i:Int) (j:Int) 1=j-i:=by
 unfold Builtin.Slice.slicePlaces
 have h1:(1:Int) > 0:=by omega
 simp only[h1,if_true,Int.ediv_one]
 split<;>omega
theorem df' {v:Value} {o:Option Int} {Q:Option Int->Shared->Prop} (p:IsPart v o) (h:Q o s):wpAny (model prog w) A (Builtin.Slice.slicePartIndex v) Q E s:=by
 cases p with
 |none=>exact slicePart_none h
 |int i t=>exact slicePart_int h
theorem bw' {sl:Addr} {vl vu:Value} {lo hi:Option Int} {n:Nat} {Q:Int×Int×Nat->Shared->Prop} (hs:s.heap.IsSliceOf sl vl vu .none) (pl:IsPart vl lo) (pu:IsPart vu hi)
  (h:Q (((sIx n 0 lo:Nat):Int),1,sIx n n hi-sIx n 0 lo) s):wpAny (model prog w) A (Builtin.Slice.sliceApplied (.ref sl) (pure (n:Int))) Q E s:=by
 obtain⟨os,hos,hcs,hds⟩:=id hs
 unfold Builtin.Slice.sliceApplied Builtin.Slice.sliceFields
 refine aa (aa (aZ hos hds (x:=vl) rfl (aa (aZ hos hds (x:=vu) rfl (aa (aZ hos hds (x:=.none) rfl (af ?_)))))))
 refine aa (slicePart_none ?_)
 show wpAny _ _ (if((1:Int) == 0)=true then _ else _) _ _ s
 rw[if_neg (by decide)]
 refine aa (df' pl (aa (df' pu (aa (af ?_)))))
 show wpAny _ _ (match Builtin.Slice.sliceAdjust lo hi 1 (n:Int)with|(lo,hi)=>pure (lo,(1:Int),Builtin.Slice.slicePlaces lo hi 1)) _ _ s
 rw[gm' lo hi n]
 show wpAny _ _ (pure (((sIx n 0 lo:Nat):Int),(1:Int),Builtin.Slice.slicePlaces ((sIx n 0 lo:Nat):Int) ((sIx n n hi:Nat):Int) 1)) _ _ s
 rw[gn']
 exact af h
theorem jR' (xs:Array Value) (i k:Nat):((aH k).filterMap fun(m:Nat)=>xs[((i:Int)+(m:Int)*1).toNat]?).toArray=((xs.toList.drop i).take k).toArray:=by
 have e:(fun(m:Nat)=>xs[((i:Int)+(m:Int)*1).toNat]?)=fun m=>xs[i+m]?:=by
  funext m
  have:((i:Int)+(m:Int)*1).toNat=i+m:=by omega
  rw[this]
 rw[e]
 have:=pick_run xs i k
 rw[List.filterMap_map]at this
 have e2:((fun x=>xs[x]?)∘fun x=>i+x)=fun m=>xs[i+m]?:=rfl
 rw[e2]at this
 rw[this]
theorem cb' {t sl:Addr} {items:Array Value} {vl vu:Value} {lo hi:Option Int} {Q:Value->Shared->Prop} (ht:IsTup s.heap t items) (hs:s.heap.IsSliceOf sl vl vu .none) (pl:IsPart vl lo) (pu:IsPart vu hi)
  (hw:¬(sIx items.size 0 lo=0/\sIx items.size items.size hi=items.size))
  (h:Q (.ref s.heap.objs.size) { s with heap:=s.heap.push { cls:=.type "tuple",data:=.seq ((items.toList.drop (sIx items.size 0 lo)).take (sIx items.size items.size hi-sIx items.size 0 lo)).toArray } })
  (hsz:items.size<=sizeLine):wpAny (model prog w) A (getItem (.ref t) (.ref sl)) Q E s:=by
 have htake:sizeOk (.seq ((items.toList.drop (sIx items.size 0 lo)).take (sIx items.size items.size hi-sIx items.size 0 lo)).toArray):=by
  show((items.toList.drop (sIx items.size 0 lo)).take (sIx items.size items.size hi-sIx items.size 0 lo)).toArray.size<=sizeLine
  rw[aj,aF,bQ,au]
  omega
 have hj:sIx items.size items.size hi<=items.size:=o8' _ _ (ak _) hi
 obtain⟨os,hos,hcs,hds⟩:=id hs
 have hTs:s.TypeIs (.ref sl) "slice":=⟨os,hos,hcs⟩
 unfold getItem
 try with_reducible refine aR ?_
 first|refine aa (af ?_)|skip
 refine aa (wpAny_sequenceKey ht.typeIs (by decide) ?_)
 refine aa (aW (name:=Str.ofString "__getitem__") ht.typeIs PyProof.Rows.slot_tuple_getitem
  (bf PyProof.Rows.slot_tuple_getitem ht.typeIs entry_tuple_getitem ?_ (args_tuple_getitem _ _)))
 show wpAny _ _ (Builtin.Tuple.tupleItemsOf (.ref t) >>= _) _ _ s
 refine aa (tupleItemsOf_ ht ?_)
 refine aa (wpAny_typeOf hTs ?_)
 rw[if_pos (by decide)]
 refine aa (bw' hs pl pu ?_)
 have hno:¬((((sIx items.size 0 lo:Nat):Int) == 0&&(1:Int) == 1&&(sIx items.size items.size hi-sIx items.size 0 lo) == items.size)=true):=by
  intro q
  rw[ah,ah]at q
  have q1:((sIx items.size 0 lo:Nat):Int)=0:=eq_of_beq q.1.1
  have q2:sIx items.size items.size hi-sIx items.size 0 lo=items.size:=eq_of_beq q.2
  exact hw ⟨by omega,by omega⟩
 show wpAny _ _ (if(((sIx items.size 0 lo:Nat):Int) == 0&&(1:Int) == 1&&(sIx items.size items.size hi-sIx items.size 0 lo) == items.size)=true then _ else _) _ _ s
 rw[if_neg hno,jR']
 first
  |exact aa (m:=Builtin.Tuple.tupleExact _) (bx (af ⟨_,rfl,af h⟩) htake)
  |exact aa (m:=Builtin.Tuple.tupleExact _) (bx (aa (af (af ⟨_,rfl,af h⟩))) htake)
  |exact aa (aa (m:=Builtin.Tuple.tupleExact _) (bx (af (af ⟨_,rfl,af h⟩)) htake))
  |exact aa (aa (m:=Builtin.Tuple.tupleExact _) (bx (af ⟨_,rfl,af h⟩) htake))
end
end HT
namespace L2
open PySem PySem.Spec PyProof.Rows
abbrev TO:=St->Hp->(Option Int->Hp->Prop)->Prop
def PO (X:Cx) (e:Option Expr) (t:TO):Prop:=
 ∀(pins:List (Addr×Obj)) (s:Shared) (σ:St) (H:Hp) (Q:Option Int->Hp->Prop),Inv X pins σ H s->t σ H Q->
  wpAny (model X.prog X.w) X.A (evalPart e X.env) (fun u s'=>∃o H',Inv X pins σ H' s'/\IsPart u o/\Q o H') X.xe s
def eO':TO:=fun _ H Q=>Q none H
def m3' (t:TE):TO:=fun σ H Q=>t σ H fun x H1=>∃i,x=.int i/\Q (some i) H1
theorem go' {ns:List Int}:∀{us:List Value},ax' (ns.map V.int) us->IntsAre us ns:=by
 induction ns with
 |nil=>intro us r;rw[cI]at r;cases r;exact .nil
 |cons n ns ih=>
  intro us r
  rw[aE]at r
  cases r with
  |cons r1 r2=>
   obtain⟨t,e⟩:=r1
   subst e
   exact .cons n t (ih r2)
section
variable {X:Cx} {e:Expr} {te:TE} {lo hi:Option Expr} {tl th:TO} {pos p2:Pos}
theorem m4':PO X none eO':=by
 intro pins s σ H Q I h
 rw[evalPart_none]
 exact af ⟨none,H,I,.none,h⟩
theorem m5' (h:PE X e te):PO X (some e) (m3' te):=by
 intro pins s σ H Q I hw
 rw[evalPart_some]
 refine thn (h pins s σ H _ I hw) fun u s1 ⟨x,H1,I1,r1,q1⟩=>?_
 obtain⟨i,rfl,q⟩:=q1
 obtain⟨t,rfl⟩:=r1
 exact⟨some i,H1,I1,.int i t,q⟩
def SlR (X:Cx) (r:V->Option Int->Option Int->Hp->VK->Prop):Prop:=
 ∀(pins:List (Addr×Obj)) (s:Shared) (σ:St) (H:Hp) (x:V) (v vl vu:Value) (lo hi:Option Int) (sl:Addr) (Q:VK),Inv X pins σ H s->as' x v->s.heap.IsSliceOf sl vl vu .none->IsPart vl lo->IsPart vu hi->r x lo hi H Q->
  ∃T id,typeLookup (.type T) "__getitem__"=pure (some (.builtin id))/\s.TypeIs v T/\wpAny (model X.prog X.w) X.A (getItem v (.ref sl)) (EP X pins σ Q) X.xe s
theorem SlR.or {r r':V->Option Int->Option Int->Hp->VK->Prop} (h:SlR X r) (h':SlR X r'):SlR X (fun x lo hi H Q=>r x lo hi H Q\/r' x lo hi H Q):=by
 intro pins s σ H x v vl vu lo hi sl Q I rx hs pl pu q
 rcases q with q|q
 .exact h pins s σ H x v vl vu lo hi sl Q I rx hs pl pu q
 .exact h' pins s σ H x v vl vu lo hi sl Q I rx hs pl pu q
def tSl (r:V->Option Int->Option Int->Hp->VK->Prop) (te:TE) (tl th:TO):TE:=fun σ H Q=>te σ H fun x H1=>tl σ H1 fun l H2=>th σ H2 fun u H3=>r x l u H3 Q
theorem jS' {r:V->Option Int->Option Int->Hp->VK->Prop} (hr:SlR X r) (he:PE X e te) (hl:PO X lo tl) (hu:PO X hi th):PE X (.Subscript e (.Slice lo hi none p2) pos) (tSl r te tl th):=by
 intro pins s σ H Q I h
 refine Subscript_ (thn (he pins s σ H _ I h) fun v s1 ⟨x,H1,I1,r1,q1⟩=>?_)
 refine wpAny_Slice (thn (hl pins s1 σ H1 _ I1 q1) fun vl s2 ⟨l,H2,I2,pl,q2⟩=>thn (hu pins s2 σ H2 _ I2 q2) fun vu s3 ⟨u,H3,I3,pu,q3⟩=>?_)
 rw[evalPart_none]
 refine af ?_
 have I4:Inv X pins σ H3 { s3 with heap:=s3.heap.push { cls:=.type "slice",data:=.fields #[vl,vu,.none] } }:=I3.kept (t':=s3.toks) fun b ob q=>ae _ q
 obtain⟨T,id,hT,ht,hg⟩:=hr pins { s3 with heap:=s3.heap.push { cls:=.type "slice",data:=.fields #[vl,vu,.none] } } σ H3 x v vl vu l u s3.heap.objs.size Q I4 r1 (Heap.IsSliceOf.new ..) pl pu q3
 show wpAny (model X.prog X.w) X.A (subscriptTail e (.Slice lo hi none p2) v (.ref s3.heap.objs.size)) (EP X pins σ Q) X.xe { s3 with heap:=s3.heap.push { cls:=.type "slice",data:=.fields #[vl,vu,.none] } }
 exact tail_any (ops:=[.ref s3.heap.objs.size,v]) ht hT hg (by with_unfolding_all rfl)
def gQ' (xs:List V) (lo hi:Option Int):List V:=(xs.drop (HT.sIx xs.length 0 lo)).take (HT.sIx xs.length xs.length hi-HT.sIx xs.length 0 lo)
theorem cB' (xs:List V) (lo hi:Option Int):(gQ' xs lo hi).length<=xs.length:=by
 unfold gQ'
 rw[aF,bQ]
 omega
def o9' (K:W.Frag):V->Option Int->Option Int->Hp->VK->Prop:=fun x lo hi H Q=>∃a xs,x=.ref a/\SqT K H a xs/\
 ¬(HT.sIx xs.length 0 lo=0/\HT.sIx xs.length xs.length hi=xs.length)/\∀p,H p=none->Q (.ref p) (upd H p (.tup (gQ' xs lo hi)))
theorem pa':SlR X (o9' X.K):=by
 intro pins s σ H x v vl vu lo hi sl Q I rx hs pl pu h
 obtain⟨a,xs,rfl,hx,hw,q⟩:=h
 cases rx
 obtain⟨its,r,ht,hz⟩:=I.tuple hx
 have hlen:its.toArray.size=xs.length:=by rw[aj];exact r.length.symm
 refine⟨"tuple",_,PyProof.Rows.slot_tuple_getitem.lookup,ht.typeIs,?_⟩
 refine HT.cb' ht hs pl pu (by rw[hlen];exact hw) ?_ (by rw[hlen];exact hz)
 rw[hlen]
 refine⟨.ref s.heap.objs.size,_,I.laid (t':=s.toks) (o:=.tup (gQ' xs lo hi)) (fun b ob q=>ae _ q) (ak _) ?_,rfl,q _ (I.hok.fresh (ak _))⟩
 exact⟨aS (cB' xs lo hi) hz,_,(r.drop (HT.sIx xs.length 0 lo)).take (HT.sIx xs.length xs.length hi-HT.sIx xs.length 0 lo),lc'.new _ _⟩
def pb' (K:W.Frag):R2:=fun x y H Q=>∃a b xs ys,x=.ref a/\y=.ref b/\SqT K H a xs/\SqT K H b ys/\xs≠[]/\xs.length+ys.length<=sizeLine/\
 (ys=[]->Q (.ref a) H)/\(ys≠[]->∀p,H p=none->Q (.ref p) (upd H p (.tup (xs++ys))))
theorem ax'.nil_iff {xs:List V} {us:List Value} (r:ax' xs us):us=[]↔xs=[]:=by
 cases r with
 |nil=>simp
 |cons _ _=>simp
theorem m6':OpR X (binaryOp .Add) (pb' X.K):=by
 intro pins s σ H x y v u Q I rx ry h
 obtain⟨a,b,xs,ys,rfl,rfl,ha,hb,hx,hz,q1,q2⟩:=h
 cases rx
 cases ry
 obtain⟨its,r1,p1,_⟩:=I.tuple ha
 obtain⟨its2,r2,p2,_⟩:=I.tuple hb
 refine HT.m2' p1 p2 (fun z=>hx (r1.nil_iff.mp z)) (fun z=>⟨.ref a,H,I,rfl,q1 (r2.nil_iff.mp z)⟩) (fun z=>?_) (by rw[<- r1.length,<- r2.length];exact hz)
 refine⟨.ref s.heap.objs.size,_,I.laid (t':=s.toks) (o:=.tup (xs++ys)) (fun b ob q=>ae _ q) (ak _) ?_,rfl,q2 (fun w=>z (r2.nil_iff.mpr w)) _ (I.hok.fresh (ak _))⟩
 exact⟨by rw[am];exact hz,_,r1.append r2,lc'.new _ _⟩
end
def ixN (n:Nat) (i:Int):Option Nat:=if 0<=i then(if i<n then some i.toNat else none)else if -(n:Int)<=i then some (i+n).toNat else none
def atI {α:Type} (xs:List α) (i:Int):Option α:=(ixN xs.length i).bind fun j=>xs[j]?
theorem hh' {n:Nat} {i:Int} {j:Nat} (h:ixN n i=some j):seqIndex? i n=some j/\j<n/\-(n:Int)<=i/\i<n:=by
 unfold ixN at h
 by_cases h0:0<=i
 .rw[if_pos h0]at h
  by_cases h1:i<n
  .rw[if_pos h1]at h
   have e:i.toNat=j:=Option.some.inj h
   exact⟨by rw[seqIndex_of h0 h1,e],by omega,by omega,h1⟩
  .rw[if_neg h1]at h;cases h
 .rw[if_neg h0]at h
  by_cases h1:-(n:Int)<=i
  .rw[if_pos h1]at h
   have e:(i+n).toNat=j:=Option.some.inj h
   exact⟨by rw[seqIndex_neg (by omega) h1,e],by omega,h1,by omega⟩
  .rw[if_neg h1]at h;cases h
theorem eP' {α:Type} {xs:List α} {i:Int} {v:α} (h:atI xs i=some v):∃j,seqIndex? i xs.length=some j/\xs[j]?=some v/\j<xs.length/\-(xs.length:Int)<=i/\i<xs.length:=by
 unfold atI at h
 cases e:ixN xs.length i with
 |none=>rw[e]at h;cases h
 |some j=>
  rw[e]at h
  obtain⟨h1,h2,h3,h4⟩:=hh' e
  exact⟨j,h1,h,h2,h3,h4⟩
theorem aC' {α:Type} {xs:List α} {j:Nat} {v:α} (h:xs[j]?=some v):atI xs (j:Int)=some v:=by
 have hj:j<xs.length:=(av.mp h).1
 have e:ixN xs.length (j:Int)=some j:=by
  unfold ixN
  rw[if_pos (by omega),if_pos (by omega)];simp
 unfold atI;rw[e];exact h
def hq' (b:Expr):Prop:=∀o i,subscripted b false o i=operate [o,i] (getItem o i)
def IxR (X:Cx) (r:R2):Prop:=
 ∀(value slice:Expr) (pins:List (Addr×Obj)) (s:Shared) (σ:St) (H:Hp) (x y:V) (v u:Value) (Q:VK),Inv X pins σ H s->as' x v->as' y u->r x y H Q->
  subscripted slice false v u=operate [v,u] (getItem v u)->wpAny (model X.prog X.w) X.A (subscriptTail value slice v u) (EP X pins σ Q) X.xe s
def MtR (X:Cx) (id:String) (r:V->List V->Hp->VK->Prop):Prop:=
 ∀(pins:List (Addr×Obj)) (s:Shared) (σ:St) (H:Hp) (x:V) (xs:List V) (v:Value) (us:List Value) (Q:VK),Inv X pins σ H s->as' x v->ax' xs us->r x xs H Q->
  wpAny (model X.prog X.w) X.A (call (.builtin id) (v :: us)) (EP X pins σ Q) X.xe s
section
variable {X:Cx} {a b:Expr} {ta tb:TE} {pos:Pos}
theorem IxR.or {r r':R2} (h:IxR X r) (h':IxR X r'):IxR X (fun x y H Q=>r x y H Q\/r' x y H Q):=by
 intro value slice pins s σ H x y v u Q I rx ry q hs
 rcases q with q|q
 .exact h value slice pins s σ H x y v u Q I rx ry q hs
 .exact h' value slice pins s σ H x y v u Q I rx ry q hs
theorem sF' {r:R2} (hr:IxR X r) (ha:PE X a ta) (hb:PE X b tb) (hs:hq' b):PE X (.Subscript a b pos) (tOp r ta tb):=by
 intro pins s σ H Q I h
 exact Subscript_ (sq' ha hb I h fun v u s2 x y H2 I2 rx ry q=>hr a b pins s2 σ H2 x y v u Q I2 rx ry q (hs _ _))
def eQ' (K:W.Frag):R2:=fun x y H Q=>∃p xs i v,x=.ref p/\y=.int i/\SqL K H p xs/\atI xs i=some v/\Q v H
def fi' (K:W.Frag):R2:=fun x y H Q=>∃p xs i v,x=.ref p/\y=.int i/\SqT K H p xs/\atI xs i=some v/\Q v H
def tX':R2:=fun x y H Q=>∃z i c,x=.str z/\y=.int i/\z.length<=sizeLine/\atI z.cps.toList i=some c/\Q (.str ⟨#[c]⟩) H
theorem m7':IxR X (eQ' X.K):=by
 intro value slice pins s σ H x y v u Q I rx ry h hs
 obtain⟨p,xs,i,z,rfl,rfl,hq,he,q⟩:=h
 cases rx
 obtain⟨t,rfl⟩:=ry
 obtain⟨its,r,pl,hz⟩:=I.list hq
 obtain⟨j,h1,h2,h3,h4,h5⟩:=eP' he
 obtain⟨w,ew,rw'⟩:=r.get h2
 have hl:=r.length
 have hn:=dc'
 have fin:EP X pins σ Q w s:=⟨z,H,I,rw',q⟩
 by_cases h0:0<=i
 .have hj:i.toNat=j:=by
   rw[seqIndex_of h0 h5]at h1
   exact Option.some.inj h1
  exact item_listR pl.isList h0 (by omega) (by rw[hj];simpa using ew) fin hs
 .have hj:(i+(its.toArray.size:Int)).toNat=j:=by
   rw[seqIndex_neg (by omega) h4]at h1
   rw[aj,<- hl]
   exact Option.some.inj h1
  exact subscriptTail_builtinR (x:=w) pl.isList.typeIs slot_list_getitem.lookup
   (wpAny_getItem_list_neg (Q:=fun r s'=>r=w/\EP X pins σ Q r s') pl.isList (by omega) (by rw[aj]<;>omega) (by omega) (by rw[hj];simpa using ew) ⟨rfl,fin⟩) hs
theorem pc':IxR X (fi' X.K):=by
 intro value slice pins s σ H x y v u Q I rx ry h hs
 obtain⟨p,xs,i,z,rfl,rfl,hq,he,q⟩:=h
 cases rx
 obtain⟨t,rfl⟩:=ry
 obtain⟨its,r,pl,hz⟩:=I.tuple hq
 obtain⟨j,h1,h2,h3,h4,h5⟩:=eP' he
 obtain⟨w,ew,rw'⟩:=r.get h2
 have hl:=r.length
 have hn:=dc'
 have fin:EP X pins σ Q w s:=⟨z,H,I,rw',q⟩
 exact subscriptTail_builtinR (x:=w) pl.typeIs slot_tuple_getitem.lookup
  (getItem_tuple (j:=j) (Q:=fun r s'=>r=w/\EP X pins σ Q r s') pl (by omega) (by omega) (by rw[aj,<- hl];exact h1) (by simpa using ew) ⟨rfl,fin⟩) hs
theorem pd':IxR X tX':=by
 intro value slice pins s σ H x y v u Q I rx ry h hs
 obtain⟨z,i,c,rfl,rfl,hz,he,q⟩:=h
 obtain⟨t,rfl⟩:=rx
 obtain⟨t',rfl⟩:=ry
 obtain⟨j,h1,h2,h3,h4,h5⟩:=eP' he
 have hl:z.cps.toList.length=z.length:=by simp[Str.length]
 rw[hl]at h1 h4 h5
 have hn:=dc'
 exact tail_any (typeIs_str s z t) slot_str_getitem.lookup (getItem_str (c:=c) (by
  have e1:decide (i < -(2 ^ 63:Int))=false:=decide_eq_false (by omega)
  have e2:decide (i ≥ 2 ^ 63)=false:=decide_eq_false (by omega)
  rw[e1,e2,Bool.or_false]) (by rw[h1];simpa using h2) ⟨.str ⟨#[c]⟩,H,I.tok _,⟨_,rfl⟩,q⟩) hs
def rIx (K:W.Frag):R2:=fun x y H Q=>eQ' K x y H Q\/fi' K x y H Q\/tX' x y H Q
theorem pe':IxR X (rIx X.K):=m7'.or (pc'.or pd')
theorem gp' (its:List Value) (n j:Nat) (u:Value):Obj.mapSeq (·.setIfInBounds j u) { cls:=.type "list",data:=.seq its.toArray n }={ cls:=.type "list",data:=.seq (its.set j u).toArray n }:=by
 simp[Obj.mapSeq]
theorem Inv.lst {pins:List (Addr×Obj)} {σ:St} {H:Hp} {s:Shared} {p:Addr} {xs:List V} (I:Inv X pins σ H s) (h:H p=some (.lst xs)):
  ∃(its:List Value) (n:Nat),ax' xs its/\s.heap.get? p=some { cls:=.type "list",data:=.seq its.toArray n }/\xs.length<=sizeLine:=by
 obtain⟨z,its,n,r,e⟩:=I.hok p _ h
 exact⟨its,n,r,e,z⟩
theorem Inv.lstUpd {pins:List (Addr×Obj)} {σ:St} {H:Hp} {s:Shared} {p:Addr} {xs ys:List V} {its its':List Value} {n n':Nat} {f:Obj->Obj} (I:Inv X pins σ H s) (h:H p=some (.lst xs))
  (ho:s.heap.get? p=some { cls:=.type "list",data:=.seq its.toArray n }) (hf:f { cls:=.type "list",data:=.seq its.toArray n }={ cls:=.type "list",data:=.seq its'.toArray n' }) (r:ax' ys its') (hz:ys.length<=sizeLine) (t:Nat):
  Inv X pins σ (upd H p (.lst ys)) { s with heap:=s.heap.update p f,toks:=t }:=by
 have e:(s.heap.update p f).get? p=some { cls:=.type "list",data:=.seq its'.toArray n' }:=by
  rw[bb f ho (by rw[hf]<;>rfl),hf]
 refine I.write (x:=p) (e:=p) (by rw[h];trivial) (.inl rfl) (fun b u hb q=>(Heap.get?_update_other _ _ (Ne.symm hb)).trans q) ⟨_,e⟩ ?_
 exact⟨hz,its',n',r,e⟩
def co':V->V->V->Hp->(Hp->Prop)->Prop:=fun o i v H Q=>∃p xs k j,o=.ref p/\i=.int k/\H p=some (.lst xs)/\ixN xs.length k=some j/\Q (upd H p (.lst (xs.set j v)))
theorem jT':tV' X co':=by
 intro pins s σ H o i v ov iv u Q I ro ri rv h
 obtain⟨p,xs,k,j,rfl,rfl,hp,hj,q⟩:=h
 cases ro
 obtain⟨t,rfl⟩:=ri
 obtain⟨its,n,r,ho,hz⟩:=I.lst hp
 obtain⟨h1,h2,h3,h4⟩:=hh' hj
 have hl:=r.length
 have hn:=dc'
 have I':Inv X pins σ (upd H p (.lst (xs.set j v))) { s with heap:=s.heap.update p (Obj.mapSeq (·.setIfInBounds j u)) }:=
  I.lstUpd hp ho (gp' its n j u) (r.set rv j) (by rw[List.length_set];exact hz) s.toks
 by_cases h0:0<=k
 .have hk:k.toNat=j:=by
   rw[seqIndex_of h0 h4]at h1
   exact Option.some.inj h1
  exact W.ki_setAt ho h0 (by omega) (by rw[aj,<- hl];exact h4) (by rw[hk];exact⟨_,I',q⟩)
 .have hk:(k+(its.toArray.size:Int)).toNat=j:=by
   rw[seqIndex_neg (by omega) h3]at h1
   rw[aj,<- hl]
   exact Option.some.inj h1
  exact W.ki_setBack ho (by omega) (by rw[aj,<- hl];exact h3) (by omega) (by rw[hk];exact⟨_,I',q⟩)
theorem d4' (lo hi:Option Int) (n:Nat):(sliceBounds lo hi none n).1=((HT.sIx n 0 lo:Nat):Int)/\(sliceBounds lo hi none n).2.1=((HT.sIx n n hi:Nat):Int)/\(sliceBounds lo hi none n).2.2=1:=by
 refine⟨?_,?_,rfl⟩
 .cases lo with
  |none=>simp[sliceBounds,HT.sIx]
  |some i=>
   simp only[sliceBounds,HT.sIx,Option.getD_none,show(1:Int) > 0 by decide,if_true]
   by_cases h:i<0
   .simp only[h,if_true]<;>omega
   .simp only[h,if_false]<;>omega
 .cases hi with
  |none=>simp[sliceBounds,HT.sIx]
  |some i=>
   simp only[sliceBounds,HT.sIx,Option.getD_none,show(1:Int) > 0 by decide,if_true]
   by_cases h:i<0
   .simp only[h,if_true]<;>omega
   .simp only[h,if_false]<;>omega
theorem dy' (its:List Value) (lo hi:Option Int):slicePick its.toArray lo hi none=((its.drop (HT.sIx its.length 0 lo)).take (HT.sIx its.length its.length hi-HT.sIx its.length 0 lo)).toArray:=by
 obtain⟨h1,h2,h3⟩:=d4' lo hi its.toArray.size
 unfold slicePick
 rw[h1,h2,h3]
 simp only[sliceRange_one,pick_run,aj]<;>rfl
def pf' (K:W.Frag):V->Option Int->Option Int->Hp->VK->Prop:=fun x lo hi H Q=>∃a xs,x=.ref a/\SqL K H a xs/\∀p,H p=none->Q (.ref p) (upd H p (.lst (gQ' xs lo hi)))
theorem m8':SlR X (pf' X.K):=by
 intro pins s σ H x v vl vu lo hi sl Q I rx hs pl pu h
 obtain⟨a,xs,rfl,hx,q⟩:=h
 cases rx
 obtain⟨its,r,ht,hz⟩:=I.list hx
 have hlen:=r.length
 refine⟨"list",_,slot_list_getitem.lookup,ht.isList.typeIs,?_⟩
 refine wpAny_getItem_list_slice ht.isList hs pl pu .none (by simp) ?_ (by rw[aj]<;>omega)
 rw[dy',<- hlen]
 refine⟨.ref s.heap.objs.size,_,I.laid (t':=s.toks) (o:=.lst (gQ' xs lo hi)) (fun b ob q=>ae _ q) (ak _) ?_,rfl,q _ (I.hok.fresh (ak _))⟩
 exact⟨aS (cB' xs lo hi) hz,_,0,(r.drop (HT.sIx xs.length 0 lo)).take (HT.sIx xs.length xs.length hi-HT.sIx xs.length 0 lo),aw _ rfl⟩
def d5':V->Bool
 | .non=>true
 | .bl _=>true
 | .int _=>true
 | .str _=>true
 |_=>false
def eqV:V->V->Bool
 | .non,.non=>true
 | .bl a,.bl b=>a == b
 | .bl a,.int b=>(if a then 1 else 0) == b
 | .int a,.bl b=>a == (if b then 1 else 0)
 | .int a,.int b=>a == b
 | .str a,.str b=>a == b
 |_,_=>false
theorem pg' {A:Around} {s:Shared} {y x:V} {u v:Value} (ry:as' y u) (rx:as' x v) (fy:d5' y=true) (fx:d5' x=true):SeqAt.EqAt A s u v (eqV y x):=by
 cases y with
 |non=>
  cases ry
  cases x with
  |non=>cases rx;exact SeqAt.EqAt.same _
  |bl b=>cases rx;exact SeqAt.EqAt.none_bool b
  |int b=>obtain⟨t,rfl⟩:=rx;exact SeqAt.EqAt.none_int b t
  |str b=>obtain⟨t,rfl⟩:=rx;exact SeqAt.EqAt.none_str b t
  |_=>exact absurd (show false=true from fx) ap
 |bl a=>
  cases ry
  cases x with
  |non=>cases rx;exact SeqAt.EqAt.bool_none a
  |bl b=>cases rx;exact SeqAt.EqAt.bool_bool a b
  |int b=>obtain⟨t,rfl⟩:=rx;exact SeqAt.EqAt.bool_int a b t
  |str b=>obtain⟨t,rfl⟩:=rx;exact SeqAt.EqAt.bool_str a b t
  |_=>exact absurd (show false=true from fx) ap
 |int a=>
  obtain⟨t',rfl⟩:=ry
  cases x with
  |non=>cases rx;exact SeqAt.EqAt.int_none a t'
  |bl b=>cases rx;exact SeqAt.EqAt.int_bool a t' b
  |int b=>obtain⟨t,rfl⟩:=rx;exact SeqAt.EqAt.int_int a t' b t
  |str b=>obtain⟨t,rfl⟩:=rx;exact SeqAt.EqAt.int_str a t' b t
  |_=>exact absurd (show false=true from fx) ap
 |str a=>
  obtain⟨t',rfl⟩:=ry
  cases x with
  |non=>cases rx;exact SeqAt.EqAt.str_none a t'
  |bl b=>cases rx;exact SeqAt.EqAt.str_bool a t' b
  |int b=>obtain⟨t,rfl⟩:=rx;exact SeqAt.EqAt.str_int a t' b t
  |str b=>obtain⟨t,rfl⟩:=rx;exact SeqAt.EqAt.str_str a t' b t
  |_=>exact absurd (show false=true from fx) ap
 |_=>exact absurd (show false=true from fy) ap
def eqU (x:V) (u:Value):Bool:=match u with
 | .none=>eqV .non x
 | .bool b=>eqV (.bl b) x
 | .int i _=>eqV (.int i) x
 | .str z _=>eqV (.str z) x
 |_=>false
theorem lj' {x y:V} {u:Value} (r:as' y u) (f:d5' y=true):eqU x u=eqV y x:=by
 cases y with
 |non=>cases r;rfl
 |bl b=>cases r;rfl
 |int i=>obtain⟨t,rfl⟩:=r;rfl
 |str z=>obtain⟨t,rfl⟩:=r;rfl
 |_=>exact absurd (show false=true from f) ap
theorem cC' {x:V}:∀{xs:List V} {us:List Value},ax' xs us->xs.all d5'=true->us.any (eqU x)=xs.any fun y=>eqV y x
 |_,_,.nil,_=>rfl
 |y :: xs,u :: us,.cons r t,f=>by
  rw[cL,ah]at f
  rw[cA,cA,lj' r f.1,cC' t f.2]
theorem bX' {A:Around} {s:Shared} {x:V} {v:Value} (rx:as' x v) (fx:d5' x=true):∀{xs:List V} {us:List Value},ax' xs us->xs.all d5'=true->∀u∈us,SeqAt.EqAt A s u v (eqU x u)
 |_,_,.nil,_=>fun u hu=>by cases hu
 |y :: xs,u :: us,.cons r t,f=>fun u' hu=>by
  rw[cL,ah]at f
  rcases aq.mp hu with rfl|hu
  .rw[lj' r f.1];exact pg' r rx f.1 fx
  .exact bX' rx fx t f.2 u' hu
def inV (x:V) (xs:List V):Bool:=xs.any fun y=>eqV y x
def rIn (K:W.Frag) (neg:Bool):R2:=fun x y H Q=>∃p xs,y=.ref p/\(SqL K H p xs\/SqT K H p xs)/\d5' x=true/\xs.all d5'=true/\Q (.bl (if neg then !inV x xs else inV x xs)) H
theorem ht':OpR X (compareOp .In) (rIn X.K false):=by
 intro pins s σ H x y v u Q I rx ry h
 obtain⟨p,xs,rfl,hq,fx,fs,q⟩:=h
 cases ry
 rcases hq with hq|hq
 .obtain⟨its,r,pl,hz⟩:=I.list hq
  refine SeqAt.in_listAt (eqU x) pl.isList (fun w hw=>bX' rx fx r fs w (by simpa using hw)) ⟨.bl _,H,I,rfl,?_⟩
  rw[show its.toArray.any (eqU x)=its.any (eqU x) by simp,cC' r fs]
  exact q
 .obtain⟨its,r,pl,hz⟩:=I.tuple hq
  refine SeqAt.in_tupleAt (eqU x) pl (fun w hw=>bX' rx fx r fs w (by simpa using hw)) ⟨.bl _,H,I,rfl,?_⟩
  rw[show its.toArray.any (eqU x)=its.any (eqU x) by simp,cC' r fs]
  exact q
theorem d6':OpR X (compareOp .NotIn) (rIn X.K true):=by
 intro pins s σ H x y v u Q I rx ry h
 obtain⟨p,xs,rfl,hq,fx,fs,q⟩:=h
 cases ry
 rcases hq with hq|hq
 .obtain⟨its,r,pl,hz⟩:=I.list hq
  refine SeqAt.notIn_listAt (eqU x) pl.isList (fun w hw=>bX' rx fx r fs w (by simpa using hw)) ⟨.bl _,H,I,rfl,?_⟩
  rw[show its.toArray.any (eqU x)=its.any (eqU x) by simp,cC' r fs]
  exact q
 .obtain⟨its,r,pl,hz⟩:=I.tuple hq
  refine SeqAt.notIn_tupleAt (eqU x) pl (fun w hw=>bX' rx fx r fs w (by simpa using hw)) ⟨.bl _,H,I,rfl,?_⟩
  rw[show its.toArray.any (eqU x)=its.any (eqU x) by simp,cC' r fs]
  exact q
theorem aN'.or {f:Value} {r r':List V->Hp->VK->Prop} (h:aN' X f r) (h':aN' X f r'):aN' X f (fun xs H Q=>r xs H Q\/r' xs H Q):=by
 intro pins s σ H xs us Q I rs q
 rcases q with q|q
 .exact h pins s σ H xs us Q I rs q
 .exact h' pins s σ H xs us Q I rs q
theorem d7':aN' X (.type "list") (fun xs H Q=>∃p ys,xs=[.ref p]/\(SqL X.K H p ys\/SqT X.K H p ys)/\∀l,H l=none->Q (.ref l) (upd H l (.lst ys))):=by
 intro pins s σ H xs us Q I r h
 obtain⟨p,ys,rfl,hq,q⟩:=h
 obtain⟨u,rfl,rx⟩:=c3' r
 cases rx
 have fin:∀(its:List Value),ax' ys its->ys.length<=sizeLine->∀(h':Heap) (c':Nat),(∀b o',s.heap.get? b=some o'->h'.get? b=some o')->
   h'.get? s.heap.objs.size=some { cls:=.type "list",dict:=none,data:=.seq its.toArray c',slots:=#[] }->EP X pins σ Q (.ref s.heap.objs.size) { s with heap:=h' }:=fun its r' hz h' c' kp e=>
  ⟨.ref s.heap.objs.size,_,I.laid (t':=s.toks) kp (ak _) (show aF' X.prog X.w _ h' _ (.lst ys) from⟨hz,its,c',r',e⟩),rfl,q _ (I.hok.fresh (ak _))⟩
 rcases hq with hq|hq
 .obtain⟨its,r',pl,hz⟩:=I.list hq
  have hlen:=r'.length
  obtain⟨o,ho,hc,n,hd⟩:=pl.isList
  exact call_list_seq p (.inl rfl) ho hc hd (fun h' c' kp e=>fin its r' hz h' c' kp e) (by simp only[aj]<;>omega)
 .obtain⟨its,r',pl,hz⟩:=I.tuple hq
  have hlen:=r'.length
  obtain⟨o,ho,hc,n,hd⟩:=pl
  exact call_list_seq p (.inr rfl) ho hc hd (fun h' c' kp e=>fin its r' hz h' c' kp e) (by simp only[aj]<;>omega)
theorem dz':aN' X (.type "tuple") (fun xs H Q=>∃p ys,xs=[.ref p]/\((SqL X.K H p ys/\∀l,H l=none->Q (.ref l) (upd H l (.tup ys)))\/(SqT X.K H p ys/\Q (.ref p) H))):=by
 intro pins s σ H xs us Q I r h
 obtain⟨p,ys,rfl,h⟩:=h
 obtain⟨u,rfl,rx⟩:=c3' r
 cases rx
 rcases h with⟨hq,q⟩|⟨hq,q⟩
 .obtain⟨its,r',pl,hz⟩:=I.list hq
  have hlen:=r'.length
  refine call_tuple_list pl.isList (fun h' kp=>?_) (by simp only[aj]<;>omega)
  have I1:Inv X pins σ H { s with heap:=h' }:=I.kept (t':=s.toks) kp
  have I2:Inv X pins σ (upd H h'.objs.size (.tup ys)) { s with heap:=h'.push { cls:=.type "tuple",data:=.seq its.toArray } }:=
   I1.laid (t':=s.toks) (fun b o e=>ae _ e) (ak _) (show aF' X.prog X.w _ _ _ (.tup ys) from⟨hz,its,r',lc'.new _ _⟩)
  exact⟨.ref h'.objs.size,_,I2,rfl,q _ (I1.hok.fresh (ak _))⟩
 .obtain⟨its,r',pl,hz⟩:=I.tuple hq
  exact call_tuple_same pl ⟨.ref p,H,I,rfl,q⟩
def tyV (K:W.Frag) (T:String) (x:V) (H:Hp):Prop:=match x with
 | .str _=>T="str"
 | .int _=>T="int"
 | .ref p=>(T="list"/\∃xs,SqL K H p xs)\/(T="tuple"/\((∃o,K.lookup p=some o/\o.cls=.type "tuple"/\o.dict=none)\/∃xs,H p=some (.tup xs)))\/
   (T="dict"/\((∃kvs,H p=some (.dK kvs))\/∃kvs,H p=some (.dT kvs)))\/(T="set"/\∃S n,H p=some (.set S n))
 |_=>False
theorem lk' {pins:List (Addr×Obj)} {σ:St} {H:Hp} {s:Shared} {T:String} {x:V} {v:Value} (I:Inv X pins σ H s) (r:as' x v) (ty:tyV X.K T x H):
  s.TypeIs v T/\∀a,v=.ref a->∃ob,s.heap.get? a=some ob/\ob.dict=none:=by
 cases x with
 |str z=>
  obtain⟨t,rfl⟩:=r
  cases(show T="str" from ty)
  exact⟨typeIs_str s z t,fun _ e=>nomatch e⟩
 |int i=>
  obtain⟨t,rfl⟩:=r
  cases(show T="int" from ty)
  exact⟨typeIs_int s i t,fun _ e=>nomatch e⟩
 |ref p=>
  cases r
  rcases ty with⟨rfl,xs,hq⟩|⟨rfl,⟨o,hk,hc,hd⟩|⟨xs,hk⟩⟩|⟨rfl,hk⟩|⟨rfl,S,n,hk⟩
  .obtain⟨its,_,pl,_⟩:=I.list hq
   refine⟨pl.isList.typeIs,fun a e=>?_⟩
   cases e
   obtain⟨o,n,e,c,hd,_⟩:=pl
   exact⟨o,e,hd⟩
  .refine⟨⟨o,I.kIn p o hk,hc⟩,fun a e=>?_⟩
   cases e
   exact⟨o,I.kIn _ o hk,hd⟩
  .obtain⟨_,_,_,o,e,c,_,hd⟩:=I.hok p _ hk
   refine⟨⟨o,e,c⟩,fun a e2=>?_⟩
   cases e2
   exact⟨o,e,hd⟩
  .have z:∃o,s.heap.get? p=some o/\o.ExactDict:=by
    rcases hk with⟨kvs,hk⟩|⟨kvs,hk⟩
    .obtain⟨_,_,_,_,o,_,_,e,ex,_⟩:=I.hok p _ hk
     exact⟨o,e,ex⟩
    .obtain⟨_,_,_,_,o,_,_,e,ex,_⟩:=I.hok p _ hk
     exact⟨o,e,ex⟩
   obtain⟨o,e,ex⟩:=z
   refine⟨⟨o,e,ex.1⟩,fun a e2=>?_⟩
   cases e2
   exact⟨o,e,ex.2.1⟩
  .obtain⟨o,_,_,_,e,ex,_⟩:=I.hok p _ hk
   refine⟨⟨o,e,ex.1⟩,fun a e2=>?_⟩
   cases e2
   exact⟨o,e,ex.2.1⟩
 |_=>exact False.elim ty
def uI' (K:W.Frag) (T:String) (r:V->List V->Hp->VK->Prop) (to:TE):TE:=fun σ H Q=>to σ H fun x H1=>tyV K T x H1/\r x [] H1 Q
def tBM (K:W.Frag) (T:String) (r:V->List V->Hp->VK->Prop) (to:TE) (t:TA):TE:=fun σ H Q=>to σ H fun x H1=>tyV K T x H1/\t σ H1 fun xs H2=>r x xs H2 Q
variable {o e:Expr} {es:List Expr} {to:TE} {t:TA} {name:Str} {apos cpos:Pos} {T id:String} {r:V->List V->Hp->VK->Prop}
theorem ph' (pa:PlainAttrs T) (slot:Slot T name id) (hty:typeOf (.builtin id)=pure (.type "method_descriptor")) (hm:MtR X id r) (ho:PE X o to)
  (hbase:attributeBase o name X.env (eval o X.env)=eval o X.env:=by rfl) (hline:(apos.endLine == cpos.line)=true:=by rfl):PE X (.Call (.Attribute o name apos) [] [] cpos) (uI' X.K T r to):=by
 intro pins s σ H Q I h
 refine wpAny_Call_method0_late hbase hline (thn (ho pins s σ H _ I h) fun v s1 ⟨x,H1,I1,r1,ty,q1⟩=>?_)
 obtain⟨h1,h2⟩:=lk' I1 r1 ty
 exact⟨T,id,pa,slot,hty,h1,h2,Calls.callWith_builtin rfl (PySem.evalArgs_none (hm pins s1 σ H1 x [] v [] Q I1 r1 .nil q1))⟩
theorem sG' (pa:PlainAttrs T) (slot:Slot T name id) (hty:typeOf (.builtin id)=pure (.type "method_descriptor")) (hm:MtR X id r) (ho:PE X o to) (ha:PA X (e :: es) t)
  (hbase:attributeBase o name X.env (eval o X.env)=eval o X.env:=by rfl)
  (hfew:((backTo cpos (starEach (e :: es) X.env)).all (fun x=>!x.1)&&(backToKw cpos (keywordEach [] X.env)).all (fun x=>x.1.isSome)
   && decide ((e :: es).length+([]:List Keyword).length+(if([]:List Keyword).isEmpty then 0 else 1)<30))=true:=by rfl)
  (hline:(apos.endLine == cpos.line)=true:=by rfl) (hs:starEach (e :: es) X.env=(false,eval e X.env) :: starEach es X.env:=by rfl) (hplain:(backTo cpos (starEach es X.env)).any (·.1)=false:=by rfl):
  PE X (.Call (.Attribute o name apos) (e :: es) [] cpos) (tBM X.K T r to t):=by
 intro pins s σ H Q I h
 refine wpAny_Call_method_late hbase hfew hline rfl (thn (ho pins s σ H _ I h) fun v s1 ⟨x,H1,I1,r1,ty,q1⟩=>?_)
 obtain⟨h1,h2⟩:=lk' I1 r1 ty
 refine⟨T,id,pa,slot,hty,h1,h2,?_⟩
 have hA:=ha cpos pins s1 σ H1 _ I1 q1
 rw[hs]at hA ⊢
 refine Calls.callWith_builtin (by show(false || (backTo cpos (starEach es X.env)).any (·.1))=false;rw[hplain]<;>rfl) (Calls.evalArgs_plain ?_)
 exact thn hA fun us s2 ⟨vs,H2,I2,r2,q2⟩=>hm pins s2 σ H2 x vs v us Q I2 r1 r2 q2
end
def MtM (X:Cx) (id:String) (r:V->List V->Hp->VK->Prop):Prop:=
 ∀(pins:List (Addr×Obj)) (s:Shared) (σ:St) (H:Hp) (x:V) (xs:List V) (v:Value) (us:List Value) (Q:VK),Inv X pins σ H s->as' x v->ax' xs us->r x xs H Q->
  wpAny (model X.prog X.w) X.A (call (.builtin id) (v :: us)) (EP X pins σ Q) X.xe s
theorem ax'.one:∀{x:V} {us:List Value},ax' [x] us->∃u,us=[u]/\as' x u
 |_,_,.cons r .nil=>⟨_,rfl,r⟩
theorem ax'.zero:∀{us:List Value},ax' [] us->us=[]
 |_,.nil=>rfl
theorem ax'.reverse {xs:List V} {us:List Value} (h:ax' xs us):ax' xs.reverse us.reverse:=by
 induction h with
 |nil=>exact .nil
 |cons r t ih=>rw[List.reverse_cons,List.reverse_cons];exact ax'.append ih (.cons r .nil)
theorem ax'.rep {xs:List V} {us:List Value} (h:ax' xs us):∀k:Nat,ax' (aC k xs).flatten (aC k us).flatten
 |0=>.nil
 |k+1=>by
  rw[bB,bB,bC,bC]
  exact ax'.append h (ax'.rep h k)
theorem d8' (its:List Value):∀(k:Nat) (acc:List Value),
  List.foldl (fun x1 x2=>x1++x2) acc.toArray (aC k its.toArray)=(acc++(aC k its).flatten).toArray
 |0,acc=>by simp
 |k+1,acc=>by
  have e:acc.toArray++its.toArray=(acc++its).toArray:=by simp
  have e2:(acc++its)++(aC k its).flatten=acc++(aC (k+1) its).flatten:=by
   rw[bB,bC,aV]
  rw[<- e2,<- d8' its k (acc++its),<- e,bB,List.foldl_cons]
section
variable {X:Cx} {pins:List (Addr×Obj)} {σ:St} {H:Hp} {s:Shared} {l b:Addr} {xs ys zs:List V}
theorem Inv.lset {its its':List Value} {n:Nat} {f:Array Value->Array Value} {t':Nat} (I:Inv X pins σ H s) (hH:H l=some (.lst xs))
  (e:s.heap.get? l=some { cls:=.type "list",data:=.seq its.toArray n }) (hf:f its.toArray=its'.toArray) (hv:ax' ys its') (hz:ys.length<=sizeLine):
  Inv X pins σ (upd H l (.lst ys)) { s with heap:=s.heap.update l (Obj.mapSeq f),toks:=t' }:=by
 have q:=PySem.IsL.update e f
 rw[hf]at q
 refine I.write (x:=l) (e:=l) (by rw[hH];exact trivial) (.inl rfl) (fun b' u hb hu=>(Heap.get?_update_other s.heap (Obj.mapSeq f) (Ne.symm hb)).trans hu) ⟨_,q⟩ ?_
 exact⟨hz,its',_,hv,q⟩
theorem Inv.lnew {its:List Value} {t':Nat} (I:Inv X pins σ H s) (hv:ax' ys its) (hz:ys.length<=sizeLine):
  Inv X pins σ (upd H s.heap.objs.size (.lst ys)) { s with heap:=s.heap.push { cls:=.type "list",data:=.seq its.toArray },toks:=t' }:=
 I.laid (fun _ _ q=>ae _ q) (ak _) ⟨hz,its,0,hv,aw _ rfl⟩
theorem Inv.fresh (I:Inv X pins σ H s):H s.heap.objs.size=none:=I.hok.fresh (ak _)
theorem Inv.lstM (I:Inv X pins σ H s) (hH:H l=some (.lst xs)):xs.length<=sizeLine/\∃(its:List Value) (n:Nat),ax' xs its/\xs.length=its.length/\s.heap.get? l=some { cls:=.type "list",data:=.seq its.toArray n }:=by
 obtain⟨z,its,n,r,e⟩:=I.hok l _ hH
 exact⟨z,its,n,r,r.length,e⟩
theorem jU' {n:Nat} (h:n<=sizeLine):Builtin.List.listTooLong n=false:=by
 unfold Builtin.List.listTooLong
 exact decide_eq_false (by omega)
end
section
variable {X:Cx}
def hv':V->List V->Hp->VK->Prop:=fun x vs H Q=>∃l xs y,x=.ref l/\vs=[y]/\H l=some (.lst xs)/\xs.length<sizeLine/\Q .non (upd H l (.lst (xs++[y])))
theorem hw':MtM X "list.append" hv':=by
 intro pins s σ H x vs v us Q I rx rv h
 obtain⟨l,xs,y,rfl,rfl,hH,hz,q⟩:=h
 cases rx
 obtain⟨u,rfl,ru⟩:=rv.one
 obtain⟨z,its,n,r,hl,e⟩:=I.lstM hH
 refine call_meets F.slot_list_append ⟨_,e,rfl⟩ F.entry_list_append (F.args_list_append_2 _ _) (PySem.list_append l its.toArray n u (by rw[aj];omega)) ⟨e,?_⟩
 refine⟨.non,_,I.lset (its':=its++[u]) hH e (by simp) (r.append (.cons ru .nil)) ?_,rfl,q⟩
 rw[am,cx]
 omega
def tY':R2:=fun x y H Q=>∃l b xs zs,x=.ref l/\y=.ref b/\H l=some (.lst xs)/\H b=some (.lst zs)/\xs.length+zs.length<=sizeLine/\∀p,H p=none->Q (.ref p) (upd H p (.lst (xs++zs)))
theorem pi':OpR X (binaryOp .Add) tY':=by
 intro pins s σ H x y v u Q I rx ry h
 obtain⟨l,b,xs,zs,rfl,rfl,hH,hB,hz,q⟩:=h
 cases rx
 cases ry
 obtain⟨z,its,n,r,hl,e⟩:=I.lstM hH
 obtain⟨z2,its2,n2,r2,hl2,e2⟩:=I.lstM hB
 refine PySem.P.add_list e e2 ?_ (by rw[aj,aj];omega)
 have ea:its.toArray++its2.toArray=(its++its2).toArray:=by simp
 rw[ea]
 exact⟨.ref _,_,I.lnew (t':=s.toks) (r.append r2) (by rw[am];omega),rfl,q _ I.fresh⟩
def tZ':R2:=fun x y H Q=>∃l k xs,x=.ref l/\y=.int k/\H l=some (.lst xs)/\-(2 ^ 63)<=k/\k<2 ^ 63/\xs.length*k.toNat<=sizeLine/\
 ∀p,H p=none->Q (.ref p) (upd H p (.lst (aC k.toNat xs).flatten))
theorem m9' {α:Type} (xs:List α) (k:Nat):(aC k xs).flatten.length=k*xs.length:=by
 induction k with
 |zero=>simp
 |succ k ih=>rw[bB,bC,am,ih,Nat.succ_mul,Nat.add_comm]
theorem pj':OpR X (binaryOp .Mult) tZ':=by
 intro pins s σ H x y v u Q I rx ry h
 obtain⟨l,k,xs,rfl,rfl,hH,h1,h2,hz,q⟩:=h
 cases rx
 obtain⟨t,rfl⟩:=ry
 obtain⟨z,its,n,r,hl,e⟩:=I.lstM hH
 have hlen:its.toArray.size*k.toNat<=sizeLine:=by rw[aj,<- hl];exact hz
 have hcap:¬its.toArray.size*k.toNat > (2 ^ 63-1) / 8:=by
  have:(sizeLine:Nat)<=(2 ^ 63-1) / 8:=by decide
  omega
 have hfit:¬(!Builtin.List.listFitsIndex k)=true:=by
  rw[fitsIndex_both h1 h2]
  exact ap
 have hlong:¬Builtin.List.listTooLong (its.toArray.size*k.toNat)=true:=by
  rw[jU' hlen]
  exact ap
 have hnew:List.foldl (fun x1 x2=>x1++x2) #[] (aC (if its.toArray.isEmpty=true then 0 else k.toNat) its.toArray)=(aC k.toNat its).flatten.toArray:=by
  have f0:∀m:Nat,List.foldl (fun x1 x2=>x1++x2) #[] (aC m its.toArray)=(aC m its).flatten.toArray:=fun m=>by
   have:=d8' its m []
   rw[List.nil_append]at this
   exact this
  rw[f0]
  cases its with
  |nil=>simp
  |cons a r'=>rw[if_neg (by simp)]
 refine wpAny_binaryOp_repeat_ref (T:="list") (U:="int") (by decide) ⟨_,e,rfl⟩ (fun s'=>typeIs_int s' k t) noFill_list_mul F.fills_int_mul F.slot_int_rmul repeat_list F.slot_int_index.lookup
  (call_meets F.slot_int_rmul (typeIs_int s k t) F.entry_int_rmul (F.args_int_rmul_2 _ _) (int___rmul___int_list k t l its.toArray n)
   ⟨e,rfl,⟨_,e,rfl⟩,call_meets F.slot_list_mul ⟨_,e,rfl⟩ F.entry_list_mul (F.args_list_mul_2 _ _) (AutoListH.list___mul___list_int_3 l its.toArray n k t hfit hcap hlong) ⟨e,?_⟩⟩)
 rw[hnew]
 exact⟨.ref _,_,I.lnew (t':=s.toks) (r.rep k.toNat) (by rw[m9',cJ];exact hz),rfl,q _ I.fresh⟩
end
section
variable {prog:Program} {w:World} {A:Around} {E:Value->Shared->Prop} {s:Shared}
end
section
variable {X:Cx}
end
end L2
namespace Att
open PySem PySem.W PySem.Calls PyProof.Rows
theorem cD' {P:Params} {h:Heap}:∀(ns:List Int) (vs:List Value),WellAll P h vs (ns.map WData.int)->IntsAre vs ns:=by
 intro ns
 induction ns with
 |nil=>
  intro vs w
  rw[cI]at w
  cases w
  exact .nil
 |cons n ns ih=>
  intro vs w
  rw[aE]at w
  cases w with
  |cons a b=>
   cases a
   exact .cons _ _ (ih _ b)
theorem hA' {l:OpenLaw} {n:Nat} (hn:l.most=some n) {P:Params} {h:Heap} {args:List WData} {vals:List Value}
  (hpre:l.row.toRowW.claim.pre args=true) (hwl:WellAll P h vals args):
  ∃a vs ns,vals=[Value.ref a]/\args=[WData.list (ns.map WData.int)]/\h.get? a=some { cls:=.type "list",data:=.seq vs.toArray }/\IntsAre vs ns/\ns.length<=n:=by
 have hsh:WShape.hasAll [] args [.list .int]=true:=(pre_splitW hpre).1
 have hc:l.pre.holds [] { args:=args }=true:=(pre_splitW hpre).2
 obtain⟨d,r,rfl,h1,h2⟩:=hasAllW_cons hsh
 obtain rfl:=hasAllW_nil h2
 obtain⟨xs,rfl,h3⟩:=hasW_list h1
 obtain⟨ns,rfl⟩:=items_int h3
 have hlen:ns.length<=n:=by
  unfold OpenLaw.pre at hc
  have h4:(WTm.not (.lt (.lit (.int (n:Int))) (.len (.arg 0)))).holds [] { args:=[.list (ns.map .int)] }=true:=by
   have h4:=(holds_andW hc).1
   rw[hn]at h4
   exact h4
  have h5:=condW_of h4 (w_not (w_lt w_lit (w_len_list (w_arg rfl))))
  rw[ai]at h5
  refine Nat.le_of_not_lt fun q=>?_
  have q':(n:Int)<((ns.length:Nat):Int):=by omega
  first
   |(rw[decide_eq_true q']at h5;exact absurd h5 (by decide))
   |(simp at h5;omega)
 cases hwl with
 |cons w1 w2=>
  cases w2
  cases w1 with
  |list ho hall=>exact⟨_,_,ns,rfl,rfl,ho,cD' ns _ hall,hlen⟩
theorem hB' (l:OpenLaw) (args:List WData):l.row.toRowW.claim.post args (.bool true) args=true:=
 postW_of (r:=l.row.toRowW) (X:=(true == true))
  (show WShape.has [] (.bool true) .bool=true by first|rfl|decide|simp[WShape.has,WShape.arms,WShape.armsAll])
  (show(WTm.eq .res (.lit (.bool true))).value [] { args:=args,res:=some (.bool true),after:=args }=some (.bool (true == true)) from w_eq_bool (w_res rfl) w_lit) rfl
theorem eR' {l:OpenLaw} {n:Nat} {q:Program} {loose:List Str} {XP:(Str->Option Value)->Heap->Prop} {YP:World->Heap->Prop} {d:DefRec}
  (hn:l.most=some n) (hdf:d.params.defaults=[])
  (call:∀(w:World) (s₀ s₁:Shared) (mg mb:Str->Option Value) (fa:Addr) (o:Obj) (pm cd doc:Value) (a:Addr) (vs:List Value) (ns:List Int),
   Ground q loose [] XP w s₀ mg mb s₁.heap->YP w s₁.heap->
   s₁.heap.get? fa=some o->o.data=.func (docDef d.name d.params d.body d.scope pm cd doc)->s₁.heap.CodeRec cd d.name->mg d.name=some (.ref fa)->
   s₁.heap.get? a=some { cls:=.type "list",data:=.seq vs.toArray }->IntsAre vs ns->ns.length<=n->s₁.gens=#[]->
   codeAny (model l.prog w) callerA (.call (.ref fa) ⟨[.ref a],[]⟩) (fun r s'=>r=.ok (.ret (.bool true))/\OldK s₁.heap s'.heap/\s'.os=s₁.os/\AllBare s'.gens) s₁):
  WalkO q loose XP YP l.row.toRowW d [] (fun f vs=>PySem.call f vs):=by
 intro w s₀ s₁ mg mb G Y fa o pm cd doc dV kV ho hd hcd hD hmg hg args vals as hpre hlay hrd hwl hlo
 obtain rfl:dV=.none:=Dflts.none hD hdf
 obtain rfl:kV=.none:=Dflts.noKw hD
 obtain⟨a,vs,ns,rfl,rfl,hobj,hints,hlen⟩:=hA' hn hpre hwl
 refine enter_call (codeAny_mono (call w s₀ s₁ mg mb fa o pm cd doc a vs ns G Y ho (fd_plain hd) hcd hmg hobj hints hlen hg) fun r s' hq=>?_)
 obtain⟨rfl,h2,h3,h4⟩:=hq
 exact⟨.inl ⟨.bool true,.bool true,[],rfl,fun _=>rfl,.bool true,hB' l _,fun _=>⟨List.Pairwise.nil,fun _ hm=>(nomatch hm)⟩⟩,h2,h3,h4⟩
section
variable {prog:Program} {w:World} {A:Around} {E:Value->Shared->Prop} {s:Shared} {K:Frag}
end
end Att
namespace L2
open PySem PySem.Spec PyProof.Rows
theorem d9':∀{vs:List Value} {ns:List Int},IntsAre vs ns->ax' (ns.map V.int) vs
 |_,_,.nil=>.nil
 |_,_,.cons n t h=>.cons ⟨t,rfl⟩ (d9' h)
def sH' (H:Hp):Prop:=∀b,H b=none\/∃o xs,H b=some (.frz o (.lst xs))
theorem jV' {P:Program} {w:World} {K:W.Frag} {mg mb:Str->Option Value} {CX:CXT} {k:Nat} {fa a:Addr} {fd:FuncData} {x:Str} {sp:Sp} {s₁:Shared} {vs:List Value} {ns:List Int}
  (KX:K.In s₁.heap) (hns:s₁.heap.Ns mainGlobals mg) (hb:s₁.heap.Ns builtinsNs mb) (hbb:∀x:Str,x≠"__name__"->mb x=bootBuiltins x) (hlim:s₁.heap.NoLimit) (hg:s₁.gens=#[])
  (ha:s₁.heap.get? a=some { cls:=.type "list",data:=.seq vs.toArray }) (hi:IntsAre vs ns) (hl:ns.length<=sizeLine) (hr:Room k callerA)
  (F:∀base:Heap,K.In base->base.Ns mainGlobals mg->FnOk P w K mg base CX k fa fd [x] sp) (hbind:∀(s:Shared) (u:Value),BindsTo s fd ⟨[u],[]⟩ [(x,u)])
  (hsp:∀H:Hp,sH' H->SqL K H a (ns.map V.int)->sp [.ref a] H (fun v _=>v=.bl true) fun _ _ _=>False)
  (hCX:∀H e s',CX [] H s₁ (fun _ _ _=>False) e s'->False):
  codeAny (model P w) callerA (.call (.ref fa) ⟨[.ref a],[]⟩) (fun r s'=>r=.ok (.ret (.bool true))/\OldK s₁.heap s'.heap/\s'.os=s₁.os/\AllBare s'.gens) s₁:=by
 have rv:=d9' hi
 have lenV:=hi.length
 have core:∀H:Hp,sH' H->SqL K H a (ns.map V.int)->HOk P w H s₁.heap->(∀b,H b≠none->b=a)->(H a≠none->K.lookup a=none)->
   codeAny (model P w) callerA (.call (.ref fa) ⟨[.ref a],[]⟩) (fun r s'=>r=.ok (.ret (.bool true))/\OldK s₁.heap s'.heap/\s'.os=s₁.os/\AllBare s'.gens) s₁:=by
  intro H hO hS hok hA hK
  have base_of:∀{b:Addr} {o:Obj},s₁.heap.get? b=some o->H b=none->(jD' s₁.heap H).get? b=some o:=fun e n=>jE' e n
  have noA:∀{b:Addr} {o:Obj} {es:Array DictEntry} {ep:Nat},s₁.heap.get? b=some o->o.data=.dict es ep->H b=none:=fun {b o es ep} e d=>by
   cases q:H b with
   |none=>rfl
   |some u=>
    have e':b=a:=hA b (by rw[q];simp)
    subst e'
    rw[ha]at e;cases e
    have d':Data.seq vs.toArray _=Data.dict es ep:=d
    cases d'
  have nsK:∀{b:Addr} {m:Str->Option Value},s₁.heap.Ns b m->(jD' s₁.heap H).Ns b m:=fun {b m} ⟨o,es,ep,e,d,r⟩=>⟨o,es,ep,base_of e (noA e d),d,r⟩
  have hKb:K.In (jD' s₁.heap H):=fun b o e=>base_of (KX b o e) (by
   cases q:H b with
   |none=>rfl
   |some u=>
    have e':b=a:=hA b (by rw[q];simp)
    subst e'
    rw[hK (by rw[q];simp)]at e;cases e)
  have hM:Mod K mg (jD' s₁.heap H):=⟨hKb,nsK hns,⟨mb,nsK hb,hbb⟩,let⟨mc,h1,h2⟩:=hlim;⟨mc,nsK h1,h2⟩⟩
  have e0:Env0 P w K mg (jD' s₁.heap H) callerA [] s₁ H:=⟨rfl,hM,fun b o e=>mM' e,Nat.le_of_eq (gT' _ _),trivial,fun b hb=>absurd (show b∈([]:List Addr) from hb) (by simp),hok,.of_eq hg⟩
  refine codeAny_mono ((F _ hKb (nsK hns)).run callerA [] s₁ H ⟨[.ref a],[]⟩ [.ref a] [.ref a] _ _ hr e0 (hbind s₁ (.ref a)) (.cons rfl .nil) (hsp H hO hS)) fun r s' h=>?_
  cases r with
  |error e=>exact(hCX H e s' h).elim
  |ok fl=>
   cases fl with
   |next=>exact False.elim h
   |brk=>exact False.elim h
   |cont=>exact False.elim h
   |ret u=>
    obtain⟨v,H',os,bare,un,hok',r',q⟩:=h
    have q':v=.bl true:=q
    subst q'
    obtain rfl:u=Value.bool true:=r'
    refine⟨rfl,OldK.of_keep fun b o e=>?_,os,bare⟩
    cases q:H b with
    |none=>exact un.keep b o e q (by intro z;exact absurd (show b∈([]:List Addr) from z) (by simp)) (by simp)
    |some u=>
     rcases hO b with z|⟨ob,xs,z⟩
     .rw[q]at z;cases z
     .have z2:=un.frzs b ob _ z
      obtain⟨e1,_⟩:=hok b _ z
      obtain⟨e2,_⟩:=hok' b _ z2
      rw[e]at e1;cases e1
      exact e2
 cases hk:K.lookup a with
 |some o=>
  have e:=KX a o hk
  rw[ha]at e
  cases e
  refine core (fun _=>none) (fun _=>.inl rfl) (.inr ⟨_,vs.toArray,_,hk,rfl,rfl,rfl,by rw[aj,lenV];exact hl,by simpa using rv⟩) (fun b u z=>by have z':(none:Option HO)=some u:=z;cases z') (fun b z=>absurd rfl z) fun z=>absurd rfl z
 |none=>
  refine core (fun b=>if b=a then some (.frz { cls:=.type "list",data:=.seq vs.toArray } (.lst (ns.map V.int)))else none) (fun b=>?_) (.inl (.inr ⟨{ cls:=.type "list",data:=.seq vs.toArray },if_pos rfl⟩)) (fun b u z=>?_) (fun b z=>?_) fun _=>hk
  .by_cases hb:b=a
   .exact .inr ⟨_,_,if_pos hb⟩
   .exact .inl (if_neg hb)
  .by_cases hb:b=a
   .have z':=(if_pos hb).symm.trans z
    cases z'
    subst hb
    exact⟨ha,by rw[ai];exact hl,vs,_,rv,ha⟩
   .have z':=(if_neg hb).symm.trans z
    cases z'
  .by_cases hb:b=a
   .exact hb
   .exact absurd (if_neg hb) z
theorem na' {l:W.OpenLaw} {n k:Nat} {q:Program} {loose:List Str} {XP:(Str->Option Value)->Heap->Prop} {YP:World->Heap->Prop} {d:DefRec} {K:Params->W.Frag} {CX:World->CXT} {sp:World->Sp} {x:Str}
  (hn:l.most=some n) (hn2:n<=sizeLine) (hdf:d.params.defaults=[]) (hr:Room k callerA)
  (hY:∀(w:World) (h:Heap),YP w h->(K w.params).In h)
  (F:∀(w:World) (mg:Str->Option Value) (fa:Addr) (h:Heap),(K w.params).In h->h.Ns mainGlobals mg->mg d.name=some (.ref fa)->
   ∃fd:FuncData,(∀(s:Shared) (u:Value),BindsTo s fd ⟨[u],[]⟩ [(x,u)])/\
    ∀base:Heap,(K w.params).In base->base.Ns mainGlobals mg->FnOk l.prog w (K w.params) mg base (CX w) k fa fd [x] (sp w))
  (hsp:∀(w:World) (H:Hp) (a:Addr) (ns:List Int),ns.length<=n->sH' H->SqL (K w.params) H a (ns.map V.int)->sp w [.ref a] H (fun v _=>v=.bl true) fun _ _ _=>False)
  (hCX:∀(w:World) (H:Hp) (s:Shared) (e:Value) (s':Shared),CX w [] H s (fun _ _ _=>False) e s'->False):
  W.WalkO q loose XP YP l.row.toRowW d [] (fun f vs=>PySem.call f vs):=by
 refine Att.eR' hn hdf fun w s₀ s₁ mg mb fa o pm cd doc a vs ns G Y ho hd hcd hmg hobj hints hlen hg=>?_
 have KX:=hY w _ Y
 obtain⟨fd,hb,hF⟩:=F w mg fa _ KX G.T.g hmg
 exact jV' KX G.T.g G.T.b G.T.builtins G.T.nolimit hg hobj hints (aS hlen hn2) hr hF hb (fun H hO hS=>hsp w H a ns hlen hO hS) fun H e s'=>hCX w H s₁ e s'
def cc' (s:Stmt):Arguments:=match s with
 | .FunctionDef _ a _ _ _ _ _ _ _ _=>a
 |_=>{ posonlyargs:=[],args:=[],vararg:=none,kwonlyargs:=[],kw_defaults:=[],kwarg:=none,defaults:=[] }
def ap' (s:Stmt):List Stmt:=match s with
 | .FunctionDef _ _ b _ _ _ _ _ _ _=>b
 |_=>[]
def ad' (s:Stmt):Scope:=match s with
 | .FunctionDef _ _ _ _ _ _ sc _ _ _=>sc
 |_=>{ kind:=.function,names:=[],isGenerator:=false,isCoroutine:=false }
abbrev CX0:CXT:=fun _ _ _ _ _ _=>False
abbrev E0:XK:=fun _ _ _=>False
structure Fun (K:W.Frag) (x qual:Str) (st:Stmt) (f:Addr) (fd:FuncData):Prop where
 ex:∃(oc:Value) (od:Option Addr) (kV doc pm:Value) (an:Option Addr) (cdv ct:Value) (osl:Array (Option Value)),
  fd=W.fnOf x qual (cc' st) (ap' st) (ad' st) .none kV doc pm an cdv ct/\K.lookup f=some ⟨oc,od,.func fd,osl⟩/\W.codeIn K cdv qual=true
 kp:W.keepIn K (.ref f)=true
section
variable {P:Program} {w:World} {K:W.Frag} {mg:Str->Option Value} {base:Heap}
theorem Fun.binds {x qual:Str} {st:Stmt} {f:Addr} {fd:FuncData} {ps:List Str} (F:Fun K x qual st f fd)
  (h:∀(kV doc pm:Value) (an:Option Addr) (cdv ct:Value) (us:List Value),us.length=ps.length->bindArgs (W.fnOf x qual (cc' st) (ap' st) (ad' st) .none kV doc pm an cdv ct) ⟨us,[]⟩=pure (ps.zip us)):c4' K fd ps []:=by
 obtain⟨oc,od,kV,doc,pm,an,cdv,ct,osl,rfl,lk,hcd⟩:=F.ex
 exact .all (h kV doc pm an cdv ct)
theorem pk' {x qual:Str} {st:Stmt} {f:Addr} {oc:Value} {od an:Option Addr} {osl:Array (Option Value)} {kV doc pm cdv ct:Value} (l:K.lookup f=some ⟨oc,od,.func (W.fnOf x qual (cc' st) (ap' st) (ad' st) .none kV doc pm an cdv ct),osl⟩)
  (c:W.codeIn K cdv qual=true) (k:W.keepIn K (.ref f)=true):Fun K x qual st f (W.fnOf x qual (cc' st) (ap' st) (ad' st) .none kV doc pm an cdv ct):=⟨⟨oc,od,kV,doc,pm,an,cdv,ct,osl,rfl,l,c⟩,k⟩
end
theorem af' {n:Nat} (h:n<=1000):n<sizeLine:=Nat.lt_of_le_of_lt h (by decide)
section
variable {X:Cx}
theorem pv (i:Nat) {x:Str} {pos:Pos} (hN:X.N[i]?=some x:=by rfl) (hv:Vis X.env.scope x:=by first|exact Or.inl rfl|exact Or.inr (Or.inl rfl)|exact Or.inr (Or.inr rfl)) (hd:(x == ("__debug__":Str))=false:=by decide)
  (hcd:(x == ("__classdict__":Str))=false:=by decide):PE X (.Name x pos) (rX' i):=ld' hN hv hd hcd
end
def bo' (H H':Hp):Prop:=∀b o,H b=some o->H' b=some o
theorem bo'.refl (H:Hp):bo' H H:=fun _ _ h=>h
theorem bo'.trans {H H1 H2:Hp} (a:bo' H H1) (b:bo' H1 H2):bo' H H2:=fun c o h=>b c o (a c o h)
theorem bo'.free {H H':Hp} (e:bo' H H') {l:Addr} (h:H' l=Option.none):H l=Option.none:=by
 cases q:H l with
 |none=>rfl
 |some o=>
  rw[e l o q]at h
  cases h
theorem bo'.seq {K:W.Frag} {H H':Hp} {a:Addr} {xs:List V} (e:bo' H H') (h:SqL K H a xs):SqL K H' a xs:=by
 rcases h with(h|⟨o,h⟩)|h
 .exact .inl (.inl (e _ _ h))
 .exact .inl (.inr ⟨o,e _ _ h⟩)
 .exact .inr h
def bm' (cells:List (Str×Addr)):List (Str×NameKind)->List (Str×Addr)->List (Str×Addr)
 | [],acc=>acc
 |(n,k) :: r,acc=>if k == .free then bm' cells r ((n,(cells.lookup n).getD 0) :: acc)else bm' cells r acc
def ea' (env:Env) (x:Str×NameKind) (r:List (Str×Addr)):Sem (ForInStep (List (Str×Addr))):=
 match x with|(name,kind)=>if(kind == .free)=true then(do let a <- cellOf env name;pure (ForInStep.yield ((name,a) :: r)))else pure (ForInStep.yield r)
theorem pl' {env:Env}:∀(names:List (Str×NameKind)) (acc:List (Str×Addr)),(∀n,(n,NameKind.free)∈names->∃c,env.cells.lookup n=some c)->
   forIn names acc (ea' env)=(pure (bm' env.cells names acc):Sem _):=by
  intro names
  induction names with
  |nil=>intro acc _;rfl
  |cons x r ih=>
   intro acc hh
   obtain⟨n,k⟩:=x
   rw[List.forIn_cons]
   have hr:=fun m hm=>hh m (ao _ hm)
   by_cases hk:k=.free
   .subst hk
    obtain⟨c,hc⟩:=hh n aA
    have e1:cellOf env n=(pure c:Sem Addr):=by unfold cellOf;rw[hc]
    have e2:ea' env (n,NameKind.free) acc=pure (ForInStep.yield ((n,c) :: acc)):=by
     unfold ea'
     dsimp only
     rw[if_pos (by rfl),e1]
     rfl
    rw[e2]
    have e3:=ih ((n,c) :: acc) hr
    have e4:bm' env.cells ((n,NameKind.free) :: r) acc=bm' env.cells r ((n,c) :: acc):=by
     show(if(NameKind.free == NameKind.free)=true then _ else _)=_
     rw[if_pos (by rfl),hc]
     rfl
    rw[e4,<- e3]
    rfl
   .have hb:(k == NameKind.free)=false:=by simpa using hk
    have e2:ea' env (n,k) acc=pure (ForInStep.yield acc):=by
     unfold ea'
     dsimp only
     rw[if_neg (by rw[hb];exact ap)]
    rw[e2]
    have e4:bm' env.cells ((n,k) :: r) acc=bm' env.cells r acc:=by
     show(if(k == NameKind.free)=true then _ else _)=_
     rw[if_neg (by rw[hb];exact ap)]
    rw[e4,<- ih acc hr]
    rfl
theorem nb' {env:Env} {scope:Scope} (h:∀n,(n,NameKind.free)∈scope.names->∃c,env.cells.lookup n=some c):closureFor scope env=pure (bm' env.cells scope.names []):=by
 have e:=pl' (env:=env) scope.names [] h
 unfold closureFor
 have q:∀f:Str×NameKind->List (Str×Addr)->Sem (ForInStep (List (Str×Addr))),(∀x r,f x r=ea' env x r)->(forIn scope.names ([]:List (Str×Addr)) f >>= fun r=>pure r)=(pure (bm' env.cells scope.names []):Sem _):=by
  intro f hf
  have:f=ea' env:=funext fun x=>funext fun r=>hf x r
  rw[this,e]
  rfl
 refine q _ fun x r=>?_
 obtain⟨n,k⟩:=x
 unfold ea'
 first|done|(dsimp only;done)|(dsimp only;cases hk:k == NameKind.free<;>simp[hk])
set_option tactic.hygienic true in
theorem cE' {cells:List (Str×Addr)}:∀{names:List (Str×NameKind)} {acc:List (Str×Addr)} {n:Str} {c:Addr},(n,c)∈bm' cells names acc->(n,c)∈acc\/((n,NameKind.free)∈names/\c=(cells.lookup n).getD 0)
 | [],_,_,_,h=>.inl h
 |(m,k) :: r,acc,n,c,h=>by
  unfold bm' at h
  split at h
  .rename_i hk
   have hk':k=.free:=by simpa using hk
   subst hk'
   rcases cE' h with q|⟨q,e⟩
   .rcases aq.mp q with q|q
    .cases q;exact .inr ⟨aA,rfl⟩
    .exact .inl q
   .exact .inr ⟨ao _ q,e⟩
  .rcases cE' h with q|⟨q,e⟩
   .exact .inl q
   .exact .inr ⟨ao _ q,e⟩
set_option tactic.hygienic true in
theorem cF' {cells:List (Str×Addr)}:∀{names:List (Str×NameKind)} {acc:List (Str×Addr)} {n:Str},((n,NameKind.free)∈names\/∃c,(n,c)∈acc)->∃c,(n,c)∈bm' cells names acc
 | [],_,_,h=>by
  rcases h with h|h
  .simp at h
  .exact h
 |(m,k) :: r,acc,n,h=>by
  unfold bm'
  split
  .rename_i hk
   refine cF' ?_
   rcases h with h|⟨c,h⟩
   .rcases aq.mp h with h|h
    .cases h;exact .inr ⟨_,aA⟩
    .exact .inl h
   .exact .inr ⟨c,ao _ h⟩
  .rename_i hk
   refine cF' ?_
   rcases h with h|h
   .rcases aq.mp h with h|h
    .cases h;exact absurd rfl hk
    .exact .inl h
   .exact .inr h
theorem az':∀(names:List (Str×NameKind)) (n:Nat) (acc:List (Str×Addr)),cellsFrom n names acc=cellsFrom n names []++acc
 | [],_,_=>rfl
 |(x,k) :: r,n,acc=>by
  unfold cellsFrom
  split
  .rw[az' r (n+1) ((x,n) :: acc),az' r (n+1) [(x,n)],aV]
   rfl
  .exact az' r n acc
theorem bg' {α:Type}:∀{l:List (Str×α)} {n:Str} {c:α},(n,c)∈l->∃c',l.lookup n=some c'
 |(k,v) :: r,n,c,h=>by
  rw[bj]
  cases hb:n == k with
  |true=>exact⟨v,rfl⟩
  |false=>
   rcases aq.mp h with e|h
   .cases e;simp at hb
   .exact bg' h
theorem bk' {env:Env}:∀{names:List (Str×NameKind)} {x:Str} {k':NameKind},
  (names.map fun(n,k)=>if(k == NameKind.free&&env.scope.kind == .function&&env.kindOf n == some .cell)then(n,NameKind.cell)else(n,k)).lookup x=some k'->∃k,names.lookup x=some k/\(k'=k\/(k=.free/\k'=.cell))
 | [],_,_,h=>by simp at h
 |(n,k) :: r,x,k',h=>by
  have ih:=@bk' env r x k'
  rw[aE]at h
  by_cases hc:(k == NameKind.free&&env.scope.kind == .function&&env.kindOf n == some .cell)=true
  .have e1:(match ((n,k):Str×NameKind)with|(n,k)=>if(k == NameKind.free&&env.scope.kind == .function&&env.kindOf n == some .cell)=true then(n,NameKind.cell)else(n,k))=(n,NameKind.cell):=if_pos hc
   rw[e1,bj]at h
   rw[bj]
   cases hx:x == n with
   |true=>
    rw[hx]at h
    cases h
    refine⟨k,rfl,.inr ⟨?_,rfl⟩⟩
    simp only[ah]at hc
    exact beq_iff_eq.mp hc.1.1
   |false=>rw[hx]at h;exact ih h
  .have e1:(match ((n,k):Str×NameKind)with|(n,k)=>if(k == NameKind.free&&env.scope.kind == .function&&env.kindOf n == some .cell)=true then(n,NameKind.cell)else(n,k))=(n,k):=if_neg hc
   rw[e1,bj]at h
   rw[bj]
   cases hx:x == n with
   |true=>rw[hx]at h;cases h;exact⟨k,rfl,.inl rfl⟩
   |false=>rw[hx]at h;exact ih h
theorem aP' {env:Env}:∀{names:List (Str×NameKind)} {x:Str} {k:NameKind},names.lookup x=some k ->
  ∃k',(names.map fun(n,k)=>if(k == NameKind.free&&env.scope.kind == .function&&env.kindOf n == some .cell)then(n,NameKind.cell)else(n,k)).lookup x=some k'/\(k'=k\/(k=.free/\k'=.cell))
 | [],_,_,h=>by simp at h
 |(n,k0) :: r,x,k,h=>by
  have ih:=@aP' env r x k
  rw[aE]
  by_cases hc:(k0 == NameKind.free&&env.scope.kind == .function&&env.kindOf n == some .cell)=true
  .have e1:(match ((n,k0):Str×NameKind)with|(n,k)=>if(k == NameKind.free&&env.scope.kind == .function&&env.kindOf n == some .cell)=true then(n,NameKind.cell)else(n,k))=(n,NameKind.cell):=if_pos hc
   rw[e1,bj]
   rw[bj]at h
   cases hx:x == n with
   |true=>
    rw[hx]at h
    cases h
    refine⟨_,rfl,.inr ⟨?_,rfl⟩⟩
    simp only[ah]at hc
    exact beq_iff_eq.mp hc.1.1
   |false=>rw[hx]at h;exact ih h
  .have e1:(match ((n,k0):Str×NameKind)with|(n,k)=>if(k == NameKind.free&&env.scope.kind == .function&&env.kindOf n == some .cell)=true then(n,NameKind.cell)else(n,k))=(n,k0):=if_neg hc
   rw[e1,bj]
   rw[bj]at h
   cases hx:x == n with
   |true=>rw[hx]at h;cases h;exact⟨_,rfl,.inl rfl⟩
   |false=>rw[hx]at h;exact ih h
section
variable {M:Model} {A:Around} {E:Value->Shared->Prop} {s:Shared}
abbrev a4' (h:Heap) (names:List (Str×NameKind)):Heap:=pushCells (h.push { cls:=.type "dict",data:=.dict #[] }) names
theorem dA' {scope:Scope} {globals:Addr} {cl:List (Str×Addr)} {qual:Str} {env:Env} {Q:Env->Shared->Prop}
  (h:Q (newEnv scope s.heap.objs.size globals (cellsFrom (s.heap.objs.size+1) scope.names cl) qual none .none (some env) builtinsNs) { s with heap:=a4' s.heap scope.names }):
  wpAny M A (newFunctionEnv scope globals cl [] qual none .none (some env)) Q E s:=by
 simp only[newFunctionEnv,Option.isSome_some,if_true]
 refine aa (wpAny_alloc ?_)
 refine aa (wpAny_layCells _ (fun name kind cells=>by cases hkc:kind == NameKind.cell<;>simp[hkc]) _ _ _ _ ?_)
 rw[show({ s with heap:=s.heap.push { cls:=.type "dict",data:=.dict #[] } }:Shared).heap.objs.size=s.heap.objs.size+1 from bg ..]
 exact aa (af (af h))
end
def Cx.comp (X:Cx) (scope:Scope) (s₀:Shared) (H₀:Hp) (ex:List Addr):Cx:=
 { X with
  s₀:=s₀,H₀:=H₀
  env:={ newEnv scope s₀.heap.objs.size X.env.globals (cellsFrom (s₀.heap.objs.size+1) scope.names (bm' X.env.cells scope.names [])) X.env.qual none .none (some X.env) builtinsNs with scope:=relabel scope X.env }
  outer:=X.stack,ex:=ex,fn:=fun x=>((cellsFrom (s₀.heap.objs.size+1) scope.names []).lookup x).isSome,pn:=[],xe:=fun _ _=>False }
structure CompSc (X:Cx) (scope:Scope):Prop where
 kind:scope.kind=.function
 names:∀x∈scope.names,x.2=.local->scope.names.lookup x.1=some .local
 one:∀n,(n,NameKind.cell)∈scope.names->scope.names.lookup n=some .cell
 free:∀n,(n,NameKind.free)∈scope.names->X.env.kindOf n=some .cell\/X.env.kindOf n=some .free
set_option tactic.hygienic true in
theorem bp':∀{names:List (Str×NameKind)} {n:Nat} {x:Str} {c:Addr},(x,c)∈cellsFrom n names []->(x,NameKind.cell)∈names
 | [],_,_,_,h=>by simp[cellsFrom]at h
 |(y,k) :: r,n,x,c,h=>by
  unfold cellsFrom at h
  split at h
  .rename_i hk
   have hk':k=.cell:=by simpa using hk
   subst hk'
   rw[az']at h
   rcases al.mp h with h|h
   .exact ao _ (bp' h)
   .have h':(x,c)=(y,n):=by simpa using h
    cases h'
    exact aA
  .exact ao _ (bp' h)
def clr (own:List Nat) (σ:St):St:=own.foldl (fun σ i=>σ.set i none) σ
theorem cG':∀(own:List Nat) (σ:St),(clr own σ).length=σ.length
 | [],_=>rfl
 |i :: r,σ=>by
  show(clr r (σ.set i none)).length=_
  rw[cG' r,List.length_set]
theorem cH':∀{own:List Nat} {σ:St} {i:Nat} {v:V},(clr own σ)[i]?=some (some v)->σ[i]?=some (some v)/\i∉own
 | [],_,_,_,h=>⟨h,by simp⟩
 |j :: r,σ,i,v,h=>by
  obtain⟨h1,h2⟩:=cH' (own:=r) (σ:=σ.set j none) h
  by_cases e:j=i
  .subst e
   rw[List.getElem?_set]at h1
   simp at h1
  .rw[bK e]at h1
   exact⟨h1,by simp;exact⟨fun z=>e z.symm,h2⟩⟩
theorem eS':∀{own:List Nat} {σ:St} {i:Nat},i∉own->(clr own σ)[i]?=σ[i]?
 | [],_,_,_=>rfl
 |j :: r,σ,i,h=>by
  have h1:i≠j:=fun z=>h (by simp[z])
  have h2:i∉r:=fun z=>h (by simp[z])
  show(clr r (σ.set j none))[i]?=_
  rw[eS' h2,bK (Ne.symm h1)]
section
variable {X:Cx} {pins:List (Addr×Obj)} {σ:St} {H H':Hp} {s s':Shared} {scope:Scope} {ex:List Addr} {own:List Nat}
theorem gq' (I:Inv X pins σ H s) (S:CompSc X scope):
  (∀x c,(bm' X.env.cells scope.names []).lookup x=some c->X.env.cells.lookup x=some c)/\
  (∀x,(x,NameKind.free)∈scope.names->∃c,(bm' X.env.cells scope.names []).lookup x=some c)/\
  CellsOk (a4' s.heap scope.names) (s.heap.objs.size+1) (cellsFrom (s.heap.objs.size+1) scope.names []):=by
 have hc:∀x c,(x,c)∈bm' X.env.cells scope.names []->X.env.cells.lookup x=some c:=fun x c h=>by
  rcases cE' h with z|⟨z,e⟩
  .simp at z
  .obtain⟨c',e'⟩:=I.ok.has x (S.free x z)
   rw[e',Option.getD_some]at e
   rw[e',e]
 refine⟨fun x c h=>hc x c (PySem.mem_of_lookup h),fun x h=>?_,?_⟩
 .obtain⟨c,q⟩:=cF' (cells:=X.env.cells) (acc:=[]) (.inl h)
  exact bg' q
 .have q:=cellsFrom_ok scope.names (s.heap.push { cls:=.type "dict",data:=.dict #[] }) (s.heap.objs.size+1) [] ⟨fun _ _ hm=>(nomatch hm),List.Pairwise.nil⟩ (by rw[bg];exact ak _)
  rw[bg]at q
  exact q
theorem gr' (I:Inv X pins σ H s) (hex:∀b∈ex,c2' X pins H b) (hlt:∀b∈ex,b<s.heap.objs.size) (S:CompSc X scope)
  (hown:∀i x,X.N[i]?=some x->(scope.names.lookup x=some .local\/scope.names.lookup x=some .cell)->i∈own):
  Inv (X.comp scope s H ex) [] (clr own σ) H { s with heap:=a4' s.heap scope.names }:=by
 obtain⟨hcl,hcf,ok⟩:=gq' I S
 have lk:∀x c,(X.comp scope s H ex).env.cells.lookup x=some c->(cellsFrom (s.heap.objs.size+1) scope.names []).lookup x=some c\/((cellsFrom (s.heap.objs.size+1) scope.names []).lookup x=none/\X.env.cells.lookup x=some c):=fun x c h=>by
  have h':(cellsFrom (s.heap.objs.size+1) scope.names (bm' X.env.cells scope.names [])).lookup x=some c:=h
  rw[az',List.lookup_append]at h'
  cases q:(cellsFrom (s.heap.objs.size+1) scope.names []).lookup x with
  |some d=>rw[q]at h';exact .inl h'
  |none=>rw[q]at h';exact .inr ⟨rfl,hcl x c h'⟩
 have newC:∀x c,(cellsFrom (s.heap.objs.size+1) scope.names []).lookup x=some c->(a4' s.heap scope.names).IsCell c none/\s.heap.objs.size+1<=c:=fun x c h=>ok.empty x c (PySem.mem_of_lookup h)
 have oldC:∀x c,X.env.cells.lookup x=some c->c<s.heap.objs.size:=fun x c h=>let⟨_,q⟩:=I.cell x c h;q.lt
 have keep:∀b o,s.heap.get? b=some o->(a4' s.heap scope.names).get? b=some o:=fun b o e=>pushCells_keeps _ _ b o (ae _ e)
 have fresh:∀b,s.heap.objs.size<=b->H b=none:=fun b hb=>I.hok.fresh hb
 have loc0:(X.comp scope s H ex).env.locals=s.heap.objs.size:=rfl
 refine⟨⟨I.ok.mod,S.kind,I.ok.glob,?_,ak _,fun x y c h1 h2=>?_,fun x hx=>?_,fun x c hf h=>?_,I.ok.hd,I.ok.frames,.inl rfl,fun b hb=>?_,I.bs,aS I.ok.bsz I.sz,fun b o e hb=>?_,fun b hb=>?_,I.stack,I.stkFree⟩,
  rfl,I.bare,Un.kept keep,⟨fun _=>none,?_,fun i x v h1 h2 h3=>?_⟩,fun x c h=>?_,fresh _ (ak _),fun x c h=>?_,fun p hp=>absurd (show p∈([]:List (Addr×Obj)) from hp) (by simp),I.hok.kept keep,?_⟩
 .show X.env.builtins=_
  exact I.ok.blt
 .rcases lk x c h1 with q1|⟨_,q1⟩<;>rcases lk y c h2 with q2|⟨_,q2⟩
  .exact name_of_addr ok.apart (PySem.mem_of_lookup q1) (PySem.mem_of_lookup q2)
  .exact absurd (ag (oldC y c q2) (aS (Nat.le_succ _) (newC x c q1).2)) (bn _)
  .exact absurd (ag (oldC x c q1) (aS (Nat.le_succ _) (newC y c q2).2)) (bn _)
  .exact I.ok.inj x y c q1 q2
 .have hx':(relabel scope X.env).names.lookup x=some .cell\/(relabel scope X.env).names.lookup x=some .free:=hx
  have fin:∀k,scope.names.lookup x=some k->(k=.cell\/k=.free)->∃c,(cellsFrom (s.heap.objs.size+1) scope.names (bm' X.env.cells scope.names [])).lookup x=some c:=fun k hk hkk=>by
   rw[az',List.lookup_append]
   rcases hkk with rfl|rfl
   .obtain⟨c,q⟩:=dw' (n:=s.heap.objs.size+1) hk
    exact⟨c,by rw[q];rfl⟩
   .obtain⟨c,q⟩:=hcf x (PySem.mem_of_lookup hk)
    cases z:(cellsFrom (s.heap.objs.size+1) scope.names []).lookup x with
    |some d=>exact⟨d,rfl⟩
    |none=>exact⟨c,by rw[q];rfl⟩
  rcases hx' with hx'|hx'<;>obtain⟨k,hk,e⟩:=bk' hx'
  .rcases e with e|⟨e,_⟩
   .exact fin k hk (.inl e.symm)
   .exact fin k hk (.inr e)
  .rcases e with e|⟨e,_⟩
   .exact fin k hk (.inr e.symm)
   .exact fin k hk (.inr e)
 .rcases lk x c h with q|⟨q,_⟩
  .have:=(newC x c q).2
   show s.heap.objs.size<=c
   omega
  .have hf':((cellsFrom (s.heap.objs.size+1) scope.names []).lookup x).isSome=true:=hf
   rw[q]at hf'
   cases hf'
 .refine⟨?_,fun x c h=>?_⟩
  .show b≠s.heap.objs.size
   exact aB (hlt b hb)
  .rcases lk x c h with q|⟨_,q⟩
   .intro e
    rw[e]at q
    exact absurd (ag (hlt b hb) (aS (Nat.le_succ _) (newC x b q).2)) (bn _)
   .exact(hex b hb).2.2.2.2.1 x c q
 .rcases(hex b hb).2.2.2.1 with z|z
  .exact I.ok.noex b o e z
  .exact absurd (ag (az e) (aS I.ok.bsz z)) (bn _)
 .intro z
  rcases aq.mp (I.stkSub b z)with e|e
  .exact(hex b hb).2.1 e
  .exact(hex b hb).2.2.1 e
 .show(a4' s.heap scope.names).Ns s.heap.objs.size _
  exact(Heap.Ns.new s.heap (.type "dict")).keeps (pushCells_keeps _ _)
 .obtain⟨h2,hno⟩:=cH' h2
  have h3':(relabel scope X.env).names.lookup x=some .local\/(relabel scope X.env).names.lookup x=some .cell\/(relabel scope X.env).names.lookup x=some .free:=h3
  have h3k:∃k',(relabel scope X.env).names.lookup x=some k'/\(k'=.local\/k'=.cell\/k'=.free):=by
   rcases h3' with z|z|z
   .exact⟨_,z,.inl rfl⟩
   .exact⟨_,z,.inr (.inl rfl)⟩
   .exact⟨_,z,.inr (.inr rfl)⟩
  obtain⟨k',hk',hkk⟩:=h3k
  obtain⟨k,hk,e⟩:=bk' hk'
  have hfree:k=.free:=by
   rcases e with e|⟨e,_⟩
   .subst e
    rcases hkk with z|z|z
    .subst z;exact absurd (hown i x h1 (.inl hk)) hno
    .subst z;exact absurd (hown i x h1 (.inr hk)) hno
    .exact z
   .exact e
  subst hfree
  have hm:=PySem.mem_of_lookup hk
  have hv:Vis X.env.scope x:=by
   rcases S.free x hm with z|z
   .exact .inr (.inl z)
   .exact .inr (.inr z)
  obtain⟨m,hn,hl⟩:=I.loc
  obtain⟨u,r,l⟩:=hl i x v h1 h2 hv
  refine⟨u,r,?_⟩
  have hkind:(X.comp scope s H ex).env.kindOf x=some .cell\/(X.comp scope s H ex).env.kindOf x=some .free:=by
   show(relabel scope X.env).names.lookup x=some .cell\/(relabel scope X.env).names.lookup x=some .free
   rcases e with e|⟨_,e⟩
   .subst e;exact .inr hk'
   .subst e;exact .inl hk'
  have hcc:∃c,X.env.cells.lookup x=some c/\s.heap.IsCell c (some u):=by
   rcases l with⟨kk,_⟩|⟨_,c,e1,e2⟩
   .rcases S.free x hm with z|z
    .rw[z]at kk;cases kk
    .rw[z]at kk;cases kk
   .exact⟨c,e1,e2⟩
  obtain⟨c,e1,e2⟩:=hcc
  refine .inr ⟨hkind,c,?_,e2.keeps keep⟩
  show(cellsFrom (s.heap.objs.size+1) scope.names (bm' X.env.cells scope.names [])).lookup x=some c
  rw[az',List.lookup_append]
  have hnone:(cellsFrom (s.heap.objs.size+1) scope.names []).lookup x=none:=by
   cases z:(cellsFrom (s.heap.objs.size+1) scope.names []).lookup x with
   |none=>rfl
   |some d=>
    exfalso
    have q1:=S.one x (bp' (PySem.mem_of_lookup z))
    rw[hk]at q1
    cases q1
  obtain⟨c',q⟩:=hcf x hm
  have q':=hcl x c' q
  rw[e1]at q'
  cases q'
  rw[hnone,q]
  rfl
 .rcases lk x c h with q|⟨_,q⟩
  .exact⟨_,(newC x c q).1⟩
  .obtain⟨v,z⟩:=I.cell x c q
   exact⟨v,z.keeps keep⟩
 .rcases lk x c h with q|⟨_,q⟩
  .have:=(newC x c q).2
   exact fresh c (by omega)
  .exact I.freeC x c q
 .rw[cG']
  exact I.len
end
section
variable {X:Cx} {pins:List (Addr×Obj)} {σ:St} {H H':Hp} {s s':Shared} {scope:Scope} {ex:List Addr} {own:List Nat}
theorem nc' {P:Program} {w:World} {h h':Heap} {a:Addr} (x:HOk P w H h) (hn:H a=none) (hs:∀b o,b≠a->h.get? b=some o->h'.get? b=some o):HOk P w H h':=fun b ob e=>
 (x b ob e).stay (fun c w' hc q=>hs c w' (by
  rintro rfl
  rcases hc with rfl|hc
  .rw[hn]at e;cases e
  .rw[hn]at hc;cases hc) q) (fun _ q=>q) fun _ _ q=>q
theorem fj' {σ':St} {pins':List (Addr×Obj)} {h':Heap} (I:Inv X pins σ H s) (hex:∀b∈ex,c2' X pins H b) (J:Inv (X.comp scope s H ex) pins' σ' H' s') (hs:bu s.heap.objs.size s'.heap h'):
  Inv X pins σ H' { s' with heap:=h' }:=by
 have ne:∀b o,s.heap.get? b=some o->b≠s.heap.objs.size:=fun b o e=>aB (az e)
 have u:Un (frs X.stack) ex H H' s.heap s'.heap:=J.base
 have hf:H' s.heap.objs.size=none:=J.free
 refine I.call' (s':={ s' with heap:=h' }) (ch:=ex) J.os ⟨fun b o e n hb hx=>?_,fun b o e n hb hx=>?_,u.free,fun b o e hx=>?_,u.tups,u.frzs,u.tbls⟩ (nc' J.hok hf fun b o hb e=>(hs.2 b hb).trans e) J.bare fun b hb=>?_
 .exact(hs.2 b (ne b o e)).trans (u.keep b o e n hb hx)
 .obtain⟨sl,q⟩:=u.slot b o e n hb hx
  exact⟨sl,(hs.2 b (ne b o e)).trans q⟩
 .obtain⟨o',q⟩:=u.there b o e hx
  exact⟨o',(hs.2 b (ne b o e)).trans q⟩
 .obtain⟨f0,f1,f2,f3,f4,f5⟩:=hex b hb
  exact⟨f3,f1,f4,f5⟩
end
def PTs (X:Cx) (ifs:List Expr) (t:TT):Prop:=∀(pins:List (Addr×Obj)) (s:Shared) (σ:St) (H:Hp) (Q:Bool->Hp->Prop),Inv X pins σ H s->t σ H Q->
 wpAny (model X.prog X.w) X.A (forIn ifs true fun c r=>if r=true then do let ok <- isTrue c X.env (eval c X.env);pure (ForInStep.yield ok)else pure (ForInStep.yield r)) (TP X pins σ Q) X.xe s
theorem nd' {X:Cx}:PTs X [] (fun _ H Q=>Q true H):=fun pins s σ H Q I h=>wpAny_tests_nil ⟨H,I,h⟩
theorem ne' {X:Cx} {c:Expr} {t:TT} (hc:PT X c t):PTs X [c] t:=fun pins s σ H Q I h=>wpAny_tests_one (hc pins s σ H Q I h)
def Ext (ws:List Nat) (σ σ':St):Prop:=σ'.length=σ.length/\∀j,j∉ws->σ'[j]?=σ[j]?
theorem Ext.refl {ws:List Nat} {σ:St}:Ext ws σ σ:=⟨rfl,fun _ _=>rfl⟩
theorem Ext.trans {ws:List Nat} {σ σ1 σ2:St} (a:Ext ws σ σ1) (b:Ext ws σ1 σ2):Ext ws σ σ2:=⟨b.1.trans a.1,fun j hj=>(b.2 j hj).trans (a.2 j hj)⟩
theorem Ext.mono {ws ws':List Nat} {σ σ1:St} (a:Ext ws σ σ1) (h:∀j∈ws,j∈ws'):Ext ws' σ σ1:=⟨a.1,fun j hj=>a.2 j fun z=>hj (h j z)⟩
theorem Ext.clr {ws:List Nat} {σ:St}:Ext ws σ (clr ws σ):=⟨cG' _ _,fun j hj=>eS' hj⟩
theorem Ext.back {ws:List Nat} {σ σ':St} (a:Ext ws (L2.clr ws σ) σ') (i:Nat) (v:V) (h:(L2.clr ws σ)[i]?=some (some v)):σ'[i]?=some (some v):=by
 obtain⟨_,q⟩:=cH' h
 rw[a.2 i q]
 exact h
def pm' (ws:List Nat) (g:TG):Prop:=∀(x:V) (σ:St) (H:Hp) (Q:St->Hp->Prop),g x σ H Q->g x σ H fun σ2 H2=>Q σ2 H2/\Ext ws σ σ2
theorem hC' {i:Nat} {ws:List Nat} (h:i∈ws):pm' ws (gU' i):=fun x σ H Q q=>⟨q,by simp,fun j hj=>by
 have:i≠j:=fun z=>hj (z ▸ h)
 rw[bK this]⟩
def cr' (e:Expr) (d:Nat) (tg iter:Expr) (ifs:List Expr) (nx:Sem Unit) (it acc:Value) (env:Env):Sem Fin:=do
 standAt iter.pos
 match <- pyNext it with
 |none=>pure (.done .next)
 |some v=>
  letOwnedTupleGo tg it v
  assign tg env v
  let mut ok:=true
  for c in ifs do
   if ok then ok <- isTrue c env (eval c env)
  if ok then nx
  again (.compLoop e d it acc env)
abbrev TL (α:Type):=St->α->Hp->(α->Hp->Prop)->Prop
def dB' {α:Type} (X:Cx) (D:Addr) (Is:α->Obj->Prop) (ws:List Nat) (code:Sem Unit) (t:TL α):Prop:=
 ∀(pins:List (Addr×Obj)) (s:Shared) (σ:St) (H:Hp) (a:α) (o:Obj) (N:α->Hp->Prop),Inv X pins σ H s->c2' X pins H D->s.heap.get? D=some o->Is a o->t σ a H N->
  wpAny (model X.prog X.w) X.A code (fun _ s'=>∃σ' a' o' H',Inv X pins σ' H' s'/\Ext ws σ σ'/\s'.heap.get? D=some o'/\Is a' o'/\H' D=none/\N a' H') (fun _ _=>False) s
def bA' {α:Type} (ws:List Nat) (g:TG) (tc:TT) (a5':TL α) (J:It):TL α:=fun σ a H1 N=>
 ∃W:Nat->Nat->α->Hp->Prop,(∃m,W 0 m a H1)/\∀i m b H,W i m b H->
  (J.stop i H/\N b H)\/(J.go i H/\∀x H',J.yld i H x H'->g x (clr ws σ) H' fun σ2 H2=>tc σ2 H2 fun ok H3=>
   if ok=true then a5' σ2 b H3 (fun c H4=>∃m',m'<m/\W (i+1) m' c H4)else ∃m',m'<m/\W (i+1) m' b H3)
theorem hD' {α:Type} {Is:α->Obj->Prop} {X:Cx} {e:Expr} {d:Nat} {tg iter:Expr} {ifs:List Expr} {nx:Sem Unit} {it D:Addr} {fp:List Addr} {tn:Nat->Heap->Prop} {J:It} {g:TG} {tc:TT} {a5':TL α} {ws ws':List Nat}
  (hxe:X.xe=fun _ _=>False) (hcalm:X.calm=true)
  (hq:(Code.compLoop e d (.ref it) (.ref D) X.env).quiet=true) (hu:X.A.under (Code.compLoop e d (.ref it) (.ref D) X.env)=X.A)
  (hT:(model X.prog X.w).den (.compLoop e d (.ref it) (.ref D) X.env)=(cr' e d tg iter ifs nx (.ref it) (.ref D) X.env).onRaise (fun x=>do noteFrame x X.env;theTreesLotGoes x))
  (T:Turn X.prog X.w X.K tg J fp it tn) (hg:PG X tg g) (hge:pm' ws g) (ht:PTs X ifs tc) (hn:dB' X D Is ws' nx a5') (hws:∀j∈ws',j∈ws) (hIs:∀a o,Is a o->∀v,o.data≠.cell v) (hDf:D∉fp)
  {pins:List (Addr×Obj)} {s:Shared} {σ:St} {H:Hp} {a:α} {o:Obj} {N:α->Hp->Prop} (I:Inv X pins σ H s) (hf:∀b∈fp,c2' X pins H b) (hD:c2' X pins H D) (ho:s.heap.get? D=some o) (ha:Is a o) (h0:tn 0 s.heap)
  (hw:bA' ws g tc a5' J σ a H N):
  codeAny (model X.prog X.w) X.A (.compLoop e d (.ref it) (.ref D) X.env) (fun r s'=>r=.ok .next/\∃a' o' H',Inv X pins (clr ws σ) H' s'/\s'.heap.get? D=some o'/\Is a' o'/\H' D=none/\N a' H') s:=by
 obtain⟨W,⟨m0,w0⟩,turn⟩:=hw
 have stat:∀{H':Hp} {pl:List (Addr×Obj)},(∀b∈D :: fp,H' b=none)->(∀b∈D :: fp,c2' X pins H' b):=fun {H' pl} hn b hb=>by
  rcases aq.mp hb with rfl|hb'
  .exact⟨hn _ aA,hD.2⟩
  .exact⟨hn b hb,(hf b hb').2⟩
 refine codeAny_loop hq (fun n s'=>∃i b ob H',Inv X pins (clr ws σ) H' s'/\tn i s'.heap/\(∀b∈D :: fp,H' b=none)/\s'.heap.get? D=some ob/\Is b ob/\W i n b H') ?_ m0
  ⟨0,a,o,H,I.weak (cG' _ _) (fun i v q=>(cH' q).1),h0,fun b hb=>by
   rcases aq.mp hb with rfl|hb'
   .exact hD.1
   .exact(hf b hb').1,ho,ha,w0⟩
 rintro n s3 ⟨i,b,ob,H3,I3,st3,fr3,o3,is3,w3⟩
 rw[hu,hT]
 refine wpAny_noted ?_
 have hE:∀{β:Type} {c:Sem β} {Q:β->Shared->Prop} {s:Shared} {E:Value->Shared->Prop},wpAny (model X.prog X.w) X.A c Q (fun _ _=>False) s->wpAny (model X.prog X.w) X.A c Q E s:=fun h=>wpAny_mono h (fun _ _ q=>q) fun _ _ q=>q.elim
 refine hE ?_
 unfold cr'
 refine aa (cf (aa ?_))
 have hxeE:∀{β:Type} {c:Sem β} {Q:β->Shared->Prop} {s:Shared},wpAny (model X.prog X.w) X.A c Q X.xe s->wpAny (model X.prog X.w) X.A c Q (fun _ _=>False) s:=fun h=>by rw[hxe]at h;exact h
 have pD:Inv X (pins++bQ' [D] s3.heap) (clr ws σ) H3 s3:=I3.pinned (fun b hb=>by
  have e:b=D:=by simpa using hb
  subst e
  exact stat (pl:=[]) fr3 b aA) (fun b hb=>by
  have e:b=D:=by simpa using hb
  subst e
  exact⟨ob,o3,hIs _ _ is3⟩)
 have mD:(D,ob)∈bQ' [D] s3.heap:=aU' (by simp) o3
 have fpD:∀{H':Hp},(∀b∈fp,H' b=none)->∀b∈fp,c2' X (pins++bQ' [D] s3.heap) H' b:=fun {H'} hn b hb=>by
  obtain⟨_,f1,f2,f3,f4,f5⟩:=hf b hb
  refine⟨hn b hb,f1,f2,f3,f4,fun p hp=>?_⟩
  rcases al.mp hp with q|q
  .exact f5 p (aD _ q)
  .rcases al.mp q with q|q
   .exact f5 p (ax _ q)
   .have e:p.1=D:=by simpa using(cA' q).1
    rw[e]
    rintro rfl
    exact hDf hb
 have fr3':∀b∈fp,H3 b=none:=fun b hb=>fr3 b (ao _ hb)
 rcases turn i n b H3 w3 with⟨stop,qn⟩|⟨go,step⟩
 .refine thn (T.done X rfl rfl rfl hcalm i _ s3 _ H3 _ pD (fpD fr3') st3 stop) fun r s4 ⟨hr,I4⟩=>?_
  subst hr
  have q4:=I4.pin (D,ob) (ax _ (ax _ mD))
  exact af ⟨rfl,b,ob,H3,I4.unpinned,q4.1,is3,q4.2.1,qn⟩
 .refine thn (T.item X rfl rfl rfl hcalm i _ s3 _ H3 _ pD (fpD fr3') st3 go) fun r s4 ⟨u,hr,h4⟩=>?_
  subst hr
  refine aa (thn h4 fun _ s5 ⟨x,H5,I5,r5,y5,st5,fr5⟩=>?_)
  have I5':=I5.pinned (fpD fr5) (T.obj _ _ st5)
  refine aa (thn (hxeE (hg _ s5 _ H5 x u _ I5' r5 (hge x _ H5 _ (step x H5 y5)))) fun _ s6 ⟨σ6,H6,I6,q6,x6⟩=>?_)
  refine aa (thn (hxeE (ht _ s6 σ6 H6 _ I6 q6)) fun ok s7 ⟨H7,I7,q7⟩=>?_)
  have q7D:=I7.pin (D,ob) (ax _ (aD _ (ax _ mD)))
  have q7f:∀b∈fp,∀o,s5.heap.get? b=some o->s7.heap.get? b=some o/\H7 b=none:=fun b hb o e =>
   let q:=I7.pin (b,o) (ax _ (ax _ (aU' hb e)))
   ⟨q.1,q.2.1⟩
  have st7:tn (i+1) s7.heap:=T.keep _ _ _ st5 fun b hb o e=>(q7f b hb o e).1
  have fr7:∀b∈fp,H7 b=none:=fun b hb=>by
   obtain⟨o,e,_⟩:=T.obj _ _ st5 b hb
   exact(q7f b hb o e).2
  have I7':Inv X pins σ6 H7 s7:=I7.unpinned.unpinned
  cases ok with
  |false=>
   have q7':∃m',m'<n/\W (i+1) m' b H7:=q7
   obtain⟨m',hm,w7⟩:=q7'
   refine af ⟨rfl,m',hm,i+1,b,ob,H7,I7'.weak ?_ x6.back,st7,fun c hc=>?_,q7D.1,is3,w7⟩
   .rw[x6.1]
   .rcases aq.mp hc with rfl|hc'
    .exact q7D.2.1
    .exact fr7 c hc'
  |true=>
   have I7p:=I7'.pinned (fun b hb=>stat (pl:=[]) (fun c hc=>by
    rcases aq.mp hc with rfl|hc'
    .exact q7D.2.1
    .exact fr7 c hc') b (ao _ hb)) (T.obj _ _ st7)
   have fD:c2' X (pins++bQ' fp s7.heap) H7 D:=by
    obtain⟨_,f1,f2,f3,f4,f5⟩:=hD
    refine⟨q7D.2.1,f1,f2,f3,f4,fun p hp=>?_⟩
    rcases al.mp hp with q|q
    .exact f5 p (aD _ q)
    .rcases al.mp q with q|q
     .exact f5 p (ax _ q)
     .intro z
      exact hDf (z ▸ (cA' q).1)
   refine aa (thn (hn _ s7 σ6 H7 b ob _ I7p fD q7D.1 is3 q7) fun _ s8 ⟨σ8,b8,o8,H8,I8,x8,e8,is8,n8,m',hm,w8⟩=>?_)
   have q8f:∀b∈fp,∀o,s7.heap.get? b=some o->s8.heap.get? b=some o/\H8 b=none:=fun b hb o e =>
    let q:=I8.pin (b,o) (ax _ (ax _ (aU' hb e)))
    ⟨q.1,q.2.1⟩
   have x8':Ext ws (clr ws σ) σ8:=x6.trans (x8.mono hws)
   refine af ⟨rfl,m',hm,i+1,b8,o8,H8,I8.unpinned.weak (by rw[x8'.1]) x8'.back,T.keep _ _ _ st7 fun b hb o e=>(q8f b hb o e).1,fun c hc=>?_,e8,is8,w8⟩
   rcases aq.mp hc with rfl|hc'
   .exact n8
   .obtain⟨o,e,_⟩:=T.obj _ _ st7 c hc'
    exact(q8f c hc' o e).2
def IsL (xs:List V) (o:Obj):Prop:=xs.length<=sizeLine/\∃(its:List Value) (n:Nat),ax' xs its/\o={ cls:=.type "list",data:=.seq its.toArray n }
theorem fk' (xs:List V) (o:Obj) (h:IsL xs o) (v:Option Value):o.data≠.cell v:=by
 obtain⟨_,its,n,_,rfl⟩:=h
 intro z
 cases z
def eT' (te:TE):TL (List V):=fun σ xs H N=>te σ H fun v H'=>xs.length<sizeLine/\N (xs++[v]) H'
theorem jW' {X:Cx} {D:Addr} {elt:Expr} {te:TE} (hxe:X.xe=fun _ _=>False) (he:PE X elt te):dB' X D IsL [] (do let _ <- call (.builtin "list.append") [.ref D,<- eval elt X.env]) (eT' te):=by
 intro pins s σ H xs o N I hD ho hi hq
 have I1:Inv X (pins++bQ' [D] s.heap) σ H s:=I.pinned (fun b hb=>by
  have e:b=D:=by simpa using hb
  subst e
  exact hD) (fun b hb=>by
  have e:b=D:=by simpa using hb
  subst e
  exact⟨o,ho,fk' _ _ hi⟩)
 have h1:=he _ s σ H _ I1 hq
 rw[hxe]at h1
 refine aa (thn h1 fun u s1 ⟨v,H1,J1,r1,z1,n1⟩=>?_)
 have q1:=J1.pin (D,o) (ax _ (ax _ (aU' (by simp) ho)))
 obtain⟨zx,its,n,rv,rfl⟩:=hi
 have hl:=rv.length
 refine aa (wpAny_list_append_plain (items:=its.toArray) ⟨n,q1.1⟩ (fun h' hp hs=>?_) (by rw[aj,<- hl];exact zx))
 obtain⟨_,f1,f2,f3,f4,f5⟩:=hD
 have J2:Inv X pins σ H1 { s1 with heap:=h' }:=J1.unpinned.turned (it:=D) (t':=s1.toks) (fun b o hb e=>(hs.2 b hb).trans e) q1.2.1 f1 f3 f4 f5
 obtain⟨n',hp⟩:=hp
 refine af ⟨σ,xs++[v],_,H1,J2,Ext.refl,hp,⟨?_,its++[u],n',rv.append (.cons r1 .nil),?_⟩,q1.2.1,n1⟩
 .rw[am];exact z1
 .simp
theorem jX' {M:Model} {A:Around} {e:Expr} {d:Nat} {it acc:Value} {env:Env} {R:Result->Shared->Prop} {s:Shared}
  (hq:(Code.compStart e d it acc env).quiet=true) (hu:A.under (Code.compStart e d it acc env)=A) (hql:∀it',(Code.compLoop e d it' acc env).quiet=true)
  (hden:M.den (.compStart e d it acc env)=(compStart e d it acc env).onRaise (fun x=>do noteFrame x env;standAt theWindowsPlace)) (hg:∃g,(clausesOf e)[d]?=some g/\g.is_async=0)
  (h0:codeAny M A (.compLoop e d it acc env) R s) (h1:∀E,wpAny M A (pyIter it) (fun it' s'=>it'=it/\s'=s) E s):codeAny M A (.compStart e d it acc env) R s:=by
 refine codeAny_of_tree ?_
 rw[hu,hden]
 refine wpAny_notedAt ?_
 obtain⟨g,eg,ea⟩:=hg
 unfold compStart
 rw[eg]
 have e1:((some g:Option Comprehension).elim false (fun x=>x.is_async != 0))=false:=by
  show(g.is_async != 0)=false
  rw[ea];rfl
 rw[e1]
 show wpAny _ _ (ask >>= _) _ _ s
 refine aa (wpAny_askSetting (wpAny_ite ?_))
 have fin:wpAny M A (again (.compLoop e d it acc env)) (fun fin s'=>match fin with | .done f=>R (.ok f) s' | .again c=>c.quiet=true/\codeAny M A c R s') (notedBy M A env fun x s'=>R (.error x) s') s:=af ⟨hql it,h0⟩
 split
 .first
   |exact fin
   |exact aa fin
   |exact aa (af fin)
 .refine aa (cH ?_)
  refine aa (cf ?_)
  refine aa (wpAny_mono (h1 _) (fun it' s' q=>?_) fun _ _ q=>q)
  obtain⟨rfl,rfl⟩:=q
  exact fin
theorem jY' (own:List Nat) (σ:St):clr own (clr own σ)=clr own σ:=by
 apply bZ
 intro i
 by_cases h:i∈own
 .have z:∀τ:St,(clr own τ)[i]?=none\/(clr own τ)[i]?=some none:=fun τ=>by
   cases q:(clr own τ)[i]? with
   |none=>exact .inl rfl
   |some o=>
    cases o with
    |none=>exact .inr rfl
    |some v=>exact absurd h (cH' q).2
  have hl:(clr own (clr own σ)).length=(clr own σ).length:=cG' _ _
  rcases z (clr own σ)with a|a<;>rcases z σ with b|b<;>rw[a,b]
  .have q1:=bF.mp a
   have q2:=(av.mp b).1
   omega
  .have q1:=bF.mp b
   have q2:=(av.mp a).1
   omega
 .rw[eS' h]
def pn' {α:Type} (wi:TI) (c:It->TL α):TL α:=fun σ a H N=>wi σ H fun J H1=>c J σ a H1 N
def hE' (own:List Nat) (wi:TI) (g:TG) (tc:TT) (a5':TL (List V)):TE:=fun σ H Q=>wi σ H fun J H1=>bA' own g tc a5' J σ [] H1 fun xs H2=>∀p,H2 p=none->Q (.ref p) (upd H2 p (.lst xs))
structure CompIn (X:Cx) (e:Expr) (scope:Scope) (tg:Expr) (iter:Expr) (ifs:List Expr) (nx:Addr->Env->Sem Unit) (g:TG) (tc:TT) (a5':TL (List V)) (own:List Nat):Prop where
 sc:CompSc X scope
 ow:∀i x,X.N[i]?=some x->(scope.names.lookup x=some .local\/scope.names.lookup x=some .cell)->i∈own
 cl:∃gs,clausesOf e=⟨tg,iter,ifs,0⟩ :: gs
 fs:∀x,foldedSetIterable iter X.env x=pure x
 calm:X.calm=true
 q:∀it D env,(Code.compLoop e 0 it (.ref D) env).quiet=true/\(Code.compStart e 0 it (.ref D) env).quiet=true
 u:∀A it D env,Around.under A (Code.compLoop e 0 it (.ref D) env)=A/\Around.under A (Code.compStart e 0 it (.ref D) env)=A
 T:∀P w it D env,(model P w).den (.compLoop e 0 it (.ref D) env)=(cr' e 0 tg iter ifs (nx D env) it (.ref D) env).onRaise (fun x=>do noteFrame x env;theTreesLotGoes x)
 S:∀P w it D env,(model P w).den (.compStart e 0 it (.ref D) env)=(compStart e 0 it (.ref D) env).onRaise (fun x=>do noteFrame x env;standAt theWindowsPlace)
 ge:pm' own g
 inn:∀s0 H0 ex D,PG (X.comp scope s0 H0 ex) tg g/\PTs (X.comp scope s0 H0 ex) ifs tc/\∃ws',(∀j∈ws',j∈own)/\dB' (X.comp scope s0 H0 ex) D IsL ws' (nx D (X.comp scope s0 H0 ex).env) a5'
section
variable {X:Cx} {e:Expr} {scope:Scope} {tg iter:Expr} {ifs:List Expr} {nx:Addr->Env->Sem Unit} {g:TG} {tc:TT} {a5':TL (List V)} {own:List Nat} {wi:TI}
theorem fl' (C:CompIn X e scope tg iter ifs nx g tc a5' own) (hi:PI X tg iter wi) {pins:List (Addr×Obj)} {s:Shared} {σ:St} {H:Hp} {R:V->Hp->Prop} (I:Inv X pins σ H s) (hw:hE' own wi g tc a5' σ H R)
  {use:Option (Value->Sem Unit)} {Q:Value->Shared->Prop} {pos:Pos}
  (fin:∀(s3 s':Shared) (H0 H':Hp) (ex:List Addr) (D:Addr) (xs:List V) (o:Obj) (σ':St),Inv X pins σ H0 s3->(∀b∈ex,c2' X pins H0 b)->Inv (X.comp scope s3 H0 ex) [] σ' H' s'->s'.heap.get? D=some o->D<s3.heap.objs.size->X.s₀.heap.objs.size<=D->c2' X pins H0 D->IsL xs o->H' D=none->R (.ref D) (upd H' D (.lst xs))->
   compPost (model X.prog X.w) X.A X.xe use Q (.ref D) s3.heap.objs.size (.ok .next) s'):
  wpAny (model X.prog X.w) X.A (comprehension e scope X.env pos (newList []) false (eval iter X.env) use) Q X.xe s:=by
 obtain⟨gs,hcl⟩:=C.cl
 refine wpAny_comprehension_free hcl C.fs (nb' fun n hn=>I.ok.has n (C.sc.free n hn)) C.sc.kind C.sc.names ?_
 refine thn (hi pins s σ H _ I hw) fun v s1 h1=>thn h1 fun itv s2 h2=>?_
 obtain⟨it,fp,tn,J,H2,rfl,I2,T,st2,f2,hc⟩:=h2
 refine bx (dA' ?_)
 have keep:∀b o,s2.heap.get? b=some o->(s2.heap.push { cls:=.type "list",dict:=none,data:=.seq ([]:List Value).toArray }).get? b=some o:=fun b o e=>ae _ e
 have I3:Inv X pins σ H2 { s2 with heap:=s2.heap.push { cls:=.type "list",dict:=none,data:=.seq ([]:List Value).toArray } }:=I2.kept (t':=s2.toks) keep
 have hsz:(s2.heap.push { cls:=.type "list",dict:=none,data:=.seq ([]:List Value).toArray }).objs.size=s2.heap.objs.size+1:=bg ..
 have fD:c2' X pins H2 s2.heap.objs.size:=I2.fpOk (ak _) (I2.hok.fresh (ak _))
 have hlt:∀b∈fp,b<s2.heap.objs.size:=fun b hb=>by
  obtain⟨o,e,_⟩:=T.obj _ _ st2 b hb
  exact az e
 have hDf:s2.heap.objs.size∉fp:=fun z=>bn _ (hlt _ z)
 have hex:∀b∈s2.heap.objs.size :: fp,c2' X pins H2 b:=fun b hb=>by
  rcases aq.mp hb with rfl|hb
  .exact fD
  .exact f2 b hb
 generalize hs3:({ s2 with heap:=s2.heap.push { cls:=.type "list",dict:=none,data:=.seq ([]:List Value).toArray } }:Shared)=s3 at *
 have hs3s:s3.heap.objs.size=s2.heap.objs.size+1:=by rw[<- hs3];exact hsz
 have hlt3:∀b∈s2.heap.objs.size :: fp,b<s3.heap.objs.size:=fun b hb=>by
  rw[hs3s]
  rcases aq.mp hb with rfl|hb
  .exact Nat.lt_succ_self _
  .exact Nat.lt_succ_of_lt (hlt b hb)
 have J0:=gr' (own:=own) I3 hex hlt3 C.sc C.ow
 obtain⟨c1,c2,ws',c4,c5⟩:=C.inn s3 H2 (s2.heap.objs.size :: fp) s2.heap.objs.size
 have kp:∀b o,s2.heap.get? b=some o->(a4' s3.heap scope.names).get? b=some o:=fun b o e=>pushCells_keeps _ _ b o (ae _ (by rw[<- hs3];exact keep b o e))
 have oD:(a4' s3.heap scope.names).get? s2.heap.objs.size=some { cls:=.type "list",dict:=none,data:=.seq ([]:List Value).toArray }:=pushCells_keeps _ _ _ _ (ae _ (by rw[<- hs3];exact aw _ rfl))
 have stat:∀b∈s2.heap.objs.size :: fp,c2' (X.comp scope s3 H2 (s2.heap.objs.size :: fp)) [] H2 b:=fun b hb=>
  ⟨(hex b hb).1,(J0.ok.exf b hb).1,J0.ok.exfs b hb,.inl hb,(J0.ok.exf b hb).2,fun p hp=>absurd (show p∈([]:List (Addr×Obj)) from hp) (by simp)⟩
 have T':Turn (X.comp scope s3 H2 (s2.heap.objs.size :: fp)).prog (X.comp scope s3 H2 (s2.heap.objs.size :: fp)).w (X.comp scope s3 H2 (s2.heap.objs.size :: fp)).K tg J fp it tn:=T
 have hc':bA' own g tc a5' J (clr own σ) [] H2 (fun xs H2=>∀p,H2 p=none->R (.ref p) (upd H2 p (.lst xs))):=by
  obtain⟨W,w0,turn⟩:=hc
  refine⟨W,w0,?_⟩
  rw[jY']
  exact turn
 have st3:tn 0 ({ s3 with heap:=a4' s3.heap scope.names }:Shared).heap:=T.keep _ _ _ st2 fun b hb o e=>kp b o e
 have L:=hD' (X:=X.comp scope s3 H2 (s2.heap.objs.size :: fp)) (Is:=IsL) (D:=s2.heap.objs.size) rfl C.calm (C.q _ _ _).1 (C.u _ _ _ _).1 (C.T _ _ _ _ _) T' c1 C.ge c2 c5 c4 fk' hDf J0
  (fun b hb=>stat b (ao _ hb)) (stat _ aA) oD ⟨bh _,[],0,.nil,rfl⟩ st3 hc'
 have L2:=jX' (C.q _ _ _).2 (C.u _ _ _ _).2 (fun it'=>(C.q it' _ _).1) (C.S _ _ _ _ _) ⟨_,by rw[hcl];rfl,rfl⟩ L (fun E=>T.self _ 0 _ _ E st3 ⟨rfl,rfl⟩)
 refine codeAny_mono L2 fun r s' h=>?_
 obtain⟨rfl,xs,o',H',J',e',is',n',hN⟩:=h
 exact fin s3 s' H2 H' _ _ xs o' _ I3 hex J' e' (hlt3 _ aA) I2.sz fD is' n' (hN _ n')
end
section
variable {X:Cx} {pins:List (Addr×Obj)} {σ:St} {H H':Hp} {s s':Shared} {D:Addr} {o:HO}
theorem Inv.track (I:Inv X pins σ H s) (f:c2' X pins H D) (h0:X.s₀.heap.objs.size<=D) (new:aF' X.prog X.w (upd H D o) s.heap D o):Inv X pins σ (upd H D o) s:=by
 obtain⟨f0,f1,f2,f3,f4,f5⟩:=f
 have ne:∀b ob,X.s₀.heap.get? b=some ob->b≠D:=fun b ob e=>aB (ag (az e) h0)
 have neT:∀b u,H b=some u->b≠D:=fun b u e z=>by rw[z,f0]at e;cases e
 refine⟨I.ok,I.os,I.bare,⟨I.base.keep,I.base.slot,fun b ob e n hx=>by rw[ac' (ne b ob e)];exact I.base.free b ob e n hx,I.base.there,fun b xs e=>?_,fun b ob u e=>?_,fun b ps e=>?_⟩,I.loc,I.cell,?_,fun x c e=>?_,fun p hp=>?_,fun b u e=>?_,I.len⟩
 .have q:=I.base.tups b xs e
  rw[ac' (neT b _ q)];exact q
 .have q:=I.base.frzs b ob u e
  rw[ac' (neT b _ q)];exact q
 .obtain⟨m,q⟩:=I.base.tbls b ps e
  exact⟨m,by rw[ac' (neT b _ q)];exact q⟩
 .rw[ac' (Ne.symm f1)];exact I.free
 .rw[ac' (f4 x c e)];exact I.freeC x c e
 .obtain⟨e,n,r⟩:=I.pin p hp
  refine⟨e,?_,r⟩
  rw[ac' (f5 p hp)];exact n
 .by_cases hb:b=D
  .subst hb
   rw[aa']at e;cases e
   exact new
  .rw[ac' hb]at e
   exact(I.hok b u e).stay (fun _ _ _ q=>q) (fun c q=>by rw[ac' (neT c _ q)];exact q) fun c xs q=>by rw[ac' (neT c _ q)];exact q
end
section
variable {X:Cx} {e:Expr} {scope:Scope} {tg iter:Expr} {ifs:List Expr} {nx:Addr->Env->Sem Unit} {g:TG} {tc:TT} {a5':TL (List V)} {own:List Nat} {wi:TI}
theorem nf' (C:CompIn X e scope tg iter ifs nx g tc a5' own) (hi:PI X tg iter wi) {pos:Pos} (he:eval e X.env=comprehension e scope X.env pos (newList []) false (eval iter X.env)):PE X e (hE' own wi g tc a5'):=by
 intro pins s σ H Q I hw
 rw[he]
 refine fl' C hi I hw fun s3 s' H0 H' ex D xs o σ' I3 hex J e' hlt h0 fD is' n' hR=>?_
 obtain⟨m,hn,_⟩:=J.loc
 refine⟨m,hn,fun h' hs=>?_⟩
 have J2:=fj' I3 hex J hs
 obtain⟨z,its,n,rv,rfl⟩:=is'
 have neC:D≠s3.heap.objs.size:=aB hlt
 refine⟨.ref D,upd H' D (.lst xs),J2.track (o:=.lst xs) ⟨n',fD.2⟩ h0 ⟨z,its,n,rv,(hs.2 D neC).trans e'⟩,rfl,hR⟩
theorem gs' (C:CompIn X e scope tg iter ifs nx g tc a5' own) (hi:PI X tg iter wi) {i:Nat} {y:Str} {py pos pos2:Pos} (hN:X.N.Nodup) (hy:X.N[i]?=some y) (hx:Loc X.env.scope y) (hf:X.fn y=true\/X.env.scope.names.lookup y=some .local)
  (he:evalThenUse e X.env (assign (.Name y py) X.env)=(do let _ <- comprehension e scope X.env pos2 (newList []) false (eval iter X.env) (some (assign (.Name y py) X.env))))
  (hsw:swapsWith e (some (.Name y py)) pos.line X.env=pure true):PS X (.Assign [.Name y py] e pos) (rZ' (hE' own wi g tc a5') (gU' i)):=by
 intro pins s σ H D I hw
 rw[exec_Assign_Name_used _ _ _ _ hsw]
 refine aa (cf (aa ?_))
 rw[he]
 refine aa (thn (Q:=fun _ s'=>SP X pins D .next s') (fl' C hi I hw fun s3 s' H0 H' ex D' xs o σ' I3 hex J e' hlt h0 fD is' n' hR=>?_) fun _ s' q=>af (af q))
 obtain⟨m,hn,_⟩:=J.loc
 have J2:Inv X pins σ H' s':=fj' I3 hex J (Heap.SameBut.refl ..)
 obtain⟨z,its,n,rv,rfl⟩:=is'
 have neC:D'≠s3.heap.objs.size:=aB hlt
 have J3:Inv X pins σ (upd H' D' (.lst xs)) s':=J2.track ⟨n',fD.2⟩ h0 ⟨z,its,n,rv,e'⟩
 have fC:c2' X pins H0 s3.heap.objs.size:=I3.fpOk (ak _) (I3.hok.fresh (ak _))
 refine wpAny_assign_Name (dZ' J3 hN hy hx (v:=.ref D') rfl (fun s'' J4 hs=>?_) hf)
 obtain⟨a,hsa,ha⟩:=hs
 have haC:s3.heap.objs.size≠a:=by
  rcases ha with rfl|ha
  .exact fC.2.1
  .exact fun q=>fC.2.2.2.2.1 _ _ ha q.symm
 have hn':s'.heap.Ns s3.heap.objs.size m:=hn
 refine⟨m,hn'.sameBut hsa haC,fun h' hs'=>?_⟩
 have J5:Inv X pins (σ.set i (some (.ref D'))) (upd H' D' (.lst xs)) { s'' with heap:=h' }:=J4.turned (it:=s3.heap.objs.size) (t':=s''.toks) (fun b ob hb q=>(hs'.2 b hb).trans q) (by rw[ac' (Ne.symm neC)];exact J.free) fC.2.1 fC.2.2.2.1 fC.2.2.2.2.1 fC.2.2.2.2.2
 exact⟨_,_,J5,hR⟩
end
def bG':Bool->Heap->Addr->Addr->Nat->Prop
 |true,h,it,a,i=>h.IsTupleIter it a i
 |false,h,it,a,i=>h.IsListIter it a i
def cp':Bool->Heap->Addr->Array Value->Prop
 |true,h,a,xs=>h.IsTuple a xs
 |false,h,a,xs=>h.IsList a xs
def hF':Bool->String
 |true=>"tuple_iterator"
 |false=>"list_iterator"
theorem bG'.obj {k:Bool} {h:Heap} {it a:Addr} {i:Nat} (x:bG' k h it a i):∃o,h.get? it=some o/\o.data=.fields #[.ref a,.int i 0]:=by
 cases k
 .obtain⟨o,e,_,d⟩:=x;exact⟨o,e,d⟩
 .obtain⟨o,e,_,d⟩:=x;exact⟨o,e,d⟩
theorem bG'.at {k:Bool} {h h':Heap} {it a:Addr} {i:Nat} (x:bG' k h it a i) (hk:∀o,h.get? it=some o->h'.get? it=some o):bG' k h' it a i:=by
 cases k
 .obtain⟨o,e,r⟩:=x;exact⟨o,hk o e,r⟩
 .obtain⟨o,e,r⟩:=x;exact⟨o,hk o e,r⟩
theorem cp'.at {k:Bool} {h h':Heap} {a:Addr} {xs:Array Value} (x:cp' k h a xs) (hk:∀o,h.get? a=some o->h'.get? a=some o):cp' k h' a xs:=by
 cases k
 .obtain⟨o,e,r⟩:=x;exact⟨o,hk o e,r⟩
 .obtain⟨o,e,r⟩:=x;exact⟨o,hk o e,r⟩
theorem cp'.lt {k:Bool} {h:Heap} {a:Addr} {xs:Array Value} (x:cp' k h a xs):a<h.objs.size:=by
 cases k
 .obtain⟨o,e,r⟩:=x;exact az e
 .obtain⟨o,e,r⟩:=x;exact az e
section
variable {prog:Program} {w:World} {A:Around} {E:Value->Shared->Prop} {s:Shared}
theorem aV' {k:Bool} {it l:Addr} {i:Nat} {items:Array Value} {x:Value} {Q:Value->Shared->Prop} (hit:bG' k s.heap it l i) (hl:cp' k s.heap l items) (hx:items[i]?=some x)
  (hQ:∀h',bG' k h' it l (i+1)->bu it s.heap h'->Q x { s with heap:=h' }):wpAny (model prog w) A (Builtin.SmallTypes.nextOf (.ref it)) Q E s:=by
 cases k
 .exact wpAny_nextOf_list_item hit hl hx hQ
 .have hit:s.heap.IsTupleIter it l i:=hit
  have hl:s.heap.IsTuple l items:=hl
  obtain⟨o,ho,hc,hd⟩:=id hit
  obtain⟨ol,hol,_,nl,hdl⟩:=hl
  unfold Builtin.SmallTypes.nextOf
  refine aa (aW (name:=Str.ofString "__next__") hit.typeIs F.slot_tuple_iterator_next
   (bf F.slot_tuple_iterator_next hit.typeIs F.entry_tuple_iterator_next ?_ (F.args_tuple_iterator_next_1 _)))
  show wpAny _ _ (field (.ref it) 0 >>= _) _ _ s
  refine aa (aZ ho hd (x:=.ref l) rfl ?_)
  show wpAny _ _ (if(Value.ref l == Value.none)=true then _ else _) _ _ s
  rw[if_neg (show ¬((Value.ref l == Value.none)=true) from ap)]
  show wpAny _ _ (field (.ref it) 1 >>= _) _ _ s
  refine aa (aZ ho hd (x:=.int i 0) rfl ?_)
  show wpAny _ _ (seqItems? (.ref l) >>= _) _ _ s
  refine aa (bm hol hdl ?_)
  simp only[bA,hx]
  refine aa (wpAny_setField ho hd (by simp) (af ⟨x,rfl,af (hQ _ ?_ (Heap.SameBut.update ..))⟩))
  exact⟨_,bb _ ho (Obj.isFreed_of_fields (Obj.data_mapFields hd _)),(Obj.cls_mapFields ..).trans hc,by
   rw[Obj.data_mapFields hd];simp[rawInt]⟩
theorem bH' {k:Bool} {it l:Addr} {i:Nat} {items:Array Value} {Q:Value->Shared->Prop} (hh:A.handled=none) (hit:bG' k s.heap it l i) (hl:cp' k s.heap l items) (hx:items[i]?=none)
  (hE:∀h' e,Heap.ExtBut it s.heap h'->(∃o,h'.get? e=some o/\o.cls=.type "StopIteration")->E (.ref e) { s with heap:=h' }):wpAny (model prog w) A (Builtin.SmallTypes.nextOf (.ref it)) Q E s:=by
 cases k
 .exact wpAny_nextOf_list_end hh hit hl hx hE
 .have hit:s.heap.IsTupleIter it l i:=hit
  have hl:s.heap.IsTuple l items:=hl
  obtain⟨o,ho,hc,hd⟩:=id hit
  obtain⟨ol,hol,_,nl,hdl⟩:=hl
  unfold Builtin.SmallTypes.nextOf
  refine aa (aW (name:=Str.ofString "__next__") hit.typeIs F.slot_tuple_iterator_next
   (bf F.slot_tuple_iterator_next hit.typeIs F.entry_tuple_iterator_next ?_ (F.args_tuple_iterator_next_1 _)))
  show wpAny _ _ (field (.ref it) 0 >>= _) _ _ s
  refine aa (aZ ho hd (x:=.ref l) rfl ?_)
  show wpAny _ _ (if(Value.ref l == Value.none)=true then _ else _) _ _ s
  rw[if_neg (show ¬((Value.ref l == Value.none)=true) from ap)]
  show wpAny _ _ (field (.ref it) 1 >>= _) _ _ s
  refine aa (aZ ho hd (x:=.int i 0) rfl ?_)
  show wpAny _ _ (seqItems? (.ref l) >>= _) _ _ s
  refine aa (bm hol hdl ?_)
  simp only[bA,hx]
  refine aa (cH (aa (wpAny_setField ho hd (by simp) ?_)))
  show wpAny _ _ (newExc (.type "StopIteration") [] >>= _) _ _ _
  refine aa ?_
  simp only[newExc,newTuple]
  refine aa (bx ?_ (by size_fits))
  refine aa (m:=firstArgMember _ _) (wpAny_of_eq (a:=Value.none) (by first|rfl|(simp only[firstArgMember];rfl)) ?_)
  refine bx ?_ (by size_fits)
  simp only[raiseNew]
  refine aa (wpAny_handled ?_)
  first|rw[show A.in1.handled=none from hh]|rw[hh]
  refine aa (af (wpAny_throw ?_))
  exact hE _ _ (((Heap.SameBut.update ..).extBut.push _).push _) ⟨_,aw _ rfl,rfl⟩
end
abbrev zH1 (k:Bool) (h:Heap) (l1:Addr):Heap:=h.push { cls:=.type (hF' k),data:=.fields #[.ref l1,.int 0 0] }
abbrev zH2 (k j:Bool) (h:Heap) (l1 l2:Addr):Heap:=(zH1 k h l1).push { cls:=.type (hF' j),data:=.fields #[.ref l2,.int 0 0] }
abbrev zH3 (k j:Bool) (h:Heap) (l1 l2:Addr):Heap:=(zH2 k j h l1 l2).push { cls:=.type "tuple",data:=.seq #[.ref h.objs.size,.ref (zH1 k h l1).objs.size] }
abbrev zH4 (k j:Bool) (h:Heap) (l1 l2:Addr):Heap:=(zH3 k j h l1 l2).push { cls:=.type "tuple",data:=.seq #[.none,.none] }
abbrev zH5 (k j:Bool) (h:Heap) (l1 l2:Addr):Heap:=(zH4 k j h l1 l2).push { cls:=.type "zip",data:=.fields #[.none,.bool false,.bool false,.ref (zH2 k j h l1 l2).objs.size,.ref (zH3 k j h l1 l2).objs.size] }
set_option maxHeartbeats 4000000 in
theorem hG' (k j:Bool) (l1 l2:Addr) (xs ys:Array Value):
  Meets (Builtin.«zip.__new__» ⟨[.type "zip",.ref l1,.ref l2],[]⟩) (fun _ R s=>cp' k s.heap l1 xs/\cp' j s.heap l2 ys/\
   R (.ok (.ret (.ref (zH4 k j s.heap l1 l2).objs.size))) { s with heap:=zH5 k j s.heap l1 l2 }):=by
 cases k<;>cases j
 .exact meets_zip_new l1 l2 xs ys
 .exact .of_wp fun prog w A R s h=>by
   obtain⟨hp,g,d,tk,os⟩:=s;obtain⟨hl1,hl2,h⟩:=h
   have hsub:=sub_zip
   have hL1:Heap.IsList (Shared.heap ⟨hp,g,d,tk,os⟩) l1 xs:=hl1
   have hL2:Heap.IsTuple (Shared.heap ⟨hp.push { cls:=.type "list_iterator",data:=.fields #[.ref l1,.int 0 0] },g,d,tk,os⟩) l2 ys:=Heap.IsTuple.push hl2 _
   wp_walk using wpAny_pyIter_list hL1,bw hL2
   exact⟨_,rfl,h⟩
 .exact .of_wp fun prog w A R s h=>by
   obtain⟨hp,g,d,tk,os⟩:=s;obtain⟨hl1,hl2,h⟩:=h
   have hsub:=sub_zip
   have hL1:Heap.IsTuple (Shared.heap ⟨hp,g,d,tk,os⟩) l1 xs:=hl1
   have hL2:Heap.IsList (Shared.heap ⟨hp.push { cls:=.type "tuple_iterator",data:=.fields #[.ref l1,.int 0 0] },g,d,tk,os⟩) l2 ys:=Heap.IsList.push hl2 _
   wp_walk using bw hL1,wpAny_pyIter_list hL2
   exact⟨_,rfl,h⟩
 .exact .of_wp fun prog w A R s h=>by
   obtain⟨hp,g,d,tk,os⟩:=s;obtain⟨hl1,hl2,h⟩:=h
   have hsub:=sub_zip
   have hL1:Heap.IsTuple (Shared.heap ⟨hp,g,d,tk,os⟩) l1 xs:=hl1
   have hL2:Heap.IsTuple (Shared.heap ⟨hp.push { cls:=.type "tuple_iterator",data:=.fields #[.ref l1,.int 0 0] },g,d,tk,os⟩) l2 ys:=Heap.IsTuple.push hl2 _
   wp_walk using bw hL1,bw hL2
   exact⟨_,rfl,h⟩
section
variable {prog:Program} {w:World} {A:Around} {E:Value->Shared->Prop} {s:Shared}
theorem ng' {k j:Bool} {l1 l2:Addr} {xs ys:Array Value} {Q:Value->Shared->Prop} (hl1:cp' k s.heap l1 xs) (hl2:cp' j s.heap l2 ys)
  (h:∀h',IsZip h' (s.heap.objs.size+4) (s.heap.objs.size+2) (s.heap.objs.size+3) .none->IsPair h' (s.heap.objs.size+2) (.ref s.heap.objs.size) (.ref (s.heap.objs.size+1))->
   IsPair h' (s.heap.objs.size+3) .none .none->bG' k h' s.heap.objs.size l1 0->bG' j h' (s.heap.objs.size+1) l2 0->h'.objs.size=s.heap.objs.size+5->
   (∀c o,s.heap.get? c=some o->h'.get? c=some o)->Q (.ref (s.heap.objs.size+4)) { s with heap:=h' }):
  wpAny (model prog w) A (call (.type "zip") [.ref l1,.ref l2]) Q E s:=by
 refine callType_new F.called_zip (by decide) (F.typeCall_zip_2 _ _) (F.newCall_zip_2 _ _) (fun obj=>F.args_object_init_3 obj _ _) F.entry_zip_new
  (hG' k j l1 l2 xs ys) ⟨hl1,hl2,?_⟩
 have z1:(zH1 k s.heap l1).objs.size=s.heap.objs.size+1:=bg ..
 have z2:(zH2 k j s.heap l1 l2).objs.size=s.heap.objs.size+2:=by rw[bg,z1]
 have z3:(zH3 k j s.heap l1 l2).objs.size=s.heap.objs.size+3:=by rw[bg,z2]
 have z4:(zH4 k j s.heap l1 l2).objs.size=s.heap.objs.size+4:=by rw[bg,z3]
 have z5:(zH5 k j s.heap l1 l2).objs.size=s.heap.objs.size+5:=by rw[bg,z4]
 have g5:(zH5 k j s.heap l1 l2).get? (zH4 k j s.heap l1 l2).objs.size=some _:=aw _ rfl
 have g4:(zH5 k j s.heap l1 l2).get? (zH3 k j s.heap l1 l2).objs.size=some _:=ae _ (aw _ rfl)
 have g3:(zH5 k j s.heap l1 l2).get? (zH2 k j s.heap l1 l2).objs.size=some _:=ae _ (ae _ (aw _ rfl))
 have g2:(zH5 k j s.heap l1 l2).get? (zH1 k s.heap l1).objs.size=some { cls:=.type (hF' j),data:=.fields #[.ref l2,.int 0 0] }:=ae _ (ae _ (ae _ (aw _ rfl)))
 have g1:(zH5 k j s.heap l1 l2).get? s.heap.objs.size=some { cls:=.type (hF' k),data:=.fields #[.ref l1,.int 0 0] }:=ae _ (ae _ (ae _ (ae _ (aw _ rfl))))
 have gk:∀c o,s.heap.get? c=some o->(zH5 k j s.heap l1 l2).get? c=some o:=fun c o e=>ae _ (ae _ (ae _ (ae _ (ae _ e))))
 have mk:∀(c:Bool) (it l:Addr),(zH5 k j s.heap l1 l2).get? it=some { cls:=.type (hF' c),data:=.fields #[.ref l,.int 0 0] }->bG' c (zH5 k j s.heap l1 l2) it l 0:=fun c it l e=>by
  cases c
  .exact⟨_,e,rfl,rfl⟩
  .exact⟨_,e,rfl,rfl⟩
 show _/\_
 rw[z2,z3,z4]at g5
 rw[z1,z2]at g3
 rw[z3]at g4
 rw[z1]at g2
 rw[z4]
 exact⟨⟨_,g5,rfl⟩,h _ g5 g3 g4 (mk k _ _ g1) (mk j _ _ g2) z5 gk⟩
theorem jZ' {k j:Bool} {z TI TO i1 i2 l1 l2:Addr} {k1 k2:Nat} {xs ys:Array Value} {x y a b:Value} {Q:Option Value->Shared->Prop} (D:ZipApart z TI TO i1 i2 l1 l2)
  (hz:IsZip s.heap z TI TO .none) (hTI:IsPair s.heap TI (.ref i1) (.ref i2)) (hTO:IsPair s.heap TO a b)
  (h1:bG' k s.heap i1 l1 k1) (h2:bG' j s.heap i2 l2 k2) (hl1:cp' k s.heap l1 xs) (hl2:cp' j s.heap l2 ys) (hx:xs[k1]?=some x) (hy:ys[k2]?=some y)
  (hQ:∀h',IsZip h' z TI TO (rawInt s.heap.objs.size)->IsPair h' TO x y->bG' k h' i1 l1 (k1+1)->bG' j h' i2 l2 (k2+1)->IsPair h' s.heap.objs.size x y->h'.objs.size=s.heap.objs.size+1->
   (∀c o,c≠z->c≠TO->c≠i1->c≠i2->s.heap.get? c=some o->h'.get? c=some o)->Q (some (.ref s.heap.objs.size)) { s with heap:=h' }):
  wpAny (model prog w) A (pyNext (.ref z)) Q E s:=by
 have hT:s.TypeIs (.ref z) "zip":=⟨_,hz,rfl⟩
 unfold pyNext
 refine aa (wpAny_attempt (aW (name:=Str.ofString "__next__") hT F.slot_zip_next
  (bf F.slot_zip_next hT F.entry_zip_next ?_ (F.args_zip_next_1 _))))
 show wpAny _ _ (field (.ref z) 2 >>= _) _ _ _
 refine aa (aZ hz rfl (x:=.bool false) rfl ?_)
 show wpAny _ _ (field (.ref z) 3 >>= _) _ _ _
 refine aa (aZ hz rfl (x:=.ref TI) rfl ?_)
 refine aa (bm hTI rfl ?_)
 show wpAny _ _ (Builtin.SmallTypes.ownedTupleIsFree (.ref z) >>= _) _ _ _
 refine aa ?_
 unfold Builtin.SmallTypes.ownedTupleIsFree
 refine aa (aZ hz rfl (x:=.none) rfl (af ?_))
 simp only[if_true]
 refine aa (cH ?_)
 refine aa (aZ hz rfl (x:=.ref TO) rfl ?_)
 refine aa (bI hz (by simp) fun h₁ hz₁ hs₁=>?_)
 replace hz₁:IsZip h₁ z TI TO .ellipsis:=hz₁
 refine aa ?_
 simp only[List.zipIdx_cons,List.zipIdx_nil,List.forIn_cons,List.forIn_nil]
 refine aa (aa (wpAny_onRaise ?_))
 show wpAny _ _ (Builtin.SmallTypes.nextOf (.ref i1) >>= _) _ _ _
 refine aa (aV' (h1.at fun o e=>hs₁.extBut _ _ D.i1z e) (hl1.at fun o e=>hs₁.extBut _ _ D.l1z e) hx fun h₂ h1₂ hs₂=>af ?_)
 have hTO₂:IsPair h₂ TO a b:=hs₂.extBut _ _ D.TOi1 (hs₁.extBut _ _ D.TOz hTO)
 refine aa (bm hTO₂ rfl ?_)
 refine aa (wpAny_updateSeq_pair hTO₂ fun h₃ hTO₃ hs₃=>?_)
 replace hTO₃:IsPair h₃ TO x b:=hTO₃
 refine aa (wpAny_letGo (af ?_))
 refine aa (aa (wpAny_onRaise ?_))
 show wpAny _ _ (Builtin.SmallTypes.nextOf (.ref i2) >>= _) _ _ _
 refine aa (aV' (h2.at fun o e=>hs₃.extBut _ _ D.TOi2.symm (hs₂.extBut _ _ D.i12.symm (hs₁.extBut _ _ D.i2z e)))
  (hl2.at fun o e=>hs₃.extBut _ _ D.l2TO (hs₂.extBut _ _ D.l2i1 (hs₁.extBut _ _ D.l2z e))) hy fun h₄ h2₄ hs₄=>af ?_)
 have hTO₄:IsPair h₄ TO x b:=hs₄.extBut _ _ D.TOi2 hTO₃
 refine aa (bm hTO₄ rfl ?_)
 refine aa (wpAny_updateSeq_pair hTO₄ fun h₅ hTO₅ hs₅=>?_)
 replace hTO₅:IsPair h₅ TO x y:=hTO₅
 refine aa (wpAny_letGo (af (af ?_)))
 refine aa (bm hTO₅ rfl ?_)
 refine aa (wpAny_newTuple ?_)
 have hsz:h₅.objs.size=s.heap.objs.size:=by rw[hs₅.1,hs₄.1,hs₃.1,hs₂.1,hs₁.1]
 have hz₅:IsZip h₅ z TI TO .ellipsis:=hs₅.extBut _ _ D.TOz.symm (hs₄.extBut _ _ D.i2z.symm (hs₃.extBut _ _ D.TOz.symm (hs₂.extBut _ _ D.i1z.symm hz₁)))
 have hk₅:∀c o,c≠z->c≠TO->c≠i1->c≠i2->s.heap.get? c=some o->h₅.get? c=some o:=fun c o c1 c2 c3 c4 e=>
  hs₅.extBut _ _ c2 (hs₄.extBut _ _ c4 (hs₃.extBut _ _ c2 (hs₂.extBut _ _ c3 (hs₁.extBut _ _ c1 e))))
 have h1₅:bG' k h₅ i1 l1 (k1+1):=h1₂.at fun o e=>hs₅.extBut _ _ D.TOi1.symm (hs₄.extBut _ _ D.i12 (hs₃.extBut _ _ D.TOi1.symm e))
 have h2₅:bG' j h₅ i2 l2 (k2+1):=h2₄.at fun o e=>hs₅.extBut _ _ D.TOi2.symm e
 have hzlt:z<h₅.objs.size:=az hz₅
 show wpAny _ _ (Builtin.SmallTypes.ownedTupleHandOut (.ref z) (.ref h₅.objs.size) >>= _) _ _ _
 refine aa ?_
 unfold Builtin.SmallTypes.ownedTupleHandOut
 have hz₆:IsZip (h₅.push { cls:=.type "tuple",data:=.seq #[x,y] }) z TI TO .ellipsis:=ae _ hz₅
 refine aa (bI hz₆ (by simp) fun h₇ hz₇ hs₇=>?_)
 replace hz₇:IsZip h₇ z TI TO (rawInt h₅.objs.size):=hz₇
 refine bI hz₇ (by simp) fun h₈ hz₈ hs₈=>?_
 replace hz₈:IsZip h₈ z TI TO (rawInt h₅.objs.size):=hz₈
 have up:∀c o,c≠z->h₅.get? c=some o->h₈.get? c=some o:=fun c o c1 e=>hs₈.extBut _ _ c1 (hs₇.extBut _ _ c1 (ae _ e))
 have hT₈:IsPair h₈ h₅.objs.size x y:=hs₈.extBut _ _ (bq hzlt) (hs₇.extBut _ _ (bq hzlt) (aw _ rfl))
 have hz8:h₈.objs.size=h₅.objs.size+1:=by rw[hs₈.1,hs₇.1,bg]
 rw[hsz]at hz₈ hT₈ hz8
 refine af ⟨_,rfl,af ?_⟩
 show Q (some (.ref h₅.objs.size)) _
 rw[hsz]
 exact hQ h₈ hz₈ (up _ _ D.TOz hTO₅) (h1₅.at fun o e=>up _ o D.i1z e) (h2₅.at fun o e=>up _ o D.i2z e) hT₈ hz8 fun c o c1 c2 c3 c4 e=>up c o c1 (hk₅ c o c1 c2 c3 c4 e)
theorem nh' {k j:Bool} {z TI TO i1 i2 l1 l2:Addr} {k1 k2:Nat} {xs ys:Array Value} {a b:Value} {Q:Option Value->Shared->Prop} (hh:A.handled=none) (D:ZipApart z TI TO i1 i2 l1 l2)
  (hz:IsZip s.heap z TI TO .none) (hTI:IsPair s.heap TI (.ref i1) (.ref i2)) (hTO:IsPair s.heap TO a b)
  (h1:bG' k s.heap i1 l1 k1) (h2:bG' j s.heap i2 l2 k2) (hl1:cp' k s.heap l1 xs) (hl2:cp' j s.heap l2 ys) (hend:xs[k1]?=none\/ys[k2]?=none)
  (hQ:∀h',(∀c o,c≠z->c≠TO->c≠i1->c≠i2->s.heap.get? c=some o->h'.get? c=some o)->Q none { s with heap:=h' }):wpAny (model prog w) A (pyNext (.ref z)) Q E s:=by
 have hT:s.TypeIs (.ref z) "zip":=⟨_,hz,rfl⟩
 unfold pyNext
 refine aa (wpAny_attempt (aW (name:=Str.ofString "__next__") hT F.slot_zip_next
  (bf F.slot_zip_next hT F.entry_zip_next ?_ (F.args_zip_next_1 _))))
 have fin:∀(h':Heap) (e:Addr),(∀c o,c≠z->c≠TO->c≠i1->c≠i2->s.heap.get? c=some o->h'.get? c=some o)->(∃o,h'.get? e=some o/\o.cls=.type "StopIteration")->
   wpAny (model prog w) A (do if <- isInstance (.ref e) (.type "StopIteration")then pure none else throw (.ref e)) Q E { s with heap:=h' }:=fun h' e hk ⟨o,ho,hc⟩=>
  aa (wpAny_isInstance (T:="StopIteration") (b:=true) ⟨o,ho,hc⟩ isSubtype_stop (af (hQ _ hk)))
 show wpAny _ _ (field (.ref z) 2 >>= _) _ _ _
 refine aa (aZ hz rfl (x:=.bool false) rfl ?_)
 show wpAny _ _ (field (.ref z) 3 >>= _) _ _ _
 refine aa (aZ hz rfl (x:=.ref TI) rfl ?_)
 refine aa (bm hTI rfl ?_)
 show wpAny _ _ (Builtin.SmallTypes.ownedTupleIsFree (.ref z) >>= _) _ _ _
 refine aa ?_
 unfold Builtin.SmallTypes.ownedTupleIsFree
 refine aa (aZ hz rfl (x:=.none) rfl (af ?_))
 simp only[if_true]
 refine aa (cH ?_)
 refine aa (aZ hz rfl (x:=.ref TO) rfl ?_)
 refine aa (bI hz (by simp) fun h₁ hz₁ hs₁=>?_)
 replace hz₁:IsZip h₁ z TI TO .ellipsis:=hz₁
 refine aa ?_
 simp only[List.zipIdx_cons,List.zipIdx_nil,List.forIn_cons,List.forIn_nil]
 refine aa (aa (wpAny_onRaise ?_))
 show wpAny _ _ (Builtin.SmallTypes.nextOf (.ref i1) >>= _) _ _ _
 have a1:=h1.at (h':=h₁) fun o e=>hs₁.extBut _ _ D.i1z e
 have b1:=hl1.at (h':=h₁) fun o e=>hs₁.extBut _ _ D.l1z e
 cases hx:xs[k1]? with
 |none=>
  refine aa (bH' (by first|exact hh|rfl) a1 b1 hx fun h₂ e hs₂ he=>?_)
  obtain⟨oe,hoe,hce⟩:=he
  have hz₂:IsZip h₂ z TI TO .ellipsis:=hs₂ _ _ D.i1z.symm hz₁
  have hez:e≠z:=fun x=>by subst x;rw[hz₂]at hoe;cases hoe;simp at hce
  refine bI hz₂ (by simp) fun h₃ _ hs₃=>fin h₃ e (fun c o c1 _ c3 _ x=>hs₃.extBut _ _ c1 (hs₂ _ _ c3 (hs₁.extBut _ _ c1 x))) ⟨oe,hs₃.extBut _ _ hez hoe,hce⟩
 |some x=>
  have hy:ys[k2]?=none:=by rcases hend with h|h;rw[hx]at h;cases h;exact h
  refine aa (aV' a1 b1 hx fun h₂ h1₂ hs₂=>af ?_)
  have hTO₂:IsPair h₂ TO a b:=hs₂.extBut _ _ D.TOi1 (hs₁.extBut _ _ D.TOz hTO)
  refine aa (bm hTO₂ rfl ?_)
  refine aa (wpAny_updateSeq_pair hTO₂ fun h₃ hTO₃ hs₃=>?_)
  refine aa (wpAny_letGo (af ?_))
  refine aa (aa (wpAny_onRaise ?_))
  show wpAny _ _ (Builtin.SmallTypes.nextOf (.ref i2) >>= _) _ _ _
  refine aa (bH' (by first|exact hh|rfl) (h2.at fun o e=>hs₃.extBut _ _ D.TOi2.symm (hs₂.extBut _ _ D.i12.symm (hs₁.extBut _ _ D.i2z e)))
   (hl2.at fun o e=>hs₃.extBut _ _ D.l2TO (hs₂.extBut _ _ D.l2i1 (hs₁.extBut _ _ D.l2z e))) hy fun h₄ e hs₄ he=>?_)
  obtain⟨oe,hoe,hce⟩:=he
  have hz₄:IsZip h₄ z TI TO .ellipsis:=hs₄ _ _ D.i2z.symm (hs₃.extBut _ _ D.TOz.symm (hs₂.extBut _ _ D.i1z.symm hz₁))
  have hez:e≠z:=fun x=>by subst x;rw[hz₄]at hoe;cases hoe;simp at hce
  refine bI hz₄ (by simp) fun h₅ _ hs₅=>fin h₅ e (fun c o c1 c2 c3 c4 x=>hs₅.extBut _ _ c1 (hs₄ _ _ c4 (hs₃.extBut _ _ c2 (hs₂.extBut _ _ c3 (hs₁.extBut _ _ c1 x))))) ⟨oe,hs₅.extBut _ _ hez hoe,hce⟩
end
section
variable {prog:Program} {w:World} {A:Around} {E:Value->Shared->Prop} {s:Shared}
theorem cd' {M:Model} {a:Addr} {Q:Option Obj->Shared->Prop} (h:Q (s.heap.get? a) s):wpAny M A (loadIfAlive a) Q E s:=fun Γ p _=>by
 show Sem.wp M Γ (Sem.loadIfAlive a Sem.pure) _ _ p s
 rw[Sem.wp_loadIfAlive]
 exact h
def ni' (h:Heap) (z TI TO:Addr) (f0 f1:Value):Prop:=h.get? z=some { cls:=.type "zip",data:=.fields #[f0,f1,.bool false,.ref TI,.ref TO] }
theorem fm' {b1:Bool} {z TI TO T:Addr} {oT:Obj} {Q:Bool->Shared->Prop} (hz:ni' s.heap z TI TO (rawInt T) (.bool b1)) (hT:s.heap.get? T=some oT)
  (hQ:∀h',ni' h' z TI TO (rawInt T) (.bool true)->bu z s.heap h'->Q false { s with heap:=h' }):wpAny (model prog w) A (Builtin.SmallTypes.ownedTupleIsFree (.ref z)) Q E s:=by
 unfold Builtin.SmallTypes.ownedTupleIsFree
 refine aa (aZ hz rfl (x:=rawInt T) rfl ?_)
 have eT:((T:Int)).toNat=T:=bA T
 simp only[rawInt]
 rw[eT]
 refine aa (cd' ?_)
 rw[hT]
 simp only[Option.isNone_some,bR,if_false]
 refine aa (aZ hz rfl (x:=.bool b1) rfl ?_)
 cases b1 with
 |true=>
  rw[if_neg (by decide)]
  exact af (hQ s.heap hz ⟨rfl,fun _ _=>rfl⟩)
 |false=>
  rw[if_pos (by decide)]
  refine aa (bI hz (by simp) fun h' hz' hs'=>af (hQ h' hz' hs'))
theorem hH' {k j b1:Bool} {z TI TO i1 i2 l1 l2 T:Addr} {k1 k2:Nat} {xs ys:Array Value} {x y:Value} {oT:Obj} {Q:Option Value->Shared->Prop} (D:ZipApart z TI TO i1 i2 l1 l2)
  (hz:ni' s.heap z TI TO (rawInt T) (.bool b1)) (hT:s.heap.get? T=some oT) (hTI:IsPair s.heap TI (.ref i1) (.ref i2))
  (h1:bG' k s.heap i1 l1 k1) (h2:bG' j s.heap i2 l2 k2) (hl1:cp' k s.heap l1 xs) (hl2:cp' j s.heap l2 ys) (hx:xs[k1]?=some x) (hy:ys[k2]?=some y)
  (hQ:∀h',ni' h' z TI TO (rawInt T) (.bool true)->bG' k h' i1 l1 (k1+1)->bG' j h' i2 l2 (k2+1)->IsPair h' s.heap.objs.size x y->h'.objs.size=s.heap.objs.size+1->
   (∀c o,c≠z->c≠i1->c≠i2->s.heap.get? c=some o->h'.get? c=some o)->Q (some (.ref s.heap.objs.size)) { s with heap:=h' }):
  wpAny (model prog w) A (pyNext (.ref z)) Q E s:=by
 have hTz:s.TypeIs (.ref z) "zip":=⟨_,hz,rfl⟩
 unfold pyNext
 refine aa (wpAny_attempt (aW (name:=Str.ofString "__next__") hTz F.slot_zip_next
  (bf F.slot_zip_next hTz F.entry_zip_next ?_ (F.args_zip_next_1 _))))
 show wpAny _ _ (field (.ref z) 2 >>= _) _ _ _
 refine aa (aZ hz rfl (x:=.bool false) rfl ?_)
 show wpAny _ _ (field (.ref z) 3 >>= _) _ _ _
 refine aa (aZ hz rfl (x:=.ref TI) rfl ?_)
 refine aa (bm hTI rfl ?_)
 show wpAny _ _ (Builtin.SmallTypes.ownedTupleIsFree (.ref z) >>= _) _ _ _
 refine aa (fm' hz hT fun h₁ hz₁ hs₁=>?_)
 simp only[bR,if_false]
 rw[<- Array.forIn_toList]
 simp only[List.forIn_cons,List.forIn_nil]
 have hTI₁:IsPair h₁ TI (.ref i1) (.ref i2):=hs₁.extBut _ _ D.TIz hTI
 refine aa (aa (aa (aR ?_)))
 show wpAny _ _ (Builtin.SmallTypes.nextOf (.ref i1) >>= _) _ _ _
 refine aa (aV' (s:={ s with heap:=h₁ }) (h1.at fun o e=>hs₁.extBut _ _ D.i1z e) (hl1.at fun o e=>hs₁.extBut _ _ D.l1z e) hx fun h₂ h1₂ hs₂=>af ?_)
 refine af ?_
 dsimp only
 refine aa (aa (aR ?_))
 show wpAny _ _ (Builtin.SmallTypes.nextOf (.ref i2) >>= _) _ _ _
 refine aa (aV' (s:={ s with heap:=h₂ }) (h2.at fun o e=>hs₂.extBut _ _ D.i12.symm (hs₁.extBut _ _ D.i2z e)) (hl2.at fun o e=>hs₂.extBut _ _ D.l2i1 (hs₁.extBut _ _ D.l2z e)) hy fun h₃ h2₃ hs₃=>af ?_)
 refine af ?_
 dsimp only
 refine af ?_
 dsimp only
 refine aa (wpAny_newTuple (hsz:=by show 2<=sizeLine;decide) ?_)
 have hsz:h₃.objs.size=s.heap.objs.size:=by rw[hs₃.1,hs₂.1,hs₁.1]
 refine af ⟨_,rfl,af ?_⟩
 show Q (some (.ref h₃.objs.size)) _
 rw[hsz]
 have up:∀c o,h₃.get? c=some o->(h₃.push { cls:=.type "tuple",data:=.seq #[x,y] }).get? c=some o:=fun c o e=>ae _ e
 refine hQ _ (up _ _ (hs₃.extBut _ _ D.i2z.symm (hs₂.extBut _ _ D.i1z.symm hz₁))) (h1₂.at fun o e=>up _ _ (hs₃.extBut _ _ D.i12 e)) (h2₃.at fun o e=>up _ _ e) ?_ (by rw[bg,hsz]) fun c o c1 c2 c3 e=>up _ _ (hs₃.extBut _ _ c3 (hs₂.extBut _ _ c2 (hs₁.extBut _ _ c1 e)))
 have:=aw h₃ (o:={ cls:=.type "tuple",data:=.seq #[x,y] }) rfl
 rw[hsz]at this
 exact this
theorem j0' {k j b1:Bool} {z TI TO i1 i2 l1 l2 T:Addr} {k1 k2:Nat} {xs ys:Array Value} {oT:Obj} {Q:Option Value->Shared->Prop} (hh:A.handled=none) (D:ZipApart z TI TO i1 i2 l1 l2)
  (hz:ni' s.heap z TI TO (rawInt T) (.bool b1)) (hT:s.heap.get? T=some oT) (hTI:IsPair s.heap TI (.ref i1) (.ref i2))
  (h1:bG' k s.heap i1 l1 k1) (h2:bG' j s.heap i2 l2 k2) (hl1:cp' k s.heap l1 xs) (hl2:cp' j s.heap l2 ys) (hend:xs[k1]?=none)
  (hQ:∀h',(∀c o,c≠z->c≠i1->c≠i2->s.heap.get? c=some o->h'.get? c=some o)->Q none { s with heap:=h' }):wpAny (model prog w) A (pyNext (.ref z)) Q E s:=by
 have hTz:s.TypeIs (.ref z) "zip":=⟨_,hz,rfl⟩
 unfold pyNext
 refine aa (wpAny_attempt (aW (name:=Str.ofString "__next__") hTz F.slot_zip_next
  (bf F.slot_zip_next hTz F.entry_zip_next ?_ (F.args_zip_next_1 _))))
 show wpAny _ _ (field (.ref z) 2 >>= _) _ _ _
 refine aa (aZ hz rfl (x:=.bool false) rfl ?_)
 show wpAny _ _ (field (.ref z) 3 >>= _) _ _ _
 refine aa (aZ hz rfl (x:=.ref TI) rfl ?_)
 refine aa (bm hTI rfl ?_)
 show wpAny _ _ (Builtin.SmallTypes.ownedTupleIsFree (.ref z) >>= _) _ _ _
 refine aa (fm' hz hT fun h₁ hz₁ hs₁=>?_)
 simp only[bR,if_false]
 rw[<- Array.forIn_toList]
 simp only[List.forIn_cons,List.forIn_nil]
 refine aa (aa (aa (aR ?_)))
 show wpAny _ _ (Builtin.SmallTypes.nextOf (.ref i1) >>= _) _ _ _
 refine aa (bH' (s:={ s with heap:=h₁ }) (by first|exact hh|rfl) (h1.at fun o e=>hs₁.extBut _ _ D.i1z e) (hl1.at fun o e=>hs₁.extBut _ _ D.l1z e) hend fun h₂ e hs₂ he=>?_)
 obtain⟨oe,hoe,hce⟩:=he
 refine aa (wpAny_isInstance (T:="StopIteration") (b:=true) ⟨oe,hoe,hce⟩ isSubtype_stop (af (hQ _ ?_)))
 exact fun c o c1 c2 c3 x=>hs₂ _ _ c2 (hs₁.extBut _ _ c1 x)
structure Zst (h0:Heap) (B:Nat) (k j:Bool) (z TI TO i1 i2 l1 l2 S:Addr) (xs ys:Array Value) (i:Nat) (h:Heap):Prop where
 zs:(i=0/\IsZip h z TI TO .none/\∃a b,IsPair h TO a b)\/(0<i/\∃b1,ni' h z TI TO (rawInt B) (.bool b1))
 ti:IsPair h TI (.ref i1) (.ref i2)
 h1:bG' k h i1 l1 i
 h2:bG' j h i2 l2 i
 o1:cp' k h l1 xs
 o2:cp' j h l2 ys
 sz:h.objs.size=B+i
 pr:∀m,m<i->∃x y,xs[m]?=some x/\ys[m]?=some y/\IsPair h (B+m) x y
 kp:∀c o,h0.get? c=some o->h.get? c=some o
structure Zap (h0:Heap) (B:Nat) (z TI TO i1 i2 l1 l2 S:Addr):Prop where
 D:ZipApart z TI TO i1 i2 l1 l2
 bz:z<B
 bTO:TO<B
 b1:i1<B
 b2:i2<B
 bS:S<B
 Sz:S≠z
 STI:S≠TI
 STO:S≠TO
 S1:S≠i1
 S2:S≠i2
 Sl1:S≠l1
 Sl2:S≠l2
 nz:h0.objs.size<=z
 nTO:h0.objs.size<=TO
 n1:h0.objs.size<=i1
 n2:h0.objs.size<=i2
 nS:h0.objs.size<=S
def gt' (B i:Nat):Array Value:=((aH i).map fun m=>Value.ref (B+m)).toArray
theorem hI' {B i:Nat}:(gt' B i).push (.ref (B+i))=gt' B (i+1):=by unfold gt';rw[List.range_succ,aO];simp
theorem Zst.drawn {h0:Heap} {B:Nat} {k j:Bool} {z TI TO i1 i2 l1 l2 S:Addr} {xs ys:Array Value} {i:Nat} {Q:Option Value->Shared->Prop} (P:Zap h0 B z TI TO i1 i2 l1 l2 S) (Z:Zst h0 B k j z TI TO i1 i2 l1 l2 S xs ys i s.heap) (hi:i<xs.size) (hij:i<ys.size)
  (hQ:∀h',Zst h0 B k j z TI TO i1 i2 l1 l2 S xs ys (i+1) h'->(∀o,s.heap.get? S=some o->h'.get? S=some o)->Q (some (.ref (B+i))) { s with heap:=h' }):wpAny (model prog w) A (pyNext (.ref z)) Q E s:=by
 obtain⟨zs,ti,h1,h2,o1,o2,sz,pr,kp⟩:=Z
 have hx:xs[i]?=some xs[i]:=ay hi
 have hy:ys[i]?=some ys[i]:=ay hij
 have fin:∀h' b1,ni' h' z TI TO (rawInt B) (.bool b1)->bG' k h' i1 l1 (i+1)->bG' j h' i2 l2 (i+1)->IsPair h' s.heap.objs.size xs[i] ys[i]->h'.objs.size=s.heap.objs.size+1->(∀c o,c≠z->c≠TO->c≠i1->c≠i2->s.heap.get? c=some o->h'.get? c=some o)->Q (some (.ref s.heap.objs.size)) { s with heap:=h' }:=by
  intro h' b1 q1 q2 q3 q4 q5 q6
  rw[sz]at q4 q5 ⊢
  refine hQ h' ⟨.inr ⟨by omega,b1,q1⟩,q6 _ _ P.D.TIz P.D.TITO P.D.TIi1 P.D.TIi2 ti,q2,q3,o1.at fun o e=>q6 _ _ P.D.l1z P.D.l1TO P.D.l1i1 P.D.l1i2 e,o2.at fun o e=>q6 _ _ P.D.l2z P.D.l2TO P.D.l2i1 P.D.l2i2 e,by rw[q5,Nat.add_assoc],fun m hm=>?_,fun c o e=>?_⟩ fun o e=>q6 _ _ P.Sz P.STO P.S1 P.S2 e
  .by_cases hmi:m=i
   .subst hmi
    exact⟨_,_,hx,hy,q4⟩
   .obtain⟨x,y,e1,e2,e3⟩:=pr m (by omega)
    exact⟨x,y,e1,e2,q6 _ _ (bq (ag P.bz (aJ _ _))) (bq (ag P.bTO (aJ _ _))) (bq (ag P.b1 (aJ _ _))) (bq (ag P.b2 (aJ _ _))) e3⟩
  .have hc:=az e
   exact q6 _ _ (aB (ag hc P.nz)) (aB (ag hc P.nTO)) (aB (ag hc P.n1)) (aB (ag hc P.n2)) (kp _ _ e)
 rcases zs with⟨e0,hz,a,b,hTO⟩|⟨e0,b1,hz⟩
 .refine jZ' P.D hz ti hTO h1 h2 o1 o2 hx hy fun h' q1 _ q2 q3 q4 q5 q6=>fin h' false ?_ q2 q3 q4 q5 q6
  rw[show B=s.heap.objs.size by omega]
  exact q1
 .obtain⟨x0,y0,_,_,hT⟩:=pr 0 e0
  exact hH' P.D hz hT ti h1 h2 o1 o2 hx hy fun h' q1 q2 q3 q4 q5 q6=>fin h' true q1 q2 q3 q4 q5 fun c o c1 _ c3 c4 e=>q6 c o c1 c3 c4 e
theorem Zst.over {h0:Heap} {B:Nat} {k j:Bool} {z TI TO i1 i2 l1 l2 S:Addr} {xs ys:Array Value} {i:Nat} {Q:Option Value->Shared->Prop} (hh:A.handled=none) (P:Zap h0 B z TI TO i1 i2 l1 l2 S) (Z:Zst h0 B k j z TI TO i1 i2 l1 l2 S xs ys i s.heap) (hi:xs.size=i)
  (hQ:∀h',(∀m,m<i->∃x y,xs[m]?=some x/\ys[m]?=some y/\IsPair h' (B+m) x y)->(∀c o,h0.get? c=some o->h'.get? c=some o)->(∀o,s.heap.get? S=some o->h'.get? S=some o)->Q none { s with heap:=h' }):wpAny (model prog w) A (pyNext (.ref z)) Q E s:=by
 obtain⟨zs,ti,h1,h2,o1,o2,sz,pr,kp⟩:=Z
 have hx:xs[i]?=none:=by rw[Array.getElem?_eq_none_iff];omega
 have fin:∀h',(∀c o,c≠z->c≠TO->c≠i1->c≠i2->s.heap.get? c=some o->h'.get? c=some o)->Q none { s with heap:=h' }:=by
  intro h' q6
  refine hQ h' (fun m hm=>?_) (fun c o e=>?_) fun o e=>q6 _ _ P.Sz P.STO P.S1 P.S2 e
  .obtain⟨x,y,e1,e2,e3⟩:=pr m hm
   exact⟨x,y,e1,e2,q6 _ _ (bq (ag P.bz (aJ _ _))) (bq (ag P.bTO (aJ _ _))) (bq (ag P.b1 (aJ _ _))) (bq (ag P.b2 (aJ _ _))) e3⟩
  .have hc:=az e
   exact q6 _ _ (aB (ag hc P.nz)) (aB (ag hc P.nTO)) (aB (ag hc P.n1)) (aB (ag hc P.n2)) (kp _ _ e)
 rcases zs with⟨e0,hz,a,b,hTO⟩|⟨e0,b1,hz⟩
 .exact nh' hh P.D hz ti hTO h1 h2 o1 o2 (.inl hx) fun h' q=>fin h' q
 .obtain⟨x0,y0,_,_,hT⟩:=pr 0 e0
  exact j0' hh P.D hz hT ti h1 h2 o1 o2 hx fun h' q=>fin h' fun c o c1 _ c3 c4 e=>q c o c1 c3 c4 e
theorem Zst.keepS {h0:Heap} {B:Nat} {k j:Bool} {z TI TO i1 i2 l1 l2 S:Addr} {xs ys:Array Value} {i:Nat} {h h':Heap} (P:Zap h0 B z TI TO i1 i2 l1 l2 S) (Z:Zst h0 B k j z TI TO i1 i2 l1 l2 S xs ys i h) (hs:bu S h h'):Zst h0 B k j z TI TO i1 i2 l1 l2 S xs ys i h':=by
 obtain⟨zs,ti,h1,h2,o1,o2,sz,pr,kp⟩:=Z
 have q:∀c o,c≠S->h.get? c=some o->h'.get? c=some o:=fun c o hc e=>(hs.2 c hc).trans e
 refine⟨?_,q _ _ P.STI.symm ti,h1.at fun o e=>q _ _ P.S1.symm e,h2.at fun o e=>q _ _ P.S2.symm e,o1.at fun o e=>q _ _ P.Sl1.symm e,o2.at fun o e=>q _ _ P.Sl2.symm e,by rw[hs.1];exact sz,fun m hm=>?_,fun c o e=>?_⟩
 .rcases zs with⟨e0,hz,a,b,hTO⟩|⟨e0,b1,hz⟩
  .exact .inl ⟨e0,q _ _ P.Sz.symm hz,a,b,q _ _ P.STO.symm hTO⟩
  .exact .inr ⟨e0,b1,q _ _ P.Sz.symm hz⟩
 .obtain⟨x,y,e1,e2,e3⟩:=pr m hm
  exact⟨x,y,e1,e2,q _ _ (bq (ag P.bS (aJ _ _))) e3⟩
 .exact q _ _ (aB (ag (az e) P.nS)) (kp _ _ e)
theorem j1' {R:Result->Shared->Prop} {h0:Heap} {B:Nat} {k j:Bool} {z TI TO i1 i2 l1 l2 S:Addr} {xs ys:Array Value} {n:Nat} {res:Value} (hh:A.in1.handled=none) (P:Zap h0 B z TI TO i1 i2 l1 l2 S) (hxs:xs.size=n) (hys:ys.size=n) (hn:n<=sizeLine):
  ∀(m i:Nat) (s:Shared) (c:Nat),n-i=m->i<=n->Zst h0 B k j z TI TO i1 i2 l1 l2 S xs ys i s.heap->s.heap.get? S=some { cls:=.type "list",dict:=none,data:=.seq (gt' B i) c,slots:=#[] }->
   (∀h' c',(∀m,m<n->∃x y,xs[m]?=some x/\ys[m]?=some y/\IsPair h' (B+m) x y)->(∀c o,h0.get? c=some o->h'.get? c=some o)->h'.get? S=some { cls:=.type "list",dict:=none,data:=.seq (gt' B n) c',slots:=#[] }->R (.ok (.ret res)) { s with heap:=h' })->
   codeAny (model prog w) A (.builtin "list.extend.loop" ⟨[.ref S,.ref z,res],[]⟩) R s:=by
 intro m
 induction m with
 |zero=>
  intro i s c hk hi Z hS hR
  have hin:i=n:=by omega
  subst hin
  refine codeAny_builtin PySem.F.entry_extend_loop ?_
  rw[Around.under_plainId PySem.F.plain_extend_loop _]
  show wpAny _ A.in1 (pyNext (.ref z) >>= _) _ _ s
  refine aa (Z.over hh P hxs fun h' q1 q2 q3=>?_)
  exact af (hR h' c q1 q2 (q3 _ hS))
 |succ m ih=>
  intro i s c hk hi Z hS hR
  refine codeAny_builtin PySem.F.entry_extend_loop ?_
  rw[Around.under_plainId PySem.F.plain_extend_loop _]
  show wpAny _ A.in1 (pyNext (.ref z) >>= _) _ _ s
  refine aa (Z.drawn P (by omega) (by omega) fun h' Z' q3=>?_)
  have hS':=q3 _ hS
  have hasz:(gt' B i).size=i:=by unfold gt';simp
  show wpAny _ A.in1 (updateSeq S (·.push (.ref (B+i))) >>= _) _ _ _
  have hS2:=bb (Obj.mapSeq (·.push (Value.ref (B+i)))) hS' rfl
  obtain⟨c',hS3⟩:∃c',(h'.update S (Obj.mapSeq (·.push (Value.ref (B+i))))).get? S=some { cls:=.type "list",dict:=none,data:=.seq (gt' B (i+1)) c',slots:=#[] }:=⟨_,by rw[<- hI'];exact hS2⟩
  refine aa (wpAny_updateSeq (s:={ s with heap:=h' }) hS' rfl (af ⟨plainId_quiet PySem.F.plain_extend_loop _,ih (i+1) _ c' (by omega) (by omega) (Z'.keepS P (Heap.SameBut.update ..)) hS3 fun h'' c'' q1 q2 q3=>hR h'' c'' q1 q2 q3⟩) (by rw[hasz];omega) (by show((gt' B i).push _).size<=sizeLine+1;rw[Array.size_push,hasz];omega))
end
def Its (x:Str):It:=⟨fun i _=>i<x.cps.size,fun i H v H'=>H'=H/\∃c,x.cps[i]?=some c/\v=.str ⟨#[c]⟩,fun i _=>x.cps.size<=i⟩
theorem j2' {P:Program} {w:World} {K:W.Frag} {tg:Expr} (it:Addr) (x:Str) (ty:String) (t:Tok) (hty:ty="str_ascii_iterator"\/ty="str_iterator"):
  Turn P w K tg (Its x) [it] it (fun i h=>h.IsStrIter it ty x t i) where
 mem:=by simp
 obj:=fun i h st b hb=>by
  have e:b=it:=by simpa using hb
  subst e
  obtain⟨o,e,c,d⟩:=st
  exact⟨o,e,fun v z=>by rw[d]at z;cases z⟩
 keep:=fun i h h' st k=>by
  obtain⟨o,e,r⟩:=st
  exact⟨o,k it (by simp) o e,r⟩
 item:=by
  intro X hP hw hK hc i pins s σ H E I hf st hg
  subst hP hw hK
  obtain⟨f0,f1,f2,f3,f4,f5⟩:=hf it (by simp)
  have hg':i<x.cps.size:=hg
  have hx:x.cps[i]?=some x.cps[i]:=by simp[hg']
  have fin:∀h',h'.IsStrIter it ty x t (i+1)->bu it s.heap h'->∃u,some (Value.str ⟨#[x.cps[i]]⟩ s.toks)=some u/\
    wpAny (model X.prog X.w) X.A (letOwnedTupleGo tg (.ref it) u) (fun _ s2=>∃y H',Inv X pins σ H' s2/\as' y u/\(Its x).yld i H y H'/\s2.heap.IsStrIter it ty x t (i+1)/\∀b∈[it],H' b=none) E { s with heap:=h',toks:=s.toks+1 }:=fun h' st' sb=>by
   have I1:Inv X pins σ H { s with heap:=h',toks:=s.toks+1 }:=I.turned (fun b o hb e=>(sb.2 b hb).trans e) f0 f1 f3 f4 f5
   obtain⟨o,e,c,d⟩:=id st'
   refine⟨_,rfl,gX' (s:={ s with heap:=h',toks:=s.toks+1 }) e c d ?_ ⟨.str ⟨#[x.cps[i]]⟩,H,I1,⟨_,rfl⟩,⟨rfl,_,hx,rfl⟩,st',fun b hb=>(hf b hb).1⟩⟩
   rcases hty with rfl|rfl<;>decide
  rcases hty with rfl|rfl
  .exact wpAny_pyNext_ascii_item st hx fin
  .exact wpAny_pyNext_wide_item st hx fin
 done:=by
  intro X hP hw hK hc i pins s σ H E I hf st hg
  subst hP hw hK
  obtain⟨f0,f1,f2,f3,f4,f5⟩:=hf it (by simp)
  have hg':x.cps.size<=i:=hg
  have hx:x.cps[i]?=none:=by simp[hg']
  have fin:∀h',Heap.ExtBut it s.heap h'->(none:Option Value)=none/\Inv X pins σ H { s with heap:=h' }:=fun h' eb=>⟨rfl,I.turned (t':=s.toks) (fun b o hb e=>eb b o hb e) f0 f1 f3 f4 f5⟩
  rcases hty with rfl|rfl
  .exact wpAny_pyNext_ascii_end (I.ok.hd hc) st hx fin
  .exact wpAny_pyNext_wide_end (I.ok.hd hc) st hx fin
 self:=fun _ _ _ _ _ st h=>by
  rcases hty with rfl|rfl
  .exact wpAny_pyIter_striter_ascii st h
  .exact wpAny_pyIter_striter_wide st h
def Sq (k:Bool) (K:W.Frag) (H:Hp) (a:Addr) (xs:List V):Prop:=match k with
 |true=>SqT K H a xs
 |false=>SqL K H a xs
theorem Inv.sq {X:Cx} {pins:List (Addr×Obj)} {σ:St} {H:Hp} {s:Shared} {k:Bool} {a:Addr} {xs:List V} (I:Inv X pins σ H s) (h:Sq k X.K H a xs):∃its:List Value,ax' xs its/\cp' k s.heap a its.toArray/\xs.length<=sizeLine:=by
 cases k
 .obtain⟨its,r,p,z⟩:=I.list h
  exact⟨its,r,p.isList,z⟩
 .obtain⟨its,r,p,z⟩:=I.tuple h
  exact⟨its,r,p,z⟩
def uJ' (k j:Bool) (K:W.Frag) (a b:Addr):It:=
 ⟨fun i H=>∃xs ys x y,Sq k K H a xs/\Sq j K H b ys/\xs[i]?=some x/\ys[i]?=some y,
  fun i H v H'=>∃p x y,v=.ref p/\H p=none/\(∀xs,Sq k K H a xs->xs[i]?=some x)/\(∀ys,Sq j K H b ys->ys[i]?=some y)/\H'=upd H p (.tup [x,y]),
  fun i H=>∃xs ys,Sq k K H a xs/\Sq j K H b ys/\(xs.length<=i\/ys.length<=i)⟩
section
variable {X:Cx} {tg:Expr}
def sI' (K:W.Frag) (tl:TE):TI:=fun σ H R=>tl σ H fun x H1=>
 (∃a,x=.ref a/\(∃xs,SqL K H1 a xs)/\R (Itl K a) H1)\/(∃a,x=.ref a/\(∃xs,SqT K H1 a xs)/\R (Itt K a) H1)\/∃z,x=.str z/\R (Its z) H1
theorem po' {l:Expr} {tl:TE} (hl:PE X l tl):PI X tg l (sI' X.K tl):=by
 intro pins s σ H R I h
 refine thn (hl pins s σ H _ I h) fun v s1 ⟨x,H1,I1,r1,q1⟩=>?_
 rcases q1 with⟨a,e,⟨xs,hq⟩,q⟩|⟨a,e,⟨xs,hq⟩,q⟩|⟨z,e,q⟩
 .subst e
  cases r1
  obtain⟨its,rv,p,hz⟩:=I1.list hq
  refine wpAny_pyIter_list p.isList ?_
  refine⟨s1.heap.objs.size,[s1.heap.objs.size],_,_,H1,rfl,I1.kept (t':=s1.toks) fun b o e=>ae _ e,gY' a _,⟨_,aw _ rfl,rfl,rfl⟩,fun b hb=>?_,q⟩
  have e:b=s1.heap.objs.size:=by simpa using hb
  subst e
  exact I1.fpOk (ak _) (I1.hok.fresh (ak _))
 .subst e
  cases r1
  obtain⟨its,rv,p,hz⟩:=I1.tuple hq
  refine bw (show s1.heap.IsTuple a its.toArray from p) ?_
  refine⟨s1.heap.objs.size,[s1.heap.objs.size],_,_,H1,rfl,I1.kept (t':=s1.toks) fun b o e=>ae _ e,gh' a _,⟨_,aw _ rfl,rfl,rfl⟩,fun b hb=>?_,q⟩
  have e:b=s1.heap.objs.size:=by simpa using hb
  subst e
  exact I1.fpOk (ak _) (I1.hok.fresh (ak _))
 .subst e
  obtain⟨t,rfl⟩:=r1
  have fin:∀(ty:String),(ty="str_ascii_iterator"\/ty="str_iterator")->PIE X pins σ tg R (.ref s1.heap.objs.size) { s1 with heap:=s1.heap.push { cls:=.type ty,data:=.fields #[.str z t,.int 0 0] } }:=fun ty hty=>by
   refine⟨s1.heap.objs.size,[s1.heap.objs.size],_,_,H1,rfl,I1.kept (t':=s1.toks) fun b o e=>ae _ e,j2' _ z ty t hty,⟨_,aw _ rfl,rfl,rfl⟩,fun b hb=>?_,q⟩
   have e:b=s1.heap.objs.size:=by simpa using hb
   subst e
   exact I1.fpOk (ak _) (I1.hok.fresh (ak _))
  cases ha:z.cps.all (· < 128)
  .exact wpAny_pyIter_wide ha (fin _ (.inr rfl))
  .exact wpAny_pyIter_ascii ha (fin _ (.inl rfl))
end
section
variable {prog:Program} {w:World} {A:Around} {E:Value->Shared->Prop} {s:Shared}
theorem hJ':typeLookup (.type "zip") "__len__"=pure none:=by rw[typeLookup_type,builtinLookup_eq_fast];kernel_rfl
theorem gu':typeLookup (.type "zip") "__length_hint__"=pure none:=by rw[typeLookup_type,builtinLookup_eq_fast];kernel_rfl
theorem j3' {r:Addr} {Q:Bool->Shared->Prop} (hT:s.TypeIs (.ref r) "zip") (h:Q true s):wpAny (model prog w) A (Builtin.List.listLengthHint (.ref r)) Q E s:=by
 unfold Builtin.List.listLengthHint
 refine aa (cu hT hJ' ?_)
 dsimp only
 rw[if_neg (by decide),if_neg (by decide)]
 refine aa (cu hT gu' ?_)
 exact af h
theorem gv' {R:Result->Shared->Prop} {h0:Heap} {B:Nat} {k j:Bool} {z TI TO i1 i2 l1 l2 S:Addr} {xs ys:Array Value} {n c₀:Nat} {res:Value} (hh:A.in1.handled=none) (P:Zap h0 B z TI TO i1 i2 l1 l2 S) (hxs:xs.size=n) (hys:ys.size=n) (hn:n<=sizeLine)
  (Z:Zst h0 B k j z TI TO i1 i2 l1 l2 S xs ys 0 s.heap) (hS:s.heap.get? S=some { cls:=.type "list",data:=.seq #[] c₀ })
  (hR:∀h' c',(∀m,m<n->∃x y,xs[m]?=some x/\ys[m]?=some y/\IsPair h' (B+m) x y)->(∀c o,h0.get? c=some o->h'.get? c=some o)->h'.get? S=some { cls:=.type "list",dict:=none,data:=.seq (gt' B n) c',slots:=#[] }->R (.ok (.ret res)) { s with heap:=h' }):
  wpAny (model prog w) A.in1 (Builtin.List.listExtendWith (.ref S) (.ref z) res)
   (fun fin s'=>match fin with | .done f=>R (.ok f) s' | .again c'=>c'.quiet=true/\codeAny (model prog w) A c' R s') (fun e s'=>R (.error e) s') s:=by
 have hz:IsZip s.heap z TI TO .none:=by
  rcases Z.zs with⟨_,hz,_⟩|⟨e0,_⟩
  .exact hz
  .omega
 have hT:s.TypeIs (.ref z) "zip":=⟨_,hz,rfl⟩
 unfold Builtin.List.listExtendWith
 refine aa (wpAny_typeOf (T:="zip") hT ?_)
 have h1:Builtin.List.listSameRef (.ref S) (.ref z)=false:=by simp[Builtin.List.listSameRef,P.Sz]
 simp only[h1,show(Value.type "zip" == Value.type "list")=false by decide,show(Value.type "zip" == Value.type "tuple")=false by decide,Bool.or_false,bR,if_false]
 refine aa (wpAny_pyIter_zip hz ?_)
 refine aa (aR (j3' hT ?_))
 rw[if_pos (by rfl)]
 refine aa (cH ?_)
 refine aa ?_
 show wpAny _ _ (updateSeq S (·.push .none) >>= fun _=>updateSeq S (·.pop)) _ _ _
 refine aa (wpAny_updateSeq hS rfl ?_)
 have hS₂:=bb (Obj.mapSeq (·.push Value.none)) hS rfl
 refine wpAny_updateSeq (hz:=by seq_fits) hS₂ rfl ?_
 have hS₃:=bb (Obj.mapSeq (·.pop)) hS₂ rfl
 have Z2:=(Z.keepS P (Heap.SameBut.update ..)).keepS P (Heap.SameBut.update (s.heap.update S (Obj.mapSeq (·.push Value.none))) S (Obj.mapSeq (·.pop)))
 exact af ⟨plainId_quiet PySem.F.plain_extend_loop _,j1' hh P hxs hys hn n 0 _ _ (by omega) (bh _) Z2 hS₃ fun h' c' q1 q2 q3=>hR h' c' q1 q2 q3⟩
theorem dC' {h0:Heap} {k j:Bool} {l1 l2:Addr} {xs ys:Array Value} {n:Nat} {Q:Value->Shared->Prop} (hh:A.handled=none) (hxs:xs.size=n) (hys:ys.size=n) (hn:n<=sizeLine)
  (o1:cp' k h0 l1 xs) (o2:cp' j h0 l2 ys)
  (hz:IsZip s.heap (h0.objs.size+4) (h0.objs.size+2) (h0.objs.size+3) .none) (hTI:IsPair s.heap (h0.objs.size+2) (.ref h0.objs.size) (.ref (h0.objs.size+1))) (hTO:IsPair s.heap (h0.objs.size+3) .none .none)
  (h1:bG' k s.heap h0.objs.size l1 0) (h2:bG' j s.heap (h0.objs.size+1) l2 0) (hsz:s.heap.objs.size=h0.objs.size+5) (hk:∀c o,h0.get? c=some o->s.heap.get? c=some o)
  (hQ:∀h' c',(∀m,m<n->∃x y,xs[m]?=some x/\ys[m]?=some y/\IsPair h' (h0.objs.size+6+m) x y)->(∀c o,h0.get? c=some o->h'.get? c=some o)->h'.get? (h0.objs.size+5)=some { cls:=.type "list",dict:=none,data:=.seq (gt' (h0.objs.size+6) n) c',slots:=#[] }->Q (.ref (h0.objs.size+5)) { s with heap:=h' }):
  wpAny (model prog w) A (call (.type "list") [.ref (h0.objs.size+4)]) Q E s:=by
 refine callType_codes (Q₁:=fun obj s₁=>obj=.ref s.heap.objs.size/\s₁={ s with heap:=s.heap.push { cls:=.type "list",data:=.seq #[] } }) PySem.F.called_list (PySem.F.typeCall_list_1 _) PySem.F.entry_list_init
  (code_list_new _ ⟨rfl,rfl⟩) fun obj s₁ h₁=>?_
 obtain⟨rfl,rfl⟩:=h₁
 have hS:(s.heap.push { cls:=.type "list",data:=.seq #[] }).get? s.heap.objs.size=some { cls:=.type "list",data:=.seq #[] }:=aw _ rfl
 refine⟨⟨_,hS,rfl⟩,PySem.F.args_list_init_2 _ _,?_⟩
 have lt1:l1<h0.objs.size:=o1.lt
 have lt2:l2<h0.objs.size:=o2.lt
 rw[hsz]at hS ⊢
 have P:Zap h0 (h0.objs.size+6) (h0.objs.size+4) (h0.objs.size+2) (h0.objs.size+3) h0.objs.size (h0.objs.size+1) l1 l2 (h0.objs.size+5):=by
  have e:∀a b:Nat,a≠b->(show Addr from a)≠(show Addr from b):=fun a b h=>h
  have lt1':(l1:Nat)<h0.objs.size:=lt1
  have lt2':(l2:Nat)<h0.objs.size:=lt2
  refine⟨⟨?_,?_,?_,?_,?_,?_,?_,?_,?_,?_,?_,?_,?_,?_,?_,?_,?_,?_⟩,?_,?_,?_,?_,?_,?_,?_,?_,?_,?_,?_,?_,?_,?_,?_,?_,?_⟩<;>first|(apply e;omega;done)|exact aB lt1|exact aB lt2|exact aB (ag lt1 (aJ _ _))|exact aB (ag lt2 (aJ _ _))|exact bq (ag lt1 (aJ _ _))|exact bq (ag lt2 (aJ _ _))|(show(_:Nat)<_;omega)|(show(_:Nat)<=_;omega)
 have Z0:Zst h0 (h0.objs.size+6) k j (h0.objs.size+4) (h0.objs.size+2) (h0.objs.size+3) h0.objs.size (h0.objs.size+1) l1 l2 (h0.objs.size+5) xs ys 0 (s.heap.push { cls:=.type "list",data:=.seq #[] }):=by
  have up:∀c o,s.heap.get? c=some o->(s.heap.push { cls:=.type "list",data:=.seq #[] }).get? c=some o:=fun c o e=>ae _ e
  exact⟨.inl ⟨rfl,up _ _ hz,_,_,up _ _ hTO⟩,up _ _ hTI,h1.at fun o e=>up _ _ e,h2.at fun o e=>up _ _ e,o1.at fun o e=>up _ _ (hk _ _ e),o2.at fun o e=>up _ _ (hk _ _ e),by rw[bg,hsz],fun m hm=>absurd hm (bi _),fun c o e=>up _ _ (hk _ _ e)⟩
 show wpAny _ _ (do let old <- Builtin.List.listItems (.ref (h0.objs.size+5));Builtin.List.listUpdate (.ref (h0.objs.size+5)) (fun _=>#[]);letGo old.toList.reverse;Builtin.List.listExtendWith (.ref (h0.objs.size+5)) (.ref (h0.objs.size+4)) .none) _ _ _
 refine aa ?_
 unfold Builtin.List.listItems
 refine aa (bm hS rfl (af ?_))
 show wpAny _ _ (updateSeq (h0.objs.size+5) (fun _=>#[]) >>= fun _=>letGo (#[]:Array Value).toList.reverse >>= fun _=>Builtin.List.listExtendWith (.ref (h0.objs.size+5)) (.ref (h0.objs.size+4)) .none) _ _ _
 refine aa (wpAny_updateSeq hS rfl ?_)
 have hS₂:=bb (Obj.mapSeq (fun _=>(#[]:Array Value))) hS rfl
 refine aa (wpAny_letGo ?_)
 refine gv' (by simp[hh]) P hxs hys hn (Z0.keepS P (Heap.SameBut.update ..)) hS₂ fun h' c' q1 q2 q3=>?_
 exact⟨rfl,hQ h' c' q1 q2 q3⟩
end
section
variable {X:Cx} {pins:List (Addr×Obj)} {σ:St} {H H':Hp} {s:Shared} {h':Heap}
theorem Inv.laidN {t':Nat} (I:Inv X pins σ H s) (k:∀b u,s.heap.get? b=some u->h'.get? b=some u) (sub:∀b u,H b=some u->H' b=some u) (fr:∀b,H b=none->b<s.heap.objs.size->H' b=none)
  (new:∀b u,H' b=some u->H b=some u\/aF' X.prog X.w H' h' b u):Inv X pins σ H' { s with heap:=h',toks:=t' }:=by
 refine I.step (g':=s.gens) (d':=s.drawn) (t':=t') (ch:=[]) (fun c hc=>absurd hc aK) (fun c o _ _ _ e _=>k c o e) (fun c o _ _ _ e _=>⟨o.slots,k c o e⟩)
  (fun c o _ e n=>fr c n (az e)) (fun c o _ e=>⟨o,k c o e⟩) (fun c ps e=>sub _ _ e) (fun c o p e=>sub _ _ e) (fun c ps e=>⟨#[],by rw[sub _ _ e];simp⟩) (fun m hm=>?_) (fun c o e=>?_) I.bare
 .obtain⟨oo,es,ep,ho,r⟩:=hm
  exact⟨oo,es,ep,k _ oo ho,r⟩
 .rcases new c o e with e0|h
  .exact(I.hok c o e0).stay (fun d q hd eq=>k d q eq) (fun d q=>sub _ _ q) fun d qs q=>sub _ _ q
  .exact h
end
section
variable {X:Cx}
def sJ' (K:W.Frag) (ta:TA):TE:=fun σ H Q=>ta σ H fun vs H1=>∃(k j:Bool) (a b:Addr) (xs ys:List V),vs=[.ref a,.ref b]/\Sq k K H1 a xs/\Sq j K H1 b ys/\xs.length=ys.length/\
 ∀(l:Addr) (as:List Addr) (H':Hp),H1 l=none->(∀b u,H1 b=some u->H' b=some u)->(∀p∈as,H1 p=none)->H' l=some (.lst (as.map V.ref))->as.length=xs.length->(∀(i:Nat) p x y,as[i]?=some p->xs[i]?=some x->ys[i]?=some y->H' p=some (.tup [x,y]))->Q (.ref l) H'
theorem dg':∀(l:List Addr),ax' (l.map V.ref) (l.map Value.ref)
 | []=>.nil
 |a :: l=>.cons rfl (dg' l)
theorem pp' {a b:Expr} {ta:TA} {p p2 pos pos2:Pos} (hc:X.calm=true) (hg1:Gl X "list") (hm1:X.mg "list"=none) (hg2:Gl X "zip") (hm2:X.mg "zip"=none) (ha:PA X [a,b] ta) (hs:starEach [a,b] X.env=[(false,eval a X.env),(false,eval b X.env)]) (hs2:starEach [b] X.env=[(false,eval b X.env)]):
  PE X (.Call (.Name "list" p) [.Call (.Name "zip" p2) [a,b] [] pos2] [] pos) (sJ' X.K ta):=by
 intro pins s σ H Q I h
 refine wpAny_Call_Name_kw (cz' I hg1 hm1 boot_list ?_)
 refine PyProof.Rows.callWith_type1 ?_
 show wpAny _ _ (spliced [(false,eval (.Call (.Name "zip" p2) [a,b] [] pos2) X.env)]) _ _ s
 refine Calls.spliced_cons ?_
 refine Call_ (cz' I hg2 hm2 boot_zip (PyProof.Rows.callWith_type1 (thn (ha pos2 pins s σ H _ I h) fun us s1 ⟨vs,H1,I1,r1,k,j,l1,l2,xs,ys,e,hxs,hys,hlen,q⟩=>?_) (by rw[hs,hs2]) (by rw[hs2];rfl)))
 subst e
 cases r1 with
 |cons r rr=>
  cases rr with
  |cons r' rr=>
   cases rr
   cases r
   cases r'
   obtain⟨us,rus,ous,hz1⟩:=I1.sq hxs
   obtain⟨ws,rws,ows,hz2⟩:=I1.sq hys
   have e1:=rus.length
   have e2:=rws.length
   refine ng' ous ows fun h' hz hTI hTO h1 h2 hsz hk=>Calls.spliced_nil ?_
   refine dC' (n:=xs.length) (h0:=s1.heap) (s:={ s1 with heap:=h' }) (I.ok.hd hc) (by rw[aj,<- e1]) (by rw[aj,<- e2];exact hlen.symm) hz1 ous ows hz hTI hTO h1 h2 hsz hk fun h'' c' q1 q2 q3=>?_
   have hB:∀b u,H1 b=some u->b<s1.heap.objs.size:=fun b u e=>by
    rcases bc b s1.heap.objs.size with z|z
    .exact z
    .rw[I1.hok.fresh z]at e;cases e
   let B:=s1.heap.objs.size+6
   let as:List Addr:=(aH xs.length).map fun m=>B+m
   let H':Hp:=fun b=>if b=s1.heap.objs.size+5 then some (.lst (as.map V.ref))else if B<=b/\b<B+xs.length then some (.tup [(xs[b-B]?).getD .non,(ys[b-B]?).getD .non])else H1 b
   have old:∀b,b<s1.heap.objs.size->H' b=H1 b:=fun b hb=>by
    show(if b=s1.heap.objs.size+5 then _ else if B<=b/\b<B+xs.length then _ else H1 b)=_
    rw[if_neg (fun z=>?_),if_neg (fun z=>?_)]
    .exact absurd hb (Nat.not_lt.mpr (aS (aJ _ _) z.1))
    .rw[z]at hb;exact absurd hb (Nat.not_lt.mpr (aJ _ _))
   have sub:∀b u,H1 b=some u->H' b=some u:=fun b u e=>by rw[old b (hB b u e)];exact e
   have tupP:∀m,m<xs.length->H' (B+m)=some (.tup [(xs[m]?).getD .non,(ys[m]?).getD .non]):=fun m hm=>by
    show(if B+m=s1.heap.objs.size+5 then _ else if B<=B+m/\B+m<B+xs.length then _ else H1 (B+m))=_
    rw[if_neg (show ¬(s1.heap.objs.size+6)+m=s1.heap.objs.size+5 by omega),if_pos ⟨aJ _ _,Nat.add_lt_add_left hm _⟩,cg]
   have lstP:H' (s1.heap.objs.size+5)=some (.lst (as.map V.ref)):=if_pos rfl
   have hal:as.length=xs.length:=by show((aH xs.length).map _).length=_;rw[ai,bo]
   refine⟨.ref (s1.heap.objs.size+5),H',I1.laidN (t':=s1.toks) q2 sub (fun b e hb=>by rw[old b hb];exact e) fun b u e=>?_,rfl,q _ as H' (I1.hok.fresh (aJ _ _)) sub (fun p hp=>?_) lstP hal fun i p x y hp hx hy=>?_⟩
   .by_cases hb:b<s1.heap.objs.size
    .rw[old b hb]at e;exact .inl e
    .right
     by_cases hl:b=s1.heap.objs.size+5
     .subst hl
      rw[lstP]at e
      cases e
      refine⟨by rw[ai,hal];exact hz1,as.map Value.ref,c',dg' as,?_⟩
      rw[q3]
      congr 3
      show gt' (s1.heap.objs.size+6) xs.length=(List.map Value.ref ((aH xs.length).map fun m=>s1.heap.objs.size+6+m)).toArray
      unfold gt'
      rw[List.map_map]
      rfl
     .by_cases hr:B<=b/\b<B+xs.length
      .obtain⟨m,rfl⟩:∃m,b=B+m:=⟨b-B,(Nat.add_sub_cancel' hr.1).symm⟩
       have hm:m<xs.length:=Nat.lt_of_add_lt_add_left hr.2
       have hmy:m<ys.length:=hlen ▸ hm
       rw[tupP m hm]at e
       cases e
       obtain⟨u,v,eu,ev,hp⟩:=q1 m hm
       obtain⟨u',eu',ru⟩:=rus.get (i:=m) (x:=xs[m]) (ac hm)
       obtain⟨v',ev',rv⟩:=rws.get (i:=m) (x:=ys[m]) (ac hmy)
       have eu2:us[m]?=some u:=by simpa using eu
       have ev2:ws[m]?=some v:=by simpa using ev
       rw[eu2]at eu'
       rw[ev2]at ev'
       cases eu'
       cases ev'
       rw[ac hm,ac hmy]
       exact⟨by show 2<=sizeLine;decide,[u,v],.cons ru (.cons rv .nil),⟨_,hp,rfl,⟨_,rfl⟩,rfl⟩⟩
      .exfalso
       have:H' b=H1 b:=by
        show(if b=s1.heap.objs.size+5 then _ else if B<=b/\b<B+xs.length then _ else H1 b)=_
        rw[if_neg hl,if_neg hr]
       rw[this,I1.hok.fresh (Nat.not_lt.mp hb)]at e
       cases e
   .obtain⟨m,_,rfl⟩:=aP.mp hp
    exact I1.hok.fresh (aS (aJ _ _) (aJ _ _))
   .have hi:i<xs.length:=(av.mp hx).1
    have:as[i]?=some (B+i):=by
     show((aH xs.length).map fun m=>B+m)[i]?=_
     rw[aG,ci hi]
     rfl
    rw[this]at hp
    cases hp
    rw[tupP i hi,hx,hy]
    rfl
end
def Itd (go:Nat->Hp->Prop) (val:Nat->Hp->V->Prop) (stop:Nat->Hp->Prop):It:=
 ⟨go,fun i H v H'=>∃p x,v=.ref p/\H p=none/\val i H x/\H'=upd H p (.tup [.int i,x]),stop⟩
structure EnSrc (P:Program) (w:World) (K:W.Frag) (e it:Addr) (Sx:Nat->Heap->Prop) (go:Nat->Hp->Prop) (val:Nat->Hp->V->Prop) (stop:Nat->Hp->Prop):Prop where
 ne:e≠it
 obj:∀i h,Sx i h->∃o,h.get? it=some o/\∀v,o.data≠.cell v
 keep:∀i h h',Sx i h->(∀o,h.get? it=some o->h'.get? it=some o)->Sx i h'
 item:∀(X:Cx),X.prog=P->X.w=w->X.K=K->X.calm=true->∀(i:Nat) (pins:List (Addr×Obj)) (s:Shared) (σ:St) (H:Hp),Inv X pins σ H s->H e=none->H it=none->e<s.heap.objs.size->(∃old,IsEnum s.heap e it i old)->Sx i s.heap->go i H->
  ∃n Pd Sd fp,Draws P w X.A.in1 it fp n Pd Sd/\e∉fp/\i<n/\Sd i s.heap/\(∀j h,Sd j h->Sx j h)/\∀u,Pd i u->∃x,as' x u/\val i H x
 done:∀(X:Cx),X.prog=P->X.w=w->X.K=K->X.calm=true->∀(i:Nat) (pins:List (Addr×Obj)) (s:Shared) (σ:St) (H:Hp),Inv X pins σ H s->H e=none->H it=none->(∃old,IsEnum s.heap e it i old)->Sx i s.heap->stop i H->
  ∃Pd Sd fp,Draws P w X.A.in1 it fp i Pd Sd/\Sd i s.heap
theorem cI' {P:Program} {w:World} {K:W.Frag} {elts:List Expr} {kt:Nat} {pt:Pos} {e it:Addr} {Sx:Nat->Heap->Prop} {go:Nat->Hp->Prop} {val:Nat->Hp->V->Prop} {stop:Nat->Hp->Prop} (S:EnSrc P w K e it Sx go val stop):
  Turn P w K (.Tuple elts kt pt) (Itd go val stop) [e,it] e (fun i h=>(∃old,IsEnum h e it i old)/\Sx i h) where
 mem:=by simp
 obj:=fun i h st b hb=>by
  obtain⟨⟨old,he⟩,hs⟩:=st
  simp only[aq,aK,or_false]at hb
  rcases hb with rfl|rfl
  .exact⟨_,he,fun v=>(nomatch ·)⟩
  .exact S.obj i h hs
 keep:=fun i h h' st kk=>by
  obtain⟨⟨old,he⟩,hs⟩:=st
  exact⟨⟨old,kk e (by simp) _ he⟩,S.keep i h h' hs fun o q=>kk it (by simp) o q⟩
 item:=by
  intro X hP hw hK hc i pins s σ H E I hf st hg
  have hfe:=hf e (by simp)
  have hfi:=hf it (by simp)
  obtain⟨n,Pd,Sd,fp,D,hefp,hin,hsd,hsub,hval⟩:=S.item X hP hw hK hc i pins s σ H I hfe.1 hfi.1 (az st.1.choose_spec) st.1 st.2 hg
  obtain⟨⟨old,he⟩,hs⟩:=st
  subst hP hw hK
  refine wpAny_pyNext_enum_itemD D he hsd hin S.ne hefp fun u h' tk hPu ho hs' hT hsz hk=>?_
  obtain⟨x,rx,vx⟩:=hval u hPu
  refine⟨_,rfl,wpAny_letOwnedTupleGo_enum (s:={ s with heap:=h',toks:=tk+1 }) ho fun h'' he'' hb=>?_⟩
  have hb':bu e h' h'':=hb
  have elt:e<s.heap.objs.size:=az he
  have neT:s.heap.objs.size≠e:=bq elt
  have hTn:H s.heap.objs.size=none:=I.hok.fresh (ak _)
  have hkk:∀c o,c∉[e,it]->s.heap.get? c=some o->h''.get? c=some o:=fun c o hc q=>by
   simp only[aq,aK,or_false,not_or]at hc
   exact(hb'.2 c hc.1).trans (hk c o hc.1 hc.2 q)
  have trk:∀c o,H c=some o->c∉[e,it]:=fun c o q hc=>by rw[(hf c hc).1]at q;cases q
  have I1:Inv X pins σ (upd H s.heap.objs.size (.tup [.int i,x])) { s with heap:=h'',toks:=tk+1 }:=by
   refine I.step (g':=s.gens) (d':=s.drawn) (t':=tk+1) (ch:=[e,it]) (fun c hc=>?_) (fun c o _ _ hc q _=>hkk c o hc q) (fun c o _ _ hc q _=>⟨o.slots,hkk c o hc q⟩)
    (fun c o _ q n=>by rw[ac' (aB (az q))];exact n) (fun c o hc q=>⟨o,hkk c o hc q⟩) (fun c ps q=>by rw[ac' (ae' q hTn)];exact q) (fun c o p q=>by rw[ac' (ae' q hTn)];exact q)
    (fun c ps q=>⟨#[],by rw[ac' (ae' q hTn),q];simp⟩) (fun m hm=>?_) (fun c o q=>?_) I.bare
   .obtain⟨f0,f1,f2,f3,f4,f5⟩:=hf c hc
    exact⟨f3,f1,f4,f5⟩
   .obtain⟨oo,es,ep,ho,r⟩:=hm
    exact⟨oo,es,ep,hkk _ oo (fun hc=>(hf _ hc).2.1 rfl) ho,r⟩
   .by_cases hb:c=s.heap.objs.size
    .subst hb
     rw[aa']at q;cases q
     exact⟨by show 2<=sizeLine;decide,[.int i tk,u],.cons ⟨_,rfl⟩ (.cons rx .nil),⟨_,(hb'.2 _ neT).trans hT,rfl,⟨_,rfl⟩,rfl⟩⟩
    .rw[ac' hb]at q
     refine(I.hok c o q).stay (fun d q hd eq=>hkk d q ?_ eq) (fun d q=>by rw[ac' (ae' q hTn)];exact q) fun d qs q=>by rw[ac' (ae' q hTn)];exact q
     rcases hd with rfl|hd
     .exact trk _ _ (by assumption)
     .exact trk _ _ hd
  refine⟨.ref s.heap.objs.size,_,I1,rfl,⟨s.heap.objs.size,x,rfl,hTn,vx,rfl⟩,⟨⟨_,he''⟩,S.keep _ _ _ (hsub _ _ hs') fun o q=>(hb'.2 it (Ne.symm S.ne)).trans q⟩,fun c hc=>?_⟩
  rw[ac']
  .exact(hf c hc).1
  .intro q
   subst q
   simp only[aq,aK,or_false]at hc
   rcases hc with q|q
   .exact neT q
   .obtain⟨o,e1,_⟩:=S.obj _ _ hs
    exact bn _ (q ▸ az e1)
 done:=by
  intro X hP hw hK hc i pins s σ H E I hf st hg
  have hfe:=hf e (by simp)
  have hfi:=hf it (by simp)
  obtain⟨Pd,Sd,fp,D,hsd⟩:=S.done X hP hw hK hc i pins s σ H I hfe.1 hfi.1 st.1 st.2 hg
  obtain⟨⟨old,he⟩,hs⟩:=st
  subst hP hw hK
  refine wpAny_pyNext_enum_endD D he hsd fun h' hx=>⟨rfl,?_⟩
  obtain⟨f0,f1,f2,f3,f4,f5⟩:=hfi
  exact I.turned (t':=s.toks) (fun b o hb q=>hx b o hb q) f0 f1 f3 f4 f5
 self:=fun _ _ _ _ _ st h=>by
  obtain⟨⟨old,he⟩,_⟩:=st
  exact wpAny_pyIter_enum he h
def Ite (K:W.Frag) (a:Addr):It:=Itd (fun i H=>∃xs x,SqL K H a xs/\xs[i]?=some x) (fun i H x=>∀xs,SqL K H a xs->xs[i]?=some x) (fun i H=>∃xs,SqL K H a xs/\xs.length=i)
theorem nj' {P:Program} {w:World} {K:W.Frag} {e it a:Addr} (ne:e≠it) (na:a≠e) (nai:a≠it):EnSrc P w K e it (fun i h=>h.IsListIter it a i) (fun i H=>∃xs x,SqL K H a xs/\xs[i]?=some x) (fun i H x=>∀xs,SqL K H a xs->xs[i]?=some x) (fun i H=>∃xs,SqL K H a xs/\xs.length=i) where
 ne:=ne
 obj:=fun i h st=>by
  obtain⟨o,q,c,d⟩:=st
  exact⟨o,q,fun v z=>by rw[d]at z;cases z⟩
 keep:=fun i h h' st k=>st.at k
 item:=by
  intro X hP hw hK hc i pins s σ H I _ _ _ _ st hg
  obtain⟨xs,x,hxs,hx⟩:=hg
  subst hP hw hK
  obtain⟨its,rv,p,hz⟩:=I.list hxs
  have hl:=rv.length
  obtain⟨u,hu,ru⟩:=rv.get hx
  refine⟨_,_,_,_,Draws.list (show X.A.in1.handled=none from I.ok.hd hc) it a nai its.toArray,?_,?_,⟨st,p.isList⟩,fun j h q=>q.1,fun u' hu'=>⟨x,?_,fun ys hys=>by rw[I.list_inj hys hxs];exact hx⟩⟩
  .simp only[aq,aK,or_false,not_or]
   exact⟨ne,Ne.symm na⟩
  .have:=(av.mp hx).1
   simp;omega
  .have e2:its[i]?=some u':=by simpa using hu'
   rw[hu]at e2
   cases e2
   exact ru
 done:=by
  intro X hP hw hK hc i pins s σ H I _ _ _ st hg
  obtain⟨xs,hxs,hx⟩:=hg
  subst hP hw hK
  obtain⟨its,rv,p,hz⟩:=I.list hxs
  have hl:=rv.length
  have e:i=its.toArray.size:=by simp;omega
  subst e
  exact⟨_,_,_,Draws.list (show X.A.in1.handled=none from I.ok.hd hc) it a nai its.toArray,st,p.isList⟩
def r2' (z:Str):It:=Itd (fun i _=>i<z.cps.size) (fun i _ v=>∃c,z.cps[i]?=some c/\v=.str ⟨#[c]⟩) (fun i _=>z.cps.size=i)
theorem pq' {P:Program} {w:World} {K:W.Frag} {e it:Addr} {z:Str} {t:Tok} {ty:String} (hty:ty="str_ascii_iterator"\/ty="str_iterator") (ne:e≠it):EnSrc P w K e it (fun i h=>h.IsStrIter it ty z t i) (fun i _=>i<z.cps.size) (fun i _ v=>∃c,z.cps[i]?=some c/\v=.str ⟨#[c]⟩) (fun i _=>z.cps.size=i) where
 ne:=ne
 obj:=fun i h st=>by
  obtain⟨o,q,c,d⟩:=st
  exact⟨o,q,fun v z=>by rw[d]at z;cases z⟩
 keep:=fun i h h' st k=>by
  obtain⟨o,q,r⟩:=st
  exact⟨o,k o q,r⟩
 item:=by
  intro X hP hw hK hc i pins s σ H I _ _ _ _ st hg
  subst hP hw hK
  have hh:X.A.in1.handled=none:=I.ok.hd hc
  rcases hty with rfl|rfl
  .refine⟨_,_,_,_,Draws.strAscii hh it z t,by simpa using ne,hg,st,fun j h q=>q,fun u hu=>?_⟩
   obtain⟨c,t',hc',rfl⟩:=hu
   exact⟨.str ⟨#[c]⟩,⟨_,rfl⟩,c,hc',rfl⟩
  .refine⟨_,_,_,_,Draws.strWide hh it z t,by simpa using ne,hg,st,fun j h q=>q,fun u hu=>?_⟩
   obtain⟨c,t',hc',rfl⟩:=hu
   exact⟨.str ⟨#[c]⟩,⟨_,rfl⟩,c,hc',rfl⟩
 done:=by
  intro X hP hw hK hc i pins s σ H I _ _ _ st hg
  subst hP hw hK
  have hh:X.A.in1.handled=none:=I.ok.hd hc
  have hg':z.cps.size=i:=hg
  subst hg'
  rcases hty with rfl|rfl
  .exact⟨_,_,_,Draws.strAscii hh it z t,st⟩
  .exact⟨_,_,_,Draws.strWide hh it z t,st⟩
theorem ec' {prog:Program} {w:World} {A:Around} (hh:A.handled=none) (it l:Addr) (hne:l≠it) (items:Array Value):
  Draws prog w A it [it,l] items.size (fun i v=>items[i]?=some v) (fun i h=>bG' true h it l i/\cp' true h l items) where
 live:=fun _ _ st=>let⟨o,ho,_⟩:=st.1.obj;⟨o,ho⟩
 frame:=fun _ _ _ st hk=>⟨st.1.at fun o e=>hk it (by simp) o e,st.2.at fun o e=>hk l (by simp) o e⟩
 item:=fun i s Q E hi st hQ=>by
  refine aV' st.1 st.2 (x:=items[i]) (by simp[hi]) fun h' hit' hs'=>?_
  exact hQ _ h' s.toks (by simp[hi]) ⟨hit',st.2.at fun o e=>hs'.extBut l o hne e⟩ hs'
 done:=fun s Q E st hE=>bH' hh st.1 st.2 (by simp) hE
set_option tactic.hygienic true in
open AutoSeq1 (wpAny_loadPart') in
theorem bN' (l:Addr) (items:Array Value) (n:Nat) (dct:Option Addr) (sl:Array (Option Value)):
  Meets (Builtin.«enumerate.__new__» ⟨[.type "enumerate",.ref l],[]⟩) (fun _ R s=>s.heap.get? l=some { cls:=.type "tuple",dict:=dct,data:=.seq items n,slots:=sl }/\
   R (.ok (.ret (.ref (s.heap.push { cls:=.type "tuple_iterator",data:=.fields #[.ref l,.int 0 0] }).objs.size)))
    { s with heap:=(s.heap.push { cls:=.type "tuple_iterator",data:=.fields #[.ref l,.int 0 0] }).push { cls:=.type "enumerate",data:=.fields #[.none,.bool false,.ref s.heap.objs.size,rawInt 0,.none,.none] } }):=
 .of_wp fun prog w A R s h=>by
  obtain⟨hp,g,d,tk,os⟩:=s;obtain⟨hl,h⟩:=h
  have hsub:=sub_enumerate
  have hL:Heap.IsTuple (Shared.heap ⟨hp,g,d,tk,os⟩) l items:=⟨_,hl,rfl,n,rfl⟩
  wp_walk using wpAny_loadPart' hl
  refine wpAny_stack_any fun st=>af ?_
  split
  .rename_i c _ _ _ _ _
   cases(c == Value.type "enumerate")
   .wp_walk using wpAny_loadPart' hl,bw hL
    exact⟨_,rfl,h⟩
   .wp_walk using wpAny_loadPart' hl,bw hL
    exact⟨_,rfl,h⟩
  .wp_walk using wpAny_loadPart' hl,bw hL
   exact⟨_,rfl,h⟩
theorem bO' {prog:Program} {w:World} {A:Around} {E:Value->Shared->Prop} {s:Shared} {l:Addr} {items:Array Value} {Q:Value->Shared->Prop} (hL:s.heap.IsTuple l items)
  (h:∀h',IsEnum h' (s.heap.objs.size+1) s.heap.objs.size 0 .none->bG' true h' s.heap.objs.size l 0->h'.objs.size=s.heap.objs.size+2->
   (∀b o,s.heap.get? b=some o->h'.get? b=some o)->Q (.ref (s.heap.objs.size+1)) { s with heap:=h' }):
  wpAny (model prog w) A (call (.type "enumerate") [.ref l]) Q E s:=by
 obtain⟨⟨c,dct,dt,sl⟩,hl,hc,n,hd⟩:=hL
 replace hc:c=.type "tuple":=hc
 replace hd:dt=.seq items n:=hd
 subst hc hd
 refine callType_new F.called_enumerate (by decide) (F.typeCall_enumerate_1 _) (F.newCall_enumerate_1 _) (fun obj=>F.args_object_init_2 obj _) F.entry_enumerate_new
  (bN' l items n dct sl) ⟨hl,?_⟩
 have hz:(s.heap.push { cls:=.type "tuple_iterator",data:=.fields #[.ref l,.int 0 0] }).objs.size=s.heap.objs.size+1:=bg ..
 show _/\_
 rw[hz]
 have he:IsEnum ((s.heap.push { cls:=.type "tuple_iterator",data:=.fields #[.ref l,.int 0 0] }).push
   { cls:=.type "enumerate",data:=.fields #[.none,.bool false,.ref s.heap.objs.size,rawInt 0,.none,.none] }) (s.heap.objs.size+1) s.heap.objs.size 0 .none:=by
  have:=aw (s.heap.push { cls:=.type "tuple_iterator",data:=.fields #[.ref l,.int 0 0] })
   (o:={ cls:=.type "enumerate",data:=.fields #[.none,.bool false,.ref s.heap.objs.size,rawInt 0,.none,.none] }) rfl
  rw[hz]at this;exact this
 refine⟨⟨_,he,rfl⟩,h _ he ⟨_,ae _ (aw _ rfl),rfl,rfl⟩ (by rw[bg,hz]) fun b o x=>ae _ (ae _ x)⟩
def r3' (K:W.Frag) (a:Addr):It:=Itd (fun i H=>∃xs x,SqT K H a xs/\xs[i]?=some x) (fun i H x=>∀xs,SqT K H a xs->xs[i]?=some x) (fun i H=>∃xs,SqT K H a xs/\xs.length=i)
theorem pt' {P:Program} {w:World} {K:W.Frag} {e it a:Addr} (ne:e≠it) (na:a≠e) (nai:a≠it):EnSrc P w K e it (fun i h=>bG' true h it a i) (fun i H=>∃xs x,SqT K H a xs/\xs[i]?=some x) (fun i H x=>∀xs,SqT K H a xs->xs[i]?=some x) (fun i H=>∃xs,SqT K H a xs/\xs.length=i) where
 ne:=ne
 obj:=fun i h st=>by
  obtain⟨o,q,d⟩:=st.obj
  exact⟨o,q,fun v z=>by rw[d]at z;cases z⟩
 keep:=fun i h h' st k=>st.at k
 item:=by
  intro X hP hw hK hc i pins s σ H I _ _ _ _ st hg
  obtain⟨xs,x,hxs,hx⟩:=hg
  subst hP hw hK
  obtain⟨its,rv,p,hz⟩:=I.tuple hxs
  have hl:=rv.length
  obtain⟨u,hu,ru⟩:=rv.get hx
  refine⟨_,_,_,_,ec' (show X.A.in1.handled=none from I.ok.hd hc) it a nai its.toArray,?_,?_,⟨st,p⟩,fun j h q=>q.1,fun u' hu'=>⟨x,?_,fun ys hys=>by rw[I.tuple_inj hys hxs];exact hx⟩⟩
  .simp only[aq,aK,or_false,not_or]
   exact⟨ne,Ne.symm na⟩
  .have:=(av.mp hx).1
   simp;omega
  .have e2:its[i]?=some u':=by simpa using hu'
   rw[hu]at e2
   cases e2
   exact ru
 done:=by
  intro X hP hw hK hc i pins s σ H I _ _ _ st hg
  obtain⟨xs,hxs,hx⟩:=hg
  subst hP hw hK
  obtain⟨its,rv,p,hz⟩:=I.tuple hxs
  have hl:=rv.length
  have e:i=its.toArray.size:=by simp;omega
  subst e
  exact⟨_,_,_,ec' (show X.A.in1.handled=none from I.ok.hd hc) it a nai its.toArray,st,p⟩
section
variable {X:Cx}
def nk' (K:W.Frag) (tl:TE):TI:=fun σ H R=>be' tl fg' σ H fun vs H1=>∃x,vs=[x]/\
 ((∃a,x=.ref a/\(∃xs,SqL K H1 a xs)/\R (Ite K a) H1)\/(∃z,x=.str z/\R (r2' z) H1)\/∃a,x=.ref a/\(∃xs,SqT K H1 a xs)/\R (r3' K a) H1)
theorem c5':bootBuiltins "enumerate"=some (.type "enumerate"):=by decide +kernel
theorem nl' {a:Expr} {tl:TE} {p pos:Pos} {elts:List Expr} {kt:Nat} {pt:Pos} (hg:Gl X "enumerate") (hm:X.mg "enumerate"=none) (ha:PA X [a] (be' tl fg')) (hs:starEach [a] X.env=[(false,eval a X.env)]):
  PI X (.Tuple elts kt pt) (.Call (.Name "enumerate" p) [a] [] pos) (nk' X.K tl):=by
 intro pins s σ H R I h
 have h':be' tl fg' σ H (fun vs H1=>∃x,vs=[x]/\((∃a,x=.ref a/\(∃xs,SqL X.K H1 a xs)/\R (Ite X.K a) H1)\/(∃z,x=.str z/\R (r2' z) H1)\/∃a,x=.ref a/\(∃xs,SqT X.K H1 a xs)/\R (r3' X.K a) H1)):=h
 refine Call_ (cz' I hg hm c5' (PyProof.Rows.callWith_type1 (thn (ha pos pins s σ H _ I h') fun us s1 ⟨vs,H1,I1,r1,q1⟩=>?_) (by rw[hs];rfl) (by rfl)))
 obtain⟨x,e,q1⟩:=q1
 subst e
 cases r1 with
 |cons r rr=>
  cases rr
  rcases q1 with⟨a,rfl,⟨xs,hxs⟩,q⟩|⟨z,rfl,q⟩|⟨a,rfl,⟨xs,hxs⟩,q⟩
  .cases r
   obtain⟨its,rv,pl,hz⟩:=I1.list hxs
   refine call_enumerate_list pl.isList fun h' he hit hsz hk=>wpAny_pyIter_enum he ?_
   have la:a<s1.heap.objs.size:=by
    obtain⟨o,q,_⟩:=pl.isList
    exact az q
   refine⟨s1.heap.objs.size+1,[s1.heap.objs.size+1,s1.heap.objs.size],_,_,H1,rfl,I1.kept (t':=s1.toks) hk,cI' (nj' (Nat.succ_ne_self _) (aB (Nat.lt_succ_of_lt la)) (aB la)),⟨⟨_,he⟩,hit⟩,fun c hc=>?_,q⟩
   have hle:s1.heap.objs.size<=c:=by
    simp only[aq,aK,or_false]at hc
    rcases hc with rfl|rfl<;>omega
   exact I1.fpOk hle (I1.hok.fresh hle)
  .obtain⟨t,rfl⟩:=r
   refine call_enumerate_str fun h' he hit hsz hk=>wpAny_pyIter_enum he ?_
   have hty:strIterType z="str_ascii_iterator"\/strIterType z="str_iterator":=by
    unfold strIterType
    split
    .exact .inl rfl
    .exact .inr rfl
   refine⟨s1.heap.objs.size+1,[s1.heap.objs.size+1,s1.heap.objs.size],_,_,H1,rfl,I1.kept (t':=s1.toks) hk,cI' (pq' hty (Nat.succ_ne_self _)),⟨⟨_,he⟩,hit⟩,fun c hc=>?_,q⟩
   have hle:s1.heap.objs.size<=c:=by
    simp only[aq,aK,or_false]at hc
    rcases hc with rfl|rfl<;>omega
   exact I1.fpOk hle (I1.hok.fresh hle)
  .cases r
   obtain⟨its,rv,pl,hz⟩:=I1.tuple hxs
   refine bO' (show s1.heap.IsTuple a its.toArray from pl) fun h' he hit hsz hk=>wpAny_pyIter_enum he ?_
   have la:a<s1.heap.objs.size:=by
    obtain⟨o,q,_⟩:=pl
    exact az q
   refine⟨s1.heap.objs.size+1,[s1.heap.objs.size+1,s1.heap.objs.size],_,_,H1,rfl,I1.kept (t':=s1.toks) hk,cI' (pt' (Nat.succ_ne_self _) (aB (Nat.lt_succ_of_lt la)) (aB la)),⟨⟨_,he⟩,hit⟩,fun c hc=>?_,q⟩
   have hle:s1.heap.objs.size<=c:=by
    simp only[aq,aK,or_false]at hc
    rcases hc with rfl|rfl<;>omega
   exact I1.fpOk hle (I1.hok.fresh hle)
end
section
variable {X:Cx}
theorem dD':aN' X (.type "int") (fun xs H Q=>∃x n,xs=[.str x]/\PySem.intText? x=some n/\x.length<=640/\Q (.int n) H):=by
 intro pins s σ H xs us Q I r h
 obtain⟨x,n,rfl,hn,hl,q⟩:=h
 obtain⟨u,rfl,t,rfl⟩:=c3' r
 exact W.KIN.call_text hn hl ⟨.int n,H,I.tok _,⟨_,rfl⟩,q⟩
def t0':List V->Hp->VK->Prop:=fun xs H Q=>((∃i,xs=[.int i]/\Q (.int i) H)\/∃k,xs=[.bl k]/\Q (.int (if k then 1 else 0)) H)\/∃x n,xs=[.str x]/\PySem.intText? x=some n/\x.length<=640/\Q (.int n) H
theorem hK':aN' X (.type "int") t0':=g8'.or dD'
def sK':R2:=fun x y H Q=>∃a n,x=.str a/\y=.int n/\-1000000<=n/\n<=1000000/\a.length*n.toNat<=1000000/\Q (.str (Txt.mul a n)) H
theorem gw':OpR X (binaryOp .Mult) sK':=by
 intro pins s σ H x y v u Q I rx ry h
 obtain⟨a,n,rfl,rfl,h1,h2,h3,q⟩:=h
 obtain⟨t,rfl⟩:=rx
 obtain⟨t',rfl⟩:=ry
 refine SB.mul ⟨?_,fun hn hc=>?_,fun hn hc=>?_⟩ fun t' k=>⟨.str (Txt.mul a n),H,I.tok _,⟨_,rfl⟩,q⟩
 .have e1:¬n < -(2 ^ 63:Int):=by omega
  have e2:¬n ≥ 2 ^ 63:=by omega
  simp[e1,e2]
  omega
 .have hn0:0<n:=by omega
  intro hgt
  have h4:(a.length:Int)*n<=1000000:=by
   have:((a.length*n.toNat:Nat):Int)<=1000000:=by omega
   rw[Int.natCast_mul,Int.toNat_of_nonneg (by omega)]at this
   exact this
  have h5:=(Int.ediv_lt_iff_lt_mul hn0).mp hgt
  omega
 .have e:Builtin.Str.tooLong (a.length*n.toNat)=false:=by
   unfold Builtin.Str.tooLong
   have:sizeLine=16777216:=sizeLine_eq
   simp
   omega
  exact e
def pu' (K:W.Frag):V->List V->Hp->VK->Prop:=fun x xs H Q=>∃(sep:Str) (p:Addr) (ys:List Str),x=.str sep/\xs=[.ref p]/\(SqL K H p (ys.map V.str)\/SqT K H p (ys.map V.str))/\(ys.map (·.length)).sum+ys.length*sep.length<=16777216/\Q (.str (Txt.join sep ys)) H
theorem ce':∀{ys:List Str} {us:List Value},ax' (ys.map V.str) us->StrsAre us ys
 | [],us,h=>by
  have e:=h.zero
  subst e
  exact .nil
 |y :: ys,_,.cons r t=>by
  obtain⟨k,rfl⟩:=r
  exact .cons y k (ce' t)
theorem nm':MtR X "str.join" (pu' X.K):=by
 intro pins s σ H x xs v us Q I rx rv h
 obtain⟨sep,p,ys,rfl,rfl,hs,hz,q⟩:=h
 obtain⟨t,rfl⟩:=rx
 obtain⟨u,rfl,ru⟩:=rv.one
 cases ru
 rcases hs with hs|hs
 .obtain⟨its,r,pl,_⟩:=I.list hs
  exact join_list pl.isList (ce' r) hz fun t' k=>⟨.str _,H,I.tok _,⟨_,rfl⟩,q⟩
 .obtain⟨its,r,pl,_⟩:=I.tuple hs
  exact join_tuple pl (ce' r) hz fun t' k=>⟨.str _,H,I.tok _,⟨_,rfl⟩,q⟩
def uK':V->Option Int->Option Int->Hp->VK->Prop:=fun x lo hi H Q=>∃a,x=.str a/\a.length<=sizeLine/\Q (.str (Txt.slice a lo hi)) H
theorem pv':SlR X uK':=by
 intro pins s σ H x v vl vu lo hi sl Q I rx hs pl pu h
 obtain⟨a,rfl,hz,q⟩:=h
 obtain⟨t,rfl⟩:=rx
 have fin:∀(l u:Option (Int×Tok)),l.map (·.1)=lo->u.map (·.1)=hi->s.heap.IsSlice sl l u none->wpAny (model X.prog X.w) X.A (getItem (.str a t) (.ref sl)) (EP X pins σ Q) X.xe s:=by
  intro l u e1 e2 hsl
  refine wpAny_getItem_str_slice (l:=l) (u:=u) (st:=none) hsl rfl ?_
  refine post_val_or_str ?_
  subst e1 e2
  exact⟨aS (Txt.slice_le a _ _) hz,fun t' k=>⟨.str _,H,I.tok _,⟨_,rfl⟩,q⟩⟩
 refine⟨"str",_,F.slot_str_getitem.lookup,typeIs_str _ _ _,?_⟩
 cases pl with
 |none=>
  cases pu with
  |none=>exact fin none none rfl rfl hs
  |int j u=>exact fin none (some (j,u)) rfl rfl hs
 |int i t1=>
  cases pu with
  |none=>exact fin (some (i,t1)) none rfl rfl hs
  |int j u=>exact fin (some (i,t1)) (some (j,u)) rfl rfl hs
def pw' (K:W.Frag) (mx:Bool):List V->Hp->VK->Prop:=fun xs H Q=>∃(p:Addr) (ns:List Int),xs=[.ref p]/\SqL K H p (ns.map V.int)/\ns≠[]/\∀M,M∈ns->(∀a∈ns,if mx then a<=M else M<=a)->Q (.int M) H
theorem hL' (hc:X.calm=true):aN' X (.builtin "min") (pw' X.K false):=by
 intro pins s σ H xs us Q I r h
 obtain⟨p,ns,rfl,hs,hne,q⟩:=h
 obtain⟨u,rfl,ru⟩:=c3' r
 cases ru
 obtain⟨its,rv,pl,hz⟩:=I.list hs
 have hi:=go' rv
 obtain⟨xs,e⟩:=hi.allInts.items
 have hns:ns=xs.toList.map (·.1):=by
  rw[<- hi.numsOf,<- nums_intItems,<- e]
 have hsz:0<xs.size:=by
  have h3:=List.length_pos_iff.mpr hne
  rw[hns,ai,au]at h3
  exact h3
 have hl:=pl.isList
 rw[e]at hl
 refine min_intList (I.ok.hd hc) hl hsz fun v h' tk hv hk=>?_
 obtain⟨t,rfl⟩:=intItems_at hv
 obtain⟨h1,h2⟩:=argBest_lt (numAt xs) (xs.size-1)
 refine⟨.int _,H,I.kept hk,⟨t,rfl⟩,q _ ?_ fun a ha=>?_⟩
 .rw[hns,numAt_eq];exact getD_mem (by rw[ai,au];omega)
 .rw[hns]at ha
  obtain⟨j,hj,rfl⟩:=mem_getD ha
  rw[ai,au]at hj
  rw[if_neg (by decide),<- numAt_eq];exact h2 j (by omega)
end
section
variable {X:Cx}
def hP':V->List V->Hp->VK->Prop:=fun x vs H Q=>∃l xs y,∃i:Nat,x=.ref l/\vs=[.int i,y]/\H l=some (.lst xs)/\xs.length<sizeLine/\i<=xs.length/\Q .non (upd H l (.lst (xs.take i++y :: xs.drop i)))
set_option tactic.hygienic true in
theorem hQ':MtM X "list.insert" hP':=by
 intro pins s σ H x vs v us Q I rx rv h
 obtain⟨l,xs,y,i,rfl,rfl,hH,hz,hi,q⟩:=h
 cases rx
 cases rv with
 |cons r1 rv=>
  cases rv with
  |cons r2 rv=>
   cases rv
   obtain⟨t,rfl⟩:=r1
   rename_i u
   obtain⟨z,its,n,r,hl,e⟩:=I.lstM hH
   have hb:i<2 ^ 62:=Nat.lt_of_le_of_lt hi (Nat.lt_of_le_of_lt z (show 2 ^ 24<2 ^ 62 from Nat.pow_lt_pow_right (by decide) (by decide)))
   have hfit:¬(!Builtin.List.listFitsIndex (i:Int))=true:=by
    unfold Builtin.List.listFitsIndex
    simp
    omega
   have hsz:its.toArray.size<=sizeLine:=by rw[aj];exact hl ▸ z
   generalize hj:(i:Int)=j at hfit
   have M:=AutoListH.list_insert_list_int_val_1 l its.toArray n j t u hfit hsz
   refine call_meets F.slot_list_insert ⟨_,e,rfl⟩ F.entry_list_insert (F.args_list_insert_3 _ _ _) M ⟨e,?_⟩
   subst hj
   refine⟨.non,_,I.lset (its':=its.take i++u :: its.drop i) hH e ?_ ((r.take i).append (.cons r2 (r.drop i))) ?_,rfl,q⟩
   .have hn:¬((i:Int)<0):=by omega
    simp only[hn,if_false,bA,aj]
    rw[Nat.min_eq_left (by omega)]
    simp
    exact cm (by simp)
   .simp
    omega
open PySem.SeqAt in
theorem cf' {A:Around} {s:Shared} {x y:V} {u v:Value} (rx:as' x u) (ry:as' y v) (h:lh' x y=true/\(∀b,x≠.byt b)\/x=y/\∃a,x=.ref a):EqAt A s u v (decide (x=y)):=by
 rcases h with⟨h,hb⟩|⟨rfl,a,rfl⟩
 .cases x with
  |non=>cases y with
   |non=>cases rx;cases ry;exact EqAt.same _
   |bl b=>cases rx;cases ry;exact EqAt.none_bool _
   |int b=>cases rx;obtain⟨t,rfl⟩:=ry;exact EqAt.none_int _ _
   |str b=>cases rx;obtain⟨t,rfl⟩:=ry;exact EqAt.none_str _ _
   |_=>cases h
  |bl a=>cases y with
   |non=>cases rx;cases ry;exact EqAt.bool_none _
   |bl b=>cases rx;cases ry;have:=EqAt.bool_bool (A:=A) (s:=s) a b;cases a<;>cases b<;>exact this
   |str b=>cases rx;obtain⟨t,rfl⟩:=ry;exact EqAt.bool_str _ _ _
   |_=>cases h
  |int a=>cases y with
   |non=>obtain⟨t,rfl⟩:=rx;cases ry;exact EqAt.int_none _ _
   |int b=>obtain⟨t,rfl⟩:=rx;obtain⟨t',rfl⟩:=ry;rw[eN'];exact EqAt.int_int _ _ _ _
   |str b=>obtain⟨t,rfl⟩:=rx;obtain⟨t',rfl⟩:=ry;exact EqAt.int_str _ _ _ _
   |_=>cases h
  |str a=>cases y with
   |non=>obtain⟨t,rfl⟩:=rx;cases ry;exact EqAt.str_none _ _
   |bl b=>obtain⟨t,rfl⟩:=rx;cases ry;exact EqAt.str_bool _ _ _
   |int b=>obtain⟨t,rfl⟩:=rx;obtain⟨t',rfl⟩:=ry;exact EqAt.str_int _ _ _ _
   |str b=>
    obtain⟨t,rfl⟩:=rx
    obtain⟨t',rfl⟩:=ry
    have e:decide (V.str a=V.str b)=(a == b):=by
     by_cases hab:a=b
     .subst hab;simp
     .rw[decide_eq_false (by intro z;cases z;exact hab rfl)];simp[hab]
    rw[e]
    exact EqAt.str_str _ _ _ _
   |_=>cases h
  |byt b=>exact absurd rfl (hb b)
  |_=>cases y<;>cases h
 .cases rx
  cases ry
  rw[decide_eq_true rfl]
  exact EqAt.same _
def LEq (xs ys:List V):Prop:=∀(i:Nat) x y,xs[i]?=some x->ys[i]?=some y->lh' x y=true/\(∀b,x≠.byt b)\/x=y/\∃a,x=.ref a
def r4' (K:W.Frag) (neg:Bool):V->V->Hp->VK->Prop:=fun x y H Q=>∃p q xs ys,x=.ref p/\y=.ref q/\SqL K H p xs/\SqL K H q ys/\(xs.length=ys.length->LEq xs ys)/\Q (.bl (if neg then !decide (xs=ys)else decide (xs=ys))) H
theorem hR' {xs ys:List V} (h:xs.length=ys.length):(aH xs.length).all (fun i=>decide (xs[i]?=ys[i]?))=decide (xs=ys):=by
 by_cases e:xs=ys
 .subst e
  simp
 .rw[decide_eq_false e,Bool.eq_false_iff]
  intro q
  rw[List.all_eq_true]at q
  apply e
  apply bZ
  intro i
  rcases bc i xs.length with hi|hi
  .exact of_decide_eq_true (q i (aT.mpr hi))
  .rw[bF.mpr hi,bF.mpr (by omega)]
open PySem.SeqAt in
theorem px' (hu:X.A.units<cLine):OpR X (compareOp .Eq) (r4' X.K false):=by
 intro pins s σ H x y v u Q I rx ry h
 obtain⟨p,q,xs,ys,rfl,rfl,hp,hq,he,k⟩:=h
 cases rx
 cases ry
 obtain⟨its,r1,pl1,_⟩:=I.list hp
 obtain⟨its2,r2,pl2,_⟩:=I.list hq
 have l1:=r1.length
 have l2:=r2.length
 by_cases hl:xs.length=ys.length
 .refine eq_listAt (e:=fun i=>decide (xs[i]?=ys[i]?)) pl1.isList pl2.isList (by simp;omega) hu (fun j h1 h2=>?_) ?_
  .have j1:j<xs.length:=by simp at h1;omega
   have j2:j<ys.length:=by omega
   have g1:xs[j]?=some xs[j]:=ac j1
   have g2:ys[j]?=some ys[j]:=ac j2
   obtain⟨u1,e1,ru1⟩:=r1.get g1
   obtain⟨u2,e2,ru2⟩:=r2.get g2
   have f1:its.toArray[j]=u1:=by simp at h1 ⊢;rw[ac h1]at e1;exact Option.some.inj e1
   have f2:its2.toArray[j]=u2:=by simp at h2 ⊢;rw[ac h2]at e2;exact Option.some.inj e2
   rw[f1,f2,g1,g2]
   have e3:decide (some xs[j]=some ys[j])=decide (xs[j]=ys[j]):=by simp
   rw[e3]
   exact cf' ru1 ru2 (he hl j _ _ g1 g2)
  .have e4:(aH its.toArray.size).all (fun i=>decide (xs[i]?=ys[i]?))=decide (xs=ys):=by
    rw[aj,<- l1];exact hR' hl
   rw[e4]
   exact⟨.bl _,H,I,rfl,k⟩
 .refine eq_list_lengthsAt pl1.isList pl2.isList (by simp;omega) hu ?_
  rw[decide_eq_false (fun z=>hl (by rw[z]))]at k
  exact⟨.bl false,H,I,rfl,k⟩
open PySem.SeqAt in
theorem py' (hu:X.A.units<cLine):OpR X (compareOp .NotEq) (r4' X.K true):=by
 intro pins s σ H x y v u Q I rx ry h
 obtain⟨p,q,xs,ys,rfl,rfl,hp,hq,he,k⟩:=h
 cases rx
 cases ry
 obtain⟨its,r1,pl1,_⟩:=I.list hp
 obtain⟨its2,r2,pl2,_⟩:=I.list hq
 have l1:=r1.length
 have l2:=r2.length
 obtain⟨⟨cls,dd,data,sl⟩,ho,hc,n,hd⟩:=pl1.isList
 obtain⟨⟨cls2,dd2,data2,sl2⟩,ho2,hc2,n2,hd2⟩:=pl2.isList
 simp only at hc hd hc2 hd2
 subst hc hd hc2 hd2
 by_cases hl:xs.length=ys.length
 .refine richCompare_meets_room (op:=.NotEq) ⟨_,ho,rfl⟩ ⟨_,ho2,rfl⟩ F.slot_list_ne F.entry_list_ne (F.args_list_ne_2 _ _) (list_neAt p q its.toArray its2.toArray n n2 dd dd2 sl sl2 (by simp;omega) (fun i=>decide (xs[i]?=ys[i]?))) ⟨ho,ho2,fun j h1 h2=>?_,?_⟩ hu
  .have j1:j<xs.length:=by simp at h1;omega
   have j2:j<ys.length:=by omega
   have g1:xs[j]?=some xs[j]:=ac j1
   have g2:ys[j]?=some ys[j]:=ac j2
   obtain⟨u1,e1,ru1⟩:=r1.get g1
   obtain⟨u2,e2,ru2⟩:=r2.get g2
   have f1:its.toArray[j]=u1:=by simp at h1 ⊢;rw[ac h1]at e1;exact Option.some.inj e1
   have f2:its2.toArray[j]=u2:=by simp at h2 ⊢;rw[ac h2]at e2;exact Option.some.inj e2
   rw[f1,f2,g1,g2]
   have e3:decide (some xs[j]=some ys[j])=decide (xs[j]=ys[j]):=by simp
   rw[e3]
   exact cf' ru1 ru2 (he hl j _ _ g1 g2)
  .have e4:(aH its.toArray.size).all (fun i=>decide (xs[i]?=ys[i]?))=decide (xs=ys):=by
    rw[aj,<- l1];exact hR' hl
   rw[e4]
   exact(show Value.bool (!decide (xs=ys))≠Value.notImplemented/\EP X pins σ Q (Value.bool (!decide (xs=ys))) s from⟨(fun x=>nomatch x),⟨.bl _,H,I,rfl,k⟩⟩)
 .refine richCompare_meets_room (op:=.NotEq) ⟨_,ho,rfl⟩ ⟨_,ho2,rfl⟩ F.slot_list_ne F.entry_list_ne (F.args_list_ne_2 _ _) (list_ne_lengthsAt p q its.toArray its2.toArray n n2 dd dd2 sl sl2 (by simp;omega)) ⟨ho,ho2,?_⟩ hu
  rw[decide_eq_false (fun z=>hl (by rw[z]))]at k
  exact(show Value.bool true≠Value.notImplemented/\EP X pins σ Q (Value.bool true) s from⟨(fun x=>nomatch x),⟨.bl true,H,I,rfl,k⟩⟩)
def rgs (i:Int) (n:Nat):List V:=(aH n).map fun(k:Nat)=>V.int (i+(k:Int))
def t1':List V->Hp->VK->Prop:=fun xs H Q=>∃i j:Int,(xs=[.int i,.int j]\/(i=0/\xs=[.int j]))/\∀p,H p=none->Q (.ref p) (upd H p (.rng i j))
theorem j4':aN' X (.type "range") t1':=by
 intro pins s σ H xs us Q I rv h
 obtain⟨i,j,hx,q⟩:=h
 have hn:H s.heap.objs.size=none:=I.hok.fresh (ak _)
 rcases hx with rfl|⟨rfl,rfl⟩
 .cases rv with
  |cons r1 rv=>
   cases rv with
   |cons r2 rv=>
    cases rv
    obtain⟨t,rfl⟩:=r1
    obtain⟨u,rfl⟩:=r2
    exact call_range_2 ⟨.ref s.heap.objs.size,_,I.laid (t':=s.toks+1) (fun _ _ e=>ae _ e) (ak _) (o:=.rng i j) ⟨t,u,s.toks,aw _ rfl⟩,rfl,q _ hn⟩
 .cases rv with
  |cons r1 rv=>
   cases rv
   obtain⟨t,rfl⟩:=r1
   exact call_range_1 ⟨.ref s.heap.objs.size,_,I.laid (t':=s.toks+1+1) (fun _ _ e=>ae _ e) (ak _) (o:=.rng 0 j) ⟨s.toks,t,s.toks+1,aw _ rfl⟩,rfl,q _ hn⟩
def t2':List V->Hp->VK->Prop:=fun xs H Q=>∃r i j,xs=[.ref r]/\H r=some (.rng i j)/\(-(2 ^ 62)<=i/\i<2 ^ 62/\-(2 ^ 62)<=j/\j<2 ^ 62)/\(j-i).toNat<=sizeLine/\∀p,H p=none->Q (.ref p) (upd H p (.lst (rgs i (j-i).toNat)))
theorem j5' (hc:X.calm=true):aN' X (.type "list") t2':=by
 intro pins s σ H xs us Q I rv h
 obtain⟨r,i,j,rfl,hr,⟨h1,h2,h3,h4⟩,hz,q⟩:=h
 cases rv with
 |cons r1 rv=>
  cases rv
  cases r1
  obtain⟨t,u,v,e⟩:=(show aF' X.prog X.w H s.heap r (.rng i j) from I.hok r _ hr)
  refine call_list_range (n:=(j-i).toNat) (I.ok.hd hc) e (small_one h1 h2 h3 h4) (by rw[rangeSize_one];split<;>omega) hz fun h' tk' acc' c' hk hS hit=>?_
  obtain⟨hsz,hv⟩:=hit
  have hn:H s.heap.objs.size=none:=I.hok.fresh (ak _)
  have key:∀(n:Nat) (l:List Value) (f:Nat->Int),l.length=n->(∀k v,l[k]?=some v->∃t,v=Value.int (f k) t)->ax' ((aH n).map fun k=>V.int (f k)) l:=by
   intro n
   induction n with
   |zero=>intro l f hl hv;have:l=[]:=List.length_eq_zero_iff.mp hl;subst this;exact .nil
   |succ n ih=>
    intro l f hl hv
    cases l with
    |nil=>cases hl
    |cons x r=>
     rw[List.range_succ_eq_map,aE,List.map_map]
     refine .cons (hv 0 x rfl) ?_
     exact ih r (fun k=>f (k+1)) (by simpa using hl) fun k v hk=>hv (k+1) v (by simpa using hk)
  refine⟨.ref s.heap.objs.size,_,I.laid (t':=tk') hk (ak _) (o:=.lst (rgs i (j-i).toNat)) ⟨by unfold rgs;rw[ai,bo];exact hz,acc'.toList,c',?_,hS⟩,rfl,q _ hn⟩
  refine key _ _ (fun k=>i+(k:Int)) (by rw[au];exact hsz) fun k v hk=>?_
  obtain⟨t,e⟩:=hv k v (by simpa using hk)
  exact⟨t,by rw[e];simp⟩
end
section
variable {X:Cx}
theorem nn':OpR X (binaryOp .Mult) (rI IntMulOk fun i j=>.int (i*j)):=opI fun _ _ _ _ _ _ _ hc q=>mul_int q hc
def t3':V->Bool
 | .ty _=>false
 | .byt _=>false
 | .flt _=>false
 |_=>true
def r5' (neg:Bool):R2:=fun x y H Q=>∃b,y=.bl b/\t3' x=true/\Q (.bl (if neg then !decide (x=.bl b)else decide (x=.bl b))) H
theorem pz' {x:V} {v:Value} {b:Bool} (r:as' x v) (h:t3' x=true):plainIs v (.bool b)=true/\(v == Value.bool b)=decide (x=.bl b):=by
 cases x with
 |non=>cases r;exact⟨rfl,rfl⟩
 |bl a=>cases r;refine⟨rfl,?_⟩;cases a<;>cases b<;>rfl
 |int i=>obtain⟨t,rfl⟩:=r;exact⟨rfl,rfl⟩
 |str i=>obtain⟨t,rfl⟩:=r;exact⟨rfl,rfl⟩
 |ref a=>cases r;exact⟨rfl,rfl⟩
 |_=>cases h
theorem pA':OpR X (compareOp .Is) (r5' false):=by
 intro pins s σ H x y v u Q I rx ry h
 obtain⟨b,rfl,hp,q⟩:=h
 cases ry
 obtain⟨h1,h2⟩:=pz' (b:=b) rx hp
 exact wpAny_is_plain h1 ⟨.bl _,H,I,by rw[h2];rfl,q⟩
theorem hT':OpR X (compareOp .IsNot) (r5' true):=by
 intro pins s σ H x y v u Q I rx ry h
 obtain⟨b,rfl,hp,q⟩:=h
 cases ry
 obtain⟨h1,h2⟩:=pz' (b:=b) rx hp
 exact wpAny_isNot_plain h1 ⟨.bl _,H,I,by rw[h2];rfl,q⟩
theorem j6':OpR X (binaryOp .FloorDiv) (rI (fun _ j=>0<j/\j.natAbs.log2<9000) fun i j=>.int (i / j)):=opI fun i j _ _ _ _ _ hc q=>by
 refine floordiv_int (by omega) ?_ (.inl (PyProof.noPylong_of_log2 hc.2))
 rw[Int.fdiv_eq_ediv_of_nonneg i (by omega)]
 exact q
end
section
variable {κ:Type} [DecidableEq κ]
def cJ' (kvs:List (κ×V)) (k:κ):Option V:=(kvs.find? fun kv=>decide (kv.1=k)).map (·.2)
def dE' (kvs:List (κ×V)) (k:κ) (v:V):List (κ×V):=
 if(kvs.any fun kv=>decide (kv.1=k))=true then kvs.map (fun kv=>if kv.1=k then(kv.1,v)else kv)else kvs++[(k,v)]
theorem aQ' {p:κ×V} {r:List (κ×V)} {k:κ} (e:p.1=k):cJ' (p :: r) k=some p.2:=by simp[cJ',cy,e]
theorem aR' {p:κ×V} {r:List (κ×V)} {k:κ} (e:¬p.1=k):cJ' (p :: r) k=cJ' r k:=by simp[cJ',cy,e]
theorem bY' (k:κ):∀kvs:List (κ×V),(kvs.any fun kv=>decide (kv.1=k))=(cJ' kvs k).isSome
 | []=>rfl
 |p :: r=>by
  rw[cA]
  by_cases e:p.1=k
  .simp only[aQ' e,decide_eq_true e,Bool.true_or,Option.isSome_some]
  .rw[aR' e,decide_eq_false e,Bool.false_or];exact bY' k r
theorem fn' (k j:κ) (y:V):∀kvs:List (κ×V),cJ' (kvs.map fun kv=>if kv.1=k then(kv.1,y)else kv) j=(cJ' kvs j).map fun x=>if j=k then y else x
 | []=>rfl
 |p :: r=>by
  have ih:=fn' k j y r
  rw[aE]
  by_cases h:p.1=k
  .rw[if_pos h]
   by_cases e:p.1=j
   .rw[aQ' (p:=(p.1,y)) e,aQ' e,Option.map_some,if_pos (e.symm.trans h)]
   .rw[aR' (p:=(p.1,y)) e,aR' e,ih]
  .rw[if_neg h]
   by_cases e:p.1=j
   .rw[aQ' (p:=p) e,aQ' e,Option.map_some,if_neg (fun z=>h (e.trans z))]
   .rw[aR' (p:=p) e,aR' e,ih]
theorem ed' (k j:κ) (y:V):∀kvs:List (κ×V),cJ' kvs k=none->cJ' (kvs++[(k,y)]) j=if j=k then some y else cJ' kvs j
 | [],_=>by
  by_cases e:k=j
  .rw[if_pos e.symm];exact aQ' (p:=(k,y)) e
  .rw[if_neg (fun z=>e z.symm)];exact aR' (p:=(k,y)) e
 |p :: r,hn=>by
  rw[cE]
  have hk:¬p.1=k:=fun z=>by rw[aQ' z]at hn;cases hn
  rw[aR' hk]at hn
  have ih:=ed' k j y r hn
  by_cases e:p.1=j
  .rw[aQ' e,aQ' e,if_neg (fun z=>hk (e.trans z))]
  .rw[aR' e,aR' e,ih]
theorem j7' (kvs:List (κ×V)) (k j:κ) (y:V):cJ' (dE' kvs k y) j=if j=k then some y else cJ' kvs j:=by
 unfold dE'
 by_cases a:(kvs.any fun kv=>decide (kv.1=k))=true
 .rw[if_pos a,fn']
  rw[bY']at a
  by_cases e:j=k
  .obtain⟨x,hx⟩:=bH.mp a
   rw[if_pos e,e,hx,Option.map_some,if_pos rfl]
  .rw[if_neg e]
   cases cJ' kvs j with
   |none=>rfl
   |some x=>rw[Option.map_some,if_neg e]
 .rw[if_neg a]
  refine ed' k j y kvs ?_
  rw[bY']at a
  cases q:cJ' kvs k with
  |none=>rfl
  |some x=>rw[q]at a;exact(a rfl).elim
theorem cK' (kvs:List (κ×V)) (k:κ) (v:V):(dE' kvs k v).length<=kvs.length+1:=by
 unfold dE'
 split
 .rw[ai];omega
 .rw[am,aY,List.length_nil];omega
theorem j8' {kvs:List (κ×V)} {k:κ} (v:V) (h:cJ' kvs k=none):dE' kvs k v=kvs++[(k,v)]:=by
 unfold dE'
 rw[bY',h]
 exact if_neg (by decide)
theorem lb'.isSome_eq {o:Option V} {u:Option Value} (r:lb' o u):o.isSome=u.isSome:=by
 cases o with
 |none=>cases u with
  |none=>rfl
  |some _=>exact(show False from r).elim
 |some _=>cases u with
  |none=>exact(show False from r).elim
  |some _=>rfl
theorem lb'.getD {o:Option V} {u:Option Value} {d:V} {d':Value} (r:lb' o u) (rd:as' d d'):as' (o.getD d) (u.getD d'):=by
 cases o with
 |none=>cases u with
  |none=>exact rd
  |some _=>exact(show False from r).elim
 |some _=>cases u with
  |none=>exact(show False from r).elim
  |some _=>exact r
theorem KV.val {kvs:List (κ×V)} {vs:List (κ×Value)} (r:KV kvs vs) (k:κ):lb' (cJ' kvs k) (valueAt vs k):=by
 unfold KV at r
 induction r with
 |nil=>exact True.intro
 | @cons p q ps qs h t ih=>
  obtain⟨h1,h2⟩:=h
  by_cases e:p.1=k
  .have e':q.1=k:=h1.symm.trans e
   have b:valueAt (q :: qs) k=some q.2:=by simp[valueAt,cy,e']
   rw[aQ' e,b];exact h2
  .have e':¬q.1=k:=fun z=>e (h1.trans z)
   have b:valueAt (q :: qs) k=valueAt qs k:=by simp[valueAt,cy,e']
   rw[aR' e,b];exact ih
theorem KV.any {kvs:List (κ×V)} {vs:List (κ×Value)} (r:KV kvs vs) (k:κ):(kvs.any fun kv=>decide (kv.1=k))=vs.any fun kv=>decide (kv.1=k):=by
 unfold KV at r
 induction r with
 |nil=>rfl
 |cons h t ih=>rw[cA,cA,ih,h.1]
theorem KV.repl {kvs:List (κ×V)} {vs:List (κ×Value)} (r:KV kvs vs) (k:κ) {y:V} {u:Value} (ry:as' y u):
  KV (kvs.map fun kv=>if kv.1=k then(kv.1,y)else kv) (vs.map fun kv=>if kv.1=k then(kv.1,u)else kv):=by
 unfold KV at r ⊢
 induction r with
 |nil=>exact .nil
 | @cons p q ps qs h t ih=>
  rw[aE,aE]
  refine .cons ?_ ih
  obtain⟨h1,h2⟩:=h
  by_cases e:p.1=k
  .rw[if_pos e,if_pos (h1.symm.trans e)];exact⟨h1,ry⟩
  .rw[if_neg e,if_neg (fun z=>e (h1.trans z))];exact⟨h1,h2⟩
theorem KV.put {kvs:List (κ×V)} {vs:List (κ×Value)} (r:KV kvs vs) (k:κ) {y:V} {u:Value} (ry:as' y u):KV (dE' kvs k y) (stored vs k u):=by
 unfold dE' stored
 rw[r.any k]
 by_cases e:(vs.any fun kv=>decide (kv.1=k))=true
 .rw[if_pos e,if_pos e];exact r.repl k ry
 .rw[if_neg e,if_neg e];exact Paired.snoc r ⟨rfl,ry⟩
theorem KV.keys {kvs:List (κ×V)} {vs:List (κ×Value)} (r:KV kvs vs):kvs.map (·.1)=vs.map (·.1):=by
 unfold KV at r
 induction r with
 |nil=>rfl
 |cons h t ih=>rw[aE,aE,ih,h.1]
theorem KV.length {kvs:List (κ×V)} {vs:List (κ×Value)} (r:KV kvs vs):kvs.length=vs.length:=Paired.length r
end
theorem pB' {P:Program} {w:World} {k:Key} {u:Value} (r:as' (kV k) u):(at' P w).is k u=true:=by
 cases k with
 |inl i=>obtain⟨t,e⟩:=(show ∃t,u=Value.int i t from r);subst e;exact eK' P w i t
 |inr x=>obtain⟨t,e⟩:=(show ∃t,u=Value.str x t from r);subst e;exact eL' P w x t
 |non=>obtain rfl:u=Value.none:=r;rfl
theorem ll' {a b:Key} (e:kV a=kV b):a=b:=by
 cases a with
 |inl i=>cases b with
  |inl j=>have e':V.int i=V.int j:=e;injection e' with e';rw[e']
  |inr y=>exact nomatch (show V.int i=V.str y from e)
  |non=>exact nomatch (show V.int i=V.non from e)
 |inr x=>cases b with
  |inl j=>exact nomatch (show V.str x=V.int j from e)
  |inr y=>have e':V.str x=V.str y:=e;injection e' with e';rw[e']
  |non=>exact nomatch (show V.str x=V.non from e)
 |non=>cases b with
  |inl j=>exact nomatch (show V.non=V.int j from e)
  |inr y=>exact nomatch (show V.non=V.str y from e)
  |non=>rfl
theorem hU':∀{a b:List Key},a.map kV=b.map kV->a=b
 | [],[],_=>rfl
 | [],_ :: _,e=>by simp at e
 |_ :: _,[],e=>by simp at e
 |x :: xs,y :: ys,e=>by
  rw[aE,aE]at e
  injection e with e1 e2
  rw[ll' e1,hU' e2]
theorem ee' {P:Program} {w:World}:∀{ks:List Key} {us:List Value},ax' (ks.map kV) us->ItemsAre (at' P w) ks us
 | [],_,r=>by rw[cI]at r;cases r;exact .nil
 |k :: ks,_,r=>by
  rw[aE]at r
  cases r with
  |cons h t=>exact .cons (pB' h) (ee' t)
abbrev KT (H:Hp):List (List Key×V)->List (List Key×Addr×Value)->Prop:=Paired fun p q=>p.1=q.1/\H q.2.1=some (.tup (p.1.map kV))/\as' p.2 q.2.2
theorem KT.val {H:Hp} {kvs:List (List Key×V)} {xs:List (List Key×Addr×Value)} (r:KT H kvs xs) (k:List Key):lb' (cJ' kvs k) ((atKey xs k).map (·.2)):=by
 induction r with
 |nil=>exact True.intro
 | @cons p q ps qs h t ih=>
  obtain⟨h1,_,h2⟩:=h
  by_cases e:p.1=k
  .have e':q.1=k:=h1.symm.trans e
   have b:atKey (q :: qs) k=some q.2:=by simp[atKey,cy,e']
   rw[aQ' e,b];exact h2
  .have e':¬q.1=k:=fun z=>e (h1.trans z)
   have b:atKey (q :: qs) k=atKey qs k:=by simp[atKey,cy,e']
   rw[aR' e,b];exact ih
theorem KT.repl {H:Hp} {kvs:List (List Key×V)} {xs:List (List Key×Addr×Value)} (r:KT H kvs xs) (k:List Key) {y:V} {u:Value} (ry:as' y u):
  KT H (kvs.map fun kv=>if kv.1=k then(kv.1,y)else kv) (xs.map (putAt k u)):=by
 induction r with
 |nil=>exact .nil
 | @cons p q ps qs h t ih=>
  rw[aE,aE]
  refine .cons ?_ ih
  obtain⟨h1,h2,h3⟩:=h
  unfold putAt
  by_cases e:p.1=k
  .rw[if_pos e,if_pos (h1.symm.trans e)];exact⟨h1,h2,ry⟩
  .rw[if_neg e,if_neg (fun z=>e (h1.trans z))];exact⟨h1,h2,h3⟩
theorem KT.put {H:Hp} {kvs:List (List Key×V)} {xs:List (List Key×Addr×Value)} (r:KT H kvs xs) (k:List Key) {b:Addr} {y:V} {u:Value} (hb:H b=some (.tup (k.map kV))) (ry:as' y u):
  KT H (dE' kvs k y) (storedH xs k b u):=by
 have e:(kvs.any fun kv=>decide (kv.1=k))=(atKey xs k).isSome:=by
  rw[bY',(r.val k).isSome_eq,Option.isSome_map]
 unfold dE' storedH
 rw[e]
 by_cases q:(atKey xs k).isSome=true
 .rw[if_pos q,if_pos q];exact r.repl k ry
 .rw[if_neg q,if_neg q];exact Paired.snoc r ⟨rfl,hb,ry⟩
theorem KT.keeps {H H':Hp} {kvs:List (List Key×V)} {xs:List (List Key×Addr×Value)} (r:KT H kvs xs) (ht:∀b ys,H b=some (.tup ys)->H' b=some (.tup ys)):KT H' kvs xs:=
 Paired.mapP r fun _ _ z=>⟨z.1,ht _ _ z.2.1,z.2.2⟩
section
variable {P:Program} {w:World} {H:Hp} {h:Heap} {a:Addr}
theorem pC' {u:HO} (ok:HOk P w H h) (e:Rd H a u):aF' P w H h a u:=e.ok ok
theorem j9' {kvs:List (Key×V)} (ok:HOk P w H h) (e:Rd H a (.dK kvs)):kvs.length<=sizeLine/\(a == sysModules)=false/\∃vs,KV kvs vs/\h.DictOf (at' P w) a vs:=
 show aF' P w H h a (.dK kvs) from pC' ok e
theorem sL' {kvs:List (Key×V)} (ok:HOk P w H h) (e:H a=some (.dK kvs)):kvs.length<=sizeLine/\(a == sysModules)=false/\∃vs,KV kvs vs/\h.DictOf (at' P w) a vs:=j9' ok (.inl e)
theorem lm' {ks:List Key} (ok:HOk P w H h) (e:H a=some (.tup (ks.map kV))):(tupleKind (at' P w)).is h ks a:=by
 obtain⟨_,its,r,o,h1,h2,⟨n,h3⟩,_⟩:=(show aF' P w H h a (.tup (ks.map kV)) from ok a _ e)
 exact⟨o,its.toArray,n,h1,h2,h3,by simpa using ee' r⟩
theorem ka' {kvs:List (List Key×V)} (ok:HOk P w H h) (e:Rd H a (.dT kvs)):kvs.length<=sizeLine/\(a == sysModules)=false/\
  ∃xs,KT H kvs xs/\h.DictOfH (tupleKind (at' P w)) a xs:=by
 obtain⟨z,y,xs,r,o,es,ep,h1,h2,h3,h4,h5⟩:=(show aF' P w H h a (.dT kvs) from pC' ok e)
 refine⟨z,y,xs,r,o,es,ep,h1,h2,h3,h4,fun x hx=>?_,h5⟩
 have all:∀{l:List (List Key×V)} {m:List (List Key×Addr×Value)},KT H l m->∀x∈m,(tupleKind (at' P w)).is h x.1 x.2.1:=by
  intro l m q
  induction q with
  |nil=>intro x hx;exact nomatch hx
  | @cons p q ps qs hq t ih=>
   intro x hx
   rcases aq.mp hx with e|hx
   .subst e
    exact lm' ok (by rw[<- hq.1];exact hq.2.1)
   .exact ih x hx
 exact all r x hx
theorem sM' {kvs:List (List Key×V)} (ok:HOk P w H h) (e:H a=some (.dT kvs)):kvs.length<=sizeLine/\(a == sysModules)=false/\
  ∃xs,KT H kvs xs/\h.DictOfH (tupleKind (at' P w)) a xs:=ka' ok (.inl e)
end
def kb' (H:Hp) (a:Addr) (y:V) (r:Option V):Prop:=
 (∃kvs k,Rd H a (.dK kvs)/\y=kV k/\r=cJ' kvs k)\/∃kvs k b,Rd H a (.dT kvs)/\y=.ref b/\H b=some (.tup (k.map kV))/\r=cJ' kvs k
def ln' (H:Hp) (a:Addr) (y v:V) (H':Hp):Prop:=
 (∃kvs k,H a=some (.dK kvs)/\y=kV k/\kvs.length<sizeLine/\H'=upd H a (.dK (dE' kvs k v)))\/
 ∃kvs k b,H a=some (.dT kvs)/\y=.ref b/\H b=some (.tup (k.map kV))/\kvs.length<sizeLine/\H'=upd H a (.dT (dE' kvs k v))
theorem kb'.t {H:Hp} {a b:Addr} {kvs:List (List Key×V)} {k:List Key} (e:H a=some (.dT kvs)) (eb:H b=some (.tup (k.map kV))):kb' H a (.ref b) (cJ' kvs k):=.inr ⟨kvs,k,b,.inl e,rfl,eb,rfl⟩
theorem ln'.t {H:Hp} {a b:Addr} {kvs:List (List Key×V)} {k:List Key} {v:V} (e:H a=some (.dT kvs)) (eb:H b=some (.tup (k.map kV))) (hl:kvs.length<sizeLine):
  ln' H a (.ref b) v (upd H a (.dT (dE' kvs k v))):=.inr ⟨kvs,k,b,e,rfl,eb,hl,rfl⟩
section
variable {X:Cx} {pins:List (Addr×Obj)} {σ:St} {H:Hp} {s:Shared} {a:Addr} {y v:V} {u r:Value} {o:Option V} {A:Around} {E:Value->Shared->Prop}
theorem Inv.big (I:Inv X pins σ H s):sysModules<s.heap.objs.size:=by
 have h:mainGlobals<s.heap.objs.size:=(I.mod.glob.keeps I.bk).lt
 exact Nat.lt_trans (by decide) h
theorem eU' {h':Heap} {t':Nat} {ob:HO} (I:Inv X pins σ H s) (mu:Mut (H a)) (hs:bu a s.heap h') (he:∃q,h'.get? a=some q) (new:aF' X.prog X.w (upd H a ob) h' a ob):
  Inv X pins σ (upd H a ob) { s with heap:=h',toks:=t' }:=
 I.write (x:=a) (e:=a) mu (.inl rfl) (fun b q hb z=>(hs.2 b hb).trans z) he new
theorem pD' {P:Program} {w:World} {H':Hp} {h':Heap} {kvs:List (Key×V)} {vs:List (Key×Value)} (z:kvs.length<=sizeLine) (hd:(a == sysModules)=false) (rel:KV kvs vs) (dd:h'.DictOf (at' P w) a vs):
  aF' P w H' h' a (.dK kvs):=⟨z,hd,vs,rel,dd⟩
end
section
variable {X:Cx} {pins:List (Addr×Obj)} {σ:St} {H:Hp} {s:Shared} {a:Addr} {kvs:List (Key×V)} {k:Key} {u:Value} {A:Around} {E:Value->Shared->Prop}
theorem sN' {Q:Value->Shared->Prop} (I:Inv X pins σ H s) (e:Rd H a (.dK kvs)) (h:∀t s',Inv X pins σ H s'->Q (.int kvs.length t) s'):wpAny (model X.prog X.w) A (call (.builtin "len") [.ref a]) Q E s:=by
 obtain⟨z,hd,vs,rel,dd⟩:=j9' I.hok e
 refine call_len_dict hd dd (by rw[<- rel.length];rw[sizeLine_eq]at z;omega) ?_
 rw[<- rel.length]
 exact h _ _ (I.tok _)
end
section
variable {X:Cx} {o i e value:Expr} {pos pos' tpos:Pos} {td ty tv:TE}
end
theorem kc' {P:Program} {w:World} {H:Hp} (h:Heap) (hb:sysModules<h.objs.size):aF' P w H (h.push { cls:=.type "dict",data:=.dict #[] }) h.objs.size (.dT []):=
 ⟨bh _,beq_eq_false_iff_ne.mpr (Ne.symm (aB hb)),[],.nil,_,#[],0,aw _ rfl,⟨rfl,rfl,rfl⟩,rfl,rfl,List.nodup_nil⟩
def hV':TE:=fun _ H Q=>∀p,H p=none->Q (.ref p) (upd H p (.dT []))
section
variable {X:Cx} {pos:Pos}
theorem kd':PE X (.Dict [] [] pos) hV':=fun pins s σ H Q I h=>
 wpAny_Dict_empty ⟨.ref s.heap.objs.size,_,I.laid (a:=s.heap.objs.size) (o:=.dT []) (t':=s.toks) (fun _ _ q=>ae _ q) (ak _) (kc' s.heap I.big),rfl,h _ (I.hok.fresh (ak _))⟩
end
def pE' (kvs more:List (Key×V)):List (Key×V):=more.foldl (fun acc kv=>dE' acc kv.1 kv.2) kvs
theorem KV.merge:∀{more:List (Key×V)} {rs:List (Key×Value)} {kvs:List (Key×V)} {vs:List (Key×Value)},KV more rs->KV kvs vs->KV (pE' kvs more) (merged vs rs):=by
 intro more rs kvs vs r
 unfold KV at r
 induction r generalizing kvs vs with
 |nil=>intro q;exact q
 | @cons p q ps qs h t ih=>
  intro r0
  have e:KV (dE' kvs p.1 p.2) (stored vs q.1 q.2):=by
   have:=r0.put p.1 h.2
   rw[<- h.1];exact this
  exact ih e
structure M1 (X:Cx) (o:Expr) (m:Str) (apos:Pos) (e:Expr) (cpos:Pos):Prop where
 base:attributeBase o m X.env (eval o X.env)=eval o X.env
 few:((backTo cpos (starEach [e] X.env)).all (fun x=>!x.1)&&(backToKw cpos (keywordEach [] X.env)).all (fun x=>x.1.isSome)
  && decide (([e]:List Expr).length+([]:List Keyword).length+(if([]:List Keyword).isEmpty then 0 else 1)<30))=true
 line:(apos.endLine == cpos.line)=true
 trees:backTo cpos (starEach [e] X.env)=[(false,eval e X.env)]
structure M2 (X:Cx) (o:Expr) (m:Str) (apos:Pos) (e f:Expr) (cpos:Pos):Prop where
 base:attributeBase o m X.env (eval o X.env)=eval o X.env
 few:((backTo cpos (starEach [e,f] X.env)).all (fun x=>!x.1)&&(backToKw cpos (keywordEach [] X.env)).all (fun x=>x.1.isSome)
  && decide (([e,f]:List Expr).length+([]:List Keyword).length+(if([]:List Keyword).isEmpty then 0 else 1)<30))=true
 line:(apos.endLine == cpos.line)=true
 trees:backTo cpos (starEach [e,f] X.env)=[(false,eval e X.env),(false,eval f X.env)]
def IsD (H:Hp) (a:Addr):Prop:=(∃kvs,Rd H a (.dK kvs))\/∃kvs,Rd H a (.dT kvs)
theorem pF' {X:Cx} {pins:List (Addr×Obj)} {σ:St} {H:Hp} {s:Shared} {a:Addr} (I:Inv X pins σ H s) (d:IsD H a):
  s.TypeIs (.ref a) "dict"/\(∀b,Value.ref a=.ref b->∃ob,s.heap.get? b=some ob/\ob.dict=none)/\(a == sysModules)=false:=by
 rcases d with⟨kvs,e⟩|⟨kvs,e⟩
 .obtain⟨_,hd,vs,_,dd⟩:=j9' I.hok e
  refine⟨dd.typeIs,fun b q=>?_,hd⟩
  cases q
  obtain⟨ob,_,_,h1,h2,_⟩:=dd
  exact⟨ob,h1,h2.2.1⟩
 .obtain⟨_,hd,xs,_,dd⟩:=ka' I.hok e
  refine⟨dd.typeIs,fun b q=>?_,hd⟩
  cases q
  obtain⟨ob,_,_,h1,h2,_⟩:=dd
  exact⟨ob,h1,h2.2.1⟩
section
variable {X:Cx} {pins:List (Addr×Obj)} {σ:St} {H:Hp} {s:Shared} {a:Addr} {y d:V} {u r:Value} {o:Option V} {A:Around} {E:Value->Shared->Prop}
end
section
variable {X:Cx} {o e f:Expr} {apos cpos:Pos} {td ty tx:TE}
end
section
variable {X:Cx} {pins:List (Addr×Obj)} {σ:St} {H:Hp} {s:Shared} {a:Addr} {kvs:List (Key×V)} {A:Around} {E:Value->Shared->Prop}
end
section
variable {X:Cx} {pins:List (Addr×Obj)} {σ:St} {H:Hp} {s:Shared} {a:Addr} {y:V} {u:Value} {A:Around} {E:Value->Shared->Prop}
end
section
variable {X:Cx}
theorem hW':aN' X (.builtin "len") (fun xs H Q=>∃a kvs,xs=[V.ref a]/\H a=some (.dK kvs)/\Q (.int kvs.length) H):=by
 intro pins s σ H xs us Q I r h
 obtain⟨a,kvs,rfl,ha,q⟩:=h
 obtain⟨u,rfl,ru⟩:=c3' r
 cases ru
 exact sN' I (.inl ha) fun t s' I'=>⟨.int kvs.length,H,I',⟨t,rfl⟩,q⟩
end
section
variable {κ:Type} [DecidableEq κ]
theorem hX':∀{l:List κ} {k:κ},l.Nodup->¬k∈l->(l++[k]).Nodup
 | [],k,_,_=>by simp
 |a :: r,k,h,hk=>by
  obtain⟨h1,h2⟩:=bG.mp h
  show(a :: (r++[k])).Nodup
  refine bG.mpr ⟨fun m=>?_,hX' h2 fun m=>hk (aq.mpr (Or.inr m))⟩
  rcases al.mp m with q|q
  .exact h1 q
  .exact hk (aq.mpr (Or.inl (bT.mp q).symm))
end
def Itc (lo c:Int) (n:Nat):It:=⟨fun i _=>i<n,fun i H x H'=>H'=H/\x=.int (lo+i*c),fun i _=>n<=i⟩
theorem eV' {P:Program} {w:World} {K:W.Frag} {tg:Expr} (it:Addr) (lo c:Int) (n:Nat):Turn P w K tg (Itc lo c n) [it] it (fun i h=>IsRangeIter h it (lo+(i:Nat)*c) ((n:Int)-(i:Nat)) c) where
 mem:=by simp
 obj:=fun i h st b hb=>by
  have e:b=it:=by simpa using hb
  subst e
  exact⟨_,st,fun v z=>by
   have z':Data.fields _=Data.cell v:=z
   cases z'⟩
 keep:=fun i h h' st k=>k it (by simp) _ st
 item:=by
  intro X hP hw hK hc i pins s σ H E I hf st hg
  subst hP hw hK
  obtain⟨f0,f1,f2,f3,f4,f5⟩:=hf it (by simp)
  have W:=Walks.range (prog:=X.prog) (w:=X.w) (I.ok.hd hc) it lo c n
  refine W.item i s _ _ hg st fun v h' tk hv st' kk=>?_
  obtain⟨t,rfl⟩:=hv
  have I1:Inv X pins σ H { s with heap:=h',toks:=tk }:=I.turned (fun b o hb e=>kk b o (by simpa using hb) e) f0 f1 f3 f4 f5
  exact⟨_,rfl,gX' (s:={ s with heap:=h',toks:=tk }) (n:="range_iterator") st' rfl rfl (by decide) ⟨.int (lo+i*c),H,I1,⟨t,rfl⟩,⟨rfl,rfl⟩,st',fun b hb=>(hf b hb).1⟩⟩
 done:=by
  intro X hP hw hK hc i pins s σ H E I hf st hg
  subst hP hw hK
  obtain⟨f0,f1,f2,f3,f4,f5⟩:=hf it (by simp)
  exact wpAny_pyNext_range_end (I.ok.hd hc) st (by have:n<=i:=hg;omega) fun h' eb=>⟨rfl,I.turned (t':=s.toks) (fun b o hb e=>eb b o hb e) f0 f1 f3 f4 f5⟩
 self:=fun _ _ _ _ _ st h=>wpAny_pyIter_rangeiter st h
section
variable {prog:Program} {w:World} {A:Around} {E:Value->Shared->Prop} {s:Shared}
end
section
variable {X:Cx} {tg:Expr}
def dF' (i j c:Int):Nat:=if i<j then((j-i-1) / c+1).toNat else 0
def cL' (i j c:Int):Nat:=if c=-1 then(i-j).toNat else dF' i j c
theorem hY' {i j c:Int} (h:0<c):cL' i j c=dF' i j c:=if_neg (by omega)
def no' (ta:TA):TI:=fun σ H R=>ta σ H fun vs H1=>∃i j c:Int,vs=[.int i,.int j,.int c]/\(-(2 ^ 60)<=i/\i<2 ^ 60/\-(2 ^ 60)<=j/\j<2 ^ 60/\(0<c/\c<2 ^ 29\/c=-1))/\R (Itc i c (cL' i j c)) H1
theorem bZ' {i j c:Int} (hc:0<c):Builtin.Range.rangeSize i j c=(dF' i j c:Int):=by
 unfold Builtin.Range.rangeSize dF'
 rw[if_pos (show c > 0 from hc)]
 split
 .have:=Int.ediv_nonneg (a:=j-i-1) (b:=c) (by omega) (by omega)
  omega
 .rfl
theorem ke' {i j c:Int} (hc:0<c) (h:i<=j):(dF' i j c:Int)<=j-i:=by
 unfold dF'
 split
 .have h0:=Int.ediv_nonneg (a:=j-i-1) (b:=c) (by omega) (by omega)
  have h1:=Int.ediv_le_self (a:=j-i-1) c (by omega)
  omega
 .omega
theorem gx' {i j c:Int} (h1:-(2 ^ 60)<=i) (h2:i<2 ^ 60) (h3:-(2 ^ 60)<=j) (h4:j<2 ^ 60) (h5:0<c) (h6:c<2 ^ 29):Builtin.Range.small i j c=true:=by
 unfold Builtin.Range.small
 rw[bZ' h5,if_pos (show c > 0 from h5)]
 have hn:(dF' i j c:Int)<=2 ^ 62:=by
  rcases Int.lt_or_le i j with h|h
  .have:=ke' (i:=i) (j:=j) h5 (by omega);omega
  .have:dF' i j c=0:=by unfold dF';rw[if_neg (by omega)]
   rw[this];decide
 unfold Builtin.Range.rangeFitsLong
 simp
 omega
theorem b0' {i j c:Int} (hc:0<c/\c<2 ^ 29\/c=-1):Builtin.Range.rangeSize i j c=(cL' i j c:Int):=by
 rcases hc with hc|rfl
 .rw[hY' hc.1];exact bZ' hc.1
 .unfold Builtin.Range.rangeSize cL'
  rw[if_neg (show ¬(-1:Int) > 0 by decide),if_pos rfl]
  split
  .have:(i-j-1) / (-(-1:Int))=i-j-1:=by simp
   omega
  .omega
theorem hZ' {i j c:Int} (h1:-(2 ^ 60)<=i) (h2:i<2 ^ 60) (h3:-(2 ^ 60)<=j) (h4:j<2 ^ 60) (hc:0<c/\c<2 ^ 29\/c=-1):Builtin.Range.small i j c=true:=by
 rcases hc with hc|rfl
 .exact gx' h1 h2 h3 h4 hc.1 hc.2
 .unfold Builtin.Range.small
  rw[b0' (.inr rfl),if_neg (show ¬(-1:Int) > 0 by decide)]
  have hn:(cL' i j (-1):Int)<=2 ^ 62:=by unfold cL';rw[if_pos rfl];omega
  unfold Builtin.Range.rangeFitsLong
  simp
  omega
theorem h0' {a b c:Expr} {ta:TA} {p pos:Pos} (hg:Gl X "range") (hm:X.mg "range"=none) (ha:PA X [a,b,c] ta) (hs:starEach [a,b,c] X.env=[(false,eval a X.env),(false,eval b X.env),(false,eval c X.env)]) (hs2:starEach [b,c] X.env=[(false,eval b X.env),(false,eval c X.env)]):
  PI X tg (.Call (.Name "range" p) [a,b,c] [] pos) (no' ta):=by
 intro pins s σ H R I h
 refine Call_ (cz' I hg hm boot_range (PyProof.Rows.callWith_type1 (thn (ha pos pins s σ H _ I h) fun us s1 ⟨vs,H1,I1,r1,q1⟩=>?_) (by rw[hs,hs2]) (by rw[hs2];rfl)))
 obtain⟨i,j,k,e,⟨q1,q2,q3,q4,q5⟩,q⟩:=q1
 subst e
 cases r1 with
 |cons r rr=>
  cases rr with
  |cons r' rr=>
   cases rr with
   |cons r'' rr=>
    cases rr
    obtain⟨t,rfl⟩:=r
    obtain⟨t',rfl⟩:=r'
    obtain⟨t'',rfl⟩:=r''
    refine call_range_3 (by omega) ?_ (Or.inl (PyProof.noPylong_small (by omega)))
    refine wpAny_pyIter_range (IsRange.new ..) (hZ' q1 q2 q3 q4 q5) ?_
    have I2:Inv X pins σ H1 { s1 with heap:=s1.heap.push { cls:=.type "range",data:=.fields #[.int i t,.int j t',.int k t''] } }:=I1.kept (t':=s1.toks) fun b o e=>ae _ e
    refine⟨(s1.heap.push { cls:=.type "range",data:=.fields #[.int i t,.int j t',.int k t''] }).objs.size,[(s1.heap.push { cls:=.type "range",data:=.fields #[.int i t,.int j t',.int k t''] }).objs.size],_,_,H1,rfl,I2.kept (t':=s1.toks) (fun b o e=>ae _ e),eV' _ i k (cL' i j k),?_,fun b hb=>?_,q⟩
    .have e1:i+((0:Nat):Int)*k=i:=by simp
     have e2:((cL' i j k:Nat):Int)-((0:Nat):Int)=Builtin.Range.rangeSize i j k:=by rw[b0' q5];omega
     show IsRangeIter _ _ (i+((0:Nat):Int)*k) (((cL' i j k:Nat):Int)-((0:Nat):Int)) k
     rw[e1,e2]
     exact aw _ rfl
    .have e:b=(s1.heap.push { cls:=.type "range",data:=.fields #[.int i t,.int j t',.int k t''] }).objs.size:=by simpa using hb
     subst e
     exact I2.fpOk (ak _) (I2.hok.fresh (ak _))
end
section
variable {X:Cx}
theorem np' {i:Int} (h:0<=i):Builtin.bitAnd i 1=i % 2:=by
 rw[PyProof.Rows.bitAnd_pp h (by decide)]
 have e:(1:Int).toNat=1:=rfl
 rw[e,Nat.and_one_is_mod]
 omega
theorem nq':OpR X (binaryOp .BitAnd) (rI (fun i j=>0<=i/\j=1) fun i _=>.int (i % 2)):=by
 intro pins s σ H x y v u Q I rx ry h
 obtain⟨i,j,rfl,rfl,⟨h0,rfl⟩,q⟩:=h
 refine o0' pins s σ H _ _ v u Q I rx ry ⟨i,1,rfl,rfl,?_⟩
 have q':Q (.int (i % 2)) H:=q
 rw[<- np' h0]at q'
 exact q'
def inT (x y:Str):Bool:=!(Builtin.Str.occurrences x y 0 x.length 1).isEmpty
def r6' (neg:Bool):R2:=fun x y H Q=>∃a b,x=.str a/\y=.str b/\Q (.bl (if neg then !inT b a else inT b a)) H
theorem pG':OpR X (compareOp .In) (r6' false):=by
 intro pins s σ H x y v u Q I rx ry h
 obtain⟨a,b,rfl,rfl,q⟩:=h
 obtain⟨t,rfl⟩:=rx
 obtain⟨t',rfl⟩:=ry
 exact in_str ⟨.bl _,H,I,rfl,q⟩
theorem h4':OpR X (compareOp .NotIn) (r6' true):=by
 intro pins s σ H x y v u Q I rx ry h
 obtain⟨a,b,rfl,rfl,q⟩:=h
 obtain⟨t,rfl⟩:=rx
 obtain⟨t',rfl⟩:=ry
 have q':Q (.bl (!inT b a)) H:=q
 refine notIn_str ⟨.bl (!inT b a),H,I,?_,q'⟩
 show Value.bool _=Value.bool _
 simp[inT]
end
section
variable {X:Cx}
def uL' (x y:Str):Bool:=decide (y.cps.toList<x.cps.toList)
def t4':R2:=fun x y H Q=>∃a b,x=.str a/\y=.str b/\Q (.bl (uL' a b)) H
theorem pH':OpR X (compareOp .Gt) t4':=by
 intro pins s σ H x y v u Q I rx ry h
 obtain⟨a,b,rfl,rfl,k⟩:=h
 obtain⟨t,rfl⟩:=rx
 obtain⟨t',rfl⟩:=ry
 exact PySem.P.gt_str ⟨.bl _,H,I,rfl,k⟩
def dSc:V->Bool
 | .int _=>true
 | .str _=>true
 | .bl _=>true
 | .non=>true
 |_=>false
def Dq (H:Hp):Nat->V->V->Prop
 |0,v,w=>v=w/\dSc v=true
 |n+1,v,w=>(v=w/\dSc v=true)\/∃a b xs ys,v=.ref a/\w=.ref b/\((H a=some (.lst xs)/\H b=some (.lst ys))\/(H a=some (.tup xs)/\H b=some (.tup ys)))/\xs.length=ys.length/\∀(i:Nat) x y,xs[i]?=some x->ys[i]?=some y->Dq H n x y
open PySem.SeqAt in
theorem pI' {A:Around} {s:Shared} {x:V} {u v:Value} (h:dSc x=true) (r1:as' x u) (r2:as' x v):EqAt A s u v true:=by
 have:=cf' (A:=A) (s:=s) r1 r2 (.inl (by cases x<;>first|(cases h;done)|exact⟨rfl,fun b=>by intro z;cases z⟩))
 rw[decide_eq_true rfl]at this
 exact this
theorem bI' {n:Nat}:(aH n).all (fun _=>true)=true:=by simp
theorem bx' {its:List Value} {j:Nat} {u:Value} (e:its[j]?=some u) (h:j<its.toArray.size):its.toArray[j]=u:=by
 simp at h ⊢
 rw[ac h]at e
 exact Option.some.inj e
open PySem.SeqAt in
theorem bJ' {n:Nat} {H:Hp} {A:Around} {s:Shared} {xs ys:List V} {its its2:List Value} (ih:∀x y u v,Dq H n x y->as' x u->as' y v->EqAt A.in1 s u v true) (hl:xs.length=ys.length) (r1:ax' xs its) (r2:ax' ys its2)
  (he:∀(i:Nat) x y,xs[i]?=some x->ys[i]?=some y->Dq H n x y):∀j (h1:j<its.toArray.size) (h2:j<its2.toArray.size),EqAt A.in1 s its.toArray[j] its2.toArray[j] ((fun _=>true) j):=by
 intro j h1 h2
 have l1:=r1.length
 have j1:j<xs.length:=by simp at h1;omega
 have j2:j<ys.length:=by omega
 have g1:xs[j]?=some xs[j]:=ac j1
 have g2:ys[j]?=some ys[j]:=ac j2
 obtain⟨u1,e1,ru1⟩:=r1.get g1
 obtain⟨u2,e2,ru2⟩:=r2.get g2
 rw[bx' e1 h1,bx' e2 h2]
 exact ih _ _ _ _ (he j _ _ g1 g2) ru1 ru2
open PySem.SeqAt in
theorem pJ' {pins:List (Addr×Obj)} {σ:L2.St} {H:Hp} {s:Shared} (I:Inv X pins σ H s):∀(n:Nat) (A:Around) (x y:V) (u v:Value),A.units+n<cLine->Dq H n x y->as' x u->as' y v->EqAt A s u v true:=by
 intro n
 induction n with
 |zero=>
  rintro A x y u v hu ⟨rfl,hs⟩ r1 r2
  exact pI' hs r1 r2
 |succ n ih=>
  rintro A x y u v hu h rx ry
  rcases h with⟨rfl,hs⟩|⟨a,b,xs,ys,rfl,rfl,hab,hl,he⟩
  .exact pI' hs rx ry
  cases rx
  cases ry
  by_cases hne:a=b
  .subst hne;exact EqAt.same _
  have ih':∀x y u v,Dq H n x y->as' x u->as' y v->EqAt A.in1 s u v true:=fun x y u v=>ih A.in1 x y u v (by show A.units+1+n<cLine;omega)
  rcases hab with⟨h1,h2⟩|⟨h1,h2⟩
  .obtain⟨its,r1,pl1,_⟩:=I.list (SqL.of h1)
   obtain⟨its2,r2,pl2,_⟩:=I.list (SqL.of h2)
   have l1:=r1.length
   have l2:=r2.length
   have:=RcAt.lists pl1.isList pl2.isList (by simp;omega) (by omega) (bJ' ih' hl r1 r2 he)
   rw[bI']at this
   exact EqAt.of_refs hne this
  .obtain⟨its,r1,pl1,_⟩:=I.tuple (SqT.of h1)
   obtain⟨its2,r2,pl2,_⟩:=I.tuple (SqT.of h2)
   have l1:=r1.length
   have l2:=r2.length
   have:=RcAt.tuples pl1 pl2 (by omega) (bJ' ih' hl r1 r2 he)
   rw[bI']at this
   have e:(true&&its.toArray.size == its2.toArray.size)=true:=by simp;omega
   rw[e]at this
   exact EqAt.of_refs hne this
def t5':R2:=fun x y H Q=>∃a b xs ys,x=.ref a/\y=.ref b/\H a=some (.tup xs)/\H b=some (.tup ys)/\xs.length=ys.length/\LEq xs ys/\Q (.bl (decide (xs=ys))) H
open PySem.SeqAt in
theorem pK' (hu:X.A.units+64<cLine):OpR X (compareOp .Eq) t5':=by
 intro pins s σ H x y v u Q I rx ry h
 obtain⟨p,q,xs,ys,rfl,rfl,hp,hq,hl,he,k⟩:=h
 cases rx
 cases ry
 obtain⟨its,r1,pl1,_⟩:=I.tuple (SqT.of hp)
 obtain⟨its2,r2,pl2,_⟩:=I.tuple (SqT.of hq)
 have l1:=r1.length
 have l2:=r2.length
 refine eq_tupleAt (e:=fun i=>decide (xs[i]?=ys[i]?)) pl1 pl2 (by omega) (fun j h1 h2=>?_) ?_
 .have j1:j<xs.length:=by simp at h1;omega
  have j2:j<ys.length:=by omega
  have g1:xs[j]?=some xs[j]:=ac j1
  have g2:ys[j]?=some ys[j]:=ac j2
  obtain⟨u1,e1,ru1⟩:=r1.get g1
  obtain⟨u2,e2,ru2⟩:=r2.get g2
  rw[bx' e1 h1,bx' e2 h2,g1,g2]
  have e3:decide (some xs[j]=some ys[j])=decide (xs[j]=ys[j]):=by simp
  rw[e3]
  exact cf' ru1 ru2 (he j _ _ g1 g2)
 .have e4:(aH (min its.toArray.size its2.toArray.size)).all (fun i=>decide (xs[i]?=ys[i]?))=decide (xs=ys):=by
   rw[aj,aj,<- l1,<- l2,<- hl,Nat.min_self];exact hR' hl
  have e5:(its.toArray.size == its2.toArray.size)=true:=by simp;omega
  rw[e4,e5,Bool.and_true]
  exact⟨.bl _,H,I,rfl,k⟩
def r7' (neg:Bool):R2:=fun x y H Q=>(∃n,n<=8/\Dq H n x y/\(∃a b,x=.ref a/\y=.ref b)/\Q (.bl (!neg)) H)\/(neg=false/\t5' x y H Q)
theorem Dq.open {H:Hp} {n:Nat} {a b:Addr} (h:Dq H n (.ref a) (.ref b)):∃m xs ys,n=m+1/\((H a=some (.lst xs)/\H b=some (.lst ys))\/(H a=some (.tup xs)/\H b=some (.tup ys)))/\xs.length=ys.length/\∀(i:Nat) x y,xs[i]?=some x->ys[i]?=some y->Dq H m x y:=by
 cases n with
 |zero=>exact(ap h.2).elim
 |succ m=>
  rcases h with⟨_,hs⟩|⟨a',b',xs,ys,e1,e2,hab,hl,he⟩
  .cases hs
  .cases e1;cases e2;exact⟨m,xs,ys,rfl,hab,hl,he⟩
open PySem.SeqAt in
theorem pL' (hu:X.A.units+64<cLine):OpR X (compareOp .Eq) (r7' false):=by
 intro pins s σ H x y v u Q I rx ry h
 rcases h with h|⟨_,h⟩
 case inr=>exact pK' hu pins s σ H x y v u Q I rx ry h
 obtain⟨n,hn,hd,⟨a,b,rfl,rfl⟩,k⟩:=h
 cases rx
 cases ry
 obtain⟨m,xs,ys,rfl,hab,hl,he⟩:=hd.open
 have ih':∀x y u v,Dq H m x y->as' x u->as' y v->EqAt X.A.in1 s u v true:=fun x y u v=>pJ' I m X.A.in1 x y u v (by show X.A.units+1+m<cLine;omega)
 rcases hab with⟨h1,h2⟩|⟨h1,h2⟩
 .obtain⟨its,r1,pl1,_⟩:=I.list (SqL.of h1)
  obtain⟨its2,r2,pl2,_⟩:=I.list (SqL.of h2)
  have l1:=r1.length
  have l2:=r2.length
  refine eq_listAt pl1.isList pl2.isList (by simp;omega) (by omega) (bJ' ih' hl r1 r2 he) ?_
  rw[bI']
  exact⟨.bl true,H,I,rfl,k⟩
 .obtain⟨its,r1,pl1,_⟩:=I.tuple (SqT.of h1)
  obtain⟨its2,r2,pl2,_⟩:=I.tuple (SqT.of h2)
  have l1:=r1.length
  have l2:=r2.length
  refine eq_tupleAt pl1 pl2 (by omega) (bJ' ih' hl r1 r2 he) ?_
  have e:(true&&its.toArray.size == its2.toArray.size)=true:=by simp;omega
  rw[bI',e]
  exact⟨.bl true,H,I,rfl,k⟩
open PySem.SeqAt in
theorem pM' (hu:X.A.units+64<cLine):OpR X (compareOp .NotEq) (r7' true):=by
 intro pins s σ H x y v u Q I rx ry h
 rcases h with h|⟨hf,_⟩
 case inr=>cases hf
 obtain⟨n,hn,hd,⟨a,b,rfl,rfl⟩,k⟩:=h
 cases rx
 cases ry
 obtain⟨m,xs,ys,rfl,hab,hl,he⟩:=hd.open
 have ih':∀x y u v,Dq H m x y->as' x u->as' y v->EqAt X.A.in1 s u v true:=fun x y u v=>pJ' I m X.A.in1 x y u v (by show X.A.units+1+m<cLine;omega)
 have hend:EP X pins σ Q (Value.bool false) s:=⟨.bl false,H,I,rfl,k⟩
 rcases hab with⟨h1,h2⟩|⟨h1,h2⟩
 .obtain⟨its,r1,pl1,_⟩:=I.list (SqL.of h1)
  obtain⟨its2,r2,pl2,_⟩:=I.list (SqL.of h2)
  have l1:=r1.length
  have l2:=r2.length
  obtain⟨⟨cls,dd,data,sl⟩,ho,hc,n1,hd1⟩:=pl1.isList
  obtain⟨⟨cls2,dd2,data2,sl2⟩,ho2,hc2,n2,hd2⟩:=pl2.isList
  simp only at hc hd1 hc2 hd2
  subst hc hd1 hc2 hd2
  refine richCompare_meets_room (op:=.NotEq) ⟨_,ho,rfl⟩ ⟨_,ho2,rfl⟩ F.slot_list_ne F.entry_list_ne (F.args_list_ne_2 _ _) (list_neAt a b its.toArray its2.toArray n1 n2 dd dd2 sl sl2 (by simp;omega) (fun _=>true)) ⟨ho,ho2,bJ' ih' hl r1 r2 he,?_⟩ (by omega)
  rw[bI']
  exact(show Value.bool false≠Value.notImplemented/\EP X pins σ Q (Value.bool false) s from⟨(fun x=>nomatch x),hend⟩)
 .obtain⟨its,r1,pl1,_⟩:=I.tuple (SqT.of h1)
  obtain⟨its2,r2,pl2,_⟩:=I.tuple (SqT.of h2)
  have l1:=r1.length
  have l2:=r2.length
  obtain⟨⟨cls,dd,data,sl⟩,ho,hc,n1,hd1⟩:=id pl1
  obtain⟨⟨cls2,dd2,data2,sl2⟩,ho2,hc2,n2,hd2⟩:=id pl2
  simp only at hc hd1 hc2 hd2
  subst hc hd1 hc2 hd2
  refine richCompare_meets_room (op:=.NotEq) ⟨_,ho,rfl⟩ ⟨_,ho2,rfl⟩ F.slot_tuple_ne F.entry_tuple_ne (F.args_tuple_ne_2 _ _) (tuple_neAt a b its.toArray its2.toArray n1 n2 dd dd2 sl sl2 (fun _=>true)) ⟨ho,ho2,bJ' ih' hl r1 r2 he,?_⟩ (by omega)
  have e:(true&&its.toArray.size == its2.toArray.size)=true:=by simp;omega
  rw[bI',e]
  exact(show Value.bool false≠Value.notImplemented/\EP X pins σ Q (Value.bool false) s from⟨(fun x=>nomatch x),hend⟩)
end
end L2
namespace HT
open PySem PyProof.Rows
open PySem.SeqAt
open PySem.MeetsSeq PySem.MeetsSeq2 PySem.MeetsSeq3
section
variable {prog:Program} {w:World} {A:Around} {E:Value->Shared->Prop} {s:Shared}
theorem kf' {t b:Addr} {ws:List Value} {Q:Value->Shared->Prop} (ht:IsTup s.heap t #[]) (hb:IsTup s.heap b ws.toArray) (h0:Q (.ref b) s):wpAny (model prog w) A (binaryOp .Add (.ref t) (.ref b)) Q E s:=by
 obtain⟨⟨cls,dd,data,sl⟩,ho,hc,n,hd⟩:=id ht
 obtain⟨⟨cls2,dd2,data2,sl2⟩,ho2,hc2,n2,hd2⟩:=id hb
 simp only at hc hd hc2 hd2
 subst hc hd hc2 hd2
 exact concat_meets ⟨_,ho,rfl⟩ ⟨_,ho2,rfl⟩ noFill_tuple_add seq_tuple_add PySem.F.slot_tuple_add PySem.F.entry_tuple_add (PySem.F.args_tuple_add_2 _ _)
  (tuple_addW0 t b #[] ws.toArray n n2 dd dd2 sl sl2 rfl) ⟨ho,ho2,h0⟩
end
end HT
namespace L2
open PySem PySem.Spec PyProof.Rows
section
variable {X:Cx}
def lo' (K:W.Frag):R2:=fun x y H Q=>∃a b ys,x=.ref a/\y=.ref b/\SqT K H a []/\SqT K H b ys/\Q (.ref b) H
theorem kg':OpR X (binaryOp .Add) (lo' X.K):=by
 intro pins s σ H x y v u Q I rx ry h
 obtain⟨a,b,ys,rfl,rfl,ha,hb,q⟩:=h
 cases rx
 cases ry
 obtain⟨its,r1,p1,_⟩:=I.tuple ha
 obtain⟨its2,r2,p2,_⟩:=I.tuple hb
 have e:its=[]:=r1.nil_iff.mpr rfl
 subst e
 exact HT.kf' p1 p2 ⟨.ref b,H,I,rfl,q⟩
end
end L2
namespace L2
open PySem PySem.Spec PyProof.Rows PySem.Calls PySem.NumText
def B2 (x:PySem.Str) (n:Int):Prop:=(x.cps.all (· < 128))=true/\(x.cps.toList.takeWhile (· != 0)).length<=640/\(int_private% "readNumeral") 0 2 (x.cps.toList.takeWhile (· != 0))=(int_private% "Numeral.value") n/\((x.cps.toList.takeWhile (· != 0)).length == x.cps.toList.length)=true
theorem kh' {M:Model} {A:Around} {E:Value->Shared->Prop} {s:Shared} {Q:Value->Shared->Prop} {v:Value} {text:List Nat} {n:Int}
  (hs:(text.takeWhile (· != 0)).length<=640) (hr:(int_private% "readNumeral") 0 2 (text.takeWhile (· != 0))=(int_private% "Numeral.value") n)
  (ha:((text.takeWhile (· != 0)).length == text.length)=true) (h:Q (.int n s.toks) { s with toks:=s.toks+1 }):
  wpAny M A ((int_private% "intFromText") v text 2) Q E s:=by
 obtain⟨hp,g,d,tk,os⟩:=s
 repeat (any_goals (first
  |assumption
  |(with_reducible refine wpAny_ite_true (decide_eq_true hs) ?_)
  |(with_reducible refine wpAny_ite_true (decide_eq_true ha) ?_)
  |wp_step))
 all_goals (try rw[hr])
 all_goals (try dsimp only)
 repeat (any_goals (first
  |assumption
  |(with_reducible refine wpAny_ite_true (decide_eq_true hs) ?_)
  |(with_reducible refine wpAny_ite_true (decide_eq_true ha) ?_)
  |wp_step))
set_option maxHeartbeats 4000000 in
theorem eW' {x:PySem.Str} {u v:Tok} {n:Int} (hb:B2 x n):Gives (Builtin.«int.__new__» ⟨[.type "int",.str x u,.int 2 v],[]⟩) (.int n):=
 .of_wp fun M A E s Q h=>by
  obtain⟨hp,g,d,tk,os⟩:=s
  have f1:=F.conv_sub_int
  have f2:=F.madeHere_int
  have f6:typeOf (.str x u)=pure (.type "str"):=rfl
  have hk:=W.KIN.Hid.mk hb
  clear hb
  repeat (any_goals (first
   |assumption
   |((with_reducible show wpAny _ _ ((int_private% "intFromText") _ _ _) _ _ _);rw[if_pos hk.out.1];refine kh' hk.out.2.1 hk.out.2.2.1 hk.out.2.2.2 ?_)
   |wp_step))
  all_goals first|exact⟨_,rfl,h⟩|skip
theorem c6' (a b:Value):checkTypeCall "int" ⟨[a,b],[]⟩=pure ():=by kernel_rfl
theorem dG' (a b:Value):checkBuiltinCall "int.__new__" ⟨[.type "int",a,b],[]⟩=pure ():=by kernel_rfl
section
variable {X:Cx}
def pN':List V->Hp->VK->Prop:=fun xs H Q=>∃x n,xs=[.str x,.int 2]/\B2 x n/\Q (.int n) H
theorem h5':aN' X (.type "int") pN':=by
 intro pins s σ H xs us Q I r h
 obtain⟨x,n,rfl,hb,q⟩:=h
 obtain⟨u,v,rfl,⟨t,rfl⟩,⟨t',rfl⟩⟩:=o5' r
 exact callType_new F.called_int F.newNe_int (c6' _ _) (dG' _ _) (fun obj=>F.args_object_init_3 obj _ _) F.entry_int_new (eW' hb).meets (show(Made.int n).post _ s from⟨rfl,⟨.int n,H,I.tok _,⟨_,rfl⟩,q⟩⟩)
theorem h6':aN' X (.type "int") (fun xs H Q=>t0' xs H Q\/pN' xs H Q):=hK'.or h5'
end
section
variable {X:Cx}
end
end L2
namespace PySem
open PyProof.Rows
def Heap.IsRvd (h:Heap) (a t:Addr) (i:Int):Prop:=∃o,h.get? a=some o/\o.cls=.type "reversed"/\o.data=.fields #[.ref t,rawInt i]
theorem Heap.IsRvd.at {h h':Heap} {a t:Addr} {i:Int} (x:h.IsRvd a t i) (e:∀o,h.get? a=some o->h'.get? a=some o):h'.IsRvd a t i:=let⟨o,ho,r⟩:=x;⟨o,e _ ho,r⟩
section
variable {prog:Program} {w:World} {A:Around} {E:Value->Shared->Prop} {s:Shared}
theorem Heap.IsRvd.typeIs {a t:Addr} {i:Int} (x:s.heap.IsRvd a t i):s.TypeIs (.ref a) "reversed":=let⟨o,ho,hc,_⟩:=x;⟨o,ho,hc⟩
end
section
variable {prog:Program} {w:World} {A:Around} {E:Value->Shared->Prop} {s:Shared}
end
section
variable {prog:Program} {w:World} {A:Around} {E:Value->Shared->Prop} {s:Shared}
end
end PySem
namespace L2
open PySem PySem.Spec PyProof.Rows
section
variable {X:Cx}
end
end L2
namespace HT
open PySem PyProof.Rows
section
variable {prog:Program} {w:World} {A:Around} {E:Value->Shared->Prop} {s:Shared}
theorem bS' {t sl:Addr} {items:Array Value} {vl vu:Value} {lo hi:Option Int} {Q:Value->Shared->Prop} (ht:IsTup s.heap t items) (hs:s.heap.IsSliceOf sl vl vu .none) (pl:IsPart vl lo) (pu:IsPart vu hi)
  (hw:sIx items.size 0 lo=0/\sIx items.size items.size hi=items.size)
  (h:Q (.ref t) s):wpAny (model prog w) A (getItem (.ref t) (.ref sl)) Q E s:=by
 obtain⟨os,hos,hcs,hds⟩:=id hs
 have hTs:s.TypeIs (.ref sl) "slice":=⟨os,hos,hcs⟩
 unfold getItem
 try with_reducible refine aR ?_
 first|refine aa (af ?_)|skip
 refine aa (wpAny_sequenceKey ht.typeIs (by decide) ?_)
 refine aa (aW (name:=Str.ofString "__getitem__") ht.typeIs PyProof.Rows.slot_tuple_getitem
  (bf PyProof.Rows.slot_tuple_getitem ht.typeIs entry_tuple_getitem ?_ (args_tuple_getitem _ _)))
 show wpAny _ _ (Builtin.Tuple.tupleItemsOf (.ref t) >>= _) _ _ s
 refine aa (tupleItemsOf_ ht ?_)
 refine aa (wpAny_typeOf hTs ?_)
 rw[if_pos (by decide)]
 refine aa (bw' hs pl pu ?_)
 have hyes:(((sIx items.size 0 lo:Nat):Int) == 0&&(1:Int) == 1&&(sIx items.size items.size hi-sIx items.size 0 lo) == items.size)=true:=by
  rw[hw.1,hw.2]
  simp
 show wpAny _ _ (if(((sIx items.size 0 lo:Nat):Int) == 0&&(1:Int) == 1&&(sIx items.size items.size hi-sIx items.size 0 lo) == items.size)=true then _ else _) _ _ s
 rw[if_pos hyes]
 obtain⟨ot,hot,hct,nt,hdt⟩:=id ht
 refine aa (wpAny_mono (Q:=fun b s'=>b=true/\s'=s) (E:=E) ?_ ?_ (fun _ _ z=>z))
 .unfold Builtin.Tuple.tupleIsExact
  exact aa (wpAny_typeOf ht.typeIs (af ⟨rfl,rfl⟩))
 .rintro b s' ⟨rfl,rfl⟩
  rw[if_pos rfl]
  exact aa (cH (af ⟨_,rfl,af h⟩))
end
end HT
namespace L2
open PySem PySem.Spec PyProof.Rows
section
variable {X:Cx}
def pO' (K:W.Frag):V->Option Int->Option Int->Hp->VK->Prop:=fun x lo hi H Q=>∃a xs,x=.ref a/\SqT K H a xs/\(HT.sIx xs.length 0 lo=0/\HT.sIx xs.length xs.length hi=xs.length)/\Q (.ref a) H
theorem ki':SlR X (pO' X.K):=by
 intro pins s σ H x v vl vu lo hi sl Q I rx hs pl pu h
 obtain⟨a,xs,rfl,hx,hw,q⟩:=h
 cases rx
 obtain⟨its,r,ht,hz⟩:=I.tuple hx
 have hlen:its.toArray.size=xs.length:=by rw[aj];exact r.length.symm
 refine⟨"tuple",_,PyProof.Rows.slot_tuple_getitem.lookup,ht.typeIs,?_⟩
 exact HT.bS' ht hs pl pu (by rw[hlen];exact hw) ⟨.ref a,H,I,rfl,q⟩
end
section
variable {X:Cx} {pins:List (Addr×Obj)} {σ:St} {H:Hp} {s:Shared}
variable {X:Cx}
end
end L2
namespace HT
open PySem PyProof.Rows
section
variable {prog:Program} {w:World} {A:Around} {E:Value->Shared->Prop} {s:Shared}
end
end HT
namespace L2
open PySem PySem.Spec PyProof.Rows
section
variable {X:Cx} {e st:Expr} {te:TE} {p2 pos:Pos}
end
section
variable {prog:Program} {w:World} {A:Around} {E:Value->Shared->Prop} {s:Shared} {b0:Array Keyed} {κ:PyProof.Rows.KeyKind}
end
section
variable {X:Cx}
end
section
variable {prog:Program} {w:World} {A:Around} {E:Value->Shared->Prop} {s:Shared} {b0:Array Keyed} {κ:SortKind}
end
section
variable {X:Cx}
end
end L2
namespace So
open PySem PySem.Spec PyProof.Rows
def h7':Bool->Keyed->Array Keyed->Nat->Nat->Nat->StateT SortSt Sem (Option Nat):=sortPriv% PySem.Builtin.gallop
section
variable {M:Model} {A:Around} {E:Value->Shared->Prop} {s:Shared} {O:KeyOrd} {ky:Keyed->O.α} {P:Keyed->Prop} {kd:SortKind}
structure Cmp (M:Model) (A:Around) (E:Value->Shared->Prop) (s:Shared) (O:KeyOrd) (ky:Keyed->O.α) (P:Keyed->Prop) (kd:SortKind):Prop where
 lt:∀{x y:Keyed} {st:SortSt} {Q:Option Bool->SortSt->Prop},P x->P y->kindOf st=kd->Q (some (O.blt (ky x) (ky y))) st->wpS M A E s (lt' x y) Q st
theorem fo' {a:Array Keyed} {i:Nat} {x:Keyed} {Q:Keyed->SortSt->Prop} {st:SortSt} (e:a[i]?=some x) (h:Q x st):wpS M A E s (elem' a i) Q st:=by
 rw[elem'_eq,e];exact wpS_pure h
end
end So
namespace So
open PySem PySem.Spec PyProof.Rows
structure Mg (R:Keyed->Keyed->Prop) (T o ra rb:List Keyed):Prop where
 pm:(o++(ra++rb)).Perm T
 so:o.Pairwise R
 sa:ra.Pairwise R
 sb:rb.Pairwise R
 oa:∀x∈o,∀y∈ra,R x y
 ob:∀x∈o,∀y∈rb,R x y
section
variable {R:Keyed->Keyed->Prop} {T o ra rb:List Keyed}
theorem Mg.swap (m:Mg R T o ra rb):Mg R T o rb ra:=⟨(List.Perm.append_left o List.perm_append_comm).trans m.pm,m.so,m.sb,m.sa,m.ob,m.oa⟩
theorem Mg.put {u:List Keyed} (m:Mg R T o (u++ra) rb) (h:∀y∈u,∀z∈rb,R y z):Mg R T (o++u) ra rb:=by
 have⟨s1,s2,s3⟩:=aX.mp m.sa
 refine⟨?_,aX.mpr ⟨m.so,s1,fun x hx y hy=>m.oa x hx y (aD _ hy)⟩,s2,m.sb,?_,?_⟩
 .have:=m.pm;simpa[aV]using this
 .intro x hx y hy
  rcases al.mp hx with hx|hx
  .exact m.oa x hx y (ax _ hy)
  .exact s3 x hx y hy
 .intro x hx y hy
  rcases al.mp hx with hx|hx
  .exact m.ob x hx y hy
  .exact h x hx y hy
theorem Mg.put1 {u:Keyed} (m:Mg R T o (u :: ra) rb) (h:∀z∈rb,R u z):Mg R T (o++[u]) ra rb:=
 Mg.put (u:=[u]) m fun y hy=>by rw[bT]at hy;subst hy;exact h
theorem Mg.putB {u:List Keyed} (m:Mg R T o ra (u++rb)) (h:∀y∈u,∀z∈ra,R y z):Mg R T (o++u) ra rb:=(m.swap.put h).swap
theorem Mg.putB1 {u:Keyed} (m:Mg R T o ra (u :: rb)) (h:∀z∈ra,R u z):Mg R T (o++[u]) ra rb:=(m.swap.put1 h).swap
theorem Mg.fin (m:Mg R T o ra rb) (h:∀y∈ra,∀z∈rb,R y z):(o++(ra++rb)).Perm T/\(o++(ra++rb)).Pairwise R:=by
 refine⟨m.pm,aX.mpr ⟨m.so,aX.mpr ⟨m.sa,m.sb,h⟩,fun x hx y hy=>?_⟩⟩
 rcases al.mp hy with hy|hy
 .exact m.oa x hx y hy
 .exact m.ob x hx y hy
end
end So
namespace So
open PySem PySem.Spec PyProof.Rows
section
variable {M:Model} {A:Around} {E:Value->Shared->Prop} {s:Shared} {O:KeyOrd} {ky:Keyed->O.α} {P:Keyed->Prop} {kd:SortKind}
def c7' (st st':SortSt):Prop:=kindOf st'=kindOf st/\arrOf st'=arrOf st/\pendingOf st'=pendingOf st/\failedOf st'=failedOf st
theorem c7'.rfl' (st:SortSt):c7' st st:=⟨rfl,rfl,rfl,rfl⟩
theorem c7'.trans {a b c:SortSt} (h:c7' a b) (g:c7' b c):c7' a c:=⟨g.1.trans h.1,g.2.1.trans h.2.1,g.2.2.1.trans h.2.2.1,g.2.2.2.trans h.2.2.2⟩
theorem c7'.set (st:SortSt) (m:Nat):c7' st (SortSt.mk' (kindOf st) (arrOf st) (pendingOf st) m (failedOf st)):=⟨rfl,rfl,rfl,rfl⟩
def Rk (O:KeyOrd) (ky:Keyed->O.α) (p q:Keyed):Prop:=O.kle (ky p) (ky q)
theorem h8' {a:Array Keyed} {i:Nat} (h:i<a.size):∃p,a[i]?=some p/\p∈a.toList:=⟨a[i],by simp,by simp⟩
theorem h9' {a:Array Keyed} {i:Nat} {p:Keyed} (e:a[i]?=some p):a.toList.drop i=p :: a.toList.drop (i+1):=by
 have hi:i<a.size:=by
  rcases bc i a.size with h|h
  .exact h
  .rw[Array.getElem?_eq_none h]at e;cases e
 have:a[i]=p:=by rw[ay hi]at e;exact Option.some.inj e
 rw[List.drop_eq_getElem_cons (by simpa using hi)]
 simp[this]
theorem aJ' (a:Array Keyed) (i j:Nat):(a.extract i j).toList=(a.toList.drop i).take (j-i):=by
 simp[Array.toList_extract,List.extract_eq_take_drop]
theorem b1' (a:Array Keyed) (i:Nat):(a.extract i a.size).toList=a.toList.drop i:=by
 rw[aJ',cm];simp
theorem ia' (l:List Keyed) (i k:Nat):l.drop i=(l.drop i).take k++l.drop (i+k):=by
 rw[<- List.drop_drop,aL]
theorem a6' {a:Array Keyed} {i k:Nat} {p:Keyed} (h:p∈(a.toList.drop i).take k):∃n,n<k/\a[i+n]?=some p:=by
 obtain⟨n,hn,e⟩:=List.getElem_of_mem h
 have hl:n<k:=by simp at hn;omega
 refine⟨n,hl,?_⟩
 rw[List.getElem_take,cB]at e
 simp at hn
 rw[ay (by omega)]
 simpa using e
theorem a7' {a:Array Keyed} {i:Nat} {p:Keyed} (h:p∈a.toList.drop i):∃n,i<=n/\a[n]?=some p:=by
 obtain⟨n,hn,e⟩:=List.getElem_of_mem h
 refine⟨i+n,by omega,?_⟩
 rw[cB]at e
 simp at hn
 rw[ay (by omega)]
 simpa using e
theorem sO' {R:Keyed->Keyed->Prop} {a:Array Keyed} (h:a.toList.Pairwise R) {i j:Nat} {p q:Keyed} (hij:i<j) (e:a[i]?=some p) (e2:a[j]?=some q):R p q:=by
 have hj:j<a.size:=by
  rcases bc j a.size with h|h
  .exact h
  .rw[Array.getElem?_eq_none h]at e2;cases e2
 have h1:a[i]=p:=by rw[ay (by omega)]at e;exact Option.some.inj e
 have h2:a[j]=q:=by rw[ay hj]at e2;exact Option.some.inj e2
 have:=bV.mp h i j (by simp;omega) (by simp;omega) hij
 simpa[h1,h2]using this
theorem kj' {a:Array Keyed} (h:a.toList.Pairwise (Rk O ky)) {i j:Nat} {p q:Keyed} (hij:i<=j) (e:a[i]?=some p) (e2:a[j]?=some q):O.kle (ky p) (ky q):=by
 by_cases g:i=j
 .subst g;rw[e]at e2;cases e2;exact KeyOrd.kle_refl _
 .exact sO' h (by omega) e e2
end
end So
namespace So
open PySem PySem.Spec PyProof.Rows
section
variable {M:Model} {A:Around} {E:Value->Shared->Prop} {s:Shared} {O:KeyOrd} {ky:Keyed->O.α} {P:Keyed->Prop} {kd:SortKind} {x y:Array Keyed}
def kk' (O:KeyOrd) (ky:Keyed->O.α) (x y r:Array Keyed):Prop:=r.toList.Perm (x.toList++y.toList)/\r.toList.Pairwise (Rk O ky)
def Wk (O:KeyOrd) (ky:Keyed->O.α) (x y o:Array Keyed) (i j:Nat):Prop:=Mg (Rk O ky) (x.toList++y.toList) o.toList (x.toList.drop i) (y.toList.drop j)/\i<=x.size/\j<=y.size
theorem Wk.dn {o:Array Keyed} {i j:Nat} (w:Wk O ky x y o i j) (e:j=y.size):kk' O ky x y (o++x.extract i x.size++y.extract j y.size):=by
 subst e
 have:=w.1.fin (fun p _ q hq=>by rw[List.drop_eq_nil_of_le (by simp)]at hq;cases hq)
 unfold kk'
 rw[aQ,aQ,b1',b1',aV]
 exact this
theorem Wk.la {o:Array Keyed} {i j:Nat} (w:Wk O ky x y o i j) (e:i+1=x.size) (hl:∀p q,x[x.size-1]?=some p->q∈y.toList->O.klt (ky q) (ky p)):kk' O ky x y (o++y.extract j y.size++x.extract i x.size):=by
 have:=w.1.swap.fin (fun q hq p hp=>by
  obtain⟨n,hn,e2⟩:=a7' hp
  have:n<x.size:=by
   rcases bc n x.size with h|h
   .exact h
   .rw[Array.getElem?_eq_none h]at e2;cases e2
  have:n=x.size-1:=by omega
  subst this
  exact KeyOrd.kle_of_klt (hl p q e2 (bW hq)))
 unfold kk'
 rw[aQ,aQ,b1',b1',aV]
 exact this
theorem Wk.putB {o:Array Keyed} {i j:Nat} {p q:Keyed} (w:Wk O ky x y o i j) (e1:x[i]?=some p) (e2:y[j]?=some q) (h:O.kle (ky q) (ky p)) (hj:j<y.size) (sx:x.toList.Pairwise (Rk O ky)):Wk O ky x y (o.push q) i (j+1):=by
 refine⟨?_,w.2.1,hj⟩
 have m:=w.1
 rw[h9' e2]at m
 rw[cC]
 refine m.putB1 fun z hz=>?_
 obtain⟨n,hn,e3⟩:=a7' hz
 exact KeyOrd.kle_trans h (kj' sx hn e1 e3)
theorem Wk.putA {o:Array Keyed} {i j:Nat} {p q:Keyed} (w:Wk O ky x y o i j) (e1:x[i]?=some p) (e2:y[j]?=some q) (h:O.kle (ky p) (ky q)) (hi:i<x.size) (sy:y.toList.Pairwise (Rk O ky)):Wk O ky x y (o.push p) (i+1) j:=by
 refine⟨?_,hi,w.2.2⟩
 have m:=w.1
 rw[h9' e1]at m
 rw[cC]
 refine m.put1 fun z hz=>?_
 obtain⟨n,hn,e3⟩:=a7' hz
 exact KeyOrd.kle_trans h (kj' sy hn e2 e3)
theorem Wk.manyA {o:Array Keyed} {i j k:Nat} {q:Keyed} (w:Wk O ky x y o i j) (e2:y[j]?=some q) (h:∀n p,n<k->x[i+n]?=some p->O.kle (ky p) (ky q)) (hi:i+k<=x.size) (sy:y.toList.Pairwise (Rk O ky)):
  Wk O ky x y (o++x.extract i (i+k)) (i+k) j:=by
 refine⟨?_,hi,w.2.2⟩
 have m:=w.1
 rw[ia' _ i k]at m
 rw[aQ,aJ',cg]
 refine m.put fun p hp z hz=>?_
 obtain⟨n,hn,e3⟩:=a6' hp
 obtain⟨n2,hn2,e4⟩:=a7' hz
 exact KeyOrd.kle_trans (h n p hn e3) (kj' sy hn2 e2 e4)
theorem Wk.manyB {o:Array Keyed} {i j k:Nat} {p:Keyed} (w:Wk O ky x y o i j) (e1:x[i]?=some p) (h:∀n q,n<k->y[j+n]?=some q->O.klt (ky q) (ky p)) (hj:j+k<=y.size) (sx:x.toList.Pairwise (Rk O ky)):
  Wk O ky x y (o++y.extract j (j+k)) i (j+k):=by
 refine⟨?_,w.2.1,hj⟩
 have m:=w.1
 rw[ia' _ j k]at m
 rw[aQ,aJ',cg]
 refine m.putB fun q hq z hz=>?_
 obtain⟨n,hn,e3⟩:=a6' hq
 obtain⟨n2,hn2,e4⟩:=a7' hz
 exact KeyOrd.kle_trans (KeyOrd.kle_of_klt (h n q hn e3)) (kj' sx hn2 e1 e4)
abbrev SG:Type:=Option (Array Keyed)×Array Keyed×Nat×Nat×Nat×Nat×Nat
def Stp (O:KeyOrd) (ky:Keyed->O.α) (st:SortSt) (x y:Array Keyed) (b:Nat):ForInStep SG->SortSt->Prop:=fun r st'=>match r with
 | .done c=>c7' st st'/\((∃r,c.1=some r/\kk' O ky x y r)\/∃o i j mg ca cb,c=(none,o,i,j,mg,ca,cb)/\Wk O ky x y o i j/\i+1<x.size/\j<y.size/\b<=i+j)
 | .yield c=>c7' st st'/\∃o i j mg ca cb,c=(none,o,i,j,mg,ca,cb)/\Wk O ky x y o i j/\i+1<x.size/\j<y.size/\b<=i+j
end
end So
namespace So
open PySem PySem.Spec PyProof.Rows
def dnH (x y o:Array Keyed) (i j:Nat):Array Keyed:=x.extract 0 i++y.extract 0 j++o.reverse
def fbH (x y o:Array Keyed) (i j:Nat):Array Keyed:=y.extract 0 j++x.extract 0 i++o.reverse
abbrev TG:Type:=Option (Array Keyed)×Nat×Nat×Array Keyed×Nat×Nat×Nat
abbrev TI:Type:=Option (Array Keyed)×Nat×Nat×Array Keyed×Nat×Nat
abbrev TO:Type:=Option (Array Keyed)×Nat×Nat×Array Keyed×Nat
def hi3 (x y:Array Keyed) (i j:Nat) (o:Array Keyed) (mg ca cb:Nat):StateT SortSt Sem (ForInStep TG):=do
 let p <- elem' x (i-1)
 if(i-1 == 0)=true then pure (.done (some (dnH x y (o.push p) (i-1) j),i-1,j,o.push p,mg,ca,cb))
 else if(decide (ca<7)&&decide (cb<7))=true then pure (.done (none,i-1,j,o.push p,mg,ca,cb))else pure (.yield (none,i-1,j,o.push p,mg,ca,cb))
def hi2 (x y:Array Keyed) (i j:Nat) (o:Array Keyed) (mg ca cb:Nat):StateT SortSt Sem (ForInStep TG):=do
 let q <- elem' y (j-1)
 if(j-1 == 1)=true then pure (.done (some (fbH x y (o.push q) i (j-1)),i,j-1,o.push q,mg,ca,cb))
 else do
  let p <- elem' x (i-1)
  let r <- h7' true p y 0 (j-1) (j-1-1)
  match r with
  |some z=>
   if j-1-z > 0 then
    if(z == 1)=true then pure (.done (some (fbH x y (o.push q++(y.extract z (j-1)).reverse) i z),i,z,o.push q++(y.extract z (j-1)).reverse,mg,ca,j-1-z))
    else if(z == 0)=true then pure (.done (some (dnH x y (o.push q++(y.extract z (j-1)).reverse) i z),i,z,o.push q++(y.extract z (j-1)).reverse,mg,ca,j-1-z))
    else hi3 x y i z (o.push q++(y.extract z (j-1)).reverse) mg ca (j-1-z)
   else hi3 x y i (j-1) (o.push q) mg ca (j-1-z)
  |_=>pure (.done (some (dnH x y (o.push q) i (j-1)),i,j-1,o.push q,mg,ca,cb))
def hi1 (x y:Array Keyed) (i j:Nat) (o:Array Keyed) (mg ca cb:Nat):StateT SortSt Sem (ForInStep TG):=do
 modify fun st=>SortSt.mk' (kindOf st) (arrOf st) (pendingOf st) mg (failedOf st)
 let q <- elem' y (j-1)
 let r <- h7' false q x 0 i (i-1)
 match r with
 |some z=>
  if i-z > 0 then
   if(z == 0)=true then pure (.done (some (dnH x y (o++(x.extract z i).reverse) z j),z,j,o++(x.extract z i).reverse,mg,i-z,cb))
   else hi2 x y z j (o++(x.extract z i).reverse) mg (i-z) cb
  else hi2 x y i j o mg (i-z) cb
 |_=>pure (.done (some (dnH x y o i j),i,j,o,mg,ca,cb))
section
variable {M:Model} {A:Around} {E:Value->Shared->Prop} {s:Shared} {O:KeyOrd} {ky:Keyed->O.α} {P:Keyed->Prop} {kd:SortKind} {x y:Array Keyed}
theorem ao' {a:Array Keyed} {i:Nat} {p:Keyed} (e:a[i]?=some p):(a.toList.take (i+1)).reverse=p :: (a.toList.take i).reverse:=by
 have:a.toList[i]?=some p:=by simpa using e
 rw[List.take_add_one,this];simp
theorem bK' (a:Array Keyed) (i:Nat):(a.extract 0 i).toList=a.toList.take i:=by rw[aJ'];simp
theorem lp' (l:List Keyed) {z i:Nat} (h:z<=i):(l.take i).reverse=((l.drop z).take (i-z)).reverse++(l.take z).reverse:=by
 rw[<- List.reverse_append]
 congr 1
 rw[<- aL z (l.take i),List.take_take,List.drop_take]
 congr 2
 omega
theorem aZ' {a:Array Keyed} {i:Nat} {p:Keyed} (h:p∈(a.toList.take i).reverse):∃n,n<i/\a[n]?=some p:=by
 obtain⟨n,hn,e⟩:=a6' (a:=a) (i:=0) (k:=i) (p:=p) (by simpa using h)
 exact⟨n,hn,by simpa using e⟩
def Wh (O:KeyOrd) (ky:Keyed->O.α) (x y o:Array Keyed) (i j:Nat):Prop:=Mg (fun p q=>Rk O ky q p) (x.toList++y.toList) o.toList (x.toList.take i).reverse (y.toList.take j).reverse/\i<=x.size/\j<=y.size
theorem Wh.dn {o:Array Keyed} {i j:Nat} (w:Wh O ky x y o i j) (e:i=0):kk' O ky x y (x.extract 0 i++y.extract 0 j++o.reverse):=by
 subst e
 have⟨h1,h2⟩:=w.1.swap.fin (fun q _ p hp=>by simp at hp)
 unfold kk'
 have e:(x.extract 0 0++y.extract 0 j++o.reverse).toList=(o.toList++((y.toList.take j).reverse++(x.toList.take 0).reverse)).reverse:=by
  rw[aQ,aQ,bK',bK'];simp
 rw[e]
 exact⟨(List.reverse_perm _).trans h1,List.pairwise_reverse.mpr h2⟩
theorem Wh.fb {o:Array Keyed} {i j:Nat} (w:Wh O ky x y o i j) (e:j=1) (hf:∀p q,p∈x.toList->y[0]?=some q->O.klt (ky q) (ky p)):kk' O ky x y (y.extract 0 j++x.extract 0 i++o.reverse):=by
 subst e
 have⟨h1,h2⟩:=w.1.fin (fun p hp q hq=>by
  obtain⟨n,hn,e2⟩:=aZ' hq
  have:n=0:=by omega
  subst this
  exact KeyOrd.kle_of_klt (hf p q (bX (List.mem_reverse.mp hp)) e2))
 unfold kk'
 have e:(y.extract 0 1++x.extract 0 i++o.reverse).toList=(o.toList++((x.toList.take i).reverse++(y.toList.take 1).reverse)).reverse:=by
  rw[aQ,aQ,bK',bK'];simp
 rw[e]
 exact⟨(List.reverse_perm _).trans h1,List.pairwise_reverse.mpr h2⟩
theorem Wh.putA {o:Array Keyed} {i j:Nat} {p:Keyed} (w:Wh O ky x y o (i+1) j) (e1:x[i]?=some p) (h:∀n q,n<j->y[n]?=some q->O.kle (ky q) (ky p)):Wh O ky x y (o.push p) i j:=by
 refine⟨?_,by have:=w.2.1;omega,w.2.2⟩
 have m:=w.1
 rw[ao' e1]at m
 rw[cC]
 refine m.put1 fun z hz=>?_
 obtain⟨n,hn,e3⟩:=aZ' hz
 exact h n z hn e3
theorem Wh.putB {o:Array Keyed} {i j:Nat} {q:Keyed} (w:Wh O ky x y o i (j+1)) (e2:y[j]?=some q) (h:∀n p,n<i->x[n]?=some p->O.kle (ky p) (ky q)):Wh O ky x y (o.push q) i j:=by
 refine⟨?_,w.2.1,by have:=w.2.2;omega⟩
 have m:=w.1
 rw[ao' e2]at m
 rw[cC]
 refine m.putB1 fun z hz=>?_
 obtain⟨n,hn,e3⟩:=aZ' hz
 exact h n z hn e3
theorem Wh.manyA {o:Array Keyed} {i j z:Nat} (w:Wh O ky x y o i j) (hz:z<=i) (h:∀n p m q,z<=n->n<i->x[n]?=some p->m<j->y[m]?=some q->O.kle (ky q) (ky p)):Wh O ky x y (o++(x.extract z i).reverse) z j:=by
 refine⟨?_,by have:=w.2.1;omega,w.2.2⟩
 have m:=w.1
 rw[lp' _ hz]at m
 rw[aQ,Array.toList_reverse,aJ']
 refine m.put fun p hp q hq=>?_
 obtain⟨n,hn,e3⟩:=a6' (List.mem_reverse.mp hp)
 obtain⟨n2,hn2,e4⟩:=aZ' hq
 exact h _ p n2 q (by omega) (by omega) e3 hn2 e4
theorem Wh.manyB {o:Array Keyed} {i j z:Nat} (w:Wh O ky x y o i j) (hz:z<=j) (h:∀n q m p,z<=n->n<j->y[n]?=some q->m<i->x[m]?=some p->O.kle (ky p) (ky q)):Wh O ky x y (o++(y.extract z j).reverse) i z:=by
 refine⟨?_,w.2.1,by have:=w.2.2;omega⟩
 have m:=w.1
 rw[lp' _ hz]at m
 rw[aQ,Array.toList_reverse,aJ']
 refine m.putB fun q hq p hp=>?_
 obtain⟨n,hn,e3⟩:=a6' (List.mem_reverse.mp hq)
 obtain⟨n2,hn2,e4⟩:=aZ' hp
 exact h _ q n2 p (by omega) (by omega) e3 hn2 e4
end
end So
namespace So
open PySem PySem.Spec PyProof.Rows
section
variable {M:Model} {A:Around} {E:Value->Shared->Prop} {s:Shared} {O:KeyOrd} {ky:Keyed->O.α} {P:Keyed->Prop} {kd:SortKind}
end
end So
namespace So
open PySem PySem.Spec PyProof.Rows
section
variable {M:Model} {A:Around} {E:Value->Shared->Prop} {s:Shared} {O:KeyOrd} {ky:Keyed->O.α} {P:Keyed->Prop} {kd:SortKind} {st0:SortSt} {lo nrem:Nat}
def ke (ky:Keyed->O.α) (a:Array Keyed) (i:Nat):O.α:=ky ((a[i]?).getD (Value.none,Value.none))
theorem kl' {a:Array Keyed} {i:Nat} {p:Keyed} (h:a[i]?=some p):ke ky a i=ky p:=by unfold ke;rw[h];rfl
structure Sb (st0:SortSt) (lo:Nat) (st:SortSt):Prop where
 perm:(arrOf st).Perm (arrOf st0)
 same:∀i,i<lo->(arrOf st)[i]?=(arrOf st0)[i]?
 kind:kindOf st=kindOf st0
 fail:failedOf st=failedOf st0
 pend:pendingOf st=pendingOf st0
theorem Sb.rfl' (st0:SortSt) (lo:Nat):Sb st0 lo st0:=⟨Array.Perm.refl _,fun _ _=>rfl,rfl,rfl,rfl⟩
theorem Sb.size {st:SortSt} (B:Sb st0 lo st):(arrOf st).size=(arrOf st0).size:=B.perm.size_eq
theorem Sb.lt (C:Cmp M A E s O ky P kd) {st:SortSt} {i j:Nat} {Q:Option Bool->SortSt->Prop} (kst:kindOf st0=kd) (pa:∀p∈(arrOf st0).toList,P p) (B:Sb st0 lo st) (hi:i<(arrOf st0).size) (hj:j<(arrOf st0).size)
  (h:Q (some (O.blt (ke ky (arrOf st) i) (ke ky (arrOf st) j))) st):wpS M A E s (ltAt' i j) Q st:=by
 obtain⟨p,ep,mp⟩:=h8' (a:=arrOf st) (i:=i) (by rw[B.size];exact hi)
 obtain⟨q,eq,mq⟩:=h8' (a:=arrOf st) (i:=j) (by rw[B.size];exact hj)
 have pm:=Array.perm_iff_toList_perm.mp B.perm
 rw[ltAt'_eq]
 refine wpS_bind (wpS_get ?_)
 refine wpS_bind (fo' ep (wpS_bind (fo' eq (C.lt (pa p (pm.mem_iff.mp mp)) (pa q (pm.mem_iff.mp mq)) (B.kind.trans kst) ?_))))
 rw[kl' ep,kl' eq]at h
 exact h
def Si (ky:Keyed->O.α) (lo:Nat) (a:Array Keyed) (n:Nat):Prop:=∀i j,i<=j->j<n->O.kle (ke ky a (lo+i)) (ke ky a (lo+j))
def Ni (ky:Keyed->O.α) (lo:Nat) (a:Array Keyed) (n:Nat):Prop:=∀i j,i<=j->j<n->O.kle (ke ky a (lo+j)) (ke ky a (lo+i))
theorem Si.more {a:Array Keyed} {n:Nat} (h:Si ky lo a n) (h1:1<=n) (g:O.kle (ke ky a (lo+(n-1))) (ke ky a (lo+n))):Si ky lo a (n+1):=by
 intro i j hij hj
 by_cases c:j<n
 .exact h i j hij c
 .have e:j=n:=by omega
  subst e
  by_cases c2:i=j
  .subst c2;exact KeyOrd.kle_refl _
  .exact KeyOrd.kle_trans (h i (j-1) (by omega) (by omega)) g
theorem Ni.more {a:Array Keyed} {n:Nat} (h:Ni ky lo a n) (h1:1<=n) (g:O.kle (ke ky a (lo+n)) (ke ky a (lo+(n-1)))):Ni ky lo a (n+1):=by
 intro i j hij hj
 by_cases c:j<n
 .exact h i j hij c
 .have e:j=n:=by omega
  subst e
  by_cases c2:i=j
  .subst c2;exact KeyOrd.kle_refl _
  .exact KeyOrd.kle_trans g (h i (j-1) (by omega) (by omega))
end
end So
namespace So
open PySem PySem.Spec PyProof.Rows
section
variable {M:Model} {A:Around} {E:Value->Shared->Prop} {s:Shared} {O:KeyOrd} {ky:Keyed->O.α} {P:Keyed->Prop} {kd:SortKind} {st0:SortSt} {lo nrem:Nat}
end
end So
namespace So
open PySem PySem.Spec PyProof.Rows
def sP (lo n:Nat):StateT SortSt Sem (ForInStep (Option Unit×Nat)):=do
 modify fun s=>setPending s ((pendingOf s).push (lo,n,0))
 pure (ForInStep.yield (none,lo+n))
def sT (z lo n:Nat):StateT SortSt Sem (ForInStep (Option Unit×Nat)):=do
 let st <- get
 match (pendingOf st).back? with
 |some (s1,n1,_)=>do
  let r <- forIn [0:z] ((none,()):Option Unit×Unit) fun _ _=>do
   let st <- get
   match (if(pendingOf st).size > 1 then(pendingOf st)[(pendingOf st).size-2]? else none)with
   |some (_,_,older)=>(if older<=power' z (2*s1+n1) (2*s1+n1+n1+n) z then pure (ForInStep.done (none,()))else mergeAt' ((pendingOf st).size-2) >>= fun b=>if(!b)=true then pure (ForInStep.done (some (),()))else pure (ForInStep.yield (none,())))
   |_=>pure (ForInStep.done (none,()))
  match r.1 with
  |some v=>pure (ForInStep.done (some v,lo))
  |none=>do
   modify fun s=>setPending s ((pendingOf s).modify ((pendingOf s).size-1) fun(x:Nat×Nat×Nat)=>(x.1,x.2.1,power' z (2*s1+n1) (2*s1+n1+n1+n) z))
   sP lo n
 |_=>sP lo n
def sB (z mr lo:Nat):StateT SortSt Sem (ForInStep (Option Unit×Nat)):=
 if lo ≥ z then pure (ForInStep.done (none,lo))else countRun' lo (z-lo) >>= fun x=>match x with
  |some m=>if m<mr then(liftM (rule "list.sort.binary-insertion") >>= fun(_:Unit)=>binarySort' lo (min (z-lo) mr) m >>= fun b=>if(!b)=true then pure (ForInStep.done (some (),lo))else sT z lo (min (z-lo) mr))else sT z lo m
  |_=>pure (ForInStep.done (some (),lo))
section
variable {M:Model} {A:Around} {E:Value->Shared->Prop} {s:Shared} {O:KeyOrd} {ky:Keyed->O.α} {P:Keyed->Prop} {kd:SortKind} {st0:SortSt} {lo nrem:Nat}
inductive Rn (R:Keyed->Keyed->Prop):List (Nat×Nat×Nat)->List (List Keyed)->Nat->Prop
 |nil (a:Nat):Rn R [] [] a
 |cons {a:Nat} (w:Nat) {l:List Keyed} {p:List (Nat×Nat×Nat)} {L:List (List Keyed)}:0<l.length->l.Pairwise R->Rn R p L (a+l.length)->Rn R ((a,l.length,w) :: p) (l :: L) a
theorem Rn.len {R:Keyed->Keyed->Prop}:∀{p:List (Nat×Nat×Nat)} {L:List (List Keyed)} {a:Nat},Rn R p L a->p.length=L.length/\L.length<=L.flatten.length
 |_,_,_,.nil _=>⟨rfl,ak _⟩
 |_,_,_,.cons w h0 hs r=>by
  have⟨h1,h2⟩:=r.len
  refine⟨by simp[h1],?_⟩
  simp only[aY,bC,am];omega
theorem Rn.push {R:Keyed->Keyed->Prop} {l:List Keyed} (h0:0<l.length) (hs:l.Pairwise R):∀{p:List (Nat×Nat×Nat)} {L:List (List Keyed)} {a:Nat},Rn R p L a->∀b,b=a+L.flatten.length->Rn R (p++[(b,l.length,0)]) (L++[l]) a
 |_,_,a,.nil _,b,e=>by
  have:b=a:=by simpa using e
  subst this
  exact .cons 0 h0 hs (.nil _)
 |_,_,a,.cons w g0 gs r,b,e=>.cons w g0 gs (r.push h0 hs b (by rw[e,bC,am];omega))
theorem Rn.merge {R:Keyed->Keyed->Prop} {su nu pw sv nv pv:Nat}:∀{p:List (Nat×Nat×Nat)} {L:List (List Keyed)} {a i:Nat},Rn R p L a->p[i]?=some (su,nu,pw)->p[i+1]?=some (sv,nv,pv)->
  ∃L1 l1 l2 L2,L=L1++l1 :: l2 :: L2/\su=a+L1.flatten.length/\nu=l1.length/\sv=su+nu/\nv=l2.length/\0<nu/\0<nv/\l1.Pairwise R/\l2.Pairwise R/\
   ∀m,m.length=nu+nv->m.Pairwise R->Rn R ((p.set i (su,nu+nv,pw)).eraseIdx (i+1)) (L1++m :: L2) a
 |_,_,a,i,.nil _,e,_=>by simp at e
 |_,_,a,0,@Rn.cons _ _ w l p L h0 hs r,e,e2=>by
  have e':(a,l.length,w)=(su,nu,pw):=by simpa using e
  have e2':p[0]?=some (sv,nv,pv):=by simpa using e2
  obtain⟨rfl,rfl,rfl⟩:a=su/\l.length=nu/\w=pw:=by simpa using e'
  cases r with
  |nil _=>simp at e2'
  | @cons _ w2 l2 p2 L2 g0 gs r2=>
   obtain⟨rfl,rfl,rfl⟩:a+l.length=sv/\l2.length=nv/\w2=pv:=by simpa using e2'
   refine⟨[],l,l2,L2,rfl,by simp,rfl,rfl,rfl,h0,g0,hs,gs,fun m hm hsm=>?_⟩
   show Rn R ((a,l.length+l2.length,w) :: p2) (m :: L2) a
   rw[<- hm]
   refine .cons w (by omega) hsm ?_
   rw[hm,<- Nat.add_assoc];exact r2
 |_,_,a,i+1,@Rn.cons _ _ w l p L h0 hs r,e,e2=>by
  have e':p[i]?=some (su,nu,pw):=by simpa using e
  have e2':p[i+1]?=some (sv,nv,pv):=by simpa using e2
  obtain⟨L1,l1,l2,L2,rfl,a1,a2,a3,a4,a5,a6,a7,a8,a9⟩:=r.merge e' e2'
  refine⟨l :: L1,l1,l2,L2,rfl,by rw[a1,bC,am];omega,a2,a3,a4,a5,a6,a7,a8,fun m hm hsm=>?_⟩
  have:=a9 m hm hsm
  exact .cons w h0 hs this
structure Wt (O:KeyOrd) (ky:Keyed->O.α) (kd:SortKind) (a0:Array Keyed) (st:SortSt) (L:List (List Keyed)) (T:List Keyed):Prop where
 ar:(arrOf st).toList=L.flatten++T
 rn:Rn (Rk O ky) (pendingOf st).toList L 0
 pm:(arrOf st).toList.Perm a0.toList
 kd:kindOf st=kd
 fl:failedOf st=none
theorem Wt.size {a0:Array Keyed} {st:SortSt} {L:List (List Keyed)} {T:List Keyed} (w:Wt O ky kd a0 st L T):(arrOf st).size=a0.size:=by
 have:=w.pm.length_eq;simpa using this
theorem Wt.pa {a0:Array Keyed} {st:SortSt} {L:List (List Keyed)} {T:List Keyed} (w:Wt O ky kd a0 st L T) (pa:∀p∈a0.toList,P p):∀p∈(arrOf st).toList,P p:=fun p hp=>pa p (w.pm.mem_iff.mp hp)
theorem Sb.split {U T:List Keyed} {st:SortSt} {n:Nat} (B:Sb st0 lo st) (e:(arrOf st0).toList=U++T) (hl:U.length=lo) (hn:lo+n<=(arrOf st0).size) (S:Si ky lo (arrOf st) n):
  ∃l T',(arrOf st).toList=U++(l++T')/\l.length=n/\l.Pairwise (Rk O ky):=by
 have hz:(arrOf st).toList.length=(arrOf st0).size:=by rw[au];exact B.size
 have eU:(arrOf st).toList.take lo=U:=by
  apply bZ
  intro i
  by_cases hi:i<lo
  .rw[List.getElem?_take_of_lt hi]
   have h1:=B.same i hi
   have h2:(arrOf st0).toList[i]?=U[i]?:=by rw[e,bE (by omega)]
   rw[<- h2];simpa using h1
  .rw[bd (by rw[aF];omega),bd (by omega)]
 refine⟨((arrOf st).toList.drop lo).take n,(arrOf st).toList.drop (lo+n),?_,by rw[aF,bQ];omega,?_⟩
 .rw[<- eU,<- ia',aL]
 .rw[bV]
  intro i j hi hj hij
  have hj':j<n:=by rw[aF]at hj;omega
  have:=S i j (by omega) hj'
  have a1:(arrOf st)[lo+i]?=some (((arrOf st).toList.drop lo).take n)[i]:=by
   rw[List.getElem_take,cB,ay (by simp at hz;omega)];simp
  have a2:(arrOf st)[lo+j]?=some (((arrOf st).toList.drop lo).take n)[j]:=by
   rw[List.getElem_take,cB,ay (by simp at hz;omega)];simp
  rw[kl' a1,kl' a2]at this
  exact this
end
end So
namespace So
open PySem PySem.Spec PyProof.Rows
section
variable {M:Model} {A:Around} {E:Value->Shared->Prop} {s:Shared} {O:KeyOrd} {ky:Keyed->O.α} {P:Keyed->Prop} {kd:SortKind}
end
end So
namespace L2
open PySem PySem.Spec PyProof.Rows So
section
variable {prog:Program} {w:World} {A:Around} {E:Value->Shared->Prop} {s:Shared}
end
section
variable {X:Cx}
end
abbrev Itm:Type:=Int ⊕ PySem.Str
def uM':Itm->Itm->Bool
 | .inl i,.inl j=>decide (i<j)
 | .inl _,.inr _=>true
 | .inr _,.inl _=>false
 | .inr x,.inr y=>decide (x.cps.toList<y.cps.toList)
def pP':List Itm->List Itm->Bool
 | [],[]=>false
 | [],_ :: _=>true
 |_ :: _,[]=>false
 |a :: l,b :: m=>if a=b then pP' l m else uM' a b
def uN':Itm->Value->Prop
 | .inl i,v=>∃t,v=.int i t
 | .inr x,v=>∃t,v=.str x t
inductive ItsAre:List Value->List Itm->Prop
 |nil:ItsAre [] []
 |cons {v:Value} {a:Itm} {vs:List Value} {l:List Itm}:uN' a v->ItsAre vs l->ItsAre (v :: vs) (a :: l)
theorem ItsAre.len:∀{vs:List Value} {l:List Itm},ItsAre vs l->vs.length=l.length
 |_,_,.nil=>rfl
 |_,_,.cons _ r=>by simp[r.len]
section
variable {prog:Program} {w:World} {A:Around} {E:Value->Shared->Prop} {s:Shared}
end
section
variable {X:Cx}
end
end L2
namespace PySem
def Rsn (xs:Array Nat):Prop:=xs.toList.Pairwise (· < ·)
theorem cM' {xs:Array Nat} (hr:Rsn xs) {i j:Nat} (hij:i<j) (hj:j<xs.size):xs[i]'(by omega)<xs[j]:=by
 have:=bV.mp hr i j (by rw[au];omega) (by rw[au];omega) hij
 simpa using this
theorem dH' {xs:Array Nat} (hr:Rsn xs) (j:Nat):∀(f lo hi:Nat),lo<=hi->hi<=xs.size->hi-lo<=f->(∀i (h:i<xs.size),i<lo->xs[i]<j)->(∀i (h:i<xs.size),hi<=i->j<=xs[i])->
  SetTable.below.go xs j f lo hi<=xs.size/\(∀i (h:i<xs.size),i<SetTable.below.go xs j f lo hi->xs[i]<j)/\(∀i (h:i<xs.size),SetTable.below.go xs j f lo hi<=i->j<=xs[i])
 |0,lo,hi,h1,h2,h3,a,b=>by
  have e:lo=hi:=by omega
  subst e
  exact⟨h2,a,b⟩
 |f+1,lo,hi,h1,h2,h3,a,b=>by
  unfold SetTable.below.go
  by_cases hl:lo<hi
  .rw[if_pos hl]
   dsimp only
   have hm:(lo+hi) / 2<xs.size:=by omega
   have eg:xs.getD ((lo+hi) / 2) j=xs[(lo+hi) / 2]:=by simp[Array.getD,hm]
   rw[eg]
   by_cases hx:xs[(lo+hi) / 2]<j
   .rw[if_pos hx]
    refine dH' hr j f _ _ (by omega) h2 (by omega) (fun i h hi'=>?_) b
    by_cases e:i=(lo+hi) / 2
    .subst e;exact hx
    .exact Nat.lt_trans (cM' hr (by omega) hm) hx
   .rw[if_neg hx]
    refine dH' hr j f _ _ (by omega) (by omega) (by omega) a fun i h hi'=>?_
    by_cases e:i=(lo+hi) / 2
    .subst e;omega
    .have:=cM' hr (i:=(lo+hi) / 2) (j:=i) (by omega) h
     omega
  .rw[if_neg hl]
   have e:lo=hi:=by omega
   subst e
   exact⟨h2,a,b⟩
theorem dI' {xs:Array Nat} (hr:Rsn xs) (j:Nat):SetTable.below xs j<=xs.size/\(∀i (h:i<xs.size),i<SetTable.below xs j->xs[i]<j)/\(∀i (h:i<xs.size),SetTable.below xs j<=i->j<=xs[i]):=
 dH' hr j _ _ _ (bh _) (ak _) (ak _) (fun _ _ z=>absurd z (bi _)) fun i h z=>absurd h (by omega)
theorem fp' {xs:Array Nat} (hr:Rsn xs) {j:Nat} (h:xs[SetTable.below xs j]?≠some j):j∉xs.toList:=by
 intro hm
 obtain⟨i,hi,e⟩:=cD.mp hm
 rw[au]at hi
 rw[Array.getElem_toList]at e
 obtain⟨h1,h2,h3⟩:=dI' hr j
 have hle:SetTable.below xs j<=i:=Nat.le_of_not_lt fun z=>by have:=h2 i hi z;omega
 by_cases hq:SetTable.below xs j=i
 .rw[hq]at h
  exact h (by rw[ay hi,e])
 .have:=cM' hr (i:=SetTable.below xs j) (j:=i) (by omega) hi
  have:=h3 _ (by omega) (ak (SetTable.below xs j))
  omega
theorem gy' {xs:Array Nat} (hr:Rsn xs) {j:Nat} (h:xs[SetTable.below xs j]?≠some j):Rsn (SetTable.insertAt xs (SetTable.below xs j) j):=by
 obtain⟨h1,h2,h3⟩:=dI' hr j
 have hn:=fp' hr h
 unfold Rsn
 rw[SetTable.toList_insertAt]
 first
 |rw[aV,List.singleton_append]
 |skip
 rw[aX,List.pairwise_cons]
 have hT:∀a∈xs.toList.take (SetTable.below xs j),a<j:=by
  intro a ha
  obtain⟨i,hi,e⟩:=cD.mp ha
  rw[aF,au]at hi
  rw[List.getElem_take,Array.getElem_toList]at e
  have:=h2 i (by omega) (by omega)
  omega
 have hD:∀b∈xs.toList.drop (SetTable.below xs j),j<b:=by
  intro b hb
  obtain⟨i,hi,e⟩:=cD.mp hb
  rw[bQ,au]at hi
  rw[cB,Array.getElem_toList]at e
  have:=h3 (SetTable.below xs j+i) (by omega) (by omega)
  have hne:b≠j:=fun z=>hn (z ▸ bW hb)
  omega
 refine⟨hr.sublist (List.take_sublist _ _),⟨hD,hr.sublist (List.drop_sublist _ _)⟩,fun a ha b hb=>?_⟩
 rcases aq.mp hb with rfl|hb
 .exact hT a ha
 .exact Nat.lt_trans (hT a ha) (hD b hb)
def TOk (bt:Bool) (t:SetTable):Prop:=bt=true\/t.led=true/\Rsn t.place
end PySem
namespace PySem
namespace Ts
open SetTable
def u (x:Nat):Nat->Nat
 |0=>x
 |n+1=>5*u x n+1
theorem nr' (x a:Nat):∀b,u x (a+b)=u (u x a) b
 |0=>rfl
 |b+1=>by show 5*u x (a+b)+1=5*u (u x a) b+1;rw[nr' x a b]
theorem ns' (x:Nat):∀n,u x n=5 ^ n*x+u 0 n
 |0=>by simp[u]
 |n+1=>by
  show 5*u x n+1=5 ^ (n+1)*x+(5*u 0 n+1)
  rw[ns' x n,cK]
  have:5 ^ n*5*x=5*(5 ^ n*x):=by rw[cJ (5 ^ n) 5,bM]
  omega
theorem ib':∀n,4*u 0 n+1=5 ^ n
 |0=>rfl
 |n+1=>by
  have:=ib' n
  rw[cK]
  show 4*(5*u 0 n+1)+1=_
  omega
theorem sP' (k:Nat):∃c,u 0 (2 ^ k)=2 ^ k*(2*c+1):=by
 induction k with
 |zero=>exact⟨0,rfl⟩
 |succ k ih=>
  obtain⟨c,hc⟩:=ih
  have h1:u 0 (2 ^ (k+1))=5 ^ (2 ^ k)*u 0 (2 ^ k)+u 0 (2 ^ k):=by
   rw[cK,Nat.mul_two,nr',ns' (u 0 (2 ^ k))]
  have h2:=ib' (2 ^ k)
  rw[<- h2]at h1
  generalize hs:u 0 (2 ^ k)=S at h1 hc
  rw[h1,cK]
  generalize 2 ^ k=p at hc
  refine⟨(2*c+1)*S+c,?_⟩
  have e1:p*((2*c+1)*S)=S*S:=by rw[<- bM,<- hc]
  have e2:(4*S+1)*S=4*(S*S)+S:=by rw[Nat.add_mul,Nat.one_mul,bM]
  have e3:p*2*(2*((2*c+1)*S+c)+1)=4*(p*((2*c+1)*S))+2*(p*(2*c+1)):=by
   rw[show 2*((2*c+1)*S+c)+1=2*((2*c+1)*S)+(2*c+1) by omega,Nat.mul_add,cJ p 2]
   generalize (2*c+1)*S=q
   rw[bM 2 p (2*q),Nat.mul_left_comm p 2 q,bM 2 p (2*c+1)]
   omega
  rw[e2,e3,e1,<- hc]
  omega
theorem pQ' (z k:Nat):u z (2 ^ k) % 2 ^ (k+1)=(z+2 ^ k) % 2 ^ (k+1):=by
 obtain⟨c,hc⟩:=sP' k
 have h2:=ib' (2 ^ k)
 rw[ns',<- h2,hc,cK]
 generalize 2 ^ k=p
 have e:(4*(p*(2*c+1))+1)*z+p*(2*c+1)=z+p+p*2*(2*(2*c+1)*z+c):=by
  rw[Nat.add_mul,Nat.one_mul,Nat.mul_add (p*2)]
  have e1:4*(p*(2*c+1))*z=p*2*(2*(2*c+1)*z):=by
   rw[bM p 2,<- bM 2 (2*(2*c+1)) z,<- bM 2 2,Nat.mul_left_comm 4 p,bM p]
  have e2:p*(2*c)=p*2*c:=by rw[bM]
  have e3:p*(2*c+1)=p*(2*c)+p:=by rw[Nat.mul_add,Nat.mul_one]
  rw[e1,e3]
  omega
 rw[e,Nat.add_mul_mod_self_left]
theorem cyc:∀(k x y:Nat),∃n,n<2 ^ k/\u x n % 2 ^ k=y % 2 ^ k
 |0,x,y=>⟨0,by decide,by rw[Nat.pow_zero,Nat.mod_one,Nat.mod_one]⟩
 |k+1,x,y=>by
  obtain⟨n,hn,e⟩:=cyc k x y
  have hp:0<2 ^ k:=Nat.pow_pos (by decide)
  have h2:2 ^ (k+1)=2*2 ^ k:=by rw[cK,cJ]
  by_cases h:u x n % 2 ^ (k+1)=y % 2 ^ (k+1)
  .exact⟨n,by omega,h⟩
  .refine⟨n+2 ^ k,by omega,?_⟩
   rw[nr',pQ']
   generalize u x n=z at e h ⊢
   rw[h2]at h ⊢
   generalize 2 ^ k=p at e h hp ⊢
   have a1:z % (2*p)=z % p\/z % (2*p)=z % p+p:=by
    have:=Nat.mod_two_eq_zero_or_one (z / p)
    rw[cJ 2 p,Nat.mod_mul]
    rcases this with q|q<;>rw[q]<;>simp
   have a2:y % (2*p)=y % p\/y % (2*p)=y % p+p:=by
    have:=Nat.mod_two_eq_zero_or_one (y / p)
    rw[cJ 2 p,Nat.mod_mul]
    rcases this with q|q<;>rw[q]<;>simp
   rw[Nat.add_mod,cF (show p<2*p by omega)]
   have b1:=Nat.mod_lt z hp
   rcases a1 with q1|q1<;>rcases a2 with q2|q2
   .omega
   .rw[q1,q2,e,cF (by omega)]
   .rw[q1,q2,e,show y % p+p+p=y % p+2*p by omega,Nat.add_mod_right,cF (by omega)]
   .omega
end Ts
end PySem
namespace PySem
namespace Ts
open SetTable
def nxt (m:Nat) (p:Probe):Probe:=if p.more > 0 then { p with j:=p.j+1,more:=p.more-1 } else
 { p with j:=(leap m p.i p.perturb).1,more:=runEnd m (leap m p.i p.perturb).1-(leap m p.i p.perturb).1,i:=(leap m p.i p.perturb).1,perturb:=(leap m p.i p.perturb).2 }
def Pj (m:Nat) (h:Int):Nat->Probe
 |0=>{ j:=bits h % (m+1),more:=runEnd m (bits h % (m+1))-bits h % (m+1),i:=bits h % (m+1),perturb:=bits h,dummy:=none }
 |n+1=>nxt m (Pj m h n)
theorem km' (t:SetTable) (h:Int):t.probeStart h=Pj t.mask h 0:=rfl
theorem lq' (t:SetTable) (h:Int) (n:Nat):t.advance (Pj t.mask h n)=Pj t.mask h (n+1):=by
 show t.advance (Pj t.mask h n)=nxt t.mask (Pj t.mask h n)
 rfl
def Lp (m:Nat) (h:Int):Nat->Nat×Nat
 |0=>(bits h % (m+1),bits h)
 |l+1=>leap m (Lp m h l).1 (Lp m h l).2
def mo (m i:Nat):Nat:=runEnd m i-i
theorem sQ' {m i:Nat}:mo m i<=9:=by unfold mo runEnd;split<;>omega
theorem pR' {m i k:Nat} (hi:i<=m) (hk:k<=mo m i):i+k<=m:=by
 unfold mo runEnd at hk
 split at hk<;>omega
def sg (m:Nat) (h:Int):Nat->Nat
 |0=>0
 |l+1=>sg m h l+mo m (Lp m h l).1+1
theorem pS' (m:Nat) (h:Int):∀l,sg m h l<=10*l
 |0=>ak _
 |l+1=>by
  have:=pS' m h l
  have:=@sQ' m (Lp m h l).1
  show sg m h l+mo m (Lp m h l).1+1<=_
  omega
theorem eX' {m:Nat} {h:Int} {l b:Nat} (e:Pj m h b={ j:=(Lp m h l).1,more:=mo m (Lp m h l).1,i:=(Lp m h l).1,perturb:=(Lp m h l).2,dummy:=none }):∀k,k<=mo m (Lp m h l).1->Pj m h (b+k)={ j:=(Lp m h l).1+k,more:=mo m (Lp m h l).1-k,i:=(Lp m h l).1,perturb:=(Lp m h l).2,dummy:=none }
 |0,_=>by rw[Nat.add_zero,e];rfl
 |k+1,hk=>by
  have ih:=eX' e k (by omega)
  show nxt m (Pj m h (b+k))=_
  rw[ih]
  unfold nxt
  rw[if_pos (by show mo m _-k > 0;omega)]
  rfl
theorem ic' (m:Nat) (h:Int):∀l,Pj m h (sg m h l)={ j:=(Lp m h l).1,more:=mo m (Lp m h l).1,i:=(Lp m h l).1,perturb:=(Lp m h l).2,dummy:=none }
 |0=>rfl
 |l+1=>by
  have e:=eX' (ic' m h l) _ (ak _)
  show nxt m (Pj m h (sg m h l+mo m (Lp m h l).1))=_
  rw[e]
  unfold nxt
  rw[if_neg (by show ¬(_-_ > 0);omega)]
  rfl
theorem dh' {m:Nat} {h:Int} {l k:Nat} (hk:k<=mo m (Lp m h l).1):Pj m h (sg m h l+k)={ j:=(Lp m h l).1+k,more:=mo m (Lp m h l).1-k,i:=(Lp m h l).1,perturb:=(Lp m h l).2,dummy:=none }:=eX' (ic' m h l) k hk
theorem fq' {m:Nat} {h:Int}:∀{l n:Nat},n<sg m h l->∃l' k',l'<l/\k'<=mo m (Lp m h l').1/\n=sg m h l'+k'
 |0,n,hn=>absurd hn (bi _)
 |l+1,n,hn=>by
  have hn:n<sg m h l+mo m (Lp m h l).1+1:=hn
  by_cases q:n<sg m h l
  .obtain⟨l',k',h1,h2,h3⟩:=fq' q
   exact⟨l',k',by omega,h2,h3⟩
  .exact⟨l,n-sg m h l,by omega,by omega,by omega⟩
theorem fr' {m:Nat} {h:Int} (n:Nat):∃l k,k<=mo m (Lp m h l).1/\n=sg m h l+k:=by
 have hle:∀l,l<=sg m h l:=fun l=>by
  induction l with
  |zero=>exact ak _
  |succ l ih=>show l+1<=sg m h l+mo m (Lp m h l).1+1;omega
 obtain⟨l',k',_,h2,h3⟩:=fq' (m:=m) (h:=h) (l:=n+1) (n:=n) (ag (Nat.lt_succ_self n) (hle (n+1)))
 exact⟨l',k',h2,h3⟩
theorem kn' {m:Nat} {h:Int} {n:Nat}:(Pj m h n).dummy=none:=by
 obtain⟨l,k,hk,rfl⟩:=fr' (m:=m) (h:=h) n
 rw[dh' hk]
theorem nt' {m:Nat} {h:Int}:∀{l:Nat},(Lp m h l).1<=m
 |0=>bD (Nat.mod_lt _ (Nat.succ_pos _))
 |l+1=>bD (Nat.mod_lt _ (Nat.succ_pos _))
theorem sR' {m:Nat} {h:Int} {n:Nat}:(Pj m h n).j<=m:=by
 obtain⟨l,k,hk,rfl⟩:=fr' (m:=m) (h:=h) n
 rw[dh' hk]
 exact pR' nt' hk
theorem id' {m:Nat} {h:Int}:∀{l:Nat},(Lp m h l).2=bits h / 32 ^ l
 |0=>by show bits h=_;simp
 |l+1=>by
  show(Lp m h l).2 / 32=_
  rw[id',Nat.div_div_eq_div_mul,cK]
theorem nu' (h:Int):bits h<2 ^ 64:=by
 unfold bits
 have:=cq h (show(0:Int)<2 ^ 64 by decide)
 have:=Int.emod_nonneg h (show(2 ^ 64:Int)≠0 by decide)
 omega
theorem nv' {m:Nat} {h:Int} {l:Nat} (hl:13<=l):(Lp m h l).2=0:=by
 rw[id']
 refine Nat.div_eq_of_lt (ag (nu' h) ?_)
 exact aS (show 2 ^ 64<=32 ^ 13 by decide) (Nat.pow_le_pow_right (by decide) hl)
theorem t6' {m:Nat} {h:Int}:∀{n:Nat},(Lp m h (13+n)).1=u (Lp m h 13).1 n % (m+1)
 |0=>(cF (Nat.lt_succ_of_le nt')).symm
 |n+1=>by
  show((Lp m h (13+n)).1*5+1+(Lp m h (13+n)).2 / 32) % (m+1)=(5*u _ n+1) % (m+1)
  rw[nv' (by omega),t6' (n:=n),Nat.zero_div,Nat.add_zero,cJ]
  rw[Nat.add_mod,Nat.mul_mod,Nat.mod_mod,<- Nat.mul_mod,<- Nat.add_mod]
theorem pT' {m k:Nat} (hk:m+1=2 ^ k) (h:Int) {y:Nat} (hy:y<=m):∃l,l<m+14/\(Lp m h l).1=y:=by
 obtain⟨n,hn,e⟩:=cyc k (Lp m h 13).1 y
 refine⟨13+n,by omega,?_⟩
 rw[t6',hk,e,<- hk,cF (by omega)]
theorem pU' {m k:Nat} (hk:m+1=2 ^ k) (h:Int) {y:Nat} (hy:y<=m):∃n,n<10*(m+14)/\(Pj m h n).j=y:=by
 obtain⟨l,hl,e⟩:=pT' hk h hy
 have:=pS' m h l
 exact⟨sg m h l,by omega,by rw[ic'];exact e⟩
theorem sS' {P:Nat->Prop} {n:Nat} (h:P n):∃m,m<=n/\P m/\∀i,i<m->¬P i:=by
 induction n using Nat.strongRecOn with
 |ind n ih=>
  by_cases q:∃i,i<n/\P i
  .obtain⟨i,hi,pi⟩:=q
   obtain⟨m,h1,h2,h3⟩:=ih i hi pi
   exact⟨m,by omega,h2,h3⟩
  .exact⟨n,ak _,h,fun i hi pi=>q ⟨i,hi,pi⟩⟩
theorem ie':∀{l b:List Nat},l.Nodup->(∀i∈l,i∈b)->l.length<=b.length
 | [],_,_,_=>bh _
 |a :: l,b,h,hs=>by
  have ha:a∈b:=hs a (by simp)
  have:=ie' (l:=l) (b:=b.erase a) (bG.mp h).2 fun i hi=>by
   have hne:i≠a:=fun e=>(bG.mp h).1 (by rw[<- e];exact hi)
   exact(List.mem_erase_of_ne hne).mpr (hs i (by simp[hi]))
  rw[List.length_erase_of_mem ha]at this
  have:=List.length_pos_of_mem ha
  rw[aY]
  omega
theorem if' {m:Nat} {l:List Nat} (h:l.length<=m):∃y,y<=m/\y∉l:=Classical.byContradiction fun z=>by
 have:=ie' (l:=aH (m+1)) (b:=l) List.nodup_range fun i hi=>Classical.byContradiction fun q=>z ⟨i,bD (aT.mp hi),q⟩
 rw[bo]at this
 omega
structure TabOk (t:SetTable) (es:Array (Int×Value)):Prop where
 rise:Rsn t.place
 le:∀p∈t.place.toList,p<=t.mask
 size:t.place.size=es.size
 dum:t.dummies=#[]
 pow:∃k,t.mask+1=2 ^ k
 room:t.place.size<=t.mask
 met:∀q∈t.place.toList.zip es.toList,∃n,(Pj t.mask q.2.1 n).j=q.1/\∀n',n'<n->(Pj t.mask q.2.1 n').j∈t.place.toList
theorem nw' {t:SetTable} (hr:Rsn t.place) (hd:t.dummies=#[]) (j:Nat):(∃i,t.slot j=.live i/\t.place[i]?=some j)\/(t.slot j=.empty/\j∉t.place.toList):=by
 unfold SetTable.slot
 by_cases h:t.place[below t.place j]?=some j
 .exact .inl ⟨below t.place j,by simp[h],h⟩
 .refine .inr ⟨?_,fp' hr h⟩
  have h1:(t.place[below t.place j]? == some j)=false:=by simpa using h
  rw[hd]
  simp only[h1]
  rfl
theorem TabOk.end {t:SetTable} {es:Array (Int×Value)} (T:TabOk t es) (h:Int):∃N,N<10*(t.mask+14)/\(Pj t.mask h N).j∉t.place.toList/\∀n,n<N->(Pj t.mask h n).j∈t.place.toList:=by
 obtain⟨y,hy,hn⟩:=if' (m:=t.mask) (l:=t.place.toList) (by rw[au];exact T.room)
 obtain⟨k,hk⟩:=T.pow
 obtain⟨n,h1,h2⟩:=pU' hk h hy
 obtain⟨N,g1,g2,g3⟩:=sS' (P:=fun n=>(Pj t.mask h n).j∉t.place.toList) (n:=n) (by rw[h2];exact hn)
 exact⟨N,by omega,g2,fun i hi=>Classical.byContradiction (g3 i hi)⟩
theorem ft' {t:SetTable} (hr:Rsn t.place) (hd:t.dummies=#[]) (hat:Nat->Int) (h:Int) {N:Nat} (hN:(Pj t.mask h N).j∉t.place.toList) (hB:∀n,n<N->(Pj t.mask h n).j∈t.place.toList):∀(f n:Nat),n<=N->N-n<f->
  (probe.go t hat h f (Pj t.mask h n)=some (.empty (Pj t.mask h N).j none)/\∀n' i,n<=n'->n'<N->t.place[i]?=some (Pj t.mask h n').j->hat i≠h)\/
  ∃n' i,n<=n'/\n'<N/\t.place[i]?=some (Pj t.mask h n').j/\t.slot (Pj t.mask h n').j=.live i/\hat i=h/\probe.go t hat h f (Pj t.mask h n)=some (.candidate (Pj t.mask h n').j i (Pj t.mask h (n'+1)))/\∀n'' i',n<=n''->n''<n'->t.place[i']?=some (Pj t.mask h n'').j->hat i'≠h
 |0,n,_,hf=>absurd hf (bi _)
 |f+1,n,hn,hf=>by
  have uniq:∀{i i':Nat} {x:Nat},t.place[i]?=some x->t.place[i']?=some x->i=i':=by
   intro i i' x e e'
   obtain⟨q1,q2⟩:=aU.mp e
   obtain⟨q3,q4⟩:=aU.mp e'
   rcases Nat.lt_trichotomy i i' with z|z|z
   .have:=cM' hr z q3;omega
   .exact z
   .have:=cM' hr z q1;omega
  unfold probe.go
  rcases nw' hr hd (Pj t.mask h n).j with⟨i,hs,hp⟩|⟨hs,hp⟩
  .rw[hs]
   dsimp only
   have hlt:n<N:=by
    rcases bc n N with z|z
    .exact z
    .have e:n=N:=by omega
     subst e
     exact absurd (by rw[bL];exact Array.mem_of_getElem? hp) hN
   by_cases hq:hat i=h
   .right
    refine⟨n,i,ak _,hlt,hp,hs,hq,?_,fun n'' _ a b=>absurd b (by omega)⟩
    rw[if_pos (by simpa using hq),lq']
   .rw[if_neg (by simpa using hq),lq']
    rcases ft' hr hd hat h hN hB f (n+1) (by omega) (by omega)with⟨e,z⟩|⟨n',i',a1,a2,a3,a4,a5,a6,a7⟩
    .left
     refine⟨e,fun n' i' b1 b2 b3=>?_⟩
     by_cases q:n'=n
     .subst q;rw[<- uniq hp b3];exact hq
     .exact z n' i' (by omega) b2 b3
    .right
     refine⟨n',i',by omega,a2,a3,a4,a5,a6,fun n'' i'' b1 b2 b3=>?_⟩
     by_cases q:n''=n
     .subst q;rw[<- uniq hp b3];exact hq
     .exact a7 n'' i'' (by omega) b2 b3
  .rw[hs]
   dsimp only
   have e:n=N:=by
    rcases bc n N with z|z
    .exact absurd (hB n z) hp
    .omega
   subst e
   left
   exact⟨by rw[kn'],fun n' _ a b=>absurd b (by omega)⟩
end Ts
end PySem
namespace PySem
namespace Ts
open SetTable
theorem nx' (j:Nat):has #[] j=false:=by
 unfold has
 rfl
theorem TabOk.put {t:SetTable} {es:Array (Int×Value)} (T:TabOk t es) {h:Int} {x:Value} {N:Nat} (hN:(Pj t.mask h N).j∉t.place.toList) (hB:∀n,n<N->(Pj t.mask h n).j∈t.place.toList) (hroom:es.size+1<=t.mask):
  TabOk (t.put (Pj t.mask h N).j).1 (insertAt es (t.put (Pj t.mask h N).j).2 (h,x)):=by
 have hb:=dI' T.rise (Pj t.mask h N).j
 have hne:t.place[below t.place (Pj t.mask h N).j]?≠some (Pj t.mask h N).j:=fun z=>hN (by rw[bL];exact Array.mem_of_getElem? z)
 have hp:(t.put (Pj t.mask h N).j).1={ t with place:=insertAt t.place (below t.place (Pj t.mask h N).j) (Pj t.mask h N).j }:=by
  unfold SetTable.put
  rw[T.dum,nx']
  have hd:=T.dum
  cases t
  cases hd
  rfl
 have hp2:(t.put (Pj t.mask h N).j).2=below t.place (Pj t.mask h N).j:=rfl
 rw[hp,hp2]
 generalize hj:(Pj t.mask h N).j=j at *
 generalize hq:below t.place j=p at *
 have hl:(List.take p t.place.toList).length=(List.take p es.toList).length:=by
  rw[aF,aF,au,au,T.size]
 have hmem:∀y,y∈(insertAt t.place p j).toList↔y=j\/y∈t.place.toList:=by
  intro y
  rw[toList_insertAt]
  conv=>rhs;rw[<- aL p t.place.toList]
  simp only[al,aq]
  constructor
  .rintro(a|a|a)
   .exact .inr (.inl a)
   .exact .inl a
   .exact .inr (.inr a)
  .rintro(a|a|a)
   .exact .inr (.inl a)
   .exact .inl a
   .exact .inr (.inr a)
 have hsz:∀{α:Type} (xs:Array α) (y:α),(insertAt xs p y).size=xs.size+1:=fun xs y=>by
  rw[<- au,toList_insertAt]
  simp only[am,aY,aF,bQ,au]
  omega
 refine⟨?_,?_,?_,T.dum,T.pow,?_,?_⟩
 .have:=gy' T.rise (j:=j) (by rw[hq];exact hne)
  rw[hq]at this
  exact this
 .intro y hy
  rcases(hmem y).mp hy with rfl|hy
  .rw[<- hj];exact sR'
  .exact T.le y hy
 .show(insertAt t.place p j).size=_
  rw[hsz,hsz,T.size]
 .show(insertAt t.place p j).size<=t.mask
  rw[hsz,T.size]
  exact hroom
 .show ∀q∈(insertAt t.place p j).toList.zip (insertAt es p (h,x)).toList,∃n,(Pj t.mask q.2.1 n).j=q.1/\∀n',n'<n->_∈(insertAt t.place p j).toList
  rw[toList_insertAt t.place,toList_insertAt es,List.zip_append hl,List.zip_cons_cons,<- toList_insertAt t.place]
  have old:∀q∈t.place.toList.zip es.toList,∃n,(Pj t.mask q.2.1 n).j=q.1/\∀n',n'<n->(Pj t.mask q.2.1 n').j∈(insertAt t.place p j).toList:=fun q hq=>by
   obtain⟨n,h1,h2⟩:=T.met q hq
   exact⟨n,h1,fun n' hn'=>(hmem _).mpr (.inr (h2 n' hn'))⟩
  rw[<- aL p t.place.toList,<- aL p es.toList,List.zip_append hl]at old
  intro q hq
  rcases al.mp hq with hq|hq
  .exact old q (aD _ hq)
  .rcases aq.mp hq with rfl|hq
   .exact⟨N,hj,fun n' hn'=>(hmem _).mpr (.inr (hB n' hn'))⟩
   .exact old q (ax _ hq)
structure OwnOk (m:Nat) (hs:List Int) (k:Nat) (ow:Array (Option Nat)):Prop where
 size:ow.size=m+1
 met:∀j i:Nat,ow[j]?=some (some i)->i<k/\∃h n,hs[i]?=some h/\(Pj m h n).j=j/\∀n',n'<n->∃z,ow[(Pj m h n').j]?=some (some z)
 all:∀i,i<k->∃j:Nat,ow[j]?=some (some i)
 uniq:∀i j j':Nat,ow[j]?=some (some i)->ow[j']?=some (some i)->j=j'
theorem OwnOk.free {m:Nat} {hs:List Int} {k:Nat} {ow:Array (Option Nat)} (O:OwnOk m hs k ow) (hk:k<=m):∃y,y<=m/\ow[y]?=some none:=Classical.byContradiction fun z=>by
 have full:∀y,y<=m->∃i,ow[y]?=some (some i):=fun y hy=>by
  have e:ow[y]?=some (ow[y]'(by have:=O.size;omega)):=ay _
  cases hv:ow[y]'(by have:=O.size;omega)with
  |none=>rw[hv]at e;exact absurd ⟨y,hy,e⟩ z
  |some i=>rw[hv]at e;exact⟨i,e⟩
 have:=ie' (l:=(aH (m+1)).map fun y=>(ow.getD y none).getD 0) (b:=aH k) ?_ ?_
 .rw[ai,bo,bo]at this
  omega
 .rw[List.Nodup,cc]
  refine List.Pairwise.imp_of_mem (fun {a b} ha hb hab=>?_) List.pairwise_lt_range
  obtain⟨i,hi⟩:=full a (bD (aT.mp ha))
  obtain⟨i',hi'⟩:=full b (bD (aT.mp hb))
  rw[ba,ba,hi,hi']
  intro q
  have q:i=i':=q
  subst q
  exact absurd (O.uniq i a b hi hi') (by omega)
 .intro i hi
  obtain⟨y,hy,rfl⟩:=aP.mp hi
  obtain⟨i,hi⟩:=full y (bD (aT.mp hy))
  rw[ba,hi]
  exact aT.mpr (O.met y i hi).1
theorem ig' {m:Nat} {ow:Array (Option Nat)} (hs:ow.size=m+1) (h:Int) {L:Nat} (hL:ow[(Lp m h L).1]?=some none):∀(f l:Nat),l<=L->L-l<f->(∀n,n<sg m h l->∃z,ow[(Pj m h n).j]?=some (some z))->
  ∃n,layClean.free m ow f (Lp m h l).1 (Lp m h l).2=some (Pj m h n).j/\ow[(Pj m h n).j]?=some none/\∀n',n'<n->∃z,ow[(Pj m h n').j]?=some (some z)
 |0,l,_,hf,_=>absurd hf (bi _)
 |f+1,l,hl,hf,hB=>by
  unfold layClean.free
  have e1:runEnd m (Lp m h l).1+1-(Lp m h l).1=mo m (Lp m h l).1+1:=by
   unfold mo runEnd
   split<;>omega
  rw[e1]
  have val:∀k,k<=mo m (Lp m h l).1->∃o,ow[(Lp m h l).1+k]?=some o/\ow.getD ((Lp m h l).1+k) (some 0)=o:=fun k hk=>by
   have hlt:(Lp m h l).1+k<ow.size:=by rw[hs];exact Nat.lt_succ_of_le (pR' nt' hk)
   exact⟨_,ay hlt,by simp[Array.getD,hlt]⟩
  cases hq:(aH (mo m (Lp m h l).1+1)).find? fun k=>(ow.getD ((Lp m h l).1+k) (some 0)).isNone with
  |some k=>
   obtain⟨h1,h2,h3⟩:=List.find?_range_eq_some.mp hq
   have hk:k<=mo m (Lp m h l).1:=bD (aT.mp h2)
   refine⟨sg m h l+k,?_,?_,fun n' hn'=>?_⟩
   .dsimp only
    rw[dh' hk]
   .obtain⟨o,q1,q2⟩:=val k hk
    rw[q2]at h1
    rw[dh' hk,q1]
    cases o with
    |none=>rfl
    |some _=>cases h1
   .by_cases q:n'<sg m h l
    .exact hB n' q
    .obtain⟨d,rfl⟩:∃d,n'=sg m h l+d:=⟨n'-sg m h l,by omega⟩
     have hd:d<k:=by omega
     obtain⟨o,q1,q2⟩:=val d (by omega)
     have:=h3 d hd
     rw[q2]at this
     rw[dh' (by omega),q1]
     cases o with
     |none=>cases this
     |some z=>exact⟨z,rfl⟩
  |none=>
   have h3:=List.find?_range_eq_none.mp hq
   have hw:∀d,d<=mo m (Lp m h l).1->∃z,ow[(Lp m h l).1+d]?=some (some z):=fun d hd=>by
    obtain⟨o,q1,q2⟩:=val d hd
    have:=h3 d (by omega)
    rw[q2]at this
    cases o with
    |none=>cases this
    |some z=>exact⟨z,q1⟩
   have hne:l≠L:=fun e=>by
    obtain⟨z,hz⟩:=hw 0 (bh _)
    rw[Nat.add_zero,e,hL]at hz
    cases hz
   refine ig' hs h hL f (l+1) (by omega) (by omega) fun n hn=>?_
   by_cases q:n<sg m h l
   .exact hB n q
   .have hn:n<sg m h l+mo m (Lp m h l).1+1:=hn
    obtain⟨d,rfl⟩:∃d,n=sg m h l+d:=⟨n-sg m h l,by omega⟩
    rw[dh' (by omega)]
    exact hw d (by omega)
theorem OwnOk.step {m k:Nat} {hs:List Int} {ow:Array (Option Nat)} (O:OwnOk m hs k ow) (hk:k<=m) (hp:∃b,m+1=2 ^ b) {h:Int} (hh:hs[k]?=some h):∃j,layClean.free m ow (turns m) (bits h % (m+1)) (bits h)=some j/\OwnOk m hs (k+1) (ow.setIfInBounds j (some k)):=by
 obtain⟨y,hy,hye⟩:=O.free hk
 obtain⟨b,hb⟩:=hp
 obtain⟨L,hL,e⟩:=pT' hb h hy
 obtain⟨n,h1,h2,h3⟩:=ig' O.size h (L:=L) (by rw[e];exact hye) (turns m) 0 (bh _) (by unfold turns;omega) fun n hn=>absurd hn (bi _)
 refine⟨_,h1,?_⟩
 generalize hj:(Pj m h n).j=j at h2 ⊢
 have hlt:j<ow.size:=(aU.mp h2).1
 have g:∀y,(ow.setIfInBounds j (some k))[y]?=if j=y then some (some k)else ow[y]?:=fun y=>by
  rw[Array.getElem?_setIfInBounds]
  by_cases q:j=y
  .rw[if_pos q,if_pos q,if_pos hlt]
  .rw[if_neg q,if_neg q]
 have mono:∀y z:Nat,ow[y]?=some (some z)->∃z,(ow.setIfInBounds j (some k))[y]?=some (some z):=fun y z e=>by
  rw[g]
  by_cases q:j=y
  .exact⟨k,by rw[if_pos q]⟩
  .exact⟨z,by rw[if_neg q];exact e⟩
 refine⟨by rw[Array.size_setIfInBounds];exact O.size,fun y i e=>?_,fun i hi=>?_,fun i y y' e e'=>?_⟩
 .rw[g]at e
  by_cases q:j=y
  .rw[if_pos q]at e
   injection e with e
   injection e with e
   subst e
   exact⟨Nat.lt_succ_self _,h,n,hh,by rw[hj,q],fun n' hn'=>by obtain⟨z,hz⟩:=h3 n' hn';exact mono _ z hz⟩
  .rw[if_neg q]at e
   obtain⟨a1,h',n',a2,a3,a4⟩:=O.met y i e
   exact⟨Nat.lt_succ_of_lt a1,h',n',a2,a3,fun n'' hn=>by obtain⟨z,hz⟩:=a4 n'' hn;exact mono _ z hz⟩
 .rcases bc i k with z|z
  .obtain⟨y,hy⟩:=O.all i z
   refine⟨y,?_⟩
   rw[g,if_neg (fun q=>by rw[<- q,h2]at hy;cases hy)]
   exact hy
  .exact⟨j,by rw[g,if_pos rfl,show i=k by omega]⟩
 .rw[g]at e e'
  by_cases q:j=y<;>by_cases q':j=y'
  .omega
  .rw[if_pos q]at e
   rw[if_neg q']at e'
   injection e with e
   injection e with e
   subst e
   exact absurd (O.met y' _ e').1 (bn _)
  .rw[if_neg q]at e
   rw[if_pos q']at e'
   injection e' with e'
   injection e' with e'
   subst e'
   exact absurd (O.met y _ e).1 (bn _)
  .rw[if_neg q]at e
   rw[if_neg q']at e'
   exact O.uniq i y y' e e'
theorem fu' {m:Nat} {hs:List Int} (hp:∃b,m+1=2 ^ b) (hm:hs.length<=m):∀(r:List Int) (k:Nat) (ow:Array (Option Nat)),hs.drop k=r->k<=hs.length->OwnOk m hs k ow->∃ow',r.foldl (fun(acc:Option (Array (Option Nat)×Nat)) h=>do
    let __x <- acc
    match __x with
     |(owner,k)=>do
      let j <- layClean.free m owner (turns m) (bits h % (m+1)) (bits h)
      pure (owner.setIfInBounds j (some k),k+1)) (some (ow,k))=some (ow',hs.length)/\OwnOk m hs hs.length ow'
 | [],k,ow,e,hk,O=>by
  have:k=hs.length:=by
   have:=congrArg cG e
   simp at this
   omega
  subst this
  exact⟨ow,rfl,O⟩
 |h :: r,k,ow,e,hk,O=>by
  have hlt:k<hs.length:=by
   have:=congrArg cG e
   simp at this
   omega
  have hh:hs[k]?=some h:=by
   have:(hs.drop k)[0]?=some h:=by rw[e];rfl
   rwa [List.getElem?_drop,Nat.add_zero]at this
  obtain⟨j,hj,O'⟩:=O.step (by omega) hp hh
  obtain⟨ow',h1,h2⟩:=fu' hp hm r (k+1) _ (by rw[<- List.drop_drop,e];rfl) (by omega) O'
  refine⟨ow',?_,h2⟩
  rw[List.foldl_cons,<- h1]
  congr 1
  show(do let j <- layClean.free m ow (turns m) (bits h % (m+1)) (bits h);pure (ow.setIfInBounds j (some k),k+1))=_
  rw[hj]
  rfl
theorem ko' {m:Nat} {hs:Array Int} (hp:∃b,m+1=2 ^ b) (hm:hs.size<=m):∃ow,layClean m hs=some ow/\OwnOk m hs.toList hs.size ow:=by
 have no:∀(j i:Nat),(Array.replicate (m+1) (none:Option Nat))[j]?≠some (some i):=fun j i e=>by
  rw[Array.getElem?_replicate]at e
  split at e
  .cases e
  .cases e
 have O:OwnOk m hs.toList 0 (Array.replicate (m+1) none):=⟨by simp,fun j i e=>absurd e (no j i),fun i hi=>absurd hi (bi _),fun i j j' e _=>absurd e (no j i)⟩
 obtain⟨ow,h1,h2⟩:=fu' hp (by rw[au];exact hm) hs.toList 0 _ rfl (bh _) O
 rw[au]at h1 h2
 refine⟨ow,?_,h2⟩
 unfold layClean
 rw[<- Array.foldl_toList]
 rw[h1]
 rfl
end Ts
end PySem
namespace PySem
namespace Ts
open SetTable
theorem lr' {α β:Type} {f:α->Option β} {g:α->β}:∀{l:List α},(∀x∈l,f x=some (g x))->l.filterMap f=l.map g
 | [],_=>rfl
 |a :: l,h=>by
  rw[bN,h a (by simp),aE]
  dsimp only
  rw[lr' fun x hx=>h x (by simp[hx])]
theorem ny' {m:Nat} {es:Array (Int×Value)} (hp:∃b,m+1=2 ^ b) (hm:es.size<=m) (fi mv:Nat) (led pl:Bool):
  ∃t' order,laid m fi mv led pl (es.map (·.1))=some (t',order)/\t'.mask=m/\t'.led=led/\t'.plain=pl/\t'.moves=mv/\(order.filterMap (es[·]?)).toList.Perm es.toList/\TabOk t' (order.filterMap (es[·]?)):=by
 obtain⟨ow,h1,O⟩:=ko' (hs:=es.map (·.1)) hp (by rw[Array.size_map];exact hm)
 rw[Array.size_map]at O
 generalize hl:((aH (m+1)).filterMap fun j=>(ow.getD j none).map (j,·))=live
 have hmem:∀j i,(j,i)∈live↔j<=m/\ow[j]?=some (some i):=by
  intro j i
  rw[<- hl,List.mem_filterMap]
  constructor
  .rintro⟨y,hy,e⟩
   obtain⟨z,hz,e2⟩:=bO.mp e
   injection e2 with e3 e4
   subst e3;subst e4
   have hlt:=aT.mp hy
   have hlt2:y<ow.size:=by rw[O.size];exact hlt
   rw[ba,ay hlt2]at hz
   exact⟨bD hlt,by rw[ay hlt2];exact congrArg some hz⟩
  .rintro⟨hj,e⟩
   exact⟨j,aT.mpr (Nat.lt_succ_of_le hj),by rw[ba,e];rfl⟩
 have hrise:live.Pairwise fun a b=>a.1<b.1:=by
  rw[<- hl]
  refine List.Pairwise.filterMap (R:=(· < ·)) _ (fun a a' haa b hb b' hb'=>?_) List.pairwise_lt_range
  obtain⟨_,_,rfl⟩:=bO.mp hb
  obtain⟨_,_,rfl⟩:=bO.mp hb'
  exact haa
 have hlt:∀q∈live,q.2<es.size:=fun q hq=>(O.met q.1 q.2 ((hmem q.1 q.2).mp hq).2).1
 have hlow:∀{j i:Nat},ow[j]?=some (some i)->j<=m:=fun e=>by
  have:=(aU.mp e).1
  rw[O.size]at this
  omega
 generalize hd:((0,Value.none):Int×Value)=d
 have hes:((live.map (·.2)).toArray.filterMap (es[·]?)).toList=live.map fun q=>es.getD q.2 d:=by
  rw[Array.toList_filterMap,List.toList_toArray,lr' (g:=fun i=>es.getD i d) (fun i hi=>?_),List.map_map]
  .rfl
  .obtain⟨q,hq,rfl⟩:=aP.mp hi
   rw[ba,ay (hlt q hq)]
   rfl
 have hnd:(live.map (·.2)).Nodup:=by
  rw[List.Nodup,cc]
  refine List.Pairwise.imp_of_mem (fun {a b} ha hb hab e=>?_) hrise
  have:=O.uniq a.2 a.1 b.1 ((hmem a.1 a.2).mp ha).2 (by rw[e];exact((hmem b.1 b.2).mp hb).2)
  omega
 have hperm:(live.map (·.2)).Perm (aH es.size):=by
  rw[List.perm_ext_iff_of_nodup hnd List.nodup_range]
  intro i
  rw[aT]
  constructor
  .intro hi
   obtain⟨q,hq,rfl⟩:=aP.mp hi
   exact hlt q hq
  .intro hi
   obtain⟨j,hj⟩:=O.all i hi
   exact aP.mpr ⟨(j,i),(hmem j i).mpr ⟨hlow hj,hj⟩,rfl⟩
 have hlen:live.length=es.size:=by
  have:=hperm.length_eq
  rwa [ai,bo]at this
 refine⟨{ mask:=m,place:=(live.map (·.1)).toArray,dummies:=#[],finger:=fi,led,moves:=mv,plain:=pl },(live.map (·.2)).toArray,?_,rfl,rfl,rfl,rfl,?_,?_⟩
 .unfold laid
  rw[h1]
  show some (SetTable.mk _ _ _ _ _ _ _,_)=_
  rw[hl]
 .rw[hes]
  have e1:(live.map fun q=>es.getD q.2 d)=(live.map (·.2)).map fun i=>es.getD i d:=by rw[List.map_map];rfl
  have e2:es.toList=(aH es.size).map fun i=>es.getD i d:=by
   apply bZ
   intro i
   rw[aG]
   by_cases hi:i<es.size
   .rw[ci hi,bU,ay hi]
    simp[Array.getD,hi]
   .rw[bd (by rw[au];omega),bd (by simpa using hi)]
    rfl
  rw[e1,e2]
  exact hperm.map _
 .have hsz2:((live.map (·.2)).toArray.filterMap (es[·]?)).size=live.length:=by rw[<- au,hes,ai]
  refine⟨?_,?_,?_,rfl,hp,?_,?_⟩
  .show List.Pairwise _ (live.map (·.1)).toArray.toList
   rw[List.toList_toArray,cc]
   exact hrise
  .intro p hp'
   obtain⟨q,hq,rfl⟩:=aP.mp (show p∈live.map (·.1) by simpa using hp')
   exact((hmem q.1 q.2).mp hq).1
  .show(live.map (·.1)).toArray.size=_
   rw[hsz2,aj,ai]
  .show(live.map (·.1)).toArray.size<=m
   rw[aj,ai,hlen]
   exact hm
  .show ∀q∈((live.map (·.1)).toArray.toList).zip _,∃n,(Pj m (Prod.fst (Prod.snd q)) n).j=q.1/\∀n',n'<n->_∈(live.map (·.1)).toArray.toList
   rw[hes,List.toList_toArray,List.zip_map']
   intro q hq
   obtain⟨⟨j,i⟩,hl2,rfl⟩:=aP.mp hq
   have hji:=((hmem j i).mp hl2).2
   obtain⟨hi,h,n,a1,a2,a3⟩:=O.met j i hji
   have eh:(es.getD i d).1=h:=by
    rw[Array.toList_map,aG,bU,ay hi]at a1
    injection a1 with a1
    rw[ba,ay hi]
    exact a1
   refine⟨n,by show(Pj m (es.getD i d).1 n).j=j;rw[eh];exact a2,fun n' hn'=>?_⟩
   show(Pj m (es.getD i d).1 n').j∈_
   rw[eh]
   obtain⟨z,hz⟩:=a3 n' hn'
   exact aP.mpr ⟨(_,z),(hmem _ z).mpr ⟨hlow hz,hz⟩,rfl⟩
end Ts
end PySem
namespace PySem
section
variable {prog:Program} {w:World} {K:Type} [DecidableEq K] (knd:KeyKind prog w K)
variable {knd}
variable {A:Around} {E:Value->Shared->Prop} {s:Shared}
end
end PySem
namespace PySem
namespace Ts
open SetTable
section
variable {prog:Program} {w:World}
def elm (prog:Program) (w:World) (q:List Int×Addr):Int×Value:=(tupleKeyHash (intKind prog w) q.1,.ref q.2)
def Tup (prog:Program) (w:World) (h:Heap) (q:List Int×Addr):Prop:=IsTupleKey (intKind prog w) h q.1 q.2
structure MaskOk (t:SetTable):Prop where
 mask:t.mask∈[7,31,127,511,2047,8191]
 few:t.place.size*5<t.mask*3
theorem MaskOk.le {t:SetTable} (m:MaskOk t):7<=t.mask/\t.mask<=8191/\t.mask % 2=1:=by
 have:=m.mask
 simp only[aq,aK,or_false]at this
 omega
theorem TabOk.fits {t:SetTable} {es:Array (Int×Value)} (T:TabOk t es):t.fits es.size=true:=by
 unfold SetTable.fits SetTable.fill
 rw[T.dum,T.size]
 have:=T.room
 rw[T.size]at this
 simp[this]
variable {A:Around} {E:Value->Shared->Prop} {s:Shared}
theorem cN' {q:List Int×Addr} {Q:Bool->Shared->Prop} (hk:Tup prog w s.heap q) (h:Q false s):wpAny (model prog w) A (ofAClassStatement 8 (.ref q.2)) Q E s:=by
 have hT:=hk.typeIs
 obtain⟨o,items,n,ho,_,hd,hi⟩:=hk
 unfold ofAClassStatement
 refine aa (wpAny_typeOf hT ?_)
 dsimp only
 rw[if_pos (by decide)]
 refine aa (af ?_)
 rw[if_neg (by simp)]
 refine aa (bm ho hd ?_)
 dsimp only
 refine aa ?_
 show wpAny _ _ (forIn items _ _) _ _ s
 rw[<- Array.forIn_toList]
 refine wpAny_forIn_list _ (fun a5' r s'=>r.1=none/\s'=s/\∀v∈a5',carriedByValue v=true) _ ?_ ?_ _ _ ⟨rfl,rfl,hi.byValue⟩
 .rintro v a5' r s' ⟨hr,rfl,hall⟩
  have hv:ofAClassStatement 7 v=pure false:=by
   cases v with
   |ref a=>have:=hall _ aA;simp[carriedByValue]at this
   |_=>first|rfl|(unfold ofAClassStatement;rfl)
  rw[hv]
  refine aa (af ?_)
  rw[if_neg (by simp)]
  exact af ⟨rfl,rfl,fun u hu'=>hall u (ao _ hu')⟩
 .rintro⟨r1,r2⟩ s' ⟨hr,rfl,_⟩
  simp only at hr
  subst hr
  exact af h
theorem kp' {q:List Int×Addr} {ys:List Value} {Q:Bool->Shared->Prop} (hk:Tup prog w s.heap q) (hy:∀v∈ys,∃p,v=.ref p.2/\Tup prog w s.heap p) (h:Q false s):wpAny (model prog w) A (searchCouldBeSeen (.ref q.2) ys) Q E s:=by
 unfold searchCouldBeSeen
 refine aa ?_
 refine wpAny_forIn_list _ (fun a5' r s'=>r.1=none/\s'=s/\∀v∈a5',∃p,v=Value.ref p.2/\Tup prog w s.heap p) _ ?_ ?_ _ _ ⟨rfl,rfl,hy⟩
 .rintro v a5' r s' ⟨hr,rfl,hall⟩
  obtain⟨p,rfl,hp⟩:=hall _ aA
  dsimp only
  by_cases hv:((q.2 == p.2) || (carriedByValue (Value.ref q.2)&&carriedByValue (Value.ref p.2)))=true
  .rw[if_pos hv]
   exact af ⟨rfl,rfl,fun u hu'=>hall u (ao _ hu')⟩
  .rw[if_neg hv]
   refine aa (wpAny_eqIsQuiet_tuple hk ?_)
   rw[if_neg (by simp)]
   refine aa (wpAny_eqIsQuiet_tuple hp ?_)
   rw[if_neg (by simp)]
   refine aa (cN' hk ?_)
   rw[if_neg (by simp)]
   refine aa (cN' hp ?_)
   rw[if_neg (by simp)]
   exact af ⟨rfl,rfl,fun u hu'=>hall u (ao _ hu')⟩
 .rintro⟨r1,r2⟩ s' ⟨hr,rfl,_⟩
  simp only at hr
  subst hr
  exact af h
structure Elms (prog:Program) (w:World) (h:Heap) (es:Array (Int×Value)) (t:SetTable) (L:List (List Int×Addr)):Prop where
 its:es.toList=L.map (elm prog w)
 tup:∀q∈L,Tup prog w h q
 nd:(L.map (·.1)).Nodup
 tab:TabOk t es
 mask:MaskOk t
theorem ef' {a:Addr} {o:Obj} {es:Array (Int×Value)} {ep:Nat} {t:SetTable} {L:List (List Int×Addr)} (hu:A.units<cLine) (ho:s.heap.get? a=some o) (hd:o.data=.set es ep t) (X:Elms prog w s.heap es t L) {q:List Int×Addr} (hq:Tup prog w s.heap q) {adding:Bool} {Q:SetFound->Shared->Prop} {N:Nat}
  (hN:(Pj t.mask (tupleKeyHash (intKind prog w) q.1) N).j∉t.place.toList) (hB:∀n,n<N->(Pj t.mask (tupleKeyHash (intKind prog w) q.1) n).j∈t.place.toList) (hN2:N<10*turns t.mask)
  (h1:q.1∈L.map (·.1)->∀r,(adding=false->r.isSome=true)->Q (.there r) s) (h2:q.1∉L.map (·.1)->Q (.free (Pj t.mask (tupleKeyHash (intKind prog w) q.1) N).j false) s):
  ∀(f n:Nat) (st:Option Probe),st.getD (t.probeStart (tupleKeyHash (intKind prog w) q.1))=Pj t.mask (tupleKeyHash (intKind prog w) q.1) n->n<=N->N-n<f->(∀(n' i:Nat) (p:List Int×Addr),n'<n->t.place[i]?=some (Pj t.mask (tupleKeyHash (intKind prog w) q.1) n').j->L[i]?=some p->p.1≠q.1)->
   wpAny (model prog w) A (setSearchFrom a (.ref q.2) (tupleKeyHash (intKind prog w) q.1) adding f st) Q E s
 |0,n,st,_,_,hf,_=>absurd hf (bi _)
 |f+1,n,st,hst,hn,hf,hold=>by
  generalize hh:tupleKeyHash (intKind prog w) q.1=h at *
  have T:=X.tab
  obtain⟨m7,m8,m2⟩:=X.mask.le
  have hes:∀i:Nat,es[i]?=(L[i]?).map (elm prog w):=fun i=>by rw[<- bU,X.its,aG]
  unfold setSearchFrom
  refine aa (ce ho hd T.fits ?_)
  dsimp only
  rw[if_neg (by unfold SetTable.gaveWay;simp;omega)]
  rw[hst]
  generalize hpr:probe t _ h (Pj t.mask h n)=P
  replace hpr:probe t (fun i=>((es[i]?).map (·.1)).getD 0) h (Pj t.mask h n)=P:=hpr
  have hP:=ft' T.rise T.dum (fun i=>((es[i]?).map (·.1)).getD 0) h hN hB (10*turns t.mask) n hn (by omega)
  unfold probe at hpr
  rcases hP with⟨e,hno⟩|⟨n',i,a1,a2,a3,a4,a5,a6,a7⟩
  .rw[e]at hpr
   subst hpr
   dsimp only
   refine af (h2 fun hm=>?_)
   obtain⟨p,hp,hpk⟩:=aP.mp hm
   obtain⟨i,hi,ei⟩:=cD.mp hp
   have hLi:L[i]?=some p:=by rw[ac hi,ei]
   have hei:es[i]?=some (elm prog w p):=by rw[hes,hLi];rfl
   have hisz:i<es.size:=(aU.mp hei).1
   have hpl:t.place[i]?=some (t.place[i]'(by rw[T.size];exact hisz)):=ay _
   generalize t.place[i]'(by rw[T.size];exact hisz)=pl at hpl
   have hz:(pl,elm prog w p)∈t.place.toList.zip es.toList:=by
    refine aN (i:=i) ?_
    rw[List.getElem?_zip_eq_some]
    exact⟨by rw[bU];exact hpl,by rw[bU];exact hei⟩
   obtain⟨n0,b1,b2⟩:=T.met _ hz
   have eh:(elm prog w p).1=h:=by show tupleKeyHash _ p.1=h;rw[hpk,hh]
   dsimp only at b1 b2
   rw[eh]at b1 b2
   have hn0:n0<N:=by
    rcases bc n0 N with z|z
    .exact z
    .rcases bc N n0 with z2|z2
     .exact absurd (b2 N z2) hN
     .have:n0=N:=by omega
      subst this
      exact absurd (by rw[b1,bL];exact Array.mem_of_getElem? hpl) hN
   rcases bc n0 n with z|z
   .exact hold n0 i p z (by rw[b1];exact hpl) hLi hpk
   .exact hno n0 i z hn0 (by rw[b1];exact hpl) (by show((es[i]?).map (·.1)).getD 0=h;rw[hei];exact eh)
  .rw[a6]at hpr
   subst hpr
   dsimp only
   have hisz:i<es.size:=by rw[<- T.size];exact(aU.mp a3).1
   obtain⟨p,hLi⟩:∃p,L[i]?=some p:=by
    have:i<L.length:=by rw[<- ai (f:=elm prog w),<- X.its,au];exact hisz
    exact⟨_,ac this⟩
   have hei:es[i]?=some (elm prog w p):=by rw[hes,hLi];rfl
   have hp:=X.tup p (aN hLi)
   have seen:∀{k k':Sem SetFound} {R:SetFound->Shared->Prop},wpAny (model prog w) A k R E s->wpAny (model prog w) A (if(!t.led)=true then(searchCouldBeSeen (.ref q.2) ((es.filter (·.1 == h)).toList.map (·.2)) >>= fun b=>if b=true then k' else k)else k) R E s:=by
    intro k k' R hk
    by_cases hl:(!t.led)=true
    .rw[if_pos hl]
     refine aa (kp' hq (fun v hv=>?_) ?_)
     .obtain⟨e,he,rfl⟩:=aP.mp hv
      rw[bL,Array.mem_filter,<- bL,X.its]at he
      obtain⟨p',hp',rfl⟩:=aP.mp he.1
      exact⟨p',rfl,X.tup p' hp'⟩
     .rw[if_neg (by simp)]
      exact hk
    .rw[if_neg hl]
     exact hk
   refine seen ?_
   rw[hei]
   show wpAny _ _ (holding [(elm prog w p).2] (eqBool (.ref p.2) (.ref q.2)) >>= _) _ _ _
   refine aa (aR (wpAny_eqBool_tuple hu hp hq ?_))
   refine aa (ce ho hd T.fits ?_)
   dsimp only
   by_cases hk:p.1=q.1
   .have hin:q.1∈L.map (·.1):=aP.mpr ⟨p,aN hLi,hk⟩
    rw[decide_eq_true hk]
    by_cases had:(adding&&true)=true
    .rw[if_pos had]
     exact af (h1 hin _ fun z=>by rw[z]at had;cases had)
    .rw[if_neg had]
     have em:t.sameMemory t.moves t.mask=some true:=by unfold SetTable.sameMemory;simp
     rw[em]
     dsimp only
     rw[if_pos rfl,a4]
     dsimp only
     rw[hei]
     dsimp only
     refine aa (wpAny_isSame_ref_self ?_)
     rw[if_pos rfl]
     refine aa (af ?_)
     dsimp only
     rw[if_pos rfl]
     exact af (h1 hin _ fun _=>rfl)
   .rw[decide_eq_false hk,Bool.and_false,if_neg (by simp)]
    have em:t.sameMemory t.moves t.mask=some true:=by unfold SetTable.sameMemory;simp
    rw[em]
    dsimp only
    rw[if_pos rfl,a4]
    dsimp only
    rw[hei]
    dsimp only
    refine aa (wpAny_isSame_ref_self ?_)
    rw[if_pos rfl]
    refine aa (af ?_)
    dsimp only
    rw[if_neg (by simp)]
    subst hh
    refine ef' hu ho hd X hq hN hB hN2 h1 h2 f (n'+1) (some _) rfl (by omega) (by omega) fun n'' i' p' c1 c2 c3=>?_
    by_cases c4:n''<n
    .exact hold n'' i' p' c4 c2 c3
    .by_cases c5:n''=n'
     .subst c5
      have:i'=i:=by
       obtain⟨q1,q2⟩:=aU.mp c2
       obtain⟨q3,q4⟩:=aU.mp a3
       rcases Nat.lt_trichotomy i' i with z|z|z
       .have:=cM' T.rise z q3;omega
       .exact z
       .have:=cM' T.rise z q1;omega
      subst this
      rw[hLi]at c3
      injection c3 with c3
      rw[<- c3]
      exact hk
     .intro hk'
      refine a7 n'' i' (by omega) (by omega) c2 ?_
      show((es[i']?).map (·.1)).getD 0=_
      rw[hes,c3]
      show tupleKeyHash _ p'.1=_
      rw[hk']
end
end Ts
end PySem
namespace PySem
namespace Ts
open SetTable
section
variable {prog:Program} {w:World} {A:Around} {E:Value->Shared->Prop} {s:Shared}
theorem ci' {a:Addr} {o:Obj} {es:Array (Int×Value)} {ep:Nat} {t:SetTable} {L:List (List Int×Addr)} (hu:A.units<cLine) (ho:s.heap.get? a=some o) (hd:o.data=.set es ep t) (X:Elms prog w s.heap es t L) {q:List Int×Addr} (hq:Tup prog w s.heap q) {adding:Bool} {Q:SetFound->Shared->Prop}
  (h1:q.1∈L.map (·.1)->∀r,(adding=false->r.isSome=true)->Q (.there r) s)
  (h2:q.1∉L.map (·.1)->∀N,(Pj t.mask (tupleKeyHash (intKind prog w) q.1) N).j∉t.place.toList->(∀n,n<N->(Pj t.mask (tupleKeyHash (intKind prog w) q.1) n).j∈t.place.toList)->Q (.free (Pj t.mask (tupleKeyHash (intKind prog w) q.1) N).j false) s):
  wpAny (model prog w) A (setSearch a (.ref q.2) (tupleKeyHash (intKind prog w) q.1) adding) Q E s:=by
 obtain⟨N,hN2,hN,hB⟩:=X.tab.end (tupleKeyHash (intKind prog w) q.1)
 obtain⟨m7,m8,m2⟩:=X.mask.le
 unfold setSearch
 exact ef' hu ho hd X hq hN hB (by unfold turns;omega) h1 (fun z=>h2 z N hN hB) 100000 0 none (km' _ _) (bh _) (by omega) fun n' _ _ z=>absurd z (bi _)
theorem ls' {b:Addr} {es:Array (Int×Value)}:byScan (.ref b) es=false:=by unfold byScan Value.scannable;rfl
theorem nz' {a:Addr} {o:Obj} {es:Array (Int×Value)} {ep:Nat} {t:SetTable} {L:List (List Int×Addr)} (hu:A.units<cLine) (ho:s.heap.get? a=some o) (hd:o.data=.set es ep t) (X:Elms prog w s.heap es t L) {q:List Int×Addr} (hq:Tup prog w s.heap q) {Q:Option Nat->Shared->Prop}
  (h:∀r,r.isSome=decide (q.1∈L.map (·.1))->Q r s):wpAny (model prog w) A (setFind a (.ref q.2) (tupleKeyHash (intKind prog w) q.1)) Q E s:=by
 unfold setFind setFindIn
 refine aa (ce ho hd X.tab.fits ?_)
 dsimp only
 rw[ls',if_neg (by simp)]
 refine aa (ci' hu ho hd X hq (fun hin r hr=>?_) fun hno N _ _=>?_)
 .exact af (h _ (by rw[hr rfl,decide_eq_true hin]))
 .exact af (h _ (by rw[decide_eq_false hno];rfl))
theorem pV' {a:Addr} {o:Obj} {es:Array (Int×Value)} {ep:Nat} {t:SetTable} {L:List (List Int×Addr)} (hu:A.units<cLine) (ho:s.heap.get? a=some o) (hd:o.data=.set es ep t) (X:Elms prog w s.heap es t L) {q:List Int×Addr} (hq:Tup prog w s.heap q) {Q:Bool->Shared->Prop}
  (h:∀tk,Q (decide (q.1∈L.map (·.1))) { s with toks:=tk }):wpAny (model prog w) A (setContains a (.ref q.2)) Q E s:=by
 unfold setContains
 refine aR (aa (wpAny_pyHash_tuple hu hq (aa (nz' (s:={ s with toks:=s.toks+(q.1.length+1) }) hu ho hd X hq fun r hr=>?_))))
 exact af (by rw[hr];exact h _)
theorem fv':∀{ks:List Int} {vs:List Value},ItemsAre (intKind prog w) ks vs->∀v∈vs,∃i t,v=.int i t
 |_,_,.nil,v,hv=>absurd hv aK
 |_,_,.cons h1 r,v,hv=>by
  rcases aq.mp hv with rfl|hv
  .obtain⟨t,e⟩:=Value.isInt_shape h1
   exact⟨_,t,e⟩
  .exact fv' r v hv
theorem hbv {q:List Int×Addr} {Q:Bool->Shared->Prop} (hk:Tup prog w s.heap q) (h:∀b,Q b s):wpAny (model prog w) A (hashByValue 8 (.ref q.2)) Q E s:=by
 have hT:=hk.typeIs
 obtain⟨o,items,n,ho,_,hd,hi⟩:=hk
 unfold hashByValue
 refine aa (cu hT F.slot_tuple_hash.lookup ?_)
 show wpAny _ _ (seqItems? (.ref q.2) >>= _) _ _ s
 refine aa (bm ho hd ?_)
 refine aa ?_
 show wpAny _ _ (forIn items _ _) _ _ s
 rw[<- Array.forIn_toList]
 refine wpAny_forIn_list _ (fun a5' r s'=>r.1=none/\s'=s/\∀v∈a5',∃i t,v=Value.int i t) _ ?_ ?_ _ _ ⟨rfl,rfl,fv' hi⟩
 .rintro v a5' r s' ⟨hr,rfl,hall⟩
  obtain⟨i,t,rfl⟩:=hall v aA
  rw[show hashByValue 7 (.int i t)=pure true by unfold hashByValue;rfl]
  refine aa (af ?_)
  rw[if_neg (by simp)]
  exact af ⟨rfl,rfl,fun u hu'=>hall u (ao _ hu')⟩
 .rintro⟨r1,r2⟩ s' ⟨hr,rfl,_⟩
  simp only at hr
  subst hr
  exact af (h _)
theorem ii' {α β:Type} {f:α->β}:∀{l l':List β},l.Perm l'->∀{L:List α},l'=L.map f->∃L2:List α,L2.Perm L/\l=L2.map f:=by
 intro l l' h
 induction h with
 |nil=>intro L e;exact⟨L,.refl _,e⟩
 |cons x _ ih=>
  intro L e
  cases L with
  |nil=>cases e
  |cons a L=>
   rw[aE]at e
   injection e with e1 e2
   obtain⟨L2,h1,h2⟩:=ih e2
   exact⟨a :: L2,h1.cons a,by rw[aE,e1,h2]⟩
 |swap x y l=>
  intro L e
  cases L with
  |nil=>cases e
  |cons a L=>
   cases L with
   |nil=>cases e
   |cons b L=>
    rw[aE,aE]at e
    injection e with e1 e2
    injection e2 with e2 e3
    exact⟨b :: a :: L,.swap _ _ _,by rw[aE,aE,e1,e2,e3]⟩
 |trans _ _ ih1 ih2=>
  intro L e
  obtain⟨L2,h1,h2⟩:=ih2 e
  obtain⟨L3,h3,h4⟩:=ih1 h2
  exact⟨L3,h3.trans h1,h4⟩
theorem Tup.kept {h h':Heap} {a:Addr} {o:Obj} {es:Array (Int×Value)} {ep:Nat} {t:SetTable} {q:List Int×Addr} (hq:Tup prog w h q) (ho:h.get? a=some o) (hd:o.data=.set es ep t) (hs:bu a h h'):Tup prog w h' q:=by
 obtain⟨o',items,n,ho',hc,hd',hi⟩:=hq
 have hne:q.2≠a:=by
  intro e
  rw[e,ho]at ho'
  cases ho'
  rw[hd]at hd';exact nomatch hd'
 exact⟨o',items,n,(hs.2 q.2 hne).trans ho',hc,hd',hi⟩
theorem TabOk.plain {t:SetTable} {es:Array (Int×Value)} (T:TabOk t es) (b:Bool):TabOk { t with plain:=b } es:=⟨T.rise,T.le,T.size,T.dum,T.pow,T.room,T.met⟩
theorem pW' {m:Nat} (h:m∈[7,31,127,511,2047,8191]):∃b,m+1=2 ^ b:=by
 simp only[aq,aK,or_false]at h
 rcases h with rfl|rfl|rfl|rfl|rfl|rfl
 .exact⟨3,rfl⟩
 .exact⟨5,rfl⟩
 .exact⟨7,rfl⟩
 .exact⟨9,rfl⟩
 .exact⟨11,rfl⟩
 .exact⟨13,rfl⟩
theorem sT' {m n:Nat} (h:m∈[7,31,127,511,2047,8191]) (h1:n*5<m*3) (h2:¬(n+1)*5<m*3) (h3:n<4000):sizeAbove (grown (n+1))-1∈[7,31,127,511,2047,8191]/\(n+1)*5<(sizeAbove (grown (n+1))-1)*3/\sizeAbove (grown (n+1))<=sizeLine:=by
 simp only[aq,aK,or_false]at h
 rcases h with rfl|rfl|rfl|rfl|rfl|rfl
 .obtain rfl:n=4:=by omega
  exact⟨by decide,by decide,by decide⟩
 .obtain rfl:n=18:=by omega
  exact⟨by decide,by decide,by decide⟩
 .obtain rfl:n=76:=by omega
  exact⟨by decide,by decide,by decide⟩
 .obtain rfl:n=306:=by omega
  exact⟨by decide,by decide,by decide⟩
 .obtain rfl:n=1228:=by omega
  exact⟨by decide,by decide,by decide⟩
 .omega
end
end Ts
end PySem
namespace L2
open PySem PySem.Spec PyProof.Rows PySem.Ts So
section
variable {prog:Program} {w:World} {A:Around} {E:Value->Shared->Prop} {s:Shared}
end
section
variable {X:Cx}
end
end L2
namespace PySem
namespace Ts
open SetTable
section
variable {prog:Program} {w:World} {A:Around} {E:Value->Shared->Prop} {s:Shared}
theorem kq' {h h':Heap} {a:Addr} {o:Obj} {es:Array (Int×Value)} {ep:Nat} {t:SetTable} {L:List (List Int×Addr)} (ho:h.get? a=some o) (hd:o.data=.set es ep t) (X:Elms prog w h es t L) {q:List Int×Addr} (hq:Tup prog w h q) (hno:q.1∉L.map (·.1)) (hs:bu a h h') {N:Nat}
  (hN:(Pj t.mask (tupleKeyHash (intKind prog w) q.1) N).j∉t.place.toList) (hB:∀n,n<N->(Pj t.mask (tupleKeyHash (intKind prog w) q.1) n).j∈t.place.toList):
  ∃L1:List (List Int×Addr),L1.Perm (q :: L)/\(insertAt es (t.put (Pj t.mask (tupleKeyHash (intKind prog w) q.1) N).j).2 (elm prog w q)).toList=L1.map (elm prog w)/\(∀p∈L1,Tup prog w h' p)/\(L1.map (·.1)).Nodup/\
   TabOk (t.put (Pj t.mask (tupleKeyHash (intKind prog w) q.1) N).j).1 (insertAt es (t.put (Pj t.mask (tupleKeyHash (intKind prog w) q.1) N).j).2 (elm prog w q)):=by
 have T:=X.tab
 have hroom:es.size+1<=t.mask:=by
  have:=X.mask.few
  have:=X.mask.le
  rw[T.size]at *
  omega
 have T1:=T.put (x:=.ref q.2) hN hB hroom
 generalize (t.put (Pj t.mask (tupleKeyHash (intKind prog w) q.1) N).j).2=p at T1 ⊢
 have hp:(L.take p++q :: L.drop p).Perm (q :: L):=by
  refine List.perm_middle.trans (List.Perm.cons q ?_)
  rw[aL]
 refine⟨L.take p++q :: L.drop p,hp,?_,fun p' hp'=>?_,?_,T1⟩
 .rw[toList_insertAt,X.its,aO,aE,List.map_take,List.map_drop]
 .rcases aq.mp (hp.mem_iff.mp hp')with rfl|hp'
  .exact hq.kept ho hd hs
  .exact(X.tup p' hp').kept ho hd hs
 .refine(hp.map (·.1)).nodup_iff.mpr ?_
  rw[aE,bG]
  exact⟨hno,X.nd⟩
theorem lu' {bt:Bool} {a:Addr} {o:Obj} {es:Array (Int×Value)} {ep:Nat} {t:SetTable} {L:List (List Int×Addr)} (hu:A.units<cLine) (ho:s.heap.get? a=some o) (hc:o.ExactSet) (hd:o.data=.set es ep t) (X:Elms prog w s.heap es t L) (htk:TOk bt t) {q:List Int×Addr} (hq:Tup prog w s.heap q) (hl:L.length<4000) {Q:Bool->Shared->Prop}
  (h1:q.1∈L.map (·.1)->Q false s)
  (h2:q.1∉L.map (·.1)->∀(h':Heap) (o':Obj) (es':Array (Int×Value)) (ep':Nat) (t':SetTable) (L':List (List Int×Addr)),bu a s.heap h'->h'.get? a=some o'->o'.ExactSet->o'.data=.set es' ep' t'->Elms prog w h' es' t' L'->L'.Perm (q :: L)->TOk bt t'->Q true { s with heap:=h' }):
  wpAny (model prog w) A (setAddHashed a (.ref q.2) (tupleKeyHash (intKind prog w) q.1)) Q E s:=by
 have T:=X.tab
 have hlen:es.size=L.length:=by rw[<- au,X.its,ai]
 unfold setAddHashed setAddHashedIn
 refine aR (aa (ce ho hd T.fits ?_))
 dsimp only
 rw[ls',if_neg (by simp)]
 refine aa (ci' hu ho hd X hq (fun hin r _=>?_) fun hno N hN hB=>?_)
 .exact af (h1 hin)
 .dsimp only
  refine aa (ce ho hd T.fits ?_)
  dsimp only
  have step:∀(t1:SetTable),(∃b,t1={ (t.put (Pj t.mask (tupleKeyHash (intKind prog w) q.1) N).j).1 with plain:=b })->wpAny (model prog w) A (do
    storeSet a (insertAt es (t.put (Pj t.mask (tupleKeyHash (intKind prog w) q.1) N).j).2 (tupleKeyHash (intKind prog w) q.1,Value.ref q.2)) t1
    if(!false&&t1.tooFull)=true then do
     setRelay a (grown (es.size+1))
     pure true
    else pure true) Q E s:=by
   rintro t1 ⟨pb,rfl⟩
   generalize hes1:insertAt es (t.put (Pj t.mask (tupleKeyHash (intKind prog w) q.1) N).j).2 (tupleKeyHash (intKind prog w) q.1,Value.ref q.2)=es1
   generalize ht1:({ (t.put (Pj t.mask (tupleKeyHash (intKind prog w) q.1) N).j).1 with plain:=pb }:SetTable)=t1
   have hsb:=Heap.SameBut.update s.heap a (Obj.putSet es1 t1)
   obtain⟨L1,hp1,hi1,htp1,hnd1,T1⟩:=kq' ho hd X hq hno hsb hN hB
   rw[show elm prog w q=(tupleKeyHash (intKind prog w) q.1,Value.ref q.2) from rfl,hes1]at hi1 T1
   have hl1:L1.length=L.length+1:=by rw[hp1.length_eq];rfl
   have hsz1:es1.size=L.length+1:=by rw[<- au,hi1,ai,hl1]
   have hm1:t1.mask=t.mask:=by rw[<- ht1];rfl
   have hT1:TabOk t1 es1:=by rw[<- ht1];exact T1.plain pb
   have hk1:TOk bt t1:=by
    rcases htk with z|⟨z1,z2⟩
    .exact .inl z
    .exact .inr ⟨by rw[<- ht1];exact z1,hT1.rise⟩
   have hz1:es1.size<=sizeLine:=by rw[hsz1];exact aS (show _<=4000 by omega) (by decide)
   refine aa (wpAny_storeSet_of ho hd ?_ hz1)
   have eo:=putSet_of es1 t1 hd
   have hg:=bb (Obj.putSet es1 t1) ho (by rw[eo];rfl)
   rw[eo]at hg
   have hfew:(es1.size*5<t.mask*3)↔t1.tooFull=false:=by
    unfold SetTable.tooFull SetTable.fill
    rw[hT1.dum,hT1.size,hm1]
    simp
   by_cases hf:t1.tooFull=true
   .rw[if_pos (by simpa using hf)]
    have hnf:¬(L.length+1)*5<t.mask*3:=fun z=>by
     rw[<- hsz1]at z
     rw[hfew.mp z]at hf
     cases hf
    have hX5:=X.mask.few
    rw[T.size,hlen]at hX5
    obtain⟨g1,g2,g3⟩:=sT' X.mask.mask hX5 hnf hl
    rw[hlen]
    refine aa ?_
    unfold setRelay
    refine aa (ce (s:={ s with heap:=s.heap.update a (Obj.putSet es1 t1) }) hg rfl hT1.fits ?_)
    dsimp only
    rw[if_neg (by omega)]
    obtain⟨t2,order,k1,k2,k3,k4,k5,k6,T2⟩:=ny' (es:=es1) (pW' g1) (by rw[hsz1];omega) t1.finger (t1.movedTo (sizeAbove (grown (L.length+1))-1)) t1.led t1.plain
    obtain⟨L2,hp2,hi2⟩:=ii' k6 hi1
    have hsz2:(order.filterMap (es1[·]?)).size=es1.size:=by rw[<- au,k6.length_eq,au]
    have hr:relaid t1 (es1.map (·.1)) (grown (L.length+1))=some (t2,order):=k1
    rw[hr]
    refine aa ?_
    show wpAny _ _ (if((order.filterMap (es1[·]?)).size != es1.size)=true then _ else pure (order.filterMap (es1[·]?),t2)) _ _ _
    rw[if_neg (by rw[hsz2];simp)]
    refine af ?_
    generalize hes2:order.filterMap (es1[·]?)=es2 at k6 T2 hi2 hsz2 ⊢
    dsimp only
    refine wpAny_storeSet_of (s:={ s with heap:=s.heap.update a (Obj.putSet es1 t1) }) hg rfl ?_ (by rw[hsz2];exact hz1)
    have eo2:=putSet_of (o:={ o with data:=.set es1 (ep+1) t1 }) es2 t2 rfl
    have hg2:=bb (Obj.putSet es2 t2) hg (by rw[eo2];rfl)
    rw[eo2]at hg2
    have hsb2:=hsb.trans (Heap.SameBut.update (s.heap.update a (Obj.putSet es1 t1)) a (Obj.putSet es2 t2))
    refine af (h2 hno _ _ es2 _ t2 L2 hsb2 hg2 hc rfl ⟨hi2,fun p hp=>?_,(hp2.map (·.1)).nodup_iff.mpr hnd1,T2,⟨by rw[k2];exact g1,by rw[k2,T2.size,hsz2,hsz1];exact g2⟩⟩ (hp2.trans hp1) ?_)
    .exact(htp1 p (hp2.mem_iff.mp hp)).kept hg rfl (Heap.SameBut.update _ a _)
    .rcases hk1 with z|⟨z1,_⟩
     .exact .inl z
     .exact .inr ⟨by rw[k3];exact z1,T2.rise⟩
   .rw[if_neg (by simpa using hf)]
    refine af (h2 hno _ _ es1 _ t1 L1 hsb hg hc rfl ⟨hi1,htp1,hnd1,hT1,⟨by rw[hm1];exact X.mask.mask,?_⟩⟩ hp1 hk1)
    rw[hm1,hT1.size]
    exact hfew.mpr (by simpa using hf)
  split
  .refine aa (hbv hq fun b=>?_)
   cases b with
   |true=>exact step _ ⟨_,rfl⟩
   |false=>exact step _ ⟨false,rfl⟩
  .exact aa (af (step _ ⟨_,rfl⟩))
theorem kr' {bt:Bool} {a:Addr} {o:Obj} {es:Array (Int×Value)} {ep:Nat} {t:SetTable} {L:List (List Int×Addr)} (hu:A.units+1<cLine) (ho:s.heap.get? a=some o) (hc:o.ExactSet) (hd:o.data=.set es ep t) (X:Elms prog w s.heap es t L) (htk:TOk bt t) {q:List Int×Addr} (hq:Tup prog w s.heap q) (hl:L.length<4000) {Q:Value->Shared->Prop}
  (h1:q.1∈L.map (·.1)->∀tk,Q .none { s with toks:=tk })
  (h2:q.1∉L.map (·.1)->∀(h':Heap) (o':Obj) (es':Array (Int×Value)) (ep':Nat) (t':SetTable) (L':List (List Int×Addr)) tk,bu a s.heap h'->h'.get? a=some o'->o'.ExactSet->o'.data=.set es' ep' t'->Elms prog w h' es' t' L'->L'.Perm (q :: L)->TOk bt t'->Q .none { s with heap:=h',toks:=tk }):
  wpAny (model prog w) A (call (.builtin "set.add") [.ref a,.ref q.2]) Q E s:=by
 refine bf F.slot_set_add ⟨o,ho,hc.1⟩ F.entry_set_add ?_ (F.args_set_add_2 _ _)
 unfold Builtin.«set.add» Builtin.Frozenset.oneOther
 simp only[List.isEmpty_nil,bind_assoc]
 unfold Builtin.Frozenset.addrOf setAdd
 refine aa (af ?_)
 try dsimp only
 refine aa (af ?_)
 try dsimp only
 refine aa (aR (aa (wpAny_pyHash_tuple (by show A.units+1<cLine;exact hu) hq ?_)))
 refine lu' (s:={ s with toks:=s.toks+(q.1.length+1) }) (by show A.units+1<cLine;exact hu) ho hc hd X htk hq hl (fun hin=>?_) fun hno h' o' es' ep' t' L' z1 z2 z3 z4 z5 z6 z7=>?_
 .exact af ⟨_,rfl,h1 hin _⟩
 .exact af ⟨_,rfl,h2 hno h' o' es' ep' t' L' _ z1 z2 z3 z4 z5 z6 z7⟩
end
end Ts
end PySem
namespace L2
open PySem PySem.Spec PyProof.Rows
def t7' (h:Heap) (e:Addr) (cls:Value) (T:Addr):Prop:=∃oe vs oT ts a0,h.get? e=some oe/\(oe.cls=cls/\vs[0]?=some a0)/\oe.data=.fields vs/\vs[1]?=some (.ref T)/\T≠e/\h.get? T=some oT/\oT.data=.fields ts/\ts[3]?=some .none
structure LeftX (F S:List Addr) (e:Addr) (cls:Value) (h h':Heap):Prop where
 keep:∀b o,b∉F->b∉S->h.get? b=some o->h'.get? b=some o
 slot:∀b o,b∈F->h.get? b=some o->∃sl,h'.get? b=some { o with slots:=sl }
 there:∀b o,b∉S->h.get? b=some o->∃o',h'.get? b=some o'
 exc:∃T,(h.get? T=none\/T∈S)/\t7' h' e cls T
section
variable {M:Model} {A:Around} {E:Value->Shared->Prop} {s:Shared}
end
set_option tactic.hygienic true in
theorem pX' {K:W.Frag} {cd:Value} {q:Str} (e:W.codeIn K cd q=true):W.kdsCode K cd=true:=by
 unfold W.codeIn at e
 unfold W.kdsCode
 split at e
 .split at e
  .rename_i h
   dsimp only
   rw[h]
  .cases e
 .cases e
structure FnCx (X:Cx):Prop where
 ex:X.ex=[]
 fn:∀x,X.fn x=true
 stk:X.stack=X.env :: X.outer
 fr:X.env.frame=some X.env.locals
 cd:W.kdsCode X.K X.env.code=true
theorem FnCx.frs {X:Cx} (F:FnCx X):L2.frs X.stack=X.env.locals :: X.fs:=by
 rw[F.stk]
 show List.filterMap _ _=_
 rw[bN,F.fr]
 rfl
section
variable {X:Cx} {pins:List (Addr×Obj)} {σ:St} {H:Hp} {s:Shared}
theorem Inv.left {S:List Addr} {e:Addr} {cls:Value} {h2:Heap} (I:Inv X pins σ H s) (F:FnCx X) (L:LeftX (frs X.stack) S e cls s.heap h2)
  (hS:∀b∈S,H b=none/\X.s₀.heap.get? b=none/\(∀p∈X.pn++pins,p.1≠b)/\∃o vs,s.heap.get? b=some o/\o.data=.fields vs):Inv X pins σ H { s with heap:=h2 }:=by
 have hF:=F.frs
 have nfs:∀{b:Addr},b≠X.env.locals->b∉X.fs->b∉frs X.stack:=fun {b} h1 h2 hb=>by
  rw[hF]at hb
  rcases aq.mp hb with z|z
  .exact h1 z
  .exact h2 z
 have cell_ok:∀x c oc v,X.env.cells.lookup x=some c->s.heap.get? c=some oc->oc.data=.cell v->h2.get? c=some oc:=fun x c oc v hx ho hd=>by
  refine L.keep c oc (nfs (I.cne x c hx) fun hb=>?_) (fun hb=>?_) ho
  .obtain⟨_,o,eo,_⟩:=I.ok.funs.mem hb
   exact bn _ (ag (az eo) (I.ok.cab x c (F.fn x) hx))
  .obtain⟨_,_,_,o,vs,eo,ed⟩:=hS c hb
   rw[ho]at eo;cases eo
   rw[hd]at ed;cases ed
 refine⟨I.ok,I.os,I.bare,⟨fun b o e0 n hb hx=>?_,fun b o e0 n hb hx=>?_,I.base.free,fun b o e0 hx=>?_,I.base.tups,I.base.frzs,I.base.tbls⟩,?_,fun x c hx=>?_,I.free,I.freeC,fun p hp=>?_,fun b u e=>?_,I.len⟩
 .have e1:=I.base.keep b o e0 n hb hx
  refine L.keep b o (nfs (aB (ag (az e0) I.ok.above)) hb) (fun z=>?_) e1
  rw[(hS b z).2.1]at e0;cases e0
 .obtain⟨sl,e1⟩:=I.base.slot b o e0 n hb hx
  obtain⟨sl2,e2⟩:=L.slot b _ (by rw[hF];exact ao _ hb) e1
  exact⟨sl2,e2⟩
 .obtain⟨o',e1⟩:=I.base.there b o e0 hx
  exact L.there b o' (fun z=>by rw[(hS b z).2.1]at e0;cases e0) e1
 .obtain⟨m,⟨o,es,ep,ho,hd,r⟩,hl⟩:=I.loc
  obtain⟨sl,e2⟩:=L.slot X.env.locals o (by rw[hF];exact aA) ho
  refine⟨m,⟨_,es,ep,e2,hd,r⟩,fun i x v h1 h2 h3=>?_⟩
  obtain⟨u,ru,q⟩:=hl i x v h1 h2 h3
  refine⟨u,ru,?_⟩
  rcases q with q|⟨k,c,hc,oc,ho,hd⟩
  .exact .inl q
  .exact .inr ⟨k,c,hc,oc,cell_ok x c oc _ hc ho hd,hd⟩
 .obtain⟨v,oc,ho,hd⟩:=I.cell x c hx
  exact⟨v,oc,cell_ok x c oc v hx ho hd,hd⟩
 .obtain⟨e,n,ne,nf,d⟩:=I.pin p hp
  exact⟨L.keep p.1 p.2 (nfs ne nf) (fun z=>(hS p.1 z).2.2.1 p hp rfl) e,n,ne,nf,d⟩
 .refine(I.hok b u e).stay (fun c v hc q=>?_) (fun _ q=>q) fun _ _ q=>q
  have tr:∃u',H c=some u':=by
   rcases hc with z|z
   .exact⟨u,by rw[z];exact e⟩
   .exact⟨_,z⟩
  obtain⟨u',hu⟩:=tr
  refine L.keep c v (fun hb=>?_) (fun hb=>?_) q
  .rw[I.stkFree c hb]at hu;cases hu
  .rw[(hS c hb).1]at hu;cases hu
def CX1 (P:Program) (w:World) (mg:Str->Option Value):CXT:=fun outer H s E e s'=>∃(ea T Ca:Addr) (nm:Str) (H':Hp),e=.ref ea/\mg nm=some (.ref Ca)/\s'.os=s.os/\AllBare s'.gens/\Un (frs outer) [] H H' s.heap s'.heap/\HOk P w H' s'.heap/\
 t7' s'.heap ea (.ref Ca) T/\H' ea=none/\H' T=none/\s.heap.get? ea=none/\s.heap.get? T=none/\E (.str nm 0) none H'
end
def bmV:List Value:=[.type "ValueError",.type "Exception",.type "BaseException",.type "object"]
section
variable {X:Cx}
end
section
variable {X:Cx} {pins:List (Addr×Obj)} {σ:St} {H:Hp} {s:Shared} {D:Ends} {hs:List ExceptHandler}
def Cx.inX (X:Cx) (e:Addr):Cx:={ X with A:=X.A.mark (some (.ref e)),calm:=false,xe:=fun _ _=>False }
def pY' (e Ca:Addr) (h:Heap):Prop:=∃o vs,h.get? e=some o/\o.cls=.ref Ca/\o.data=.fields vs
def u9' (e Ca:Addr):HO:=.ext (pY' e Ca)
end
end L2
namespace L2
open PySem PySem.Spec PyProof.Rows PySem.W
structure XCls (K:Frag) (C:Addr):Prop where
 ga:findIn K (.ref C) "__getattribute__"=some (some (.builtin "BaseException.__getattribute__"))
 gt:findIn K (.ref C) "__getattr__"=some none
 cl:findIn K (.ref C) "__class__"=some (some (.builtin "object.__class__"))
 be:subIn K (.ref C) (.type "BaseException")=some true
 ob:subIn K (.ref C) (.type "object")=some true
 is:(clsIn K C).isSome=true
section
variable {prog:Program} {w:World} {A:Around} {E:Value->Shared->Prop} {K:Frag} {h:Heap} {g:Array GenState} {d:Drawn} {t:Nat} {os:OsState} {a C:Addr} {o:Obj}
end
end L2
namespace L2
open PySem PySem.Spec PyProof.Rows PySem.W
section
variable {X:Cx}
end
def t8':Option Int->Value->Bool
 |some k,v=>Value.isInt k v
 |none,.none=>true
 |none,_=>false
theorem aE':∀{k:Option Int} {v:Value},t8' k v=true->(∃i t,k=some i/\v=Value.int i t)\/(k=none/\v=Value.none)
 |some i,v,h=>by
  obtain⟨t,e⟩:=Value.isInt_shape (k:=i) (v:=v) h
  exact .inl ⟨i,t,rfl,e⟩
 |none,v,h=>by cases v<;>first|exact .inr ⟨rfl,rfl⟩|cases h
def okH:Option Int->Int
 |some k=>hashInt k
 |none=>0xFCA86420
def sU' (prog:Program) (w:World):PySem.KeyKind prog w (Option Int) where
 is:=t8'
 hash:=okH
 inj:=fun v a b ha hb=>by
  rcases aE' ha with⟨i,t,rfl,rfl⟩|⟨rfl,rfl⟩
  .rcases aE' hb with⟨j,u,rfl,e⟩|⟨rfl,e⟩
   .injection e with e1 _;rw[e1]
   .exact nomatch e
  .rcases aE' hb with⟨j,u,rfl,e⟩|⟨rfl,e⟩
   .exact nomatch e
   .rfl
 byValue:=fun k v h=>by
  rcases aE' h with⟨i,t,rfl,rfl⟩|⟨rfl,rfl⟩<;>rfl
 pyHash:=fun hv h=>by
  rcases aE' hv with⟨i,t,rfl,rfl⟩|⟨rfl,rfl⟩
  .exact wpAny_pyHash_int h
  .exact dY' h
 eqBool:=fun {A E s a b u v Q} hu hv h=>by
  rcases aE' hu with⟨i,t,rfl,rfl⟩|⟨rfl,rfl⟩
  .rcases aE' hv with⟨j,u,rfl,rfl⟩|⟨rfl,rfl⟩
   .have e:decide ((some i:Option Int)=some j)=(i == j):=by
     by_cases q:i=j
     .subst q;simp
     .rw[decide_eq_false (fun z=>q (Option.some.inj z)),(beq_eq_false_iff_ne.mpr q)]
    rw[e]at h
    exact wpAny_eqBool_int h
   .exact SeqAt.EqAt.int_none i t _ _ _ _ h
  .rcases aE' hv with⟨j,u,rfl,rfl⟩|⟨rfl,rfl⟩
   .exact SeqAt.EqAt.none_int j u _ _ _ _ h
   .exact SeqAt.EqAt.same .none _ _ _ _ h
 «strs»:=fun k x t v h=>by
  rcases aE' h with⟨i,u,rfl,e⟩|⟨rfl,e⟩<;>exact nomatch e
end L2
namespace PySem
open PyProof.Rows
section
variable {prog:Program} {w:World} {K:Type} [DecidableEq K] {knd:KeyKind prog w K}
variable {A:Around} {R:Result->Shared->Prop} {I:Addr} {fp wr:List Addr} {G:Array GenState->Array GenState->Prop} {n:Nat} {P:Nat->Value->Prop} {St:Nat->Shared->Prop}
end
section
variable {prog:Program} {w:World} {K:Type} [DecidableEq K] {knd:KeyKind prog w K} {A:Around} {E:Value->Shared->Prop} {s:Shared}
end
end PySem
namespace PySem
open PyProof.Rows
def Heap.IsSti (h:Heap) (a d:Addr) (f:Value) (i n ep:Nat):Prop:=∃o,h.get? a=some o/\o.cls=.type "set_iterator"/\o.data=.fields #[f,rawInt i,.ref d,rawInt n,rawInt ep]
theorem Heap.IsSti.at {h h':Heap} {a d:Addr} {f:Value} {i n ep:Nat} (x:h.IsSti a d f i n ep) (e:∀o,h.get? a=some o->h'.get? a=some o):h'.IsSti a d f i n ep:=let⟨o,ho,r⟩:=x;⟨o,e _ ho,r⟩
def Ord (bt:Bool) (w:World) (d ep:Nat) (es:Array (Int×Value)) (t:SetTable) (xs:Array Value) (h:Heap) (f:Value) (i:Nat):Prop:=
 (bt=true/\f=rawInt 0/\xs=(pickOrder (w.params.setOrder d ep) es).map (·.2))\/
 (bt=false/\(!t.plain&&decide (es.size > 1))=false/\Rsn t.place/\f=rawInt (if i=0 then 0 else((t.place.getD (i-1) 0+1:Nat):Int))/\xs=es.map (·.2))\/
 (bt=false/\∃(T:Addr) (pl:Array Nat),f=.ref T/\IsTup h T (pl.map fun(j:Nat)=>rawInt j)/\xs.size=pl.size/\∀(j p:Nat),pl[j]?=some p->∃x:Int×Value,es[p]?=some x/\xs[j]?=some x.2)
section
variable {prog:Program} {w:World} {A:Around} {E:Value->Shared->Prop} {s:Shared}
theorem Heap.IsSti.typeIs {a d:Addr} {f:Value} {i n ep:Nat} (x:s.heap.IsSti a d f i n ep):s.TypeIs (.ref a) "set_iterator":=let⟨o,ho,hc,_⟩:=x;⟨o,ho,hc⟩
theorem fw' {α:Type}:∀(l:List α) (i:Nat) (h:i<l.length),(l[i] :: l.eraseIdx i).Perm l
 |a :: l,0,h=>List.Perm.refl _
 |a :: l,i+1,h=>by
  rw[List.eraseIdx_cons_succ,List.getElem_cons_succ]
  exact(List.Perm.swap a _ _).trans ((fw' l i (by simpa using h)).cons a)
theorem ij' {α:Type} (f:Nat->Nat):∀(n k:Nat) (l:List α) (out:Array α),n=l.length->(pickOrder.go f n k l out).toList.Perm (out.toList++l)
 |0,k,l,out,e=>by
  have:l=[]:=List.length_eq_zero_iff.mp e.symm
  subst this
  unfold pickOrder.go
  simp
 |n+1,k,l,out,e=>by
  unfold pickOrder.go
  have hl:f k % l.length<l.length:=Nat.mod_lt _ (by omega)
  rw[ac hl]
  dsimp only
  refine(ij' f n (k+1) _ _ (by rw[List.length_eraseIdx_of_lt hl];omega)).trans ?_
  rw[cC,aV]
  refine List.Perm.append_left _ ?_
  rw[List.singleton_append]
  exact fw' l _ hl
theorem pZ' {α:Type} (f:Nat->Nat) (xs:Array α):(pickOrder f xs).toList.Perm xs.toList:=by
 have:=ij' f xs.size 0 xs.toList #[] (by simp)
 simpa[pickOrder]using this
end
end PySem
namespace PySem
open PyProof.Rows
section
variable {prog:Program} {w:World} {A:Around} {E:Value->Shared->Prop} {s:Shared}
end
end PySem
namespace PySem
open PyProof.Rows
section
variable {prog:Program} {w:World}
variable {A:Around} {E:Value->Shared->Prop} {s:Shared}
end
end PySem
namespace L2
open PySem PySem.Spec PyProof.Rows
structure CompInG {α:Type} (Is:α->Obj->Prop) (X:Cx) (e:Expr) (scope:Scope) (tg:Expr) (iter:Expr) (ifs:List Expr) (nx:Addr->Env->Sem Unit) (g:TG) (tc:TT) (a5':TL α) (own:List Nat):Prop where
 sc:CompSc X scope
 ow:∀i x,X.N[i]?=some x->(scope.names.lookup x=some .local\/scope.names.lookup x=some .cell)->i∈own
 cl:∃gs,clausesOf e=⟨tg,iter,ifs,0⟩ :: gs
 fs:∀x,foldedSetIterable iter X.env x=pure x
 calm:X.calm=true
 q:∀it D env,(Code.compLoop e 0 it (.ref D) env).quiet=true/\(Code.compStart e 0 it (.ref D) env).quiet=true
 u:∀A it D env,Around.under A (Code.compLoop e 0 it (.ref D) env)=A/\Around.under A (Code.compStart e 0 it (.ref D) env)=A
 T:∀P w it D env,(model P w).den (.compLoop e 0 it (.ref D) env)=(cr' e 0 tg iter ifs (nx D env) it (.ref D) env).onRaise (fun x=>do noteFrame x env;theTreesLotGoes x)
 S:∀P w it D env,(model P w).den (.compStart e 0 it (.ref D) env)=(compStart e 0 it (.ref D) env).onRaise (fun x=>do noteFrame x env;standAt theWindowsPlace)
 ge:pm' own g
 inn:∀s0 H0 ex D,PG (X.comp scope s0 H0 ex) tg g/\PTs (X.comp scope s0 H0 ex) ifs tc/\∃ws',(∀j∈ws',j∈own)/\dB' (X.comp scope s0 H0 ex) D Is ws' (nx D (X.comp scope s0 H0 ex).env) a5'
section
variable {X:Cx} {e:Expr} {scope:Scope} {tg iter:Expr} {ifs:List Expr} {nx:Addr->Env->Sem Unit} {g:TG} {tc:TT} {α:Type} {Is:α->Obj->Prop} {a5':TL α} {own:List Nat} {wi:TI} {a0:α} {o0:Bool->Obj} {newAcc:Sem Value} {ho:Addr->α->HO} {ok:α->Hp->Prop}
end
section
variable {X:Cx} {e:Expr} {scope:Scope} {tg iter:Expr} {ifs:List Expr} {nx:Addr->Env->Sem Unit} {g:TG} {tc:TT} {α:Type} {Is:α->Obj->Prop} {a5':TL α} {own:List Nat} {wi:TI} {a0:α} {o0:Bool->Obj} {newAcc:Sem Value} {ho:Addr->α->HO} {ok:α->Hp->Prop}
end
def kO:Option Int->V
 |some i=>.int i
 |none=>.non
def IsS (a:(Option Int->Bool)×Nat) (o:Obj):Prop:=a.2<=4000/\(∃es ep t,o.data=.set es ep t)/\∃m,m<=a.2/\∀(P:Program) (w:World),o.SetObjOf (sU' P w) a.1 m
def uO' (D:Addr) (S:Option Int->Bool) (n:Nat):HO:=.ext fun h=>∃o,h.get? D=some o/\IsS (S,n) o
section
variable {X:Cx}
def uP' (neg:Bool):R2:=fun x y H Q=>∃k D S n,x=kO k/\y=.ref D/\H D=some (uO' D S n)/\Q (.bl (if neg then !(S k)else S k)) H
end
abbrev NH:Int:=0xFCA86420
section
variable {prog:Program} {w:World} {A:Around} {E:Value->Shared->Prop} {s:Shared}
end
theorem eg' {P:Program} {w:World} {k:Key}:∀{es:List DictEntry} {vs:List (Key×Value)} {en:DictEntry},Pairs (at' P w) es vs->en∈es->(at' P w).is k en.key=true->k∈vs.map (·.1)
 |_,_,_,.nil,h,_=>by cases h
 |_,_,en,.cons (e:=e) (kv:=kv) h1 h2 r,h,hk=>by
  rcases aq.mp h with rfl|h
  .rw[(at' P w).inj _ _ _ hk h1]
   exact aA
  .exact ao _ (eg' r h hk)
theorem cj' {α β:Type} {F:α->β->Prop}:∀{xs:List α} {ys:List β} {y:β},Paired F xs ys->y∈ys->∃x∈xs,F x y
 |_,_,_,.nil,h=>by cases h
 |_,_,y,.cons h1 r,h=>by
  rcases aq.mp h with rfl|h
  .exact⟨_,aA,h1⟩
  .obtain⟨x,hx,hf⟩:=cj' r h
   exact⟨x,ao _ hx,hf⟩
def NoN (H:Hp) (a:Addr):Prop:=(∃kvs,H a=some (.dK kvs)/\∀kv∈kvs,∃i:Int,kv.1=.inl i/\hashInt i≠NH)\/
 ∃kvs,H a=some (.dT kvs)/\∀kv∈kvs,∃is:List Int,kv.1=is.map Key.inl/\reduceHash (Builtin.Tuple.tupleHashOf (is.map hashInt))≠NH
theorem NoN.at {X:Cx} {pins:List (Addr×Obj)} {σ:St} {H:Hp} {s:Shared} {a:Addr} (I:Inv X pins σ H s) (h:NoN H a):(a == sysModules)=false/\s.TypeIs (.ref a) "dict"/\∃o es ep,s.heap.get? a=some o/\o.data=.dict es ep/\∀e∈es.toList,e.hash≠NH:=by
 rcases h with⟨kvs,e,hk⟩|⟨kvs,e,hk⟩
 .obtain⟨z,hd,vs,rel,dd⟩:=sL' I.hok e
  refine⟨hd,dd.typeIs,?_⟩
  obtain⟨o,es,ep,h1,_,h3,h4,h5,_⟩:=dd
  refine⟨o,es,ep,h1,h3,fun en hen=>?_⟩
  obtain⟨k,hk1,hk2⟩:=h4 en (bL.mp hen)
  have hin:k∈kvs.map (·.1):=by
   rw[rel.keys]
   exact eg' h5 hen hk1
  obtain⟨kv,hkv,rfl⟩:=aP.mp hin
  obtain⟨i,ei,hi⟩:=hk kv hkv
  rw[hk2,ei]
  exact hi
 .obtain⟨z,hd,xs,rel,dd⟩:=sM' I.hok e
  refine⟨hd,dd.typeIs,?_⟩
  obtain⟨o,es,ep,h1,_,h3,h4,_⟩:=dd
  refine⟨o,es,ep,h1,h3,fun en hen=>?_⟩
  rw[h4]at hen
  obtain⟨x,hx,rfl⟩:=aP.mp hen
  obtain⟨kv,hkv,hp⟩:=cj' rel hx
  obtain⟨is,ei,hi⟩:=hk kv hkv
  show(tupleKind (at' X.prog X.w)).hash x.1≠NH
  rw[<- hp.1,ei]
  show reduceHash (Builtin.Tuple.tupleHashOf ((is.map Key.inl).map (at' X.prog X.w).hash))≠NH
  rw[List.map_map]
  exact hi
section
variable {X:Cx}
end
section
variable {X:Cx}
end
section
variable {X:Cx} {o e f i:Expr} {apos cpos:Pos} {td ty tx:TE}
end
section
variable {X:Cx} {e:Expr} {scope:Scope} {tg iter:Expr} {ifs:List Expr} {nx:Addr->Env->Sem Unit} {g:TG} {tc:TT} {own:List Nat} {wi:TI}
end
section
variable {prog:Program} {w:World} {A:Around} {E:Value->Shared->Prop} {s:Shared}
end
section
variable {X:Cx}
theorem Inv.other {pins:List (Addr×Obj)} {σ:List (Option V)} {H:Hp} {s s':Shared} (I:Inv X pins σ H s) (h1:s'.heap=s.heap) (h2:s'.gens=s.gens) (h3:s'.os=s.os):Inv X pins σ H s':=by
 obtain⟨hp,g,d,t,os⟩:=s'
 cases h1;cases h2;cases h3
 exact⟨I.ok,I.os,I.bare,I.base,I.loc,I.cell,I.free,I.freeC,I.pin,I.hok,I.len⟩
variable {e:Expr} {scope:Scope} {tg iter:Expr} {ifs:List Expr} {nx:Addr->Env->Sem Unit} {g:TG} {tc:TT} {a5':TL ((Option Int->Bool)×Nat)} {own:List Nat} {wi:TI}
end
end L2
namespace L2
open PySem PySem.Spec PyProof.Rows PySem.Ts
theorem fx' {P:Program} {w:World}:∀{k:List Int} {us:List Value},ax' (k.map V.int) us->ItemsAre (intKind P w) k us
 | [],_,.nil=>.nil
 |i :: k,_,.cons r t=>by
  obtain⟨u,rfl⟩:=(show ∃u,_=Value.int i u from r)
  exact .cons (by show Value.isInt i (.int i u)=true;simp[Value.isInt]) (fx' t)
theorem eh' {P:Program} {w:World} {H:Hp} {h:Heap} {q:List Int×Addr} (ok:HOk P w H h) (e:H q.2=some (.tup (q.1.map V.int))):Tup P w h q:=by
 obtain⟨_,its,r,o,h1,h2,⟨n,h3⟩,_⟩:=(show aF' P w H h q.2 (.tup (q.1.map V.int)) from ok _ _ e)
 exact⟨o,its.toArray,n,h1,h2,h3,by rw[List.toList_toArray];exact fx' r⟩
def Trk (H:Hp) (L:List (List Int×Addr)):Prop:=∀q∈L,H q.2=some (.tup (q.1.map V.int))
theorem ks' (led:Bool):TabOk (.fresh 0 0 led) #[]:=⟨List.Pairwise.nil,fun p hp=>absurd hp (by simp[SetTable.fresh]),rfl,rfl,⟨3,rfl⟩,bh _,fun q hq=>absurd hq (by simp[SetTable.fresh])⟩
section
variable {X:Cx}
def kt' (a:List (List Int×Addr)) (k:List Int) (b:Addr):List (List Int×Addr):=if k∈a.map (·.1)then a else a++[(k,b)]
variable {e:Expr} {scope:Scope} {tg iter:Expr} {ifs:List Expr} {nx:Addr->Env->Sem Unit} {g:TG} {tc:TT} {a5':TL (List (List Int×Addr))} {own:List Nat} {wi:TI}
end
end L2
namespace L2
open PySem PySem.Spec PyProof.Rows PySem.Ts
def IsQ (L:List (List Int×Addr)) (o:Obj):Prop:=L.length<=4000/\∃(es:Array (Int×Value)) (ep:Nat) (t:SetTable) (L':List (List Int×Addr)),L'.Perm L/\o.ExactSet/\o.data=.set es ep t/\(∀P w,es.toList=L'.map (elm P w))/\(L'.map (·.1)).Nodup/\TabOk t es/\MaskOk t
def bR' (D:Addr) (L:List (List Int×Addr)):HO:=.ext fun h=>∃o,h.get? D=some o/\IsQ L o
theorem ik' {P:Program} {w:World} {H:Hp} {h:Heap} {D:Addr} {L:List (List Int×Addr)} {o:Obj} (e:h.get? D=some o) (i:IsQ L o):aF' P w H h D (bR' D L):=
 ⟨⟨o,e,i⟩,⟨o,e⟩,fun h1 h2 ⟨o',e',i'⟩ k=>⟨o',k o' e',i'⟩⟩
section
variable {X:Cx} {pins:List (Addr×Obj)} {σ:St} {H:Hp} {s:Shared} {A:Around} {E:Value->Shared->Prop}
theorem il' {D:Addr} {L:List (List Int×Addr)} (I:Inv X pins σ H s) (hD:H D=some (bR' D L)) (ht:Trk H L):L.length<=4000/\∃o es ep t L',s.heap.get? D=some o/\o.ExactSet/\o.data=.set es ep t/\Elms X.prog X.w s.heap es t L'/\L'.Perm L:=by
 obtain⟨o,e,h4,es,ep,t,L',hp,hex,hd,hes,hnd,hT,hM⟩:=(show aF' X.prog X.w H s.heap D (bR' D L) from I.hok D _ hD).1
 exact⟨h4,o,es,ep,t,L',e,hex,hd,⟨hes _ _,fun q hq=>eh' I.hok (ht q (hp.mem_iff.mp hq)),hnd,hT,hM⟩,hp⟩
theorem gz' {D:Addr} {o:Obj} {es:Array (Int×Value)} {ep:Nat} {t:SetTable} {L:List (List Int×Addr)} {P:Program} {w:World} {q:List Int×Addr} {Q:Value->Shared->Prop} (hu:A.units+1<cLine) (ho:s.heap.get? D=some o) (hc:o.ExactSet) (hd:o.data=.set es ep t) (X:Elms P w s.heap es t L) (hq:Tup P w s.heap q)
  (h:∀tk,Q (.bool (!decide (q.1∈L.map (·.1)))) { s with toks:=tk }):wpAny (model P w) A (compareOp .NotIn (.ref q.2) (.ref D)) Q E s:=by
 have hT:s.TypeIs (.ref D) "set":=⟨o,ho,hc.1⟩
 show wpAny _ _ (do return .bool (!(<- contains (.ref D) (.ref q.2)))) Q E s
 refine aa ?_
 unfold contains
 try with_reducible refine aR ?_
 refine aa (cu hT F.slot_set_contains.lookup ?_)
 show wpAny _ _ (if(some (Value.builtin "set.__contains__") == some Value.none)=true then _ else _) _ E s
 rw[if_neg (by rw[beq_builtin_none];exact ap)]
 refine aa (wpAny_callSpecialUnlessNone?_slot (name:=Str.ofString "__contains__") hT F.slot_set_contains (bf F.slot_set_contains hT entry_set_contains ?_ (F.args_set_contains_2 _ _)))
 unfold Builtin.«frozenset.__contains__» Builtin.Frozenset.oneOther
 simp only[List.isEmpty_nil,bind_assoc]
 unfold Builtin.Frozenset.addrOf Builtin.Frozenset.withSetAsKey
 refine aa (af ?_)
 try dsimp only
 refine aa (af ?_)
 try dsimp only
 refine aa (wpAny_tryCatch ?_)
 refine pV' (by show A.units+1<cLine;exact hu) ho hd X hq fun tk=>?_
 show wpAny _ _ (ret (Value.bool _)) _ _ _
 exact af ⟨_,rfl,cz (af (h tk))⟩
def p0':R2:=fun x y H Q=>∃(k:List Int) (b D:Addr) (L:List (List Int×Addr)),x=.ref b/\H b=some (.tup (k.map V.int))/\y=.ref D/\H D=some (bR' D L)/\Trk H L/\Q (.bl (!decide (k∈L.map (·.1)))) H
theorem nA' (hu:X.A.units+64<cLine):OpR X (compareOp .NotIn) p0':=by
 intro pins s σ H x y v u Q I rx ry h
 obtain⟨k,b,D,L,rfl,hb,rfl,hD,ht,q⟩:=h
 cases rx
 cases ry
 obtain⟨h4,o,es,ep,t,L',ho,hex,hd,hX,hp⟩:=il' I hD ht
 refine gz' (q:=(k,b)) (by omega) ho hex hd hX (eh' I.hok hb) fun tk=>⟨.bl (!decide (k∈L.map (·.1))),H,I.tok _,?_,q⟩
 show _=_
 rw[decide_eq_decide.mpr (hp.map (·.1)).mem_iff]
def sV' (td ty:TE):TE:=fun σ H Q=>td σ H fun x H1=>∃(D:Addr) (L0:List (List Int×Addr)),x=.ref D/\H1 D=some (bR' D L0)/\ty σ H1 fun y H2=>∃(k:List Int) (b:Addr) (L:List (List Int×Addr)),y=.ref b/\H2 b=some (.tup (k.map V.int))/\H2 D=some (bR' D L)/\Trk H2 L/\L.length<4000/\Q .non (upd H2 D (bR' D (kt' L k b)))
variable {o e:Expr} {apos cpos:Pos} {td ty:TE}
set_option tactic.hygienic true in
theorem p1' (hu:X.A.units+1<cLine) (ho:PE X o td) (he:PE X e ty) (m:M1 X o "add" apos e cpos):PE X (.Call (.Attribute o "add" apos) [e] [] cpos) (sV' td ty):=by
 intro pins s σ H Q I h
 refine wpAny_Call_method m.base m.few m.line PySem.F.plainAttrs_set PySem.F.slot_set_add PySem.F.type_set_add (thn (ho pins s σ H _ I h) fun u s1 ⟨x,H1,I1,rx,D,L0,ex,hD0,q1⟩=>?_)
 subst ex
 obtain rfl:u=Value.ref D:=rx
 obtain⟨o0,e0,_,es0,ep0,t0,L0',_,hex0,_⟩:=(show aF' X.prog X.w H1 s1.heap D (bR' D L0) from I1.hok D _ hD0).1
 refine⟨⟨o0,e0,hex0.1⟩,fun b eb=>by cases eb;exact⟨o0,e0,hex0.2.1⟩,?_⟩
 rw[m.trees]
 refine Calls.callWith_builtin rfl (Calls.evalArgs_plain (Calls.spliced_cons (thn (he pins s1 σ H1 _ I1 q1) fun iv s2 ⟨y,H2,I2,ry,k,b,L,ey,hb,hD,ht,hl,q2⟩=>Calls.spliced_nil ?_)))
 subst ey
 obtain rfl:iv=Value.ref b:=ry
 obtain⟨h4,o,es,ep,t,L',ho,hex,hd,hX,hp⟩:=il' I2 hD ht
 refine kr' (bt:=true) (q:=(k,b)) hu ho hex hd hX (.inl rfl) (eh' I2.hok hb) (by rw[hp.length_eq];exact hl) (fun hin tk=>?_) fun hno h' o' es' ep' t' L2 tk hs ho' hex' hd' X2 hp2 _=>?_
 .have:kt' L k b=L:=by unfold kt';exact if_pos ((hp.map Prod.fst).mem_iff.mp hin)
  rw[this]at q2
  have e1:upd H2 D (bR' D L)=H2:=by
   funext c
   unfold upd
   split
   .rename_i e;rw[e,hD]
   .rfl
  rw[e1]at q2
  exact⟨.non,H2,I2.tok _,rfl,q2⟩
 .have ea:kt' L k b=L++[(k,b)]:=by unfold kt';exact if_neg fun z=>hno ((hp.map Prod.fst).mem_iff.mpr z)
  rw[ea]at q2
  refine⟨.non,_,eU' (ob:=bR' D (L++[(k,b)])) I2 (by rw[hD];exact True.intro) hs ⟨o',ho'⟩ (ik' ho' ⟨by rw[am];show _+1<=4000;omega,es',ep',t',L2,?_,hex',hd',fun P w=>X2.its,X2.nd,X2.tab,X2.mask⟩),rfl,q2⟩
  exact hp2.trans ((hp.cons _).trans (List.perm_append_singleton (k,b) L).symm)
def sW' (te:TE):TE:=fun σ H Q=>te σ H fun v H1=>∃(k:List Int) (b:Addr),v=.ref b/\H1 b=some (.tup (k.map V.int))/\∀p,H1 p=none->Q (.ref p) (upd H1 p (bR' p [(k,b)]))
theorem p2' {te:TE} {kk:Nat} {pos:Pos} (hu:X.A.units+1<cLine) (hcode:W.kdsCode X.K X.env.code=true) (hk:kk=0) (he:PE X e te) (hs:starEach [e] X.env=[(false,eval e X.env)]):PE X (.Set [e] kk pos) (sW' te):=by
 intro pins s σ H Q I h
 subst hk
 rw[arm_eval_Set,hs]
 refine aa (cf ?_)
 refine aa (W.kds_main I.kIn hcode fun b=>?_)
 refine W.kds_core (ts:=[do let v <- eval e X.env;standAt pos;pure v]) (by rfl) rfl (by show 1<=30;decide) rfl fun led=>?_
 generalize ho0:({ cls:=.type "set",dict:=none,data:=.set #[] 0 (.fresh 0 0 led) }:Obj)=o0
 have oD:(s.heap.push o0).get? s.heap.objs.size=some o0:=aw _ (by rw[<- ho0];rfl)
 have I3:Inv X pins σ H { s with heap:=s.heap.push o0 }:=I.kept (t':=s.toks) fun b o e=>ae _ e
 have fD:c2' X pins H s.heap.objs.size:=I.fpOk (ak _) (I.hok.fresh (ak _))
 have I1:Inv X (pins++bQ' [s.heap.objs.size] (s.heap.push o0)) σ H { s with heap:=s.heap.push o0 }:=I3.pinned (fun b hb=>by
  have e:b=s.heap.objs.size:=by simpa using hb
  subst e
  exact fD) (fun b hb=>by
  have e:b=s.heap.objs.size:=by simpa using hb
  subst e
  exact⟨o0,oD,fun v=>by rw[<- ho0];exact fun z=>nomatch z⟩)
 show wpAny _ _ ((eval e X.env >>= fun v=>standAt pos >>= fun _=>pure v) >>= fun v=>holding [v] (evalAll []) >>= fun r=>pure (v :: r)) _ _ _
 refine aa (aa (thn (he _ _ σ H _ I1 h) fun u s1 ⟨v,H1,J1,r1,k,b,ev,hb,q⟩=>?_))
 subst ev
 obtain rfl:u=Value.ref b:=r1
 refine aa (cf (af (aa (aR (af (af ?_))))))
 have q1:=J1.pin (s.heap.objs.size,o0) (ax _ (ax _ (aU' (by simp) oD)))
 obtain⟨_,f1,f2,f3,f4,f5⟩:=fD
 have hex:o0.ExactSet:=by rw[<- ho0];exact⟨rfl,rfl,rfl⟩
 have hd:o0.data=.set #[] 0 (.fresh 0 0 led):=by rw[<- ho0]
 have X1:Elms X.prog X.w s1.heap #[] (.fresh 0 0 led) []:=⟨rfl,fun q hq=>absurd hq aK,List.nodup_nil,ks' _,⟨by simp[SetTable.fresh],show 0*5<7*3 by decide⟩⟩
 refine W.kds_fill_cons ?_
 unfold setAdd
 refine aR (aa (wpAny_pyHash_tuple (by show X.A.units<cLine;omega) (eh' (q:=(k,b)) J1.hok hb) ?_))
 refine lu' (bt:=true) (q:=(k,b)) (s:={ s1 with toks:=s1.toks+(k.length+1) }) (by show X.A.units<cLine;omega) q1.1 hex hd X1 (.inl rfl) (eh' J1.hok hb) (by decide) (fun hin=>absurd hin aK) fun hno h' o' es' ep' t' L2 hs' ho' hex' hd' X2 hp2 _=>?_
 refine W.kds_fill_nil (by rfl) ?_
 have J2:Inv X pins σ H1 { s1 with heap:=h',toks:=s1.toks+(k.length+1) }:=J1.unpinned.turned (it:=s.heap.objs.size) (t':=s1.toks+(k.length+1)) (fun b o hb e=>(hs'.2 b hb).trans e) q1.2.1 f1 f3 f4 f5
 exact⟨.ref s.heap.objs.size,_,J2.track (D:=s.heap.objs.size) (o:=bR' s.heap.objs.size [(k,b)]) ⟨q1.2.1,f1,f2,f3,f4,f5⟩ I.sz (ik' ho' ⟨by show 1<=4000;decide,es',ep',t',L2,hp2,hex',hd',fun P w=>X2.its,X2.nd,X2.tab,X2.mask⟩),rfl,q _ q1.2.1⟩
end
section
variable {prog:Program} {w:World} {K:Type} [DecidableEq K] {knd:HeapKind prog w K} {A:Around} {E:Value->Shared->Prop} {s:Shared}
theorem eY' {d a:Addr} {xs:List (K×Addr×Value)} {k:K} {v:Value} {Q:Value->Shared->Prop} (hu:knd.room A) (hk:knd.is s.heap k a) (hm:s.heap.DictOfH knd d xs) (hz:xs.length<=sizeLine)
  (h1:∀p,atKey xs k=some p->Q p.2 { s with toks:=s.toks+knd.draws k })
  (h2:atKey xs k=none->∀h',h'.DictOfH knd d (storedH xs k a v)->bu d s.heap h'->Q v { s with heap:=h',toks:=s.toks+knd.draws k }):wpAny (model prog w) A (dictSetDefault d (.ref a) v) Q E s:=by
 obtain⟨o,es,ep,ho,hc,hd,he,his,hn⟩:=hm
 unfold dictSetDefault
 refine aR ?_
 refine aa (knd.pyHash hu hk (aa (wpAny_dictFind_heap (s:={ s with toks:=s.toks+knd.draws k }) hu hk ho hd he his hn (fun hno=>?_) fun j p hj=>?_)))
 .have e0:atKey xs k=none:=atKey_none_of_get hno
  have hnk:k∉xs.map (·.1):=not_mem_keys_of_get hno
  have es0:storedH xs k a v=xs++[(k,a,v)]:=storedH_new e0 _ _
  have hsz:es.size<=sizeLine:=by rw[<- au,he,ai];exact hz
  refine aa (cH ?_)
  refine aa (wpAny_updateDictKeys (hz:=hsz) (s:={ s with toks:=s.toks+knd.draws k }) ho hd (af (h2 e0 _ ?_ (Heap.SameBut.update ..))))
  refine⟨_,_,ep+1,bb _ ho (Obj.isFreed_of_dict (Obj.data_mapDictKeys hd _)),hc.mapDictKeys _,Obj.data_mapDictKeys hd _,by rw[es0];simp[he,entryOfKey],fun x hx=>?_,?_⟩
  .rw[es0]at hx
   have sb:=Heap.SameBut.update s.heap d (Obj.mapDictKeys fun x=>x.push { hash:=knd.hash k,key:=Value.ref a,val:=v })
   rcases al.mp hx with hx|hx
   .exact knd.keeps (his x hx) ho hd sb
   .rw[bT.mp hx]
    exact knd.keeps hk ho hd sb
  .rw[es0,aO]
   exact hX' hn hnk
 .refine aa (wpAny_dictEntries (s:={ s with toks:=s.toks+knd.draws k }) ho hd ?_)
  rw[entry_at he j,hj]
  exact aa (cH (af (h1 p (atKey_of_get hn hj))))
end
section
variable {X:Cx} {pins:List (Addr×Obj)} {σ:St} {H:Hp} {s:Shared} {a:Addr} {y d:V} {u r:Value} {o:Option V} {A:Around} {E:Value->Shared->Prop}
theorem ku' {Q:Value->Shared->Prop} (hu:A.units+1<cLine) (I:Inv X pins σ H s) (g:kb' H a y o) (ry:as' y u) (rd:as' d r) (h1:∀v w' s',o=some v->Inv X pins σ H s'->as' v w'->Q w' s') (h2:o=none->∃H',ln' H a y d H'/\∀s',Inv X pins σ H' s'->Q r s'):
  wpAny (model X.prog X.w) A (call (.builtin "dict.setdefault") [.ref a,u,r]) Q E s:=by
 rcases g with⟨kvs,k,e,ey,l⟩|⟨kvs,k,b,e,ey,eb,l⟩
 .subst ey
  obtain⟨z,hd,vs,rel,dd⟩:=j9' I.hok e
  have hz:vs.length<=sizeLine:=by rw[<- rel.length];exact z
  refine call_meetsIn PySem.F.slot_dict_setdefault dd.typeIs PySem.F.entry_dict_setdefault (PySem.F.args_dict_setdefault_3 _ _ _) (kt_meets_setdefault (at' X.prog X.w) a (pB' ry) hd r) ⟨vs,dd,hz,fun v' ev=>?_,fun ev h' dd' hs=>?_⟩
  .have hr:=rel.val k
   rw[<- l,ev]at hr
   cases o with
   |none=>exact absurd hr (fun z=>z)
   |some v=>exact h1 v v' _ rfl (I.tok _) hr
  .have hr:=rel.val k
   rw[<- l,ev]at hr
   cases o with
   |some v=>exact absurd hr (fun z=>z)
   |none=>
    obtain⟨H',p,q⟩:=h2 rfl
    refine q _ ?_
    rcases p with⟨kvs',k',e',ey',l',eH⟩|⟨kvs',k',b',e',ey',eb',l',eH⟩
    .have ek:=ll' ey'
     subst ek eH
     rcases e with e|⟨_,e⟩
     .rw[e']at e
      cases e
      have hl:(dE' kvs k d).length<=sizeLine:=by have:=cK' kvs k d;omega
      have he:∃q,h'.get? a=some q:=let⟨q,_,_,hq,_⟩:=dd';⟨q,hq⟩
      exact eU' I (by rw[e'];exact True.intro) hs he (pD' hl hd (rel.put k rd) dd')
     .rw[e']at e
      cases e
    .cases k<;>exact nomatch ey'
 .subst ey
  cases(show u=Value.ref b from ry)
  obtain⟨z,hd,xs,rel,dd⟩:=ka' I.hok e
  have hz:xs.length<=sizeLine:=by rw[<- Paired.length rel];exact z
  have hr:=rel.val k
  rw[<- l]at hr
  refine bf PySem.F.slot_dict_setdefault dd.typeIs PySem.F.entry_dict_setdefault ?_ (PySem.F.args_dict_setdefault_3 _ _ _)
  unfold Builtin.«dict.setdefault» Builtin.Dict.keyAndDefault
  refine aa (aa (wpAny_notOrdered_dict dd.typeIs ?_))
  show wpAny _ _ (pure (a,Value.ref b,some r)) _ _ s
  refine af ?_
  show wpAny _ _ (if(a == sysModules)=true then _ else(dictSetDefault a (Value.ref b) r >>= fun v=>ret v)) _ _ s
  rw[if_neg (by simp[hd])]
  refine aa (eY' (tupleKind_room_in1 hu) (lm' I.hok eb) dd hz (fun p ep=>af ⟨_,rfl,?_⟩) fun ep h' dd' hs=>af ⟨_,rfl,?_⟩)
  .rw[ep]at hr
   cases o with
   |none=>exact absurd hr (fun z=>z)
   |some v=>exact h1 v _ _ rfl (I.tok _) hr
  .rw[ep]at hr
   cases o with
   |some v=>exact absurd hr (fun z=>z)
   |none=>
    obtain⟨H',p,q⟩:=h2 rfl
    refine q _ ?_
    rcases p with⟨kvs',k',e',ey',l',eH⟩|⟨kvs',k',b',e',ey',eb',l',eH⟩
    .cases k'<;>exact nomatch ey'
    .cases ey'
     rw[eb]at eb'
     have ek:k=k':=hU' (by injection eb' with z;injection z)
     subst ek eH
     rcases e with e|⟨_,e⟩
     .rw[e']at e
      cases e
      have hl:(dE' kvs k d).length<=sizeLine:=by have:=cK' kvs k d;omega
      obtain⟨q,es,ep',hq,g2,g3,g4,_,g5⟩:=dd'
      refine eU' I (by rw[e'];exact True.intro) hs ⟨q,hq⟩ ⟨hl,hd,_,(rel.put k eb rd).keeps fun c ys ec=>?_,q,es,ep',hq,g2,g3,g4,g5⟩
      rw[ac' (sd' ec e' (fun z=>nomatch z))]
      exact ec
     .rw[e']at e
      cases e
end
def sX' (td ty tx:TE):TE:=fun σ H Q=>td σ H fun x H1=>∃a,x=.ref a/\IsD H1 a/\ty σ H1 fun y H2=>tx σ H2 fun z H3=>∃o,kb' H3 a y o/\(∀v,o=some v->Q v H3)/\(o=none->∃H4,ln' H3 a y z H4/\Q z H4)
section
variable {X:Cx} {o e f:Expr} {apos cpos:Pos} {td ty tx:TE}
theorem p3' (hu:X.A.units+1<cLine) (ho:PE X o td) (he:PE X e ty) (hf:PE X f tx) (m:M2 X o "setdefault" apos e f cpos):PE X (.Call (.Attribute o "setdefault" apos) [e,f] [] cpos) (sX' td ty tx):=by
 intro pins s σ H Q I h
 refine wpAny_Call_method m.base m.few m.line PySem.F.plainAttrs_dict PySem.F.slot_dict_setdefault PySem.F.type_dict_setdefault (thn (ho pins s σ H _ I h) fun u s1 ⟨x,H1,I1,rx,a,ex,d,q1⟩=>?_)
 subst ex
 obtain rfl:u=Value.ref a:=rx
 obtain⟨t1,t2,_⟩:=pF' I1 d
 refine⟨t1,t2,?_⟩
 rw[m.trees]
 refine Calls.callWith_builtin rfl (Calls.evalArgs_plain (Calls.spliced_cons (thn (he pins s1 σ H1 _ I1 q1) fun iv s2 ⟨y,H2,I2,ry,q2⟩=>Calls.spliced_cons (thn (hf pins s2 σ H2 _ I2 q2) fun fv s3 ⟨z,H3,I3,rz,ov,g,k1,k2⟩=>Calls.spliced_nil ?_))))
 exact ku' hu I3 g ry rz (fun v w' s4 ev I4 rv=>⟨_,H3,I4,rv,k1 v ev⟩) fun e0=>let⟨H4,p,q⟩:=k2 e0;⟨H4,p,fun s4 I4=>⟨_,H4,I4,rz,q⟩⟩
end
end L2
namespace L2
open PySem PySem.Spec PyProof.Rows PySem.SeqAt
def Ls1 (H:Hp) (v:V) (ns:List Int):Prop:=∃p,v=.ref p/\H p=some (.lst (ns.map V.int))
def LL (H:Hp) (a:Addr) (L:List (List Int)):Prop:=∃vs,H a=some (.lst vs)/\vs.length=L.length/\∀(i:Nat) v ns,vs[i]?=some v->L[i]?=some ns->Ls1 H v ns
theorem aW':∀{a b:List Int},a.map V.int=b.map V.int->a=b
 | [],[],_=>rfl
 | [],_ :: _,h=>by cases h
 |_ :: _,[],h=>by cases h
 |x :: a,y :: b,h=>by
  rw[aE,aE]at h
  injection h with h1 h2
  injection h1 with h1
  rw[h1,aW' h2]
theorem dJ' {α:Type} [DecidableEq α] {a b:List α} (h:a.length=b.length):(aH a.length).all (fun i=>decide (a[i]?=b[i]?))=decide (a=b):=by
 by_cases e:a=b
 .subst e;simp
 .rw[decide_eq_false e,Bool.eq_false_iff]
  intro z
  apply e
  apply bZ
  intro i
  rw[List.all_eq_true]at z
  by_cases hi:i<a.length
  .exact of_decide_eq_true (z i (aT.mpr hi))
  .rw[bd (by omega),bd (by omega)]
section
variable {X:Cx} {pins:List (Addr×Obj)} {σ:L2.St} {H:Hp} {s:Shared}
theorem lv' (I:Inv X pins σ H s) {A:Around} {v w:V} {u u':Value} {ns ms:List Int} (hu:A.units+1<cLine) (h1:Ls1 H v ns) (h2:Ls1 H w ms) (r1:as' v u) (r2:as' w u'):EqAt A s u u' (decide (ns=ms)):=by
 obtain⟨p,rfl,e1⟩:=h1
 obtain⟨q,rfl,e2⟩:=h2
 cases r1
 cases r2
 by_cases hpq:p=q
 .subst hpq
  rw[e1]at e2
  have:ns=ms:=aW' (by injection e2 with e2;injection e2 with e2)
  rw[decide_eq_true this]
  exact EqAt.same _
 obtain⟨its,v1,pl1,_⟩:=I.list (SqL.of e1)
 obtain⟨its2,v2,pl2,_⟩:=I.list (SqL.of e2)
 have l1:=v1.length
 have l2:=v2.length
 rw[ai]at l1 l2
 by_cases hl:ns.length=ms.length
 .have:=RcAt.lists (e:=fun j=>decide (ns[j]?=ms[j]?)) pl1.isList pl2.isList (by simp;omega) (by omega) (A:=A) (fun j h1 h2=>?_)
  .rw[aj,<- l1,dJ' hl]at this
   exact EqAt.of_refs hpq this
  .have j1:j<ns.length:=by simp at h1;omega
   have j2:j<ms.length:=by omega
   obtain⟨u1,f1,ru1⟩:=v1.get (i:=j) (by rw[aG,ac j1];rfl)
   obtain⟨u2,f2,ru2⟩:=v2.get (i:=j) (by rw[aG,ac j2];rfl)
   rw[bx' f1 h1,bx' f2 h2]
   have:=cf' (A:=A.in1) (s:=s) ru1 ru2 (.inl ⟨rfl,fun b z=>by cases z⟩)
   rw[show decide (V.int ns[j]=V.int ms[j])=decide (ns[j]?=ms[j]?) by
    rw[ac j1,ac j2]
    simp]at this
   exact this
 .rw[decide_eq_false (fun z=>hl (by rw[z]))]
  exact EqAt.of_refs hpq (RcAt.lists_lengths pl1.isList pl2.isList (by simp;omega) (by omega))
def t9' (neg:Bool):R2:=fun x y H Q=>∃a b L M,x=.ref a/\y=.ref b/\LL H a L/\LL H b M/\Q (.bl (decide (L=M))) H
theorem p4' (hu:X.A.units+64<cLine):OpR X (compareOp .Eq) (t9' false):=by
 intro pins s σ H x y v u Q I rx ry h
 obtain⟨a,b,L,M,rfl,rfl,⟨vs,ea,hla,ga⟩,⟨ws,eb,hlb,gb⟩,q⟩:=h
 cases rx
 cases ry
 obtain⟨its,v1,pl1,_⟩:=I.list (SqL.of ea)
 obtain⟨its2,v2,pl2,_⟩:=I.list (SqL.of eb)
 have l1:=v1.length
 have l2:=v2.length
 by_cases hl:L.length=M.length
 .refine eq_listAt (e:=fun j=>decide (L[j]?=M[j]?)) pl1.isList pl2.isList (by simp;omega) (by omega) (fun j h1 h2=>?_) ?_
  .have j1:j<L.length:=by simp at h1;omega
   have j2:j<M.length:=by omega
   obtain⟨u1,f1,ru1⟩:=v1.get (ac (show j<vs.length by omega))
   obtain⟨u2,f2,ru2⟩:=v2.get (ac (show j<ws.length by omega))
   rw[bx' f1 h1,bx' f2 h2]
   have:=lv' I (A:=X.A.in1) (show X.A.units+1+1<cLine by omega) (ga j _ _ (ac (by omega)) (ac j1)) (gb j _ _ (ac (by omega)) (ac j2)) ru1 ru2
   rw[show decide (L[j]=M[j])=decide (L[j]?=M[j]?) by rw[ac j1,ac j2];simp]at this
   exact this
  .rw[aj,<- l1,hla,dJ' hl]
   exact⟨.bl _,H,I,rfl,q⟩
 .refine eq_list_lengthsAt pl1.isList pl2.isList (by simp;omega) (by omega) ?_
  rw[decide_eq_false (fun z=>hl (by rw[z]))]at q
  exact⟨.bl _,H,I,rfl,q⟩
def p5':R2:=fun x y H Q=>∃b L ns,Ls1 H x ns/\y=.ref b/\LL H b L/\Q (.bl (!decide (ns∈L))) H
open Classical in
theorem nB' (hu:X.A.units+64<cLine):OpR X (compareOp .NotIn) p5':=by
 intro pins s σ H x y v u Q I rx ry h
 obtain⟨b,L,ns,hx,rfl,⟨ws,eb,hlb,gb⟩,q⟩:=h
 cases ry
 obtain⟨its,v1,pl1,_⟩:=I.list (SqL.of eb)
 have l1:=v1.length
 refine notIn_listAt (fun u=>decide (∃p,u=Value.ref p/\H p=some (.lst (ns.map V.int)))) pl1.isList (fun w hw=>?_) ?_
 .obtain⟨i,hi⟩:=bp (show w∈its by simpa using hw)
  have hi':i<its.length:=(av.mp hi).1
  obtain⟨u1,f1,ru1⟩:=v1.get (ac (show i<ws.length by omega))
  rw[hi]at f1
  cases f1
  have g:=gb i _ _ (ac (by omega)) (ac (show i<L.length by omega))
  have:=lv' I (A:=X.A.in1) (show X.A.units+1+1<cLine by omega) g hx ru1 rx
  obtain⟨p,ep,hp⟩:=g
  rw[ep]at ru1
  cases ru1
  have e:decide (L[i]=ns)=decide (∃p',Value.ref p=Value.ref p'/\H p'=some (.lst (ns.map V.int))):=by
   apply decide_eq_decide.mpr
   constructor
   .intro z;exact⟨p,rfl,by rw[<- z];exact hp⟩
   .rintro⟨p',z,hp'⟩
    cases z
    rw[hp]at hp'
    exact aW' (by injection hp' with hp';injection hp' with hp')
  rw[e]at this
  exact this
 .have e:(its.toArray.any fun u=>decide (∃p,u=Value.ref p/\H p=some (.lst (ns.map V.int))))=decide (ns∈L):=by
   rw[cv,List.any_toArray,List.any_eq_true]
   constructor
   .rintro⟨w,hw,hd⟩
    obtain⟨p,rfl,hp⟩:=of_decide_eq_true hd
    obtain⟨i,hi⟩:=bp hw
    have hi':i<its.length:=(av.mp hi).1
    obtain⟨u1,f1,ru1⟩:=v1.get (ac (show i<ws.length by omega))
    rw[hi]at f1
    cases f1
    obtain⟨p',ep,hp'⟩:=gb i _ _ (ac (by omega)) (ac (show i<L.length by omega))
    rw[ep]at ru1
    cases ru1
    rw[hp]at hp'
    have:ns=L[i]:=aW' (by injection hp' with hp';injection hp' with hp')
    rw[this]
    exact decide_eq_true (List.getElem_mem _)
   .intro z
    obtain⟨i,hi⟩:=bp (of_decide_eq_true z)
    have hi':i<L.length:=(av.mp hi).1
    obtain⟨u1,f1,ru1⟩:=v1.get (ac (show i<ws.length by omega))
    obtain⟨p',ep,hp'⟩:=gb i _ _ (ac (by omega)) hi
    rw[ep]at ru1
    cases ru1
    exact⟨_,aN f1,decide_eq_true ⟨p',rfl,hp'⟩⟩
  rw[e]
  exact⟨.bl _,H,I,rfl,q⟩
end
section
variable {X:Cx}
end
section
variable {X:Cx} {env:Env}
def Fr {α:Type} (t:Sem α):Prop:=∀(M:Model) (Γ:PySem.Ctx) (Q:α->Pos->Shared->Prop) (E:Value->Pos->Shared->Prop) (p:Pos) (s:Shared),Sem.wp M Γ t Q E p s->Sem.wp M Γ t (fun a p' s'=>1<=s'.toks/\Q a p' s') E p s
theorem Fr.bindL {α β:Type} {m:Sem α} {f:α->Sem β} (h:Fr m):Fr (m >>= f):=by
 intro M Γ Q E p s q
 rw[Sem.wp_bind']at q ⊢
 refine Sem.wp_mono M Γ m (fun a p' s' z=>?_) (fun _ _ _ z=>z) p s (h M Γ _ E p s q)
 exact Sem.wp_mono M Γ (f a) (fun _ _ _ z=>z) (fun _ _ _ z=>z.2) p' s' (Sem.wp_toks M Γ 1 (f a) Q E p' s' z.1 z.2)
theorem Fr.hold {α:Type} {vs:List Value} {m:Sem α} (h:Fr m):Fr (holding vs m):=by
 intro M Γ Q E p s q
 rw[Sem.wp_holding]at q ⊢
 exact h M Γ Q E p s q
theorem Fr.any {α:Type} {M:Model} {A:Around} {t:Sem α} {Q:α->Shared->Prop} {E:Value->Shared->Prop} {s:Shared} (h:Fr t) (q:wpAny M A t Q E s):wpAny M A t (fun a s'=>1<=s'.toks/\Q a s') E s:=fun Γ p hΓ=>h M Γ _ _ p s (q Γ p hΓ)
end
section
variable {X:Cx}
def p6':List V->Hp->VK->Prop:=fun xs H Q=>∃a kvs,xs=[V.ref a]/\H a=some (.dK kvs)/\Q (.int kvs.length) H
theorem gA':aN' X (.builtin "len") p6':=hW'
end
section
variable {prog:Program} {w:World} {A:Around} {E:Value->Shared->Prop} {s:Shared}
end
def Fz (H:Hp) (d:Addr) (o:Obj):Prop:=∃u,H d=some (.frz o u)
theorem Fz.at {P:Program} {w:World} {H:Hp} {h:Heap} {d:Addr} {o:Obj} (f:Fz H d o) (x:HOk P w H h):h.get? d=some o:=let⟨u,e⟩:=f;(x d _ e).1
section
variable {X:Cx} {tg:Expr}
theorem HOk.freeze {P:Program} {w:World} {H:Hp} {h:Heap} {d:Addr} {u:HO} {o:Obj} (x:HOk P w H h) (e:H d=some u) (hu:Mut (some u)) (ho:h.get? d=some o):HOk P w (upd H d (.frz o u)) h:=fun b v q=>by
 have ntup:∀c xs,H c=some (.tup xs)->c≠d:=fun c xs r z=>by subst z;rw[r]at e;cases e;exact hu
 have nown:∀c y,H c=some (.own y)->c≠d:=fun c y r z=>by subst z;rw[r]at e;cases e;exact hu
 have st:∀a v,aF' P w H h a v->aF' P w (upd H d (.frz o u)) h a v:=fun a v y=>y.stay (fun _ _ _ q=>q) (fun c r=>by rw[ac' (nown c a r)];exact r) fun c xs r=>by rw[ac' (ntup c xs r)];exact r
 by_cases hb:b=d
 .subst hb;rw[aa']at q;cases q;exact⟨ho,st _ _ (x _ _ e)⟩
 .rw[ac' hb]at q;exact st _ _ (x b v q)
theorem Inv.freeze {pins:List (Addr×Obj)} {σ:St} {H:Hp} {s:Shared} {d:Addr} {u:HO} {o:Obj} (I:Inv X pins σ H s) (e:H d=some u) (hu:Mut (some u)) (ho:s.heap.get? d=some o):Inv X pins σ (upd H d (.frz o u)) s:=by
 have:=I.step (h':=s.heap) (g':=s.gens) (d':=s.drawn) (t':=s.toks) (ch:=[]) (H':=upd H d (.frz o u)) (fun _ z=>nomatch z) (fun b o _ _ _ q _=>q) (fun b o _ _ _ q _=>⟨o.slots,q⟩)
  (fun b o _ _ n=>by rw[ac' (fun z=>by subst z;rw[n]at e;cases e)];exact n) (fun b o _ q=>⟨o,q⟩)
  (fun b xs q=>by rw[ac' (fun z=>by subst z;rw[q]at e;cases e;exact hu)];exact q)
  (fun b o v q=>by rw[ac' (fun z=>by subst z;rw[q]at e;cases e;exact hu)];exact q)
  (fun b ps q=>⟨#[],by rw[ac' (fun z=>by subst z;rw[q]at e;cases e;exact hu),Array.append_empty];exact q⟩)
  (fun m n=>n) (I.hok.freeze e hu ho) I.bare
 exact this
end
section
variable {X:Cx} {pos:Pos}
def sY' (K:W.Frag) (n:Nat) (t:TGs):TG:=fun v σ H Q=>∃a xs,v=.ref a/\(SqT K H a xs\/SqL K H a xs)/\xs.length=n/\t xs σ H Q
theorem p7' {es:List Expr} {k:Nat} {t:TGs} {n:Nat} (hc:X.calm=true) (h:PGs X es t)
  (hn:(assignEach es X.env).length=n:=by rfl) (hst:(assignEach es X.env).findIdx? (·.1)=none:=by rfl):PG X (.Tuple es k pos) (sY' X.K n t):=by
 intro pins s σ H v u Q I r hw
 obtain⟨a,xs,e1,hq,hl,hw⟩:=hw
 rcases hq with hq|hq
 .exact oR' hc h hn hst pins s σ H v u Q I r ⟨a,xs,e1,hq,hl,hw⟩
 .subst e1
  cases r
  obtain⟨its,rv,pl,hz⟩:=I.list hq
  rw[assign_Tuple]
  refine aa (cf ?_)
  unfold unpack
  rw[hn,hst]
  have e:n=its.toArray.size:=by simp[<- hl,rv.length]
  rw[e]
  refine aa (aR (W.kun_itemsOf (I.ok.hd hc) pl.isList fun h' hx=>?_))
  have I1:Inv X pins σ H { s with heap:=h' }:=I.kept (t':=s.toks) fun b o e=>hx b o (aB (az e)) e
  exact h pins _ σ H xs _ Q I1 (by simpa using rv) hw
end
section
variable {prog:Program} {w:World} {A:Around} {E:Value->Shared->Prop} {s:Shared} {K:Type} [DecidableEq K] {knd:HeapKind prog w K} {d:Addr}
theorem gB' (knd:HeapKind prog w K) (hd:(d == sysModules)=false):MeetsIn prog w (Builtin.«dict.__len__» ⟨[.ref d],[]⟩) (fun _ R s=>∃xs,s.heap.DictOfH knd d xs/\R (.ok (.ret (.int xs.length s.toks))) { s with toks:=s.toks+1 }):=
 .of_wp fun A R s ⟨xs,hm,h⟩=>by
  obtain⟨o,es,ep,ho,hc,hdat,hk,_⟩:=hm
  show wpAny _ _ (dictSize d >>= _) _ _ s
  unfold dictSize
  refine aa (aa (wpAny_dictEntries ho hdat (af ?_)))
  show wpAny _ _ (Builtin.Dict.pendingCount d >>= _) _ _ s
  refine aa (wpAny_pendingCount_other hd ?_)
  refine wpAny_ret_mkInt ?_
  rw[Nat.add_zero,size_of_entries hk];exact h
theorem im' {xs:List (K×Addr×Value)} {Q:Value->Shared->Prop} (hd:(d == sysModules)=false) (hm:s.heap.DictOfH knd d xs) (hfit:(xs.length:Int)<2 ^ 63)
  (h:Q (.int xs.length (s.toks+1)) { s with toks:=s.toks+1+1 }):wpAny (model prog w) A (call (.builtin "len") [.ref d]) Q E s:=by
 refine Calls.call_function_entry kind_len plain_len entry_len (args_len1 _) ?_
 unfold Builtin.«len»
 refine aa (m:=oneArg "len" _) (af ?_)
 refine aa (m:=callSpecial? (.ref d) (Str.ofString "__len__")) (aW (name:=Str.ofString "__len__") hm.typeIs F.slot_dict_len
  (call_meetsIn F.slot_dict_len hm.typeIs F.entry_dict_len (F.args_dict_len_1 _) (gB' knd hd) ⟨xs,hm,?_⟩))
 show wpAny _ _ _ _ _ { s with toks:=s.toks+1 }
 refine aa (aR (af ?_))
 refine aa (wpAny_letGo ?_)
 show wpAny _ _ (if((xs.length:Nat):Int)<0 then _ else _) _ _ _
 rw[if_neg (by omega)]
 show wpAny _ _ (if((xs.length:Nat):Int) ≥ 2 ^ 63 then _ else _) _ _ _
 rw[if_neg (by omega)]
 exact aa (wpAny_mkInt (af ⟨_,rfl,h⟩))
end
section
variable {X:Cx}
def lw':List V->Hp->VK->Prop:=fun xs H Q=>p6' xs H Q\/∃a kvs,xs=[V.ref a]/\Rd H a (.dT kvs)/\Q (.int kvs.length) H
theorem gC':aN' X (.builtin "len") lw':=by
 intro pins s σ H xs us Q I r h
 rcases h with h|⟨a,kvs,rfl,ha,q⟩
 .exact gA' pins s σ H xs us Q I r h
 .obtain⟨u,rfl,ru⟩:=c3' r
  cases ru
  obtain⟨z,hd,vs,rel,dd⟩:=ka' I.hok ha
  have e:=Paired.length rel
  exact im' hd dd (by rw[<- e];rw[sizeLine_eq]at z;omega) ⟨.int kvs.length,H,I.tok _,⟨_,by rw[e]⟩,q⟩
end
end L2
namespace L2
open PySem PySem.Spec PyProof.Rows PySem.SeqAt
section
variable {prog:Program} {w:World} {d:Addr} {o:Obj} {es:Array DictEntry} {ep:Nat}
end
section
variable {X:Cx}
end
def Pw {α:Type} (R:V->α->Prop) (vs:List V) (as:List α):Prop:=vs.length=as.length/\∀(i:Nat) v a,vs[i]?=some v->as[i]?=some a->R v a
def LsR (H:Hp) {α:Type} (R:V->α->Prop) (v:V) (as:List α):Prop:=∃p vs,v=.ref p/\H p=some (.lst vs)/\Pw R vs as
def TpI (H:Hp) (v:V) (ns:List Int):Prop:=∃p,v=.ref p/\H p=some (.tup (ns.map V.int))
def oA' {α:Type} (R:V->α->Prop):Prop:=∀x a b,R x a->R x b->a=b
theorem Pw.fun1 {α:Type} {R:V->α->Prop} (hR:oA' R) {vs:List V} {as bs:List α} (h1:Pw R vs as) (h2:Pw R vs bs):as=bs:=by
 apply bZ
 intro i
 by_cases hi:i<vs.length
 .have g:=ac hi
  have g1:=ac (show i<as.length by rw[<- h1.1];exact hi)
  have g2:=ac (show i<bs.length by rw[<- h2.1];exact hi)
  rw[g1,g2,hR _ _ _ (h1.2 i _ _ g g1) (h2.2 i _ _ g g2)]
 .rw[bd (by rw[<- h1.1];omega),bd (by rw[<- h2.1];omega)]
theorem LsR.fun1 {H:Hp} {α:Type} {R:V->α->Prop} (hR:oA' R):oA' (LsR H R):=by
 rintro x a b ⟨p,vs,rfl,e,h⟩ ⟨q,ws,z,e',h'⟩
 cases z
 rw[e]at e'
 cases e'
 exact h.fun1 hR h'
theorem TpI.fun1 {H:Hp}:oA' (TpI H):=by
 rintro x a b ⟨p,rfl,e⟩ ⟨q,z,e'⟩
 cases z
 rw[e]at e'
 exact aW' (by injection e' with e';injection e' with e')
section
variable {X:Cx} {pins:List (Addr×Obj)} {σ:L2.St} {H:Hp} {s:Shared}
theorem p8' (I:Inv X pins σ H s) {A:Around} {v w:V} {u u':Value} {ns ms:List Int} (hu:A.units+1<cLine) (h1:TpI H v ns) (h2:TpI H w ms) (r1:as' v u) (r2:as' w u'):EqAt A s u u' (decide (ns=ms)):=by
 obtain⟨p,rfl,e1⟩:=h1
 obtain⟨q,rfl,e2⟩:=h2
 cases r1
 cases r2
 by_cases hpq:p=q
 .subst hpq
  rw[e1]at e2
  have:ns=ms:=aW' (by injection e2 with e2;injection e2 with e2)
  rw[decide_eq_true this]
  exact EqAt.same _
 obtain⟨its,v1,pl1,_⟩:=I.tuple (SqT.of e1)
 obtain⟨its2,v2,pl2,_⟩:=I.tuple (SqT.of e2)
 have l1:=v1.length
 have l2:=v2.length
 rw[ai]at l1 l2
 have:=RcAt.tuples (e:=fun j=>decide (ns[j]?=ms[j]?)) pl1 pl2 (A:=A) (by omega) (fun j h1 h2=>?_)
 .rw[aj,aj,<- l1,<- l2]at this
  have e:((aH (min ns.length ms.length)).all (fun j=>decide (ns[j]?=ms[j]?))&&ns.length == ms.length)=decide (ns=ms):=by
   by_cases hl:ns.length=ms.length
   .rw[show min ns.length ms.length=ns.length by omega,dJ' hl,hl,BEq.rfl,Bool.and_true]
   .rw[decide_eq_false (fun z=>hl (by rw[z])),beq_eq_false_iff_ne.mpr hl,Bool.and_false]
  rw[e]at this
  exact EqAt.of_refs hpq this
 .have j1:j<ns.length:=by simp at h1;omega
  have j2:j<ms.length:=by simp at h2;omega
  obtain⟨u1,f1,ru1⟩:=v1.get (i:=j) (by rw[aG,ac j1];rfl)
  obtain⟨u2,f2,ru2⟩:=v2.get (i:=j) (by rw[aG,ac j2];rfl)
  rw[bx' f1 h1,bx' f2 h2]
  have:=cf' (A:=A.in1) (s:=s) ru1 ru2 (.inl ⟨rfl,fun b z=>by cases z⟩)
  rw[show decide (V.int ns[j]=V.int ms[j])=decide (ns[j]?=ms[j]?) by
   rw[ac j1,ac j2]
   simp]at this
  exact this
theorem p9' (I:Inv X pins σ H s) {A:Around} {α:Type} [DecidableEq α] {R:V->α->Prop} (hR:oA' R) {v w:V} {u u':Value} {as bs:List α} (hu:A.units+1<cLine)
  (ih:∀x y a b u u',R x a->R y b->as' x u->as' y u'->EqAt A.in1 s u u' (decide (a=b))) (h1:LsR H R v as) (h2:LsR H R w bs) (r1:as' v u) (r2:as' w u'):EqAt A s u u' (decide (as=bs)):=by
 obtain⟨p,vs,rfl,e1,g1⟩:=h1
 obtain⟨q,ws,rfl,e2,g2⟩:=h2
 cases r1
 cases r2
 by_cases hpq:p=q
 .subst hpq
  rw[e1]at e2
  cases e2
  rw[decide_eq_true (g1.fun1 hR g2)]
  exact EqAt.same _
 obtain⟨its,v1,pl1,_⟩:=I.list (SqL.of e1)
 obtain⟨its2,v2,pl2,_⟩:=I.list (SqL.of e2)
 have l1:=v1.length
 have l2:=v2.length
 have k1:=g1.1
 have k2:=g2.1
 by_cases hl:as.length=bs.length
 .have:=RcAt.lists (e:=fun j=>decide (as[j]?=bs[j]?)) pl1.isList pl2.isList (by simp;omega) (by omega) (A:=A) (fun j h1 h2=>?_)
  .rw[aj,<- l1,k1,dJ' hl]at this
   exact EqAt.of_refs hpq this
  .have j1:j<as.length:=by simp at h1;omega
   have j2:j<bs.length:=by omega
   obtain⟨u1,f1,ru1⟩:=v1.get (i:=j) (ac (show j<vs.length by omega))
   obtain⟨u2,f2,ru2⟩:=v2.get (i:=j) (ac (show j<ws.length by omega))
   rw[bx' f1 h1,bx' f2 h2]
   have:=ih _ _ _ _ _ _ (g1.2 j _ _ (ac (by omega)) (ac j1)) (g2.2 j _ _ (ac (by omega)) (ac j2)) ru1 ru2
   rw[show decide (as[j]=bs[j])=decide (as[j]?=bs[j]?) by
    rw[ac j1,ac j2]
    simp]at this
   exact this
 .rw[decide_eq_false (fun z=>hl (by rw[z]))]
  exact EqAt.of_refs hpq (RcAt.lists_lengths pl1.isList pl2.isList (by simp;omega) (by omega))
def ua':R2:=fun x y H Q=>∃(k:List (List Int)) (L:List (List (List Int))),LsR H (TpI H) x k/\LsR H (LsR H (TpI H)) y L/\Q (.bl (decide (k∈L))) H
open Classical in
theorem qa' (hu:X.A.units+64<cLine):OpR X (compareOp .In) ua':=by
 intro pins s σ H x y v u Q I rx ry h
 obtain⟨k,L,hx,⟨b,ws,rfl,eb,gb⟩,q⟩:=h
 cases ry
 obtain⟨its,v1,pl1,_⟩:=I.list (SqL.of eb)
 have l1:=v1.length
 have hlb:=gb.1
 have fn:oA' (LsR H (TpI H)):=LsR.fun1 TpI.fun1
 have eqs:∀x y a b u u',LsR H (TpI H) x a->LsR H (TpI H) y b->as' x u->as' y u'->EqAt X.A.in1 s u u' (decide (a=b)):=fun x y a b u u' h1 h2 r1 r2=>
  p9' I TpI.fun1 (show X.A.units+1+1<cLine by omega) (fun x y a b u u' h1 h2 r1 r2=>p8' I (A:=X.A.in1.in1) (show X.A.units+1+1+1<cLine by omega) h1 h2 r1 r2) h1 h2 r1 r2
 refine in_listAt (fun u=>decide (∃x,as' x u/\LsR H (TpI H) x k)) pl1.isList (fun w hw=>?_) ?_
 .obtain⟨i,hi⟩:=bp (show w∈its by simpa using hw)
  have hi':i<its.length:=(av.mp hi).1
  obtain⟨u1,f1,ru1⟩:=v1.get (ac (show i<ws.length by omega))
  rw[hi]at f1
  cases f1
  have g:=gb.2 i _ _ (ac (by omega)) (ac (show i<L.length by omega))
  have:=eqs _ _ _ _ _ _ g hx ru1 rx
  have e:decide (L[i]=k)=decide (∃x,as' x w/\LsR H (TpI H) x k):=by
   apply decide_eq_decide.mpr
   constructor
   .intro z;exact⟨_,ru1,z ▸ g⟩
   .rintro⟨x',rx',hx'⟩
    obtain⟨p,vs,ep,e1,g1⟩:=g
    obtain⟨p',vs',rfl,e1',g1'⟩:=hx'
    rw[ep]at ru1
    cases ru1
    cases rx'
    rw[e1]at e1'
    cases e1'
    exact g1.fun1 TpI.fun1 g1'
  rw[e]at this
  exact this
 .have e:(its.toArray.any fun u=>decide (∃x,as' x u/\LsR H (TpI H) x k))=decide (k∈L):=by
   rw[cv,List.any_toArray,List.any_eq_true]
   constructor
   .rintro⟨w,hw,hd⟩
    obtain⟨x',rx',hx'⟩:=of_decide_eq_true hd
    obtain⟨i,hi⟩:=bp hw
    have hi':i<its.length:=(av.mp hi).1
    obtain⟨u1,f1,ru1⟩:=v1.get (ac (show i<ws.length by omega))
    rw[hi]at f1
    cases f1
    obtain⟨p,vs,ep,e1,g1⟩:=gb.2 i _ _ (ac (by omega)) (ac (show i<L.length by omega))
    obtain⟨p',vs',rfl,e1',g1'⟩:=hx'
    rw[ep]at ru1
    cases ru1
    cases rx'
    rw[e1]at e1'
    cases e1'
    rw[<- g1.fun1 TpI.fun1 g1']
    exact decide_eq_true (List.getElem_mem _)
   .intro z
    obtain⟨i,hi⟩:=bp (of_decide_eq_true z)
    have hi':i<L.length:=(av.mp hi).1
    obtain⟨u1,f1,ru1⟩:=v1.get (ac (show i<ws.length by omega))
    exact⟨_,aN f1,decide_eq_true ⟨_,ru1,gb.2 i _ _ (ac (by omega)) hi⟩⟩
  rw[e]
  exact⟨.bl _,H,I,rfl,q⟩
end
section
variable {X:Cx} {e st:Expr} {te:TE} {ts:TO} {p2 pos:Pos}
def ub' {α:Type} (xs:List α) (n:Nat):List α:=(aH ((xs.length+n-1) / n)).filterMap fun k=>xs[k*n]?
end
end L2
namespace PySem
open Sem (wp)
section
variable {prog:Program} {w:World} {A:Around} {h:Heap} {g:Array GenState} {d:Drawn} {t:Nat} {os:OsState} {a:Addr}
end
end PySem
namespace L2
open PySem PySem.Spec PyProof.Rows
section
variable {prog:Program} {w:World} {A:Around} {R:Result->Shared->Prop} {I:Addr} {fp wr:List Addr} {G:Array GenState->Array GenState->Prop} {n:Nat} {St:Nat->Shared->Prop}
abbrev kT (prog:Program) (w:World):=tupleKind (at' prog w)
def OkP (prog:Program) (w:World) (n:Nat) (ps:Nat->Addr) (key:Nat->List Key) (ka:Nat->Addr) (xv:Nat->Value) (h:Heap):Prop:=
 ∀i,i<n->IsTup h (ps i) #[.ref (ka i),xv i]/\(kT prog w).is h (key i) (ka i)
theorem OkP.at {ps:Nat->Addr} {key:Nat->List Key} {ka:Nat->Addr} {xv:Nat->Value} {h h':Heap} (x:OkP prog w n ps key ka xv h) (k:∀i,i<n->∀b,b=ps i\/b=ka i->∀o,h.get? b=some o->h'.get? b=some o):OkP prog w n ps key ka xv h':=fun i hi=>by
 obtain⟨⟨o,e,c,m,z⟩,⟨o2,its,m2,e2,r⟩⟩:=x i hi
 exact⟨⟨o,k i hi _ (.inl rfl) o e,c,m,z⟩,⟨o2,its,m2,k i hi _ (.inr rfl) o2 e2,r⟩⟩
end
section
variable {prog:Program} {w:World} {A:Around} {E:Value->Shared->Prop} {s:Shared}
set_option maxRecDepth 100000 in
set_option maxHeartbeats 3200000 in
end
section
variable {X:Cx}
end
section
variable {prog:Program} {w:World} {A:Around} {E:Value->Shared->Prop} {s:Shared}
end
section
variable {X:Cx}
end
section
variable {prog:Program} {w:World} {A:Around} {E:Value->Shared->Prop} {s:Shared}
end
section
variable {X:Cx}
end
end L2
namespace R3
open PySem PySem.Spec PyProof.Rows L2
inductive Bf where
 |len|abs|int|isinstance|min|list|tuple|range|lenD
 deriving DecidableEq
inductive Mf where
 |append|join|insert
 deriving DecidableEq
inductive Xf where
 |eqT|inR|notInR
 deriving DecidableEq
inductive Zf where
 |eqB|ninB|ltS|inP|ninS
 deriving DecidableEq
inductive Yf where
 |strd|ltx|dct
 deriving DecidableEq
set_option genInjectivity false
mutual
inductive Ce where
 |var (i:Nat)|int (n:Int)|bl (b:Bool)|non|str (x:Str)
 |bin (op:Operator) (a b:Ce)
 |neg (a:Ce)
 |and (a b:Ce)|or (a b:Ce)
 |cmp (op:CmpOp) (a b:Ce)
 |ife (q:Cq) (a b:Ce)
 |tup (es:Ces)|lst (es:Ces)
 |idx (a b:Ce)
 |cut (a:Ce) (lo hi:Co)
 |call (f:Str) (es:Ces)
 |blt (f:Bf) (es:Ces)
 |met (m:Mf) (o:Ce) (es:Ces)
 |comp (elt:Ce) (own:List Nat) (t:Ct) (it:Ci) (q:Cqo) (r:Cc)
 |dnt
 |lzp (a b:Ce)
 |sd1 (a:Ce)|sad (a b:Ce)|dsd (a b c:Ce)
inductive Ces where
 |nil|cons (e:Ce) (r:Ces)
inductive Cq where
 |val (e:Ce)|and (a b:Cq)|or (a b:Cq)|cmp (op:CmpOp) (a b:Ce)|cmw (k:Zf) (a b:Ce)
inductive Cqo where
 |none|some (q:Cq)
inductive Co where
 |none|some (e:Ce)
inductive Ci where
 |val (e:Ce)|range1 (a:Ce)|enum (a:Ce)|range3 (a b c:Ce)
inductive Ct where
 |name (i:Nat)|tup (ts:Cts)|sub (o i:Ce)
inductive Cts where
 |nil|cons (t:Ct) (r:Cts)
inductive Cc where
 |nil|cons (ws:List Nat) (t:Ct) (it:Ci) (q:Cqo) (r:Cc)
end
mutual
inductive Cs where
 |expr (e:Ce)|ret (e:Ce)|asg (t:Ct) (e:Ce)|par (i j:Nat) (a b:Ce)
 |ite (q:Cq) (a b:Css)|whl (q:Cq) (b:Css)|for_ (t:Ct) (it:Ci) (b:Css)
inductive Css where
 |nil|cons (s:Cs) (r:Css)
end
set_option genInjectivity true
def uc' (i j:Int):Prop:=0<=j/\j<=1000000/\i.natAbs<2 ^ 250*2 ^ 250*2 ^ 250
def qb' (_ j:Int):Prop:=0<j/\(j<1073741824\/j.natAbs.log2<9000)
def qc' (i j:Int):Prop:=(-(2 ^ 64)<i/\i<2 ^ 64)\/(-(2 ^ 64)<j/\j<2 ^ 64)\/IntMulOk i j
section
variable (K:W.Frag)
def c8':Operator->R2
 | .Add=>fun x y H Q=>match x,y with
  | .int i,.int j=>Q (.int (i+j)) H
  | .str i,.str j=>i.length+j.length<=sizeLine/\Q (.str (i++j)) H
  |x,y=>tY' x y H Q\/pb' K x y H Q\/lo' K x y H Q
 | .Sub=>rI0 fun i j=>.int (i-j)
 | .Mult=>fun x y H Q=>match x,y with
  | .int i,.int j=>qc' i j/\Q (.int (i*j)) H
  | .str a,.int n=>-1000000<=n/\n<=1000000/\a.length*n.toNat<=1000000/\Q (.str (Txt.mul a n)) H
  |x,y=>tZ' x y H Q
 | .Mod=>rI (fun _ j=>0<j) fun i j=>.int (i % j)
 | .FloorDiv=>rI qb' fun i j=>.int (i / j)
 | .Pow=>rI sv' fun i j=>.int (i ^ j.toNat)
 | .LShift=>rI uc' fun i j=>.int (i*2 ^ j.toNat)
 | .RShift=>rI (fun _ j=>0<=j) fun i j=>.int (i / 2 ^ j.toNat)
 | .BitAnd=>rI (fun i j=>0<=i/\j=1) fun i _=>.int (i % 2)
 |_=>fun _ _ _ _=>False
def bP':CmpOp->R2
 | .Eq=>fun x y H Q=>match x,y with
  | .ref a,.ref b=>r4' K false (.ref a) (.ref b) H Q\/r7' false (.ref a) (.ref b) H Q
  |x,y=>rEq x y H Q
 | .NotEq=>fun x y H Q=>match x,y with
  | .ref a,.ref b=>r4' K true (.ref a) (.ref b) H Q\/r7' true (.ref a) (.ref b) H Q
  |x,y=>rNe x y H Q
 | .Lt=>rI0 fun i j=>.bl (decide (i<j))
 | .LtE=>rI0 fun i j=>.bl (decide (i<=j))
 | .Gt=>fun x y H Q=>match x with
  | .str a=>t4' (.str a) y H Q
  |x=>rI0 (fun i j=>.bl (decide (j<i))) x y H Q
 | .GtE=>rI0 fun i j=>.bl (decide (j<=i))
 | .Is=>fun x y H Q=>match y with
  | .bl b=>r5' false x (.bl b) H Q
  |y=>y=.non/\Q (.bl (decide (x=.non))) H
 | .IsNot=>fun x y H Q=>match y with
  | .bl b=>r5' true x (.bl b) H Q
  |y=>y=.non/\Q (.bl (!decide (x=.non))) H
 | .In=>fun x y H Q=>match y with
  | .str b=>r6' false x (.str b) H Q
  |y=>rIn K false x y H Q
 | .NotIn=>fun x y H Q=>match y with
  | .str b=>r6' true x (.str b) H Q
  |y=>rIn K true x y H Q
def dK':Bf->List V->Hp->VK->Prop
 | .len=>fun xs H Q=>∃x n,xs=[x]/\tW' K x H n/\Q (.int n) H
 | .abs=>fun xs H Q=>∃i,xs=[.int i]/\Q (.int (if i<0 then -i else i)) H
 | .int=>fun xs H Q=>match xs with
  | [.int i]=>Q (.int i) H
  | [.bl k]=>Q (.int (if k then 1 else 0)) H
  | [.str x]=>∃n,PySem.intText? x=some n/\x.length<=640/\Q (.int n) H
  | [.str x,.int j]=>j=2/\∃n,B2 x n/\Q (.int n) H
  |_=>False
 | .isinstance=>fun _ _ _=>False
 | .min=>fun xs H Q=>match xs with
  | [.int i,.int j]=>Q (.int (if j<i then j else i)) H
  |xs=>pw' K false xs H Q
 | .list=>fun xs H Q=>(∃p ys,xs=[.ref p]/\(SqL K H p ys\/SqT K H p ys)/\∀l,H l=none->Q (.ref l) (upd H l (.lst ys)))\/t2' xs H Q
 | .range=>t1'
 | .lenD=>lw'
 | .tuple=>fun xs H Q=>∃p ys,xs=[.ref p]/\((SqL K H p ys/\∀l,H l=none->Q (.ref l) (upd H l (.tup ys)))\/(SqT K H p ys/\Q (.ref p) H))
def kv':Mf->V->List V->Hp->VK->Prop
 | .append=>hv'
 | .join=>pu' K
 | .insert=>hP'
def ei':Mf->String
 | .join=>"str"
 |_=>"list"
def in':Mf->Str
 | .append=>"append"
 | .join=>"join"
 | .insert=>"insert"
def cO':Bf->Str
 | .len=>"len"
 | .abs=>"abs"
 | .int=>"int"
 | .isinstance=>"isinstance"
 | .min=>"min"
 | .list=>"list"
 | .tuple=>"tuple"
 | .range=>"range"
 | .lenD=>"len"
def kw':R2:=fun x y H Q=>match x,y with
 | .str z,.int i=>z.length<=sizeLine/\∃c,atI z.cps.toList i=some c/\Q (.str ⟨#[c]⟩) H
 |x,y=>eQ' K x y H Q\/fi' K x y H Q
def rSl:V->Option Int->Option Int->Hp->VK->Prop:=fun x lo hi H Q=>match x with
 | .str a=>a.length<=sizeLine/\Q (.str (Txt.slice a lo hi)) H
 |x=>pf' K x lo hi H Q\/o9' K x lo hi H Q\/pO' K x lo hi H Q
end
def ud':Zf->CmpOp
 | .eqB=>.Eq
 | .ninB=>.NotIn
 | .ltS=>.Lt
 | .inP=>.In
 | .ninS=>.NotIn
def rZf:Zf->R2
 | .eqB=>t9' false
 | .ninB=>p5'
 | .ltS=>fun x y H Q=>∃i j,x=.str i/\y=.str j/\Q (.bl (decide (i.cps.toList<j.cps.toList))) H
 | .inP=>ua'
 | .ninS=>p0'
structure Rc where
 N:List Str
 B:List Str
 K:W.Frag
 fs:Str->Option Sp
 xk:L2.St->XK:=fun _=>E0
 cl:Str->Option Addr:=fun _=>none
def kx':Cts->Nat
 | .nil=>0
 | .cons _ r=>kx' r+1
mutual
def tE (C:Rc):Ce->TE
 | .var i=>rX' i
 | .int n=>tC (.int n)
 | .bl b=>tC (.bl b)
 | .non=>tC .non
 | .str x=>tC (.str x)
 | .bin op a b=>tOp (c8' C.K op) (tE C a) (tE C b)
 | .neg a=>tUn (rU fun i=>.int (-i)) (tE C a)
 | .and a b=>jF' (tE C a) (tE C b)
 | .or a b=>rY' (tE C a) (tE C b)
 | .cmp op a b=>tOp (bP' C.K op) (tE C a) (tE C b)
 | .ife q a b=>tIf (tQ C q) (tE C a) (tE C b)
 | .tup es=>sC' (tA C es)
 | .lst es=>sD' (tA C es)
 | .idx a b=>tOp (kw' C.K) (tE C a) (tE C b)
 | .cut a lo hi=>tSl (rSl C.K) (tE C a) (tO C lo) (tO C hi)
 | .call f es=>fun σ H Q=>match C.fs f with
  |some sp=>jP' sp [] (C.xk σ) (tA C es) σ H Q
  |none=>False
 | .blt f es=>tCB (dK' C.K f) (tA C es)
 | .met m o es=>tBM C.K (ei' m) (kv' C.K m) (tE C o) (tA C es)
 | .dnt=>hV'
 | .lzp a b=>sJ' C.K (be' (tE C a) (be' (tE C b) fg'))
 | .sd1 a=>sW' (tE C a)
 | .sad a b=>sV' (tE C a) (tE C b)
 | .dsd a b c=>sX' (tE C a) (tE C b) (tE C c)
 | .comp elt own t it q r=>hE' own (tI C it) (tG C t) (tQo C q) (tR C r (eT' (tE C elt)))
def tA (C:Rc):Ces->TA
 | .nil=>fg'
 | .cons e r=>be' (tE C e) (tA C r)
def tQ (C:Rc):Cq->TT
 | .val e=>fun σ H Q=>tE C e σ H fun x H'=>∃k,o3' C.K x H' k/\Q k H'
 | .and a b=>oM' (tQ C a) (tQ C b)
 | .or a b=>tOr (tQ C a) (tQ C b)
 | .cmp op a b=>g5' (tOp (bP' C.K op) (tE C a) (tE C b))
 | .cmw k a b=>g5' (tOp (rZf k) (tE C a) (tE C b))
def tQo (C:Rc):Cqo->TT
 | .none=>fun _ H Q=>Q true H
 | .some q=>tQ C q
def tO (C:Rc):Co->TO
 | .none=>eO'
 | .some e=>m3' (tE C e)
def tI (C:Rc):Ci->TI
 | .val e=>sI' C.K (tE C e)
 | .range1 a=>mX' (be' (tE C a) fg')
 | .enum a=>nk' C.K (tE C a)
 | .range3 a b c=>no' (be' (tE C a) (be' (tE C b) (be' (tE C c) fg')))
def tG (C:Rc):Ct->TG
 | .name i=>gU' i
 | .tup ts=>sY' C.K (kx' ts) (tGs C ts)
 | .sub o i=>sm' (tE C o) (tE C i) co'
def tGs (C:Rc):Cts->TGs
 | .nil=>sk'
 | .cons t r=>mV' (tG C t) (tGs C r)
def tR (C:Rc):Cc->TL (List V)->TL (List V)
 | .nil,em=>em
 | .cons ws t it q r,em=>pn' (tI C it) (bA' ws (tG C t) (tQo C q) (tR C r em))
end
mutual
def tS (C:Rc):Cs->TS
 | .expr e=>mS' (tE C e)
 | .ret e=>sg' (tE C e)
 | .asg t e=>rZ' (tE C e) (tG C t)
 | .par i j a b=>sn' i j (be' (tE C a) (be' (tE C b) fg'))
 | .ite q a b=>sh' (tQ C q) (tSs C a) (tSs C b)
 | .whl q b=>gW' (tQ C q) (tSs C b)
 | .for_ t it b=>so' (tI C it) (tG C t) (tSs C b)
def tSs (C:Rc):Css->TS
 | .nil=>mQ'
 | .cons s r=>sf' (tS C s) (tSs C r)
end
def vis (sc:Scope) (x:Str):Bool:=match sc.names.lookup x with
 |some .local=>true
 |some .cell=>true
 |some .free=>true
 |_=>false
def locb (sc:Scope) (x:Str):Bool:=match sc.names.lookup x with
 |some .local=>true
 |some .cell=>true
 |_=>false
def glb (sc:Scope) (x:Str):Bool:=decide (sc.names.lookup x=some .globalImplicit)
def di' (N:List Str) (i:Nat) (x:Str):Bool:=decide (N[i]?=some x)&&!(x == ("__debug__":Str))&&!(x == ("__classdict__":Str))
def aq':Expr->Bool
 | .Starred ..=>false
 |_=>true
def ck':Expr->Bool
 | .Set ..=>false
 |_=>true
def cs':Expr->Bool
 | .Slice ..=>false
 |_=>true
def fy':Expr->Bool
 | .Call _ [] _ _=>false
 |_=>true
def lx':Expr->Bool
 | .UnaryOp .Not _ _=>false
 | .BoolOp ..=>false
 | .IfExp ..=>false
 | .Compare ..=>false
 |_=>true
def oB' (N:List Str) (sc scope:Scope) (own:List Nat):Bool:=
 decide (scope.kind=.function)&&
 scope.names.all (fun x=>(decide (x.2≠.local) || decide (scope.names.lookup x.1=some .local))&&(decide (x.2≠.cell) || decide (scope.names.lookup x.1=some .cell))&&
  (decide (x.2≠.free) || decide (sc.names.lookup x.1=some .cell) || decide (sc.names.lookup x.1=some .free)))&&
 (aH N.length).all (fun i=>match N[i]? with
  |some x=>(decide (scope.names.lookup x≠some .local)&&decide (scope.names.lookup x≠some .cell)) || decide (i∈own)
  |none=>true)
def r8':Ci->Expr->Bool
 | .enum _,.Tuple ..=>true
 | .enum _,_=>false
 |_,_=>true
mutual
def oC' (own:List Nat):Ct->Bool
 | .name i=>decide (i∈own)
 | .tup ts=>io' own ts
 | .sub _ _=>false
def io' (own:List Nat):Cts->Bool
 | .nil=>true
 | .cons t r=>oC' own t&&io' own r
end
def tld (B:List Str):Bool:=decide (("~":Str)∈B)
def hat (B:List Str):Bool:=decide (("^":Str)∈B)
def pct (B:List Str):Bool:=decide (("%":Str)∈B)
def oD' (x:Str):Str:=⟨#[33]++x.cps⟩
theorem an' {P:Prop} (h:false=true):P:=(ap h).elim
theorem eZ' {a b:Bool} (h:(a&&b)=true):a=true/\b=true:=by
 cases a with
 |true=>exact⟨rfl,h⟩
 |false=>exact an' h
def sZ' (e:Expr) (f:Expr->Expr->Bool):Bool:=match e with
 | .BoolOp .And [x,y] _=>f x y
 | .BoolOp .And (x :: y :: z :: r) pos=>f x (.BoolOp .And (y :: z :: r) pos)
 |_=>false
theorem ip' {e:Expr} {f:Expr->Expr->Bool} (h:sZ' e f=true):(∃x y pos,e=.BoolOp .And [x,y] pos/\f x y=true)\/∃x y z r pos,e=.BoolOp .And (x :: y :: z :: r) pos/\f x (.BoolOp .And (y :: z :: r) pos)=true:=by
 cases e with
 |BoolOp o vs pos=>
  cases o with
  |And=>
   cases vs with
   |nil=>exact an' h
   |cons x r=>
    cases r with
    |nil=>exact an' h
    |cons y r=>
     cases r with
     |nil=>exact .inl ⟨x,y,pos,rfl,h⟩
     |cons z r=>exact .inr ⟨x,y,z,r,pos,rfl,h⟩
  |_=>exact an' h
 |_=>exact an' h
def vOr (e:Expr) (f:Expr->Expr->Bool):Bool:=match e with
 | .BoolOp .Or [x,y] _=>f x y
 | .BoolOp .Or (x :: y :: z :: r) pos=>f x (.BoolOp .Or (y :: z :: r) pos)
 |_=>false
theorem ly' {e:Expr} {f:Expr->Expr->Bool} (h:vOr e f=true):(∃x y pos,e=.BoolOp .Or [x,y] pos/\f x y=true)\/∃x y z r pos,e=.BoolOp .Or (x :: y :: z :: r) pos/\f x (.BoolOp .Or (y :: z :: r) pos)=true:=by
 cases e with
 |BoolOp o vs pos=>
  cases o with
  |Or=>
   cases vs with
   |nil=>exact an' h
   |cons x r=>
    cases r with
    |nil=>exact an' h
    |cons y r=>
     cases r with
     |nil=>exact .inl ⟨x,y,pos,rfl,h⟩
     |cons z r=>exact .inr ⟨x,y,z,r,pos,rfl,h⟩
  |_=>exact an' h
 |_=>exact an' h
def aM' {α:Type} (z:List α) (f:Bool):Bool:=match z with
 | []=>f
 |_=>false
theorem aj' {α:Type} {z:List α} {f:Bool} (h:aM' z f=true):z=[]/\f=true:=by
 cases z with
 |nil=>exact⟨rfl,h⟩
 |_=>exact an' h
def aA' {α:Type} (z:List α) (f:α->List α->Bool):Bool:=match z with
 |x :: r=>f x r
 |_=>false
theorem ak' {α:Type} {z:List α} {f:α->List α->Bool} (h:aA' z f=true):∃x r,z=x :: r/\f x r=true:=by
 cases z with
 |cons x r=>exact⟨x,r,rfl,h⟩
 |_=>exact an' h
def iq' {α:Type} (z:Option α) (f:Bool):Bool:=match z with
 |none=>f
 |_=>false
theorem ej' {α:Type} {z:Option α} {f:Bool} (h:iq' z f=true):z=none/\f=true:=by
 cases z with
 |none=>exact⟨rfl,h⟩
 |_=>exact an' h
def ir' {α:Type} (z:Option α) (f:α->Bool):Bool:=match z with
 |some x=>f x
 |_=>false
theorem ek' {α:Type} {z:Option α} {f:α->Bool} (h:ir' z f=true):∃x,z=some x/\f x=true:=by
 cases z with
 |some x=>exact⟨x,rfl,h⟩
 |_=>exact an' h
def qd' (z:Comprehension) (f:Expr->Expr->List Expr->Int->Bool):Bool:=f z.target z.iter z.ifs z.is_async
theorem ky' {z:Comprehension} {f:Expr->Expr->List Expr->Int->Bool} (h:qd' z f=true):∃a b c d,z=⟨a,b,c,d⟩/\f a b c d=true:=by
 cases z
 exact⟨_,_,_,_,rfl,h⟩
def bq' (z:Expr) (f:Str->Pos->Bool):Bool:=match z with
 | .Name x0 x1=>f x0 x1
 |_=>false
theorem aK' {z f} (h:bq' z f=true):∃x0 x1,z=.Name x0 x1/\f x0 x1=true:=by
 cases z with
 |Name x0 x1=>exact⟨x0,x1,rfl,h⟩
 |_=>exact an' h
def a8' (z:Expr) (f:Const->Nat->Pos->Bool):Bool:=match z with
 | .Constant x0 x1 x2=>f x0 x1 x2
 |_=>false
theorem aX' {z f} (h:a8' z f=true):∃x0 x1 x2,z=.Constant x0 x1 x2/\f x0 x1 x2=true:=by
 cases z with
 |Constant x0 x1 x2=>exact⟨x0,x1,x2,rfl,h⟩
 |_=>exact an' h
def lz' (z:Const) (f:Int->Bool):Bool:=match z with
 | .int x0=>f x0
 |_=>false
theorem iu' {z f} (h:lz' z f=true):∃x0,z=.int x0/\f x0=true:=by
 cases z with
 |int x0=>exact⟨x0,rfl,h⟩
 |_=>exact an' h
def iv' (z:Const) (f:Bool->Bool):Bool:=match z with
 | .bool x0=>f x0
 |_=>false
theorem gD' {z f} (h:iv' z f=true):∃x0,z=.bool x0/\f x0=true:=by
 cases z with
 |bool x0=>exact⟨x0,rfl,h⟩
 |_=>exact an' h
def iw' (z:Const) (f:Bool):Bool:=match z with
 | .none=>f
 |_=>false
theorem gE' {z f} (h:iw' z f=true):z=.none/\f=true:=by
 cases z with
 |none=>exact⟨rfl,h⟩
 |_=>exact an' h
def lA' (z:Const) (f:Str->Bool):Bool:=match z with
 | .str x0=>f x0
 |_=>false
theorem ix' {z f} (h:lA' z f=true):∃x0,z=.str x0/\f x0=true:=by
 cases z with
 |str x0=>exact⟨x0,rfl,h⟩
 |_=>exact an' h
def fz' (z:Expr) (f:Expr->Operator->Expr->Pos->Bool):Bool:=match z with
 | .BinOp x0 x1 x2 x3=>f x0 x1 x2 x3
 |_=>false
theorem e0' {z f} (h:fz' z f=true):∃x0 x1 x2 x3,z=.BinOp x0 x1 x2 x3/\f x0 x1 x2 x3=true:=by
 cases z with
 |BinOp x0 x1 x2 x3=>exact⟨x0,x1,x2,x3,rfl,h⟩
 |_=>exact an' h
def dj' (z:Expr) (f:UnaryOp->Expr->Pos->Bool):Bool:=match z with
 | .UnaryOp x0 x1 x2=>f x0 x1 x2
 |_=>false
theorem dL' {z f} (h:dj' z f=true):∃x0 x1 x2,z=.UnaryOp x0 x1 x2/\f x0 x1 x2=true:=by
 cases z with
 |UnaryOp x0 x1 x2=>exact⟨x0,x1,x2,rfl,h⟩
 |_=>exact an' h
def iy' (z:UnaryOp) (f:Bool):Bool:=match z with
 | .USub=>f
 |_=>false
theorem gF' {z f} (h:iy' z f=true):z=.USub/\f=true:=by
 cases z with
 |USub=>exact⟨rfl,h⟩
 |_=>exact an' h
def dk' (z:Expr) (f:Expr->List CmpOp->List Expr->Pos->Bool):Bool:=match z with
 | .Compare x0 x1 x2 x3=>f x0 x1 x2 x3
 |_=>false
theorem dM' {z f} (h:dk' z f=true):∃x0 x1 x2 x3,z=.Compare x0 x1 x2 x3/\f x0 x1 x2 x3=true:=by
 cases z with
 |Compare x0 x1 x2 x3=>exact⟨x0,x1,x2,x3,rfl,h⟩
 |_=>exact an' h
def fA' (z:Expr) (f:Expr->Expr->Expr->Pos->Bool):Bool:=match z with
 | .IfExp x0 x1 x2 x3=>f x0 x1 x2 x3
 |_=>false
theorem e3' {z f} (h:fA' z f=true):∃x0 x1 x2 x3,z=.IfExp x0 x1 x2 x3/\f x0 x1 x2 x3=true:=by
 cases z with
 |IfExp x0 x1 x2 x3=>exact⟨x0,x1,x2,x3,rfl,h⟩
 |_=>exact an' h
def ct' (z:Expr) (f:List Expr->Nat->Pos->Bool):Bool:=match z with
 | .Tuple x0 x1 x2=>f x0 x1 x2
 |_=>false
theorem bT' {z f} (h:ct' z f=true):∃x0 x1 x2,z=.Tuple x0 x1 x2/\f x0 x1 x2=true:=by
 cases z with
 |Tuple x0 x1 x2=>exact⟨x0,x1,x2,rfl,h⟩
 |_=>exact an' h
def iz' (z:Expr) (f:List Expr->Pos->Bool):Bool:=match z with
 | .List x0 x1=>f x0 x1
 |_=>false
theorem gG' {z f} (h:iz' z f=true):∃x0 x1,z=.List x0 x1/\f x0 x1=true:=by
 cases z with
 |List x0 x1=>exact⟨x0,x1,rfl,h⟩
 |_=>exact an' h
def bB' (z:Expr) (f:Expr->Expr->Pos->Bool):Bool:=match z with
 | .Subscript x0 x1 x2=>f x0 x1 x2
 |_=>false
theorem bC' {z f} (h:bB' z f=true):∃x0 x1 x2,z=.Subscript x0 x1 x2/\f x0 x1 x2=true:=by
 cases z with
 |Subscript x0 x1 x2=>exact⟨x0,x1,x2,rfl,h⟩
 |_=>exact an' h
def fB' (z:Expr) (f:Option Expr->Option Expr->Option Expr->Pos->Bool):Bool:=match z with
 | .Slice x0 x1 x2 x3=>f x0 x1 x2 x3
 |_=>false
theorem e4' {z f} (h:fB' z f=true):∃x0 x1 x2 x3,z=.Slice x0 x1 x2 x3/\f x0 x1 x2 x3=true:=by
 cases z with
 |Slice x0 x1 x2 x3=>exact⟨x0,x1,x2,x3,rfl,h⟩
 |_=>exact an' h
def br' (z:Expr) (f:Expr->List Expr->List Keyword->Pos->Bool):Bool:=match z with
 | .Call x0 x1 x2 x3=>f x0 x1 x2 x3
 |_=>false
theorem aL' {z f} (h:br' z f=true):∃x0 x1 x2 x3,z=.Call x0 x1 x2 x3/\f x0 x1 x2 x3=true:=by
 cases z with
 |Call x0 x1 x2 x3=>exact⟨x0,x1,x2,x3,rfl,h⟩
 |_=>exact an' h
def bh' (z:Expr) (f:Expr->Str->Pos->Bool):Bool:=match z with
 | .Attribute x0 x1 x2=>f x0 x1 x2
 |_=>false
theorem a9' {z f} (h:bh' z f=true):∃x0 x1 x2,z=.Attribute x0 x1 x2/\f x0 x1 x2=true:=by
 cases z with
 |Attribute x0 x1 x2=>exact⟨x0,x1,x2,rfl,h⟩
 |_=>exact an' h
def iA' (z:Expr) (f:List (Option Expr)->List Expr->Pos->Bool):Bool:=match z with
 | .Dict x0 x1 x2=>f x0 x1 x2
 |_=>false
theorem gH' {z f} (h:iA' z f=true):∃x0 x1 x2,z=.Dict x0 x1 x2/\f x0 x1 x2=true:=by
 cases z with
 |Dict x0 x1 x2=>exact⟨x0,x1,x2,rfl,h⟩
 |_=>exact an' h
def lB' (z:Expr) (f:List Expr->Nat->Pos->Bool):Bool:=match z with
 | .Set x0 x1 x2=>f x0 x1 x2
 |_=>false
theorem iB' {z f} (h:lB' z f=true):∃x0 x1 x2,z=.Set x0 x1 x2/\f x0 x1 x2=true:=by
 cases z with
 |Set x0 x1 x2=>exact⟨x0,x1,x2,rfl,h⟩
 |_=>exact an' h
def cP' (z:Expr) (f:Expr->List Comprehension->Scope->Pos->Bool):Bool:=match z with
 | .ListComp x0 x1 x2 x3=>f x0 x1 x2 x3
 |_=>false
theorem c9' {z f} (h:cP' z f=true):∃x0 x1 x2 x3,z=.ListComp x0 x1 x2 x3/\f x0 x1 x2 x3=true:=by
 cases z with
 |ListComp x0 x1 x2 x3=>exact⟨x0,x1,x2,x3,rfl,h⟩
 |_=>exact an' h
def iC' (z:Stmt) (f:Expr->Pos->Bool):Bool:=match z with
 | .Expr x0 x1=>f x0 x1
 |_=>false
theorem gI' {z f} (h:iC' z f=true):∃x0 x1,z=.Expr x0 x1/\f x0 x1=true:=by
 cases z with
 |Expr x0 x1=>exact⟨x0,x1,rfl,h⟩
 |_=>exact an' h
def el' (z:Stmt) (f:Option Expr->Pos->Bool):Bool:=match z with
 | .Return x0 x1=>f x0 x1
 |_=>false
theorem em' {z f} (h:el' z f=true):∃x0 x1,z=.Return x0 x1/\f x0 x1=true:=by
 cases z with
 |Return x0 x1=>exact⟨x0,x1,rfl,h⟩
 |_=>exact an' h
def cQ' (z:Stmt) (f:List Expr->Expr->Pos->Bool):Bool:=match z with
 | .Assign x0 x1 x2=>f x0 x1 x2
 |_=>false
theorem cl' {z f} (h:cQ' z f=true):∃x0 x1 x2,z=.Assign x0 x1 x2/\f x0 x1 x2=true:=by
 cases z with
 |Assign x0 x1 x2=>exact⟨x0,x1,x2,rfl,h⟩
 |_=>exact an' h
def qe' (z:Stmt) (f:Expr->List Stmt->List Stmt->Pos->Bool):Bool:=match z with
 | .If x0 x1 x2 x3=>f x0 x1 x2 x3
 |_=>false
theorem kz' {z f} (h:qe' z f=true):∃x0 x1 x2 x3,z=.If x0 x1 x2 x3/\f x0 x1 x2 x3=true:=by
 cases z with
 |If x0 x1 x2 x3=>exact⟨x0,x1,x2,x3,rfl,h⟩
 |_=>exact an' h
def fC' (z:Stmt) (f:Expr->List Stmt->List Stmt->Pos->Bool):Bool:=match z with
 | .While x0 x1 x2 x3=>f x0 x1 x2 x3
 |_=>false
theorem e5' {z f} (h:fC' z f=true):∃x0 x1 x2 x3,z=.While x0 x1 x2 x3/\f x0 x1 x2 x3=true:=by
 cases z with
 |While x0 x1 x2 x3=>exact⟨x0,x1,x2,x3,rfl,h⟩
 |_=>exact an' h
def lC' (z:Stmt) (f:Expr->Expr->List Stmt->List Stmt->Pos->Bool):Bool:=match z with
 | .For x0 x1 x2 x3 x4=>f x0 x1 x2 x3 x4
 |_=>false
theorem iD' {z f} (h:lC' z f=true):∃x0 x1 x2 x3 x4,z=.For x0 x1 x2 x3 x4/\f x0 x1 x2 x3 x4=true:=by
 cases z with
 |For x0 x1 x2 x3 x4=>exact⟨x0,x1,x2,x3,x4,rfl,h⟩
 |_=>exact an' h
def v1 (zz:Expr) (f:Str->Bool):Bool:=bq' zz fun y1 y2=>f y1
theorem ue' {zz f} {P:Prop} (h:v1 zz f=true) (k:∀x w1,zz=.Name x w1->f x=true->P):P:=by
 obtain⟨y1,y2,e0,h⟩:=aK' h
 exact k y1 y2 (by rw[e0]) h
def v2 (zz:Expr) (f:Int->Bool):Bool:=a8' zz fun y1 y2 y3=>lz' y1 fun y4=>f y4
theorem uQ' {zz f} {P:Prop} (h:v2 zz f=true) (k:∀m w1 w2,zz=.Constant (.int m) w1 w2->f m=true->P):P:=by
 obtain⟨y1,y2,y3,e0,h⟩:=aX' h
 obtain⟨y4,e1,h⟩:=iu' h
 exact k y4 y2 y3 (by rw[e0,e1]) h
def v3 (zz:Expr) (f:Bool->Bool):Bool:=a8' zz fun y1 y2 y3=>iv' y1 fun y4=>f y4
theorem uR' {zz f} {P:Prop} (h:v3 zz f=true) (k:∀c w1 w2,zz=.Constant (.bool c) w1 w2->f c=true->P):P:=by
 obtain⟨y1,y2,y3,e0,h⟩:=aX' h
 obtain⟨y4,e1,h⟩:=gD' h
 exact k y4 y2 y3 (by rw[e0,e1]) h
def v4 (zz:Expr) (f:Bool):Bool:=a8' zz fun y1 y2 y3=>iw' y1 (f)
theorem uS' {zz f} {P:Prop} (h:v4 zz f=true) (k:∀w1 w2,zz=.Constant .none w1 w2->f=true->P):P:=by
 obtain⟨y1,y2,y3,e0,h⟩:=aX' h
 obtain⟨e1,h⟩:=gE' h
 exact k y2 y3 (by rw[e0,e1]) h
def v5 (zz:Expr) (f:Str->Bool):Bool:=a8' zz fun y1 y2 y3=>lA' y1 fun y4=>f y4
theorem uT' {zz f} {P:Prop} (h:v5 zz f=true) (k:∀y w1 w2,zz=.Constant (.str y) w1 w2->f y=true->P):P:=by
 obtain⟨y1,y2,y3,e0,h⟩:=aX' h
 obtain⟨y4,e1,h⟩:=ix' h
 exact k y4 y2 y3 (by rw[e0,e1]) h
def v6 (zz:Expr) (f:Expr->Operator->Expr->Bool):Bool:=fz' zz fun y1 y2 y3 y4=>f y1 y2 y3
theorem uU' {zz f} {P:Prop} (h:v6 zz f=true) (k:∀ea op' eb w1,zz=.BinOp ea op' eb w1->f ea op' eb=true->P):P:=by
 obtain⟨y1,y2,y3,y4,e0,h⟩:=e0' h
 exact k y1 y2 y3 y4 (by rw[e0]) h
def v7 (zz:Expr) (f:Expr->Bool):Bool:=dj' zz fun y1 y2 y3=>iy' y1 (f y2)
theorem uV' {zz f} {P:Prop} (h:v7 zz f=true) (k:∀ea w1,zz=.UnaryOp .USub ea w1->f ea=true->P):P:=by
 obtain⟨y1,y2,y3,e0,h⟩:=dL' h
 obtain⟨e1,h⟩:=gF' h
 exact k y2 y3 (by rw[e0,e1]) h
def v9 (zz:Expr) (f:Expr->CmpOp->Expr->Bool):Bool:=dk' zz fun y1 y2 y3 y4=>aA' y2 fun y5 y6=>aM' y6 (aA' y3 fun y7 y8=>aM' y8 (f y1 y5 y7))
theorem s0' {zz f} {P:Prop} (h:v9 zz f=true) (k:∀ea op' eb w1,zz=.Compare ea (op' :: []) (eb :: []) w1->f ea op' eb=true->P):P:=by
 obtain⟨y1,y2,y3,y4,e0,h⟩:=dM' h
 obtain⟨y5,y6,e1,h⟩:=ak' h
 obtain⟨e2,h⟩:=aj' h
 obtain⟨y7,y8,e3,h⟩:=ak' h
 obtain⟨e4,h⟩:=aj' h
 exact k y1 y5 y7 y4 (by rw[e0,e1,e2,e3,e4]) h
def v11 (zz:Expr) (f:Expr->Expr->Expr->Bool):Bool:=fA' zz fun y1 y2 y3 y4=>f y1 y2 y3
theorem s1' {zz f} {P:Prop} (h:v11 zz f=true) (k:∀eq ea eb w1,zz=.IfExp eq ea eb w1->f eq ea eb=true->P):P:=by
 obtain⟨y1,y2,y3,y4,e0,h⟩:=e3' h
 exact k y1 y2 y3 y4 (by rw[e0]) h
def v12 (zz:Expr) (f:List Expr->Bool):Bool:=ct' zz fun y1 y2 y3=>f y1
theorem qf' {zz f} {P:Prop} (h:v12 zz f=true) (k:∀xs w1 w2,zz=.Tuple xs w1 w2->f xs=true->P):P:=by
 obtain⟨y1,y2,y3,e0,h⟩:=bT' h
 exact k y1 y2 y3 (by rw[e0]) h
def v13 (zz:Expr) (f:List Expr->Bool):Bool:=iz' zz fun y1 y2=>f y1
theorem s2' {zz f} {P:Prop} (h:v13 zz f=true) (k:∀xs w1,zz=.List xs w1->f xs=true->P):P:=by
 obtain⟨y1,y2,e0,h⟩:=gG' h
 exact k y1 y2 (by rw[e0]) h
def v14 (zz:Expr) (f:Expr->Expr->Bool):Bool:=bB' zz fun y1 y2 y3=>f y1 y2
theorem qg' {zz f} {P:Prop} (h:v14 zz f=true) (k:∀ea eb w1,zz=.Subscript ea eb w1->f ea eb=true->P):P:=by
 obtain⟨y1,y2,y3,e0,h⟩:=bC' h
 exact k y1 y2 y3 (by rw[e0]) h
def v15 (zz:Expr) (f:Expr->Option Expr->Option Expr->Bool):Bool:=bB' zz fun y1 y2 y3=>fB' y2 fun y4 y5 y6 y7=>iq' y6 (f y1 y4 y5)
theorem s3' {zz f} {P:Prop} (h:v15 zz f=true) (k:∀ea l h w1 w2,zz=.Subscript ea (.Slice l h none w1) w2->f ea l h=true->P):P:=by
 obtain⟨y1,y2,y3,e0,h⟩:=bC' h
 obtain⟨y4,y5,y6,y7,e1,h⟩:=e4' h
 obtain⟨e2,h⟩:=ej' h
 exact k y1 y4 y5 y7 y3 (by rw[e0,e1,e2]) h
def v16 (zz:Expr) (f:Str->Expr->List Expr->Bool):Bool:=br' zz fun y1 y2 y3 y4=>bq' y1 fun y5 y6=>aA' y2 fun y7 y8=>aM' y3 (f y5 y7 y8)
theorem qh' {zz f} {P:Prop} (h:v16 zz f=true) (k:∀x w1 e r w2,zz=.Call (.Name x w1) (e :: r) [] w2->f x e r=true->P):P:=by
 obtain⟨y1,y2,y3,y4,e0,h⟩:=aL' h
 obtain⟨y5,y6,e1,h⟩:=aK' h
 obtain⟨y7,y8,e2,h⟩:=ak' h
 obtain⟨e3,h⟩:=aj' h
 exact k y5 y6 y7 y8 y4 (by rw[e0,e1,e2,e3]) h
def v17 (zz:Expr) (f:Expr->Str->Pos->List Expr->Pos->Bool):Bool:=br' zz fun y1 y2 y3 y4=>bh' y1 fun y5 y6 y7=>aM' y3 (f y5 y6 y7 y2 y4)
theorem s4' {zz f} {P:Prop} (h:v17 zz f=true) (k:∀eo nm apos args pos,zz=.Call (.Attribute eo nm apos) args [] pos->f eo nm apos args pos=true->P):P:=by
 obtain⟨y1,y2,y3,y4,e0,h⟩:=aL' h
 obtain⟨y5,y6,y7,e1,h⟩:=a9' h
 obtain⟨e2,h⟩:=aj' h
 exact k y5 y6 y7 y2 y4 (by rw[e0,e1,e2]) h
def v18 (zz:Expr) (f:Bool):Bool:=iA' zz fun y1 y2 y3=>aM' y1 (aM' y2 (f))
theorem s5' {zz f} {P:Prop} (h:v18 zz f=true) (k:∀w1,zz=.Dict [] [] w1->f=true->P):P:=by
 obtain⟨y1,y2,y3,e0,h⟩:=gH' h
 obtain⟨e1,h⟩:=aj' h
 obtain⟨e2,h⟩:=aj' h
 exact k y3 (by rw[e0,e1,e2]) h
def v20 (zz:Expr) (f:Expr->Str->Pos->Expr->Pos->Bool):Bool:=br' zz fun y1 y2 y3 y4=>bh' y1 fun y5 y6 y7=>aA' y2 fun y8 y9=>aM' y9 (aM' y3 (f y5 y6 y7 y8 y4))
theorem s6' {zz f} {P:Prop} (h:v20 zz f=true) (k:∀eo nm apos y pos,zz=.Call (.Attribute eo nm apos) (y :: []) [] pos->f eo nm apos y pos=true->P):P:=by
 obtain⟨y1,y2,y3,y4,e0,h⟩:=aL' h
 obtain⟨y5,y6,y7,e1,h⟩:=a9' h
 obtain⟨y8,y9,e2,h⟩:=ak' h
 obtain⟨e3,h⟩:=aj' h
 obtain⟨e4,h⟩:=aj' h
 exact k y5 y6 y7 y8 y4 (by rw[e0,e1,e2,e3,e4]) h
def v21 (zz:Expr) (f:Expr->Str->Pos->Expr->Expr->Pos->Bool):Bool:=br' zz fun y1 y2 y3 y4=>bh' y1 fun y5 y6 y7=>aA' y2 fun y8 y9=>aA' y9 fun y10 y11=>aM' y11 (aM' y3 (f y5 y6 y7 y8 y10 y4))
theorem s7' {zz f} {P:Prop} (h:v21 zz f=true) (k:∀eo nm apos y z pos,zz=.Call (.Attribute eo nm apos) (y :: (z :: [])) [] pos->f eo nm apos y z pos=true->P):P:=by
 obtain⟨y1,y2,y3,y4,e0,h⟩:=aL' h
 obtain⟨y5,y6,y7,e1,h⟩:=a9' h
 obtain⟨y8,y9,e2,h⟩:=ak' h
 obtain⟨y10,y11,e3,h⟩:=ak' h
 obtain⟨e4,h⟩:=aj' h
 obtain⟨e5,h⟩:=aj' h
 exact k y5 y6 y7 y8 y10 y4 (by rw[e0,e1,e2,e3,e4,e5]) h
def v23 (zz:Expr) (f:Str->Expr->Bool):Bool:=br' zz fun y1 y2 y3 y4=>bq' y1 fun y5 y6=>aA' y2 fun y7 y8=>aM' y8 (aM' y3 (f y5 y7))
theorem qi' {zz f} {P:Prop} (h:v23 zz f=true) (k:∀x w1 y w2,zz=.Call (.Name x w1) (y :: []) [] w2->f x y=true->P):P:=by
 obtain⟨y1,y2,y3,y4,e0,h⟩:=aL' h
 obtain⟨y5,y6,e1,h⟩:=aK' h
 obtain⟨y7,y8,e2,h⟩:=ak' h
 obtain⟨e3,h⟩:=aj' h
 obtain⟨e4,h⟩:=aj' h
 exact k y5 y6 y7 y4 (by rw[e0,e1,e2,e3,e4]) h
def v85 (zz:Expr) (f:Expr->Nat->Bool):Bool:=lB' zz fun y1 y2 y3=>aA' y1 fun y4 y5=>aM' y5 (f y4 y2)
theorem s8' {zz f} {P:Prop} (h:v85 zz f=true) (k:∀y kk w,zz=.Set (y :: []) kk w->f y kk=true->P):P:=by
 obtain⟨y1,y2,y3,e0,h⟩:=iB' h
 obtain⟨y4,y5,e1,h⟩:=ak' h
 obtain⟨e2,h⟩:=aj' h
 exact k y4 y2 y3 (by rw[e0,e1,e2]) h
def v84 (zz:Expr) (f:Str->Str->Expr->Expr->Bool):Bool:=br' zz fun y1 y2 y3 y4=>bq' y1 fun y5 y6=>aA' y2 fun y7 y8=>br' y7 fun y9 y10 y11 y12=>bq' y9 fun y13 y14=>aA' y10 fun y15 y16=>aA' y16 fun y17 y18=>aM' y18 (aM' y11 (aM' y8 (aM' y3 (f y5 y13 y15 y17))))
theorem s9' {zz f} {P:Prop} (h:v84 zz f=true) (k:∀n1 w1 n2 w2 y y' w3 w4,zz=.Call (.Name n1 w1) ((.Call (.Name n2 w2) (y :: (y' :: [])) [] w3) :: []) [] w4->f n1 n2 y y'=true->P):P:=by
 obtain⟨y1,y2,y3,y4,e0,h⟩:=aL' h
 obtain⟨y5,y6,e1,h⟩:=aK' h
 obtain⟨y7,y8,e2,h⟩:=ak' h
 obtain⟨y9,y10,y11,y12,e3,h⟩:=aL' h
 obtain⟨y13,y14,e4,h⟩:=aK' h
 obtain⟨y15,y16,e5,h⟩:=ak' h
 obtain⟨y17,y18,e6,h⟩:=ak' h
 obtain⟨e7,h⟩:=aj' h
 obtain⟨e8,h⟩:=aj' h
 obtain⟨e9,h⟩:=aj' h
 obtain⟨e10,h⟩:=aj' h
 exact k y5 y6 y13 y14 y15 y17 y12 y4 (by rw[e0,e1,e2,e3,e4,e5,e6,e7,e8,e9,e10]) h
def v26 (zz:Expr) (f:Expr->Expr->Expr->List Expr->Int->Scope->Bool):Bool:=cP' zz fun y1 y2 y3 y4=>aA' y2 fun y5 y6=>qd' y5 fun y7 y8 y9 y10=>aM' y6 (f y1 y7 y8 y9 y10 y3)
theorem ta' {zz f} {P:Prop} (h:v26 zz f=true) (k:∀ee tg iter ifs a scope w1,zz=.ListComp ee (⟨tg,iter,ifs,a⟩ :: []) scope w1->f ee tg iter ifs a scope=true->P):P:=by
 obtain⟨y1,y2,y3,y4,e0,h⟩:=c9' h
 obtain⟨y5,y6,e1,h⟩:=ak' h
 obtain⟨y7,y8,y9,y10,e2,h⟩:=ky' h
 obtain⟨e3,h⟩:=aj' h
 exact k y1 y7 y8 y9 y10 y3 y4 (by rw[e0,e1,e2,e3]) h
def v29 (zz:List Expr) (f:Bool):Bool:=aM' zz (f)
theorem iE' {zz f} {P:Prop} (h:v29 zz f=true) (k:zz=[]->f=true->P):P:=by
 obtain⟨e0,h⟩:=aj' h
 exact k (by rw[e0]) h
def v30 (zz:List Expr) (f:Expr->List Expr->Bool):Bool:=aA' zz fun y1 y2=>f y1 y2
theorem kA' {zz f} {P:Prop} (h:v30 zz f=true) (k:∀x xs,zz=(x :: xs)->f x xs=true->P):P:=by
 obtain⟨y1,y2,e0,h⟩:=ak' h
 exact k y1 y2 (by rw[e0]) h
def v31 (zz:List Expr) (f:Expr->Bool):Bool:=aA' zz fun y1 y2=>aM' y2 (f y1)
theorem tb' {zz f} {P:Prop} (h:v31 zz f=true) (k:∀e,zz=(e :: [])->f e=true->P):P:=by
 obtain⟨y1,y2,e0,h⟩:=ak' h
 obtain⟨e1,h⟩:=aj' h
 exact k y1 (by rw[e0,e1]) h
def v32 (zz:Option Expr) (f:Bool):Bool:=iq' zz (f)
theorem tc' {zz f} {P:Prop} (h:v32 zz f=true) (k:zz=none->f=true->P):P:=by
 obtain⟨e0,h⟩:=ej' h
 exact k (by rw[e0]) h
def v33 (zz:Option Expr) (f:Expr->Bool):Bool:=ir' zz fun y1=>f y1
theorem td' {zz f} {P:Prop} (h:v33 zz f=true) (k:∀y,zz=(some y)->f y=true->P):P:=by
 obtain⟨y1,e0,h⟩:=ek' h
 exact k y1 (by rw[e0]) h
def v35 (zz:Expr) (f:Str->Expr->Expr->Expr->Bool):Bool:=br' zz fun y1 y2 y3 y4=>bq' y1 fun y5 y6=>aA' y2 fun y7 y8=>aA' y8 fun y9 y10=>aA' y10 fun y11 y12=>aM' y12 (aM' y3 (f y5 y7 y9 y11))
theorem te' {zz f} {P:Prop} (h:v35 zz f=true) (k:∀n w1 y z u w2,zz=.Call (.Name n w1) (y :: (z :: (u :: []))) [] w2->f n y z u=true->P):P:=by
 obtain⟨y1,y2,y3,y4,e0,h⟩:=aL' h
 obtain⟨y5,y6,e1,h⟩:=aK' h
 obtain⟨y7,y8,e2,h⟩:=ak' h
 obtain⟨y9,y10,e3,h⟩:=ak' h
 obtain⟨y11,y12,e4,h⟩:=ak' h
 obtain⟨e5,h⟩:=aj' h
 obtain⟨e6,h⟩:=aj' h
 exact k y5 y6 y7 y9 y11 y4 (by rw[e0,e1,e2,e3,e4,e5,e6]) h
def v36 (zz:Stmt) (f:Expr->Bool):Bool:=iC' zz fun y1 y2=>f y1
theorem tf' {zz f} {P:Prop} (h:v36 zz f=true) (k:∀x w1,zz=.Expr x w1->f x=true->P):P:=by
 obtain⟨y1,y2,e0,h⟩:=gI' h
 exact k y1 y2 (by rw[e0]) h
def v37 (zz:Stmt) (f:Expr->Bool):Bool:=el' zz fun y1 y2=>ir' y1 fun y3=>f y3
theorem th' {zz f} {P:Prop} (h:v37 zz f=true) (k:∀x w1,zz=.Return (some x) w1->f x=true->P):P:=by
 obtain⟨y1,y2,e0,h⟩:=em' h
 obtain⟨y3,e1,h⟩:=ek' h
 exact k y3 y2 (by rw[e0,e1]) h
def v39 (zz:Stmt) (f:Expr->Expr->Bool):Bool:=cQ' zz fun y1 y2 y3=>aA' y1 fun y4 y5=>aM' y5 (f y4 y2)
theorem ti' {zz f} {P:Prop} (h:v39 zz f=true) (k:∀tg x w1,zz=.Assign (tg :: []) x w1->f tg x=true->P):P:=by
 obtain⟨y1,y2,y3,e0,h⟩:=cl' h
 obtain⟨y4,y5,e1,h⟩:=ak' h
 obtain⟨e2,h⟩:=aj' h
 exact k y4 y2 y3 (by rw[e0,e1,e2]) h
def v43 (zz:Stmt) (f:Str->Pos->Str->Pos->Expr->Expr->Bool):Bool:=cQ' zz fun y1 y2 y3=>aA' y1 fun y4 y5=>ct' y4 fun y6 y7 y8=>aA' y6 fun y9 y10=>bq' y9 fun y11 y12=>aA' y10 fun y13 y14=>bq' y13 fun y15 y16=>aM' y14 (aM' y5 (ct' y2 fun y17 y18 y19=>aA' y17 fun y20 y21=>aA' y21 fun y22 y23=>aM' y23 (f y11 y12 y15 y16 y20 y22)))
theorem tj' {zz f} {P:Prop} (h:v43 zz f=true) (k:∀x px y py w1 w2 ea eb w3 w4 w5,zz=.Assign ((.Tuple ((.Name x px) :: ((.Name y py) :: [])) w1 w2) :: []) (.Tuple (ea :: (eb :: [])) w3 w4) w5->f x px y py ea eb=true->P):P:=by
 obtain⟨y1,y2,y3,e0,h⟩:=cl' h
 obtain⟨y4,y5,e1,h⟩:=ak' h
 obtain⟨y6,y7,y8,e2,h⟩:=bT' h
 obtain⟨y9,y10,e3,h⟩:=ak' h
 obtain⟨y11,y12,e4,h⟩:=aK' h
 obtain⟨y13,y14,e5,h⟩:=ak' h
 obtain⟨y15,y16,e6,h⟩:=aK' h
 obtain⟨e7,h⟩:=aj' h
 obtain⟨e8,h⟩:=aj' h
 obtain⟨y17,y18,y19,e9,h⟩:=bT' h
 obtain⟨y20,y21,e10,h⟩:=ak' h
 obtain⟨y22,y23,e11,h⟩:=ak' h
 obtain⟨e12,h⟩:=aj' h
 exact k y11 y12 y15 y16 y7 y8 y20 y22 y18 y19 y3 (by rw[e0,e1,e2,e3,e4,e5,e6,e7,e8,e9,e10,e11,e12]) h
def v50 (zz:Stmt) (f:Expr->List Stmt->List Stmt->Bool):Bool:=qe' zz fun y1 y2 y3 y4=>f y1 y2 y3
theorem tl' {zz f} {P:Prop} (h:v50 zz f=true) (k:∀x ss rs w1,zz=.If x ss rs w1->f x ss rs=true->P):P:=by
 obtain⟨y1,y2,y3,y4,e0,h⟩:=kz' h
 exact k y1 y2 y3 y4 (by rw[e0]) h
def v51 (zz:Stmt) (f:Expr->List Stmt->Bool):Bool:=fC' zz fun y1 y2 y3 y4=>aM' y3 (f y1 y2)
theorem tm' {zz f} {P:Prop} (h:v51 zz f=true) (k:∀x ss w1,zz=.While x ss [] w1->f x ss=true->P):P:=by
 obtain⟨y1,y2,y3,y4,e0,h⟩:=e5' h
 obtain⟨e1,h⟩:=aj' h
 exact k y1 y2 y4 (by rw[e0,e1]) h
def v52 (zz:Stmt) (f:Expr->Expr->List Stmt->Bool):Bool:=lC' zz fun y1 y2 y3 y4 y5=>aM' y4 (f y1 y2 y3)
theorem tn' {zz f} {P:Prop} (h:v52 zz f=true) (k:∀tg iter ss w1,zz=.For tg iter ss [] w1->f tg iter ss=true->P):P:=by
 obtain⟨y1,y2,y3,y4,y5,e0,h⟩:=iD' h
 obtain⟨e1,h⟩:=aj' h
 exact k y1 y2 y3 y5 (by rw[e0,e1]) h
def v56 (zz:List Stmt) (f:Bool):Bool:=aM' zz (f)
theorem to' {zz f} {P:Prop} (h:v56 zz f=true) (k:zz=[]->f=true->P):P:=by
 obtain⟨e0,h⟩:=aj' h
 exact k (by rw[e0]) h
def v57 (zz:List Stmt) (f:Stmt->List Stmt->Bool):Bool:=aA' zz fun y1 y2=>f y1 y2
theorem tp' {zz f} {P:Prop} (h:v57 zz f=true) (k:∀x xs,zz=(x :: xs)->f x xs=true->P):P:=by
 obtain⟨y1,y2,e0,h⟩:=ak' h
 exact k y1 y2 (by rw[e0]) h
mutual
def mE (N B:List Str) (sc:Scope):Ce->Expr->Bool
 | .var i,e=>v1 e fun x=>di' N i x&&vis sc x
 | .int n,e=>v2 e fun m=>decide (n=m)
 | .bl b,e=>v3 e fun c=>decide (b=c)
 | .non,e=>v4 e (true)
 | .str x,e=>v5 e fun y=>decide (x=y)
 | .bin op a b,e=>v6 e fun ea op' eb=>decide (op=op')&&mE N B sc a ea&&mE N B sc b eb
 | .neg a,e=>v7 e fun ea=>mE N B sc a ea
 | .and a b,e=>sZ' e fun x y=>mE N B sc a x&&mE N B sc b y
 | .or a b,e=>vOr e fun x y=>mE N B sc a x&&mE N B sc b y
 | .cmp op a b,e=>v9 e fun ea op' eb=>decide (op=op')&&mE N B sc a ea&&mE N B sc b eb&&ck' eb
 | .ife q a b,e=>v11 e fun eq ea eb=>mQ N B sc q eq&&mE N B sc a ea&&mE N B sc b eb
 | .tup es,e=>v12 e fun xs=>mA N B sc es xs
 | .lst es,e=>v13 e fun xs=>mA N B sc es xs
 | .idx a b,e=>v14 e fun ea eb=>mE N B sc a ea&&mE N B sc b eb&&cs' eb
 | .cut a lo hi,e=>v15 e fun ea l h=>mE N B sc a ea&&mO N B sc lo l&&mO N B sc hi h
 | .call f es,e=>v16 e fun x e r=>decide (x=f)&&glb sc x&&mA N B sc es (e :: r)&&!(x == ("__debug__":Str))&&!(hat B)&&!(tld B&&decide (oD' x∈B))
 | .blt f es,e=>v16 e fun x e r=>decide (x=cO' f)&&glb sc x&&mA N B sc es (e :: r)&&decide (x∈B)&&(!(hat B) || decide (f=.isinstance))
 | .met m o es,e=>v17 e fun eo nm apos args pos=>decide (nm=in' m)&&mE N B sc o eo&&fy' eo&&(apos.endLine == pos.line)&&mA N B sc es args&&decide (args.length<28)
 | .dnt,e=>v18 e (true)
 | .lzp a b,e=>v84 e fun n1 n2 y y2=>decide (n1="list")&&decide (n2="zip")&&glb sc n1&&decide (n1∈B)&&glb sc n2&&decide (n2∈B)&&mE N B sc a y&&aq' y&&mE N B sc b y2&&aq' y2&&!(hat B)
 | .sd1 a,e=>v85 e fun y k=>decide (k=0)&&mE N B sc a y&&aq' y&&!(tld B)
 | .sad a b,e=>v20 e fun eo nm apos y pos=>decide (nm="add")&&mE N B sc a eo&&fy' eo&&(apos.endLine == pos.line)&&mE N B sc b y&&aq' y
 | .dsd a b c,e=>v21 e fun eo nm apos y z pos=>decide (nm="setdefault")&&mE N B sc a eo&&fy' eo&&(apos.endLine == pos.line)&&mE N B sc b y&&aq' y&&mE N B sc c z&&aq' z
 | .comp elt own t it q .nil,e=>v26 e fun ee tg iter ifs a scope=>!(hat B)&&oB' N sc scope own&&mE N ("~" :: B) scope elt ee&&oC' own t&&decide (a=0)&&mI N B sc it iter&&r8' it tg&&ck' iter&&mT N ("~" :: B) scope t tg&&mQo N ("~" :: B) scope q ifs
 | .comp _ _ _ _ _ (.cons _ _ _ _ _),_=>false
def mA (N B:List Str) (sc:Scope):Ces->List Expr->Bool
 | .nil,es=>v29 es (true)
 | .cons e r,es=>v30 es fun x xs=>mE N B sc e x&&aq' x&&mA N B sc r xs
def mQ (N B:List Str) (sc:Scope):Cq->Expr->Bool
 | .val e,x=>mE N B sc e x&&lx' x
 | .and a b,e=>sZ' e fun x y=>mQ N B sc a x&&mQ N B sc b y
 | .or a b,e=>vOr e fun x y=>mQ N B sc a x&&mQ N B sc b y
 | .cmp op a b,e=>v9 e fun ea op' eb=>decide (op=op')&&mE N B sc a ea&&mE N B sc b eb&&ck' eb
 | .cmw k a b,e=>v9 e fun ea op' eb=>decide (op'=ud' k)&&mE N B sc a ea&&mE N B sc b eb&&ck' eb
def mQo (N B:List Str) (sc:Scope):Cqo->List Expr->Bool
 | .none,es=>v29 es (true)
 | .some q,es=>v31 es fun e=>mQ N B sc q e
def mO (N B:List Str) (sc:Scope):Co->Option Expr->Bool
 | .none,x=>v32 x (true)
 | .some e,x=>v33 x fun y=>mE N B sc e y
def mI (N B:List Str) (sc:Scope):Ci->Expr->Bool
 | .val e,x=>mE N B sc e x
 | .range1 a,x=>v23 x fun n y=>decide (n="range")&&glb sc n&&decide (n∈B)&&mE N B sc a y&&aq' y
 | .enum a,x=>v23 x fun n y=>decide (n="enumerate")&&glb sc n&&decide (n∈B)&&mE N B sc a y&&aq' y
 | .range3 a b c,x=>v35 x fun n y z u=>decide (n="range")&&glb sc n&&decide (n∈B)&&mE N B sc a y&&aq' y&&mE N B sc b z&&aq' z&&mE N B sc c u&&aq' u
def mT (N B:List Str) (sc:Scope):Ct->Expr->Bool
 | .name i,e=>v1 e fun x=>di' N i x&&locb sc x
 | .tup ts,e=>v12 e fun es=>mTs N B sc ts es&&!(hat B)
 | .sub o i,e=>v14 e fun eo ei=>mE N B sc o eo&&mE N B sc i ei&&cs' ei
def mTs (N B:List Str) (sc:Scope):Cts->List Expr->Bool
 | .nil,es=>v29 es (true)
 | .cons t r,es=>v30 es fun x xs=>mT N B sc t x&&aq' x&&mTs N B sc r xs
end
def e6':Ce->Bool
 |_=>false
mutual
def mS (N B:List Str) (sc:Scope):Cs->Stmt->Bool
 | .expr e,s=>v36 s fun x=>mE N B sc e x&&(match e with | .comp ..=>false|_=>true)&&!e6' e
 | .ret e,s=>v37 s fun x=>mE N B sc e x
 | .asg t e,s=>v39 s fun tg x=>mE N B sc e x&&!e6' e&&mT N B sc t tg&&aq' tg&&(match tg,x with
   | .Tuple ..,.Tuple vs _ _=>vs.all (foldedForSure 8)
   | .Tuple ..,.ListComp ..=>false
   |_,_=>true)
 | .par i j a b,s=>v43 s fun x px y py ea eb=>di' N i x&&di' N j y&&decide (i≠j)&&decide (sc.names.lookup x=some .local)&&decide (sc.names.lookup y=some .local)&&
    mE N B sc a ea&&mE N B sc b eb&&aq' ea&&aq' eb&&(px.line == py.line)&&(!(foldedForSure 8 ea&&foldedForSure 8 eb))&&(!(constantsAlone 8 ea&&constantsAlone 8 eb))&&!(hat B)
 | .ite q a b,s=>v50 s fun x ss rs=>mQ N B sc q x&&mSs N B sc a ss&&mSs N B sc b rs
 | .whl q b,s=>v51 s fun x ss=>mQ N B sc q x&&mSs N B sc b ss
 | .for_ t it b,s=>v52 s fun tg iter ss=>mI N B sc it iter&&r8' it tg&&ck' iter&&mT N B sc t tg&&mSs N B sc b ss&&!(hat B)
def mSs (N B:List Str) (sc:Scope):Css->List Stmt->Bool
 | .nil,ss=>v56 ss (true)
 | .cons s r,ss=>v57 ss fun x xs=>mS N B sc s x&&mSs N B sc r xs
end
def nC' (CX:CXT) (X:Cx) (xk:L2.St->XK):Prop:=∀(pins:List (Addr×Obj)) (σ:L2.St) (H:Hp) (s:Shared) (e:Value) (s':Shared),Inv X pins σ H s->CX X.stack H s (xk σ) e s'->X.xe e s'
theorem lD' {X:Cx} {xk:L2.St->XK}:nC' CX0 X xk:=fun _ _ _ _ _ _ _ h=>h.elim
structure Rok (C:Rc) (B:List Str) (X:Cx) (sc:Scope):Prop where
 hN:X.N=C.N
 nd:C.N.Nodup
 hK:X.K=C.K
 own:PassesOwn (model X.prog X.w) X.A X.env X.xe
 calm:hat B=false->X.calm=true
 hu:X.A.units+64<cLine
 gd:X.A.guards=some []
 loc:∀x,sc.names.lookup x=some .local->X.env.scope.names.lookup x=some .local
 cel:∀x,sc.names.lookup x=some .cell->X.env.scope.names.lookup x=some .cell/\X.fn x=true
 fre:∀x,sc.names.lookup x=some .free->X.env.scope.names.lookup x=some .cell\/X.env.scope.names.lookup x=some .free
 glo:∀x,sc.names.lookup x=some .globalImplicit->X.env.kindOf x=some .globalImplicit
 fn:∀x sp,C.fs x=some sp->hat B=false->(tld B=true->oD' x∉B)->∃f fd ps k CX,FnOk X.prog X.w X.K X.mg X.base CX k f fd ps sp/\Room k X.A/\X.mg x=some (.ref f)/\W.keepIn X.K (.ref f)=true/\c4' X.K fd ps []/\(CX=CX0\/CX=CX1 X.prog X.w X.mg/\oD' x∈B)/\nC' CX X C.xk
 blt:∀x∈B,X.mg x=none
 mrk:X.mg "~"=none/\X.mg "^"=none/\X.mg "%"=none
 cls:∀c Ca,C.cl c=some Ca->X.mg c=some (.ref Ca)/\W.nsIn X.K mainGlobals c=some (some (.ref Ca))
 fx:tld B=false->FnCx X
 nohat:tld B=false->hat B=false
 xr:tld B=false->pct B=false->∀nm Ca pins σ H s e t,C.cl nm=some Ca->Inv X pins σ H s->H e=none->X.s₀.heap.get? e=none->(∀p∈X.pn++pins,p.1≠e)->s.heap.get? e=some { cls:=.ref Ca,data:=.fields #[.ref t,.none,.none,.none,.bool false,.none] }->C.xk σ (.str nm 0) none H->X.xe (.ref e) s
theorem Rok.hu1 {C:Rc} {B:List Str} {X:Cx} {sc:Scope} (R:Rok C B X sc):X.A.units+1<cLine:=by have:=R.hu;omega
section
variable {C:Rc} {B:List Str} {X:Cx} {sc:Scope}
set_option tactic.hygienic true in
theorem Rok.vis (R:Rok C B X sc) {x:Str} (h:R3.vis sc x=true):Vis X.env.scope x:=by
 unfold R3.vis at h
 split at h
 .rename_i e;exact .inl (R.loc x e)
 .rename_i e;exact .inr (.inl (R.cel x e).1)
 .rename_i e
  rcases R.fre x e with q|q
  .exact .inr (.inl q)
  .exact .inr (.inr q)
 .cases h
set_option tactic.hygienic true in
theorem Rok.locb (R:Rok C B X sc) {x:Str} (h:R3.locb sc x=true):Loc X.env.scope x/\(X.fn x=true\/X.env.scope.names.lookup x=some .local):=by
 unfold R3.locb at h
 split at h
 .rename_i e;exact⟨.inl (R.loc x e),.inr (R.loc x e)⟩
 .rename_i e;exact⟨.inr (R.cel x e).1,.inl (R.cel x e).2⟩
 .cases h
theorem Rok.glb (R:Rok C B X sc) {x:Str} (h:R3.glb sc x=true):Gl X x:=R.glo x (of_decide_eq_true h)
theorem bD' {N:List Str} {i:Nat} {x:Str} (h:di' N i x=true):N[i]?=some x/\(x == ("__debug__":Str))=false/\(x == ("__classdict__":Str))=false:=by
 unfold di' at h
 simp only[ah,decide_eq_true_eq,bv]at h
 exact⟨h.1.1,h.1.2,h.2⟩
theorem ah' {e:Expr} {es:List Expr} {env:Env} (h:aq' e=true):starEach (e :: es) env=(false,eval e env) :: starEach es env:=by
 cases e<;>first|rfl|cases h
theorem dN' {N B:List Str} {sc:Scope} {env:Env} {pos:Pos}:∀{es:Ces} {xs:List Expr},mA N B sc es xs=true->(backTo pos (starEach xs env)).any (·.1)=false
 | .nil,xs,h=>by
  refine iE' h fun e0 g=>?_
  clear h
  subst e0
  revert g
  intro h
  rfl
 | .cons e r,xs,h=>by
  refine kA' h fun x xs e0 g=>?_
  clear h
  subst e0
  revert g
  intro h
  simp only[ah]at h
  rw[ah' h.1.2]
  have ih:=dN' (env:=env) (pos:=pos) (es:=r) h.2
  exact ih
theorem en' {e:Expr} {env:Env} (h:ck' e=true) (x:Value):foldedSetIterable e env x=pure x:=by
 cases e<;>first|rfl|cases h
theorem dO' {op:CmpOp} {e:Expr} (h:ck' e=true):behindInMarks op e=false:=by
 cases e<;>first|rfl|cases h
theorem kB' {e:Expr} (h:cs' e=true):hq' e:=by
 intro o i
 cases e<;>first|rfl|cases h
theorem dP' {e:Expr} {f:Str} {env:Env} {w:Sem Value} (h:fy' e=true):attributeBase e f env w=w:=by
 cases e with
 |Call g args kw pos=>
  cases args with
  |nil=>cases h
  |cons a r=>cases g<;>rfl
 |_=>rfl
theorem iF' {e:Expr} {env:Env} (h:lx' e=true) (w:Sem Value):isTrue e env w=(do let v <- w;standAt e.pos;holding [v] (truthy v)):=by
 cases e with
 |UnaryOp op a p=>cases op<;>first|rfl|cases h
 |_=>first|rfl|cases h
theorem OpR.imp {f:Value->Value->Sem Value} {r r':R2} (h:OpR X f r) (i:∀x y H Q,r' x y H Q->r x y H Q):OpR X f r':=fun pins s σ H x y v u Q I rx ry q=>h pins s σ H x y v u Q I rx ry (i _ _ _ _ q)
theorem aN'.imp {f:Value} {r r':List V->Hp->VK->Prop} (h:aN' X f r) (i:∀xs H Q,r' xs H Q->r xs H Q):aN' X f r':=fun pins s σ H xs us Q I rv q=>h pins s σ H xs us Q I rv (i _ _ _ q)
theorem ixM:IxR X (kw' X.K):=by
 intro value slice pins s σ H x y v u Q I rx ry q hp
 refine pe' value slice pins s σ H x y v u Q I rx ry ?_ hp
 unfold kw' at q
 split at q
 .obtain⟨z,c,hc,q⟩:=q
  exact .inr (.inr ⟨_,_,c,rfl,rfl,z,hc,q⟩)
 .rcases q with q|q
  .exact .inl q
  .exact .inr (.inl q)
theorem qj' {CX:CXT} {k:Nat} {f:Addr} {fd:FuncData} {ps:List Str} {sp:Sp} {dvs:List V} {ds:List Value} {E:XK} {pins:List (Addr×Obj)} {σ:L2.St} {H:Hp} {s:Shared} {Q:VK} {us:List Value} {vs:List V} (F:FnOk X.prog X.w X.K X.mg X.base CX k f fd ps sp) (hr:Room k X.A) (hb:c4' X.K fd ps ds) (hd:ax' dvs ds)
  (hx:∀e s',CX X.stack H s E e s'->X.xe e s') (I:Inv X pins σ H s) (r:ax' vs us) (h:sp (vs++dvs) H Q E):wpAny (model X.prog X.w) X.A (call (.ref f) us) (EP X pins σ Q) X.xe s:=by
 have r2:=r.append hd
 have hl:(us++ds).length=ps.length:=r2.length ▸ F.len _ _ _ _ h
 have go:=F.run X.A X.stack s H ⟨us,[]⟩ (us++ds) (vs++dvs) Q E hr I.env0 (hb s us I.kIn hl) r2 h
 refine wpAny_call (codeAny_mono go fun r s' hq=>?_)
 match r,hq with
 | .error e,hq=>exact hx e s' hq
 | .ok (.ret u),hq=>exact I.after hq
theorem kC' {CX:CXT} {k:Nat} {f:Addr} {fd:FuncData} {ps:List Str} {sp:Sp} {dvs:List V} {ds:List Value} {xk:L2.St->XK} {x:Str} {p pos:Pos} {e:Expr} {es:List Expr} {t:TA} (F:FnOk X.prog X.w X.K X.mg X.base CX k f fd ps sp) (hr:Room k X.A) (hg:Gl X x) (hm:X.mg x=some (.ref f)) (hk:W.keepIn X.K (.ref f)=true) (hb:c4' X.K fd ps ds) (hd:ax' dvs ds) (hx:nC' CX X xk)
  (ha:PA X (e :: es) t) (hdb:(x == ("__debug__":Str))=false) (he:starEach (e :: es) X.env=(false,eval e X.env) :: starEach es X.env) (hpl:(backTo pos (starEach es X.env)).any (·.1)=false):
  PE X (.Call (.Name x p) (e :: es) [] pos) (fun σ H Q=>jP' sp dvs (xk σ) t σ H Q):=by
 intro pins s σ H Q I h
 refine wpAny_Call_Name_kw (mO' I hg hm ?_ hdb)
 exact W.callWith_K (h₀:=X.base) I.ok.mod.kin hk (thn (ha pos pins s σ H _ I h) fun us s1 ⟨vs,H1,I1,r,q⟩=>⟨I1.kIn,qj' F hr hb hd (fun e s' c=>hx pins σ H1 s1 e s' I1 c) I1 r q⟩) he hpl
theorem nD' {a:Int} (h:a.natAbs<2 ^ 250*2 ^ 250*2 ^ 250):(Builtin.Int.intBits a:Int)<=750:=by
 rw[<- Nat.pow_add,<- Nat.pow_add]at h
 unfold Builtin.Int.intBits
 by_cases h0:a.natAbs=0
 .rw[if_pos (by simpa using h0)];decide
 .rw[if_neg (by simpa using h0)]
  have:=(Nat.log2_lt h0).mpr h
  omega
theorem nE' {X:Cx}:OpR X (binaryOp .LShift) (rI uc' fun i j=>.int (i*2 ^ j.toNat)):=opI fun _ _ _ _ _ _ _ hc q=>lshift_int hc.1 (by have:=nD' hc.2.2;have:=hc.2.1;omega) q
theorem qk' (op:Operator):OpR X (binaryOp op) (c8' X.K op):=by
 cases op with
 |Add=>
  refine OpR.imp ((oV'.or gl').or (pi'.or (m6'.or kg'))) fun x y H Q q=>?_
  unfold c8' at q
  dsimp only at q
  split at q
  .exact .inl (.inl ⟨_,_,rfl,rfl,q⟩)
  .exact .inl (.inr ⟨_,_,rfl,rfl,q.1,q.2⟩)
  .exact .inr q
 |Sub=>exact oW'
 |Mult=>
  refine OpR.imp (nn'.or (gw'.or pj')) fun x y H Q q=>?_
  unfold c8' at q
  dsimp only at q
  split at q
  .refine .inl ⟨_,_,rfl,rfl,?_,q.2⟩
   rcases q.1 with h|h|h
   .exact r1'.ok (.inl h)
   .exact r1'.ok (.inr h)
   .exact h
  .exact .inr (.inl ⟨_,_,rfl,rfl,q.1,q.2.1,q.2.2.1,q.2.2.2⟩)
  .exact .inr (.inr q)
 |Mod=>exact oX'
 |FloorDiv=>
  refine OpR.imp (mZ'.or j6') fun x y H Q q=>?_
  obtain⟨i,j,h1,h2,⟨h3,h4⟩,q⟩:=q
  rcases h4 with h4|h4
  .exact .inl ⟨i,j,h1,h2,⟨h3,h4⟩,q⟩
  .exact .inr ⟨i,j,h1,h2,⟨h3,h4⟩,q⟩
 |Pow=>exact oY'
 |LShift=>exact nE'
 |RShift=>exact oZ'
 |MatMult=>exact fun _ _ _ _ _ _ _ _ _ _ _ _ h=>h.elim
 |Div=>exact fun _ _ _ _ _ _ _ _ _ _ _ _ h=>h.elim
 |BitOr=>exact fun _ _ _ _ _ _ _ _ _ _ _ _ h=>h.elim
 |BitXor=>exact fun _ _ _ _ _ _ _ _ _ _ _ _ h=>h.elim
 |BitAnd=>exact nq'
theorem lE' (hu':X.A.units+64<cLine) (op:CmpOp):OpR X (compareOp op) (bP' X.K op):=by
 cases op with
 |Eq=>
  refine OpR.imp (sw'.or ((px' (by omega)).or (pL' hu'))) fun x y H Q q=>?_
  unfold bP' at q
  dsimp only at q
  split at q
  .exact .inr q
  .exact .inl q
 |NotEq=>
  refine OpR.imp (sx'.or ((py' (by omega)).or (pM' hu'))) fun x y H Q q=>?_
  unfold bP' at q
  dsimp only at q
  split at q
  .exact .inr q
  .exact .inl q
 |Lt=>exact sy'
 |LtE=>exact sz'
 |Gt=>
  refine OpR.imp (sA'.or pH') fun x y H Q q=>?_
  unfold bP' at q
  dsimp only at q
  split at q
  .exact .inr q
  .exact .inl q
 |GtE=>exact sB'
 |Is=>
  refine OpR.imp (o2'.or pA') fun x y H Q q=>?_
  unfold bP' at q
  dsimp only at q
  split at q
  .exact .inr q
  .exact .inl q
 |IsNot=>
  refine OpR.imp (m0'.or hT') fun x y H Q q=>?_
  unfold bP' at q
  dsimp only at q
  split at q
  .exact .inr q
  .exact .inl q
 |In=>
  refine OpR.imp (pG'.or ht') fun x y H Q q=>?_
  unfold bP' at q
  dsimp only at q
  split at q
  .exact .inl q
  .exact .inr q
 |NotIn=>
  refine OpR.imp (h4'.or d6') fun x y H Q q=>?_
  unfold bP' at q
  dsimp only at q
  split at q
  .exact .inl q
  .exact .inr q
theorem tq' (hu':X.A.units+64<cLine) (k:Zf):OpR X (compareOp (ud' k)) (rZf k):=by
 cases k with
 |eqB=>exact p4' hu'
 |ninB=>exact nB' hu'
 |ltS=>exact g4'
 |inP=>exact qa' hu'
 |ninS=>exact nA' hu'
theorem tr':SlR X (rSl X.K):=by
 intro pins s σ H x v vl vu lo hi sl Q I rx hs pl pu q
 refine(m8'.or (pa'.or (ki'.or pv'))) pins s σ H x v vl vu lo hi sl Q I rx hs pl pu ?_
 unfold rSl at q
 split at q
 .exact .inr (.inr (.inr ⟨_,rfl,q.1,q.2⟩))
 .rcases q with q|q|q
  .exact .inl q
  .exact .inr (.inl q)
  .exact .inr (.inr (.inl q))
inductive BltIs:Bf->Prop where
 |fn (f:Bf) (id:String) (hv:bootBuiltins (cO' f)=some (.builtin id)) (h:∀X:Cx,(X.calm=true\/f=.isinstance)->aN' X (.builtin id) (dK' X.K f)):BltIs f
 |ty (f:Bf) (T:String) (hv:bootBuiltins (cO' f)=some (.type T)) (h:∀X:Cx,(X.calm=true\/f=.isinstance)->aN' X (.type T) (dK' X.K f)):BltIs f
theorem ql' (f:Bf):BltIs f:=by
 cases f with
 |len=>exact .fn _ "len" (by decide +kernel) fun X _=>jO'
 |abs=>exact .fn _ "abs" (by decide +kernel) fun X _=>jN'
 |int=>
  refine .ty _ "int" (by decide +kernel) fun X _=>aN'.imp h6' fun xs H Q q=>?_
  unfold dK' at q
  dsimp only at q
  split at q
  .exact .inl (.inl (.inl ⟨_,rfl,q⟩))
  .exact .inl (.inl (.inr ⟨_,rfl,q⟩))
  .obtain⟨n,h1,h2,q⟩:=q
   exact .inl (.inr ⟨_,n,rfl,h1,h2,q⟩)
  .obtain⟨rfl,n,h1,q⟩:=q
   exact .inr ⟨_,n,rfl,h1,q⟩
  .exact q.elim
 |lenD=>exact .fn _ "len" (by decide +kernel) fun X _=>gC'
 |isinstance=>exact .fn _ "isinstance" (by decide +kernel) fun X _=>fun _ _ _ _ _ _ _ _ _ h=>False.elim h
 |min=>
  refine .fn _ "min" (by decide +kernel) fun X c0=>have c:X.calm=true:=c0.resolve_right (fun z=>by cases z);aN'.imp ((g7' c).or (hL' c)) fun xs H Q q=>?_
  unfold dK' at q
  dsimp only at q
  split at q
  .exact .inl ⟨_,_,rfl,q⟩
  .exact .inr q
 |list=>exact .ty _ "list" (by decide +kernel) fun X c0=>have c:X.calm=true:=c0.resolve_right (fun z=>by cases z);d7'.or (j5' c)
 |range=>exact .ty _ "range" (by decide +kernel) fun X _=>j4'
 |tuple=>exact .ty _ "tuple" (by decide +kernel) fun X _=>dz'
structure MetIs (m:Mf) (id:String):Prop where
 pa:PlainAttrs (ei' m)
 slot:Slot (ei' m) (in' m) id
 ty:typeOf (.builtin id)=pure (.type "method_descriptor")
 h:∀X:Cx,MtR X id (kv' X.K m)
theorem qm' (m:Mf):∃id,MetIs m id:=by
 cases m with
 |append=>exact⟨_,F.plainAttrs_list,F.slot_list_append,F.type_list_append,fun _=>hw'⟩
 |join=>exact⟨_,F.plainAttrs_str,F.slot_str_join,F.type_str_join,fun _=>nm'⟩
 |insert=>exact⟨_,F.plainAttrs_list,F.slot_list_insert,F.type_list_insert,fun _=>hQ'⟩
end
theorem iG' {N:List Str} {sc scope:Scope} {own:List Nat} (h:oB' N sc scope own=true):scope.kind=.function/\(∀x∈scope.names,x.2=.local->scope.names.lookup x.1=some .local)/\(∀n,(n,NameKind.cell)∈scope.names->scope.names.lookup n=some .cell)/\
  (∀n,(n,NameKind.free)∈scope.names->sc.names.lookup n=some .cell\/sc.names.lookup n=some .free)/\∀(i:Nat) (x:Str),N[i]?=some x->(scope.names.lookup x=some .local\/scope.names.lookup x=some .cell)->i∈own:=by
 unfold oB' at h
 simp only[ah,decide_eq_true_eq,List.all_eq_true,Bool.or_eq_true]at h
 obtain⟨⟨hk,hn⟩,ho⟩:=h
 refine⟨hk,fun x hx e=>?_,fun n hn'=>?_,fun n hn'=>?_,fun i x e hx=>?_⟩
 .exact(hn x hx).1.1.resolve_left fun q=>q e
 .exact(hn _ hn').1.2.resolve_left fun q=>q rfl
 .rcases(hn _ hn').2 with(q|q)|q
  .exact absurd rfl q
  .exact .inl q
  .exact .inr q
 .have:=ho i (aT.mpr (av.mp e).1)
  rw[e]at this
  simp only[Bool.or_eq_true,ah,decide_eq_true_eq]at this
  rcases this with⟨q1,q2⟩|q
  .rcases hx with z|z
   .exact absurd z q1
   .exact absurd z q2
  .exact q
theorem Rok.compSc {C:Rc} {B:List Str} {X:Cx} {sc scope:Scope} {own:List Nat} (R:Rok C B X sc) (h:oB' C.N sc scope own=true):CompSc X scope:=by
 obtain⟨h1,h2,h3,h4,h5⟩:=iG' h
 refine⟨h1,h2,h3,fun n hn=>?_⟩
 rcases h4 n hn with q|q
 .exact .inl (R.cel n q).1
 .exact R.fre n q
theorem b2' {B:List Str}:tld ("~" :: B)=true:=decide_eq_true (aA)
theorem Rok.comp {C:Rc} {B:List Str} {X:Cx} {sc scope:Scope} {own:List Nat} (R:Rok C B X sc) (hh:hat B=false) (h:oB' C.N sc scope own=true) (s0:Shared) (H0:Hp) (ex:List Addr):Rok C ("~" :: B) (X.comp scope s0 H0 ex) scope:=by
 refine⟨R.hN,R.nd,R.hK,PassesOwn.never,fun _=>R.calm hh,R.hu,R.gd,fun x e=>lookup_relabel_local e,fun x e=>⟨?_,?_⟩,fun x e=>?_,fun x e=>?_,fun x sp e _ ht=>?_,fun x hx=>?_,R.mrk,R.cls,(fun z=>by rw[b2']at z;cases z),(fun z=>by rw[b2']at z;cases z),(fun z=>by rw[b2']at z;cases z)⟩
 .obtain⟨k',e1,e2⟩:=aP' (env:=X.env) e
  rcases e2 with rfl|⟨q,_⟩
  .exact e1
  .cases q
 .exact W.cellsFrom_some _ _ _ (.inl e)
 .obtain⟨k',e1,e2⟩:=aP' (env:=X.env) e
  rcases e2 with rfl|⟨_,rfl⟩
  .exact .inr e1
  .exact .inl e1
 .obtain⟨k',e1,e2⟩:=aP' (env:=X.env) e
  rcases e2 with rfl|⟨q,_⟩
  .exact e1
  .cases q
 .have hb:oD' x∉B:=fun z=>ht b2' (ao _ z)
  obtain⟨f,fd,ps,k,CX,h1,h2,h3,h4,h5,h6,_⟩:=R.fn x sp e hh fun _=>hb
  rcases h6 with rfl|⟨_,z⟩
  .exact⟨f,fd,ps,k,CX0,h1,h2,h3,h4,h5,.inl rfl,lD'⟩
  .exact absurd z hb
 .rcases aq.mp hx with rfl|hx
  .exact R.mrk.1
  .exact R.blt x hx
mutual
theorem fD' (C:Rc) (own:List Nat):∀(t:Ct),oC' own t=true->∀(x:V) (σ:L2.St) (H:Hp) (Q Q':L2.St->Hp->Prop),tG C t x σ H Q->(∀σ2 H2,Q σ2 H2->Ext own σ σ2->Q' σ2 H2)->tG C t x σ H Q'
 | .name i,h,x,σ,H,Q,Q',q,m=>by
  obtain⟨q1,q2⟩:=hC' (of_decide_eq_true (show decide (i∈own)=true from h)) x σ H Q q
  exact m _ _ q1 q2
 | .tup ts,h,x,σ,H,Q,Q',q,m=>by
  replace h:io' own ts=true:=h
  obtain⟨a,xs,e,hs,hl,q⟩:=q
  exact⟨a,xs,e,hs,hl,eo' C own ts h xs σ H Q Q' q m⟩
 | .sub _ _,h,_,_,_,_,_,_,_=>an' h
theorem eo' (C:Rc) (own:List Nat):∀(ts:Cts),io' own ts=true->∀(xs:List V) (σ:L2.St) (H:Hp) (Q Q':L2.St->Hp->Prop),tGs C ts xs σ H Q->(∀σ2 H2,Q σ2 H2->Ext own σ σ2->Q' σ2 H2)->tGs C ts xs σ H Q'
 | .nil,h,xs,σ,H,Q,Q',q,m=>by
  replace q:xs=[]/\Q σ H:=q
  exact And.intro q.1 (m _ _ q.2 Ext.refl)
 | .cons t r,h,xs,σ,H,Q,Q',q,m=>by
  replace h:=eZ' (show(oC' own t&&io' own r)=true from h)
  replace q:∃v vr,xs=v :: vr/\tG C t v σ H fun σ' H'=>tGs C r vr σ' H' Q:=q
  obtain⟨v,vr,e,q⟩:=q
  show ∃v vr,xs=v :: vr/\tG C t v σ H fun σ' H'=>tGs C r vr σ' H' Q'
  exact⟨v,vr,e,fD' C own t h.1 v σ H _ _ q fun σ2 H2 q2 x2=>eo' C own r h.2 vr σ2 H2 _ _ q2 fun σ3 H3 q3 x3=>m _ _ q3 (x2.trans x3)⟩
end
theorem nF' {C:Rc} {own:List Nat} {t:Ct} (h:oC' own t=true):pm' own (tG C t):=fun x σ H Q q=>fD' C own t h x σ H Q _ q fun _ _ q x=>⟨q,x⟩
theorem bU':∀{ts:Cts} {es:List Expr} {N B:List Str} {sc:Scope} {env:Env},mTs N B sc ts es=true->(assignEach es env).length=kx' ts/\(assignEach es env).findIdx? (·.1)=none
 | .nil,es,N,B,sc,env,h=>by
  refine iE' h fun e0 g=>?_
  clear h
  subst e0
  revert g
  intro h
  exact⟨rfl,rfl⟩
 | .cons t r,es,N,B,sc,env,h=>by
  refine kA' h fun x xs e0 g=>?_
  clear h
  subst e0
  revert g
  intro h
  simp only[ah]at h
  obtain⟨h1,h2⟩:=bU' (env:=env) h.2
  have e:assignEach (x :: xs) env=(false,assign x env) :: assignEach xs env:=by
   have hs:=h.1.2
   cases x<;>first|rfl|cases hs
  rw[e]
  refine⟨by rw[aY,h1];rfl,?_⟩
  rw[List.findIdx?_cons,h2]
  rfl
theorem e7' {x:Expr} {xs:List Expr} {env:Env} (hs:aq' x=true):(assignEach (x :: xs) env).map (·.2)=assign x env :: (assignEach xs env).map (·.2):=by
 cases x<;>first|rfl|cases hs
theorem nG' {o i:Expr} {pos:Pos} {env:Env} (h:cs' i=true) (v:Value):assign (.Subscript o i pos) env v=(do
   let ov <- holding [v] (eval o env)
   let iv <- holding [v,ov] (eval i env)
   standAt pos
   holding [v,ov,iv] (setItem ov iv v)
   release [v,ov,iv] []):=by
 cases i<;>first|rfl|cases h
def qn' (C:Rc) (X:Cx) (e:Expr):Ce->Prop
 | .comp elt own t it q r=>∃tg iter ifs nx scope pos,CompIn X e scope tg iter ifs nx (tG C t) (tQo C q) (tR C r (eT' (tE C elt))) own/\PI X tg iter (tI C it)/\
   eval e X.env=comprehension e scope X.env pos (newList []) false (eval iter X.env)/\(∀u,evalThenUse e X.env u=(do let _ <- comprehension e scope X.env pos (newList []) false (eval iter X.env) (some u)))/\
   ∀y py line,∃b,swapsWith e (some (.Name y py)) line X.env=pure b
 |_=>True
theorem uW' {N B:List Str} {sc:Scope} {elt:Ce} {own:List Nat} {t:Ct} {it:Ci} {q:Cqo} {e:Expr} (h:mE N B sc (.comp elt own t it q .nil) e=true):∃ee tg iter ifs scope pos,e=.ListComp ee [⟨tg,iter,ifs,0⟩] scope pos/\
  hat B=false/\oB' N sc scope own=true/\mE N ("~" :: B) scope elt ee=true/\oC' own t=true/\mI N B sc it iter=true/\r8' it tg=true/\ck' iter=true/\mT N ("~" :: B) scope t tg=true/\mQo N ("~" :: B) scope q ifs=true:=by
 refine ta' h fun ee tg iter ifs a scope w1 e0 g=>?_
 clear h
 subst e0
 revert g
 intro h
 simp only[ah,decide_eq_true_eq,bv]at h
 obtain⟨⟨⟨⟨⟨⟨⟨⟨⟨hh,hsc⟩,helt⟩,hown⟩,rfl⟩,h1⟩,h2⟩,h3⟩,h4⟩,h5⟩:=h
 exact⟨_,_,_,_,_,_,rfl,hh,hsc,helt,hown,h1,h2,h3,h4,h5⟩
theorem uX' {N B:List Str} {sc:Scope} {elt:Ce} {own:List Nat} {t:Ct} {it:Ci} {q:Cqo} {ws:List Nat} {t2:Ct} {it2:Ci} {q2:Cqo} {r4:Cc} {e:Expr} (h:mE N B sc (.comp elt own t it q (.cons ws t2 it2 q2 r4)) e=true):False:=by
 exact an' h
set_option maxHeartbeats 4000000
mutual
theorem sE0 {C:Rc}:∀(c:Ce) {B:List Str} {X:Cx} {sc:Scope} {e:Expr},Rok C B X sc->mE C.N B sc c e=true->PE X e (tE C c)/\qn' C X e c
 | .var i,B,X,sc,e,R,h=>by
  refine⟨?_,trivial⟩
  refine ue' h fun x w1 e0 g=>?_
  clear h
  subst e0
  revert g
  intro h
  simp only[ah]at h
  obtain⟨h1,h2,h3⟩:=bD' h.1
  rw[show tE C (.var i)=(rX' i) from rfl]
  exact ld' (by rw[R.hN];exact h1) (R.vis h.2) h2 h3
 | .int n,B,X,sc,e,R,h=>by
  refine⟨?_,trivial⟩
  refine uQ' h fun m w1 w2 e0 g=>?_
  clear h
  subst e0
  revert g
  intro h
  cases of_decide_eq_true h
  rw[show tE C (.int n)=(tC (.int n)) from rfl]
  exact oJ'
 | .bl n,B,X,sc,e,R,h=>by
  refine⟨?_,trivial⟩
  refine uR' h fun c w1 w2 e0 g=>?_
  clear h
  subst e0
  revert g
  intro h
  cases of_decide_eq_true h
  rw[show tE C (.bl n)=(tC (.bl n)) from rfl]
  exact se'
 | .non,B,X,sc,e,R,h=>by
  refine⟨?_,trivial⟩
  refine uS' h fun w1 w2 e0 g=>?_
  clear h
  subst e0
  revert g
  intro h
  rw[show tE C .non=(tC .non) from rfl]
  exact oK'
 | .str n,B,X,sc,e,R,h=>by
  refine⟨?_,trivial⟩
  refine uT' h fun y w1 w2 e0 g=>?_
  clear h
  subst e0
  revert g
  intro h
  cases of_decide_eq_true h
  rw[show tE C (.str n)=(tC (.str n)) from rfl]
  exact oL'
 | .bin op a b,B,X,sc,e,R,h=>by
  refine⟨?_,trivial⟩
  refine uU' h fun ea op' eb w1 e0 g=>?_
  clear h
  subst e0
  revert g
  intro h
  simp only[ah,decide_eq_true_eq]at h
  obtain⟨⟨rfl,h1⟩,h2⟩:=h
  rw[show tE C (.bin op a b)=(tOp (c8' C.K op) (tE C a) (tE C b)) from rfl]
  rw[<- R.hK]
  exact sr' (qk' _) ((sE0 a R h1).1) ((sE0 b R h2).1)
 | .neg a,B,X,sc,e,R,h=>by
  refine⟨?_,trivial⟩
  refine uV' h fun ea w1 e0 g=>?_
  clear h
  subst e0
  revert g
  intro h
  rw[show tE C (.neg a)=(tUn (rU fun i=>.int (-i)) (tE C a)) from rfl]
  exact ss' o1' ((sE0 a R h).1)
 | .and a b,B,X,sc,e,R,h=>by
  refine⟨?_,trivial⟩
  replace h:=ip' h
  rcases h with⟨x,y,pos,rfl,h⟩|⟨x,y,z,r,pos,rfl,h⟩
  .simp only[ah]at h
   rw[show tE C (.and a b)=(jF' (tE C a) (tE C b)) from rfl]
   exact lg' ((sE0 a R h.1).1) (lf' ((sE0 b R h.2).1))
  .simp only[ah]at h
   rw[show tE C (.and a b)=(jF' (tE C a) (tE C b)) from rfl]
   exact lg' ((sE0 a R h.1).1) ((sE0 b R h.2).1)
 | .or a b,B,X,sc,e,R,h=>by
  refine⟨?_,trivial⟩
  replace h:=ly' h
  rcases h with⟨x,y,pos,rfl,h⟩|⟨x,y,z,r,pos,rfl,h⟩
  .simp only[ah]at h
   rw[show tE C (.or a b)=(rY' (tE C a) (tE C b)) from rfl]
   exact oP' ((sE0 a R h.1).1) (lf' ((sE0 b R h.2).1))
  .simp only[ah]at h
   rw[show tE C (.or a b)=(rY' (tE C a) (tE C b)) from rfl]
   exact oP' ((sE0 a R h.1).1) ((sE0 b R h.2).1)
 | .cmp op a b,B,X,sc,e,R,h=>by
  refine⟨?_,trivial⟩
  refine s0' h fun ea op' eb w1 e0 g=>?_
  clear h
  subst e0
  revert g
  intro h
  simp only[ah,decide_eq_true_eq]at h
  obtain⟨⟨⟨rfl,h1⟩,h2⟩,h3⟩:=h
  rw[show tE C (.cmp op a b)=(tOp (bP' C.K op) (tE C a) (tE C b)) from rfl]
  rw[<- R.hK]
  exact m1' (lE' R.hu _) ((sE0 a R h1).1) ((sE0 b R h2).1) (dO' h3)
 | .ife q a b,B,X,sc,e,R,h=>by
  refine⟨?_,trivial⟩
  refine s1' h fun eq ea eb w1 e0 g=>?_
  clear h
  subst e0
  revert g
  intro h
  simp only[ah]at h
  rw[show tE C (.ife q a b)=(tIf (tQ C q) (tE C a) (tE C b)) from rfl]
  exact jG' (sQ q R h.1.1).1 ((sE0 a R h.1.2).1) ((sE0 b R h.2).1)
 | .tup es,B,X,sc,e,R,h=>by
  refine⟨?_,trivial⟩
  refine qf' h fun xs w1 w2 e0 g=>?_
  clear h
  subst e0
  revert g
  intro h
  rw[show tE C (.tup es)=(sC' (tA C es)) from rfl]
  exact o6' (sA es R h)
 | .lst es,B,X,sc,e,R,h=>by
  refine⟨?_,trivial⟩
  refine s2' h fun xs w1 e0 g=>?_
  clear h
  subst e0
  revert g
  intro h
  rw[show tE C (.lst es)=(sD' (tA C es)) from rfl]
  exact o7' (sA es R h)
 | .idx a b,B,X,sc,e,R,h=>by
  refine⟨?_,trivial⟩
  refine qg' h fun ea eb w1 e0 g=>?_
  clear h
  subst e0
  revert g
  intro h
  simp only[ah]at h
  rw[show tE C (.idx a b)=(tOp (kw' C.K) (tE C a) (tE C b)) from rfl]
  rw[<- R.hK]
  exact sF' ixM ((sE0 a R h.1.1).1) ((sE0 b R h.1.2).1) (kB' h.2)
 | .cut a lo hi,B,X,sc,e,R,h=>by
  refine⟨?_,trivial⟩
  refine s3' h fun ea l h_ w1 w2 e0 g=>?_
  clear h
  subst e0
  revert g
  intro h
  simp only[ah]at h
  rw[show tE C (.cut a lo hi)=(tSl (rSl C.K) (tE C a) (tO C lo) (tO C hi)) from rfl]
  rw[<- R.hK]
  exact jS' tr' ((sE0 a R h.1.1).1) (sO lo R h.1.2) (sO hi R h.2)
 | .call f es,B,X,sc,e,R,h=>by
  refine⟨?_,trivial⟩
  refine qh' h fun x w1 e r pos e0 g=>?_
  clear h
  subst e0
  revert g
  intro h
  simp only[ah,decide_eq_true_eq,bv]at h
  obtain⟨⟨⟨⟨⟨rfl,h1⟩,h2⟩,h3⟩,hh⟩,h6⟩:=h
  rw[show tE C (.call x es)=(fun σ H Q=>match C.fs x with|some sp=>jP' sp [] (C.xk σ) (tA C es) σ H Q|none=>False) from rfl]
  have ht:tld B=true->oD' x∉B:=fun t m=>by rw[t,decide_eq_true m]at h6;cases h6
  cases hf:C.fs x with
  |none=>exact fun _ _ _ _ _ _ q=>q.elim
  |some sp=>
   obtain⟨f,fd,ps,k,CX,F,hr,hm,hk,hb,_,hx⟩:=R.fn x sp hf hh ht
   have hs:aq' e=true:=by
    cases es with
    |nil=>exact an' h2
    |cons c r=>exact(eZ' (eZ' h2).1).2
   have hp:(backTo pos (starEach r X.env)).any (·.1)=false:=by
    have q:=dN' (env:=X.env) (pos:=pos) h2
    rw[ah' hs]at q
    exact q
   exact kC' F hr (R.glb h1) hm hk hb .nil hx (sA es R h2) h3 (ah' hs) hp
 | .blt f es,B,X,sc,e,R,h=>by
  refine⟨?_,trivial⟩
  refine qh' h fun x w1 e r pos e0 g=>?_
  clear h
  subst e0
  revert g
  intro h
  simp only[ah,decide_eq_true_eq,Bool.or_eq_true,bv]at h
  obtain⟨⟨⟨⟨rfl,h1⟩,h2⟩,h4⟩,h5⟩:=h
  have hcc:X.calm=true\/f=.isinstance:=h5.imp R.calm id
  rw[show tE C (.blt f es)=(tCB (dK' C.K f) (tA C es)) from rfl]
  have hs:aq' e=true:=by
   cases es with
   |nil=>exact an' h2
   |cons c r=>exact(eZ' (eZ' h2).1).2
  have hp:(backTo pos (starEach r X.env)).any (·.1)=false:=by
   have q:=dN' (env:=X.env) (pos:=pos) h2
   rw[ah' hs]at q
   exact q
  rw[<- R.hK]
  have hn:cO' f≠"__name__"/\(cO' f == ("__debug__":Str))=false:=by cases f<;>decide +kernel
  cases ql' f with
  |fn id hv hc=>exact jQ' (hc X hcc) (R.glb h1) (R.blt _ h4) hv (sA es R h2) hn.1 hn.2 (ah' hs) hp
  |ty T hv hc=>exact ha' (hc X hcc) (R.glb h1) (R.blt _ h4) hv (sA es R h2) hn.1 hn.2 (ah' hs) hp
 | .dnt,B,X,sc,e,R,h=>by
  refine⟨?_,trivial⟩
  refine s5' h fun w1 e0 g=>?_
  clear h
  subst e0
  revert g
  intro h
  rw[show tE C .dnt=(hV') from rfl];exact kd'
 | .met m o es,B,X,sc,e,R,h=>by
  refine⟨?_,trivial⟩
  refine s4' h fun eo nm apos args pos e0 g=>?_
  clear h
  subst e0
  revert g
  intro h
  simp only[ah,decide_eq_true_eq]at h
  obtain⟨⟨⟨⟨⟨rfl,h1⟩,h2⟩,h3⟩,h4⟩,h5⟩:=h
  rw[show tE C (.met m o es)=(tBM C.K (ei' m) (kv' C.K m) (tE C o) (tA C es)) from rfl]
  rw[<- R.hK]
  obtain⟨id,M⟩:=qm' m
  cases args with
  |nil=>
   cases es with
   |cons c r=>exact an' h4
   |nil=>
    exact ph' M.pa M.slot M.ty (M.h X) ((sE0 o R h1).1) (dP' h2) h3
  |cons a r=>
   have hs:aq' a=true:=by
    cases es with
    |nil=>exact an' h4
    |cons c r=>exact(eZ' (eZ' h4).1).2
   have hq:=dN' (env:=X.env) (pos:=pos) h4
   have hp:(backTo pos (starEach r X.env)).any (·.1)=false:=by
    rw[ah' hs]at hq
    exact hq
   refine sG' M.pa M.slot M.ty (M.h X) ((sE0 o R h1).1) (sA es R h4) (dP' h2) ?_ h3 (ah' hs) hp
   have e1:(backTo pos (starEach (a :: r) X.env)).all (fun x=>!x.1)=true:=by
    rw[List.all_eq_true]
    intro x hx
    rw[List.any_eq_false]at hq
    simpa using hq x hx
   rw[e1]
   show(true&&true&&decide ((a :: r).length+0+0<30))=true
   simp only[Bool.true_and,decide_eq_true_eq]
   omega
 | .lzp a b,B,X,sc,e,R,h=>by
  refine⟨?_,trivial⟩
  refine s9' h fun n1 w1 n2 w2 y y' w3 w4 e0 g=>?_
  clear h
  subst e0
  revert g
  intro h
  simp only[ah,decide_eq_true_eq,bv]at h
  obtain⟨⟨⟨⟨⟨⟨⟨⟨⟨⟨rfl,rfl⟩,h1⟩,h2⟩,h3⟩,h4⟩,h5⟩,h6⟩,h7⟩,h8⟩,h9⟩:=h
  rw[show tE C (.lzp a b)=(sJ' C.K (be' (tE C a) (be' (tE C b) fg'))) from rfl]
  rw[<- R.hK]
  have e2:starEach [_] X.env=[(false,eval _ X.env)]:=ah' (es:=[]) h8
  exact pp' (R.calm h9) (R.glb h1) (R.blt _ h2) (R.glb h3) (R.blt _ h4) (bj' (sE0 a R h5).1 (bj' (sE0 b R h7).1 de' (ah' h8)) (ah' h6)) (by rw[ah' h6,e2]) e2
 | .dsd a b c,B,X,sc,e,R,h=>by
  refine⟨?_,trivial⟩
  refine s7' h fun eo nm apos y z pos e0 g=>?_
  clear h
  subst e0
  revert g
  intro h
  simp only[ah,decide_eq_true_eq]at h
  obtain⟨⟨⟨⟨⟨⟨⟨rfl,h1⟩,h2⟩,h3⟩,h4⟩,h5⟩,h6⟩,h7⟩:=h
  rw[show tE C (.dsd a b c)=(sX' (tE C a) (tE C b) (tE C c)) from rfl]
  have e2:starEach [y,z] X.env=[(false,eval y X.env),(false,eval z X.env)]:=by rw[ah' h5,ah' h7];rfl
  refine p3' R.hu1 (sE0 a R h1).1 (sE0 b R h4).1 (sE0 c R h6).1 ⟨dP' h2,?_,h3,?_⟩
  .rw[e2];rfl
  .rw[e2];rfl
 | .sad a b,B,X,sc,e,R,h=>by
  refine⟨?_,trivial⟩
  refine s6' h fun eo nm apos y pos e0 g=>?_
  clear h
  subst e0
  revert g
  intro h
  simp only[ah,decide_eq_true_eq]at h
  obtain⟨⟨⟨⟨⟨rfl,h1⟩,h2⟩,h3⟩,h4⟩,h5⟩:=h
  rw[show tE C (.sad a b)=(sV' (tE C a) (tE C b)) from rfl]
  have e2:=ah' (env:=X.env) (es:=[]) h5
  refine p1' R.hu1 (sE0 a R h1).1 (sE0 b R h4).1 ⟨dP' h2,?_,h3,?_⟩
  .rw[e2];rfl
  .rw[e2];rfl
 | .sd1 a,B,X,sc,e,R,h=>by
  refine⟨?_,trivial⟩
  refine s8' h fun y kk w1 e0 g=>?_
  clear h
  subst e0
  revert g
  intro h
  simp only[ah,decide_eq_true_eq,bv]at h
  obtain⟨⟨⟨h0,h1⟩,h2⟩,h3⟩:=h
  rw[show tE C (.sd1 a)=(sW' (tE C a)) from rfl]
  exact p2' R.hu1 (R.fx h3).cd h0 (sE0 a R h1).1 (ah' (es:=[]) h2)
 | .comp elt own t it q .nil,B,X,sc,e,R,h=>by
  have D:qn' C X e (.comp elt own t it q .nil):=by
   obtain⟨ee,tg,iter,ifs,scope,pos,rfl,hh,hsc,helt,hown,h1,h2,h3,h4,h5⟩:=uW' h
   refine⟨tg,iter,ifs,fun D env=>do let _ <- call (.builtin "list.append") [.ref D,<- eval ee env],scope,_,⟨R.compSc hsc,?_,⟨[],rfl⟩,en' h3,R.calm hh,fun _ _ _=>⟨rfl,rfl⟩,fun _ _ _ _=>⟨rfl,rfl⟩,fun _ _ _ _ _=>rfl,fun _ _ _ _ _=>rfl,nF' hown,?_⟩,sI it R h1 h2,rfl,fun _=>rfl,fun _ _ _=>⟨_,rfl⟩⟩
   .rw[R.hN];exact(iG' hsc).2.2.2.2
   .intro s0 H0 ex D
    have R':=R.comp hh hsc s0 H0 ex
    refine⟨sG t R' h4,sQo q R' h5,[],by simp,?_⟩
    exact jW' rfl (sE0 elt R' helt).1
  refine⟨?_,D⟩
  obtain⟨tg,iter,ifs,nx,scope,pos,D,hi,he,_⟩:=D
  rw[show tE C (.comp elt own t it q .nil)=(hE' own (tI C it) (tG C t) (tQo C q) (tR C .nil (eT' (tE C elt)))) from rfl]
  exact nf' D hi he
 | .comp elt own t it q (.cons _ _ _ _ _),B,X,sc,e,R,h=>(uX' h).elim
termination_by structural c=>c
theorem sA {C:Rc}:∀(es:Ces) {B:List Str} {X:Cx} {sc:Scope} {xs:List Expr},Rok C B X sc->mA C.N B sc es xs=true->PA X xs (tA C es)
 | .nil,B,X,sc,xs,R,h=>by
  refine iE' h fun e0 g=>?_
  clear h
  subst e0
  revert g
  intro h
  rw[show tA C .nil=(fg') from rfl]
  exact de'
 | .cons e r,B,X,sc,xs,R,h=>by
  refine kA' h fun x xs e0 g=>?_
  clear h
  subst e0
  revert g
  intro h
  simp only[ah]at h
  rw[show tA C (.cons e r)=(be' (tE C e) (tA C r)) from rfl]
  exact bj' ((sE0 e R h.1.1).1) (sA r R h.2) (ah' h.1.2)
termination_by structural c=>c
theorem sQ {C:Rc}:∀(q:Cq) {B:List Str} {X:Cx} {sc:Scope} {e:Expr},Rok C B X sc->mQ C.N B sc q e=true->PT X e (tQ C q)/\((∃op vs pos,e=.BoolOp op vs pos)->PW X e (tQ C q))
 | .val c,B,X,sc,e,R,h=>by
  replace h:=eZ' h
  refine⟨?_,fun⟨op,vs,pos,z⟩=>?_⟩
  .rw[show tQ C (.val c)=(fun σ H Q=>tE C c σ H fun x H'=>∃k,o3' C.K x H' k/\Q k H') from rfl]
   rw[<- R.hK]
   exact jM' (sE0 c R h.1).1 (iF' h.2)
  .subst z;exact an' h.2
 | .cmw k a b,B,X,sc,e,R,h=>by
  refine s0' h fun ea op' eb w1 e0 g=>?_
  clear h
  subst e0
  revert g
  intro h
  simp only[ah,decide_eq_true_eq]at h
  obtain⟨⟨⟨rfl,h1⟩,h2⟩,h3⟩:=h
  rw[show tQ C (.cmw k a b)=(g5' (tOp (rZf k) (tE C a) (tE C b))) from rfl]
  exact⟨g6' (tq' R.hu _) (sE0 a R h1).1 (sE0 b R h2).1 (dO' h3),fun⟨op,vs,pos,z⟩=>by cases z⟩
 | .and a b,B,X,sc,e,R,h=>by
  replace h:=ip' h
  rcases h with⟨x,y,pos,rfl,h⟩|⟨x,y,z,r,pos,rfl,h⟩
  .simp only[ah]at h
   rw[show tQ C (.and a b)=(oM' (tQ C a) (tQ C b)) from rfl]
   have w:PW X (.BoolOp .And [x,y] pos) (oM' (tQ C a) (tQ C b)):=le' (sQ a R h.1).1 (mP' (sQ b R h.2).1)
   exact⟨w.pt,fun _=>w⟩
  .simp only[ah]at h
   rw[show tQ C (.and a b)=(oM' (tQ C a) (tQ C b)) from rfl]
   have w:=le' (sQ a R h.1).1 ((sQ b R h.2).2 ⟨_,_,_,rfl⟩)
   exact⟨w.pt,fun _=>w⟩
 | .or a b,B,X,sc,e,R,h=>by
  replace h:=ly' h
  rcases h with⟨x,y,pos,rfl,h⟩|⟨x,y,z,r,pos,rfl,h⟩
  .simp only[ah]at h
   rw[show tQ C (.or a b)=(tOr (tQ C a) (tQ C b)) from rfl]
   have w:PW X (.BoolOp .Or [x,y] pos) (tOr (tQ C a) (tQ C b)):=oO' (sQ a R h.1).1 (oN' (sQ b R h.2).1)
   exact⟨w.pt,fun _=>w⟩
  .simp only[ah]at h
   rw[show tQ C (.or a b)=(tOr (tQ C a) (tQ C b)) from rfl]
   have w:=oO' (sQ a R h.1).1 ((sQ b R h.2).2 ⟨_,_,_,rfl⟩)
   exact⟨w.pt,fun _=>w⟩
 | .cmp op a b,B,X,sc,e,R,h=>by
  refine s0' h fun ea op' eb w1 e0 g=>?_
  clear h
  subst e0
  revert g
  intro h
  simp only[ah,decide_eq_true_eq]at h
  obtain⟨⟨⟨rfl,h1⟩,h2⟩,h3⟩:=h
  rw[show tQ C (.cmp op a b)=(g5' (tOp (bP' C.K op) (tE C a) (tE C b))) from rfl]
  rw[<- R.hK]
  exact⟨g6' (lE' R.hu _) (sE0 a R h1).1 (sE0 b R h2).1 (dO' h3),fun⟨op,vs,pos,z⟩=>by cases z⟩
termination_by structural c=>c
theorem sQo {C:Rc}:∀(q:Cqo) {B:List Str} {X:Cx} {sc:Scope} {es:List Expr},Rok C B X sc->mQo C.N B sc q es=true->PTs X es (tQo C q)
 | .none,B,X,sc,es,R,h=>by
  refine iE' h fun e0 g=>?_
  clear h
  subst e0
  revert g
  intro h
  rw[show tQo C .none=(fun _ H Q=>Q true H) from rfl];exact nd'
 | .some q,B,X,sc,es,R,h=>by
  refine tb' h fun e e0 g=>?_
  clear h
  subst e0
  revert g
  intro h
  rw[show tQo C (.some q)=(tQ C q) from rfl];exact ne' (sQ q R h).1
termination_by structural c=>c
theorem sO {C:Rc}:∀(o:Co) {B:List Str} {X:Cx} {sc:Scope} {e:Option Expr},Rok C B X sc->mO C.N B sc o e=true->PO X e (tO C o)
 | .none,B,X,sc,e,R,h=>by
  refine tc' h fun e0 g=>?_
  clear h
  subst e0
  revert g
  intro h
  rw[show tO C .none=(eO') from rfl];exact m4'
 | .some c,B,X,sc,e,R,h=>by
  refine td' h fun y e0 g=>?_
  clear h
  subst e0
  revert g
  intro h
  rw[show tO C (.some c)=(m3' (tE C c)) from rfl];exact m5' (sE0 c R h).1
termination_by structural c=>c
theorem sI {C:Rc}:∀(i:Ci) {B:List Str} {X:Cx} {sc:Scope} {x tg:Expr},Rok C B X sc->mI C.N B sc i x=true->r8' i tg=true->PI X tg x (tI C i)
 | .val c,B,X,sc,x,tg,R,h,_=>by
  rw[show tI C (.val c)=(sI' C.K (tE C c)) from rfl]
  rw[<- R.hK]
  exact po' (sE0 c R h).1
 | .range1 a,B,X,sc,x,tg,R,h,_=>by
  refine qi' h fun n w1 y w2 e0 g=>?_
  clear h
  subst e0
  revert g
  intro h
  simp only[ah,decide_eq_true_eq]at h
  obtain⟨⟨⟨⟨rfl,h1⟩,h2⟩,h3⟩,h4⟩:=h
  rw[show tI C (.range1 a)=(mX' (be' (tE C a) fg')) from rfl]
  exact gZ' (R.glb h1) (R.blt _ h2) (bj' (sE0 a R h3).1 de' (ah' h4)) (ah' h4)
 | .enum a,B,X,sc,x,tg,R,h,hz=>by
  refine qi' h fun n w1 y w2 e0 g=>?_
  clear h
  subst e0
  revert g
  intro h
  simp only[ah,decide_eq_true_eq]at h
  obtain⟨⟨⟨⟨rfl,h1⟩,h2⟩,h3⟩,h4⟩:=h
  rw[show tI C (.enum a)=(nk' C.K (tE C a)) from rfl]
  rw[<- R.hK]
  cases tg with
  |Tuple es k p=>exact nl' (R.glb h1) (R.blt _ h2) (bj' (sE0 a R h3).1 de' (ah' h4)) (ah' h4)
  |_=>cases hz
 | .range3 a b c,B,X,sc,x,tg,R,h,_=>by
  refine te' h fun n w1 y z u w2 e0 g=>?_
  clear h
  subst e0
  revert g
  intro h
  simp only[ah,decide_eq_true_eq]at h
  obtain⟨⟨⟨⟨⟨⟨⟨⟨rfl,h1⟩,h2⟩,h3⟩,h4⟩,h5⟩,h6⟩,h7⟩,h8⟩:=h
  rw[show tI C (.range3 a b c)=(no' (be' (tE C a) (be' (tE C b) (be' (tE C c) fg')))) from rfl]
  have e2:starEach [_] X.env=[(false,eval _ X.env)]:=ah' (es:=[]) h8
  have e3:starEach [_,_] X.env=[(false,eval _ X.env),(false,eval _ X.env)]:=(ah' (es:=[_]) h6).trans (by rw[e2])
  exact h0' (R.glb h1) (R.blt _ h2) (bj' (sE0 a R h3).1 (bj' (sE0 b R h5).1 (bj' (sE0 c R h7).1 de' (ah' h8)) (ah' h6)) (ah' h4)) (by rw[ah' h4,e3]) e3
termination_by structural c=>c
theorem sG {C:Rc}:∀(t:Ct) {B:List Str} {X:Cx} {sc:Scope} {e:Expr},Rok C B X sc->mT C.N B sc t e=true->PG X e (tG C t)
 | .name i,B,X,sc,e,R,h=>by
  refine ue' h fun x w1 e0 g=>?_
  clear h
  subst e0
  revert g
  intro h
  simp only[ah]at h
  obtain⟨h1,h2,h3⟩:=bD' h.1
  obtain⟨h4,h5⟩:=R.locb h.2
  rw[show tG C (.name i)=(gU' i) from rfl]
  exact mU' (by rw[R.hN];exact R.nd) (by rw[R.hN];exact h1) h4 h5
 | .tup ts,B,X,sc,e,R,h=>by
  refine qf' h fun es w1 w2 e0 g=>?_
  clear h
  subst e0
  revert g
  intro h
  rw[show tG C (.tup ts)=(sY' C.K (kx' ts) (tGs C ts)) from rfl]
  rw[<- R.hK]
  simp only[ah,bv]at h
  exact p7' (R.calm h.2) (sGs ts R h.1) (bU' h.1).1 (bU' h.1).2
 | .sub o i,B,X,sc,e,R,h=>by
  refine qg' h fun eo ei w1 e0 g=>?_
  clear h
  subst e0
  revert g
  intro h
  simp only[ah]at h
  rw[show tG C (.sub o i)=(sm' (tE C o) (tE C i) co') from rfl]
  exact oS' (sE0 o R h.1.1).1 (sE0 i R h.1.2).1 jT' (nG' h.2)
termination_by structural c=>c
theorem sGs {C:Rc}:∀(ts:Cts) {B:List Str} {X:Cx} {sc:Scope} {es:List Expr},Rok C B X sc->mTs C.N B sc ts es=true->PGs X es (tGs C ts)
 | .nil,B,X,sc,es,R,h=>by
  refine iE' h fun e0 g=>?_
  clear h
  subst e0
  revert g
  intro h
  rw[show tGs C .nil=(sk') from rfl];exact mW'
 | .cons t r,B,X,sc,es,R,h=>by
  refine kA' h fun x xs e0 g=>?_
  clear h
  subst e0
  revert g
  intro h
  simp only[ah]at h
  rw[show tGs C (.cons t r)=(mV' (tG C t) (tGs C r)) from rfl]
  exact jI' (sG t R h.1.1) (sGs r R h.2) (e7' h.1.2)
termination_by structural c=>c
end
theorem sE {C:Rc} {B:List Str} (c:Ce) {X:Cx} {sc:Scope} {e:Expr} (R:Rok C B X sc) (h:mE C.N B sc c e=true):PE X e (tE C c):=(sE0 c R h).1
end R3
set_option maxHeartbeats 4000000
namespace R3
open PySem PySem.Spec PyProof.Rows L2
def cR':Expr->Bool
 | .ListComp ..=>false
 | .SetComp ..=>false
 | .DictComp ..=>false
 |_=>true
theorem kD' {x tg:Expr} {l:Nat} {env:Env} (h:cR' x=true):swapsWithSole [tg] x l env=pure false:=by
 cases x<;>first|rfl|cases h
theorem gJ' {x:Expr} {l:Nat} {env:Env} (h:cR' x=true):swapsWith x none l env=pure false:=by
 cases x<;>first|rfl|cases h
set_option tactic.hygienic true in
theorem iH' {N B:List Str} {sc:Scope} {c:Ce} {x:Expr} (h:mE N B sc c x=true) (hd:e6' c=false) (hx:cR' x=false):∃elt own t it q r,c=.comp elt own t it q r/\∃ee gens scope pos,x=.ListComp ee gens scope pos:=by
 cases x<;>first|(cases hx;done)|skip
 .cases c<;>first|(exact an' h)|(cases hd;done)|exact⟨_,_,_,_,_,_,rfl,_,_,_,_,rfl⟩
 .cases c<;>first|(exact an' h)|(cases hd;done)|(rename_i r;cases r<;>first|(exact an' h)|(cases hd;done)|(rename_i r;cases r<;>first|(exact an' h)|(cases hd;done)|(rename_i r;cases r<;>exact an' h)))
 .cases c<;>first|(exact an' h)|(cases hd;done)|(rename_i r;cases r<;>first|(exact an' h)|(cases hd;done)|(rename_i r;cases r<;>first|(exact an' h)|(cases hd;done)|(rename_i r;cases r<;>exact an' h)))
def lF':Expr->Bool
 | .Starred ..=>true
 |_=>false
theorem nst {e:Expr} (h:aq' e=true):lF' e=false:=by
 cases e<;>first|rfl|cases h
theorem e8' {x y:Str} {px py pt pt2:Pos} {kt k2:Nat} {ea eb:Expr} {env:Env} (hb:env.scope.kind=.function) (kx:env.kindOf x=some .local) (ky:env.kindOf y=some .local) (hxy:x≠y) (hl:px.line=py.line) (h8:aq' ea=true) (h9:aq' eb=true)
  (h11:(foldedForSure 8 ea&&foldedForSure 8 eb)=false) (h12:(constantsAlone 8 ea&&constantsAlone 8 eb)=false):swappedStores [.Tuple [.Name x px,.Name y py] kt pt] (.Tuple [ea,eb] k2 pt2) env=pure (some [x,y]):=by
 have hbk:env.blockKind=.function:=by unfold Env.blockKind;rw[hb];rfl
 have p1:(Expr.Name x px).pos=px:=rfl
 have p2:(Expr.Name y py).pos=py:=rfl
 have hyx:(y == x)=false:=by simpa using fun z=>hxy z.symm
 have s1:[ea,eb].any lF'=false:=by
  rw[cA,cA,List.any_nil,nst h8,nst h9]
  rfl
 have s2:[ea,eb].all (foldedForSure 8)=false:=by
  rw[cL,cL,List.all_nil,Bool.and_true];exact h11
 have s3:[ea,eb].all (constantsAlone 8)=false:=by
  rw[cL,cL,List.all_nil,Bool.and_true];exact h12
 have s4:([x,y].eraseDups).length=2:=by
  simp[List.eraseDups_cons,hxy,hyx]
 unfold swappedStores
 dsimp only
 refine(if_neg ?_).trans ((if_neg (Bool.eq_false_iff.mp s1)).trans ?_)
 .simp[hbk]
 rw[s2,s3]
 simp[kx,ky,p1,p2,hl,bN,s4]
theorem cg' {tg:Expr} {env:Env} (h:aq' tg=true):(assignEach [tg] env).map (·.2)=[assign tg env]:=by
 cases tg<;>first|rfl|cases h
def nH':Expr->Expr->Bool
 | .Tuple ..,.Tuple ..=>false
 | .List ..,.Tuple ..=>false
 |_,_=>true
theorem dl' {tg x:Expr} {env:Env} (h:nH' tg x=true):swappedStores [tg] x env=pure none:=by
 cases tg<;>first|rfl|(cases x<;>first|rfl|cases h)
theorem eq' {tg:Expr} {vs:List Expr} {k:Nat} {pos:Pos} {env:Env} (h:vs.all (foldedForSure 8)=true):swappedStores [tg] (.Tuple vs k pos) env=pure none:=by
 have key:∀ts:List Expr,swappedStores [.Tuple ts 0 pos] (.Tuple vs k pos) env=pure none:=by
  intro ts
  unfold swappedStores
  dsimp only
  split
  .rfl
  .split
   .rfl
   .split
    .rfl
    .rfl
 cases tg<;>first|rfl|exact key _
theorem nI' {N B:List Str} {sc:Scope} {t:Ct} {a:List Expr} {p:Pos} (h:mT N B sc t (.List a p)=true):False:=by
 cases t<;>exact an' h
section
variable {C:Rc} {B:List Str} {X:Cx} {sc:Scope}
theorem Rok.suite (R:Rok C B X sc) (e:Addr):Rok { C with xk:=fun _=>E0 } ("~" :: "^" :: B) (X.inX e) sc:=by
 have t1:tld ("~" :: "^" :: B)=true:=b2'
 have t2:hat ("~" :: "^" :: B)=true:=decide_eq_true (ao _ aA)
 refine⟨R.hN,R.nd,R.hK,PassesOwn.never,(fun z=>by rw[t2]at z;cases z),R.hu,R.gd,R.loc,R.cel,R.fre,R.glo,(fun _ _ _ z=>by rw[t2]at z;cases z),fun x hx=>?_,R.mrk,R.cls,(fun z=>by rw[t1]at z;cases z),(fun z=>by rw[t1]at z;cases z),(fun z=>by rw[t1]at z;cases z)⟩
 rcases aq.mp hx with rfl|hx
 .exact R.mrk.1
 .rcases aq.mp hx with rfl|hx
  .exact R.mrk.2.1
  .exact R.blt x hx
end
set_option maxHeartbeats 4000000
mutual
theorem sS:∀(c:Cs) {C:Rc} {B:List Str} {X:Cx} {sc:Scope} {s:Stmt},Rok C B X sc->X.env.scope.kind=.function->mS C.N B sc c s=true->PS X s (tS C c)
 | .expr e,C,B,X,sc,s,R,hk,h=>by
  refine tf' h fun x w1 e0 g=>?_
  clear h
  subst e0
  revert g
  intro h
  obtain⟨hc,hd⟩:=eZ' h
  clear h
  obtain⟨hc,hm⟩:=eZ' hc
  replace hd:e6' e=false:=by cases z:e6' e with
   |false=>rfl
   |true=>rw[z]at hd;exact an' hd
  rw[show tS C (.expr e)=(mS' (tE C e)) from rfl]
  refine mT' (sE e R hc) (gJ' ?_)
  cases hx:cR' x with
  |true=>rfl
  |false=>
   obtain⟨elt,own,t,it,q,r,rfl,_⟩:=iH' hc hd hx
   exact an' hm
 | .ret e,C,B,X,sc,s,R,hk,h=>by
  refine th' h fun x w1 e0 g=>?_
  clear h
  subst e0
  revert g
  intro h
  rw[show tS C (.ret e)=(sg' (tE C e)) from rfl]
  exact oQ' (sE e R h)
 | .asg t e,C,B,X,sc,s,R,hk,h=>by
  refine ti' h fun tg x pos e0 g=>?_
  clear h
  subst e0
  revert g
  intro h
  obtain⟨h,h4⟩:=eZ' h
  obtain⟨h,h3⟩:=eZ' h
  obtain⟨h,h2⟩:=eZ' h
  obtain⟨h1,h0⟩:=eZ' h
  replace h0:e6' e=false:=by cases z:e6' e with
   |false=>rfl
   |true=>rw[z]at h0;exact an' h0
  rw[show tS C (.asg t e)=(rZ' (tE C e) (tG C t)) from rfl]
  have hw:swappedStores [tg] x X.env=pure none:=by
   cases tg with
   |Tuple a b c=>cases x<;>first|exact dl' rfl|exact eq' h4|exact an' h4
   |List a b=>exact(nI' h2).elim
   |_=>exact dl' rfl
  cases hx:cR' x with
  |true=>exact gV' (sE e R h1) (sG t R h2) (kD' hx) hw (cg' h3)
  |false=>
   obtain⟨elt,own,t',it,q,r,rfl,ee,gens,scope,p2,rfl⟩:=iH' h1 h0 hx
   have D:=(sE0 _ R h1).2
   obtain⟨tg',iter,ifs,nx,scope',pos',D,hi,he,hu,hsw⟩:=D
   cases t with
   |name i=>
    cases tg with
    |Name y py=>
     obtain⟨b,hb⟩:=hsw y py pos.line
     cases b with
     |true=>
      replace h2:=eZ' h2
      obtain⟨g1,g2,g3⟩:=bD' h2.1
      obtain⟨g4,g5⟩:=R.locb h2.2
      exact gs' D hi (by rw[R.hN];exact R.nd) (by rw[R.hN];exact g1) g4 g5 (hu _) hb
     |false=>exact gV' (sE _ R h1) (sG _ R h2) hb hw (cg' h3)
    |_=>exact an' h2
   |tup ts=>
    cases tg with
    |Tuple a b c=>exact an' h4
    |_=>exact an' h2
   |sub o i=>
    cases tg with
    |Subscript a b c=>exact gV' (sE _ R h1) (sG _ R h2) rfl hw (cg' h3)
    |_=>exact an' h2
 | .par i j a b,C,B,X,sc,s,R,hk,h=>by
  refine tj' h fun x px y py kt pt ea eb k2 pt2 pos e0 g=>?_
  clear h
  subst e0
  revert g
  intro h
  simp only[ah,decide_eq_true_eq,bv,beq_iff_eq]at h
  obtain⟨⟨⟨⟨⟨⟨⟨⟨⟨⟨⟨⟨h1,h2⟩,h3⟩,h4⟩,h5⟩,h6⟩,h7⟩,h8⟩,h9⟩,h10⟩,h11⟩,h12⟩,hh⟩:=h
  obtain⟨g1,g2,g3⟩:=bD' h1
  obtain⟨f1,f2,f3⟩:=bD' h2
  rw[show tS C (.par i j a b)=(sn' i j (be' (tE C a) (be' (tE C b) fg'))) from rfl]
  have lx:=R.loc x h4
  have ly:=R.loc y h5
  refine oT' (R.calm hh) (by rw[R.hN];exact R.nd) (by rw[R.hN];exact g1) (by rw[R.hN];exact f1) h3 lx ly (bj' (sE a R h6) (bj' (sE b R h7) de' (ah' h9)) (ah' h8)) ?_
  have hxy:x≠y:=fun z=>h3 (du' R.nd g1 (z ▸ f1))
  exact e8' hk lx ly hxy h10 h8 h9 h11 h12
 | .ite q a b,C,B,X,sc,s,R,hk,h=>by
  refine tl' h fun x ss rs w1 e0 g=>?_
  clear h
  subst e0
  revert g
  intro h
  simp only[ah]at h
  rw[show tS C (.ite q a b)=(sh' (tQ C q) (tSs C a) (tSs C b)) from rfl]
  exact si' (sQ q R h.1.1).1 (sSs a R hk h.1.2) (sSs b R hk h.2)
 | .whl q b,C,B,X,sc,s,R,hk,h=>by
  refine tm' h fun x ss w1 e0 g=>?_
  clear h
  subst e0
  revert g
  intro h
  simp only[ah]at h
  rw[show tS C (.whl q b)=(gW' (tQ C q) (tSs C b)) from rfl]
  exact jJ' R.own (sQ q R h.1).1 (sSs b R hk h.2)
 | .for_ t it b,C,B,X,sc,s,R,hk,h=>by
  refine tn' h fun tg iter ss w1 e0 g=>?_
  clear h
  subst e0
  revert g
  intro h
  simp only[ah,bv]at h
  obtain⟨⟨⟨⟨⟨h1,h2⟩,h3⟩,h4⟩,h5⟩,hh⟩:=h
  rw[show tS C (.for_ t it b)=(so' (tI C it) (tG C t) (tSs C b)) from rfl]
  exact oU' R.own (R.calm hh) (sI it R h1 h2) (sG t R h4) (sSs b R hk h5) (en' h3)
theorem sSs:∀(c:Css) {C:Rc} {B:List Str} {X:Cx} {sc:Scope} {ss:List Stmt},Rok C B X sc->X.env.scope.kind=.function->mSs C.N B sc c ss=true->PSs X ss (tSs C c)
 | .nil,C,B,X,sc,ss,R,hk,h=>by
  refine to' h fun e0 g=>?_
  clear h
  subst e0
  revert g
  intro h
  rw[show tSs C .nil=(mQ') from rfl];exact mR'
 | .cons c r,C,B,X,sc,ss,R,hk,h=>by
  refine tp' h fun x xs e0 g=>?_
  clear h
  subst e0
  revert g
  intro h
  simp only[ah]at h
  rw[show tSs C (.cons c r)=(sf' (tS C c) (tSs C r)) from rfl]
  exact jH' (sS c R hk h.1) (sSs r R hk h.2)
end
section
variable {P:Program} {w:World} {K:W.Frag} {mg:Str->Option Value} {base:Heap}
structure Ask (P:Program) (w:World) (K:W.Frag) (mg:Str->Option Value) (base:Heap) (k:Nat) (C:Rc):Prop where
 fs:∀y sp',C.fs y=some sp'->∃f' fd' ps',(FnOk P w K mg base CX0 k f' fd' ps' sp'\/FnOk P w K mg base (CX1 P w mg) k f' fd' ps' sp'/\oD' y∈C.B)/\mg y=some (.ref f')/\W.keepIn K (.ref f')=true/\c4' K fd' ps' []
 B:∀y∈C.B,mg y=none
 mrk:mg "~"=none/\mg "^"=none/\mg "%"=none
 cl:∀c Ca,C.cl c=some Ca->mg c=some (.ref Ca)/\W.nsIn K mainGlobals c=some (some (.ref Ca))
 nt:tld C.B=false
 nh:hat C.B=false
theorem nJ' {x qual:Str} {st:Stmt} {f:Addr} {fd:FuncData} {ps:List Str} {k:Nat} {sp:Sp} (F:Fun K x qual st f fd) (C:Rc) (S:FnScope C.N ps (ad' st)) (hK:C.K=K) (code:Css) (hm:mSs C.N C.B (ad' st) code (ap' st)=true)
  (len:∀vs H Q E,sp vs H Q E->vs.length=ps.length) (ask:Ask P w K mg base k C) (hxk:C.xk=fun _=>E0)
  (hbody:∀vs H Q E,sp vs H Q E->tSs C code { nx:=fun _ H'=>Q .non H',rt:=Q } (aO' C.N vs) H):FnOk P w K mg base CX0 (k+1) f fd ps sp:=by
 obtain⟨oc,od,kV,doc,pm,an,cdv,ct,osl,rfl,lk,hcd⟩:=F.ex
 refine sE' lk hcd S len fun A outer s H vs Q E hr h=>⟨_,(show PSs (oz' CX0 P w K mg base C.N qual (ad' st) f cdv A outer s H E).nox (ap' st) (tSs C code) from sSs code (sc:=ad' st) (B:=C.B) ?_ S.kind hm).nox,hbody vs H Q E h⟩
 refine⟨rfl,S.nd,hK.symm,PassesOwn.never,fun _=>rfl,hr.units,hr.gd,fun _ e=>e,fun _ e=>⟨e,rfl⟩,fun _ e=>.inr e,fun _ e=>e,fun y sp' e _ _=>?_,ask.B,ask.mrk,ask.cl,fun _=>⟨rfl,fun _=>rfl,rfl,rfl,pX' hcd⟩,fun _=>ask.nh,fun _ _ nm Ca pins σ H s e t _ _ _ _ _ _ z=>?_⟩
 .obtain⟨f',fd',ps',h1,h2,h3,h4⟩:=ask.fs y sp' e
  rcases h1 with h1|⟨h1,hb⟩
  .exact⟨f',fd',ps',k,CX0,h1,hr,h2,h3,h4,.inl rfl,lD'⟩
  .refine⟨f',fd',ps',k,_,h1,hr,h2,h3,h4,.inr ⟨rfl,hb⟩,?_⟩
   rintro pins σ H s e s' I ⟨ea,T,Ca,nm,H',_,_,_,_,_,_,_,_,_,_,_,z⟩
   rw[hxk]at z
   exact z.elim
 .rw[hxk]at z
  exact z.elim
end
def kE' (a:Addr) (k:Nat) (h:Heap):Prop:=∃(x y z:Int) (t1 t2 t3:Tok) (n:Nat),h.get? a=some { cls:=.type "list",data:=.seq #[.int x t1,.int y t2,.int z t3] n }/\0<=x/\0<=y/\y<2 ^ 62/\0<=z/\z<=k
def cq' (a:Addr) (k:Nat):HO:=.ext (kE' a k)
def er' (x y z:Int):HO:=.lst [.int x,.int y,.int z]
theorem qo' {a:Addr} {n k:Nat} (e:cq' a n=cq' a k):n<=k:=by
 have e1:kE' a n=kE' a k:=HO.ext.inj e
 let o:Obj:={ cls:=.type "list",data:=.seq #[.int 0 0,.int 0 0,.int n 0] 0 }
 let h0:Heap:={ (default:Heap)with objs:=Array.replicate a default }
 have hs:h0.objs.size=a:=Array.size_replicate
 have g:(h0.push o).get? a=some o:=by
  have:=aw h0 (o:=o) rfl
  rw[hs]at this
  exact this
 have q:kE' a n (h0.push o):=⟨0,0,n,0,0,0,0,g,by omega,by omega,by decide,by omega,by omega⟩
 rw[e1]at q
 obtain⟨x,y,z,t1,t2,t3,m,g2,_,_,_,_,hz⟩:=q
 rw[g]at g2
 have g3:=Option.some.inj g2
 have g4:(#[.int 0 0,.int 0 0,.int n 0]:Array Value)=#[.int x t1,.int y t2,.int z t3]:=by
  have:o.data=_:=congrArg Obj.data g3
  injection this
 have g6:=congrArg Array.toList g4
 simp only[List.cons.injEq,Value.int.injEq]at g6
 have g5:(n:Int)=z:=g6.2.2.1.1
 omega
theorem iI' {P:Program} {w:World} {H:Hp} {h:Heap} {b:Addr} {x y z:Int} {k:Nat} (hok:HOk P w H h) (e:H b=some (er' x y z)) (hx:0<=x) (hy:0<=y) (hy2:y<2 ^ 62) (hz:0<=z) (hk:z<=k):HOk P w (upd H b (cq' b k)) h:=by
 intro c o ec
 by_cases hc:c=b
 .subst hc
  rw[aa']at ec
  cases ec
  obtain⟨_,its,n,rv,g⟩:=(show aF' P w H h c (.lst _) from hok c _ e)
  cases rv with
  |cons r1 r=>
   cases r with
   |cons r2 r=>
    cases r with
    |cons r3 r=>
     cases r
     obtain⟨t1,rfl⟩:=r1
     obtain⟨t2,rfl⟩:=r2
     obtain⟨t3,rfl⟩:=r3
     refine⟨⟨x,y,z,t1,t2,t3,n,g,hx,hy,hy2,hz,hk⟩,⟨_,g⟩,fun h1 h2 q kk=>?_⟩
     obtain⟨x,y,z,t1,t2,t3,n,g,r⟩:=q
     exact⟨x,y,z,t1,t2,t3,n,kk _ g,r⟩
 .rw[ac' hc]at ec
  have ne:∀d u,H d=some u->(∀xs,u≠.lst xs)->d≠b:=fun d u q nu z=>by subst z;rw[e]at q;cases q;exact nu _ rfl
  exact(hok c o ec).stay (fun _ _ _ q=>q) (fun d q=>by rw[ac' (ne d _ q fun _ z=>by cases z)];exact q) fun d xs q=>by rw[ac' (ne d _ q fun _ z=>by cases z)];exact q
theorem kF' {P:Program} {w:World} {H:Hp} {h:Heap} {b:Addr} {k:Nat} (hok:HOk P w H h) (e:H b=some (cq' b k)):∃x y z:Int,0<=x/\0<=y/\y<2 ^ 62/\0<=z/\z<=k/\HOk P w (upd H b (er' x y z)) h:=by
 obtain⟨⟨x,y,z,t1,t2,t3,n,g,hx,hy,hy2,hz,hk⟩,_,_⟩:=(show aF' P w H h b (.ext _) from hok b _ e)
 refine⟨x,y,z,hx,hy,hy2,hz,hk,fun c o ec=>?_⟩
 by_cases hc:c=b
 .subst hc
  rw[aa']at ec
  cases ec
  exact⟨by show 3<=sizeLine;decide,[.int x t1,.int y t2,.int z t3],n,.cons ⟨_,rfl⟩ (.cons ⟨_,rfl⟩ (.cons ⟨_,rfl⟩ .nil)),g⟩
 .rw[ac' hc]at ec
  have ne:∀d u,H d=some u->(∀φ,u≠.ext φ)->d≠b:=fun d u q nu z=>by subst z;rw[e]at q;cases q;exact nu _ rfl
  exact(hok c o ec).stay (fun _ _ _ q=>q) (fun d q=>by rw[ac' (ne d _ q fun _ z=>by cases z)];exact q) fun d xs q=>by rw[ac' (ne d _ q fun _ z=>by cases z)];exact q
theorem kG' {fs ex:List Addr} {H H':Hp} {h h':Heap} {b:Addr} {xs:List V} {o:HO} (u:Un fs ex H H' h h') (e:H' b=some (.lst xs)):Un fs ex H (upd H' b o) h h' where
 keep:=u.keep
 slot:=u.slot
 free:=fun c ob q n hx=>by
  have z:=u.free c ob q n hx
  rw[ac' (fun z2=>by subst z2;rw[e]at z;cases z)]
  exact z
 there:=u.there
 tups:=fun c ys q=>by
  have z:=u.tups c ys q
  rw[ac' (fun z2=>by subst z2;rw[e]at z;cases z)]
  exact z
 frzs:=fun c ob ys q=>by
  have z:=u.frzs c ob ys q
  rw[ac' (fun z2=>by subst z2;rw[e]at z;cases z)]
  exact z
 tbls:=fun c ps q=>by
  obtain⟨m,z⟩:=u.tbls c ps q
  exact⟨m,by rw[ac' (fun z2=>by subst z2;rw[e]at z;cases z)];exact z⟩
theorem nK' {fs ex:List Addr} {H H':Hp} {h h':Heap} {b:Addr} {φ:Heap->Prop} {o:HO} (u:Un fs ex (upd H b o) H' h h') (e:H b=some (.ext φ)):Un fs ex H H' h h':=by
 have ne:∀c,H c=none->c≠b:=fun c n z=>by subst z;rw[e]at n;cases n
 have ne2:∀c v,H c=some v->(∀ψ,v≠.ext ψ)->c≠b:=fun c v q nv z=>by subst z;rw[e]at q;cases q;exact nv _ rfl
 exact⟨fun c ob q n=>u.keep c ob q (by rw[ac' (ne c n)];exact n),fun c ob q n=>u.slot c ob q (by rw[ac' (ne c n)];exact n),fun c ob q n=>u.free c ob q (by rw[ac' (ne c n)];exact n),u.there,
  fun c ys q=>u.tups c ys (by rw[ac' (ne2 c _ q fun _ z=>by cases z)];exact q),fun c ob ys q=>u.frzs c ob ys (by rw[ac' (ne2 c _ q fun _ z=>by cases z)];exact q),fun c ps q=>u.tbls c ps (by rw[ac' (ne2 c _ q fun _ z=>by cases z)];exact q)⟩
section
variable {P:Program} {w:World} {K:W.Frag} {mg:Str->Option Value} {base:Heap} {k:Nat} {f:Addr} {fd:FuncData} {ps:List Str} {sp sp':Sp}
def uf' (Q:VK) (v:V) (H:Hp):Prop:=∃b x y z m,H b=some (er' x y z)/\0<=x/\0<=y/\y<2 ^ 62/\0<=z/\z<=((m:Nat):Int)/\Q v (upd H b (cq' b m))
theorem iJ' (F:FnOk P w K mg base CX0 k f fd ps sp) (h:∀vs H Q E,sp' vs H Q E->sp vs H (uf' Q) E):FnOk P w K mg base CX0 k f fd ps sp':=by
 refine⟨fun vs H Q E q=>F.len vs H _ E (h _ _ _ _ q),fun A outer s H args us vs Q E hr e0 hb hv hs=>?_⟩
 refine codeAny_mono (F.run A outer s H args us vs _ E hr e0 hb hv (h _ _ _ _ hs)) fun r s' hq=>?_
 cases r with
 |error e=>exact hq
 |ok fl=>
  cases fl with
  |next=>exact hq
  |brk=>exact hq
  |cont=>exact hq
  |ret u=>
   obtain⟨v,H',os,bare,un,hok,rv,b,x,y,z,m,eb,hx,hy,hy2,hz,hm,q⟩:=hq
   exact⟨v,_,os,bare,kG' un eb,iI' hok eb hx hy hy2 hz hm,rv,q⟩
theorem nL' (F:FnOk P w K mg base CX0 k f fd ps sp) (h:∀vs H Q E,sp' vs H Q E->∃b n,H b=some (cq' b n)/\∀x y z,0<=x->0<=y->y<2 ^ 62->0<=z->z<=((n:Nat):Int)->sp vs (upd H b (er' x y z)) Q E) (len:∀vs H Q E,sp' vs H Q E->vs.length=ps.length):FnOk P w K mg base CX0 k f fd ps sp':=by
 refine⟨len,fun A outer s H args us vs Q E hr e0 hb hv hs=>?_⟩
 obtain⟨b,n,eb,hsp⟩:=h _ _ _ _ hs
 obtain⟨x,y,z,hx,hy,hy2,hz,hn,hok⟩:=kF' e0.hok eb
 have ne:∀c,H c=none->c≠b:=fun c n z=>by subst z;rw[eb]at n;cases n
 have e1:Env0 P w K mg base A outer s (upd H b (er' x y z)):=⟨e0.frames,e0.mod,fun c o e=>⟨(e0.bs c o e).1,by rw[ac' (ne c (e0.bs c o e).2)];exact(e0.bs c o e).2⟩,e0.bsz,e0.funs,fun c hc=>by rw[ac' (ne c (e0.frf c hc))];exact e0.frf c hc,hok,e0.bare⟩
 refine codeAny_mono (F.run A outer s _ args us vs Q E hr e1 hb hv (hsp x y z hx hy hy2 hz hn)) fun r s' hq=>?_
 cases r with
 |error e=>exact hq
 |ok fl=>
  cases fl with
  |next=>exact hq
  |brk=>exact hq
  |cont=>exact hq
  |ret u=>
   obtain⟨v,H',os,bare,un,hok,rv,q⟩:=hq
   exact⟨v,H',os,bare,nK' un eb,hok,rv,q⟩
end
structure Go (c:Nat) (H H':Hp):Prop where
 box:∀a n,H a=some (cq' a n)->∃m,m<=n+c/\H' a=some (cq' a m)
 oth:∀a o,H a=some o->(∀φ,o≠.ext φ)->H' a=some o
 free:∀a,H' a=none->H a=none
theorem Go.of_same {c:Nat} {H H':Hp} (h:bo' H H'):Go c H H':=⟨fun a n e=>⟨n,by omega,h a _ e⟩,fun a o e _=>h a o e,fun a e=>h.free e⟩
theorem Go.refl {c:Nat} {H:Hp}:Go c H H:=.of_same (bo'.refl H)
theorem Go.trans {c d:Nat} {H H1 H2:Hp} (a:Go c H H1) (b:Go d H1 H2):Go (c+d) H H2:=⟨fun p n e=>by
  obtain⟨m,hm,e1⟩:=a.box p n e
  obtain⟨m',hm',e2⟩:=b.box p m e1
  exact⟨m',by omega,e2⟩,fun p o e no=>b.oth p o (a.oth p o e no) no,fun p e=>a.free p (b.free p e)⟩
theorem Go.mono {c d:Nat} {H H1:Hp} (a:Go c H H1) (h:c<=d):Go d H H1:=⟨fun p n e=>by
  obtain⟨m,hm,e1⟩:=a.box p n e
  exact⟨m,by omega,e1⟩,a.oth,a.free⟩
theorem Go.lst {c:Nat} {H H1:Hp} (a:Go c H H1) {p:Addr} {xs:List V} (e:H p=some (.lst xs)):H1 p=some (.lst xs):=a.oth p _ e fun _ z=>by cases z
theorem Go.tup {c:Nat} {H H1:Hp} (a:Go c H H1) {p:Addr} {xs:List V} (e:H p=some (.tup xs)):H1 p=some (.tup xs):=a.oth p _ e fun _ z=>by cases z
theorem Go.seq {c:Nat} {K:W.Frag} {H H1:Hp} (g:Go c H H1) {a:Addr} {xs:List V} (h:SqL K H a xs):SqL K H1 a xs:=by
 rcases h with(h|⟨o,h⟩)|h
 .exact .inl (.inl (g.lst h))
 .exact .inl (.inr ⟨o,g.oth _ _ h fun _ z=>by cases z⟩)
 .exact .inr h
theorem Go.new {c:Nat} {H:Hp} {p:Addr} (h:H p=none) (o:HO):Go c H (upd H p o):=.of_same fun b u q=>by rw[ac' (ae' q h)];exact q
theorem Go.draw {H:Hp} {b:Addr} {n m:Nat} (e:H b=some (cq' b n)) (h:m<=n+1) (o:HO):Go 1 H (upd (upd H b o) b (cq' b m)):=by
 rw[eM']
 refine⟨fun p k q=>?_,fun p u q no=>?_,fun p q=>?_⟩
 .by_cases hp:p=b
  .subst hp
   rw[e]at q
   have:=qo' (Option.some.inj q)
   exact⟨m,by omega,aa'⟩
  .exact⟨k,by omega,by rw[ac' hp];exact q⟩
 .rw[ac']
  .exact q
  .intro z
   subst z
   rw[e]at q
   cases q
   exact no _ rfl
 .by_cases hp:p=b
  .subst hp
   rw[aa']at q
   cases q
  .rw[ac' hp]at q
   exact q
section
variable {C:Rc} {σ:L2.St} {H:Hp} {Q:VK} {D:Ends} {Qb:Bool->Hp->Prop}
def kV (o:Option (Option V)) (H:Hp) (Q:VK):Prop:=∃v,o=some (some v)/\Q v H
theorem iK' {v:V}:kV (some (some v)) H Q=Q v H:=propext ⟨fun⟨u,e,q⟩=>by cases e;exact q,fun q=>⟨v,rfl,q⟩⟩
theorem lG' {i:Nat}:tE C (.var i) σ H Q=kV σ[i]? H Q:=rfl
theorem lH' {n:Int}:tE C (.int n) σ H Q=Q (.int n) H:=rfl
theorem qp' {b:Bool}:tE C (.bl b) σ H Q=Q (.bl b) H:=rfl
theorem lI':tE C .non σ H Q=Q .non H:=rfl
theorem lJ' {x:Str}:tE C (.str x) σ H Q=Q (.str x) H:=rfl
def kB1 (C:Rc) (σ:L2.St) (op:Operator) (b:Ce) (Q:VK):VK:=fun x H=>tE C b σ H fun y H2=>c8' C.K op x y H2 Q
def kB2 (C:Rc) (op:Operator) (x:V) (Q:VK):VK:=fun y H=>c8' C.K op x y H Q
theorem lK' {op:Operator} {a b:Ce}:tE C (.bin op a b) σ H Q=tE C a σ H (kB1 C σ op b Q):=rfl
theorem lL' {op:Operator} {b:Ce} {x:V}:kB1 C σ op b Q x H=tE C b σ H (kB2 C op x Q):=rfl
theorem lM' {op:Operator} {x y:V}:kB2 C op x Q y H=c8' C.K op x y H Q:=rfl
def kC1 (C:Rc) (σ:L2.St) (op:CmpOp) (b:Ce) (Q:VK):VK:=fun x H=>tE C b σ H fun y H2=>bP' C.K op x y H2 Q
def kC2 (C:Rc) (op:CmpOp) (x:V) (Q:VK):VK:=fun y H=>bP' C.K op x y H Q
theorem lN' {op:CmpOp} {a b:Ce}:tE C (.cmp op a b) σ H Q=tE C a σ H (kC1 C σ op b Q):=rfl
theorem lO' {op:CmpOp} {b:Ce} {x:V}:kC1 C σ op b Q x H=tE C b σ H (kC2 C op x Q):=rfl
theorem lP' {op:CmpOp} {x y:V}:kC2 C op x Q y H=bP' C.K op x y H Q:=rfl
def kI1 (C:Rc) (σ:L2.St) (b:Ce) (Q:VK):VK:=fun x H=>tE C b σ H fun y H2=>kw' C.K x y H2 Q
def kI2 (C:Rc) (x:V) (Q:VK):VK:=fun y H=>kw' C.K x y H Q
theorem lQ' {a b:Ce}:tE C (.idx a b) σ H Q=tE C a σ H (kI1 C σ b Q):=rfl
theorem lR' {b:Ce} {x:V}:kI1 C σ b Q x H=tE C b σ H (kI2 C x Q):=rfl
theorem lS' {x y:V}:kI2 C x Q y H=kw' C.K x y H Q:=rfl
def ug' (Q:VK):VK:=fun x H=>rU (fun i=>.int (-i)) x H Q
theorem lT' {a:Ce}:tE C (.neg a) σ H Q=tE C a σ H (ug' Q):=rfl
theorem fE' {i:Int}:ug' Q (.int i) H=Q (.int (-i)) H:=propext ⟨fun⟨u,e,q⟩=>by cases e;exact q,fun q=>⟨i,rfl,q⟩⟩
def kT (Qb:Bool->Hp->Prop):VK:=fun x H=>∃k,x=.bl k/\Qb k H
theorem qq' {k:Bool}:kT Qb (.bl k) H=Qb k H:=propext ⟨fun⟨u,e,q⟩=>by cases e;exact q,fun q=>⟨k,rfl,q⟩⟩
theorem lU' {op:CmpOp} {a b:Ce}:tQ C (.cmp op a b) σ H Qb=tE C a σ H (kC1 C σ op b (kT Qb)):=rfl
def ts' (Qb:Bool->Hp->Prop):Bool->Hp->Prop:=fun c H=>Qb (!c) H
theorem fF' {c:Bool}:ts' Qb c H=Qb (!c) H:=rfl
def nM' (C:Rc) (σ:L2.St) (b:Cq) (Qb:Bool->Hp->Prop):Bool->Hp->Prop:=fun c H=>if c=true then tQ C b σ H Qb else Qb false H
def tt' (C:Rc) (σ:L2.St) (b:Cq) (Qb:Bool->Hp->Prop):Bool->Hp->Prop:=fun c H=>if c=true then Qb true H else tQ C b σ H Qb
theorem lV' {a b:Cq}:tQ C (.and a b) σ H Qb=tQ C a σ H (nM' C σ b Qb):=rfl
theorem qr' {a b:Cq}:tQ C (.or a b) σ H Qb=tQ C a σ H (tt' C σ b Qb):=rfl
theorem iL' {b:Cq}:nM' C σ b Qb true H=tQ C b σ H Qb:=rfl
theorem iM' {b:Cq}:nM' C σ b Qb false H=Qb false H:=rfl
theorem lW' {b:Cq}:tt' C σ b Qb true H=Qb true H:=rfl
theorem lX' {b:Cq}:tt' C σ b Qb false H=tQ C b σ H Qb:=rfl
variable {K:W.Frag} {i j:Int} {x y:Str}
theorem qs':c8' K .Add (.int i) (.int j) H Q=Q (.int (i+j)) H:=rfl
theorem qt':c8' K .Add (.str x) (.str y) H Q=(x.length+y.length<=sizeLine/\Q (.str (x++y)) H):=rfl
theorem qu':c8' K .Sub (.int i) (.int j) H Q=Q (.int (i-j)) H:=propext ⟨fun⟨_,_,e,e',q⟩=>by cases e;cases e';exact q,fun q=>⟨_,_,rfl,rfl,q⟩⟩
theorem qv':c8' K .Mult (.int i) (.int j) H Q=(qc' i j/\Q (.int (i*j)) H):=rfl
theorem lY':c8' K .Mult (.str x) (.int j) H Q=(-1000000<=j/\j<=1000000/\x.length*j.toNat<=1000000/\Q (.str (Txt.mul x j)) H):=rfl
theorem qw':c8' K .Mod (.int i) (.int j) H Q=(0<j/\Q (.int (i % j)) H):=propext ⟨fun⟨_,_,e,e',c,q⟩=>by cases e;cases e';exact⟨c,q⟩,fun q=>⟨_,_,rfl,rfl,q.1,q.2⟩⟩
theorem qx':c8' K .FloorDiv (.int i) (.int j) H Q=(qb' i j/\Q (.int (i / j)) H):=propext ⟨fun⟨_,_,e,e',c,q⟩=>by cases e;cases e';exact⟨c,q⟩,fun q=>⟨_,_,rfl,rfl,q.1,q.2⟩⟩
theorem qy':c8' K .Pow (.int i) (.int j) H Q=(sv' i j/\Q (.int (i ^ j.toNat)) H):=propext ⟨fun⟨_,_,e,e',c,q⟩=>by cases e;cases e';exact⟨c,q⟩,fun q=>⟨_,_,rfl,rfl,q.1,q.2⟩⟩
theorem uh':bP' K .Lt (.int i) (.int j) H Q=Q (.bl (decide (i<j))) H:=propext ⟨fun⟨_,_,e,e',q⟩=>by cases e;cases e';exact q,fun q=>⟨_,_,rfl,rfl,q⟩⟩
theorem ui':bP' K .Gt (.int i) (.int j) H Q=Q (.bl (decide (j<i))) H:=propext ⟨fun⟨_,_,e,e',q⟩=>by cases e;cases e';exact q,fun q=>⟨_,_,rfl,rfl,q⟩⟩
theorem uj':bP' K .GtE (.int i) (.int j) H Q=Q (.bl (decide (j<=i))) H:=propext ⟨fun⟨_,_,e,e',q⟩=>by cases e;cases e';exact q,fun q=>⟨_,_,rfl,rfl,q⟩⟩
theorem uk':bP' K .Eq (.int i) (.int j) H Q=Q (.bl (decide (i=j))) H:=by
 have e:decide (V.int i=V.int j)=decide (i=j):=by simp
 exact propext ⟨fun q=>e ▸ q.2,fun q=>⟨rfl,e.symm ▸ q⟩⟩
theorem lZ' {a:Addr}:kw' K (.ref a) (.int i) H Q=(eQ' K (.ref a) (.int i) H Q\/fi' K (.ref a) (.int i) H Q):=rfl
def oE' (C:Rc) (r:Css) (D:Ends):Ends:={ D with nx:=tSs C r D }
theorem l0':tSs C .nil D σ H=D.nx σ H:=rfl
theorem iN' {s:Cs} {r:Css}:tSs C (.cons s r) D σ H=tS C s (oE' C r D) σ H:=rfl
theorem fG' {r:Css}:(oE' C r D).nx σ H=tSs C r D σ H:=rfl
theorem l1' {r:Css}:(oE' C r D).rt=D.rt:=rfl
theorem l2' {r:Css}:(oE' C r D).bk=D.bk:=rfl
theorem l3' {r:Css}:(oE' C r D).ct=D.ct:=rfl
theorem qz' {e:Ce}:tS C (.ret e) D σ H=tE C e σ H D.rt:=rfl
def qA' (D:Ends) (σ:L2.St):VK:=fun _ H=>D.nx σ H
theorem l4' {e:Ce}:tS C (.expr e) D σ H=tE C e σ H (qA' D σ):=rfl
theorem fH' {v:V}:qA' D σ v H=D.nx σ H:=rfl
def ul' (i:Nat) (D:Ends) (σ:L2.St):VK:=fun x H=>D.nx (σ.set i (some x)) H
theorem qB' {i:Nat} {e:Ce}:tS C (.asg (.name i) e) D σ H=tE C e σ H (ul' i D σ):=rfl
theorem iO' {i:Nat} {v:V}:ul' i D σ v H=D.nx (σ.set i (some v)) H:=rfl
def qC' (C:Rc) (o i:Ce) (D:Ends) (σ:L2.St):VK:=fun v H=>tE C o σ H fun p H1=>tE C i σ H1 fun k H2=>co' p k v H2 fun H3=>D.nx σ H3
def qD' (C:Rc) (i:Ce) (v:V) (D:Ends) (σ:L2.St):VK:=fun p H1=>tE C i σ H1 fun k H2=>co' p k v H2 fun H3=>D.nx σ H3
def qE' (p v:V) (D:Ends) (σ:L2.St):VK:=fun k H2=>co' p k v H2 fun H3=>D.nx σ H3
theorem qF' {o i e:Ce}:tS C (.asg (.sub o i) e) D σ H=tE C e σ H (qC' C o i D σ):=rfl
theorem fI' {o i:Ce} {v:V}:qC' C o i D σ v H=tE C o σ H (qD' C i v D σ):=rfl
theorem fJ' {i:Ce} {v p:V}:qD' C i v D σ p H=tE C i σ H (qE' p v D σ):=rfl
theorem fK' {v p k:V}:qE' p v D σ k H=co' p k v H (D.nx σ):=rfl
def kIf (C:Rc) (a b:Css) (D:Ends) (σ:L2.St):Bool->Hp->Prop:=fun c H=>if c=true then tSs C a D σ H else tSs C b D σ H
theorem um' {q:Cq} {a b:Css}:tS C (.ite q a b) D σ H=tQ C q σ H (kIf C a b D σ):=rfl
theorem qG' {a b:Css}:kIf C a b D σ true H=tSs C a D σ H:=rfl
theorem qH' {a b:Css}:kIf C a b D σ false H=tSs C b D σ H:=rfl
theorem a0' {p:Prop} [Decidable p] {F:Bool->Hp->Prop} (h1:p->F true H) (h2:¬p->F false H):F (decide p) H:=by
 by_cases h:p
 .rw[decide_eq_true h];exact h1 h
 .rw[decide_eq_false h];exact h2 h
end
section
variable {C:Rc} {σ:L2.St} {H:Hp} {Q:VK} {D:Ends} {Qb:Bool->Hp->Prop} {Qs:List V->Hp->Prop}
def kA1 (C:Rc) (σ:L2.St) (r:Ces) (Qs:List V->Hp->Prop):VK:=fun x H=>tA C r σ H fun xs H2=>Qs (x :: xs) H2
def kA2 (x:V) (Qs:List V->Hp->Prop):List V->Hp->Prop:=fun xs H=>Qs (x :: xs) H
theorem qI':tA C .nil σ H Qs=Qs [] H:=rfl
theorem l5' {e:Ce} {r:Ces}:tA C (.cons e r) σ H Qs=tE C e σ H (kA1 C σ r Qs):=rfl
theorem l6' {r:Ces} {x:V}:kA1 C σ r Qs x H=tA C r σ H (kA2 x Qs):=rfl
theorem l7' {x:V} {xs:List V}:kA2 x Qs xs H=Qs (x :: xs) H:=rfl
def un' (Q:VK):List V->Hp->Prop:=fun xs H=>xs.length<=sizeLine/\∀p,H p=none->Q (.ref p) (upd H p (.tup xs))
def uo' (Q:VK):List V->Hp->Prop:=fun xs H=>xs.length<=sizeLine/\∀p,H p=none->Q (.ref p) (upd H p (.lst xs))
theorem l8' {es:Ces}:tE C (.tup es) σ H Q=tA C es σ H (un' Q):=rfl
theorem l9' {es:Ces}:tE C (.lst es) σ H Q=tA C es σ H (uo' Q):=rfl
theorem iP' {xs:List V}:un' Q xs H=(xs.length<=sizeLine/\∀p,H p=none->Q (.ref p) (upd H p (.tup xs))):=rfl
theorem iQ' {xs:List V}:uo' Q xs H=(xs.length<=sizeLine/\∀p,H p=none->Q (.ref p) (upd H p (.lst xs))):=rfl
def nN' (o:Option Sp) (E:XK) (Q:VK):List V->Hp->Prop:=fun vs H=>match o with
 |some sp=>sp (vs++[]) H Q E
 |none=>False
theorem nO' {f:Str} {es:Ces} {sp:Sp} (h:C.fs f=some sp):tE C (.call f es) σ H Q=tA C es σ H (nN' (some sp) (C.xk σ) Q):=by
 show(match C.fs f with|some sp=>jP' sp [] (C.xk σ) (tA C es) σ H Q|none=>False)=_
 rw[h]
 rfl
theorem fL' {sp:Sp} {E:XK} {vs:List V}:nN' (some sp) E Q vs H=sp vs H Q E:=by
 show sp (vs++[]) H Q E=_
 rw[cw]
def up' (C:Rc) (f:Bf) (Q:VK):List V->Hp->Prop:=fun vs H=>dK' C.K f vs H Q
theorem ma' {f:Bf} {es:Ces}:tE C (.blt f es) σ H Q=tA C es σ H (up' C f Q):=rfl
theorem iR' {f:Bf} {vs:List V}:up' C f Q vs H=dK' C.K f vs H Q:=rfl
def qJ' (C:Rc) (σ:L2.St) (m:Mf) (es:Ces) (Q:VK):VK:=fun x H=>tyV C.K (ei' m) x H/\tA C es σ H fun xs H2=>kv' C.K m x xs H2 Q
def qK' (C:Rc) (m:Mf) (x:V) (Q:VK):List V->Hp->Prop:=fun xs H=>kv' C.K m x xs H Q
theorem mb' {m:Mf} {o:Ce} {es:Ces}:tE C (.met m o es) σ H Q=tE C o σ H (qJ' C σ m es Q):=rfl
theorem fM' {m:Mf} {es:Ces} {x:V}:qJ' C σ m es Q x H=(tyV C.K (ei' m) x H/\tA C es σ H (qK' C m x Q)):=rfl
theorem fN' {m:Mf} {x:V} {xs:List V}:qK' C m x Q xs H=kv' C.K m x xs H Q:=rfl
def tu' (C:Rc) (σ:L2.St) (a b:Ce) (Q:VK):Bool->Hp->Prop:=fun c H=>if c=true then tE C a σ H Q else tE C b σ H Q
theorem mc' {q:Cq} {a b:Ce}:tE C (.ife q a b) σ H Q=tQ C q σ H (tu' C σ a b Q):=rfl
theorem md' {a b:Ce}:tu' C σ a b Q true H=tE C a σ H Q:=rfl
theorem me' {a b:Ce}:tu' C σ a b Q false H=tE C b σ H Q:=rfl
def tv' (C:Rc) (σ:L2.St) (b:Ce) (Q:VK):VK:=fun x H=>∃c,x=.bl c/\if c=true then tE C b σ H Q else Q (.bl false) H
def uY' (C:Rc) (σ:L2.St) (b:Ce) (Q:VK):VK:=fun x H=>∃c,x=.bl c/\if c=true then Q (.bl true) H else tE C b σ H Q
theorem mf' {a b:Ce}:tE C (.and a b) σ H Q=tE C a σ H (tv' C σ b Q):=rfl
theorem qL' {a b:Ce}:tE C (.or a b) σ H Q=tE C a σ H (uY' C σ b Q):=rfl
def uq' (C:Rc) (Qb:Bool->Hp->Prop):VK:=fun x H=>∃k,o3' C.K x H k/\Qb k H
theorem mg' {e:Ce}:tQ C (.val e) σ H Qb=tE C e σ H (uq' C Qb):=rfl
def qM' (C:Rc) (σ:L2.St) (lo hi:Co) (Q:VK):VK:=fun x H=>tO C lo σ H fun l H2=>tO C hi σ H2 fun u H3=>rSl C.K x l u H3 Q
def qN' (C:Rc) (σ:L2.St) (hi:Co) (x:V) (Q:VK):Option Int->Hp->Prop:=fun l H=>tO C hi σ H fun u H3=>rSl C.K x l u H3 Q
def qO' (C:Rc) (x:V) (l:Option Int) (Q:VK):Option Int->Hp->Prop:=fun u H=>rSl C.K x l u H Q
theorem mh' {a:Ce} {lo hi:Co}:tE C (.cut a lo hi) σ H Q=tE C a σ H (qM' C σ lo hi Q):=rfl
theorem fO' {lo hi:Co} {x:V}:qM' C σ lo hi Q x H=tO C lo σ H (qN' C σ hi x Q):=rfl
theorem fP' {hi:Co} {x:V} {l:Option Int}:qN' C σ hi x Q l H=tO C hi σ H (qO' C x l Q):=rfl
theorem fQ' {x:V} {l u:Option Int}:qO' C x l Q u H=rSl C.K x l u H Q:=rfl
variable {Qo:Option Int->Hp->Prop}
def kH' (Qo:Option Int->Hp->Prop):VK:=fun x H=>∃i,x=.int i/\Qo (some i) H
theorem mi':tO C .none σ H Qo=Qo none H:=rfl
theorem mj' {e:Ce}:tO C (.some e) σ H Qo=tE C e σ H (kH' Qo):=rfl
theorem et' {i:Int}:kH' Qo (.int i) H=Qo (some i) H:=propext ⟨fun⟨u,e,q⟩=>by cases e;exact q,fun q=>⟨i,rfl,q⟩⟩
theorem ml' {K:W.Frag} {a:Addr} {l u:Option Int}:rSl K (.ref a) l u H Q=(pf' K (.ref a) l u H Q\/o9' K (.ref a) l u H Q\/pO' K (.ref a) l u H Q):=rfl
def nP' (C:Rc) (σ:L2.St) (i j:Nat) (b:Ce) (D:Ends):VK:=fun v H=>tE C b σ H fun w H1=>D.nx ((σ.set i (some v)).set j (some w)) H1
def qP' (σ:L2.St) (i j:Nat) (v:V) (D:Ends):VK:=fun w H=>D.nx ((σ.set i (some v)).set j (some w)) H
theorem fR' {i j:Nat} {b:Ce} {v:V}:nP' C σ i j b D v H=tE C b σ H (qP' σ i j v D):=rfl
theorem fS' {i j:Nat} {v w:V}:qP' σ i j v D w H=D.nx ((σ.set i (some v)).set j (some w)) H:=rfl
end
def cb (b:Bool):Nat:=if b then 49 else 48
def tx (l:List Bool):Str:=⟨(l.map cb).toArray⟩
theorem fT' {a:List Bool}:(tx a).length=a.length:=by show(a.map cb).toArray.size=_;simp
theorem qQ' {a:List Bool}:(tx a).cps.toList=a.map cb:=rfl
theorem nQ' {a:List Bool}:(tx a).cps.size=a.length:=by show(a.map cb).toArray.size=_;simp
theorem qR' {a:List Bool} {i:Nat}:(tx a).cps[i]?=a[i]?.map cb:=by show(a.map cb).toArray[i]?=_;simp
theorem qS' {a b:List Bool}:tx a++tx b=tx (a++b):=by
 show(⟨(a.map cb).toArray++(b.map cb).toArray⟩:Str)=⟨((a++b).map cb).toArray⟩
 simp
theorem qT':(PySem.Str.ofString "01")=tx [false,true]:=by decide +kernel
theorem mm':(PySem.Str.ofString "")=tx []:=by decide +kernel
theorem mn' {c:Bool}:PySem.intText? (tx [c])=some (if c then 1 else 0):=by cases c<;>decide +kernel
theorem qU' {α:Type} {xs:List α} {i:Int} (h0:0<=i) (h1:i<xs.length):∃v,xs[i.toNat]?=some v/\atI xs i=some v:=by
 obtain⟨j,rfl⟩:=aM h0
 have hk:j<xs.length:=by omega
 exact⟨xs[j],by simp,aC' (by rw[ac hk])⟩
theorem av' {N:List Str} {vs:List V} {n:Nat} (h:N.length=n):L2.aO' N vs=vs.map some++aC (n-vs.length) none:=by subst h;rfl
section
variable {C:Rc} {σ:L2.St} {H:Hp} {Q:VK} {D:Ends} {Qb:Bool->Hp->Prop}
theorem mo' {i:Nat} {v:V} {R:L2.St->Hp->Prop}:tG C (.name i) v σ H R=R (σ.set i (some v)) H:=rfl
theorem iS' {i j:Nat} {a:Addr} {x y:V} {R:L2.St->Hp->Prop} (h:SqT C.K H a [x,y]) (q:R ((σ.set i (some x)).set j (some y)) H):tG C (.tup (.cons (.name i) (.cons (.name j) .nil))) (.ref a) σ H R:=
 ⟨a,[x,y],rfl,.inl h,rfl,_,_,rfl,_,_,rfl,rfl,q⟩
theorem mp' {i j k:Nat} {a:Addr} {x y z:V} {R:L2.St->Hp->Prop} (h:SqT C.K H a [x,y,z]) (q:R (((σ.set i (some x)).set j (some y)).set k (some z)) H):tG C (.tup (.cons (.name i) (.cons (.name j) (.cons (.name k) .nil)))) (.ref a) σ H R:=
 ⟨a,[x,y,z],rfl,.inl h,rfl,_,_,rfl,_,_,rfl,_,_,rfl,rfl,q⟩
def mq' (C:Rc) (t:Ct) (b:Css) (D:Ends) (σ:L2.St) (J:It) (H1:Hp):Prop:=∃W:Nat->Nat->L2.St->Hp->Prop,(∃m,W 0 m σ H1)/\∀i m σ H,W i m σ H->
 (J.stop i H/\D.nx σ H)\/(J.go i H/\∃N:L2.St->Hp->Prop,(∀σ' H',N σ' H'->∃m',m'<m/\W (i+1) m' σ' H')/\∀x H',J.yld i H x H'->tG C t x σ H' fun σ2 H2=>tSs C b { D with nx:=N,ct:=N,bk:=D.nx } σ2 H2)
theorem qV' {t:Ct} {it:Ci} {b:Css}:tS C (.for_ t it b) D σ H=tI C it σ H (mq' C t b D σ):=rfl
def kIv (C:Rc) (R:It->Hp->Prop):VK:=fun x H1=>
 (∃a,x=.ref a/\(∃xs,SqL C.K H1 a xs)/\R (Itl C.K a) H1)\/(∃a,x=.ref a/\(∃xs,SqT C.K H1 a xs)/\R (Itt C.K a) H1)\/∃z,x=.str z/\R (Its z) H1
theorem qW' {e:Ce} {R:It->Hp->Prop}:tI C (.val e) σ H R=tE C e σ H (kIv C R):=rfl
def kR1 (R:It->Hp->Prop):VK:=fun x H1=>∃j:Int,x=.int j/\-(2 ^ 62)<=j/\j<2 ^ 62/\R (Itr 0 j.toNat) H1
theorem kI' {e:Ce} {R:It->Hp->Prop}:tI C (.range1 e) σ H R=tE C e σ H fun x H1=>∃j:Int,[x]=[.int j]/\-(2 ^ 62)<=j/\j<2 ^ 62/\R (Itr 0 j.toNat) H1:=rfl
theorem ew' {e:Ce} {R:It->Hp->Prop}:tI C (.range1 e) σ H R=tE C e σ H (kR1 R):=by
 rw[kI']
 congr 1
 funext x H1
 unfold kR1
 simp only[List.cons.injEq,and_true]
def ur' (R:It->Hp->Prop) (x:V):VK:=fun y H1=>∃i j:Int,x=.int i/\y=.int j/\(-(2 ^ 62)<=i/\i<2 ^ 62/\-(2 ^ 62)<=j/\j<2 ^ 62)/\R (Itr i (j-i).toNat) H1
def uZ' (C:Rc) (σ:L2.St) (e:Ce) (R:It->Hp->Prop):VK:=fun x H1=>tE C e σ H1 (ur' R x)
theorem iT' {e:Ce} {R:It->Hp->Prop} {x:V}:uZ' C σ e R x H=tE C e σ H (ur' R x):=rfl
def kZ2 (C:Rc) (R:It->Hp->Prop) (x:V):VK:=fun y H1=>∃(k j:Bool) (a b:Addr),x=.ref a/\y=.ref b/\(∃xs,Sq k C.K H1 a xs)/\(∃ys,Sq j C.K H1 b ys)/\R (uJ' k j C.K a b) H1
def kZ1 (C:Rc) (σ:L2.St) (e:Ce) (R:It->Hp->Prop):VK:=fun x H1=>tE C e σ H1 (kZ2 C R x)
theorem mr' {e:Ce} {R:It->Hp->Prop} {x:V}:kZ1 C σ e R x H=tE C e σ H (kZ2 C R x):=rfl
def kEn (C:Rc) (R:It->Hp->Prop):VK:=fun x H1=>(∃a,x=.ref a/\(∃xs,SqL C.K H1 a xs)/\R (Ite C.K a) H1)\/(∃z,x=.str z/\R (r2' z) H1)\/∃a,x=.ref a/\(∃xs,SqT C.K H1 a xs)/\R (r3' C.K a) H1
theorem mt' {a:Ce} {R:It->Hp->Prop}:tI C (.enum a) σ H R=tE C a σ H (kEn C R):=by
 show(tE C a σ H fun x H1=>∃y,[x]=[y]/\((∃a,y=.ref a/\(∃xs,SqL C.K H1 a xs)/\R (Ite C.K a) H1)\/(∃z,y=.str z/\R (r2' z) H1)\/∃a,y=.ref a/\(∃xs,SqT C.K H1 a xs)/\R (r3' C.K a) H1))=_
 congr 1
 funext x H1
 unfold kEn
 exact propext ⟨fun⟨y,e,q⟩=>by cases e;exact q,fun q=>⟨x,rfl,q⟩⟩
theorem mu' {R:It->Hp->Prop} {a:Addr} {xs:List V} (h:SqL C.K H a xs) (q:R (Ite C.K a) H):kEn C R (.ref a) H:=.inl ⟨a,rfl,⟨xs,h⟩,q⟩
theorem ez' {R:It->Hp->Prop} {z:Str} (q:R (Its z) H):kIv C R (.str z) H:=.inr (.inr ⟨z,rfl,q⟩)
theorem bE' {R:It->Hp->Prop} {a:Addr} {xs:List V} (h:SqL C.K H a xs) (q:R (Itl C.K a) H):kIv C R (.ref a) H:=.inl ⟨a,rfl,⟨xs,h⟩,q⟩
theorem ba' {R:It->Hp->Prop} {a:Addr} {xs:List V} (h:SqT C.K H a xs) (q:R (Itt C.K a) H):kIv C R (.ref a) H:=.inr (.inl ⟨a,rfl,⟨xs,h⟩,q⟩)
theorem dQ' {R:It->Hp->Prop} {j:Int} (h0:-(2 ^ 62)<=j) (h1:j<2 ^ 62) (q:R (Itr 0 j.toNat) H):kR1 R (.int j) H:=⟨j,rfl,h0,h1,q⟩
theorem nR' {a:Addr} {xs:List V} {t:Ct} {b:Css} (Pv:Nat->L2.St->Hp->Prop) (h0:Pv 0 σ H) (hl:∀i σ H,i<=xs.length->Pv i σ H->SqL C.K H a xs)
  (hs:∀i x σ H,xs[i]?=some x->Pv i σ H->tG C t x σ H (tSs C b { D with nx:=Pv (i+1),ct:=Pv (i+1),bk:=D.nx })) (hd:∀σ H,Pv xs.length σ H->D.nx σ H):mq' C t b D σ (Itl C.K a) H:=jL' Pv h0 hl hs hd
theorem qX' {a:Addr} {xs:List V} {t:Ct} {b:Css} (Pv:Nat->L2.St->Hp->Prop) (h0:Pv 0 σ H) (hl:∀i σ H,i<=xs.length->Pv i σ H->SqT C.K H a xs)
  (hs:∀i x σ H,xs[i]?=some x->Pv i σ H->tG C t x σ H (tSs C b { D with nx:=Pv (i+1),ct:=Pv (i+1),bk:=D.nx })) (hd:∀σ H,Pv xs.length σ H->D.nx σ H):mq' C t b D σ (Itt C.K a) H:=mY' Pv h0 hl hs hd
theorem eA' {lo:Int} {n:Nat} {t:Ct} {b:Css} (Pv:Nat->L2.St->Hp->Prop) (h0:Pv 0 σ H)
  (hs:∀i σ H,i<n->Pv i σ H->tG C t (.int (lo+i)) σ H (tSs C b { D with nx:=Pv (i+1),ct:=Pv (i+1),bk:=D.nx })) (hd:∀σ H,Pv n σ H->D.nx σ H):mq' C t b D σ (Itr lo n) H:=g0' Pv h0 hs hd
theorem tw' {z:Str} {t:Ct} {b:Css} (Pv:Nat->L2.St->Hp->Prop) (h0:Pv 0 σ H)
  (hs:∀i c σ H,z.cps[i]?=some c->Pv i σ H->tG C t (.str ⟨#[c]⟩) σ H (tSs C b { D with nx:=Pv (i+1),ct:=Pv (i+1),bk:=D.nx })) (hd:∀σ H,Pv z.cps.size σ H->D.nx σ H):mq' C t b D σ (Its z) H:=by
 refine⟨fun i m σ H=>m=z.cps.size-i/\i<=z.cps.size/\Pv i σ H,⟨z.cps.size,by simp,bh _,h0⟩,?_⟩
 rintro i m σ H ⟨rfl,hi,p⟩
 by_cases hlt:i<z.cps.size
 .refine .inr ⟨hlt,Pv (i+1),fun σ' H' p'=>⟨z.cps.size-(i+1),by omega,rfl,hlt,p'⟩,fun x H' y=>?_⟩
  obtain⟨e,c,hc,rfl⟩:=y
  subst e
  exact hs i c σ _ hc p
 .have e:i=z.cps.size:=by omega
  subst e
  exact .inl ⟨ak _,hd σ H p⟩
theorem tx' {a:Addr} {xs:List V} {t:Ct} {b:Css} (Pv:Nat->L2.St->Hp->Prop) (h0:Pv 0 σ H) (hl:∀i σ H,i<=xs.length->Pv i σ H->SqL C.K H a xs)
  (hs:∀i x σ H p,xs[i]?=some x->H p=none->Pv i σ H->tG C t (.ref p) σ (upd H p (.tup [.int i,x])) (tSs C b { D with nx:=Pv (i+1),ct:=Pv (i+1),bk:=D.nx })) (hd:∀σ H,Pv xs.length σ H->D.nx σ H):mq' C t b D σ (Ite C.K a) H:=by
 refine⟨fun i m σ H=>m=xs.length-i/\i<=xs.length/\Pv i σ H,⟨xs.length,by simp,bh _,h0⟩,?_⟩
 rintro i m σ H ⟨rfl,hi,p⟩
 have q:=hl i σ H hi p
 by_cases hlt:i<xs.length
 .refine .inr ⟨⟨xs,xs[i],q,by simp[hlt]⟩,Pv (i+1),fun σ' H' p'=>⟨xs.length-(i+1),by omega,rfl,hlt,p'⟩,fun x H' y=>?_⟩
  obtain⟨ad,v,rfl,hn,y,rfl⟩:=y
  exact hs i v σ _ ad (y xs q) hn p
 .have e:i=xs.length:=by omega
  subst e
  exact .inl ⟨⟨xs,q,rfl⟩,hd σ H p⟩
theorem mv' {l:List Bool} {t:Ct} {b:Css} (Pv:Nat->L2.St->Hp->Prop) (h0:Pv 0 σ H)
  (hs:∀i c σ H,l[i]?=some c->Pv i σ H->tG C t (.str (tx [c])) σ H (tSs C b { D with nx:=Pv (i+1),ct:=Pv (i+1),bk:=D.nx })) (hd:∀σ H,Pv l.length σ H->D.nx σ H):mq' C t b D σ (Its (tx l)) H:=by
 refine tw' Pv h0 (fun i c σ H hc p=>?_) fun σ H p=>hd σ H (by rw[nQ']at p;exact p)
 rw[qR']at hc
 cases hl:l[i]? with
 |none=>rw[hl]at hc;cases hc
 |some d=>
  rw[hl]at hc
  cases hc
  exact hs i d σ H hl p
def r9' (C:Rc) (b:Css) (D:Ends) (N:L2.St->Hp->Prop) (σ:L2.St):Bool->Hp->Prop:=fun c H1=>if c=true then ∃N':L2.St->Hp->Prop,(∀σ' H',N' σ' H'->N σ' H')/\tSs C b { D with nx:=N',ct:=N',bk:=D.nx } σ H1 else D.nx σ H1
theorem qY' {q:Cq} {b:Css} (Pv:Nat->L2.St->Hp->Prop) (m:Nat) (h0:Pv m σ H) (hs:∀m σ H,Pv m σ H->tQ C q σ H (r9' C b D (fun σ' H'=>∃m',m'<m/\Pv m' σ' H') σ)):tS C (.whl q b) D σ H:=⟨Pv,⟨m,h0⟩,hs⟩
theorem qZ' {b:Css} {N:L2.St->Hp->Prop} (h:tSs C b { D with nx:=N,ct:=N,bk:=D.nx } σ H):r9' C b D N σ true H:=⟨N,fun _ _ q=>q,h⟩
theorem q0' {b:Css} {N:L2.St->Hp->Prop} (h:D.nx σ H):r9' C b D N σ false H:=by unfold r9';rw[if_neg (by decide)];exact h
def kJ' (xs:List V) (P:List V->Hp->Prop):VK:=fun v H=>xs.length<sizeLine/\P (xs++[v]) H
def kCT (C:Rc) (elt:Ce) (xs:List V) (P:List V->Hp->Prop) (σ:L2.St):Bool->Hp->Prop:=fun ok H=>if ok=true then tE C elt σ H (kJ' xs P)else P xs H
def kCG (C:Rc) (elt:Ce) (q:Cqo) (xs:List V) (P:List V->Hp->Prop):L2.St->Hp->Prop:=fun σ H=>tQo C q σ H (kCT C elt xs P σ)
theorem q1' {elt:Ce} {xs:List V} {P:List V->Hp->Prop}:kCG C elt .none xs P σ H=tE C elt σ H (kJ' xs P):=rfl
theorem q2' {elt:Ce} {q:Cq} {xs:List V} {P:List V->Hp->Prop}:kCG C elt (.some q) xs P σ H=tQ C q σ H (kCT C elt xs P σ):=rfl
theorem q3' {elt:Ce} {xs:List V} {P:List V->Hp->Prop}:kCT C elt xs P σ true H=tE C elt σ H (kJ' xs P):=rfl
theorem q4' {elt:Ce} {xs:List V} {P:List V->Hp->Prop}:kCT C elt xs P σ false H=P xs H:=rfl
theorem fU' {xs:List V} {P:List V->Hp->Prop} {v:V}:kJ' xs P v H=(xs.length<sizeLine/\P (xs++[v]) H):=rfl
def nS' (Q:VK) (xs:List V) (H2:Hp):Prop:=∀p,H2 p=none->Q (.ref p) (upd H2 p (.lst xs))
def gK' (C:Rc) (elt:Ce) (own:List Nat) (t:Ct) (q:Cqo) (σ:L2.St) (Q:VK) (J:It) (H1:Hp):Prop:=bA' own (tG C t) (tQo C q) (eT' (tE C elt)) J σ [] H1 (nS' Q)
theorem iU' {elt:Ce} {own:List Nat} {t:Ct} {it:Ci} {q:Cqo}:tE C (.comp elt own t it q .nil) σ H Q=tI C it σ H (gK' C elt own t q σ Q):=rfl
theorem dR' {elt:Ce} {own:List Nat} {t:Ct} {q:Cqo} {J:It} {n:Nat} (Pv:Nat->List V->Hp->Prop) (h0:Pv 0 [] H) (hgo:∀i xs H,i<n->Pv i xs H->J.go i H) (hstop:∀xs H,Pv n xs H->J.stop n H)
  (hs:∀i xs H x H' (R:List V->Hp->Prop),i<n->Pv i xs H->J.yld i H x H'->(∀ys H2,Pv (i+1) ys H2->R ys H2)->tG C t x (clr own σ) H' (kCG C elt q xs R)) (hd:∀xs H,Pv n xs H->nS' Q xs H):gK' C elt own t q σ Q J H:=by
 refine⟨fun i m xs H=>m=n-i/\i<=n/\Pv i xs H,⟨n,by simp,bh _,h0⟩,?_⟩
 rintro i m xs H ⟨rfl,hi,p⟩
 by_cases hlt:i<n
 .refine .inr ⟨hgo i xs H hlt p,fun x H' y=>?_⟩
  exact hs i xs H x H' (fun c H4=>∃m',m'<n-i/\(m'=n-(i+1)/\i+1<=n/\Pv (i+1) c H4)) hlt p y fun ys H2 p2=>⟨n-(i+1),by omega,rfl,hlt,p2⟩
 .have e:i=n:=by omega
  subst e
  exact .inl ⟨hstop xs H p,hd xs H p⟩
theorem mw' {elt:Ce} {own:List Nat} {t:Ct} {q:Cqo} {a:Addr} {vs:List V} (Pv:Nat->List V->Hp->Prop) (h0:Pv 0 [] H) (hl:∀i xs H,Pv i xs H->SqL C.K H a vs)
  (hs:∀i xs H x (R:List V->Hp->Prop),vs[i]?=some x->Pv i xs H->(∀ys H2,Pv (i+1) ys H2->R ys H2)->tG C t x (clr own σ) H (kCG C elt q xs R)) (hd:∀xs H,Pv vs.length xs H->nS' Q xs H):gK' C elt own t q σ Q (Itl C.K a) H:=
 dR' (n:=vs.length) Pv h0 (fun i xs H hi p=>⟨vs,vs[i],hl i xs H p,by simp[hi]⟩) (fun xs H p=>⟨vs,hl _ xs H p,ak _⟩) (fun i xs H x H' R hi p y k=>by
  obtain⟨e,y⟩:=y
  subst e
  exact hs i xs H' x R (y vs (hl i xs H' p)) p k) hd
theorem eB' {elt:Ce} {own:List Nat} {t:Ct} {q:Cqo} {a:Addr} {vs:List V} (Pv:Nat->List V->Hp->Prop) (h0:Pv 0 [] H) (hl:∀i xs H,Pv i xs H->SqT C.K H a vs)
  (hs:∀i xs H x (R:List V->Hp->Prop),vs[i]?=some x->Pv i xs H->(∀ys H2,Pv (i+1) ys H2->R ys H2)->tG C t x (clr own σ) H (kCG C elt q xs R)) (hd:∀xs H,Pv vs.length xs H->nS' Q xs H):gK' C elt own t q σ Q (Itt C.K a) H:=
 dR' (n:=vs.length) Pv h0 (fun i xs H hi p=>⟨vs,vs[i],hl i xs H p,by simp[hi]⟩) (fun xs H p=>⟨vs,hl _ xs H p,ak _⟩) (fun i xs H x H' R hi p y k=>by
  obtain⟨e,y⟩:=y
  subst e
  exact hs i xs H' x R (y vs (hl i xs H' p)) p k) hd
theorem q5' {elt:Ce} {own:List Nat} {t:Ct} {q:Cqo} {lo:Int} {n:Nat} (Pv:Nat->List V->Hp->Prop) (h0:Pv 0 [] H)
  (hs:∀i xs H (R:List V->Hp->Prop),i<n->Pv i xs H->(∀ys H2,Pv (i+1) ys H2->R ys H2)->tG C t (.int (lo+i)) (clr own σ) H (kCG C elt q xs R)) (hd:∀xs H,Pv n xs H->nS' Q xs H):gK' C elt own t q σ Q (Itr lo n) H:=
 dR' (n:=n) Pv h0 (fun i xs H hi p=>hi) (fun xs H p=>ak _) (fun i xs H x H' R hi p y k=>by
  obtain⟨e,rfl⟩:=y
  subst e
  exact hs i xs H' R hi p k) hd
theorem q6' {elt:Ce} {own:List Nat} {t:Ct} {q:Cqo} {a:Addr} {vs:List V} (Pv:Nat->List V->Hp->Prop) (h0:Pv 0 [] H) (hl:∀i xs H,Pv i xs H->SqL C.K H a vs)
  (hs:∀i xs H x p (R:List V->Hp->Prop),vs[i]?=some x->H p=none->Pv i xs H->(∀ys H2,Pv (i+1) ys H2->R ys H2)->tG C t (.ref p) (clr own σ) (upd H p (.tup [.int i,x])) (kCG C elt q xs R)) (hd:∀xs H,Pv vs.length xs H->nS' Q xs H):gK' C elt own t q σ Q (Ite C.K a) H:=
 dR' (n:=vs.length) Pv h0 (fun i xs H hi p=>⟨vs,vs[i],hl i xs H p,by simp[hi]⟩) (fun xs H p=>⟨vs,hl _ xs H p,rfl⟩) (fun i xs H x H' R hi p y k=>by
  obtain⟨ad,v,rfl,hn,y,rfl⟩:=y
  exact hs i xs H v ad R (y vs (hl i xs H p)) hn p k) hd
end
section
variable {C:Rc} {K:W.Frag} {σ:L2.St} {H:Hp} {Q:VK} {D:Ends} {Qb:Bool->Hp->Prop}
theorem am' {f:Str} {es:Ces} {sp:Sp} (h:C.fs f=some sp) (q:tA C es σ H (nN' (some sp) (C.xk σ) Q)):tE C (.call f es) σ H Q:=by
 rw[nO' h]
 exact q
theorem dS' {a:Addr} {xs:List V} (h:SqL K H a xs) (q:Q (.int xs.length) H):dK' K .len [.ref a] H Q:=⟨_,_,rfl,.inl ⟨xs,h,rfl⟩,q⟩
theorem bb' {a:Addr} {xs:List V} (h:SqT K H a xs) (q:Q (.int xs.length) H):dK' K .len [.ref a] H Q:=⟨_,_,rfl,.inr ⟨xs,h,rfl⟩,q⟩
theorem mx' {i:Int}:dK' K .abs [.int i] H Q=Q (.int (if i<0 then -i else i)) H:=propext ⟨fun⟨u,e,q⟩=>by cases e;exact q,fun q=>⟨_,rfl,q⟩⟩
theorem dm' {i:Int}:dK' K .int [.int i] H Q=Q (.int i) H:=rfl
theorem eC' {k:Bool}:dK' K .int [.bl k] H Q=Q (.int (if k then 1 else 0)) H:=rfl
theorem eD' {c:Bool}:dK' K .int [.str (tx [c])] H Q=Q (.int (if c then 1 else 0)) H:=propext ⟨fun⟨n,e,_,q⟩=>by rw[mn']at e;cases e;exact q,fun q=>⟨_,mn',by rw[fT',cx];decide,q⟩⟩
theorem iV' {i j:Int}:dK' K .min [.int i,.int j] H Q=Q (.int (if j<i then j else i)) H:=rfl
theorem aB' {a:Addr} {xs:List V} {i:Int} {v:V} (h:SqL K H a xs) (e:atI xs i=some v) (q:Q v H):eQ' K (.ref a) (.int i) H Q\/fi' K (.ref a) (.int i) H Q:=.inl ⟨a,xs,i,v,rfl,rfl,h,e,q⟩
theorem by' {a:Addr} {xs:List V} {i:Int} {v:V} (h:SqT K H a xs) (e:atI xs i=some v) (q:Q v H):eQ' K (.ref a) (.int i) H Q\/fi' K (.ref a) (.int i) H Q:=.inr ⟨a,xs,i,v,rfl,rfl,h,e,q⟩
theorem nT' {α β:Type} {f:α->β} {xs:List α} {i:Int}:atI (xs.map f) i=(atI xs i).map f:=by
 unfold atI
 rw[ai]
 cases ixN xs.length i with
 |none=>rfl
 |some j=>simp
theorem nU' {l:List Bool} {i:Int} {c:Bool} (hl:l.length<=sizeLine) (e:atI l i=some c) (q:Q (.str (tx [c])) H):kw' K (.str (tx l)) (.int i) H Q:=by
 refine⟨by rw[fT'];exact hl,cb c,?_,q⟩
 rw[qQ',nT',e]
 rfl
theorem my' {a:Addr} {u v:V} {k:Bool} (h:SqL K H a [u,v]) (q:Q (if k then v else u) H):eQ' K (.ref a) (.int (if k then 1 else 0)) H Q\/fi' K (.ref a) (.int (if k then 1 else 0)) H Q:=by
 refine aB' h ?_ q
 cases k<;>rfl
theorem cS' {a:Addr} {u v:V} {k:Bool} (h:SqT K H a [u,v]) (q:Q (if k then v else u) H):eQ' K (.ref a) (.int (if k then 1 else 0)) H Q\/fi' K (.ref a) (.int (if k then 1 else 0)) H Q:=by
 refine by' h ?_ q
 cases k<;>rfl
theorem iW' {x y:List Bool}:c8' K .Add (.str (tx x)) (.str (tx y)) H Q=(x.length+y.length<=sizeLine/\Q (.str (tx (x++y))) H):=by
 rw[qt',fT',fT',qS']
theorem ty' {x y:V} (h:lh' x y=true):bP' K .Eq x y H Q=Q (.bl (decide (x=y))) H:=by
 have e:bP' K .Eq x y H Q=rEq x y H Q:=by
  unfold bP'
  dsimp only
  split
  .cases h
  .rfl
 rw[e]
 exact propext ⟨fun⟨_,q⟩=>q,fun q=>⟨h,q⟩⟩
theorem q8' {x y:V} (h:lh' x y=true):bP' K .NotEq x y H Q=Q (.bl (!decide (x=y))) H:=by
 have e:bP' K .NotEq x y H Q=rNe x y H Q:=by
  unfold bP'
  dsimp only
  split
  .cases h
  .rfl
 rw[e]
 exact propext ⟨fun⟨_,q⟩=>q,fun q=>⟨h,q⟩⟩
theorem q9' {a b:Addr} {xs ys:List V} (h:SqL K H a xs) (h2:SqL K H b ys) (he:xs.length=ys.length->LEq xs ys) (q:Q (.bl (decide (xs=ys))) H):bP' K .Eq (.ref a) (.ref b) H Q:=.inl ⟨a,b,xs,ys,rfl,rfl,h,h2,he,q⟩
theorem ra' {a b:Addr} {xs ys:List V} (h:SqL K H a xs) (h2:SqL K H b ys) (he:xs.length=ys.length->LEq xs ys) (q:Q (.bl (!decide (xs=ys))) H):bP' K .NotEq (.ref a) (.ref b) H Q:=.inl ⟨a,b,xs,ys,rfl,rfl,h,h2,he,q⟩
theorem iX' {xs:List V}:xs.length=([]:List V).length->LEq xs []:=fun _ i x y _ h=>by cases h
theorem mz' {a:Addr} {xs:List V} {y:V} {i:Nat} (h:H a=some (.lst xs)) (hz:xs.length<sizeLine) (hi:i<=xs.length) (q:Q .non (upd H a (.lst (xs.take i++y :: xs.drop i)))):kv' K .insert (.ref a) [.int i,y] H Q:=⟨a,xs,y,i,rfl,rfl,h,hz,hi,q⟩
theorem iY' {i j:Int} (q:∀p,H p=none->Q (.ref p) (upd H p (.rng i j))):dK' K .range [.int i,.int j] H Q:=⟨i,j,.inl rfl,q⟩
theorem kK' {r:Addr} {i j:Int} (h:H r=some (.rng i j)) (h1:-(2 ^ 62)<=i) (h2:i<2 ^ 62) (h3:-(2 ^ 62)<=j) (h4:j<2 ^ 62) (hz:(j-i).toNat<=sizeLine) (q:∀p,H p=none->Q (.ref p) (upd H p (.lst (rgs i (j-i).toNat)))):dK' K .list [.ref r] H Q:=.inr ⟨r,i,j,rfl,h,⟨h1,h2,h3,h4⟩,hz,q⟩
theorem bs' {a:Addr} {xs:List V} (h:SqL K H a xs) (q:∀p,H p=none->Q (.ref p) (upd H p (.tup xs))):dK' K .tuple [.ref a] H Q:=⟨a,xs,rfl,.inl ⟨h,q⟩⟩
theorem rb' {x y:Bool}:bP' K .NotEq (.bl x) (.bl y) H Q=Q (.bl (x != y)) H:=by
 have e:bP' K .NotEq (.bl x) (.bl y) H Q=Q (.bl (!decide (V.bl x=V.bl y))) H:=propext ⟨fun⟨_,q⟩=>q,fun q=>⟨rfl,q⟩⟩
 rw[e]
 cases x<;>cases y<;>rfl
theorem rc' {x y:Int}:bP' K .NotEq (.int x) (.int y) H Q=Q (.bl (!decide (x=y))) H:=by
 have e:bP' K .NotEq (.int x) (.int y) H Q=Q (.bl (!decide (V.int x=V.int y))) H:=propext ⟨fun⟨_,q⟩=>q,fun q=>⟨rfl,q⟩⟩
 rw[e]
 congr 3
 simp only[V.int.injEq]
theorem us' {x:V}:bP' K .Is x .non H Q=Q (.bl (decide (x=.non))) H:=propext ⟨fun⟨_,q⟩=>q,fun q=>⟨rfl,q⟩⟩
theorem iZ' {x:V}:bP' K .IsNot x .non H Q=Q (.bl (!decide (x=.non))) H:=propext ⟨fun⟨_,q⟩=>q,fun q=>⟨rfl,q⟩⟩
def kG (C:Rc) (t:Ct) (D:Ends) (σ:L2.St):VK:=fun v H=>tG C t v σ H D.nx
theorem rd' {t:Ct} {e:Ce}:tS C (.asg t e) D σ H=tE C e σ H (kG C t D σ):=rfl
theorem i0' {i j:Nat} {a:Addr} {x y:V} (h:SqT C.K H a [x,y]) (q:D.nx ((σ.set i (some x)).set j (some y)) H):kG C (.tup (.cons (.name i) (.cons (.name j) .nil))) D σ (.ref a) H:=iS' h q
theorem re' {i j:Nat} {a b:Ce}:tS C (.par i j a b) D σ H=tE C a σ H (nP' C σ i j b D):=by
 show(tE C a σ H fun x H1=>tE C b σ H1 fun y H2=>∃v w,[x,y]=[v,w]/\D.nx ((σ.set i (some v)).set j (some w)) H2)=_
 congr 1
 funext x H1
 unfold nP'
 congr 1
 funext y H2
 exact propext ⟨fun⟨v,w,e,q⟩=>by cases e;exact q,fun q=>⟨x,y,rfl,q⟩⟩
theorem kL' {xs:List V} {n:Nat}:gQ' xs (some (n:Int)) none=xs.drop n:=by
 unfold gQ'
 rw[HT.dx',HT.fh']
 rcases Nat.le_total n xs.length with h|h
 .rw[Nat.min_eq_left h,cm (by simp)]
 .rw[Nat.min_eq_right h,List.drop_of_length_le h];simp
theorem mA' {xs:List V} {n:Nat}:gQ' xs none (some (n:Int))=xs.take n:=by
 unfold gQ'
 rw[HT.dx',HT.fh']
 rcases Nat.le_total n xs.length with h|h
 .rw[Nat.min_eq_left h];simp
 .rw[Nat.min_eq_right h];simp[cm h]
theorem i1' {a:Addr} {xs:List V} {lo hi:Option Int} (h:SqT K H a xs) (hn:¬(HT.sIx xs.length 0 lo=0/\HT.sIx xs.length xs.length hi=xs.length)) (q:∀p,H p=none->Q (.ref p) (upd H p (.tup (gQ' xs lo hi)))):pf' K (.ref a) lo hi H Q\/o9' K (.ref a) lo hi H Q\/pO' K (.ref a) lo hi H Q:=.inr (.inl ⟨a,xs,rfl,h,hn,q⟩)
theorem i2' {a b:Addr} {xs ys:List V} (h:SqT K H a xs) (h2:SqT K H b ys) (hz:xs.length+ys.length<=sizeLine) (q0:xs=[]->Q (.ref b) H) (q1:xs≠[]->ys=[]->Q (.ref a) H) (q2:xs≠[]->ys≠[]->∀p,H p=none->Q (.ref p) (upd H p (.tup (xs++ys)))):c8' K .Add (.ref a) (.ref b) H Q:=by
 by_cases e:xs=[]
 .subst e
  exact .inr (.inr ⟨a,b,ys,rfl,rfl,h,h2,q0 rfl⟩)
 .exact .inr (.inl ⟨a,b,xs,ys,rfl,rfl,h,h2,e,hz,q1 e,q2 e⟩)
theorem nV' {a:Addr} {xs:List V} {lo hi:Option Int} (h:SqL K H a xs) (q:∀p,H p=none->Q (.ref p) (upd H p (.lst (gQ' xs lo hi)))):pf' K (.ref a) lo hi H Q\/o9' K (.ref a) lo hi H Q\/pO' K (.ref a) lo hi H Q:=.inl ⟨a,xs,rfl,h,q⟩
theorem cm' {a:Addr} {xs:List V} {y:V} (h:H a=some (.lst xs)) (hz:xs.length<sizeLine) (q:Q .non (upd H a (.lst (xs++[y])))):kv' K .append (.ref a) [y] H Q:=⟨a,xs,y,rfl,rfl,h,hz,q⟩
theorem tyL {a:Addr} {xs:List V} {m:Mf} (h:H a=some (.lst xs)) (hm:ei' m="list"):tyV K (ei' m) (.ref a) H:=.inl ⟨hm,xs,SqL.of h⟩
theorem mB' {a b:Addr} {xs zs:List V} (h:H a=some (.lst xs)) (h2:H b=some (.lst zs)) (hz:xs.length+zs.length<=sizeLine) (q:∀p,H p=none->Q (.ref p) (upd H p (.lst (xs++zs)))):c8' K .Add (.ref a) (.ref b) H Q:=.inl ⟨a,b,xs,zs,rfl,rfl,h,h2,hz,q⟩
theorem al' {H:Hp} {p:Addr} (h:H p=none) (o:HO):bo' H (upd H p o):=fun b u q=>by rw[ac' (ae' q h)];exact q
theorem snw {H:Hp} {p:Addr} (h:H p=none) (o:HO):bo' H (upd H p o)/\upd H p o p=some o:=⟨al' h o,aa'⟩
theorem gnw {H:Hp} {p:Addr} (h:H p=none) (o:HO):Go 0 H (upd H p o)/\upd H p o p=some o:=⟨Go.new h o,aa'⟩
theorem aG' {α:Type} {l:List α} {i:Nat} {c:α} (hc:l[i]?=some c):i<l.length:=by
 rcases bc i l.length with h|h
 .exact h
 .rw[bF.mpr h]at hc;cases hc
theorem rf':tE C .dnt σ H Q=(∀p,H p=none->Q (.ref p) (upd H p (.dT []))):=rfl
def ut' (x:V) (Q:VK):VK:=fun y H=>∃a v,x=.ref a/\kb' H a y (some v)/\Q v H
def u0' (C:Rc) (σ:L2.St) (b:Ce) (Q:VK):VK:=fun x H=>tE C b σ H (ut' x Q)
theorem i3' {b:Ce} {x:V}:u0' C σ b Q x H=tE C b σ H (ut' x Q):=rfl
end
end R3
namespace R3
open PySem PySem.Spec PyProof.Rows L2 PySem.Builtin PySem.Builtin.Str
section
variable {K:W.Frag} {H:Hp} {Q:VK}
end
section
variable {C:Rc} {K:W.Frag} {σ:L2.St} {H:Hp} {Q:VK} {D:Ends} {Qb:Bool->Hp->Prop} {i j:Int}
theorem nW' {a:Addr} {xs:List V} (h:SqL C.K H a xs) (q:Qb (!xs.isEmpty) H):uq' C Qb (.ref a) H:=⟨_,.inl ⟨xs,h,rfl⟩,q⟩
def sa' (R:It->Hp->Prop) (x y:V):VK:=fun z H1=>∃i j c:Int,x=.int i/\y=.int j/\z=.int c/\(-(2 ^ 60)<=i/\i<2 ^ 60/\-(2 ^ 60)<=j/\j<2 ^ 60/\(0<c/\c<2 ^ 29\/c=-1))/\R (Itc i c (cL' i j c)) H1
def sb' (C:Rc) (σ:L2.St) (e:Ce) (R:It->Hp->Prop) (x:V):VK:=fun y H1=>tE C e σ H1 (sa' R x y)
def tz' (C:Rc) (σ:L2.St) (e e':Ce) (R:It->Hp->Prop):VK:=fun x H1=>tE C e σ H1 (sb' C σ e' R x)
theorem eE' {a b c:Ce} {R:It->Hp->Prop}:tI C (.range3 a b c) σ H R=tE C a σ H (tz' C σ b c R):=by
 show(tE C a σ H fun x H1=>tE C b σ H1 fun y H2=>tE C c σ H2 fun z H3=>∃i j c:Int,[x,y,z]=[.int i,.int j,.int c]/\(-(2 ^ 60)<=i/\i<2 ^ 60/\-(2 ^ 60)<=j/\j<2 ^ 60/\(0<c/\c<2 ^ 29\/c=-1))/\R (Itc i c (cL' i j c)) H3)=_
 congr 1
 funext x H1
 unfold tz'
 congr 1
 funext y H2
 unfold sb'
 congr 1
 funext z H3
 unfold sa'
 simp only[List.cons.injEq,and_true,and_assoc]
theorem i4' {e e':Ce} {R:It->Hp->Prop} {x:V}:tz' C σ e e' R x H=tE C e σ H (sb' C σ e' R x):=rfl
theorem i5' {e:Ce} {R:It->Hp->Prop} {x y:V}:sb' C σ e R x y H=tE C e σ H (sa' R x y):=rfl
theorem rg' {R:It->Hp->Prop} {i j:Int} (h0:-(2 ^ 60)<=i) (h1:i<2 ^ 60) (h2:-(2 ^ 60)<=j) (h3:j<2 ^ 60) (q:R (Itc i (-1) (i-j).toNat) H):sa' R (.int i) (.int j) (.int (-1)) H:=⟨i,j,-1,rfl,rfl,rfl,⟨h0,h1,h2,h3,.inr rfl⟩,q⟩
theorem tA' {lo c:Int} {n:Nat} {t:Ct} {b:Css} (Pv:Nat->L2.St->Hp->Prop) (h0:Pv 0 σ H)
  (hs:∀i σ H,i<n->Pv i σ H->tG C t (.int (lo+i*c)) σ H (tSs C b { D with nx:=Pv (i+1),ct:=Pv (i+1),bk:=D.nx })) (hd:∀σ H,Pv n σ H->D.nx σ H):mq' C t b D σ (Itc lo c n) H:=by
 refine⟨fun i m σ H=>m=n-i/\i<=n/\Pv i σ H,⟨n,by simp,bh _,h0⟩,?_⟩
 rintro i m σ H ⟨rfl,hi,p⟩
 by_cases hlt:i<n
 .refine .inr ⟨hlt,Pv (i+1),fun σ' H' p'=>⟨n-(i+1),by omega,rfl,hlt,p'⟩,fun x H' y=>?_⟩
  obtain⟨e,rfl⟩:=y
  subst e
  exact hs i σ _ hlt p
 .have e:i=n:=by omega
  subst e
  exact .inl ⟨ak _,hd σ H p⟩
def tC' (C:Rc) (elt:Ce) (ws:List Nat) (t2:Ct) (q2:Cqo) (xs:List V) (P:List V->Hp->Prop) (σ:L2.St) (J:It) (H1:Hp):Prop:=bA' ws (tG C t2) (tQo C q2) (eT' (tE C elt)) J σ xs H1 P
def sc' (C:Rc) (elt:Ce) (ws:List Nat) (t2:Ct) (it2:Ci) (q2:Cqo) (xs:List V) (P:List V->Hp->Prop) (σ:L2.St):Bool->Hp->Prop:=fun ok H=>if ok=true then tI C it2 σ H (tC' C elt ws t2 q2 xs P σ)else P xs H
def uu' (C:Rc) (elt:Ce) (q:Cqo) (ws:List Nat) (t2:Ct) (it2:Ci) (q2:Cqo) (xs:List V) (P:List V->Hp->Prop):L2.St->Hp->Prop:=fun σ H=>tQo C q σ H (sc' C elt ws t2 it2 q2 xs P σ)
theorem mC' {elt:Ce} {ws:List Nat} {t2:Ct} {it2:Ci} {q2:Cqo} {xs:List V} {P:List V->Hp->Prop}:uu' C elt .none ws t2 it2 q2 xs P σ H=tI C it2 σ H (tC' C elt ws t2 q2 xs P σ):=rfl
theorem mD' {elt:Ce} {q:Cq} {ws:List Nat} {t2:Ct} {it2:Ci} {q2:Cqo} {xs:List V} {P:List V->Hp->Prop}:uu' C elt (.some q) ws t2 it2 q2 xs P σ H=tQ C q σ H (sc' C elt ws t2 it2 q2 xs P σ):=rfl
theorem mE' {elt:Ce} {ws:List Nat} {t2:Ct} {it2:Ci} {q2:Cqo} {xs:List V} {P:List V->Hp->Prop}:sc' C elt ws t2 it2 q2 xs P σ true H=tI C it2 σ H (tC' C elt ws t2 q2 xs P σ):=rfl
theorem mF' {elt:Ce} {ws:List Nat} {t2:Ct} {it2:Ci} {q2:Cqo} {xs:List V} {P:List V->Hp->Prop}:sc' C elt ws t2 it2 q2 xs P σ false H=P xs H:=rfl
def rh' (C:Rc) (elt:Ce) (own:List Nat) (t:Ct) (q:Cqo) (ws:List Nat) (t2:Ct) (it2:Ci) (q2:Cqo) (σ:L2.St) (Q:VK) (J:It) (H1:Hp):Prop:=bA' own (tG C t) (tQo C q) (pn' (tI C it2) (bA' ws (tG C t2) (tQo C q2) (eT' (tE C elt)))) J σ [] H1 (nS' Q)
theorem fV' {elt:Ce} {own:List Nat} {t:Ct} {it:Ci} {q:Cqo} {ws:List Nat} {t2:Ct} {it2:Ci} {q2:Cqo}:tE C (.comp elt own t it q (.cons ws t2 it2 q2 .nil)) σ H Q=tI C it σ H (rh' C elt own t q ws t2 it2 q2 σ Q):=rfl
end
section
variable {C:Rc} {σ:L2.St} {H:Hp} {Q:VK} {D:Ends}
structure ClsG (C:Rc) (r:Str) (Cr:Addr) (L:List Str):Prop where
 own:C.cl r=some Cr
 e:∃Ce,C.cl "RunError"=some Ce/\W.exmOne C.K (.ref Cr) (.ref Ce)=some true
 ex:W.excIn C.K Cr bmV "ValueError.__new__"=true
 x:XCls C.K Cr
 kv:W.kitOne C.K (.ref Cr) (.type "ValueError")=some true
 k:∀c∈L,∃Cc,C.cl c=some Cc/\W.kitOne C.K (.ref Cr) (.ref Cc)=some (decide (c=r))
end
def a1' (l:List (Str×Sp)) (y:Str):Option Sp:=l.lookup y
theorem ag' {x:Str} {s:Sp} {l:List (Str×Sp)}:a1' ((x,s) :: l) x=some s:=by unfold a1';simp
theorem ab' {x y:Str} {s:Sp} {l:List (Str×Sp)} (h:(y == x)=false):a1' ((x,s) :: l) y=a1' l y:=by
 unfold a1'
 rw[bj,h]
theorem dn' {y:Str} {s:Sp}:∀{l:List (Str×Sp)},a1' l y=some s->(y,s)∈l
 | [],h=>by cases h
 |(x,t) :: l,h=>by
  unfold a1' at h
  rw[bj]at h
  cases e:y == x with
  |true=>
   rw[e]at h
   cases h
   rw[eq_of_beq e]
   exact aA ..
  |false=>
   rw[e]at h
   exact ao _ (dn' h)
theorem a2' {P:Program} {w:World} {K:W.Frag} {mg:Str->Option Value} {base:Heap} {k:Nat} {l:List (Str×Sp)} (h:∀p∈l,∃f' fd' ps',FnOk P w K mg base CX0 k f' fd' ps' p.2/\mg p.1=some (.ref f')/\W.keepIn K (.ref f')=true/\c4' K fd' ps' []):
  ∀y sp',a1' l y=some sp'->∃f' fd' ps',FnOk P w K mg base CX0 k f' fd' ps' sp'/\mg y=some (.ref f')/\W.keepIn K (.ref f')=true/\c4' K fd' ps' []:=fun y sp' e=>h (y,sp') (dn' e)
theorem aw' {P:Program} {w:World} {K:W.Frag} {mg:Str->Option Value} {base:Heap} {x qual:Str} {st:Stmt} {f:Addr} {fd:FuncData} {ps:List Str} {k:Nat} {sp:Sp} (F:Fun K x qual st f fd) (C:Rc) (S:FnScope C.N ps (ad' st)) (hK:C.K=K) (code:Css) (hm:mSs C.N C.B (ad' st) code (ap' st)=true)
  (len:∀vs H Q E,sp vs H Q E->vs.length=ps.length)
  (hfs:∀y sp',C.fs y=some sp'->∃f' fd' ps',FnOk P w K mg base CX0 k f' fd' ps' sp'/\mg y=some (.ref f')/\W.keepIn K (.ref f')=true/\c4' K fd' ps' []) (hB:∀y∈C.B,mg y=none) (hmk:mg "~"=none/\mg "^"=none/\mg "%"=none) (nt:tld C.B=false) (nh:hat C.B=false) (hxk:C.xk=fun _=>E0) (hcl:C.cl=fun _=>none)
  (hbody:∀vs H Q E,sp vs H Q E->tSs C code { nx:=fun _ H'=>Q .non H',rt:=Q } (aO' C.N vs) H):FnOk P w K mg base CX0 (k+1) f fd ps sp:=
 nJ' F C S hK code hm len ⟨fun y sp' e=>by
  obtain⟨f',fd',ps',h1,h2⟩:=hfs y sp' e
  exact⟨f',fd',ps',.inl h1,h2⟩,hB,hmk,(fun c Ca e=>by rw[hcl]at e;cases e),nt,nh⟩ hxk hbody
theorem mC {α:Type} {P:α->Prop} {a:α} {l:List α} (h:P a/\∀x∈l,P x):∀x∈a :: l,P x:=List.forall_mem_cons.mpr h
theorem mN {α:Type} {P:α->Prop}:∀x∈([]:List α),P x:=fun y hy=>absurd hy aK
theorem tD' {α:Type} {P:List α->Prop} (h:∀x0,P [x0]):∀us:List α,us.length=1->P us
 | [x0],_=>h x0
theorem kM' {α:Type} {P:List α->Prop} (h:∀x0 x1,P [x0,x1]):∀us:List α,us.length=2->P us
 | [x0,x1],_=>h x0 x1
theorem tE' {α:Type} {P:List α->Prop} (h:∀x0 x1 x2 x3,P [x0,x1,x2,x3]):∀us:List α,us.length=4->P us
 | [x0,x1,x2,x3],_=>h x0 x1 x2 x3
def bW' {α β:Type} (R:α->β->Prop):List α->List β->Prop
 | [],[]=>True
 |a :: as,b :: bs=>R a b/\bW' R as bs
 |_,_=>False
section
variable {α β:Type} {R S:α->β->Prop}
theorem bW'.mono (h:∀a b,R a b->S a b):∀{as:List α} {bs:List β},bW' R as bs->bW' S as bs
 | [],[],_=>trivial
 |_ :: _,_ :: _,q=>⟨h _ _ q.1,bW'.mono h q.2⟩
 | [],_ :: _,q=>q.elim
 |_ :: _,[],q=>q.elim
theorem bW'.len:∀{as:List α} {bs:List β},bW' R as bs->as.length=bs.length
 | [],[],_=>rfl
 |_ :: _,_ :: _,q=>by simp[bW'.len q.2]
 | [],_ :: _,q=>q.elim
 |_ :: _,[],q=>q.elim
theorem bW'.app:∀{as cs:List α} {bs ds:List β},bW' R as bs->bW' R cs ds->bW' R (as++cs) (bs++ds)
 | [],_,[],_,_,q=>q
 |_ :: _,_,_ :: _,_,p,q=>⟨p.1,bW'.app p.2 q⟩
 | [],_,_ :: _,_,p,_=>p.elim
 |_ :: _,_,[],_,p,_=>p.elim
theorem bW'.snoc {a:α} {b:β} {as:List α} {bs:List β} (h:bW' R as bs) (r:R a b):bW' R (as++[a]) (bs++[b]):=h.app ⟨r,trivial⟩
theorem bW'.get:∀{as:List α} {bs:List β} {i:Nat} {b:β},bW' R as bs->bs[i]?=some b->∃a,as[i]?=some a/\R a b
 | [],[],_,_,_,e=>by cases e
 |a :: _,_ :: _,0,_,q,e=>by cases e;exact⟨a,rfl,q.1⟩
 |_ :: as,_ :: bs,i+1,b,q,e=>by
  obtain⟨a,h1,h2⟩:=bW'.get (i:=i) (b:=b) q.2 (by simpa using e)
  exact⟨a,by simpa using h1,h2⟩
 | [],_ :: _,_,_,q,_=>q.elim
 |_ :: _,[],_,_,q,_=>q.elim
theorem bW'.getL:∀{as:List α} {bs:List β} {i:Nat} {a:α},bW' R as bs->as[i]?=some a->∃b,bs[i]?=some b/\R a b
 | [],[],_,_,_,e=>by cases e
 |_ :: _,b :: _,0,_,q,e=>by cases e;exact⟨b,rfl,q.1⟩
 |_ :: as,_ :: bs,i+1,a,q,e=>by
  obtain⟨b,h1,h2⟩:=bW'.getL (i:=i) (a:=a) q.2 (by simpa using e)
  exact⟨b,by simpa using h1,h2⟩
 | [],_ :: _,_,_,q,_=>q.elim
 |_ :: _,[],_,_,q,_=>q.elim
end
section
variable {C:Rc} {σ:L2.St} {H:Hp} {Q:VK} {D:Ends} {α:Type}
def ri' (neg:Bool) (y:V) (Q:VK):VK:=fun x H2=>(∃a o,x=.ref a/\kb' H2 a y o/\Q (.bl (if neg then !o.isSome else o.isSome)) H2)\/uP' neg y x H2 Q
def tF' (C:Rc) (σ:L2.St) (neg:Bool) (b:Ce) (Q:VK):VK:=fun y H1=>tE C b σ H1 (ri' neg y Q)
theorem kN' {neg:Bool} {b:Ce} {y:V}:tF' C σ neg b Q y H=tE C b σ H (ri' neg y Q):=rfl
end
section
variable {C:Rc} {σ:L2.St} {H:Hp} {Q:VK} {Qb:Bool->Hp->Prop}
def kW1 (C:Rc) (σ:L2.St) (k:Zf) (b:Ce) (Q:VK):VK:=fun x H=>tE C b σ H fun y H'=>rZf k x y H' Q
def kW2 (k:Zf) (x:V) (Q:VK):VK:=fun y H=>rZf k x y H Q
theorem rj' {k:Zf} {a b:Ce}:tQ C (.cmw k a b) σ H Qb=tE C a σ H (kW1 C σ k b (kT Qb)):=rfl
theorem rk' {k:Zf} {b:Ce} {x:V}:kW1 C σ k b Q x H=tE C b σ H (kW2 k x Q):=rfl
theorem kO' {K:W.Frag} {a:Addr} {kvs:List (List Key×V)} (h:Rd H a (.dT kvs)) (q:Q (.int kvs.length) H):dK' K .lenD [.ref a] H Q:=.inr ⟨a,kvs,rfl,h,q⟩
section
variable {D:Ends}
def u1' (x y z:V) (sub:Bool) (D:Ends) (σ:L2.St):VK:=fun w H4=>ipI (fun i j=>if sub then i-j else i+j) z w H4 fun u H5=>co' x y u H5 fun H6=>D.nx σ H6
def uv' (C:Rc) (e:Ce) (sub:Bool) (x:V) (D:Ends) (σ:L2.St):VK:=fun y H2=>eQ' C.K x y H2 fun z H3=>tE C e σ H3 (u1' x y z sub D σ)
def u2' (C:Rc) (i:Ce) (sub:Bool) (e:Ce) (D:Ends) (σ:L2.St):VK:=fun x H1=>tE C i σ H1 (uv' C e sub x D σ)
theorem nX' {i e:Ce} {sub:Bool} {x:V}:u2' C i sub e D σ x H=tE C i σ H (uv' C e sub x D σ):=rfl
def uw' (x v:V) (D:Ends) (σ:L2.St):VK:=fun y H3=>∃a H4,x=.ref a/\ln' H3 a y v H4/\D.nx σ H4
def tG' (C:Rc) (i:Ce) (v:V) (D:Ends) (σ:L2.St):VK:=fun x H2=>tE C i σ H2 (uw' x v D σ)
def u3' (C:Rc) (o i:Ce) (D:Ends) (σ:L2.St):VK:=fun v H1=>tE C o σ H1 (tG' C i v D σ)
theorem nY' {o i:Ce} {v:V}:u3' C o i D σ v H=tE C o σ H (tG' C i v D σ):=rfl
theorem nZ' {i:Ce} {v x:V}:tG' C i v D σ x H=tE C i σ H (uw' x v D σ):=rfl
end
def tH' (C:Rc) (Q:VK) (x:V):VK:=fun y H1=>∃(k j:Bool) (a b:Addr) (xs ys:List V),[x,y]=[.ref a,.ref b]/\Sq k C.K H1 a xs/\Sq j C.K H1 b ys/\xs.length=ys.length/\
 ∀(l:Addr) (as:List Addr) (H':Hp),H1 l=none->(∀b u,H1 b=some u->H' b=some u)->(∀p∈as,H1 p=none)->H' l=some (.lst (as.map V.ref))->as.length=xs.length->(∀(i:Nat) p x y,as[i]?=some p->xs[i]?=some x->ys[i]?=some y->H' p=some (.tup [x,y]))->Q (.ref l) H'
def ux' (C:Rc) (σ:L2.St) (b:Ce) (Q:VK):VK:=fun x H1=>tE C b σ H1 (tH' C Q x)
theorem rl' {a b:Ce}:tE C (.lzp a b) σ H Q=tE C a σ H (ux' C σ b Q):=rfl
theorem n0' {b:Ce} {x:V}:ux' C σ b Q x H=tE C b σ H (tH' C Q x):=rfl
theorem rm' {k j:Bool} {a b:Addr} {xs ys:List V} (h1:Sq k C.K H a xs) (h2:Sq j C.K H b ys) (hl:xs.length=ys.length)
  (q:∀(l:Addr) (as:List Addr) (H':Hp),H l=none->(∀b u,H b=some u->H' b=some u)->(∀p∈as,H p=none)->H' l=some (.lst (as.map V.ref))->as.length=xs.length->(∀(i:Nat) p x y,as[i]?=some p->xs[i]?=some x->ys[i]?=some y->H' p=some (.tup [x,y]))->Q (.ref l) H'):tH' C Q (.ref a) (.ref b) H:=⟨k,j,a,b,xs,ys,rfl,h1,h2,hl,q⟩
def tI' (C:Rc) (σ:L2.St) (b:Ce) (Q:VK):VK:=fun x H1=>tE C b σ H1 (kH' fun l H2=>∃(a:Addr) (xs:List V) (n:Nat),x=.ref a/\l=some (n:Int)/\0<n/\SqL C.K H2 a xs/\∀p,H2 p=none->Q (.ref p) (upd H2 p (.lst (ub' xs n))))
theorem kP' {b:Ce} {x:V}:tI' C σ b Q x H=tE C b σ H (kH' fun l H2=>∃(a:Addr) (xs:List V) (n:Nat),x=.ref a/\l=some (n:Int)/\0<n/\SqL C.K H2 a xs/\∀p,H2 p=none->Q (.ref p) (upd H2 p (.lst (ub' xs n)))):=rfl
def uy' (C:Rc) (Q:VK) (x:V):VK:=fun y H1=>∃(k j:Bool) (a b:Addr) (ps:List (Str×Str)),[x,y]=[.ref a,.ref b]/\Sq k C.K H1 a (ps.map fun q=>V.str q.1)/\Sq j C.K H1 b (ps.map fun q=>V.str q.2)/\ps.length<64/\
 ∀(l:Addr) (as:List (Addr×Str×Str)) (H':Hp),H1 l=none->(∀b u,H1 b=some u->H' b=some u)->H' l=some (.lst (as.map fun q=>V.ref q.1))->(as.map fun q=>q.2).Perm ps->(as.Pairwise fun x y=>pP' [.inr y.2.1,.inr y.2.2] [.inr x.2.1,.inr x.2.2]=false)->(∀q∈as,H' q.1=some (.tup [.str q.2.1,.str q.2.2]))->Q (.ref l) H'
def u4' (C:Rc) (σ:L2.St) (b:Ce) (Q:VK):VK:=fun x H1=>tE C b σ H1 (uy' C Q x)
theorem n1' {b:Ce} {x:V}:u4' C σ b Q x H=tE C b σ H (uy' C Q x):=rfl
def uz' (Q:VK):VK:=fun v H1=>∃(k:List Int) (b:Addr),v=.ref b/\H1 b=some (.tup (k.map V.int))/\∀p,H1 p=none->Q (.ref p) (upd H1 p (bR' p [(k,b)]))
theorem rn' {a:Ce}:tE C (.sd1 a) σ H Q=tE C a σ H (uz' Q):=rfl
theorem ro' {k:List Int} {b:Addr} (h:H b=some (.tup (k.map V.int))) (q:∀p,H p=none->Q (.ref p) (upd H p (bR' p [(k,b)]))):uz' Q (.ref b) H:=⟨k,b,rfl,h,q⟩
def tJ' (D:Addr) (Q:VK):VK:=fun y H2=>∃(k:List Int) (b:Addr) (L:List (List Int×Addr)),y=.ref b/\H2 b=some (.tup (k.map V.int))/\H2 D=some (bR' D L)/\Trk H2 L/\L.length<4000/\Q .non (upd H2 D (bR' D (kt' L k b)))
def uA' (C:Rc) (σ:L2.St) (b:Ce) (Q:VK):VK:=fun x H1=>∃(D:Addr) (L0:List (List Int×Addr)),x=.ref D/\H1 D=some (bR' D L0)/\tE C b σ H1 (tJ' D Q)
theorem rp' {a b:Ce}:tE C (.sad a b) σ H Q=tE C a σ H (uA' C σ b Q):=rfl
theorem rq' {D:Addr} {L0:List (List Int×Addr)} {b:Ce} (h:H D=some (bR' D L0)) (q:tE C b σ H (tJ' D Q)):uA' C σ b Q (.ref D) H:=⟨D,L0,rfl,h,q⟩
theorem rr' {D b:Addr} {k:List Int} {L:List (List Int×Addr)} (h:H b=some (.tup (k.map V.int))) (h2:H D=some (bR' D L)) (h3:Trk H L) (h4:L.length<4000) (q:Q .non (upd H D (bR' D (kt' L k b)))):tJ' D Q (.ref b) H:=⟨k,b,L,rfl,h,h2,h3,h4,q⟩
theorem n2' {D b:Addr} {k:List Int} {L:List (List Int×Addr)} (h:H b=some (.tup (k.map V.int))) (h2:H D=some (bR' D L)) (h3:Trk H L) (q:Q (.bl (!decide (k∈L.map (·.1)))) H):kW2 .ninS (.ref b) Q (.ref D) H:=⟨k,b,D,L,rfl,h,rfl,h2,h3,q⟩
def tK' (a:Addr) (y:V) (Q:VK):VK:=fun z H3=>∃o,kb' H3 a y o/\(∀v,o=some v->Q v H3)/\(o=none->∃H4,ln' H3 a y z H4/\Q z H4)
def tL' (C:Rc) (σ:L2.St) (c:Ce) (a:Addr) (Q:VK):VK:=fun y H2=>tE C c σ H2 (tK' a y Q)
def uB' (C:Rc) (σ:L2.St) (b c:Ce) (Q:VK):VK:=fun x H1=>∃a,x=.ref a/\IsD H1 a/\tE C b σ H1 (tL' C σ c a Q)
theorem rs' {a b c:Ce}:tE C (.dsd a b c) σ H Q=tE C a σ H (uB' C σ b c Q):=rfl
theorem n3' {c:Ce} {a:Addr} {y:V}:tL' C σ c a Q y H=tE C c σ H (tK' a y Q):=rfl
theorem rt' {a:Addr} {b c:Ce} (h:IsD H a) (q:tE C b σ H (tL' C σ c a Q)):uB' C σ b c Q (.ref a) H:=⟨a,rfl,h,q⟩
theorem ru' {a:Addr} {y z:V} {o:Option V} (h:kb' H a y o) (h1:∀v,o=some v->Q v H) (h2:o=none->∃H4,ln' H a y z H4/\Q z H4):tK' a y Q z H:=⟨o,h,h1,h2⟩
end
end R3
section
open PySem PySem.Spec PyProof.Rows L2 R3
set_option hygiene false in
local macro_rules | `(tactic| walk_at "st") => `(tactic| simp only [lG', lH', qp', lI', lJ', lK', lL', lM', lN', lO', lP', lQ', lR', lS', lT', fE', qq', lU', fF', lV', qr', iL', iM', lW', lX', eE', i4', i5', mC', mD', mE', mF', fV', qs', iW', qu', qv', lY', qw', qx', qy', uh', ui', uj', uk', rb', rc', i3', us', iZ', lZ', l0', iN', fG', l1', l2', l3', qz', l4', fH', qB', iO', qF', fI', fJ', fK', um', qG', qH', iK', l6', l7', qI', l5', l8', l9', iP', iQ', fL', ma', iR', mb', fM', fN', mc', md', me', mf', qL', mg', mh', fO', fP', fQ', mi', mj', et', ml', fR', fS', re', mx', dm', eC', eD', iV', qT', mm', qV', qW', ew', iT', mr', mt', mo', iU', q1', q2', q3', q4', fU', clr, List.foldl_cons, List.foldl_nil, L2.aO', aE, cI, aY, List.length_nil, cE, List.nil_append, aC, Nat.reduceSub, Nat.reduceAdd, List.set_cons_zero, List.set_cons_succ, List.getElem?_cons_zero, List.getElem?_cons_succ, reduceCtorEq, decide_true, decide_false, eq_self, Bool.not_true, Bool.not_false, bne_self_eq_false, BEq.rfl])
namespace LW
open PySem PySem.Spec PyProof.Rows L2 R3
def b3':Css:=(.cons (.ite (.cmp .Lt (.var 1) (.blt .len (.cons (.var 0) .nil))) (.cons (.ret (.idx (.var 0) (.var 1)))
  .nil) .nil)
  (.cons (.ret (.int 0))
  .nil))
def kQ':Css:=(.cons (.asg (.name 2) (.call "_law_cell_at" (.cons (.var 0) (.cons (.var 1) .nil))))
  (.cons (.ret (.lst (.cons (.bin .Mult (.blt .abs (.cons (.var 2) .nil)) (.blt .int (.cons (.cmp .GtE (.blt .abs (.cons (.var 2) .nil)) (.bin .Pow (.int 10) (.int 18))) .nil))) (.cons (.bin .Add (.bin .Add (.bin .Mod (.var 2) (.int 2305843009213693951)) (.bin .Mult (.int 39373) (.var 1))) (.int 17)) (.cons (.int 0) .nil)))))
  .nil))
def fW':Css:=(.cons (.ite (.cmp .Gt (.idx (.var 0) (.int 0)) (.int 0)) (.cons (.asg (.name 2) (.bin .Mod (.idx (.var 0) (.int 0)) (.var 1)))
  (.cons (.asg (.sub (.var 0) (.int 0)) (.bin .FloorDiv (.idx (.var 0) (.int 0)) (.var 1)))
  (.cons (.ret (.var 2))
  .nil))) .nil)
  (.cons (.asg (.sub (.var 0) (.int 2)) (.bin .Add (.idx (.var 0) (.int 2)) (.int 1)))
  (.cons (.asg (.name 3) (.bin .Mod (.bin .Mult (.bin .Add (.idx (.var 0) (.int 1)) (.bin .Mult (.int 48271) (.idx (.var 0) (.int 2)))) (.bin .Add (.int 39373) (.idx (.var 0) (.int 2)))) (.int 2147483647)))
  (.cons (.asg (.name 4) (.bin .Mod (.bin .Mult (.bin .Add (.var 3) (.idx (.var 0) (.int 2))) (.bin .Add (.bin .Mod (.var 3) (.int 40009)) (.int 7))) (.int 2147483629)))
  (.cons (.ret (.bin .Mod (.bin .FloorDiv (.bin .Mod (.bin .Add (.bin .Mult (.var 4) (.int 48271)) (.var 3)) (.int 2147483587)) (.int 64)) (.var 1)))
  .nil)))))
def do' (K:W.Frag):Sp:=fun vs H Q _=>∃(a:Addr) (ns:List Int) (k:Int),vs=[.ref a,.int k]/\SqL K H a (ns.map V.int)/\0<=k/\∀c:Int,Q (.int c) H
theorem kR' {ns:List Int} {k:Int} (h0:0<=k) (h1:k<ns.length):∃c:Int,atI (ns.map V.int) k=some (.int c):=by
 obtain⟨j,rfl⟩:=aM h0
 have hk:j<ns.length:=by omega
 exact⟨ns[j],aC' (by rw[aG,ac hk];rfl)⟩
theorem i6' {C:Rc} (hN:C.N.length=2):∀vs H Q E,do' C.K vs H Q E->tSs C b3' { nx:=fun _ H'=>Q .non H',rt:=Q } (L2.aO' C.N vs) H:=by
 intro vs H Q E h
 obtain⟨a,ns,k,rfl,hs,hk,q⟩:=h
 rw[av' hN]
 unfold b3'
 (try walk_at "st")
 refine dS' hs ?_
 rw[ai]
 (try walk_at "st")
 refine a0' (fun c=>?_) fun _=>?_
 .obtain⟨v,hv⟩:=kR' hk c
  (try walk_at "st")
  exact aB' hs hv (q v)
 .
  (try walk_at "st")
  exact q 0
def i7' (K:W.Frag):Sp:=fun vs H Q _=>∃(a:Addr) (ns:List Int) (k:Int),vs=[.ref a,.int k]/\SqL K H a (ns.map V.int)/\0<=k/\k<=1000/\∀(p:Addr) (x y:Int),H p=none->0<=x->0<=y->y<2 ^ 62->Q (.ref p) (upd H p (er' x y 0))
theorem kS' {C:Rc} (hN:C.N.length=3) (hf:C.fs "_law_cell_at"=some (do' C.K)):∀vs H Q E,i7' C.K vs H Q E->tSs C kQ' { nx:=fun _ H'=>Q .non H',rt:=Q } (L2.aO' C.N vs) H:=by
 intro vs H Q E h
 obtain⟨a,ns,k,rfl,hs,hk,hk2,q⟩:=h
 rw[av' hN]
 unfold kQ'
 (try walk_at "st")
 refine am' hf ?_
 (try walk_at "st")
 refine⟨a,ns,k,rfl,hs,hk,fun c=>?_⟩
 (try walk_at "st")
 have hm0:0<=c % 2305843009213693951:=Int.emod_nonneg _ (by decide)
 have hm1:c % 2305843009213693951<2305843009213693951:=cq _ (by decide)
 refine⟨⟨by decide,by decide,by decide⟩,?_,by decide,.inl ⟨by decide,by decide⟩,by decide,fun p hp=>q p _ _ hp ?_ ?_ ?_⟩
 .refine .inr (.inl ⟨?_,?_⟩)<;>split<;>split<;>decide
 .split<;>split<;>omega
 .omega
 .omega
section
variable {K:W.Frag} {H:Hp} {b:Addr} {x y z:Int} {Q:VK}
theorem ix0 (h:H b=some (er' x y z)) (q:Q (.int x) H):eQ' K (.ref b) (.int 0) H Q\/fi' K (.ref b) (.int 0) H Q:=.inl ⟨b,_,0,_,rfl,rfl,SqL.of h,rfl,q⟩
theorem ix1 (h:H b=some (er' x y z)) (q:Q (.int y) H):eQ' K (.ref b) (.int 1) H Q\/fi' K (.ref b) (.int 1) H Q:=.inl ⟨b,_,1,_,rfl,rfl,SqL.of h,rfl,q⟩
theorem ix2 (h:H b=some (er' x y z)) (q:Q (.int z) H):eQ' K (.ref b) (.int 2) H Q\/fi' K (.ref b) (.int 2) H Q:=.inl ⟨b,_,2,_,rfl,rfl,SqL.of h,rfl,q⟩
theorem st0 {u:Int} {Q:Hp->Prop} (h:H b=some (er' x y z)) (q:Q (upd H b (er' u y z))):co' (.ref b) (.int 0) (.int u) H Q:=⟨b,_,0,0,rfl,rfl,h,rfl,q⟩
theorem st2 {u:Int} {Q:Hp->Prop} (h:H b=some (er' x y z)) (q:Q (upd H b (er' x y u))):co' (.ref b) (.int 2) (.int u) H Q:=⟨b,_,2,2,rfl,rfl,h,rfl,q⟩
end
def dT':Sp:=fun vs H Q _=>∃(b:Addr) (x y z m:Int),vs=[.ref b,.int m]/\H b=some (er' x y z)/\0<=x/\0<=y/\y<2 ^ 62/\0<=z/\z<=2 ^ 40/\0<m/\m<4611686018427387904/\
 ∀(r x' z':Int),0<=r->r<m->0<=x'->0<=z'->z'<=z+1->Q (.int r) (upd H b (er' x' y z'))
theorem i8' {C:Rc} (hN:C.N.length=5):∀vs H Q E,dT' vs H Q E->tSs C fW' { nx:=fun _ H'=>Q .non H',rt:=Q } (L2.aO' C.N vs) H:=by
 intro vs H Q E h
 obtain⟨b,x,y,z,m,rfl,hb,hx,hy,hy2,hz,hz2,hm,hm2,q⟩:=h
 rw[av' hN]
 unfold fW'
 walk_at "st"
 refine ix0 hb ?_
 walk_at "st"
 refine a0' (fun c=>?_) fun _=>?_
 .walk_at "st"
  refine ix0 hb ?_
  walk_at "st"
  refine⟨hm,?_⟩
  refine ix0 hb ?_
  walk_at "st"
  refine⟨⟨hm,.inr (ag ((Nat.log2_lt (by omega)).mpr (show m.natAbs<2 ^ 62 by omega)) (by decide))⟩,st0 hb ?_⟩
  walk_at "st"
  exact q _ _ _ (Int.emod_nonneg _ (by omega)) (cq _ hm) (Int.ediv_nonneg hx (by omega)) hz (by omega)
 .walk_at "st"
  refine ix2 hb ?_
  walk_at "st"
  refine st2 hb ?_
  have hb':upd H b (er' x y (z+1)) b=some (er' x y (z+1)):=aa'
  walk_at "st"
  refine ix1 hb' ?_
  walk_at "st"
  refine ix2 hb' ?_
  walk_at "st"
  refine⟨.inl ⟨by decide,by decide⟩,?_⟩
  refine ix2 hb' ?_
  walk_at "st"
  refine⟨.inr (.inl ⟨by omega,by omega⟩),by decide,?_⟩
  refine ix2 hb' ?_
  walk_at "st"
  generalize (y+48271*(z+1))*(39373+(z+1)) % 2147483647=once
  have ho0:0<=once % 40009:=Int.emod_nonneg _ (by decide)
  have ho1:once % 40009<40009:=cq _ (by decide)
  refine⟨by decide,.inr (.inl ⟨by omega,by omega⟩),by decide,.inr (.inl ⟨by decide,by decide⟩),by decide,⟨by decide,by decide⟩,hm,?_⟩
  exact q _ _ _ (Int.emod_nonneg _ (by omega)) (cq _ hm) hx (by omega) (by omega)
def au':Sp:=fun vs H Q _=>∃(b:Addr) (n:Nat) (m:Int),vs=[.ref b,.int m]/\H b=some (cq' b n)/\n<=2 ^ 40/\0<m/\m<4611686018427387904/\∀(r:Int) (H':Hp),0<=r->r<m->Go 1 H H'->Q (.int r) H'
theorem n4' {P:Program} {w:World} {K:W.Frag} {mg:Str->Option Value} {base:Heap} {k:Nat} {f:Addr} {fd:FuncData} {ps:List Str} (hp:ps.length=2) (F:FnOk P w K mg base CX0 k f fd ps dT'):FnOk P w K mg base CX0 k f fd ps au':=by
 refine nL' (iJ' (sp':=fun vs H Q E=>dT' vs H (uf' Q) E) F fun _ _ _ _ h=>h) (fun vs H Q E h=>?_) fun vs H Q E h=>?_
 .obtain⟨b,n,m,rfl,hb,hn,hm,hm2,q⟩:=h
  refine⟨b,n,hb,fun x y z hx hy hy2 hz hzn=>⟨b,x,y,z,m,rfl,aa',hx,hy,hy2,hz,by omega,hm,hm2,fun r x' z' h1 h2 h3 h4 h5=>?_⟩⟩
  refine⟨b,x',y,z',n+1,aa',h3,hy,hy2,h4,by omega,?_⟩
  refine q r _ h1 h2 ?_
  rw[eM']
  exact Go.draw hb (ak _) _
 .obtain⟨b,n,m,rfl,_⟩:=h
  rw[hp]
  rfl
def i9' (K:W.Frag):Sp:=fun vs H Q _=>∃(a:Addr) (ns:List Int) (k:Int),vs=[.ref a,.int k]/\SqL K H a (ns.map V.int)/\0<=k/\k<=1000/\∀(p:Addr),H p=none->Q (.ref p) (upd H p (cq' p 0))
theorem rv' {P:Program} {w:World} {K:W.Frag} {mg:Str->Option Value} {base:Heap} {k:Nat} {f:Addr} {fd:FuncData} {ps:List Str} (F:FnOk P w K mg base CX0 k f fd ps (i7' K)):FnOk P w K mg base CX0 k f fd ps (i9' K):=by
 refine iJ' F fun vs H Q E h=>?_
 obtain⟨a,ns,k,rfl,hs,h0,h1,q⟩:=h
 refine⟨a,ns,k,rfl,hs,h0,h1,fun p x y hp hx hy hy2=>⟨p,x,y,0,0,aa',hx,hy,hy2,by omega,by omega,?_⟩⟩
 rw[eM']
 exact q p hp
theorem _root_.R3.Go.boxed {c n:Nat} {H H':Hp} {b:Addr} (g:Go c H H') (h:H b=some (cq' b n)) (hn:n+c<=2 ^ 40):∃m,H' b=some (cq' b m)/\m<=n+c/\m<=2 ^ 40:=by
 obtain⟨m,hm,e⟩:=g.box b n h
 exact⟨m,e,hm,by omega⟩
section
variable {K:W.Frag} {H:Hp} {Q:VK}
end
end LW
namespace LW
open PySem PySem.Spec PyProof.Rows L2 R3
def fX':Css:=(.cons (.ite (.cmp .Eq (.call "_law_take" (.cons (.var 0) (.cons (.int 8) .nil))) (.int 0)) (.cons (.ret (.bin .Add (.int 7) (.call "_law_take" (.cons (.var 0) (.cons (.bin .Sub (.var 3) (.int 6)) .nil)))))
  .nil) .nil)
  (.cons (.ret (.bin .Add (.var 1) (.call "_law_take" (.cons (.var 0) (.cons (.bin .Add (.bin .Sub (.var 2) (.var 1)) (.int 1)) .nil)))))
  .nil))
def b4':Css:=(.cons (.asg (.name 2) (.bin .Add (.int 2) (.call "_law_take" (.cons (.var 0) (.cons (.int 4) .nil)))))
  (.cons (.asg (.name 3) (.lst .nil))
  (.cons (.for_ (.name 4) (.range1 (.var 1)) (.cons (.asg (.name 5) (.lst .nil))
  (.cons (.for_ (.name 6) (.range1 (.int 2)) (.cons (.asg (.name 7) (.call "_law_take" (.cons (.var 0) (.cons (.var 1) .nil))))
  (.cons (.expr (.met .append (.var 5) (.cons (.idx (.lst (.cons (.var 7) (.cons .non .nil))) (.blt .int (.cons (.cmp .Eq (.call "_law_take" (.cons (.var 0) (.cons (.var 2) .nil))) (.int 0)) .nil))) .nil)))
  .nil)))
  (.cons (.expr (.met .append (.var 3) (.cons (.blt .tuple (.cons (.var 5) .nil)) .nil)))
  .nil))))
  (.cons (.ret (.blt .tuple (.cons (.var 3) .nil)))
  .nil))))
def aH':Css:=(.cons (.asg (.name 2) (.lst .nil))
  (.cons (.for_ (.name 3) (.range1 (.var 1)) (.cons (.expr (.met .insert (.var 2) (.cons (.call "_law_take" (.cons (.var 0) (.cons (.bin .Add (.var 3) (.int 1)) .nil))) (.cons (.var 3) .nil))))
  .nil))
  (.cons (.asg (.name 4) (.bin .Mult (.lst (.cons .non .nil)) (.var 1)))
  (.cons (.for_ (.tup (.cons (.name 5) (.cons (.name 6) .nil))) (.enum (.var 2)) (.cons (.asg (.name 7) (.idx (.bin .Add (.var 2) (.cut (.var 2) .none (.some (.int 1)))) (.bin .Add (.var 5) (.int 1))))
  (.cons (.asg (.name 8) (.idx (.lst (.cons (.call "_law_take" (.cons (.var 0) (.cons (.var 1) .nil))) (.cons .non .nil))) (.blt .int (.cons (.cmp .Eq (.call "_law_take" (.cons (.var 0) (.cons (.int 3) .nil))) (.int 0)) .nil))))
  (.cons (.asg (.sub (.var 4) (.var 6)) (.idx (.lst (.cons (.tup (.cons (.var 7) (.cons (.var 8) .nil))) (.cons (.tup (.cons (.var 8) (.cons (.var 7) .nil))) .nil))) (.call "_law_take" (.cons (.var 0) (.cons (.int 2) .nil)))))
  .nil))))
  (.cons (.ret (.blt .tuple (.cons (.var 4) .nil)))
  .nil)))))
def cu':Css:=(.cons (.asg (.name 2) (.lst .nil))
  (.cons (.for_ (.name 3) (.range1 (.blt .len (.cons (.var 1) .nil))) (.cons (.for_ (.name 4) (.range1 (.bin .Add (.int 1) (.call "_law_take" (.cons (.var 0) (.cons (.int 3) .nil))))) (.cons (.expr (.met .insert (.var 2) (.cons (.call "_law_take" (.cons (.var 0) (.cons (.bin .Add (.blt .len (.cons (.var 2) .nil)) (.int 1)) .nil))) (.cons (.var 3) .nil))))
  .nil))
  .nil))
  (.cons (.asg (.name 5) (.lst .nil))
  (.cons (.for_ (.name 3) (.val (.var 2)) (.cons (.asg (.name 6) (.lst .nil))
  (.cons (.for_ (.name 7) (.val (.idx (.var 1) (.var 3))) (.cons (.asg (.name 8) (.comp (.var 9) [9,10] (.tup (.cons (.name 9) (.cons (.name 10) .nil))) (.enum (.var 2)) (.some (.cmp .Eq (.var 10) (.var 7))) .nil))
  (.cons (.expr (.met .append (.var 6) (.cons (.ife (.cmp .NotEq (.var 8) (.lst .nil)) (.idx (.var 8) (.call "_law_take" (.cons (.var 0) (.cons (.blt .len (.cons (.var 8) .nil)) .nil)))) .non) .nil)))
  .nil)))
  (.cons (.expr (.met .append (.var 5) (.cons (.blt .tuple (.cons (.var 6) .nil)) .nil)))
  .nil))))
  (.cons (.ret (.tup (.cons (.blt .tuple (.cons (.var 5) .nil)) (.cons (.var 2) .nil))))
  .nil)))))
def fY':Css:=(.cons (.asg (.name 2) (.call "_law_take" (.cons (.var 0) (.cons (.int 2) .nil))))
  (.cons (.asg (.name 3) (.idx (.lst (.cons .non (.cons (.call "_law_take" (.cons (.var 0) (.cons (.var 1) .nil))) .nil))) (.call "_law_take" (.cons (.var 0) (.cons (.int 2) .nil)))))
  (.cons (.asg (.name 4) (.bin .Add (.blt .list (.cons (.blt .range (.cons (.int 1) (.cons (.var 1) .nil))) .nil)) (.lst (.cons (.var 3) .nil))))
  (.cons (.ret (.blt .tuple (.cons (.comp (.idx (.lst (.cons (.tup (.cons (.var 5) (.cons .non .nil))) (.cons (.tup (.cons .non (.cons (.var 5) .nil))) .nil))) (.var 2)) [5] (.name 5) (.val (.var 4)) .none .nil) .nil)))
  .nil))))
def kT':Css:=(.cons (.asg (.name 1) (.call "_law_take" (.cons (.var 0) (.cons (.int 6) .nil))))
  (.cons (.ite (.cmp .Eq (.var 1) (.int 0)) (.cons (.ret (.call "_law_line" (.cons (.var 0) (.cons (.call "_law_many" (.cons (.var 0) (.cons (.int 2) (.cons (.int 6) (.cons (.int 60) .nil))))) .nil))))
  .nil) .nil)
  (.cons (.ite (.cmp .Eq (.var 1) (.int 1)) (.cons (.ret (.idx (.call "_law_copied" (.cons (.var 0) (.cons (.call "_law_machine" (.cons (.var 0) (.cons (.call "_law_many" (.cons (.var 0) (.cons (.int 1) (.cons (.int 4) (.cons (.int 12) .nil))))) .nil))) .nil))) (.int 0)))
  .nil) .nil)
  (.cons (.ite (.cmp .Lt (.var 1) (.int 4)) (.cons (.ret (.call "_law_ring_machine" (.cons (.var 0) (.cons (.call "_law_many" (.cons (.var 0) (.cons (.int 1) (.cons (.int 6) (.cons (.int 12) .nil))))) .nil))))
  .nil) .nil)
  (.cons (.ret (.call "_law_machine" (.cons (.var 0) (.cons (.call "_law_many" (.cons (.var 0) (.cons (.int 1) (.cons (.int 6) (.cons (.int 12) .nil))))) .nil))))
  .nil)))))
abbrev Rm:=Option Nat×Option Nat
def oV:Option Nat->V
 |none=>.non
 |some n=>.int n
def Tp (H H':Hp):Prop:=∀a xs,H a=some (.tup xs)->H' a=some (.tup xs)
theorem Tp.refl {H:Hp}:Tp H H:=fun _ _ h=>h
theorem Tp.trans {H H1 H2:Hp} (a:Tp H H1) (b:Tp H1 H2):Tp H H2:=fun c x h=>b c x (a c x h)
theorem _root_.R3.Go.tp {c:Nat} {H H':Hp} (g:Go c H H'):Tp H H':=fun a xs h=>g.tup h
theorem ai' {H H':Hp} (s:bo' H H'):Tp H H':=fun a xs h=>s _ _ h
theorem cT' {H:Hp} {p:Addr} (h:H p=none) (o:HO):Tp H (upd H p o):=ai' (al' h o)
theorem dp' {H:Hp} {p:Addr} {xs:List V} (h:H p=some (.lst xs)) (o:HO):Tp H (upd H p o):=fun a ys e=>by
 rw[ac' (fun z=>by subst z;rw[h]at e;cases e)]
 exact e
theorem _root_.R3.Go.upd {c:Nat} {H H':Hp} {l:Addr} {o:HO} (g:Go c H H') (h:H l=none):Go c H (L2.upd H' l o):=by
 refine⟨fun a n e=>?_,fun a u e no=>?_,fun a e=>?_⟩
 .obtain⟨m,hm,e1⟩:=g.box a n e
  exact⟨m,hm,by rw[ac' (ae' e h)];exact e1⟩
 .rw[ac' (ae' e h)]
  exact g.oth a u e no
 .by_cases hl:a=l
  .subst hl
   exact h
  .rw[ac' hl]at e
   exact g.free a e
theorem ao' {Q:VK} {m:Int} {H0 H:Hp} {b:Addr} {n0 c:Nat} (hb:H0 b=some (cq' b n0)) (g:Go c H0 H) (hn:n0+c<=2 ^ 40) (hm:0<m) (hm2:m<4611686018427387904) (q:∀r H',0<=r->r<m->Go 1 H H'->Go (c+1) H0 H'->Q (.int r) H'):au' [.ref b,.int m] H Q E0:=by
 obtain⟨n,hb1,_,hn1⟩:=g.boxed hb hn
 exact⟨b,n,m,rfl,hb1,hn1,hm,hm2,fun r H' h0 h1 g1=>q r H' h0 h1 g1 (g.trans g1)⟩
def eF':Sp:=fun vs H Q _=>∃(b:Addr) (n:Nat) (x y z:Int),vs=[.ref b,.int x,.int y,.int z]/\H b=some (cq' b n)/\n<=2 ^ 39/\0<=x/\x<=y/\y<=1000/\7<=z/\z<=1000/\∀(r:Int) (H':Hp),(x<=r/\r<=y\/7<=r/\r<=z)->Go 2 H H'->Q (.int r) H'
theorem ja' {C:Rc} (hN:C.N.length=4) (hT:C.fs "_law_take"=some au'):∀vs H Q E,eF' vs H Q E->tSs C fX' { nx:=fun _ H'=>Q .non H',rt:=Q } (L2.aO' C.N vs) H:=by
 intro vs H Q E h
 obtain⟨b,n,x,y,z,rfl,hb,hn,hx,hxy,hy,hz,hz2,q⟩:=h
 rw[av' hN]
 unfold fX'
 walk_at "st"
 refine am' hT ?_
 walk_at "st"
 refine ao' hb (Go.refl (c:=0)) (by omega) (by decide) (by decide) fun r1 H1 h0 h1 g1 g01=>?_
 walk_at "st"
 refine a0' (fun hc=>?_) fun hc=>?_
 .walk_at "st"
  refine am' hT ?_
  walk_at "st"
  refine ao' hb g01 (by omega) (by omega) (by omega) fun r2 H2 h20 h21 g2 g02=>?_
  walk_at "st"
  exact q _ _ (.inr ⟨by omega,by omega⟩) g02
 .walk_at "st"
  refine am' hT ?_
  walk_at "st"
  refine ao' hb g01 (by omega) (by omega) (by omega) fun r2 H2 h20 h21 g2 g02=>?_
  walk_at "st"
  exact q _ _ (.inl ⟨by omega,by omega⟩) g02
def cn' (H:Hp) (v:V) (r:Rm):Prop:=∃p,v=.ref p/\H p=some (.tup [oV r.1,oV r.2])
theorem cn'.mono {H H':Hp} {v:V} {r:Rm} (t:Tp H H') (h:cn' H v r):cn' H' v r:=by
 obtain⟨p,e,h⟩:=h
 exact⟨p,e,t _ _ h⟩
def aI' (H:Hp):List V->List Rm->Prop
 | [],[]=>True
 |v :: vs,r :: rs=>cn' H v r/\aI' H vs rs
 |_,_=>False
theorem aI'.mono {H H':Hp} (t:Tp H H'):∀{vs:List V} {M:List Rm},aI' H vs M->aI' H' vs M
 | [],[],_=>trivial
 |v :: vs,r :: rs,h=>⟨h.1.mono t,aI'.mono t h.2⟩
 | [],_ :: _,h=>h.elim
 |_ :: _,[],h=>h.elim
theorem aI'.len {H:Hp}:∀{vs:List V} {M:List Rm},aI' H vs M->vs.length=M.length
 | [],[],_=>rfl
 |v :: vs,r :: rs,h=>by simp[aI'.len h.2]
 | [],_ :: _,h=>h.elim
 |_ :: _,[],h=>h.elim
theorem aI'.snoc {H:Hp} {v:V} {r:Rm} (hr:cn' H v r):∀{vs:List V} {M:List Rm},aI' H vs M->aI' H (vs++[v]) (M++[r])
 | [],[],_=>⟨hr,trivial⟩
 |v :: vs,r :: rs,h=>⟨h.1,aI'.snoc hr h.2⟩
 | [],_ :: _,h=>h.elim
 |_ :: _,[],h=>h.elim
theorem aI'.get {H:Hp}:∀{vs:List V} {M:List Rm} {i:Nat} {r:Rm},aI' H vs M->M[i]?=some r->∃p,vs[i]?=some (.ref p)/\H p=some (.tup [oV r.1,oV r.2])
 | [],[],i,r,_,e=>by cases e
 |v :: vs,r :: rs,0,r',h,e=>by
  cases e
  obtain⟨p,rfl,hp⟩:=h.1
  exact⟨p,rfl,hp⟩
 |v :: vs,r :: rs,i+1,r',h,e=>aI'.get (i:=i) h.2 (by simpa using e)
 | [],_ :: _,_,_,h,_=>h.elim
 |_ :: _,[],_,_,h,_=>h.elim
def IsM (H:Hp) (a:Addr) (M:List Rm):Prop:=∃vs,H a=some (.tup vs)/\aI' H vs M
theorem IsM.mono {H H':Hp} {a:Addr} {M:List Rm} (t:Tp H H') (h:IsM H a M):IsM H' a M:=by
 obtain⟨vs,h1,h2⟩:=h
 exact⟨vs,t _ _ h1,h2.mono t⟩
def OkR (N:Nat) (r:Rm):Prop:=(∀n,r.1=some n->n<N)/\∀n,r.2=some n->n<N
def OkM (M:List Rm):Prop:=∀r∈M,OkR M.length r
def bc' (N0 N1 c:Nat):Sp:=fun vs H Q _=>∃(b:Addr) (n N:Nat),vs=[.ref b,.int N]/\H b=some (cq' b n)/\n<=2 ^ 39/\N0<=N/\N<=N1/\∀(a:Addr) (M:List Rm) (H':Hp),Go c H H'->IsM H' a M->OkM M->M.length=N->Q (.ref a) H'
theorem eG' {C:Rc} (hN:C.N.length=8) (hT:C.fs "_law_take"=some au'):∀vs H Q E,bc' 1 60 400 vs H Q E->tSs C b4' { nx:=fun _ H'=>Q .non H',rt:=Q } (L2.aO' C.N vs) H:=by
 intro vs H Q E h
 obtain⟨b,n,N,rfl,hb,hn,hN0,hN1,q⟩:=h
 rw[av' hN]
 unfold b4'
 walk_at "st"
 refine am' hT ?_
 walk_at "st"
 refine ao' hb (Go.refl (c:=0)) (by omega) (by decide) (by decide) fun r1 H1 h0 h1 g1 g01=>?_
 walk_at "st"
 refine⟨by decide,fun l hl=>?_⟩
 have hl0:=g01.free _ hl
 refine dQ' (by omega) (by omega) (eA' (fun i σ H'=>(∃x4 x5 x6 x7,σ=[some (.ref b),some (.int N),some (.int (2+r1)),some (.ref l),x4,x5,x6,x7])/\Go (1+4*i) H H'/\∃vs M,H' l=some (.lst vs)/\aI' H' vs M/\vs.length=i/\∀r∈M,OkR N r) ⟨⟨_,_,_,_,rfl⟩,(g01.upd hl0).mono (by omega),[],[],aa',trivial,rfl,fun r hr=>by cases hr⟩ ?_ ?_)
 .rintro i σ H2 hi ⟨⟨x4,x5,x6,x7,rfl⟩,g2,vs,M,hl2,hr2,hlen,hok⟩
  walk_at "st"
  refine⟨by decide,fun d hd=>?_⟩
  have hd0:=g2.free _ hd
  have hdl:l≠d:=ae' hl2 hd
  refine dQ' (by omega) (by omega) (eA' (fun j σ H'=>(∃x6 x7,σ=[some (.ref b),some (.int N),some (.int (2+r1)),some (.ref l),some (.int (0+i)),some (.ref d),x6,x7])/\Go (1+4*i+2*j) H H'/\Tp H2 H'/\H' l=some (.lst vs)/\∃ds:List (Option Nat),H' d=some (.lst (ds.map oV))/\ds.length=j/\∀m,some m∈ds->m<N) ⟨⟨_,_,rfl⟩,g2.upd hd0,cT' hd _,by rw[ac' hdl];exact hl2,[],aa',rfl,fun m hm=>by cases hm⟩ ?_ ?_)
  .rintro j σ H3 hj ⟨⟨x6,x7,rfl⟩,g3,t3,hl3,ds,hd3,hdn,hdo⟩
   walk_at "st"
   refine am' hT ?_
   walk_at "st"
   refine ao' hb g3 (by omega) (by omega) (by omega) fun r4 H4 h40 h41 g34 g4=>?_
   have hd4:=g34.lst hd3
   walk_at "st"
   refine⟨tyL hd4 rfl,⟨by decide,fun p hp=>?_⟩⟩
   have hp0:=g4.free _ hp
   refine am' hT ?_
   walk_at "st"
   refine ao' hb (g4.upd hp0) (by omega) (by omega) (by omega) fun r5 H5 h50 h51 g45 g5=>?_
   have hp5:H5 p=some (.lst [.int r4,.non]):=g45.lst aa'
   have hd5:H5 d=some (.lst (ds.map oV)):=g45.lst (by rw[ac' (ae' hd4 hp)];exact hd4)
   have hl5:H5 l=some (.lst vs):=g45.lst (by rw[ac' (ae' (g34.lst hl3) hp)];exact g34.lst hl3)
   walk_at "st"
   refine my' (SqL.of hp5) ?_
   obtain⟨o,eo,hoo⟩:∃o:Option Nat,(if decide (r5=0)=true then V.non else V.int r4)=oV o/\∀m,o=some m->m<N:=by
    split
    .exact⟨none,rfl,fun m hm=>by cases hm⟩
    .exact⟨some r4.toNat,by show _=V.int _;congr 1;omega,fun m hm=>by cases hm;omega⟩
   rw[eo]
   walk_at "st"
   refine cm' hd5 (by rw[ai];exact af' (by omega)) ?_
   walk_at "st"
   refine⟨⟨_,_,rfl⟩,(g5.upd hd0).mono (by omega),?_,by rw[ac' hdl];exact hl5,ds++[o],by rw[aa',aO];rfl,by simp[hdn],fun m hm=>?_⟩
   .exact((t3.trans g34.tp).trans ((cT' hp _).trans g45.tp)).trans (dp' hd5 _)
   .rcases al.mp hm with hm|hm
    .exact hdo m hm
    .exact hoo m (bT.mp hm).symm
  .rintro σ H3 ⟨⟨x6,x7,rfl⟩,g3,t3,hl3,ds,hd3,hdn,hdo⟩
   walk_at "st"
   refine⟨tyL hl3 rfl,?_⟩
   refine bs' (SqL.of hd3) fun p hp=>?_
   walk_at "st"
   have hpl:upd H3 p (.tup (ds.map oV)) l=some (.lst vs):=by rw[ac' (ae' hl3 hp)];exact hl3
   refine cm' hpl (af' (by omega)) ?_
   walk_at "st"
   obtain⟨x,y,rfl⟩:∃x y,ds=[x,y]:=by
    match ds,hdn with
    | [x,y],_=>exact⟨x,y,rfl⟩
   have tp1:Tp H2 (upd (upd H3 p (.tup ([x,y].map oV))) l (.lst (vs++[.ref p]))):=(t3.trans (cT' hp _)).trans (dp' hpl _)
   refine⟨⟨_,_,_,_,rfl⟩,((g3.upd (g3.free _ hp)).upd hl0).mono (by omega),vs++[.ref p],M++[(x,y)],aa',(hr2.mono tp1).snoc ⟨p,rfl,?_⟩,by simp[hlen],fun r hr=>?_⟩
   .rw[ac' (fun z=>by subst z;rw[hl3]at hp;cases hp)]
    exact aa'
   .rcases al.mp hr with hr|hr
    .exact hok r hr
    .have e:r=(x,y):=by simpa using hr
     subst e
     exact⟨fun m hm=>hdo m (by simp[<- hm]),fun m hm=>hdo m (by simp[<- hm])⟩
 .rintro σ H2 ⟨⟨x4,x5,x6,x7,rfl⟩,g2,vs,M,hl2,hr2,hlen,hok⟩
  walk_at "st"
  refine bs' (SqL.of hl2) fun p hp=>?_
  have hlM:=hr2.len
  have e:M.length=N:=by omega
  exact q p M _ ((g2.upd (g2.free _ hp)).mono (by omega)) ⟨vs,aa',hr2.mono (cT' hp _)⟩ (fun r hr=>by rw[e];exact hok r hr) e
theorem mG' {K:W.Frag} {H:Hp} {Q:VK} {a:Addr} {xs:List V} {k:Nat} (h:H a=some (.lst xs)) (hk:k<=1000) (hz:xs.length*k<=sizeLine) (q:∀p,H p=none->Q (.ref p) (upd H p (.lst (aC k xs).flatten))):c8' K .Mult (.ref a) (.int k) H Q:=by
 refine⟨a,k,xs,rfl,rfl,h,by omega,by omega,by simpa using hz,fun p hp=>?_⟩
 rw[bA]
 exact q p hp
theorem n5' {H:Hp} {R:Hp->Prop} {a:Addr} {xs:List V} {k:Nat} {v:V} (h:H a=some (.lst xs)) (hk:k<xs.length) (q:R (upd H a (.lst (xs.set k v)))):co' (.ref a) (.int k) v H R:=by
 refine⟨a,xs,k,k,rfl,rfl,h,?_,q⟩
 unfold ixN
 rw[if_pos (by omega),if_pos (by omega)]
 simp
def nV (n:Nat):V:=.int n
theorem fZ' {H:Hp} {P:Rm->Prop}:∀{vs:List V},(∀m,m<vs.length->∃r v,P r/\vs[m]?=some v/\cn' H v r)->∃M,aI' H vs M/\∀r∈M,P r
 | [],_=>⟨[],trivial,fun r hr=>by cases hr⟩
 |v :: vs,h=>by
  obtain⟨r,v',ho,e,hr⟩:=h 0 (by simp)
  cases e
  obtain⟨M,h1,h2⟩:=fZ' (vs:=vs) fun m hm=>by
   obtain⟨r,v,h1,h2,h3⟩:=h (m+1) (by simpa using hm)
   exact⟨r,v,h1,by simpa using h2,h3⟩
  exact⟨r :: M,⟨hr,h1⟩,fun x hx=>by
   rcases aq.mp hx with rfl|hx
   .exact ho
   .exact h2 x hx⟩
def OkD (N:Nat) (r:Rm):Prop:=OkR N r/\(r.1=none->r.2≠none)
def ry':Sp:=fun vs H Q _=>∃(b:Addr) (n N:Nat),vs=[.ref b,.int N]/\H b=some (cq' b n)/\n<=2 ^ 39/\1<=N/\N<=60/\∀(a:Addr) (M:List Rm) (H':Hp),Go 400 H H'->IsM H' a M->OkM M->M.length=N->(∀r∈M,r.1=none->r.2≠none)->Q (.ref a) H'
theorem gL' {C:Rc} (hN:C.N.length=9) (hT:C.fs "_law_take"=some au'):∀vs H Q E,ry' vs H Q E->tSs C aH' { nx:=fun _ H'=>Q .non H',rt:=Q } (L2.aO' C.N vs) H:=by
 intro vs H Q E h
 obtain⟨b,n,N,rfl,hb,hn,hN0,hN1,q⟩:=h
 rw[av' hN]
 unfold aH'
 walk_at "st"
 refine⟨by decide,fun l hl=>?_⟩
 refine dQ' (by omega) (by omega) (eA' (fun i σ H'=>(∃x3 x4 x5 x6 x7 x8,σ=[some (.ref b),some (.int N),some (.ref l),x3,x4,x5,x6,x7,x8])/\Go i H H'/\∃os:List Nat,H' l=some (.lst (os.map nV))/\os.length=i/\(∀m∈os,m<N)/\∀m,m<i->m∈os) ⟨⟨_,_,_,_,_,_,rfl⟩,(Go.refl (c:=0)).upd hl,[],aa',rfl,(fun m hm=>by cases hm),fun m hm=>by omega⟩ ?_ ?_)
 .rintro i σ H1 hi ⟨⟨x3,x4,x5,x6,x7,x8,rfl⟩,g1,os,hl1,hlen,hlt,hall⟩
  walk_at "st"
  refine⟨tyL hl1 rfl,am' hT ?_⟩
  walk_at "st"
  refine ao' hb g1 (by omega) (by omega) (by omega) fun r2 H2 h20 h21 g12 g2=>?_
  have hl2:=g12.lst hl1
  walk_at "st"
  obtain⟨j,rfl⟩:=aM h20
  refine mz' hl2 (by rw[ai];exact af' (by omega)) (by rw[ai];omega) ?_
  walk_at "st"
  refine⟨⟨_,_,_,_,_,_,rfl⟩,g2.upd hl,os.take j++i :: os.drop j,?_,?_,?_,?_⟩
  .rw[aa',aO,aE,List.map_take,List.map_drop]
   simp[nV]
  .simp;omega
  .intro m hm
   rcases al.mp hm with hm|hm
   .exact hlt m (bX hm)
   .rcases aq.mp hm with rfl|hm
    .omega
    .exact hlt m (bW hm)
  .intro m hm
   by_cases e:m=i
   .subst e;simp
   .have:=hall m (by omega)
    rw[<- aL j os]at this
    rcases al.mp this with h|h
    .exact al.mpr (.inl h)
    .exact al.mpr (.inr (ao _ h))
 rintro σ H1 ⟨⟨x3,x4,x5,x6,x7,x8,rfl⟩,g1,os,hl1,hlen,hlt,hall⟩
 rw[bA]at g1 hlen hall
 walk_at "st"
 refine⟨by decide,fun p hp=>?_⟩
 have hpl:l≠p:=ae' hl1 hp
 refine mG' aa' (by omega) (br (af' (by simp;omega))) fun w hw=>?_
 have gw:=(g1.upd (o:=.lst [.non]) (g1.free _ hp)).upd (o:=.lst (aC N [V.non]).flatten) ((g1.upd (o:=.lst [.non]) (g1.free _ hp)).free _ hw)
 have hlw:upd (upd H1 p (.lst [.non])) w (.lst (aC N [V.non]).flatten) l=some (.lst (os.map nV)):=al' hw _ _ _ (al' hp _ _ _ hl1)
 have hww:upd (upd H1 p (.lst [.non])) w (.lst (aC N [V.non]).flatten) w=some (.lst (aC N V.non)):=by
  rw[aa'];simp
 have hw0:H w=none:=(g1.upd (o:=.lst [.non]) (g1.free _ hp)).free _ hw
 have hwl:l≠w:=ae' (al' hp (.lst [.non]) _ _ hl1) hw
 generalize upd (upd H1 p (.lst [.non])) w (.lst (aC N [V.non]).flatten)=H2 at gw hlw hww
 walk_at "st"
 refine mu' (SqL.of hlw) (tx' (xs:=os.map nV) (fun t σ H'=>(∃x3 x5 x6 x7 x8,σ=[some (.ref b),some (.int N),some (.ref l),x3,some (.ref w),x5,x6,x7,x8])/\Go (N+3*t) H H'/\H' l=some (.lst (os.map nV))/\∃ws,H' w=some (.lst ws)/\ws.length=N/\∀m∈os.take t,∃r v,OkD N r/\ws[m]?=some v/\cn' H' v r) ⟨⟨_,_,_,_,_,rfl⟩,gw.mono (by omega),hlw,_,hww,by simp,fun m hm=>by cases hm⟩ (fun t σ H' _ pv=>SqL.of pv.2.2.1) ?_ ?_)
 .rintro t x σ H3 e hx he ⟨⟨x3,x5,x6,x7,x8,rfl⟩,g3,hl3,ws,hw3,hwn,hws⟩
  rw[aG]at hx
  cases eo:os[t]? with
  |none=>rw[eo]at hx;cases hx
  |some room=>
   rw[eo]at hx
   cases hx
   have ht:=aG' eo
   refine iS' (SqT.of aa') ?_
   have s4:=al' he (.tup [.int t,nV room])
   have g4:=g3.upd (o:=.tup [.int t,nV room]) (g3.free _ he)
   generalize upd H3 e (.tup [.int t,nV room])=H4 at s4 g4
   have hl4:=s4 _ _ hl3
   walk_at "st"
   refine nV' (SqL.of hl4) fun c hc=>?_
   rw[show(1:Int)=((1:Nat):Int) from rfl,mA']
   have s5:=al' hc (.lst ((os.map nV).take 1))
   have g5:=g4.upd (o:=.lst ((os.map nV).take 1)) (g4.free _ hc)
   have hc5:upd H4 c (.lst ((os.map nV).take 1)) c=some (.lst ((os.map nV).take 1)):=aa'
   generalize upd H4 c (.lst ((os.map nV).take 1))=H5 at s5 g5 hc5
   walk_at "st"
   refine mB' (s5 _ _ hl4) hc5 (br (af' (by simp;omega))) fun d hd=>?_
   have s6:=al' hd (.lst (os.map nV++(os.map nV).take 1))
   have g6:=g5.upd (o:=.lst (os.map nV++(os.map nV).take 1)) (g5.free _ hd)
   have hd6:upd H5 d (.lst (os.map nV++(os.map nV).take 1)) d=some (.lst ((os++os.take 1).map nV)):=by rw[aa',aO,List.map_take]
   generalize upd H5 d (.lst (os.map nV++(os.map nV).take 1))=H6 at s6 g6 hd6
   obtain⟨on,eon,hon⟩:∃on,(os++os.take 1)[t+1]?=some on/\on<N:=by
    have hl:t+1<(os++os.take 1).length:=by simp;omega
    refine⟨_,ac hl,?_⟩
    rcases al.mp (List.getElem_mem hl)with h|h
    .exact hlt _ h
    .exact hlt _ (bX h)
   walk_at "st"
   refine aB' (SqL.of hd6) (v:=nV on) (aC' (j:=t+1) (by rw[aG,eon];rfl)) ?_
   walk_at "st"
   refine am' hT ?_
   walk_at "st"
   refine ao' hb g6 (by omega) (by omega) (by omega) fun r7 H7 h70 h71 g67 g7=>?_
   walk_at "st"
   refine⟨by decide,fun f hf=>?_⟩
   refine am' hT ?_
   walk_at "st"
   refine ao' hb (g7.upd (o:=.lst [.int r7,.non]) (g7.free _ hf)) (by omega) (by omega) (by omega) fun r8 H8 h80 h81 g78 g8=>?_
   have hf8:H8 f=some (.lst [.int r7,.non]):=g78.lst aa'
   have keep8:∀a xs,H3 a=some (.lst xs)->H8 a=some (.lst xs):=fun a xs h=>g78.lst (al' hf _ _ _ (g67.lst (s6 _ _ (s5 _ _ (s4 _ _ h)))))
   have tp8:Tp H3 H8:=(((ai' s4).trans (ai' s5)).trans (ai' s6)).trans (g67.tp.trans ((cT' hf _).trans g78.tp))
   walk_at "st"
   refine my' (SqL.of hf8) ?_
   obtain⟨o,eo2,hoo⟩:∃o:Option Nat,(if decide (r8=0)=true then V.non else V.int r7)=oV o/\∀m,o=some m->m<N:=by
    split
    .exact⟨none,rfl,fun m hm=>by cases hm⟩
    .exact⟨some r7.toNat,by show _=V.int _;congr 1;omega,fun m hm=>by cases hm;omega⟩
   rw[eo2]
   walk_at "st"
   refine⟨by decide,fun p1 hp1=>?_⟩
   have s9:=al' hp1 (.tup [nV on,oV o])
   have g9:=g8.upd (o:=.tup [nV on,oV o]) (g8.free _ hp1)
   have h9:upd H8 p1 (.tup [nV on,oV o]) p1=some (.tup [nV on,oV o]):=aa'
   generalize upd H8 p1 (.tup [nV on,oV o])=H9 at s9 g9 h9
   refine⟨by decide,fun p2 hp2=>?_⟩
   have s10:=al' hp2 (.tup [oV o,nV on])
   have g10:=g9.upd (o:=.tup [oV o,nV on]) (g9.free _ hp2)
   have h10:upd H9 p2 (.tup [oV o,nV on]) p2=some (.tup [oV o,nV on]):=aa'
   generalize upd H9 p2 (.tup [oV o,nV on])=H10 at s10 g10 h10
   refine⟨by decide,fun p3 hp3=>?_⟩
   have s11:=al' hp3 (.lst [.ref p1,.ref p2])
   have g11:=g10.upd (o:=.lst [.ref p1,.ref p2]) (g10.free _ hp3)
   have h11:upd H10 p3 (.lst [.ref p1,.ref p2]) p3=some (.lst [.ref p1,.ref p2]):=aa'
   generalize upd H10 p3 (.lst [.ref p1,.ref p2])=H11 at s11 g11 h11
   refine am' hT ?_
   walk_at "st"
   refine ao' hb g11 (by omega) (by omega) (by omega) fun r12 H12 h120 h121 g1112 g12=>?_
   have tpx:Tp H3 H12:=(((tp8.trans (ai' s9)).trans (ai' s10)).trans (ai' s11)).trans g1112.tp
   have hl12:H12 l=some (.lst (os.map nV)):=g1112.lst (s11 _ _ (s10 _ _ (s9 _ _ (keep8 _ _ hl3))))
   have hw12:H12 w=some (.lst ws):=g1112.lst (s11 _ _ (s10 _ _ (s9 _ _ (keep8 _ _ hw3))))
   have h1:H12 p1=some (.tup [nV on,oV o]):=g1112.tup (s11 _ _ (s10 _ _ h9))
   have h2:H12 p2=some (.tup [oV o,nV on]):=g1112.tup (s11 _ _ h10)
   walk_at "st"
   have hroom:room<N:=hlt room (aN eo)
   have fin:∀(pz:Addr) (rz:Rm),OkD N rz->H12 pz=some (.tup [oV rz.1,oV rz.2])->co' (.ref w) (nV room) (.ref pz) H12 (fun H'=>(∃x3' x5 x6 x7 x8,[some (V.ref b),some (V.int N),some (V.ref l),x3,some (V.ref w),some (V.int t),some (nV room),some (nV on),some (oV o)]=[some (.ref b),some (.int N),some (.ref l),x3',some (.ref w),x5,x6,x7,x8])/\Go (N+3*(t+1)) H H'/\H' l=some (.lst (os.map nV))/\∃ws,H' w=some (.lst ws)/\ws.length=N/\∀m∈os.take (t+1),∃r v,OkD N r/\ws[m]?=some v/\cn' H' v r):=by
    intro pz rz hrz hpz
    refine n5' hw12 (by omega) ⟨⟨_,_,_,_,_,rfl⟩,(g12.upd hw0).mono (by omega),by rw[ac' hwl];exact hl12,_,aa',by rw[List.length_set];exact hwn,fun m hm=>?_⟩
    by_cases em:m=room
    .subst em
     exact⟨rz,.ref pz,hrz,by rw[List.getElem?_set_self (by omega)],pz,rfl,dp' hw12 _ _ _ hpz⟩
    .rw[List.take_succ,eo]at hm
     rcases al.mp hm with hm|hm
     .obtain⟨r,v,q1,q2,q3⟩:=hws m hm
      exact⟨r,v,q1,by rw[bK (Ne.symm em)];exact q2,q3.mono (tpx.trans (dp' hw12 _))⟩
     .exact absurd (by simpa using hm) em
   have h121':r12=0\/r12=1:=by omega
   rcases h121' with rfl|rfl
   .refine aB' (SqL.of (g1112.lst h11)) (v:=.ref p1) rfl ?_
    walk_at "st"
    exact fin p1 (some on,o) ⟨⟨fun m hm=>by cases hm;exact hon,hoo⟩,fun z=>by cases z⟩ h1
   .refine aB' (SqL.of (g1112.lst h11)) (v:=.ref p2) rfl ?_
    walk_at "st"
    exact fin p2 (o,some on) ⟨⟨hoo,fun m hm=>by cases hm;exact hon⟩,fun _ z=>by cases z⟩ h2
 .rintro σ H3 ⟨⟨x3,x5,x6,x7,x8,rfl⟩,g3,hl3,ws,hw3,hwn,hws⟩
  walk_at "st"
  refine bs' (SqL.of hw3) fun p hp=>?_
  rw[ai,<- ai (f:=nV),ai,List.take_length]at hws
  rw[ai]at g3
  obtain⟨M,hM,hO⟩:=fZ' (P:=OkD N) (vs:=ws) (H:=H3) fun m hm=>hws m (hall m (by omega))
  have e:M.length=N:=by rw[<- hM.len];exact hwn
  exact q p M _ ((g3.upd (g3.free _ hp)).mono (by omega)) ⟨ws,aa',hM.mono (cT' hp _)⟩ (fun r hr=>by rw[e];exact(hO r hr).1) e fun r hr=>(hO r hr).2
theorem jb' {C:Rc} (hN:C.N.length=9) (hT:C.fs "_law_take"=some au'):∀vs H Q E,bc' 1 60 400 vs H Q E->tSs C aH' { nx:=fun _ H'=>Q .non H',rt:=Q } (L2.aO' C.N vs) H:=fun vs H Q E ⟨b,n,N,h1,h2,h3,h4,h5,q⟩=>gL' hN hT vs H Q E ⟨b,n,N,h1,h2,h3,h4,h5,fun a M H' g i o l _=>q a M H' g i o l⟩
def bi':Sp:=fun vs H Q _=>∃(b a:Addr) (n:Nat) (M:List Rm),vs=[.ref b,.ref a]/\H b=some (cq' b n)/\n<=2 ^ 39/\IsM H a M/\OkM M/\1<=M.length/\M.length<=20/\
 ∀(p a' l:Addr) (M':List Rm) (ms:List Nat) (H':Hp),Go 500 H H'->H' p=some (.tup [.ref a',.ref l])->H' l=some (.lst (ms.map nV))->ms.length=M'.length->(∀m∈ms,m<M.length)->IsM H' a' M'->OkM M'->1<=M'.length->M'.length<=60->Q (.ref p) H'
theorem e9' {C:Rc} (hN:C.N.length=11) (hT:C.fs "_law_take"=some au'):∀vs H Q E,bi' vs H Q E->tSs C cu' { nx:=fun _ H'=>Q .non H',rt:=Q } (L2.aO' C.N vs) H:=by
 intro vs H Q E h
 obtain⟨b,a,n,M,rfl,hb,hn,⟨rv,ha,hrv⟩,hM,hM1,hM2,q⟩:=h
 have hrl:=hrv.len
 rw[av' hN]
 unfold cu'
 walk_at "st"
 refine⟨by decide,fun l hl=>?_⟩
 have hal:a≠l:=ae' ha hl
 refine bb' (SqT.of (by rw[ac' hal];exact ha)) ?_
 rw[hrl]
 refine dQ' (by omega) (by omega) (eA' (fun i σ H'=>(∃x3 x4 x5 x6 x7 x8 x9 x10,σ=[some (.ref b),some (.ref a),some (.ref l),x3,x4,x5,x6,x7,x8,x9,x10])/\Go (4*i) H H'/\∃ms:List Nat,H' l=some (.lst (ms.map nV))/\i<=ms.length/\ms.length<=3*i/\(∀m∈ms,m<M.length)) ⟨⟨_,_,_,_,_,_,_,_,rfl⟩,(Go.refl (c:=0)).upd hl,[],aa',by simp,by simp,fun m hm=>by cases hm⟩ ?_ ?_)
 .rintro i σ H1 hi ⟨⟨x3,x4,x5,x6,x7,x8,x9,x10,rfl⟩,g1,ms,hl1,hm1,hm2,hm3⟩
  walk_at "st"
  refine am' hT ?_
  walk_at "st"
  refine ao' hb g1 (by omega) (by omega) (by omega) fun r2 H2 h20 h21 g12 g2=>?_
  have hl2:=g12.lst hl1
  walk_at "st"
  refine dQ' (by omega) (by omega) (eA' (fun j σ H'=>(∃x4,σ=[some (.ref b),some (.ref a),some (.ref l),some (.int (0+i)),x4,x5,x6,x7,x8,x9,x10])/\Go (4*i+1+j) H H'/\∃ms':List Nat,H' l=some (.lst (ms'.map nV))/\ms'.length=ms.length+j/\(∀m∈ms',m<M.length)) ⟨⟨_,rfl⟩,g2,ms,hl2,rfl,hm3⟩ ?_ ?_)
  .rintro j σ H3 hj ⟨⟨x4,rfl⟩,g3,ms',hl3,hml,hmm⟩
   walk_at "st"
   refine⟨tyL hl3 rfl,am' hT ?_⟩
   walk_at "st"
   refine dS' (SqL.of hl3) ?_
   rw[ai]
   walk_at "st"
   refine ao' hb g3 (by omega) (by omega) (by omega) fun r4 H4 h40 h41 g34 g4=>?_
   obtain⟨k,rfl⟩:=aM h40
   walk_at "st"
   refine mz' (g34.lst hl3) (by rw[ai];exact af' (by omega)) (by rw[ai];omega) ?_
   walk_at "st"
   refine⟨⟨_,rfl⟩,(g4.upd hl).mono (by omega),ms'.take k++i :: ms'.drop k,?_,by simp;omega,fun m hm=>?_⟩
   .rw[aa',aO,aE,List.map_take,List.map_drop]
    simp[nV]
   .rcases al.mp hm with hm|hm
    .exact hmm m (bX hm)
    .rcases aq.mp hm with rfl|hm
     .omega
     .exact hmm m (bW hm)
  .rintro σ H3 ⟨⟨x4,rfl⟩,g3,ms',hl3,hml,hmm⟩
   walk_at "st"
   exact⟨⟨_,_,_,_,_,_,_,_,rfl⟩,g3.mono (by omega),ms',hl3,by omega,by omega,hmm⟩
 rintro σ H1 ⟨⟨x3,x4,x5,x6,x7,x8,x9,x10,rfl⟩,g1,ms,hl1,hm1,hm2,hm3⟩
 rw[bA]at g1 hm1 hm2
 have hml:ms.length<=60:=by omega
 walk_at "st"
 refine⟨by decide,fun w hw=>?_⟩
 have hw0:=g1.free _ hw
 have hlw:l≠w:=ae' hl1 hw
 refine bE' (SqL.of (xs:=ms.map nV) (by rw[ac' hlw];exact hl1)) (nR' (xs:=ms.map nV) (fun i σ H'=>(∃x3 x4 x6 x7 x8 x9 x10,σ=[some (.ref b),some (.ref a),some (.ref l),x3,x4,some (.ref w),x6,x7,x8,x9,x10])/\Go (80+2*i) H H'/\H' l=some (.lst (ms.map nV))/\∃vs R,H' w=some (.lst vs)/\aI' H' vs R/\vs.length=i/\∀r∈R,OkR ms.length r) ⟨⟨_,_,_,_,_,_,_,rfl⟩,(g1.upd hw0).mono (by omega),by rw[ac' hlw];exact hl1,[],[],aa',trivial,rfl,fun r hr=>by cases hr⟩ (fun i σ H' _ pv=>SqL.of pv.2.2.1) ?_ ?_)
 .rintro i x σ H2 hx ⟨⟨x3,x4,x6,x7,x8,x9,x10,rfl⟩,g2,hl2,vs,R,hw2,hR,hlen,hok⟩
  rw[aG]at hx
  cases em:ms[i]? with
  |none=>rw[em]at hx;cases hx
  |some m=>
   rw[em]at hx
   cases hx
   have hi:=aG' em
   have hmM:m<M.length:=hm3 m (aN em)
   obtain⟨pr,hpr,hprt⟩:=hrv.get (ac hmM)
   walk_at "st"
   refine⟨by decide,fun d hd=>?_⟩
   have hd0:=g2.free _ hd
   have gd:=g2.upd (o:=.lst []) hd0
   have sd:=al' hd (.lst [])
   have hdd:upd H2 d (.lst []) d=some (.lst []):=aa'
   have hdl:l≠d:=ae' hl2 hd
   have hdw:w≠d:=ae' hw2 hd
   generalize upd H2 d (.lst [])=H3 at gd sd hdd
   have ha3:H3 a=some (.tup rv):=gd.tup ha
   refine by' (SqT.of ha3) (v:=.ref pr) (aC' hpr) ?_
   have hp3:H3 pr=some (.tup [oV M[m].1,oV M[m].2]):=gd.tup hprt
   refine ba' (SqT.of hp3) (qX' (xs:=[oV M[m].1,oV M[m].2]) (fun j σ H'=>(∃x7 x8 x9 x10,σ=[some (.ref b),some (.ref a),some (.ref l),some (nV m),x4,some (.ref w),some (.ref d),x7,x8,x9,x10])/\Go (80+2*i+j) H H'/\Tp H2 H'/\H' l=some (.lst (ms.map nV))/\H' w=some (.lst vs)/\∃ds:List (Option Nat),H' d=some (.lst (ds.map oV))/\ds.length=j/\∀k,some k∈ds->k<ms.length) ⟨⟨_,_,_,_,rfl⟩,gd,ai' sd,sd _ _ hl2,sd _ _ hw2,[],hdd,rfl,fun k hk=>by cases hk⟩ (fun j σ H' _ pv=>SqT.of (pv.2.1.tup hprt)) ?_ ?_)
   .rintro j x σ H4 hx ⟨⟨x7,x8,x9,x10,rfl⟩,g4,t4,hl4,hw4,ds,hd4,hdn,hdo⟩
    obtain⟨o,rfl⟩:∃o,x=oV o:=by
     match j,hx with
     |0,hx=>cases hx;exact⟨_,rfl⟩
     |1,hx=>cases hx;exact⟨_,rfl⟩
    have hj:j<2:=aG' hx
    walk_at "st"
    refine mu' (SqL.of hl4) (q6' (vs:=ms.map nV) (fun i xs H'=>(∃ks:List Nat,xs=ks.map nV/\(∀k∈ks,k<i)/\ks.length<=i)/\bo' H4 H') ⟨⟨[],rfl,(fun k hk=>by cases hk),by simp⟩,bo'.refl _⟩ (fun i xs H' pv=>SqL.of (pv.2 _ _ hl4)) ?_ ?_)
    .rintro i2 xs H5 x p R2 hx2 hp ⟨⟨ks,rfl,hk1,hk2⟩,s5⟩ hR2
     rw[aG]at hx2
     cases em2:ms[i2]? with
     |none=>rw[em2]at hx2;cases hx2
     |some m2=>
      rw[em2]at hx2
      cases hx2
      have hi2:=aG' em2
      refine iS' (SqT.of aa') ?_
      walk_at "st"
      have sc:lh' (nV m2) (oV o)=true:=by cases o<;>rfl
      rw[ty' sc]
      walk_at "st"
      refine a0' (fun hc=>?_) fun hc=>?_
      .walk_at "st"
       refine⟨by rw[ai];exact af' (by omega),hR2 _ _ ⟨⟨ks++[i2],by rw[aO];rfl,fun k hk=>?_,by simp;omega⟩,s5.trans (al' hp _)⟩⟩
       rcases al.mp hk with hk|hk
       .have:=hk1 k hk;omega
       .have e:k=i2:=by simpa using hk
        omega
      .walk_at "st"
       exact hR2 _ _ ⟨⟨ks,rfl,fun k hk=>by have:=hk1 k hk;omega,by omega⟩,s5.trans (al' hp _)⟩
    rintro xs H5 ⟨⟨ks,rfl,hk1,hk2⟩,s5⟩ e he
    rw[ai]at hk1 hk2
    have s6:=s5.trans (al' he (.lst (ks.map nV)))
    have g6:=(g4.trans (Go.of_same (c:=0) s6))
    have he6:upd H5 e (.lst (ks.map nV)) e=some (.lst (ks.map nV)):=aa'
    generalize upd H5 e (.lst (ks.map nV))=H6 at s6 g6 he6
    walk_at "st"
    refine⟨tyL (s6 _ _ hd4) rfl,⟨by decide,fun f hf=>?_⟩⟩
    have s7:=al' hf (.lst [])
    have hf7:upd H6 f (.lst []) f=some (.lst []):=aa'
    generalize upd H6 f (.lst [])=H7 at s7 hf7
    have g7:Go (80+2*i+j) H H7:=(g6.trans (Go.of_same (c:=0) s7)).mono (by omega)
    refine ra' (SqL.of (s7 _ _ he6)) (SqL.of hf7) iX' ?_
    have fin:∀(o':Option Nat) (H8:Hp) (Qk:VK),(∀k,o'=some k->k<ms.length)->Go (80+2*i+(j+1)) H H8->Tp H7 H8->(∀x xs,H7 x=some (.lst xs)->H8 x=some (.lst xs))->
      (∀H',Go (80+2*i+(j+1)) H H'->Tp H2 H'->H' l=some (.lst (ms.map nV))->H' w=some (.lst vs)->(∃ds:List (Option Nat),H' d=some (.lst (ds.map oV))/\ds.length=j+1/\∀k,some k∈ds->k<ms.length)->Qk .non H')->kv' C.K .append (.ref d) [oV o'] H8 Qk:=by
     intro o' H8 Qk ho g8 t8 k8 hq
     have hd8:=k8 _ _ (s7 _ _ (s6 _ _ hd4))
     refine cm' hd8 (by rw[ai];exact af' (by omega)) ?_
     refine hq _ (g8.upd hd0) (((t4.trans (ai' s6)).trans (ai' s7)).trans (t8.trans (dp' hd8 _))) (by rw[ac' hdl];exact k8 _ _ (s7 _ _ (s6 _ _ hl4))) (by rw[ac' hdw];exact k8 _ _ (s7 _ _ (s6 _ _ hw4))) ⟨ds++[o'],by rw[aa',aO];rfl,by simp[hdn],fun k hk=>?_⟩
     rcases al.mp hk with hk|hk
     .exact hdo k hk
     .exact ho k (bT.mp hk).symm
    cases ks with
    |nil=>
     walk_at "st"
     exact fin none H7 _ (fun k hk=>by cases hk) (g7.mono (by omega)) Tp.refl (fun _ _ h=>h) fun H' q1 q2 q3 q4 q5=>⟨⟨_,_,_,_,rfl⟩,q1,q2,q3,q4,q5⟩
    |cons k0 kr=>
     rw[show(!decide (List.map nV (k0 :: kr)=[]))=true by simp]
     walk_at "st"
     refine am' hT ?_
     walk_at "st"
     refine dS' (SqL.of (s7 _ _ he6)) ?_
     walk_at "st"
     have hz:(nV k0 :: List.map nV kr).length=(k0 :: kr).length:=by simp
     refine ao' hb g7 (by omega) (by simp) (by simp at hk2 ⊢;omega) fun r8 H8 h80 h81 g78 g8=>?_
     walk_at "st"
     obtain⟨v,ev,ei⟩:=qU' (xs:=List.map nV (k0 :: kr)) h80 (by simpa using h81)
     rw[aG]at ev
     cases ek:(k0 :: kr)[r8.toNat]? with
     |none=>rw[ek]at ev;cases ev
     |some k=>
      rw[ek]at ev
      cases ev
      refine aB' (SqL.of (g78.lst (s7 _ _ he6))) ei ?_
      walk_at "st"
      exact fin (some k) H8 _ (fun k' hk'=>by cases hk';have:=hk1 k (aN ek);omega) g8 g78.tp (fun _ _ h=>g78.lst h) fun H' q1 q2 q3 q4 q5=>⟨⟨_,_,_,_,rfl⟩,q1,q2,q3,q4,q5⟩
   .rintro σ H4 ⟨⟨x7,x8,x9,x10,rfl⟩,g4,t4,hl4,hw4,ds,hd4,hdn,hdo⟩
    walk_at "st"
    refine⟨tyL hw4 rfl,bs' (SqL.of hd4) fun p hp=>?_⟩
    walk_at "st"
    have hpw:upd H4 p (.tup (ds.map oV)) w=some (.lst vs):=by rw[ac' (ae' hw4 hp)];exact hw4
    refine cm' hpw (af' (by omega)) ?_
    walk_at "st"
    obtain⟨x,y,rfl⟩:∃x y,ds=[x,y]:=by
     match ds,hdn with
     | [x,y],_=>exact⟨x,y,rfl⟩
    have tp1:Tp H2 (upd (upd H4 p (.tup ([x,y].map oV))) w (.lst (vs++[.ref p]))):=(t4.trans (cT' hp _)).trans (dp' hpw _)
    refine⟨⟨_,_,_,_,_,_,_,rfl⟩,((g4.upd (g4.free _ hp)).upd hw0).mono (by simp;omega),?_,vs++[.ref p],R++[(x,y)],aa',(hR.mono tp1).snoc ⟨p,rfl,?_⟩,by simp[hlen],fun r hr=>?_⟩
    .rw[ac' hlw,ac' (ae' hl4 hp)]
     exact hl4
    .rw[ac' (fun z=>by subst z;rw[hw4]at hp;cases hp)]
     exact aa'
    .rcases al.mp hr with hr|hr
     .exact hok r hr
     .have e:r=(x,y):=by simpa using hr
      subst e
      exact⟨fun k hk=>hdo k (by simp[<- hk]),fun k hk=>hdo k (by simp[<- hk])⟩
 .rintro σ H2 ⟨⟨x3,x4,x6,x7,x8,x9,x10,rfl⟩,g2,hl2,vs,R,hw2,hR,hlen,hok⟩
  rw[ai]at g2 hlen
  walk_at "st"
  refine bs' (SqL.of hw2) fun p hp=>?_
  walk_at "st"
  refine⟨by decide,fun p2 hp2=>?_⟩
  have hRl:=hR.len
  have e:R.length=ms.length:=by omega
  have sA:=al' hp (.tup vs)
  have sB:=al' hp2 (.tup [.ref p,.ref l])
  refine q p2 p l R ms _ (((g2.upd (g2.free _ hp)).upd ((g2.upd (o:=.tup vs) (g2.free _ hp)).free _ hp2)).mono (by omega)) aa' (sB _ _ (sA _ _ hl2)) e.symm hm3 ⟨vs,sB _ _ aa',hR.mono ((ai' sA).trans (ai' sB))⟩ (fun r hr=>by rw[e];exact hok r hr) (by omega) (by omega)
theorem n6' {i:Int} {n k:Nat} (h:k<n):(rgs i n)[k]?=some (.int (i+k)):=by
 unfold rgs
 rw[aG,ci h]
 rfl
theorem cU' {i:Int} {n:Nat}:(rgs i n).length=n:=by unfold rgs;simp
theorem jc' {C:Rc} (hN:C.N.length=6) (hT:C.fs "_law_take"=some au'):∀vs H Q E,bc' 1 60 400 vs H Q E->tSs C fY' { nx:=fun _ H'=>Q .non H',rt:=Q } (L2.aO' C.N vs) H:=by
 intro vs H Q E h
 obtain⟨b,n,N,rfl,hb,hn,hN0,hN1,q⟩:=h
 rw[av' hN]
 unfold fY'
 walk_at "st"
 refine am' hT ?_
 walk_at "st"
 refine ao' hb (Go.refl (c:=0)) (by omega) (by decide) (by decide) fun bit H1 hb0 hb1 g1 g01=>?_
 walk_at "st"
 refine am' hT ?_
 walk_at "st"
 refine ao' hb g01 (by omega) (by omega) (by omega) fun r2 H2 h20 h21 g12 g2=>?_
 walk_at "st"
 refine⟨by decide,fun p hp=>?_⟩
 refine am' hT ?_
 walk_at "st"
 refine ao' hb (g2.upd (o:=.lst [.non,.int r2]) (g2.free _ hp)) (by omega) (by omega) (by omega) fun r3 H3 h30 h31 g23 g3=>?_
 have hp3:H3 p=some (.lst [.non,.int r2]):=g23.lst aa'
 obtain⟨o,eo,hoo⟩:∃o:Option Nat,atI [V.non,V.int r2] r3=some (oV o)/\∀m,o=some m->m<N:=by
  have:r3=0\/r3=1:=by omega
  rcases this with rfl|rfl
  .exact⟨none,rfl,fun m hm=>by cases hm⟩
  .refine⟨some r2.toNat,?_,fun m hm=>by cases hm;omega⟩
   show some (V.int r2)=some (V.int _)
   congr 2
   omega
 walk_at "st"
 refine aB' (SqL.of hp3) eo ?_
 walk_at "st"
 refine iY' fun rg hrg=>?_
 walk_at "st"
 refine kK' aa' (by omega) (by omega) (by omega) (by omega) (br (af' (by omega))) fun u hu=>?_
 rw[show((N:Int)-1).toNat=N-1 by omega]
 have g4:=(g3.upd (o:=.rng 1 N) (g3.free _ hrg)).upd (o:=.lst (rgs 1 (N-1))) ((g3.upd (o:=.rng 1 N) (g3.free _ hrg)).free _ hu)
 have hu4:upd (upd H3 rg (.rng 1 N)) u (.lst (rgs 1 (N-1))) u=some (.lst (rgs 1 (N-1))):=aa'
 generalize upd (upd H3 rg (.rng 1 N)) u (.lst (rgs 1 (N-1)))=H4 at g4 hu4
 walk_at "st"
 refine⟨by decide,fun u2 hu2=>?_⟩
 have g5:=g4.upd (o:=.lst [oV o]) (g4.free _ hu2)
 have hu5:=al' hu2 (.lst [oV o]) _ _ hu4
 have hv5:upd H4 u2 (.lst [oV o]) u2=some (.lst [oV o]):=aa'
 generalize upd H4 u2 (.lst [oV o])=H5 at g5 hu5 hv5
 refine mB' hu5 hv5 (br (af' (by rw[cU'];simp;omega))) fun e he=>?_
 have g6:=g5.upd (o:=.lst (rgs 1 (N-1)++[oV o])) (g5.free _ he)
 have he6:upd H5 e (.lst (rgs 1 (N-1)++[oV o])) e=some (.lst (rgs 1 (N-1)++[oV o])):=aa'
 generalize upd H5 e (.lst (rgs 1 (N-1)++[oV o]))=H6 at g6 he6
 have hall:∀(i:Nat) x,(rgs 1 (N-1)++[oV o])[i]?=some x->∃o',x=oV o'/\∀m,o'=some m->m<N:=by
  intro i x hx
  rcases bc i (N-1)with h|h
  .rw[bE (by rw[cU'];exact h),n6' h]at hx
   cases hx
   exact⟨some (1+i),by show _=V.int _;congr 1,fun m hm=>by cases hm;omega⟩
  .rw[bP (by rw[cU'];exact h),cU']at hx
   have e0:i-(N-1)=0:=by
    have:=aG' hx
    simp at this
    omega
   rw[e0]at hx
   cases hx
   exact⟨o,rfl,hoo⟩
 have hel:(rgs 1 (N-1)++[oV o]).length=N:=by rw[am,cU'];simp;omega
 walk_at "st"
 refine bE' (SqL.of he6) (mw' (vs:=rgs 1 (N-1)++[oV o]) (fun i xs H'=>bo' H6 H'/\∃M,aI' H' xs M/\xs.length=i/\∀r∈M,OkR N r) ⟨bo'.refl _,[],trivial,rfl,fun r hr=>by cases hr⟩ (fun i xs H' pv=>SqL.of (pv.1 _ _ he6)) ?_ ?_)
 .rintro i xs H7 x R hx ⟨s7,M,hM,hl,hO⟩ hR
  obtain⟨o',rfl,ho'⟩:=hall i x hx
  have hi:=aG' hx
  walk_at "st"
  refine⟨by decide,fun p1 hp1=>?_⟩
  have s8:=al' hp1 (.tup [oV o',.non])
  have h8:upd H7 p1 (.tup [oV o',.non]) p1=some (.tup [oV o',.non]):=aa'
  generalize upd H7 p1 (.tup [oV o',.non])=H8 at s8 h8
  refine⟨by decide,fun p2 hp2=>?_⟩
  have s9:=al' hp2 (.tup [.non,oV o'])
  have h9:upd H8 p2 (.tup [.non,oV o']) p2=some (.tup [.non,oV o']):=aa'
  generalize upd H8 p2 (.tup [.non,oV o'])=H9 at s9 h9
  refine⟨by decide,fun p3 hp3=>?_⟩
  have s10:=al' hp3 (.lst [.ref p1,.ref p2])
  have h10:upd H9 p3 (.lst [.ref p1,.ref p2]) p3=some (.lst [.ref p1,.ref p2]):=aa'
  generalize upd H9 p3 (.lst [.ref p1,.ref p2])=H10 at s10 h10
  have tp:=((ai' s8).trans (ai' s9)).trans (ai' s10)
  have hbit:bit=0\/bit=1:=by omega
  rcases hbit with rfl|rfl
  .refine aB' (SqL.of h10) (v:=.ref p1) rfl ?_
   walk_at "st"
   exact⟨af' (by omega),hR _ _ ⟨((s7.trans s8).trans s9).trans s10,M++[(o',none)],(hM.mono tp).snoc (r:=(o',none)) ⟨p1,rfl,s10 _ _ (s9 _ _ h8)⟩,by simp[hl],fun r hr=>by
    rcases al.mp hr with hr|hr
    .exact hO r hr
    .have e:r=(o',none):=by simpa using hr
     subst e
     exact⟨ho',fun m hm=>by cases hm⟩⟩⟩
  .refine aB' (SqL.of h10) (v:=.ref p2) rfl ?_
   walk_at "st"
   exact⟨af' (by omega),hR _ _ ⟨((s7.trans s8).trans s9).trans s10,M++[(none,o')],(hM.mono tp).snoc (r:=(none,o')) ⟨p2,rfl,s10 _ _ h9⟩,by simp[hl],fun r hr=>by
    rcases al.mp hr with hr|hr
    .exact hO r hr
    .have e:r=(none,o'):=by simpa using hr
     subst e
     exact⟨(fun m hm=>by cases hm),ho'⟩⟩⟩
 .rintro xs H7 ⟨s7,M,hM,hl,hO⟩ f hf
  walk_at "st"
  have s8:=al' hf (.lst xs)
  have h8:upd H7 f (.lst xs) f=some (.lst xs):=aa'
  generalize upd H7 f (.lst xs)=H8 at s8 h8
  refine bs' (SqL.of h8) fun t ht=>?_
  have s9:=al' ht (.tup xs)
  have e:M.length=N:=by rw[<- hM.len,hl,hel]
  refine q t M _ ((g6.trans (Go.of_same (c:=0) ((s7.trans s8).trans s9))).mono (by omega)) ⟨xs,aa',hM.mono ((ai' s8).trans (ai' s9))⟩ (fun r hr=>by rw[e];exact hO r hr) e
def jd':Sp:=fun vs H Q _=>∃(b:Addr) (n:Nat),vs=[.ref b]/\H b=some (cq' b n)/\n<=2 ^ 38/\∀(a:Addr) (M:List Rm) (H':Hp),Go 1000 H H'->IsM H' a M->OkM M->1<=M.length->M.length<=60->Q (.ref a) H'
theorem kU' {C:Rc} (hN:C.N.length=2) (hT:C.fs "_law_take"=some au') (hMy:C.fs "_law_many"=some eF') (hL:C.fs "_law_line"=some (bc' 1 60 400)) (hCp:C.fs "_law_copied"=some bi') (hMa:C.fs "_law_machine"=some (bc' 1 60 400)) (hRi:C.fs "_law_ring_machine"=some (bc' 1 60 400)):
  ∀vs H Q E,jd' vs H Q E->tSs C kT' { nx:=fun _ H'=>Q .non H',rt:=Q } (L2.aO' C.N vs) H:=by
 intro vs H Q E h
 obtain⟨b,n,rfl,hb,hn,q⟩:=h
 rw[av' hN]
 unfold kT'
 walk_at "st"
 refine am' hT ?_
 walk_at "st"
 refine ao' hb (Go.refl (c:=0)) (by omega) (by decide) (by decide) fun way H1 hb0 hb1 g1 g01=>?_
 obtain⟨n1,hn1,hn1',_⟩:=g01.boxed hb (by omega)
 walk_at "st"
 refine a0' (fun hc=>?_) fun hc=>?_
 .walk_at "st"
  refine am' hL ?_
  walk_at "st"
  refine am' hMy ?_
  walk_at "st"
  refine⟨b,n1,2,6,60,rfl,hn1,by omega,by omega,by omega,by omega,by omega,by omega,fun r H2 hr g2=>?_⟩
  obtain⟨n2,hn2,hn2',_⟩:=g2.boxed hn1 (by omega)
  obtain⟨N,rfl⟩:=aM (show 0<=r by omega)
  walk_at "st"
  exact⟨b,n2,N,rfl,hn2,by omega,by omega,by omega,fun a M H3 g3 h1 h2 h3=>q a M H3 ((g01.trans g2).trans g3 |>.mono (by omega)) h1 h2 (by omega) (by omega)⟩
 walk_at "st"
 refine a0' (fun hc=>?_) fun hc=>?_
 .walk_at "st"
  refine am' hCp ?_
  walk_at "st"
  refine am' hMa ?_
  walk_at "st"
  refine am' hMy ?_
  walk_at "st"
  refine⟨b,n1,1,4,12,rfl,hn1,by omega,by omega,by omega,by omega,by omega,by omega,fun r H2 hr g2=>?_⟩
  obtain⟨n2,hn2,hn2',_⟩:=g2.boxed hn1 (by omega)
  obtain⟨N,rfl⟩:=aM (show 0<=r by omega)
  walk_at "st"
  refine⟨b,n2,N,rfl,hn2,by omega,by omega,by omega,fun a M H3 g3 h1 h2 h3=>?_⟩
  obtain⟨n3,hn3,hn3',_⟩:=g3.boxed hn2 (by omega)
  walk_at "st"
  refine⟨b,a,n3,M,rfl,hn3,by omega,h1,h2,by omega,by omega,fun p a' l M' ms H4 g4 hp hl hlen hms hM' hO' hM1 hM2=>?_⟩
  walk_at "st"
  refine by' (SqT.of hp) (v:=.ref a') rfl ?_
  exact q a' M' H4 ((((g01.trans g2).trans g3).trans g4).mono (by omega)) hM' hO' hM1 hM2
 walk_at "st"
 refine a0' (fun hc=>?_) fun hc=>?_
 .walk_at "st"
  refine am' hRi ?_
  walk_at "st"
  refine am' hMy ?_
  walk_at "st"
  refine⟨b,n1,1,6,12,rfl,hn1,by omega,by omega,by omega,by omega,by omega,by omega,fun r H2 hr g2=>?_⟩
  obtain⟨n2,hn2,hn2',_⟩:=g2.boxed hn1 (by omega)
  obtain⟨N,rfl⟩:=aM (show 0<=r by omega)
  walk_at "st"
  exact⟨b,n2,N,rfl,hn2,by omega,by omega,by omega,fun a M H3 g3 h1 h2 h3=>q a M H3 ((g01.trans g2).trans g3 |>.mono (by omega)) h1 h2 (by omega) (by omega)⟩
 .walk_at "st"
  refine am' hMa ?_
  walk_at "st"
  refine am' hMy ?_
  walk_at "st"
  refine⟨b,n1,1,6,12,rfl,hn1,by omega,by omega,by omega,by omega,by omega,by omega,fun r H2 hr g2=>?_⟩
  obtain⟨n2,hn2,hn2',_⟩:=g2.boxed hn1 (by omega)
  obtain⟨N,rfl⟩:=aM (show 0<=r by omega)
  walk_at "st"
  exact⟨b,n2,N,rfl,hn2,by omega,by omega,by omega,fun a M H3 g3 h1 h2 h3=>q a M H3 ((g01.trans g2).trans g3 |>.mono (by omega)) h1 h2 (by omega) (by omega)⟩
end LW
namespace LW
open PySem PySem.Spec PyProof.Rows L2 R3
def stp (M:List Rm) (r:Nat) (c:Bool):Option Nat:=match M[r]? with
 |some rm=>if c then rm.2 else rm.1
 |none=>none
def wk (M:List Rm) (o:Option Nat) (row:List Bool):Option Nat:=row.foldl (fun o c=>o.bind fun r=>stp M r c) o
theorem je' {M:List Rm} {row:List Bool}:wk M none row=none:=by
 induction row with
 |nil=>rfl
 |cons c row ih=>exact ih
theorem cV' {M:List Rm} {o:Option Nat} {a b:List Bool}:wk M o (a++b)=wk M (wk M o a) b:=by unfold wk;rw[List.foldl_append]
theorem rz' {M:List Rm} {o:Option Nat} {row:List Bool} {i:Nat} (h:wk M o (row.take i)=none):wk M o row=none:=by
 rw[<- aL i row,cV',h,je']
theorem dq' {M:List Rm} (hM:OkM M) {r:Nat} {c:Bool} {n:Nat} (h:stp M r c=some n):n<M.length:=by
 unfold stp at h
 cases e:M[r]? with
 |none=>rw[e]at h;cases h
 |some rm=>
  rw[e]at h
  have:=hM rm (aN e)
  cases c
  .exact this.1 n h
  .exact this.2 n h
theorem jf' {M:List Rm} (hM:OkM M):∀{row:List Bool} {o:Option Nat} {n:Nat},(∀m,o=some m->m<M.length)->wk M o row=some n->n<M.length
 | [],o,n,ho,h=>ho n h
 |c :: row,o,n,ho,h=>jf' hM (row:=row) (o:=o.bind fun r=>stp M r c) (fun m hm=>by
   cases o with
   |none=>cases hm
   |some r=>exact dq' hM hm) h
theorem jg' {C:Rc} {H:Hp} {a:Addr} {M:List Rm} {r:Nat} {c:Bool} {Q:VK} (hM:IsM H a M) (hr:r<M.length) (q:∀p,(∀Q':VK,Q' (oV (stp M r c)) H->eQ' C.K (.ref p) (.int (if c then 1 else 0)) H Q'\/fi' C.K (.ref p) (.int (if c then 1 else 0)) H Q')->Q (.ref p) H):eQ' C.K (.ref a) (.int r) H Q\/fi' C.K (.ref a) (.int r) H Q:=by
 obtain⟨vs,ha,hv⟩:=hM
 obtain⟨p,hp,hpt⟩:=hv.get (ac hr)
 refine by' (SqT.of ha) (v:=.ref p) (aC' hp) (q p fun Q' q'=>?_)
 refine cS' (SqT.of hpt) ?_
 have e:stp M r c=if c then M[r].2 else M[r].1:=by unfold stp;rw[ac hr]
 rw[e]at q'
 cases c<;>exact q'
end LW
namespace LW
open PySem PySem.Spec PyProof.Rows L2 R3
theorem bn' {H H':Hp} {a:Addr} {o:HO} (s:bo' H H') (h:H a=none):bo' H (upd H' a o):=fun b u q=>by
 rw[ac' (ae' q h)]
 exact s b u q
theorem n7' {α:Type} {vs:List α} {i:Nat} {v:α} (hl:vs.length=i+1) (h:vs[i]?=some v):atI vs (-1)=some v:=by
 unfold atI ixN
 rw[if_neg (by omega),if_pos (by omega)]
 show vs[((-1:Int)+(vs.length:Int)).toNat]?=some v
 rw[show((-1:Int)+(vs.length:Int)).toNat=i by omega]
 exact h
def ow (f:Nat->Nat):Option Nat->Nat
 |none=>0
 |some m=>f m
end LW
namespace LW
open PySem PySem.Spec PyProof.Rows L2 R3
end LW
namespace SR
open PySem PySem.Spec PyProof.Rows L2 R3 LW
section
variable {K:W.Frag} {H:Hp} {Q:VK}
end
def tn (l:List Bool) (n:Nat):List Bool:=(l.take n).map (!·)++l.drop n
end SR
namespace RW
open PySem PySem.Spec PyProof.Rows L2 R3 LW SR
def ob (f:Nat->List (List Bool)) (b:Bool):Option Nat->List (List Bool)
 |none=>[]
 |some m=>(f m).map (b :: ·)
def rws (M:List Rm) (g:Option Nat):Nat->Nat->List (List Bool)
 |0,r=>if g=none\/g=some r then[[]]else[]
 |n+1,r=>ob (rws M g n) false (stp M r false)++ob (rws M g n) true (stp M r true)
def rV (x:List Bool):V:=.str (tx x)
def od (f:Nat->Int):Option Nat->Int
 |none=>0
 |some m=>f m
def ext (M:List Rm) (g:Option Nat) (k:Nat) (w:List Bool×Nat):List (List Bool):=(rws M g k w.2).map (w.1++·)
end RW
namespace NR
open PySem PySem.Spec PyProof.Rows L2 R3 LW SR RW
def gtB:List Bool->List Bool->Bool
 |a :: as,b :: bs=>(a&&!b) || (a == b&&gtB as bs)
 |_ :: _,[]=>true
 | [],_=>false
theorem mH':∀{x:List Bool},gtB x x=false
 | []=>rfl
 |a :: x=>by
  show((a&&!a) || (a == a&&gtB x x))=false
  rw[mH' (x:=x)]
  cases a<;>rfl
theorem jh':∀{x y:List Bool},gtB x y=true->gtB y x=false
 | [],_,h=>by cases h
 |a :: x,[],_=>rfl
 |a :: x,b :: y,h=>by
  have h:((a&&!b) || (a == b&&gtB x y))=true:=h
  show((b&&!a) || (b == a&&gtB y x))=false
  cases a<;>cases b<;>simp at h ⊢<;>exact jh' h
def oT:Option Nat->V:=oV
def oR:Option (List Bool)->V
 |none=>.non
 |some x=>rV x
end NR
namespace NM
open PySem PySem.Spec PyProof.Rows L2 R3 LW SR RW NR
theorem rA' {M:List Rm} {o:Option Nat} {row:List Bool} {e i:Nat} (h:wk M o row=some e):∃m,wk M o (row.take i)=some m:=by
 cases q:wk M o (row.take i)with
 |none=>rw[rz' q]at h;cases h
 |some m=>exact⟨m,rfl⟩
end NM
namespace K13
open PySem PySem.Spec PyProof.Rows L2 R3 LW
set_option hygiene false in
local macro_rules | `(tactic| walk_at "su") => `(tactic| simp only [rl', n0', n1', rn', rp', rs', n3', kP', rf', rj', rk', nY', nZ', nX', kN', lG', lH', qp', lI', lJ', lK', lL', lM', lN', lO', lP', lQ', lR', lS', lT', fE', qq', lU', fF', lV', qr', iL', iM', lW', lX', eE', i4', i5', mC', mD', mE', mF', fV', qs', iW', qu', qv', lY', qw', qx', qy', uh', ui', uj', uk', rb', rc', i3', us', iZ', lZ', l0', iN', fG', l1', l2', l3', qz', l4', fH', qB', iO', qF', fI', fJ', fK', um', qG', qH', iK', l6', l7', qI', l5', l8', l9', iP', iQ', fL', ma', iR', mb', fM', fN', mc', md', me', mf', qL', mg', mh', fO', fP', fQ', mi', mj', et', ml', fR', fS', re', mx', dm', eC', eD', iV', qT', mm', qV', qW', ew', iT', mr', mt', mo', iU', q1', q2', q3', q4', fU', clr, List.foldl_cons, List.foldl_nil, L2.aO', aE, cI, aY, List.length_nil, cE, List.nil_append, aC, Nat.reduceSub, Nat.reduceAdd, List.set_cons_zero, List.set_cons_succ, List.getElem?_cons_zero, List.getElem?_cons_succ, reduceCtorEq, decide_true, decide_false, eq_self, Bool.not_true, Bool.not_false, bne_self_eq_false, BEq.rfl])
def bd':List Str:=["room","other","bit"]
def aS':List Str:=["int"]
def aT':Css:=(.cons (.for_ (.name 2) (.val (.str "01")) (.cons (.ite (.cmp .NotEq (.cmp .Is (.idx (.var 0) (.blt .int (.cons (.var 2) .nil))) .non) (.cmp .Is (.idx (.var 1) (.blt .int (.cons (.var 2) .nil))) .non)) (.cons (.ret (.var 2))
  .nil) .nil)
  .nil))
  (.cons (.ret .non)
  .nil))
def cW':List Str:=["one","a","other","b","seen","layer","row","x","y","bit","wider","pair"]
def b5':List Str:=["int"]
def b6':Css:=(.cons (.asg (.name 4) (.sd1 (.tup (.cons (.var 1) (.cons (.var 3) .nil)))))
  (.cons (.asg (.name 5) (.lst (.cons (.tup (.cons (.str "") (.cons (.var 1) (.cons (.var 3) .nil)))) .nil)))
  (.cons (.whl (.val (.var 5)) (.cons (.for_ (.tup (.cons (.name 6) (.cons (.name 7) (.cons (.name 8) .nil)))) (.val (.var 5)) (.cons (.asg (.name 9) (.call "parting_bit" (.cons (.idx (.var 0) (.var 7)) (.cons (.idx (.var 2) (.var 8)) .nil))))
  (.cons (.ite (.cmp .IsNot (.var 9) .non) (.cons (.ret (.bin .Add (.var 6) (.var 9)))
  .nil) .nil)
  .nil)))
  (.cons (.asg (.name 10) (.lst .nil))
  (.cons (.for_ (.tup (.cons (.name 6) (.cons (.name 7) (.cons (.name 8) .nil)))) (.val (.var 5)) (.cons (.for_ (.name 9) (.val (.str "01")) (.cons (.asg (.name 11) (.tup (.cons (.idx (.idx (.var 0) (.var 7)) (.blt .int (.cons (.var 9) .nil))) (.cons (.idx (.idx (.var 2) (.var 8)) (.blt .int (.cons (.var 9) .nil))) .nil))))
  (.cons (.ite (.and (.cmp .IsNot (.idx (.var 11) (.int 0)) .non) (.cmw .ninS (.var 11) (.var 4))) (.cons (.expr (.sad (.var 4) (.var 11)))
  (.cons (.expr (.met .append (.var 10) (.cons (.tup (.cons (.bin .Add (.var 6) (.var 9)) (.cons (.idx (.var 11) (.int 0)) (.cons (.idx (.var 11) (.int 1)) .nil)))) .nil)))
  .nil)) .nil)
  .nil)))
  .nil))
  (.cons (.asg (.name 5) (.var 10))
  .nil)))))
  (.cons (.ret .non)
  .nil))))
def b7':List Str:=["_law_script","_law_k"]
def bF':List Str:=["len"]
def kV':List Str:=["_law_script","_law_k","_law_cell"]
def ji':List Str:=["abs","int"]
def jj':List Str:=["_law_box_here","_law_many_here","_law_found","_law_once","_law_twice"]
def f0':List Str:=[]
def jk':List Str:=["_law_box_here","_law_least","_law_few","_law_most"]
def f3':List Str:=[]
def cX':List Str:=["_law_box_here","_law_many_here","_law_often","_law_rooms","_law_k","_law_doors","_law_bit","_law_to"]
def b8':List Str:=["int","range","tuple"]
def bl':List Str:=["_law_box_here","_law_many_here","_law_order","_law_k","_law_rooms","_law_at","_law_room","_law_on","_law_other"]
def aY':List Str:=["enumerate","int","range","tuple"]
def dU':List Str:=["_law_box_here","_law_machine_here","_law_mixed","_law_room","_law_turn","_law_rooms","_law_ends","_law_end","_law_some","_law_k","_law_one"]
def cv':List Str:=["enumerate","len","range","tuple"]
def jl':List Str:=["_law_box_here","_law_many_here","_law_bit","_law_last","_law_ends","_law_end"]
def f4':List Str:=["list","range","tuple"]
def n8':List Str:=["_law_box_here","_law_way"]
def kW':List Str:=[]
def jm':List Str:=["_law_one","_law_other","_law_end","_law_room"]
def f5':List Str:=["len","tuple"]
def f6':Css:=(.cons (.ret (.bin .Add (.var 0) (.blt .tuple (.cons (.comp (.blt .tuple (.cons (.comp (.ife (.cmp .Is (.var 2) .non) .non (.bin .Add (.var 2) (.blt .len (.cons (.var 0) .nil)))) [2] (.name 2) (.val (.var 3)) .none .nil) .nil)) [3] (.name 3) (.val (.var 1)) .none .nil) .nil))))
  .nil)
def dV':List Str:=["_law_both_here","_law_levels","_law_turn","_law_marks","_law_numbers","_law_ends","_law_mark","_law_end"]
def cw':List Str:=["len","range","tuple"]
def cx':Css:=(.cons (.asg (.name 1) (.lst (.cons (.bin .Mult (.lst (.cons (.int 0) .nil)) (.blt .len (.cons (.var 0) .nil))) .nil)))
  (.cons (.for_ (.name 2) (.range1 (.blt .len (.cons (.var 0) .nil))) (.cons (.asg (.name 3) .dnt)
  (.cons (.asg (.name 4) (.lst .nil))
  (.cons (.for_ (.name 5) (.val (.var 0)) (.cons (.asg (.name 6) (.blt .tuple (.cons (.comp (.ife (.cmp .Is (.var 7) .non) (.neg (.int 1)) (.idx (.idx (.var 1) (.neg (.int 1))) (.var 7))) [7] (.name 7) (.val (.var 5)) .none .nil) .nil)))
  (.cons (.expr (.met .append (.var 4) (.cons (.dsd (.var 3) (.var 6) (.blt .lenD (.cons (.var 3) .nil))) .nil)))
  .nil)))
  (.cons (.expr (.met .append (.var 1) (.cons (.var 4) .nil)))
  .nil)))))
  (.cons (.ret (.var 1))
  .nil)))
def bV':List Str:=["_law_both_here","_law_levels","_law_a","_law_b","_law_some","_law_many_here","_law_row","_law_left","_law_pairs","_law_marks","_law_end","_law_pair","_law_bit","_law_k"]
def bt':List Str:=["len","list","range","zip"]
def bu':Css:=(.cons (.asg (.name 4) (.comp (.var 5) [5] (.name 5) (.range1 (.blt .len (.cons (.var 1) .nil))) (.some (.cmp .NotEq (.idx (.idx (.var 1) (.var 5)) (.var 2)) (.idx (.idx (.var 1) (.var 5)) (.var 3)))) .nil))
  (.cons (.ite (.cmp .Eq (.var 4) (.lst .nil)) (.cons (.ret .non)
  .nil) .nil)
  (.cons (.asg (.name 6) (.str ""))
  (.cons (.for_ (.name 7) (.range3 (.bin .Sub (.idx (.var 4) (.int 0)) (.int 1)) (.neg (.int 1)) (.neg (.int 1))) (.cons (.asg (.name 8) (.lzp (.idx (.var 0) (.var 2)) (.idx (.var 0) (.var 3))))
  (.cons (.asg (.name 9) (.comp (.comp (.ife (.cmp .Is (.var 10) .non) (.neg (.int 1)) (.idx (.idx (.var 1) (.var 7)) (.var 10))) [10] (.name 10) (.val (.var 11)) .none .nil) [11] (.name 11) (.val (.var 8)) .none .nil))
  (.cons (.asg (.name 12) (.idx (.comp (.var 13) [13] (.name 13) (.val (.tup (.cons (.int 0) (.cons (.int 1) .nil)))) (.some (.cmp .NotEq (.idx (.idx (.var 9) (.var 13)) (.int 0)) (.idx (.idx (.var 9) (.var 13)) (.int 1)))) .nil) (.int 0)))
  (.cons (.asg (.name 6) (.bin .Add (.var 6) (.idx (.str "01") (.var 12))))
  (.cons (.asg (.tup (.cons (.name 2) (.cons (.name 3) .nil))) (.idx (.var 8) (.var 12)))
  .nil))))))
  (.cons (.ret (.var 6))
  .nil)))))
def n9':List Str:=["_law_box_here","_law_one","_law_way","_law_other","_law_at","_law_ends"]
def kX':List Str:=["len"]
def kY':Css:=(.cons (.asg (.name 1) (.call "_law_any" (.cons (.var 0) .nil)))
  (.cons (.asg (.name 2) (.call "_law_take" (.cons (.var 0) (.cons (.int 5) .nil))))
  (.cons (.asg (.name 3) (.var 1))
  (.cons (.ite (.and (.cmp .Eq (.var 2) (.int 1)) (.cmp .Lt (.blt .len (.cons (.var 1) .nil)) (.int 13))) (.cons (.asg (.name 3) (.idx (.call "_law_copied" (.cons (.var 0) (.cons (.var 1) .nil))) (.int 0)))
  .nil) .nil)
  (.cons (.ite (.cmp .Eq (.var 2) (.int 2)) (.cons (.asg (.name 4) (.call "_law_take" (.cons (.var 0) (.cons (.blt .len (.cons (.var 1) .nil)) .nil))))
  (.cons (.asg (.name 5) (.idx (.lst (.cons (.tup (.cons .non (.cons (.idx (.idx (.var 1) (.var 4)) (.int 1)) .nil))) (.cons (.tup (.cons (.idx (.idx (.var 1) (.var 4)) (.int 0)) (.cons .non .nil))) .nil))) (.call "_law_take" (.cons (.var 0) (.cons (.int 2) .nil)))))
  (.cons (.asg (.name 3) (.bin .Add (.bin .Add (.cut (.var 1) .none (.some (.var 4))) (.tup (.cons (.var 5) .nil))) (.cut (.var 1) (.some (.bin .Add (.var 4) (.int 1))) .none)))
  .nil))) .nil)
  (.cons (.ite (.cmp .Gt (.var 2) (.int 2)) (.cons (.asg (.name 3) (.call "_law_any" (.cons (.var 0) .nil)))
  .nil) .nil)
  (.cons (.ret (.tup (.cons (.var 1) (.cons (.var 3) .nil))))
  .nil)))))))
def kZ':List Str:=["_law_script","_law_k","_law_box_here","_law_one","_law_other","_law_both_here","_law_levels","_law_turn","_law_a","_law_b","_law_c"]
def jn':List Str:=["len","min","range"]
def k0':Css:=(.cons (.for_ (.name 1) (.range1 (.int 6)) (.cons (.asg (.name 2) (.call "_law_box" (.cons (.var 0) (.cons (.var 1) .nil))))
  (.cons (.asg (.tup (.cons (.name 3) (.cons (.name 4) .nil))) (.call "_law_two" (.cons (.var 2) .nil)))
  (.cons (.asg (.name 5) (.call "_law_both" (.cons (.var 3) (.cons (.var 4) .nil))))
  (.cons (.asg (.name 6) (.call "_law_rounds" (.cons (.var 5) .nil)))
  (.cons (.for_ (.name 7) (.range1 (.int 4)) (.cons (.par 8 9 (.call "_law_take" (.cons (.var 2) (.cons (.blt .len (.cons (.var 3) .nil)) .nil))) (.call "_law_take" (.cons (.var 2) (.cons (.blt .len (.cons (.var 4) .nil)) .nil))))
  (.cons (.ite (.cmp .Eq (.var 7) (.int 0)) (.cons (.asg (.name 9) (.blt .min (.cons (.var 8) (.cons (.bin .Sub (.blt .len (.cons (.var 4) .nil)) (.int 1)) .nil))))
  .nil) .nil)
  (.cons (.ite (.cmp .NotEq (.call "apart" (.cons (.var 3) (.cons (.var 8) (.cons (.var 4) (.cons (.var 9) .nil))))) (.call "_law_first_row" (.cons (.var 5) (.cons (.var 6) (.cons (.var 8) (.cons (.bin .Add (.blt .len (.cons (.var 3) .nil)) (.var 9)) .nil)))))) (.cons (.ret (.bl false))
  .nil) .nil)
  (.cons (.asg (.name 10) (.call "_law_take" (.cons (.var 2) (.cons (.blt .len (.cons (.var 3) .nil)) .nil))))
  (.cons (.ite (.cmp .NotEq (.call "apart" (.cons (.var 3) (.cons (.var 8) (.cons (.var 3) (.cons (.var 10) .nil))))) (.call "_law_first_row" (.cons (.var 5) (.cons (.var 6) (.cons (.var 8) (.cons (.var 10) .nil)))))) (.cons (.ret (.bl false))
  .nil) .nil)
  .nil))))))
  .nil))))))
  (.cons (.ret (.bl true))
  .nil))
open NR NM RW
theorem f7':∀{x y:List Bool},x.length=y.length->gtB y x=true\/gtB x y=true\/x=y
 | [],[],_=>.inr (.inr rfl)
 | [],_ :: _,h=>by simp at h
 |_ :: _,[],h=>by simp at h
 |a :: x,b :: y,h=>by
  have h':x.length=y.length:=by simpa using h
  rcases f7' h' with g|g|g
  .cases a<;>cases b<;>simp[gtB,g]
  .cases a<;>cases b<;>simp[gtB,g]
  .subst g
   cases a<;>cases b<;>simp[gtB]
theorem f8':∀{x y:List Bool} (t u:List Bool),x.length=y.length->gtB x y=true->gtB (x++t) (y++u)=true
 | [],[],_,_,_,h=>by cases h
 | [],_ :: _,_,_,h,_=>by simp at h
 |_ :: _,[],_,_,h,_=>by simp at h
 |a :: x,b :: y,t,u,hl,h=>by
  have hl':x.length=y.length:=by simpa using hl
  simp only[gtB,Bool.or_eq_true,ah,cE]at h ⊢
  rcases h with h|⟨h1,h2⟩
  .exact .inl h
  .exact .inr ⟨h1,f8' t u hl' h2⟩
theorem fa':∀{x:List Bool} {t u:List Bool},gtB (x++t) (x++u)=gtB t u
 | [],_,_=>rfl
 |a :: x,t,u=>by
  show((a&&!a) || (a == a&&gtB (x++t) (x++u)))=_
  rw[fa']
  cases a<;>simp
def Lst (f g:List Bool->Bool):Option (List Bool)->Prop
 |none=>∀w,f w=g w
 |some R=>f R≠g R/\∀w,f w≠g w->R.length<w.length\/(R.length=w.length/\gtB R w=false)
theorem Lst.uniq {f g:List Bool->Bool}:∀{o p:Option (List Bool)},Lst f g o->Lst f g p->o=p
 |none,none,_,_=>rfl
 |none,some R,h,k=>absurd (h R) k.1
 |some R,none,h,k=>absurd (k R) h.1
 |some R,some S,h,k=>by
  have h1:=h.2 S k.1
  have k1:=k.2 R h.1
  have hl:R.length=S.length:=by omega
  have a1:=(h1.resolve_left (by omega)).2
  have a2:=(k1.resolve_left (by omega)).2
  rcases f7' hl with g|g|g
  .rw[g]at a2;cases a2
  .rw[g]at a1;cases a1
  .rw[g]
def alr:Nat->List (List Bool)
 |0=>[[]]
 |n+1=>(alr n).map (false :: ·)++(alr n).map (true :: ·)
theorem fb':∀{w:List Bool},w∈alr w.length
 | []=>by simp[alr]
 |b :: w=>by
  have:=fb' (w:=w)
  cases b
  .exact aD _ (aP.mpr ⟨w,this,rfl⟩)
  .exact ax _ (aP.mpr ⟨w,this,rfl⟩)
theorem jo':∀{n:Nat} {w:List Bool},w∈alr n->w.length=n
 |0,w,h=>by
  have:w=[]:=by simpa[alr]using h
  rw[this];rfl
 |n+1,w,h=>by
  rcases al.mp h with h|h<;>(obtain⟨v,hv,rfl⟩:=aP.mp h;rw[aY,jo' hv])
theorem jp':∀n,(alr n).Pairwise fun x y=>gtB y x=true
 |0=>cj _ _
 |n+1=>by
  refine aX.mpr ⟨?_,?_,fun a ha b hb=>?_⟩
  .rw[cc]
   exact(jp' n).imp fun {x y} h=>by simp[gtB,h]
  .rw[cc]
   exact(jp' n).imp fun {x y} h=>by simp[gtB,h]
  .obtain⟨x,_,rfl⟩:=aP.mp ha
   obtain⟨y,_,rfl⟩:=aP.mp hb
   simp[gtB]
theorem Lst.ex (f g:List Bool->Bool):∃o,Lst f g o:=by
 by_cases h:∃n,∃w:List Bool,w.length=n/\f w≠g w
 .obtain⟨n,⟨w,hw,hne⟩,hmin⟩:∃n,(∃w:List Bool,w.length=n/\f w≠g w)/\∀m,m<n->¬∃w:List Bool,w.length=m/\f w≠g w:=by
   obtain⟨n,hn⟩:=h
   induction n using Nat.strongRecOn with
   |_ n ih=>
    by_cases hm:∃m,m<n/\∃w:List Bool,w.length=m/\f w≠g w
    .obtain⟨m,hm1,hm2⟩:=hm
     exact ih m hm1 hm2
    .exact⟨n,hn,fun m hm1 hm2=>hm ⟨m,hm1,hm2⟩⟩
  subst hw
  cases hf:(alr w.length).find? (fun v=>decide (f v≠g v))with
  |none=>exact absurd (List.find?_eq_none.mp hf w fb') (by simpa using hne)
  |some R=>
   obtain⟨hR,as,bs,e,hall⟩:=List.find?_eq_some_iff_append.mp hf
   have hRl:R.length=w.length:=jo' (by rw[e];simp)
   refine⟨some R,by simpa using hR,fun v hv=>?_⟩
   rcases Nat.lt_trichotomy v.length w.length with z|z|z
   .exact absurd ⟨v,rfl,hv⟩ (hmin _ z)
   .right
    refine⟨by omega,?_⟩
    have hm:v∈as++R :: bs:=by rw[<- e,<- z];exact fb'
    have up:=jp' w.length
    rw[e]at up
    rcases al.mp hm with hm|hm
    .have:=hall v hm
     simp at this
     exact absurd this hv
    .rcases aq.mp hm with rfl|hm
     .exact mH'
     .exact jh' ((List.pairwise_cons.mp (aX.mp up).2.1).1 v hm)
   .left;omega
 .exact⟨none,fun w=>by
   cases e:decide (f w=g w)with
   |true=>exact of_decide_eq_true e
   |false=>exact absurd ⟨w.length,w,rfl,of_decide_eq_false e⟩ h⟩
def wl (M:List Rm) (a:Nat) (w:List Bool):Bool:=(wk M (some a) w).isSome
def At (M N:List Rm) (a b:Nat) (w:List Bool) (x y:Nat):Prop:=wk M (some a) w=some x/\wk N (some b) w=some y
theorem dr' {M:List Rm} {a x:Nat} {w t:List Bool} (h:wk M (some a) w=some x):wl M a (w++t)=wl M x t:=by unfold wl;rw[cV',h]
theorem bz' {M:List Rm} {x:Nat} {c:Bool} {t:List Bool}:wl M x (c :: t)=match LW.stp M x c with|some m=>wl M m t|none=>false:=by
 show(wk M (LW.stp M x c) t).isSome=_
 cases LW.stp M x c with
 |none=>rw[je'];rfl
 |some m=>rfl
theorem mI' {M:List Rm} {a:Nat} {w:List Bool} {k:Nat} (h:wl M a w=true):∃x,wk M (some a) (w.take k)=some x:=by
 unfold wl at h
 obtain⟨e,he⟩:=bH.mp h
 exact rA' he
theorem Lst.pre {M N:List Rm} {a b:Nat} {R:List Bool} (h:Lst (wl M a) (wl N b) (some R)) {k:Nat} (hk:k<R.length):∃x y,At M N a b (R.take k) x y:=by
 have eq:wl M a (R.take k)=wl N b (R.take k):=by
  cases e:decide (wl M a (R.take k)=wl N b (R.take k))with
  |true=>exact of_decide_eq_true e
  |false=>
   have:=h.2 _ (of_decide_eq_false e)
   rw[aF]at this
   omega
 have one:∃x,wk M (some a) (R.take k)=some x\/wk N (some b) (R.take k)=some x:=by
  cases e1:wl M a R with
  |true=>obtain⟨x,hx⟩:=mI' (k:=k) e1;exact⟨x,.inl hx⟩
  |false=>
   cases e2:wl N b R with
   |true=>obtain⟨x,hx⟩:=mI' (k:=k) e2;exact⟨x,.inr hx⟩
   |false=>exact absurd (e1.trans e2.symm) h.1
 obtain⟨x,hx|hx⟩:=one
 .have:wl N b (R.take k)=true:=by rw[<- eq];unfold wl;rw[hx];rfl
  obtain⟨y,hy⟩:=bH.mp this
  exact⟨x,y,hx,hy⟩
 .have:wl M a (R.take k)=true:=by rw[eq];unfold wl;rw[hx];rfl
  obtain⟨y,hy⟩:=bH.mp this
  exact⟨y,x,hy,hx⟩
def pb (u v:Rm):Option Bool:=if u.1.isNone≠v.1.isNone then some false else if u.2.isNone≠v.2.isNone then some true else none
def led (u:Rm) (c:Bool):Option Nat:=if c then u.2 else u.1
set_option tactic.hygienic true in
theorem jq' {u v:Rm} {c:Bool} (h:pb u v=some c):(led u c).isNone≠(led v c).isNone/\(c=true->u.1.isNone=v.1.isNone):=by
 unfold pb at h
 split at h
 .rename_i h1
  cases h
  exact⟨h1,fun z=>by cases z⟩
 .rename_i h0
  split at h
  .rename_i h1
   cases h
   exact⟨h1,fun _=>by simpa using h0⟩
  .cases h
set_option tactic.hygienic true in
theorem fc' {u v:Rm} (h:pb u v=none) (c:Bool):(led u c).isNone=(led v c).isNone:=by
 unfold pb at h
 split at h
 .cases h
 .rename_i h0
  split at h
  .cases h
  .rename_i h1
   cases c
   .simpa[led]using h0
   .simpa[led]using h1
def dr (M:List Rm) (x:Nat):Rm:=M.getD x (none,none)
theorem aD' {M:List Rm} {x:Nat} {c:Bool}:LW.stp M x c=led (dr M x) c:=by
 unfold LW.stp dr led
 rw[aI]
 cases M[x]? with
 |none=>cases c<;>rfl
 |some u=>cases c<;>rfl
theorem b9' {M N:List Rm} {a b x y:Nat} {w:List Bool} {c:Bool} (h:At M N a b w x y):wl M a (w++[c])≠wl N b (w++[c])↔(led (dr M x) c).isNone≠(led (dr N y) c).isNone:=by
 rw[dr' h.1,dr' h.2,bz',bz',aD',aD']
 cases led (dr M x) c<;>cases led (dr N y) c<;>simp[wl,wk]
abbrev En:=List Bool×Nat×Nat
structure Lay (M N:List Rm) (a b k:Nat) (L:List En) (S:List (Nat×Nat)):Prop where
 at_:∀e∈L,e.1.length=k/\At M N a b e.1 e.2.1 e.2.2
 up:L.Pairwise fun e d=>gtB d.1 e.1=true
 seen:∀p∈S,∃v,v.length<=k/\At M N a b v p.1 p.2
 low:∀R,Lst (wl M a) (wl N b) (some R)->k<R.length/\∃x y,(R.take k,x,y)∈L
theorem tM' {M N:List Rm} {a b:Nat}:Lay M N a b 0 [([],a,b)] [(a,b)]:=by
 refine⟨fun e he=>?_,cj _ _,fun p hp=>?_,fun R hR=>?_⟩
 .have:e=([],a,b):=by simpa using he
  subst this
  exact⟨rfl,rfl,rfl⟩
 .have:p=(a,b):=by simpa using hp
  subst this
  exact⟨[],ak _,rfl,rfl⟩
 .cases R with
  |nil=>exact absurd rfl hR.1
  |cons c R=>exact⟨Nat.succ_pos _,a,b,by simp⟩
theorem jr' {M N:List Rm} {a b k:Nat} {L:List En} {S:List (Nat×Nat)} (h:Lay M N a b k L S) {i:Nat} {e:En} {c:Bool} (hi:L[i]?=some e) (hc:pb (dr M e.2.1) (dr N e.2.2)=some c) (hno:∀j d,j<i->L[j]?=some d->pb (dr M d.2.1) (dr N d.2.2)=none):Lst (wl M a) (wl N b) (some (e.1++[c])):=by
 obtain⟨o,ho⟩:=Lst.ex (wl M a) (wl N b)
 have hem:=aN hi
 obtain⟨hel,hat⟩:=h.at_ e hem
 have hne:=(b9' hat).mpr (jq' hc).1
 cases o with
 |none=>exact absurd (ho _) hne
 |some R=>
  obtain⟨hk,x,y,hm⟩:=h.low R ho
  have h1:=ho.2 _ hne
  rw[am,hel,cx]at h1
  have hRl:R.length=k+1:=by omega
  have h2:=(h1.resolve_left (by omega)).2
  obtain⟨d,hd⟩:∃d,R=R.take k++[d]:=by
   have:=aL k R
   cases e0:R.drop k with
   |nil=>have:=congrArg cG e0;simp at this;omega
   |cons d r=>
    have hr:r=[]:=by
     have:=congrArg cG e0
     simp at this
     exact ck (by omega)
    subst hr
    rw[e0]at this
    exact⟨d,this.symm⟩
  generalize R.take k=u at hd hm
  subst hd
  obtain⟨j,hj⟩:=bp hm
  obtain⟨hul,hua⟩:=h.at_ _ hm
  have hpu:=(b9' (c:=d) hua).mp ho.1
  have hji:¬j<i:=fun z=>hpu (fc' (hno j _ z hj) d)
  have hle:u=e.1:=by
   rcases bc i j with z|z
   .have up:=bV.mp h.up
    obtain⟨a1,b1⟩:=av.mp hi
    obtain⟨a2,b2⟩:=av.mp hj
    have:=up i j a1 a2 z
    rw[b1,b2]at this
    rw[f8' [d] [c] (hul.trans hel.symm) this]at h2
    cases h2
   .have:i=j:=by omega
    subst this
    rw[hi]at hj
    cases hj
    rfl
  subst hle
  have hxy:x=e.2.1/\y=e.2.2:=by
   have e1:=hua.1.symm.trans hat.1
   have e2:=hua.2.symm.trans hat.2
   exact⟨Option.some.inj e1,Option.some.inj e2⟩
  rw[fa']at h2
  have:d=c:=by
   cases d<;>cases c
   .rfl
   .exact absurd ((jq' hc).2 rfl) (by rw[<- hxy.1,<- hxy.2];exact hpu)
   .cases h2
   .rfl
  subst this
  exact ho
def two (e:En):List (En×Bool):=[(e,false),(e,true)]
def row (q:En×Bool):List Bool:=q.1.1++[q.2]
structure Stp (M N:List Rm) (a b k:Nat) (pre:List (En×Bool)) (W:List En) (S:List (Nat×Nat)):Prop where
 at_:∀e∈W,e.1.length=k+1/\At M N a b e.1 e.2.1 e.2.2
 up:W.Pairwise fun e d=>gtB d.1 e.1=true
 of:∀e∈W,∃q∈pre,e.1=row q
 seen:∀p∈S,(∃v,v.length<=k/\At M N a b v p.1 p.2)\/∃q∈pre,At M N a b (row q) p.1 p.2
 low:∀R,Lst (wl M a) (wl N b) (some R)->(∃q∈pre,R.take (k+1)=row q)->∃x y,(R.take (k+1),x,y)∈W
theorem tN' {M N:List Rm} {a b k:Nat} {L:List En} {S:List (Nat×Nat)} (h:Lay M N a b k L S):Stp M N a b k [] [] S:=
 ⟨fun e he=>absurd he aK,.nil,fun e he=>absurd he aK,fun p hp=>.inl (h.seen p hp),fun R _ ⟨q,hq,_⟩=>absurd hq aK⟩
structure Pos (M N:List Rm) (a b k:Nat) (pre:List (En×Bool)) (q:En×Bool):Prop where
 len:q.1.1.length=k
 at_:At M N a b q.1.1 q.1.2.1 q.1.2.2
 no:pb (dr M q.1.2.1) (dr N q.1.2.2)=none
 up:∀r∈pre,(row r).length=k+1/\gtB (row q) (row r)=true
 far:∀R,Lst (wl M a) (wl N b) (some R)->k+1<R.length
theorem k1' {M N:List Rm} {a b k:Nat} {pre:List (En×Bool)} {q:En×Bool} {W:List En} {S:List (Nat×Nat)} (h:Stp M N a b k pre W S) (p:Pos M N a b k pre q) (hn:led (dr M q.1.2.1) q.2=none):Stp M N a b k (pre++[q]) W S:=by
 refine⟨h.at_,h.up,fun e he=>let⟨r,hr,e1⟩:=h.of e he;⟨r,aD _ hr,e1⟩,fun s hs=>?_,fun R hR hq=>?_⟩
 .rcases h.seen s hs with z|⟨r,hr,z⟩
  .exact .inl z
  .exact .inr ⟨r,aD _ hr,z⟩
 .obtain⟨r,hr,e1⟩:=hq
  rcases al.mp hr with hr|hr
  .exact h.low R hR ⟨r,hr,e1⟩
  .exfalso
   have:r=q:=by simpa using hr
   subst this
   obtain⟨x,y,hx,_⟩:=hR.pre (p.far R hR)
   rw[e1]at hx
   unfold row at hx
   rw[cV',p.at_.1]at hx
   have hx':LW.stp M r.1.2.1 r.2=some x:=hx
   rw[aD',hn]at hx'
   cases hx'
theorem oa' {M N:List Rm} {a b k x y:Nat} {pre:List (En×Bool)} {q:En×Bool} {W:List En} {S:List (Nat×Nat)} (h:Stp M N a b k pre W S) (p:Pos M N a b k pre q) (hx:led (dr M q.1.2.1) q.2=some x) (hy:led (dr N q.1.2.2) q.2=some y) (hs:(x,y)∈S):Stp M N a b k (pre++[q]) W S:=by
 refine⟨h.at_,h.up,fun e he=>let⟨r,hr,e1⟩:=h.of e he;⟨r,aD _ hr,e1⟩,fun s hs=>?_,fun R hR hq=>?_⟩
 .rcases h.seen s hs with z|⟨r,hr,z⟩
  .exact .inl z
  .exact .inr ⟨r,aD _ hr,z⟩
 .obtain⟨r,hr,e1⟩:=hq
  rcases al.mp hr with hr|hr
  .exact h.low R hR ⟨r,hr,e1⟩
  .exfalso
   have:r=q:=by simpa using hr
   subst this
   have hat:At M N a b (row r) x y:=by
    unfold row At
    rw[cV',cV',p.at_.1,p.at_.2]
    exact⟨(aD' (M:=M)).trans hx,(aD' (M:=N)).trans hy⟩
   have hRe:R=row r++R.drop (k+1):=by rw[<- e1,aL]
   have hrl:(row r).length=k+1:=by unfold row;rw[am,p.len];rfl
   generalize R.drop (k+1)=t at hRe
   have hdist:=hR.1
   rw[hRe,dr' hat.1,dr' hat.2]at hdist
   have key:∀v,At M N a b v x y->R.length<=v.length+t.length/\(v.length=k+1->gtB R (v++t)=false):=fun v hv=>by
    have hd:wl M a (v++t)≠wl N b (v++t):=by rw[dr' hv.1,dr' hv.2];exact hdist
    have h1:=hR.2 _ hd
    rw[am]at h1
    refine⟨by omega,fun hv2=>?_⟩
    have hl:R.length=k+1+t.length:=by rw[hRe,am,hrl]
    exact(h1.resolve_left (by omega)).2
   have hl:R.length=k+1+t.length:=by rw[hRe,am,hrl]
   rcases h.seen _ hs with⟨v,hv1,hv2⟩|⟨s,hs1,hs2⟩
   .have:=(key v hv2).1
    omega
   .obtain⟨u1,u2⟩:=p.up s hs1
    have:=(key _ hs2).2 u1
    rw[hRe,f8' t t (hrl.trans u1.symm) u2]at this
    cases this
theorem ob' {M N:List Rm} {a b k x y:Nat} {pre:List (En×Bool)} {q:En×Bool} {W:List En} {S:List (Nat×Nat)} (h:Stp M N a b k pre W S) (p:Pos M N a b k pre q) (hx:led (dr M q.1.2.1) q.2=some x) (hy:led (dr N q.1.2.2) q.2=some y):Stp M N a b k (pre++[q]) (W++[(row q,x,y)]) (S++[(x,y)]):=by
 have hat:At M N a b (row q) x y:=by
  unfold row At
  rw[cV',cV',p.at_.1,p.at_.2]
  exact⟨(aD' (M:=M)).trans hx,(aD' (M:=N)).trans hy⟩
 have hrl:(row q).length=k+1:=by unfold row;rw[am,p.len];rfl
 refine⟨fun e he=>?_,?_,fun e he=>?_,fun s hs=>?_,fun R hR hq=>?_⟩
 .rcases al.mp he with he|he
  .exact h.at_ e he
  .have:e=(row q,x,y):=by simpa using he
   subst this
   exact⟨hrl,hat⟩
 .refine aX.mpr ⟨h.up,cj _ _,fun e he d hd=>?_⟩
  have:d=(row q,x,y):=by simpa using hd
  subst this
  obtain⟨r,hr,e1⟩:=h.of e he
  rw[e1]
  exact(p.up r hr).2
 .rcases al.mp he with he|he
  .obtain⟨r,hr,e1⟩:=h.of e he
   exact⟨r,aD _ hr,e1⟩
  .have:e=(row q,x,y):=by simpa using he
   subst this
   exact⟨q,by simp,rfl⟩
 .rcases al.mp hs with hs|hs
  .rcases h.seen s hs with z|⟨r,hr,z⟩
   .exact .inl z
   .exact .inr ⟨r,aD _ hr,z⟩
  .have:s=(x,y):=by simpa using hs
   subst this
   exact .inr ⟨q,by simp,hat⟩
 .obtain⟨r,hr,e1⟩:=hq
  rcases al.mp hr with hr|hr
  .obtain⟨x',y',hm⟩:=h.low R hR ⟨r,hr,e1⟩
   exact⟨x',y',aD _ hm⟩
  .have:r=q:=by simpa using hr
   subst this
   exact⟨x,y,ax _ (by rw[e1];simp)⟩
theorem js' {M N:List Rm} {a b k:Nat} {L:List En} {S:List (Nat×Nat)} (h:Lay M N a b k L S) (hno:∀e∈L,pb (dr M e.2.1) (dr N e.2.2)=none) {R:List Bool} (hR:Lst (wl M a) (wl N b) (some R)):k+1<R.length:=by
 obtain⟨hk,x,y,hm⟩:=h.low R hR
 rcases bc (k+1) R.length with z|z
 .exact z
 .exfalso
  have hRl:R.length=k+1:=by omega
  obtain⟨_,hat⟩:=h.at_ _ hm
  obtain⟨d,hd⟩:∃d,R=R.take k++[d]:=by
   have:=aL k R
   cases e0:R.drop k with
   |nil=>have:=congrArg cG e0;simp at this;omega
   |cons d r=>
    have hr:r=[]:=by
     have:=congrArg cG e0
     simp at this
     exact ck (by omega)
    subst hr
    rw[e0]at this
    exact⟨d,this.symm⟩
  have h1:=hR.1
  rw[hd]at h1
  exact(b9' hat).mp h1 (fc' (hno _ hm) d)
theorem oc' {L:List En} {k:Nat} (hl:∀e∈L,e.1.length=k) (hu:L.Pairwise fun e d=>gtB d.1 e.1=true):(L.flatMap two).Pairwise fun q r=>gtB (row r) (row q)=true:=by
 induction L with
 |nil=>exact .nil
 |cons e L ih=>
  obtain⟨h1,h2⟩:=List.pairwise_cons.mp hu
  rw[List.flatMap_cons]
  refine aX.mpr ⟨?_,ih (fun d hd=>hl d (ao _ hd)) h2,fun q hq r hr=>?_⟩
  .refine List.pairwise_cons.mpr ⟨fun r hr=>?_,cj _ _⟩
   have:r=(e,true):=by simpa[two]using hr
   subst this
   show gtB (e.1++[true]) (e.1++[false])=true
   rw[fa']
   rfl
  .obtain⟨d,hd,hr⟩:=List.mem_flatMap.mp hr
   have hq1:q.1=e:=by
    have:q=(e,false)\/q=(e,true):=by simpa[two]using hq
    rcases this with rfl|rfl<;>rfl
   have hr1:r.1=d:=by
    have:r=(d,false)\/r=(d,true):=by simpa[two]using hr
    rcases this with rfl|rfl<;>rfl
   unfold row
   rw[hq1,hr1]
   exact f8' _ _ ((hl d (ao _ hd)).trans (hl e aA).symm) (h1 d hd)
theorem rB' {M N:List Rm} {a b k:Nat} {L W:List En} {S S':List (Nat×Nat)} (h:Lay M N a b k L S) (hno:∀e∈L,pb (dr M e.2.1) (dr N e.2.2)=none) (s:Stp M N a b k (L.flatMap two) W S'):Lay M N a b (k+1) W S':=by
 refine⟨s.at_,s.up,fun p hp=>?_,fun R hR=>?_⟩
 .rcases s.seen p hp with⟨v,h1,h2⟩|⟨q,hq,h2⟩
  .exact⟨v,Nat.le_succ_of_le h1,h2⟩
  .obtain⟨e,he,hq⟩:=List.mem_flatMap.mp hq
   refine⟨row q,?_,h2⟩
   have hq1:q.1=e:=by
    have:q=(e,false)\/q=(e,true):=by simpa[two]using hq
    rcases this with rfl|rfl<;>rfl
   unfold row
   rw[hq1,am,(h.at_ e he).1]
   exact ak _
 .have hf:=js' h hno hR
  refine⟨hf,?_⟩
  obtain⟨hk,x,y,hm⟩:=h.low R hR
  refine s.low R hR ?_
  have e1:R.take (k+1)=R.take k++[R[k]]:=by rw[List.take_succ,ac hk];rfl
  refine⟨((R.take k,x,y),R[k]),List.mem_flatMap.mpr ⟨_,hm,?_⟩,e1⟩
  cases R[k]<;>simp[two]
theorem od' {M N:List Rm} {a b k:Nat} {S:List (Nat×Nat)} (h:Lay M N a b k [] S):Lst (wl M a) (wl N b) none:=by
 obtain⟨o,ho⟩:=Lst.ex (wl M a) (wl N b)
 cases o with
 |none=>exact ho
 |some R=>
  obtain⟨_,x,y,hm⟩:=h.low R ho
  cases hm
def pV:Option Bool->V
 |none=>.non
 |some c=>.str (tx [c])
def rC':Sp:=fun vs H Q _=>∃(p q:Addr) (u v:Rm),vs=[.ref p,.ref q]/\H p=some (.tup [oV u.1,oV u.2])/\H q=some (.tup [oV v.1,oV v.2])/\Q (pV (pb u v)) H
theorem oe' {C:Rc} (hN:C.N.length=3):∀vs H Q E,rC' vs H Q E->tSs C aT' { nx:=fun _ H'=>Q .non H',rt:=Q } (L2.aO' C.N vs) H:=by
 intro vs H Q E h
 obtain⟨p,q',⟨u1,u2⟩,⟨v1,v2⟩,rfl,hp,hq,q⟩:=h
 rw[av' hN]
 unfold aT'
 (try walk_at "su")
 refine ez' (mv' (l:=[false,true]) (fun i σ H'=>(∃x2,σ=[some (.ref p),some (.ref q'),x2])/\H'=H/\(1<=i->u1.isNone=v1.isNone)/\(2<=i->u2.isNone=v2.isNone)) ⟨⟨_,rfl⟩,rfl,fun z=>absurd z (by decide),fun z=>absurd z (by decide)⟩ ?_ ?_)
 .rintro i c σ H' hc ⟨⟨x2,rfl⟩,rfl,h1,h2⟩
  match i,hc with
  |0,hc=>
   cases hc
   (try walk_at "su")
   refine cS' (k:=false) (SqT.of hp) ?_
   cases u1<;>cases v1<;>(simp only[oV,bR,if_false];(try walk_at "su");refine cS' (k:=false) (SqT.of hq) ?_;simp only[oV,bR,if_false];(try walk_at "su"))
   .exact⟨⟨_,rfl⟩,trivial,fun _=>(by first|rfl|trivial),fun z=>absurd z (by decide)⟩
   .rw[show(true != false)=true from rfl]
    (try walk_at "su")
    exact q
   .rw[show(false != true)=true from rfl]
    (try walk_at "su")
    exact q
   .exact⟨⟨_,rfl⟩,trivial,fun _=>(by first|rfl|trivial),fun z=>absurd z (by decide)⟩
  |1,hc=>
   cases hc
   have h1:=h1 (by decide)
   (try walk_at "su")
   refine cS' (k:=true) (SqT.of hp) ?_
   have e:pb (u1,u2) (v1,v2)=if u2.isNone≠v2.isNone then some true else none:=by unfold pb;rw[if_neg (by simpa using h1)]
   rw[e]at q
   cases u2<;>cases v2<;>(simp only[oV,if_true];(try walk_at "su");refine cS' (k:=true) (SqT.of hq) ?_;simp only[oV,if_true];(try walk_at "su"))
   .exact⟨⟨_,rfl⟩,trivial,fun _=>h1,fun _=>(by first|rfl|trivial)⟩
   .rw[show(true != false)=true from rfl]
    (try walk_at "su")
    exact q
   .rw[show(false != true)=true from rfl]
    (try walk_at "su")
    exact q
   .exact⟨⟨_,rfl⟩,trivial,fun _=>h1,fun _=>(by first|rfl|trivial)⟩
  |i+2,hc=>cases hc
 .rintro σ H' ⟨⟨x2,rfl⟩,rfl,h1,h2⟩
  have e:pb (u1,u2) (v1,v2)=none:=by unfold pb;rw[if_neg (by simpa using h1 (by decide)),if_neg (by simpa using h2 (by decide))]
  rw[e]at q
  (try walk_at "su")
  exact q
theorem mJ':∀(n:Nat) (l:List Nat),l.Nodup->(∀x∈l,x<n)->l.length<=n
 |0,l,_,h=>by
  cases l with
  |nil=>exact ak _
  |cons a r=>exact absurd (h a aA) (by omega)
 |n+1,l,hn,h=>by
  have h1:=mJ' n (l.erase n) (hn.erase n) fun x hx=>by
   have h2:=h x (List.mem_of_mem_erase hx)
   have h3:x≠n:=fun e=>by subst e;exact hn.not_mem_erase hx
   omega
  have h2:=List.length_erase_le (a:=n) (l:=l)
  have h3:l.length<=(l.erase n).length+1:=by
   rw[List.length_erase];split<;>omega
  omega
theorem jt' {S:List (Nat×Nat)} (hn:S.Nodup) (h:∀p∈S,p.1<60/\p.2<60):S.length<=3600:=by
 have h1:(S.map fun p=>p.1*60+p.2).Nodup:=by
  rw[List.Nodup,cc]
  refine List.Pairwise.imp_of_mem (fun {x y} hx hy hne e=>hne ?_) hn
  have h1:=h x hx
  have h2:=h y hy
  have e:x.1*60+x.2=y.1*60+y.2:=e
  exact Prod.ext (by omega) (by omega)
 have:=mJ' 3600 _ h1 fun z hz=>by
  obtain⟨p,hp,rfl⟩:=aP.mp hz
  have:=h p hp
  omega
 rwa [ai]at this
def kI2 (p:Nat×Nat):List Int:=[(p.1:Int),(p.2:Int)]
theorem ju' {S:List (Nat×Nat)} {x y:Nat}:[(x:Int),(y:Int)]∈S.map kI2↔(x,y)∈S:=by
 constructor
 .intro h
  obtain⟨p,hp,e⟩:=aP.mp h
  unfold kI2 at e
  injection e with e1 e2
  injection e2 with e2 _
  have:p=(x,y):=Prod.ext (by exact_mod_cast e1) (by exact_mod_cast e2)
  rwa [this]at hp
 .intro h
  exact aP.mpr ⟨(x,y),h,rfl⟩
def IsT (H:Hp) (v:V) (e:En):Prop:=∃q,v=.ref q/\H q=some (.tup [.str (tx e.1),.int e.2.1,.int e.2.2])
theorem IsT.mono {H H':Hp} {v:V} {e:En} (t:Tp H H') (h:IsT H v e):IsT H' v e:=let⟨q,e1,hq⟩:=h;⟨q,e1,t _ _ hq⟩
theorem f9' {H H':Hp} {L:List (List Int×Addr)} (t:Tp H H') (h:Trk H L):Trk H' L:=fun q hq=>t _ _ (h q hq)
theorem ch' {K:W.Frag} {H:Hp} {Q:VK} {a:Addr} {M:List Rm} {x:Nat} (hM:IsM H a M) (hx:x<M.length) (q:∀p,H p=some (.tup [oV (dr M x).1,oV (dr M x).2])->Q (.ref p) H):eQ' K (.ref a) (.int x) H Q\/fi' K (.ref a) (.int x) H Q:=by
 obtain⟨vs,ha,hv⟩:=hM
 obtain⟨p,hp,hpt⟩:=hv.get (ac hx)
 refine by' (SqT.of ha) (v:=.ref p) (aC' hp) (q p ?_)
 have e:dr M x=M[x]:=by unfold dr;rw[aI,ac hx];rfl
 rw[e]
 exact hpt
theorem cY' {n:Nat} (h:n<=4000):n<sizeLine:=Nat.lt_of_le_of_lt h (by decide)
theorem mK' {H:Hp} {D:Addr} {o:HO} (hD:∀xs,H D≠some (.tup xs)):Tp H (upd H D o):=fun b xs h=>by
 rw[ac' (fun z=>by rw[z]at h;exact hD xs h)]
 exact h
theorem bL' {H H1 H2:Hp} (a:Tp H H1) (b:Tp H1 H2):Tp H H2:=fun c xs h=>b c xs (a c xs h)
structure Sd (H0 H:Hp) (D:Addr) (m n:Nat) (S:List (Nat×Nat)) (Ls:List (List Int×Addr)):Prop where
 s:bo' H0 H
 d0:H0 D=none
 d:H D=some (bR' D Ls)
 t:Trk H Ls
 e:Ls.map (·.1)=S.map kI2
 nd:S.Nodup
 lt:∀p∈S,p.1<m/\p.2<n
theorem Sd.mono {H0 H H':Hp} {D:Addr} {m n:Nat} {S:List (Nat×Nat)} {Ls:List (List Int×Addr)} (h:Sd H0 H D m n S Ls) (s:bo' H H'):Sd H0 H' D m n S Ls:=⟨h.s.trans s,h.d0,s _ _ h.d,f9' (ai' s) h.t,h.e,h.nd,h.lt⟩
theorem Sd.len {H0 H:Hp} {D:Addr} {m n:Nat} {S:List (Nat×Nat)} {Ls:List (List Int×Addr)} (h:Sd H0 H D m n S Ls) (hm:m<=60) (hn:n<=60):S.length<=3600/\Ls.length=S.length:=by
 refine⟨jt' h.nd fun p hp=>?_,?_⟩
 .have:=h.lt p hp
  omega
 .have:=congrArg cG h.e
  rwa [ai,ai]at this
def oF':Sp:=fun vs H Q _=>∃(o p:Addr) (M N:List Rm) (a b:Nat),vs=[.ref o,.int a,.ref p,.int b]/\IsM H o M/\OkM M/\IsM H p N/\OkM N/\M.length<=60/\N.length<=60/\a<M.length/\b<N.length/\∀(r:Option (List Bool)) (H':Hp),Lst (wl M a) (wl N b) r->bo' H H'->Q (oR r) H'
theorem of' {C:Rc} (hN:C.N.length=12) (hPB:C.fs "parting_bit"=some rC'):∀vs H Q E,oF' vs H Q E->tSs C b6' { nx:=fun _ H'=>Q .non H',rt:=Q } (L2.aO' C.N vs) H:=by
 intro vs H Q E h
 obtain⟨o,p,M,N,a,b,rfl,hM,hO,hN',hO',hM6,hN6,ha,hb,q⟩:=h
 rw[av' hN]
 unfold b6'
 (try walk_at "su")
 refine⟨by decide,fun p1 hp1=>?_⟩
 obtain⟨s1,h1⟩:=snw hp1 (.tup [V.int a,V.int b])
 generalize upd H p1 _=H1 at s1 h1 ⊢
 refine ro' (k:=[(a:Int),(b:Int)]) h1 fun D hD=>?_
 have s2:=al' hD (bR' D [([(a:Int),(b:Int)],p1)])
 have h2:upd H1 D (bR' D [([(a:Int),(b:Int)],p1)]) D=some (bR' D [([(a:Int),(b:Int)],p1)]):=aa'
 generalize upd H1 D (bR' D [([(a:Int),(b:Int)],p1)])=H2 at s2 h2 ⊢
 (try walk_at "su")
 refine⟨by decide,fun p3 hp3=>?_⟩
 obtain⟨s3,h3⟩:=snw hp3 (.tup [V.str (tx []),V.int a,V.int b])
 generalize upd H2 p3 _=H3 at s3 h3 ⊢
 (try walk_at "su")
 refine⟨by decide,fun A hA=>?_⟩
 obtain⟨s4,h4⟩:=snw hA (.lst [V.ref p3])
 generalize upd H3 A _=H4 at s4 h4 ⊢
 have hD0:H D=none:=s1.free hD
 have sd0:Sd H H4 D M.length N.length [(a,b)] [([(a:Int),(b:Int)],p1)]:=⟨s1.trans (s2.trans (s3.trans s4)),hD0,s4 _ _ (s3 _ _ h2),fun z hz=>by
  have:z=([(a:Int),(b:Int)],p1):=by simpa using hz
  subst this
  exact s4 _ _ (s3 _ _ (s2 _ _ h1)),rfl,by simp,fun z hz=>by
  have:z=(a,b):=by simpa using hz
  subst this
  exact⟨ha,hb⟩⟩
 (try walk_at "su")
 refine qY' (fun m σ H'=>∃(k:Nat) (L:List En) (S:List (Nat×Nat)) (Ls:List (List Int×Addr)) (A:Addr) (vs:List V) (x6 x7 x8 x9 x10 x11:Option V),σ=[some (.ref o),some (.int a),some (.ref p),some (.int b),some (.ref D),some (.ref A),x6,x7,x8,x9,x10,x11]/\Sd H H' D M.length N.length S Ls/\H' A=some (.lst vs)/\bW' (IsT H') vs L/\Lay M N a b k L S/\L.length<=7200/\k+(if L=[]then 0 else 1)<=S.length/\m=2*(3600-S.length)+(if L=[]then 0 else 1)) _ ⟨0,[([],a,b)],[(a,b)],_,A,_,_,_,_,_,_,_,rfl,sd0,h4,⟨⟨p3,rfl,s4 _ _ h3⟩,trivial⟩,tM',by simp,by simp,rfl⟩ ?_
 rintro m σ H5 ⟨k,L,S,Ls,A,vs,x6,x7,x8,x9,x10,x11,rfl,sd,hA5,hV,lay,hL72,hkS,rfl⟩
 have hvl:=hV.len
 obtain⟨hS36,hLs⟩:=sd.len hM6 hN6
 (try walk_at "su")
 refine nW' (SqL.of hA5) ?_
 cases L with
 |nil=>
  cases vs with
  |cons v vs=>exact hV.elim
  |nil=>
   refine q0' ?_
   (try walk_at "su")
   exact q none _ (od' lay) sd.s
 |cons e0 L0=>
  have hne:e0 :: L0≠[]:=by simp
  generalize e0 :: L0=L at hne hV lay hL72 hkS hvl ⊢
  have hvne:vs.isEmpty=false:=by
   cases vs with
   |nil=>exact absurd (ck hvl.symm) hne
   |cons v vs=>rfl
  rw[if_neg hne]at hkS ⊢
  rw[hvne]
  refine qZ' ?_
  have hM5:=hM.mono (ai' sd.s)
  have hN5:=hN'.mono (ai' sd.s)
  (try walk_at "su")
  refine bE' (SqL.of hA5) (nR' (xs:=vs) (fun i σ H'=>(∃x6 x7 x8 x9,σ=[some (.ref o),some (.int a),some (.ref p),some (.int b),some (.ref D),some (.ref A),x6,x7,x8,x9,x10,x11])/\H'=H5/\∀j d,j<i->L[j]?=some d->pb (dr M d.2.1) (dr N d.2.2)=none) ⟨⟨_,_,_,_,rfl⟩,rfl,fun j d z=>absurd z (bi _)⟩ (fun i σ H' _ pv=>by rw[pv.2.1];exact SqL.of hA5) ?_ ?_)
  .rintro i x σ H6 hx ⟨⟨x6,x7,x8,x9,rfl⟩,rfl,hno⟩
   obtain⟨e,he,qx,rfl,hqx⟩:=hV.getL hx
   obtain⟨hel,hat⟩:=lay.at_ e (aN he)
   have hex:e.2.1<M.length:=jf' hO (fun m hm=>by cases hm;exact ha) hat.1
   have hey:e.2.2<N.length:=jf' hO' (fun m hm=>by cases hm;exact hb) hat.2
   refine mp' (SqT.of hqx) ?_
   (try walk_at "su")
   refine am' hPB ?_
   (try walk_at "su")
   refine ch' hM5 hex fun pr hpr=>?_
   (try walk_at "su")
   refine ch' hN5 hey fun pq hpq=>?_
   (try walk_at "su")
   refine⟨pr,pq,_,_,rfl,hpr,hpq,?_⟩
   cases hc:pb (dr M e.2.1) (dr N e.2.2)with
   |none=>
    simp only[pV]
    (try walk_at "su")
    refine⟨⟨_,_,_,_,rfl⟩,trivial,fun j d hj hd=>?_⟩
    by_cases hji:j=i
    .subst hji
     rw[he]at hd
     cases hd
     exact hc
    .exact hno j d (by omega) hd
   |some c=>
    simp only[pV]
    (try walk_at "su")
    refine⟨br (cY' (by rw[hel];simp;omega)),?_⟩
    exact q (some (e.1++[c])) _ (jr' lay he hc hno) sd.s
  .rintro σ H6 ⟨⟨x6,x7,x8,x9,rfl⟩,rfl,hno⟩
   have hno':∀e∈L,pb (dr M e.2.1) (dr N e.2.2)=none:=fun e he=>by
    obtain⟨j,hj⟩:=bp he
    exact hno j e (by rw[hvl];exact aG' hj) hj
   have hfar:∀R,Lst (wl M a) (wl N b) (some R)->k+1<R.length:=fun R hR=>js' lay hno' hR
   have hrup:=oc' (fun e he=>(lay.at_ e he).1) lay.up
   (try walk_at "su")
   refine⟨by decide,fun B hB=>?_⟩
   obtain⟨s7,h7⟩:=snw hB (.lst [])
   generalize upd H6 B _=H7 at s7 h7 ⊢
   have hAB:A≠B:=ae' hA5 hB
   have hDB:D≠B:=ae' sd.d hB
   (try walk_at "su")
   refine bE' (SqL.of (s7 _ _ hA5)) (nR' (xs:=vs) (fun i σ H'=>(∃(x6 x7 x8 x9 x11:Option V) (W:List En) (ws:List V) (S':List (Nat×Nat)) (Ls':List (List Int×Addr)),σ=[some (.ref o),some (.int a),some (.ref p),some (.int b),some (.ref D),some (.ref A),x6,x7,x8,x9,some (.ref B),x11]/\Sd H H' D M.length N.length S' Ls'/\H' B=some (.lst ws)/\bW' (IsT H') ws W/\Stp M N a b k ((L.take i).flatMap two) W S'/\S'.length=S.length+W.length)/\Tp H6 H'/\H' A=some (.lst vs)) ⟨⟨_,_,_,_,_,[],[],S,Ls,rfl,sd.mono s7,h7,trivial,tN' lay,rfl⟩,ai' s7,s7 _ _ hA5⟩ (fun i σ H' _ pv=>SqL.of pv.2.2) ?_ ?_)
   .rintro i x σ H8 hx ⟨⟨x6,x7,x8,x9,x11,W,ws,S',Ls',rfl,sd8,hB8,hW8,st8,hSW⟩,tp8,hA8⟩
    obtain⟨e,he,qx,rfl,hqx⟩:=hV.getL hx
    obtain⟨hel,hat⟩:=lay.at_ e (aN he)
    have hex:e.2.1<M.length:=jf' hO (fun m hm=>by cases hm;exact ha) hat.1
    have hey:e.2.2<N.length:=jf' hO' (fun m hm=>by cases hm;exact hb) hat.2
    have hpe:=hno' e (aN he)
    have htk:(L.take (i+1)).flatMap two=(L.take i).flatMap two++two e:=by
     rw[List.take_succ,he,List.flatMap_append]
     simp
    refine mp' (SqT.of (tp8 _ _ hqx)) ?_
    (try walk_at "su")
    refine ez' (mv' (l:=[false,true]) (fun j σ H'=>(∃(x9 x11:Option V) (W:List En) (ws:List V) (S':List (Nat×Nat)) (Ls':List (List Int×Addr)),σ=[some (.ref o),some (.int a),some (.ref p),some (.int b),some (.ref D),some (.ref A),some (.str (tx e.1)),some (.int e.2.1),some (.int e.2.2),x9,some (.ref B),x11]/\Sd H H' D M.length N.length S' Ls'/\H' B=some (.lst ws)/\bW' (IsT H') ws W/\Stp M N a b k ((L.take i).flatMap two++(two e).take j) W S'/\S'.length=S.length+W.length)/\Tp H6 H'/\H' A=some (.lst vs)) ⟨⟨_,_,W,ws,S',Ls',rfl,sd8,hB8,hW8,by rw[List.take_zero,cw];exact st8,hSW⟩,tp8,hA8⟩ ?_ ?_)
    .rintro j c σ H9 hc ⟨⟨x9,x11,W,ws,S',Ls',rfl,sd9,hB9,hW9,st9,hSW9⟩,tp9,hA9⟩
     have hq:(two e)[j]?=some (e,c):=by
      match j,hc with
      |0,hc=>cases hc;rfl
      |1,hc=>cases hc;rfl
      |j+2,hc=>cases hc
     have htk2:(two e).take (j+1)=(two e).take j++[(e,c)]:=by rw[List.take_succ,hq];rfl
     have pos:Pos M N a b k ((L.take i).flatMap two++(two e).take j) (e,c):=by
      refine⟨hel,hat,hpe,fun r hr=>?_,hfar⟩
      have hsub:(L.take i).flatMap two++(two e).take j++(e,c) :: ((two e).drop (j+1)++(L.drop (i+1)).flatMap two)=L.flatMap two:=by
       have e1:(e,c) :: (two e).drop (j+1)=(two e).drop j:=by
        obtain⟨h1,h2⟩:=av.mp hq
        rw[<- List.getElem_cons_drop h1,h2]
       have e2:L=L.take i++e :: L.drop (i+1):=by
        obtain⟨h1,h2⟩:=av.mp he
        conv=>lhs;rw[<- aL i L,<- List.getElem_cons_drop h1,h2]
       conv=>rhs;rw[e2,List.flatMap_append,List.flatMap_cons]
       rw[aV,<- cE,e1,<- aV ((two e).take j),aL]
      have hrup':=hrup
      rw[<- hsub]at hrup'
      obtain⟨_,_,h3⟩:=aX.mp hrup'
      refine⟨?_,h3 r hr _ aA⟩
      have hrm:r∈L.flatMap two:=by rw[<- hsub];exact aD _ hr
      obtain⟨d,hd,hr2⟩:=List.mem_flatMap.mp hrm
      have hr1:r.1=d:=by
       have:r=(d,false)\/r=(d,true):=by simpa[two]using hr2
       rcases this with rfl|rfl<;>rfl
      unfold row
      rw[hr1,am,(lay.at_ d hd).1]
      rfl
     obtain⟨hS9,hLs9⟩:=sd9.len hM6 hN6
     have hM9:=hM.mono (ai' sd9.s)
     have hN9:=hN'.mono (ai' sd9.s)
     (try walk_at "su")
     refine jg' (c:=c) hM9 hex fun p' hp'=>?_
     (try walk_at "su")
     refine hp' _ ?_
     (try walk_at "su")
     refine jg' (c:=c) hN9 hey fun p2 hp2=>?_
     (try walk_at "su")
     refine hp2 _ ?_
     rw[aD',aD']
     have hpn:=fc' hpe c
     cases hu:led (dr M e.2.1) c with
     |none=>
      have hv:led (dr N e.2.2) c=none:=by rw[hu]at hpn;exact Option.isNone_iff_eq_none.mp hpn.symm
      rw[hv]
      simp only[oV]
      (try walk_at "su")
      refine⟨by decide,fun pt hpt=>?_⟩
      obtain⟨s10,h10⟩:=snw hpt (.tup [V.non,V.non])
      generalize upd H9 pt _=H10 at s10 h10 ⊢
      refine by' (SqT.of h10) (v:=.non) rfl ?_
      (try walk_at "su")
      refine⟨⟨_,_,W,ws,S',Ls',rfl,sd9.mono s10,s10 _ _ hB9,hW9.mono fun v e h=>h.mono (ai' s10),?_,hSW9⟩,bL' tp9 (ai' s10),s10 _ _ hA9⟩
      rw[htk2,<- aV]
      exact k1' st9 pos hu
     |some x=>
      obtain⟨y,hv⟩:∃y,led (dr N e.2.2) c=some y:=by
       rw[hu]at hpn
       cases e1:led (dr N e.2.2) c with
       |none=>rw[e1]at hpn;cases hpn
       |some y=>exact⟨y,rfl⟩
      rw[hv]
      simp only[oV]
      (try walk_at "su")
      refine⟨by decide,fun pt hpt=>?_⟩
      obtain⟨s10,h10⟩:=snw hpt (.tup [V.int x,V.int y])
      generalize upd H9 pt _=H10 at s10 h10 ⊢
      refine by' (SqT.of h10) (v:=.int x) rfl ?_
      (try walk_at "su")
      have sd10:=sd9.mono s10
      have hxl:x<M.length:=dq' hO ((aD' (M:=M)).trans hu)
      have hyl:y<N.length:=dq' hO' ((aD' (M:=N)).trans hv)
      refine n2' (k:=[(x:Int),(y:Int)]) h10 sd10.d sd10.t ?_
      rw[sd10.e]
      by_cases hin:(x,y)∈S'
      .rw[decide_eq_true (ju'.mpr hin)]
       (try walk_at "su")
       refine⟨⟨_,_,W,ws,S',Ls',rfl,sd10,s10 _ _ hB9,hW9.mono fun v e h=>h.mono (ai' s10),?_,hSW9⟩,bL' tp9 (ai' s10),s10 _ _ hA9⟩
       rw[htk2,<- aV]
       exact oa' st9 pos hu hv hin
      .have hnin:¬[(x:Int),(y:Int)]∈S'.map kI2:=fun z=>hin (ju'.mp z)
       rw[decide_eq_false hnin]
       (try walk_at "su")
       refine rq' sd10.d ?_
       (try walk_at "su")
       have hnd:(S'++[(x,y)]).Nodup:=List.nodup_append.mpr ⟨sd10.nd,by simp,fun u hu v hv e=>by
        have:v=(x,y):=by simpa using hv
        rw[e,this]at hu
        exact hin hu⟩
       have hS10:(S'++[(x,y)]).length<=3600:=jt' hnd fun z hz=>by
        rcases al.mp hz with hz|hz
        .have:=sd10.lt z hz
         omega
        .have:z=(x,y):=by simpa using hz
         subst this
         exact⟨by omega,by omega⟩
       rw[am,cx]at hS10
       refine rr' (k:=[(x:Int),(y:Int)]) h10 sd10.d sd10.t (by omega) ?_
       have ea:kt' Ls' [(x:Int),(y:Int)] pt=Ls'++[([(x:Int),(y:Int)],pt)]:=by
        unfold kt'
        rw[sd10.e,if_neg hnin]
       rw[ea]
       have tp11:Tp H10 (upd H10 D (bR' D (Ls'++[([(x:Int),(y:Int)],pt)]))):=mK' fun xs z=>by rw[sd10.d]at z;cases z
       have hB11:upd H10 D (bR' D (Ls'++[([(x:Int),(y:Int)],pt)])) B=some (.lst ws):=by rw[ac' hDB.symm];exact s10 _ _ hB9
       have hAD:A≠D:=fun z=>by rw[z,sd.d]at hA5;cases hA5
       have hA11:upd H10 D (bR' D (Ls'++[([(x:Int),(y:Int)],pt)])) A=some (.lst vs):=by rw[ac' hAD];exact s10 _ _ hA9
       have sd11:Sd H (upd H10 D (bR' D (Ls'++[([(x:Int),(y:Int)],pt)]))) D M.length N.length (S'++[(x,y)]) (Ls'++[([(x:Int),(y:Int)],pt)]):=by
        refine⟨bn' sd10.s sd10.d0,sd10.d0,aa',fun z hz=>?_,?_,hnd,fun z hz=>?_⟩
        .rcases al.mp hz with hz|hz
         .exact tp11 _ _ (sd10.t z hz)
         .have:z=([(x:Int),(y:Int)],pt):=by simpa using hz
          subst this
          exact tp11 _ _ h10
        .rw[aO,aO,sd10.e]
         rfl
        .rcases al.mp hz with hz|hz
         .exact sd10.lt z hz
         .have:z=(x,y):=by simpa using hz
          subst this
          exact⟨hxl,hyl⟩
       have hW11:bW' (IsT (upd H10 D (bR' D (Ls'++[([(x:Int),(y:Int)],pt)])))) ws W:=hW9.mono fun v e h=>(h.mono (ai' s10)).mono tp11
       have h11:=tp11 _ _ h10
       have tp611:=bL' (bL' tp9 (ai' s10)) tp11
       generalize upd H10 D (bR' D (Ls'++[([(x:Int),(y:Int)],pt)]))=H11 at hB11 hA11 sd11 hW11 h11 tp611 ⊢
       clear tp11
       (try walk_at "su")
       refine⟨tyL hB11 rfl,br (cY' (by rw[hel];simp;omega)),?_⟩
       refine by' (SqT.of h11) (v:=.int x) rfl ?_
       (try walk_at "su")
       refine by' (SqT.of h11) (v:=.int y) rfl ?_
       (try walk_at "su")
       refine⟨by decide,fun pe hpe=>?_⟩
       obtain⟨s12,h12⟩:=snw hpe (.tup [V.str (tx (e.1++[c])),V.int x,V.int y])
       generalize upd H11 pe _=H12 at s12 h12 ⊢
       have hB12:=s12 _ _ hB11
       have hWl:=hW9.len
       refine cm' hB12 (cY' (by omega)) ?_
       (try walk_at "su")
       have sd12:=sd11.mono s12
       have hB0:H B=none:=by
        have:=sd.s.free hB
        exact this
       have tp13:Tp H12 (upd H12 B (.lst (ws++[V.ref pe]))):=mK' fun xs z=>by rw[hB12]at z;cases z
       refine⟨⟨_,_,W++[(e.1++[c],x,y)],ws++[V.ref pe],S'++[(x,y)],Ls'++[([(x:Int),(y:Int)],pt)],rfl,⟨bn' sd12.s hB0,sd12.d0,by rw[ac' hDB];exact sd12.d,f9' tp13 sd12.t,sd12.e,sd12.nd,sd12.lt⟩,aa',?_,?_,by rw[am,am,hSW9];simp;omega⟩,bL' (bL' tp611 (ai' s12)) tp13,by rw[ac' hAB];exact s12 _ _ hA11⟩
       .exact(hW11.mono fun v e h=>(h.mono (ai' s12)).mono tp13).snoc ⟨pe,rfl,tp13 _ _ h12⟩
       .rw[htk2,<- aV]
        exact ob' st9 pos hu hv
    .rintro σ H9 ⟨⟨x9,x11,W,ws,S',Ls',rfl,sd9,hB9,hW9,st9,hSW9⟩,tp9,hA9⟩
     refine⟨⟨_,_,_,_,_,W,ws,S',Ls',rfl,sd9,hB9,hW9,?_,hSW9⟩,tp9,hA9⟩
     rw[htk]
     exact st9
   .rintro σ H8 ⟨⟨x6,x7,x8,x9,x11,W,ws,S',Ls',rfl,sd8,hB8,hW8,st8,hSW⟩,tp8,hA8⟩
    rw[hvl,List.take_length]at st8
    obtain⟨hS8,_⟩:=sd8.len hM6 hN6
    (try walk_at "su")
    refine⟨_,?_,k+1,W,S',Ls',B,ws,_,_,_,_,_,_,rfl,sd8,hB8,hW8,rB' lay hno' st8,by omega,?_,rfl⟩
    .cases W with
     |nil=>
      rw[if_pos rfl,hSW]
      show 2*(3600-(S.length+0))+0<_
      omega
     |cons w W=>
      rw[aY]at hSW
      rw[if_neg (by simp)]
      omega
    .cases W with
     |nil=>
      rw[if_pos rfl,hSW]
      show k+1+0<=S.length+0
      omega
     |cons w W=>
      rw[aY]at hSW
      rw[if_neg (by simp)]
      omega
def okE (R:Nat->Nat->Prop):Option Nat->Option Nat->Prop
 |none,none=>True
 |some x,some y=>R x y
 |_,_=>False
theorem okE.mono {R S:Nat->Nat->Prop}:∀{o p:Option Nat},(∀x y,o=some x->p=some y->R x y->S x y)->okE R o p->okE S o p
 |none,none,_,_=>trivial
 |some x,some y,h,r=>h x y rfl rfl r
 |none,some _,_,r=>r.elim
 |some _,none,_,r=>r.elim
def Ek (B:List Rm):Nat->Nat->Nat->Prop
 |0,_,_=>True
 |k+1,r,s=>okE (Ek B k) (dr B r).1 (dr B s).1/\okE (Ek B k) (dr B r).2 (dr B s).2
theorem cZ' {B:List Rm} {k r s:Nat}:Ek B (k+1) r s↔∀c,okE (Ek B k) (led (dr B r) c) (led (dr B s) c):=
 ⟨fun h c=>by cases c;exact h.1;exact h.2,fun h=>⟨h false,h true⟩⟩
theorem ga' {R:Nat->Nat->Prop} (h:∀x,R x x):∀o,okE R o o
 |none=>trivial
 |some x=>h x
theorem gb' {R:Nat->Nat->Prop} (h:∀x y,R x y->R y x):∀{o p},okE R o p->okE R p o
 |none,none,_=>trivial
 |some x,some y,r=>h x y r
 |none,some _,r=>r.elim
 |some _,none,r=>r.elim
theorem eH' {R:Nat->Nat->Prop} (h:∀x y z,R x y->R y z->R x z):∀{o p q},okE R o p->okE R p q->okE R o q
 |none,none,none,_,_=>trivial
 |some x,some y,some z,r,s=>h x y z r s
 |none,none,some _,_,s=>s.elim
 |some _,some _,none,_,s=>s.elim
 |none,some _,_,r,_=>r.elim
 |some _,none,_,r,_=>r.elim
theorem dW' {B:List Rm}:∀k r,Ek B k r r
 |0,_=>trivial
 |k+1,r=>⟨ga' (dW' k) _,ga' (dW' k) _⟩
theorem c0' {B:List Rm}:∀k r s,Ek B k r s->Ek B k s r
 |0,_,_,_=>trivial
 |k+1,r,s,h=>⟨gb' (c0' k) h.1,gb' (c0' k) h.2⟩
theorem bv' {B:List Rm}:∀k r s t,Ek B k r s->Ek B k s t->Ek B k r t
 |0,_,_,_,_,_=>trivial
 |k+1,r,s,t,h,g=>⟨eH' (bv' k) h.1 g.1,eH' (bv' k) h.2 g.2⟩
theorem c1' {B:List Rm}:∀k r s,Ek B (k+1) r s->Ek B k r s
 |0,_,_,_=>trivial
 |k+1,r,s,h=>⟨h.1.mono fun x y _ _=>c1' k x y,h.2.mono fun x y _ _=>c1' k x y⟩
theorem rD' {B:List Rm} {k r s:Nat}:∀{m},k<=m->Ek B m r s->Ek B k r s
 |0,h,e=>by
  have:k=0:=by omega
  subst this
  exact e
 |m+1,h,e=>by
  by_cases z:k=m+1
  .subst z;exact e
  .exact rD' (m:=m) (by omega) (c1' m r s e)
theorem cy' {B:List Rm}:∀{k r s:Nat} {w:List Bool},Ek B k r s->w.length<=k->wl B r w=wl B s w
 |_,_,_,[],_,_=>rfl
 |0,_,_,_ :: _,_,h=>by simp at h
 |k+1,r,s,c :: w,h,hl=>by
  have hc:=cZ'.mp h c
  rw[bz',bz',aD',aD']
  have hw:w.length<=k:=by simpa using hl
  cases e1:led (dr B r) c<;>cases e2:led (dr B s) c<;>rw[e1,e2]at hc<;>first|exact cy' hc hw|rfl|exact False.elim hc
open Classical in
noncomputable def fb (B:List Rm) (k x y:Nat):Bool:=if okE (Ek B k) (dr B x).1 (dr B y).1 then true else false
noncomputable def fr (B:List Rm):Nat->Nat->Nat->List Bool
 |0,_,_=>[]
 |k+1,x,y=>fb B k x y :: match led (dr B x) (fb B k x y),led (dr B y) (fb B k x y)with
  |some x',some y'=>fr B k x' y'
  |_,_=>[]
set_option tactic.hygienic true in
theorem og' {B:List Rm} {k x y:Nat} (h:¬Ek B (k+1) x y):¬okE (Ek B k) (led (dr B x) (fb B k x y)) (led (dr B y) (fb B k x y))/\(fb B k x y=true->okE (Ek B k) (dr B x).1 (dr B y).1):=by
 unfold fb
 split
 .rename_i h1
  exact⟨fun h2=>h ⟨h1,h2⟩,fun _=>h1⟩
 .rename_i h1
  exact⟨h1,fun z=>by cases z⟩
theorem fe' {R:Nat->Nat->Prop} {o p:Option Nat} (h:¬okE R o p):(o.isNone≠p.isNone)\/∃x y,o=some x/\p=some y/\¬R x y:=by
 cases o<;>cases p
 .exact absurd trivial h
 .exact .inl (by simp)
 .exact .inl (by simp)
 .exact .inr ⟨_,_,rfl,rfl,h⟩
theorem rE' {B:List Rm}:∀(k x y:Nat),¬Ek B (k+1) x y->Ek B k x y->Lst (wl B x) (wl B y) (some (fr B (k+1) x y))/\(fr B (k+1) x y).length=k+1:=by
 intro k
 induction k with
 |zero=>
  intro x y h _
  obtain⟨h1,h2⟩:=og' h
  have hx:(led (dr B x) (fb B 0 x y)).isNone≠(led (dr B y) (fb B 0 x y)).isNone:=by
   rcases fe' h1 with z|⟨u,v,e1,e2,z⟩
   .exact z
   .exact absurd trivial z
  have e:fr B 1 x y=[fb B 0 x y]:=by
   show fb B 0 x y :: _=_
   cases e1:led (dr B x) (fb B 0 x y)<;>cases e2:led (dr B y) (fb B 0 x y)<;>rfl
  rw[e]
  refine⟨⟨(b9' (M:=B) (N:=B) (a:=x) (b:=y) (w:=[]) (c:=fb B 0 x y) ⟨rfl,rfl⟩).mpr hx,fun w hw=>?_⟩,rfl⟩
  cases w with
  |nil=>exact absurd rfl hw
  |cons d w=>
   cases w with
   |cons _ _=>left;simp
   |nil=>
    right
    refine⟨rfl,?_⟩
    have hd:=(b9' (M:=B) (N:=B) (a:=x) (b:=y) (w:=[]) (c:=d) ⟨rfl,rfl⟩).mp hw
    cases hf:fb B 0 x y with
    |false=>cases d<;>rfl
    |true=>
     cases d with
     |true=>rfl
     |false=>
      exfalso
      have h3:=h2 hf
      refine hd ?_
      show(dr B x).1.isNone=(dr B y).1.isNone
      cases e1:(dr B x).1<;>cases e2:(dr B y).1<;>rw[e1,e2]at h3<;>first|rfl|exact False.elim h3
 |succ k ih=>
  intro x y h he
  obtain⟨h1,h2⟩:=og' h
  have hno:∀c,(led (dr B x) c).isNone=(led (dr B y) c).isNone:=fun c=>by
   have:=cZ'.mp he c
   cases e1:led (dr B x) c<;>cases e2:led (dr B y) c<;>rw[e1,e2]at this<;>first|rfl|exact False.elim this
  obtain⟨u,v,e1,e2,hn⟩:=(fe' h1).resolve_left fun z=>z (hno _)
  have heu:Ek B k u v:=by
   have:=cZ'.mp he (fb B (k+1) x y)
   rw[e1,e2]at this
   exact this
  obtain⟨⟨i1,i2⟩,i3⟩:=ih u v hn heu
  have e:fr B (k+2) x y=fb B (k+1) x y :: fr B (k+1) u v:=by
   show fb B (k+1) x y :: _=_
   rw[e1,e2]
  rw[e]
  refine⟨⟨?_,fun w hw=>?_⟩,by rw[aY,i3]⟩
  .rw[bz',bz',aD',aD',e1,e2]
   exact i1
  .cases w with
   |nil=>exact absurd rfl hw
   |cons d w=>
    rw[bz',bz',aD',aD']at hw
    have hd:=hno d
    cases f1:led (dr B x) d with
    |none=>
     have f2:led (dr B y) d=none:=by rw[f1]at hd;exact Option.isNone_iff_eq_none.mp hd.symm
     rw[f1,f2]at hw
     exact absurd rfl hw
    |some u'=>
     obtain⟨v',f2⟩:∃v',led (dr B y) d=some v':=by
      cases f2:led (dr B y) d with
      |none=>rw[f1,f2]at hd;cases hd
      |some v'=>exact⟨v',rfl⟩
     rw[f1,f2]at hw
     have hek:Ek B k u' v':=by
      have:=cZ'.mp he d
      rw[f1,f2]at this
      exact this
     have hlw:k<w.length:=by
      rcases bc k w.length with z|z
      .exact z
      .exact absurd (cy' hek z) hw
     rw[aY,aY,i3]
     rcases bc (k+1) w.length with z|z
     .left;omega
     .right
      have hw1:w.length=k+1:=by omega
      refine⟨by omega,?_⟩
      have hnk:¬Ek B (k+1) u' v':=fun z=>hw (cy' z (by omega))
      cases hf:fb B (k+1) x y with
      |false=>
       cases d with
       |true=>rfl
       |false=>
        rw[hf]at e1 e2
        rw[e1]at f1
        rw[e2]at f2
        cases f1
        cases f2
        have:=(i2 w hw).resolve_left (by omega)
        simp[gtB,this.2]
      |true=>
       cases d with
       |false=>
        exfalso
        have h3:=h2 hf
        have f1':(dr B x).1=some u':=f1
        have f2':(dr B y).1=some v':=f2
        rw[f1',f2']at h3
        exact hnk h3
       |true=>
        rw[hf]at e1 e2
        rw[e1]at f1
        rw[e2]at f2
        cases f1
        cases f2
        have:=(i2 w hw).resolve_left (by omega)
        simp[gtB,this.2]
theorem gc' {α:Type} {p q:α->Bool}:∀{l:List α},(∀x∈l,q x=true->p x=true)->(∃x∈l,p x=true/\q x=false)->l.countP q<l.countP p
 | [],_,⟨x,hx,_⟩=>absurd hx aK
 |a :: l,h,⟨x,hx,hp,hq⟩=>by
  have mono:∀{l:List α},(∀x∈l,q x=true->p x=true)->l.countP q<=l.countP p:=fun {l} h=>List.countP_mono_left h
  rw[List.countP_cons,List.countP_cons]
  rcases aq.mp hx with rfl|hx
  .have:=mono fun y hy=>h y (ao _ hy)
   rw[hp,hq]
   simp
   omega
  .have:=gc' (fun y hy=>h y (ao _ hy)) ⟨x,hx,hp,hq⟩
   have ha:=h a aA
   cases e1:q a with
   |false=>simp;split<;>omega
   |true=>rw[ha e1];simp;omega
theorem gd' {R:Nat->Prop}:∀n,R n->∃p,p<=n/\R p/\∀u,u<p->¬R u:=by
 intro n
 induction n using Nat.strongRecOn with
 |_ n ih=>
  intro h
  by_cases z:∃m,m<n/\R m
  .obtain⟨m,h1,h2⟩:=z
   obtain⟨p,h3,h4⟩:=ih m h1 h2
   exact⟨p,by omega,h4⟩
  .exact⟨n,ak _,h,fun u hu hr=>z ⟨u,hu,hr⟩⟩
open Classical in
noncomputable def ld (B:List Rm) (k t:Nat):Bool:=decide (∀u,u<t->¬Ek B k u t)
open Classical in
theorem eI' {B:List Rm} {k t:Nat}:ld B k t=true↔∀u,u<t->¬Ek B k u t:=by
 unfold ld
 exact decide_eq_true_iff
theorem oh' {B:List Rm} {n k:Nat} {r s:Nat} (hr:r<n) (hs:s<n) (h1:Ek B k r s) (h2:¬Ek B (k+1) r s):(aH n).countP (ld B k)<(aH n).countP (ld B (k+1)):=by
 refine gc' (fun t _ h=>?_) ?_
 .have h:=eI'.mp h
  exact eI'.mpr fun u hu hk=>h u hu (c1' k u t hk)
 .obtain⟨p,hp1,hp2,hp3⟩:=gd' (R:=fun u=>Ek B k u r) r (dW' k r)
  obtain⟨z,hz,hz1,hz2⟩:∃z,z<n/\Ek B k p z/\¬Ek B (k+1) p z:=by
   by_cases e:Ek B (k+1) p r
   .exact⟨s,hs,bv' k _ _ _ hp2 h1,fun e2=>h2 (bv' (k+1) _ _ _ (c0' (k+1) _ _ e) e2)⟩
   .exact⟨r,hr,hp2,e⟩
  obtain⟨t,ht1,ht2,ht3⟩:=gd' (R:=fun u=>Ek B (k+1) u z) z (dW' (k+1) z)
  refine⟨t,aT.mpr (by omega),eI'.mpr fun u hu hk=>ht3 u hu (bv' (k+1) _ _ _ hk ht2),Bool.eq_false_iff.mpr fun hall0=>?_⟩
  have hall:=eI'.mp hall0
  have htp:Ek B k p t:=bv' k _ _ _ hz1 (c0' k _ _ (c1' k _ _ ht2))
  have hne:t≠p:=fun e=>hz2 (e ▸ ht2)
  rcases bc p t with w|w
  .exact hall p w htp
  .exact hp3 t (by omega) (bv' k _ _ _ (c0' k _ _ htp) hp2)
theorem oi' {B:List Rm} {n:Nat} (hn:1<=n):∃k,k<n/\∀r s,r<n->s<n->Ek B k r s->Ek B (k+1) r s:=by
 by_cases h:∃k,k<n/\∀r s,r<n->s<n->Ek B k r s->Ek B (k+1) r s
 .exact h
 .exfalso
  have step:∀k,k<n->(aH n).countP (ld B k)<(aH n).countP (ld B (k+1)):=fun k hk=>by
   by_cases z:∃r s,r<n/\s<n/\Ek B k r s/\¬Ek B (k+1) r s
   .obtain⟨r,s,hr,hs,h1,h2⟩:=z
    exact oh' hr hs h1 h2
   .refine absurd ⟨k,hk,fun r s hr hs h1=>?_⟩ h
    by_cases e:Ek B (k+1) r s
    .exact e
    .exact absurd ⟨r,s,hr,hs,h1,e⟩ z
  have all:∀k,k<=n->k+1<=(aH n).countP (ld B k):=by
   intro k
   induction k with
   |zero=>
    intro _
    have:0<(aH n).countP (ld B 0):=List.countP_pos_iff.mpr ⟨0,aT.mpr (by omega),eI'.mpr fun u hu=>absurd hu (bi _)⟩
    omega
   |succ k ih=>
    intro hk
    have h1:=ih (by omega)
    have h2:=step k (by omega)
    omega
  have h1:=all n (ak _)
  have h2:=List.countP_le_length (p:=ld B n) (l:=aH n)
  rw[bo]at h2
  omega
theorem rF' {B:List Rm} (hO:OkM B) (hn:1<=B.length) {a b:Nat} (ha:a<B.length) (hb:b<B.length) (h:Ek B B.length a b):∀k,Ek B k a b:=by
 obtain⟨k,hk,hs⟩:=oi' (B:=B) hn
 have lt:∀r c x,led (dr B r) c=some x->x<B.length:=fun r c x e=>dq' hO ((aD' (M:=B)).trans e)
 have on:∀m r s,r<B.length->s<B.length->Ek B (k+m) r s->Ek B (k+m+1) r s:=by
  intro m
  induction m with
  |zero=>exact hs
  |succ m ih=>
   intro r s hr hs' h
   refine cZ'.mpr fun c=>(cZ'.mp h c).mono fun x y e1 e2=>ih x y (lt r c x e1) (lt s c y e2)
 have up:∀m,Ek B (B.length+m) a b:=by
  intro m
  induction m with
  |zero=>exact h
  |succ m ih=>
   have:=on (B.length+m-k) a b ha hb (by rw[show k+(B.length+m-k)=B.length+m by omega];exact ih)
   rw[show k+(B.length+m-k)+1=B.length+(m+1) by omega]at this
   exact this
 intro j
 exact rD' (m:=B.length+j) (by omega) (up j)
def sh (n:Nat) (r:Rm):Rm:=(r.1.map (·+n),r.2.map (·+n))
def bth (M N:List Rm):List Rm:=M++N.map (sh M.length)
theorem oj' {M N:List Rm} {x:Nat} (h:x<M.length):dr (bth M N) x=dr M x:=by
 unfold dr bth
 rw[aI,aI,bE h]
theorem k2' {M N:List Rm} {y:Nat} (h:y<N.length):dr (bth M N) (M.length+y)=sh M.length (dr N y):=by
 unfold dr bth
 rw[aI,aI,bP (by omega),cg,aG,ac h]
 rfl
theorem rG' {n:Nat} {r:Rm} {c:Bool}:led (sh n r) c=(led r c).map (·+n):=by cases c<;>rfl
theorem dX' {M N:List Rm} (hO:OkM M):∀{w:List Bool} {x:Nat},x<M.length->wl (bth M N) x w=wl M x w
 | [],_,_=>rfl
 |c :: w,x,h=>by
  rw[bz',bz',aD',aD',oj' h]
  cases e:led (dr M x) c with
  |none=>rfl
  |some m=>exact dX' hO (dq' hO ((aD' (M:=M)).trans e))
theorem ge' {M N:List Rm} (hO:OkM N):∀{w:List Bool} {y:Nat},y<N.length->wl (bth M N) (M.length+y) w=wl N y w
 | [],_,_=>rfl
 |c :: w,y,h=>by
  rw[bz',bz',aD',aD',k2' h,rG']
  cases e:led (dr N y) c with
  |none=>rfl
  |some m=>
   show wl (bth M N) (m+M.length) w=wl N m w
   rw[Nat.add_comm]
   exact ge' hO (dq' hO ((aD' (M:=N)).trans e))
theorem jv' {M N:List Rm}:(bth M N).length=M.length+N.length:=by unfold bth;rw[am,ai]
theorem rH' {M N:List Rm} (hM:OkM M) (hN:OkM N):OkM (bth M N):=by
 intro r hr
 rw[jv']
 unfold bth at hr
 rcases al.mp hr with hr|hr
 .have:=hM r hr
  exact⟨fun m e=>ag (this.1 m e) (aJ _ _),fun m e=>ag (this.2 m e) (aJ _ _)⟩
 .obtain⟨s,hs,rfl⟩:=aP.mp hr
  have:=hN s hs
  refine⟨fun m e=>?_,fun m e=>?_⟩
  .obtain⟨k,hk,rfl⟩:=bO.mp e
   have:=this.1 k hk
   omega
  .obtain⟨k,hk,rfl⟩:=bO.mp e
   have:=this.2 k hk
   omega
theorem ca' {H:Hp}:∀{vs:List V} {M:List Rm} {us:List V} {N:List Rm},aI' H vs M->aI' H us N->aI' H (vs++us) (M++N)
 | [],[],_,_,_,g=>g
 |v :: vs,r :: rs,us,N,h,g=>⟨h.1,ca' h.2 g⟩
 | [],_ :: _,_,_,h,_=>h.elim
 |_ :: _,[],_,_,h,_=>h.elim
theorem aI'.getL {H:Hp} {vs:List V} {M:List Rm} {i:Nat} {v:V} (h:aI' H vs M) (e:vs[i]?=some v):∃r p,M[i]?=some r/\v=.ref p/\H p=some (.tup [oV r.1,oV r.2]):=by
 have hi:i<M.length:=by rw[<- h.len];exact aG' e
 obtain⟨p,hp,hq⟩:=h.get (ac hi)
 rw[e]at hp
 cases hp
 exact⟨_,p,ac hi,rfl,hq⟩
def gM':Sp:=fun vs H Q _=>∃(o p:Addr) (M N:List Rm),vs=[.ref o,.ref p]/\IsM H o M/\IsM H p N/\1<=M.length/\M.length<=60/\1<=N.length/\N.length<=60/\∀(a:Addr) (H':Hp),bo' H H'->IsM H' a (bth M N)->Q (.ref a) H'
theorem k3' {C:Rc} (hN:C.N.length=4):∀vs H Q E,gM' vs H Q E->tSs C f6' { nx:=fun _ H'=>Q .non H',rt:=Q } (L2.aO' C.N vs) H:=by
 intro vs H Q E h
 obtain⟨o,p,M,N,rfl,hM,hN',hM1,hM6,hN1,hN6,q⟩:=h
 rw[av' hN]
 unfold f6'
 obtain⟨mv,hmv,hmr⟩:=id hM
 obtain⟨nv,hnv,hnr⟩:=id hN'
 have hml:=hmr.len
 have hnl:=hnr.len
 (try walk_at "su")
 refine ba' (SqT.of hnv) (eB' (vs:=nv) (fun i xs H'=>bo' H H'/\i<=nv.length/\aI' H' xs ((N.take i).map (sh M.length))) ⟨bo'.refl _,bh _,trivial⟩ (fun i xs H' pv=>SqT.of (pv.1 _ _ hnv)) ?_ ?_)
 .rintro i xs H1 v R hv ⟨s1,_,hx⟩ hR
  obtain⟨r,pr,hr,rfl,hpr⟩:=aI'.getL hnr hv
  have htk:N.take (i+1)=N.take i++[r]:=by rw[List.take_succ,hr];rfl
  have hxl:=hx.len
  rw[ai,aF]at hxl
  have hi:=aG' hv
  (try walk_at "su")
  refine ba' (SqT.of (s1 _ _ hpr)) (eB' (vs:=[oV r.1,oV r.2]) (fun j ys H'=>H'=H1/\ys=[oV (r.1.map (·+M.length)),oV (r.2.map (·+M.length))].take j) ⟨rfl,rfl⟩ (fun j ys H' pv=>by rw[pv.1];exact SqT.of (s1 _ _ hpr)) ?_ ?_)
  .rintro j ys H2 y R2 hy ⟨rfl,rfl⟩ hR2
   obtain⟨oo,rfl,htk2⟩:∃oo:Option Nat,y=oV oo/\[oV (r.1.map (·+M.length)),oV (r.2.map (·+M.length))].take (j+1)=[oV (r.1.map (·+M.length)),oV (r.2.map (·+M.length))].take j++[oV (oo.map (·+M.length))]:=by
    match j,hy with
    |0,hy=>cases hy;exact⟨r.1,rfl,rfl⟩
    |1,hy=>cases hy;exact⟨r.2,rfl,rfl⟩
    |j+2,hy=>cases hy
   rw[htk2]at hR2
   cases oo with
   |none=>
    simp only[oV]
    (try walk_at "su")
    exact⟨af' (by rw[aF];simp;omega),hR2 _ _ ⟨rfl,rfl⟩⟩
   |some e=>
    simp only[oV]
    (try walk_at "su")
    refine bb' (SqT.of (s1 _ _ hmv)) ?_
    rw[hml]
    (try walk_at "su")
    refine⟨af' (by rw[aF];simp;omega),hR2 _ _ ⟨rfl,?_⟩⟩
    congr 2
  .rintro ys H2 ⟨rfl,rfl⟩ pl hpl
   obtain⟨s2,h2⟩:=snw hpl (.lst ([oV (r.1.map (·+M.length)),oV (r.2.map (·+M.length))].take [oV r.1,oV r.2].length))
   generalize upd H2 pl _=H3 at s2 h2 ⊢
   (try walk_at "su")
   refine bs' (SqL.of h2) fun pt hpt=>?_
   obtain⟨s3,h3⟩:=snw hpt (.tup [oV (r.1.map (·+M.length)),oV (r.2.map (·+M.length))])
   refine⟨af' (by omega),hR _ _ ⟨s1.trans (s2.trans s3),hi,?_⟩⟩
   rw[htk,aO]
   exact(hx.mono (ai' (s2.trans s3))).snoc ⟨pt,rfl,h3⟩
 .rintro xs H1 ⟨s1,_,hx⟩ pl hpl
  rw[hnl,List.take_length]at hx
  obtain⟨s2,h2⟩:=snw hpl (.lst xs)
  generalize upd H1 pl _=H2 at s2 h2 ⊢
  (try walk_at "su")
  refine bs' (SqL.of h2) fun pt hpt=>?_
  obtain⟨s3,h3⟩:=snw hpt (.tup xs)
  generalize upd H2 pt _=H3 at s3 h3 ⊢
  have hxl:=hx.len
  rw[ai]at hxl
  (try walk_at "su")
  have s13:=s1.trans (s2.trans s3)
  refine i2' (SqT.of (s13 _ _ hmv)) (SqT.of h3) (br (af' (by omega))) (fun z=>?_) (fun _ z=>?_) fun _ _ pq hpq=>?_
  .have:mv.length=0:=by rw[z];rfl
   omega
  .have:xs.length=0:=by rw[z];rfl
   omega
  .obtain⟨s4,h4⟩:=snw hpq (.tup (mv++xs))
   exact q pq _ (s13.trans s4) ⟨_,h4,ca' (hmr.mono (ai' (s13.trans s4))) (hx.mono (ai' (s2.trans (s3.trans s4))))⟩
def cn (c:List Nat) (i:Nat):Nat:=c.getD i 0
theorem gf' {c:List Nat} {i:Nat} (h:i<c.length):c[i]?=some (cn c i):=by
 unfold cn
 rw[aI,ac h]
 rfl
def Lv (B:List Rm) (k:Nat) (c:List Nat):Prop:=c.length=B.length/\∀i j,i<B.length->j<B.length->(cn c i=cn c j↔Ek B k i j)
def mo (c:List Nat):Option Nat->Int
 |none=>-1
 |some e=>(cn c e:Nat)
def mk (B:List Rm) (c:List Nat) (i:Nat):List Int:=[mo c (dr B i).1,mo c (dr B i).2]
theorem ok' {B:List Rm} {k:Nat} {c:List Nat} (h:Lv B k c):∀{o p:Option Nat},(∀x,o=some x->x<B.length)->(∀x,p=some x->x<B.length)->(mo c o=mo c p↔okE (Ek B k) o p)
 |none,none,_,_=>⟨fun _=>trivial,fun _=>rfl⟩
 |some x,some y,hx,hy=>by
  have:=h.2 x y (hx x rfl) (hy y rfl)
  show(((cn c x:Nat):Int)=((cn c y:Nat):Int))↔Ek B k x y
  rw[<- this]
  omega
 |none,some y,_,_=>⟨fun z=>by
   have z:(-1:Int)=((cn c y:Nat):Int):=z
   omega,fun z=>z.elim⟩
 |some x,none,_,_=>⟨fun z=>by
   have z:((cn c x:Nat):Int)=(-1:Int):=z
   omega,fun z=>z.elim⟩
theorem gN' {B:List Rm} (hO:OkM B) {i:Nat} (h:i<B.length):OkR B.length (dr B i):=by
 have:dr B i=B[i]:=by unfold dr;rw[aI,ac h];rfl
 rw[this]
 exact hO _ (List.getElem_mem h)
theorem tO' {B:List Rm} (hO:OkM B) {k:Nat} {c:List Nat} (h:Lv B k c) {i j:Nat} (hi:i<B.length) (hj:j<B.length):mk B c i=mk B c j↔Ek B (k+1) i j:=by
 obtain⟨a1,a2⟩:=gN' hO hi
 obtain⟨b1,b2⟩:=gN' hO hj
 show _↔okE (Ek B k) (dr B i).1 (dr B j).1/\okE (Ek B k) (dr B i).2 (dr B j).2
 rw[<- ok' h a1 b1,<- ok' h a2 b2]
 unfold mk
 constructor
 .intro e
  injection e with e1 e2
  injection e2 with e2 _
  exact⟨e1,e2⟩
 .rintro⟨e1,e2⟩
  rw[e1,e2]
theorem u5' {B:List Rm}:Lv B 0 (aC B.length 0):=by
 refine⟨List.length_replicate,fun i j hi hj=>⟨fun _=>trivial,fun _=>?_⟩⟩
 have:∀i,cn (aC B.length 0) i=0:=fun i=>by
  unfold cn
  rw[aI,List.getElem?_replicate]
  split<;>rfl
 rw[this,this]
structure Num (B:List Rm) (c:List Nat) (i:Nat) (ks:List (List Int)) (ns:List Nat):Prop where
 len:ns.length=i
 nd:ks.length<=i
 at_:∀j,j<i->mk B c j∈ks/\cn ns j=ks.idxOf (mk B c j)
theorem ol' {l:List (List Int)} {x y:List Int} (hx:x∈l) (h:l.idxOf x=l.idxOf y):x=y:=by
 have h1:=List.idxOf_lt_length_of_mem hx
 have e1:l[l.idxOf x]'h1=x:=List.getElem_idxOf h1
 have e2:l[l.idxOf y]'(h ▸ h1)=y:=List.getElem_idxOf (h ▸ h1)
 rw[<- e1,<- e2]
 congr 1
theorem rI' {B:List Rm} (hO:OkM B) {k:Nat} {c:List Nat} (h:Lv B k c) {ks:List (List Int)} {ns:List Nat} (n:Num B c B.length ks ns):Lv B (k+1) ns:=by
 refine⟨n.len,fun i j hi hj=>?_⟩
 obtain⟨a1,a2⟩:=n.at_ i hi
 obtain⟨b1,b2⟩:=n.at_ j hj
 rw[<- tO' hO h hi hj,a2,b2]
 exact⟨ol' a1,fun e=>by rw[e]⟩
set_option tactic.hygienic true in
theorem mL' {ns:List Nat} {x j:Nat}:cn (ns++[x]) j=if j<ns.length then cn ns j else if j=ns.length then x else 0:=by
 unfold cn
 rw[aI,aI]
 split
 .rename_i h
  rw[bE h]
 .rename_i h
  rw[bP (by omega)]
  split
  .rename_i h2
   subst h2
   simp
  .rename_i h2
   rw[bd (by simp;omega)]
   rfl
theorem om' {B:List Rm} {c:List Nat} {i:Nat} {ks:List (List Int)} {ns:List Nat} (n:Num B c i ks ns) (h:mk B c i∈ks):Num B c (i+1) ks (ns++[ks.idxOf (mk B c i)]):=by
 refine⟨by rw[am,n.len];rfl,by have:=n.nd;omega,fun j hj=>?_⟩
 rw[mL',n.len]
 by_cases e:j=i
 .subst e
  rw[if_neg (by omega),if_pos rfl]
  exact⟨h,rfl⟩
 .rw[if_pos (by omega)]
  exact n.at_ j (by omega)
theorem on' {B:List Rm} {c:List Nat} {i:Nat} {ks:List (List Int)} {ns:List Nat} (n:Num B c i ks ns) (h:mk B c i∉ks):Num B c (i+1) (ks++[mk B c i]) (ns++[ks.length]):=by
 refine⟨by rw[am,n.len];rfl,by rw[am];have:=n.nd;simp;omega,fun j hj=>?_⟩
 rw[mL',n.len]
 by_cases e:j=i
 .subst e
  rw[if_neg (by omega),if_pos rfl]
  refine⟨by simp,?_⟩
  rw[List.idxOf_append,if_neg h]
  simp
 .rw[if_pos (by omega)]
  obtain⟨a1,a2⟩:=n.at_ j (by omega)
  refine⟨aD _ a1,?_⟩
  rw[List.idxOf_append,if_pos a1]
  exact a2
def k4' (k:List Int):List Key:=k.map Key.inl
theorem k5' {x y:List Int} (h:k4' x=k4' y):x=y:=(List.map_inj_right fun a b e=>by cases e;rfl).mp h
structure Dk (kv:List (List Key×V)) (ks:List (List Int)):Prop where
 len:kv.length=ks.length
 val:∀k,cJ' kv (k4' k)=if k∈ks then some (V.int (ks.idxOf k:Nat))else none
theorem rJ' {kv:List (List Key×V)} {ks:List (List Int)} (d:Dk kv ks) {k:List Int} (h:k∉ks):Dk (dE' kv (k4' k) (V.int (ks.length:Nat))) (ks++[k]):=by
 have hn:cJ' kv (k4' k)=none:=by rw[d.val,if_neg h]
 refine⟨by rw[j8' _ hn,am,am,d.len];rfl,fun j=>?_⟩
 rw[j7']
 by_cases e:j=k
 .subst e
  rw[if_pos rfl,if_pos (by simp),List.idxOf_append,if_neg h]
  simp
 .rw[if_neg (fun z=>e (k5' z)),d.val]
  by_cases m:j∈ks
  .rw[if_pos m,if_pos (aD _ m),List.idxOf_append,if_pos m]
  .rw[if_neg m,if_neg (fun z=>by
    rcases al.mp z with z|z
    .exact m z
    .exact e (by simpa using z))]
def LvV (B:List Rm) (l:Addr) (H:Hp) (v:V) (k:Nat):Prop:=∃(e:Addr) (c:List Nat),v=.ref e/\e≠l/\H e=some (.lst (c.map nV))/\Lv B k c
theorem LvV.mono {B:List Rm} {l:Addr} {H H':Hp} {v:V} {k:Nat} (s:bo' H H') (h:LvV B l H v k):LvV B l H' v k:=let⟨e,c,e1,ne,h1,h2⟩:=h;⟨e,c,e1,ne,s _ _ h1,h2⟩
theorem LvV.upd {B:List Rm} {l:Addr} {H:Hp} {v:V} {k:Nat} {o:HO} (h:LvV B l H v k):LvV B l (upd H l o) v k:=let⟨e,c,e1,ne,h1,h2⟩:=h;⟨e,c,e1,ne,by rw[ac' ne];exact h1,h2⟩
def bM':Sp:=fun vs H Q _=>∃(a:Addr) (B:List Rm),vs=[.ref a]/\IsM H a B/\OkM B/\1<=B.length/\B.length<=120/\∀(l:Addr) (vs:List V) (H':Hp),bo' H H'->H' l=some (.lst vs)->bW' (LvV B l H') vs (aH (B.length+1))->Q (.ref l) H'
theorem rK' {n:Nat}:aC n (V.int 0)=(aC n 0).map nV:=by rw[List.map_replicate];rfl
theorem ff' {C:Rc} (hN:C.N.length=8):∀vs H Q E,bM' vs H Q E->tSs C cx' { nx:=fun _ H'=>Q .non H',rt:=Q } (L2.aO' C.N vs) H:=by
 intro vs H Q E h
 obtain⟨a,B,rfl,hM,hO,hB1,hB2,q⟩:=h
 rw[av' hN]
 unfold cx'
 obtain⟨mv,hmv,hmr⟩:=id hM
 have hml:=hmr.len
 (try walk_at "su")
 refine⟨by decide,fun p1 hp1=>?_⟩
 obtain⟨s1,h1⟩:=snw hp1 (.lst [V.int 0])
 generalize upd H p1 _=H1 at s1 h1 ⊢
 (try walk_at "su")
 refine bb' (SqT.of (s1 _ _ hmv)) ?_
 rw[hml]
 (try walk_at "su")
 refine mG' h1 (by omega) (br (af' (by simp;omega))) fun p2 hp2=>?_
 have e0:(aC B.length [V.int 0]).flatten=(aC B.length 0).map nV:=by
  rw[<- rK']
  generalize B.length=n
  induction n with
  |zero=>rfl
  |succ n ih=>rw[bB,bC,ih,bB];rfl
 rw[e0]
 obtain⟨s2,h2⟩:=snw hp2 (.lst ((aC B.length 0).map nV))
 generalize upd H1 p2 _=H2 at s2 h2 ⊢
 (try walk_at "su")
 refine⟨by decide,fun l hl=>?_⟩
 obtain⟨s3,h3⟩:=snw hl (.lst [V.ref p2])
 generalize upd H2 l _=H3 at s3 h3 ⊢
 have hl0:H l=none:=s1.free (s2.free hl)
 have hp2l:p2≠l:=ae' h2 hl
 (try walk_at "su")
 refine bb' (SqT.of (s3 _ _ (s2 _ _ (s1 _ _ hmv)))) ?_
 rw[hml]
 (try walk_at "su")
 refine dQ' (by omega) (by omega) (eA' (n:=((B.length:Int)).toNat) (fun k σ H'=>(∃(x2 x3 x4 x5 x6 x7:Option V) (vs:List V),σ=[some (.ref a),some (.ref l),x2,x3,x4,x5,x6,x7]/\H' l=some (.lst vs)/\bW' (LvV B l H') vs (aH (k+1)))/\bo' H H') ⟨⟨_,_,_,_,_,_,[V.ref p2],rfl,h3,⟨⟨p2,_,rfl,hp2l,s3 _ _ h2,u5'⟩,trivial⟩⟩,s1.trans (s2.trans s3)⟩ ?_ ?_)
 .rintro k σ H4 hk ⟨⟨x2,x3,x4,x5,x6,x7,vs,rfl,hl4,hV⟩,s4⟩
  have hk:k<B.length:=by omega
  have hvl:=hV.len
  rw[bo]at hvl
  obtain⟨v,hv,e,c,rfl,hel,hec,hlv⟩:=hV.get (i:=k) (b:=k) (by rw[ci (by omega)])
  have hlast:atI vs (-1)=some (V.ref e):=n7' hvl hv
  have hcl:=hlv.1
  (try walk_at "su")
  intro d hd
  obtain⟨s5,h5⟩:=snw hd (.dT [])
  generalize upd H4 d _=H5 at s5 h5 ⊢
  (try walk_at "su")
  refine⟨by decide,fun ad had=>?_⟩
  obtain⟨s6,h6⟩:=snw had (.lst [])
  generalize upd H5 ad _=H6 at s6 h6 ⊢
  have hdad:d≠ad:=ae' h5 had
  have hd0:H4 d=none:=hd
  have had0:H4 ad=none:=s5.free had
  (try walk_at "su")
  have s46:=s5.trans s6
  refine ba' (SqT.of (s46 _ _ (s4 _ _ hmv))) (qX' (xs:=mv) (fun i σ H'=>(∃(x5 x6 x7:Option V) (kv:List (List Key×V)) (ks:List (List Int)) (ns:List Nat),σ=[some (.ref a),some (.ref l),some (.int (0+(k:Int))),some (.ref d),some (.ref ad),x5,x6,x7]/\H' d=some (.dT kv)/\Dk kv ks/\H' ad=some (.lst (ns.map nV))/\Num B c i ks ns)/\bo' H4 H') ⟨⟨_,_,_,[],[],[],rfl,s6 _ _ h5,⟨rfl,fun k=>rfl⟩,h6,⟨rfl,ak _,fun j hj=>absurd hj (bi _)⟩⟩,s46⟩ (fun i σ H' _ pv=>SqT.of (pv.2 _ _ (s4 _ _ hmv))) ?_ ?_)
  .rintro i x σ H7 hx ⟨⟨x5,x6,x7,kv,ks,ns,rfl,hd7,hdk,had7,hnum⟩,s7⟩
   obtain⟨r,pr,hr,rfl,hpr⟩:=aI'.getL hmr hx
   have hi:i<B.length:=by rw[<- hml];exact aG' hx
   have hrd:r=dr B i:=by unfold dr;rw[aI,hr];rfl
   obtain⟨ok1,ok2⟩:=gN' hO hi
   rw[<- hrd]at ok1 ok2
   have hpr7:=s7 _ _ (s4 _ _ hpr)
   have hl7:=s7 _ _ hl4
   have he7:=s7 _ _ hec
   (try walk_at "su")
   refine ba' (SqT.of hpr7) (eB' (vs:=[oV r.1,oV r.2]) (fun j ys H'=>H'=H7/\ys=([mo c r.1,mo c r.2].take j).map V.int) ⟨rfl,rfl⟩ (fun j ys H' pv=>by rw[pv.1];exact SqT.of hpr7) ?_ ?_)
   .rintro j ys H8 y R hy ⟨rfl,rfl⟩ hR
    obtain⟨oo,rfl,hoo,htk2⟩:∃oo:Option Nat,y=oV oo/\(∀x,oo=some x->x<B.length)/\[mo c r.1,mo c r.2].take (j+1)=[mo c r.1,mo c r.2].take j++[mo c oo]:=by
     match j,hy with
     |0,hy=>cases hy;exact⟨r.1,rfl,ok1,rfl⟩
     |1,hy=>cases hy;exact⟨r.2,rfl,ok2,rfl⟩
     |j+2,hy=>cases hy
    rw[htk2,aO]at hR
    cases oo with
    |none=>
     simp only[oV]
     (try walk_at "su")
     exact⟨af' (by rw[ai,aF];simp;omega),hR _ _ ⟨rfl,rfl⟩⟩
    |some z=>
     have hz:=hoo z rfl
     simp only[oV]
     (try walk_at "su")
     refine aB' (SqL.of hl7) hlast ?_
     (try walk_at "su")
     refine aB' (SqL.of he7) (v:=nV (cn c z)) (aC' (by rw[aG,gf' (by rw[hcl];exact hz)];rfl)) ?_
     exact⟨af' (by rw[ai,aF];simp;omega),hR _ _ ⟨rfl,rfl⟩⟩
   .rintro ys H8 ⟨rfl,rfl⟩ pl hpl
    obtain⟨s9,h9⟩:=snw hpl (.lst (([mo c r.1,mo c r.2].take [oV r.1,oV r.2].length).map V.int))
    generalize upd H8 pl _=H9 at s9 h9 ⊢
    (try walk_at "su")
    refine bs' (SqL.of h9) fun pt hpt=>?_
    obtain⟨s10,h10⟩:=snw hpt (.tup ((mk B c i).map V.int))
    have e1:(([mo c r.1,mo c r.2].take [oV r.1,oV r.2].length).map V.int)=(mk B c i).map V.int:=by rw[hrd];rfl
    rw[e1]
    generalize upd H9 pt _=H10 at s10 h10 ⊢
    have hb10:H10 pt=some (.tup ((k4' (mk B c i)).map L2.kV)):=by
     have:(k4' (mk B c i)).map L2.kV=(mk B c i).map V.int:=by unfold k4';rw[List.map_map];rfl
     rw[this];exact h10
    have s710:=s9.trans s10
    have hd10:=s710 _ _ hd7
    have had10:=s710 _ _ had7
    have hkl:=hnum.nd
    (try walk_at "su")
    refine⟨tyL had10 rfl,?_⟩
    refine rt' (.inr ⟨_,.inl hd10⟩) ?_
    (try walk_at "su")
    refine kO' (.inl hd10) ?_
    rw[hdk.len]
    refine ru' (kb'.t hd10 hb10) (fun v hv=>?_) fun hv=>?_
    .rw[hdk.val]at hv
     by_cases hm:mk B c i∈ks
     .rw[if_pos hm]at hv
      cases hv
      refine cm' (K:=C.K) had10 (af' (by rw[ai,hnum.len];omega)) ?_
      (try walk_at "su")
      refine⟨⟨_,_,_,kv,ks,ns++[ks.idxOf (mk B c i)],rfl,by rw[ac' hdad];exact hd10,hdk,by rw[aa',aO];rfl,om' hnum hm⟩,bn' (s7.trans s710) had0⟩
     .rw[if_neg hm]at hv
      cases hv
    .rw[hdk.val]at hv
     by_cases hm:mk B c i∈ks
     .rw[if_pos hm]at hv
      cases hv
     .refine⟨_,ln'.t hd10 hb10 (by rw[hdk.len];exact af' (by omega)),?_⟩
      have had11:upd H10 d (.dT (dE' kv (k4' (mk B c i)) (V.int (ks.length:Nat)))) ad=some (.lst (ns.map nV)):=by rw[ac' hdad.symm];exact had10
      refine cm' (K:=C.K) had11 (af' (by rw[ai,hnum.len];omega)) ?_
      (try walk_at "su")
      refine⟨⟨_,_,_,_,ks++[mk B c i],ns++[ks.length],rfl,by rw[ac' hdad,aa'],rJ' hdk hm,by rw[aa',aO];rfl,on' hnum hm⟩,bn' (bn' (s7.trans s710) hd0) had0⟩
  .rintro σ H7 ⟨⟨x5,x6,x7,kv,ks,ns,rfl,hd7,hdk,had7,hnum⟩,s7⟩
   rw[hml]at hnum
   have hl7:=s7 _ _ hl4
   (try walk_at "su")
   have hadl:ad≠l:=fun z=>by rw[z,hl4]at had0;cases had0
   refine⟨tyL hl7 rfl,cm' hl7 (af' (by omega)) ?_⟩
   (try walk_at "su")
   refine⟨⟨_,_,_,_,_,_,vs++[V.ref ad],rfl,aa',?_⟩,bn' (s4.trans s7) hl0⟩
   rw[List.range_succ]
   exact(hV.mono fun v k h=>(h.mono s7).upd).snoc ⟨ad,ns,rfl,hadl,by rw[ac' hadl];exact had7,rI' hO hlv hnum⟩
 .rintro σ H4 ⟨⟨x2,x3,x4,x5,x6,x7,vs,rfl,hl4,hV⟩,s4⟩
  rw[show((B.length:Int)).toNat=B.length by omega]at hV
  (try walk_at "su")
  exact q l vs H4 s4 hl4 hV
theorem rL' {B:List Rm} {x y:Nat}:fr B 1 x y=[fb B 0 x y]:=by
 show fb B 0 x y :: _=_
 cases e1:led (dr B x) (fb B 0 x y)<;>cases e2:led (dr B y) (fb B 0 x y)<;>rfl
open Classical in
noncomputable def nek (B:List Rm) (x y k:Nat):Bool:=decide (¬Ek B k x y)
open Classical in
theorem jw' {B:List Rm} {x y k:Nat}:nek B x y k=true↔¬Ek B k x y:=by unfold nek;exact decide_eq_true_iff
set_option tactic.hygienic true in
theorem eJ' {p:Nat->Bool}:∀{m n:Nat} {r:List Nat},(aH m).filter p=n :: r->n<m/\p n=true/\∀k,k<n->p k=false
 |0,n,r,h=>by simp at h
 |m+1,n,r,h=>by
  rw[List.range_succ,List.filter_append]at h
  cases e:(aH m).filter p with
  |nil=>
   rw[e,List.nil_append,bJ,List.filter_nil]at h
   split at h
   .rename_i hp
    cases h
    refine⟨Nat.lt_succ_self _,hp,fun k hk=>?_⟩
    have:=List.filter_eq_nil_iff.mp e k (aT.mpr hk)
    simpa using this
   .cases h
  |cons n' r'=>
   rw[e]at h
   cases h
   obtain⟨h1,h2,h3⟩:=eJ' e
   exact⟨by omega,h2,h3⟩
def oG':Sp:=fun vs H Q _=>∃(a l:Addr) (B:List Rm) (x y:Nat) (us:List V),vs=[.ref a,.ref l,.int x,.int y]/\IsM H a B/\OkM B/\1<=B.length/\B.length<=120/\H l=some (.lst us)/\bW' (LvV B l H) us (aH (B.length+1))/\x<B.length/\y<B.length/\∀(r:Option (List Bool)) (H':Hp),Lst (wl B x) (wl B y) r->bo' H H'->Q (oR r) H'
theorem oo' {C:Rc} (hN:C.N.length=14):∀vs H Q E,oG' vs H Q E->tSs C bu' { nx:=fun _ H'=>Q .non H',rt:=Q } (L2.aO' C.N vs) H:=by
 intro vs H Q E h
 obtain⟨a,l,B,x,y,us,rfl,hM,hO,hB1,hB2,hl,hU,hx,hy,q⟩:=h
 rw[av' hN]
 unfold bu'
 have hul:=hU.len
 rw[bo]at hul
 have lev:∀k,k<=B.length->∃(e:Addr) (c:List Nat),us[k]?=some (V.ref e)/\H e=some (.lst (c.map nV))/\Lv B k c:=fun k hk=>by
  obtain⟨v,hv,e,c,rfl,_,h1,h2⟩:=hU.get (i:=k) (b:=k) (by rw[ci (by omega)])
  exact⟨e,c,hv,h1,h2⟩
 (try walk_at "su")
 refine dS' (SqL.of hl) ?_
 rw[hul]
 (try walk_at "su")
 refine dQ' (by omega) (by omega) (q5' (n:=((B.length+1:Nat):Int).toNat) (fun i xs H'=>H'=H/\xs=((aH i).filter (nek B x y)).map nV) ⟨rfl,rfl⟩ ?_ ?_)
 .rintro i xs H1 R hi ⟨rfl,rfl⟩ hR
  have hi:i<B.length+1:=by omega
  rw[List.range_succ,List.filter_append,aO]at hR
  obtain⟨e,c,he,hec,hlv⟩:=lev i (by omega)
  have hcl:=hlv.1
  rw[show(0:Int)+(i:Int)=((i:Nat):Int) by omega]
  (try walk_at "su")
  refine aB' (SqL.of hl) (aC' he) ?_
  (try walk_at "su")
  refine aB' (SqL.of hec) (v:=nV (cn c x)) (aC' (by rw[aG,gf' (by omega)];rfl)) ?_
  simp only[nV]
  (try walk_at "su")
  refine aB' (SqL.of hl) (aC' he) ?_
  (try walk_at "su")
  refine aB' (SqL.of hec) (v:=nV (cn c y)) (aC' (by rw[aG,gf' (by omega)];rfl)) ?_
  simp only[nV]
  (try walk_at "su")
  by_cases hE:Ek B i x y
  .have e1:cn c x=cn c y:=(hlv.2 x y hx hy).mpr hE
   have e2:nek B x y i=false:=by
    cases z:nek B x y i with
    |false=>rfl
    |true=>exact absurd hE (jw'.mp z)
   rw[bJ,if_neg (by rw[e2];exact ap)]at hR
   rw[e1]
   (try walk_at "su")
   refine hR _ _ ⟨rfl,?_⟩
   rw[List.filter_nil,cI,cw]
  .have e1:¬cn c x=cn c y:=fun z=>hE ((hlv.2 x y hx hy).mp z)
   rw[bJ,if_pos (jw'.mpr hE)]at hR
   rw[show decide ((((cn c x:Nat):Int))=((cn c y:Nat):Int))=false from decide_eq_false (fun z=>e1 (by omega))]
   (try walk_at "su")
   refine⟨by rw[ai];exact af' (aS (List.length_filter_le _ _) (by rw[bo];omega)),hR _ _ ⟨rfl,rfl⟩⟩
 .rintro xs H1 ⟨rfl,rfl⟩ p1 hp1
  rw[show((B.length+1:Nat):Int).toNat=B.length+1 by omega]
  obtain⟨s1,h1⟩:=snw hp1 (.lst (((aH (B.length+1)).filter (nek B x y)).map nV))
  generalize upd H1 p1 _=H2 at s1 h1 ⊢
  (try walk_at "su")
  refine⟨by decide,fun p2 hp2=>?_⟩
  obtain⟨s2,h2⟩:=snw hp2 (.lst [])
  generalize upd H2 p2 _=H3 at s2 h2 ⊢
  refine q9' (SqL.of (s2 _ _ h1)) (SqL.of h2) iX' ?_
  have s12:=s1.trans s2
  cases hf:(aH (B.length+1)).filter (nek B x y)with
  |nil=>
   (try walk_at "su")
   refine q none _ (fun w=>?_) s12
   have hall:Ek B B.length x y:=by
    have:=List.filter_eq_nil_iff.mp hf B.length (aT.mpr (by omega))
    by_cases z:Ek B B.length x y
    .exact z
    .exact absurd (jw'.mpr z) this
   exact cy' (rF' hO hB1 hx hy hall w.length) (ak _)
  |cons n r=>
   obtain⟨hn1,hn2,hn3⟩:=eJ' hf
   have hnE:=jw'.mp hn2
   rw[hf]at h1
   have hn0:n≠0:=fun z=>by rw[z]at hnE;exact hnE trivial
   have hnE2:Ek B (n-1) x y:=by
    by_cases z:Ek B (n-1) x y
    .exact z
    .have:=hn3 (n-1) (by omega)
     rw[jw'.mpr z]at this
     cases this
   rw[decide_eq_false (show ¬((n :: r).map nV=[]) by simp)]
   (try walk_at "su")
   refine aB' (SqL.of (s2 _ _ h1)) (v:=nV n) (aC' (show(((n :: r).map nV)[0]?=some (nV n)) from rfl)) ?_
   simp only[nV]
   (try walk_at "su")
   refine rg' (by omega) (by omega) (by omega) (by omega) ?_
   rw[show((n:Int)-1 - -1).toNat=n by omega]
   refine tA' (fun i σ H'=>i<=n/\bo' H1 H'/\∃(row:List Bool) (ox oy:Option Nat) (x5 x7 x8 x9 x10 x11 x12 x13:Option V),σ=[some (.ref a),some (.ref l),some (oV ox),some (oV oy),some (.ref p1),x5,some (.str (tx row)),x7,x8,x9,x10,x11,x12,x13]/\row.length=i/\(i<n->∃x' y',ox=some x'/\oy=some y'/\x'<B.length/\y'<B.length/\¬Ek B (n-i) x' y'/\Ek B (n-i-1) x' y'/\fr B n x y=row++fr B (n-i) x' y')/\(i=n->row=fr B n x y)) ⟨bh _,s12,[],some x,some y,_,_,_,_,_,_,_,_,rfl,rfl,fun _=>⟨x,y,rfl,rfl,hx,hy,hnE,hnE2,rfl⟩,fun z=>absurd z.symm hn0⟩ ?_ ?_
   .rintro i σ H4 hi ⟨_,s4,row,ox,oy,x5,x7,x8,x9,x10,x11,x12,x13,rfl,hrl,hst,_⟩
    obtain⟨x',y',rfl,rfl,hx',hy',hne,he,hfr⟩:=hst hi
    obtain⟨t,ht⟩:∃t,n-i=t+1:=⟨n-i-1,by omega⟩
    rw[ht]at hne he hfr
    rw[Nat.add_sub_cancel]at he
    have hti:(n:Int)-1+(i:Int) * -1=(t:Nat):=by omega
    rw[hti]
    obtain⟨e,c,hec0,hec,hlv⟩:=lev t (by omega)
    have hcl:=hlv.1
    have hM4:=hM.mono (ai' s4)
    obtain⟨okx1,okx2⟩:=gN' hO hx'
    obtain⟨oky1,oky2⟩:=gN' hO hy'
    simp only[oV]
    (try walk_at "su")
    refine ch' hM4 hx' fun pr hpr=>?_
    (try walk_at "su")
    refine ch' hM4 hy' fun pq hpq=>?_
    refine rm' (k:=true) (j:=true) (SqT.of hpr) (SqT.of hpq) rfl fun l8 as H5 hl8 s5 has h5 hal htup=>?_
    have s5:bo' H4 H5:=s5
    obtain⟨a0,a1,rfl⟩:∃a0 a1,as=[a0,a1]:=by
     match as,hal with
     | [a0,a1],_=>exact⟨a0,a1,rfl⟩
    have ht0:=htup 0 a0 _ _ rfl rfl rfl
    have ht1:=htup 1 a1 _ _ rfl rfl rfl
    have tupb:∀b:Bool,H5 (if b then a1 else a0)=some (.tup [oV (led (dr B x') b),oV (led (dr B y') b)]):=fun b=>by cases b;exact ht0;exact ht1
    have okb:∀(b:Bool) z,(led (dr B x') b=some z\/led (dr B y') b=some z)->z<B.length:=fun b z hz=>by
     cases b
     .rcases hz with hz|hz
      .exact okx1 z hz
      .exact oky1 z hz
     .rcases hz with hz|hz
      .exact okx2 z hz
      .exact oky2 z hz
    have s15:=s4.trans s5
    (try walk_at "su")
    refine bE' (SqL.of h5) (mw' (vs:=[V.ref a0,V.ref a1]) (fun j xs H'=>bo' H5 H'/\bW' (fun v (b:Bool)=>∃m,v=V.ref m/\H' m=some (.lst [V.int (mo c (led (dr B x') b)),V.int (mo c (led (dr B y') b))])) xs ([false,true].take j)) ⟨bo'.refl _,trivial⟩ (fun j xs H' pv=>SqL.of (pv.1 _ _ h5)) ?_ ?_)
    .rintro j xs H6 v R hv ⟨s6,hX⟩ hR
     obtain⟨b,rfl,htb⟩:∃b:Bool,v=V.ref (if b then a1 else a0)/\[false,true].take (j+1)=[false,true].take j++[b]:=by
      match j,hv with
      |0,hv=>cases hv;exact⟨false,rfl,rfl⟩
      |1,hv=>cases hv;exact⟨true,rfl,rfl⟩
      |j+2,hv=>cases hv
     rw[htb]at hR
     have hb6:=s6 _ _ (tupb b)
     have hxl:=hX.len
     have hl6:=s6 _ _ (s15 _ _ hl)
     have he6:=s6 _ _ (s15 _ _ hec)
     generalize (if b then a1 else a0)=ab at hb6 ⊢
     (try walk_at "su")
     refine ba' (SqT.of hb6) (eB' (vs:=[oV (led (dr B x') b),oV (led (dr B y') b)]) (fun k ys H'=>H'=H6/\ys=([mo c (led (dr B x') b),mo c (led (dr B y') b)].take k).map V.int) ⟨rfl,rfl⟩ (fun k ys H' pv=>by rw[pv.1];exact SqT.of hb6) ?_ ?_)
     .rintro k ys H7 w R2 hw ⟨rfl,rfl⟩ hR2
      obtain⟨oo,rfl,hoo,htk2⟩:∃oo:Option Nat,w=oV oo/\(∀z,oo=some z->z<B.length)/\[mo c (led (dr B x') b),mo c (led (dr B y') b)].take (k+1)=[mo c (led (dr B x') b),mo c (led (dr B y') b)].take k++[mo c oo]:=by
       match k,hw with
       |0,hw=>cases hw;exact⟨_,rfl,fun z hz=>okb b z (.inl hz),rfl⟩
       |1,hw=>cases hw;exact⟨_,rfl,fun z hz=>okb b z (.inr hz),rfl⟩
       |k+2,hw=>cases hw
      rw[htk2,aO]at hR2
      cases oo with
      |none=>
       simp only[oV]
       (try walk_at "su")
       exact⟨af' (by rw[ai,aF];simp;omega),hR2 _ _ ⟨rfl,rfl⟩⟩
      |some z=>
       have hz:=hoo z rfl
       simp only[oV]
       (try walk_at "su")
       refine aB' (SqL.of hl6) (aC' hec0) ?_
       (try walk_at "su")
       refine aB' (SqL.of he6) (v:=nV (cn c z)) (aC' (by rw[aG,gf' (by rw[hcl];exact hz)];rfl)) ?_
       exact⟨af' (by rw[ai,aF];simp;omega),hR2 _ _ ⟨rfl,rfl⟩⟩
     .rintro ys H7 ⟨rfl,rfl⟩ pl hpl
      obtain⟨s8,h8⟩:=snw hpl (.lst (([mo c (led (dr B x') b),mo c (led (dr B y') b)].take [oV (led (dr B x') b),oV (led (dr B y') b)].length).map V.int))
      have hj2:([false,true].take j).length<=2:=by rw[aF];simp;omega
      refine⟨af' (by omega),hR _ _ ⟨s6.trans s8,(hX.mono fun v b ⟨m,e1,e2⟩=>⟨m,e1,s8 _ _ e2⟩).snoc ⟨pl,rfl,h8⟩⟩⟩
    .rintro xs H6 ⟨s6,hX⟩ p9 hp9
     obtain⟨v0,hv0,m0,rfl,hm0⟩:=hX.get (i:=0) (b:=false) rfl
     obtain⟨v1,hv1,m1,rfl,hm1⟩:=hX.get (i:=1) (b:=true) rfl
     have hxl:=hX.len
     obtain⟨s7,h7⟩:=snw hp9 (.lst xs)
     generalize upd H6 p9 _=H7 at s7 h7 ⊢
     have s57:=s6.trans s7
     have mb:∀b:Bool,∃m,atI xs (if b then 1 else 0)=some (V.ref m)/\H7 m=some (.lst [V.int (mo c (led (dr B x') b)),V.int (mo c (led (dr B y') b))]):=fun b=>by
      cases b
      .exact⟨m0,aC' hv0,s7 _ _ hm0⟩
      .exact⟨m1,aC' hv1,s7 _ _ hm1⟩
     (try walk_at "su")
     refine⟨by decide,fun pt hpt=>?_⟩
     obtain⟨s8,h8⟩:=snw hpt (.tup [V.int 0,V.int 1])
     generalize upd H7 pt _=H8 at s8 h8 ⊢
     refine ba' (SqT.of h8) (eB' (vs:=[V.int 0,V.int 1]) (fun j ys H'=>H'=H8/\ys=(([false,true].take j).filter fun b=>decide (mo c (led (dr B x') b)≠mo c (led (dr B y') b))).map fun b=>V.int (if b then 1 else 0)) ⟨rfl,rfl⟩ (fun j ys H' pv=>by rw[pv.1];exact SqT.of h8) ?_ ?_)
     .rintro j ys H9 w R hw ⟨rfl,rfl⟩ hR
      obtain⟨b,rfl,htb⟩:∃b:Bool,w=V.int (if b then 1 else 0)/\[false,true].take (j+1)=[false,true].take j++[b]:=by
       match j,hw with
       |0,hw=>cases hw;exact⟨false,rfl,rfl⟩
       |1,hw=>cases hw;exact⟨true,rfl,rfl⟩
       |j+2,hw=>cases hw
      rw[htb,List.filter_append,aO]at hR
      obtain⟨m,hm,hmb⟩:=mb b
      have hmb9:=s8 _ _ hmb
      have h79:=s8 _ _ h7
      have hfl:((([false,true].take j).filter fun b=>decide (mo c (led (dr B x') b)≠mo c (led (dr B y') b))).map fun b=>V.int (if b then 1 else 0)).length<=2:=by
       rw[ai]
       exact aS (List.length_filter_le _ _) (by rw[aF];simp;omega)
      (try walk_at "su")
      refine aB' (SqL.of h79) hm ?_
      (try walk_at "su")
      refine aB' (SqL.of hmb9) (v:=.int (mo c (led (dr B x') b))) rfl ?_
      (try walk_at "su")
      refine aB' (SqL.of h79) hm ?_
      (try walk_at "su")
      refine aB' (SqL.of hmb9) (v:=.int (mo c (led (dr B y') b))) rfl ?_
      (try walk_at "su")
      by_cases hd:mo c (led (dr B x') b)=mo c (led (dr B y') b)
      .rw[bJ,if_neg (by simpa using hd),List.filter_nil,cI,cw]at hR
       rw[decide_eq_true hd]
       (try walk_at "su")
       exact hR _ _ ⟨rfl,rfl⟩
      .rw[bJ,if_pos (by simpa using hd)]at hR
       rw[decide_eq_false hd]
       (try walk_at "su")
       exact⟨af' (by omega),hR _ _ ⟨rfl,rfl⟩⟩
     .rintro ys H9 ⟨rfl,rfl⟩ pd hpd
      obtain⟨s9,h9⟩:=snw hpd (.lst (((([false,true].take [V.int 0,V.int 1].length).filter fun b=>decide (mo c (led (dr B x') b)≠mo c (led (dr B y') b))).map fun b=>V.int (if b then 1 else 0))))
      generalize upd H9 pd _=H10 at s9 h9 ⊢
      obtain⟨f1,f2⟩:=og' hne
      have hmoE:∀b:Bool,mo c (led (dr B x') b)=mo c (led (dr B y') b)↔okE (Ek B t) (led (dr B x') b) (led (dr B y') b):=fun b=>ok' hlv (fun z hz=>okb b z (.inl hz)) fun z hz=>okb b z (.inr hz)
      have hfirst:atI ((([false,true].take [V.int 0,V.int 1].length).filter fun b=>decide (mo c (led (dr B x') b)≠mo c (led (dr B y') b))).map fun b=>V.int (if b then 1 else 0)) 0=some (V.int (if fb B t x' y' then 1 else 0)):=by
       cases hb:fb B t x' y' with
       |false=>
        rw[hb]at f1
        have:mo c (led (dr B x') false)≠mo c (led (dr B y') false):=fun z=>f1 ((hmoE false).mp z)
        show atI (List.map _ (List.filter _ [false,true])) 0=_
        rw[bJ,if_pos (by simpa using this)]
        exact aC' (j:=0) rfl
       |true=>
        rw[hb]at f1
        have h0:mo c (led (dr B x') false)=mo c (led (dr B y') false):=(hmoE false).mpr (f2 hb)
        have h1':mo c (led (dr B x') true)≠mo c (led (dr B y') true):=fun z=>f1 ((hmoE true).mp z)
        show atI (List.map _ (List.filter _ [false,true])) 0=_
        rw[bJ,if_neg (by simpa using h0),bJ,if_pos (by simpa using h1')]
        exact aC' (j:=0) rfl
      (try walk_at "su")
      refine aB' (SqL.of h9) hfirst ?_
      have s110:=s15.trans (s57.trans (s8.trans s9))
      have h510:=(s57.trans (s8.trans s9)) _ _ h5
      have htb10:=(s57.trans (s8.trans s9)) _ _ (tupb (fb B t x' y'))
      (try walk_at "su")
      refine nU' (l:=[false,true]) (c:=fb B t x' y') (by decide) (by cases fb B t x' y'<;>rfl) ?_
      (try walk_at "su")
      refine⟨br (af' (by simp;omega)),?_⟩
      rw[rd']
      (try walk_at "su")
      refine aB' (SqL.of h510) (i:=if fb B t x' y' then 1 else 0) (v:=V.ref (if fb B t x' y' then a1 else a0)) (by cases fb B t x' y'<;>rfl) ?_
      refine i0' (SqT.of htb10) ?_
      simp only[fG',List.set_cons_zero,List.set_cons_succ]
      (try walk_at "su")
      refine⟨hi,s110,row++[fb B t x' y'],led (dr B x') (fb B t x' y'),led (dr B y') (fb B t x' y'),_,_,_,_,_,_,_,_,rfl,by rw[am,hrl];rfl,fun hlt=>?_,fun heq=>?_⟩
      .obtain⟨t',rfl⟩:∃t',t=t'+1:=⟨t-1,by omega⟩
       have hon:=cZ'.mp he (fb B (t'+1) x' y')
       obtain⟨u',v',e1,e2,hn'⟩:=(fe' f1).resolve_left fun z=>by
        cases z1:led (dr B x') (fb B (t'+1) x' y')<;>cases z2:led (dr B y') (fb B (t'+1) x' y')<;>rw[z1,z2]at hon z<;>first|exact z rfl|exact False.elim hon
       rw[e1,e2]at hon ⊢
       refine⟨u',v',rfl,rfl,okb _ u' (.inl e1),okb _ v' (.inr e2),?_,?_,?_⟩
       .rw[show n-(i+1)=t'+1 by omega];exact hn'
       .rw[show n-(i+1)-1=t' by omega];exact hon
       .rw[show n-(i+1)=t'+1 by omega,hfr,aV]
        congr 1
        show fb B (t'+1) x' y' :: _=_
        rw[e1,e2]
        rfl
      .have:t=0:=by omega
       subst this
       rw[hfr,rL']
   .rintro σ H4 ⟨_,s4,row,ox,oy,x5,x7,x8,x9,x10,x11,x12,x13,rfl,hrl,_,hend⟩
    (try walk_at "su")
    refine q (some row) _ ?_ s4
    rw[hend rfl]
    obtain⟨m,rfl⟩:∃m,n=m+1:=⟨n-1,by omega⟩
    exact(rE' m x y hnE hnE2).1
theorem jx' {K:W.Frag} {H:Hp} {Q:VK} {a b:Addr} {xs ys:List V} (h:H a=some (.tup xs)) (h2:H b=some (.tup ys)) (hz:xs.length+ys.length<=sizeLine) (q:∀p H',bo' H H'->H' p=some (.tup (xs++ys))->Q (.ref p) H'):c8' K .Add (.ref a) (.ref b) H Q:=
 i2' (SqT.of h) (SqT.of h2) hz (fun e=>q b H (bo'.refl _) (by rw[e];exact h2)) (fun _ e=>q a H (bo'.refl _) (by rw[e,cw];exact h)) fun _ _ p hp=>q p _ (al' hp _) aa'
theorem ds' {H:Hp}:∀{vs:List V} {M:List Rm} (k:Nat),aI' H vs M->aI' H (vs.take k) (M.take k)
 |_,_,0,_=>trivial
 | [],[],k+1,_=>trivial
 |v :: vs,r :: rs,k+1,h=>⟨h.1,ds' k h.2⟩
 | [],_ :: _,k+1,h=>h.elim
 |_ :: _,[],k+1,h=>h.elim
theorem dt' {H:Hp}:∀{vs:List V} {M:List Rm} (k:Nat),aI' H vs M->aI' H (vs.drop k) (M.drop k)
 |_,_,0,h=>h
 | [],[],k+1,_=>trivial
 |v :: vs,r :: rs,k+1,h=>dt' k h.2
 | [],_ :: _,k+1,h=>h.elim
 |_ :: _,[],k+1,h=>h.elim
def gO':Sp:=fun vs H Q _=>∃(b:Addr) (n:Nat),vs=[.ref b]/\H b=some (cq' b n)/\n<=2 ^ 37/\∀(t o p:Addr) (M N:List Rm) (H':Hp),Go 4000 H H'->H' t=some (.tup [.ref o,.ref p])->IsM H' o M->OkM M->1<=M.length->M.length<=60->IsM H' p N->OkM N->1<=N.length->N.length<=60->Q (.ref t) H'
theorem k6' {C:Rc} (hN:C.N.length=6) (hA:C.fs "_law_any"=some jd') (hT:C.fs "_law_take"=some au') (hCp:C.fs "_law_copied"=some bi'):∀vs H Q E,gO' vs H Q E->tSs C kY' { nx:=fun _ H'=>Q .non H',rt:=Q } (L2.aO' C.N vs) H:=by
 intro vs H Q E h
 obtain⟨b,n,rfl,hb,hn,q⟩:=h
 rw[av' hN]
 unfold kY'
 have fin:∀(o p:Addr) (M N:List Rm) (H1:Hp),Go 3900 H H1->IsM H1 o M->OkM M->1<=M.length->M.length<=60->IsM H1 p N->OkM N->1<=N.length->N.length<=60->∀t,H1 t=none->Q (.ref t) (upd H1 t (.tup [.ref o,.ref p])):=fun o p M N H1 g hM hO h1 h2 hM' hO' h1' h2' t ht=>by
  obtain⟨g',h'⟩:=gnw ht (.tup [.ref o,.ref p])
  exact q t o p M N _ ((g.trans g').mono (by omega)) h' (hM.mono g'.tp) hO h1 h2 (hM'.mono g'.tp) hO' h1' h2'
 (try walk_at "su")
 refine am' hA ?_
 (try walk_at "su")
 refine⟨b,n,rfl,hb,by omega,fun o M H1 g1 hM1 hO hMl hMu=>?_⟩
 obtain⟨n1,hn1,hn1',_⟩:=g1.boxed hb (by omega)
 (try walk_at "su")
 refine am' hT ?_
 (try walk_at "su")
 refine ao' hn1 (Go.refl (c:=0)) (by omega) (by decide) (by decide) fun w H2 hw0 hw5 g2 g02=>?_
 obtain⟨n2,hn2,hn2',_⟩:=g02.boxed hn1 (by omega)
 have g12:=g1.trans g02
 have hM2:=hM1.mono g2.tp
 obtain⟨mv,hmv,hmr⟩:=id hM2
 have hml:=hmr.len
 (try walk_at "su")
 refine a0' (fun hc=>?_) fun hc=>?_
 .
  (try walk_at "su")
  refine bb' (SqT.of hmv) ?_
  (try walk_at "su")
  refine a0' (fun hc2=>?_) fun hc2=>?_
  .
   (try walk_at "su")
   refine am' hCp ?_
   (try walk_at "su")
   refine⟨b,o,n2,M,rfl,hn2,by omega,hM2,hO,hMl,by omega,fun p a' l M' ms H4 g4 hp hl hlen hms hM' hO' hM1' hM2'=>?_⟩
   (try walk_at "su")
   refine by' (SqT.of hp) (v:=.ref a') rfl ?_
   (try walk_at "su")
   refine a0' (fun hc3=>absurd hc3 (by omega)) fun _=>?_
   (try walk_at "su")
   refine a0' (fun hc3=>absurd hc3 (by omega)) fun _=>?_
   (try walk_at "su")
   exact⟨by decide,fin _ _ M M' _ ((g12.trans g4).mono (by omega)) (hM2.mono g4.tp) hO hMl hMu hM' hO' hM1' hM2'⟩
  .
   (try walk_at "su")
   refine a0' (fun hc3=>absurd hc3 (by omega)) fun _=>?_
   (try walk_at "su")
   refine a0' (fun hc3=>absurd hc3 (by omega)) fun _=>?_
   (try walk_at "su")
   exact⟨by decide,fin _ _ M M _ (g12.mono (by omega)) hM2 hO hMl hMu hM2 hO hMl hMu⟩
 .
  (try walk_at "su")
  refine a0' (fun hc2=>?_) fun hc2=>?_
  .
   (try walk_at "su")
   refine am' hT ?_
   (try walk_at "su")
   refine bb' (SqT.of hmv) ?_
   rw[hml]
   (try walk_at "su")
   refine ao' hn2 (Go.refl (c:=0)) (by omega) (by omega) (by omega) fun r H3 hr0 hrl g3 g03=>?_
   obtain⟨r,rfl⟩:=aM hr0
   obtain⟨n3,hn3,hn3',_⟩:=g03.boxed hn2 (by omega)
   have hr:r<M.length:=by omega
   have hM3:=hM2.mono g3.tp
   obtain⟨ok1,ok2⟩:=gN' hO hr
   (try walk_at "su")
   refine ch' hM3 hr fun pr hpr=>?_
   (try walk_at "su")
   refine by' (SqT.of hpr) (v:=oV (dr M r).2) rfl ?_
   (try walk_at "su")
   refine⟨by decide,fun t1 ht1=>?_⟩
   obtain⟨s4,h4⟩:=snw ht1 (.tup [.non,oV (dr M r).2])
   generalize upd H3 t1 _=H4 at s4 h4 ⊢
   refine ch' (hM3.mono (ai' s4)) hr fun pr' hpr'=>?_
   (try walk_at "su")
   refine by' (SqT.of hpr') (v:=oV (dr M r).1) rfl ?_
   (try walk_at "su")
   refine⟨by decide,fun t2 ht2=>?_⟩
   obtain⟨s5,h5⟩:=snw ht2 (.tup [oV (dr M r).1,.non])
   generalize upd H4 t2 _=H5 at s5 h5 ⊢
   (try walk_at "su")
   refine⟨by decide,fun l hl=>?_⟩
   obtain⟨s6,h6⟩:=snw hl (.lst [.ref t1,.ref t2])
   generalize upd H5 l _=H6 at s6 h6 ⊢
   have s36:=s4.trans (s5.trans s6)
   refine am' hT ?_
   (try walk_at "su")
   refine ao' (s36 _ _ hn3) (Go.refl (c:=0)) (by omega) (by decide) (by decide) fun z H7 hz0 hz2 g7 g07=>?_
   have t47:=g7.tp
   have t37:=(ai' s36).trans g7.tp
   obtain⟨e,he,u,hu,hok⟩:∃e:Addr,atI [V.ref t1,V.ref t2] z=some (.ref e)/\∃u:Rm,H7 e=some (.tup [oV u.1,oV u.2])/\OkR M.length u:=by
    rcases(by omega:z=0\/z=1)with rfl|rfl
    .exact⟨t1,rfl,(none,(dr M r).2),t47 _ _ ((s5.trans s6) _ _ h4),⟨(fun _ e=>by cases e),ok2⟩⟩
    .exact⟨t2,rfl,((dr M r).1,none),t47 _ _ (s6 _ _ h5),⟨ok1,(fun _ e=>by cases e)⟩⟩
   (try walk_at "su")
   refine aB' (SqL.of (g7.lst h6)) he ?_
   (try walk_at "su")
   have hmv7:=t37 _ _ (g3.tp _ _ hmv)
   have hM7:=hM3.mono t37
   refine i1' (SqT.of hmv7) (fun z=>by rw[HT.dx']at z;have:=z.2;omega) fun c1 hc1=>?_
   rw[mA']
   obtain⟨s8,h8⟩:=snw hc1 (.tup (mv.take r))
   generalize upd H7 c1 _=H8 at s8 h8 ⊢
   (try walk_at "su")
   refine⟨by decide,fun c2 hc2'=>?_⟩
   obtain⟨s9,h9⟩:=snw hc2' (.tup [.ref e])
   generalize upd H8 c2 _=H9 at s9 h9 ⊢
   refine jx' (s9 _ _ h8) h9 (by rw[aF];exact br (af' (by simp;omega))) fun c3 H10 s10 h10=>?_
   (try walk_at "su")
   rw[show((r:Int)+1)=((r+1:Nat):Int) by omega]
   have s70:=s8.trans (s9.trans s10)
   refine i1' (SqT.of (s70 _ _ hmv7)) (fun z=>by rw[HT.dx']at z;have:=z.1;omega) fun c4 hc4=>?_
   rw[kL']
   obtain⟨s11,h11⟩:=snw hc4 (.tup (mv.drop (r+1)))
   generalize upd H10 c4 _=H11 at s11 h11 ⊢
   refine jx' (s11 _ _ h10) h11 (by rw[am,aF,bQ];exact br (af' (by simp;omega))) fun c5 H12 s12 h12=>?_
   have s712:=s70.trans (s11.trans s12)
   (try walk_at "su")
   refine a0' (fun hc3=>absurd hc3 (by omega)) fun _=>?_
   (try walk_at "su")
   have hlen:(M.take r++[u]++M.drop (r+1)).length=M.length:=by
    rw[am,am,aF,bQ]
    show min r M.length+1+_=_
    omega
   have hmr12:=hmr.mono (g3.tp.trans (t37.trans (ai' s712)))
   refine⟨by decide,fin _ _ M (M.take r++[u]++M.drop (r+1)) _ ?_ (hM7.mono (ai' s712)) hO hMl hMu ⟨_,h12,ca' (ca' (ds' r hmr12) ⟨⟨e,rfl,s712 _ _ hu⟩,trivial⟩) (dt' (r+1) hmr12)⟩ ?_ (by rw[hlen];exact hMl) (by rw[hlen];exact hMu)⟩
   .exact((g12.trans (g3.trans ((Go.of_same (c:=0) s36).trans (g7.trans (Go.of_same (c:=0) s712))))).mono (by omega))
   .intro x hx
    rw[hlen]
    rcases al.mp hx with hx|hx
    .rcases al.mp hx with hx|hx
     .exact hO x (bX hx)
     .cases bT.mp hx
      exact hok
    .exact hO x (bW hx)
  .
   (try walk_at "su")
   refine a0' (fun hc3=>?_) fun hc3=>?_
   .
    (try walk_at "su")
    refine am' hA ?_
    (try walk_at "su")
    refine⟨b,n2,rfl,hn2,by omega,fun p M' H3 g3 hM3 hO' hM1' hM2'=>?_⟩
    (try walk_at "su")
    exact⟨by decide,fin _ _ M M' _ ((g12.trans g3).mono (by omega)) (hM2.mono g3.tp) hO hMl hMu hM3 hO' hM1' hM2'⟩
   .
    (try walk_at "su")
    exact⟨by decide,fin _ _ M M _ (g12.mono (by omega)) hM2 hO hMl hMu hM2 hO hMl hMu⟩
theorem LvV.go {B:List Rm} {l:Addr} {H H':Hp} {v:V} {k c:Nat} (g:Go c H H') (h:LvV B l H v k):LvV B l H' v k:=let⟨e,c,e1,ne,h1,h2⟩:=h;⟨e,c,e1,ne,g.lst h1,h2⟩
theorem jy' {o:Option (List Bool)}:lh' (oR o) (oR o)=true:=by cases o<;>rfl
structure FsLaw (C:Rc):Prop where
 box:C.fs "_law_box"=some (i9' C.K)
 two:C.fs "_law_two"=some gO'
 both:C.fs "_law_both"=some gM'
 rounds:C.fs "_law_rounds"=some bM'
 take:C.fs "_law_take"=some au'
 apart:C.fs "apart"=some oF'
 fr:C.fs "_law_first_row"=some oG'
def jz' (K:W.Frag):Sp:=fun vs H Q _=>∃(a:Addr) (ns:List Int),vs=[.ref a]/\SqL K H a (ns.map V.int)/\ns.length<=63/\∀H',Q (.bl true) H'
theorem k7' {C:Rc} (hN:C.N.length=11) (F:FsLaw C):∀vs H Q E,jz' C.K vs H Q E->tSs C k0' { nx:=fun _ H'=>Q .non H',rt:=Q } (L2.aO' C.N vs) H:=by
 intro vs H Q E h
 obtain⟨a,ns,rfl,hs,h63,q⟩:=h
 rw[av' hN]
 unfold k0'
 (try walk_at "su")
 refine dQ' (by omega) (by omega) (eA' (fun i σ H'=>(∃x1 x2 x3 x4 x5 x6 x7 x8 x9 x10,σ=[some (.ref a),x1,x2,x3,x4,x5,x6,x7,x8,x9,x10])/\SqL C.K H' a (ns.map V.int)) ⟨⟨none,none,none,none,none,none,none,none,none,none,rfl⟩,hs⟩ ?_ ?_)
 .rintro i σ H0 hi ⟨⟨x1,x2,x3,x4,x5,x6,x7,x8,x9,x10,rfl⟩,hs0⟩
  have hi:i<6:=hi
  rw[show(0:Int)+(i:Int)=((i:Nat):Int) by omega]
  (try walk_at "su")
  refine am' F.box ?_
  (try walk_at "su")
  refine⟨a,ns,_,rfl,hs0,by omega,by omega,fun b hb=>?_⟩
  have hs1:=(al' hb (cq' b 0)).seq hs0
  have hb1:upd H0 b (cq' b 0) b=some (cq' b 0):=aa'
  generalize upd H0 b (cq' b 0)=H1 at hs1 hb1 ⊢
  (try walk_at "su")
  rw[rd']
  refine am' F.two ?_
  (try walk_at "su")
  refine⟨b,0,rfl,hb1,by decide,fun t o p M N H2 g2 ht hM2 hO hM1 hMu hN2 hO' hN1 hNu=>?_⟩
  obtain⟨n2,hn2,hn2',_⟩:=g2.boxed hb1 (by omega)
  refine i0' (SqT.of ht) ?_
  simp only[fG',List.set_cons_zero,List.set_cons_succ]
  (try walk_at "su")
  refine am' F.both ?_
  (try walk_at "su")
  refine⟨o,p,M,N,rfl,hM2,hN2,hM1,hMu,hN1,hNu,fun u H3 s3 hB3=>?_⟩
  have hOB:=rH' hO hO'
  have hBl:=jv' (M:=M) (N:=N)
  (try walk_at "su")
  refine am' F.rounds ?_
  (try walk_at "su")
  refine⟨u,bth M N,rfl,hB3,hOB,by omega,by omega,fun l us H4 s4 hl4 hU4=>?_⟩
  have s24:=s3.trans s4
  have hM4:=hM2.mono (ai' s24)
  have hN4:=hN2.mono (ai' s24)
  have hB4:=hB3.mono (ai' s4)
  have hs4:=s24.seq (g2.seq hs1)
  have hn4:=s24 _ _ hn2
  (try walk_at "su")
  refine dQ' (by omega) (by omega) (eA' (fun j σ H'=>(∃x7 x8 x9 x10,σ=[some (.ref a),some (.int i),some (.ref b),some (.ref o),some (.ref p),some (.ref u),some (.ref l),x7,x8,x9,x10])/\Go (3*j) H4 H') ⟨⟨_,_,_,_,rfl⟩,Go.refl⟩ ?_ ?_)
  .rintro j σ H5 hj ⟨⟨x7,x8,x9,x10,rfl⟩,g5⟩
   have hj:j<4:=hj
   have len:∀{H':Hp} {c:Nat},Go c H4 H'->(∃mv,H' o=some (.tup mv)/\mv.length=M.length)/\∃nv,H' p=some (.tup nv)/\nv.length=N.length:=fun g=>by
    obtain⟨mv,e1,e2⟩:=hM4.mono g.tp
    obtain⟨nv,e3,e4⟩:=hN4.mono g.tp
    exact⟨⟨mv,e1,e2.len⟩,nv,e3,e4.len⟩
   obtain⟨n5,hn5,hn5',_⟩:=g5.boxed hn4 (by omega)
   obtain⟨⟨mv5,hm5,hml5⟩,_⟩:=len g5
   (try walk_at "su")
   refine am' F.take ?_
   (try walk_at "su")
   refine bb' (SqT.of hm5) ?_
   rw[hml5]
   (try walk_at "su")
   refine ao' hn5 (Go.refl (c:=0)) (by omega) (by omega) (by omega) fun x H6 hx0 hxl g6 g06=>?_
   obtain⟨x,rfl⟩:=aM hx0
   have g46:=g5.trans g6
   obtain⟨n6,hn6,hn6',_⟩:=g06.boxed hn5 (by omega)
   obtain⟨_,nv6,hp6,hpl6⟩:=len g46
   (try walk_at "su")
   refine am' F.take ?_
   (try walk_at "su")
   refine bb' (SqT.of hp6) ?_
   rw[hpl6]
   (try walk_at "su")
   refine ao' hn6 (Go.refl (c:=0)) (by omega) (by omega) (by omega) fun y H7 hy0 hyl g7 g07=>?_
   obtain⟨y,rfl⟩:=aM hy0
   have g47:=g46.trans g7
   obtain⟨n7,hn7,hn7',_⟩:=g07.boxed hn6 (by omega)
   obtain⟨⟨mv7,hm7,hml7⟩,nv7,hp7,hpl7⟩:=len g47
   have hx:x<M.length:=by omega
   have hy:y<N.length:=by omega
   rw[show(0:Int)+(j:Int)=((j:Nat):Int) by omega]
   (try walk_at "su")
   generalize hD:oE' C _ _=D
   have a5':∀y:Nat,y<N.length->D.nx [some (.ref a),some (.int i),some (.ref b),some (.ref o),some (.ref p),some (.ref u),some (.ref l),some (.int j),some (.int x),some (.int y),x10] H7:=by
    intro y hy
    rw[<- hD]
    (try walk_at "su")
    refine am' F.apart ?_
    (try walk_at "su")
    refine⟨o,p,M,N,x,y,rfl,hM4.mono g47.tp,hO,hN4.mono g47.tp,hO',hMu,hNu,hx,hy,fun r H8 hr s8=>?_⟩
    (try walk_at "su")
    refine am' F.fr ?_
    (try walk_at "su")
    refine bb' (SqT.of (s8 _ _ hm7)) ?_
    rw[hml7]
    (try walk_at "su")
    have g48:=g47.trans (Go.of_same (c:=0) s8)
    rw[show(M.length:Int)+(y:Int)=((M.length+y:Nat):Int) by omega]
    refine⟨u,l,bth M N,x,M.length+y,us,rfl,hB4.mono g48.tp,hOB,by omega,by omega,g48.lst hl4,hU4.mono fun v k h=>h.go g48,by omega,by omega,fun r' H9 hr' s9=>?_⟩
    have er:r'=r:=by
     have e1:wl (bth M N) x=wl M x:=funext fun w=>dX' hO hx
     have e2:wl (bth M N) (M.length+y)=wl N y:=funext fun w=>ge' hO' hy
     rw[e1,e2]at hr'
     exact hr'.uniq hr
    subst er
    have s79:=s8.trans s9
    (try walk_at "su")
    rw[q8' jy',decide_eq_true rfl]
    (try walk_at "su")
    refine am' F.take ?_
    (try walk_at "su")
    refine bb' (SqT.of (s79 _ _ hm7)) ?_
    rw[hml7]
    (try walk_at "su")
    refine ao' (s79 _ _ hn7) (Go.refl (c:=0)) (by omega) (by omega) (by omega) fun c H10 hc0 hcl g10 _=>?_
    obtain⟨c,rfl⟩:=aM hc0
    have hc:c<M.length:=by omega
    have g410:=(g47.trans (Go.of_same (c:=0) s79)).trans g10
    (try walk_at "su")
    refine am' F.apart ?_
    (try walk_at "su")
    refine⟨o,o,M,M,x,c,rfl,hM4.mono g410.tp,hO,hM4.mono g410.tp,hO,hMu,hMu,hx,hc,fun r H11 hr s11=>?_⟩
    (try walk_at "su")
    refine am' F.fr ?_
    (try walk_at "su")
    have g411:=g410.trans (Go.of_same (c:=0) s11)
    refine⟨u,l,bth M N,x,c,us,rfl,hB4.mono g411.tp,hOB,by omega,by omega,g411.lst hl4,hU4.mono fun v k h=>h.go g411,by omega,by omega,fun r' H12 hr' s12=>?_⟩
    have er:r'=r:=by
     have e1:wl (bth M N) x=wl M x:=funext fun w=>dX' hO hx
     have e2:wl (bth M N) c=wl M c:=funext fun w=>dX' hO hc
     rw[e1,e2]at hr'
     exact hr'.uniq hr
    subst er
    (try walk_at "su")
    rw[q8' jy',decide_eq_true rfl]
    (try walk_at "su")
    exact⟨⟨_,_,_,_,rfl⟩,(g411.trans (Go.of_same (c:=0) s12)).mono (by omega)⟩
   refine a0' (fun hc=>?_) fun hc=>?_
   .
    (try walk_at "su")
    refine bb' (SqT.of hp7) ?_
    rw[hpl7]
    (try walk_at "su")
    obtain⟨z,hz,hzl⟩:∃z:Nat,(if(N.length:Int)-1<(x:Int)then(N.length:Int)-1 else(x:Int))=(z:Int)/\z<N.length:=by
     split
     .exact⟨N.length-1,by omega,by omega⟩
     .exact⟨x,rfl,by omega⟩
    rw[hz]
    exact a5' z hzl
   .
    (try walk_at "su")
    exact a5' y hy
  .rintro σ H5 ⟨⟨x7,x8,x9,x10,rfl⟩,g5⟩
   (try walk_at "su")
   exact⟨⟨_,_,_,_,_,_,_,_,_,_,rfl⟩,g5.seq hs4⟩
 .rintro σ H0 ⟨⟨x1,x2,x3,x4,x5,x6,x7,x8,x9,x10,rfl⟩,hs0⟩
  (try walk_at "su")
  exact q _
end K13
namespace K13
open PySem PySem.Spec PyProof.Rows L2 R3 LW NR NM RW
def top (i:Nat):Stmt:=PySem.Challenge.pw_runbound_k13_rooms_apart.main.body.getD i (.Pass ⟨0,0,0,0⟩)
theorem u6':mSs bd' aS' (ad' (top 1)) aT' (ap' (top 1))=true:=by decide +kernel
theorem tP':FnScope bd' ["room","other"] (ad' (top 1)):=⟨rfl,rfl,rfl,by decide +kernel,rfl,by decide +kernel,by decide +kernel⟩
theorem oq':mSs cW' b5' (ad' (top 2)) b6' (ap' (top 2))=true:=by decide +kernel
theorem k8':FnScope cW' ["one","a","other","b"] (ad' (top 2)):=⟨rfl,rfl,rfl,by decide +kernel,rfl,by decide +kernel,by decide +kernel⟩
theorem rM':mSs b7' bF' (ad' (top 4)) b3' (ap' (top 4))=true:=by decide +kernel
theorem or':FnScope b7' ["_law_script","_law_k"] (ad' (top 4)):=⟨rfl,rfl,rfl,by decide +kernel,rfl,by decide +kernel,by decide +kernel⟩
theorem tQ':mSs kV' ji' (ad' (top 5)) kQ' (ap' (top 5))=true:=by decide +kernel
theorem rN':FnScope kV' ["_law_script","_law_k"] (ad' (top 5)):=⟨rfl,rfl,rfl,by decide +kernel,rfl,by decide +kernel,by decide +kernel⟩
theorem rO':mSs jj' f0' (ad' (top 6)) fW' (ap' (top 6))=true:=by decide +kernel
theorem ot':FnScope jj' ["_law_box_here","_law_many_here"] (ad' (top 6)):=⟨rfl,rfl,rfl,by decide +kernel,rfl,by decide +kernel,by decide +kernel⟩
theorem rP':mSs jk' f3' (ad' (top 7)) fX' (ap' (top 7))=true:=by decide +kernel
theorem ou':FnScope jk' ["_law_box_here","_law_least","_law_few","_law_most"] (ad' (top 7)):=⟨rfl,rfl,rfl,by decide +kernel,rfl,by decide +kernel,by decide +kernel⟩
theorem jA':mSs cX' b8' (ad' (top 8)) b4' (ap' (top 8))=true:=by decide +kernel
theorem gP':FnScope cX' ["_law_box_here","_law_many_here"] (ad' (top 8)):=⟨rfl,rfl,rfl,by decide +kernel,rfl,by decide +kernel,by decide +kernel⟩
theorem rQ':mSs bl' aY' (ad' (top 9)) aH' (ap' (top 9))=true:=by decide +kernel
theorem ov':FnScope bl' ["_law_box_here","_law_many_here"] (ad' (top 9)):=⟨rfl,rfl,rfl,by decide +kernel,rfl,by decide +kernel,by decide +kernel⟩
theorem k9':mSs dU' cv' (ad' (top 10)) cu' (ap' (top 10))=true:=by decide +kernel
theorem jB':FnScope dU' ["_law_box_here","_law_machine_here"] (ad' (top 10)):=⟨rfl,rfl,rfl,by decide +kernel,rfl,by decide +kernel,by decide +kernel⟩
theorem rR':mSs jl' f4' (ad' (top 11)) fY' (ap' (top 11))=true:=by decide +kernel
theorem ox':FnScope jl' ["_law_box_here","_law_many_here"] (ad' (top 11)):=⟨rfl,rfl,rfl,by decide +kernel,rfl,by decide +kernel,by decide +kernel⟩
theorem tR':mSs n8' kW' (ad' (top 12)) kT' (ap' (top 12))=true:=by decide +kernel
theorem rS':FnScope n8' ["_law_box_here"] (ad' (top 12)):=⟨rfl,rfl,rfl,by decide +kernel,rfl,by decide +kernel,by decide +kernel⟩
theorem rT':mSs jm' f5' (ad' (top 13)) f6' (ap' (top 13))=true:=by decide +kernel
theorem oy':FnScope jm' ["_law_one","_law_other"] (ad' (top 13)):=⟨rfl,rfl,rfl,by decide +kernel,rfl,by decide +kernel,by decide +kernel⟩
theorem la':mSs dV' cw' (ad' (top 14)) cx' (ap' (top 14))=true:=by decide +kernel
theorem jC':FnScope dV' ["_law_both_here"] (ad' (top 14)):=⟨rfl,rfl,rfl,by decide +kernel,rfl,by decide +kernel,by decide +kernel⟩
theorem u7':mSs bV' bt' (ad' (top 15)) bu' (ap' (top 15))=true:=by decide +kernel
theorem tS':FnScope bV' ["_law_both_here","_law_levels","_law_a","_law_b"] (ad' (top 15)):=⟨rfl,rfl,rfl,by decide +kernel,rfl,by decide +kernel,by decide +kernel⟩
theorem tT':mSs n9' kX' (ad' (top 16)) kY' (ap' (top 16))=true:=by decide +kernel
theorem rU':FnScope n9' ["_law_box_here"] (ad' (top 16)):=⟨rfl,rfl,rfl,by decide +kernel,rfl,by decide +kernel,by decide +kernel⟩
theorem tU':mSs kZ' jn' (ad' (top 17)) k0' (ap' (top 17))=true:=by decide +kernel
theorem rV':FnScope kZ' ["_law_script"] (ad' (top 17)):=⟨rfl,rfl,rfl,by decide +kernel,rfl,by decide +kernel,by decide +kernel⟩
set_option hygiene false in
local macro_rules | `(tactic| walk_at "o") => `(tactic| (intro vs H Q E h; repeat (first | (obtain ⟨rfl, _⟩ := h; rfl) | (obtain ⟨_, h⟩ := h))))
def FnD (K:W.Frag) (x:Str) (st:Stmt):Prop:=∃(f:Addr) (fd:FuncData),W.nsIn K mainGlobals x=some (some (.ref f))/\Fun K x x st f fd
theorem a3' {K:W.Frag} {x:Str} {st:Stmt} {f:Addr} {oc:Value} {od an:Option Addr} {osl:Array (Option Value)} {kV doc pm cdv ct:Value} (a:W.nsIn K mainGlobals x=some (some (.ref f))) (l:K.lookup f=some ⟨oc,od,.func (W.fnOf x x (cc' st) (ap' st) (ad' st) .none kV doc pm an cdv ct),osl⟩) (c:W.codeIn K cdv x=true) (k:W.keepIn K (.ref f)=true):FnD K x st:=⟨f,_,a,pk' l c k⟩
theorem rW' {l:W.OpenLaw} {w:World} {K:W.Frag} {h:Heap} {mg:Str->Option Value} {fa:Addr} (X:K.In h) (G:h.Ns mainGlobals mg) (hfa:mg "law"=some (.ref fa))
  (p1:FnD K "parting_bit" (top 1))
  (p2:FnD K "apart" (top 2))
  (p3:FnD K "_law_cell_at" (top 4))
  (p4:FnD K "_law_box" (top 5))
  (p5:FnD K "_law_take" (top 6))
  (p6:FnD K "_law_many" (top 7))
  (p7:FnD K "_law_machine" (top 8))
  (p8:FnD K "_law_ring_machine" (top 9))
  (p9:FnD K "_law_copied" (top 10))
  (p10:FnD K "_law_line" (top 11))
  (p11:FnD K "_law_any" (top 12))
  (p12:FnD K "_law_both" (top 13))
  (p13:FnD K "_law_rounds" (top 14))
  (p14:FnD K "_law_first_row" (top 15))
  (p15:FnD K "_law_two" (top 16))
  (p16:FnD K "law" (top 17))
  (z1:W.nsIn K mainGlobals "~"=some none)
  (z2:W.nsIn K mainGlobals "^"=some none)
  (z3:W.nsIn K mainGlobals "%"=some none)
  (z4:W.nsIn K mainGlobals "int"=some none)
  (z5:W.nsIn K mainGlobals "len"=some none)
  (z6:W.nsIn K mainGlobals "abs"=some none)
  (z7:W.nsIn K mainGlobals "range"=some none)
  (z8:W.nsIn K mainGlobals "tuple"=some none)
  (z9:W.nsIn K mainGlobals "enumerate"=some none)
  (z10:W.nsIn K mainGlobals "list"=some none)
  (z11:W.nsIn K mainGlobals "zip"=some none)
  (z12:W.nsIn K mainGlobals "min"=some none):
  ∃fd:FuncData,(∀(s:Shared) (v:Value),BindsTo s fd ⟨[v],[]⟩ [("_law_script",v)])/\∀base:Heap,K.In base->base.Ns mainGlobals mg->FnOk l.prog w K mg base CX0 60 fa fd ["_law_script"] (jz' K):=by
 obtain⟨f1,g1,a1,F1⟩:=p1
 obtain⟨f2,g2,a2,F2⟩:=p2
 obtain⟨f3,g3,a3,F3⟩:=p3
 obtain⟨f4,g4,a4,F4⟩:=p4
 obtain⟨f5,g5,a5,F5⟩:=p5
 obtain⟨f6,g6,a6,F6⟩:=p6
 obtain⟨f7,g7,a7,F7⟩:=p7
 obtain⟨f8,g8,a8,F8⟩:=p8
 obtain⟨f9,g9,a9,F9⟩:=p9
 obtain⟨f10,g10,a10,F10⟩:=p10
 obtain⟨f11,g11,a11,F11⟩:=p11
 obtain⟨f12,g12,a12,F12⟩:=p12
 obtain⟨f13,g13,a13,F13⟩:=p13
 obtain⟨f14,g14,a14,F14⟩:=p14
 obtain⟨f15,g15,a15,F15⟩:=p15
 obtain⟨f16,g16,a16,F16⟩:=p16
 obtain⟨oc16,od16,kV16,dc16,pm16,an16,cd16,ct16,sl16,rfl,l16,c16⟩:=F16.ex
 have e:=hfa.symm.trans (W.mg_of X G a16)
 cases e
 have b1:=F1.binds (ps:=["room","other"]) fun _ _ _ _ _ _ us hl=>kM' (P:=fun us=>bindArgs _ ({ pos:=us }:Args)=pure (cr _ us)) (fun _ _=>rfl) us hl
 have m1:=W.mg_of X G a1
 have b2:=F2.binds (ps:=["one","a","other","b"]) fun _ _ _ _ _ _ us hl=>tE' (P:=fun us=>bindArgs _ ({ pos:=us }:Args)=pure (cr _ us)) (fun _ _ _ _=>rfl) us hl
 have m2:=W.mg_of X G a2
 have b3:=F3.binds (ps:=["_law_script","_law_k"]) fun _ _ _ _ _ _ us hl=>kM' (P:=fun us=>bindArgs _ ({ pos:=us }:Args)=pure (cr _ us)) (fun _ _=>rfl) us hl
 have m3:=W.mg_of X G a3
 have b4:=F4.binds (ps:=["_law_script","_law_k"]) fun _ _ _ _ _ _ us hl=>kM' (P:=fun us=>bindArgs _ ({ pos:=us }:Args)=pure (cr _ us)) (fun _ _=>rfl) us hl
 have m4:=W.mg_of X G a4
 have b5:=F5.binds (ps:=["_law_box_here","_law_many_here"]) fun _ _ _ _ _ _ us hl=>kM' (P:=fun us=>bindArgs _ ({ pos:=us }:Args)=pure (cr _ us)) (fun _ _=>rfl) us hl
 have m5:=W.mg_of X G a5
 have b6:=F6.binds (ps:=["_law_box_here","_law_least","_law_few","_law_most"]) fun _ _ _ _ _ _ us hl=>tE' (P:=fun us=>bindArgs _ ({ pos:=us }:Args)=pure (cr _ us)) (fun _ _ _ _=>rfl) us hl
 have m6:=W.mg_of X G a6
 have b7:=F7.binds (ps:=["_law_box_here","_law_many_here"]) fun _ _ _ _ _ _ us hl=>kM' (P:=fun us=>bindArgs _ ({ pos:=us }:Args)=pure (cr _ us)) (fun _ _=>rfl) us hl
 have m7:=W.mg_of X G a7
 have b8:=F8.binds (ps:=["_law_box_here","_law_many_here"]) fun _ _ _ _ _ _ us hl=>kM' (P:=fun us=>bindArgs _ ({ pos:=us }:Args)=pure (cr _ us)) (fun _ _=>rfl) us hl
 have m8:=W.mg_of X G a8
 have b9:=F9.binds (ps:=["_law_box_here","_law_machine_here"]) fun _ _ _ _ _ _ us hl=>kM' (P:=fun us=>bindArgs _ ({ pos:=us }:Args)=pure (cr _ us)) (fun _ _=>rfl) us hl
 have m9:=W.mg_of X G a9
 have b10:=F10.binds (ps:=["_law_box_here","_law_many_here"]) fun _ _ _ _ _ _ us hl=>kM' (P:=fun us=>bindArgs _ ({ pos:=us }:Args)=pure (cr _ us)) (fun _ _=>rfl) us hl
 have m10:=W.mg_of X G a10
 have b11:=F11.binds (ps:=["_law_box_here"]) fun _ _ _ _ _ _ us hl=>tD' (P:=fun us=>bindArgs _ ({ pos:=us }:Args)=pure (cr _ us)) (fun _=>rfl) us hl
 have m11:=W.mg_of X G a11
 have b12:=F12.binds (ps:=["_law_one","_law_other"]) fun _ _ _ _ _ _ us hl=>kM' (P:=fun us=>bindArgs _ ({ pos:=us }:Args)=pure (cr _ us)) (fun _ _=>rfl) us hl
 have m12:=W.mg_of X G a12
 have b13:=F13.binds (ps:=["_law_both_here"]) fun _ _ _ _ _ _ us hl=>tD' (P:=fun us=>bindArgs _ ({ pos:=us }:Args)=pure (cr _ us)) (fun _=>rfl) us hl
 have m13:=W.mg_of X G a13
 have b14:=F14.binds (ps:=["_law_both_here","_law_levels","_law_a","_law_b"]) fun _ _ _ _ _ _ us hl=>tE' (P:=fun us=>bindArgs _ ({ pos:=us }:Args)=pure (cr _ us)) (fun _ _ _ _=>rfl) us hl
 have m14:=W.mg_of X G a14
 have b15:=F15.binds (ps:=["_law_box_here"]) fun _ _ _ _ _ _ us hl=>tD' (P:=fun us=>bindArgs _ ({ pos:=us }:Args)=pure (cr _ us)) (fun _=>rfl) us hl
 have m15:=W.mg_of X G a15
 have m16:=W.mg_of X G a16
 have n1:=W.mg_none_of X G z1
 have n2:=W.mg_none_of X G z2
 have n3:=W.mg_none_of X G z3
 have n4:=W.mg_none_of X G z4
 have n5:=W.mg_none_of X G z5
 have n6:=W.mg_none_of X G z6
 have n7:=W.mg_none_of X G z7
 have n8:=W.mg_none_of X G z8
 have n9:=W.mg_none_of X G z9
 have n10:=W.mg_none_of X G z10
 have n11:=W.mg_none_of X G z11
 have n12:=W.mg_none_of X G z12
 refine⟨W.fnOf "law" "law" (cc' (top 17)) (ap' (top 17)) (ad' (top 17)) .none kV16 dc16 pm16 an16 cd16 ct16,fun s v=>.of_eq rfl,fun base _ _=>?_⟩
 have O1:=aw' (P:=l.prog) (w:=w) (mg:=mg) (base:=base) (k:=0) F1 { N:=bd',B:=aS',K:=K,fs:=a1' [] } tP' rfl aT' u6' (sp:=rC') (by walk_at "o") (a2' mN) (mC ⟨n4,mN⟩) ⟨n1,n2,n3⟩ (show tld aS'=false by decide +kernel) (show hat aS'=false by decide +kernel) rfl rfl (oe' rfl  )
 have O2:=aw' (P:=l.prog) (w:=w) (mg:=mg) (base:=base) (k:=1) F2 { N:=cW',B:=b5',K:=K,fs:=a1' [("parting_bit",rC')] } k8' rfl b6' oq' (sp:=oF') (by walk_at "o") (a2' (mC ⟨⟨_,_,_,(O1).mono (by omega),m1,F1.kp,b1⟩,mN⟩)) (mC ⟨n4,mN⟩) ⟨n1,n2,n3⟩ (show tld b5'=false by decide +kernel) (show hat b5'=false by decide +kernel) rfl rfl (of' rfl (show a1' _ "parting_bit"=some (rC') from ag') )
 have O3:=aw' (P:=l.prog) (w:=w) (mg:=mg) (base:=base) (k:=0) F3 { N:=b7',B:=bF',K:=K,fs:=a1' [] } or' rfl b3' rM' (sp:=do' K) (by walk_at "o") (a2' mN) (mC ⟨n5,mN⟩) ⟨n1,n2,n3⟩ (show tld bF'=false by decide +kernel) (show hat bF'=false by decide +kernel) rfl rfl (i6' (C:={ N:=b7',B:=bF',K:=K,fs:=a1' [] }) rfl  )
 have O4:=rv' (aw' (P:=l.prog) (w:=w) (mg:=mg) (base:=base) (k:=1) F4 { N:=kV',B:=ji',K:=K,fs:=a1' [("_law_cell_at",do' K)] } rN' rfl kQ' tQ' (sp:=i7' K) (by walk_at "o") (a2' (mC ⟨⟨_,_,_,(O3).mono (by omega),m3,F3.kp,b3⟩,mN⟩)) (mC ⟨n6,(mC ⟨n4,mN⟩)⟩) ⟨n1,n2,n3⟩ (show tld ji'=false by decide +kernel) (show hat ji'=false by decide +kernel) rfl rfl (kS' (C:={ N:=kV',B:=ji',K:=K,fs:=a1' [("_law_cell_at",do' K)] }) rfl (show a1' _ "_law_cell_at"=some (do' K) from ag') ))
 have O5:=n4' rfl (aw' (P:=l.prog) (w:=w) (mg:=mg) (base:=base) (k:=0) F5 { N:=jj',B:=f0',K:=K,fs:=a1' [] } ot' rfl fW' rO' (sp:=dT') (by walk_at "o") (a2' mN) mN ⟨n1,n2,n3⟩ (show tld f0'=false by decide +kernel) (show hat f0'=false by decide +kernel) rfl rfl (i8' rfl  ))
 have O6:=aw' (P:=l.prog) (w:=w) (mg:=mg) (base:=base) (k:=1) F6 { N:=jk',B:=f3',K:=K,fs:=a1' [("_law_take",au')] } ou' rfl fX' rP' (sp:=eF') (by walk_at "o") (a2' (mC ⟨⟨_,_,_,(O5).mono (by omega),m5,F5.kp,b5⟩,mN⟩)) mN ⟨n1,n2,n3⟩ (show tld f3'=false by decide +kernel) (show hat f3'=false by decide +kernel) rfl rfl (ja' rfl (show a1' _ "_law_take"=some (au') from ag') )
 have O7:=aw' (P:=l.prog) (w:=w) (mg:=mg) (base:=base) (k:=1) F7 { N:=cX',B:=b8',K:=K,fs:=a1' [("_law_take",au')] } gP' rfl b4' jA' (sp:=bc' 1 60 400) (by walk_at "o") (a2' (mC ⟨⟨_,_,_,(O5).mono (by omega),m5,F5.kp,b5⟩,mN⟩)) (mC ⟨n4,(mC ⟨n7,(mC ⟨n8,mN⟩)⟩)⟩) ⟨n1,n2,n3⟩ (show tld b8'=false by decide +kernel) (show hat b8'=false by decide +kernel) rfl rfl (eG' rfl (show a1' _ "_law_take"=some (au') from ag') )
 have O8:=aw' (P:=l.prog) (w:=w) (mg:=mg) (base:=base) (k:=1) F8 { N:=bl',B:=aY',K:=K,fs:=a1' [("_law_take",au')] } ov' rfl aH' rQ' (sp:=bc' 1 60 400) (by walk_at "o") (a2' (mC ⟨⟨_,_,_,(O5).mono (by omega),m5,F5.kp,b5⟩,mN⟩)) (mC ⟨n9,(mC ⟨n4,(mC ⟨n7,(mC ⟨n8,mN⟩)⟩)⟩)⟩) ⟨n1,n2,n3⟩ (show tld aY'=false by decide +kernel) (show hat aY'=false by decide +kernel) rfl rfl (jb' rfl (show a1' _ "_law_take"=some (au') from ag') )
 have O9:=aw' (P:=l.prog) (w:=w) (mg:=mg) (base:=base) (k:=1) F9 { N:=dU',B:=cv',K:=K,fs:=a1' [("_law_take",au')] } jB' rfl cu' k9' (sp:=bi') (by walk_at "o") (a2' (mC ⟨⟨_,_,_,(O5).mono (by omega),m5,F5.kp,b5⟩,mN⟩)) (mC ⟨n9,(mC ⟨n5,(mC ⟨n7,(mC ⟨n8,mN⟩)⟩)⟩)⟩) ⟨n1,n2,n3⟩ (show tld cv'=false by decide +kernel) (show hat cv'=false by decide +kernel) rfl rfl (e9' rfl (show a1' _ "_law_take"=some (au') from ag') )
 have O10:=aw' (P:=l.prog) (w:=w) (mg:=mg) (base:=base) (k:=1) F10 { N:=jl',B:=f4',K:=K,fs:=a1' [("_law_take",au')] } ox' rfl fY' rR' (sp:=bc' 1 60 400) (by walk_at "o") (a2' (mC ⟨⟨_,_,_,(O5).mono (by omega),m5,F5.kp,b5⟩,mN⟩)) (mC ⟨n10,(mC ⟨n7,(mC ⟨n8,mN⟩)⟩)⟩) ⟨n1,n2,n3⟩ (show tld f4'=false by decide +kernel) (show hat f4'=false by decide +kernel) rfl rfl (jc' rfl (show a1' _ "_law_take"=some (au') from ag') )
 have O11:=aw' (P:=l.prog) (w:=w) (mg:=mg) (base:=base) (k:=2) F11 { N:=n8',B:=kW',K:=K,fs:=a1' [("_law_take",au'),("_law_many",eF'),("_law_line",bc' 1 60 400),("_law_copied",bi'),("_law_machine",bc' 1 60 400),("_law_ring_machine",bc' 1 60 400)] } rS' rfl kT' tR' (sp:=jd') (by walk_at "o") (a2' (mC ⟨⟨_,_,_,(O5).mono (by omega),m5,F5.kp,b5⟩,(mC ⟨⟨_,_,_,(O6).mono (by omega),m6,F6.kp,b6⟩,(mC ⟨⟨_,_,_,(O10).mono (by omega),m10,F10.kp,b10⟩,(mC ⟨⟨_,_,_,(O9).mono (by omega),m9,F9.kp,b9⟩,(mC ⟨⟨_,_,_,(O7).mono (by omega),m7,F7.kp,b7⟩,(mC ⟨⟨_,_,_,(O8).mono (by omega),m8,F8.kp,b8⟩,mN⟩)⟩)⟩)⟩)⟩)⟩)) mN ⟨n1,n2,n3⟩ (show tld kW'=false by decide +kernel) (show hat kW'=false by decide +kernel) rfl rfl (kU' rfl (show a1' _ "_law_take"=some (au') from ag') (show a1' _ "_law_many"=some (eF') from((ab' (by decide +kernel)).trans ag')) (show a1' _ "_law_line"=some (bc' 1 60 400) from((ab' (by decide +kernel)).trans ((ab' (by decide +kernel)).trans ag'))) (show a1' _ "_law_copied"=some (bi') from((ab' (by decide +kernel)).trans ((ab' (by decide +kernel)).trans ((ab' (by decide +kernel)).trans ag')))) (show a1' _ "_law_machine"=some (bc' 1 60 400) from((ab' (by decide +kernel)).trans ((ab' (by decide +kernel)).trans ((ab' (by decide +kernel)).trans ((ab' (by decide +kernel)).trans ag'))))) (show a1' _ "_law_ring_machine"=some (bc' 1 60 400) from((ab' (by decide +kernel)).trans ((ab' (by decide +kernel)).trans ((ab' (by decide +kernel)).trans ((ab' (by decide +kernel)).trans ((ab' (by decide +kernel)).trans ag')))))) )
 have O12:=aw' (P:=l.prog) (w:=w) (mg:=mg) (base:=base) (k:=0) F12 { N:=jm',B:=f5',K:=K,fs:=a1' [] } oy' rfl f6' rT' (sp:=gM') (by walk_at "o") (a2' mN) (mC ⟨n5,(mC ⟨n8,mN⟩)⟩) ⟨n1,n2,n3⟩ (show tld f5'=false by decide +kernel) (show hat f5'=false by decide +kernel) rfl rfl (k3' rfl  )
 have O13:=aw' (P:=l.prog) (w:=w) (mg:=mg) (base:=base) (k:=0) F13 { N:=dV',B:=cw',K:=K,fs:=a1' [] } jC' rfl cx' la' (sp:=bM') (by walk_at "o") (a2' mN) (mC ⟨n5,(mC ⟨n7,(mC ⟨n8,mN⟩)⟩)⟩) ⟨n1,n2,n3⟩ (show tld cw'=false by decide +kernel) (show hat cw'=false by decide +kernel) rfl rfl (ff' rfl  )
 have O14:=aw' (P:=l.prog) (w:=w) (mg:=mg) (base:=base) (k:=0) F14 { N:=bV',B:=bt',K:=K,fs:=a1' [] } tS' rfl bu' u7' (sp:=oG') (by walk_at "o") (a2' mN) (mC ⟨n5,(mC ⟨n10,(mC ⟨n7,(mC ⟨n11,mN⟩)⟩)⟩)⟩) ⟨n1,n2,n3⟩ (show tld bt'=false by decide +kernel) (show hat bt'=false by decide +kernel) rfl rfl (oo' rfl  )
 have O15:=aw' (P:=l.prog) (w:=w) (mg:=mg) (base:=base) (k:=3) F15 { N:=n9',B:=kX',K:=K,fs:=a1' [("_law_any",jd'),("_law_take",au'),("_law_copied",bi')] } rU' rfl kY' tT' (sp:=gO') (by walk_at "o") (a2' (mC ⟨⟨_,_,_,(O11).mono (by omega),m11,F11.kp,b11⟩,(mC ⟨⟨_,_,_,(O5).mono (by omega),m5,F5.kp,b5⟩,(mC ⟨⟨_,_,_,(O9).mono (by omega),m9,F9.kp,b9⟩,mN⟩)⟩)⟩)) (mC ⟨n5,mN⟩) ⟨n1,n2,n3⟩ (show tld kX'=false by decide +kernel) (show hat kX'=false by decide +kernel) rfl rfl (k6' rfl (show a1' _ "_law_any"=some (jd') from ag') (show a1' _ "_law_take"=some (au') from((ab' (by decide +kernel)).trans ag')) (show a1' _ "_law_copied"=some (bi') from((ab' (by decide +kernel)).trans ((ab' (by decide +kernel)).trans ag'))) )
 exact aw' (P:=l.prog) (w:=w) (mg:=mg) (base:=base) (k:=59) F16 { N:=kZ',B:=jn',K:=K,fs:=a1' [("_law_box",i9' K),("_law_two",gO'),("_law_both",gM'),("_law_rounds",bM'),("_law_take",au'),("apart",oF'),("_law_first_row",oG')] } rV' rfl k0' tU' (sp:=jz' K) (by walk_at "o") (a2' (mC ⟨⟨_,_,_,(O4).mono (by omega),m4,F4.kp,b4⟩,(mC ⟨⟨_,_,_,(O15).mono (by omega),m15,F15.kp,b15⟩,(mC ⟨⟨_,_,_,(O12).mono (by omega),m12,F12.kp,b12⟩,(mC ⟨⟨_,_,_,(O13).mono (by omega),m13,F13.kp,b13⟩,(mC ⟨⟨_,_,_,(O5).mono (by omega),m5,F5.kp,b5⟩,(mC ⟨⟨_,_,_,(O2).mono (by omega),m2,F2.kp,b2⟩,(mC ⟨⟨_,_,_,(O14).mono (by omega),m14,F14.kp,b14⟩,mN⟩)⟩)⟩)⟩)⟩)⟩)⟩)) (mC ⟨n5,(mC ⟨n12,(mC ⟨n7,mN⟩)⟩)⟩) ⟨n1,n2,n3⟩ (show tld jn'=false by decide +kernel) (show hat jn'=false by decide +kernel) rfl rfl (k7' (C:={ N:=kZ',B:=jn',K:=K,fs:=a1' [("_law_box",i9' K),("_law_two",gO'),("_law_both",gM'),("_law_rounds",bM'),("_law_take",au'),("apart",oF'),("_law_first_row",oG')] }) rfl ⟨(show a1' _ "_law_box"=some (i9' K) from ag'),(show a1' _ "_law_two"=some (gO') from((ab' (by decide +kernel)).trans ag')),(show a1' _ "_law_both"=some (gM') from((ab' (by decide +kernel)).trans ((ab' (by decide +kernel)).trans ag'))),(show a1' _ "_law_rounds"=some (bM') from((ab' (by decide +kernel)).trans ((ab' (by decide +kernel)).trans ((ab' (by decide +kernel)).trans ag')))),(show a1' _ "_law_take"=some (au') from((ab' (by decide +kernel)).trans ((ab' (by decide +kernel)).trans ((ab' (by decide +kernel)).trans ((ab' (by decide +kernel)).trans ag'))))),(show a1' _ "apart"=some (oF') from((ab' (by decide +kernel)).trans ((ab' (by decide +kernel)).trans ((ab' (by decide +kernel)).trans ((ab' (by decide +kernel)).trans ((ab' (by decide +kernel)).trans ag')))))),(show a1' _ "_law_first_row"=some (oG') from((ab' (by decide +kernel)).trans ((ab' (by decide +kernel)).trans ((ab' (by decide +kernel)).trans ((ab' (by decide +kernel)).trans ((ab' (by decide +kernel)).trans ((ab' (by decide +kernel)).trans ag')))))))⟩ )
theorem u8' {l:W.OpenLaw} {q:Program} {loose:List Str} {XP:(Str->Option Value)->Heap->Prop} {d:DefRec} {K:Params->W.Frag} {bs:List Addr} {m t:Nat} (hn:l.most=some 63) (hdf:d.params.defaults=[]) (e:∀P,bs=(K P).map (·.1))
  (F:∀(w:World) (mg:Str->Option Value) (fa:Addr) (h:Heap),(K w.params).In h->h.Ns mainGlobals mg->mg d.name=some (.ref fa)->
   ∃fd:FuncData,(∀(s:Shared) (u:Value),BindsTo s fd ⟨[u],[]⟩ [("_law_script",u)])/\∀base:Heap,(K w.params).In base->base.Ns mainGlobals mg->FnOk l.prog w (K w.params) mg base CX0 60 fa fd ["_law_script"] (jz' (K w.params))):
  W.WalkX q loose XP (W.X.obsZ bs) (W.X.valZ K m t) l.row.toRowW d [] (fun f vs=>PySem.call f vs):=
 fun w s₀ s₁ mg mb G y a o pm cd doc dV kV h1 h2 h3 h4 h5 h6 args vals cs La=>L2.na' (YP:=fun w h=>(K w.params).In h) (n:=63) (k:=60) (x:="_law_script") (CX:=fun _=>CX0) (sp:=fun w=>jz' (K w.params)) hn (by decide) hdf ⟨rfl,by decide,by decide,rfl⟩ (fun _ _ Y=>Y) F (fun _ _ a ns hl _ hS=>⟨a,ns,rfl,hS,hl,fun _=>rfl⟩) (fun _ _ _ _ _ z=>z) w s₀ s₁ mg mb G (W.InK.keeps w _ _ (W.X.z_facts e y).2.1 La.keeps) a o pm cd doc dV kV h1 h2 h3 h4 h5 h6 args vals cs
end K13
end
open PySem PySem.W PyProof.Rows
noncomputable def PySem.W.Fast.tw4997033741814407177:Nat:=0
noncomputable def PySem.W.Fast.tw10291239913985135871:Nat:=0
noncomputable def PySem.W.Fast.tw3841028065327383317:Nat:=0
noncomputable def PySem.W.Fast.tw6968799446559613770:Nat:=0
noncomputable def PySem.W.Fast.tw7325629169132876569:Nat:=0
noncomputable def PySem.W.Fast.tw17539968451149402691:Nat:=0
noncomputable def PySem.W.Fast.tw3268083897763392810:Nat:=0
noncomputable def PySem.W.Fast.tw18179730117972507676:Nat:=0
noncomputable def PySem.W.Fast.tw14205183737924175832:Nat:=0
noncomputable def PySem.W.Fast.tw13846360490775713696:Nat:=0
noncomputable def PySem.W.Fast.tw8922358475808121585:Nat:=0
noncomputable def PySem.W.Fast.tw11865032513339283326:Nat:=0
noncomputable def PySem.W.Fast.tw2412833218509386802:Nat:=0
noncomputable def PySem.W.Fast.tw3902016067058898119:Nat:=0
noncomputable def PySem.W.Fast.tw18074122030262895866:Nat:=0
noncomputable def PySem.W.Fast.tw9582108728954917989:Nat:=0
noncomputable def PySem.W.Fast.tw4678297098824020447:Nat:=0
noncomputable def PySem.W.Fast.tw10107900434696752742:Nat:=0
noncomputable def PySem.W.Fast.tw16275405191454448835:Nat:=0
noncomputable def PySem.W.Fast.tw6001951857131743694:Nat:=0
noncomputable def PySem.W.Fast.tw10230296824388893596:Nat:=0
noncomputable def PySem.W.Fast.tw6601595377869625122:Nat:=0
noncomputable def PySem.W.Fast.tw3126238220382424932:Nat:=0
noncomputable def PySem.W.Fast.tw3543347557437945045:Nat:=0
noncomputable def PySem.W.Fast.tw15399809536150599196:Nat:=0
noncomputable def PySem.W.Fast.tw7363677567977857705:Nat:=0
noncomputable def PySem.W.Fast.tw6778415119966272356:Nat:=0
noncomputable def PySem.W.Fast.tw6191476532015631520:Nat:=0
noncomputable def PySem.W.Fast.tw14560013177872760788:Nat:=0
noncomputable def PySem.W.Fast.tw3326367966363362082:Nat:=0
set_option maxRecDepth 100000 in
set_option maxHeartbeats 0 in
theorem PySem.Challenge.cw_runbound_k13_rooms_apart_holds : PySem.Challenge.rw_runbound_k13_rooms_apart.Holds := by
 w_on; o_law; z_head; (case hw => w_witness2)
 k_fill
 refine K13.u8' (l := PySem.Challenge.rw_runbound_k13_rooms_apart) rfl rfl (fun _ => rfl) ?F
 case F =>
  intro w mg fa h KX G hmg
  refine' K13.rW' KX G hmg (K13.a3' ?a1 ?l1 ?c1 ?k1) (K13.a3' ?a2 ?l2 ?c2 ?k2) (K13.a3' ?a3 ?l3 ?c3 ?k3) (K13.a3' ?a4 ?l4 ?c4 ?k4) (K13.a3' ?a5 ?l5 ?c5 ?k5) (K13.a3' ?a6 ?l6 ?c6 ?k6) (K13.a3' ?a7 ?l7 ?c7 ?k7) (K13.a3' ?a8 ?l8 ?c8 ?k8) (K13.a3' ?a9 ?l9 ?c9 ?k9) (K13.a3' ?a10 ?l10 ?c10 ?k10) (K13.a3' ?a11 ?l11 ?c11 ?k11) (K13.a3' ?a12 ?l12 ?c12 ?k12) (K13.a3' ?a13 ?l13 ?c13 ?k13) (K13.a3' ?a14 ?l14 ?c14 ?k14) (K13.a3' ?a15 ?l15 ?c15 ?k15) (K13.a3' ?a16 ?l16 ?c16 ?k16) ?z1 ?z2 ?z3 ?z4 ?z5 ?z6 ?z7 ?z8 ?z9 ?z10 ?z11 ?z12 
  (case a1 => k_is); (case l1 => k_is); (case c1 => k_is); (case k1 => k_is)
  (case a2 => k_is); (case l2 => k_is); (case c2 => k_is); (case k2 => k_is)
  (case a3 => k_is); (case l3 => k_is); (case c3 => k_is); (case k3 => k_is)
  (case a4 => k_is); (case l4 => k_is); (case c4 => k_is); (case k4 => k_is)
  (case a5 => k_is); (case l5 => k_is); (case c5 => k_is); (case k5 => k_is)
  (case a6 => k_is); (case l6 => k_is); (case c6 => k_is); (case k6 => k_is)
  (case a7 => k_is); (case l7 => k_is); (case c7 => k_is); (case k7 => k_is)
  (case a8 => k_is); (case l8 => k_is); (case c8 => k_is); (case k8 => k_is)
  (case a9 => k_is); (case l9 => k_is); (case c9 => k_is); (case k9 => k_is)
  (case a10 => k_is); (case l10 => k_is); (case c10 => k_is); (case k10 => k_is)
  (case a11 => k_is); (case l11 => k_is); (case c11 => k_is); (case k11 => k_is)
  (case a12 => k_is); (case l12 => k_is); (case c12 => k_is); (case k12 => k_is)
  (case a13 => k_is); (case l13 => k_is); (case c13 => k_is); (case k13 => k_is)
  (case a14 => k_is); (case l14 => k_is); (case c14 => k_is); (case k14 => k_is)
  (case a15 => k_is); (case l15 => k_is); (case c15 => k_is); (case k15 => k_is)
  (case a16 => k_is); (case l16 => k_is); (case c16 => k_is); (case k16 => k_is)
  (case z1 => k_is)
  (case z2 => k_is)
  (case z3 => k_is)
  (case z4 => k_is)
  (case z5 => k_is)
  (case z6 => k_is)
  (case z7 => k_is)
  (case z8 => k_is)
  (case z9 => k_is)
  (case z10 => k_is)
  (case z11 => k_is)
  (case z12 => k_is)