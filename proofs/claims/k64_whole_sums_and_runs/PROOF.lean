import PyProof.Rows.All
import Wide.All
import OpenK.AllK
import Wide.FinOn
import Lean
import PyProof.EqAt
import PyProof.EqKinds
import PyProof.TupleCall
import PyProof.Rows.TupAdd
import PyProof.Rows.SortStr
import PyProof.Rows.SortWalk
import PyProof.CollectIter
import PyProof.Rows.Tup
import PyProof.TupleOfSeq
import PyProof.ReprRoads
import PyProof.CallStr
import PyProof.SeqRoads2
import KE.KDictList
import KE.KSortTup
import PyProof.SetRoads
import PyProof.Rows.SetFrom
import PyProof.TupleKey
import PyProof.IsRules
import PyProof.Rows.SortShell
import KE.KUnpack
import PySem.Challenge.RW_runbound_k64_whole_sums_and_runs
open PySem renaming wpAny_bind → aa,wpAny_pure → ag,wpAny_newObj_type → aI,wpAny_holding → bg,wpAny_call_entry → bo,wpAny_askSetting → bp,wpAny_truthy_bool → bv,wpAny_of_eq → bz,wpAny_setState_of → bH,wpAny_setField → bI,wpAny_standAt → bK,wpAny_callSpecial?_slot → bL,wpAny_passesOwn → cv,wpAny_field → cz,wpAny_rule → cX
open List renaming length_map → ac,getElem?_eq_getElem → af,mem_append_right → aj,size_toArray → al,length_append → ap,getElem?_map → aq,range → au,mem_range → aw,mem_cons → ax,map_append → az,mem_cons_of_mem → aB,length_take → aC,length_cons → aE,mem_cons_self → aG,map_cons → aH,getElem?_eq_none_iff → aJ,getElem?_eq_some_iff → aL,take_length → aN,not_mem_nil → aO,replicate → aP,length_range → aQ,mem_map → aR,append_assoc → aS,mem_append → aT,take_append_drop → aW,filterMap_cons → aX,zip → aY,getElem?_eq_none → ba,take_of_length_le → bb,mem_append_left → bf,mem_of_getElem? → bi,getElem?_append_left → bq,lookup_cons → bu,length_eq_zero_iff → bx,nodup_cons → bB,pairwise_iff_getElem → bD,range_succ → bE,flatten_cons → bF,ext_getElem? → bG,take_succ → bJ,length_nil → bN,pairwise_append → bP,length_drop → bQ,getElem?_append_right → bR,pairwise_lt_range → bS,replicate_succ → bT,pairwise_map → bU,getElem?_range → bW,map_congr_left → bX,any_eq_true → ci,map_map → ck,findIdx?_eq_some_iff_getElem → cm,drop_eq_getElem_cons → cn,getElem?_set_ne → cq,mem_iff_getElem → cu,getElem?_take_of_lt → cw,all_eq_true → cD,drop_of_length_le → cF,mem_singleton → cG,set_cons_zero → cI,set_cons_succ → cJ,mem_filter → cL,map_nil → cM,length_singleton → cN,find?_cons → cP,length_filter_le → cR,any_cons → cS,getElem_take → cT,getElem_drop → cU,count_le_length → cV,all_cons → cZ
open Nat renaming le_refl → ae,le_trans → ay,lt_of_lt_of_le → aD,ne_of_lt → aK,zero_le → aM,lt_irrefl → aU,lt_or_ge → bA,lt_of_le_of_lt → bM,add_mul → bO,le_of_lt_succ → bV,mul_assoc → bY,zero_mul → ce,lt_succ_of_lt → cf,one_mul → cg,le_of_lt → cj,mul_comm → cy,add_sub_cancel_left → cA,le_of_not_lt → cB,lt_succ_self → cC,mul_div_cancel → cK,mul_add → cQ,mod_eq_of_lt → cW,pow_succ → cY
open PySem.Heap renaming get?_push_of_some → ah,get?_push_size → ao,lt_size → av,get?_update_self → aV,size_push → bC,SameBut → bZ,get?_update_other → cE
open Bool renaming and_eq_true → ai,false_ne_true → am,false_eq_true → aF,not_eq_true' → bj,or_eq_true → cc
open Array renaming length_toList → ak,getElem?_eq_getElem → aA,toList_append → bm,toList_push → cx
open Int renaming toNat_natCast → aZ,emod_lt_of_pos → cH,natCast_mul → cO
set_option genSizeOf false
set_option Elab.async false
set_option compiler.extract_closed false
set_option linter.all false
set_option maxRecDepth 100000
set_option tactic.hygienic false
namespace L2
open PySem PySem.Spec PyProof.Rows
section
variable {prog:Program} {w:World} {A:Around} {E:Value->Shared->Prop} {s:Shared}
theorem ci' (s:Shared):s.TypeIs .none "NoneType":=rfl
theorem eJ' {Q:Int->Shared->Prop} (h:Q 0xFCA86420 { s with toks:=s.toks+1 }):wpAny (model prog w) A (pyHash .none) Q E s:=by
 unfold pyHash
 have hv:[Value.none].any Value.onHeap=false:=rfl
 refine aa ?_
 rw[cRoomFor,if_neg (by rw[hv];exact am)];refine ag ?_
 refine aa (wpAny_specialOf (ci' s) F.slot_NoneType_hash.lookup ?_)
 show wpAny _ _ (if(some (Value.builtin "NoneType.__hash__") == some Value.none)=true then _ else _) Q E s
 rw[if_neg (by rw[beq_builtin_none];exact am)]
 refine aa (wpAny_specialOf (ci' s) F.slot_NoneType_hash.lookup ?_)
 show wpAny _ _ (callSpecialIfBoundUnlessNone? (.none) "__hash__" _ >>= _) Q E s
 refine aa (wpAny_callSpecialIfBoundUnlessNone?_slot (ci' s) F.slot_NoneType_hash
  (bo F.slot_NoneType_hash (ci' s) F.entry_NoneType_hash
   (show wpAny _ _ (do ret (<- mkInt 0xFCA86420)) _ _ s from wpAny_ret_mkInt ?_) (F.args_NoneType_hash_1 _)))
 exact ag h
end
inductive Key where
 |inl (i:Int)|inr (x:Str)|non
 deriving DecidableEq
def ju':Key->Value->Bool
 | .inl k,v=>Value.isInt k v
 | .inr x,v=>Value.isStrOf x v
 | .non,.none=>true
 | .non,_=>false
def Al' (w:World):Key->Int
 | .inl k=>hashInt k
 | .inr x=>hashStr w x
 | .non=>0xFCA86420
theorem aN':∀{k:Key} {v:Value},ju' k v=true->(∃i t,k=Key.inl i/\v=Value.int i t)\/(∃x t,k=Key.inr x/\v=Value.str x t)\/(k=Key.non/\v=Value.none)
 | .inl i,v,h=>by
  obtain⟨t,e⟩:=Value.isInt_shape (k:=i) (v:=v) h
  exact .inl ⟨i,t,rfl,e⟩
 | .inr x,v,h=>by
  obtain⟨t,e⟩:=Value.isStrOf_shape (x:=x) (v:=v) h
  exact .inr (.inl ⟨x,t,rfl,e⟩)
 | .non,v,h=>by cases v<;>first|exact .inr (.inr ⟨rfl,rfl⟩)|cases h
theorem kc' (i:Int) (t:Tok):ju' (.inl i) (.int i t)=true:=by simp[ju',Value.isInt]
theorem kd' (x:Str) (t:Tok):ju' (.inr x) (.str x t)=true:=by simp[ju',Value.isStrOf]
theorem sR' (a b:Int):decide ((Key.inl a:Key)=Key.inl b)=(a == b):=by
 by_cases e:a=b
 .rw[e,decide_eq_true rfl,beq_self_eq_true]
 .rw[decide_eq_false (fun q=>e (Key.inl.inj q)),beq_eq_false_iff_ne.mpr e]
theorem sS' (a b:Str):decide ((Key.inr a:Key)=Key.inr b)=decide (a=b):=by
 by_cases e:a=b
 .rw[e,decide_eq_true rfl,decide_eq_true rfl]
 .rw[decide_eq_false (fun q=>e (Key.inr.inj q)),decide_eq_false e]
theorem fE' {a b:Key} (h:a≠b):decide (a=b)=false:=decide_eq_false h
def au' (prog:Program) (w:World):PySem.KeyKind prog w Key where
 is:=ju'
 hash:=Al' w
 inj:=fun v a b ha hb=>by
  rcases aN' ha with⟨i,t,rfl,rfl⟩|⟨x,t,rfl,rfl⟩|⟨rfl,rfl⟩<;>rcases aN' hb with⟨j,u,rfl,e⟩|⟨y,u,rfl,e⟩|⟨rfl,e⟩<;>
   first|rfl|(injection e with e1 _;rw[e1])|exact nomatch e
 byValue:=fun k v h=>by
  rcases aN' h with⟨i,t,rfl,rfl⟩|⟨x,t,rfl,rfl⟩|⟨rfl,rfl⟩<;>rfl
 pyHash:=fun hv h=>by
  rcases aN' hv with⟨i,t,rfl,rfl⟩|⟨x,t,rfl,rfl⟩|⟨rfl,rfl⟩
  .exact wpAny_pyHash_int h
  .exact wpAny_pyHash_str h
  .exact eJ' h
 eqBool:=fun {A E s a b u v Q} hu hv h=>by
  rcases aN' hu with⟨i,t,rfl,rfl⟩|⟨x,t,rfl,rfl⟩|⟨rfl,rfl⟩
  .rcases aN' hv with⟨j,u,rfl,rfl⟩|⟨y,u,rfl,rfl⟩|⟨rfl,rfl⟩
   .rw[sR']at h;exact wpAny_eqBool_int h
   .rw[fE' (a:=Key.inl i) (b:=Key.inr y) (fun q=>nomatch q)]at h;exact SeqAt.EqAt.int_str i t y u _ _ _ _ h
   .rw[fE' (a:=Key.inl i) (b:=Key.non) (fun q=>nomatch q)]at h;exact SeqAt.EqAt.int_none i t _ _ _ _ h
  .rcases aN' hv with⟨j,u,rfl,rfl⟩|⟨y,u,rfl,rfl⟩|⟨rfl,rfl⟩
   .rw[fE' (a:=Key.inr x) (b:=Key.inl j) (fun q=>nomatch q)]at h;exact SeqAt.EqAt.str_int x t j u _ _ _ _ h
   .rw[sS']at h;exact wpAny_eqBool_str h
   .rw[fE' (a:=Key.inr x) (b:=Key.non) (fun q=>nomatch q)]at h;exact SeqAt.EqAt.str_none x t _ _ _ _ h
  .rcases aN' hv with⟨j,u,rfl,rfl⟩|⟨y,u,rfl,rfl⟩|⟨rfl,rfl⟩
   .rw[fE' (a:=Key.non) (b:=Key.inl j) (fun q=>nomatch q)]at h;exact SeqAt.EqAt.none_int j u _ _ _ _ h
   .rw[fE' (a:=Key.non) (b:=Key.inr y) (fun q=>nomatch q)]at h;exact SeqAt.EqAt.none_str y u _ _ _ _ h
   .rw[decide_eq_true rfl]at h;exact SeqAt.EqAt.same .none _ _ _ _ h
 «strs»:=fun k x t v h=>by
  rcases aN' h with⟨i,u,rfl,e⟩|⟨y,u,rfl,e⟩|⟨rfl,e⟩
  .exact nomatch e
  .injection e with e1 _
   subst e1
   cases v<;>rfl
  .exact nomatch e
theorem h5' (prog:Program) (w:World) (i:Int) (t:Tok):(au' prog w).is (.inl i) (.int i t)=true:=kc' i t
theorem h6' (prog:Program) (w:World) (x:Str) (t:Tok):(au' prog w).is (.inr x) (.str x t)=true:=kd' x t
inductive V where
 |non|bl (b:Bool)|int (i:Int)|str (x:Str)|byt (b:Array UInt8)|flt (b:UInt64)|ref (a:Addr)|ty (n:String)
 deriving DecidableEq
def aJ':V->Value->Prop
 | .non,u=>u=Value.none
 | .bl b,u=>u=Value.bool b
 | .int i,u=>∃t,u=Value.int i t
 | .str x,u=>∃t,u=Value.str x t
 | .byt b,u=>∃t,u=Value.bytes b t
 | .flt b,u=>∃t,u=Value.float b t
 | .ref a,u=>u=Value.ref a
 | .ty n,u=>u=Value.type n
abbrev aE':List V->List Value->Prop:=Paired aJ'
theorem aE'.length {xs:List V} {us:List Value} (r:aE' xs us):xs.length=us.length:=Paired.length r
theorem aE'.get:∀{xs:List V} {us:List Value} {i:Nat} {x:V},aE' xs us->xs[i]?=some x->∃u,us[i]?=some u/\aJ' x u
 |_,_,_,_,.nil,e=>by simp at e
 |_,_,0,_,.cons r _,e=>by simp at e;subst e;exact⟨_,rfl,r⟩
 |_,_,i+1,x,.cons _ t,e=>by
  obtain⟨u,h1,h2⟩:=aE'.get (i:=i) (x:=x) t (by simpa using e)
  exact⟨u,by simpa using h1,h2⟩
theorem aE'.set {x:V} {u:Value} (r:aJ' x u):∀{xs:List V} {us:List Value} (i:Nat),aE' xs us->aE' (xs.set i x) (us.set i u)
 |_,_,_,.nil=>.nil
 |_,_,0,.cons _ t=>.cons r t
 |_,_,i+1,.cons q t=>.cons q (aE'.set r i t)
theorem aE'.append:∀{xs ys:List V} {us ws:List Value},aE' xs us->aE' ys ws->aE' (xs++ys) (us++ws)
 |_,_,_,_,.nil,s=>s
 |_,_,_,_,.cons r t,s=>.cons r (aE'.append t s)
theorem aE'.take:∀{xs:List V} {us:List Value} (n:Nat),aE' xs us->aE' (xs.take n) (us.take n)
 |_,_,0,_=>.nil
 |_,_,_+1,.nil=>.nil
 |_,_,n+1,.cons r t=>.cons r (aE'.take n t)
theorem aE'.drop:∀{xs:List V} {us:List Value} (n:Nat),aE' xs us->aE' (xs.drop n) (us.drop n)
 |_,_,0,r=>r
 |_,_,_+1,.nil=>.nil
 |_,_,n+1,.cons _ t=>aE'.drop n t
def oZ':Option V->Option Value->Prop
 |some v,some u=>aJ' v u
 |none,none=>True
 |_,_=>False
def KV {κ:Type}:List (κ×V)->List (κ×Value)->Prop:=Paired fun(p:κ×V) (q:κ×Value)=>p.1=q.1/\aJ' p.2 q.2
def kV:Key->V
 | .inl i=>.int i
 | .inr x=>.str x
 | .non=>.non
inductive HO where
 |lst (xs:List V)
 |tup (xs:List V)
 |dK (kvs:List (Key×V))|dT (kvs:List (List Key×V))
 |set (S:Int->Bool) (n:Nat)
 |ins (C dx:Addr) (fs:List (Str×V))
 |own (x:Addr)
 |xd (fs:List (Str×V))
 |met (f x:Addr)
 |rng (lo hi:Int)
 |frz (o:Obj) (u:HO)
 |tbl (ps:Array Value)
 |ext (φ:Heap->Prop)
abbrev Hp:=Addr->Option HO
def upd (H:Hp) (a:Addr) (o:HO):Hp:=fun b=>if b=a then some o else H b
theorem ad' {H:Hp} {a:Addr} {o:HO}:upd H a o a=some o:=by unfold upd;rw[if_pos rfl]
theorem af' {H:Hp} {a b:Addr} {o:HO} (h:b≠a):upd H a o b=H b:=by unfold upd;rw[if_neg h]
theorem bt' {H:Hp} {a:Addr} {o u:HO}:upd (upd H a o) a u=upd H a u:=by
 funext b;unfold upd;split<;>rfl
theorem av' {H:Hp} {a b:Addr} {o:HO} (h:H a=some o) (h':H b=none):a≠b:=by
 intro e;subst e;rw[h]at h';cases h'
def o0' (h:Heap) (a:Addr) (items:Array Value):Prop:=∃o,h.get? a=some o/\o.cls=.type "tuple"/\(∃n,o.data=.seq items n)/\o.dict=none
theorem o0'.tup {h:Heap} {a:Addr} {items:Array Value} (x:o0' h a items):IsTup h a items:=let⟨o,e,c,⟨n,d⟩,_⟩:=x;⟨o,e,c,n,d⟩
theorem o0'.new (h:Heap) (items:Array Value):o0' (h.push { cls:=.type "tuple",data:=.seq items }) h.objs.size items:=⟨_,ao _ rfl,rfl,⟨_,rfl⟩,rfl⟩
section
variable (P:Program) (w:World)
def a5' (H:Hp) (h:Heap) (a:Addr):HO->Prop
 | .lst xs=>xs.length<=sizeLine/\∃(its:List Value) (n:Nat),aE' xs its/\h.get? a=some { cls:=.type "list",data:=.seq its.toArray n }
 | .tup xs=>xs.length<=sizeLine/\∃its:List Value,aE' xs its/\o0' h a its.toArray
 | .dK kvs=>kvs.length<=sizeLine/\(a == sysModules)=false/\∃vs,KV kvs vs/\h.DictOf (au' P w) a vs
 | .dT kvs=>kvs.length<=sizeLine/\(a == sysModules)=false/\∃xs:List (List Key×Addr×Value),
   Paired (fun(p:List Key×V) (q:List Key×Addr×Value)=>p.1=q.1/\H q.2.1=some (.tup (p.1.map kV))/\aJ' p.2 q.2.2) kvs xs/\
   ∃o es ep,h.get? a=some o/\o.ExactDict/\o.data=.dict es ep/\es.toList=xs.map (entryOfKey (tupleKind (au' P w)))/\(xs.map (·.1)).Nodup
 | .set S n=>h.SetOf (intKind P w) a S n
 | .ins C dx fs=>H dx=some (.own a)/\fs.length<=1000/\dx≠a/\h.get? a=some (W.instObj C dx)/\
   ∃mA,h.Ns1 dx mA/\(∀f,oZ' (fs.lookup f) (mA f))/\PySem.Within mA (fs.map (·.1))
 | .own _=>∃o,h.get? a=some o
 | .xd fs=>∃mA,h.Ns1 a mA/\∀f,oZ' (fs.lookup f) (mA f)
 | .rng lo hi=>∃t u v,h.get? a=some { cls:=.type "range",data:=.fields #[.int lo t,.int hi u,.int 1 v] }
 | .frz o u=>h.get? a=some o/\a5' H h a u
 | .tbl ps=>h.get? a=some { cls:=.none,data:=.fields ps }
 | .met f x=>h.get? a=some (W.methodObj (.ref f) (.ref x))
 | .ext φ=>φ h/\(∃o,h.get? a=some o)/\∀h1 h2:Heap,φ h1->(∀o,h1.get? a=some o->h2.get? a=some o)->φ h2
def HOk (H:Hp) (h:Heap):Prop:=∀a o,H a=some o->a5' P w H h a o
end
section
variable {P:Program} {w:World} {H H':Hp} {h h':Heap} {a:Addr} {o:HO}
theorem a5'.lt (x:a5' P w H h a o):a<h.objs.size:=by
 cases o with
 |lst xs=>obtain⟨_,_,_,_,e⟩:=x;exact av e
 |tup xs=>obtain⟨_,_,_,p⟩:=x;exact p.tup.lt
 |dK kvs=>obtain⟨_,_,_,_,o,_,_,e,_⟩:=x;exact av e
 |dT kvs=>obtain⟨_,_,_,_,o,_,_,e,_⟩:=x;exact av e
 |set S n=>obtain⟨o,_,_,_,e,_⟩:=x;exact av e
 |ins C dx fs=>obtain⟨_,_,_,e,_⟩:=x;exact av e
 |own y=>obtain⟨_,e⟩:=x;exact av e
 |xd fs=>obtain⟨_,⟨_,_,_,e,_⟩,_⟩:=x;exact av e
 |rng lo hi=>obtain⟨_,_,_,e⟩:=x;exact av e
 |frz ob u=>obtain⟨e,_⟩:=x;exact av e
 |tbl ps=>exact av (show h.get? a=some _ from x)
 |met f y=>exact av (show h.get? a=some _ from x)
 |ext φ=>obtain⟨_,⟨_,e⟩,_⟩:=x;exact av e
theorem Paired.mapP {α β:Type} {F G:α->β->Prop}:∀{l₁:List α} {l₂:List β},Paired F l₁ l₂->(∀a b,F a b->G a b)->Paired G l₁ l₂
 |_,_,.nil,_=>.nil
 |_,_,.cons r t,f=>.cons (f _ _ r) (Paired.mapP t f)
theorem a5'.stay (x:a5' P w H h a o) (k:∀b u,(b=a\/H b=some (.own a))->h.get? b=some u->h'.get? b=some u)
  (ho:∀b,H b=some (.own a)->H' b=some (.own a)) (ht:∀b xs,H b=some (.tup xs)->H' b=some (.tup xs)):a5' P w H' h' a o:=by
 induction o with
 |lst xs=>obtain⟨z,its,n,r,e⟩:=x;exact⟨z,its,n,r,k _ _ (.inl rfl) e⟩
 |tup xs=>obtain⟨z,its,r,ob,e,c⟩:=x;exact⟨z,its,r,ob,k _ _ (.inl rfl) e,c⟩
 |dK kvs=>obtain⟨z,y,vs,r,ob,es,ep,e,c⟩:=x;exact⟨z,y,vs,r,ob,es,ep,k _ _ (.inl rfl) e,c⟩
 |dT kvs=>
  obtain⟨z,y,xs,r,ob,es,ep,e,c⟩:=x
  exact⟨z,y,xs,Paired.mapP r fun p q z=>⟨z.1,ht _ _ z.2.1,z.2.2⟩,ob,es,ep,k _ _ (.inl rfl) e,c⟩
 |set S n=>obtain⟨ob,es,ep,t,e,c⟩:=x;exact⟨ob,es,ep,t,k _ _ (.inl rfl) e,c⟩
 |ins C dx fs=>
  obtain⟨d,z,ne,e,mA,⟨od,es,ep,e2,c⟩,r⟩:=x
  exact⟨ho _ d,z,ne,k _ _ (.inl rfl) e,mA,⟨od,es,ep,k _ _ (.inr d) e2,c⟩,r⟩
 |own y=>obtain⟨ob,e⟩:=x;exact⟨ob,k _ _ (.inl rfl) e⟩
 |xd fs=>obtain⟨mA,⟨od,es,ep,e,c⟩,r⟩:=x;exact⟨mA,⟨od,es,ep,k _ _ (.inl rfl) e,c⟩,r⟩
 |rng lo hi=>obtain⟨t,u,v,e⟩:=x;exact⟨t,u,v,k _ _ (.inl rfl) e⟩
 |frz ob u ih=>obtain⟨e,q⟩:=x;exact⟨k _ _ (.inl rfl) e,ih q⟩
 |tbl ps=>
  have e:h.get? a=some { cls:=.none,data:=.fields ps }:=x
  show h'.get? a=some { cls:=.none,data:=.fields ps }
  exact k a _ (.inl rfl) e
 |met f y=>
  have e:h.get? a=some (W.methodObj (.ref f) (.ref y)):=x
  show h'.get? a=some (W.methodObj (.ref f) (.ref y))
  exact k a _ (.inl rfl) e
 |ext φ=>obtain⟨p,⟨o,e⟩,st⟩:=x;exact⟨st _ _ p fun o q=>k _ _ (.inl rfl) q,⟨o,k _ _ (.inl rfl) e⟩,st⟩
theorem HOk.lt (x:HOk P w H h) (e:H a=some o):a<h.objs.size:=(x a o e).lt
theorem HOk.fresh (x:HOk P w H h) (e:h.objs.size<=a):H a=none:=by
 cases q:H a with
 |none=>rfl
 |some u=>exact absurd (aD (x.lt q) e) (aU _)
theorem HOk.kept (x:HOk P w H h) (k:∀b u,h.get? b=some u->h'.get? b=some u):HOk P w H h':=fun a o e=>
 (x a o e).stay (fun b u _ q=>k b u q) (fun _ q=>q) fun _ _ q=>q
theorem HOk.laid (x:HOk P w H h) (k:∀b u,h.get? b=some u->h'.get? b=some u) (hp:h.objs.size<=a) (new:a5' P w (upd H a o) h' a o):HOk P w (upd H a o) h':=fun b u e=>by
 have hn:=x.fresh hp
 by_cases hb:b=a
 .subst hb;rw[ad']at e;cases e;exact new
 .rw[af' hb]at e
  exact(x b u e).stay (fun c v _ q=>k c v q) (fun c q=>by rw[af' (av' q hn)];exact q) fun c xs q=>by rw[af' (av' q hn)];exact q
end
def Rd (H:Hp) (a:Addr) (u:HO):Prop:=H a=some u\/∃o,H a=some (.frz o u)
theorem Rd.ok {P:Program} {w:World} {H:Hp} {h:Heap} {a:Addr} {u:HO} (r:Rd H a u) (x:HOk P w H h):a5' P w H h a u:=by
 rcases r with r|⟨o,r⟩
 .exact x a u r
 .obtain⟨_,q⟩:=x a _ r
  exact q
def Mut:Option HO->Prop
 |some (.lst _)=>True
 |some (.dK _)=>True
 |some (.dT _)=>True
 |some (.set _ _)=>True
 |some (.ins _ _ _)=>True
 |some (.ext _)=>True
 |_=>False
section
variable {P:Program} {w:World} {H:Hp} {h h':Heap} {x e:Addr} {o':HO}
theorem HOk.write (ok:HOk P w H h) (mu:Mut (H x)) (he:e=x\/H e=some (.own x)) (k:∀b u,b≠e->h.get? b=some u->h'.get? b=some u) (heo:∃u,h'.get? e=some u)
  (new:a5' P w (upd H x o') h' x o'):HOk P w (upd H x o') h':=fun b u q=>by
 have nown:∀c y,H c=some (.own y)->c≠x:=fun c y r z=>by subst z;rw[r]at mu;exact mu
 have ntup:∀c xs,H c=some (.tup xs)->c≠x:=fun c xs r z=>by subst z;rw[r]at mu;exact mu
 by_cases hb:b=x
 .subst hb;rw[ad']at q;cases q;exact new
 .rw[af' hb]at q
  by_cases hbe:b=e
  .have q':H b=some (.own x):=by
    rcases he with z|z
    .exact absurd (hbe.trans z) hb
    .rw[hbe];exact z
   rw[q]at q';cases q'
   obtain⟨v,hv⟩:=heo
   exact⟨v,by rw[hbe];exact hv⟩
  .refine(ok b u q).stay (fun c v hc r=>k c v ?_ r) (fun c r=>by rw[af' (nown c b r)];exact r) fun c xs r=>by rw[af' (ntup c xs r)];exact r
   rcases hc with rfl|hc
   .exact hbe
   .rintro rfl
    rcases he with z|z
    .exact nown c b hc z
    .rw[hc]at z;cases z;exact hb rfl
end
structure Un (fs ex:List Addr) (H H':Hp) (h h':Heap):Prop where
 keep:∀b o,h.get? b=some o->H b=none->b∉fs->b∉ex->h'.get? b=some o
 slot:∀b o,h.get? b=some o->H b=none->b∈fs->b∉ex->∃sl,h'.get? b=some { o with slots:=sl }
 free:∀b o,h.get? b=some o->H b=none->b∉ex->H' b=none
 there:∀b o,h.get? b=some o->b∉ex->∃o',h'.get? b=some o'
 tups:∀b xs,H b=some (.tup xs)->H' b=some (.tup xs)
 frzs:∀b o u,H b=some (.frz o u)->H' b=some (.frz o u)
 tbls:∀b ps,H b=some (.tbl ps)->∃more,H' b=some (.tbl (ps++more))
section
variable {fs fs' ex ex':List Addr} {H H1 H2:Hp} {h h1 h2 h':Heap} {a x e:Addr} {o:HO}
theorem Un.any (u:Un fs ex H H1 h h1) {b:Addr} {ob:Obj} (q:h.get? b=some ob) (n:H b=none) (hx:b∉ex):∃sl,h1.get? b=some { ob with slots:=sl }:=by
 by_cases hb:b∈fs
 .exact u.slot b ob q n hb hx
 .exact⟨ob.slots,u.keep b ob q n hb hx⟩
theorem Un.kept (k:∀b u,h.get? b=some u->h'.get? b=some u):Un fs ex H H h h':=
 ⟨fun b ob q _ _ _=>k b ob q,fun b ob q _ _ _=>⟨ob.slots,k b ob q⟩,fun _ _ _ n _=>n,fun b ob q _=>⟨ob,k b ob q⟩,fun _ _ q=>q,fun _ _ _ q=>q,fun _ ps q=>⟨#[],by rw[q];simp⟩⟩
theorem Un.refl:Un fs ex H H h h:=Un.kept fun _ _ q=>q
theorem Un.laid (k:∀b u,h.get? b=some u->h'.get? b=some u) (hp:h.objs.size<=a) (hn:H a=none):Un fs ex H (upd H a o) h h' where
 keep:=fun b u q _ _ _=>k b u q
 slot:=fun b u q _ _ _=>⟨u.slots,k b u q⟩
 free:=fun b u q n _=>by rw[af' (aK (aD (av q) hp))];exact n
 there:=fun b u q _=>⟨u,k b u q⟩
 tups:=fun b xs q=>by rw[af' (av' q hn)];exact q
 frzs:=fun b u xs q=>by rw[af' (av' q hn)];exact q
 tbls:=fun b ps q=>⟨#[],by rw[af' (av' q hn),q];simp⟩
theorem Un.write (mu:Mut (H x)) (he:e=x\/H e=some (.own x)) (k:∀b u,b≠e->h.get? b=some u->h'.get? b=some u) (heo:∃u,h'.get? e=some u):Un fs ex H (upd H x o) h h':=by
 have hx:∀b,H b=none->b≠x:=fun b n z=>by subst z;rw[n]at mu;exact mu
 have hb:∀b,H b=none->b≠e:=fun b n z=>by
  subst z
  rcases he with r|r
  .exact hx b n r
  .rw[n]at r;cases r
 have hm:∀b u,H b=some u->¬Mut (some u)->b≠x:=fun b u q nm z=>by subst z;rw[q]at mu;exact nm mu
 refine⟨fun b u q n _ _=>k b u (hb b n) q,fun b u q n _ _=>⟨u.slots,k b u (hb b n) q⟩,fun b u q n _=>by rw[af' (hx b n)];exact n,fun b u q _=>?_,
  fun b xs q=>by rw[af' (hm b _ q fun z=>z)];exact q,fun b u xs q=>by rw[af' (hm b _ q fun z=>z)];exact q,fun b ps q=>⟨#[],by rw[af' (hm b _ q fun z=>z),q];simp⟩⟩
 by_cases hbe:b=e
 .subst hbe;exact heo
 .exact⟨u,k b u hbe q⟩
end
def trk (h:Heap) (H:Hp):List Addr:=(au h.objs.size).filter fun a=>(H a).isSome
def m1' (h:Heap) (H:Hp):Heap:=W.hideAll h (trk h H)
theorem ke' (h:Heap) (H:Hp):(m1' h H).objs.size=h.objs.size:=W.hideAll_size _ _
theorem m2' {h:Heap} {H:Hp} {b:Addr} {o:Obj} (e:h.get? b=some o) (n:H b=none):(m1' h H).get? b=some o:=
 W.hideAll_get _ e fun hm=>by
  have q:(H b).isSome=true:=(cL.mp hm).2
  rw[n]at q;simp at q
theorem pU' {h:Heap} {H:Hp} {b:Addr} {o:Obj} (e:(m1' h H).get? b=some o):h.get? b=some o/\H b=none:=by
 have e':h.get? b=some o:=W.of_hideAll (trk h H) e
 refine⟨e',?_⟩
 cases q:H b with
 |none=>rfl
 |some x=>
  have hm:b∈trk h H:=cL.mpr ⟨aw.mpr (av e'),by simp[q]⟩
  have z:(m1' h H).get? b=none:=W.hideAll_none (trk h H) hm
  rw[z]at e;cases e
def pV' (g h:Heap) (L:Addr):List (Addr×Obj):=(au h.objs.size).filterMap fun a=>if a=L\/(g.get? a).isSome=true then none else(h.get? a).map fun o=>(a,o)
def ax' (g h:Heap) (L d:Addr):List (Addr×Obj):=(pV' g h L).filter fun p=>decide (p.1≠d)
structure Mod (K:W.Frag) (mg:Str->Option Value) (base:Heap):Prop where
 kin:K.In base
 glob:base.Ns mainGlobals mg
 blt:∃mb,base.Ns builtinsNs mb/\∀x:Str,x≠"__name__"->mb x=bootBuiltins x
 nolimit:base.NoLimit
set_option genInjectivity false
structure Cx where
 prog:Program
 w:World
 K:W.Frag
 mg:Str->Option Value
 base:Heap
 A:Around
 N:List Str
 s₀:Shared
 H₀:Hp
 env:Env
 outer:List Env
 stack:List Env
 ex:List Addr
 fn:Str->Bool
 calm:Bool
 pn:List (Addr×Obj)
 xe:Value->Shared->Prop
set_option genInjectivity true
def frs (l:List Env):List Addr:=l.filterMap (·.frame)
abbrev Cx.fs (X:Cx):List Addr:=frs X.outer
def Vis (sc:Scope) (x:Str):Prop:=sc.names.lookup x=some .local\/sc.names.lookup x=some .cell\/sc.names.lookup x=some .free
def Loc (sc:Scope) (x:Str):Prop:=sc.names.lookup x=some .local\/sc.names.lookup x=some .cell
def Am' (env:Env) (h:Heap) (m:Str->Option Value) (x:Str) (u:Value):Prop:=
 (env.kindOf x=some .local/\m x=some u)\/((env.kindOf x=some .cell\/env.kindOf x=some .free)/\∃c,env.cells.lookup x=some c/\h.IsCell c (some u))
structure Cx.Ok (X:Cx):Prop where
 mod:Mod X.K X.mg X.base
 kind:X.env.scope.kind=.function
 glob:X.env.globals=mainGlobals
 blt:X.env.builtins=builtinsNs
 above:X.s₀.heap.objs.size<=X.env.locals
 inj:∀x y c,X.env.cells.lookup x=some c->X.env.cells.lookup y=some c->x=y
 has:∀x,(X.env.kindOf x=some .cell\/X.env.kindOf x=some .free)->∃c,X.env.cells.lookup x=some c
 cab:∀x c,X.fn x=true->X.env.cells.lookup x=some c->X.s₀.heap.objs.size<=c
 hd:X.calm=true->X.A.handled=none
 frames:X.A.frames=some X.stack
 stk:X.stack=X.outer\/(X.stack=X.env :: X.outer/\X.env.frame=some X.env.locals)
 exf:∀b∈X.ex,b≠X.env.locals/\∀x c,X.env.cells.lookup x=some c->c≠b
 bs:∀b o,X.base.get? b=some o->X.s₀.heap.get? b=some o/\X.H₀ b=none
 bsz:X.base.objs.size<=X.s₀.heap.objs.size
 noex:∀b o,X.base.get? b=some o->b∉X.ex
 exfs:∀b∈X.ex,b∉X.fs
 funs:X.s₀.heap.FunFrames X.base X.outer
 frf:∀b∈X.fs,X.H₀ b=none
structure Inv (X:Cx) (pins:List (Addr×Obj)) (σ:List (Option V)) (H:Hp) (s:Shared):Prop where
 ok:X.Ok
 os:s.os=X.s₀.os
 bare:AllBare s.gens
 base:Un X.fs X.ex X.H₀ H X.s₀.heap s.heap
 loc:∃m,s.heap.Ns X.env.locals m/\∀(i:Nat) (x:Str) (v:V),X.N[i]?=some x->σ[i]?=some (some v)->Vis X.env.scope x->∃u,aJ' v u/\Am' X.env s.heap m x u
 cell:∀x c,X.env.cells.lookup x=some c->∃v,s.heap.IsCell c v
 free:H X.env.locals=none
 freeC:∀x c,X.env.cells.lookup x=some c->H c=none
 pin:∀p∈X.pn++pins,s.heap.get? p.1=some p.2/\H p.1=none/\p.1≠X.env.locals/\p.1∉X.fs/\∀v,p.2.data≠.cell v
 hok:HOk X.prog X.w H s.heap
 len:σ.length=X.N.length
section
variable {X:Cx} {pins:List (Addr×Obj)} {σ:List (Option V)} {H H':Hp} {s:Shared} {h':Heap}
theorem Cx.Ok.nofr (ok:X.Ok) {b:Addr} {o:Obj} (e:X.base.get? b=some o):b∉X.fs:=fun hb=>by
 have:=(ok.funs.mem hb).1
 rw[e]at this;cases this
theorem Inv.bs (I:Inv X pins σ H s):∀b o,X.base.get? b=some o->s.heap.get? b=some o/\H b=none:=fun b o e=>
 ⟨I.base.keep b o (I.ok.bs b o e).1 (I.ok.bs b o e).2 (I.ok.nofr e) (I.ok.noex b o e),I.base.free b o (I.ok.bs b o e).1 (I.ok.bs b o e).2 (I.ok.noex b o e)⟩
theorem Inv.bk (I:Inv X pins σ H s):∀b o,X.base.get? b=some o->s.heap.get? b=some o:=fun b o e=>(I.bs b o e).1
theorem Inv.mod (I:Inv X pins σ H s):Mod X.K X.mg X.base:=I.ok.mod
theorem Inv.kIn (I:Inv X pins σ H s):X.K.In s.heap:=I.ok.mod.kin.keeps I.bk
theorem Inv.fr (I:Inv X pins σ H s):∃m,Fr X.base X.env.locals s.heap m:=
 let⟨m,hn,_⟩:=I.loc
 ⟨m,hn,I.bk,ay I.ok.bsz I.ok.above⟩
theorem Inv.lt (I:Inv X pins σ H s):X.env.locals<s.heap.objs.size:=let⟨_,hn,_⟩:=I.loc;hn.lt
theorem Inv.sz (I:Inv X pins σ H s):X.s₀.heap.objs.size<=s.heap.objs.size:=ay I.ok.above (cj I.lt)
theorem Inv.nofs (I:Inv X pins σ H s) {a:Addr} (h:s.heap.objs.size<=a):a∉X.fs:=fun hb=>by
 obtain⟨_,o,ho,_⟩:=I.ok.funs.mem hb
 exact absurd (aD (av ho) (ay I.sz h)) (aU _)
theorem Inv.cne (I:Inv X pins σ H s):∀x c,X.env.cells.lookup x=some c->c≠X.env.locals:=fun x c e z=>by
 obtain⟨v,o,ho,hd⟩:=I.cell x c e
 obtain⟨m,⟨o',es,ep,ho',hd',_⟩,_⟩:=I.loc
 rw[z,ho']at ho;cases ho;rw[hd']at hd;cases hd
theorem Inv.funs (I:Inv X pins σ H s):s.heap.FunFrames X.base X.outer:=by
 have all:∀(l:List Env),(∀b∈frs l,b∈X.fs)->X.s₀.heap.FunFrames X.base l->s.heap.FunFrames X.base l:=by
  intro l
  induction l with
  |nil=>intro _ _;trivial
  |cons env r ih=>
   intro hs hl
   obtain⟨hk,⟨L,o,hf,hn,ho,hd⟩,hr⟩:=hl
   have hL:L∈X.fs:=hs L (by unfold frs;rw[aX,hf];exact aG)
   obtain⟨sl,e⟩:=I.base.slot L o ho (I.ok.frf L hL) hL fun z=>I.ok.exfs L z hL
   exact⟨hk,⟨L,_,hf,hn,e,hd⟩,ih (fun b hb=>hs b (by unfold frs;rw[aX,hf];exact aB _ hb)) hr⟩
 exact all X.outer (fun _ hb=>hb) I.ok.funs
theorem Inv.stack (I:Inv X pins σ H s):s.heap.FunFrames X.base X.stack:=by
 rcases I.ok.stk with e|⟨e,hf⟩
 .rw[e];exact I.funs
 .rw[e]
  obtain⟨m,hn,_⟩:=I.loc
  refine .cons (by rw[I.ok.kind];decide) hf hn ?_ I.funs
  exact Heap.get?_none_of_le (ay I.ok.bsz I.ok.above)
theorem Inv.stkSub (I:Inv X pins σ H s):∀b∈frs X.stack,b∈X.env.locals :: X.fs:=fun b hb=>by
 rcases I.ok.stk with e|⟨e,hf⟩
 .rw[e]at hb;exact aB _ hb
 .rw[e]at hb
  unfold frs at hb
  rw[aX,hf]at hb
  exact hb
theorem Inv.stkFree (I:Inv X pins σ H s):∀b∈frs X.stack,H b=none:=fun b hb=>by
 rcases ax.mp (I.stkSub b hb)with e|hb
 .rw[e];exact I.free
 .obtain⟨_,o,ho,_⟩:=I.ok.funs.mem hb
  exact I.base.free b o ho (I.ok.frf b hb) fun z=>I.ok.exfs b z hb
theorem Inv.step {g':Array GenState} {t':Nat} {d':Drawn} {ch:List Addr} (I:Inv X pins σ H s)
  (hch:∀b∈ch,(b∈X.ex\/X.s₀.heap.objs.size<=b)/\b≠X.env.locals/\(∀x c,X.env.cells.lookup x=some c->c≠b)/\∀p∈X.pn++pins,p.1≠b)
  (keep:∀b o,b≠X.env.locals->b∉X.fs->b∉ch->s.heap.get? b=some o->H b=none->h'.get? b=some o)
  (slot:∀b o,b≠X.env.locals->b∈X.fs->b∉ch->s.heap.get? b=some o->H b=none->∃sl,h'.get? b=some { o with slots:=sl }) (free:∀b o,b∉ch->s.heap.get? b=some o->H b=none->H' b=none)
  (there:∀b o,b∉ch->s.heap.get? b=some o->∃o',h'.get? b=some o')
  (tups:∀b xs,H b=some (.tup xs)->H' b=some (.tup xs)) (frzs:∀b o u,H b=some (.frz o u)->H' b=some (.frz o u)) (tbls:∀b ps,H b=some (.tbl ps)->∃more,H' b=some (.tbl (ps++more)))
  (ns:∀m,s.heap.Ns X.env.locals m->h'.Ns X.env.locals m) (hok:HOk X.prog X.w H' h') (hg:AllBare g'):
  Inv X pins σ H' { s with heap:=h',gens:=g',drawn:=d',toks:=t' }:=by
 have neL:∀b o,X.s₀.heap.get? b=some o->b≠X.env.locals:=fun b o e=>aK (aD (av e) I.ok.above)
 have neC:∀b o,X.s₀.heap.get? b=some o->b∉X.ex->b∉ch:=fun b o e hx hb=>by
  rcases(hch b hb).1 with z|z
  .exact hx z
  .exact absurd (aD (av e) z) (aU _)
 have cellK:∀x c,X.env.cells.lookup x=some c->∀v,s.heap.IsCell c v->h'.IsCell c v:=fun x c e v ⟨o,ho,hd⟩=>by
  have nch:c∉ch:=fun z=>(hch c z).2.2.1 x c e rfl
  by_cases hc:c∈X.fs
  .obtain⟨sl,q⟩:=slot c o (I.cne x c e) hc nch ho (I.freeC x c e)
   exact⟨_,q,hd⟩
  .exact⟨o,keep c o (I.cne x c e) hc nch ho (I.freeC x c e),hd⟩
 refine⟨I.ok,I.os,hg,⟨fun b o e n hb hx=>?_,fun b o e n hb hx=>?_,fun b o e n hx=>?_,fun b o e hx=>?_,fun b xs e=>tups b xs (I.base.tups b xs e),fun b o xs e=>frzs b o xs (I.base.frzs b o xs e),fun b ps e=>?_⟩,?_,fun x c e=>?_,?_,fun x c e=>?_,fun p hp=>?_,hok,I.len⟩
 .exact keep b o (neL b o e) hb (neC b o e hx) (I.base.keep b o e n hb hx) (I.base.free b o e n hx)
 .obtain⟨sl,e1⟩:=I.base.slot b o e n hb hx
  obtain⟨sl',e2⟩:=slot b _ (neL b o e) hb (neC b o e hx) e1 (I.base.free b o e n hx)
  exact⟨sl',e2⟩
 .obtain⟨o',e1⟩:=I.base.there b o e hx
  exact free b o' (neC b o e hx) e1 (I.base.free b o e n hx)
 .obtain⟨o',e1⟩:=I.base.there b o e hx
  exact there b o' (neC b o e hx) e1
 .obtain⟨m1,e1⟩:=I.base.tbls b ps e
  obtain⟨m2,e2⟩:=tbls b _ e1
  exact⟨m1++m2,by rw[e2,Array.append_assoc]⟩
 .obtain⟨m,hn,hl⟩:=I.loc
  refine⟨m,ns m hn,fun i x v e1 e2 e3=>?_⟩
  obtain⟨u,r,l⟩:=hl i x v e1 e2 e3
  refine⟨u,r,?_⟩
  rcases l with l|⟨k,c,e,z⟩
  .exact .inl l
  .exact .inr ⟨k,c,e,cellK x c e _ z⟩
 .obtain⟨v,z⟩:=I.cell x c e
  exact⟨v,cellK x c e v z⟩
 .obtain⟨m,⟨o,_,_,ho,_⟩,_⟩:=I.loc
  exact free _ o (fun z=>(hch _ z).2.1 rfl) ho I.free
 .obtain⟨v,o,ho,hd⟩:=I.cell x c e
  exact free c o (fun z=>(hch c z).2.2.1 x c e rfl) ho (I.freeC x c e)
 .obtain⟨e,n,ne,nf,d⟩:=I.pin p hp
  have nch:p.1∉ch:=fun z=>(hch p.1 z).2.2.2 p hp rfl
  exact⟨keep p.1 p.2 ne nf nch e n,free p.1 p.2 nch e n,ne,nf,d⟩
theorem Inv.un {t':Nat} (I:Inv X pins σ H s) (u:Un X.fs [] H H' s.heap h') (hok:HOk X.prog X.w H' h'):Inv X pins σ H' { s with heap:=h',toks:=t' }:=by
 obtain⟨m,⟨o,es,ep,ho,r⟩,_⟩:=id I.loc
 obtain⟨sl,hL⟩:=u.any ho I.free (by simp)
 exact I.step (g':=s.gens) (d':=s.drawn) (ch:=[]) (fun _ z=>nomatch z) (fun b o _ hb _ e n=>u.keep b o e n hb (by simp)) (fun b o _ hb _ e n=>u.slot b o e n hb (by simp)) (fun b o _ e n=>u.free b o e n (by simp)) (fun b o _ e=>u.there b o e (by simp)) u.tups u.frzs u.tbls (fun m' hm=>by
  obtain⟨o',es',ep',ho',r'⟩:=hm
  rw[ho]at ho';cases ho'
  exact⟨_,es',ep',hL,r'⟩) hok I.bare
theorem Inv.call {g':Array GenState} {t':Nat} {d':Drawn} {ch:List Addr} (I:Inv X pins σ H s) (u:Un (frs X.stack) ch H H' s.heap h') (hok:HOk X.prog X.w H' h') (hg:AllBare g')
  (hch:∀b∈ch,(b∈X.ex\/X.s₀.heap.objs.size<=b)/\b≠X.env.locals/\(∀x c,X.env.cells.lookup x=some c->c≠b)/\∀p∈X.pn++pins,p.1≠b):
  Inv X pins σ H' { s with heap:=h',gens:=g',drawn:=d',toks:=t' }:=by
 obtain⟨m,⟨o,es,ep,ho,r⟩,_⟩:=id I.loc
 obtain⟨sl,hL⟩:=u.any ho I.free fun z=>(hch _ z).2.1 rfl
 exact I.step (ch:=ch) hch (fun b o hL hb hc e n=>u.keep b o e n (fun z=>(ax.mp (I.stkSub b z)).elim hL hb) hc) (fun b o _ _ hc e n=>u.any e n hc) (fun b o hc e n=>u.free b o e n hc) (fun b o hc e=>u.there b o e hc) u.tups u.frzs u.tbls (fun m' hm=>by
  obtain⟨o',es',ep',ho',r'⟩:=hm
  rw[ho]at ho';cases ho'
  exact⟨_,es',ep',hL,r'⟩) hok hg
theorem Inv.turned {t':Nat} {it:Addr} (I:Inv X pins σ H s) (k:∀b o,b≠it->s.heap.get? b=some o->h'.get? b=some o) (hn:H it=none) (hL:it≠X.env.locals)
  (h1:it∈X.ex\/X.s₀.heap.objs.size<=it) (h2:∀x c,X.env.cells.lookup x=some c->c≠it) (h3:∀p∈X.pn++pins,p.1≠it):Inv X pins σ H { s with heap:=h',toks:=t' }:=by
 have nit:∀b u,H b=some u->b≠it:=fun b u e z=>by rw[z,hn]at e;cases e
 refine I.step (g':=s.gens) (d':=s.drawn) (ch:=[it]) (fun b hb=>?_) (fun b o _ _ hc e _=>k b o (fun z=>hc (by simp[z])) e) (fun b o _ _ hc e _=>⟨o.slots,k b o (fun z=>hc (by simp[z])) e⟩) (fun _ _ _ _ n=>n)
  (fun b o hc e=>⟨o,k b o (fun z=>hc (by simp[z])) e⟩) (fun _ _ e=>e) (fun _ _ _ e=>e) (fun b ps e=>⟨#[],by rw[e];simp⟩) (fun m hm=>?_) (fun b u e=>?_) I.bare
 .have e:b=it:=by simpa using hb
  subst e
  exact⟨h1,hL,h2,h3⟩
 .obtain⟨o,es,ep,ho,r⟩:=hm
  exact⟨o,es,ep,k _ o (Ne.symm hL) ho,r⟩
 .refine(I.hok b u e).stay (fun c v hc q=>k c v ?_ q) (fun _ q=>q) fun _ _ q=>q
  rcases hc with z|z
  .rw[z];exact nit b u e
  .exact nit c _ z
theorem Inv.tok (I:Inv X pins σ H s) (t:Nat):Inv X pins σ H { s with toks:=t }:=I.un (h':=s.heap) (t':=t) Un.refl I.hok
theorem Inv.kept {t':Nat} (I:Inv X pins σ H s) (k:∀b u,s.heap.get? b=some u->h'.get? b=some u):Inv X pins σ H { s with heap:=h',toks:=t' }:=I.un (Un.kept k) (I.hok.kept k)
theorem Inv.laid {a:Addr} {o:HO} {t':Nat} (I:Inv X pins σ H s) (k:∀b u,s.heap.get? b=some u->h'.get? b=some u) (hp:s.heap.objs.size<=a) (new:a5' X.prog X.w (upd H a o) h' a o):
  Inv X pins σ (upd H a o) { s with heap:=h',toks:=t' }:=I.un (Un.laid k hp (I.hok.fresh hp)) (I.hok.laid k hp new)
theorem Inv.write {x e:Addr} {o:HO} {t':Nat} (I:Inv X pins σ H s) (mu:Mut (H x)) (he:e=x\/H e=some (.own x)) (k:∀b u,b≠e->s.heap.get? b=some u->h'.get? b=some u) (heo:∃u,h'.get? e=some u)
  (new:a5' X.prog X.w (upd H x o) h' x o):Inv X pins σ (upd H x o) { s with heap:=h',toks:=t' }:=I.un (Un.write mu he k heo) (I.hok.write mu he k heo new)
theorem Inv.weak {σ':List (Option V)} (I:Inv X pins σ H s) (hl:σ'.length=σ.length) (w:∀(i:Nat) v,σ'[i]?=some (some v)->σ[i]?=some (some v)):Inv X pins σ' H s:=
 ⟨I.ok,I.os,I.bare,I.base,let⟨m,hn,hl'⟩:=I.loc;⟨m,hn,fun i x v e1 e2 e3=>hl' i x v e1 (w i v e2) e3⟩,I.cell,I.free,I.freeC,I.pin,I.hok,hl.trans I.len⟩
theorem Inv.pins_of {pins':List (Addr×Obj)} (I:Inv X pins σ H s) (h:∀p∈pins',s.heap.get? p.1=some p.2/\H p.1=none/\p.1≠X.env.locals/\p.1∉X.fs/\∀v,p.2.data≠.cell v):Inv X pins' σ H s:=
 ⟨I.ok,I.os,I.bare,I.base,I.loc,I.cell,I.free,I.freeC,fun p hp=>(aT.mp hp).elim (fun z=>I.pin p (bf _ z)) (h p),I.hok,I.len⟩
theorem fY' {N:List Str} (hN:N.Nodup) {i j:Nat} {x:Str} (a:N[i]?=some x) (b:N[j]?=some x):i=j:=by
 obtain⟨h1,e1⟩:=aL.mp a
 obtain⟨h2,e2⟩:=aL.mp b
 exact(List.getElem_inj hN).mp (e1.trans e2.symm)
theorem eK' {M:Model} {A:Around} {E:Value->Shared->Prop} {i:Nat} {x:Str} {v:V} {u:Value} {Q:Unit->Shared->Prop} (I:Inv X pins σ H s) (hN:X.N.Nodup) (hi:X.N[i]?=some x) (hx:Loc X.env.scope x) (r:aJ' v u)
  (h:∀s',Inv X pins (σ.set i (some v)) H s'->(∃a,bZ a s.heap s'.heap/\(a=X.env.locals\/X.env.cells.lookup x=some a))->Q () s') (hf:X.fn x=true\/X.env.scope.names.lookup x=some .local:=by first|exact .inl rfl|exact .inr rfl|assumption):wpAny M A (storeName X.env x u) Q E s:=by
 obtain⟨m,hn,hl⟩:=id I.loc
 have hcls:(X.env.scope.kind == .class || (X.env.scope.kind == .module&&X.env.locals != X.env.globals))=false:=by rw[I.ok.kind];rfl
 have hiσ:i<σ.length:=by rw[I.len];exact(aL.mp hi).1
 have cne:=I.cne
 have tracked:∀{a:Addr} {h':Heap},(∃o,s.heap.get? a=some o/\H a=none)->bZ a s.heap h'->HOk X.prog X.w H h':=fun {a h'} ha hs b ob e=>by
  obtain⟨_,_,hfree⟩:=ha
  refine(I.hok b ob e).stay (fun c w' hc q=>(hs.2 c ?_).trans q) (fun _ q=>q) fun _ _ q=>q
  rintro rfl
  rcases hc with rfl|hc
  .rw[hfree]at e;cases e
  .rw[hfree]at hc;cases hc
 rcases hx with hk|hk
 .refine wpAny_storeName_local hk hn (fun h' hn' hs=>?_) hcls
  obtain⟨oL,_,_,hoL,_⟩:=id hn
  refine h _ ⟨I.ok,I.os,I.bare,⟨fun b o e n hb hx=>?_,fun b o e n hb hx=>?_,I.base.free,fun b o e hx=>?_,I.base.tups,I.base.frzs,I.base.tbls⟩,⟨_,hn',fun j y v' e1 e2 e3=>?_⟩,fun y c e=>?_,I.free,I.freeC,fun p hp=>?_,tracked ⟨oL,hoL,I.free⟩ hs,by simpa using I.len⟩ ⟨_,hs,.inl rfl⟩
  .exact(hs.2 b (aK (aD (av e) I.ok.above))).trans (I.base.keep b o e n hb hx)
  .obtain⟨sl,e1⟩:=I.base.slot b o e n hb hx
   exact⟨sl,(hs.2 b (aK (aD (av e) I.ok.above))).trans e1⟩
  .obtain⟨o',e1⟩:=I.base.there b o e hx
   exact⟨o',(hs.2 b (aK (aD (av e) I.ok.above))).trans e1⟩
  .by_cases hj:j=i
   .subst hj
    rw[hi]at e1;cases e1
    rw[List.getElem?_set_self hiσ]at e2
    cases e2
    exact⟨u,r,.inl ⟨hk,by simp⟩⟩
   .rw[cq (Ne.symm hj)]at e2
    obtain⟨u',r',q⟩:=hl j y v' e1 e2 e3
    refine⟨u',r',?_⟩
    rcases q with⟨k,e⟩|⟨k,c,e,z⟩
    .refine .inl ⟨k,?_⟩
     have:y≠x:=fun e=>hj (fY' hN e1 (e ▸ hi))
     simp[this,e]
    .exact .inr ⟨k,c,e,z.sameBut hs (cne y c e)⟩
  .obtain⟨w',z⟩:=I.cell y c e
   exact⟨w',z.sameBut hs (cne y c e)⟩
  .obtain⟨e,n,ne,nf,d⟩:=I.pin p hp
   exact⟨(hs.2 p.1 ne).trans e,n,ne,nf,d⟩
 .have hfn:X.fn x=true:=by
   rcases hf with z|z
   .exact z
   .rw[z]at hk;cases hk
  obtain⟨c,hc⟩:=I.ok.has x (.inl hk)
  obtain⟨w',z⟩:=I.cell x c hc
  refine wpAny_storeName_cell I.ok.kind hk hc z (fun h' hc' hs=>?_)
  obtain⟨oc,hoc,hocd⟩:=id z
  refine h { s with heap:=h' } ⟨I.ok,I.os,I.bare,⟨fun b o e n hb hx=>?_,fun b o e n hb hx=>?_,I.base.free,fun b o e hx=>?_,I.base.tups,I.base.frzs,I.base.tbls⟩,⟨m,hn.sameBut hs (Ne.symm (cne x c hc)),fun j y v' e1 e2 e3=>?_⟩,fun y c' e=>?_,I.free,I.freeC,fun p hp=>?_,tracked ⟨oc,hoc,I.freeC x c hc⟩ hs,by simpa using I.len⟩ ⟨c,hs,.inr hc⟩
  .exact(hs.2 b (aK (aD (av e) (I.ok.cab x c hfn hc)))).trans (I.base.keep b o e n hb hx)
  .obtain⟨sl,e1⟩:=I.base.slot b o e n hb hx
   exact⟨sl,(hs.2 b (aK (aD (av e) (I.ok.cab x c hfn hc)))).trans e1⟩
  .obtain⟨o',e1⟩:=I.base.there b o e hx
   exact⟨o',(hs.2 b (aK (aD (av e) (I.ok.cab x c hfn hc)))).trans e1⟩
  .by_cases hj:j=i
   .subst hj
    rw[hi]at e1;cases e1
    rw[List.getElem?_set_self hiσ]at e2
    cases e2
    exact⟨u,r,.inr ⟨.inl hk,c,hc,hc'⟩⟩
   .rw[cq (Ne.symm hj)]at e2
    obtain⟨u',r',q⟩:=hl j y v' e1 e2 e3
    refine⟨u',r',?_⟩
    rcases q with q|⟨k,c',e,z'⟩
    .exact .inl q
    .refine .inr ⟨k,c',e,z'.sameBut hs ?_⟩
     rintro rfl
     exact hj (fY' hN e1 (I.ok.inj _ _ _ e hc ▸ hi))
  .by_cases hcc:c'=c
   .subst hcc;exact⟨_,hc'⟩
   .obtain⟨w2,z2⟩:=I.cell y c' e
    exact⟨w2,z2.sameBut hs hcc⟩
  .obtain⟨e,n,ne,nf,d⟩:=I.pin p hp
   refine⟨(hs.2 p.1 ?_).trans e,n,ne,nf,d⟩
   intro q
   rw[q,hoc]at e
   have q':oc=p.2:=Option.some.inj e
   exact d w' (by rw[<- q'];exact hocd)
theorem ez' {M:Model} {A:Around} {E:Value->Shared->Prop} {i:Nat} {x:Str} {v:V} {u:Value} {Q:Unit->Shared->Prop} (I:Inv X pins σ H s) (hN:X.N.Nodup) (hi:X.N[i]?=some x) (hx:Loc X.env.scope x) (r:aJ' v u)
  (h:∀s',Inv X pins (σ.set i (some v)) H s'->Q () s') (hf:X.fn x=true\/X.env.scope.names.lookup x=some .local:=by first|exact .inl rfl|exact .inr rfl|assumption):wpAny M A (storeName X.env x u) Q E s:=
 eK' I hN hi hx r (fun s' I' _=>h s' I') hf
theorem Inv.call' {s':Shared} {ch:List Addr} (I:Inv X pins σ H s) (ho:s'.os=s.os) (u:Un (frs X.stack) ch H H' s.heap s'.heap) (hok:HOk X.prog X.w H' s'.heap) (hg:AllBare s'.gens)
  (hch:∀b∈ch,(b∈X.ex\/X.s₀.heap.objs.size<=b)/\b≠X.env.locals/\(∀x c,X.env.cells.lookup x=some c->c≠b)/\∀p∈X.pn++pins,p.1≠b):Inv X pins σ H' s':=by
 obtain⟨h',g',d',t',o'⟩:=s'
 have e:o'=s.os:=ho
 subst e
 exact I.call (g':=g') (t':=t') (d':=d') u hok hg hch
end
abbrev XK:=Value->Option Addr->Hp->Prop
abbrev St:=List (Option V)
abbrev VK:=V->Hp->Prop
abbrev TE:=St->Hp->VK->Prop
abbrev TT:=St->Hp->(Bool->Hp->Prop)->Prop
abbrev TA:=St->Hp->(List V->Hp->Prop)->Prop
structure Ends where
 nx:St->Hp->Prop
 rt:VK
 bk:St->Hp->Prop:=fun _ _=>False
 ct:St->Hp->Prop:=fun _ _=>False
abbrev TS:=Ends->St->Hp->Prop
def EP (X:Cx) (pins:List (Addr×Obj)) (σ:St) (Q:VK) (u:Value) (s':Shared):Prop:=∃v H',Inv X pins σ H' s'/\aJ' v u/\Q v H'
def TP (X:Cx) (pins:List (Addr×Obj)) (σ:St) (Q:Bool->Hp->Prop) (b:Bool) (s':Shared):Prop:=∃H',Inv X pins σ H' s'/\Q b H'
def AP (X:Cx) (pins:List (Addr×Obj)) (σ:St) (Q:List V->Hp->Prop) (us:List Value) (s':Shared):Prop:=∃vs H',Inv X pins σ H' s'/\aE' vs us/\Q vs H'
def SP (X:Cx) (pins:List (Addr×Obj)) (D:Ends) (f:Flow) (s':Shared):Prop:=
 match f with
 | .next=>∃σ' H',Inv X pins σ' H' s'/\D.nx σ' H'
 | .brk=>∃σ' H',Inv X pins σ' H' s'/\D.bk σ' H'
 | .cont=>∃σ' H',Inv X pins σ' H' s'/\D.ct σ' H'
 | .ret u=>∃v σ' H',Inv X pins σ' H' s'/\aJ' v u/\D.rt v H'
def PE (X:Cx) (e:Expr) (t:TE):Prop:=
 ∀(pins:List (Addr×Obj)) (s:Shared) (σ:St) (H:Hp) (Q:VK),Inv X pins σ H s->t σ H Q->wpAny (model X.prog X.w) X.A (eval e X.env) (EP X pins σ Q) X.xe s
def PT (X:Cx) (e:Expr) (t:TT):Prop:=
 ∀(pins:List (Addr×Obj)) (s:Shared) (σ:St) (H:Hp) (Q:Bool->Hp->Prop),Inv X pins σ H s->t σ H Q->wpAny (model X.prog X.w) X.A (isTrue e X.env (eval e X.env)) (TP X pins σ Q) X.xe s
def PW (X:Cx) (e:Expr) (t:TT):Prop:=
 ∀(whole:Sem Value) (pins:List (Addr×Obj)) (s:Shared) (σ:St) (H:Hp) (Q:Bool->Hp->Prop),Inv X pins σ H s->t σ H Q->wpAny (model X.prog X.w) X.A (isTrue e X.env whole) (TP X pins σ Q) X.xe s
theorem PW.pt {X:Cx} {e:Expr} {t:TT} (h:PW X e t):PT X e t:=h _
def PA (X:Cx) (es:List Expr) (t:TA):Prop:=
 ∀(pos:Pos) (pins:List (Addr×Obj)) (s:Shared) (σ:St) (H:Hp) (Q:List V->Hp->Prop),Inv X pins σ H s->t σ H Q->wpAny (model X.prog X.w) X.A (spliced (backTo pos (starEach es X.env))) (AP X pins σ Q) X.xe s
def PS (X:Cx) (st:Stmt) (t:TS):Prop:=
 ∀(pins:List (Addr×Obj)) (s:Shared) (σ:St) (H:Hp) (D:Ends),Inv X pins σ H s->t D σ H->wpAny (model X.prog X.w) X.A (exec st X.env) (SP X pins D) X.xe s
def PSs (X:Cx) (st:List Stmt) (t:TS):Prop:=
 ∀(pins:List (Addr×Obj)) (s:Shared) (σ:St) (H:Hp) (D:Ends),Inv X pins σ H s->t D σ H->wpAny (model X.prog X.w) X.A (execs st X.env) (SP X pins D) X.xe s
theorem thn {α:Type} {t:Sem α} {Q Q':α->Shared->Prop} {M:Model} {A:Around} {E:Value->Shared->Prop} {s:Shared} (h:wpAny M A t Q E s) (hQ:∀a s,Q a s->Q' a s):wpAny M A t Q' E s:=wpAny_mono h hQ fun _ _ x=>x
section
variable {X:Cx}
theorem bin {a b:Expr} {ta tb:TE} (ha:PE X a ta) (hb:PE X b tb) {pins:List (Addr×Obj)} {s:Shared} {σ:St} {H:Hp} {R:V->V->Hp->Prop} (I:Inv X pins σ H s) (h:ta σ H fun x H1=>tb σ H1 fun y H2=>R x y H2)
  {α:Type} {Q:α->Shared->Prop} {f:Value->Value->Sem α}
  (hf:∀v u s2 x y H2,Inv X pins σ H2 s2->aJ' x v->aJ' y u->R x y H2->wpAny (model X.prog X.w) X.A (f v u) Q X.xe s2):
  wpAny (model X.prog X.w) X.A (eval a X.env) (fun v s₁=>wpAny (model X.prog X.w) X.A (eval b X.env) (fun u s₂=>wpAny (model X.prog X.w) X.A (f v u) Q X.xe s₂) X.xe s₁) X.xe s:=by
 refine thn (ha pins s σ H _ I h) fun v s1 ⟨x,H1,I1,r1,q1⟩=>?_
 refine thn (hb pins s1 σ H1 _ I1 q1) fun u s2 ⟨y,H2,I2,r2,q2⟩=>?_
 exact hf v u s2 x y H2 I2 r1 r2 q2
def wT' (i:Nat):TE:=fun σ H Q=>∃v,σ[i]?=some (some v)/\Q v H
def tC (v:V):TE:=fun _ H Q=>Q v H
theorem o1' {i:Nat} {x:Str} {pos:Pos} (hN:X.N[i]?=some x) (hv:Vis X.env.scope x) (hd:(x == ("__debug__":Str))=false:=by decide) (hcd:(x == ("__classdict__":Str))=false:=by decide):PE X (.Name x pos) (wT' i):=by
 intro pins s σ H Q I h
 obtain⟨v,e,h⟩:=h
 obtain⟨m,hn,hl⟩:=I.loc
 obtain⟨u,r,l⟩:=hl i x v hN e hv
 have fin:EP X pins σ Q u s:=⟨v,H,I,r,h⟩
 rcases l with⟨hk,hm⟩|⟨hk,c,hc,hcell⟩
 .exact wpAny_Name (wpAny_loadName_local I.ok.kind hk hn hm fin) hd
 .rcases hk with hk|hk
  .exact wpAny_Name (wpAny_loadName_cell I.ok.kind hk hc hcell fin) hd
  .exact wpAny_Name (wpAny_loadName_free I.ok.kind hk hc hcell fin hcd) hd
theorem sT' {i j pos}:PE X (.Constant (.int i) j pos) (tC (.int i)):=fun _ _ _ H _ I h=>wpAny_Constant_int ⟨.int i,H,I.tok _,⟨_,rfl⟩,h⟩
theorem xf' {b j pos}:PE X (.Constant (.bool b) j pos) (tC (.bl b)):=fun _ _ _ H _ I h=>Constant_bool ⟨.bl b,H,I,rfl,h⟩
theorem sU' {j pos}:PE X (.Constant .none j pos) (tC .non):=fun _ _ _ H _ I h=>Constant_none ⟨.non,H,I,rfl,h⟩
theorem sV' {x j pos}:PE X (.Constant (.str x) j pos) (tC (.str x)):=fun _ _ _ H _ I h=>Calls.Constant_str ⟨.str x,H,I.tok _,⟨_,rfl⟩,h⟩
def Gl (X:Cx) (x:Str):Prop:=X.env.kindOf x=some .globalImplicit
theorem pW' {E:Value->Shared->Prop} {pins:List (Addr×Obj)} {s:Shared} {σ:St} {H:Hp} {x:Str} {u:Value} {pos:Pos} {Q:Value->Shared->Prop} (I:Inv X pins σ H s) (hg:Gl X x) (hm:X.mg x=some u) (h:Q u s)
  (hd:(x == ("__debug__":Str))=false:=by decide):wpAny (model X.prog X.w) X.A (eval (.Name x pos) X.env) Q E s:=
 Calls.Name_function_global I.ok.kind hg (Calls.loadGlobal_global (by rw[I.ok.glob];exact I.mod.glob.keeps I.bk) hm h) hd
theorem ei' {E:Value->Shared->Prop} {pins:List (Addr×Obj)} {s:Shared} {σ:St} {H:Hp} {x:Str} {u:Value} {pos:Pos} {Q:Value->Shared->Prop} (I:Inv X pins σ H s) (hg:Gl X x) (hm:X.mg x=none) (hv:bootBuiltins x=some u) (h:Q u s)
  (hn:x≠"__name__":=by decide) (hd:(x == ("__debug__":Str))=false:=by decide):wpAny (model X.prog X.w) X.A (eval (.Name x pos) X.env) Q E s:=by
 obtain⟨mb,h1,h2⟩:=I.mod.blt
 exact Calls.Name_function_global I.ok.kind hg (Calls.loadGlobal_builtin (by rw[I.ok.glob];exact I.mod.glob.keeps I.bk) hm (by rw[I.ok.blt];exact h1.keeps I.bk) ((h2 x hn).trans hv) h) hd
variable {a b:Expr} {ta tb:TE} {pos:Pos}
def PC (X:Cx) (op:CmpOp) (a b:Expr) (t:TE):Prop:=
 ∀(pins:List (Addr×Obj)) (s:Shared) (σ:St) (H:Hp) (Q:VK),Inv X pins σ H s->t σ H Q->
  wpAny (model X.prog X.w) X.A (eval a X.env) (fun v s₁=>wpAny (model X.prog X.w) X.A (eval b X.env) (fun u s₂=>wpAny (model X.prog X.w) X.A (compareOp op v u) (EP X pins σ Q) X.xe s₂) X.xe s₁) X.xe s
def tB (t:TE):TT:=fun σ H Q=>t σ H fun x H1=>∃c,x=.bl c/\Q c H1
theorem o2' {op:CmpOp} {t:TE} (h:PC X op a b t) (h1:behindInMarks op b=false:=by rfl):PE X (.Compare a [op] [b] pos) t:=fun pins s σ H Q I hw=>wpAny_Compare1 (h pins s σ H Q I hw) h1
theorem o3' {op:CmpOp} {t:TE} (h:PC X op a b t) (h1:behindInMarks op b=false:=by rfl):PT X (.Compare a [op] [b] pos) (tB t):=by
 intro pins s σ H Q I hw
 refine wpAny_isTrue_Compare1 (thn (h pins s σ H _ I hw) fun v s1 h1=>thn h1 fun u s2 h2=>thn h2 fun c s3 ⟨x,H1,I1,r1,q1⟩=>?_) h1
 obtain⟨d,rfl,q⟩:=q1
 cases r1
 exact bv ⟨H1,I1,q⟩
variable {tA tB':TT} {ax':List Expr}
def sW' (t u:TT):TT:=fun σ H Q=>t σ H fun c H1=>if c=true then u σ H1 Q else Q false H1
def tOr (t u:TT):TT:=fun σ H Q=>t σ H fun c H1=>if c=true then Q true H1 else u σ H1 Q
def xg' (t:TT):TT:=fun σ H Q=>t σ H fun c H1=>Q (!c) H1
theorem pX' (ha:PT X a tA):PW X (.BoolOp .And [a] pos) tA:=by
 intro wh pins s σ H Q I h
 refine isTrue_and (thn (ha pins s σ H Q I h) fun c s1 e=>?_)
 cases c with
 |true=>exact isTrue_and_nil e
 |false=>exact e
theorem sX' (ha:PT X a tA):PW X (.BoolOp .Or [a] pos) tA:=by
 intro wh pins s σ H Q I h
 refine isTrue_or (thn (ha pins s σ H Q I h) fun c s1 e=>?_)
 cases c with
 |false=>exact isTrue_or_nil e
 |true=>exact e
theorem o4' (ha:PT X a tA) (hb:PW X (.BoolOp .And (b :: ax') pos) tB'):PW X (.BoolOp .And (a :: b :: ax') pos) (sW' tA tB'):=by
 intro wh pins s σ H Q I h
 refine isTrue_and (thn (ha pins s σ H _ I h) fun c s1 ⟨H1,I1,q1⟩=>?_)
 cases c with
 |true=>exact hb wh pins s1 σ H1 Q I1 q1
 |false=>exact⟨H1,I1,q1⟩
theorem sY' (ha:PT X a tA) (hb:PW X (.BoolOp .Or (b :: ax') pos) tB'):PW X (.BoolOp .Or (a :: b :: ax') pos) (tOr tA tB'):=by
 intro wh pins s σ H Q I h
 refine isTrue_or (thn (ha pins s σ H _ I h) fun c s1 ⟨H1,I1,q1⟩=>?_)
 cases c with
 |true=>exact⟨H1,I1,q1⟩
 |false=>exact hb wh pins s1 σ H1 Q I1 q1
theorem sZ' (ha:PT X a tA):PT X (.UnaryOp .Not a pos) (xg' tA):=by
 intro pins s σ H Q I h
 exact isTrue_not (ha pins s σ H (fun c H1=>Q (!c) H1) I h)
def m3' (ta tb:TE):TE:=fun σ H Q=>ta σ H fun x H1=>∃c,x=.bl c/\if c=true then tb σ H1 Q else Q (.bl false) H1
def wU' (ta tb:TE):TE:=fun σ H Q=>ta σ H fun x H1=>∃c,x=.bl c/\if c=true then Q (.bl true) H1 else tb σ H1 Q
def pY' (ta:TE):TE:=fun σ H Q=>ta σ H fun x H1=>∃c,x=.bl c/\Q (.bl (!c)) H1
theorem o5' {op} {t:TE} (h:PE X a t):PE X (.BoolOp op [a] pos) t:=fun pins s σ H Q I hw=>BoolOp_one (h pins s σ H Q I hw)
theorem o6' (ha:PE X a ta) (hb:PE X (.BoolOp .And (b :: ax') pos) tb):PE X (.BoolOp .And (a :: b :: ax') pos) (m3' ta tb):=by
 intro pins s σ H Q I h
 refine BoolOp_and (thn (ha pins s σ H _ I h) fun v s1 ⟨x,H1,I1,r1,q1⟩=>?_)
 obtain⟨c,rfl,q1⟩:=q1
 cases r1
 refine bv ?_
 cases c with
 |true=>exact hb pins s1 σ H1 Q I1 q1
 |false=>exact⟨.bl false,H1,I1,rfl,q1⟩
theorem s0' (ha:PE X a ta) (hb:PE X (.BoolOp .Or (b :: ax') pos) tb):PE X (.BoolOp .Or (a :: b :: ax') pos) (wU' ta tb):=by
 intro pins s σ H Q I h
 refine BoolOp_or (thn (ha pins s σ H _ I h) fun v s1 ⟨x,H1,I1,r1,q1⟩=>?_)
 obtain⟨c,rfl,q1⟩:=q1
 cases r1
 refine bv ?_
 cases c with
 |false=>exact hb pins s1 σ H1 Q I1 q1
 |true=>exact⟨.bl true,H1,I1,rfl,q1⟩
theorem s1' (ha:PE X a ta):PE X (.UnaryOp .Not a pos) (pY' ta):=by
 intro pins s σ H Q I h
 refine UnaryOp_ (thn (ha pins s σ H _ I h) fun v s1 ⟨x,H1,I1,r1,q1⟩=>?_)
 obtain⟨c,rfl,q1⟩:=q1
 cases r1
 exact not_of (bv ⟨.bl (!c),H1,I1,rfl,q1⟩)
def tIf (t:TT) (ta tb:TE):TE:=fun σ H Q=>t σ H fun c H1=>if c=true then ta σ H1 Q else tb σ H1 Q
theorem m4' {c:Expr} (hc:PT X c tA) (ha:PE X a ta) (hb:PE X b tb):PE X (.IfExp c a b pos) (tIf tA ta tb):=by
 intro pins s σ H Q I h
 refine wpAny_IfExp (thn (hc pins s σ H _ I h) fun d s1 ⟨H1,I1,q1⟩=>?_)
 cases d with
 |true=>exact ha pins s1 σ H1 Q I1 q1
 |false=>exact hb pins s1 σ H1 Q I1 q1
end
def SqL (K:W.Frag) (H:Hp) (a:Addr) (xs:List V):Prop:=
 Rd H a (.lst xs)\/
  ∃(o:Obj) (its:Array Value) (n:Nat),K.lookup a=some o/\o.cls=.type "list"/\o.dict=none/\o.data=.seq its n/\its.size<=sizeLine/\aE' xs its.toList
def SqT (K:W.Frag) (H:Hp) (a:Addr) (xs:List V):Prop:=
 Rd H a (.tup xs)\/
  ∃(o:Obj) (its:Array Value) (n:Nat),K.lookup a=some o/\o.cls=.type "tuple"/\o.data=.seq its n/\its.size<=sizeLine/\aE' xs its.toList
def An':Value->Option V
 | .none=>some .non
 | .bool b=>some (.bl b)
 | .int i _=>some (.int i)
 | .str x _=>some (.str x)
 | .bytes b _=>some (.byt b)
 | .float b _=>some (.flt b)
 | .ref a=>some (.ref a)
 | .type n=>some (.ty n)
 |_=>none
theorem aJ'.abs {x:V} {u:Value} (r:aJ' x u):An' u=some x:=by
 cases x with
 |non=>cases r;rfl
 |bl _=>cases r;rfl
 |int _=>obtain⟨t,rfl⟩:=r;rfl
 |str _=>obtain⟨t,rfl⟩:=r;rfl
 |byt _=>obtain⟨t,rfl⟩:=r;rfl
 |flt _=>obtain⟨t,rfl⟩:=r;rfl
 |ref _=>cases r;rfl
 |ty _=>cases r;rfl
theorem aJ'.inj {x y:V} {u:Value} (r:aJ' x u) (q:aJ' y u):x=y:=Option.some.inj (r.abs.symm.trans q.abs)
theorem aE'.inj:∀{xs ys:List V} {us:List Value},aE' xs us->aE' ys us->xs=ys
 |_,_,_,.nil,.nil=>rfl
 |_,_,_,.cons r t,.cons r' t'=>by rw[r.inj r',aE'.inj t t']
section
variable {X:Cx} {pins:List (Addr×Obj)} {σ:St} {H:Hp} {s:Shared} {a:Addr} {xs ys:List V}
theorem SqL.of {K:W.Frag} (h:H a=some (.lst xs)):SqL K H a xs:=.inl (.inl h)
theorem SqT.of {K:W.Frag} (h:H a=some (.tup xs)):SqT K H a xs:=.inl (.inl h)
theorem Inv.list (I:Inv X pins σ H s) (h:SqL X.K H a xs):∃its:List Value,aE' xs its/\PlainL s.heap a its.toArray/\xs.length<=sizeLine:=by
 rcases h with h|⟨o,its,n,hk,hc,hd,hs,hz,r⟩
 .obtain⟨z,its,n,r,e⟩:=h.ok I.hok
  exact⟨its,r,⟨_,n,e,rfl,rfl,rfl⟩,z⟩
 .refine⟨its.toList,r,⟨o,n,I.kIn a o hk,hc,hd,by simpa using hs⟩,?_⟩
  have e:=r.length
  simp only[ak]at e
  omega
theorem Inv.tuple (I:Inv X pins σ H s) (h:SqT X.K H a xs):∃its:List Value,aE' xs its/\IsTup s.heap a its.toArray/\xs.length<=sizeLine:=by
 rcases h with h|⟨o,its,n,hk,hc,hs,hz,r⟩
 .obtain⟨z,its,r,p⟩:=h.ok I.hok
  exact⟨its,r,p.tup,z⟩
 .refine⟨its.toList,r,⟨o,I.kIn a o hk,hc,n,by simpa using hs⟩,?_⟩
  have e:=r.length
  simp only[ak]at e
  omega
theorem Inv.list_inj (I:Inv X pins σ H s) (h:SqL X.K H a xs) (h':SqL X.K H a ys):xs=ys:=by
 obtain⟨its,r,⟨o,n,e,_,_,d⟩,_⟩:=I.list h
 obtain⟨its',r',⟨o',n',e',_,_,d'⟩,_⟩:=I.list h'
 rw[e]at e';cases e'
 rw[d]at d'
 injection d' with d1 _
 have:its=its':=by simpa using congrArg Array.toList d1
 subst this
 exact r.inj r'
theorem Inv.tuple_inj (I:Inv X pins σ H s) (h:SqT X.K H a xs) (h':SqT X.K H a ys):xs=ys:=by
 obtain⟨its,r,⟨o,e,_,n,d⟩,_⟩:=I.tuple h
 obtain⟨its',r',⟨o',e',_,n',d'⟩,_⟩:=I.tuple h'
 rw[e]at e';cases e'
 rw[d]at d'
 injection d' with d1 _
 have:its=its':=by simpa using congrArg Array.toList d1
 subst this
 exact r.inj r'
end
abbrev Cx.wish (X:Cx) (E:Value->Shared->Prop):Cx:={ X with xe:=E }
abbrev Cx.nox (X:Cx):Cx:=X.wish fun _ _=>False
theorem Cx.Ok.wish {X:Cx} (ok:X.Ok) (E:Value->Shared->Prop):(X.wish E).Ok:=
 ⟨ok.mod,ok.kind,ok.glob,ok.blt,ok.above,ok.inj,ok.has,ok.cab,ok.hd,ok.frames,ok.stk,ok.exf,ok.bs,ok.bsz,ok.noex,ok.exfs,ok.funs,ok.frf⟩
theorem Cx.Ok.unwish {X:Cx} {E:Value->Shared->Prop} (ok:(X.wish E).Ok):X.Ok:=
 ⟨ok.mod,ok.kind,ok.glob,ok.blt,ok.above,ok.inj,ok.has,ok.cab,ok.hd,ok.frames,ok.stk,ok.exf,ok.bs,ok.bsz,ok.noex,ok.exfs,ok.funs,ok.frf⟩
section
variable {X:Cx} {pins:List (Addr×Obj)} {σ:St} {H:Hp} {s:Shared} {E:Value->Shared->Prop}
theorem Inv.wish (I:Inv X pins σ H s) (E:Value->Shared->Prop):Inv (X.wish E) pins σ H s:=⟨I.ok.wish E,I.os,I.bare,I.base,I.loc,I.cell,I.free,I.freeC,I.pin,I.hok,I.len⟩
theorem Inv.unwish (I:Inv (X.wish E) pins σ H s):Inv X pins σ H s:=⟨I.ok.unwish,I.os,I.bare,I.base,I.loc,I.cell,I.free,I.freeC,I.pin,I.hok,I.len⟩
theorem SP.unwish {D:Ends} {f:Flow} {s':Shared} (h:SP (X.wish E) pins D f s'):SP X pins D f s':=by
 cases f with
 |next=>obtain⟨σ',H',I,q⟩:=h;exact⟨σ',H',I.unwish,q⟩
 |brk=>obtain⟨σ',H',I,q⟩:=h;exact⟨σ',H',I.unwish,q⟩
 |cont=>obtain⟨σ',H',I,q⟩:=h;exact⟨σ',H',I.unwish,q⟩
 |ret u=>obtain⟨v,σ',H',I,r,q⟩:=h;exact⟨v,σ',H',I.unwish,r,q⟩
theorem PSs.nox {st:List Stmt} {t:TS} (h:PSs X.nox st t):PSs X st t:=fun pins s σ H D I hw=>
 wpAny_mono (h pins s σ H D (I.wish _) hw) (fun _ _ q=>q.unwish) fun _ _ z=>False.elim z
end
section
variable {X:Cx} {st:Stmt} {ax':List Stmt} {t u:TS} {e:Expr} {te:TE} {pos:Pos}
def pZ':TS:=fun D σ H=>D.nx σ H
def xh' (t u:TS):TS:=fun D σ H=>t { D with nx:=u D } σ H
theorem p0':PSs X [] pZ':=fun _ _ σ H _ I h=>wpAny_execs_nil ⟨σ,H,I,h⟩
theorem m5' (h1:PS X st t) (h2:PSs X ax' u):PSs X (st :: ax') (xh' t u):=by
 intro pins s σ H D I h
 refine wpAny_execs_cons (thn (h1 pins s σ H { D with nx:=u D } I h) fun f s1 q=>?_)
 cases f with
 |next=>
  obtain⟨σ',H',I',q⟩:=q
  exact h2 pins s1 σ' H' D I' q
 |ret v=>exact q
 |brk=>exact q
 |cont=>exact q
theorem Inv.quiet {pins:List (Addr×Obj)} {σ:St} {H:Hp} {s:Shared} (I:Inv X pins σ H s):interactive X.env=false:=by simp[interactive,I.ok.kind]
def p1' (te:TE):TS:=fun D σ H=>te σ H fun _ H1=>D.nx σ H1
theorem p2' (he:PE X e te) (hs:swapsWith e none pos.line X.env=pure false:=by rfl):PS X (.Expr e pos) (p1' te):=by
 intro pins s σ H D I h
 exact wpAny_Expr_any (thn (he pins s σ H _ I h) fun v s1 ⟨x,H1,I1,r1,q1⟩=>⟨σ,H1,I1,q1⟩) I.quiet hs
def xi' (te:TE):TS:=fun D σ H=>te σ H D.rt
theorem s2' (he:PE X e te):PS X (.Return (some e) pos) (xi' te):=by
 intro pins s σ H D I h
 exact wpAny_Return_some (thn (he pins s σ H _ I h) fun v s1 ⟨x,H1,I1,r1,q1⟩=>⟨x,σ,H1,I1,r1,q1⟩)
def xj' (c:TT) (t u:TS):TS:=fun D σ H=>c σ H fun b H1=>if b=true then t D σ H1 else u D σ H1
theorem xk' {c:Expr} {a b:List Stmt} {tc:TT} (hc:PT X c tc) (ha:PSs X a t) (hb:PSs X b u):PS X (.If c a b pos) (xj' tc t u):=by
 intro pins s σ H D I h
 refine wpAny_If (thn (hc pins s σ H _ I h) fun d s1 ⟨H1,I1,q1⟩=>?_)
 cases d with
 |true=>exact ha pins s1 σ H1 D I1 q1
 |false=>exact hb pins s1 σ H1 D I1 q1
def kf':TS:=fun _ _ _=>False
theorem m6':PS X st kf':=fun _ _ _ _ _ _ h=>h.elim
end
abbrev TG:=V->St->Hp->(St->Hp->Prop)->Prop
abbrev TGs:=List V->St->Hp->(St->Hp->Prop)->Prop
def PG (X:Cx) (target:Expr) (t:TG):Prop:=
 ∀(pins:List (Addr×Obj)) (s:Shared) (σ:St) (H:Hp) (v:V) (u:Value) (Q:St->Hp->Prop),Inv X pins σ H s->aJ' v u->t v σ H Q->
  wpAny (model X.prog X.w) X.A (assign target X.env u) (fun _ s'=>∃σ' H',Inv X pins σ' H' s'/\Q σ' H') X.xe s
def PGs (X:Cx) (ts:List Expr) (t:TGs):Prop:=
 ∀(pins:List (Addr×Obj)) (s:Shared) (σ:St) (H:Hp) (vs:List V) (us:List Value) (Q:St->Hp->Prop),Inv X pins σ H s->aE' vs us->t vs σ H Q->
  wpAny (model X.prog X.w) X.A (assignInOrder ((assignEach ts X.env).map (·.2)) us) (fun _ s'=>∃σ' H',Inv X pins σ' H' s'/\Q σ' H') X.xe s
abbrev xl':=V->V->V->Hp->(Hp->Prop)->Prop
def zN' (X:Cx) (t:xl'):Prop:=
 ∀(pins:List (Addr×Obj)) (s:Shared) (σ:St) (H:Hp) (o i v:V) (ov iv u:Value) (Q:Hp->Prop),Inv X pins σ H s->aJ' o ov->aJ' i iv->aJ' v u->t o i v H Q->
  wpAny (model X.prog X.w) X.A (setItem ov iv u) (fun _ s'=>∃H',Inv X pins σ H' s'/\Q H') X.xe s
abbrev TIp:=V->V->Hp->VK->Prop
def PIp (X:Cx) (op:Operator) (t:TIp):Prop:=
 ∀(pins:List (Addr×Obj)) (s:Shared) (σ:St) (H:Hp) (x y:V) (v u:Value) (Q:VK),Inv X pins σ H s->aJ' x v->aJ' y u->t x y H Q->
  wpAny (model X.prog X.w) X.A (inplaceOp op v u) (EP X pins σ Q) X.xe s
section
variable {X:Cx} {pos:Pos}
def dA' (i:Nat):TG:=fun v σ H Q=>Q (σ.set i (some v)) H
theorem p3' {i:Nat} {x:Str} (hN:X.N.Nodup) (hi:X.N[i]?=some x) (hx:Loc X.env.scope x) (hf:X.fn x=true\/X.env.scope.names.lookup x=some .local:=by first|exact .inl rfl|exact .inr rfl|assumption):PG X (.Name x pos) (dA' i):=by
 intro pins s σ H v u Q I r h
 exact wpAny_assign_Name (ez' I hN hi hx r (fun s' I'=>⟨_,H,I',h⟩) hf)
def xm':TGs:=fun vs σ H Q=>vs=[]/\Q σ H
def p4' (t:TG) (u:TGs):TGs:=fun vs σ H Q=>∃v r,vs=v :: r/\t v σ H fun σ' H'=>u r σ' H' Q
theorem p5':PGs X [] xm':=by
 intro pins s σ H vs us Q I r h
 obtain⟨e,h⟩:=h
 subst e
 cases r
 exact assignInOrder_nil ⟨σ,H,I,h⟩
theorem m7' {e:Expr} {es:List Expr} {t:TG} {u:TGs} (h1:PG X e t) (h2:PGs X es u)
  (hs:(assignEach (e :: es) X.env).map (·.2)=assign e X.env :: (assignEach es X.env).map (·.2):=by rfl):PGs X (e :: es) (p4' t u):=by
 intro pins s σ H vs us Q I r h
 obtain⟨v,vr,e1,h⟩:=h
 subst e1
 cases r with
 |cons r rr=>
  rw[hs]
  refine assignInOrder_cons (thn (h1 pins s σ H _ _ _ I r h) fun _ s1 ⟨σ1,H1,I1,q1⟩=>?_)
  exact h2 pins s1 σ1 H1 _ _ Q I1 rr q1
def Ao' (K:W.Frag) (n:Nat) (t:TGs):TG:=fun v σ H Q=>∃a xs,v=.ref a/\SqT K H a xs/\xs.length=n/\t xs σ H Q
theorem s3' {es:List Expr} {k:Nat} {t:TGs} {n:Nat} (hc:X.calm=true) (h:PGs X es t)
  (hn:(assignEach es X.env).length=n:=by rfl) (hst:(assignEach es X.env).findIdx? (·.1)=none:=by rfl):PG X (.Tuple es k pos) (Ao' X.K n t):=by
 intro pins s σ H v u Q I r hw
 obtain⟨a,xs,e1,hq,hl,hw⟩:=hw
 subst e1
 cases r
 obtain⟨its,rv,ht,hz⟩:=I.tuple hq
 refine assign_Tuple_tuple (I.ok.hd hc) ht (by simp[hn,<- hl,rv.length]) hst fun h' hx=>?_
 have I1:Inv X pins σ H { s with heap:=h' }:=I.kept (t':=s.toks) fun b o e=>hx b o (aK (av e)) e
 exact h pins _ σ H xs _ Q I1 (by simpa using rv) hw
def xn' (to ti:TE) (t:xl'):TG:=fun v σ H Q=>to σ H fun o H1=>ti σ H1 fun i H2=>t o i v H2 fun H3=>Q σ H3
theorem s4' {o i:Expr} {to ti:TE} {t:xl'} (ho:PE X o to) (hi:PE X i ti) (hs:zN' X t)
  (ha:∀v,assign (.Subscript o i pos) X.env v=(do
   let ov <- holding [v] (eval o X.env)
   let iv <- holding [v,ov] (eval i X.env)
   standAt pos
   holding [v,ov,iv] (setItem ov iv v)
   release [v,ov,iv] []):=by intro _;rfl):PG X (.Subscript o i pos) (xn' to ti t):=by
 intro pins s σ H v u Q I r h
 rw[ha]
 refine aa (bg (thn (ho pins s σ H _ I h) fun ov s1 ⟨x,H1,I1,r1,q1⟩=>?_))
 refine aa (bg (thn (hi pins s1 σ H1 _ I1 q1) fun iv s2 ⟨y,H2,I2,r2,q2⟩=>?_))
 refine aa (bK (aa (bg (thn (hs pins s2 σ H2 x y v ov iv u _ I2 r1 r2 r q2) fun _ s3 ⟨H3,I3,q3⟩=>?_))))
 exact wpAny_release ⟨σ,H3,I3,q3⟩
def j8' (te:TE) (g:TG):TS:=fun D σ H=>te σ H fun x H1=>g x σ H1 D.nx
theorem iS' {tg e:Expr} {te:TE} {g:TG} (he:PE X e te) (hg:PG X tg g) (hs:swapsWithSole [tg] e pos.line X.env=pure false:=by rfl) (hw:swappedStores [tg] e X.env=pure none:=by rfl)
  (h1:(assignEach [tg] X.env).map (·.2)=[assign tg X.env]:=by rfl):PS X (.Assign [tg] e pos) (j8' te g):=by
 intro pins s σ H D I h
 refine wpAny_Assign_stores (thn (he pins s σ H _ I h) fun v s1 ⟨x,H1,I1,r1,q1⟩=>?_) hs hw
 rw[h1]
 exact thn (hg pins s1 σ H1 x v _ I1 r1 q1) fun _ s2 q=>q
def xo' (i j:Nat) (ta:TA):TS:=fun D σ H=>ta σ H fun vs H1=>∃v w,vs=[v,w]/\D.nx ((σ.set i (some v)).set j (some w)) H1
theorem s5' {i j:Nat} {x y:Str} {a b:Expr} {ta:TA} {px py pt:Pos} {kt k2 pt2} (hc:X.calm=true) (hN:X.N.Nodup) (hi:X.N[i]?=some x) (hj:X.N[j]?=some y) (hij:i≠j)
  (hx:X.env.scope.names.lookup x=some .local) (hy:X.env.scope.names.lookup y=some .local) (ha:PA X [a,b] ta)
  (hw:swappedStores [.Tuple [.Name x px,.Name y py] kt pt] (.Tuple [a,b] k2 pt2) X.env=pure (some [x,y]))
  (hs:swapsWithSole [.Tuple [.Name x px,.Name y py] kt pt] (.Tuple [a,b] k2 pt2) pos.line X.env=pure false:=by rfl):
  PS X (.Assign [.Tuple [.Name x px,.Name y py] kt pt] (.Tuple [a,b] k2 pt2) pos) (xo' i j ta):=by
 intro pins s σ H D I h
 rw[exec_Assign_arm]
 refine aa (bK ?_)
 rw[hs]
 refine aa (ag ?_)
 rw[if_neg (by decide)]
 refine aa (Tuple_ (thn (ha _ pins s σ H _ I h) fun us s1 ⟨vs,H1,I1,r1,q1⟩=>?_))
 obtain⟨v,w,e1,q1⟩:=q1
 subst e1
 obtain⟨u1,u2,rfl,rv,rw'⟩:∃u1 u2,us=[u1,u2]/\aJ' v u1/\aJ' w u2:=by
  cases r1 with
  |cons p q=>
   cases q with
   |cons p' q'=>
    cases q'
    exact⟨_,_,rfl,p,p'⟩
 refine aI ?_ (by show 2<=sizeLine;decide)
 have I2:Inv X pins σ H1 { s1 with heap:=s1.heap.push { cls:=.type "tuple",data:=.seq [u1,u2].toArray } }:=I1.kept (t':=s1.toks) fun b o e=>ah _ e
 rw[hw]
 refine aa (ag ?_)
 show wpAny (model X.prog X.w) X.A (do rule "assign.swapped-stores";let items <- unpackItems (.ref s1.heap.objs.size) 2 none;assignInOrder [fun v=>bindName X.env y v,fun v=>bindName X.env x v] items.reverse;pure Flow.next) _ _ _
 refine aa (cX (aa (unpackItems_tuple (items:=#[u1,u2]) (I.ok.hd hc) (IsTup.new s1.heap _) fun h' hx'=>?_)))
 have I3:=I2.kept (h':=h') (t':=s1.toks) fun b o e=>hx' b o (aK (av e)) e
 show wpAny _ _ (assignInOrder [fun v=>bindName X.env y v,fun v=>bindName X.env x v] [u2,u1] >>= fun _=>pure Flow.next) _ _ _
 refine aa (assignInOrder_cons (wpAny_bindName (ez' I3 hN hj (.inl hy) rw' (fun s2 I4=>?_) (.inr hy))))
 refine assignInOrder_cons (wpAny_bindName (ez' I4 hN hi (.inl hx) rv (fun s3 I5=>assignInOrder_nil (ag ?_)) (.inr hx)))
 rw[List.set_comm _ _ (Ne.symm hij)]at I5
 exact⟨_,H1,I5,q1⟩
def xp' (i:Nat) (te:TE) (ti:TIp):TS:=fun D σ H=>∃x,σ[i]?=some (some x)/\te σ H fun y H1=>ti x y H1 fun z H2=>D.nx (σ.set i (some z)) H2
theorem o7' {i:Nat} {x:Str} {e:Expr} {te:TE} {op:Operator} {ti:TIp} {pos':Pos} (hN:X.N.Nodup) (hi:X.N[i]?=some x) (hx:Loc X.env.scope x) (he:PE X e te) (ho:PIp X op ti) (hf:X.fn x=true\/X.env.scope.names.lookup x=some .local:=by first|exact .inl rfl|exact .inr rfl|assumption):
  PS X (.AugAssign (.Name x pos') op e pos) (xp' i te ti):=by
 intro pins s σ H D I h
 obtain⟨v,e1,h⟩:=h
 obtain⟨m,hn,hl⟩:=I.loc
 have vis:Vis X.env.scope x:=by rcases hx with k|k;exact .inl k;exact .inr (.inl k)
 obtain⟨u,r,l⟩:=hl i x v hi e1 vis
 refine wpAny_AugAssign_Name ?_
 have go:wpAny (model X.prog X.w) X.A (eval e X.env) (fun w s₂=>wpAny (model X.prog X.w) X.A (inplaceOp op u w) (fun r s₃=>wpAny (model X.prog X.w) X.A (storeName X.env x r) (fun _=>SP X pins D .next) X.xe s₃) X.xe s₂) X.xe s:=by
  refine thn (he pins s σ H _ I h) fun w s1 ⟨y,H1,I1,r1,q1⟩=>?_
  refine thn (ho pins s1 σ H1 v y u w _ I1 r r1 q1) fun z s2 ⟨zv,H2,I2,r2,q2⟩=>?_
  exact ez' I2 hN hi hx r2 (fun s3 I3=>⟨_,H2,I3,q2⟩) hf
 rcases l with⟨hk,hm⟩|⟨hk,c,hc,hcell⟩
 .exact wpAny_loadName_local I.ok.kind hk hn hm go
 .rcases hk with hk|hk
  .exact wpAny_loadName_cell I.ok.kind hk hc hcell go
  .rcases hx with k|k
   .have:X.env.scope.names.lookup x=some .free:=hk
    rw[k]at this;cases this
   .have:X.env.scope.names.lookup x=some .free:=hk
    rw[k]at this;cases this
def ipI (f:Int->Int->Int):TIp:=fun x y H Q=>∃i j,x=.int i/\y=.int j/\Q (.int (f i j)) H
theorem s6':PIp X .Add (ipI fun i j=>i+j):=by
 intro pins s σ H x y v u Q I r1 r2 h
 obtain⟨i,j,e1,e2,q⟩:=h
 subst e1;subst e2
 obtain⟨t,rfl⟩:=r1
 obtain⟨t',rfl⟩:=r2
 exact iadd_int ⟨.int _,H,I.tok _,⟨_,rfl⟩,q⟩
theorem s7':PIp X .Sub (ipI fun i j=>i-j):=by
 intro pins s σ H x y v u Q I r1 r2 h
 obtain⟨i,j,e1,e2,q⟩:=h
 subst e1;subst e2
 obtain⟨t,rfl⟩:=r1
 obtain⟨t',rfl⟩:=r2
 exact isub_int ⟨.int _,H,I.tok _,⟨_,rfl⟩,q⟩
end
section
variable {X:Cx} {pos:Pos}
def kg' (c:TT) (tb:TS):TS:=fun D σ H=>∃W:Nat->St->Hp->Prop,(∃m,W m σ H)/\∀m σ H,W m σ H->
 c σ H fun b H1=>if b=true then ∃N:St->Hp->Prop,(∀σ' H',N σ' H'->∃m',m'<m/\W m' σ' H')/\tb { D with nx:=N,ct:=N,bk:=D.nx } σ H1 else D.nx σ H1
theorem m8' {c:Expr} {body:List Stmt} {tc:TT} {tb:TS} (hp:PassesOwn (model X.prog X.w) X.A X.env X.xe) (hc:PT X c tc) (hb:PSs X body tb):PS X (.While c body [] pos) (kg' tc tb):=by
 intro pins s σ H D I h
 obtain⟨W,⟨m0,w0⟩,turn⟩:=h
 refine wpAny_While (codeAny_whileLoop (fun n s'=>∃σ' H',Inv X pins σ' H' s'/\W n σ' H') ?_ m0 ⟨σ,H,I,w0⟩)
 rintro n s1 ⟨σ1,H1,I1,w1⟩
 refine cv hp (thn (hc pins s1 σ1 H1 _ I1 (turn n σ1 H1 w1)) fun b s2 ⟨H2,I2,q2⟩=>?_)
 cases b with
 |true=>
  obtain⟨N,hN,q2⟩:=q2
  rw[if_pos rfl]
  refine cv hp (thn (hb pins s2 σ1 H2 _ I2 q2) fun f s3 q3=>?_)
  cases f with
  |next=>
   obtain⟨σ3,H3,I3,n3⟩:=q3
   obtain⟨m',hm,w3⟩:=hN σ3 H3 n3
   exact⟨m',hm,σ3,H3,I3,w3⟩
  |cont=>
   obtain⟨σ3,H3,I3,n3⟩:=q3
   obtain⟨m',hm,w3⟩:=hN σ3 H3 n3
   exact⟨m',hm,σ3,H3,I3,w3⟩
  |brk=>exact q3
  |ret v=>exact q3
 |false=>
  rw[if_neg am]
  exact wpAny_execs_nil ⟨σ1,H2,I2,q2⟩
end
structure It where
 go:Nat->Hp->Prop
 yld:Nat->Hp->V->Hp->Prop
 stop:Nat->Hp->Prop
def dz' (X:Cx) (pins:List (Addr×Obj)) (H:Hp) (b:Addr):Prop:=
 H b=none/\b≠X.env.locals/\b∉X.fs/\(b∈X.ex\/X.s₀.heap.objs.size<=b)/\(∀x c,X.env.cells.lookup x=some c->c≠b)/\∀p∈X.pn++pins,p.1≠b
theorem Inv.fpOk {X:Cx} {pins:List (Addr×Obj)} {σ:St} {H H':Hp} {s:Shared} {b:Addr} (I:Inv X pins σ H s) (hb:s.heap.objs.size<=b) (hn:H' b=none):dz' X pins H' b:=by
 refine⟨hn,Nat.ne_of_gt (aD I.lt hb),I.nofs hb,.inr (ay I.sz hb),fun x c e z=>?_,fun p hp z=>?_⟩
 .obtain⟨v,q⟩:=I.cell x c e
  exact absurd (aD q.lt (by rw[z];exact hb)) (aU _)
 .exact absurd (aD (av (I.pin p hp).1) (by rw[z];exact hb)) (aU _)
structure Turn (P:Program) (w:World) (K:W.Frag) (tg:Expr) (J:It) (fp:List Addr) (it:Addr) (tn:Nat->Heap->Prop):Prop where
 mem:it∈fp
 obj:∀i h,tn i h->∀b∈fp,∃o,h.get? b=some o/\∀v,o.data≠.cell v
 keep:∀i h h',tn i h->(∀b∈fp,∀o,h.get? b=some o->h'.get? b=some o)->tn i h'
 item:∀(X:Cx),X.prog=P->X.w=w->X.K=K->X.calm=true->∀(i:Nat) (pins:List (Addr×Obj)) (s:Shared) (σ:St) (H:Hp) (E:Value->Shared->Prop),Inv X pins σ H s->(∀b∈fp,dz' X pins H b)->tn i s.heap->J.go i H->
  wpAny (model P w) X.A (pyNext (.ref it)) (fun r s1=>∃u,r=some u/\
   wpAny (model P w) X.A (letOwnedTupleGo tg (.ref it) u) (fun _ s2=>∃x H',Inv X pins σ H' s2/\aJ' x u/\J.yld i H x H'/\tn (i+1) s2.heap/\∀b∈fp,H' b=none) E s1) E s
 done:∀(X:Cx),X.prog=P->X.w=w->X.K=K->X.calm=true->∀(i:Nat) (pins:List (Addr×Obj)) (s:Shared) (σ:St) (H:Hp) (E:Value->Shared->Prop),Inv X pins σ H s->(∀b∈fp,dz' X pins H b)->tn i s.heap->J.stop i H->
  wpAny (model P w) X.A (pyNext (.ref it)) (fun r s1=>r=none/\Inv X pins σ H s1) E s
 self:∀(A:Around) (i:Nat) (s:Shared) (Q:Value->Shared->Prop) (E:Value->Shared->Prop),tn i s.heap->Q (.ref it) s->wpAny (model P w) A (pyIter (.ref it)) Q E s
abbrev TI:=St->Hp->(It->Hp->Prop)->Prop
def PIE (X:Cx) (pins:List (Addr×Obj)) (σ:St) (tg:Expr) (R:It->Hp->Prop) (itv:Value) (s2:Shared):Prop:=
 ∃(it:Addr) (fp:List Addr) (tn:Nat->Heap->Prop) (J:It) (H':Hp),itv=.ref it/\Inv X pins σ H' s2/\Turn X.prog X.w X.K tg J fp it tn/\tn 0 s2.heap/\(∀b∈fp,dz' X pins H' b)/\R J H'
def PI (X:Cx) (tg iter:Expr) (wi:TI):Prop:=
 ∀(pins:List (Addr×Obj)) (s:Shared) (σ:St) (H:Hp) (R:It->Hp->Prop),Inv X pins σ H s->wi σ H R->
  wpAny (model X.prog X.w) X.A (eval iter X.env) (fun v s1=>wpAny (model X.prog X.w) X.A (pyIter v) (PIE X pins σ tg R) X.xe s1) X.xe s
theorem jv' {M:Model} {A:Around} {E:Value->Shared->Prop} {s:Shared} {tg:Expr} {it:Addr} {u:Value} {o:Obj} {n:String} {vs:Array Value} {Q:Unit->Shared->Prop} (ho:s.heap.get? it=some o) (hc:o.cls=.type n) (hd:o.data=.fields vs)
  (hn:["enumerate","zip","dict_itemiterator","dict_reverseitemiterator","odict_iterator","itertools.zip_longest","itertools.pairwise"].contains n=false) (hQ:Q () s):wpAny M A (letOwnedTupleGo tg (.ref it) u) Q E s:=by
 unfold letOwnedTupleGo
 cases tg<;>first
  |exact ag hQ
  |(cases u<;>first
    |exact ag hQ
    |(refine aa (wpAny_load ho ?_)
      rw[hc,hd]
      show wpAny M A (if(["enumerate","zip","dict_itemiterator","dict_reverseitemiterator","odict_iterator","itertools.zip_longest","itertools.pairwise"].contains n&&vs[0]? == some (rawInt _))=true then _ else _) Q E s
      rw[if_neg (by intro h;rw[hn,Bool.false_and]at h;cases h)]
      exact ag hQ))
def Itl (K:W.Frag) (a:Addr):It:=
 ⟨fun i H=>∃xs x,SqL K H a xs/\xs[i]?=some x,fun i H x H'=>H'=H/\∀xs,SqL K H a xs->xs[i]?=some x,fun i H=>∃xs,SqL K H a xs/\xs.length<=i⟩
def Itt (K:W.Frag) (a:Addr):It:=
 ⟨fun i H=>∃xs x,SqT K H a xs/\xs[i]?=some x,fun i H x H'=>H'=H/\∀xs,SqT K H a xs->xs[i]?=some x,fun i H=>∃xs,SqT K H a xs/\xs.length<=i⟩
def Itr (lo:Int) (n:Nat):It:=⟨fun i _=>i<n,fun i H x H'=>H'=H/\x=.int (lo+i),fun i _=>n<=i⟩
theorem kh' {P:Program} {w:World} {K:W.Frag} {tg:Expr} (a it:Addr):Turn P w K tg (Itl K a) [it] it (fun i h=>h.IsListIter it a i) where
 mem:=by simp
 obj:=fun i h st b hb=>by
  have e:b=it:=by simpa using hb
  subst e
  obtain⟨o,e,c,d⟩:=st
  exact⟨o,e,fun v z=>by rw[d]at z;cases z⟩
 keep:=fun i h h' st k=>st.at fun o e=>k it (by simp) o e
 item:=by
  intro X hP hw hK hc i pins s σ H E I hf st hg
  subst hP hw hK
  obtain⟨xs,x,hq,hx⟩:=hg
  obtain⟨its,rv,p,hz⟩:=I.list hq
  obtain⟨u,hu,ru⟩:=rv.get hx
  obtain⟨f0,f1,f2,f3,f4,f5⟩:=hf it (by simp)
  refine wpAny_pyNext_list_item st p.isList (x:=u) (by simpa using hu) fun h' st' sb=>?_
  have I1:Inv X pins σ H { s with heap:=h' }:=I.turned (t':=s.toks) (fun b o hb e=>(sb.2 b hb).trans e) f0 f1 f3 f4 f5
  obtain⟨o,e,c,d⟩:=id st'
  exact⟨u,rfl,jv' (s:={ s with heap:=h' }) e c d (by decide) ⟨x,H,I1,ru,⟨rfl,fun ys hy=>by rw[I.list_inj hy hq];exact hx⟩,st',fun b hb=>(hf b hb).1⟩⟩
 done:=by
  intro X hP hw hK hc i pins s σ H E I hf st hg
  subst hP hw hK
  obtain⟨xs,hq,hx⟩:=hg
  obtain⟨its,rv,p,hz⟩:=I.list hq
  obtain⟨f0,f1,f2,f3,f4,f5⟩:=hf it (by simp)
  have hl:=rv.length
  exact wpAny_pyNext_list_end (I.ok.hd hc) st p.isList (by simp;omega) fun h' eb=>⟨rfl,I.turned (t':=s.toks) (fun b o hb e=>eb b o hb e) f0 f1 f3 f4 f5⟩
 self:=fun _ _ _ _ _ st h=>wpAny_pyIter_listiter st h
theorem jw' {P:Program} {w:World} {K:W.Frag} {tg:Expr} (a it:Addr):Turn P w K tg (Itt K a) [it] it (fun i h=>h.IsTupleIter it a i) where
 mem:=by simp
 obj:=fun i h st b hb=>by
  have e:b=it:=by simpa using hb
  subst e
  obtain⟨o,e,c,d⟩:=st
  exact⟨o,e,fun v z=>by rw[d]at z;cases z⟩
 keep:=fun i h h' st k=>st.at fun o e=>k it (by simp) o e
 item:=by
  intro X hP hw hK hc i pins s σ H E I hf st hg
  subst hP hw hK
  obtain⟨xs,x,hq,hx⟩:=hg
  obtain⟨its,rv,p,hz⟩:=I.tuple hq
  obtain⟨u,hu,ru⟩:=rv.get hx
  obtain⟨f0,f1,f2,f3,f4,f5⟩:=hf it (by simp)
  refine wpAny_pyNext_tuple_item st (show s.heap.IsTuple a its.toArray from p) (x:=u) (by simpa using hu) fun h' st' sb=>?_
  have I1:Inv X pins σ H { s with heap:=h' }:=I.turned (t':=s.toks) (fun b o hb e=>(sb.2 b hb).trans e) f0 f1 f3 f4 f5
  obtain⟨o,e,c,d⟩:=id st'
  exact⟨u,rfl,jv' (s:={ s with heap:=h' }) e c d (by decide) ⟨x,H,I1,ru,⟨rfl,fun ys hy=>by rw[I.tuple_inj hy hq];exact hx⟩,st',fun b hb=>(hf b hb).1⟩⟩
 done:=by
  intro X hP hw hK hc i pins s σ H E I hf st hg
  subst hP hw hK
  obtain⟨xs,hq,hx⟩:=hg
  obtain⟨its,rv,p,hz⟩:=I.tuple hq
  obtain⟨f0,f1,f2,f3,f4,f5⟩:=hf it (by simp)
  have hl:=rv.length
  exact wpAny_pyNext_tuple_end (I.ok.hd hc) st (show s.heap.IsTuple a its.toArray from p) (by simp;omega) fun h' eb=>⟨rfl,I.turned (t':=s.toks) (fun b o hb e=>eb b o hb e) f0 f1 f3 f4 f5⟩
 self:=fun _ _ _ _ _ st h=>wpAny_pyIter_tupleiter st h
theorem jx' {P:Program} {w:World} {K:W.Frag} {tg:Expr} (it:Addr) (lo:Int) (n:Nat):Turn P w K tg (Itr lo n) [it] it (fun i h=>IsRangeIter h it (lo+(i:Nat)*1) ((n:Int)-(i:Nat)) 1) where
 mem:=by simp
 obj:=fun i h st b hb=>by
  have e:b=it:=by simpa using hb
  subst e
  exact⟨_,st,fun v z=>by
   have z':Data.fields _=Data.cell v:=z
   cases z'⟩
 keep:=fun i h h' st k=>k it (by simp) _ st
 item:=by
  intro X hP hw hK hc i pins s σ H E I hf st hg
  subst hP hw hK
  obtain⟨f0,f1,f2,f3,f4,f5⟩:=hf it (by simp)
  have W:=Walks.range (prog:=X.prog) (w:=X.w) (I.ok.hd hc) it lo 1 n
  refine W.item i s _ _ hg st fun v h' tk hv st' kk=>?_
  obtain⟨t,rfl⟩:=hv
  have I1:Inv X pins σ H { s with heap:=h',toks:=tk }:=I.turned (fun b o hb e=>kk b o (by simpa using hb) e) f0 f1 f3 f4 f5
  refine⟨_,rfl,jv' (s:={ s with heap:=h',toks:=tk }) (n:="range_iterator") st' rfl rfl (by decide) ⟨.int (lo+i),H,I1,⟨t,?_⟩,⟨rfl,rfl⟩,st',fun b hb=>(hf b hb).1⟩⟩
  rw[Int.mul_one]
 done:=by
  intro X hP hw hK hc i pins s σ H E I hf st hg
  subst hP hw hK
  obtain⟨f0,f1,f2,f3,f4,f5⟩:=hf it (by simp)
  exact wpAny_pyNext_range_end (I.ok.hd hc) st (by have:n<=i:=hg;omega) fun h' eb=>⟨rfl,I.turned (t':=s.toks) (fun b o hb e=>eb b o hb e) f0 f1 f3 f4 f5⟩
 self:=fun _ _ _ _ _ st h=>wpAny_pyIter_rangeiter st h
section
variable {X:Cx} {tg:Expr}
theorem iT' {pins:List (Addr×Obj)} {σ:St} {H:Hp} {s:Shared} {R:It->Hp->Prop} {E:Value->Shared->Prop} {lo hi:Int} {t u v:Tok} {tk:Nat} (I:Inv X pins σ H s) (h1:-(2 ^ 62)<=lo) (h2:lo<2 ^ 62) (h3:-(2 ^ 62)<=hi) (h4:hi<2 ^ 62)
  (q:R (Itr lo (hi-lo).toNat) H):wpAny (model X.prog X.w) X.A (pyIter (.ref s.heap.objs.size)) (PIE X pins σ tg R) E { s with heap:=s.heap.push { cls:=.type "range",data:=.fields #[.int lo t,.int hi u,.int 1 v] },toks:=tk }:=by
 refine wpAny_pyIter_range (IsRange.new ..) (small_one h1 h2 h3 h4) ?_
 have I1:Inv X pins σ H { s with heap:=s.heap.push { cls:=.type "range",data:=.fields #[.int lo t,.int hi u,.int 1 v] },toks:=tk }:=I.kept fun b o e=>ah _ e
 refine⟨(s.heap.push { cls:=.type "range",data:=.fields #[.int lo t,.int hi u,.int 1 v] }).objs.size,[(s.heap.push { cls:=.type "range",data:=.fields #[.int lo t,.int hi u,.int 1 v] }).objs.size],_,_,H,rfl,
  I1.kept (t':=tk) fun b o e=>ah _ e,jx' _ lo (hi-lo).toNat,?_,fun b hb=>?_,q⟩
 .have e1:lo+((0:Nat):Int)*1=lo:=by simp
  have e2:(((hi-lo).toNat:Nat):Int)-((0:Nat):Int)=Builtin.Range.rangeSize lo hi 1:=by rw[rangeSize_one];split<;>omega
  show IsRangeIter _ _ (lo+((0:Nat):Int)*1) ((((hi-lo).toNat:Nat):Int)-((0:Nat):Int)) 1
  rw[e1,e2]
  exact ao _ rfl
 .have e:b=(s.heap.push { cls:=.type "range",data:=.fields #[.int lo t,.int hi u,.int 1 v] }).objs.size:=by simpa using hb
  subst e
  exact I1.fpOk (ae _) (I1.hok.fresh (ae _))
def p6' (ta:TA):TI:=fun σ H R=>ta σ H fun vs H1=>∃j:Int,vs=[.int j]/\-(2 ^ 62)<=j/\j<2 ^ 62/\R (Itr 0 j.toNat) H1
def p7' (ta:TA):TI:=fun σ H R=>ta σ H fun vs H1=>∃i j:Int,vs=[.int i,.int j]/\(-(2 ^ 62)<=i/\i<2 ^ 62/\-(2 ^ 62)<=j/\j<2 ^ 62)/\R (Itr i (j-i).toNat) H1
theorem ki' {a:Expr} {ta:TA} {p pos:Pos} (hg:Gl X "range") (hm:X.mg "range"=none) (ha:PA X [a] ta) (hs:starEach [a] X.env=[(false,eval a X.env)]:=by rfl):PI X tg (.Call (.Name "range" p) [a] [] pos) (p6' ta):=by
 intro pins s σ H R I h
 refine Call_ (ei' I hg hm boot_range (PyProof.Rows.callWith_type1 (thn (ha pos pins s σ H _ I h) fun us s1 ⟨vs,H1,I1,r1,q1⟩=>?_) hs rfl))
 obtain⟨j,e,q1,q2,q⟩:=q1
 subst e
 cases r1 with
 |cons r rr=>
  cases rr
  obtain⟨t,rfl⟩:=r
  exact call_range_1 (iT' I1 (by omega) (by omega) q1 q2 (by simpa using q))
theorem kj' {a b:Expr} {ta:TA} {p pos:Pos} (hg:Gl X "range") (hm:X.mg "range"=none) (ha:PA X [a,b] ta) (hs:starEach [a,b] X.env=[(false,eval a X.env),(false,eval b X.env)]:=by rfl) (hs2:starEach [b] X.env=[(false,eval b X.env)]:=by rfl):
  PI X tg (.Call (.Name "range" p) [a,b] [] pos) (p7' ta):=by
 intro pins s σ H R I h
 refine Call_ (ei' I hg hm boot_range (PyProof.Rows.callWith_type1 (thn (ha pos pins s σ H _ I h) fun us s1 ⟨vs,H1,I1,r1,q1⟩=>?_) (by rw[hs,hs2]) (by rw[hs2];rfl)))
 obtain⟨i,j,e,⟨q1,q2,q3,q4⟩,q⟩:=q1
 subst e
 cases r1 with
 |cons r rr=>
  cases rr with
  |cons r' rr=>
   cases rr
   obtain⟨t,rfl⟩:=r
   obtain⟨t',rfl⟩:=r'
   exact call_range_2 (iT' I1 q1 q2 q3 q4 q)
def xq' (wi:TI) (g:TG) (tb:TS):TS:=fun D σ H=>wi σ H fun J H1=>∃W:Nat->Nat->St->Hp->Prop,(∃m,W 0 m σ H1)/\∀i m σ H,W i m σ H->
 (J.stop i H/\D.nx σ H)\/(J.go i H/\∃N:St->Hp->Prop,(∀σ' H',N σ' H'->∃m',m'<m/\W (i+1) m' σ' H')/\∀x H',J.yld i H x H'->g x σ H' fun σ2 H2=>tb { D with nx:=N,ct:=N,bk:=D.nx } σ2 H2)
def b4' (fp:List Addr) (h:Heap):List (Addr×Obj):=fp.filterMap fun b=>(h.get? b).map fun o=>(b,o)
theorem aD' {fp:List Addr} {h:Heap} {b:Addr} {o:Obj} (hb:b∈fp) (e:h.get? b=some o):(b,o)∈b4' fp h:=List.mem_filterMap.mpr ⟨b,hb,by rw[e];rfl⟩
theorem eL' {fp:List Addr} {h:Heap} {p:Addr×Obj} (hp:p∈b4' fp h):p.1∈fp/\h.get? p.1=some p.2:=by
 obtain⟨b,hb,e⟩:=List.mem_filterMap.mp hp
 cases q:h.get? b with
 |none=>rw[q]at e;cases e
 |some o=>
  rw[q]at e
  have e':(b,o)=p:=Option.some.inj e
  subst e'
  exact⟨hb,q⟩
theorem Inv.pinned {pins:List (Addr×Obj)} {σ:St} {H:Hp} {s:Shared} {fp:List Addr} (I:Inv X pins σ H s) (hf:∀b∈fp,dz' X pins H b) (ho:∀b∈fp,∃o,s.heap.get? b=some o/\∀v,o.data≠.cell v):Inv X (pins++b4' fp s.heap) σ H s:=
 I.pins_of fun p hp=>(aT.mp hp).elim (fun z=>I.pin p (aj _ z)) fun z=>by
  obtain⟨hb,e⟩:=eL' z
  obtain⟨f0,f1,f2,_⟩:=hf p.1 hb
  obtain⟨o,e',d⟩:=ho p.1 hb
  rw[e]at e';cases e'
  exact⟨e,f0,f1,f2,d⟩
theorem Inv.unpinned {pins pl:List (Addr×Obj)} {σ:St} {H:Hp} {s:Shared} (I:Inv X (pins++pl) σ H s):Inv X pins σ H s:=I.pins_of fun p hp=>I.pin p (aj _ (bf _ hp))
theorem s8' {iter:Expr} {body:List Stmt} {wi:TI} {g:TG} {tb:TS} {pos:Pos} (hp:PassesOwn (model X.prog X.w) X.A X.env X.xe) (hc:X.calm=true) (hi:PI X tg iter wi) (hg:PG X tg g) (hb:PSs X body tb)
  (hs:∀x,foldedSetIterable iter X.env x=pure x:=by intro _;rfl):PS X (.For tg iter body [] pos) (xq' wi g tb):=by
 intro pins s σ H D I h
 refine wpAny_For (thn (hi pins s σ H _ I h) fun v s1 h1=>thn h1 fun itv s2 h2=>?_) hs
 obtain⟨it,fp,tn,J,H2,e,I2,T,st2,f2,W,⟨m0,w0⟩,turn⟩:=h2
 subst e
 have stat:∀{H':Hp},(∀b∈fp,H' b=none)->∀b∈fp,dz' X pins H' b:=fun hn b hb=>⟨hn b hb,(f2 b hb).2⟩
 refine codeAny_forLoop_any (fun n s'=>∃i σ' H',Inv X pins σ' H' s'/\tn i s'.heap/\(∀b∈fp,H' b=none)/\W i n σ' H') ?_ m0 ⟨0,σ,H2,I2,st2,fun b hb=>(f2 b hb).1,w0⟩
 rintro n s3 ⟨i,σ3,H3,I3,st3,fr3,w3⟩
 rcases turn i n σ3 H3 w3 with⟨stop,qn⟩|⟨go,N,hN,step⟩
 .refine cv hp (thn (T.done X rfl rfl rfl hc i pins s3 σ3 H3 X.xe I3 (stat fr3) st3 stop) fun r s4 ⟨hr,I4⟩=>?_)
  subst hr
  exact wpAny_execs_nil ⟨σ3,H3,I4,qn⟩
 .refine cv hp (thn (T.item X rfl rfl rfl hc i pins s3 σ3 H3 X.xe I3 (stat fr3) st3 go) fun r s4 ⟨u,hr,h4⟩=>?_)
  subst hr
  refine cv hp (thn h4 fun _ s5 ⟨x,H5,I5,r5,y5,st5,fr5⟩=>?_)
  have I5':=I5.pinned (stat fr5) (T.obj _ _ st5)
  refine cv hp (thn (hg _ s5 σ3 H5 x u _ I5' r5 (step x H5 y5)) fun _ s6 ⟨σ6,H6,I6,q6⟩=>?_)
  refine cv hp (thn (hb _ s6 σ6 H6 _ I6 q6) fun f s7 q7=>?_)
  have again:∀{σ7:St} {H7:Hp},Inv X (pins++b4' fp s5.heap) σ7 H7 s7->N σ7 H7->∃m,m<n/\∃i σ' H',Inv X pins σ' H' s7/\tn i s7.heap/\(∀b∈fp,H' b=none)/\W i m σ' H':=fun {σ7 H7} I7 n7=>by
   obtain⟨m',hm,w7⟩:=hN σ7 H7 n7
   refine⟨m',hm,i+1,σ7,H7,I7.unpinned,T.keep _ _ _ st5 fun b hb o e=>(I7.pin (b,o) (aj _ (aj _ (aD' hb e)))).1,fun b hb=>?_,w7⟩
   obtain⟨o,e,d⟩:=T.obj _ _ st5 b hb
   exact(I7.pin (b,o) (aj _ (aj _ (aD' hb e)))).2.1
  cases f with
  |next=>obtain⟨σ7,H7,I7,n7⟩:=q7;exact again I7 n7
  |cont=>obtain⟨σ7,H7,I7,n7⟩:=q7;exact again I7 n7
  |brk=>obtain⟨σ7,H7,I7,q7⟩:=q7;exact⟨σ7,H7,I7.unpinned,q7⟩
  |ret v=>obtain⟨x7,σ7,H7,I7,r7,q7⟩:=q7;exact⟨x7,σ7,H7,I7.unpinned,r7,q7⟩
end
theorem m9' {K:W.Frag} {a:Addr} {xs:List V} {g:TG} {tb:TS} {D:Ends} {σ:St} {H:Hp} (Pv:Nat->St->Hp->Prop) (h0:Pv 0 σ H) (hl:∀i σ H,i<=xs.length->Pv i σ H->SqL K H a xs)
  (hs:∀i x σ H,xs[i]?=some x->Pv i σ H->g x σ H fun σ2 H2=>tb { D with nx:=Pv (i+1),ct:=Pv (i+1),bk:=D.nx } σ2 H2) (hd:∀σ H,Pv xs.length σ H->D.nx σ H):
  ∃W:Nat->Nat->St->Hp->Prop,(∃m,W 0 m σ H)/\∀i m σ H,W i m σ H->
   ((Itl K a).stop i H/\D.nx σ H)\/((Itl K a).go i H/\∃N:St->Hp->Prop,(∀σ' H',N σ' H'->∃m',m'<m/\W (i+1) m' σ' H')/\∀x H',(Itl K a).yld i H x H'->g x σ H' fun σ2 H2=>tb { D with nx:=N,ct:=N,bk:=D.nx } σ2 H2):=by
 refine⟨fun i m σ H=>m=xs.length-i/\i<=xs.length/\Pv i σ H,⟨xs.length,by simp,aM _,h0⟩,?_⟩
 rintro i m σ H ⟨rfl,hi,p⟩
 have q:=hl i σ H hi p
 by_cases hlt:i<xs.length
 .refine .inr ⟨⟨xs,xs[i],q,by simp[hlt]⟩,Pv (i+1),fun σ' H' p'=>⟨xs.length-(i+1),by omega,rfl,hlt,p'⟩,fun x H' y=>?_⟩
  obtain⟨e,y⟩:=y
  subst e
  exact hs i x σ _ (y xs q) p
 .have e:i=xs.length:=by omega
  subst e
  exact .inl ⟨⟨xs,q,ae _⟩,hd σ H p⟩
theorem kk' {lo:Int} {n:Nat} {g:TG} {tb:TS} {D:Ends} {σ:St} {H:Hp} (Pv:Nat->St->Hp->Prop) (h0:Pv 0 σ H)
  (hs:∀i σ H,i<n->Pv i σ H->g (.int (lo+i)) σ H fun σ2 H2=>tb { D with nx:=Pv (i+1),ct:=Pv (i+1),bk:=D.nx } σ2 H2) (hd:∀σ H,Pv n σ H->D.nx σ H):
  ∃W:Nat->Nat->St->Hp->Prop,(∃m,W 0 m σ H)/\∀i m σ H,W i m σ H->
   ((Itr lo n).stop i H/\D.nx σ H)\/((Itr lo n).go i H/\∃N:St->Hp->Prop,(∀σ' H',N σ' H'->∃m',m'<m/\W (i+1) m' σ' H')/\∀x H',(Itr lo n).yld i H x H'->g x σ H' fun σ2 H2=>tb { D with nx:=N,ct:=N,bk:=D.nx } σ2 H2):=by
 refine⟨fun i m σ H=>m=n-i/\i<=n/\Pv i σ H,⟨n,by simp,aM _,h0⟩,?_⟩
 rintro i m σ H ⟨rfl,hi,p⟩
 by_cases hlt:i<n
 .refine .inr ⟨hlt,Pv (i+1),fun σ' H' p'=>⟨n-(i+1),by omega,rfl,hlt,p'⟩,fun x H' y=>?_⟩
  obtain⟨e,y⟩:=y
  subst e y
  exact hs i σ _ hlt p
 .have e:i=n:=by omega
  subst e
  exact .inl ⟨ae _,hd σ H p⟩
abbrev R2:=V->V->Hp->VK->Prop
def OpR (X:Cx) (f:Value->Value->Sem Value) (r:R2):Prop:=
 ∀(pins:List (Addr×Obj)) (s:Shared) (σ:St) (H:Hp) (x y:V) (v u:Value) (Q:VK),Inv X pins σ H s->aJ' x v->aJ' y u->r x y H Q->
  wpAny (model X.prog X.w) X.A (f v u) (EP X pins σ Q) X.xe s
def UnR (X:Cx) (f:Value->Sem Value) (r:V->Hp->VK->Prop):Prop:=
 ∀(pins:List (Addr×Obj)) (s:Shared) (σ:St) (H:Hp) (x:V) (v:Value) (Q:VK),Inv X pins σ H s->aJ' x v->r x H Q->
  wpAny (model X.prog X.w) X.A (f v) (EP X pins σ Q) X.xe s
def bl' (X:Cx) (f:Value) (r:List V->Hp->VK->Prop):Prop:=
 ∀(pins:List (Addr×Obj)) (s:Shared) (σ:St) (H:Hp) (xs:List V) (us:List Value) (Q:VK),Inv X pins σ H s->aE' xs us->r xs H Q->
  wpAny (model X.prog X.w) X.A (call f us) (EP X pins σ Q) X.xe s
def Ap' (X:Cx) (r:V->Hp->(Bool->Hp->Prop)->Prop):Prop:=
 ∀(pins:List (Addr×Obj)) (s:Shared) (σ:St) (H:Hp) (x:V) (v:Value) (Q:Bool->Hp->Prop),Inv X pins σ H s->aJ' x v->r x H Q->
  wpAny (model X.prog X.w) X.A (truthy v) (TP X pins σ Q) X.xe s
def tOp (r:R2) (ta tb:TE):TE:=fun σ H Q=>ta σ H fun x H1=>tb σ H1 fun y H2=>r x y H2 Q
def tUn (r:V->Hp->VK->Prop) (ta:TE):TE:=fun σ H Q=>ta σ H fun x H1=>r x H1 Q
def rI (C:Int->Int->Prop) (g:Int->Int->V):R2:=fun x y H Q=>∃i j,x=.int i/\y=.int j/\C i j/\Q (g i j) H
def rI0 (g:Int->Int->V):R2:=fun x y H Q=>∃i j,x=.int i/\y=.int j/\Q (g i j) H
def rU (g:Int->V):V->Hp->VK->Prop:=fun x H Q=>∃i,x=.int i/\Q (g i) H
section
variable {X:Cx} {a b c:Expr} {ta tb tc:TE} {pos:Pos}
theorem xr' (ha:PE X a ta) (hb:PE X b tb) {pins:List (Addr×Obj)} {s:Shared} {σ:St} {H:Hp} {R:V->V->Hp->Prop} (I:Inv X pins σ H s)
  (h:ta σ H fun x H1=>tb σ H1 fun y H2=>R x y H2) {Q:Value->Shared->Prop} {f:Value->Value->Sem Value}
  (hf:∀v u s2 x y H2,Inv X pins σ H2 s2->aJ' x v->aJ' y u->R x y H2->wpAny (model X.prog X.w) X.A (f v u) Q X.xe s2):
  wpAny (model X.prog X.w) X.A (eval a X.env) (fun v s₁=>wpAny (model X.prog X.w) X.A (eval b X.env) (fun u s₂=>wpAny (model X.prog X.w) X.A (f v u) Q X.xe s₂) X.xe s₁) X.xe s:=by
 refine thn (ha pins s σ H _ I h) fun v s1 ⟨x,H1,I1,r1,q1⟩=>?_
 refine thn (hb pins s1 σ H1 _ I1 q1) fun u s2 ⟨y,H2,I2,r2,q2⟩=>?_
 exact hf v u s2 x y H2 I2 r1 r2 q2
theorem xs' {op:Operator} {r:R2} (ho:OpR X (binaryOp op) r) (ha:PE X a ta) (hb:PE X b tb):PE X (.BinOp a op b pos) (tOp r ta tb):=by
 intro pins s σ H Q I h
 exact wpAny_BinOp (xr' ha hb I h fun v u s2 x y H2 I2 rx ry q=>ho pins s2 σ H2 x y v u Q I2 rx ry q)
theorem xt' {op:UnaryOp} {r:V->Hp->VK->Prop} (ho:UnR X (unaryOp op) r) (ha:PE X a ta):PE X (.UnaryOp op a pos) (tUn r ta):=by
 intro pins s σ H Q I h
 exact UnaryOp_ (thn (ha pins s σ H _ I h) fun v s1 ⟨x,H1,I1,r1,q1⟩=>ho pins s1 σ H1 x v Q I1 r1 q1)
theorem opI {f:Value->Value->Sem Value} {C:Int->Int->Prop} {g:Int->Int->Int}
  (rule:∀(i j:Int) (t u:Tok) (s:Shared) (Q:Value->Shared->Prop) (E:Value->Shared->Prop),C i j->Q (.int (g i j) s.toks) { s with toks:=s.toks+1 }->wpAny (model X.prog X.w) X.A (f (.int i t) (.int j u)) Q E s):
  OpR X f (rI C fun i j=>.int (g i j)):=by
 intro pins s σ H x y v u Q I rx ry h
 obtain⟨i,j,rfl,rfl,hc,q⟩:=h
 obtain⟨t,rfl⟩:=rx
 obtain⟨t',rfl⟩:=ry
 exact rule i j t t' s _ _ hc ⟨.int (g i j),H,I.tok _,⟨_,rfl⟩,q⟩
theorem xu' {f:Value->Value->Sem Value} {g:Int->Int->Int}
  (rule:∀(i j:Int) (t u:Tok) (s:Shared) (Q:Value->Shared->Prop) (E:Value->Shared->Prop),Q (.int (g i j) s.toks) { s with toks:=s.toks+1 }->wpAny (model X.prog X.w) X.A (f (.int i t) (.int j u)) Q E s):
  OpR X f (rI0 fun i j=>.int (g i j)):=by
 intro pins s σ H x y v u Q I rx ry h
 obtain⟨i,j,rfl,rfl,q⟩:=h
 obtain⟨t,rfl⟩:=rx
 obtain⟨t',rfl⟩:=ry
 exact rule i j t t' s _ _ ⟨.int (g i j),H,I.tok _,⟨_,rfl⟩,q⟩
theorem wV' {f:Value->Value->Sem Value} {g:Int->Int->Bool}
  (rule:∀(i j:Int) (t u:Tok) (s:Shared) (Q:Value->Shared->Prop) (E:Value->Shared->Prop),Q (.bool (g i j)) s->wpAny (model X.prog X.w) X.A (f (.int i t) (.int j u)) Q E s):
  OpR X f (rI0 fun i j=>.bl (g i j)):=by
 intro pins s σ H x y v u Q I rx ry h
 obtain⟨i,j,rfl,rfl,q⟩:=h
 obtain⟨t,rfl⟩:=rx
 obtain⟨t',rfl⟩:=ry
 exact rule i j t t' s _ _ ⟨.bl (g i j),H,I,rfl,q⟩
def Aq' (i j:Int):Prop:=0<j/\j<1073741824
def xv' (i j:Int):Prop:=0<=j/\j<=1000000/\i.natAbs<2 ^ 64
def wW' (i j:Int):Prop:=(-(2 ^ 64)<i/\i<2 ^ 64)\/(-(2 ^ 64)<j/\j<2 ^ 64)
theorem wW'.ok {i j:Int} (h:wW' i j):IntMulOk i j:=by
 rcases h with⟨h1,h2⟩|⟨h1,h2⟩
 .exact .of_left (intBits_le_64 h1 h2)
 .exact .of_right (intBits_le_64 h1 h2)
theorem jy' (k:Nat):(0:Int)<=2 ^ k:=by
 rw[two_pow_cast]
 exact Int.natCast_nonneg _
theorem s9':OpR X (binaryOp .Add) (rI0 fun i j=>.int (i+j)):=xu' fun _ _ _ _ _ _ _ q=>add_int q
theorem ta':OpR X (binaryOp .Sub) (rI0 fun i j=>.int (i-j)):=xu' fun _ _ _ _ _ _ _ q=>sub_int q
theorem p8':OpR X (binaryOp .FloorDiv) (rI Aq' fun i j=>.int (i / j)):=opI fun i j _ _ _ _ _ hc q=>by
 have h1:(0:Int)<j:=hc.1
 have h2:j<1073741824:=hc.2
 exact floordiv_int (by omega) (by rw[Int.fdiv_eq_ediv_of_nonneg i (by omega)];exact q) (.inl (PyProof.noPylong_small (by omega)))
theorem tb':OpR X (binaryOp .Mod) (rI (fun _ j=>0<j) fun i j=>.int (i % j)):=opI fun i j _ _ _ _ _ hc q=>by
 have h1:(0:Int)<j:=hc
 exact mod_int' (by omega) (by rw[Int.fmod_eq_emod_of_nonneg i (by omega)];exact q)
theorem tc':OpR X (binaryOp .Pow) (rI xv' fun i j=>.int (i ^ j.toNat)):=opI fun _ _ _ _ _ _ _ hc q=>pow_int_small hc.1 hc.2.1 hc.2.2 q
theorem td':OpR X (binaryOp .RShift) (rI (fun _ j=>0<=j) fun i j=>.int (i / 2 ^ j.toNat)):=opI fun i j _ _ _ _ _ hc q=>
 rshift_int hc (by rw[Int.fdiv_eq_ediv_of_nonneg i (jy' _)];exact q)
theorem te':OpR X (binaryOp .BitAnd) (rI0 fun i j=>.int (Builtin.bitAnd i j)):=xu' fun _ _ _ _ _ _ _ q=>and_int q
theorem unI {f:Value->Sem Value} {g:Int->Int}
  (rule:∀(i:Int) (t:Tok) (s:Shared) (Q:Value->Shared->Prop) (E:Value->Shared->Prop),Q (.int (g i) s.toks) { s with toks:=s.toks+1 }->wpAny (model X.prog X.w) X.A (f (.int i t)) Q E s):
  UnR X f (rU fun i=>.int (g i)):=by
 intro pins s σ H x v Q I rx h
 obtain⟨i,rfl,q⟩:=h
 obtain⟨t,rfl⟩:=rx
 exact rule i t s _ _ ⟨.int (g i),H,I.tok _,⟨_,rfl⟩,q⟩
theorem tf':UnR X (unaryOp .USub) (rU fun i=>.int (-i)):=unI fun _ _ _ _ _ q=>neg_int q
end
def th':V->V->Bool
 | .non,.non=>true | .non,.int _=>true | .int _,.non=>true | .non,.bl _=>true | .bl _,.non=>true | .non,.str _=>true | .str _,.non=>true
 | .int _,.int _=>true | .bl _,.bl _=>true | .str _,.str _=>true | .byt _,.byt _=>true
 | .int _,.str _=>true | .str _,.int _=>true | .bl _,.str _=>true | .str _,.bl _=>true
 |_,_=>false
def rEq:R2:=fun x y H Q=>th' x y=true/\Q (.bl (decide (x=y))) H
def rNe:R2:=fun x y H Q=>th' x y=true/\Q (.bl (!decide (x=y))) H
theorem h7' {i j:Int}:decide (V.int i=V.int j)=(i == j):=by
 rw[Bool.eq_iff_iff]
 simp
theorem o8' {i j:Bool}:decide (V.bl i=V.bl j)=(i == j):=by
 rw[Bool.eq_iff_iff]
 simp
theorem kl' {i j:Str}:decide (V.str i=V.str j)=(i == j):=by
 rw[Bool.eq_iff_iff]
 simp
theorem km' {i j:Array UInt8}:decide (V.byt i=V.byt j)=(i.toList == j.toList):=by
 rw[Bool.eq_iff_iff]
 cases i
 cases j
 simp
section
variable {X:Cx} {a b c:Expr} {ta tb tc:TE} {pos:Pos}
theorem aA' {pins:List (Addr×Obj)} {σ:St} {H:Hp} {s:Shared} {Q:VK} {k k':Bool} (I:Inv X pins σ H s) (q:Q (.bl k) H) (e:k=k'):EP X pins σ Q (.bool k') s:=by
 subst e
 exact⟨.bl k,H,I,rfl,q⟩
theorem xw':OpR X (compareOp .Eq) rEq:=by
 intro pins s σ H x y v u Q I rx ry h
 obtain⟨hs,q⟩:=h
 cases x with
 |non=>
  cases rx
  cases y with
  |non=>cases ry;exact PySem.EqNone.eq_none_none (aA' I q (by simp))
  |bl j=>cases ry;exact PySem.EqNone.eq_none_bool (aA' I q (by simp))
  |int j=>obtain⟨t',rfl⟩:=ry;exact PySem.EqNone.eq_none_int (aA' I q (by simp))
  |str j=>obtain⟨t',rfl⟩:=ry;exact PySem.EqNone.eq_none_str (aA' I q (by simp))
  |_=>exact absurd (show false=true from hs) am
 |bl i=>
  cases rx
  cases y with
  |non=>cases ry;exact PySem.EqNone.eq_bool_none (aA' I q (by simp))
  |bl j=>cases ry;exact eq_bool (aA' I q o8')
  |str j=>obtain⟨t',rfl⟩:=ry;exact PySem.EqMixed.eq_bool_str (aA' I q (by simp))
  |_=>exact absurd (show false=true from hs) am
 |int i=>
  obtain⟨t,rfl⟩:=rx
  cases y with
  |non=>cases ry;exact PySem.EqNone.eq_int_none (aA' I q (by simp))
  |int j=>obtain⟨t',rfl⟩:=ry;exact eq_int (aA' I q h7')
  |str j=>obtain⟨t',rfl⟩:=ry;exact PySem.EqMixed.eq_int_str (aA' I q (by simp))
  |_=>exact absurd (show false=true from hs) am
 |str i=>
  obtain⟨t,rfl⟩:=rx
  cases y with
  |non=>cases ry;exact PySem.EqNone.eq_str_none (aA' I q (by simp))
  |bl j=>cases ry;exact PySem.EqMixed.eq_str_bool (aA' I q (by simp))
  |int j=>obtain⟨t',rfl⟩:=ry;exact PySem.EqMixed.eq_str_int (aA' I q (by simp))
  |str j=>obtain⟨t',rfl⟩:=ry;exact eq_str (aA' I q kl')
  |_=>exact absurd (show false=true from hs) am
 |byt i=>
  obtain⟨t,rfl⟩:=rx
  cases y with
  |byt j=>obtain⟨t',rfl⟩:=ry;exact W.eq_bytes (aA' I q km')
  |_=>exact absurd (show false=true from hs) am
 |_=>cases y<;>exact absurd (show false=true from hs) am
theorem xx':OpR X (compareOp .NotEq) rNe:=by
 intro pins s σ H x y v u Q I rx ry h
 obtain⟨hs,q⟩:=h
 cases x with
 |non=>
  cases rx
  cases y with
  |non=>cases ry;exact PySem.EqNone.ne_none_none (aA' I q (by simp))
  |bl j=>cases ry;exact PySem.EqNone.ne_none_bool (aA' I q (by simp))
  |int j=>obtain⟨t',rfl⟩:=ry;exact PySem.EqNone.ne_none_int (aA' I q (by simp))
  |str j=>obtain⟨t',rfl⟩:=ry;exact PySem.EqNone.ne_none_str (aA' I q (by simp))
  |_=>exact absurd (show false=true from hs) am
 |bl i=>
  cases rx
  cases y with
  |non=>cases ry;exact PySem.EqNone.ne_bool_none (aA' I q (by simp))
  |bl j=>cases ry;exact ne_bool (aA' I q (congrArg not o8'))
  |str j=>obtain⟨t',rfl⟩:=ry;exact PySem.EqMixed.ne_bool_str (aA' I q (by simp))
  |_=>exact absurd (show false=true from hs) am
 |int i=>
  obtain⟨t,rfl⟩:=rx
  cases y with
  |non=>cases ry;exact PySem.EqNone.ne_int_none (aA' I q (by simp))
  |int j=>obtain⟨t',rfl⟩:=ry;exact ne_int (aA' I q (congrArg not h7'))
  |str j=>obtain⟨t',rfl⟩:=ry;exact PySem.EqMixed.ne_int_str (aA' I q (by simp))
  |_=>exact absurd (show false=true from hs) am
 |str i=>
  obtain⟨t,rfl⟩:=rx
  cases y with
  |non=>cases ry;exact PySem.EqNone.ne_str_none (aA' I q (by simp))
  |bl j=>cases ry;exact PySem.EqMixed.ne_str_bool (aA' I q (by simp))
  |int j=>obtain⟨t',rfl⟩:=ry;exact PySem.EqMixed.ne_str_int (aA' I q (by simp))
  |str j=>obtain⟨t',rfl⟩:=ry;exact ne_str (aA' I q (congrArg not kl'))
  |_=>exact absurd (show false=true from hs) am
 |byt i=>
  obtain⟨t,rfl⟩:=rx
  cases y with
  |byt j=>obtain⟨t',rfl⟩:=ry;exact W.ne_bytes (aA' I q (congrArg not km'))
  |_=>exact absurd (show false=true from hs) am
 |_=>cases y<;>exact absurd (show false=true from hs) am
theorem xy':OpR X (compareOp .Lt) (rI0 fun i j=>.bl (decide (i<j))):=wV' fun _ _ _ _ _ _ _ q=>lt_int q
theorem xz':OpR X (compareOp .LtE) (rI0 fun i j=>.bl (decide (i<=j))):=wV' fun _ _ _ _ _ _ _ q=>le_int q
theorem xA':OpR X (compareOp .Gt) (rI0 fun i j=>.bl (decide (j<i))):=wV' fun _ _ _ _ _ _ _ q=>gt_int q
theorem xB':OpR X (compareOp .GtE) (rI0 fun i j=>.bl (decide (j<=i))):=wV' fun _ _ _ _ _ _ _ q=>ge_int q
theorem ti':OpR X (compareOp .Is) (fun x y H Q=>y=.non/\Q (.bl (decide (x=.non))) H):=by
 intro pins s σ H x y v u Q I rx ry h
 obtain⟨rfl,q⟩:=h
 cases ry
 refine is_none_gen (aA' I q ?_)
 cases x<;>first
  |(cases rx;rfl)
  |(obtain⟨t,rfl⟩:=rx;rfl)
theorem p9':OpR X (compareOp .IsNot) (fun x y H Q=>y=.non/\Q (.bl (!decide (x=.non))) H):=by
 intro pins s σ H x y v u Q I rx ry h
 obtain⟨rfl,q⟩:=h
 cases ry
 refine isnot_none_gen (aA' I q ?_)
 cases x<;>first
  |(cases rx;rfl)
  |(obtain⟨t,rfl⟩:=rx;rfl)
theorem OpR.or {f:Value->Value->Sem Value} {r r':R2} (h:OpR X f r) (h':OpR X f r'):OpR X f (fun x y H Q=>r x y H Q\/r' x y H Q):=by
 intro pins s σ H x y v u Q I rx ry q
 rcases q with q|q
 .exact h pins s σ H x y v u Q I rx ry q
 .exact h' pins s σ H x y v u Q I rx ry q
theorem qa' {op:CmpOp} {r:R2} (ho:OpR X (compareOp op) r) (ha:PE X a ta) (hb:PE X b tb) (hm:behindInMarks op b=false):PE X (.Compare a [op] [b] pos) (tOp r ta tb):=by
 intro pins s σ H Q I h
 exact wpAny_Compare1 (xr' ha hb I h fun v u s2 x y H2 I2 rx ry q=>ho pins s2 σ H2 x y v u Q I2 rx ry q) hm
def ft' (t:TE):TT:=fun σ H Q=>t σ H fun x H'=>∃k,x=.bl k/\Q k H'
theorem qb' {op:CmpOp} {r:R2} (ho:OpR X (compareOp op) r) (ha:PE X a ta) (hb:PE X b tb) (hm:behindInMarks op b=false):PT X (.Compare a [op] [b] pos) (ft' (tOp r ta tb)):=by
 intro pins s σ H Q I h
 refine wpAny_isTrue_Compare1 (thn (ha pins s σ H _ I h) fun v s1 ⟨x,H1,I1,r1,q1⟩=>thn (hb pins s1 σ H1 _ I1 q1) fun u s2 ⟨y,H2,I2,r2,q2⟩=>
  thn (ho pins s2 σ H2 x y v u _ I2 r1 r2 q2) fun c s3 ⟨z,H3,I3,r3,k,e,q3⟩=>?_) hm
 subst e
 cases r3
 exact bv ⟨H3,I3,q3⟩
def ej' (r r':R2) (ta tb tc:TE):TE:=fun σ H Q=>ta σ H fun x H1=>tb σ H1 fun y H2=>r x y H2 fun z H3=>∃k,z=.bl k/\
 (if k=true then tc σ H3 fun w' H4=>r' y w' H4 Q else Q (.bl false) H3)
theorem na' {op op':CmpOp} {r r':R2} (ho:OpR X (compareOp op) r) (ho':OpR X (compareOp op') r') (ha:PE X a ta) (hb:PE X b tb) (hc:PE X c tc)
  (hm:lastMarks [op,op'] [b,c]=false:=by with_unfolding_all rfl):PE X (.Compare a [op,op'] [b,c] pos) (ej' r r' ta tb tc):=by
 intro pins s σ H Q I h
 refine Compare_chain (thn (ha pins s σ H _ I h) fun v s1 ⟨x,H1,I1,r1,q1⟩=>chain_link (thn (hb pins s1 σ H1 _ I1 q1) fun u s2 ⟨y,H2,I2,r2,q2⟩=>
  thn (ho pins s2 σ H2 x y v u _ I2 r1 r2 q2) fun d s3 ⟨z,H3,I3,r3,k,e,q3⟩=>?_)) hm
 subst e
 cases r3
 refine bv ?_
 cases k with
 |false=>exact ite_ff ⟨.bl false,H3,I3,rfl,q3⟩
 |true=>exact ite_tt (chain_last (thn (hc pins s3 σ H3 _ I3 q3) fun w' s4 ⟨z',H4,I4,r4,q4⟩=>ho' pins s4 σ H4 y z' u w' Q I4 r2 r4 q4))
theorem nb' {op op':CmpOp} {r r':R2} (ho:OpR X (compareOp op) r) (ho':OpR X (compareOp op') r') (ha:PE X a ta) (hb:PE X b tb) (hc:PE X c tc)
  (hm:lastMarks [op,op'] [b,c]=false:=by with_unfolding_all rfl):PT X (.Compare a [op,op'] [b,c] pos) (ft' (ej' r r' ta tb tc)):=by
 intro pins s σ H Q I h
 refine isTrue_chain (thn (ha pins s σ H _ I h) fun v s1 ⟨x,H1,I1,r1,q1⟩=>test_link (thn (hb pins s1 σ H1 _ I1 q1) fun u s2 ⟨y,H2,I2,r2,q2⟩=>
  thn (ho pins s2 σ H2 x y v u _ I2 r1 r2 q2) fun d s3 ⟨z,H3,I3,r3,k,e,q3⟩=>?_)) hm
 subst e
 cases r3
 refine bv ?_
 cases k with
 |false=>
  obtain⟨k',e',q'⟩:=q3
  cases e'
  exact ite_ff ⟨H3,I3,q'⟩
 |true=>
  refine ite_tt (test_last (thn (hc pins s3 σ H3 _ I3 q3) fun w' s4 ⟨z',H4,I4,r4,q4⟩=>thn (ho' pins s4 σ H4 y z' u w' _ I4 r2 r4 q4) fun d' s5 ⟨z2,H5,I5,r5,k2,e2,q5⟩=>?_))
  subst e2
  cases r5
  exact bv ⟨H5,I5,q5⟩
def tj' (K:W.Frag) (x:V) (H:Hp) (k:Bool):Prop:=
 match x with
 | .non=>k=false
 | .bl b=>k=b
 | .int i=>k=(i != 0)
 | .str y=>y.length<=sizeLine/\k=((y.length:Int) != 0)
 | .byt y=>y.size<=sizeLine/\k=((y.size:Int) != 0)
 | .ref p=>(∃xs,SqL K H p xs/\k=!xs.isEmpty)\/(∃xs,SqT K H p xs/\k=!xs.isEmpty)\/∃kvs,H p=some (.dK kvs)/\k=!kvs.isEmpty
 |_=>False
theorem jz' {κ:Type} {kvs:List (κ×V)} {vs:List (κ×Value)} (r:KV kvs vs):(!vs.isEmpty)=!kvs.isEmpty:=by
 cases r<;>rfl
theorem fF' {xs:List V} {its:List Value} (r:aE' xs its):(!its.toArray.isEmpty)=!xs.isEmpty:=by
 cases r<;>simp
theorem fG':(sizeLine:Nat)<2 ^ 63:=by rw[sizeLine_eq];decide
theorem tl':Ap' X (fun x H Q=>∃k,tj' X.K x H k/\Q k H):=by
 intro pins s σ H x v Q I rx h
 obtain⟨k,e,q⟩:=h
 have hl:=fG'
 have hs:sizeLine=16777216:=sizeLine_eq
 cases x with
 |non=>
  cases rx
  have e':k=false:=e
  subst e'
  exact truthy_none ⟨H,I,q⟩
 |bl b=>
  cases rx
  have e':k=b:=e
  subst e'
  exact bv ⟨H,I,q⟩
 |int i=>
  obtain⟨t,rfl⟩:=rx
  have e':k=(i != 0):=e
  subst e'
  exact PySem.P.truthy_int ⟨H,I,q⟩
 |str y=>
  obtain⟨t,rfl⟩:=rx
  obtain⟨hy,e'⟩:y.length<=sizeLine/\k=((y.length:Int) != 0):=e
  subst e'
  exact PySem.P.truthy_str (by omega) ⟨H,I.tok _,q⟩
 |byt y=>
  obtain⟨t,rfl⟩:=rx
  obtain⟨hy,e'⟩:y.size<=sizeLine/\k=((y.size:Int) != 0):=e
  subst e'
  exact W.truthy_bytes (by omega) ⟨H,I.tok _,q⟩
 |ref p=>
  cases rx
  have e':(∃xs,SqL X.K H p xs/\k=!xs.isEmpty)\/(∃xs,SqT X.K H p xs/\k=!xs.isEmpty)\/∃kvs,H p=some (.dK kvs)/\k=!kvs.isEmpty:=e
  rcases e' with⟨xs,hx,e'⟩|⟨xs,hx,e'⟩|⟨kvs,hx,e'⟩
  .subst e'
   obtain⟨its,r,pl,hz⟩:=I.list hx
   have hlen:=r.length
   exact wpAny_truthy_list pl.isList (by simp only[al];omega) ⟨H,I.tok _,by rw[fF' r];exact q⟩
  .subst e'
   obtain⟨its,r,pl,hz⟩:=I.tuple hx
   have hlen:=r.length
   exact truthy_tuple pl (by simp only[al];omega) ⟨H,I.tok _,by rw[fF' r];exact q⟩
  .subst e'
   obtain⟨hz,hS,vs,r,m⟩:kvs.length<=sizeLine/\(p == sysModules)=false/\∃vs,KV kvs vs/\s.heap.DictOf (au' X.prog X.w) p vs:=I.hok p _ hx
   have hlen:kvs.length=vs.length:=Paired.length r
   exact wpAny_truthy_dict hS m (by omega) ⟨H,I.tok _,by rw[jz' r];exact q⟩
 |_=>exact(show False from e).elim
theorem nc' (ha:PE X a ta) (he:∀whole,isTrue a X.env whole=(do let v <- whole;standAt a.pos;holding [v] (truthy v))):
  PT X a (fun σ H Q=>ta σ H fun x H'=>∃k,tj' X.K x H' k/\Q k H'):=by
 intro pins s σ H Q I h
 exact isTrue_plain (thn (ha pins s σ H _ I h) fun v s1 ⟨x,H1,I1,r1,q1⟩=>tl' pins s1 σ H1 x v Q I1 r1 q1) (he _)
theorem jA':OpR X (binaryOp .Add) (fun x y H Q=>∃i j,x=.str i/\y=.str j/\i.length+j.length<=sizeLine/\Q (.str (i++j)) H):=by
 intro pins s σ H x y v u Q I rx ry h
 obtain⟨i,j,rfl,rfl,hz,q⟩:=h
 obtain⟨t,rfl⟩:=rx
 obtain⟨t',rfl⟩:=ry
 exact add_str (fun t' tk=>⟨.str (i++j),H,I.tok _,⟨_,rfl⟩,q⟩) hz
theorem fu' {x:V} {us:List Value} (r:aE' [x] us):∃u,us=[u]/\aJ' x u:=by
 cases r with
 |cons r1 r2=>cases r2;exact⟨_,rfl,r1⟩
theorem qc' {x y:V} {us:List Value} (r:aE' [x,y] us):∃u w',us=[u,w']/\aJ' x u/\aJ' y w':=by
 cases r with
 |cons r1 r2=>
  cases r2 with
  |cons r3 r4=>cases r4;exact⟨_,_,rfl,r1,r3⟩
theorem nd':bl' X (.builtin "abs") (fun xs H Q=>∃i,xs=[.int i]/\Q (.int (if i<0 then -i else i)) H):=by
 intro pins s σ H xs us Q I r h
 obtain⟨i,rfl,q⟩:=h
 obtain⟨u,rfl,t,rfl⟩:=fu' r
 exact call_abs_int fun u tk=>⟨.int (if i<0 then -i else i),H,I.tok _,⟨_,rfl⟩,q⟩
theorem kn' (hc:X.calm=true):bl' X (.builtin "max") (fun xs H Q=>∃i j,xs=[.int i,.int j]/\Q (.int (if j > i then j else i)) H):=by
 intro pins s σ H xs us Q I r h
 obtain⟨i,j,rfl,q⟩:=h
 obtain⟨u,w',rfl,⟨t,rfl⟩,⟨t',rfl⟩⟩:=qc' r
 refine max_two_ints (I.ok.hd hc) fun h' tk k=>⟨_,H,I.kept k,?_,q⟩
 by_cases hj:j > i
 .rw[if_pos hj,if_pos hj];exact⟨_,rfl⟩
 .rw[if_neg hj,if_neg hj];exact⟨_,rfl⟩
theorem ko' (hc:X.calm=true):bl' X (.builtin "min") (fun xs H Q=>∃i j,xs=[.int i,.int j]/\Q (.int (if j<i then j else i)) H):=by
 intro pins s σ H xs us Q I r h
 obtain⟨i,j,rfl,q⟩:=h
 obtain⟨u,w',rfl,⟨t,rfl⟩,⟨t',rfl⟩⟩:=qc' r
 refine min_two_ints (I.ok.hd hc) fun h' tk k=>⟨_,H,I.kept k,?_,q⟩
 by_cases hj:j<i
 .rw[if_pos hj,if_pos hj];exact⟨_,rfl⟩
 .rw[if_neg hj,if_neg hj];exact⟨_,rfl⟩
theorem kp':bl' X (.type "int") (fun xs H Q=>(∃i,xs=[.int i]/\Q (.int i) H)\/∃k,xs=[.bl k]/\Q (.int (if k then 1 else 0)) H):=by
 intro pins s σ H xs us Q I r h
 rcases h with⟨i,rfl,q⟩|⟨k,rfl,q⟩
 .obtain⟨u,rfl,t,rfl⟩:=fu' r
  exact call_int_int ⟨.int i,H,I,⟨_,rfl⟩,q⟩
 .obtain⟨u,rfl,r1⟩:=fu' r
  cases r1
  exact call_int_bool ⟨.int (if k then 1 else 0),H,I.tok _,⟨_,rfl⟩,q⟩
def zO' (K:W.Frag) (x:V) (H:Hp) (n:Nat):Prop:=
 match x with
 | .str y=>y.length<=sizeLine/\n=y.length
 | .byt y=>y.size<=sizeLine/\n=y.size
 | .ref p=>(∃xs,SqL K H p xs/\n=xs.length)\/∃xs,SqT K H p xs/\n=xs.length
 |_=>False
theorem ne':bl' X (.builtin "len") (fun xs H Q=>∃x n,xs=[x]/\zO' X.K x H n/\Q (.int n) H):=by
 intro pins s σ H xs us Q I r h
 obtain⟨x,n,rfl,e,q⟩:=h
 obtain⟨u,rfl,rx⟩:=fu' r
 have hl:=fG'
 have hs:sizeLine=16777216:=sizeLine_eq
 cases x with
 |str y=>
  obtain⟨t,rfl⟩:=rx
  obtain⟨hy,e'⟩:y.length<=sizeLine/\n=y.length:=e
  subst e'
  exact len_str (by omega) ⟨.int _,H,I.tok _,⟨_,rfl⟩,q⟩
 |byt y=>
  obtain⟨t,rfl⟩:=rx
  obtain⟨hy,e'⟩:y.size<=sizeLine/\n=y.size:=e
  subst e'
  exact W.len_bytes (by omega) ⟨.int _,H,I.tok _,⟨_,rfl⟩,q⟩
 |ref p=>
  cases rx
  have e':(∃xs,SqL X.K H p xs/\n=xs.length)\/∃xs,SqT X.K H p xs/\n=xs.length:=e
  rcases e' with⟨xs,hx,e'⟩|⟨xs,hx,e'⟩
  .subst e'
   obtain⟨its,r',pl,hz⟩:=I.list hx
   have hlen:=r'.length
   exact Calls.call_len_list pl.isList (by simp only[al];omega) ⟨.int xs.length,H,I.tok _,⟨_,by simp only[al];rw[hlen]⟩,q⟩
  .subst e'
   obtain⟨its,r',pl,hz⟩:=I.tuple hx
   have hlen:=r'.length
   exact len_tuple pl (by simp only[al];omega) ⟨.int xs.length,H,I.tok _,⟨_,by simp only[al];rw[hlen]⟩,q⟩
 |_=>exact(show False from e).elim
end
structure ObjM (h:Heap) (x dx C:Addr) (mA:Str->Option Value):Prop where
 obj:h.get? x=some (W.instObj C dx)
 ns:h.Ns1 dx mA
 ne:dx≠x
section
variable {prog:Program} {w:World} {A:Around} {E:Value->Shared->Prop} {s:Shared} {K:W.Frag} {x dx C f:Addr} {mA:Str->Option Value} {name:Str} {v:Value}
end
section
variable {P:Program} {w:World} {H H':Hp} {h h':Heap} {a C dx:Addr} {fs fs':List (Str×V)}
end
structure Cls (K:W.Frag) (C:Addr):Prop where
 pg:W.plainGet K C Str.empty=true
 hd:W.hasDictIn K C=true
 po:W.plainOver K C=true
 sa:W.findIn K (.ref C) "__setattr__"=some (some (.builtin "object.__setattr__"))
theorem Cls.get {K:W.Frag} {C:Addr} (c:Cls K C) (f:Str):W.plainGet K C f=true:=c.pg
structure Con (K:W.Frag) (C:Addr) (f:Str) (v:V) (u:Value):Prop where
 at_:W.findIn K (.ref C) f=some (some u)
 rel:aJ' v u
 get:W.specialIn K u "__get__"=some none
 cp:W.copiedNames.contains f=false
structure Meth (K:W.Frag) (C:Addr) (m:Str) (f:Addr):Prop where
 at_:W.findIn K (.ref C) m=some (some (.ref f))
 fn:W.isFn K (.ref f)=true
 kp:W.keepIn K (.ref f)=true
section
variable {X:Cx} {pins:List (Addr×Obj)} {σ:St} {H:Hp} {s:Shared} {a C dx:Addr} {fs:List (Str×V)} {f:Str} {v:V} {A:Around} {E:Value->Shared->Prop}
end
section
variable {X:Cx} {o e value:Expr} {f:Str} {pos pos' tpos:Pos} {ta tv:TE}
end
section
variable {X:Cx} {pins:List (Addr×Obj)} {σ:St} {H:Hp} {s:Shared} {A:Around} {E:Value->Shared->Prop} {Q:Value->Shared->Prop} {c:Value} {b:Bool}
inductive TyOf (K:W.Frag) (H:Hp):V->Value->Prop where
 |non:TyOf K H .non (.type "NoneType")
 |bl (x:Bool):TyOf K H (.bl x) (.type "bool")
 |int (i:Int):TyOf K H (.int i) (.type "int")
 |str (x:Str):TyOf K H (.str x) (.type "str")
 |flt (x:UInt64):TyOf K H (.flt x) (.type "float")
 |lst {a:Addr} {xs:List V} (e:H a=some (.lst xs)):TyOf K H (.ref a) (.type "list")
 |frz {a:Addr} {o:Obj} {xs:List V} (e:H a=some (.frz o (.lst xs))):TyOf K H (.ref a) (.type "list")
 |tup {a:Addr} {xs:List V} (e:H a=some (.tup xs)):TyOf K H (.ref a) (.type "tuple")
 |dK {a:Addr} {kvs:List (Key×V)} (e:H a=some (.dK kvs)):TyOf K H (.ref a) (.type "dict")
 |dT {a:Addr} {kvs:List (List Key×V)} (e:H a=some (.dT kvs)):TyOf K H (.ref a) (.type "dict")
 |ins {a C dx:Addr} {fs:List (Str×V)} (e:H a=some (.ins C dx fs)) (cl:Cls K C) (ha:W.findIn K (.ref C) "__class__"=some (some (.builtin "object.__class__")))
   (hn:W.specialIn K (.builtin "object.__class__") "__get__"=some (some (.builtin "getset_descriptor.__get__"))) (htk:W.takesIn K (.builtin "object.__class__")=some true)
   (hm:W.mroIn K C (.type "object")=some true):TyOf K H (.ref a) (.ref C)
end
structure Room (k:Nat) (A:Around):Prop where
 hd:A.handled=none
 dp:A.depth+3*k+5<recursionLimit
 un:A.units+16*k+200<cLine
 gd:A.guards=some []
theorem Room.mono {j k:Nat} {A:Around} (r:Room k A) (h:j<=k):Room j A:=⟨r.hd,by have:=r.dp;omega,by have:=r.un;omega,r.gd⟩
theorem Room.deeper {k:Nat} {A:Around} (r:Room (k+1) A) (env:Env):Room k (A.deeper env):=
 ⟨r.hd,by have:=r.dp;show A.depth+1+3*k+5<_;omega,by have:=r.un;show A.units+3+16*k+200<_;omega,r.gd⟩
theorem Room.depth {k:Nat} {A:Around} (r:Room k A):A.depth<recursionLimit:=by have:=r.dp;omega
theorem Room.units {k:Nat} {A:Around} (r:Room k A):A.units+64<cLine:=by have:=r.un;omega
def gE':TA:=fun _ H Q=>Q [] H
def bP' (ta:TE) (tr:TA):TA:=fun σ H Q=>ta σ H fun x H1=>tr σ H1 fun xs H2=>Q (x :: xs) H2
section
variable {X:Cx} {e:Expr} {es:List Expr} {te:TE} {t:TA} {pos:Pos}
theorem eM':PA X [] gE':=fun _ _ _ _ H Q I h=>Calls.spliced_nil ⟨[],H,I,.nil,h⟩
theorem b5' (ha:PE X e te) (hr:PA X es t) (hs:starEach (e :: es) X.env=(false,eval e X.env) :: starEach es X.env:=by rfl):PA X (e :: es) (bP' te t):=by
 intro pos pins s σ H Q I h
 rw[hs]
 show wpAny _ _ (spliced ((false,eval e X.env) :: backTo pos (starEach es X.env))) _ _ s
 refine Calls.spliced_cons (thn (ha pins s σ H _ I h) fun u s1 ⟨x,H1,I1,r1,q1⟩=>?_)
 exact thn (hr pos pins s1 σ H1 _ I1 q1) fun us s2 ⟨xs,H2,I2,r2,q2⟩=>⟨x :: xs,H2,I2,.cons r1 r2,q2⟩
def xC' (t:TA):TE:=fun σ H Q=>t σ H fun xs H1=>xs.length<=sizeLine/\∀p,H1 p=none->Q (.ref p) (upd H1 p (.tup xs))
def xD' (t:TA):TE:=fun σ H Q=>t σ H fun xs H1=>xs.length<=sizeLine/\∀p,H1 p=none->Q (.ref p) (upd H1 p (.lst xs))
theorem tm' {x1} (h:PA X es t):PE X (.Tuple es x1 pos) (xC' t):=by
 intro pins s σ H Q I hq
 refine wpAny_Tuple_spliced (thn (h pos pins s σ H _ I hq) fun us s1 ⟨xs,H1,I1,r,z,q⟩=>⟨by rw[<- r.length];exact z,?_⟩)
 have hf:H1 s1.heap.objs.size=none:=I1.hok.fresh (ae _)
 refine⟨.ref s1.heap.objs.size,upd H1 s1.heap.objs.size (.tup xs),I1.laid (t':=s1.toks) (fun b u e=>ah _ e) (ae _) ?_,rfl,q _ hf⟩
 exact⟨z,us,r,⟨_,ao _ rfl,rfl,⟨_,rfl⟩,rfl⟩⟩
theorem tn' (h:PA X es t):PE X (.List es pos) (xD' t):=by
 intro pins s σ H Q I hq
 refine wpAny_List_spliced (thn (h pos pins s σ H _ I hq) fun us s1 ⟨xs,H1,I1,r,z,q⟩=>⟨by rw[<- r.length];exact z,?_⟩)
 have hf:H1 s1.heap.objs.size=none:=I1.hok.fresh (ae _)
 refine⟨.ref s1.heap.objs.size,upd H1 s1.heap.objs.size (.lst xs),I1.laid (t':=s1.toks) (fun b u e=>ah _ e) (ae _) ?_,rfl,q _ hf⟩
 exact⟨z,us,0,r,ao _ rfl⟩
end
abbrev Sp:=List V->Hp->VK->XK->Prop
abbrev CXT:=List Env->Hp->Shared->XK->Value->Shared->Prop
structure Env0 (P:Program) (w:World) (K:W.Frag) (mg:Str->Option Value) (base:Heap) (A:Around) (outer:List Env) (s:Shared) (H:Hp):Prop where
 frames:A.frames=some outer
 mod:Mod K mg base
 bs:∀b o,base.get? b=some o->s.heap.get? b=some o/\H b=none
 bsz:base.objs.size<=s.heap.objs.size
 funs:s.heap.FunFrames base outer
 frf:∀b∈frs outer,H b=none
 hok:HOk P w H s.heap
 bare:AllBare s.gens
def CE (outer:List Env) (P:Program) (w:World) (H:Hp) (s:Shared) (Q:VK) (u:Value) (s':Shared):Prop:=
 ∃v H',s'.os=s.os/\AllBare s'.gens/\Un (frs outer) [] H H' s.heap s'.heap/\HOk P w H' s'.heap/\aJ' v u/\Q v H'
def CR (CX:CXT) (outer:List Env) (P:Program) (w:World) (H:Hp) (s:Shared) (Q:VK) (E:XK) (r:Result) (s':Shared):Prop:=
 match r with
 | .ok (.ret u)=>CE outer P w H s Q u s'
 | .ok _=>False
 | .error e=>CX outer H s E e s'
structure FnOk (P:Program) (w:World) (K:W.Frag) (mg:Str->Option Value) (base:Heap) (CX:CXT) (k:Nat) (f:Addr) (fd:FuncData) (ps:List Str) (sp:Sp):Prop where
 len:∀vs H Q E,sp vs H Q E->vs.length=ps.length
 run:∀(A:Around) (outer:List Env) (s:Shared) (H:Hp) (args:Args) (us:List Value) (vs:List V) (Q:VK) (E:XK),Room k A->Env0 P w K mg base A outer s H->BindsTo s fd args (ps.zip us)->aE' vs us->sp vs H Q E->
  codeAny (model P w) A (.call (.ref f) args) (CR CX outer P w H s Q E) s
theorem FnOk.mono {P:Program} {w:World} {K:W.Frag} {mg:Str->Option Value} {base:Heap} {CX:CXT} {j k:Nat} {f:Addr} {fd:FuncData} {ps:List Str} {sp:Sp} (F:FnOk P w K mg base CX j f fd ps sp) (h:j<=k):
  FnOk P w K mg base CX k f fd ps sp:=⟨F.len,fun A outer s H args us vs Q E hr=>F.run A outer s H args us vs Q E (hr.mono h)⟩
section
variable {X:Cx} {pins:List (Addr×Obj)} {σ:St} {H:Hp} {s s':Shared}
theorem Inv.env0 (I:Inv X pins σ H s):Env0 X.prog X.w X.K X.mg X.base X.A X.stack s H:=
 ⟨I.ok.frames,I.ok.mod,I.bs,ay I.ok.bsz I.sz,I.stack,I.stkFree,I.hok,I.bare⟩
theorem Inv.after {Q:VK} {u:Value} (I:Inv X pins σ H s) (h:CE X.stack X.prog X.w H s Q u s'):EP X pins σ Q u s':=by
 obtain⟨v,H',os,bare,un,hok,r,q⟩:=h
 obtain⟨hh,g,d,t,os'⟩:=s'
 obtain rfl:os'=s.os:=os
 exact⟨v,H',I.call (h':=hh) (g':=g) (d':=d) (t':=t) (ch:=[]) un hok bare (fun b z=>absurd z (by simp)),r,q⟩
end
def nf' (sp:Sp) (dvs:List V) (E:XK) (t:TA):TE:=fun σ H Q=>t σ H fun vs H1=>sp (vs++dvs) H1 Q E
def fv' (K:W.Frag) (fd:FuncData) (ps:List Str) (ds:List Value):Prop:=
 ∀(s:Shared) (us:List Value),K.In s.heap->(us++ds).length=ps.length->BindsTo s fd ⟨us,[]⟩ (ps.zip (us++ds))
theorem fv'.all {K:W.Frag} {fd:FuncData} {ps:List Str} (h:∀us:List Value,us.length=ps.length->bindArgs fd ⟨us,[]⟩=pure (ps.zip us)):fv' K fd ps []:=fun s us _ hl=>by
 rw[List.append_nil]at hl ⊢
 exact .of_eq (h us hl)
section
variable {X:Cx} {CX:CXT} {k:Nat} {f C:Addr} {fd:FuncData} {ps:List Str} {sp:Sp} {dvs:List V} {ds:List Value} {E:XK} {x m:Str} {p pos apos:Pos} {e o:Expr} {es:List Expr} {ta:TE} {t:TA}
structure Mk (K:W.Frag) (C f:Addr):Prop where
 makes:W.makesIn K C=true
 init:W.findIn K (.ref C) "__init__"=some (some (.ref f))
 fn:W.isFn K (.ref f)=true
 kp:W.keepIn K (.ref C)=true
end
section
variable {X:Cx} {CX:CXT} {k:Nat} {f C:Addr} {fd:FuncData} {ps ks:List Str} {sp:Sp} {E:XK} {x m:Str} {p pos apos kpos:Pos} {e o:Expr} {es:List Expr} {kws:List Keyword} {te ta:TE} {t tk:TA} {nm:Option Str}
structure KBinds (K:W.Frag) (fd:FuncData) (ps ks:List Str) (g:List Value->List Value->List Value) (gV:List V->List V->List V):Prop where
 to:∀(s:Shared) (us ws:List Value),K.In s.heap->(g us ws).length=ps.length->BindsTo s fd ⟨us,ks.zip ws⟩ (ps.zip (g us ws))
 rel:∀{vs:List V} {us:List Value} {zs:List V} {ws:List Value},aE' vs us->aE' zs ws->aE' (gV vs zs) (g us ws)
variable {g:List Value->List Value->List Value} {gV:List V->List V->List V}
end
structure FnScope (N P:List Str) (sc:Scope):Prop where
 kind:sc.kind=.function
 co:sc.isCoroutine=false
 gen:sc.isGenerator=false
 nd:N.Nodup
 pre:N.take P.length=P
 par:∀x∈P,sc.names.lookup x=some .local\/sc.names.lookup x=some .cell
 nofree:∀y∈sc.names,y.2≠.free
theorem gF' {kindOf:Str->Option NameKind} {x:Str}:∀{binds:List (Str×Value)} {m:Str->Option Value},(∀v,(x,v)∉binds)->bindL kindOf binds m x=m x
 | [],_,_=>rfl
 |(n,v) :: r,m,h=>by
  unfold bindL
  rw[gF' fun w hw=>h w (aB _ hw)]
  split
  .have:x≠n:=by rintro rfl;exact h v aG
   simp[this]
  .rfl
theorem gG' {kindOf:Str->Option NameKind} {x:Str}:∀{binds:List (Str×Value)} {m:Str->Option Value},(∀v,(x,v)∉binds)->bindC kindOf binds m x=m x
 | [],_,_=>rfl
 |(n,v) :: r,m,h=>by
  unfold bindC
  rw[gG' fun w hw=>h w (aB _ hw)]
  split
  .rfl
  .have:x≠n:=by rintro rfl;exact h v aG
   simp[this]
theorem gH' {kindOf:Str->Option NameKind} {x:Str} {v:Value}:∀{P:List Str} {vs:List Value} {i:Nat} {m:Str->Option Value},P.Nodup->P[i]?=some x->vs[i]?=some v->kindOf x=some .local->
  bindL kindOf (P.zip vs) m x=some v
 | [],_,_,_,_,h,_,_=>by simp at h
 |_ :: _,[],_,_,_,_,h,_=>by simp at h
 |p :: P,w :: vs,0,m,nd,h1,h2,hk=>by
  simp at h1 h2;subst h1;subst h2
  show bindL kindOf ((p,w) :: P.zip vs) m p=_
  unfold bindL
  rw[gF' fun v hv=>(bB.mp nd).1 (List.of_mem_zip hv).1,if_pos hk]
  simp
 |p :: P,w :: vs,i+1,m,nd,h1,h2,hk=>by
  show bindL kindOf ((p,w) :: P.zip vs) m x=_
  unfold bindL
  exact gH' (i:=i) (bB.mp nd).2 (by simpa using h1) (by simpa using h2) hk
theorem gI' {kindOf:Str->Option NameKind} {x:Str} {v:Value}:∀{P:List Str} {vs:List Value} {i:Nat} {m:Str->Option Value},P.Nodup->P[i]?=some x->vs[i]?=some v->kindOf x≠some .local->
  bindC kindOf (P.zip vs) m x=some v
 | [],_,_,_,_,h,_,_=>by simp at h
 |_ :: _,[],_,_,_,_,h,_=>by simp at h
 |p :: P,w :: vs,0,m,nd,h1,h2,hk=>by
  simp at h1 h2;subst h1;subst h2
  show bindC kindOf ((p,w) :: P.zip vs) m p=_
  unfold bindC
  rw[gG' fun v hv=>(bB.mp nd).1 (List.of_mem_zip hv).1,if_neg hk]
  simp
 |p :: P,w :: vs,i+1,m,nd,h1,h2,hk=>by
  show bindC kindOf ((p,w) :: P.zip vs) m x=_
  unfold bindC
  exact gI' (i:=i) (bB.mp nd).2 (by simpa using h1) (by simpa using h2) hk
def az' (N:List Str) (vs:List V):St:=vs.map some++aP (N.length-vs.length) none
def sL' (CX:CXT) (P:Program) (w:World) (K:W.Frag) (mg:Str->Option Value) (base:Heap) (N:List Str) (qual:Str) (scope:Scope) (f:Addr) (cd:Value) (A:Around) (outer:List Env) (s:Shared) (H:Hp) (E:XK):Cx where
 prog:=P
 w:=w
 K:=K
 mg:=mg
 base:=base
 A:=A.deeper (envOfC qual scope s.heap.objs.size f cd)
 N:=N
 s₀:=s
 H₀:=H
 env:=envOfC qual scope s.heap.objs.size f cd
 outer:=outer
 stack:=envOfC qual scope s.heap.objs.size f cd :: outer
 ex:=[]
 calm:=true
 fn:=fun _=>true
 pn:=[]
 xe:=fun e s'=>wpAny (model P w) (A.deeper (envOfC qual scope s.heap.objs.size f cd)) (leaving (envOfC qual scope s.heap.objs.size f cd) e) (fun _ s''=>CX outer H s E e s'') (fun e' s''=>CX outer H s E e' s'') s'
theorem fZ' {sc:Scope} {n:Nat} {x:Str} (h:sc.names.lookup x=some .cell):∃c,(cellsFrom n sc.names []).lookup x=some c:=by
 have q:=W.cellsFrom_some sc.names n [] (.inl h)
 exact Option.isSome_iff_exists.mp q
theorem kq' {CX:CXT} {P:Program} {w:World} {K:W.Frag} {mg:Str->Option Value} {base:Heap} {N ps:List Str} {qual:Str} {scope:Scope} {f:Addr} {cd:Value} {A:Around} {outer:List Env} {s s1:Shared} {H:Hp} {E:XK} {us:List Value} {vs:List V}
  (S:FnScope N ps scope) (hd:A.handled=none) (e0:Env0 P w K mg base A outer s H) (hl:vs.length=ps.length) (r:aE' vs us)
  (x:InCallC s s.heap.objs.size (bindL (envOfC qual scope s.heap.objs.size f cd).kindOf (ps.zip us) fun _=>none) (cellsFrom (s.heap.objs.size+1) scope.names []) (bindC (envOfC qual scope s.heap.objs.size f cd).kindOf (ps.zip us) fun _=>none) s1):
  Inv (sL' CX P w K mg base N qual scope f cd A outer s H E) [] (az' N vs) H s1:=by
 have hpl:ps.length<=N.length:=by have:=congrArg List.length S.pre;rw[aC]at this;omega
 obtain⟨h1,tk,rfl,hk⟩:=x.done
 have noA:∀b:Addr,b∉(sL' CX P w K mg base N qual scope f cd A outer s H E).ex:=fun b z=>absurd (show b∈([]:List Addr) from z) (by simp)
 refine⟨⟨e0.mod,S.kind,rfl,rfl,ae _,fun y z c h1 h2=>?_,fun y hy=>?_,fun y c _ h=>?_,fun _=>hd,Around.frames_deeper e0.frames,.inr ⟨rfl,rfl⟩,fun b z=>absurd z (noA b),e0.bs,e0.bsz,fun b _ _=>noA b,fun b z=>absurd z (noA b),e0.funs,e0.frf⟩,
  rfl,e0.bare,Un.kept hk,⟨_,x.toInCall.ns,fun i y v h1 h2 h3=>?_⟩,fun y c h=>⟨_,x.cell y c h⟩,e0.hok.fresh (ae _),fun y c h=>?_,fun p hp=>absurd (show p∈([]:List (Addr×Obj)) from hp) (by simp),e0.hok.kept hk,?_⟩
 .exact name_of_addr x.apart (PySem.mem_of_lookup h1) (PySem.mem_of_lookup h2)
 .have hy:scope.names.lookup y=some .cell\/scope.names.lookup y=some .free:=hy
  rcases hy with hy|hy
  .exact fZ' hy
  .exact absurd rfl (S.nofree _ (PySem.mem_of_lookup hy))
 .exact cj (x.above y c (PySem.mem_of_lookup h))
 .have hi:i<vs.length:=by
   unfold az' at h2
   by_cases hi:i<vs.length
   .exact hi
   .rw[bR (by simpa using hi)]at h2
    rw[List.getElem?_replicate]at h2
    split at h2<;>cases h2
  have ha:vs[i]?=some v:=by
   unfold az' at h2
   rw[bq (by simpa using hi),aq]at h2
   cases e:vs[i]? with
   |none=>rw[e]at h2;cases h2
   |some a=>rw[e]at h2;cases h2;rfl
  obtain⟨u,hu,rv⟩:=r.get ha
  have hp:ps[i]?=some y:=by
   rw[<- S.pre,cw (by omega)];exact h1
  have ndP:ps.Nodup:=by rw[<- S.pre];exact S.nd.sublist (List.take_sublist _ _)
  refine⟨u,rv,?_⟩
  rcases S.par y (bi hp)with k|k
  .exact .inl ⟨k,gH' ndP hp hu k⟩
  .obtain⟨c,e⟩:=fZ' (n:=s.heap.objs.size+1) k
   refine .inr ⟨.inl k,c,e,?_⟩
   have q:=x.cell y c e
   rw[gI' ndP hp hu (by show scope.names.lookup y≠_;rw[k];decide)]at q
   exact q
 .exact e0.hok.fresh (cj (x.above y c (PySem.mem_of_lookup h)))
 .unfold az'
  show _=N.length
  rw[ap,ac,List.length_replicate]
  omega
theorem xE' {CX:CXT} {P:Program} {w:World} {K:W.Frag} {mg:Str->Option Value} {base:Heap} {k:Nat} {f:Addr} {name qual:Str} {params:Arguments} {body:List Stmt} {scope:Scope} {dV kV doc pm cdv ct oc:Value} {an od:Option Addr}
  {osl:Array (Option Value)} {N ps:List Str} {sp:Sp} (lk:K.lookup f=some ⟨oc,od,.func (W.fnOf name qual params body scope dV kV doc pm an cdv ct),osl⟩) (hcd:W.codeIn K cdv qual=true) (S:FnScope N ps scope)
  (len:∀vs H Q E,sp vs H Q E->vs.length=ps.length)
  (hbody:∀(A:Around) (outer:List Env) (s:Shared) (H:Hp) (vs:List V) (Q:VK) (E:XK),Room k (A.deeper (envOfC qual scope s.heap.objs.size f cdv))->sp vs H Q E->
   ∃t,PSs (sL' CX P w K mg base N qual scope f cdv A outer s H E) body t/\t { nx:=fun _ H'=>Q .non H',rt:=Q } (az' N vs) H):
  FnOk P w K mg base CX (k+1) f (W.fnOf name qual params body scope dV kV doc pm an cdv ct) ps sp:=by
 refine⟨len,fun A outer s H args us vs Q E hr e0 hb r hsp=>?_⟩
 have hl:=len _ _ _ _ hsp
 have KX:K.In s.heap:=e0.mod.kin.keeps fun b o e=>(e0.bs b o e).1
 have lim:s.heap.NoLimit:=e0.mod.nolimit.keeps fun b o e=>(e0.bs b o e).1
 have hkind:∀y∈ps.zip us,scope.names.lookup y.1=some .local\/(scope.names.lookup y.1=some .cell/\((cellsFrom (s.heap.objs.size+1) scope.names []).lookup y.1).isSome=true):=fun⟨n,v⟩ hy=>by
  rcases S.par n (List.of_mem_zip hy).1 with q|q
  .exact .inl q
  .exact .inr ⟨q,W.cellsFrom_some _ _ _ (.inl q)⟩
 refine codeAny_call_function hr.depth (KX _ _ lk) rfl S.co S.gen rfl (W.codeRec_of KX hcd) (hb _ _ _ _ ?_)
 refine wpAny_newFunctionEnv_cells S.kind hkind fun env he s1 x=>?_
 subst he
 refine⟨lim.keeps x.toInCall.keep,codeAny_func ?_⟩
 obtain⟨t,ht,hq⟩:=hbody A outer s H vs Q E (hr.deeper _) hsp
 have I:Inv (sL' CX P w K mg base N qual scope f cdv A outer s H E) [] (az' N vs) H s1:=kq' S hr.hd e0 hl r x
 refine wpAny_mono (ht [] s1 (az' N vs) H _ I hq) (fun fl s' hs=>?_) fun e s' hs=>hs
 have fin:∀{σ':St} {H':Hp} {v:V} {u:Value},Inv (sL' CX P w K mg base N qual scope f cdv A outer s H E) [] σ' H' s'->aJ' v u->Q v H'->CE outer P w H s Q u s':=
  fun {σ' H' v u} J rv q=>⟨v,H',J.os,J.bare,J.base,J.hok,rv,q⟩
 cases fl with
 |ret u=>
  obtain⟨v,σ',H',J,rv,q⟩:=hs
  exact fin J rv q
 |next=>
  obtain⟨σ',H',J,q⟩:=hs
  exact fin (v:=V.non) (u:=Value.none) J rfl q
 |brk=>
  obtain⟨_,_,_,q⟩:=hs
  exact False.elim q
 |cont=>
  obtain⟨_,_,_,q⟩:=hs
  exact False.elim q
section
variable {X:Cx} {x:Str} {p pos:Pos} {e:Expr} {es:List Expr} {t:TA} {id T:String} {r:List V->Hp->VK->Prop}
def tCB (r:List V->Hp->VK->Prop) (t:TA):TE:=fun σ H Q=>t σ H fun vs H1=>r vs H1 Q
theorem ng' (hc:bl' X (.builtin id) r) (hg:Gl X x) (hm:X.mg x=none) (hv:bootBuiltins x=some (.builtin id)) (ha:PA X (e :: es) t) (hn:x≠"__name__":=by decide) (hdb:(x == ("__debug__":Str))=false:=by decide)
  (he:starEach (e :: es) X.env=(false,eval e X.env) :: starEach es X.env:=by rfl) (hpl:(backTo pos (starEach es X.env)).any (·.1)=false:=by rfl):PE X (.Call (.Name x p) (e :: es) [] pos) (tCB r t):=by
 intro pins s σ H Q I h
 refine wpAny_Call_Name_kw (ei' I hg hm hv ?_ hn hdb)
 exact PyProof.Rows.callWith_builtin1 (thn (ha pos pins s σ H _ I h) fun us s1 ⟨vs,H1,I1,r1,q1⟩=>hc pins s1 σ H1 vs us Q I1 r1 q1) he hpl
theorem kr' (hc:bl' X (.type T) r) (hg:Gl X x) (hm:X.mg x=none) (hv:bootBuiltins x=some (.type T)) (ha:PA X (e :: es) t) (hn:x≠"__name__":=by decide) (hdb:(x == ("__debug__":Str))=false:=by decide)
  (he:starEach (e :: es) X.env=(false,eval e X.env) :: starEach es X.env:=by rfl) (hpl:(backTo pos (starEach es X.env)).any (·.1)=false:=by rfl):PE X (.Call (.Name x p) (e :: es) [] pos) (tCB r t):=by
 intro pins s σ H Q I h
 refine wpAny_Call_Name_kw (ei' I hg hm hv ?_ hn hdb)
 exact PyProof.Rows.callWith_type1 (thn (ha pos pins s σ H _ I h) fun us s1 ⟨vs,H1,I1,r1,q1⟩=>hc pins s1 σ H1 vs us Q I1 r1 q1) he hpl
end
end L2
namespace HT
open PySem PyProof.Rows
section
open PySem.SeqAt
open PySem.AutoSeq1 (wpAny_loadPart')
open PySem.MeetsSeq PySem.MeetsSeq2 PySem.MeetsSeq3
end
section
variable {prog:Program} {w:World} {A:Around} {E:Value->Shared->Prop} {s:Shared}
theorem qd' {t b:Addr} {vs ws:List Value} {Q:Value->Shared->Prop} (ht:IsTup s.heap t vs.toArray) (hb:IsTup s.heap b ws.toArray) (hv:vs≠[])
  (h1:ws=[]->Q (.ref t) s) (h2:ws≠[]->Q (.ref s.heap.objs.size) { s with heap:=s.heap.push { cls:=.type "tuple",data:=.seq (vs++ws).toArray } })
  (hsz:vs.length+ws.length<=sizeLine):wpAny (model prog w) A (binaryOp .Add (.ref t) (.ref b)) Q E s:=by
 obtain⟨⟨cls,dd,data,sl⟩,ho,hc,n,hd⟩:=id ht
 obtain⟨⟨cls2,dd2,data2,sl2⟩,ho2,hc2,n2,hd2⟩:=id hb
 simp only at hc hd hc2 hd2
 subst hc hd hc2 hd2
 have e:vs.toArray++ws.toArray=(vs++ws).toArray:=by simp
 by_cases hw:ws=[]
 .exact concat_meets ⟨_,ho,rfl⟩ ⟨_,ho2,rfl⟩ noFill_tuple_add seq_tuple_add PySem.F.slot_tuple_add PySem.F.entry_tuple_add (PySem.F.args_tuple_add_2 _ _)
   (tuple_addW1 t b vs.toArray ws.toArray n n2 dd dd2 sl sl2 (by simpa using hv) (by simp[hw])) ⟨ho,ho2,h1 hw⟩
 .refine concat_meets ⟨_,ho,rfl⟩ ⟨_,ho2,rfl⟩ noFill_tuple_add seq_tuple_add PySem.F.slot_tuple_add PySem.F.entry_tuple_add (PySem.F.args_tuple_add_2 _ _)
   (tuple_addW2 t b vs.toArray ws.toArray n n2 dd dd2 sl sl2 (by simpa using hv) (by simpa using hw) (by rw[al,al];exact hsz)) ⟨ho,ho2,?_⟩
  rw[e]
  exact h2 hw
def sIx (n d:Nat):Option Int->Nat
 |none=>d
 |some v=>if v<0 then(v+(n:Int)).toNat else min v.toNat n
theorem to' (n d:Nat) (hd:d<=n) (o:Option Int):sIx n d o<=n:=by
 cases o with
 |none=>exact hd
 |some v=>
  show(if v<0 then(v+(n:Int)).toNat else min v.toNat n)<=n
  by_cases hv:v<0
  .rw[if_pos hv];omega
  .rw[if_neg hv];exact Nat.min_le_right _ _
theorem ks' (v:Int) (n d:Nat):(if v<0 then max (v+(n:Int)) 0 else min v (n:Int))=((sIx n d (some v):Nat):Int):=by
 show(if v<0 then max (v+(n:Int)) 0 else min v (n:Int))=(((if v<0 then(v+(n:Int)).toNat else min v.toNat n):Nat):Int)
 by_cases hv:v<0
 .simp only[if_pos hv];omega
 .simp only[if_neg hv];omega
theorem jB' (lo hi:Option Int) (n:Nat):Builtin.Slice.sliceAdjust lo hi 1 (n:Int)=(((sIx n 0 lo:Nat):Int),((sIx n n hi:Nat):Int)):=by
 have h1:¬((1:Int)<0):=by omega
 unfold Builtin.Slice.sliceAdjust
 simp only[h1,if_false]
 refine Prod.ext ?_ ?_
 .cases lo with
  |none=>rfl
  |some v=>exact ks' v n 0
 .cases hi with
  |none=>rfl
  |some v=>exact ks' v n n
theorem jC' (i j:Nat):Builtin.Slice.slicePlaces (i:Int) (j:Int) 1=j-i:=by
 unfold Builtin.Slice.slicePlaces
 have h1:(1:Int) > 0:=by omega
 simp only[h1,if_true,Int.ediv_one]
 split<;>omega
theorem fH' {v:Value} {o:Option Int} {Q:Option Int->Shared->Prop} (p:IsPart v o) (h:Q o s):wpAny (model prog w) A (Builtin.Slice.slicePartIndex v) Q E s:=by
 cases p with
 |none=>exact slicePart_none h
 |int i t=>exact slicePart_int h
theorem cV' {sl:Addr} {vl vu:Value} {lo hi:Option Int} {n:Nat} {Q:Int×Int×Nat->Shared->Prop} (hs:s.heap.IsSliceOf sl vl vu .none) (pl:IsPart vl lo) (pu:IsPart vu hi)
  (h:Q (((sIx n 0 lo:Nat):Int),1,sIx n n hi-sIx n 0 lo) s):wpAny (model prog w) A (Builtin.Slice.sliceApplied (.ref sl) (pure (n:Int))) Q E s:=by
 obtain⟨os,hos,hcs,hds⟩:=id hs
 unfold Builtin.Slice.sliceApplied Builtin.Slice.sliceFields
 refine aa (aa (cz hos hds (x:=vl) rfl (aa (cz hos hds (x:=vu) rfl (aa (cz hos hds (x:=.none) rfl (ag ?_)))))))
 refine aa (slicePart_none ?_)
 show wpAny _ _ (if((1:Int) == 0)=true then _ else _) _ _ s
 rw[if_neg (by decide)]
 refine aa (fH' pl (aa (fH' pu (aa (ag ?_)))))
 show wpAny _ _ (match Builtin.Slice.sliceAdjust lo hi 1 (n:Int)with|(lo,hi)=>pure (lo,(1:Int),Builtin.Slice.slicePlaces lo hi 1)) _ _ s
 rw[jB' lo hi n]
 show wpAny _ _ (pure (((sIx n 0 lo:Nat):Int),(1:Int),Builtin.Slice.slicePlaces ((sIx n 0 lo:Nat):Int) ((sIx n n hi:Nat):Int) 1)) _ _ s
 rw[jC']
 exact ag h
theorem nh' (xs:Array Value) (i k:Nat):((au k).filterMap fun(m:Nat)=>xs[((i:Int)+(m:Int)*1).toNat]?).toArray=((xs.toList.drop i).take k).toArray:=by
 have e:(fun(m:Nat)=>xs[((i:Int)+(m:Int)*1).toNat]?)=fun m=>xs[i+m]?:=by
  funext m
  have:((i:Int)+(m:Int)*1).toNat=i+m:=by omega
  rw[this]
 rw[e]
 have:=pick_run xs i k
 rw[List.filterMap_map]at this
 have e2:((fun x=>xs[x]?)∘fun x=>i+x)=fun m=>xs[i+m]?:=rfl
 rw[e2]at this
 rw[this]
theorem d1' {t sl:Addr} {items:Array Value} {vl vu:Value} {lo hi:Option Int} {Q:Value->Shared->Prop} (ht:IsTup s.heap t items) (hs:s.heap.IsSliceOf sl vl vu .none) (pl:IsPart vl lo) (pu:IsPart vu hi)
  (hw:¬(sIx items.size 0 lo=0/\sIx items.size items.size hi=items.size))
  (h:Q (.ref s.heap.objs.size) { s with heap:=s.heap.push { cls:=.type "tuple",data:=.seq ((items.toList.drop (sIx items.size 0 lo)).take (sIx items.size items.size hi-sIx items.size 0 lo)).toArray } })
  (hsz:items.size<=sizeLine):wpAny (model prog w) A (getItem (.ref t) (.ref sl)) Q E s:=by
 have htake:sizeOk (.seq ((items.toList.drop (sIx items.size 0 lo)).take (sIx items.size items.size hi-sIx items.size 0 lo)).toArray):=by
  show((items.toList.drop (sIx items.size 0 lo)).take (sIx items.size items.size hi-sIx items.size 0 lo)).toArray.size<=sizeLine
  rw[al,aC,bQ,ak]
  omega
 have hj:sIx items.size items.size hi<=items.size:=to' _ _ (ae _) hi
 obtain⟨os,hos,hcs,hds⟩:=id hs
 have hTs:s.TypeIs (.ref sl) "slice":=⟨os,hos,hcs⟩
 unfold getItem
 try with_reducible refine bg ?_
 first|refine aa (ag ?_)|skip
 refine aa (wpAny_sequenceKey ht.typeIs (by decide) ?_)
 refine aa (bL (name:=Str.ofString "__getitem__") ht.typeIs PyProof.Rows.slot_tuple_getitem
  (bo PyProof.Rows.slot_tuple_getitem ht.typeIs entry_tuple_getitem ?_ (args_tuple_getitem _ _)))
 show wpAny _ _ (Builtin.Tuple.tupleItemsOf (.ref t) >>= _) _ _ s
 refine aa (tupleItemsOf_ ht ?_)
 refine aa (wpAny_typeOf hTs ?_)
 rw[if_pos (by decide)]
 refine aa (cV' hs pl pu ?_)
 have hno:¬((((sIx items.size 0 lo:Nat):Int) == 0&&(1:Int) == 1&&(sIx items.size items.size hi-sIx items.size 0 lo) == items.size)=true):=by
  intro q
  rw[ai,ai]at q
  have q1:((sIx items.size 0 lo:Nat):Int)=0:=eq_of_beq q.1.1
  have q2:sIx items.size items.size hi-sIx items.size 0 lo=items.size:=eq_of_beq q.2
  exact hw ⟨by omega,by omega⟩
 show wpAny _ _ (if(((sIx items.size 0 lo:Nat):Int) == 0&&(1:Int) == 1&&(sIx items.size items.size hi-sIx items.size 0 lo) == items.size)=true then _ else _) _ _ s
 rw[if_neg hno,nh']
 first
  |exact aa (m:=Builtin.Tuple.tupleExact _) (aI (ag ⟨_,rfl,ag h⟩) htake)
  |exact aa (m:=Builtin.Tuple.tupleExact _) (aI (aa (ag (ag ⟨_,rfl,ag h⟩))) htake)
  |exact aa (aa (m:=Builtin.Tuple.tupleExact _) (aI (ag (ag ⟨_,rfl,ag h⟩)) htake))
  |exact aa (aa (m:=Builtin.Tuple.tupleExact _) (aI (ag ⟨_,rfl,ag h⟩) htake))
end
end HT
namespace L2
open PySem PySem.Spec PyProof.Rows
abbrev TO:=St->Hp->(Option Int->Hp->Prop)->Prop
def PO (X:Cx) (e:Option Expr) (t:TO):Prop:=
 ∀(pins:List (Addr×Obj)) (s:Shared) (σ:St) (H:Hp) (Q:Option Int->Hp->Prop),Inv X pins σ H s->t σ H Q->
  wpAny (model X.prog X.w) X.A (evalPart e X.env) (fun u s'=>∃o H',Inv X pins σ H' s'/\IsPart u o/\Q o H') X.xe s
def h8':TO:=fun _ H Q=>Q none H
def kt' (t:TE):TO:=fun σ H Q=>t σ H fun x H1=>∃i,x=.int i/\Q (some i) H1
theorem d2' {ns:List Int}:∀{us:List Value},aE' (ns.map V.int) us->IntsAre us ns:=by
 induction ns with
 |nil=>intro us r;rw[cM]at r;cases r;exact .nil
 |cons n ns ih=>
  intro us r
  rw[aH]at r
  cases r with
  |cons r1 r2=>
   obtain⟨t,e⟩:=r1
   subst e
   exact .cons n t (ih r2)
section
variable {X:Cx} {e:Expr} {te:TE} {lo hi:Option Expr} {tl th:TO} {pos p2:Pos}
theorem qe':PO X none h8':=by
 intro pins s σ H Q I h
 rw[evalPart_none]
 exact ag ⟨none,H,I,.none,h⟩
theorem ku' (h:PE X e te):PO X (some e) (kt' te):=by
 intro pins s σ H Q I hw
 rw[evalPart_some]
 refine thn (h pins s σ H _ I hw) fun u s1 ⟨x,H1,I1,r1,q1⟩=>?_
 obtain⟨i,rfl,q⟩:=q1
 obtain⟨t,rfl⟩:=r1
 exact⟨some i,H1,I1,.int i t,q⟩
def SlR (X:Cx) (r:V->Option Int->Option Int->Hp->VK->Prop):Prop:=
 ∀(pins:List (Addr×Obj)) (s:Shared) (σ:St) (H:Hp) (x:V) (v vl vu:Value) (lo hi:Option Int) (sl:Addr) (Q:VK),Inv X pins σ H s->aJ' x v->s.heap.IsSliceOf sl vl vu .none->IsPart vl lo->IsPart vu hi->r x lo hi H Q->
  ∃T id,typeLookup (.type T) "__getitem__"=pure (some (.builtin id))/\s.TypeIs v T/\wpAny (model X.prog X.w) X.A (getItem v (.ref sl)) (EP X pins σ Q) X.xe s
theorem SlR.or {r r':V->Option Int->Option Int->Hp->VK->Prop} (h:SlR X r) (h':SlR X r'):SlR X (fun x lo hi H Q=>r x lo hi H Q\/r' x lo hi H Q):=by
 intro pins s σ H x v vl vu lo hi sl Q I rx hs pl pu q
 rcases q with q|q
 .exact h pins s σ H x v vl vu lo hi sl Q I rx hs pl pu q
 .exact h' pins s σ H x v vl vu lo hi sl Q I rx hs pl pu q
def tSl (r:V->Option Int->Option Int->Hp->VK->Prop) (te:TE) (tl th:TO):TE:=fun σ H Q=>te σ H fun x H1=>tl σ H1 fun l H2=>th σ H2 fun u H3=>r x l u H3 Q
theorem ni' {r:V->Option Int->Option Int->Hp->VK->Prop} (hr:SlR X r) (he:PE X e te) (hl:PO X lo tl) (hu:PO X hi th):PE X (.Subscript e (.Slice lo hi none p2) pos) (tSl r te tl th):=by
 intro pins s σ H Q I h
 refine Subscript_ (thn (he pins s σ H _ I h) fun v s1 ⟨x,H1,I1,r1,q1⟩=>?_)
 refine wpAny_Slice (thn (hl pins s1 σ H1 _ I1 q1) fun vl s2 ⟨l,H2,I2,pl,q2⟩=>thn (hu pins s2 σ H2 _ I2 q2) fun vu s3 ⟨u,H3,I3,pu,q3⟩=>?_)
 rw[evalPart_none]
 refine ag ?_
 have I4:Inv X pins σ H3 { s3 with heap:=s3.heap.push { cls:=.type "slice",data:=.fields #[vl,vu,.none] } }:=I3.kept (t':=s3.toks) fun b ob q=>ah _ q
 obtain⟨T,id,hT,ht,hg⟩:=hr pins { s3 with heap:=s3.heap.push { cls:=.type "slice",data:=.fields #[vl,vu,.none] } } σ H3 x v vl vu l u s3.heap.objs.size Q I4 r1 (Heap.IsSliceOf.new ..) pl pu q3
 show wpAny (model X.prog X.w) X.A (subscriptTail e (.Slice lo hi none p2) v (.ref s3.heap.objs.size)) (EP X pins σ Q) X.xe { s3 with heap:=s3.heap.push { cls:=.type "slice",data:=.fields #[vl,vu,.none] } }
 exact tail_any (ops:=[.ref s3.heap.objs.size,v]) ht hT hg (by with_unfolding_all rfl)
def sM' (xs:List V) (lo hi:Option Int):List V:=(xs.drop (HT.sIx xs.length 0 lo)).take (HT.sIx xs.length xs.length hi-HT.sIx xs.length 0 lo)
theorem eN' (xs:List V) (lo hi:Option Int):(sM' xs lo hi).length<=xs.length:=by
 unfold sM'
 rw[aC,bQ]
 omega
def xF' (K:W.Frag):V->Option Int->Option Int->Hp->VK->Prop:=fun x lo hi H Q=>∃a xs,x=.ref a/\SqT K H a xs/\
 ¬(HT.sIx xs.length 0 lo=0/\HT.sIx xs.length xs.length hi=xs.length)/\∀p,H p=none->Q (.ref p) (upd H p (.tup (sM' xs lo hi)))
theorem tp':SlR X (xF' X.K):=by
 intro pins s σ H x v vl vu lo hi sl Q I rx hs pl pu h
 obtain⟨a,xs,rfl,hx,hw,q⟩:=h
 cases rx
 obtain⟨its,r,ht,hz⟩:=I.tuple hx
 have hlen:its.toArray.size=xs.length:=by rw[al];exact r.length.symm
 refine⟨"tuple",_,PyProof.Rows.slot_tuple_getitem.lookup,ht.typeIs,?_⟩
 refine HT.d1' ht hs pl pu (by rw[hlen];exact hw) ?_ (by rw[hlen];exact hz)
 rw[hlen]
 refine⟨.ref s.heap.objs.size,_,I.laid (t':=s.toks) (o:=.tup (sM' xs lo hi)) (fun b ob q=>ah _ q) (ae _) ?_,rfl,q _ (I.hok.fresh (ae _))⟩
 exact⟨ay (eN' xs lo hi) hz,_,(r.drop (HT.sIx xs.length 0 lo)).take (HT.sIx xs.length xs.length hi-HT.sIx xs.length 0 lo),o0'.new _ _⟩
def tq' (K:W.Frag):R2:=fun x y H Q=>∃a b xs ys,x=.ref a/\y=.ref b/\SqT K H a xs/\SqT K H b ys/\xs≠[]/\xs.length+ys.length<=sizeLine/\
 (ys=[]->Q (.ref a) H)/\(ys≠[]->∀p,H p=none->Q (.ref p) (upd H p (.tup (xs++ys))))
theorem aE'.nil_iff {xs:List V} {us:List Value} (r:aE' xs us):us=[]↔xs=[]:=by
 cases r with
 |nil=>simp
 |cons _ _=>simp
theorem qf':OpR X (binaryOp .Add) (tq' X.K):=by
 intro pins s σ H x y v u Q I rx ry h
 obtain⟨a,b,xs,ys,rfl,rfl,ha,hb,hx,hz,q1,q2⟩:=h
 cases rx
 cases ry
 obtain⟨its,r1,p1,_⟩:=I.tuple ha
 obtain⟨its2,r2,p2,_⟩:=I.tuple hb
 refine HT.qd' p1 p2 (fun z=>hx (r1.nil_iff.mp z)) (fun z=>⟨.ref a,H,I,rfl,q1 (r2.nil_iff.mp z)⟩) (fun z=>?_) (by rw[<- r1.length,<- r2.length];exact hz)
 refine⟨.ref s.heap.objs.size,_,I.laid (t':=s.toks) (o:=.tup (xs++ys)) (fun b ob q=>ah _ q) (ae _) ?_,rfl,q2 (fun w=>z (r2.nil_iff.mpr w)) _ (I.hok.fresh (ae _))⟩
 exact⟨by rw[ap];exact hz,_,r1.append r2,o0'.new _ _⟩
end
def ixN (n:Nat) (i:Int):Option Nat:=if 0<=i then(if i<n then some i.toNat else none)else if -(n:Int)<=i then some (i+n).toNat else none
def atI {α:Type} (xs:List α) (i:Int):Option α:=(ixN xs.length i).bind fun j=>xs[j]?
theorem kv' {n:Nat} {i:Int} {j:Nat} (h:ixN n i=some j):seqIndex? i n=some j/\j<n/\-(n:Int)<=i/\i<n:=by
 unfold ixN at h
 by_cases h0:0<=i
 .rw[if_pos h0]at h
  by_cases h1:i<n
  .rw[if_pos h1]at h
   have e:i.toNat=j:=Option.some.inj h
   exact⟨by rw[seqIndex_of h0 h1,e],by omega,by omega,h1⟩
  .rw[if_neg h1]at h;cases h
 .rw[if_neg h0]at h
  by_cases h1:-(n:Int)<=i
  .rw[if_pos h1]at h
   have e:(i+n).toNat=j:=Option.some.inj h
   exact⟨by rw[seqIndex_neg (by omega) h1,e],by omega,h1,by omega⟩
  .rw[if_neg h1]at h;cases h
theorem h9' {α:Type} {xs:List α} {i:Int} {v:α} (h:atI xs i=some v):∃j,seqIndex? i xs.length=some j/\xs[j]?=some v/\j<xs.length/\-(xs.length:Int)<=i/\i<xs.length:=by
 unfold atI at h
 cases e:ixN xs.length i with
 |none=>rw[e]at h;cases h
 |some j=>
  rw[e]at h
  obtain⟨h1,h2,h3,h4⟩:=kv' e
  exact⟨j,h1,h,h2,h3,h4⟩
theorem eO' {α:Type} {xs:List α} {j:Nat} {v:α} (h:xs[j]?=some v):atI xs (j:Int)=some v:=by
 have hj:j<xs.length:=(aL.mp h).1
 have e:ixN xs.length (j:Int)=some j:=by
  unfold ixN
  rw[if_pos (by omega),if_pos (by omega)];simp
 unfold atI;rw[e];exact h
theorem f0' {α:Type} (xs:List α) (v:α):atI (xs++[v]) (-1)=some v:=by
 have hl:(xs++[v]).length=xs.length+1:=by simp
 have e:ixN (xs++[v]).length (-1)=some xs.length:=by
  unfold ixN
  rw[hl,if_neg (by decide),if_pos (by omega)]
  congr 1
  omega
 unfold atI
 rw[e]
 show(xs++[v])[xs.length]?=some v
 simp
def kw' (b:Expr):Prop:=∀o i,subscripted b false o i=operate [o,i] (getItem o i)
def IxR (X:Cx) (r:R2):Prop:=
 ∀(value slice:Expr) (pins:List (Addr×Obj)) (s:Shared) (σ:St) (H:Hp) (x y:V) (v u:Value) (Q:VK),Inv X pins σ H s->aJ' x v->aJ' y u->r x y H Q->
  subscripted slice false v u=operate [v,u] (getItem v u)->wpAny (model X.prog X.w) X.A (subscriptTail value slice v u) (EP X pins σ Q) X.xe s
def MtR (X:Cx) (id:String) (r:V->List V->Hp->VK->Prop):Prop:=
 ∀(pins:List (Addr×Obj)) (s:Shared) (σ:St) (H:Hp) (x:V) (xs:List V) (v:Value) (us:List Value) (Q:VK),Inv X pins σ H s->aJ' x v->aE' xs us->r x xs H Q->
  wpAny (model X.prog X.w) X.A (call (.builtin id) (v :: us)) (EP X pins σ Q) X.xe s
section
variable {X:Cx} {a b:Expr} {ta tb:TE} {pos:Pos}
theorem IxR.or {r r':R2} (h:IxR X r) (h':IxR X r'):IxR X (fun x y H Q=>r x y H Q\/r' x y H Q):=by
 intro value slice pins s σ H x y v u Q I rx ry q hs
 rcases q with q|q
 .exact h value slice pins s σ H x y v u Q I rx ry q hs
 .exact h' value slice pins s σ H x y v u Q I rx ry q hs
theorem xG' {r:R2} (hr:IxR X r) (ha:PE X a ta) (hb:PE X b tb) (hs:kw' b):PE X (.Subscript a b pos) (tOp r ta tb):=by
 intro pins s σ H Q I h
 exact Subscript_ (xr' ha hb I h fun v u s2 x y H2 I2 rx ry q=>hr a b pins s2 σ H2 x y v u Q I2 rx ry q (hs _ _))
def jD' (K:W.Frag):R2:=fun x y H Q=>∃p xs i v,x=.ref p/\y=.int i/\SqL K H p xs/\atI xs i=some v/\Q v H
def j9' (K:W.Frag):R2:=fun x y H Q=>∃p xs i v,x=.ref p/\y=.int i/\SqT K H p xs/\atI xs i=some v/\Q v H
def zP':R2:=fun x y H Q=>∃z i c,x=.str z/\y=.int i/\z.length<=sizeLine/\atI z.cps.toList i=some c/\Q (.str ⟨#[c]⟩) H
theorem qg':IxR X (jD' X.K):=by
 intro value slice pins s σ H x y v u Q I rx ry h hs
 obtain⟨p,xs,i,z,rfl,rfl,hq,he,q⟩:=h
 cases rx
 obtain⟨t,rfl⟩:=ry
 obtain⟨its,r,pl,hz⟩:=I.list hq
 obtain⟨j,h1,h2,h3,h4,h5⟩:=h9' he
 obtain⟨w,ew,rw'⟩:=r.get h2
 have hl:=r.length
 have hn:=fG'
 have fin:EP X pins σ Q w s:=⟨z,H,I,rw',q⟩
 by_cases h0:0<=i
 .have hj:i.toNat=j:=by
   rw[seqIndex_of h0 h5]at h1
   exact Option.some.inj h1
  exact item_listR pl.isList h0 (by omega) (by rw[hj];simpa using ew) fin hs
 .have hj:(i+(its.toArray.size:Int)).toNat=j:=by
   rw[seqIndex_neg (by omega) h4]at h1
   rw[al,<- hl]
   exact Option.some.inj h1
  exact subscriptTail_builtinR (x:=w) pl.isList.typeIs slot_list_getitem.lookup
   (wpAny_getItem_list_neg (Q:=fun r s'=>r=w/\EP X pins σ Q r s') pl.isList (by omega) (by rw[al]<;>omega) (by omega) (by rw[hj];simpa using ew) ⟨rfl,fin⟩) hs
theorem tr':IxR X (j9' X.K):=by
 intro value slice pins s σ H x y v u Q I rx ry h hs
 obtain⟨p,xs,i,z,rfl,rfl,hq,he,q⟩:=h
 cases rx
 obtain⟨t,rfl⟩:=ry
 obtain⟨its,r,pl,hz⟩:=I.tuple hq
 obtain⟨j,h1,h2,h3,h4,h5⟩:=h9' he
 obtain⟨w,ew,rw'⟩:=r.get h2
 have hl:=r.length
 have hn:=fG'
 have fin:EP X pins σ Q w s:=⟨z,H,I,rw',q⟩
 exact subscriptTail_builtinR (x:=w) pl.typeIs slot_tuple_getitem.lookup
  (getItem_tuple (j:=j) (Q:=fun r s'=>r=w/\EP X pins σ Q r s') pl (by omega) (by omega) (by rw[al,<- hl];exact h1) (by simpa using ew) ⟨rfl,fin⟩) hs
theorem ts':IxR X zP':=by
 intro value slice pins s σ H x y v u Q I rx ry h hs
 obtain⟨z,i,c,rfl,rfl,hz,he,q⟩:=h
 obtain⟨t,rfl⟩:=rx
 obtain⟨t',rfl⟩:=ry
 obtain⟨j,h1,h2,h3,h4,h5⟩:=h9' he
 have hl:z.cps.toList.length=z.length:=by simp[Str.length]
 rw[hl]at h1 h4 h5
 have hn:=fG'
 exact tail_any (typeIs_str s z t) slot_str_getitem.lookup (getItem_str (c:=c) (by
  have e1:decide (i < -(2 ^ 63:Int))=false:=decide_eq_false (by omega)
  have e2:decide (i ≥ 2 ^ 63)=false:=decide_eq_false (by omega)
  rw[e1,e2,Bool.or_false]) (by rw[h1];simpa using h2) ⟨.str ⟨#[c]⟩,H,I.tok _,⟨_,rfl⟩,q⟩) hs
def rIx (K:W.Frag):R2:=fun x y H Q=>jD' K x y H Q\/j9' K x y H Q\/zP' x y H Q
theorem tt':IxR X (rIx X.K):=qg'.or (tr'.or ts')
theorem jE' (its:List Value) (n j:Nat) (u:Value):Obj.mapSeq (·.setIfInBounds j u) { cls:=.type "list",data:=.seq its.toArray n }={ cls:=.type "list",data:=.seq (its.set j u).toArray n }:=by
 simp[Obj.mapSeq]
theorem Inv.lst {pins:List (Addr×Obj)} {σ:St} {H:Hp} {s:Shared} {p:Addr} {xs:List V} (I:Inv X pins σ H s) (h:H p=some (.lst xs)):
  ∃(its:List Value) (n:Nat),aE' xs its/\s.heap.get? p=some { cls:=.type "list",data:=.seq its.toArray n }/\xs.length<=sizeLine:=by
 obtain⟨z,its,n,r,e⟩:=I.hok p _ h
 exact⟨its,n,r,e,z⟩
theorem Inv.lstUpd {pins:List (Addr×Obj)} {σ:St} {H:Hp} {s:Shared} {p:Addr} {xs ys:List V} {its its':List Value} {n n':Nat} {f:Obj->Obj} (I:Inv X pins σ H s) (h:H p=some (.lst xs))
  (ho:s.heap.get? p=some { cls:=.type "list",data:=.seq its.toArray n }) (hf:f { cls:=.type "list",data:=.seq its.toArray n }={ cls:=.type "list",data:=.seq its'.toArray n' }) (r:aE' ys its') (hz:ys.length<=sizeLine) (t:Nat):
  Inv X pins σ (upd H p (.lst ys)) { s with heap:=s.heap.update p f,toks:=t }:=by
 have e:(s.heap.update p f).get? p=some { cls:=.type "list",data:=.seq its'.toArray n' }:=by
  rw[aV f ho (by rw[hf]<;>rfl),hf]
 refine I.write (x:=p) (e:=p) (by rw[h];trivial) (.inl rfl) (fun b u hb q=>(cE _ _ (Ne.symm hb)).trans q) ⟨_,e⟩ ?_
 exact⟨hz,its',n',r,e⟩
def fw':V->V->V->Hp->(Hp->Prop)->Prop:=fun o i v H Q=>∃p xs k j,o=.ref p/\i=.int k/\H p=some (.lst xs)/\ixN xs.length k=some j/\Q (upd H p (.lst (xs.set j v)))
theorem nj':zN' X fw':=by
 intro pins s σ H o i v ov iv u Q I ro ri rv h
 obtain⟨p,xs,k,j,rfl,rfl,hp,hj,q⟩:=h
 cases ro
 obtain⟨t,rfl⟩:=ri
 obtain⟨its,n,r,ho,hz⟩:=I.lst hp
 obtain⟨h1,h2,h3,h4⟩:=kv' hj
 have hl:=r.length
 have hn:=fG'
 have I':Inv X pins σ (upd H p (.lst (xs.set j v))) { s with heap:=s.heap.update p (Obj.mapSeq (·.setIfInBounds j u)) }:=
  I.lstUpd hp ho (jE' its n j u) (r.set rv j) (by rw[List.length_set];exact hz) s.toks
 by_cases h0:0<=k
 .have hk:k.toNat=j:=by
   rw[seqIndex_of h0 h4]at h1
   exact Option.some.inj h1
  exact W.ki_setAt ho h0 (by omega) (by rw[al,<- hl];exact h4) (by rw[hk];exact⟨_,I',q⟩)
 .have hk:(k+(its.toArray.size:Int)).toNat=j:=by
   rw[seqIndex_neg (by omega) h3]at h1
   rw[al,<- hl]
   exact Option.some.inj h1
  exact W.ki_setBack ho (by omega) (by rw[al,<- hl];exact h3) (by omega) (by rw[hk];exact⟨_,I',q⟩)
theorem gJ' (lo hi:Option Int) (n:Nat):(sliceBounds lo hi none n).1=((HT.sIx n 0 lo:Nat):Int)/\(sliceBounds lo hi none n).2.1=((HT.sIx n n hi:Nat):Int)/\(sliceBounds lo hi none n).2.2=1:=by
 refine⟨?_,?_,rfl⟩
 .cases lo with
  |none=>simp[sliceBounds,HT.sIx]
  |some i=>
   simp only[sliceBounds,HT.sIx,Option.getD_none,show(1:Int) > 0 by decide,if_true]
   by_cases h:i<0
   .simp only[h,if_true]<;>omega
   .simp only[h,if_false]<;>omega
 .cases hi with
  |none=>simp[sliceBounds,HT.sIx]
  |some i=>
   simp only[sliceBounds,HT.sIx,Option.getD_none,show(1:Int) > 0 by decide,if_true]
   by_cases h:i<0
   .simp only[h,if_true]<;>omega
   .simp only[h,if_false]<;>omega
theorem f1' (its:List Value) (lo hi:Option Int):slicePick its.toArray lo hi none=((its.drop (HT.sIx its.length 0 lo)).take (HT.sIx its.length its.length hi-HT.sIx its.length 0 lo)).toArray:=by
 obtain⟨h1,h2,h3⟩:=gJ' lo hi its.toArray.size
 unfold slicePick
 rw[h1,h2,h3]
 simp only[sliceRange_one,pick_run,al]<;>rfl
def xH' (K:W.Frag):V->Option Int->Option Int->Hp->VK->Prop:=fun x lo hi H Q=>∃a xs,x=.ref a/\SqL K H a xs/\∀p,H p=none->Q (.ref p) (upd H p (.lst (sM' xs lo hi)))
theorem qh':SlR X (xH' X.K):=by
 intro pins s σ H x v vl vu lo hi sl Q I rx hs pl pu h
 obtain⟨a,xs,rfl,hx,q⟩:=h
 cases rx
 obtain⟨its,r,ht,hz⟩:=I.list hx
 have hlen:=r.length
 refine⟨"list",_,slot_list_getitem.lookup,ht.isList.typeIs,?_⟩
 refine wpAny_getItem_list_slice ht.isList hs pl pu .none (by simp) ?_ (by rw[al]<;>omega)
 rw[f1',<- hlen]
 refine⟨.ref s.heap.objs.size,_,I.laid (t':=s.toks) (o:=.lst (sM' xs lo hi)) (fun b ob q=>ah _ q) (ae _) ?_,rfl,q _ (I.hok.fresh (ae _))⟩
 exact⟨ay (eN' xs lo hi) hz,_,0,(r.drop (HT.sIx xs.length 0 lo)).take (HT.sIx xs.length xs.length hi-HT.sIx xs.length 0 lo),ao _ rfl⟩
def gK':V->Bool
 | .non=>true
 | .bl _=>true
 | .int _=>true
 | .str _=>true
 |_=>false
def eqV:V->V->Bool
 | .non,.non=>true
 | .bl a,.bl b=>a == b
 | .bl a,.int b=>(if a then 1 else 0) == b
 | .int a,.bl b=>a == (if b then 1 else 0)
 | .int a,.int b=>a == b
 | .str a,.str b=>a == b
 |_,_=>false
theorem tu' {A:Around} {s:Shared} {y x:V} {u v:Value} (ry:aJ' y u) (rx:aJ' x v) (fy:gK' y=true) (fx:gK' x=true):SeqAt.EqAt A s u v (eqV y x):=by
 cases y with
 |non=>
  cases ry
  cases x with
  |non=>cases rx;exact SeqAt.EqAt.same _
  |bl b=>cases rx;exact SeqAt.EqAt.none_bool b
  |int b=>obtain⟨t,rfl⟩:=rx;exact SeqAt.EqAt.none_int b t
  |str b=>obtain⟨t,rfl⟩:=rx;exact SeqAt.EqAt.none_str b t
  |_=>exact absurd (show false=true from fx) am
 |bl a=>
  cases ry
  cases x with
  |non=>cases rx;exact SeqAt.EqAt.bool_none a
  |bl b=>cases rx;exact SeqAt.EqAt.bool_bool a b
  |int b=>obtain⟨t,rfl⟩:=rx;exact SeqAt.EqAt.bool_int a b t
  |str b=>obtain⟨t,rfl⟩:=rx;exact SeqAt.EqAt.bool_str a b t
  |_=>exact absurd (show false=true from fx) am
 |int a=>
  obtain⟨t',rfl⟩:=ry
  cases x with
  |non=>cases rx;exact SeqAt.EqAt.int_none a t'
  |bl b=>cases rx;exact SeqAt.EqAt.int_bool a t' b
  |int b=>obtain⟨t,rfl⟩:=rx;exact SeqAt.EqAt.int_int a t' b t
  |str b=>obtain⟨t,rfl⟩:=rx;exact SeqAt.EqAt.int_str a t' b t
  |_=>exact absurd (show false=true from fx) am
 |str a=>
  obtain⟨t',rfl⟩:=ry
  cases x with
  |non=>cases rx;exact SeqAt.EqAt.str_none a t'
  |bl b=>cases rx;exact SeqAt.EqAt.str_bool a t' b
  |int b=>obtain⟨t,rfl⟩:=rx;exact SeqAt.EqAt.str_int a t' b t
  |str b=>obtain⟨t,rfl⟩:=rx;exact SeqAt.EqAt.str_str a t' b t
  |_=>exact absurd (show false=true from fx) am
 |_=>exact absurd (show false=true from fy) am
def eqU (x:V) (u:Value):Bool:=match u with
 | .none=>eqV .non x
 | .bool b=>eqV (.bl b) x
 | .int i _=>eqV (.int i) x
 | .str z _=>eqV (.str z) x
 |_=>false
theorem o9' {x y:V} {u:Value} (r:aJ' y u) (f:gK' y=true):eqU x u=eqV y x:=by
 cases y with
 |non=>cases r;rfl
 |bl b=>cases r;rfl
 |int i=>obtain⟨t,rfl⟩:=r;rfl
 |str z=>obtain⟨t,rfl⟩:=r;rfl
 |_=>exact absurd (show false=true from f) am
theorem eP' {x:V}:∀{xs:List V} {us:List Value},aE' xs us->xs.all gK'=true->us.any (eqU x)=xs.any fun y=>eqV y x
 |_,_,.nil,_=>rfl
 |y :: xs,u :: us,.cons r t,f=>by
  rw[cZ,ai]at f
  rw[cS,cS,o9' r f.1,eP' t f.2]
theorem dB' {A:Around} {s:Shared} {x:V} {v:Value} (rx:aJ' x v) (fx:gK' x=true):∀{xs:List V} {us:List Value},aE' xs us->xs.all gK'=true->∀u∈us,SeqAt.EqAt A s u v (eqU x u)
 |_,_,.nil,_=>fun u hu=>by cases hu
 |y :: xs,u :: us,.cons r t,f=>fun u' hu=>by
  rw[cZ,ai]at f
  rcases ax.mp hu with rfl|hu
  .rw[o9' r f.1];exact tu' r rx f.1 fx
  .exact dB' rx fx t f.2 u' hu
def inV (x:V) (xs:List V):Bool:=xs.any fun y=>eqV y x
def rIn (K:W.Frag) (neg:Bool):R2:=fun x y H Q=>∃p xs,y=.ref p/\(SqL K H p xs\/SqT K H p xs)/\gK' x=true/\xs.all gK'=true/\Q (.bl (if neg then !inV x xs else inV x xs)) H
theorem kx':OpR X (compareOp .In) (rIn X.K false):=by
 intro pins s σ H x y v u Q I rx ry h
 obtain⟨p,xs,rfl,hq,fx,fs,q⟩:=h
 cases ry
 rcases hq with hq|hq
 .obtain⟨its,r,pl,hz⟩:=I.list hq
  refine SeqAt.in_listAt (eqU x) pl.isList (fun w hw=>dB' rx fx r fs w (by simpa using hw)) ⟨.bl _,H,I,rfl,?_⟩
  rw[show its.toArray.any (eqU x)=its.any (eqU x) by simp,eP' r fs]
  exact q
 .obtain⟨its,r,pl,hz⟩:=I.tuple hq
  refine SeqAt.in_tupleAt (eqU x) pl (fun w hw=>dB' rx fx r fs w (by simpa using hw)) ⟨.bl _,H,I,rfl,?_⟩
  rw[show its.toArray.any (eqU x)=its.any (eqU x) by simp,eP' r fs]
  exact q
theorem gL':OpR X (compareOp .NotIn) (rIn X.K true):=by
 intro pins s σ H x y v u Q I rx ry h
 obtain⟨p,xs,rfl,hq,fx,fs,q⟩:=h
 cases ry
 rcases hq with hq|hq
 .obtain⟨its,r,pl,hz⟩:=I.list hq
  refine SeqAt.notIn_listAt (eqU x) pl.isList (fun w hw=>dB' rx fx r fs w (by simpa using hw)) ⟨.bl _,H,I,rfl,?_⟩
  rw[show its.toArray.any (eqU x)=its.any (eqU x) by simp,eP' r fs]
  exact q
 .obtain⟨its,r,pl,hz⟩:=I.tuple hq
  refine SeqAt.notIn_tupleAt (eqU x) pl (fun w hw=>dB' rx fx r fs w (by simpa using hw)) ⟨.bl _,H,I,rfl,?_⟩
  rw[show its.toArray.any (eqU x)=its.any (eqU x) by simp,eP' r fs]
  exact q
theorem bl'.or {f:Value} {r r':List V->Hp->VK->Prop} (h:bl' X f r) (h':bl' X f r'):bl' X f (fun xs H Q=>r xs H Q\/r' xs H Q):=by
 intro pins s σ H xs us Q I rs q
 rcases q with q|q
 .exact h pins s σ H xs us Q I rs q
 .exact h' pins s σ H xs us Q I rs q
theorem gM':bl' X (.type "list") (fun xs H Q=>∃p ys,xs=[.ref p]/\(SqL X.K H p ys\/SqT X.K H p ys)/\∀l,H l=none->Q (.ref l) (upd H l (.lst ys))):=by
 intro pins s σ H xs us Q I r h
 obtain⟨p,ys,rfl,hq,q⟩:=h
 obtain⟨u,rfl,rx⟩:=fu' r
 cases rx
 have fin:∀(its:List Value),aE' ys its->ys.length<=sizeLine->∀(h':Heap) (c':Nat),(∀b o',s.heap.get? b=some o'->h'.get? b=some o')->
   h'.get? s.heap.objs.size=some { cls:=.type "list",dict:=none,data:=.seq its.toArray c',slots:=#[] }->EP X pins σ Q (.ref s.heap.objs.size) { s with heap:=h' }:=fun its r' hz h' c' kp e=>
  ⟨.ref s.heap.objs.size,_,I.laid (t':=s.toks) kp (ae _) (show a5' X.prog X.w _ h' _ (.lst ys) from⟨hz,its,c',r',e⟩),rfl,q _ (I.hok.fresh (ae _))⟩
 rcases hq with hq|hq
 .obtain⟨its,r',pl,hz⟩:=I.list hq
  have hlen:=r'.length
  obtain⟨o,ho,hc,n,hd⟩:=pl.isList
  exact call_list_seq p (.inl rfl) ho hc hd (fun h' c' kp e=>fin its r' hz h' c' kp e) (by simp only[al]<;>omega)
 .obtain⟨its,r',pl,hz⟩:=I.tuple hq
  have hlen:=r'.length
  obtain⟨o,ho,hc,n,hd⟩:=pl
  exact call_list_seq p (.inr rfl) ho hc hd (fun h' c' kp e=>fin its r' hz h' c' kp e) (by simp only[al]<;>omega)
theorem f3':bl' X (.type "tuple") (fun xs H Q=>∃p ys,xs=[.ref p]/\((SqL X.K H p ys/\∀l,H l=none->Q (.ref l) (upd H l (.tup ys)))\/(SqT X.K H p ys/\Q (.ref p) H))):=by
 intro pins s σ H xs us Q I r h
 obtain⟨p,ys,rfl,h⟩:=h
 obtain⟨u,rfl,rx⟩:=fu' r
 cases rx
 rcases h with⟨hq,q⟩|⟨hq,q⟩
 .obtain⟨its,r',pl,hz⟩:=I.list hq
  have hlen:=r'.length
  refine call_tuple_list pl.isList (fun h' kp=>?_) (by simp only[al]<;>omega)
  have I1:Inv X pins σ H { s with heap:=h' }:=I.kept (t':=s.toks) kp
  have I2:Inv X pins σ (upd H h'.objs.size (.tup ys)) { s with heap:=h'.push { cls:=.type "tuple",data:=.seq its.toArray } }:=
   I1.laid (t':=s.toks) (fun b o e=>ah _ e) (ae _) (show a5' X.prog X.w _ _ _ (.tup ys) from⟨hz,its,r',o0'.new _ _⟩)
  exact⟨.ref h'.objs.size,_,I2,rfl,q _ (I1.hok.fresh (ae _))⟩
 .obtain⟨its,r',pl,hz⟩:=I.tuple hq
  exact call_tuple_same pl ⟨.ref p,H,I,rfl,q⟩
def tyV (K:W.Frag) (T:String) (x:V) (H:Hp):Prop:=match x with
 | .str _=>T="str"
 | .int _=>T="int"
 | .ref p=>(T="list"/\∃xs,SqL K H p xs)\/(T="tuple"/\((∃o,K.lookup p=some o/\o.cls=.type "tuple"/\o.dict=none)\/∃xs,H p=some (.tup xs)))\/
   (T="dict"/\((∃kvs,H p=some (.dK kvs))\/∃kvs,H p=some (.dT kvs)))\/(T="set"/\∃S n,H p=some (.set S n))
 |_=>False
theorem pa' {pins:List (Addr×Obj)} {σ:St} {H:Hp} {s:Shared} {T:String} {x:V} {v:Value} (I:Inv X pins σ H s) (r:aJ' x v) (ty:tyV X.K T x H):
  s.TypeIs v T/\∀a,v=.ref a->∃ob,s.heap.get? a=some ob/\ob.dict=none:=by
 cases x with
 |str z=>
  obtain⟨t,rfl⟩:=r
  cases(show T="str" from ty)
  exact⟨typeIs_str s z t,fun _ e=>nomatch e⟩
 |int i=>
  obtain⟨t,rfl⟩:=r
  cases(show T="int" from ty)
  exact⟨typeIs_int s i t,fun _ e=>nomatch e⟩
 |ref p=>
  cases r
  rcases ty with⟨rfl,xs,hq⟩|⟨rfl,⟨o,hk,hc,hd⟩|⟨xs,hk⟩⟩|⟨rfl,hk⟩|⟨rfl,S,n,hk⟩
  .obtain⟨its,_,pl,_⟩:=I.list hq
   refine⟨pl.isList.typeIs,fun a e=>?_⟩
   cases e
   obtain⟨o,n,e,c,hd,_⟩:=pl
   exact⟨o,e,hd⟩
  .refine⟨⟨o,I.kIn p o hk,hc⟩,fun a e=>?_⟩
   cases e
   exact⟨o,I.kIn _ o hk,hd⟩
  .obtain⟨_,_,_,o,e,c,_,hd⟩:=I.hok p _ hk
   refine⟨⟨o,e,c⟩,fun a e2=>?_⟩
   cases e2
   exact⟨o,e,hd⟩
  .have z:∃o,s.heap.get? p=some o/\o.ExactDict:=by
    rcases hk with⟨kvs,hk⟩|⟨kvs,hk⟩
    .obtain⟨_,_,_,_,o,_,_,e,ex,_⟩:=I.hok p _ hk
     exact⟨o,e,ex⟩
    .obtain⟨_,_,_,_,o,_,_,e,ex,_⟩:=I.hok p _ hk
     exact⟨o,e,ex⟩
   obtain⟨o,e,ex⟩:=z
   refine⟨⟨o,e,ex.1⟩,fun a e2=>?_⟩
   cases e2
   exact⟨o,e,ex.2.1⟩
  .obtain⟨o,_,_,_,e,ex,_⟩:=I.hok p _ hk
   refine⟨⟨o,e,ex.1⟩,fun a e2=>?_⟩
   cases e2
   exact⟨o,e,ex.2.1⟩
 |_=>exact False.elim ty
def Ar' (K:W.Frag) (T:String) (r:V->List V->Hp->VK->Prop) (to:TE):TE:=fun σ H Q=>to σ H fun x H1=>tyV K T x H1/\r x [] H1 Q
def tBM (K:W.Frag) (T:String) (r:V->List V->Hp->VK->Prop) (to:TE) (t:TA):TE:=fun σ H Q=>to σ H fun x H1=>tyV K T x H1/\t σ H1 fun xs H2=>r x xs H2 Q
variable {o e:Expr} {es:List Expr} {to:TE} {t:TA} {name:Str} {apos cpos:Pos} {T id:String} {r:V->List V->Hp->VK->Prop}
theorem tv' (pa:PlainAttrs T) (slot:Slot T name id) (hty:typeOf (.builtin id)=pure (.type "method_descriptor")) (hm:MtR X id r) (ho:PE X o to)
  (hbase:attributeBase o name X.env (eval o X.env)=eval o X.env:=by rfl) (hline:(apos.endLine == cpos.line)=true:=by rfl):PE X (.Call (.Attribute o name apos) [] [] cpos) (Ar' X.K T r to):=by
 intro pins s σ H Q I h
 refine wpAny_Call_method0_late hbase hline (thn (ho pins s σ H _ I h) fun v s1 ⟨x,H1,I1,r1,ty,q1⟩=>?_)
 obtain⟨h1,h2⟩:=pa' I1 r1 ty
 exact⟨T,id,pa,slot,hty,h1,h2,Calls.callWith_builtin rfl (PySem.evalArgs_none (hm pins s1 σ H1 x [] v [] Q I1 r1 .nil q1))⟩
theorem xI' (pa:PlainAttrs T) (slot:Slot T name id) (hty:typeOf (.builtin id)=pure (.type "method_descriptor")) (hm:MtR X id r) (ho:PE X o to) (ha:PA X (e :: es) t)
  (hbase:attributeBase o name X.env (eval o X.env)=eval o X.env:=by rfl)
  (hfew:((backTo cpos (starEach (e :: es) X.env)).all (fun x=>!x.1)&&(backToKw cpos (keywordEach [] X.env)).all (fun x=>x.1.isSome)
   && decide ((e :: es).length+([]:List Keyword).length+(if([]:List Keyword).isEmpty then 0 else 1)<30))=true:=by rfl)
  (hline:(apos.endLine == cpos.line)=true:=by rfl) (hs:starEach (e :: es) X.env=(false,eval e X.env) :: starEach es X.env:=by rfl) (hplain:(backTo cpos (starEach es X.env)).any (·.1)=false:=by rfl):
  PE X (.Call (.Attribute o name apos) (e :: es) [] cpos) (tBM X.K T r to t):=by
 intro pins s σ H Q I h
 refine wpAny_Call_method_late hbase hfew hline rfl (thn (ho pins s σ H _ I h) fun v s1 ⟨x,H1,I1,r1,ty,q1⟩=>?_)
 obtain⟨h1,h2⟩:=pa' I1 r1 ty
 refine⟨T,id,pa,slot,hty,h1,h2,?_⟩
 have hA:=ha cpos pins s1 σ H1 _ I1 q1
 rw[hs]at hA ⊢
 refine Calls.callWith_builtin (by show(false || (backTo cpos (starEach es X.env)).any (·.1))=false;rw[hplain]<;>rfl) (Calls.evalArgs_plain ?_)
 exact thn hA fun us s2 ⟨vs,H2,I2,r2,q2⟩=>hm pins s2 σ H2 x vs v us Q I2 r1 r2 q2
end
def MtM (X:Cx) (id:String) (r:V->List V->Hp->VK->Prop):Prop:=
 ∀(pins:List (Addr×Obj)) (s:Shared) (σ:St) (H:Hp) (x:V) (xs:List V) (v:Value) (us:List Value) (Q:VK),Inv X pins σ H s->aJ' x v->aE' xs us->r x xs H Q->
  wpAny (model X.prog X.w) X.A (call (.builtin id) (v :: us)) (EP X pins σ Q) X.xe s
theorem aE'.one:∀{x:V} {us:List Value},aE' [x] us->∃u,us=[u]/\aJ' x u
 |_,_,.cons r .nil=>⟨_,rfl,r⟩
theorem aE'.zero:∀{us:List Value},aE' [] us->us=[]
 |_,.nil=>rfl
theorem aE'.dropLast {xs:List V} {us:List Value} (h:aE' xs us):aE' xs.dropLast us.dropLast:=by
 induction h with
 |nil=>exact .nil
 |cons r t ih=>
  cases t with
  |nil=>exact .nil
  |cons q t'=>exact .cons r ih
theorem aE'.reverse {xs:List V} {us:List Value} (h:aE' xs us):aE' xs.reverse us.reverse:=by
 induction h with
 |nil=>exact .nil
 |cons r t ih=>rw[List.reverse_cons,List.reverse_cons];exact aE'.append ih (.cons r .nil)
theorem aE'.rep {xs:List V} {us:List Value} (h:aE' xs us):∀k:Nat,aE' (aP k xs).flatten (aP k us).flatten
 |0=>.nil
 |k+1=>by
  rw[bT,bT,bF,bF]
  exact aE'.append h (aE'.rep h k)
theorem gN' (its:List Value):∀(k:Nat) (acc:List Value),
  List.foldl (fun x1 x2=>x1++x2) acc.toArray (aP k its.toArray)=(acc++(aP k its).flatten).toArray
 |0,acc=>by simp
 |k+1,acc=>by
  have e:acc.toArray++its.toArray=(acc++its).toArray:=by simp
  have e2:(acc++its)++(aP k its).flatten=acc++(aP (k+1) its).flatten:=by
   rw[bT,bF,aS]
  rw[<- e2,<- gN' its k (acc++its),<- e,bT,List.foldl_cons]
section
variable {X:Cx} {pins:List (Addr×Obj)} {σ:St} {H:Hp} {s:Shared} {l b:Addr} {xs ys zs:List V}
theorem Inv.lset {its its':List Value} {n:Nat} {f:Array Value->Array Value} {t':Nat} (I:Inv X pins σ H s) (hH:H l=some (.lst xs))
  (e:s.heap.get? l=some { cls:=.type "list",data:=.seq its.toArray n }) (hf:f its.toArray=its'.toArray) (hv:aE' ys its') (hz:ys.length<=sizeLine):
  Inv X pins σ (upd H l (.lst ys)) { s with heap:=s.heap.update l (Obj.mapSeq f),toks:=t' }:=by
 have q:=PySem.IsL.update e f
 rw[hf]at q
 refine I.write (x:=l) (e:=l) (by rw[hH];exact trivial) (.inl rfl) (fun b' u hb hu=>(cE s.heap (Obj.mapSeq f) (Ne.symm hb)).trans hu) ⟨_,q⟩ ?_
 exact⟨hz,its',_,hv,q⟩
theorem Inv.lnew {its:List Value} {t':Nat} (I:Inv X pins σ H s) (hv:aE' ys its) (hz:ys.length<=sizeLine):
  Inv X pins σ (upd H s.heap.objs.size (.lst ys)) { s with heap:=s.heap.push { cls:=.type "list",data:=.seq its.toArray },toks:=t' }:=
 I.laid (fun _ _ q=>ah _ q) (ae _) ⟨hz,its,0,hv,ao _ rfl⟩
theorem Inv.fresh (I:Inv X pins σ H s):H s.heap.objs.size=none:=I.hok.fresh (ae _)
theorem Inv.lstM (I:Inv X pins σ H s) (hH:H l=some (.lst xs)):xs.length<=sizeLine/\∃(its:List Value) (n:Nat),aE' xs its/\xs.length=its.length/\s.heap.get? l=some { cls:=.type "list",data:=.seq its.toArray n }:=by
 obtain⟨z,its,n,r,e⟩:=I.hok l _ hH
 exact⟨z,its,n,r,r.length,e⟩
theorem nk' {n:Nat} (h:n<=sizeLine):Builtin.List.listTooLong n=false:=by
 unfold Builtin.List.listTooLong
 exact decide_eq_false (by omega)
end
section
variable {X:Cx}
def ky':V->List V->Hp->VK->Prop:=fun x vs H Q=>∃l xs y,x=.ref l/\vs=[y]/\H l=some (.lst xs)/\xs.length<sizeLine/\Q .non (upd H l (.lst (xs++[y])))
theorem kz':MtM X "list.append" ky':=by
 intro pins s σ H x vs v us Q I rx rv h
 obtain⟨l,xs,y,rfl,rfl,hH,hz,q⟩:=h
 cases rx
 obtain⟨u,rfl,ru⟩:=rv.one
 obtain⟨z,its,n,r,hl,e⟩:=I.lstM hH
 refine call_meets F.slot_list_append ⟨_,e,rfl⟩ F.entry_list_append (F.args_list_append_2 _ _) (PySem.list_append l its.toArray n u (by rw[al];omega)) ⟨e,?_⟩
 refine⟨.non,_,I.lset (its':=its++[u]) hH e (by simp) (r.append (.cons ru .nil)) ?_,rfl,q⟩
 rw[ap,cN]
 omega
def zQ':R2:=fun x y H Q=>∃l b xs zs,x=.ref l/\y=.ref b/\H l=some (.lst xs)/\H b=some (.lst zs)/\xs.length+zs.length<=sizeLine/\∀p,H p=none->Q (.ref p) (upd H p (.lst (xs++zs)))
theorem tw':OpR X (binaryOp .Add) zQ':=by
 intro pins s σ H x y v u Q I rx ry h
 obtain⟨l,b,xs,zs,rfl,rfl,hH,hB,hz,q⟩:=h
 cases rx
 cases ry
 obtain⟨z,its,n,r,hl,e⟩:=I.lstM hH
 obtain⟨z2,its2,n2,r2,hl2,e2⟩:=I.lstM hB
 refine PySem.P.add_list e e2 ?_ (by rw[al,al];omega)
 have ea:its.toArray++its2.toArray=(its++its2).toArray:=by simp
 rw[ea]
 exact⟨.ref _,_,I.lnew (t':=s.toks) (r.append r2) (by rw[ap];omega),rfl,q _ I.fresh⟩
def zR':R2:=fun x y H Q=>∃l k xs,x=.ref l/\y=.int k/\H l=some (.lst xs)/\-(2 ^ 63)<=k/\k<2 ^ 63/\xs.length*k.toNat<=sizeLine/\
 ∀p,H p=none->Q (.ref p) (upd H p (.lst (aP k.toNat xs).flatten))
theorem qi' {α:Type} (xs:List α) (k:Nat):(aP k xs).flatten.length=k*xs.length:=by
 induction k with
 |zero=>simp
 |succ k ih=>rw[bT,bF,ap,ih,Nat.succ_mul,Nat.add_comm]
theorem tx':OpR X (binaryOp .Mult) zR':=by
 intro pins s σ H x y v u Q I rx ry h
 obtain⟨l,k,xs,rfl,rfl,hH,h1,h2,hz,q⟩:=h
 cases rx
 obtain⟨t,rfl⟩:=ry
 obtain⟨z,its,n,r,hl,e⟩:=I.lstM hH
 have hlen:its.toArray.size*k.toNat<=sizeLine:=by rw[al,<- hl];exact hz
 have hcap:¬its.toArray.size*k.toNat > (2 ^ 63-1) / 8:=by
  have:(sizeLine:Nat)<=(2 ^ 63-1) / 8:=by decide
  omega
 have hfit:¬(!Builtin.List.listFitsIndex k)=true:=by
  rw[fitsIndex_both h1 h2]
  exact am
 have hlong:¬Builtin.List.listTooLong (its.toArray.size*k.toNat)=true:=by
  rw[nk' hlen]
  exact am
 have hnew:List.foldl (fun x1 x2=>x1++x2) #[] (aP (if its.toArray.isEmpty=true then 0 else k.toNat) its.toArray)=(aP k.toNat its).flatten.toArray:=by
  have f0:∀m:Nat,List.foldl (fun x1 x2=>x1++x2) #[] (aP m its.toArray)=(aP m its).flatten.toArray:=fun m=>by
   have:=gN' its m []
   rw[List.nil_append]at this
   exact this
  rw[f0]
  cases its with
  |nil=>simp
  |cons a r'=>rw[if_neg (by simp)]
 refine wpAny_binaryOp_repeat_ref (T:="list") (U:="int") (by decide) ⟨_,e,rfl⟩ (fun s'=>typeIs_int s' k t) noFill_list_mul F.fills_int_mul F.slot_int_rmul repeat_list F.slot_int_index.lookup
  (call_meets F.slot_int_rmul (typeIs_int s k t) F.entry_int_rmul (F.args_int_rmul_2 _ _) (int___rmul___int_list k t l its.toArray n)
   ⟨e,rfl,⟨_,e,rfl⟩,call_meets F.slot_list_mul ⟨_,e,rfl⟩ F.entry_list_mul (F.args_list_mul_2 _ _) (AutoListH.list___mul___list_int_3 l its.toArray n k t hfit hcap hlong) ⟨e,?_⟩⟩)
 rw[hnew]
 exact⟨.ref _,_,I.lnew (t':=s.toks) (r.rep k.toNat) (by rw[qi',cy];exact hz),rfl,q _ I.fresh⟩
end
section
variable {prog:Program} {w:World} {A:Around} {E:Value->Shared->Prop} {s:Shared}
end
section
variable {X:Cx}
end
end L2
namespace Att
open PySem PySem.W PySem.Calls PyProof.Rows
theorem eQ' {P:Params} {h:Heap}:∀(ns:List Int) (vs:List Value),WellAll P h vs (ns.map WData.int)->IntsAre vs ns:=by
 intro ns
 induction ns with
 |nil=>
  intro vs w
  rw[cM]at w
  cases w
  exact .nil
 |cons n ns ih=>
  intro vs w
  rw[aH]at w
  cases w with
  |cons a b=>
   cases a
   exact .cons _ _ (ih _ b)
theorem kA' {l:OpenLaw} {n:Nat} (hn:l.most=some n) {P:Params} {h:Heap} {args:List WData} {vals:List Value}
  (hpre:l.row.toRowW.claim.pre args=true) (hwl:WellAll P h vals args):
  ∃a vs ns,vals=[Value.ref a]/\args=[WData.list (ns.map WData.int)]/\h.get? a=some { cls:=.type "list",data:=.seq vs.toArray }/\IntsAre vs ns/\ns.length<=n:=by
 have hsh:WShape.hasAll [] args [.list .int]=true:=(pre_splitW hpre).1
 have hc:l.pre.holds [] { args:=args }=true:=(pre_splitW hpre).2
 obtain⟨d,r,rfl,h1,h2⟩:=hasAllW_cons hsh
 obtain rfl:=hasAllW_nil h2
 obtain⟨xs,rfl,h3⟩:=hasW_list h1
 obtain⟨ns,rfl⟩:=items_int h3
 have hlen:ns.length<=n:=by
  unfold OpenLaw.pre at hc
  have h4:(WTm.not (.lt (.lit (.int (n:Int))) (.len (.arg 0)))).holds [] { args:=[.list (ns.map .int)] }=true:=by
   have h4:=(holds_andW hc).1
   rw[hn]at h4
   exact h4
  have h5:=condW_of h4 (w_not (w_lt w_lit (w_len_list (w_arg rfl))))
  rw[ac]at h5
  refine cB fun q=>?_
  have q':(n:Int)<((ns.length:Nat):Int):=by omega
  first
   |(rw[decide_eq_true q']at h5;exact absurd h5 (by decide))
   |(simp at h5;omega)
 cases hwl with
 |cons w1 w2=>
  cases w2
  cases w1 with
  |list ho hall=>exact⟨_,_,ns,rfl,rfl,ho,eQ' ns _ hall,hlen⟩
theorem kB' (l:OpenLaw) (args:List WData):l.row.toRowW.claim.post args (.bool true) args=true:=
 postW_of (r:=l.row.toRowW) (X:=(true == true))
  (show WShape.has [] (.bool true) .bool=true by first|rfl|decide|simp[WShape.has,WShape.arms,WShape.armsAll])
  (show(WTm.eq .res (.lit (.bool true))).value [] { args:=args,res:=some (.bool true),after:=args }=some (.bool (true == true)) from w_eq_bool (w_res rfl) w_lit) rfl
theorem ia' {l:OpenLaw} {n:Nat} {q:Program} {loose:List Str} {XP:(Str->Option Value)->Heap->Prop} {YP:World->Heap->Prop} {d:DefRec}
  (hn:l.most=some n) (hdf:d.params.defaults=[])
  (call:∀(w:World) (s₀ s₁:Shared) (mg mb:Str->Option Value) (fa:Addr) (o:Obj) (pm cd doc:Value) (a:Addr) (vs:List Value) (ns:List Int),
   Ground q loose [] XP w s₀ mg mb s₁.heap->YP w s₁.heap->
   s₁.heap.get? fa=some o->o.data=.func (docDef d.name d.params d.body d.scope pm cd doc)->s₁.heap.CodeRec cd d.name->mg d.name=some (.ref fa)->
   s₁.heap.get? a=some { cls:=.type "list",data:=.seq vs.toArray }->IntsAre vs ns->ns.length<=n->s₁.gens=#[]->
   codeAny (model l.prog w) callerA (.call (.ref fa) ⟨[.ref a],[]⟩) (fun r s'=>r=.ok (.ret (.bool true))/\OldK s₁.heap s'.heap/\s'.os=s₁.os/\AllBare s'.gens) s₁):
  WalkO q loose XP YP l.row.toRowW d [] (fun f vs=>PySem.call f vs):=by
 intro w s₀ s₁ mg mb G Y fa o pm cd doc dV kV ho hd hcd hD hmg hg args vals as hpre hlay hrd hwl hlo
 obtain rfl:dV=.none:=Dflts.none hD hdf
 obtain rfl:kV=.none:=Dflts.noKw hD
 obtain⟨a,vs,ns,rfl,rfl,hobj,hints,hlen⟩:=kA' hn hpre hwl
 refine enter_call (codeAny_mono (call w s₀ s₁ mg mb fa o pm cd doc a vs ns G Y ho (fd_plain hd) hcd hmg hobj hints hlen hg) fun r s' hq=>?_)
 obtain⟨rfl,h2,h3,h4⟩:=hq
 exact⟨.inl ⟨.bool true,.bool true,[],rfl,fun _=>rfl,.bool true,kB' l _,fun _=>⟨List.Pairwise.nil,fun _ hm=>(nomatch hm)⟩⟩,h2,h3,h4⟩
section
variable {prog:Program} {w:World} {A:Around} {E:Value->Shared->Prop} {s:Shared} {K:Frag}
end
end Att
namespace L2
open PySem PySem.Spec PyProof.Rows
theorem gO':∀{vs:List Value} {ns:List Int},IntsAre vs ns->aE' (ns.map V.int) vs
 |_,_,.nil=>.nil
 |_,_,.cons n t h=>.cons ⟨t,rfl⟩ (gO' h)
def xJ' (H:Hp):Prop:=∀b,H b=none\/∃o xs,H b=some (.frz o (.lst xs))
theorem nl' {P:Program} {w:World} {K:W.Frag} {mg mb:Str->Option Value} {CX:CXT} {k:Nat} {fa a:Addr} {fd:FuncData} {x:Str} {sp:Sp} {s₁:Shared} {vs:List Value} {ns:List Int}
  (KX:K.In s₁.heap) (hns:s₁.heap.Ns mainGlobals mg) (hb:s₁.heap.Ns builtinsNs mb) (hbb:∀x:Str,x≠"__name__"->mb x=bootBuiltins x) (hlim:s₁.heap.NoLimit) (hg:s₁.gens=#[])
  (ha:s₁.heap.get? a=some { cls:=.type "list",data:=.seq vs.toArray }) (hi:IntsAre vs ns) (hl:ns.length<=sizeLine) (hr:Room k callerA)
  (F:∀base:Heap,K.In base->base.Ns mainGlobals mg->FnOk P w K mg base CX k fa fd [x] sp) (hbind:∀(s:Shared) (u:Value),BindsTo s fd ⟨[u],[]⟩ [(x,u)])
  (hsp:∀H:Hp,xJ' H->SqL K H a (ns.map V.int)->sp [.ref a] H (fun v _=>v=.bl true) fun _ _ _=>False)
  (hCX:∀H e s',CX [] H s₁ (fun _ _ _=>False) e s'->False):
  codeAny (model P w) callerA (.call (.ref fa) ⟨[.ref a],[]⟩) (fun r s'=>r=.ok (.ret (.bool true))/\OldK s₁.heap s'.heap/\s'.os=s₁.os/\AllBare s'.gens) s₁:=by
 have rv:=gO' hi
 have lenV:=hi.length
 have core:∀H:Hp,xJ' H->SqL K H a (ns.map V.int)->HOk P w H s₁.heap->(∀b,H b≠none->b=a)->(H a≠none->K.lookup a=none)->
   codeAny (model P w) callerA (.call (.ref fa) ⟨[.ref a],[]⟩) (fun r s'=>r=.ok (.ret (.bool true))/\OldK s₁.heap s'.heap/\s'.os=s₁.os/\AllBare s'.gens) s₁:=by
  intro H hO hS hok hA hK
  have base_of:∀{b:Addr} {o:Obj},s₁.heap.get? b=some o->H b=none->(m1' s₁.heap H).get? b=some o:=fun e n=>m2' e n
  have noA:∀{b:Addr} {o:Obj} {es:Array DictEntry} {ep:Nat},s₁.heap.get? b=some o->o.data=.dict es ep->H b=none:=fun {b o es ep} e d=>by
   cases q:H b with
   |none=>rfl
   |some u=>
    have e':b=a:=hA b (by rw[q];simp)
    subst e'
    rw[ha]at e;cases e
    have d':Data.seq vs.toArray _=Data.dict es ep:=d
    cases d'
  have nsK:∀{b:Addr} {m:Str->Option Value},s₁.heap.Ns b m->(m1' s₁.heap H).Ns b m:=fun {b m} ⟨o,es,ep,e,d,r⟩=>⟨o,es,ep,base_of e (noA e d),d,r⟩
  have hKb:K.In (m1' s₁.heap H):=fun b o e=>base_of (KX b o e) (by
   cases q:H b with
   |none=>rfl
   |some u=>
    have e':b=a:=hA b (by rw[q];simp)
    subst e'
    rw[hK (by rw[q];simp)]at e;cases e)
  have hM:Mod K mg (m1' s₁.heap H):=⟨hKb,nsK hns,⟨mb,nsK hb,hbb⟩,let⟨mc,h1,h2⟩:=hlim;⟨mc,nsK h1,h2⟩⟩
  have e0:Env0 P w K mg (m1' s₁.heap H) callerA [] s₁ H:=⟨rfl,hM,fun b o e=>pU' e,Nat.le_of_eq (ke' _ _),trivial,fun b hb=>absurd (show b∈([]:List Addr) from hb) (by simp),hok,.of_eq hg⟩
  refine codeAny_mono ((F _ hKb (nsK hns)).run callerA [] s₁ H ⟨[.ref a],[]⟩ [.ref a] [.ref a] _ _ hr e0 (hbind s₁ (.ref a)) (.cons rfl .nil) (hsp H hO hS)) fun r s' h=>?_
  cases r with
  |error e=>exact(hCX H e s' h).elim
  |ok fl=>
   cases fl with
   |next=>exact False.elim h
   |brk=>exact False.elim h
   |cont=>exact False.elim h
   |ret u=>
    obtain⟨v,H',os,bare,un,hok',r',q⟩:=h
    have q':v=.bl true:=q
    subst q'
    obtain rfl:u=Value.bool true:=r'
    refine⟨rfl,OldK.of_keep fun b o e=>?_,os,bare⟩
    cases q:H b with
    |none=>exact un.keep b o e q (by intro z;exact absurd (show b∈([]:List Addr) from z) (by simp)) (by simp)
    |some u=>
     rcases hO b with z|⟨ob,xs,z⟩
     .rw[q]at z;cases z
     .have z2:=un.frzs b ob _ z
      obtain⟨e1,_⟩:=hok b _ z
      obtain⟨e2,_⟩:=hok' b _ z2
      rw[e]at e1;cases e1
      exact e2
 cases hk:K.lookup a with
 |some o=>
  have e:=KX a o hk
  rw[ha]at e
  cases e
  refine core (fun _=>none) (fun _=>.inl rfl) (.inr ⟨_,vs.toArray,_,hk,rfl,rfl,rfl,by rw[al,lenV];exact hl,by simpa using rv⟩) (fun b u z=>by have z':(none:Option HO)=some u:=z;cases z') (fun b z=>absurd rfl z) fun z=>absurd rfl z
 |none=>
  refine core (fun b=>if b=a then some (.frz { cls:=.type "list",data:=.seq vs.toArray } (.lst (ns.map V.int)))else none) (fun b=>?_) (.inl (.inr ⟨{ cls:=.type "list",data:=.seq vs.toArray },if_pos rfl⟩)) (fun b u z=>?_) (fun b z=>?_) fun _=>hk
  .by_cases hb:b=a
   .exact .inr ⟨_,_,if_pos hb⟩
   .exact .inl (if_neg hb)
  .by_cases hb:b=a
   .have z':=(if_pos hb).symm.trans z
    cases z'
    subst hb
    exact⟨ha,by rw[ac];exact hl,vs,_,rv,ha⟩
   .have z':=(if_neg hb).symm.trans z
    cases z'
  .by_cases hb:b=a
   .exact hb
   .exact absurd (if_neg hb) z
theorem qj' {l:W.OpenLaw} {n k:Nat} {q:Program} {loose:List Str} {XP:(Str->Option Value)->Heap->Prop} {YP:World->Heap->Prop} {d:DefRec} {K:Params->W.Frag} {CX:World->CXT} {sp:World->Sp} {x:Str}
  (hn:l.most=some n) (hn2:n<=sizeLine) (hdf:d.params.defaults=[]) (hr:Room k callerA)
  (hY:∀(w:World) (h:Heap),YP w h->(K w.params).In h)
  (F:∀(w:World) (mg:Str->Option Value) (fa:Addr) (h:Heap),(K w.params).In h->h.Ns mainGlobals mg->mg d.name=some (.ref fa)->
   ∃fd:FuncData,(∀(s:Shared) (u:Value),BindsTo s fd ⟨[u],[]⟩ [(x,u)])/\
    ∀base:Heap,(K w.params).In base->base.Ns mainGlobals mg->FnOk l.prog w (K w.params) mg base (CX w) k fa fd [x] (sp w))
  (hsp:∀(w:World) (H:Hp) (a:Addr) (ns:List Int),ns.length<=n->xJ' H->SqL (K w.params) H a (ns.map V.int)->sp w [.ref a] H (fun v _=>v=.bl true) fun _ _ _=>False)
  (hCX:∀(w:World) (H:Hp) (s:Shared) (e:Value) (s':Shared),CX w [] H s (fun _ _ _=>False) e s'->False):
  W.WalkO q loose XP YP l.row.toRowW d [] (fun f vs=>PySem.call f vs):=by
 refine Att.ia' hn hdf fun w s₀ s₁ mg mb fa o pm cd doc a vs ns G Y ho hd hcd hmg hobj hints hlen hg=>?_
 have KX:=hY w _ Y
 obtain⟨fd,hb,hF⟩:=F w mg fa _ KX G.T.g hmg
 exact nl' KX G.T.g G.T.b G.T.builtins G.T.nolimit hg hobj hints (ay hlen hn2) hr hF hb (fun H hO hS=>hsp w H a ns hlen hO hS) fun H e s'=>hCX w H s₁ e s'
def d3' (s:Stmt):Arguments:=match s with
 | .FunctionDef _ a _ _ _ _ _ _ _ _=>a
 |_=>{ posonlyargs:=[],args:=[],vararg:=none,kwonlyargs:=[],kw_defaults:=[],kwarg:=none,defaults:=[] }
def aj' (s:Stmt):List Stmt:=match s with
 | .FunctionDef _ _ b _ _ _ _ _ _ _=>b
 |_=>[]
def ac' (s:Stmt):Scope:=match s with
 | .FunctionDef _ _ _ _ _ _ sc _ _ _=>sc
 |_=>{ kind:=.function,names:=[],isGenerator:=false,isCoroutine:=false }
abbrev CX0:CXT:=fun _ _ _ _ _ _=>False
abbrev E0:XK:=fun _ _ _=>False
structure Fun (K:W.Frag) (x qual:Str) (st:Stmt) (f:Addr) (fd:FuncData):Prop where
 ex:∃(oc:Value) (od:Option Addr) (kV doc pm:Value) (an:Option Addr) (cdv ct:Value) (osl:Array (Option Value)),
  fd=W.fnOf x qual (d3' st) (aj' st) (ac' st) .none kV doc pm an cdv ct/\K.lookup f=some ⟨oc,od,.func fd,osl⟩/\W.codeIn K cdv qual=true
 kp:W.keepIn K (.ref f)=true
section
variable {P:Program} {w:World} {K:W.Frag} {mg:Str->Option Value} {base:Heap}
theorem Fun.ok {x qual:Str} {st:Stmt} {f:Addr} {fd:FuncData} {N ps:List Str} {k:Nat} {sp:Sp} (F:Fun K x qual st f fd) (S:FnScope N ps (ac' st)) (len:∀vs H Q E,sp vs H Q E->vs.length=ps.length)
  (hbody:∀(cdv:Value) (A:Around) (outer:List Env) (s:Shared) (H:Hp) (vs:List V) (Q:VK) (E:XK),Room k (A.deeper (envOfC qual (ac' st) s.heap.objs.size f cdv))->sp vs H Q E->
   ∃t,PSs (sL' CX0 P w K mg base N qual (ac' st) f cdv A outer s H E).nox (aj' st) t/\t { nx:=fun _ H'=>Q .non H',rt:=Q } (az' N vs) H):FnOk P w K mg base CX0 (k+1) f fd ps sp:=by
 obtain⟨oc,od,kV,doc,pm,an,cdv,ct,osl,rfl,lk,hcd⟩:=F.ex
 refine xE' lk hcd S len fun A outer s H vs Q E hr hsp=>?_
 obtain⟨t,h,q⟩:=hbody cdv A outer s H vs Q E hr hsp
 exact⟨t,h.nox,q⟩
theorem Fun.binds {x qual:Str} {st:Stmt} {f:Addr} {fd:FuncData} {ps:List Str} (F:Fun K x qual st f fd)
  (h:∀(kV doc pm:Value) (an:Option Addr) (cdv ct:Value) (us:List Value),us.length=ps.length->bindArgs (W.fnOf x qual (d3' st) (aj' st) (ac' st) .none kV doc pm an cdv ct) ⟨us,[]⟩=pure (ps.zip us)):fv' K fd ps []:=by
 obtain⟨oc,od,kV,doc,pm,an,cdv,ct,osl,rfl,lk,hcd⟩:=F.ex
 exact .all (h kV doc pm an cdv ct)
theorem ty' {x qual:Str} {st:Stmt} {f:Addr} {oc:Value} {od an:Option Addr} {osl:Array (Option Value)} {kV doc pm cdv ct:Value} (l:K.lookup f=some ⟨oc,od,.func (W.fnOf x qual (d3' st) (aj' st) (ac' st) .none kV doc pm an cdv ct),osl⟩)
  (c:W.codeIn K cdv qual=true) (k:W.keepIn K (.ref f)=true):Fun K x qual st f (W.fnOf x qual (d3' st) (aj' st) (ac' st) .none kV doc pm an cdv ct):=⟨⟨oc,od,kV,doc,pm,an,cdv,ct,osl,rfl,l,c⟩,k⟩
end
theorem al' {n:Nat} (h:n<=1000):n<sizeLine:=bM h (by decide)
section
variable {X:Cx}
theorem pv (i:Nat) {x:Str} {pos:Pos} (hN:X.N[i]?=some x:=by rfl) (hv:Vis X.env.scope x:=by first|exact Or.inl rfl|exact Or.inr (Or.inl rfl)|exact Or.inr (Or.inr rfl)) (hd:(x == ("__debug__":Str))=false:=by decide)
  (hcd:(x == ("__classdict__":Str))=false:=by decide):PE X (.Name x pos) (wT' i):=o1' hN hv hd hcd
end
def aB' (H H':Hp):Prop:=∀b o,H b=some o->H' b=some o
theorem aB'.refl (H:Hp):aB' H H:=fun _ _ h=>h
theorem aB'.trans {H H1 H2:Hp} (a:aB' H H1) (b:aB' H1 H2):aB' H H2:=fun c o h=>b c o (a c o h)
theorem aB'.free {H H':Hp} (e:aB' H H') {l:Addr} (h:H' l=Option.none):H l=Option.none:=by
 cases q:H l with
 |none=>rfl
 |some o=>
  rw[e l o q]at h
  cases h
theorem aB'.seq {K:W.Frag} {H H':Hp} {a:Addr} {xs:List V} (e:aB' H H') (h:SqL K H a xs):SqL K H' a xs:=by
 rcases h with(h|⟨o,h⟩)|h
 .exact .inl (.inl (e _ _ h))
 .exact .inl (.inr ⟨o,e _ _ h⟩)
 .exact .inr h
def cB' (cells:List (Str×Addr)):List (Str×NameKind)->List (Str×Addr)->List (Str×Addr)
 | [],acc=>acc
 |(n,k) :: r,acc=>if k == .free then cB' cells r ((n,(cells.lookup n).getD 0) :: acc)else cB' cells r acc
def gP' (env:Env) (x:Str×NameKind) (r:List (Str×Addr)):Sem (ForInStep (List (Str×Addr))):=
 match x with|(name,kind)=>if(kind == .free)=true then(do let a <- cellOf env name;pure (ForInStep.yield ((name,a) :: r)))else pure (ForInStep.yield r)
theorem tz' {env:Env}:∀(names:List (Str×NameKind)) (acc:List (Str×Addr)),(∀n,(n,NameKind.free)∈names->∃c,env.cells.lookup n=some c)->
   forIn names acc (gP' env)=(pure (cB' env.cells names acc):Sem _):=by
  intro names
  induction names with
  |nil=>intro acc _;rfl
  |cons x r ih=>
   intro acc hh
   obtain⟨n,k⟩:=x
   rw[List.forIn_cons]
   have hr:=fun m hm=>hh m (aB _ hm)
   by_cases hk:k=.free
   .subst hk
    obtain⟨c,hc⟩:=hh n aG
    have e1:cellOf env n=(pure c:Sem Addr):=by unfold cellOf;rw[hc]
    have e2:gP' env (n,NameKind.free) acc=pure (ForInStep.yield ((n,c) :: acc)):=by
     unfold gP'
     dsimp only
     rw[if_pos (by rfl),e1]
     rfl
    rw[e2]
    have e3:=ih ((n,c) :: acc) hr
    have e4:cB' env.cells ((n,NameKind.free) :: r) acc=cB' env.cells r ((n,c) :: acc):=by
     show(if(NameKind.free == NameKind.free)=true then _ else _)=_
     rw[if_pos (by rfl),hc]
     rfl
    rw[e4,<- e3]
    rfl
   .have hb:(k == NameKind.free)=false:=by simpa using hk
    have e2:gP' env (n,k) acc=pure (ForInStep.yield acc):=by
     unfold gP'
     dsimp only
     rw[if_neg (by rw[hb];exact am)]
    rw[e2]
    have e4:cB' env.cells ((n,k) :: r) acc=cB' env.cells r acc:=by
     show(if(k == NameKind.free)=true then _ else _)=_
     rw[if_neg (by rw[hb];exact am)]
    rw[e4,<- ih acc hr]
    rfl
theorem kC' {env:Env} {scope:Scope} (h:∀n,(n,NameKind.free)∈scope.names->∃c,env.cells.lookup n=some c):closureFor scope env=pure (cB' env.cells scope.names []):=by
 have e:=tz' (env:=env) scope.names [] h
 unfold closureFor
 have q:∀f:Str×NameKind->List (Str×Addr)->Sem (ForInStep (List (Str×Addr))),(∀x r,f x r=gP' env x r)->(forIn scope.names ([]:List (Str×Addr)) f >>= fun r=>pure r)=(pure (cB' env.cells scope.names []):Sem _):=by
  intro f hf
  have:f=gP' env:=funext fun x=>funext fun r=>hf x r
  rw[this,e]
  rfl
 refine q _ fun x r=>?_
 obtain⟨n,k⟩:=x
 unfold gP'
 first|done|(dsimp only;done)|(dsimp only;cases hk:k == NameKind.free<;>simp[hk])
set_option tactic.hygienic true in
theorem eR' {cells:List (Str×Addr)}:∀{names:List (Str×NameKind)} {acc:List (Str×Addr)} {n:Str} {c:Addr},(n,c)∈cB' cells names acc->(n,c)∈acc\/((n,NameKind.free)∈names/\c=(cells.lookup n).getD 0)
 | [],_,_,_,h=>.inl h
 |(m,k) :: r,acc,n,c,h=>by
  unfold cB' at h
  split at h
  .rename_i hk
   have hk':k=.free:=by simpa using hk
   subst hk'
   rcases eR' h with q|⟨q,e⟩
   .rcases ax.mp q with q|q
    .cases q;exact .inr ⟨aG,rfl⟩
    .exact .inl q
   .exact .inr ⟨aB _ q,e⟩
  .rcases eR' h with q|⟨q,e⟩
   .exact .inl q
   .exact .inr ⟨aB _ q,e⟩
set_option tactic.hygienic true in
theorem eS' {cells:List (Str×Addr)}:∀{names:List (Str×NameKind)} {acc:List (Str×Addr)} {n:Str},((n,NameKind.free)∈names\/∃c,(n,c)∈acc)->∃c,(n,c)∈cB' cells names acc
 | [],_,_,h=>by
  rcases h with h|h
  .simp at h
  .exact h
 |(m,k) :: r,acc,n,h=>by
  unfold cB'
  split
  .rename_i hk
   refine eS' ?_
   rcases h with h|⟨c,h⟩
   .rcases ax.mp h with h|h
    .cases h;exact .inr ⟨_,aG⟩
    .exact .inl h
   .exact .inr ⟨c,aB _ h⟩
  .rename_i hk
   refine eS' ?_
   rcases h with h|h
   .rcases ax.mp h with h|h
    .cases h;exact absurd rfl hk
    .exact .inl h
   .exact .inr h
theorem aO':∀(names:List (Str×NameKind)) (n:Nat) (acc:List (Str×Addr)),cellsFrom n names acc=cellsFrom n names []++acc
 | [],_,_=>rfl
 |(x,k) :: r,n,acc=>by
  unfold cellsFrom
  split
  .rw[aO' r (n+1) ((x,n) :: acc),aO' r (n+1) [(x,n)],aS]
   rfl
  .exact aO' r n acc
theorem cj' {α:Type}:∀{l:List (Str×α)} {n:Str} {c:α},(n,c)∈l->∃c',l.lookup n=some c'
 |(k,v) :: r,n,c,h=>by
  rw[bu]
  cases hb:n == k with
  |true=>exact⟨v,rfl⟩
  |false=>
   rcases ax.mp h with e|h
   .cases e;simp at hb
   .exact cj' h
theorem cw' {env:Env}:∀{names:List (Str×NameKind)} {x:Str} {k':NameKind},
  (names.map fun(n,k)=>if(k == NameKind.free&&env.scope.kind == .function&&env.kindOf n == some .cell)then(n,NameKind.cell)else(n,k)).lookup x=some k'->∃k,names.lookup x=some k/\(k'=k\/(k=.free/\k'=.cell))
 | [],_,_,h=>by simp at h
 |(n,k) :: r,x,k',h=>by
  have ih:=@cw' env r x k'
  rw[aH]at h
  by_cases hc:(k == NameKind.free&&env.scope.kind == .function&&env.kindOf n == some .cell)=true
  .have e1:(match ((n,k):Str×NameKind)with|(n,k)=>if(k == NameKind.free&&env.scope.kind == .function&&env.kindOf n == some .cell)=true then(n,NameKind.cell)else(n,k))=(n,NameKind.cell):=if_pos hc
   rw[e1,bu]at h
   rw[bu]
   cases hx:x == n with
   |true=>
    rw[hx]at h
    cases h
    refine⟨k,rfl,.inr ⟨?_,rfl⟩⟩
    simp only[ai]at hc
    exact beq_iff_eq.mp hc.1.1
   |false=>rw[hx]at h;exact ih h
  .have e1:(match ((n,k):Str×NameKind)with|(n,k)=>if(k == NameKind.free&&env.scope.kind == .function&&env.kindOf n == some .cell)=true then(n,NameKind.cell)else(n,k))=(n,k):=if_neg hc
   rw[e1,bu]at h
   rw[bu]
   cases hx:x == n with
   |true=>rw[hx]at h;cases h;exact⟨k,rfl,.inl rfl⟩
   |false=>rw[hx]at h;exact ih h
theorem bu' {env:Env}:∀{names:List (Str×NameKind)} {x:Str} {k:NameKind},names.lookup x=some k ->
  ∃k',(names.map fun(n,k)=>if(k == NameKind.free&&env.scope.kind == .function&&env.kindOf n == some .cell)then(n,NameKind.cell)else(n,k)).lookup x=some k'/\(k'=k\/(k=.free/\k'=.cell))
 | [],_,_,h=>by simp at h
 |(n,k0) :: r,x,k,h=>by
  have ih:=@bu' env r x k
  rw[aH]
  by_cases hc:(k0 == NameKind.free&&env.scope.kind == .function&&env.kindOf n == some .cell)=true
  .have e1:(match ((n,k0):Str×NameKind)with|(n,k)=>if(k == NameKind.free&&env.scope.kind == .function&&env.kindOf n == some .cell)=true then(n,NameKind.cell)else(n,k))=(n,NameKind.cell):=if_pos hc
   rw[e1,bu]
   rw[bu]at h
   cases hx:x == n with
   |true=>
    rw[hx]at h
    cases h
    refine⟨_,rfl,.inr ⟨?_,rfl⟩⟩
    simp only[ai]at hc
    exact beq_iff_eq.mp hc.1.1
   |false=>rw[hx]at h;exact ih h
  .have e1:(match ((n,k0):Str×NameKind)with|(n,k)=>if(k == NameKind.free&&env.scope.kind == .function&&env.kindOf n == some .cell)=true then(n,NameKind.cell)else(n,k))=(n,k0):=if_neg hc
   rw[e1,bu]
   rw[bu]at h
   cases hx:x == n with
   |true=>rw[hx]at h;cases h;exact⟨_,rfl,.inl rfl⟩
   |false=>rw[hx]at h;exact ih h
section
variable {M:Model} {A:Around} {E:Value->Shared->Prop} {s:Shared}
abbrev be' (h:Heap) (names:List (Str×NameKind)):Heap:=pushCells (h.push { cls:=.type "dict",data:=.dict #[] }) names
theorem dC' {scope:Scope} {globals:Addr} {cl:List (Str×Addr)} {qual:Str} {env:Env} {Q:Env->Shared->Prop}
  (h:Q (newEnv scope s.heap.objs.size globals (cellsFrom (s.heap.objs.size+1) scope.names cl) qual none .none (some env) builtinsNs) { s with heap:=be' s.heap scope.names }):
  wpAny M A (newFunctionEnv scope globals cl [] qual none .none (some env)) Q E s:=by
 simp only[newFunctionEnv,Option.isSome_some,if_true]
 refine aa (wpAny_alloc ?_)
 refine aa (wpAny_layCells _ (fun name kind cells=>by cases hkc:kind == NameKind.cell<;>simp[hkc]) _ _ _ _ ?_)
 rw[show({ s with heap:=s.heap.push { cls:=.type "dict",data:=.dict #[] } }:Shared).heap.objs.size=s.heap.objs.size+1 from bC ..]
 exact aa (ag (ag h))
end
def Cx.comp (X:Cx) (scope:Scope) (s₀:Shared) (H₀:Hp) (ex:List Addr):Cx:=
 { X with
  s₀:=s₀,H₀:=H₀
  env:={ newEnv scope s₀.heap.objs.size X.env.globals (cellsFrom (s₀.heap.objs.size+1) scope.names (cB' X.env.cells scope.names [])) X.env.qual none .none (some X.env) builtinsNs with scope:=relabel scope X.env }
  outer:=X.stack,ex:=ex,fn:=fun x=>((cellsFrom (s₀.heap.objs.size+1) scope.names []).lookup x).isSome,pn:=[],xe:=fun _ _=>False }
structure CompSc (X:Cx) (scope:Scope):Prop where
 kind:scope.kind=.function
 names:∀x∈scope.names,x.2=.local->scope.names.lookup x.1=some .local
 one:∀n,(n,NameKind.cell)∈scope.names->scope.names.lookup n=some .cell
 free:∀n,(n,NameKind.free)∈scope.names->X.env.kindOf n=some .cell\/X.env.kindOf n=some .free
set_option tactic.hygienic true in
theorem cC':∀{names:List (Str×NameKind)} {n:Nat} {x:Str} {c:Addr},(x,c)∈cellsFrom n names []->(x,NameKind.cell)∈names
 | [],_,_,_,h=>by simp[cellsFrom]at h
 |(y,k) :: r,n,x,c,h=>by
  unfold cellsFrom at h
  split at h
  .rename_i hk
   have hk':k=.cell:=by simpa using hk
   subst hk'
   rw[aO']at h
   rcases aT.mp h with h|h
   .exact aB _ (cC' h)
   .have h':(x,c)=(y,n):=by simpa using h
    cases h'
    exact aG
  .exact aB _ (cC' h)
def clr (own:List Nat) (σ:St):St:=own.foldl (fun σ i=>σ.set i none) σ
theorem eT':∀(own:List Nat) (σ:St),(clr own σ).length=σ.length
 | [],_=>rfl
 |i :: r,σ=>by
  show(clr r (σ.set i none)).length=_
  rw[eT' r,List.length_set]
theorem eU':∀{own:List Nat} {σ:St} {i:Nat} {v:V},(clr own σ)[i]?=some (some v)->σ[i]?=some (some v)/\i∉own
 | [],_,_,_,h=>⟨h,by simp⟩
 |j :: r,σ,i,v,h=>by
  obtain⟨h1,h2⟩:=eU' (own:=r) (σ:=σ.set j none) h
  by_cases e:j=i
  .subst e
   rw[List.getElem?_set]at h1
   simp at h1
  .rw[cq e]at h1
   exact⟨h1,by simp;exact⟨fun z=>e z.symm,h2⟩⟩
theorem ib':∀{own:List Nat} {σ:St} {i:Nat},i∉own->(clr own σ)[i]?=σ[i]?
 | [],_,_,_=>rfl
 |j :: r,σ,i,h=>by
  have h1:i≠j:=fun z=>h (by simp[z])
  have h2:i∉r:=fun z=>h (by simp[z])
  show(clr r (σ.set j none))[i]?=_
  rw[ib' h2,cq (Ne.symm h1)]
section
variable {X:Cx} {pins:List (Addr×Obj)} {σ:St} {H H':Hp} {s s':Shared} {scope:Scope} {ex:List Addr} {own:List Nat}
theorem jF' (I:Inv X pins σ H s) (S:CompSc X scope):
  (∀x c,(cB' X.env.cells scope.names []).lookup x=some c->X.env.cells.lookup x=some c)/\
  (∀x,(x,NameKind.free)∈scope.names->∃c,(cB' X.env.cells scope.names []).lookup x=some c)/\
  CellsOk (be' s.heap scope.names) (s.heap.objs.size+1) (cellsFrom (s.heap.objs.size+1) scope.names []):=by
 have hc:∀x c,(x,c)∈cB' X.env.cells scope.names []->X.env.cells.lookup x=some c:=fun x c h=>by
  rcases eR' h with z|⟨z,e⟩
  .simp at z
  .obtain⟨c',e'⟩:=I.ok.has x (S.free x z)
   rw[e',Option.getD_some]at e
   rw[e',e]
 refine⟨fun x c h=>hc x c (PySem.mem_of_lookup h),fun x h=>?_,?_⟩
 .obtain⟨c,q⟩:=eS' (cells:=X.env.cells) (acc:=[]) (.inl h)
  exact cj' q
 .have q:=cellsFrom_ok scope.names (s.heap.push { cls:=.type "dict",data:=.dict #[] }) (s.heap.objs.size+1) [] ⟨fun _ _ hm=>(nomatch hm),List.Pairwise.nil⟩ (by rw[bC];exact ae _)
  rw[bC]at q
  exact q
theorem fI' (I:Inv X pins σ H s) (hex:∀b∈ex,dz' X pins H b) (hlt:∀b∈ex,b<s.heap.objs.size) (S:CompSc X scope)
  (hown:∀i x,X.N[i]?=some x->(scope.names.lookup x=some .local\/scope.names.lookup x=some .cell)->i∈own):
  Inv (X.comp scope s H ex) [] (clr own σ) H { s with heap:=be' s.heap scope.names }:=by
 obtain⟨hcl,hcf,ok⟩:=jF' I S
 have lk:∀x c,(X.comp scope s H ex).env.cells.lookup x=some c->(cellsFrom (s.heap.objs.size+1) scope.names []).lookup x=some c\/((cellsFrom (s.heap.objs.size+1) scope.names []).lookup x=none/\X.env.cells.lookup x=some c):=fun x c h=>by
  have h':(cellsFrom (s.heap.objs.size+1) scope.names (cB' X.env.cells scope.names [])).lookup x=some c:=h
  rw[aO',List.lookup_append]at h'
  cases q:(cellsFrom (s.heap.objs.size+1) scope.names []).lookup x with
  |some d=>rw[q]at h';exact .inl h'
  |none=>rw[q]at h';exact .inr ⟨rfl,hcl x c h'⟩
 have newC:∀x c,(cellsFrom (s.heap.objs.size+1) scope.names []).lookup x=some c->(be' s.heap scope.names).IsCell c none/\s.heap.objs.size+1<=c:=fun x c h=>ok.empty x c (PySem.mem_of_lookup h)
 have oldC:∀x c,X.env.cells.lookup x=some c->c<s.heap.objs.size:=fun x c h=>let⟨_,q⟩:=I.cell x c h;q.lt
 have keep:∀b o,s.heap.get? b=some o->(be' s.heap scope.names).get? b=some o:=fun b o e=>pushCells_keeps _ _ b o (ah _ e)
 have fresh:∀b,s.heap.objs.size<=b->H b=none:=fun b hb=>I.hok.fresh hb
 have loc0:(X.comp scope s H ex).env.locals=s.heap.objs.size:=rfl
 refine⟨⟨I.ok.mod,S.kind,I.ok.glob,?_,ae _,fun x y c h1 h2=>?_,fun x hx=>?_,fun x c hf h=>?_,I.ok.hd,I.ok.frames,.inl rfl,fun b hb=>?_,I.bs,ay I.ok.bsz I.sz,fun b o e hb=>?_,fun b hb=>?_,I.stack,I.stkFree⟩,
  rfl,I.bare,Un.kept keep,⟨fun _=>none,?_,fun i x v h1 h2 h3=>?_⟩,fun x c h=>?_,fresh _ (ae _),fun x c h=>?_,fun p hp=>absurd (show p∈([]:List (Addr×Obj)) from hp) (by simp),I.hok.kept keep,?_⟩
 .show X.env.builtins=_
  exact I.ok.blt
 .rcases lk x c h1 with q1|⟨_,q1⟩<;>rcases lk y c h2 with q2|⟨_,q2⟩
  .exact name_of_addr ok.apart (PySem.mem_of_lookup q1) (PySem.mem_of_lookup q2)
  .exact absurd (aD (oldC y c q2) (ay (Nat.le_succ _) (newC x c q1).2)) (aU _)
  .exact absurd (aD (oldC x c q1) (ay (Nat.le_succ _) (newC y c q2).2)) (aU _)
  .exact I.ok.inj x y c q1 q2
 .have hx':(relabel scope X.env).names.lookup x=some .cell\/(relabel scope X.env).names.lookup x=some .free:=hx
  have fin:∀k,scope.names.lookup x=some k->(k=.cell\/k=.free)->∃c,(cellsFrom (s.heap.objs.size+1) scope.names (cB' X.env.cells scope.names [])).lookup x=some c:=fun k hk hkk=>by
   rw[aO',List.lookup_append]
   rcases hkk with rfl|rfl
   .obtain⟨c,q⟩:=fZ' (n:=s.heap.objs.size+1) hk
    exact⟨c,by rw[q];rfl⟩
   .obtain⟨c,q⟩:=hcf x (PySem.mem_of_lookup hk)
    cases z:(cellsFrom (s.heap.objs.size+1) scope.names []).lookup x with
    |some d=>exact⟨d,rfl⟩
    |none=>exact⟨c,by rw[q];rfl⟩
  rcases hx' with hx'|hx'<;>obtain⟨k,hk,e⟩:=cw' hx'
  .rcases e with e|⟨e,_⟩
   .exact fin k hk (.inl e.symm)
   .exact fin k hk (.inr e)
  .rcases e with e|⟨e,_⟩
   .exact fin k hk (.inr e.symm)
   .exact fin k hk (.inr e)
 .rcases lk x c h with q|⟨q,_⟩
  .have:=(newC x c q).2
   show s.heap.objs.size<=c
   omega
  .have hf':((cellsFrom (s.heap.objs.size+1) scope.names []).lookup x).isSome=true:=hf
   rw[q]at hf'
   cases hf'
 .refine⟨?_,fun x c h=>?_⟩
  .show b≠s.heap.objs.size
   exact aK (hlt b hb)
  .rcases lk x c h with q|⟨_,q⟩
   .intro e
    rw[e]at q
    exact absurd (aD (hlt b hb) (ay (Nat.le_succ _) (newC x b q).2)) (aU _)
   .exact(hex b hb).2.2.2.2.1 x c q
 .rcases(hex b hb).2.2.2.1 with z|z
  .exact I.ok.noex b o e z
  .exact absurd (aD (av e) (ay I.ok.bsz z)) (aU _)
 .intro z
  rcases ax.mp (I.stkSub b z)with e|e
  .exact(hex b hb).2.1 e
  .exact(hex b hb).2.2.1 e
 .show(be' s.heap scope.names).Ns s.heap.objs.size _
  exact(Heap.Ns.new s.heap (.type "dict")).keeps (pushCells_keeps _ _)
 .obtain⟨h2,hno⟩:=eU' h2
  have h3':(relabel scope X.env).names.lookup x=some .local\/(relabel scope X.env).names.lookup x=some .cell\/(relabel scope X.env).names.lookup x=some .free:=h3
  have h3k:∃k',(relabel scope X.env).names.lookup x=some k'/\(k'=.local\/k'=.cell\/k'=.free):=by
   rcases h3' with z|z|z
   .exact⟨_,z,.inl rfl⟩
   .exact⟨_,z,.inr (.inl rfl)⟩
   .exact⟨_,z,.inr (.inr rfl)⟩
  obtain⟨k',hk',hkk⟩:=h3k
  obtain⟨k,hk,e⟩:=cw' hk'
  have hfree:k=.free:=by
   rcases e with e|⟨e,_⟩
   .subst e
    rcases hkk with z|z|z
    .subst z;exact absurd (hown i x h1 (.inl hk)) hno
    .subst z;exact absurd (hown i x h1 (.inr hk)) hno
    .exact z
   .exact e
  subst hfree
  have hm:=PySem.mem_of_lookup hk
  have hv:Vis X.env.scope x:=by
   rcases S.free x hm with z|z
   .exact .inr (.inl z)
   .exact .inr (.inr z)
  obtain⟨m,hn,hl⟩:=I.loc
  obtain⟨u,r,l⟩:=hl i x v h1 h2 hv
  refine⟨u,r,?_⟩
  have hkind:(X.comp scope s H ex).env.kindOf x=some .cell\/(X.comp scope s H ex).env.kindOf x=some .free:=by
   show(relabel scope X.env).names.lookup x=some .cell\/(relabel scope X.env).names.lookup x=some .free
   rcases e with e|⟨_,e⟩
   .subst e;exact .inr hk'
   .subst e;exact .inl hk'
  have hcc:∃c,X.env.cells.lookup x=some c/\s.heap.IsCell c (some u):=by
   rcases l with⟨kk,_⟩|⟨_,c,e1,e2⟩
   .rcases S.free x hm with z|z
    .rw[z]at kk;cases kk
    .rw[z]at kk;cases kk
   .exact⟨c,e1,e2⟩
  obtain⟨c,e1,e2⟩:=hcc
  refine .inr ⟨hkind,c,?_,e2.keeps keep⟩
  show(cellsFrom (s.heap.objs.size+1) scope.names (cB' X.env.cells scope.names [])).lookup x=some c
  rw[aO',List.lookup_append]
  have hnone:(cellsFrom (s.heap.objs.size+1) scope.names []).lookup x=none:=by
   cases z:(cellsFrom (s.heap.objs.size+1) scope.names []).lookup x with
   |none=>rfl
   |some d=>
    exfalso
    have q1:=S.one x (cC' (PySem.mem_of_lookup z))
    rw[hk]at q1
    cases q1
  obtain⟨c',q⟩:=hcf x hm
  have q':=hcl x c' q
  rw[e1]at q'
  cases q'
  rw[hnone,q]
  rfl
 .rcases lk x c h with q|⟨_,q⟩
  .exact⟨_,(newC x c q).1⟩
  .obtain⟨v,z⟩:=I.cell x c q
   exact⟨v,z.keeps keep⟩
 .rcases lk x c h with q|⟨_,q⟩
  .have:=(newC x c q).2
   exact fresh c (by omega)
  .exact I.freeC x c q
 .rw[eT']
  exact I.len
end
section
variable {X:Cx} {pins:List (Addr×Obj)} {σ:St} {H H':Hp} {s s':Shared} {scope:Scope} {ex:List Addr} {own:List Nat}
theorem qk' {P:Program} {w:World} {h h':Heap} {a:Addr} (x:HOk P w H h) (hn:H a=none) (hs:∀b o,b≠a->h.get? b=some o->h'.get? b=some o):HOk P w H h':=fun b ob e=>
 (x b ob e).stay (fun c w' hc q=>hs c w' (by
  rintro rfl
  rcases hc with rfl|hc
  .rw[hn]at e;cases e
  .rw[hn]at hc;cases hc) q) (fun _ q=>q) fun _ _ q=>q
theorem dD' {σ':St} {pins':List (Addr×Obj)} {h':Heap} (I:Inv X pins σ H s) (hex:∀b∈ex,dz' X pins H b) (J:Inv (X.comp scope s H ex) pins' σ' H' s') (hs:bZ s.heap.objs.size s'.heap h'):
  Inv X pins σ H' { s' with heap:=h' }:=by
 have ne:∀b o,s.heap.get? b=some o->b≠s.heap.objs.size:=fun b o e=>aK (av e)
 have u:Un (frs X.stack) ex H H' s.heap s'.heap:=J.base
 have hf:H' s.heap.objs.size=none:=J.free
 refine I.call' (s':={ s' with heap:=h' }) (ch:=ex) J.os ⟨fun b o e n hb hx=>?_,fun b o e n hb hx=>?_,u.free,fun b o e hx=>?_,u.tups,u.frzs,u.tbls⟩ (qk' J.hok hf fun b o hb e=>(hs.2 b hb).trans e) J.bare fun b hb=>?_
 .exact(hs.2 b (ne b o e)).trans (u.keep b o e n hb hx)
 .obtain⟨sl,q⟩:=u.slot b o e n hb hx
  exact⟨sl,(hs.2 b (ne b o e)).trans q⟩
 .obtain⟨o',q⟩:=u.there b o e hx
  exact⟨o',(hs.2 b (ne b o e)).trans q⟩
 .obtain⟨f0,f1,f2,f3,f4,f5⟩:=hex b hb
  exact⟨f3,f1,f4,f5⟩
end
def PTs (X:Cx) (ifs:List Expr) (t:TT):Prop:=∀(pins:List (Addr×Obj)) (s:Shared) (σ:St) (H:Hp) (Q:Bool->Hp->Prop),Inv X pins σ H s->t σ H Q->
 wpAny (model X.prog X.w) X.A (forIn ifs true fun c r=>if r=true then do let ok <- isTrue c X.env (eval c X.env);pure (ForInStep.yield ok)else pure (ForInStep.yield r)) (TP X pins σ Q) X.xe s
theorem ql' {X:Cx}:PTs X [] (fun _ H Q=>Q true H):=fun pins s σ H Q I h=>wpAny_tests_nil ⟨H,I,h⟩
theorem qm' {X:Cx} {c:Expr} {t:TT} (hc:PT X c t):PTs X [c] t:=fun pins s σ H Q I h=>wpAny_tests_one (hc pins s σ H Q I h)
def Ext (ws:List Nat) (σ σ':St):Prop:=σ'.length=σ.length/\∀j,j∉ws->σ'[j]?=σ[j]?
theorem Ext.refl {ws:List Nat} {σ:St}:Ext ws σ σ:=⟨rfl,fun _ _=>rfl⟩
theorem Ext.trans {ws:List Nat} {σ σ1 σ2:St} (a:Ext ws σ σ1) (b:Ext ws σ1 σ2):Ext ws σ σ2:=⟨b.1.trans a.1,fun j hj=>(b.2 j hj).trans (a.2 j hj)⟩
theorem Ext.mono {ws ws':List Nat} {σ σ1:St} (a:Ext ws σ σ1) (h:∀j∈ws,j∈ws'):Ext ws' σ σ1:=⟨a.1,fun j hj=>a.2 j fun z=>hj (h j z)⟩
theorem Ext.clr {ws:List Nat} {σ:St}:Ext ws σ (clr ws σ):=⟨eT' _ _,fun j hj=>ib' hj⟩
theorem Ext.back {ws:List Nat} {σ σ':St} (a:Ext ws (L2.clr ws σ) σ') (i:Nat) (v:V) (h:(L2.clr ws σ)[i]?=some (some v)):σ'[i]?=some (some v):=by
 obtain⟨_,q⟩:=eU' h
 rw[a.2 i q]
 exact h
def sN' (ws:List Nat) (g:TG):Prop:=∀(x:V) (σ:St) (H:Hp) (Q:St->Hp->Prop),g x σ H Q->g x σ H fun σ2 H2=>Q σ2 H2/\Ext ws σ σ2
theorem kD' {i:Nat} {ws:List Nat} (h:i∈ws):sN' ws (dA' i):=fun x σ H Q q=>⟨q,by simp,fun j hj=>by
 have:i≠j:=fun z=>hj (z ▸ h)
 rw[cq this]⟩
def a6' (e:Expr) (d:Nat) (tg iter:Expr) (ifs:List Expr) (nx:Sem Unit) (it acc:Value) (env:Env):Sem Fin:=do
 standAt iter.pos
 match <- pyNext it with
 |none=>pure (.done .next)
 |some v=>
  letOwnedTupleGo tg it v
  assign tg env v
  let mut ok:=true
  for c in ifs do
   if ok then ok <- isTrue c env (eval c env)
  if ok then nx
  again (.compLoop e d it acc env)
abbrev TL (α:Type):=St->α->Hp->(α->Hp->Prop)->Prop
def cx' {α:Type} (X:Cx) (D:Addr) (Is:α->Obj->Prop) (ws:List Nat) (code:Sem Unit) (t:TL α):Prop:=
 ∀(pins:List (Addr×Obj)) (s:Shared) (σ:St) (H:Hp) (a:α) (o:Obj) (N:α->Hp->Prop),Inv X pins σ H s->dz' X pins H D->s.heap.get? D=some o->Is a o->t σ a H N->
  wpAny (model X.prog X.w) X.A code (fun _ s'=>∃σ' a' o' H',Inv X pins σ' H' s'/\Ext ws σ σ'/\s'.heap.get? D=some o'/\Is a' o'/\H' D=none/\N a' H') (fun _ _=>False) s
def bc' {α:Type} (ws:List Nat) (g:TG) (tc:TT) (ax':TL α) (J:It):TL α:=fun σ a H1 N=>
 ∃W:Nat->Nat->α->Hp->Prop,(∃m,W 0 m a H1)/\∀i m b H,W i m b H->
  (J.stop i H/\N b H)\/(J.go i H/\∀x H',J.yld i H x H'->g x (clr ws σ) H' fun σ2 H2=>tc σ2 H2 fun ok H3=>
   if ok=true then ax' σ2 b H3 (fun c H4=>∃m',m'<m/\W (i+1) m' c H4)else ∃m',m'<m/\W (i+1) m' b H3)
theorem eV' {α:Type} {Is:α->Obj->Prop} {X:Cx} {e:Expr} {d:Nat} {tg iter:Expr} {ifs:List Expr} {nx:Sem Unit} {it D:Addr} {fp:List Addr} {tn:Nat->Heap->Prop} {J:It} {g:TG} {tc:TT} {ax':TL α} {ws ws':List Nat}
  (hxe:X.xe=fun _ _=>False) (hcalm:X.calm=true)
  (hq:(Code.compLoop e d (.ref it) (.ref D) X.env).quiet=true) (hu:X.A.under (Code.compLoop e d (.ref it) (.ref D) X.env)=X.A)
  (hT:(model X.prog X.w).den (.compLoop e d (.ref it) (.ref D) X.env)=(a6' e d tg iter ifs nx (.ref it) (.ref D) X.env).onRaise (fun x=>do noteFrame x X.env;theTreesLotGoes x))
  (T:Turn X.prog X.w X.K tg J fp it tn) (hg:PG X tg g) (hge:sN' ws g) (ht:PTs X ifs tc) (hn:cx' X D Is ws' nx ax') (hws:∀j∈ws',j∈ws) (hIs:∀a o,Is a o->∀v,o.data≠.cell v) (hDf:D∉fp)
  {pins:List (Addr×Obj)} {s:Shared} {σ:St} {H:Hp} {a:α} {o:Obj} {N:α->Hp->Prop} (I:Inv X pins σ H s) (hf:∀b∈fp,dz' X pins H b) (hD:dz' X pins H D) (ho:s.heap.get? D=some o) (ha:Is a o) (h0:tn 0 s.heap)
  (hw:bc' ws g tc ax' J σ a H N):
  codeAny (model X.prog X.w) X.A (.compLoop e d (.ref it) (.ref D) X.env) (fun r s'=>r=.ok .next/\∃a' o' H',Inv X pins (clr ws σ) H' s'/\s'.heap.get? D=some o'/\Is a' o'/\H' D=none/\N a' H') s:=by
 obtain⟨W,⟨m0,w0⟩,turn⟩:=hw
 have stat:∀{H':Hp} {pl:List (Addr×Obj)},(∀b∈D :: fp,H' b=none)->(∀b∈D :: fp,dz' X pins H' b):=fun {H' pl} hn b hb=>by
  rcases ax.mp hb with rfl|hb'
  .exact⟨hn _ aG,hD.2⟩
  .exact⟨hn b hb,(hf b hb').2⟩
 refine codeAny_loop hq (fun n s'=>∃i b ob H',Inv X pins (clr ws σ) H' s'/\tn i s'.heap/\(∀b∈D :: fp,H' b=none)/\s'.heap.get? D=some ob/\Is b ob/\W i n b H') ?_ m0
  ⟨0,a,o,H,I.weak (eT' _ _) (fun i v q=>(eU' q).1),h0,fun b hb=>by
   rcases ax.mp hb with rfl|hb'
   .exact hD.1
   .exact(hf b hb').1,ho,ha,w0⟩
 rintro n s3 ⟨i,b,ob,H3,I3,st3,fr3,o3,is3,w3⟩
 rw[hu,hT]
 refine wpAny_noted ?_
 have hE:∀{β:Type} {c:Sem β} {Q:β->Shared->Prop} {s:Shared} {E:Value->Shared->Prop},wpAny (model X.prog X.w) X.A c Q (fun _ _=>False) s->wpAny (model X.prog X.w) X.A c Q E s:=fun h=>wpAny_mono h (fun _ _ q=>q) fun _ _ q=>q.elim
 refine hE ?_
 unfold a6'
 refine aa (bK (aa ?_))
 have hxeE:∀{β:Type} {c:Sem β} {Q:β->Shared->Prop} {s:Shared},wpAny (model X.prog X.w) X.A c Q X.xe s->wpAny (model X.prog X.w) X.A c Q (fun _ _=>False) s:=fun h=>by rw[hxe]at h;exact h
 have pD:Inv X (pins++b4' [D] s3.heap) (clr ws σ) H3 s3:=I3.pinned (fun b hb=>by
  have e:b=D:=by simpa using hb
  subst e
  exact stat (pl:=[]) fr3 b aG) (fun b hb=>by
  have e:b=D:=by simpa using hb
  subst e
  exact⟨ob,o3,hIs _ _ is3⟩)
 have mD:(D,ob)∈b4' [D] s3.heap:=aD' (by simp) o3
 have fpD:∀{H':Hp},(∀b∈fp,H' b=none)->∀b∈fp,dz' X (pins++b4' [D] s3.heap) H' b:=fun {H'} hn b hb=>by
  obtain⟨_,f1,f2,f3,f4,f5⟩:=hf b hb
  refine⟨hn b hb,f1,f2,f3,f4,fun p hp=>?_⟩
  rcases aT.mp hp with q|q
  .exact f5 p (bf _ q)
  .rcases aT.mp q with q|q
   .exact f5 p (aj _ q)
   .have e:p.1=D:=by simpa using(eL' q).1
    rw[e]
    rintro rfl
    exact hDf hb
 have fr3':∀b∈fp,H3 b=none:=fun b hb=>fr3 b (aB _ hb)
 rcases turn i n b H3 w3 with⟨stop,qn⟩|⟨go,step⟩
 .refine thn (T.done X rfl rfl rfl hcalm i _ s3 _ H3 _ pD (fpD fr3') st3 stop) fun r s4 ⟨hr,I4⟩=>?_
  subst hr
  have q4:=I4.pin (D,ob) (aj _ (aj _ mD))
  exact ag ⟨rfl,b,ob,H3,I4.unpinned,q4.1,is3,q4.2.1,qn⟩
 .refine thn (T.item X rfl rfl rfl hcalm i _ s3 _ H3 _ pD (fpD fr3') st3 go) fun r s4 ⟨u,hr,h4⟩=>?_
  subst hr
  refine aa (thn h4 fun _ s5 ⟨x,H5,I5,r5,y5,st5,fr5⟩=>?_)
  have I5':=I5.pinned (fpD fr5) (T.obj _ _ st5)
  refine aa (thn (hxeE (hg _ s5 _ H5 x u _ I5' r5 (hge x _ H5 _ (step x H5 y5)))) fun _ s6 ⟨σ6,H6,I6,q6,x6⟩=>?_)
  refine aa (thn (hxeE (ht _ s6 σ6 H6 _ I6 q6)) fun ok s7 ⟨H7,I7,q7⟩=>?_)
  have q7D:=I7.pin (D,ob) (aj _ (bf _ (aj _ mD)))
  have q7f:∀b∈fp,∀o,s5.heap.get? b=some o->s7.heap.get? b=some o/\H7 b=none:=fun b hb o e =>
   let q:=I7.pin (b,o) (aj _ (aj _ (aD' hb e)))
   ⟨q.1,q.2.1⟩
  have st7:tn (i+1) s7.heap:=T.keep _ _ _ st5 fun b hb o e=>(q7f b hb o e).1
  have fr7:∀b∈fp,H7 b=none:=fun b hb=>by
   obtain⟨o,e,_⟩:=T.obj _ _ st5 b hb
   exact(q7f b hb o e).2
  have I7':Inv X pins σ6 H7 s7:=I7.unpinned.unpinned
  cases ok with
  |false=>
   have q7':∃m',m'<n/\W (i+1) m' b H7:=q7
   obtain⟨m',hm,w7⟩:=q7'
   refine ag ⟨rfl,m',hm,i+1,b,ob,H7,I7'.weak ?_ x6.back,st7,fun c hc=>?_,q7D.1,is3,w7⟩
   .rw[x6.1]
   .rcases ax.mp hc with rfl|hc'
    .exact q7D.2.1
    .exact fr7 c hc'
  |true=>
   have I7p:=I7'.pinned (fun b hb=>stat (pl:=[]) (fun c hc=>by
    rcases ax.mp hc with rfl|hc'
    .exact q7D.2.1
    .exact fr7 c hc') b (aB _ hb)) (T.obj _ _ st7)
   have fD:dz' X (pins++b4' fp s7.heap) H7 D:=by
    obtain⟨_,f1,f2,f3,f4,f5⟩:=hD
    refine⟨q7D.2.1,f1,f2,f3,f4,fun p hp=>?_⟩
    rcases aT.mp hp with q|q
    .exact f5 p (bf _ q)
    .rcases aT.mp q with q|q
     .exact f5 p (aj _ q)
     .intro z
      exact hDf (z ▸ (eL' q).1)
   refine aa (thn (hn _ s7 σ6 H7 b ob _ I7p fD q7D.1 is3 q7) fun _ s8 ⟨σ8,b8,o8,H8,I8,x8,e8,is8,n8,m',hm,w8⟩=>?_)
   have q8f:∀b∈fp,∀o,s7.heap.get? b=some o->s8.heap.get? b=some o/\H8 b=none:=fun b hb o e =>
    let q:=I8.pin (b,o) (aj _ (aj _ (aD' hb e)))
    ⟨q.1,q.2.1⟩
   have x8':Ext ws (clr ws σ) σ8:=x6.trans (x8.mono hws)
   refine ag ⟨rfl,m',hm,i+1,b8,o8,H8,I8.unpinned.weak (by rw[x8'.1]) x8'.back,T.keep _ _ _ st7 fun b hb o e=>(q8f b hb o e).1,fun c hc=>?_,e8,is8,w8⟩
   rcases ax.mp hc with rfl|hc'
   .exact n8
   .obtain⟨o,e,_⟩:=T.obj _ _ st7 c hc'
    exact(q8f c hc' o e).2
def IsL (xs:List V) (o:Obj):Prop:=xs.length<=sizeLine/\∃(its:List Value) (n:Nat),aE' xs its/\o={ cls:=.type "list",data:=.seq its.toArray n }
theorem dE' (xs:List V) (o:Obj) (h:IsL xs o) (v:Option Value):o.data≠.cell v:=by
 obtain⟨_,its,n,_,rfl⟩:=h
 intro z
 cases z
def eW' (te:TE):TL (List V):=fun σ xs H N=>te σ H fun v H'=>xs.length<sizeLine/\N (xs++[v]) H'
theorem f4' {X:Cx} {D:Addr} {elt:Expr} {te:TE} (hxe:X.xe=fun _ _=>False) (he:PE X elt te):cx' X D IsL [] (do let _ <- call (.builtin "list.append") [.ref D,<- eval elt X.env]) (eW' te):=by
 intro pins s σ H xs o N I hD ho hi hq
 have I1:Inv X (pins++b4' [D] s.heap) σ H s:=I.pinned (fun b hb=>by
  have e:b=D:=by simpa using hb
  subst e
  exact hD) (fun b hb=>by
  have e:b=D:=by simpa using hb
  subst e
  exact⟨o,ho,dE' _ _ hi⟩)
 have h1:=he _ s σ H _ I1 hq
 rw[hxe]at h1
 refine aa (thn h1 fun u s1 ⟨v,H1,J1,r1,z1,n1⟩=>?_)
 have q1:=J1.pin (D,o) (aj _ (aj _ (aD' (by simp) ho)))
 obtain⟨zx,its,n,rv,rfl⟩:=hi
 have hl:=rv.length
 refine aa (wpAny_list_append_plain (items:=its.toArray) ⟨n,q1.1⟩ (fun h' hp hs=>?_) (by rw[al,<- hl];exact zx))
 obtain⟨_,f1,f2,f3,f4,f5⟩:=hD
 have J2:Inv X pins σ H1 { s1 with heap:=h' }:=J1.unpinned.turned (it:=D) (t':=s1.toks) (fun b o hb e=>(hs.2 b hb).trans e) q1.2.1 f1 f3 f4 f5
 obtain⟨n',hp⟩:=hp
 refine ag ⟨σ,xs++[v],_,H1,J2,Ext.refl,hp,⟨?_,its++[u],n',rv.append (.cons r1 .nil),?_⟩,q1.2.1,n1⟩
 .rw[ap];exact z1
 .simp
def a1' (e:Expr) (d:Nat) (iter:Expr) (acc:Value) (env:Env):Sem Unit:=do
 let x <- eval iter env
 standAt iter.pos
 let x <- foldedSetIterable iter env x
 let _ <- runOwn (.compStart e (d+1) (<- holding [x] (pyIter x)) acc env) env
theorem f5' {M:Model} {A:Around} {e:Expr} {d:Nat} {it acc:Value} {env:Env} {R:Result->Shared->Prop} {s:Shared}
  (hq:(Code.compStart e d it acc env).quiet=true) (hu:A.under (Code.compStart e d it acc env)=A) (hql:∀it',(Code.compLoop e d it' acc env).quiet=true)
  (hden:M.den (.compStart e d it acc env)=(compStart e d it acc env).onRaise (fun x=>do noteFrame x env;standAt theWindowsPlace)) (hg:∃g,(clausesOf e)[d]?=some g/\g.is_async=0)
  (h0:codeAny M A (.compLoop e d it acc env) R s) (h1:∀E,wpAny M A (pyIter it) (fun it' s'=>it'=it/\s'=s) E s):codeAny M A (.compStart e d it acc env) R s:=by
 refine codeAny_of_tree ?_
 rw[hu,hden]
 refine wpAny_notedAt ?_
 obtain⟨g,eg,ea⟩:=hg
 unfold compStart
 rw[eg]
 have e1:((some g:Option Comprehension).elim false (fun x=>x.is_async != 0))=false:=by
  show(g.is_async != 0)=false
  rw[ea];rfl
 rw[e1]
 show wpAny _ _ (ask >>= _) _ _ s
 refine aa (bp (wpAny_ite ?_))
 have fin:wpAny M A (again (.compLoop e d it acc env)) (fun fin s'=>match fin with | .done f=>R (.ok f) s' | .again c=>c.quiet=true/\codeAny M A c R s') (notedBy M A env fun x s'=>R (.error x) s') s:=ag ⟨hql it,h0⟩
 split
 .first
   |exact fin
   |exact aa fin
   |exact aa (ag fin)
 .refine aa (cX ?_)
  refine aa (bK ?_)
  refine aa (wpAny_mono (h1 _) (fun it' s' q=>?_) fun _ _ q=>q)
  obtain⟨rfl,rfl⟩:=q
  exact fin
theorem iU' (own:List Nat) (σ:St):clr own (clr own σ)=clr own σ:=by
 apply bG
 intro i
 by_cases h:i∈own
 .have z:∀τ:St,(clr own τ)[i]?=none\/(clr own τ)[i]?=some none:=fun τ=>by
   cases q:(clr own τ)[i]? with
   |none=>exact .inl rfl
   |some o=>
    cases o with
    |none=>exact .inr rfl
    |some v=>exact absurd h (eU' q).2
  have hl:(clr own (clr own σ)).length=(clr own σ).length:=eT' _ _
  rcases z (clr own σ)with a|a<;>rcases z σ with b|b<;>rw[a,b]
  .have q1:=aJ.mp a
   have q2:=(aL.mp b).1
   omega
  .have q1:=aJ.mp b
   have q2:=(aL.mp a).1
   omega
 .rw[ib' h]
def ic' {α:Type} (wi:TI) (c:It->TL α):TL α:=fun σ a H N=>wi σ H fun J H1=>c J σ a H1 N
theorem eA' {α:Type} {Is:α->Obj->Prop} {X:Cx} {e:Expr} {d:Nat} {tg iter:Expr} {ifs:List Expr} {nx:Sem Unit} {D:Addr} {wi:TI} {g:TG} {tc:TT} {ax':TL α} {ws ws':List Nat}
  (hxe:X.xe=fun _ _=>False) (hcalm:X.calm=true)
  (hq:∀it,(Code.compLoop e (d+1) it (.ref D) X.env).quiet=true) (hu:∀it,X.A.under (Code.compLoop e (d+1) it (.ref D) X.env)=X.A)
  (hq':∀it,(Code.compStart e (d+1) it (.ref D) X.env).quiet=true) (hu':∀it,X.A.under (Code.compStart e (d+1) it (.ref D) X.env)=X.A)
  (hT:∀it,(model X.prog X.w).den (.compLoop e (d+1) it (.ref D) X.env)=(a6' e (d+1) tg iter ifs nx it (.ref D) X.env).onRaise (fun x=>do noteFrame x X.env;theTreesLotGoes x))
  (hS:∀it,(model X.prog X.w).den (.compStart e (d+1) it (.ref D) X.env)=(compStart e (d+1) it (.ref D) X.env).onRaise (fun x=>do noteFrame x X.env;standAt theWindowsPlace))
  (hcl:∃g,(clausesOf e)[d+1]?=some g/\g.is_async=0) (hfs:∀x,foldedSetIterable iter X.env x=pure x)
  (hi:PI X tg iter wi) (hg:PG X tg g) (hge:sN' ws g) (ht:PTs X ifs tc) (hn:cx' X D Is ws' nx ax') (hws:∀j∈ws',j∈ws) (hIs:∀a o,Is a o->∀v,o.data≠.cell v):
  cx' X D Is ws (a1' e d iter (.ref D) X.env) (ic' wi (bc' ws g tc ax')):=by
 intro pins s σ H a o N I hD ho ha hw
 have I1:Inv X (pins++b4' [D] s.heap) σ H s:=I.pinned (fun b hb=>by
  have e:b=D:=by simpa using hb
  subst e
  exact hD) (fun b hb=>by
  have e:b=D:=by simpa using hb
  subst e
  exact⟨o,ho,hIs _ _ ha⟩)
 have h1:=hi _ s σ H _ I1 hw
 rw[hxe]at h1
 unfold a1'
 refine aa (thn h1 fun v s1 h2=>?_)
 refine aa (bK (aa (bz (hfs v) ?_)))
 refine aa (bg (thn h2 fun itv s2 h3=>?_))
 obtain⟨it,fp,tn,J,H2,rfl,I2,T,st2,f2,hc⟩:=h3
 have mD:(D,o)∈b4' [D] s.heap:=aD' (by simp) ho
 have q2:=I2.pin (D,o) (aj _ (aj _ mD))
 have hDf:D∉fp:=fun z=>(f2 D z).2.2.2.2.2 (D,o) (aj _ (aj _ mD)) rfl
 have f2':∀b∈fp,dz' X pins H2 b:=fun b hb=>by
  obtain⟨f0,f1,f2,f3,f4,f5⟩:=f2 b hb
  exact⟨f0,f1,f2,f3,f4,fun p hp=>f5 p (by
   rcases aT.mp hp with z|z
   .exact bf _ z
   .exact aj _ (bf _ z))⟩
 have L:=eV' (Is:=Is) (D:=D) hxe hcalm (hq _) (hu _) (hT _) T hg hge ht hn hws hIs hDf I2.unpinned f2' ⟨q2.2.1,hD.2⟩ q2.1 ha st2 hc
 have L2:=f5' (hq' _) (hu' _) hq (hS _) hcl L (fun E=>T.self X.A 0 s2 _ E st2 ⟨rfl,rfl⟩)
 refine aa (wpAny_runOwn (codeAny_mono L2 fun r s3 h3=>?_))
 obtain⟨rfl,a',o',H',J',e',is',n',hN⟩:=h3
 exact ag ⟨_,a',o',H',J',Ext.clr,e',is',n',hN⟩
def ie' (own:List Nat) (wi:TI) (g:TG) (tc:TT) (ax':TL (List V)):TE:=fun σ H Q=>wi σ H fun J H1=>bc' own g tc ax' J σ [] H1 fun xs H2=>∀p,H2 p=none->Q (.ref p) (upd H2 p (.lst xs))
structure CompIn (X:Cx) (e:Expr) (scope:Scope) (tg:Expr) (iter:Expr) (ifs:List Expr) (nx:Addr->Env->Sem Unit) (g:TG) (tc:TT) (ax':TL (List V)) (own:List Nat):Prop where
 sc:CompSc X scope
 ow:∀i x,X.N[i]?=some x->(scope.names.lookup x=some .local\/scope.names.lookup x=some .cell)->i∈own
 cl:∃gs,clausesOf e=⟨tg,iter,ifs,0⟩ :: gs
 fs:∀x,foldedSetIterable iter X.env x=pure x
 calm:X.calm=true
 q:∀it D env,(Code.compLoop e 0 it (.ref D) env).quiet=true/\(Code.compStart e 0 it (.ref D) env).quiet=true
 u:∀A it D env,Around.under A (Code.compLoop e 0 it (.ref D) env)=A/\Around.under A (Code.compStart e 0 it (.ref D) env)=A
 T:∀P w it D env,(model P w).den (.compLoop e 0 it (.ref D) env)=(a6' e 0 tg iter ifs (nx D env) it (.ref D) env).onRaise (fun x=>do noteFrame x env;theTreesLotGoes x)
 S:∀P w it D env,(model P w).den (.compStart e 0 it (.ref D) env)=(compStart e 0 it (.ref D) env).onRaise (fun x=>do noteFrame x env;standAt theWindowsPlace)
 ge:sN' own g
 inn:∀s0 H0 ex D,PG (X.comp scope s0 H0 ex) tg g/\PTs (X.comp scope s0 H0 ex) ifs tc/\∃ws',(∀j∈ws',j∈own)/\cx' (X.comp scope s0 H0 ex) D IsL ws' (nx D (X.comp scope s0 H0 ex).env) ax'
section
variable {X:Cx} {e:Expr} {scope:Scope} {tg iter:Expr} {ifs:List Expr} {nx:Addr->Env->Sem Unit} {g:TG} {tc:TT} {ax':TL (List V)} {own:List Nat} {wi:TI}
theorem iV' (C:CompIn X e scope tg iter ifs nx g tc ax' own) (hi:PI X tg iter wi) {pins:List (Addr×Obj)} {s:Shared} {σ:St} {H:Hp} {R:V->Hp->Prop} (I:Inv X pins σ H s) (hw:ie' own wi g tc ax' σ H R)
  {use:Option (Value->Sem Unit)} {Q:Value->Shared->Prop} {pos:Pos}
  (fin:∀(s3 s':Shared) (H0 H':Hp) (ex:List Addr) (D:Addr) (xs:List V) (o:Obj) (σ':St),Inv X pins σ H0 s3->(∀b∈ex,dz' X pins H0 b)->Inv (X.comp scope s3 H0 ex) [] σ' H' s'->s'.heap.get? D=some o->D<s3.heap.objs.size->X.s₀.heap.objs.size<=D->dz' X pins H0 D->IsL xs o->H' D=none->R (.ref D) (upd H' D (.lst xs))->
   compPost (model X.prog X.w) X.A X.xe use Q (.ref D) s3.heap.objs.size (.ok .next) s'):
  wpAny (model X.prog X.w) X.A (comprehension e scope X.env pos (newList []) false (eval iter X.env) use) Q X.xe s:=by
 obtain⟨gs,hcl⟩:=C.cl
 refine wpAny_comprehension_free hcl C.fs (kC' fun n hn=>I.ok.has n (C.sc.free n hn)) C.sc.kind C.sc.names ?_
 refine thn (hi pins s σ H _ I hw) fun v s1 h1=>thn h1 fun itv s2 h2=>?_
 obtain⟨it,fp,tn,J,H2,rfl,I2,T,st2,f2,hc⟩:=h2
 refine aI (dC' ?_)
 have keep:∀b o,s2.heap.get? b=some o->(s2.heap.push { cls:=.type "list",dict:=none,data:=.seq ([]:List Value).toArray }).get? b=some o:=fun b o e=>ah _ e
 have I3:Inv X pins σ H2 { s2 with heap:=s2.heap.push { cls:=.type "list",dict:=none,data:=.seq ([]:List Value).toArray } }:=I2.kept (t':=s2.toks) keep
 have hsz:(s2.heap.push { cls:=.type "list",dict:=none,data:=.seq ([]:List Value).toArray }).objs.size=s2.heap.objs.size+1:=bC ..
 have fD:dz' X pins H2 s2.heap.objs.size:=I2.fpOk (ae _) (I2.hok.fresh (ae _))
 have hlt:∀b∈fp,b<s2.heap.objs.size:=fun b hb=>by
  obtain⟨o,e,_⟩:=T.obj _ _ st2 b hb
  exact av e
 have hDf:s2.heap.objs.size∉fp:=fun z=>aU _ (hlt _ z)
 have hex:∀b∈s2.heap.objs.size :: fp,dz' X pins H2 b:=fun b hb=>by
  rcases ax.mp hb with rfl|hb
  .exact fD
  .exact f2 b hb
 generalize hs3:({ s2 with heap:=s2.heap.push { cls:=.type "list",dict:=none,data:=.seq ([]:List Value).toArray } }:Shared)=s3 at *
 have hs3s:s3.heap.objs.size=s2.heap.objs.size+1:=by rw[<- hs3];exact hsz
 have hlt3:∀b∈s2.heap.objs.size :: fp,b<s3.heap.objs.size:=fun b hb=>by
  rw[hs3s]
  rcases ax.mp hb with rfl|hb
  .exact cC _
  .exact cf (hlt b hb)
 have J0:=fI' (own:=own) I3 hex hlt3 C.sc C.ow
 obtain⟨c1,c2,ws',c4,c5⟩:=C.inn s3 H2 (s2.heap.objs.size :: fp) s2.heap.objs.size
 have kp:∀b o,s2.heap.get? b=some o->(be' s3.heap scope.names).get? b=some o:=fun b o e=>pushCells_keeps _ _ b o (ah _ (by rw[<- hs3];exact keep b o e))
 have oD:(be' s3.heap scope.names).get? s2.heap.objs.size=some { cls:=.type "list",dict:=none,data:=.seq ([]:List Value).toArray }:=pushCells_keeps _ _ _ _ (ah _ (by rw[<- hs3];exact ao _ rfl))
 have stat:∀b∈s2.heap.objs.size :: fp,dz' (X.comp scope s3 H2 (s2.heap.objs.size :: fp)) [] H2 b:=fun b hb=>
  ⟨(hex b hb).1,(J0.ok.exf b hb).1,J0.ok.exfs b hb,.inl hb,(J0.ok.exf b hb).2,fun p hp=>absurd (show p∈([]:List (Addr×Obj)) from hp) (by simp)⟩
 have T':Turn (X.comp scope s3 H2 (s2.heap.objs.size :: fp)).prog (X.comp scope s3 H2 (s2.heap.objs.size :: fp)).w (X.comp scope s3 H2 (s2.heap.objs.size :: fp)).K tg J fp it tn:=T
 have hc':bc' own g tc ax' J (clr own σ) [] H2 (fun xs H2=>∀p,H2 p=none->R (.ref p) (upd H2 p (.lst xs))):=by
  obtain⟨W,w0,turn⟩:=hc
  refine⟨W,w0,?_⟩
  rw[iU']
  exact turn
 have st3:tn 0 ({ s3 with heap:=be' s3.heap scope.names }:Shared).heap:=T.keep _ _ _ st2 fun b hb o e=>kp b o e
 have L:=eV' (X:=X.comp scope s3 H2 (s2.heap.objs.size :: fp)) (Is:=IsL) (D:=s2.heap.objs.size) rfl C.calm (C.q _ _ _).1 (C.u _ _ _ _).1 (C.T _ _ _ _ _) T' c1 C.ge c2 c5 c4 dE' hDf J0
  (fun b hb=>stat b (aB _ hb)) (stat _ aG) oD ⟨aM _,[],0,.nil,rfl⟩ st3 hc'
 have L2:=f5' (C.q _ _ _).2 (C.u _ _ _ _).2 (fun it'=>(C.q it' _ _).1) (C.S _ _ _ _ _) ⟨_,by rw[hcl];rfl,rfl⟩ L (fun E=>T.self _ 0 _ _ E st3 ⟨rfl,rfl⟩)
 refine codeAny_mono L2 fun r s' h=>?_
 obtain⟨rfl,xs,o',H',J',e',is',n',hN⟩:=h
 exact fin s3 s' H2 H' _ _ xs o' _ I3 hex J' e' (hlt3 _ aG) I2.sz fD is' n' (hN _ n')
end
section
variable {X:Cx} {pins:List (Addr×Obj)} {σ:St} {H H':Hp} {s s':Shared} {D:Addr} {o:HO}
theorem Inv.track (I:Inv X pins σ H s) (f:dz' X pins H D) (h0:X.s₀.heap.objs.size<=D) (new:a5' X.prog X.w (upd H D o) s.heap D o):Inv X pins σ (upd H D o) s:=by
 obtain⟨f0,f1,f2,f3,f4,f5⟩:=f
 have ne:∀b ob,X.s₀.heap.get? b=some ob->b≠D:=fun b ob e=>aK (aD (av e) h0)
 have neT:∀b u,H b=some u->b≠D:=fun b u e z=>by rw[z,f0]at e;cases e
 refine⟨I.ok,I.os,I.bare,⟨I.base.keep,I.base.slot,fun b ob e n hx=>by rw[af' (ne b ob e)];exact I.base.free b ob e n hx,I.base.there,fun b xs e=>?_,fun b ob u e=>?_,fun b ps e=>?_⟩,I.loc,I.cell,?_,fun x c e=>?_,fun p hp=>?_,fun b u e=>?_,I.len⟩
 .have q:=I.base.tups b xs e
  rw[af' (neT b _ q)];exact q
 .have q:=I.base.frzs b ob u e
  rw[af' (neT b _ q)];exact q
 .obtain⟨m,q⟩:=I.base.tbls b ps e
  exact⟨m,by rw[af' (neT b _ q)];exact q⟩
 .rw[af' (Ne.symm f1)];exact I.free
 .rw[af' (f4 x c e)];exact I.freeC x c e
 .obtain⟨e,n,r⟩:=I.pin p hp
  refine⟨e,?_,r⟩
  rw[af' (f5 p hp)];exact n
 .by_cases hb:b=D
  .subst hb
   rw[ad']at e;cases e
   exact new
  .rw[af' hb]at e
   exact(I.hok b u e).stay (fun _ _ _ q=>q) (fun c q=>by rw[af' (neT c _ q)];exact q) fun c xs q=>by rw[af' (neT c _ q)];exact q
end
section
variable {X:Cx} {e:Expr} {scope:Scope} {tg iter:Expr} {ifs:List Expr} {nx:Addr->Env->Sem Unit} {g:TG} {tc:TT} {ax':TL (List V)} {own:List Nat} {wi:TI}
theorem if' (C:CompIn X e scope tg iter ifs nx g tc ax' own) (hi:PI X tg iter wi) {pos:Pos} (he:eval e X.env=comprehension e scope X.env pos (newList []) false (eval iter X.env)):PE X e (ie' own wi g tc ax'):=by
 intro pins s σ H Q I hw
 rw[he]
 refine iV' C hi I hw fun s3 s' H0 H' ex D xs o σ' I3 hex J e' hlt h0 fD is' n' hR=>?_
 obtain⟨m,hn,_⟩:=J.loc
 refine⟨m,hn,fun h' hs=>?_⟩
 have J2:=dD' I3 hex J hs
 obtain⟨z,its,n,rv,rfl⟩:=is'
 have neC:D≠s3.heap.objs.size:=aK hlt
 refine⟨.ref D,upd H' D (.lst xs),J2.track (o:=.lst xs) ⟨n',fD.2⟩ h0 ⟨z,its,n,rv,(hs.2 D neC).trans e'⟩,rfl,hR⟩
theorem jG' (C:CompIn X e scope tg iter ifs nx g tc ax' own) (hi:PI X tg iter wi) {i:Nat} {y:Str} {py pos pos2:Pos} (hN:X.N.Nodup) (hy:X.N[i]?=some y) (hx:Loc X.env.scope y) (hf:X.fn y=true\/X.env.scope.names.lookup y=some .local)
  (he:evalThenUse e X.env (assign (.Name y py) X.env)=(do let _ <- comprehension e scope X.env pos2 (newList []) false (eval iter X.env) (some (assign (.Name y py) X.env))))
  (hsw:swapsWith e (some (.Name y py)) pos.line X.env=pure true):PS X (.Assign [.Name y py] e pos) (j8' (ie' own wi g tc ax') (dA' i)):=by
 intro pins s σ H D I hw
 rw[exec_Assign_Name_used _ _ _ _ hsw]
 refine aa (bK (aa ?_))
 rw[he]
 refine aa (thn (Q:=fun _ s'=>SP X pins D .next s') (iV' C hi I hw fun s3 s' H0 H' ex D' xs o σ' I3 hex J e' hlt h0 fD is' n' hR=>?_) fun _ s' q=>ag (ag q))
 obtain⟨m,hn,_⟩:=J.loc
 have J2:Inv X pins σ H' s':=dD' I3 hex J (Heap.SameBut.refl ..)
 obtain⟨z,its,n,rv,rfl⟩:=is'
 have neC:D'≠s3.heap.objs.size:=aK hlt
 have J3:Inv X pins σ (upd H' D' (.lst xs)) s':=J2.track ⟨n',fD.2⟩ h0 ⟨z,its,n,rv,e'⟩
 have fC:dz' X pins H0 s3.heap.objs.size:=I3.fpOk (ae _) (I3.hok.fresh (ae _))
 refine wpAny_assign_Name (eK' J3 hN hy hx (v:=.ref D') rfl (fun s'' J4 hs=>?_) hf)
 obtain⟨a,hsa,ha⟩:=hs
 have haC:s3.heap.objs.size≠a:=by
  rcases ha with rfl|ha
  .exact fC.2.1
  .exact fun q=>fC.2.2.2.2.1 _ _ ha q.symm
 have hn':s'.heap.Ns s3.heap.objs.size m:=hn
 refine⟨m,hn'.sameBut hsa haC,fun h' hs'=>?_⟩
 have J5:Inv X pins (σ.set i (some (.ref D'))) (upd H' D' (.lst xs)) { s'' with heap:=h' }:=J4.turned (it:=s3.heap.objs.size) (t':=s''.toks) (fun b ob hb q=>(hs'.2 b hb).trans q) (by rw[af' (Ne.symm neC)];exact J.free) fC.2.1 fC.2.2.2.1 fC.2.2.2.2.1 fC.2.2.2.2.2
 exact⟨_,_,J5,hR⟩
end
def kE':Bool->Heap->Addr->Addr->Nat->Prop
 |true,h,it,a,i=>h.IsTupleIter it a i
 |false,h,it,a,i=>h.IsListIter it a i
def pb':Bool->Heap->Addr->Array Value->Prop
 |true,h,a,xs=>h.IsTuple a xs
 |false,h,a,xs=>h.IsList a xs
theorem kE'.obj {k:Bool} {h:Heap} {it a:Addr} {i:Nat} (x:kE' k h it a i):∃o,h.get? it=some o/\o.data=.fields #[.ref a,.int i 0]:=by
 cases k
 .obtain⟨o,e,_,d⟩:=x;exact⟨o,e,d⟩
 .obtain⟨o,e,_,d⟩:=x;exact⟨o,e,d⟩
theorem kE'.at {k:Bool} {h h':Heap} {it a:Addr} {i:Nat} (x:kE' k h it a i) (hk:∀o,h.get? it=some o->h'.get? it=some o):kE' k h' it a i:=by
 cases k
 .obtain⟨o,e,r⟩:=x;exact⟨o,hk o e,r⟩
 .obtain⟨o,e,r⟩:=x;exact⟨o,hk o e,r⟩
theorem pb'.at {k:Bool} {h h':Heap} {a:Addr} {xs:Array Value} (x:pb' k h a xs) (hk:∀o,h.get? a=some o->h'.get? a=some o):pb' k h' a xs:=by
 cases k
 .obtain⟨o,e,r⟩:=x;exact⟨o,hk o e,r⟩
 .obtain⟨o,e,r⟩:=x;exact⟨o,hk o e,r⟩
theorem pb'.lt {k:Bool} {h:Heap} {a:Addr} {xs:Array Value} (x:pb' k h a xs):a<h.objs.size:=by
 cases k
 .obtain⟨o,e,r⟩:=x;exact av e
 .obtain⟨o,e,r⟩:=x;exact av e
section
variable {prog:Program} {w:World} {A:Around} {E:Value->Shared->Prop} {s:Shared}
theorem ig' {k:Bool} {it l:Addr} {i:Nat} {items:Array Value} {x:Value} {Q:Value->Shared->Prop} (hit:kE' k s.heap it l i) (hl:pb' k s.heap l items) (hx:items[i]?=some x)
  (hQ:∀h',kE' k h' it l (i+1)->bZ it s.heap h'->Q x { s with heap:=h' }):wpAny (model prog w) A (Builtin.SmallTypes.nextOf (.ref it)) Q E s:=by
 cases k
 .exact wpAny_nextOf_list_item hit hl hx hQ
 .have hit:s.heap.IsTupleIter it l i:=hit
  have hl:s.heap.IsTuple l items:=hl
  obtain⟨o,ho,hc,hd⟩:=id hit
  obtain⟨ol,hol,_,nl,hdl⟩:=hl
  unfold Builtin.SmallTypes.nextOf
  refine aa (bL (name:=Str.ofString "__next__") hit.typeIs F.slot_tuple_iterator_next
   (bo F.slot_tuple_iterator_next hit.typeIs F.entry_tuple_iterator_next ?_ (F.args_tuple_iterator_next_1 _)))
  show wpAny _ _ (field (.ref it) 0 >>= _) _ _ s
  refine aa (cz ho hd (x:=.ref l) rfl ?_)
  show wpAny _ _ (if(Value.ref l == Value.none)=true then _ else _) _ _ s
  rw[if_neg (show ¬((Value.ref l == Value.none)=true) from am)]
  show wpAny _ _ (field (.ref it) 1 >>= _) _ _ s
  refine aa (cz ho hd (x:=.int i 0) rfl ?_)
  show wpAny _ _ (seqItems? (.ref l) >>= _) _ _ s
  refine aa (wpAny_seqItems hol hdl ?_)
  simp only[aZ,hx]
  refine aa (bI ho hd (by simp) (ag ⟨x,rfl,ag (hQ _ ?_ (Heap.SameBut.update ..))⟩))
  exact⟨_,aV _ ho (Obj.isFreed_of_fields (Obj.data_mapFields hd _)),(Obj.cls_mapFields ..).trans hc,by
   rw[Obj.data_mapFields hd];simp[rawInt]⟩
theorem jH' {k:Bool} {it l:Addr} {i:Nat} {items:Array Value} {Q:Value->Shared->Prop} (hh:A.handled=none) (hit:kE' k s.heap it l i) (hl:pb' k s.heap l items) (hx:items[i]?=none)
  (hE:∀h' e,Heap.ExtBut it s.heap h'->(∃o,h'.get? e=some o/\o.cls=.type "StopIteration")->E (.ref e) { s with heap:=h' }):wpAny (model prog w) A (Builtin.SmallTypes.nextOf (.ref it)) Q E s:=by
 cases k
 .exact wpAny_nextOf_list_end hh hit hl hx hE
 .have hit:s.heap.IsTupleIter it l i:=hit
  have hl:s.heap.IsTuple l items:=hl
  obtain⟨o,ho,hc,hd⟩:=id hit
  obtain⟨ol,hol,_,nl,hdl⟩:=hl
  unfold Builtin.SmallTypes.nextOf
  refine aa (bL (name:=Str.ofString "__next__") hit.typeIs F.slot_tuple_iterator_next
   (bo F.slot_tuple_iterator_next hit.typeIs F.entry_tuple_iterator_next ?_ (F.args_tuple_iterator_next_1 _)))
  show wpAny _ _ (field (.ref it) 0 >>= _) _ _ s
  refine aa (cz ho hd (x:=.ref l) rfl ?_)
  show wpAny _ _ (if(Value.ref l == Value.none)=true then _ else _) _ _ s
  rw[if_neg (show ¬((Value.ref l == Value.none)=true) from am)]
  show wpAny _ _ (field (.ref it) 1 >>= _) _ _ s
  refine aa (cz ho hd (x:=.int i 0) rfl ?_)
  show wpAny _ _ (seqItems? (.ref l) >>= _) _ _ s
  refine aa (wpAny_seqItems hol hdl ?_)
  simp only[aZ,hx]
  refine aa (cX (aa (bI ho hd (by simp) ?_)))
  show wpAny _ _ (newExc (.type "StopIteration") [] >>= _) _ _ _
  refine aa ?_
  simp only[newExc,newTuple]
  refine aa (aI ?_ (by size_fits))
  refine aa (m:=firstArgMember _ _) (bz (a:=Value.none) (by first|rfl|(simp only[firstArgMember];rfl)) ?_)
  refine aI ?_ (by size_fits)
  simp only[raiseNew]
  refine aa (wpAny_handled ?_)
  first|rw[show A.in1.handled=none from hh]|rw[hh]
  refine aa (ag (wpAny_throw ?_))
  exact hE _ _ (((Heap.SameBut.update ..).extBut.push _).push _) ⟨_,ao _ rfl,rfl⟩
end
section
variable {prog:Program} {w:World} {A:Around} {E:Value->Shared->Prop} {s:Shared}
end
def Its (x:Str):It:=⟨fun i _=>i<x.cps.size,fun i H v H'=>H'=H/\∃c,x.cps[i]?=some c/\v=.str ⟨#[c]⟩,fun i _=>x.cps.size<=i⟩
theorem nm' {P:Program} {w:World} {K:W.Frag} {tg:Expr} (it:Addr) (x:Str) (ty:String) (t:Tok) (hty:ty="str_ascii_iterator"\/ty="str_iterator"):
  Turn P w K tg (Its x) [it] it (fun i h=>h.IsStrIter it ty x t i) where
 mem:=by simp
 obj:=fun i h st b hb=>by
  have e:b=it:=by simpa using hb
  subst e
  obtain⟨o,e,c,d⟩:=st
  exact⟨o,e,fun v z=>by rw[d]at z;cases z⟩
 keep:=fun i h h' st k=>by
  obtain⟨o,e,r⟩:=st
  exact⟨o,k it (by simp) o e,r⟩
 item:=by
  intro X hP hw hK hc i pins s σ H E I hf st hg
  subst hP hw hK
  obtain⟨f0,f1,f2,f3,f4,f5⟩:=hf it (by simp)
  have hg':i<x.cps.size:=hg
  have hx:x.cps[i]?=some x.cps[i]:=by simp[hg']
  have fin:∀h',h'.IsStrIter it ty x t (i+1)->bZ it s.heap h'->∃u,some (Value.str ⟨#[x.cps[i]]⟩ s.toks)=some u/\
    wpAny (model X.prog X.w) X.A (letOwnedTupleGo tg (.ref it) u) (fun _ s2=>∃y H',Inv X pins σ H' s2/\aJ' y u/\(Its x).yld i H y H'/\s2.heap.IsStrIter it ty x t (i+1)/\∀b∈[it],H' b=none) E { s with heap:=h',toks:=s.toks+1 }:=fun h' st' sb=>by
   have I1:Inv X pins σ H { s with heap:=h',toks:=s.toks+1 }:=I.turned (fun b o hb e=>(sb.2 b hb).trans e) f0 f1 f3 f4 f5
   obtain⟨o,e,c,d⟩:=id st'
   refine⟨_,rfl,jv' (s:={ s with heap:=h',toks:=s.toks+1 }) e c d ?_ ⟨.str ⟨#[x.cps[i]]⟩,H,I1,⟨_,rfl⟩,⟨rfl,_,hx,rfl⟩,st',fun b hb=>(hf b hb).1⟩⟩
   rcases hty with rfl|rfl<;>decide
  rcases hty with rfl|rfl
  .exact wpAny_pyNext_ascii_item st hx fin
  .exact wpAny_pyNext_wide_item st hx fin
 done:=by
  intro X hP hw hK hc i pins s σ H E I hf st hg
  subst hP hw hK
  obtain⟨f0,f1,f2,f3,f4,f5⟩:=hf it (by simp)
  have hg':x.cps.size<=i:=hg
  have hx:x.cps[i]?=none:=by simp[hg']
  have fin:∀h',Heap.ExtBut it s.heap h'->(none:Option Value)=none/\Inv X pins σ H { s with heap:=h' }:=fun h' eb=>⟨rfl,I.turned (t':=s.toks) (fun b o hb e=>eb b o hb e) f0 f1 f3 f4 f5⟩
  rcases hty with rfl|rfl
  .exact wpAny_pyNext_ascii_end (I.ok.hd hc) st hx fin
  .exact wpAny_pyNext_wide_end (I.ok.hd hc) st hx fin
 self:=fun _ _ _ _ _ st h=>by
  rcases hty with rfl|rfl
  .exact wpAny_pyIter_striter_ascii st h
  .exact wpAny_pyIter_striter_wide st h
def Sq (k:Bool) (K:W.Frag) (H:Hp) (a:Addr) (xs:List V):Prop:=match k with
 |true=>SqT K H a xs
 |false=>SqL K H a xs
def As' (k j:Bool) (K:W.Frag) (a b:Addr):It:=
 ⟨fun i H=>∃xs ys x y,Sq k K H a xs/\Sq j K H b ys/\xs[i]?=some x/\ys[i]?=some y,
  fun i H v H'=>∃p x y,v=.ref p/\H p=none/\(∀xs,Sq k K H a xs->xs[i]?=some x)/\(∀ys,Sq j K H b ys->ys[i]?=some y)/\H'=upd H p (.tup [x,y]),
  fun i H=>∃xs ys,Sq k K H a xs/\Sq j K H b ys/\(xs.length<=i\/ys.length<=i)⟩
section
variable {X:Cx} {tg:Expr}
def xK' (K:W.Frag) (tl:TE):TI:=fun σ H R=>tl σ H fun x H1=>
 (∃a,x=.ref a/\(∃xs,SqL K H1 a xs)/\R (Itl K a) H1)\/(∃a,x=.ref a/\(∃xs,SqT K H1 a xs)/\R (Itt K a) H1)\/∃z,x=.str z/\R (Its z) H1
theorem tA' {l:Expr} {tl:TE} (hl:PE X l tl):PI X tg l (xK' X.K tl):=by
 intro pins s σ H R I h
 refine thn (hl pins s σ H _ I h) fun v s1 ⟨x,H1,I1,r1,q1⟩=>?_
 rcases q1 with⟨a,e,⟨xs,hq⟩,q⟩|⟨a,e,⟨xs,hq⟩,q⟩|⟨z,e,q⟩
 .subst e
  cases r1
  obtain⟨its,rv,p,hz⟩:=I1.list hq
  refine wpAny_pyIter_list p.isList ?_
  refine⟨s1.heap.objs.size,[s1.heap.objs.size],_,_,H1,rfl,I1.kept (t':=s1.toks) fun b o e=>ah _ e,kh' a _,⟨_,ao _ rfl,rfl,rfl⟩,fun b hb=>?_,q⟩
  have e:b=s1.heap.objs.size:=by simpa using hb
  subst e
  exact I1.fpOk (ae _) (I1.hok.fresh (ae _))
 .subst e
  cases r1
  obtain⟨its,rv,p,hz⟩:=I1.tuple hq
  refine wpAny_pyIter_tuple (show s1.heap.IsTuple a its.toArray from p) ?_
  refine⟨s1.heap.objs.size,[s1.heap.objs.size],_,_,H1,rfl,I1.kept (t':=s1.toks) fun b o e=>ah _ e,jw' a _,⟨_,ao _ rfl,rfl,rfl⟩,fun b hb=>?_,q⟩
  have e:b=s1.heap.objs.size:=by simpa using hb
  subst e
  exact I1.fpOk (ae _) (I1.hok.fresh (ae _))
 .subst e
  obtain⟨t,rfl⟩:=r1
  have fin:∀(ty:String),(ty="str_ascii_iterator"\/ty="str_iterator")->PIE X pins σ tg R (.ref s1.heap.objs.size) { s1 with heap:=s1.heap.push { cls:=.type ty,data:=.fields #[.str z t,.int 0 0] } }:=fun ty hty=>by
   refine⟨s1.heap.objs.size,[s1.heap.objs.size],_,_,H1,rfl,I1.kept (t':=s1.toks) fun b o e=>ah _ e,nm' _ z ty t hty,⟨_,ao _ rfl,rfl,rfl⟩,fun b hb=>?_,q⟩
   have e:b=s1.heap.objs.size:=by simpa using hb
   subst e
   exact I1.fpOk (ae _) (I1.hok.fresh (ae _))
  cases ha:z.cps.all (· < 128)
  .exact wpAny_pyIter_wide ha (fin _ (.inr rfl))
  .exact wpAny_pyIter_ascii ha (fin _ (.inl rfl))
end
def Itd (go:Nat->Hp->Prop) (val:Nat->Hp->V->Prop) (stop:Nat->Hp->Prop):It:=
 ⟨go,fun i H v H'=>∃p x,v=.ref p/\H p=none/\val i H x/\H'=upd H p (.tup [.int i,x]),stop⟩
structure EnSrc (P:Program) (w:World) (K:W.Frag) (e it:Addr) (Sx:Nat->Heap->Prop) (go:Nat->Hp->Prop) (val:Nat->Hp->V->Prop) (stop:Nat->Hp->Prop):Prop where
 ne:e≠it
 obj:∀i h,Sx i h->∃o,h.get? it=some o/\∀v,o.data≠.cell v
 keep:∀i h h',Sx i h->(∀o,h.get? it=some o->h'.get? it=some o)->Sx i h'
 item:∀(X:Cx),X.prog=P->X.w=w->X.K=K->X.calm=true->∀(i:Nat) (pins:List (Addr×Obj)) (s:Shared) (σ:St) (H:Hp),Inv X pins σ H s->H e=none->H it=none->e<s.heap.objs.size->(∃old,IsEnum s.heap e it i old)->Sx i s.heap->go i H->
  ∃n Pd Sd fp,Draws P w X.A.in1 it fp n Pd Sd/\e∉fp/\i<n/\Sd i s.heap/\(∀j h,Sd j h->Sx j h)/\∀u,Pd i u->∃x,aJ' x u/\val i H x
 done:∀(X:Cx),X.prog=P->X.w=w->X.K=K->X.calm=true->∀(i:Nat) (pins:List (Addr×Obj)) (s:Shared) (σ:St) (H:Hp),Inv X pins σ H s->H e=none->H it=none->(∃old,IsEnum s.heap e it i old)->Sx i s.heap->stop i H->
  ∃Pd Sd fp,Draws P w X.A.in1 it fp i Pd Sd/\Sd i s.heap
theorem eX' {P:Program} {w:World} {K:W.Frag} {elts:List Expr} {kt:Nat} {pt:Pos} {e it:Addr} {Sx:Nat->Heap->Prop} {go:Nat->Hp->Prop} {val:Nat->Hp->V->Prop} {stop:Nat->Hp->Prop} (S:EnSrc P w K e it Sx go val stop):
  Turn P w K (.Tuple elts kt pt) (Itd go val stop) [e,it] e (fun i h=>(∃old,IsEnum h e it i old)/\Sx i h) where
 mem:=by simp
 obj:=fun i h st b hb=>by
  obtain⟨⟨old,he⟩,hs⟩:=st
  simp only[ax,aO,or_false]at hb
  rcases hb with rfl|rfl
  .exact⟨_,he,fun v=>(nomatch ·)⟩
  .exact S.obj i h hs
 keep:=fun i h h' st kk=>by
  obtain⟨⟨old,he⟩,hs⟩:=st
  exact⟨⟨old,kk e (by simp) _ he⟩,S.keep i h h' hs fun o q=>kk it (by simp) o q⟩
 item:=by
  intro X hP hw hK hc i pins s σ H E I hf st hg
  have hfe:=hf e (by simp)
  have hfi:=hf it (by simp)
  obtain⟨n,Pd,Sd,fp,D,hefp,hin,hsd,hsub,hval⟩:=S.item X hP hw hK hc i pins s σ H I hfe.1 hfi.1 (av st.1.choose_spec) st.1 st.2 hg
  obtain⟨⟨old,he⟩,hs⟩:=st
  subst hP hw hK
  refine wpAny_pyNext_enum_itemD D he hsd hin S.ne hefp fun u h' tk hPu ho hs' hT hsz hk=>?_
  obtain⟨x,rx,vx⟩:=hval u hPu
  refine⟨_,rfl,wpAny_letOwnedTupleGo_enum (s:={ s with heap:=h',toks:=tk+1 }) ho fun h'' he'' hb=>?_⟩
  have hb':bZ e h' h'':=hb
  have elt:e<s.heap.objs.size:=av he
  have neT:s.heap.objs.size≠e:=Nat.ne_of_gt elt
  have hTn:H s.heap.objs.size=none:=I.hok.fresh (ae _)
  have hkk:∀c o,c∉[e,it]->s.heap.get? c=some o->h''.get? c=some o:=fun c o hc q=>by
   simp only[ax,aO,or_false,not_or]at hc
   exact(hb'.2 c hc.1).trans (hk c o hc.1 hc.2 q)
  have trk:∀c o,H c=some o->c∉[e,it]:=fun c o q hc=>by rw[(hf c hc).1]at q;cases q
  have I1:Inv X pins σ (upd H s.heap.objs.size (.tup [.int i,x])) { s with heap:=h'',toks:=tk+1 }:=by
   refine I.step (g':=s.gens) (d':=s.drawn) (t':=tk+1) (ch:=[e,it]) (fun c hc=>?_) (fun c o _ _ hc q _=>hkk c o hc q) (fun c o _ _ hc q _=>⟨o.slots,hkk c o hc q⟩)
    (fun c o _ q n=>by rw[af' (aK (av q))];exact n) (fun c o hc q=>⟨o,hkk c o hc q⟩) (fun c ps q=>by rw[af' (av' q hTn)];exact q) (fun c o p q=>by rw[af' (av' q hTn)];exact q)
    (fun c ps q=>⟨#[],by rw[af' (av' q hTn),q];simp⟩) (fun m hm=>?_) (fun c o q=>?_) I.bare
   .obtain⟨f0,f1,f2,f3,f4,f5⟩:=hf c hc
    exact⟨f3,f1,f4,f5⟩
   .obtain⟨oo,es,ep,ho,r⟩:=hm
    exact⟨oo,es,ep,hkk _ oo (fun hc=>(hf _ hc).2.1 rfl) ho,r⟩
   .by_cases hb:c=s.heap.objs.size
    .subst hb
     rw[ad']at q;cases q
     exact⟨by show 2<=sizeLine;decide,[.int i tk,u],.cons ⟨_,rfl⟩ (.cons rx .nil),⟨_,(hb'.2 _ neT).trans hT,rfl,⟨_,rfl⟩,rfl⟩⟩
    .rw[af' hb]at q
     refine(I.hok c o q).stay (fun d q hd eq=>hkk d q ?_ eq) (fun d q=>by rw[af' (av' q hTn)];exact q) fun d qs q=>by rw[af' (av' q hTn)];exact q
     rcases hd with rfl|hd
     .exact trk _ _ (by assumption)
     .exact trk _ _ hd
  refine⟨.ref s.heap.objs.size,_,I1,rfl,⟨s.heap.objs.size,x,rfl,hTn,vx,rfl⟩,⟨⟨_,he''⟩,S.keep _ _ _ (hsub _ _ hs') fun o q=>(hb'.2 it (Ne.symm S.ne)).trans q⟩,fun c hc=>?_⟩
  rw[af']
  .exact(hf c hc).1
  .intro q
   subst q
   simp only[ax,aO,or_false]at hc
   rcases hc with q|q
   .exact neT q
   .obtain⟨o,e1,_⟩:=S.obj _ _ hs
    exact aU _ (q ▸ av e1)
 done:=by
  intro X hP hw hK hc i pins s σ H E I hf st hg
  have hfe:=hf e (by simp)
  have hfi:=hf it (by simp)
  obtain⟨Pd,Sd,fp,D,hsd⟩:=S.done X hP hw hK hc i pins s σ H I hfe.1 hfi.1 st.1 st.2 hg
  obtain⟨⟨old,he⟩,hs⟩:=st
  subst hP hw hK
  refine wpAny_pyNext_enum_endD D he hsd fun h' hx=>⟨rfl,?_⟩
  obtain⟨f0,f1,f2,f3,f4,f5⟩:=hfi
  exact I.turned (t':=s.toks) (fun b o hb q=>hx b o hb q) f0 f1 f3 f4 f5
 self:=fun _ _ _ _ _ st h=>by
  obtain⟨⟨old,he⟩,_⟩:=st
  exact wpAny_pyIter_enum he h
def Ite (K:W.Frag) (a:Addr):It:=Itd (fun i H=>∃xs x,SqL K H a xs/\xs[i]?=some x) (fun i H x=>∀xs,SqL K H a xs->xs[i]?=some x) (fun i H=>∃xs,SqL K H a xs/\xs.length=i)
theorem qn' {P:Program} {w:World} {K:W.Frag} {e it a:Addr} (ne:e≠it) (na:a≠e) (nai:a≠it):EnSrc P w K e it (fun i h=>h.IsListIter it a i) (fun i H=>∃xs x,SqL K H a xs/\xs[i]?=some x) (fun i H x=>∀xs,SqL K H a xs->xs[i]?=some x) (fun i H=>∃xs,SqL K H a xs/\xs.length=i) where
 ne:=ne
 obj:=fun i h st=>by
  obtain⟨o,q,c,d⟩:=st
  exact⟨o,q,fun v z=>by rw[d]at z;cases z⟩
 keep:=fun i h h' st k=>st.at k
 item:=by
  intro X hP hw hK hc i pins s σ H I _ _ _ _ st hg
  obtain⟨xs,x,hxs,hx⟩:=hg
  subst hP hw hK
  obtain⟨its,rv,p,hz⟩:=I.list hxs
  have hl:=rv.length
  obtain⟨u,hu,ru⟩:=rv.get hx
  refine⟨_,_,_,_,Draws.list (show X.A.in1.handled=none from I.ok.hd hc) it a nai its.toArray,?_,?_,⟨st,p.isList⟩,fun j h q=>q.1,fun u' hu'=>⟨x,?_,fun ys hys=>by rw[I.list_inj hys hxs];exact hx⟩⟩
  .simp only[ax,aO,or_false,not_or]
   exact⟨ne,Ne.symm na⟩
  .have:=(aL.mp hx).1
   simp;omega
  .have e2:its[i]?=some u':=by simpa using hu'
   rw[hu]at e2
   cases e2
   exact ru
 done:=by
  intro X hP hw hK hc i pins s σ H I _ _ _ st hg
  obtain⟨xs,hxs,hx⟩:=hg
  subst hP hw hK
  obtain⟨its,rv,p,hz⟩:=I.list hxs
  have hl:=rv.length
  have e:i=its.toArray.size:=by simp;omega
  subst e
  exact⟨_,_,_,Draws.list (show X.A.in1.handled=none from I.ok.hd hc) it a nai its.toArray,st,p.isList⟩
def sO' (z:Str):It:=Itd (fun i _=>i<z.cps.size) (fun i _ v=>∃c,z.cps[i]?=some c/\v=.str ⟨#[c]⟩) (fun i _=>z.cps.size=i)
theorem tC' {P:Program} {w:World} {K:W.Frag} {e it:Addr} {z:Str} {t:Tok} {ty:String} (hty:ty="str_ascii_iterator"\/ty="str_iterator") (ne:e≠it):EnSrc P w K e it (fun i h=>h.IsStrIter it ty z t i) (fun i _=>i<z.cps.size) (fun i _ v=>∃c,z.cps[i]?=some c/\v=.str ⟨#[c]⟩) (fun i _=>z.cps.size=i) where
 ne:=ne
 obj:=fun i h st=>by
  obtain⟨o,q,c,d⟩:=st
  exact⟨o,q,fun v z=>by rw[d]at z;cases z⟩
 keep:=fun i h h' st k=>by
  obtain⟨o,q,r⟩:=st
  exact⟨o,k o q,r⟩
 item:=by
  intro X hP hw hK hc i pins s σ H I _ _ _ _ st hg
  subst hP hw hK
  have hh:X.A.in1.handled=none:=I.ok.hd hc
  rcases hty with rfl|rfl
  .refine⟨_,_,_,_,Draws.strAscii hh it z t,by simpa using ne,hg,st,fun j h q=>q,fun u hu=>?_⟩
   obtain⟨c,t',hc',rfl⟩:=hu
   exact⟨.str ⟨#[c]⟩,⟨_,rfl⟩,c,hc',rfl⟩
  .refine⟨_,_,_,_,Draws.strWide hh it z t,by simpa using ne,hg,st,fun j h q=>q,fun u hu=>?_⟩
   obtain⟨c,t',hc',rfl⟩:=hu
   exact⟨.str ⟨#[c]⟩,⟨_,rfl⟩,c,hc',rfl⟩
 done:=by
  intro X hP hw hK hc i pins s σ H I _ _ _ st hg
  subst hP hw hK
  have hh:X.A.in1.handled=none:=I.ok.hd hc
  have hg':z.cps.size=i:=hg
  subst hg'
  rcases hty with rfl|rfl
  .exact⟨_,_,_,Draws.strAscii hh it z t,st⟩
  .exact⟨_,_,_,Draws.strWide hh it z t,st⟩
theorem gQ' {prog:Program} {w:World} {A:Around} (hh:A.handled=none) (it l:Addr) (hne:l≠it) (items:Array Value):
  Draws prog w A it [it,l] items.size (fun i v=>items[i]?=some v) (fun i h=>kE' true h it l i/\pb' true h l items) where
 live:=fun _ _ st=>let⟨o,ho,_⟩:=st.1.obj;⟨o,ho⟩
 frame:=fun _ _ _ st hk=>⟨st.1.at fun o e=>hk it (by simp) o e,st.2.at fun o e=>hk l (by simp) o e⟩
 item:=fun i s Q E hi st hQ=>by
  refine ig' st.1 st.2 (x:=items[i]) (by simp[hi]) fun h' hit' hs'=>?_
  exact hQ _ h' s.toks (by simp[hi]) ⟨hit',st.2.at fun o e=>hs'.extBut l o hne e⟩ hs'
 done:=fun s Q E st hE=>jH' hh st.1 st.2 (by simp) hE
set_option tactic.hygienic true in
open AutoSeq1 (wpAny_loadPart') in
theorem di' (l:Addr) (items:Array Value) (n:Nat) (dct:Option Addr) (sl:Array (Option Value)):
  Meets (Builtin.«enumerate.__new__» ⟨[.type "enumerate",.ref l],[]⟩) (fun _ R s=>s.heap.get? l=some { cls:=.type "tuple",dict:=dct,data:=.seq items n,slots:=sl }/\
   R (.ok (.ret (.ref (s.heap.push { cls:=.type "tuple_iterator",data:=.fields #[.ref l,.int 0 0] }).objs.size)))
    { s with heap:=(s.heap.push { cls:=.type "tuple_iterator",data:=.fields #[.ref l,.int 0 0] }).push { cls:=.type "enumerate",data:=.fields #[.none,.bool false,.ref s.heap.objs.size,rawInt 0,.none,.none] } }):=
 .of_wp fun prog w A R s h=>by
  obtain⟨hp,g,d,tk,os⟩:=s;obtain⟨hl,h⟩:=h
  have hsub:=sub_enumerate
  have hL:Heap.IsTuple (Shared.heap ⟨hp,g,d,tk,os⟩) l items:=⟨_,hl,rfl,n,rfl⟩
  wp_walk using wpAny_loadPart' hl
  refine wpAny_stack_any fun st=>ag ?_
  split
  .rename_i c _ _ _ _ _
   cases(c == Value.type "enumerate")
   .wp_walk using wpAny_loadPart' hl,wpAny_pyIter_tuple hL
    exact⟨_,rfl,h⟩
   .wp_walk using wpAny_loadPart' hl,wpAny_pyIter_tuple hL
    exact⟨_,rfl,h⟩
  .wp_walk using wpAny_loadPart' hl,wpAny_pyIter_tuple hL
   exact⟨_,rfl,h⟩
theorem dj' {prog:Program} {w:World} {A:Around} {E:Value->Shared->Prop} {s:Shared} {l:Addr} {items:Array Value} {Q:Value->Shared->Prop} (hL:s.heap.IsTuple l items)
  (h:∀h',IsEnum h' (s.heap.objs.size+1) s.heap.objs.size 0 .none->kE' true h' s.heap.objs.size l 0->h'.objs.size=s.heap.objs.size+2->
   (∀b o,s.heap.get? b=some o->h'.get? b=some o)->Q (.ref (s.heap.objs.size+1)) { s with heap:=h' }):
  wpAny (model prog w) A (call (.type "enumerate") [.ref l]) Q E s:=by
 obtain⟨⟨c,dct,dt,sl⟩,hl,hc,n,hd⟩:=hL
 replace hc:c=.type "tuple":=hc
 replace hd:dt=.seq items n:=hd
 subst hc hd
 refine callType_new F.called_enumerate (by decide) (F.typeCall_enumerate_1 _) (F.newCall_enumerate_1 _) (fun obj=>F.args_object_init_2 obj _) F.entry_enumerate_new
  (di' l items n dct sl) ⟨hl,?_⟩
 have hz:(s.heap.push { cls:=.type "tuple_iterator",data:=.fields #[.ref l,.int 0 0] }).objs.size=s.heap.objs.size+1:=bC ..
 show _/\_
 rw[hz]
 have he:IsEnum ((s.heap.push { cls:=.type "tuple_iterator",data:=.fields #[.ref l,.int 0 0] }).push
   { cls:=.type "enumerate",data:=.fields #[.none,.bool false,.ref s.heap.objs.size,rawInt 0,.none,.none] }) (s.heap.objs.size+1) s.heap.objs.size 0 .none:=by
  have:=ao (s.heap.push { cls:=.type "tuple_iterator",data:=.fields #[.ref l,.int 0 0] })
   (o:={ cls:=.type "enumerate",data:=.fields #[.none,.bool false,.ref s.heap.objs.size,rawInt 0,.none,.none] }) rfl
  rw[hz]at this;exact this
 refine⟨⟨_,he,rfl⟩,h _ he ⟨_,ah _ (ao _ rfl),rfl,rfl⟩ (by rw[bC,hz]) fun b o x=>ah _ (ah _ x)⟩
def wX' (K:W.Frag) (a:Addr):It:=Itd (fun i H=>∃xs x,SqT K H a xs/\xs[i]?=some x) (fun i H x=>∀xs,SqT K H a xs->xs[i]?=some x) (fun i H=>∃xs,SqT K H a xs/\xs.length=i)
theorem tD' {P:Program} {w:World} {K:W.Frag} {e it a:Addr} (ne:e≠it) (na:a≠e) (nai:a≠it):EnSrc P w K e it (fun i h=>kE' true h it a i) (fun i H=>∃xs x,SqT K H a xs/\xs[i]?=some x) (fun i H x=>∀xs,SqT K H a xs->xs[i]?=some x) (fun i H=>∃xs,SqT K H a xs/\xs.length=i) where
 ne:=ne
 obj:=fun i h st=>by
  obtain⟨o,q,d⟩:=st.obj
  exact⟨o,q,fun v z=>by rw[d]at z;cases z⟩
 keep:=fun i h h' st k=>st.at k
 item:=by
  intro X hP hw hK hc i pins s σ H I _ _ _ _ st hg
  obtain⟨xs,x,hxs,hx⟩:=hg
  subst hP hw hK
  obtain⟨its,rv,p,hz⟩:=I.tuple hxs
  have hl:=rv.length
  obtain⟨u,hu,ru⟩:=rv.get hx
  refine⟨_,_,_,_,gQ' (show X.A.in1.handled=none from I.ok.hd hc) it a nai its.toArray,?_,?_,⟨st,p⟩,fun j h q=>q.1,fun u' hu'=>⟨x,?_,fun ys hys=>by rw[I.tuple_inj hys hxs];exact hx⟩⟩
  .simp only[ax,aO,or_false,not_or]
   exact⟨ne,Ne.symm na⟩
  .have:=(aL.mp hx).1
   simp;omega
  .have e2:its[i]?=some u':=by simpa using hu'
   rw[hu]at e2
   cases e2
   exact ru
 done:=by
  intro X hP hw hK hc i pins s σ H I _ _ _ st hg
  obtain⟨xs,hxs,hx⟩:=hg
  subst hP hw hK
  obtain⟨its,rv,p,hz⟩:=I.tuple hxs
  have hl:=rv.length
  have e:i=its.toArray.size:=by simp;omega
  subst e
  exact⟨_,_,_,gQ' (show X.A.in1.handled=none from I.ok.hd hc) it a nai its.toArray,st,p⟩
section
variable {X:Cx}
def qo' (K:W.Frag) (tl:TE):TI:=fun σ H R=>bP' tl gE' σ H fun vs H1=>∃x,vs=[x]/\
 ((∃a,x=.ref a/\(∃xs,SqL K H1 a xs)/\R (Ite K a) H1)\/(∃z,x=.str z/\R (sO' z) H1)\/∃a,x=.ref a/\(∃xs,SqT K H1 a xs)/\R (wX' K a) H1)
theorem fx':bootBuiltins "enumerate"=some (.type "enumerate"):=by decide +kernel
theorem qp' {a:Expr} {tl:TE} {p pos:Pos} {elts:List Expr} {kt:Nat} {pt:Pos} (hg:Gl X "enumerate") (hm:X.mg "enumerate"=none) (ha:PA X [a] (bP' tl gE')) (hs:starEach [a] X.env=[(false,eval a X.env)]):
  PI X (.Tuple elts kt pt) (.Call (.Name "enumerate" p) [a] [] pos) (qo' X.K tl):=by
 intro pins s σ H R I h
 have h':bP' tl gE' σ H (fun vs H1=>∃x,vs=[x]/\((∃a,x=.ref a/\(∃xs,SqL X.K H1 a xs)/\R (Ite X.K a) H1)\/(∃z,x=.str z/\R (sO' z) H1)\/∃a,x=.ref a/\(∃xs,SqT X.K H1 a xs)/\R (wX' X.K a) H1)):=h
 refine Call_ (ei' I hg hm fx' (PyProof.Rows.callWith_type1 (thn (ha pos pins s σ H _ I h') fun us s1 ⟨vs,H1,I1,r1,q1⟩=>?_) (by rw[hs];rfl) (by rfl)))
 obtain⟨x,e,q1⟩:=q1
 subst e
 cases r1 with
 |cons r rr=>
  cases rr
  rcases q1 with⟨a,rfl,⟨xs,hxs⟩,q⟩|⟨z,rfl,q⟩|⟨a,rfl,⟨xs,hxs⟩,q⟩
  .cases r
   obtain⟨its,rv,pl,hz⟩:=I1.list hxs
   refine call_enumerate_list pl.isList fun h' he hit hsz hk=>wpAny_pyIter_enum he ?_
   have la:a<s1.heap.objs.size:=by
    obtain⟨o,q,_⟩:=pl.isList
    exact av q
   refine⟨s1.heap.objs.size+1,[s1.heap.objs.size+1,s1.heap.objs.size],_,_,H1,rfl,I1.kept (t':=s1.toks) hk,eX' (qn' (Nat.succ_ne_self _) (aK (cf la)) (aK la)),⟨⟨_,he⟩,hit⟩,fun c hc=>?_,q⟩
   have hle:s1.heap.objs.size<=c:=by
    simp only[ax,aO,or_false]at hc
    rcases hc with rfl|rfl<;>omega
   exact I1.fpOk hle (I1.hok.fresh hle)
  .obtain⟨t,rfl⟩:=r
   refine call_enumerate_str fun h' he hit hsz hk=>wpAny_pyIter_enum he ?_
   have hty:strIterType z="str_ascii_iterator"\/strIterType z="str_iterator":=by
    unfold strIterType
    split
    .exact .inl rfl
    .exact .inr rfl
   refine⟨s1.heap.objs.size+1,[s1.heap.objs.size+1,s1.heap.objs.size],_,_,H1,rfl,I1.kept (t':=s1.toks) hk,eX' (tC' hty (Nat.succ_ne_self _)),⟨⟨_,he⟩,hit⟩,fun c hc=>?_,q⟩
   have hle:s1.heap.objs.size<=c:=by
    simp only[ax,aO,or_false]at hc
    rcases hc with rfl|rfl<;>omega
   exact I1.fpOk hle (I1.hok.fresh hle)
  .cases r
   obtain⟨its,rv,pl,hz⟩:=I1.tuple hxs
   refine dj' (show s1.heap.IsTuple a its.toArray from pl) fun h' he hit hsz hk=>wpAny_pyIter_enum he ?_
   have la:a<s1.heap.objs.size:=by
    obtain⟨o,q,_⟩:=pl
    exact av q
   refine⟨s1.heap.objs.size+1,[s1.heap.objs.size+1,s1.heap.objs.size],_,_,H1,rfl,I1.kept (t':=s1.toks) hk,eX' (tD' (Nat.succ_ne_self _) (aK (cf la)) (aK la)),⟨⟨_,he⟩,hit⟩,fun c hc=>?_,q⟩
   have hle:s1.heap.objs.size<=c:=by
    simp only[ax,aO,or_false]at hc
    rcases hc with rfl|rfl<;>omega
   exact I1.fpOk hle (I1.hok.fresh hle)
end
section
variable {X:Cx}
theorem f6':bl' X (.type "int") (fun xs H Q=>∃x n,xs=[.str x]/\PySem.intText? x=some n/\x.length<=640/\Q (.int n) H):=by
 intro pins s σ H xs us Q I r h
 obtain⟨x,n,rfl,hn,hl,q⟩:=h
 obtain⟨u,rfl,t,rfl⟩:=fu' r
 exact W.KIN.call_text hn hl ⟨.int n,H,I.tok _,⟨_,rfl⟩,q⟩
def zS':List V->Hp->VK->Prop:=fun xs H Q=>((∃i,xs=[.int i]/\Q (.int i) H)\/∃k,xs=[.bl k]/\Q (.int (if k then 1 else 0)) H)\/∃x n,xs=[.str x]/\PySem.intText? x=some n/\x.length<=640/\Q (.int n) H
theorem kF':bl' X (.type "int") zS':=kp'.or f6'
def xL':R2:=fun x y H Q=>∃a n,x=.str a/\y=.int n/\-1000000<=n/\n<=1000000/\a.length*n.toNat<=1000000/\Q (.str (Txt.mul a n)) H
theorem jI':OpR X (binaryOp .Mult) xL':=by
 intro pins s σ H x y v u Q I rx ry h
 obtain⟨a,n,rfl,rfl,h1,h2,h3,q⟩:=h
 obtain⟨t,rfl⟩:=rx
 obtain⟨t',rfl⟩:=ry
 refine SB.mul ⟨?_,fun hn hc=>?_,fun hn hc=>?_⟩ fun t' k=>⟨.str (Txt.mul a n),H,I.tok _,⟨_,rfl⟩,q⟩
 .have e1:¬n < -(2 ^ 63:Int):=by omega
  have e2:¬n ≥ 2 ^ 63:=by omega
  simp[e1,e2]
  omega
 .have hn0:0<n:=by omega
  intro hgt
  have h4:(a.length:Int)*n<=1000000:=by
   have:((a.length*n.toNat:Nat):Int)<=1000000:=by omega
   rw[cO,Int.toNat_of_nonneg (by omega)]at this
   exact this
  have h5:=(Int.ediv_lt_iff_lt_mul hn0).mp hgt
  omega
 .have e:Builtin.Str.tooLong (a.length*n.toNat)=false:=by
   unfold Builtin.Str.tooLong
   have:sizeLine=16777216:=sizeLine_eq
   simp
   omega
  exact e
def tE' (K:W.Frag):V->List V->Hp->VK->Prop:=fun x xs H Q=>∃(sep:Str) (p:Addr) (ys:List Str),x=.str sep/\xs=[.ref p]/\(SqL K H p (ys.map V.str)\/SqT K H p (ys.map V.str))/\(ys.map (·.length)).sum+ys.length*sep.length<=16777216/\Q (.str (Txt.join sep ys)) H
theorem d4':∀{ys:List Str} {us:List Value},aE' (ys.map V.str) us->StrsAre us ys
 | [],us,h=>by
  have e:=h.zero
  subst e
  exact .nil
 |y :: ys,_,.cons r t=>by
  obtain⟨k,rfl⟩:=r
  exact .cons y k (d4' t)
theorem qq':MtR X "str.join" (tE' X.K):=by
 intro pins s σ H x xs v us Q I rx rv h
 obtain⟨sep,p,ys,rfl,rfl,hs,hz,q⟩:=h
 obtain⟨t,rfl⟩:=rx
 obtain⟨u,rfl,ru⟩:=rv.one
 cases ru
 rcases hs with hs|hs
 .obtain⟨its,r,pl,_⟩:=I.list hs
  exact join_list pl.isList (d4' r) hz fun t' k=>⟨.str _,H,I.tok _,⟨_,rfl⟩,q⟩
 .obtain⟨its,r,pl,_⟩:=I.tuple hs
  exact join_tuple pl (d4' r) hz fun t' k=>⟨.str _,H,I.tok _,⟨_,rfl⟩,q⟩
def pc':V->List V->Hp->VK->Prop:=fun x xs H Q=>∃a b,x=.str a/\xs=[.str b]/\Q (.int (Builtin.Str.occurrences a b 0 a.length (a.length+1)).length) H
theorem nn':MtR X "str.count" pc':=by
 intro pins s σ H x xs v us Q I rx rv h
 obtain⟨a,b,rfl,rfl,q⟩:=h
 obtain⟨t,rfl⟩:=rx
 obtain⟨u,rfl,ru⟩:=rv.one
 obtain⟨t',rfl⟩:=ru
 exact call_gives F.slot_str_count (typeIs_str _ _ _) F.entry_str_count (F.args_str_count_2 _ _) (gives_str_count a b t t') ⟨.int _,H,I.tok _,⟨_,rfl⟩,q⟩
def At':V->Option Int->Option Int->Hp->VK->Prop:=fun x lo hi H Q=>∃a,x=.str a/\a.length<=sizeLine/\Q (.str (Txt.slice a lo hi)) H
theorem tF':SlR X At':=by
 intro pins s σ H x v vl vu lo hi sl Q I rx hs pl pu h
 obtain⟨a,rfl,hz,q⟩:=h
 obtain⟨t,rfl⟩:=rx
 have fin:∀(l u:Option (Int×Tok)),l.map (·.1)=lo->u.map (·.1)=hi->s.heap.IsSlice sl l u none->wpAny (model X.prog X.w) X.A (getItem (.str a t) (.ref sl)) (EP X pins σ Q) X.xe s:=by
  intro l u e1 e2 hsl
  refine wpAny_getItem_str_slice (l:=l) (u:=u) (st:=none) hsl rfl ?_
  refine post_val_or_str ?_
  subst e1 e2
  exact⟨ay (Txt.slice_le a _ _) hz,fun t' k=>⟨.str _,H,I.tok _,⟨_,rfl⟩,q⟩⟩
 refine⟨"str",_,F.slot_str_getitem.lookup,typeIs_str _ _ _,?_⟩
 cases pl with
 |none=>
  cases pu with
  |none=>exact fin none none rfl rfl hs
  |int j u=>exact fin none (some (j,u)) rfl rfl hs
 |int i t1=>
  cases pu with
  |none=>exact fin (some (i,t1)) none rfl rfl hs
  |int j u=>exact fin (some (i,t1)) (some (j,u)) rfl rfl hs
def zT' (K:W.Frag) (any:Bool):List V->Hp->VK->Prop:=fun xs H Q=>∃(p:Addr) (bs:List Bool),xs=[.ref p]/\SqL K H p (bs.map V.bl)/\Q (.bl (if any then bs.any id else bs.all id)) H
theorem gR':∀{bs:List Bool} {us:List Value} {i:Nat} {v:Value},aE' (bs.map V.bl) us->us[i]?=some v->∃b,bs[i]?=some b/\v=.bool b
 | [],us,i,v,h,e=>by rw[h.zero]at e;simp at e
 |b :: bs,_,0,v,.cons r t,e=>by
  have r:_=Value.bool b:=r
  simp at e
  exact⟨b,rfl,by rw[<- e];exact r⟩
 |b :: bs,_,i+1,v,.cons r t,e=>by
  obtain⟨b',h1,h2⟩:=gR' (i:=i) t (by simpa using e)
  exact⟨b',by simpa using h1,h2⟩
theorem kG' (bs:List Bool):(au bs.length).any (fun i=>bs.getD i false)=bs.any id:=by
 rw[Bool.eq_iff_iff,ci,ci]
 constructor
 .rintro⟨i,hi,h⟩
  have hi:=aw.mp hi
  exact⟨bs[i],List.getElem_mem hi,by simpa[List.getD_eq_getElem?_getD,hi]using h⟩
 .rintro⟨b,hb,h⟩
  obtain⟨i,hi,rfl⟩:=cu.mp hb
  exact⟨i,aw.mpr hi,by simpa[List.getD_eq_getElem?_getD,hi]using h⟩
theorem kH' (hc:X.calm=true):bl' X (.builtin "any") (zT' X.K true):=by
 intro pins s σ H xs us Q I r h
 obtain⟨p,bs,rfl,hs,q⟩:=h
 obtain⟨u,rfl,ru⟩:=fu' r
 cases ru
 obtain⟨its,rv,pl,hz⟩:=I.list hs
 have hlen:its.toArray.size=bs.length:=by
  have:=rv.length
  rw[ac]at this
  rw[al,this]
 refine call_any_walk (wpAny_pyIter_list pl.isList ?_)
 have hlt:p<s.heap.objs.size:=by obtain⟨o,n,e,_⟩:=pl;exact av e
 refine⟨s.heap.objs.size,_,_,_,_,_,fun i=>bs.getD i false,rfl,Walks.list (A:=X.A.in1) (I.ok.hd hc) _ p (aK hlt) its.toArray,⟨⟨_,ao _ rfl,rfl,rfl⟩,Heap.IsList.push pl.isList _⟩,?_,fun h' tk hk=>?_⟩
 .intro i v s' Q' E' hv hq
  obtain⟨b,hb,rfl⟩:=gR' rv (i:=i) (by simpa using hv)
  refine bv ?_
  have e:bs.getD i false=b:=by rw[List.getD_eq_getElem?_getD,hb];rfl
  have hq':Q' (bs.getD i false) s':=hq
  rw[e]at hq'
  exact hq'
 .rw[hlen,kG']
  exact⟨.bl _,H,I.kept fun b o e=>hk b o (by simp;exact aK (av e)) (ah _ e),rfl,q⟩
def no' (K:W.Frag) (mx:Bool):List V->Hp->VK->Prop:=fun xs H Q=>∃(p:Addr) (ns:List Int),xs=[.ref p]/\SqL K H p (ns.map V.int)/\ns≠[]/\∀M,M∈ns->(∀a∈ns,if mx then a<=M else M<=a)->Q (.int M) H
theorem kI' (hc:X.calm=true):bl' X (.builtin "max") (no' X.K true):=by
 intro pins s σ H xs us Q I r h
 obtain⟨p,ns,rfl,hs,hne,q⟩:=h
 obtain⟨u,rfl,ru⟩:=fu' r
 cases ru
 obtain⟨its,rv,pl,hz⟩:=I.list hs
 have hi:=d2' rv
 obtain⟨xs,e⟩:=hi.allInts.items
 have hns:ns=xs.toList.map (·.1):=by
  rw[<- hi.numsOf,<- nums_intItems,<- e]
 have hsz:0<xs.size:=by
  have h3:=List.length_pos_iff.mpr hne
  rw[hns,ac,ak]at h3
  exact h3
 have hl:=pl.isList
 rw[e]at hl
 refine max_intList (I.ok.hd hc) hl hsz fun v h' tk hv hk=>?_
 obtain⟨t,rfl⟩:=intItems_at hv
 obtain⟨h1,h2⟩:=argBest_gt (numAt xs) (xs.size-1)
 refine⟨.int _,H,I.kept hk,⟨t,rfl⟩,q _ ?_ fun a ha=>?_⟩
 .rw[hns,numAt_eq];exact getD_mem (by rw[ac,ak];omega)
 .rw[hns]at ha
  obtain⟨j,hj,rfl⟩:=mem_getD ha
  rw[ac,ak]at hj
  rw[if_pos rfl,<- numAt_eq];exact h2 j (by omega)
theorem kJ' (hc:X.calm=true):bl' X (.builtin "min") (no' X.K false):=by
 intro pins s σ H xs us Q I r h
 obtain⟨p,ns,rfl,hs,hne,q⟩:=h
 obtain⟨u,rfl,ru⟩:=fu' r
 cases ru
 obtain⟨its,rv,pl,hz⟩:=I.list hs
 have hi:=d2' rv
 obtain⟨xs,e⟩:=hi.allInts.items
 have hns:ns=xs.toList.map (·.1):=by
  rw[<- hi.numsOf,<- nums_intItems,<- e]
 have hsz:0<xs.size:=by
  have h3:=List.length_pos_iff.mpr hne
  rw[hns,ac,ak]at h3
  exact h3
 have hl:=pl.isList
 rw[e]at hl
 refine min_intList (I.ok.hd hc) hl hsz fun v h' tk hv hk=>?_
 obtain⟨t,rfl⟩:=intItems_at hv
 obtain⟨h1,h2⟩:=argBest_lt (numAt xs) (xs.size-1)
 refine⟨.int _,H,I.kept hk,⟨t,rfl⟩,q _ ?_ fun a ha=>?_⟩
 .rw[hns,numAt_eq];exact getD_mem (by rw[ac,ak];omega)
 .rw[hns]at ha
  obtain⟨j,hj,rfl⟩:=mem_getD ha
  rw[ac,ak]at hj
  rw[if_neg (by decide),<- numAt_eq];exact h2 j (by omega)
end
section
variable {X:Cx}
open PySem.SeqAt in
theorem ii' {A:Around} {s:Shared} {x y:V} {u v:Value} (rx:aJ' x u) (ry:aJ' y v) (h:th' x y=true/\(∀b,x≠.byt b)\/x=y/\∃a,x=.ref a):EqAt A s u v (decide (x=y)):=by
 rcases h with⟨h,hb⟩|⟨rfl,a,rfl⟩
 .cases x with
  |non=>cases y with
   |non=>cases rx;cases ry;exact EqAt.same _
   |bl b=>cases rx;cases ry;exact EqAt.none_bool _
   |int b=>cases rx;obtain⟨t,rfl⟩:=ry;exact EqAt.none_int _ _
   |str b=>cases rx;obtain⟨t,rfl⟩:=ry;exact EqAt.none_str _ _
   |_=>cases h
  |bl a=>cases y with
   |non=>cases rx;cases ry;exact EqAt.bool_none _
   |bl b=>cases rx;cases ry;have:=EqAt.bool_bool (A:=A) (s:=s) a b;cases a<;>cases b<;>exact this
   |str b=>cases rx;obtain⟨t,rfl⟩:=ry;exact EqAt.bool_str _ _ _
   |_=>cases h
  |int a=>cases y with
   |non=>obtain⟨t,rfl⟩:=rx;cases ry;exact EqAt.int_none _ _
   |int b=>obtain⟨t,rfl⟩:=rx;obtain⟨t',rfl⟩:=ry;rw[h7'];exact EqAt.int_int _ _ _ _
   |str b=>obtain⟨t,rfl⟩:=rx;obtain⟨t',rfl⟩:=ry;exact EqAt.int_str _ _ _ _
   |_=>cases h
  |str a=>cases y with
   |non=>obtain⟨t,rfl⟩:=rx;cases ry;exact EqAt.str_none _ _
   |bl b=>obtain⟨t,rfl⟩:=rx;cases ry;exact EqAt.str_bool _ _ _
   |int b=>obtain⟨t,rfl⟩:=rx;obtain⟨t',rfl⟩:=ry;exact EqAt.str_int _ _ _ _
   |str b=>
    obtain⟨t,rfl⟩:=rx
    obtain⟨t',rfl⟩:=ry
    have e:decide (V.str a=V.str b)=(a == b):=by
     by_cases hab:a=b
     .subst hab;simp
     .rw[decide_eq_false (by intro z;cases z;exact hab rfl)];simp[hab]
    rw[e]
    exact EqAt.str_str _ _ _ _
   |_=>cases h
  |byt b=>exact absurd rfl (hb b)
  |_=>cases y<;>cases h
 .cases rx
  cases ry
  rw[decide_eq_true rfl]
  exact EqAt.same _
def LEq (xs ys:List V):Prop:=∀(i:Nat) x y,xs[i]?=some x->ys[i]?=some y->th' x y=true/\(∀b,x≠.byt b)\/x=y/\∃a,x=.ref a
def wY' (K:W.Frag) (neg:Bool):V->V->Hp->VK->Prop:=fun x y H Q=>∃p q xs ys,x=.ref p/\y=.ref q/\SqL K H p xs/\SqL K H q ys/\(xs.length=ys.length->LEq xs ys)/\Q (.bl (if neg then !decide (xs=ys)else decide (xs=ys))) H
theorem pd' {xs ys:List V} (h:xs.length=ys.length):(au xs.length).all (fun i=>decide (xs[i]?=ys[i]?))=decide (xs=ys):=by
 by_cases e:xs=ys
 .subst e
  simp
 .rw[decide_eq_false e,Bool.eq_false_iff]
  intro q
  rw[cD]at q
  apply e
  apply bG
  intro i
  rcases bA i xs.length with hi|hi
  .exact of_decide_eq_true (q i (aw.mpr hi))
  .rw[aJ.mpr hi,aJ.mpr (by omega)]
open PySem.SeqAt in
theorem tG' (hu:X.A.units<cLine):OpR X (compareOp .Eq) (wY' X.K false):=by
 intro pins s σ H x y v u Q I rx ry h
 obtain⟨p,q,xs,ys,rfl,rfl,hp,hq,he,k⟩:=h
 cases rx
 cases ry
 obtain⟨its,r1,pl1,_⟩:=I.list hp
 obtain⟨its2,r2,pl2,_⟩:=I.list hq
 have l1:=r1.length
 have l2:=r2.length
 by_cases hl:xs.length=ys.length
 .refine eq_listAt (e:=fun i=>decide (xs[i]?=ys[i]?)) pl1.isList pl2.isList (by simp;omega) hu (fun j h1 h2=>?_) ?_
  .have j1:j<xs.length:=by simp at h1;omega
   have j2:j<ys.length:=by omega
   have g1:xs[j]?=some xs[j]:=af j1
   have g2:ys[j]?=some ys[j]:=af j2
   obtain⟨u1,e1,ru1⟩:=r1.get g1
   obtain⟨u2,e2,ru2⟩:=r2.get g2
   have f1:its.toArray[j]=u1:=by simp at h1 ⊢;rw[af h1]at e1;exact Option.some.inj e1
   have f2:its2.toArray[j]=u2:=by simp at h2 ⊢;rw[af h2]at e2;exact Option.some.inj e2
   rw[f1,f2,g1,g2]
   have e3:decide (some xs[j]=some ys[j])=decide (xs[j]=ys[j]):=by simp
   rw[e3]
   exact ii' ru1 ru2 (he hl j _ _ g1 g2)
  .have e4:(au its.toArray.size).all (fun i=>decide (xs[i]?=ys[i]?))=decide (xs=ys):=by
    rw[al,<- l1];exact pd' hl
   rw[e4]
   exact⟨.bl _,H,I,rfl,k⟩
 .refine eq_list_lengthsAt pl1.isList pl2.isList (by simp;omega) hu ?_
  rw[decide_eq_false (fun z=>hl (by rw[z]))]at k
  exact⟨.bl false,H,I,rfl,k⟩
open PySem.SeqAt in
theorem tH' (hu:X.A.units<cLine):OpR X (compareOp .NotEq) (wY' X.K true):=by
 intro pins s σ H x y v u Q I rx ry h
 obtain⟨p,q,xs,ys,rfl,rfl,hp,hq,he,k⟩:=h
 cases rx
 cases ry
 obtain⟨its,r1,pl1,_⟩:=I.list hp
 obtain⟨its2,r2,pl2,_⟩:=I.list hq
 have l1:=r1.length
 have l2:=r2.length
 obtain⟨⟨cls,dd,data,sl⟩,ho,hc,n,hd⟩:=pl1.isList
 obtain⟨⟨cls2,dd2,data2,sl2⟩,ho2,hc2,n2,hd2⟩:=pl2.isList
 simp only at hc hd hc2 hd2
 subst hc hd hc2 hd2
 by_cases hl:xs.length=ys.length
 .refine richCompare_meets_room (op:=.NotEq) ⟨_,ho,rfl⟩ ⟨_,ho2,rfl⟩ F.slot_list_ne F.entry_list_ne (F.args_list_ne_2 _ _) (list_neAt p q its.toArray its2.toArray n n2 dd dd2 sl sl2 (by simp;omega) (fun i=>decide (xs[i]?=ys[i]?))) ⟨ho,ho2,fun j h1 h2=>?_,?_⟩ hu
  .have j1:j<xs.length:=by simp at h1;omega
   have j2:j<ys.length:=by omega
   have g1:xs[j]?=some xs[j]:=af j1
   have g2:ys[j]?=some ys[j]:=af j2
   obtain⟨u1,e1,ru1⟩:=r1.get g1
   obtain⟨u2,e2,ru2⟩:=r2.get g2
   have f1:its.toArray[j]=u1:=by simp at h1 ⊢;rw[af h1]at e1;exact Option.some.inj e1
   have f2:its2.toArray[j]=u2:=by simp at h2 ⊢;rw[af h2]at e2;exact Option.some.inj e2
   rw[f1,f2,g1,g2]
   have e3:decide (some xs[j]=some ys[j])=decide (xs[j]=ys[j]):=by simp
   rw[e3]
   exact ii' ru1 ru2 (he hl j _ _ g1 g2)
  .have e4:(au its.toArray.size).all (fun i=>decide (xs[i]?=ys[i]?))=decide (xs=ys):=by
    rw[al,<- l1];exact pd' hl
   rw[e4]
   exact(show Value.bool (!decide (xs=ys))≠Value.notImplemented/\EP X pins σ Q (Value.bool (!decide (xs=ys))) s from⟨(fun x=>nomatch x),⟨.bl _,H,I,rfl,k⟩⟩)
 .refine richCompare_meets_room (op:=.NotEq) ⟨_,ho,rfl⟩ ⟨_,ho2,rfl⟩ F.slot_list_ne F.entry_list_ne (F.args_list_ne_2 _ _) (list_ne_lengthsAt p q its.toArray its2.toArray n n2 dd dd2 sl sl2 (by simp;omega)) ⟨ho,ho2,?_⟩ hu
  rw[decide_eq_false (fun z=>hl (by rw[z]))]at k
  exact(show Value.bool true≠Value.notImplemented/\EP X pins σ Q (Value.bool true) s from⟨(fun x=>nomatch x),⟨.bl true,H,I,rfl,k⟩⟩)
def rgs (i:Int) (n:Nat):List V:=(au n).map fun(k:Nat)=>V.int (i+(k:Int))
def zU':List V->Hp->VK->Prop:=fun xs H Q=>∃i j:Int,(xs=[.int i,.int j]\/(i=0/\xs=[.int j]))/\∀p,H p=none->Q (.ref p) (upd H p (.rng i j))
theorem np':bl' X (.type "range") zU':=by
 intro pins s σ H xs us Q I rv h
 obtain⟨i,j,hx,q⟩:=h
 have hn:H s.heap.objs.size=none:=I.hok.fresh (ae _)
 rcases hx with rfl|⟨rfl,rfl⟩
 .cases rv with
  |cons r1 rv=>
   cases rv with
   |cons r2 rv=>
    cases rv
    obtain⟨t,rfl⟩:=r1
    obtain⟨u,rfl⟩:=r2
    exact call_range_2 ⟨.ref s.heap.objs.size,_,I.laid (t':=s.toks+1) (fun _ _ e=>ah _ e) (ae _) (o:=.rng i j) ⟨t,u,s.toks,ao _ rfl⟩,rfl,q _ hn⟩
 .cases rv with
  |cons r1 rv=>
   cases rv
   obtain⟨t,rfl⟩:=r1
   exact call_range_1 ⟨.ref s.heap.objs.size,_,I.laid (t':=s.toks+1+1) (fun _ _ e=>ah _ e) (ae _) (o:=.rng 0 j) ⟨s.toks,t,s.toks+1,ao _ rfl⟩,rfl,q _ hn⟩
def zV':List V->Hp->VK->Prop:=fun xs H Q=>∃r i j,xs=[.ref r]/\H r=some (.rng i j)/\(-(2 ^ 62)<=i/\i<2 ^ 62/\-(2 ^ 62)<=j/\j<2 ^ 62)/\(j-i).toNat<=sizeLine/\∀p,H p=none->Q (.ref p) (upd H p (.lst (rgs i (j-i).toNat)))
theorem nq' (hc:X.calm=true):bl' X (.type "list") zV':=by
 intro pins s σ H xs us Q I rv h
 obtain⟨r,i,j,rfl,hr,⟨h1,h2,h3,h4⟩,hz,q⟩:=h
 cases rv with
 |cons r1 rv=>
  cases rv
  cases r1
  obtain⟨t,u,v,e⟩:=(show a5' X.prog X.w H s.heap r (.rng i j) from I.hok r _ hr)
  refine call_list_range (n:=(j-i).toNat) (I.ok.hd hc) e (small_one h1 h2 h3 h4) (by rw[rangeSize_one];split<;>omega) hz fun h' tk' acc' c' hk hS hit=>?_
  obtain⟨hsz,hv⟩:=hit
  have hn:H s.heap.objs.size=none:=I.hok.fresh (ae _)
  have key:∀(n:Nat) (l:List Value) (f:Nat->Int),l.length=n->(∀k v,l[k]?=some v->∃t,v=Value.int (f k) t)->aE' ((au n).map fun k=>V.int (f k)) l:=by
   intro n
   induction n with
   |zero=>intro l f hl hv;have:l=[]:=bx.mp hl;subst this;exact .nil
   |succ n ih=>
    intro l f hl hv
    cases l with
    |nil=>cases hl
    |cons x r=>
     rw[List.range_succ_eq_map,aH,ck]
     refine .cons (hv 0 x rfl) ?_
     exact ih r (fun k=>f (k+1)) (by simpa using hl) fun k v hk=>hv (k+1) v (by simpa using hk)
  refine⟨.ref s.heap.objs.size,_,I.laid (t':=tk') hk (ae _) (o:=.lst (rgs i (j-i).toNat)) ⟨by unfold rgs;rw[ac,aQ];exact hz,acc'.toList,c',?_,hS⟩,rfl,q _ hn⟩
  refine key _ _ (fun k=>i+(k:Int)) (by rw[ak];exact hsz) fun k v hk=>?_
  obtain⟨t,e⟩:=hv k v (by simpa using hk)
  exact⟨t,by rw[e];simp⟩
end
section
variable {X:Cx}
theorem qr':OpR X (binaryOp .Mult) (rI IntMulOk fun i j=>.int (i*j)):=opI fun _ _ _ _ _ _ _ hc q=>mul_int q hc
def zW':V->Bool
 | .ty _=>false
 | .byt _=>false
 | .flt _=>false
 |_=>true
def wZ' (neg:Bool):R2:=fun x y H Q=>∃b,y=.bl b/\zW' x=true/\Q (.bl (if neg then !decide (x=.bl b)else decide (x=.bl b))) H
theorem tI' {x:V} {v:Value} {b:Bool} (r:aJ' x v) (h:zW' x=true):plainIs v (.bool b)=true/\(v == Value.bool b)=decide (x=.bl b):=by
 cases x with
 |non=>cases r;exact⟨rfl,rfl⟩
 |bl a=>cases r;refine⟨rfl,?_⟩;cases a<;>cases b<;>rfl
 |int i=>obtain⟨t,rfl⟩:=r;exact⟨rfl,rfl⟩
 |str i=>obtain⟨t,rfl⟩:=r;exact⟨rfl,rfl⟩
 |ref a=>cases r;exact⟨rfl,rfl⟩
 |_=>cases h
theorem tJ':OpR X (compareOp .Is) (wZ' false):=by
 intro pins s σ H x y v u Q I rx ry h
 obtain⟨b,rfl,hp,q⟩:=h
 cases ry
 obtain⟨h1,h2⟩:=tI' (b:=b) rx hp
 exact wpAny_is_plain h1 ⟨.bl _,H,I,by rw[h2];rfl,q⟩
theorem kK':OpR X (compareOp .IsNot) (wZ' true):=by
 intro pins s σ H x y v u Q I rx ry h
 obtain⟨b,rfl,hp,q⟩:=h
 cases ry
 obtain⟨h1,h2⟩:=tI' (b:=b) rx hp
 exact wpAny_isNot_plain h1 ⟨.bl _,H,I,by rw[h2];rfl,q⟩
theorem nr':OpR X (binaryOp .FloorDiv) (rI (fun _ j=>0<j/\j.natAbs.log2<9000) fun i j=>.int (i / j)):=opI fun i j _ _ _ _ _ hc q=>by
 refine floordiv_int (by omega) ?_ (.inl (PyProof.noPylong_of_log2 hc.2))
 rw[Int.fdiv_eq_ediv_of_nonneg i (by omega)]
 exact q
end
section
variable {κ:Type} [DecidableEq κ]
def gC' (kvs:List (κ×V)) (k:κ):Option V:=(kvs.find? fun kv=>decide (kv.1=k)).map (·.2)
def iW' (kvs:List (κ×V)) (k:κ) (v:V):List (κ×V):=
 if(kvs.any fun kv=>decide (kv.1=k))=true then kvs.map (fun kv=>if kv.1=k then(kv.1,v)else kv)else kvs++[(k,v)]
theorem eB' {p:κ×V} {r:List (κ×V)} {k:κ} (e:p.1=k):gC' (p :: r) k=some p.2:=by simp[gC',cP,e]
theorem eC' {p:κ×V} {r:List (κ×V)} {k:κ} (e:¬p.1=k):gC' (p :: r) k=gC' r k:=by simp[gC',cP,e]
theorem f7' (k:κ):∀kvs:List (κ×V),(kvs.any fun kv=>decide (kv.1=k))=(gC' kvs k).isSome
 | []=>rfl
 |p :: r=>by
  rw[cS]
  by_cases e:p.1=k
  .simp only[eB' e,decide_eq_true e,Bool.true_or,Option.isSome_some]
  .rw[eC' e,decide_eq_false e,Bool.false_or];exact f7' k r
theorem ij' (kvs:List (κ×V)) (k:κ) (v:V):(iW' kvs k v).length<=kvs.length+1:=by
 unfold iW'
 split
 .rw[ac];omega
 .rw[ap,aE,bN];omega
theorem ns' {kvs:List (κ×V)} {k:κ} (v:V) (h:gC' kvs k=none):iW' kvs k v=kvs++[(k,v)]:=by
 unfold iW'
 rw[f7',h]
 exact if_neg (by decide)
theorem oZ'.isSome_eq {o:Option V} {u:Option Value} (r:oZ' o u):o.isSome=u.isSome:=by
 cases o with
 |none=>cases u with
  |none=>rfl
  |some _=>exact(show False from r).elim
 |some _=>cases u with
  |none=>exact(show False from r).elim
  |some _=>rfl
theorem oZ'.getD {o:Option V} {u:Option Value} {d:V} {d':Value} (r:oZ' o u) (rd:aJ' d d'):aJ' (o.getD d) (u.getD d'):=by
 cases o with
 |none=>cases u with
  |none=>exact rd
  |some _=>exact(show False from r).elim
 |some _=>cases u with
  |none=>exact(show False from r).elim
  |some _=>exact r
theorem KV.val {kvs:List (κ×V)} {vs:List (κ×Value)} (r:KV kvs vs) (k:κ):oZ' (gC' kvs k) (valueAt vs k):=by
 unfold KV at r
 induction r with
 |nil=>exact True.intro
 | @cons p q ps qs h t ih=>
  obtain⟨h1,h2⟩:=h
  by_cases e:p.1=k
  .have e':q.1=k:=h1.symm.trans e
   have b:valueAt (q :: qs) k=some q.2:=by simp[valueAt,cP,e']
   rw[eB' e,b];exact h2
  .have e':¬q.1=k:=fun z=>e (h1.trans z)
   have b:valueAt (q :: qs) k=valueAt qs k:=by simp[valueAt,cP,e']
   rw[eC' e,b];exact ih
theorem KV.any {kvs:List (κ×V)} {vs:List (κ×Value)} (r:KV kvs vs) (k:κ):(kvs.any fun kv=>decide (kv.1=k))=vs.any fun kv=>decide (kv.1=k):=by
 unfold KV at r
 induction r with
 |nil=>rfl
 |cons h t ih=>rw[cS,cS,ih,h.1]
theorem KV.repl {kvs:List (κ×V)} {vs:List (κ×Value)} (r:KV kvs vs) (k:κ) {y:V} {u:Value} (ry:aJ' y u):
  KV (kvs.map fun kv=>if kv.1=k then(kv.1,y)else kv) (vs.map fun kv=>if kv.1=k then(kv.1,u)else kv):=by
 unfold KV at r ⊢
 induction r with
 |nil=>exact .nil
 | @cons p q ps qs h t ih=>
  rw[aH,aH]
  refine .cons ?_ ih
  obtain⟨h1,h2⟩:=h
  by_cases e:p.1=k
  .rw[if_pos e,if_pos (h1.symm.trans e)];exact⟨h1,ry⟩
  .rw[if_neg e,if_neg (fun z=>e (h1.trans z))];exact⟨h1,h2⟩
theorem KV.put {kvs:List (κ×V)} {vs:List (κ×Value)} (r:KV kvs vs) (k:κ) {y:V} {u:Value} (ry:aJ' y u):KV (iW' kvs k y) (stored vs k u):=by
 unfold iW' stored
 rw[r.any k]
 by_cases e:(vs.any fun kv=>decide (kv.1=k))=true
 .rw[if_pos e,if_pos e];exact r.repl k ry
 .rw[if_neg e,if_neg e];exact Paired.snoc r ⟨rfl,ry⟩
theorem KV.keys {kvs:List (κ×V)} {vs:List (κ×Value)} (r:KV kvs vs):kvs.map (·.1)=vs.map (·.1):=by
 unfold KV at r
 induction r with
 |nil=>rfl
 |cons h t ih=>rw[aH,aH,ih,h.1]
theorem KV.length {kvs:List (κ×V)} {vs:List (κ×Value)} (r:KV kvs vs):kvs.length=vs.length:=Paired.length r
end
theorem kL' {P:Program} {w:World} {k:Key} {u:Value} (r:aJ' (kV k) u):(au' P w).is k u=true:=by
 cases k with
 |inl i=>obtain⟨t,e⟩:=(show ∃t,u=Value.int i t from r);subst e;exact h5' P w i t
 |inr x=>obtain⟨t,e⟩:=(show ∃t,u=Value.str x t from r);subst e;exact h6' P w x t
 |non=>obtain rfl:u=Value.none:=r;rfl
theorem gS' {P:Program} {w:World}:∀{ks:List Key} {us:List Value},aE' (ks.map kV) us->ItemsAre (au' P w) ks us
 | [],_,r=>by rw[cM]at r;cases r;exact .nil
 |k :: ks,_,r=>by
  rw[aH]at r
  cases r with
  |cons h t=>exact .cons (kL' h) (gS' t)
abbrev KT (H:Hp):List (List Key×V)->List (List Key×Addr×Value)->Prop:=Paired fun p q=>p.1=q.1/\H q.2.1=some (.tup (p.1.map kV))/\aJ' p.2 q.2.2
theorem KT.val {H:Hp} {kvs:List (List Key×V)} {xs:List (List Key×Addr×Value)} (r:KT H kvs xs) (k:List Key):oZ' (gC' kvs k) ((atKey xs k).map (·.2)):=by
 induction r with
 |nil=>exact True.intro
 | @cons p q ps qs h t ih=>
  obtain⟨h1,_,h2⟩:=h
  by_cases e:p.1=k
  .have e':q.1=k:=h1.symm.trans e
   have b:atKey (q :: qs) k=some q.2:=by simp[atKey,cP,e']
   rw[eB' e,b];exact h2
  .have e':¬q.1=k:=fun z=>e (h1.trans z)
   have b:atKey (q :: qs) k=atKey qs k:=by simp[atKey,cP,e']
   rw[eC' e,b];exact ih
theorem KT.repl {H:Hp} {kvs:List (List Key×V)} {xs:List (List Key×Addr×Value)} (r:KT H kvs xs) (k:List Key) {y:V} {u:Value} (ry:aJ' y u):
  KT H (kvs.map fun kv=>if kv.1=k then(kv.1,y)else kv) (xs.map (putAt k u)):=by
 induction r with
 |nil=>exact .nil
 | @cons p q ps qs h t ih=>
  rw[aH,aH]
  refine .cons ?_ ih
  obtain⟨h1,h2,h3⟩:=h
  unfold putAt
  by_cases e:p.1=k
  .rw[if_pos e,if_pos (h1.symm.trans e)];exact⟨h1,h2,ry⟩
  .rw[if_neg e,if_neg (fun z=>e (h1.trans z))];exact⟨h1,h2,h3⟩
theorem KT.put {H:Hp} {kvs:List (List Key×V)} {xs:List (List Key×Addr×Value)} (r:KT H kvs xs) (k:List Key) {b:Addr} {y:V} {u:Value} (hb:H b=some (.tup (k.map kV))) (ry:aJ' y u):
  KT H (iW' kvs k y) (storedH xs k b u):=by
 have e:(kvs.any fun kv=>decide (kv.1=k))=(atKey xs k).isSome:=by
  rw[f7',(r.val k).isSome_eq,Option.isSome_map]
 unfold iW' storedH
 rw[e]
 by_cases q:(atKey xs k).isSome=true
 .rw[if_pos q,if_pos q];exact r.repl k ry
 .rw[if_neg q,if_neg q];exact Paired.snoc r ⟨rfl,hb,ry⟩
theorem KT.keeps {H H':Hp} {kvs:List (List Key×V)} {xs:List (List Key×Addr×Value)} (r:KT H kvs xs) (ht:∀b ys,H b=some (.tup ys)->H' b=some (.tup ys)):KT H' kvs xs:=
 Paired.mapP r fun _ _ z=>⟨z.1,ht _ _ z.2.1,z.2.2⟩
section
variable {P:Program} {w:World} {H:Hp} {h:Heap} {a:Addr}
theorem tK' {u:HO} (ok:HOk P w H h) (e:Rd H a u):a5' P w H h a u:=e.ok ok
theorem kM' {kvs:List (Key×V)} (ok:HOk P w H h) (e:Rd H a (.dK kvs)):kvs.length<=sizeLine/\(a == sysModules)=false/\∃vs,KV kvs vs/\h.DictOf (au' P w) a vs:=
 show a5' P w H h a (.dK kvs) from tK' ok e
theorem xM' {kvs:List (Key×V)} (ok:HOk P w H h) (e:H a=some (.dK kvs)):kvs.length<=sizeLine/\(a == sysModules)=false/\∃vs,KV kvs vs/\h.DictOf (au' P w) a vs:=kM' ok (.inl e)
theorem fJ' {ks:List Key} (ok:HOk P w H h) (e:H a=some (.tup (ks.map kV))):(tupleKind (au' P w)).is h ks a:=by
 obtain⟨_,its,r,o,h1,h2,⟨n,h3⟩,_⟩:=(show a5' P w H h a (.tup (ks.map kV)) from ok a _ e)
 exact⟨o,its.toArray,n,h1,h2,h3,by simpa using gS' r⟩
theorem kN' {kvs:List (List Key×V)} (ok:HOk P w H h) (e:Rd H a (.dT kvs)):kvs.length<=sizeLine/\(a == sysModules)=false/\
  ∃xs,KT H kvs xs/\h.DictOfH (tupleKind (au' P w)) a xs:=by
 obtain⟨z,y,xs,r,o,es,ep,h1,h2,h3,h4,h5⟩:=(show a5' P w H h a (.dT kvs) from tK' ok e)
 refine⟨z,y,xs,r,o,es,ep,h1,h2,h3,h4,fun x hx=>?_,h5⟩
 have all:∀{l:List (List Key×V)} {m:List (List Key×Addr×Value)},KT H l m->∀x∈m,(tupleKind (au' P w)).is h x.1 x.2.1:=by
  intro l m q
  induction q with
  |nil=>intro x hx;exact nomatch hx
  | @cons p q ps qs hq t ih=>
   intro x hx
   rcases ax.mp hx with e|hx
   .subst e
    exact fJ' ok (by rw[<- hq.1];exact hq.2.1)
   .exact ih x hx
 exact all r x hx
theorem xN' {kvs:List (List Key×V)} (ok:HOk P w H h) (e:H a=some (.dT kvs)):kvs.length<=sizeLine/\(a == sysModules)=false/\
  ∃xs,KT H kvs xs/\h.DictOfH (tupleKind (au' P w)) a xs:=kN' ok (.inl e)
end
def h4' (H:Hp) (a:Addr) (y:V) (r:Option V):Prop:=
 (∃kvs k,Rd H a (.dK kvs)/\y=kV k/\r=gC' kvs k)\/∃kvs k b,Rd H a (.dT kvs)/\y=.ref b/\H b=some (.tup (k.map kV))/\r=gC' kvs k
def Au' (H:Hp) (a:Addr) (y v:V) (H':Hp):Prop:=
 (∃kvs k,H a=some (.dK kvs)/\y=kV k/\kvs.length<sizeLine/\H'=upd H a (.dK (iW' kvs k v)))\/
 ∃kvs k b,H a=some (.dT kvs)/\y=.ref b/\H b=some (.tup (k.map kV))/\kvs.length<sizeLine/\H'=upd H a (.dT (iW' kvs k v))
theorem h4'.k {H:Hp} {a:Addr} {kvs:List (Key×V)} {k:Key} (e:H a=some (.dK kvs)):h4' H a (kV k) (gC' kvs k):=.inl ⟨kvs,k,.inl e,rfl,rfl⟩
theorem h4'.t {H:Hp} {a b:Addr} {kvs:List (List Key×V)} {k:List Key} (e:H a=some (.dT kvs)) (eb:H b=some (.tup (k.map kV))):h4' H a (.ref b) (gC' kvs k):=.inr ⟨kvs,k,b,.inl e,rfl,eb,rfl⟩
section
variable {X:Cx} {pins:List (Addr×Obj)} {σ:St} {H:Hp} {s:Shared} {a:Addr} {y v:V} {u r:Value} {o:Option V} {A:Around} {E:Value->Shared->Prop}
theorem Inv.big (I:Inv X pins σ H s):sysModules<s.heap.objs.size:=by
 have h:mainGlobals<s.heap.objs.size:=(I.mod.glob.keeps I.bk).lt
 exact Nat.lt_trans (by decide) h
theorem Av' {Q:Value->Shared->Prop} (hu:A.units+1<cLine) (I:Inv X pins σ H s) (g:h4' H a y o) (ry:aJ' y u) (h:∀s',Inv X pins σ H s'->Q (.bool o.isSome) s'):
  wpAny (model X.prog X.w) A (compareOp .In u (.ref a)) Q E s:=by
 rcases g with⟨kvs,k,e,ey,l⟩|⟨kvs,k,b,e,ey,eb,l⟩
 .subst ey
  obtain⟨z,hd,vs,rel,dd⟩:=kM' I.hok e
  refine wpAny_in_of (kL' ry) hd dd.mapOf ?_
  rw[<- (rel.val k).isSome_eq,<- l]
  exact h _ (I.tok _)
 .subst ey
  cases(show u=Value.ref b from ry)
  obtain⟨z,hd,xs,rel,dd⟩:=kN' I.hok e
  refine wpAny_in_heap (tupleKind_room_in1 hu) (fJ' I.hok eb) hd dd ?_
  have q:=(rel.val k).isSome_eq
  rw[Option.isSome_map]at q
  rw[<- q,<- l]
  exact h _ (I.tok _)
theorem qs' {Q:Value->Shared->Prop} (hu:A.units+1<cLine) (I:Inv X pins σ H s) (g:h4' H a y o) (ry:aJ' y u) (h:∀s',Inv X pins σ H s'->Q (.bool (!o.isSome)) s'):
  wpAny (model X.prog X.w) A (compareOp .NotIn u (.ref a)) Q E s:=by
 rcases g with⟨kvs,k,e,ey,l⟩|⟨kvs,k,b,e,ey,eb,l⟩
 .subst ey
  obtain⟨z,hd,vs,rel,dd⟩:=kM' I.hok e
  refine wpAny_notIn_of (kL' ry) hd dd.mapOf ?_
  rw[<- (rel.val k).isSome_eq,<- l]
  exact h _ (I.tok _)
 .subst ey
  cases(show u=Value.ref b from ry)
  obtain⟨z,hd,xs,rel,dd⟩:=kN' I.hok e
  refine wpAny_notIn_heap (tupleKind_room_in1 hu) (fJ' I.hok eb) hd dd ?_
  have q:=(rel.val k).isSome_eq
  rw[Option.isSome_map]at q
  rw[<- q,<- l]
  exact h _ (I.tok _)
end
section
variable {X:Cx} {pins:List (Addr×Obj)} {σ:St} {H:Hp} {s:Shared} {a:Addr} {kvs:List (Key×V)} {k:Key} {u:Value} {A:Around} {E:Value->Shared->Prop}
end
section
variable {X:Cx} {o i e value:Expr} {pos pos' tpos:Pos} {td ty tv:TE}
end
section
variable {X:Cx} {pos:Pos}
end
def tL' (kvs more:List (Key×V)):List (Key×V):=more.foldl (fun acc kv=>iW' acc kv.1 kv.2) kvs
theorem KV.merge:∀{more:List (Key×V)} {rs:List (Key×Value)} {kvs:List (Key×V)} {vs:List (Key×Value)},KV more rs->KV kvs vs->KV (tL' kvs more) (merged vs rs):=by
 intro more rs kvs vs r
 unfold KV at r
 induction r generalizing kvs vs with
 |nil=>intro q;exact q
 | @cons p q ps qs h t ih=>
  intro r0
  have e:KV (iW' kvs p.1 p.2) (stored vs q.1 q.2):=by
   have:=r0.put p.1 h.2
   rw[<- h.1];exact this
  exact ih e
structure M1 (X:Cx) (o:Expr) (m:Str) (apos:Pos) (e:Expr) (cpos:Pos):Prop where
 base:attributeBase o m X.env (eval o X.env)=eval o X.env
 few:((backTo cpos (starEach [e] X.env)).all (fun x=>!x.1)&&(backToKw cpos (keywordEach [] X.env)).all (fun x=>x.1.isSome)
  && decide (([e]:List Expr).length+([]:List Keyword).length+(if([]:List Keyword).isEmpty then 0 else 1)<30))=true
 line:(apos.endLine == cpos.line)=true
 trees:backTo cpos (starEach [e] X.env)=[(false,eval e X.env)]
structure M2 (X:Cx) (o:Expr) (m:Str) (apos:Pos) (e f:Expr) (cpos:Pos):Prop where
 base:attributeBase o m X.env (eval o X.env)=eval o X.env
 few:((backTo cpos (starEach [e,f] X.env)).all (fun x=>!x.1)&&(backToKw cpos (keywordEach [] X.env)).all (fun x=>x.1.isSome)
  && decide (([e,f]:List Expr).length+([]:List Keyword).length+(if([]:List Keyword).isEmpty then 0 else 1)<30))=true
 line:(apos.endLine == cpos.line)=true
 trees:backTo cpos (starEach [e,f] X.env)=[(false,eval e X.env),(false,eval f X.env)]
def IsD (H:Hp) (a:Addr):Prop:=(∃kvs,Rd H a (.dK kvs))\/∃kvs,Rd H a (.dT kvs)
theorem tM' {X:Cx} {pins:List (Addr×Obj)} {σ:St} {H:Hp} {s:Shared} {a:Addr} (I:Inv X pins σ H s) (d:IsD H a):
  s.TypeIs (.ref a) "dict"/\(∀b,Value.ref a=.ref b->∃ob,s.heap.get? b=some ob/\ob.dict=none)/\(a == sysModules)=false:=by
 rcases d with⟨kvs,e⟩|⟨kvs,e⟩
 .obtain⟨_,hd,vs,_,dd⟩:=kM' I.hok e
  refine⟨dd.typeIs,fun b q=>?_,hd⟩
  cases q
  obtain⟨ob,_,_,h1,h2,_⟩:=dd
  exact⟨ob,h1,h2.2.1⟩
 .obtain⟨_,hd,xs,_,dd⟩:=kN' I.hok e
  refine⟨dd.typeIs,fun b q=>?_,hd⟩
  cases q
  obtain⟨ob,_,_,h1,h2,_⟩:=dd
  exact⟨ob,h1,h2.2.1⟩
section
variable {X:Cx} {pins:List (Addr×Obj)} {σ:St} {H:Hp} {s:Shared} {a:Addr} {y d:V} {u r:Value} {o:Option V} {A:Around} {E:Value->Shared->Prop}
theorem tN' {Q:Value->Shared->Prop} (hu:A.units+1<cLine) (I:Inv X pins σ H s) (g:h4' H a y o) (ry:aJ' y u) (h:∀w' s',Inv X pins σ H s'->aJ' (o.getD .non) w'->Q w' s'):
  wpAny (model X.prog X.w) A (call (.builtin "dict.get") [.ref a,u]) Q E s:=by
 rcases g with⟨kvs,k,e,ey,l⟩|⟨kvs,k,b,e,ey,eb,l⟩
 .subst ey
  obtain⟨z,hd,vs,rel,dd⟩:=kM' I.hok e
  refine call_meetsIn PySem.F.slot_dict_get dd.typeIs PySem.F.entry_dict_get (PySem.F.args_dict_get_2 _ _) (meets_dict_get (au' X.prog X.w) a (kL' ry) hd) ⟨_,dd.mapOf,h _ _ (I.tok _) ?_⟩
  rw[l]
  exact(rel.val k).getD rfl
 .subst ey
  cases(show u=Value.ref b from ry)
  obtain⟨z,hd,xs,rel,dd⟩:=kN' I.hok e
  refine call_meetsIn PySem.F.slot_dict_get dd.typeIs PySem.F.entry_dict_get (PySem.F.args_dict_get_2 _ _) (meetsH_dict_get (tupleKind (au' X.prog X.w)) a b hd) ⟨tupleKind_room_in1 hu,k,xs,fJ' I.hok eb,dd,h _ _ (I.tok _) ?_⟩
  rw[l]
  exact(rel.val k).getD rfl
end
section
variable {X:Cx} {o e f:Expr} {apos cpos:Pos} {td ty tx:TE}
end
section
variable {X:Cx} {pins:List (Addr×Obj)} {σ:St} {H:Hp} {s:Shared} {a:Addr} {kvs:List (Key×V)} {A:Around} {E:Value->Shared->Prop}
end
section
variable {X:Cx} {pins:List (Addr×Obj)} {σ:St} {H:Hp} {s:Shared} {a:Addr} {y:V} {u:Value} {A:Around} {E:Value->Shared->Prop}
end
section
variable {X:Cx}
end
section
variable {κ:Type} [DecidableEq κ]
end
def Itc (lo c:Int) (n:Nat):It:=⟨fun i _=>i<n,fun i H x H'=>H'=H/\x=.int (lo+i*c),fun i _=>n<=i⟩
theorem eY' {P:Program} {w:World} {K:W.Frag} {tg:Expr} (it:Addr) (lo c:Int) (n:Nat):Turn P w K tg (Itc lo c n) [it] it (fun i h=>IsRangeIter h it (lo+(i:Nat)*c) ((n:Int)-(i:Nat)) c) where
 mem:=by simp
 obj:=fun i h st b hb=>by
  have e:b=it:=by simpa using hb
  subst e
  exact⟨_,st,fun v z=>by
   have z':Data.fields _=Data.cell v:=z
   cases z'⟩
 keep:=fun i h h' st k=>k it (by simp) _ st
 item:=by
  intro X hP hw hK hc i pins s σ H E I hf st hg
  subst hP hw hK
  obtain⟨f0,f1,f2,f3,f4,f5⟩:=hf it (by simp)
  have W:=Walks.range (prog:=X.prog) (w:=X.w) (I.ok.hd hc) it lo c n
  refine W.item i s _ _ hg st fun v h' tk hv st' kk=>?_
  obtain⟨t,rfl⟩:=hv
  have I1:Inv X pins σ H { s with heap:=h',toks:=tk }:=I.turned (fun b o hb e=>kk b o (by simpa using hb) e) f0 f1 f3 f4 f5
  exact⟨_,rfl,jv' (s:={ s with heap:=h',toks:=tk }) (n:="range_iterator") st' rfl rfl (by decide) ⟨.int (lo+i*c),H,I1,⟨t,rfl⟩,⟨rfl,rfl⟩,st',fun b hb=>(hf b hb).1⟩⟩
 done:=by
  intro X hP hw hK hc i pins s σ H E I hf st hg
  subst hP hw hK
  obtain⟨f0,f1,f2,f3,f4,f5⟩:=hf it (by simp)
  exact wpAny_pyNext_range_end (I.ok.hd hc) st (by have:n<=i:=hg;omega) fun h' eb=>⟨rfl,I.turned (t':=s.toks) (fun b o hb e=>eb b o hb e) f0 f1 f3 f4 f5⟩
 self:=fun _ _ _ _ _ st h=>wpAny_pyIter_rangeiter st h
section
variable {prog:Program} {w:World} {A:Around} {E:Value->Shared->Prop} {s:Shared}
theorem dm' {r:Addr} {a b:Int} {t u v:Tok} {Q:Value->Shared->Prop} (hr:IsRange s.heap r a b 1 t u v) (h1:-(2 ^ 62)<=a) (h2:a<2 ^ 62) (h3:-(2 ^ 62)<=b) (h4:b<2 ^ 62)
  (h:Q (.ref s.heap.objs.size) { s with heap:=s.heap.push { cls:=.type "range_iterator",data:=.fields #[rawInt (a+(Builtin.Range.rangeSize a b 1-1)*1),rawInt (Builtin.Range.rangeSize a b 1),rawInt (-1)] } }):wpAny (model prog w) A (call (.builtin "range.__reversed__") [.ref r]) Q E s:=by
 have hT:s.TypeIs (.ref r) "range":=⟨_,hr,rfl⟩
 refine bo F.slot_range_reversed hT F.entry_range_reversed ?_ (F.args_range_reversed_1 _)
 unfold Builtin.«range.__reversed__»
 refine aa (bz (a:=Value.ref r) rfl ?_)
 unfold Builtin.Range.rangeFields
 refine aa (aa (cz hr rfl (x:=.int a t) rfl ?_))
 refine aa (bz (a:=some a) rfl ?_)
 refine aa (cz hr rfl (x:=.int b u) rfl ?_)
 refine aa (bz (a:=some b) rfl ?_)
 refine aa (cz hr rfl (x:=.int 1 v) rfl ?_)
 refine aa (bz (a:=some 1) rfl ?_)
 refine ag ?_
 dsimp only
 have hsz:Builtin.Range.rangeSize a b 1=if a<b then b-a else 0:=by rw[rangeSize_one]
 have hfit:(Builtin.Range.rangeFitsLong a&&Builtin.Range.rangeFitsLong b&&Builtin.Range.rangeFitsLong 1&&Builtin.Range.rangeFitsLong (-1)&&Builtin.Range.rangeFitsLong (a-1)&&Builtin.Range.rangeFitsLong (Builtin.Range.rangeSize a b 1))=true:=by
  rw[hsz]
  unfold Builtin.Range.rangeFitsLong
  split<;>simp<;>omega
 rw[hfit]
 simp only[Bool.not_true,aF,if_false,if_true]
 refine aa ?_
 unfold newFields
 exact aI (ag ⟨_,rfl,h⟩)
theorem dn' {r:Addr} {a b:Int} {t u v:Tok} {Q₁:Value->Shared->Prop} (hr:IsRange s.heap r a b 1 t u v) (h1:-(2 ^ 62)<=a) (h2:a<2 ^ 62) (h3:-(2 ^ 62)<=b) (h4:b<2 ^ 62)
  (h:Q₁ (.ref s.heap.objs.size) { s with heap:=s.heap.push { cls:=.type "range_iterator",data:=.fields #[rawInt (a+(Builtin.Range.rangeSize a b 1-1)*1),rawInt (Builtin.Range.rangeSize a b 1),rawInt (-1)] } }):
  codeAny (model prog w) A (.call (.builtin "reversed.__new__") ⟨[.type "reversed",.ref r],[]⟩) (wants Q₁ E) s:=by
 have hT:s.TypeIs (.ref r) "range":=⟨_,hr,rfl⟩
 refine codeAny_of_tree ?_
 show wpAny _ A.in1 (do checkBuiltinCall "reversed.__new__" ⟨[.type "reversed",.ref r],[]⟩;again (.builtin "reversed.__new__" ⟨[.type "reversed",.ref r],[]⟩)) _ _ s
 refine aa (bz (F.newCall_reversed_1 _) (ag ⟨plainId_quiet F.plain_reversed_new _,codeAny_builtin F.entry_reversed_new ?_⟩))
 rw[Around.under_plainId F.plain_reversed_new _]
 unfold Builtin.«reversed.__new__»
 refine aa (bz (newClass_reversed _) ?_)
 try dsimp only
 refine aa (bz (a:=()) (by first|rfl|kernel_rfl) ?_)
 refine aa (bz (a:=()) (by first|rfl|kernel_rfl) ?_)
 try dsimp only
 refine aa (wpAny_specialOf hT F.slot_range_reversed.lookup ?_)
 try dsimp only
 refine aa (bz (F.slot_range_reversed.bind _) ?_)
 try dsimp only
 first
 |rw[if_neg (show ¬((Value.builtin "range.__reversed__" == Value.none)=true) from am)]
 |(show wpAny _ _ (if(Value.builtin "range.__reversed__" == Value.none)=true then _ else _) _ _ _;rw[if_neg (show ¬((Value.builtin "range.__reversed__" == Value.none)=true) from am)])
 refine aa (cX ?_)
 refine aa (m:=runValue (.call (.builtin "range.__reversed__") ⟨[.ref r],[]⟩)) (show wpAny _ _ (call (.builtin "range.__reversed__") [.ref r]) _ _ _ from dm' hr h1 h2 h3 h4 ?_)
 first
 |exact ag h
 |exact aa (ag (ag h))
theorem ev':isSubtype (.type "range_iterator") (.type "reversed")=pure false:=by rw[isSubtype_type];kernel_rfl
theorem do' {r:Addr} {a b:Int} {t u v:Tok} {Q:Value->Shared->Prop} (hr:IsRange s.heap r a b 1 t u v) (h1:-(2 ^ 62)<=a) (h2:a<2 ^ 62) (h3:-(2 ^ 62)<=b) (h4:b<2 ^ 62)
  (h:Q (.ref s.heap.objs.size) { s with heap:=s.heap.push { cls:=.type "range_iterator",data:=.fields #[rawInt (a+(Builtin.Range.rangeSize a b 1-1)*1),rawInt (Builtin.Range.rangeSize a b 1),rawInt (-1)] } }):
  wpAny (model prog w) A (call (.type "reversed") [.ref r]) Q E s:=by
 refine callType_other (U:="range_iterator") (Q₁:=fun obj s₁=>obj=.ref s.heap.objs.size/\s₁={ s with heap:=s.heap.push { cls:=.type "range_iterator",data:=.fields #[rawInt (a+(Builtin.Range.rangeSize a b 1-1)*1),rawInt (Builtin.Range.rangeSize a b 1),rawInt (-1)] } }) (by decide +kernel) F.create_reversed ⟨_,_,F.mro_reversed⟩ F.made_reversed ev' (F.typeCall_reversed_1 _) (dn' hr h1 h2 h3 h4 ⟨rfl,rfl⟩) ?_
 rintro obj s₁ ⟨rfl,rfl⟩
 exact⟨⟨_,ao _ rfl,rfl⟩,h⟩
end
def zX' (K:W.Frag) (a:Addr) (n:Nat):It:=
 ⟨fun i H=>i<n/\∃xs,SqL K H a xs/\xs.length=n,fun i H x H'=>H'=H/\∀xs,SqL K H a xs->xs[n-1-i]?=some x,fun i H=>n=i⟩
theorem gT' {P:Program} {w:World} {K:W.Frag} {tg:Expr} (a it:Addr) (n:Nat):Turn P w K tg (zX' K a n) [it] it (fun i h=>i<=n/\h.IsRevIter it a ((n:Int)-1-(i:Int))) where
 mem:=by simp
 obj:=fun i h st b hb=>by
  have e:b=it:=by simpa using hb
  subst e
  obtain⟨o,e,c,d⟩:=st.2
  exact⟨o,e,fun v z=>by rw[d]at z;cases z⟩
 keep:=fun i h h' st k=>⟨st.1,st.2.at fun o e=>k it (by simp) o e⟩
 item:=by
  intro X hP hw hK hc i pins s σ H E I hf st hg
  subst hP hw hK
  obtain⟨hi,xs,hq,hx⟩:=hg
  obtain⟨its,rv,p,hz⟩:=I.list hq
  have hg1:xs[n-1-i]?=some (xs[n-1-i]'(by omega)):=af _
  obtain⟨u,hu,ru⟩:=rv.get hg1
  obtain⟨f0,f1,f2,f3,f4,f5⟩:=hf it (by simp)
  have e:(n:Int)-1-(i:Int)=((n-1-i:Nat):Int):=by omega
  have st2:=st.2
  rw[e]at st2
  refine wpAny_pyNext_rev_item st2 p.isList (x:=u) (by simpa using hu) fun h' st' sb=>?_
  have I1:Inv X pins σ H { s with heap:=h' }:=I.turned (t':=s.toks) (fun b o hb e=>(sb.2 b hb).trans e) f0 f1 f3 f4 f5
  obtain⟨o,e1,c,d⟩:=id st'
  have e2:((n-1-i:Nat):Int)-1=(n:Int)-1-((i+1:Nat):Int):=by omega
  rw[e2]at st'
  exact⟨u,rfl,jv' (s:={ s with heap:=h' }) e1 c d (by decide) ⟨_,H,I1,ru,⟨rfl,fun ys hy=>by rw[I.list_inj hy hq];exact hg1⟩,⟨hi,st'⟩,fun b hb=>(hf b hb).1⟩⟩
 done:=by
  intro X hP hw hK hc i pins s σ H E I hf st hg
  subst hP hw hK
  have hg':n=i:=hg
  subst hg'
  obtain⟨f0,f1,f2,f3,f4,f5⟩:=hf it (by simp)
  have e:(n:Int)-1-(n:Int)=-1:=by omega
  have st2:=st.2
  rw[e]at st2
  exact wpAny_pyNext_rev_end (I.ok.hd hc) st2 fun h' eb=>⟨rfl,I.turned (t':=s.toks) (fun b o hb e=>eb b o hb e) f0 f1 f3 f4 f5⟩
 self:=fun _ _ _ _ _ st h=>wpAny_pyIter_revIter st.2 h
section
variable {X:Cx} {tg:Expr}
def w0' (K:W.Frag) (x:V) (H1:Hp) (R:It->Hp->Prop):Prop:=
 (∃p i j,x=.ref p/\H1 p=some (.rng i j)/\(-(2 ^ 62)<=i/\i<2 ^ 62/\-(2 ^ 62)<=j/\j<2 ^ 62)/\R (Itc (i+((j-i).toNat:Int)-1) (-1) (j-i).toNat) H1)\/∃a xs,x=.ref a/\SqL K H1 a xs/\R (zX' K a xs.length) H1
def xO' (K:W.Frag) (tl:TE):TI:=fun σ H R=>bP' tl gE' σ H fun vs H1=>∃x,vs=[x]/\w0' K x H1 R
theorem f8':bootBuiltins "reversed"=some (.type "reversed"):=by decide +kernel
theorem tO' {a:Expr} {tl:TE} {p pos:Pos} (hg:Gl X "reversed") (hm:X.mg "reversed"=none) (ha:PA X [a] (bP' tl gE')) (hs:starEach [a] X.env=[(false,eval a X.env)]):
  PI X tg (.Call (.Name "reversed" p) [a] [] pos) (xO' X.K tl):=by
 intro pins s σ H R I h
 have h':bP' tl gE' σ H (fun vs H1=>∃x,vs=[x]/\w0' X.K x H1 R):=h
 refine Call_ (ei' I hg hm f8' (PyProof.Rows.callWith_type1 (thn (ha pos pins s σ H _ I h') fun us s1 ⟨vs,H1,I1,r1,q1⟩=>?_) (by rw[hs];rfl) (by rfl)))
 obtain⟨x,e,q1⟩:=q1
 subst e
 cases r1 with
 |cons r rr=>
  cases rr
  rcases q1 with⟨p,i,j,rfl,hp,⟨h1,h2,h3,h4⟩,q⟩|⟨a,xs,rfl,hxs,q⟩
  .cases r
   obtain⟨t,u,v,hr⟩:=(show a5' X.prog X.w H1 s1.heap p (.rng i j) from I1.hok p _ hp)
   refine do' hr h1 h2 h3 h4 ?_
   have e1:i+(Builtin.Range.rangeSize i j 1-1)*1=(i+((j-i).toNat:Int)-1)+((0:Nat):Int)*(-1):=by
    rw[rangeSize_one];split<;>omega
   have e2:Builtin.Range.rangeSize i j 1=(((j-i).toNat:Nat):Int)-((0:Nat):Int):=by rw[rangeSize_one];split<;>omega
   have it0:IsRangeIter (s1.heap.push { cls:=.type "range_iterator",data:=.fields #[rawInt (i+(Builtin.Range.rangeSize i j 1-1)*1),rawInt (Builtin.Range.rangeSize i j 1),rawInt (-1)] }) s1.heap.objs.size ((i+((j-i).toNat:Int)-1)+((0:Nat):Int)*(-1)) ((((j-i).toNat:Nat):Int)-((0:Nat):Int)) (-1):=by
    rw[<- e1,<- e2]
    exact ao _ rfl
   refine wpAny_pyIter_rangeiter it0 ?_
   refine⟨s1.heap.objs.size,[s1.heap.objs.size],_,_,H1,rfl,I1.kept (t':=s1.toks) (fun b o e=>ah _ e),eY' _ _ _ _,it0,fun b hb=>?_,q⟩
   have e:b=s1.heap.objs.size:=by simpa using hb
   subst e
   exact I1.fpOk (ae _) (I1.hok.fresh (ae _))
  .cases r
   obtain⟨its,rv,pl,hz⟩:=I1.list hxs
   refine call_reversed_list pl.isList ?_
   have hl:=rv.length
   have it0:(s1.heap.push (revObj a ((its.toArray.size:Int)-1))).IsRevIter s1.heap.objs.size a ((xs.length:Int)-1-((0:Nat):Int)):=by
    have e:(its.toArray.size:Int)-1=(xs.length:Int)-1-((0:Nat):Int):=by simp;omega
    rw[<- e]
    exact⟨_,ao _ rfl,rfl,rfl⟩
   refine wpAny_pyIter_revIter it0 ?_
   refine⟨s1.heap.objs.size,[s1.heap.objs.size],_,_,H1,rfl,I1.kept (t':=s1.toks) (fun b o e=>ah _ e),gT' a _ xs.length,⟨aM _,it0⟩,fun b hb=>?_,q⟩
   have e:b=s1.heap.objs.size:=by simpa using hb
   subst e
   exact I1.fpOk (ae _) (I1.hok.fresh (ae _))
def ew' (i j c:Int):Nat:=if i<j then((j-i-1) / c+1).toNat else 0
def eZ' (i j c:Int):Nat:=if c=-1 then(i-j).toNat else ew' i j c
theorem gU' {i j c:Int} (h:0<c):eZ' i j c=ew' i j c:=if_neg (by omega)
def qt' (ta:TA):TI:=fun σ H R=>ta σ H fun vs H1=>∃i j c:Int,vs=[.int i,.int j,.int c]/\(-(2 ^ 60)<=i/\i<2 ^ 60/\-(2 ^ 60)<=j/\j<2 ^ 60/\(0<c/\c<2 ^ 29\/c=-1))/\R (Itc i c (eZ' i j c)) H1
theorem dF' {i j c:Int} (hc:0<c):Builtin.Range.rangeSize i j c=(ew' i j c:Int):=by
 unfold Builtin.Range.rangeSize ew'
 rw[if_pos (show c > 0 from hc)]
 split
 .have:=Int.ediv_nonneg (a:=j-i-1) (b:=c) (by omega) (by omega)
  omega
 .rfl
theorem nt' {i j c:Int} (hc:0<c) (h:i<=j):(ew' i j c:Int)<=j-i:=by
 unfold ew'
 split
 .have h0:=Int.ediv_nonneg (a:=j-i-1) (b:=c) (by omega) (by omega)
  have h1:=Int.ediv_le_self (a:=j-i-1) c (by omega)
  omega
 .omega
theorem jJ' {i j c:Int} (h1:-(2 ^ 60)<=i) (h2:i<2 ^ 60) (h3:-(2 ^ 60)<=j) (h4:j<2 ^ 60) (h5:0<c) (h6:c<2 ^ 29):Builtin.Range.small i j c=true:=by
 unfold Builtin.Range.small
 rw[dF' h5,if_pos (show c > 0 from h5)]
 have hn:(ew' i j c:Int)<=2 ^ 62:=by
  rcases Int.lt_or_le i j with h|h
  .have:=nt' (i:=i) (j:=j) h5 (by omega);omega
  .have:ew' i j c=0:=by unfold ew';rw[if_neg (by omega)]
   rw[this];decide
 unfold Builtin.Range.rangeFitsLong
 simp
 omega
theorem dG' {i j c:Int} (hc:0<c/\c<2 ^ 29\/c=-1):Builtin.Range.rangeSize i j c=(eZ' i j c:Int):=by
 rcases hc with hc|rfl
 .rw[gU' hc.1];exact dF' hc.1
 .unfold Builtin.Range.rangeSize eZ'
  rw[if_neg (show ¬(-1:Int) > 0 by decide),if_pos rfl]
  split
  .have:(i-j-1) / (-(-1:Int))=i-j-1:=by simp
   omega
  .omega
theorem kO' {i j c:Int} (h1:-(2 ^ 60)<=i) (h2:i<2 ^ 60) (h3:-(2 ^ 60)<=j) (h4:j<2 ^ 60) (hc:0<c/\c<2 ^ 29\/c=-1):Builtin.Range.small i j c=true:=by
 rcases hc with hc|rfl
 .exact jJ' h1 h2 h3 h4 hc.1 hc.2
 .unfold Builtin.Range.small
  rw[dG' (.inr rfl),if_neg (show ¬(-1:Int) > 0 by decide)]
  have hn:(eZ' i j (-1):Int)<=2 ^ 62:=by unfold eZ';rw[if_pos rfl];omega
  unfold Builtin.Range.rangeFitsLong
  simp
  omega
theorem kP' {a b c:Expr} {ta:TA} {p pos:Pos} (hg:Gl X "range") (hm:X.mg "range"=none) (ha:PA X [a,b,c] ta) (hs:starEach [a,b,c] X.env=[(false,eval a X.env),(false,eval b X.env),(false,eval c X.env)]) (hs2:starEach [b,c] X.env=[(false,eval b X.env),(false,eval c X.env)]):
  PI X tg (.Call (.Name "range" p) [a,b,c] [] pos) (qt' ta):=by
 intro pins s σ H R I h
 refine Call_ (ei' I hg hm boot_range (PyProof.Rows.callWith_type1 (thn (ha pos pins s σ H _ I h) fun us s1 ⟨vs,H1,I1,r1,q1⟩=>?_) (by rw[hs,hs2]) (by rw[hs2];rfl)))
 obtain⟨i,j,k,e,⟨q1,q2,q3,q4,q5⟩,q⟩:=q1
 subst e
 cases r1 with
 |cons r rr=>
  cases rr with
  |cons r' rr=>
   cases rr with
   |cons r'' rr=>
    cases rr
    obtain⟨t,rfl⟩:=r
    obtain⟨t',rfl⟩:=r'
    obtain⟨t'',rfl⟩:=r''
    refine call_range_3 (by omega) ?_ (Or.inl (PyProof.noPylong_small (by omega)))
    refine wpAny_pyIter_range (IsRange.new ..) (kO' q1 q2 q3 q4 q5) ?_
    have I2:Inv X pins σ H1 { s1 with heap:=s1.heap.push { cls:=.type "range",data:=.fields #[.int i t,.int j t',.int k t''] } }:=I1.kept (t':=s1.toks) fun b o e=>ah _ e
    refine⟨(s1.heap.push { cls:=.type "range",data:=.fields #[.int i t,.int j t',.int k t''] }).objs.size,[(s1.heap.push { cls:=.type "range",data:=.fields #[.int i t,.int j t',.int k t''] }).objs.size],_,_,H1,rfl,I2.kept (t':=s1.toks) (fun b o e=>ah _ e),eY' _ i k (eZ' i j k),?_,fun b hb=>?_,q⟩
    .have e1:i+((0:Nat):Int)*k=i:=by simp
     have e2:((eZ' i j k:Nat):Int)-((0:Nat):Int)=Builtin.Range.rangeSize i j k:=by rw[dG' q5];omega
     show IsRangeIter _ _ (i+((0:Nat):Int)*k) (((eZ' i j k:Nat):Int)-((0:Nat):Int)) k
     rw[e1,e2]
     exact ao _ rfl
    .have e:b=(s1.heap.push { cls:=.type "range",data:=.fields #[.int i t,.int j t',.int k t''] }).objs.size:=by simpa using hb
     subst e
     exact I2.fpOk (ae _) (I2.hok.fresh (ae _))
end
section
variable {X:Cx}
theorem qu' {i:Int} (h:0<=i):Builtin.bitAnd i 1=i % 2:=by
 rw[PyProof.Rows.bitAnd_pp h (by decide)]
 have e:(1:Int).toNat=1:=rfl
 rw[e,Nat.and_one_is_mod]
 omega
theorem qv':OpR X (binaryOp .BitAnd) (rI (fun i j=>0<=i/\j=1) fun i _=>.int (i % 2)):=by
 intro pins s σ H x y v u Q I rx ry h
 obtain⟨i,j,rfl,rfl,⟨h0,rfl⟩,q⟩:=h
 refine te' pins s σ H _ _ v u Q I rx ry ⟨i,1,rfl,rfl,?_⟩
 have q':Q (.int (i % 2)) H:=q
 rw[<- qu' h0]at q'
 exact q'
def inT (x y:Str):Bool:=!(Builtin.Str.occurrences x y 0 x.length 1).isEmpty
def w1' (neg:Bool):R2:=fun x y H Q=>∃a b,x=.str a/\y=.str b/\Q (.bl (if neg then !inT b a else inT b a)) H
theorem tP':OpR X (compareOp .In) (w1' false):=by
 intro pins s σ H x y v u Q I rx ry h
 obtain⟨a,b,rfl,rfl,q⟩:=h
 obtain⟨t,rfl⟩:=rx
 obtain⟨t',rfl⟩:=ry
 exact in_str ⟨.bl _,H,I,rfl,q⟩
theorem kQ':OpR X (compareOp .NotIn) (w1' true):=by
 intro pins s σ H x y v u Q I rx ry h
 obtain⟨a,b,rfl,rfl,q⟩:=h
 obtain⟨t,rfl⟩:=rx
 obtain⟨t',rfl⟩:=ry
 have q':Q (.bl (!inT b a)) H:=q
 refine notIn_str ⟨.bl (!inT b a),H,I,?_,q'⟩
 show Value.bool _=Value.bool _
 simp[inT]
end
section
variable {X:Cx}
def Aw' (x y:Str):Bool:=decide (y.cps.toList<x.cps.toList)
def zY':R2:=fun x y H Q=>∃a b,x=.str a/\y=.str b/\Q (.bl (Aw' a b)) H
theorem tQ':OpR X (compareOp .Gt) zY':=by
 intro pins s σ H x y v u Q I rx ry h
 obtain⟨a,b,rfl,rfl,k⟩:=h
 obtain⟨t,rfl⟩:=rx
 obtain⟨t',rfl⟩:=ry
 exact PySem.P.gt_str ⟨.bl _,H,I,rfl,k⟩
def dSc:V->Bool
 | .int _=>true
 | .str _=>true
 | .bl _=>true
 | .non=>true
 |_=>false
def Dq (H:Hp):Nat->V->V->Prop
 |0,v,w=>v=w/\dSc v=true
 |n+1,v,w=>(v=w/\dSc v=true)\/∃a b xs ys,v=.ref a/\w=.ref b/\((H a=some (.lst xs)/\H b=some (.lst ys))\/(H a=some (.tup xs)/\H b=some (.tup ys)))/\xs.length=ys.length/\∀(i:Nat) x y,xs[i]?=some x->ys[i]?=some y->Dq H n x y
open PySem.SeqAt in
theorem tR' {A:Around} {s:Shared} {x:V} {u v:Value} (h:dSc x=true) (r1:aJ' x u) (r2:aJ' x v):EqAt A s u v true:=by
 have:=ii' (A:=A) (s:=s) r1 r2 (.inl (by cases x<;>first|(cases h;done)|exact⟨rfl,fun b=>by intro z;cases z⟩))
 rw[decide_eq_true rfl]at this
 exact this
theorem db' {n:Nat}:(au n).all (fun _=>true)=true:=by simp
theorem pe' {its:List Value} {j:Nat} {u:Value} (e:its[j]?=some u) (h:j<its.toArray.size):its.toArray[j]=u:=by
 simp at h ⊢
 rw[af h]at e
 exact Option.some.inj e
open PySem.SeqAt in
theorem dc' {n:Nat} {H:Hp} {A:Around} {s:Shared} {xs ys:List V} {its its2:List Value} (ih:∀x y u v,Dq H n x y->aJ' x u->aJ' y v->EqAt A.in1 s u v true) (hl:xs.length=ys.length) (r1:aE' xs its) (r2:aE' ys its2)
  (he:∀(i:Nat) x y,xs[i]?=some x->ys[i]?=some y->Dq H n x y):∀j (h1:j<its.toArray.size) (h2:j<its2.toArray.size),EqAt A.in1 s its.toArray[j] its2.toArray[j] ((fun _=>true) j):=by
 intro j h1 h2
 have l1:=r1.length
 have j1:j<xs.length:=by simp at h1;omega
 have j2:j<ys.length:=by omega
 have g1:xs[j]?=some xs[j]:=af j1
 have g2:ys[j]?=some ys[j]:=af j2
 obtain⟨u1,e1,ru1⟩:=r1.get g1
 obtain⟨u2,e2,ru2⟩:=r2.get g2
 rw[pe' e1 h1,pe' e2 h2]
 exact ih _ _ _ _ (he j _ _ g1 g2) ru1 ru2
open PySem.SeqAt in
theorem tS' {pins:List (Addr×Obj)} {σ:L2.St} {H:Hp} {s:Shared} (I:Inv X pins σ H s):∀(n:Nat) (A:Around) (x y:V) (u v:Value),A.units+n<cLine->Dq H n x y->aJ' x u->aJ' y v->EqAt A s u v true:=by
 intro n
 induction n with
 |zero=>
  rintro A x y u v hu ⟨rfl,hs⟩ r1 r2
  exact tR' hs r1 r2
 |succ n ih=>
  rintro A x y u v hu h rx ry
  rcases h with⟨rfl,hs⟩|⟨a,b,xs,ys,rfl,rfl,hab,hl,he⟩
  .exact tR' hs rx ry
  cases rx
  cases ry
  by_cases hne:a=b
  .subst hne;exact EqAt.same _
  have ih':∀x y u v,Dq H n x y->aJ' x u->aJ' y v->EqAt A.in1 s u v true:=fun x y u v=>ih A.in1 x y u v (by show A.units+1+n<cLine;omega)
  rcases hab with⟨h1,h2⟩|⟨h1,h2⟩
  .obtain⟨its,r1,pl1,_⟩:=I.list (SqL.of h1)
   obtain⟨its2,r2,pl2,_⟩:=I.list (SqL.of h2)
   have l1:=r1.length
   have l2:=r2.length
   have:=RcAt.lists pl1.isList pl2.isList (by simp;omega) (by omega) (dc' ih' hl r1 r2 he)
   rw[db']at this
   exact EqAt.of_refs hne this
  .obtain⟨its,r1,pl1,_⟩:=I.tuple (SqT.of h1)
   obtain⟨its2,r2,pl2,_⟩:=I.tuple (SqT.of h2)
   have l1:=r1.length
   have l2:=r2.length
   have:=RcAt.tuples pl1 pl2 (by omega) (dc' ih' hl r1 r2 he)
   rw[db']at this
   have e:(true&&its.toArray.size == its2.toArray.size)=true:=by simp;omega
   rw[e]at this
   exact EqAt.of_refs hne this
def w2' (neg:Bool):R2:=fun x y H Q=>∃n,n<=8/\Dq H n x y/\(∃a b,x=.ref a/\y=.ref b)/\Q (.bl (!neg)) H
theorem Dq.open {H:Hp} {n:Nat} {a b:Addr} (h:Dq H n (.ref a) (.ref b)):∃m xs ys,n=m+1/\((H a=some (.lst xs)/\H b=some (.lst ys))\/(H a=some (.tup xs)/\H b=some (.tup ys)))/\xs.length=ys.length/\∀(i:Nat) x y,xs[i]?=some x->ys[i]?=some y->Dq H m x y:=by
 cases n with
 |zero=>exact(am h.2).elim
 |succ m=>
  rcases h with⟨_,hs⟩|⟨a',b',xs,ys,e1,e2,hab,hl,he⟩
  .cases hs
  .cases e1;cases e2;exact⟨m,xs,ys,rfl,hab,hl,he⟩
open PySem.SeqAt in
theorem tT' (hu:X.A.units+64<cLine):OpR X (compareOp .Eq) (w2' false):=by
 intro pins s σ H x y v u Q I rx ry h
 obtain⟨n,hn,hd,⟨a,b,rfl,rfl⟩,k⟩:=h
 cases rx
 cases ry
 obtain⟨m,xs,ys,rfl,hab,hl,he⟩:=hd.open
 have ih':∀x y u v,Dq H m x y->aJ' x u->aJ' y v->EqAt X.A.in1 s u v true:=fun x y u v=>tS' I m X.A.in1 x y u v (by show X.A.units+1+m<cLine;omega)
 rcases hab with⟨h1,h2⟩|⟨h1,h2⟩
 .obtain⟨its,r1,pl1,_⟩:=I.list (SqL.of h1)
  obtain⟨its2,r2,pl2,_⟩:=I.list (SqL.of h2)
  have l1:=r1.length
  have l2:=r2.length
  refine eq_listAt pl1.isList pl2.isList (by simp;omega) (by omega) (dc' ih' hl r1 r2 he) ?_
  rw[db']
  exact⟨.bl true,H,I,rfl,k⟩
 .obtain⟨its,r1,pl1,_⟩:=I.tuple (SqT.of h1)
  obtain⟨its2,r2,pl2,_⟩:=I.tuple (SqT.of h2)
  have l1:=r1.length
  have l2:=r2.length
  refine eq_tupleAt pl1 pl2 (by omega) (dc' ih' hl r1 r2 he) ?_
  have e:(true&&its.toArray.size == its2.toArray.size)=true:=by simp;omega
  rw[db',e]
  exact⟨.bl true,H,I,rfl,k⟩
open PySem.SeqAt in
theorem tU' (hu:X.A.units+64<cLine):OpR X (compareOp .NotEq) (w2' true):=by
 intro pins s σ H x y v u Q I rx ry h
 obtain⟨n,hn,hd,⟨a,b,rfl,rfl⟩,k⟩:=h
 cases rx
 cases ry
 obtain⟨m,xs,ys,rfl,hab,hl,he⟩:=hd.open
 have ih':∀x y u v,Dq H m x y->aJ' x u->aJ' y v->EqAt X.A.in1 s u v true:=fun x y u v=>tS' I m X.A.in1 x y u v (by show X.A.units+1+m<cLine;omega)
 have hend:EP X pins σ Q (Value.bool false) s:=⟨.bl false,H,I,rfl,k⟩
 rcases hab with⟨h1,h2⟩|⟨h1,h2⟩
 .obtain⟨its,r1,pl1,_⟩:=I.list (SqL.of h1)
  obtain⟨its2,r2,pl2,_⟩:=I.list (SqL.of h2)
  have l1:=r1.length
  have l2:=r2.length
  obtain⟨⟨cls,dd,data,sl⟩,ho,hc,n1,hd1⟩:=pl1.isList
  obtain⟨⟨cls2,dd2,data2,sl2⟩,ho2,hc2,n2,hd2⟩:=pl2.isList
  simp only at hc hd1 hc2 hd2
  subst hc hd1 hc2 hd2
  refine richCompare_meets_room (op:=.NotEq) ⟨_,ho,rfl⟩ ⟨_,ho2,rfl⟩ F.slot_list_ne F.entry_list_ne (F.args_list_ne_2 _ _) (list_neAt a b its.toArray its2.toArray n1 n2 dd dd2 sl sl2 (by simp;omega) (fun _=>true)) ⟨ho,ho2,dc' ih' hl r1 r2 he,?_⟩ (by omega)
  rw[db']
  exact(show Value.bool false≠Value.notImplemented/\EP X pins σ Q (Value.bool false) s from⟨(fun x=>nomatch x),hend⟩)
 .obtain⟨its,r1,pl1,_⟩:=I.tuple (SqT.of h1)
  obtain⟨its2,r2,pl2,_⟩:=I.tuple (SqT.of h2)
  have l1:=r1.length
  have l2:=r2.length
  obtain⟨⟨cls,dd,data,sl⟩,ho,hc,n1,hd1⟩:=id pl1
  obtain⟨⟨cls2,dd2,data2,sl2⟩,ho2,hc2,n2,hd2⟩:=id pl2
  simp only at hc hd1 hc2 hd2
  subst hc hd1 hc2 hd2
  refine richCompare_meets_room (op:=.NotEq) ⟨_,ho,rfl⟩ ⟨_,ho2,rfl⟩ F.slot_tuple_ne F.entry_tuple_ne (F.args_tuple_ne_2 _ _) (tuple_neAt a b its.toArray its2.toArray n1 n2 dd dd2 sl sl2 (fun _=>true)) ⟨ho,ho2,dc' ih' hl r1 r2 he,?_⟩ (by omega)
  have e:(true&&its.toArray.size == its2.toArray.size)=true:=by simp;omega
  rw[db',e]
  exact(show Value.bool false≠Value.notImplemented/\EP X pins σ Q (Value.bool false) s from⟨(fun x=>nomatch x),hend⟩)
end
end L2
namespace HT
open PySem PyProof.Rows
open PySem.SeqAt
open PySem.MeetsSeq PySem.MeetsSeq2 PySem.MeetsSeq3
section
variable {prog:Program} {w:World} {A:Around} {E:Value->Shared->Prop} {s:Shared}
theorem nu' {t b:Addr} {ws:List Value} {Q:Value->Shared->Prop} (ht:IsTup s.heap t #[]) (hb:IsTup s.heap b ws.toArray) (h0:Q (.ref b) s):wpAny (model prog w) A (binaryOp .Add (.ref t) (.ref b)) Q E s:=by
 obtain⟨⟨cls,dd,data,sl⟩,ho,hc,n,hd⟩:=id ht
 obtain⟨⟨cls2,dd2,data2,sl2⟩,ho2,hc2,n2,hd2⟩:=id hb
 simp only at hc hd hc2 hd2
 subst hc hd hc2 hd2
 exact concat_meets ⟨_,ho,rfl⟩ ⟨_,ho2,rfl⟩ noFill_tuple_add seq_tuple_add PySem.F.slot_tuple_add PySem.F.entry_tuple_add (PySem.F.args_tuple_add_2 _ _)
  (tuple_addW0 t b #[] ws.toArray n n2 dd dd2 sl sl2 rfl) ⟨ho,ho2,h0⟩
end
end HT
namespace L2
open PySem PySem.Spec PyProof.Rows
section
variable {X:Cx}
def pf' (K:W.Frag):R2:=fun x y H Q=>∃a b ys,x=.ref a/\y=.ref b/\SqT K H a []/\SqT K H b ys/\Q (.ref b) H
theorem nv':OpR X (binaryOp .Add) (pf' X.K):=by
 intro pins s σ H x y v u Q I rx ry h
 obtain⟨a,b,ys,rfl,rfl,ha,hb,q⟩:=h
 cases rx
 cases ry
 obtain⟨its,r1,p1,_⟩:=I.tuple ha
 obtain⟨its2,r2,p2,_⟩:=I.tuple hb
 have e:its=[]:=r1.nil_iff.mpr rfl
 subst e
 exact HT.nu' p1 p2 ⟨.ref b,H,I,rfl,q⟩
end
end L2
namespace L2
open PySem PySem.Spec PyProof.Rows PySem.Calls PySem.NumText
def B2 (x:PySem.Str) (n:Int):Prop:=(x.cps.all (· < 128))=true/\(x.cps.toList.takeWhile (· != 0)).length<=640/\(int_private% "readNumeral") 0 2 (x.cps.toList.takeWhile (· != 0))=(int_private% "Numeral.value") n/\((x.cps.toList.takeWhile (· != 0)).length == x.cps.toList.length)=true
theorem nw' {M:Model} {A:Around} {E:Value->Shared->Prop} {s:Shared} {Q:Value->Shared->Prop} {v:Value} {text:List Nat} {n:Int}
  (hs:(text.takeWhile (· != 0)).length<=640) (hr:(int_private% "readNumeral") 0 2 (text.takeWhile (· != 0))=(int_private% "Numeral.value") n)
  (ha:((text.takeWhile (· != 0)).length == text.length)=true) (h:Q (.int n s.toks) { s with toks:=s.toks+1 }):
  wpAny M A ((int_private% "intFromText") v text 2) Q E s:=by
 obtain⟨hp,g,d,tk,os⟩:=s
 repeat (any_goals (first
  |assumption
  |(with_reducible refine wpAny_ite_true (decide_eq_true hs) ?_)
  |(with_reducible refine wpAny_ite_true (decide_eq_true ha) ?_)
  |wp_step))
 all_goals (try rw[hr])
 all_goals (try dsimp only)
 repeat (any_goals (first
  |assumption
  |(with_reducible refine wpAny_ite_true (decide_eq_true hs) ?_)
  |(with_reducible refine wpAny_ite_true (decide_eq_true ha) ?_)
  |wp_step))
set_option maxHeartbeats 4000000 in
theorem ik' {x:PySem.Str} {u v:Tok} {n:Int} (hb:B2 x n):Gives (Builtin.«int.__new__» ⟨[.type "int",.str x u,.int 2 v],[]⟩) (.int n):=
 .of_wp fun M A E s Q h=>by
  obtain⟨hp,g,d,tk,os⟩:=s
  have f1:=F.conv_sub_int
  have f2:=F.madeHere_int
  have f6:typeOf (.str x u)=pure (.type "str"):=rfl
  have hk:=W.KIN.Hid.mk hb
  clear hb
  repeat (any_goals (first
   |assumption
   |((with_reducible show wpAny _ _ ((int_private% "intFromText") _ _ _) _ _ _);rw[if_pos hk.out.1];refine nw' hk.out.2.1 hk.out.2.2.1 hk.out.2.2.2 ?_)
   |wp_step))
  all_goals first|exact⟨_,rfl,h⟩|skip
theorem fy' (a b:Value):checkTypeCall "int" ⟨[a,b],[]⟩=pure ():=by kernel_rfl
theorem f9' (a b:Value):checkBuiltinCall "int.__new__" ⟨[.type "int",a,b],[]⟩=pure ():=by kernel_rfl
section
variable {X:Cx}
def tV':List V->Hp->VK->Prop:=fun xs H Q=>∃x n,xs=[.str x,.int 2]/\B2 x n/\Q (.int n) H
theorem kR':bl' X (.type "int") tV':=by
 intro pins s σ H xs us Q I r h
 obtain⟨x,n,rfl,hb,q⟩:=h
 obtain⟨u,v,rfl,⟨t,rfl⟩,⟨t',rfl⟩⟩:=qc' r
 exact callType_new F.called_int F.newNe_int (fy' _ _) (f9' _ _) (fun obj=>F.args_object_init_3 obj _ _) F.entry_int_new (ik' hb).meets (show(Made.int n).post _ s from⟨rfl,⟨.int n,H,I.tok _,⟨_,rfl⟩,q⟩⟩)
theorem kS':bl' X (.type "int") (fun xs H Q=>zS' xs H Q\/tV' xs H Q):=kF'.or kR'
end
section
variable {X:Cx}
end
end L2
namespace PySem
open PyProof.Rows
def Heap.IsRvd (h:Heap) (a t:Addr) (i:Int):Prop:=∃o,h.get? a=some o/\o.cls=.type "reversed"/\o.data=.fields #[.ref t,rawInt i]
theorem Heap.IsRvd.at {h h':Heap} {a t:Addr} {i:Int} (x:h.IsRvd a t i) (e:∀o,h.get? a=some o->h'.get? a=some o):h'.IsRvd a t i:=let⟨o,ho,r⟩:=x;⟨o,e _ ho,r⟩
section
variable {prog:Program} {w:World} {A:Around} {E:Value->Shared->Prop} {s:Shared}
theorem Heap.IsRvd.typeIs {a t:Addr} {i:Int} (x:s.heap.IsRvd a t i):s.TypeIs (.ref a) "reversed":=let⟨o,ho,hc,_⟩:=x;⟨o,ho,hc⟩
end
theorem pg' {h h':Heap} {t:Addr} {items:Array Value} (x:IsTup h t items) (k:∀o,h.get? t=some o->h'.get? t=some o):IsTup h' t items:=let⟨o,ho,r⟩:=x;⟨o,k o ho,r⟩
section
variable {prog:Program} {w:World} {A:Around} {E:Value->Shared->Prop} {s:Shared}
end
section
variable {prog:Program} {w:World} {A:Around} {E:Value->Shared->Prop} {s:Shared}
end
end PySem
namespace L2
open PySem PySem.Spec PyProof.Rows
section
variable {X:Cx}
end
end L2
namespace HT
open PySem PyProof.Rows
section
variable {prog:Program} {w:World} {A:Around} {E:Value->Shared->Prop} {s:Shared}
theorem dp' {t sl:Addr} {items:Array Value} {vl vu:Value} {lo hi:Option Int} {Q:Value->Shared->Prop} (ht:IsTup s.heap t items) (hs:s.heap.IsSliceOf sl vl vu .none) (pl:IsPart vl lo) (pu:IsPart vu hi)
  (hw:sIx items.size 0 lo=0/\sIx items.size items.size hi=items.size)
  (h:Q (.ref t) s):wpAny (model prog w) A (getItem (.ref t) (.ref sl)) Q E s:=by
 obtain⟨os,hos,hcs,hds⟩:=id hs
 have hTs:s.TypeIs (.ref sl) "slice":=⟨os,hos,hcs⟩
 unfold getItem
 try with_reducible refine bg ?_
 first|refine aa (ag ?_)|skip
 refine aa (wpAny_sequenceKey ht.typeIs (by decide) ?_)
 refine aa (bL (name:=Str.ofString "__getitem__") ht.typeIs PyProof.Rows.slot_tuple_getitem
  (bo PyProof.Rows.slot_tuple_getitem ht.typeIs entry_tuple_getitem ?_ (args_tuple_getitem _ _)))
 show wpAny _ _ (Builtin.Tuple.tupleItemsOf (.ref t) >>= _) _ _ s
 refine aa (tupleItemsOf_ ht ?_)
 refine aa (wpAny_typeOf hTs ?_)
 rw[if_pos (by decide)]
 refine aa (cV' hs pl pu ?_)
 have hyes:(((sIx items.size 0 lo:Nat):Int) == 0&&(1:Int) == 1&&(sIx items.size items.size hi-sIx items.size 0 lo) == items.size)=true:=by
  rw[hw.1,hw.2]
  simp
 show wpAny _ _ (if(((sIx items.size 0 lo:Nat):Int) == 0&&(1:Int) == 1&&(sIx items.size items.size hi-sIx items.size 0 lo) == items.size)=true then _ else _) _ _ s
 rw[if_pos hyes]
 obtain⟨ot,hot,hct,nt,hdt⟩:=id ht
 refine aa (wpAny_mono (Q:=fun b s'=>b=true/\s'=s) (E:=E) ?_ ?_ (fun _ _ z=>z))
 .unfold Builtin.Tuple.tupleIsExact
  exact aa (wpAny_typeOf ht.typeIs (ag ⟨rfl,rfl⟩))
 .rintro b s' ⟨rfl,rfl⟩
  rw[if_pos rfl]
  exact aa (cX (ag ⟨_,rfl,ag h⟩))
end
end HT
namespace L2
open PySem PySem.Spec PyProof.Rows
section
variable {X:Cx}
def xP' (K:W.Frag):V->Option Int->Option Int->Hp->VK->Prop:=fun x lo hi H Q=>∃a xs,x=.ref a/\SqT K H a xs/\(HT.sIx xs.length 0 lo=0/\HT.sIx xs.length xs.length hi=xs.length)/\Q (.ref a) H
theorem nx':SlR X (xP' X.K):=by
 intro pins s σ H x v vl vu lo hi sl Q I rx hs pl pu h
 obtain⟨a,xs,rfl,hx,hw,q⟩:=h
 cases rx
 obtain⟨its,r,ht,hz⟩:=I.tuple hx
 have hlen:its.toArray.size=xs.length:=by rw[al];exact r.length.symm
 refine⟨"tuple",_,PyProof.Rows.slot_tuple_getitem.lookup,ht.typeIs,?_⟩
 exact HT.dp' ht hs pl pu (by rw[hlen];exact hw) ⟨.ref a,H,I,rfl,q⟩
end
section
variable {X:Cx} {pins:List (Addr×Obj)} {σ:St} {H:Hp} {s:Shared}
variable {X:Cx}
end
end L2
namespace HT
open PySem PyProof.Rows
section
variable {prog:Program} {w:World} {A:Around} {E:Value->Shared->Prop} {s:Shared}
end
end HT
namespace L2
open PySem PySem.Spec PyProof.Rows
section
variable {X:Cx} {e st:Expr} {te:TE} {p2 pos:Pos}
end
section
variable {prog:Program} {w:World} {A:Around} {E:Value->Shared->Prop} {s:Shared} {b0:Array Keyed} {κ:PyProof.Rows.KeyKind}
end
section
variable {X:Cx}
end
end L2
namespace L2
open PySem PySem.Spec PyProof.Rows PySem.SeqAt
def Ls1 (H:Hp) (v:V) (ns:List Int):Prop:=∃p,v=.ref p/\H p=some (.lst (ns.map V.int))
def LL (H:Hp) (a:Addr) (L:List (List Int)):Prop:=∃vs,H a=some (.lst vs)/\vs.length=L.length/\∀(i:Nat) v ns,vs[i]?=some v->L[i]?=some ns->Ls1 H v ns
theorem e0':∀{a b:List Int},a.map V.int=b.map V.int->a=b
 | [],[],_=>rfl
 | [],_ :: _,h=>by cases h
 |_ :: _,[],h=>by cases h
 |x :: a,y :: b,h=>by
  rw[aH,aH]at h
  injection h with h1 h2
  injection h1 with h1
  rw[h1,e0' h2]
section
variable {X:Cx} {pins:List (Addr×Obj)} {σ:L2.St} {H:Hp} {s:Shared}
def Ax' (neg:Bool):R2:=fun x y H Q=>∃a b L M,x=.ref a/\y=.ref b/\LL H a L/\LL H b M/\Q (.bl (decide (L=M))) H
def xQ':R2:=fun x y H Q=>∃b L ns,Ls1 H x ns/\y=.ref b/\LL H b L/\Q (.bl (!decide (ns∈L))) H
end
section
variable {X:Cx}
end
section
variable {X:Cx} {env:Env}
def Fr {α:Type} (t:Sem α):Prop:=∀(M:Model) (Γ:PySem.Ctx) (Q:α->Pos->Shared->Prop) (E:Value->Pos->Shared->Prop) (p:Pos) (s:Shared),Sem.wp M Γ t Q E p s->Sem.wp M Γ t (fun a p' s'=>1<=s'.toks/\Q a p' s') E p s
theorem Fr.bindL {α β:Type} {m:Sem α} {f:α->Sem β} (h:Fr m):Fr (m >>= f):=by
 intro M Γ Q E p s q
 rw[Sem.wp_bind']at q ⊢
 refine Sem.wp_mono M Γ m (fun a p' s' z=>?_) (fun _ _ _ z=>z) p s (h M Γ _ E p s q)
 exact Sem.wp_mono M Γ (f a) (fun _ _ _ z=>z) (fun _ _ _ z=>z.2) p' s' (Sem.wp_toks M Γ 1 (f a) Q E p' s' z.1 z.2)
theorem Fr.any {α:Type} {M:Model} {A:Around} {t:Sem α} {Q:α->Shared->Prop} {E:Value->Shared->Prop} {s:Shared} (h:Fr t) (q:wpAny M A t Q E s):wpAny M A t (fun a s'=>1<=s'.toks/\Q a s') E s:=fun Γ p hΓ=>h M Γ _ _ p s (q Γ p hΓ)
end
section
variable {X:Cx}
end
section
variable {prog:Program} {w:World} {A:Around} {E:Value->Shared->Prop} {s:Shared} {b0:Array Keyed} {κ:SortKind}
end
section
variable {X:Cx}
end
end L2
namespace So
open PySem PySem.Spec PyProof.Rows
def qw':Bool->Keyed->Array Keyed->Nat->Nat->Nat->StateT SortSt Sem (Option Nat):=sortPriv% PySem.Builtin.gallop
section
variable {M:Model} {A:Around} {E:Value->Shared->Prop} {s:Shared} {O:KeyOrd} {ky:Keyed->O.α} {P:Keyed->Prop} {kd:SortKind}
structure Cmp (M:Model) (A:Around) (E:Value->Shared->Prop) (s:Shared) (O:KeyOrd) (ky:Keyed->O.α) (P:Keyed->Prop) (kd:SortKind):Prop where
 lt:∀{x y:Keyed} {st:SortSt} {Q:Option Bool->SortSt->Prop},P x->P y->kindOf st=kd->Q (some (O.blt (ky x) (ky y))) st->wpS M A E s (lt' x y) Q st
theorem iX' {a:Array Keyed} {i:Nat} {x:Keyed} {Q:Keyed->SortSt->Prop} {st:SortSt} (e:a[i]?=some x) (h:Q x st):wpS M A E s (elem' a i) Q st:=by
 rw[elem'_eq,e];exact wpS_pure h
end
end So
namespace So
open PySem PySem.Spec PyProof.Rows
structure Mg (R:Keyed->Keyed->Prop) (T o ra rb:List Keyed):Prop where
 pm:(o++(ra++rb)).Perm T
 so:o.Pairwise R
 sa:ra.Pairwise R
 sb:rb.Pairwise R
 oa:∀x∈o,∀y∈ra,R x y
 ob:∀x∈o,∀y∈rb,R x y
section
variable {R:Keyed->Keyed->Prop} {T o ra rb:List Keyed}
theorem Mg.swap (m:Mg R T o ra rb):Mg R T o rb ra:=⟨(List.Perm.append_left o List.perm_append_comm).trans m.pm,m.so,m.sb,m.sa,m.ob,m.oa⟩
theorem Mg.put {u:List Keyed} (m:Mg R T o (u++ra) rb) (h:∀y∈u,∀z∈rb,R y z):Mg R T (o++u) ra rb:=by
 have⟨s1,s2,s3⟩:=bP.mp m.sa
 refine⟨?_,bP.mpr ⟨m.so,s1,fun x hx y hy=>m.oa x hx y (bf _ hy)⟩,s2,m.sb,?_,?_⟩
 .have:=m.pm;simpa[aS]using this
 .intro x hx y hy
  rcases aT.mp hx with hx|hx
  .exact m.oa x hx y (aj _ hy)
  .exact s3 x hx y hy
 .intro x hx y hy
  rcases aT.mp hx with hx|hx
  .exact m.ob x hx y hy
  .exact h x hx y hy
theorem Mg.put1 {u:Keyed} (m:Mg R T o (u :: ra) rb) (h:∀z∈rb,R u z):Mg R T (o++[u]) ra rb:=
 Mg.put (u:=[u]) m fun y hy=>by rw[cG]at hy;subst hy;exact h
theorem Mg.putB {u:List Keyed} (m:Mg R T o ra (u++rb)) (h:∀y∈u,∀z∈ra,R y z):Mg R T (o++u) ra rb:=(m.swap.put h).swap
theorem Mg.putB1 {u:Keyed} (m:Mg R T o ra (u :: rb)) (h:∀z∈ra,R u z):Mg R T (o++[u]) ra rb:=(m.swap.put1 h).swap
theorem Mg.fin (m:Mg R T o ra rb) (h:∀y∈ra,∀z∈rb,R y z):(o++(ra++rb)).Perm T/\(o++(ra++rb)).Pairwise R:=by
 refine⟨m.pm,bP.mpr ⟨m.so,bP.mpr ⟨m.sa,m.sb,h⟩,fun x hx y hy=>?_⟩⟩
 rcases aT.mp hy with hy|hy
 .exact m.oa x hx y hy
 .exact m.ob x hx y hy
end
end So
namespace So
open PySem PySem.Spec PyProof.Rows
section
variable {M:Model} {A:Around} {E:Value->Shared->Prop} {s:Shared} {O:KeyOrd} {ky:Keyed->O.α} {P:Keyed->Prop} {kd:SortKind}
def gV' (st st':SortSt):Prop:=kindOf st'=kindOf st/\arrOf st'=arrOf st/\pendingOf st'=pendingOf st/\failedOf st'=failedOf st
theorem gV'.rfl' (st:SortSt):gV' st st:=⟨rfl,rfl,rfl,rfl⟩
theorem gV'.trans {a b c:SortSt} (h:gV' a b) (g:gV' b c):gV' a c:=⟨g.1.trans h.1,g.2.1.trans h.2.1,g.2.2.1.trans h.2.2.1,g.2.2.2.trans h.2.2.2⟩
theorem gV'.set (st:SortSt) (m:Nat):gV' st (SortSt.mk' (kindOf st) (arrOf st) (pendingOf st) m (failedOf st)):=⟨rfl,rfl,rfl,rfl⟩
def Rk (O:KeyOrd) (ky:Keyed->O.α) (p q:Keyed):Prop:=O.kle (ky p) (ky q)
theorem kT' {a:Array Keyed} {i:Nat} (h:i<a.size):∃p,a[i]?=some p/\p∈a.toList:=⟨a[i],by simp,by simp⟩
theorem kU' {a:Array Keyed} {i:Nat} {p:Keyed} (e:a[i]?=some p):a.toList.drop i=p :: a.toList.drop (i+1):=by
 have hi:i<a.size:=by
  rcases bA i a.size with h|h
  .exact h
  .rw[Array.getElem?_eq_none h]at e;cases e
 have:a[i]=p:=by rw[aA hi]at e;exact Option.some.inj e
 rw[cn (by simpa using hi)]
 simp[this]
theorem br' (a:Array Keyed) (i j:Nat):(a.extract i j).toList=(a.toList.drop i).take (j-i):=by
 simp[Array.toList_extract,List.extract_eq_take_drop]
theorem dH' (a:Array Keyed) (i:Nat):(a.extract i a.size).toList=a.toList.drop i:=by
 rw[br',bb];simp
theorem kV' (l:List Keyed) (i k:Nat):l.drop i=(l.drop i).take k++l.drop (i+k):=by
 rw[<- List.drop_drop,aW]
theorem b6' {a:Array Keyed} {i k:Nat} {p:Keyed} (h:p∈(a.toList.drop i).take k):∃n,n<k/\a[i+n]?=some p:=by
 obtain⟨n,hn,e⟩:=List.getElem_of_mem h
 have hl:n<k:=by simp at hn;omega
 refine⟨n,hl,?_⟩
 rw[cT,cU]at e
 simp at hn
 rw[aA (by omega)]
 simpa using e
theorem b7' {a:Array Keyed} {i:Nat} {p:Keyed} (h:p∈a.toList.drop i):∃n,i<=n/\a[n]?=some p:=by
 obtain⟨n,hn,e⟩:=List.getElem_of_mem h
 refine⟨i+n,by omega,?_⟩
 rw[cU]at e
 simp at hn
 rw[aA (by omega)]
 simpa using e
theorem xR' {R:Keyed->Keyed->Prop} {a:Array Keyed} (h:a.toList.Pairwise R) {i j:Nat} {p q:Keyed} (hij:i<j) (e:a[i]?=some p) (e2:a[j]?=some q):R p q:=by
 have hj:j<a.size:=by
  rcases bA j a.size with h|h
  .exact h
  .rw[Array.getElem?_eq_none h]at e2;cases e2
 have h1:a[i]=p:=by rw[aA (by omega)]at e;exact Option.some.inj e
 have h2:a[j]=q:=by rw[aA hj]at e2;exact Option.some.inj e2
 have:=bD.mp h i j (by simp;omega) (by simp;omega) hij
 simpa[h1,h2]using this
theorem ny' {a:Array Keyed} (h:a.toList.Pairwise (Rk O ky)) {i j:Nat} {p q:Keyed} (hij:i<=j) (e:a[i]?=some p) (e2:a[j]?=some q):O.kle (ky p) (ky q):=by
 by_cases g:i=j
 .subst g;rw[e]at e2;cases e2;exact KeyOrd.kle_refl _
 .exact xR' h (by omega) e e2
end
end So
namespace So
open PySem PySem.Spec PyProof.Rows
section
variable {M:Model} {A:Around} {E:Value->Shared->Prop} {s:Shared} {O:KeyOrd} {ky:Keyed->O.α} {P:Keyed->Prop} {kd:SortKind} {x y:Array Keyed}
def sP' (O:KeyOrd) (ky:Keyed->O.α) (x y r:Array Keyed):Prop:=r.toList.Perm (x.toList++y.toList)/\r.toList.Pairwise (Rk O ky)
def Wk (O:KeyOrd) (ky:Keyed->O.α) (x y o:Array Keyed) (i j:Nat):Prop:=Mg (Rk O ky) (x.toList++y.toList) o.toList (x.toList.drop i) (y.toList.drop j)/\i<=x.size/\j<=y.size
theorem Wk.dn {o:Array Keyed} {i j:Nat} (w:Wk O ky x y o i j) (e:j=y.size):sP' O ky x y (o++x.extract i x.size++y.extract j y.size):=by
 subst e
 have:=w.1.fin (fun p _ q hq=>by rw[List.drop_eq_nil_of_le (by simp)]at hq;cases hq)
 unfold sP'
 rw[bm,bm,dH',dH',aS]
 exact this
theorem Wk.la {o:Array Keyed} {i j:Nat} (w:Wk O ky x y o i j) (e:i+1=x.size) (hl:∀p q,x[x.size-1]?=some p->q∈y.toList->O.klt (ky q) (ky p)):sP' O ky x y (o++y.extract j y.size++x.extract i x.size):=by
 have:=w.1.swap.fin (fun q hq p hp=>by
  obtain⟨n,hn,e2⟩:=b7' hp
  have:n<x.size:=by
   rcases bA n x.size with h|h
   .exact h
   .rw[Array.getElem?_eq_none h]at e2;cases e2
  have:n=x.size-1:=by omega
  subst this
  exact KeyOrd.kle_of_klt (hl p q e2 (List.mem_of_mem_drop hq)))
 unfold sP'
 rw[bm,bm,dH',dH',aS]
 exact this
theorem Wk.putB {o:Array Keyed} {i j:Nat} {p q:Keyed} (w:Wk O ky x y o i j) (e1:x[i]?=some p) (e2:y[j]?=some q) (h:O.kle (ky q) (ky p)) (hj:j<y.size) (sx:x.toList.Pairwise (Rk O ky)):Wk O ky x y (o.push q) i (j+1):=by
 refine⟨?_,w.2.1,hj⟩
 have m:=w.1
 rw[kU' e2]at m
 rw[cx]
 refine m.putB1 fun z hz=>?_
 obtain⟨n,hn,e3⟩:=b7' hz
 exact KeyOrd.kle_trans h (ny' sx hn e1 e3)
theorem Wk.putA {o:Array Keyed} {i j:Nat} {p q:Keyed} (w:Wk O ky x y o i j) (e1:x[i]?=some p) (e2:y[j]?=some q) (h:O.kle (ky p) (ky q)) (hi:i<x.size) (sy:y.toList.Pairwise (Rk O ky)):Wk O ky x y (o.push p) (i+1) j:=by
 refine⟨?_,hi,w.2.2⟩
 have m:=w.1
 rw[kU' e1]at m
 rw[cx]
 refine m.put1 fun z hz=>?_
 obtain⟨n,hn,e3⟩:=b7' hz
 exact KeyOrd.kle_trans h (ny' sy hn e2 e3)
theorem Wk.manyA {o:Array Keyed} {i j k:Nat} {q:Keyed} (w:Wk O ky x y o i j) (e2:y[j]?=some q) (h:∀n p,n<k->x[i+n]?=some p->O.kle (ky p) (ky q)) (hi:i+k<=x.size) (sy:y.toList.Pairwise (Rk O ky)):
  Wk O ky x y (o++x.extract i (i+k)) (i+k) j:=by
 refine⟨?_,hi,w.2.2⟩
 have m:=w.1
 rw[kV' _ i k]at m
 rw[bm,br',cA]
 refine m.put fun p hp z hz=>?_
 obtain⟨n,hn,e3⟩:=b6' hp
 obtain⟨n2,hn2,e4⟩:=b7' hz
 exact KeyOrd.kle_trans (h n p hn e3) (ny' sy hn2 e2 e4)
theorem Wk.manyB {o:Array Keyed} {i j k:Nat} {p:Keyed} (w:Wk O ky x y o i j) (e1:x[i]?=some p) (h:∀n q,n<k->y[j+n]?=some q->O.klt (ky q) (ky p)) (hj:j+k<=y.size) (sx:x.toList.Pairwise (Rk O ky)):
  Wk O ky x y (o++y.extract j (j+k)) i (j+k):=by
 refine⟨?_,w.2.1,hj⟩
 have m:=w.1
 rw[kV' _ j k]at m
 rw[bm,br',cA]
 refine m.putB fun q hq z hz=>?_
 obtain⟨n,hn,e3⟩:=b6' hq
 obtain⟨n2,hn2,e4⟩:=b7' hz
 exact KeyOrd.kle_trans (KeyOrd.kle_of_klt (h n q hn e3)) (ny' sx hn2 e1 e4)
end
end So
namespace So
open PySem PySem.Spec PyProof.Rows
def dnH (x y o:Array Keyed) (i j:Nat):Array Keyed:=x.extract 0 i++y.extract 0 j++o.reverse
def fbH (x y o:Array Keyed) (i j:Nat):Array Keyed:=y.extract 0 j++x.extract 0 i++o.reverse
abbrev TG:Type:=Option (Array Keyed)×Nat×Nat×Array Keyed×Nat×Nat×Nat
abbrev TI:Type:=Option (Array Keyed)×Nat×Nat×Array Keyed×Nat×Nat
abbrev TO:Type:=Option (Array Keyed)×Nat×Nat×Array Keyed×Nat
def hi3 (x y:Array Keyed) (i j:Nat) (o:Array Keyed) (mg ca cb:Nat):StateT SortSt Sem (ForInStep TG):=do
 let p <- elem' x (i-1)
 if(i-1 == 0)=true then pure (.done (some (dnH x y (o.push p) (i-1) j),i-1,j,o.push p,mg,ca,cb))
 else if(decide (ca<7)&&decide (cb<7))=true then pure (.done (none,i-1,j,o.push p,mg,ca,cb))else pure (.yield (none,i-1,j,o.push p,mg,ca,cb))
def hi2 (x y:Array Keyed) (i j:Nat) (o:Array Keyed) (mg ca cb:Nat):StateT SortSt Sem (ForInStep TG):=do
 let q <- elem' y (j-1)
 if(j-1 == 1)=true then pure (.done (some (fbH x y (o.push q) i (j-1)),i,j-1,o.push q,mg,ca,cb))
 else do
  let p <- elem' x (i-1)
  let r <- qw' true p y 0 (j-1) (j-1-1)
  match r with
  |some z=>
   if j-1-z > 0 then
    if(z == 1)=true then pure (.done (some (fbH x y (o.push q++(y.extract z (j-1)).reverse) i z),i,z,o.push q++(y.extract z (j-1)).reverse,mg,ca,j-1-z))
    else if(z == 0)=true then pure (.done (some (dnH x y (o.push q++(y.extract z (j-1)).reverse) i z),i,z,o.push q++(y.extract z (j-1)).reverse,mg,ca,j-1-z))
    else hi3 x y i z (o.push q++(y.extract z (j-1)).reverse) mg ca (j-1-z)
   else hi3 x y i (j-1) (o.push q) mg ca (j-1-z)
  |_=>pure (.done (some (dnH x y (o.push q) i (j-1)),i,j-1,o.push q,mg,ca,cb))
section
variable {M:Model} {A:Around} {E:Value->Shared->Prop} {s:Shared} {O:KeyOrd} {ky:Keyed->O.α} {P:Keyed->Prop} {kd:SortKind} {x y:Array Keyed}
theorem kW' {a:Array Keyed} {i:Nat} {p:Keyed} (e:a[i]?=some p):(a.toList.take (i+1)).reverse=p :: (a.toList.take i).reverse:=by
 have:a.toList[i]?=some p:=by simpa using e
 rw[List.take_add_one,this];simp
theorem fK' (a:Array Keyed) (i:Nat):(a.extract 0 i).toList=a.toList.take i:=by rw[br'];simp
theorem ph' (l:List Keyed) {z i:Nat} (h:z<=i):(l.take i).reverse=((l.drop z).take (i-z)).reverse++(l.take z).reverse:=by
 rw[<- List.reverse_append]
 congr 1
 rw[<- aW z (l.take i),List.take_take,List.drop_take]
 congr 2
 omega
theorem ck' {a:Array Keyed} {i:Nat} {p:Keyed} (h:p∈(a.toList.take i).reverse):∃n,n<i/\a[n]?=some p:=by
 obtain⟨n,hn,e⟩:=b6' (a:=a) (i:=0) (k:=i) (p:=p) (by simpa using h)
 exact⟨n,hn,by simpa using e⟩
def Wh (O:KeyOrd) (ky:Keyed->O.α) (x y o:Array Keyed) (i j:Nat):Prop:=Mg (fun p q=>Rk O ky q p) (x.toList++y.toList) o.toList (x.toList.take i).reverse (y.toList.take j).reverse/\i<=x.size/\j<=y.size
theorem Wh.dn {o:Array Keyed} {i j:Nat} (w:Wh O ky x y o i j) (e:i=0):sP' O ky x y (x.extract 0 i++y.extract 0 j++o.reverse):=by
 subst e
 have⟨h1,h2⟩:=w.1.swap.fin (fun q _ p hp=>by simp at hp)
 unfold sP'
 have e:(x.extract 0 0++y.extract 0 j++o.reverse).toList=(o.toList++((y.toList.take j).reverse++(x.toList.take 0).reverse)).reverse:=by
  rw[bm,bm,fK',fK'];simp
 rw[e]
 exact⟨(List.reverse_perm _).trans h1,List.pairwise_reverse.mpr h2⟩
theorem Wh.putA {o:Array Keyed} {i j:Nat} {p:Keyed} (w:Wh O ky x y o (i+1) j) (e1:x[i]?=some p) (h:∀n q,n<j->y[n]?=some q->O.kle (ky q) (ky p)):Wh O ky x y (o.push p) i j:=by
 refine⟨?_,by have:=w.2.1;omega,w.2.2⟩
 have m:=w.1
 rw[kW' e1]at m
 rw[cx]
 refine m.put1 fun z hz=>?_
 obtain⟨n,hn,e3⟩:=ck' hz
 exact h n z hn e3
theorem Wh.putB {o:Array Keyed} {i j:Nat} {q:Keyed} (w:Wh O ky x y o i (j+1)) (e2:y[j]?=some q) (h:∀n p,n<i->x[n]?=some p->O.kle (ky p) (ky q)):Wh O ky x y (o.push q) i j:=by
 refine⟨?_,w.2.1,by have:=w.2.2;omega⟩
 have m:=w.1
 rw[kW' e2]at m
 rw[cx]
 refine m.putB1 fun z hz=>?_
 obtain⟨n,hn,e3⟩:=ck' hz
 exact h n z hn e3
theorem Wh.manyA {o:Array Keyed} {i j z:Nat} (w:Wh O ky x y o i j) (hz:z<=i) (h:∀n p m q,z<=n->n<i->x[n]?=some p->m<j->y[m]?=some q->O.kle (ky q) (ky p)):Wh O ky x y (o++(x.extract z i).reverse) z j:=by
 refine⟨?_,by have:=w.2.1;omega,w.2.2⟩
 have m:=w.1
 rw[ph' _ hz]at m
 rw[bm,Array.toList_reverse,br']
 refine m.put fun p hp q hq=>?_
 obtain⟨n,hn,e3⟩:=b6' (List.mem_reverse.mp hp)
 obtain⟨n2,hn2,e4⟩:=ck' hq
 exact h _ p n2 q (by omega) (by omega) e3 hn2 e4
theorem Wh.manyB {o:Array Keyed} {i j z:Nat} (w:Wh O ky x y o i j) (hz:z<=j) (h:∀n q m p,z<=n->n<j->y[n]?=some q->m<i->x[m]?=some p->O.kle (ky p) (ky q)):Wh O ky x y (o++(y.extract z j).reverse) i z:=by
 refine⟨?_,w.2.1,by have:=w.2.2;omega⟩
 have m:=w.1
 rw[ph' _ hz]at m
 rw[bm,Array.toList_reverse,br']
 refine m.putB fun q hq p hp=>?_
 obtain⟨n,hn,e3⟩:=b6' (List.mem_reverse.mp hq)
 obtain⟨n2,hn2,e4⟩:=ck' hp
 exact h _ q n2 p (by omega) (by omega) e3 hn2 e4
end
end So
namespace So
open PySem PySem.Spec PyProof.Rows
section
variable {M:Model} {A:Around} {E:Value->Shared->Prop} {s:Shared} {O:KeyOrd} {ky:Keyed->O.α} {P:Keyed->Prop} {kd:SortKind}
end
end So
namespace So
open PySem PySem.Spec PyProof.Rows
section
variable {M:Model} {A:Around} {E:Value->Shared->Prop} {s:Shared} {O:KeyOrd} {ky:Keyed->O.α} {P:Keyed->Prop} {kd:SortKind} {st0:SortSt} {lo nrem:Nat}
def ke (ky:Keyed->O.α) (a:Array Keyed) (i:Nat):O.α:=ky ((a[i]?).getD (Value.none,Value.none))
theorem nz' {a:Array Keyed} {i:Nat} {p:Keyed} (h:a[i]?=some p):ke ky a i=ky p:=by unfold ke;rw[h];rfl
structure Sb (st0:SortSt) (lo:Nat) (st:SortSt):Prop where
 perm:(arrOf st).Perm (arrOf st0)
 same:∀i,i<lo->(arrOf st)[i]?=(arrOf st0)[i]?
 kind:kindOf st=kindOf st0
 fail:failedOf st=failedOf st0
 pend:pendingOf st=pendingOf st0
theorem Sb.rfl' (st0:SortSt) (lo:Nat):Sb st0 lo st0:=⟨Array.Perm.refl _,fun _ _=>rfl,rfl,rfl,rfl⟩
theorem Sb.size {st:SortSt} (B:Sb st0 lo st):(arrOf st).size=(arrOf st0).size:=B.perm.size_eq
theorem Sb.lt (C:Cmp M A E s O ky P kd) {st:SortSt} {i j:Nat} {Q:Option Bool->SortSt->Prop} (kst:kindOf st0=kd) (pa:∀p∈(arrOf st0).toList,P p) (B:Sb st0 lo st) (hi:i<(arrOf st0).size) (hj:j<(arrOf st0).size)
  (h:Q (some (O.blt (ke ky (arrOf st) i) (ke ky (arrOf st) j))) st):wpS M A E s (ltAt' i j) Q st:=by
 obtain⟨p,ep,mp⟩:=kT' (a:=arrOf st) (i:=i) (by rw[B.size];exact hi)
 obtain⟨q,eq,mq⟩:=kT' (a:=arrOf st) (i:=j) (by rw[B.size];exact hj)
 have pm:=Array.perm_iff_toList_perm.mp B.perm
 rw[ltAt'_eq]
 refine wpS_bind (wpS_get ?_)
 refine wpS_bind (iX' ep (wpS_bind (iX' eq (C.lt (pa p (pm.mem_iff.mp mp)) (pa q (pm.mem_iff.mp mq)) (B.kind.trans kst) ?_))))
 rw[nz' ep,nz' eq]at h
 exact h
def Si (ky:Keyed->O.α) (lo:Nat) (a:Array Keyed) (n:Nat):Prop:=∀i j,i<=j->j<n->O.kle (ke ky a (lo+i)) (ke ky a (lo+j))
def Ni (ky:Keyed->O.α) (lo:Nat) (a:Array Keyed) (n:Nat):Prop:=∀i j,i<=j->j<n->O.kle (ke ky a (lo+j)) (ke ky a (lo+i))
theorem Si.more {a:Array Keyed} {n:Nat} (h:Si ky lo a n) (h1:1<=n) (g:O.kle (ke ky a (lo+(n-1))) (ke ky a (lo+n))):Si ky lo a (n+1):=by
 intro i j hij hj
 by_cases c:j<n
 .exact h i j hij c
 .have e:j=n:=by omega
  subst e
  by_cases c2:i=j
  .subst c2;exact KeyOrd.kle_refl _
  .exact KeyOrd.kle_trans (h i (j-1) (by omega) (by omega)) g
theorem Ni.more {a:Array Keyed} {n:Nat} (h:Ni ky lo a n) (h1:1<=n) (g:O.kle (ke ky a (lo+n)) (ke ky a (lo+(n-1)))):Ni ky lo a (n+1):=by
 intro i j hij hj
 by_cases c:j<n
 .exact h i j hij c
 .have e:j=n:=by omega
  subst e
  by_cases c2:i=j
  .subst c2;exact KeyOrd.kle_refl _
  .exact KeyOrd.kle_trans g (h i (j-1) (by omega) (by omega))
end
end So
namespace So
open PySem PySem.Spec PyProof.Rows
section
variable {M:Model} {A:Around} {E:Value->Shared->Prop} {s:Shared} {O:KeyOrd} {ky:Keyed->O.α} {P:Keyed->Prop} {kd:SortKind} {st0:SortSt} {lo nrem:Nat}
end
end So
namespace So
open PySem PySem.Spec PyProof.Rows
section
variable {M:Model} {A:Around} {E:Value->Shared->Prop} {s:Shared} {O:KeyOrd} {ky:Keyed->O.α} {P:Keyed->Prop} {kd:SortKind} {st0:SortSt} {lo nrem:Nat}
inductive Rn (R:Keyed->Keyed->Prop):List (Nat×Nat×Nat)->List (List Keyed)->Nat->Prop
 |nil (a:Nat):Rn R [] [] a
 |cons {a:Nat} (w:Nat) {l:List Keyed} {p:List (Nat×Nat×Nat)} {L:List (List Keyed)}:0<l.length->l.Pairwise R->Rn R p L (a+l.length)->Rn R ((a,l.length,w) :: p) (l :: L) a
theorem Rn.len {R:Keyed->Keyed->Prop}:∀{p:List (Nat×Nat×Nat)} {L:List (List Keyed)} {a:Nat},Rn R p L a->p.length=L.length/\L.length<=L.flatten.length
 |_,_,_,.nil _=>⟨rfl,ae _⟩
 |_,_,_,.cons w h0 hs r=>by
  have⟨h1,h2⟩:=r.len
  refine⟨by simp[h1],?_⟩
  simp only[aE,bF,ap];omega
theorem Rn.push {R:Keyed->Keyed->Prop} {l:List Keyed} (h0:0<l.length) (hs:l.Pairwise R):∀{p:List (Nat×Nat×Nat)} {L:List (List Keyed)} {a:Nat},Rn R p L a->∀b,b=a+L.flatten.length->Rn R (p++[(b,l.length,0)]) (L++[l]) a
 |_,_,a,.nil _,b,e=>by
  have:b=a:=by simpa using e
  subst this
  exact .cons 0 h0 hs (.nil _)
 |_,_,a,.cons w g0 gs r,b,e=>.cons w g0 gs (r.push h0 hs b (by rw[e,bF,ap];omega))
theorem Rn.merge {R:Keyed->Keyed->Prop} {su nu pw sv nv pv:Nat}:∀{p:List (Nat×Nat×Nat)} {L:List (List Keyed)} {a i:Nat},Rn R p L a->p[i]?=some (su,nu,pw)->p[i+1]?=some (sv,nv,pv)->
  ∃L1 l1 l2 L2,L=L1++l1 :: l2 :: L2/\su=a+L1.flatten.length/\nu=l1.length/\sv=su+nu/\nv=l2.length/\0<nu/\0<nv/\l1.Pairwise R/\l2.Pairwise R/\
   ∀m,m.length=nu+nv->m.Pairwise R->Rn R ((p.set i (su,nu+nv,pw)).eraseIdx (i+1)) (L1++m :: L2) a
 |_,_,a,i,.nil _,e,_=>by simp at e
 |_,_,a,0,@Rn.cons _ _ w l p L h0 hs r,e,e2=>by
  have e':(a,l.length,w)=(su,nu,pw):=by simpa using e
  have e2':p[0]?=some (sv,nv,pv):=by simpa using e2
  obtain⟨rfl,rfl,rfl⟩:a=su/\l.length=nu/\w=pw:=by simpa using e'
  cases r with
  |nil _=>simp at e2'
  | @cons _ w2 l2 p2 L2 g0 gs r2=>
   obtain⟨rfl,rfl,rfl⟩:a+l.length=sv/\l2.length=nv/\w2=pv:=by simpa using e2'
   refine⟨[],l,l2,L2,rfl,by simp,rfl,rfl,rfl,h0,g0,hs,gs,fun m hm hsm=>?_⟩
   show Rn R ((a,l.length+l2.length,w) :: p2) (m :: L2) a
   rw[<- hm]
   refine .cons w (by omega) hsm ?_
   rw[hm,<- Nat.add_assoc];exact r2
 |_,_,a,i+1,@Rn.cons _ _ w l p L h0 hs r,e,e2=>by
  have e':p[i]?=some (su,nu,pw):=by simpa using e
  have e2':p[i+1]?=some (sv,nv,pv):=by simpa using e2
  obtain⟨L1,l1,l2,L2,rfl,a1,a2,a3,a4,a5,a6,a7,a8,a9⟩:=r.merge e' e2'
  refine⟨l :: L1,l1,l2,L2,rfl,by rw[a1,bF,ap];omega,a2,a3,a4,a5,a6,a7,a8,fun m hm hsm=>?_⟩
  have:=a9 m hm hsm
  exact .cons w h0 hs this
structure Wt (O:KeyOrd) (ky:Keyed->O.α) (kd:SortKind) (a0:Array Keyed) (st:SortSt) (L:List (List Keyed)) (T:List Keyed):Prop where
 ar:(arrOf st).toList=L.flatten++T
 rn:Rn (Rk O ky) (pendingOf st).toList L 0
 pm:(arrOf st).toList.Perm a0.toList
 kd:kindOf st=kd
 fl:failedOf st=none
theorem Wt.size {a0:Array Keyed} {st:SortSt} {L:List (List Keyed)} {T:List Keyed} (w:Wt O ky kd a0 st L T):(arrOf st).size=a0.size:=by
 have:=w.pm.length_eq;simpa using this
theorem Wt.pa {a0:Array Keyed} {st:SortSt} {L:List (List Keyed)} {T:List Keyed} (w:Wt O ky kd a0 st L T) (pa:∀p∈a0.toList,P p):∀p∈(arrOf st).toList,P p:=fun p hp=>pa p (w.pm.mem_iff.mp hp)
theorem Sb.split {U T:List Keyed} {st:SortSt} {n:Nat} (B:Sb st0 lo st) (e:(arrOf st0).toList=U++T) (hl:U.length=lo) (hn:lo+n<=(arrOf st0).size) (S:Si ky lo (arrOf st) n):
  ∃l T',(arrOf st).toList=U++(l++T')/\l.length=n/\l.Pairwise (Rk O ky):=by
 have hz:(arrOf st).toList.length=(arrOf st0).size:=by rw[ak];exact B.size
 have eU:(arrOf st).toList.take lo=U:=by
  apply bG
  intro i
  by_cases hi:i<lo
  .rw[cw hi]
   have h1:=B.same i hi
   have h2:(arrOf st0).toList[i]?=U[i]?:=by rw[e,bq (by omega)]
   rw[<- h2];simpa using h1
  .rw[ba (by rw[aC];omega),ba (by omega)]
 refine⟨((arrOf st).toList.drop lo).take n,(arrOf st).toList.drop (lo+n),?_,by rw[aC,bQ];omega,?_⟩
 .rw[<- eU,<- kV',aW]
 .rw[bD]
  intro i j hi hj hij
  have hj':j<n:=by rw[aC]at hj;omega
  have:=S i j (by omega) hj'
  have a1:(arrOf st)[lo+i]?=some (((arrOf st).toList.drop lo).take n)[i]:=by
   rw[cT,cU,aA (by simp at hz;omega)];simp
  have a2:(arrOf st)[lo+j]?=some (((arrOf st).toList.drop lo).take n)[j]:=by
   rw[cT,cU,aA (by simp at hz;omega)];simp
  rw[nz' a1,nz' a2]at this
  exact this
end
end So
namespace L2
open PySem PySem.Spec PyProof.Rows So
section
variable {prog:Program} {w:World} {A:Around} {E:Value->Shared->Prop} {s:Shared}
end
section
variable {X:Cx}
end
abbrev Itm:Type:=Int ⊕ PySem.Str
def Ay':Itm->Value->Prop
 | .inl i,v=>∃t,v=.int i t
 | .inr x,v=>∃t,v=.str x t
inductive ItsAre:List Value->List Itm->Prop
 |nil:ItsAre [] []
 |cons {v:Value} {a:Itm} {vs:List Value} {l:List Itm}:Ay' a v->ItsAre vs l->ItsAre (v :: vs) (a :: l)
theorem ItsAre.len:∀{vs:List Value} {l:List Itm},ItsAre vs l->vs.length=l.length
 |_,_,.nil=>rfl
 |_,_,.cons _ r=>by simp[r.len]
section
variable {prog:Program} {w:World} {A:Around} {E:Value->Shared->Prop} {s:Shared}
end
section
variable {X:Cx}
end
end L2
namespace PySem
def Rsn (xs:Array Nat):Prop:=xs.toList.Pairwise (· < ·)
theorem iY' {xs:Array Nat} (hr:Rsn xs) {i j:Nat} (hij:i<j) (hj:j<xs.size):xs[i]'(by omega)<xs[j]:=by
 have:=bD.mp hr i j (by rw[ak];omega) (by rw[ak];omega) hij
 simpa using this
theorem ga' {xs:Array Nat} (hr:Rsn xs) (j:Nat):∀(f lo hi:Nat),lo<=hi->hi<=xs.size->hi-lo<=f->(∀i (h:i<xs.size),i<lo->xs[i]<j)->(∀i (h:i<xs.size),hi<=i->j<=xs[i])->
  SetTable.below.go xs j f lo hi<=xs.size/\(∀i (h:i<xs.size),i<SetTable.below.go xs j f lo hi->xs[i]<j)/\(∀i (h:i<xs.size),SetTable.below.go xs j f lo hi<=i->j<=xs[i])
 |0,lo,hi,h1,h2,h3,a,b=>by
  have e:lo=hi:=by omega
  subst e
  exact⟨h2,a,b⟩
 |f+1,lo,hi,h1,h2,h3,a,b=>by
  unfold SetTable.below.go
  by_cases hl:lo<hi
  .rw[if_pos hl]
   dsimp only
   have hm:(lo+hi) / 2<xs.size:=by omega
   have eg:xs.getD ((lo+hi) / 2) j=xs[(lo+hi) / 2]:=by simp[Array.getD,hm]
   rw[eg]
   by_cases hx:xs[(lo+hi) / 2]<j
   .rw[if_pos hx]
    refine ga' hr j f _ _ (by omega) h2 (by omega) (fun i h hi'=>?_) b
    by_cases e:i=(lo+hi) / 2
    .subst e;exact hx
    .exact Nat.lt_trans (iY' hr (by omega) hm) hx
   .rw[if_neg hx]
    refine ga' hr j f _ _ (by omega) (by omega) (by omega) a fun i h hi'=>?_
    by_cases e:i=(lo+hi) / 2
    .subst e;omega
    .have:=iY' hr (i:=(lo+hi) / 2) (j:=i) (by omega) h
     omega
  .rw[if_neg hl]
   have e:lo=hi:=by omega
   subst e
   exact⟨h2,a,b⟩
theorem dI' {xs:Array Nat} (hr:Rsn xs) (j:Nat):SetTable.below xs j<=xs.size/\(∀i (h:i<xs.size),i<SetTable.below xs j->xs[i]<j)/\(∀i (h:i<xs.size),SetTable.below xs j<=i->j<=xs[i]):=
 ga' hr j _ _ _ (aM _) (ae _) (ae _) (fun _ _ z=>absurd z (Nat.not_lt_zero _)) fun i h z=>absurd h (by omega)
theorem nA' {xs:Array Nat} (hr:Rsn xs) {j:Nat} (h:xs[SetTable.below xs j]?≠some j):j∉xs.toList:=by
 intro hm
 obtain⟨i,hi,e⟩:=cu.mp hm
 rw[ak]at hi
 rw[Array.getElem_toList]at e
 obtain⟨h1,h2,h3⟩:=dI' hr j
 have hle:SetTable.below xs j<=i:=cB fun z=>by have:=h2 i hi z;omega
 by_cases hq:SetTable.below xs j=i
 .rw[hq]at h
  exact h (by rw[aA hi,e])
 .have:=iY' hr (i:=SetTable.below xs j) (j:=i) (by omega) hi
  have:=h3 _ (by omega) (ae (SetTable.below xs j))
  omega
theorem fL' {xs:Array Nat} (hr:Rsn xs) {j:Nat} (h:xs[SetTable.below xs j]?≠some j):Rsn (SetTable.insertAt xs (SetTable.below xs j) j):=by
 obtain⟨h1,h2,h3⟩:=dI' hr j
 have hn:=nA' hr h
 unfold Rsn
 rw[SetTable.toList_insertAt]
 first
 |rw[aS,List.singleton_append]
 |skip
 rw[bP,List.pairwise_cons]
 have hT:∀a∈xs.toList.take (SetTable.below xs j),a<j:=by
  intro a ha
  obtain⟨i,hi,e⟩:=cu.mp ha
  rw[aC,ak]at hi
  rw[cT,Array.getElem_toList]at e
  have:=h2 i (by omega) (by omega)
  omega
 have hD:∀b∈xs.toList.drop (SetTable.below xs j),j<b:=by
  intro b hb
  obtain⟨i,hi,e⟩:=cu.mp hb
  rw[bQ,ak]at hi
  rw[cU,Array.getElem_toList]at e
  have:=h3 (SetTable.below xs j+i) (by omega) (by omega)
  have hne:b≠j:=fun z=>hn (z ▸ List.mem_of_mem_drop hb)
  omega
 refine⟨hr.sublist (List.take_sublist _ _),⟨hD,hr.sublist (List.drop_sublist _ _)⟩,fun a ha b hb=>?_⟩
 rcases ax.mp hb with rfl|hb
 .exact hT a ha
 .exact Nat.lt_trans (hT a ha) (hD b hb)
theorem gb' (t:SetTable) (hat:Nat->Int) (h:Int):∀(f:Nat) (p:SetTable.Probe) (j:Nat) (d:Option Nat),(∀x,p.dummy=some x->t.place[SetTable.below t.place x]?≠some x)->
  SetTable.probe.go t hat h f p=some (.empty j d)->t.place[SetTable.below t.place (d.getD j)]?≠some (d.getD j)
 |0,p,j,d,hp,e=>by unfold SetTable.probe.go at e;cases e
 |f+1,p,j,d,hp,e=>by
  unfold SetTable.probe.go at e
  have key:∀x,t.slot x≠.live (SetTable.below t.place x)->t.place[SetTable.below t.place x]?≠some x:=by
   intro x hx z
   apply hx
   unfold SetTable.slot
   simp[z]
  have adv:∀q:SetTable.Probe,(t.advance q).dummy=q.dummy:=by
   intro q
   unfold SetTable.advance
   split<;>rfl
  cases hs:t.slot p.j with
  |empty=>
   rw[hs]at e
   injection e with e
   injection e with e1 e2
   subst e1;subst e2
   cases hd:p.dummy with
   |none=>exact key _ (by show t.slot p.j≠_;rw[hs];exact fun z=>nomatch z)
   |some x=>exact hp x hd
  |dummy=>
   rw[hs]at e
   dsimp only at e
   refine gb' t hat h f _ j d (fun x hx=>?_) e
   rw[adv]at hx
   injection hx with hx
   subst hx
   exact key _ (by rw[hs];exact fun z=>nomatch z)
  |live i=>
   rw[hs]at e
   dsimp only at e
   by_cases hq:(hat i == h)=true
   .rw[if_pos hq]at e
    injection e with e
    cases e
   .rw[if_neg hq]at e
    refine gb' t hat h f _ j d (fun x hx=>?_) e
    rw[adv]at hx
    exact hp x hx
set_option tactic.hygienic true in
theorem qx' {t:SetTable} {h:Int} {slot:Nat} {b:Bool} (e:t.freeSlot h=some (slot,b)):t.place[SetTable.below t.place slot]?≠some slot:=by
 unfold SetTable.freeSlot at e
 split at e
 .rename_i j d hm
  injection e with e
  injection e with e1 e2
  subst e1
  unfold SetTable.probe at hm
  exact gb' t _ h _ _ j d (fun x hx=>by unfold SetTable.probeStart at hx;cases hx) hm
 .cases e
theorem dq' (t:SetTable) (n:Nat):Rsn (t.standIn n).place:=by
 unfold SetTable.standIn Rsn
 simp only[Array.toList_range]
 exact bS
def TOk (bt:Bool) (t:SetTable):Prop:=bt=true\/t.led=true/\Rsn t.place
theorem gc' {bt:Bool} {t:SetTable} {n:Nat} (h:TOk bt t):TOk bt (t.orStandIn n):=by
 unfold SetTable.orStandIn
 split
 .exact h
 .rcases h with h|⟨h1,_⟩
  .exact .inl h
  .exact .inr ⟨h1,dq' t n⟩
set_option tactic.hygienic true in
theorem jK' {bt:Bool} {t:SetTable} (es:Array (Int×Value)) (hh:Int) (x:Value) (h:TOk bt t):TOk bt (layNew t es hh x).2.1:=by
 unfold layNew
 split
 .rename_i slot wd e
  refine gc' ?_
  rcases h with h|⟨h1,h2⟩
  .exact .inl h
  .exact .inr ⟨h1,fL' h2 (qx' e)⟩
 .rcases h with h|⟨h1,_⟩
  .exact .inl h
  .exact .inr ⟨h1,dq' t _⟩
set_option tactic.hygienic true in
theorem kX' {bt:Bool} {t:SetTable} (es:Array (Int×Value)) (wd:Nat) (h:TOk bt t):TOk bt (relayAll t es wd).2.1:=by
 have hs:∀n,TOk bt (t.standIn n):=fun n=>by
  rcases h with h|⟨h1,_⟩
  .exact .inl h
  .exact .inr ⟨h1,dq' t n⟩
 unfold relayAll
 split
 .rename_i t' order e
  dsimp only
  split
  .unfold SetTable.relaid SetTable.laid at e
   cases ho:SetTable.layClean (SetTable.sizeAbove wd-1) (es.map fun x=>x.1)with
   |none=>rw[ho]at e;cases e
   |some owner=>
    rw[ho]at e
    injection e with e
    injection e with e1 e2
    subst e1
    rcases h with h|⟨h1,_⟩
    .exact .inl h
    .refine .inr ⟨h1,?_⟩
     unfold Rsn
     show List.Pairwise _ (List.map _ _)
     rw[bU]
     refine List.Pairwise.filterMap (R:=(· < ·)) _ (fun a a' haa b hb b' hb'=>?_) bS
     cases hx:owner.getD a none with
     |none=>simp[hx]at hb
     |some u=>
      cases hy:owner.getD a' none with
      |none=>simp[hy]at hb'
      |some u'=>
       simp[hx]at hb
       simp[hy]at hb'
       subst hb;subst hb'
       exact haa
  .exact hs _
 .exact hs _
end PySem
namespace PySem
namespace Ts
open SetTable
def u (x:Nat):Nat->Nat
 |0=>x
 |n+1=>5*u x n+1
theorem qy' (x a:Nat):∀b,u x (a+b)=u (u x a) b
 |0=>rfl
 |b+1=>by show 5*u x (a+b)+1=5*u (u x a) b+1;rw[qy' x a b]
theorem qz' (x:Nat):∀n,u x n=5 ^ n*x+u 0 n
 |0=>by simp[u]
 |n+1=>by
  show 5*u x n+1=5 ^ (n+1)*x+(5*u 0 n+1)
  rw[qz' x n,cY]
  have:5 ^ n*5*x=5*(5 ^ n*x):=by rw[cy (5 ^ n) 5,bY]
  omega
theorem kY':∀n,4*u 0 n+1=5 ^ n
 |0=>rfl
 |n+1=>by
  have:=kY' n
  rw[cY]
  show 4*(5*u 0 n+1)+1=_
  omega
theorem xS' (k:Nat):∃c,u 0 (2 ^ k)=2 ^ k*(2*c+1):=by
 induction k with
 |zero=>exact⟨0,rfl⟩
 |succ k ih=>
  obtain⟨c,hc⟩:=ih
  have h1:u 0 (2 ^ (k+1))=5 ^ (2 ^ k)*u 0 (2 ^ k)+u 0 (2 ^ k):=by
   rw[cY,Nat.mul_two,qy',qz' (u 0 (2 ^ k))]
  have h2:=kY' (2 ^ k)
  rw[<- h2]at h1
  generalize hs:u 0 (2 ^ k)=S at h1 hc
  rw[h1,cY]
  generalize 2 ^ k=p at hc
  refine⟨(2*c+1)*S+c,?_⟩
  have e1:p*((2*c+1)*S)=S*S:=by rw[<- bY,<- hc]
  have e2:(4*S+1)*S=4*(S*S)+S:=by rw[bO,cg,bY]
  have e3:p*2*(2*((2*c+1)*S+c)+1)=4*(p*((2*c+1)*S))+2*(p*(2*c+1)):=by
   rw[show 2*((2*c+1)*S+c)+1=2*((2*c+1)*S)+(2*c+1) by omega,cQ,cy p 2]
   generalize (2*c+1)*S=q
   rw[bY 2 p (2*q),Nat.mul_left_comm p 2 q,bY 2 p (2*c+1)]
   omega
  rw[e2,e3,e1,<- hc]
  omega
theorem tW' (z k:Nat):u z (2 ^ k) % 2 ^ (k+1)=(z+2 ^ k) % 2 ^ (k+1):=by
 obtain⟨c,hc⟩:=xS' k
 have h2:=kY' (2 ^ k)
 rw[qz',<- h2,hc,cY]
 generalize 2 ^ k=p
 have e:(4*(p*(2*c+1))+1)*z+p*(2*c+1)=z+p+p*2*(2*(2*c+1)*z+c):=by
  rw[bO,cg,cQ (p*2)]
  have e1:4*(p*(2*c+1))*z=p*2*(2*(2*c+1)*z):=by
   rw[bY p 2,<- bY 2 (2*(2*c+1)) z,<- bY 2 2,Nat.mul_left_comm 4 p,bY p]
  have e2:p*(2*c)=p*2*c:=by rw[bY]
  have e3:p*(2*c+1)=p*(2*c)+p:=by rw[cQ,Nat.mul_one]
  rw[e1,e3]
  omega
 rw[e,Nat.add_mul_mod_self_left]
theorem cyc:∀(k x y:Nat),∃n,n<2 ^ k/\u x n % 2 ^ k=y % 2 ^ k
 |0,x,y=>⟨0,by decide,by rw[Nat.pow_zero,Nat.mod_one,Nat.mod_one]⟩
 |k+1,x,y=>by
  obtain⟨n,hn,e⟩:=cyc k x y
  have hp:0<2 ^ k:=Nat.pow_pos (by decide)
  have h2:2 ^ (k+1)=2*2 ^ k:=by rw[cY,cy]
  by_cases h:u x n % 2 ^ (k+1)=y % 2 ^ (k+1)
  .exact⟨n,by omega,h⟩
  .refine⟨n+2 ^ k,by omega,?_⟩
   rw[qy',tW']
   generalize u x n=z at e h ⊢
   rw[h2]at h ⊢
   generalize 2 ^ k=p at e h hp ⊢
   have a1:z % (2*p)=z % p\/z % (2*p)=z % p+p:=by
    have:=Nat.mod_two_eq_zero_or_one (z / p)
    rw[cy 2 p,Nat.mod_mul]
    rcases this with q|q<;>rw[q]<;>simp
   have a2:y % (2*p)=y % p\/y % (2*p)=y % p+p:=by
    have:=Nat.mod_two_eq_zero_or_one (y / p)
    rw[cy 2 p,Nat.mod_mul]
    rcases this with q|q<;>rw[q]<;>simp
   rw[Nat.add_mod,cW (show p<2*p by omega)]
   have b1:=Nat.mod_lt z hp
   rcases a1 with q1|q1<;>rcases a2 with q2|q2
   .omega
   .rw[q1,q2,e,cW (by omega)]
   .rw[q1,q2,e,show y % p+p+p=y % p+2*p by omega,Nat.add_mod_right,cW (by omega)]
   .omega
end Ts
end PySem
namespace PySem
namespace Ts
open SetTable
def nxt (m:Nat) (p:Probe):Probe:=if p.more > 0 then { p with j:=p.j+1,more:=p.more-1 } else
 { p with j:=(leap m p.i p.perturb).1,more:=runEnd m (leap m p.i p.perturb).1-(leap m p.i p.perturb).1,i:=(leap m p.i p.perturb).1,perturb:=(leap m p.i p.perturb).2 }
def Pj (m:Nat) (h:Int):Nat->Probe
 |0=>{ j:=bits h % (m+1),more:=runEnd m (bits h % (m+1))-bits h % (m+1),i:=bits h % (m+1),perturb:=bits h,dummy:=none }
 |n+1=>nxt m (Pj m h n)
def Lp (m:Nat) (h:Int):Nat->Nat×Nat
 |0=>(bits h % (m+1),bits h)
 |l+1=>leap m (Lp m h l).1 (Lp m h l).2
def mo (m i:Nat):Nat:=runEnd m i-i
theorem xT' {m i:Nat}:mo m i<=9:=by unfold mo runEnd;split<;>omega
theorem tX' {m i k:Nat} (hi:i<=m) (hk:k<=mo m i):i+k<=m:=by
 unfold mo runEnd at hk
 split at hk<;>omega
def sg (m:Nat) (h:Int):Nat->Nat
 |0=>0
 |l+1=>sg m h l+mo m (Lp m h l).1+1
theorem tY' (m:Nat) (h:Int):∀l,sg m h l<=10*l
 |0=>ae _
 |l+1=>by
  have:=tY' m h l
  have:=@xT' m (Lp m h l).1
  show sg m h l+mo m (Lp m h l).1+1<=_
  omega
theorem il' {m:Nat} {h:Int} {l b:Nat} (e:Pj m h b={ j:=(Lp m h l).1,more:=mo m (Lp m h l).1,i:=(Lp m h l).1,perturb:=(Lp m h l).2,dummy:=none }):∀k,k<=mo m (Lp m h l).1->Pj m h (b+k)={ j:=(Lp m h l).1+k,more:=mo m (Lp m h l).1-k,i:=(Lp m h l).1,perturb:=(Lp m h l).2,dummy:=none }
 |0,_=>by rw[Nat.add_zero,e];rfl
 |k+1,hk=>by
  have ih:=il' e k (by omega)
  show nxt m (Pj m h (b+k))=_
  rw[ih]
  unfold nxt
  rw[if_pos (by show mo m _-k > 0;omega)]
  rfl
theorem kZ' (m:Nat) (h:Int):∀l,Pj m h (sg m h l)={ j:=(Lp m h l).1,more:=mo m (Lp m h l).1,i:=(Lp m h l).1,perturb:=(Lp m h l).2,dummy:=none }
 |0=>rfl
 |l+1=>by
  have e:=il' (kZ' m h l) _ (ae _)
  show nxt m (Pj m h (sg m h l+mo m (Lp m h l).1))=_
  rw[e]
  unfold nxt
  rw[if_neg (by show ¬(_-_ > 0);omega)]
  rfl
theorem gW' {m:Nat} {h:Int} {l k:Nat} (hk:k<=mo m (Lp m h l).1):Pj m h (sg m h l+k)={ j:=(Lp m h l).1+k,more:=mo m (Lp m h l).1-k,i:=(Lp m h l).1,perturb:=(Lp m h l).2,dummy:=none }:=il' (kZ' m h l) k hk
theorem iZ' {m:Nat} {h:Int}:∀{l n:Nat},n<sg m h l->∃l' k',l'<l/\k'<=mo m (Lp m h l').1/\n=sg m h l'+k'
 |0,n,hn=>absurd hn (Nat.not_lt_zero _)
 |l+1,n,hn=>by
  have hn:n<sg m h l+mo m (Lp m h l).1+1:=hn
  by_cases q:n<sg m h l
  .obtain⟨l',k',h1,h2,h3⟩:=iZ' q
   exact⟨l',k',by omega,h2,h3⟩
  .exact⟨l,n-sg m h l,by omega,by omega,by omega⟩
theorem nB' {m:Nat} {h:Int} (n:Nat):∃l k,k<=mo m (Lp m h l).1/\n=sg m h l+k:=by
 have hle:∀l,l<=sg m h l:=fun l=>by
  induction l with
  |zero=>exact ae _
  |succ l ih=>show l+1<=sg m h l+mo m (Lp m h l).1+1;omega
 obtain⟨l',k',_,h2,h3⟩:=iZ' (m:=m) (h:=h) (l:=n+1) (n:=n) (aD (cC n) (hle (n+1)))
 exact⟨l',k',h2,h3⟩
theorem qA' {m:Nat} {h:Int}:∀{l:Nat},(Lp m h l).1<=m
 |0=>bV (Nat.mod_lt _ (Nat.succ_pos _))
 |l+1=>bV (Nat.mod_lt _ (Nat.succ_pos _))
theorem xU' {m:Nat} {h:Int} {n:Nat}:(Pj m h n).j<=m:=by
 obtain⟨l,k,hk,rfl⟩:=nB' (m:=m) (h:=h) n
 rw[gW' hk]
 exact tX' qA' hk
theorem k0' {m:Nat} {h:Int}:∀{l:Nat},(Lp m h l).2=bits h / 32 ^ l
 |0=>by show bits h=_;simp
 |l+1=>by
  show(Lp m h l).2 / 32=_
  rw[k0',Nat.div_div_eq_div_mul,cY]
theorem qB' (h:Int):bits h<2 ^ 64:=by
 unfold bits
 have:=cH h (show(0:Int)<2 ^ 64 by decide)
 have:=Int.emod_nonneg h (show(2 ^ 64:Int)≠0 by decide)
 omega
theorem qC' {m:Nat} {h:Int} {l:Nat} (hl:13<=l):(Lp m h l).2=0:=by
 rw[k0']
 refine Nat.div_eq_of_lt (aD (qB' h) ?_)
 exact ay (show 2 ^ 64<=32 ^ 13 by decide) (Nat.pow_le_pow_right (by decide) hl)
theorem zZ' {m:Nat} {h:Int}:∀{n:Nat},(Lp m h (13+n)).1=u (Lp m h 13).1 n % (m+1)
 |0=>(cW (Nat.lt_succ_of_le qA')).symm
 |n+1=>by
  show((Lp m h (13+n)).1*5+1+(Lp m h (13+n)).2 / 32) % (m+1)=(5*u _ n+1) % (m+1)
  rw[qC' (by omega),zZ' (n:=n),Nat.zero_div,Nat.add_zero,cy]
  rw[Nat.add_mod,Nat.mul_mod,Nat.mod_mod,<- Nat.mul_mod,<- Nat.add_mod]
theorem tZ' {m k:Nat} (hk:m+1=2 ^ k) (h:Int) {y:Nat} (hy:y<=m):∃l,l<m+14/\(Lp m h l).1=y:=by
 obtain⟨n,hn,e⟩:=cyc k (Lp m h 13).1 y
 refine⟨13+n,by omega,?_⟩
 rw[zZ',hk,e,<- hk,cW (by omega)]
theorem t0' {m k:Nat} (hk:m+1=2 ^ k) (h:Int) {y:Nat} (hy:y<=m):∃n,n<10*(m+14)/\(Pj m h n).j=y:=by
 obtain⟨l,hl,e⟩:=tZ' hk h hy
 have:=tY' m h l
 exact⟨sg m h l,by omega,by rw[kZ'];exact e⟩
theorem xV' {P:Nat->Prop} {n:Nat} (h:P n):∃m,m<=n/\P m/\∀i,i<m->¬P i:=by
 induction n using Nat.strongRecOn with
 |ind n ih=>
  by_cases q:∃i,i<n/\P i
  .obtain⟨i,hi,pi⟩:=q
   obtain⟨m,h1,h2,h3⟩:=ih i hi pi
   exact⟨m,by omega,h2,h3⟩
  .exact⟨n,ae _,h,fun i hi pi=>q ⟨i,hi,pi⟩⟩
theorem k1':∀{l b:List Nat},l.Nodup->(∀i∈l,i∈b)->l.length<=b.length
 | [],_,_,_=>aM _
 |a :: l,b,h,hs=>by
  have ha:a∈b:=hs a (by simp)
  have:=k1' (l:=l) (b:=b.erase a) (bB.mp h).2 fun i hi=>by
   have hne:i≠a:=fun e=>(bB.mp h).1 (by rw[<- e];exact hi)
   exact(List.mem_erase_of_ne hne).mpr (hs i (by simp[hi]))
  rw[List.length_erase_of_mem ha]at this
  have:=List.length_pos_of_mem ha
  rw[aE]
  omega
theorem k2' {m:Nat} {l:List Nat} (h:l.length<=m):∃y,y<=m/\y∉l:=Classical.byContradiction fun z=>by
 have:=k1' (l:=au (m+1)) (b:=l) List.nodup_range fun i hi=>Classical.byContradiction fun q=>z ⟨i,bV (aw.mp hi),q⟩
 rw[aQ]at this
 omega
structure TabOk (t:SetTable) (es:Array (Int×Value)):Prop where
 rise:Rsn t.place
 le:∀p∈t.place.toList,p<=t.mask
 size:t.place.size=es.size
 dum:t.dummies=#[]
 pow:∃k,t.mask+1=2 ^ k
 room:t.place.size<=t.mask
 met:∀q∈t.place.toList.zip es.toList,∃n,(Pj t.mask q.2.1 n).j=q.1/\∀n',n'<n->(Pj t.mask q.2.1 n').j∈t.place.toList
theorem TabOk.end {t:SetTable} {es:Array (Int×Value)} (T:TabOk t es) (h:Int):∃N,N<10*(t.mask+14)/\(Pj t.mask h N).j∉t.place.toList/\∀n,n<N->(Pj t.mask h n).j∈t.place.toList:=by
 obtain⟨y,hy,hn⟩:=k2' (m:=t.mask) (l:=t.place.toList) (by rw[ak];exact T.room)
 obtain⟨k,hk⟩:=T.pow
 obtain⟨n,h1,h2⟩:=t0' hk h hy
 obtain⟨N,g1,g2,g3⟩:=xV' (P:=fun n=>(Pj t.mask h n).j∉t.place.toList) (n:=n) (by rw[h2];exact hn)
 exact⟨N,by omega,g2,fun i hi=>Classical.byContradiction (g3 i hi)⟩
end Ts
end PySem
namespace PySem
namespace Ts
open SetTable
theorem qD' (j:Nat):has #[] j=false:=by
 unfold has
 rfl
theorem TabOk.put {t:SetTable} {es:Array (Int×Value)} (T:TabOk t es) {h:Int} {x:Value} {N:Nat} (hN:(Pj t.mask h N).j∉t.place.toList) (hB:∀n,n<N->(Pj t.mask h n).j∈t.place.toList) (hroom:es.size+1<=t.mask):
  TabOk (t.put (Pj t.mask h N).j).1 (insertAt es (t.put (Pj t.mask h N).j).2 (h,x)):=by
 have hb:=dI' T.rise (Pj t.mask h N).j
 have hne:t.place[below t.place (Pj t.mask h N).j]?≠some (Pj t.mask h N).j:=fun z=>hN (by rw[Array.mem_toList_iff];exact Array.mem_of_getElem? z)
 have hp:(t.put (Pj t.mask h N).j).1={ t with place:=insertAt t.place (below t.place (Pj t.mask h N).j) (Pj t.mask h N).j }:=by
  unfold SetTable.put
  rw[T.dum,qD']
  have hd:=T.dum
  cases t
  cases hd
  rfl
 have hp2:(t.put (Pj t.mask h N).j).2=below t.place (Pj t.mask h N).j:=rfl
 rw[hp,hp2]
 generalize hj:(Pj t.mask h N).j=j at *
 generalize hq:below t.place j=p at *
 have hl:(List.take p t.place.toList).length=(List.take p es.toList).length:=by
  rw[aC,aC,ak,ak,T.size]
 have hmem:∀y,y∈(insertAt t.place p j).toList↔y=j\/y∈t.place.toList:=by
  intro y
  rw[toList_insertAt]
  conv=>rhs;rw[<- aW p t.place.toList]
  simp only[aT,ax]
  constructor
  .rintro(a|a|a)
   .exact .inr (.inl a)
   .exact .inl a
   .exact .inr (.inr a)
  .rintro(a|a|a)
   .exact .inr (.inl a)
   .exact .inl a
   .exact .inr (.inr a)
 have hsz:∀{α:Type} (xs:Array α) (y:α),(insertAt xs p y).size=xs.size+1:=fun xs y=>by
  rw[<- ak,toList_insertAt]
  simp only[ap,aE,aC,bQ,ak]
  omega
 refine⟨?_,?_,?_,T.dum,T.pow,?_,?_⟩
 .have:=fL' T.rise (j:=j) (by rw[hq];exact hne)
  rw[hq]at this
  exact this
 .intro y hy
  rcases(hmem y).mp hy with rfl|hy
  .rw[<- hj];exact xU'
  .exact T.le y hy
 .show(insertAt t.place p j).size=_
  rw[hsz,hsz,T.size]
 .show(insertAt t.place p j).size<=t.mask
  rw[hsz,T.size]
  exact hroom
 .show ∀q∈(insertAt t.place p j).toList.zip (insertAt es p (h,x)).toList,∃n,(Pj t.mask q.2.1 n).j=q.1/\∀n',n'<n->_∈(insertAt t.place p j).toList
  rw[toList_insertAt t.place,toList_insertAt es,List.zip_append hl,List.zip_cons_cons,<- toList_insertAt t.place]
  have old:∀q∈t.place.toList.zip es.toList,∃n,(Pj t.mask q.2.1 n).j=q.1/\∀n',n'<n->(Pj t.mask q.2.1 n').j∈(insertAt t.place p j).toList:=fun q hq=>by
   obtain⟨n,h1,h2⟩:=T.met q hq
   exact⟨n,h1,fun n' hn'=>(hmem _).mpr (.inr (h2 n' hn'))⟩
  rw[<- aW p t.place.toList,<- aW p es.toList,List.zip_append hl]at old
  intro q hq
  rcases aT.mp hq with hq|hq
  .exact old q (bf _ hq)
  .rcases ax.mp hq with rfl|hq
   .exact⟨N,hj,fun n' hn'=>(hmem _).mpr (.inr (hB n' hn'))⟩
   .exact old q (aj _ hq)
structure OwnOk (m:Nat) (hs:List Int) (k:Nat) (ow:Array (Option Nat)):Prop where
 size:ow.size=m+1
 met:∀j i:Nat,ow[j]?=some (some i)->i<k/\∃h n,hs[i]?=some h/\(Pj m h n).j=j/\∀n',n'<n->∃z,ow[(Pj m h n').j]?=some (some z)
 all:∀i,i<k->∃j:Nat,ow[j]?=some (some i)
 uniq:∀i j j':Nat,ow[j]?=some (some i)->ow[j']?=some (some i)->j=j'
theorem OwnOk.free {m:Nat} {hs:List Int} {k:Nat} {ow:Array (Option Nat)} (O:OwnOk m hs k ow) (hk:k<=m):∃y,y<=m/\ow[y]?=some none:=Classical.byContradiction fun z=>by
 have full:∀y,y<=m->∃i,ow[y]?=some (some i):=fun y hy=>by
  have e:ow[y]?=some (ow[y]'(by have:=O.size;omega)):=aA _
  cases hv:ow[y]'(by have:=O.size;omega)with
  |none=>rw[hv]at e;exact absurd ⟨y,hy,e⟩ z
  |some i=>rw[hv]at e;exact⟨i,e⟩
 have:=k1' (l:=(au (m+1)).map fun y=>(ow.getD y none).getD 0) (b:=au k) ?_ ?_
 .rw[ac,aQ,aQ]at this
  omega
 .rw[List.Nodup,bU]
  refine List.Pairwise.imp_of_mem (fun {a b} ha hb hab=>?_) bS
  obtain⟨i,hi⟩:=full a (bV (aw.mp ha))
  obtain⟨i',hi'⟩:=full b (bV (aw.mp hb))
  rw[Array.getD_eq_getD_getElem?,Array.getD_eq_getD_getElem?,hi,hi']
  intro q
  have q:i=i':=q
  subst q
  exact absurd (O.uniq i a b hi hi') (by omega)
 .intro i hi
  obtain⟨y,hy,rfl⟩:=aR.mp hi
  obtain⟨i,hi⟩:=full y (bV (aw.mp hy))
  rw[Array.getD_eq_getD_getElem?,hi]
  exact aw.mpr (O.met y i hi).1
theorem k3' {m:Nat} {ow:Array (Option Nat)} (hs:ow.size=m+1) (h:Int) {L:Nat} (hL:ow[(Lp m h L).1]?=some none):∀(f l:Nat),l<=L->L-l<f->(∀n,n<sg m h l->∃z,ow[(Pj m h n).j]?=some (some z))->
  ∃n,layClean.free m ow f (Lp m h l).1 (Lp m h l).2=some (Pj m h n).j/\ow[(Pj m h n).j]?=some none/\∀n',n'<n->∃z,ow[(Pj m h n').j]?=some (some z)
 |0,l,_,hf,_=>absurd hf (Nat.not_lt_zero _)
 |f+1,l,hl,hf,hB=>by
  unfold layClean.free
  have e1:runEnd m (Lp m h l).1+1-(Lp m h l).1=mo m (Lp m h l).1+1:=by
   unfold mo runEnd
   split<;>omega
  rw[e1]
  have val:∀k,k<=mo m (Lp m h l).1->∃o,ow[(Lp m h l).1+k]?=some o/\ow.getD ((Lp m h l).1+k) (some 0)=o:=fun k hk=>by
   have hlt:(Lp m h l).1+k<ow.size:=by rw[hs];exact Nat.lt_succ_of_le (tX' qA' hk)
   exact⟨_,aA hlt,by simp[Array.getD,hlt]⟩
  cases hq:(au (mo m (Lp m h l).1+1)).find? fun k=>(ow.getD ((Lp m h l).1+k) (some 0)).isNone with
  |some k=>
   obtain⟨h1,h2,h3⟩:=List.find?_range_eq_some.mp hq
   have hk:k<=mo m (Lp m h l).1:=bV (aw.mp h2)
   refine⟨sg m h l+k,?_,?_,fun n' hn'=>?_⟩
   .dsimp only
    rw[gW' hk]
   .obtain⟨o,q1,q2⟩:=val k hk
    rw[q2]at h1
    rw[gW' hk,q1]
    cases o with
    |none=>rfl
    |some _=>cases h1
   .by_cases q:n'<sg m h l
    .exact hB n' q
    .obtain⟨d,rfl⟩:∃d,n'=sg m h l+d:=⟨n'-sg m h l,by omega⟩
     have hd:d<k:=by omega
     obtain⟨o,q1,q2⟩:=val d (by omega)
     have:=h3 d hd
     rw[q2]at this
     rw[gW' (by omega),q1]
     cases o with
     |none=>cases this
     |some z=>exact⟨z,rfl⟩
  |none=>
   have h3:=List.find?_range_eq_none.mp hq
   have hw:∀d,d<=mo m (Lp m h l).1->∃z,ow[(Lp m h l).1+d]?=some (some z):=fun d hd=>by
    obtain⟨o,q1,q2⟩:=val d hd
    have:=h3 d (by omega)
    rw[q2]at this
    cases o with
    |none=>cases this
    |some z=>exact⟨z,q1⟩
   have hne:l≠L:=fun e=>by
    obtain⟨z,hz⟩:=hw 0 (aM _)
    rw[Nat.add_zero,e,hL]at hz
    cases hz
   refine k3' hs h hL f (l+1) (by omega) (by omega) fun n hn=>?_
   by_cases q:n<sg m h l
   .exact hB n q
   .have hn:n<sg m h l+mo m (Lp m h l).1+1:=hn
    obtain⟨d,rfl⟩:∃d,n=sg m h l+d:=⟨n-sg m h l,by omega⟩
    rw[gW' (by omega)]
    exact hw d (by omega)
theorem OwnOk.step {m k:Nat} {hs:List Int} {ow:Array (Option Nat)} (O:OwnOk m hs k ow) (hk:k<=m) (hp:∃b,m+1=2 ^ b) {h:Int} (hh:hs[k]?=some h):∃j,layClean.free m ow (turns m) (bits h % (m+1)) (bits h)=some j/\OwnOk m hs (k+1) (ow.setIfInBounds j (some k)):=by
 obtain⟨y,hy,hye⟩:=O.free hk
 obtain⟨b,hb⟩:=hp
 obtain⟨L,hL,e⟩:=tZ' hb h hy
 obtain⟨n,h1,h2,h3⟩:=k3' O.size h (L:=L) (by rw[e];exact hye) (turns m) 0 (aM _) (by unfold turns;omega) fun n hn=>absurd hn (Nat.not_lt_zero _)
 refine⟨_,h1,?_⟩
 generalize hj:(Pj m h n).j=j at h2 ⊢
 have hlt:j<ow.size:=(Array.getElem?_eq_some_iff.mp h2).1
 have g:∀y,(ow.setIfInBounds j (some k))[y]?=if j=y then some (some k)else ow[y]?:=fun y=>by
  rw[Array.getElem?_setIfInBounds]
  by_cases q:j=y
  .rw[if_pos q,if_pos q,if_pos hlt]
  .rw[if_neg q,if_neg q]
 have mono:∀y z:Nat,ow[y]?=some (some z)->∃z,(ow.setIfInBounds j (some k))[y]?=some (some z):=fun y z e=>by
  rw[g]
  by_cases q:j=y
  .exact⟨k,by rw[if_pos q]⟩
  .exact⟨z,by rw[if_neg q];exact e⟩
 refine⟨by rw[Array.size_setIfInBounds];exact O.size,fun y i e=>?_,fun i hi=>?_,fun i y y' e e'=>?_⟩
 .rw[g]at e
  by_cases q:j=y
  .rw[if_pos q]at e
   injection e with e
   injection e with e
   subst e
   exact⟨cC _,h,n,hh,by rw[hj,q],fun n' hn'=>by obtain⟨z,hz⟩:=h3 n' hn';exact mono _ z hz⟩
  .rw[if_neg q]at e
   obtain⟨a1,h',n',a2,a3,a4⟩:=O.met y i e
   exact⟨cf a1,h',n',a2,a3,fun n'' hn=>by obtain⟨z,hz⟩:=a4 n'' hn;exact mono _ z hz⟩
 .rcases bA i k with z|z
  .obtain⟨y,hy⟩:=O.all i z
   refine⟨y,?_⟩
   rw[g,if_neg (fun q=>by rw[<- q,h2]at hy;cases hy)]
   exact hy
  .exact⟨j,by rw[g,if_pos rfl,show i=k by omega]⟩
 .rw[g]at e e'
  by_cases q:j=y<;>by_cases q':j=y'
  .omega
  .rw[if_pos q]at e
   rw[if_neg q']at e'
   injection e with e
   injection e with e
   subst e
   exact absurd (O.met y' _ e').1 (aU _)
  .rw[if_neg q]at e
   rw[if_pos q']at e'
   injection e' with e'
   injection e' with e'
   subst e'
   exact absurd (O.met y _ e).1 (aU _)
  .rw[if_neg q]at e
   rw[if_neg q']at e'
   exact O.uniq i y y' e e'
end Ts
end PySem
namespace PySem
section
variable {prog:Program} {w:World} {K:Type} [DecidableEq K] (knd:KeyKind prog w K)
def Dst (es:List (Int×Value)):Prop:=es.Pairwise fun a b=>∀k,knd.is k a.2=true->knd.is k b.2=true->False
def Obj.SetIt (o:Obj) (S:K->Bool) (n:Nat):Prop:=
 ∃es ep t,o.ExactSet/\o.data=.set es ep t/\ElemsOf knd es.toList/\(∀k,S k=true↔∃e∈es.toList,knd.is k e.2=true)/\es.size<scanBound/\t.fits es.size=true/\es.size=n
  /\ Dst knd es.toList/\TOk (w.params.followText "set-order") t
variable {knd}
variable {A:Around} {E:Value->Shared->Prop} {s:Shared}
theorem nC' {es es1:List (Int×Value)} {k:K} {hh:Int} {x:Value} (hd:Dst knd es) (hk:knd.is k x=true) (hel:ElemsOf knd es) (hno:∀e∈es,knd.is k e.2=false) (p:List.Perm es1 (es++[(hh,x)])):Dst knd es1:=by
 have h2:Dst knd (es++[(hh,x)]):=by
  unfold Dst
  rw[bP]
  refine⟨hd,List.pairwise_singleton _ _,fun a ha b hb k' q1 q2=>?_⟩
  rw[cG]at hb
  subst hb
  have e:=knd.inj x k' k q2 hk
  subst e
  rw[hno a ha]at q1
  cases q1
 exact(List.Perm.pairwise_iff (fun {a b} z k q1 q2=>z k q2 q1) p).mpr h2
theorem e1' {h:Heap} {a:Addr} {o:Obj} {es:Array (Int×Value)} {ep:Nat} {t:SetTable} (ho:h.get? a=some o) (hx:o.ExactSet) (hd:o.data=.set es ep t) {es1:Array (Int×Value)} {t1:SetTable} {S1:K->Bool} {n:Nat}
  (e1:ElemsOf knd es1.toList) (e2:∀k,S1 k=true↔∃e∈es1.toList,knd.is k e.2=true) (e3:es1.size<scanBound) (e4:t1.fits es1.size=true) (e5:es1.size=n) (e6:Dst knd es1.toList) (e7:TOk (w.params.followText "set-order") t1):
  ∃o1,(h.update a (Obj.putSet es1 t1)).get? a=some o1/\o1.ExactSet/\o1.data=.set es1 (ep+1) t1/\o1.SetIt knd S1 n:=by
 have eo:=putSet_of es1 t1 hd
 have hg:=aV (Obj.putSet es1 t1) ho (by rw[eo];rfl)
 rw[eo]at hg
 exact⟨_,hg,hx,rfl,es1,ep+1,t1,hx,rfl,e1,e2,e3,e4,e5,e6,e7⟩
theorem k4' {a:Addr} {o:Obj} {S:K->Bool} {n:Nat} {k:K} {x:Value} {Q:Bool->Shared->Prop} (hkey:knd.is k x=true) (hsc:x.scannable=true) (ho:s.heap.get? a=some o) (hS:o.SetIt knd S n) (hroom:n+1<scanBound)
  (h:∀h' o',bZ a s.heap h'->h'.get? a=some o'->o'.SetIt knd (fun j=>S j || decide (j=k)) (if S k then n else n+1)->Q (!S k) { s with heap:=h' }):
  wpAny (model prog w) A (setAddHashed a x (knd.hash k)) Q E s:=by
 obtain⟨es,ep,t,hex,hd,hel,hmem,hb,hf,hn,hdst,htk⟩:=id hS
 unfold setAddHashed setAddHashedIn
 refine bg (aa (bH ho hd hf ?_))
 dsimp only
 rw[byScan_of hsc hb hel,if_pos rfl]
 unfold setAddByScan
 refine aa (aa (cX (aa (wpAny_setScan_of hkey ho hd hf hel ?_))))
 cases hr:List.findIdx? (fun e=>knd.is k e.2) es.toList with
 |some j=>
  dsimp only
  obtain⟨hj,hpj,_⟩:=cm.mp hr
  have hSk:S k=true:=(hmem k).mpr ⟨_,List.getElem_mem hj,hpj⟩
  refine ag (ag ?_)
  have z:=h s.heap o (Heap.SameBut.refl a s.heap) ho ⟨es,ep,t,hex,hd,hel,fun k'=>by
   rw[cc,decide_eq_true_eq,<- hmem k']
   exact⟨fun q=>q.elim id fun q=>q ▸ hSk,.inl⟩,hb,hf,by rw[hSk];exact hn,hdst,htk⟩
  rw[hSk]at z
  exact z
 |none=>
  dsimp only
  have hno:∀e∈es.toList,knd.is k e.2=false:=fun e he=>by simpa using List.findIdx?_eq_none_iff.mp hr e he
  have hSk:S k=false:=by
   cases hk:S k with
   |false=>rfl
   |true=>obtain⟨e,he,hp⟩:=(hmem k).mp hk;rw[hno e he]at hp;cases hp
  have hp:=layNew_perm t es (knd.hash k) x
  have hfit:=layNew_fits t es (knd.hash k) x
  have htk1:=jK' es (knd.hash k) x htk
  rw[cx]at hp
  generalize layNew t es (knd.hash k) x=Y at hp hfit htk1 ⊢
  obtain⟨es1,t1,wd,gv⟩:=Y
  dsimp only at hp hfit htk1 ⊢
  have el1:ElemsOf knd es1.toList:=(hel.push hkey hsc).perm hp
  have me1:∀k',(S k' || decide (k'=k))=true↔∃e∈es1.toList,knd.is k' e.2=true:=mem_push_iff hkey hmem hp
  have sz1:es1.size=n+1:=by rw[<- ak,hp.length_eq,ap,ak,hn];rfl
  have d1:Dst knd es1.toList:=nC' hdst hkey hel hno hp
  have fin:∀h' o',bZ a s.heap h'->h'.get? a=some o'->o'.SetIt knd (fun j=>S j || decide (j=k)) (n+1)->Q true { s with heap:=h' }:=by
   intro h' o' z1 z2 z3
   have z:=h h' o' z1 z2
   rw[hSk]at z
   exact z z3
  have way:∀t2:SetTable,t2.fits es1.size=true->TOk (w.params.followText "set-order") t2->wpAny (model prog w) A (do
    storeSet a es1 t2
    if(!wd&&t2.tooFull)=true then do
      (match (relayAll t2 es1 (SetTable.grown es1.size)).2.2 with|true=>rule "set.scan.the-table-gave-way" | false=>pure ())
      storeSet a (relayAll t2 es1 (SetTable.grown es1.size)).1 (relayAll t2 es1 (SetTable.grown es1.size)).2.1
      pure (some true)
     else pure (some true)) (fun r s'=>r=some true/\Q true s') E s:=by
   intro t2 f2 k2
   refine aa (wpAny_storeSet_of ho hd ?_ (fits_of_scanBound (by rw[sz1];exact hroom)))
   obtain⟨o1,g1,x1,dt1,i1⟩:=e1' (knd:=knd) ho hex hd el1 me1 (by rw[sz1];exact hroom) f2 sz1 d1 k2
   have b1:=Heap.SameBut.update s.heap a (Obj.putSet es1 t2)
   split
   .have hp2:=relayAll_perm t2 es1 (SetTable.grown es1.size)
    have hf2:=relayAll_fits t2 es1 (SetTable.grown es1.size)
    have hk2:=kX' es1 (SetTable.grown es1.size) k2
    generalize relayAll t2 es1 (SetTable.grown es1.size)=Z at hp2 hf2 hk2 ⊢
    obtain⟨es2,t3,gv2⟩:=Z
    dsimp only at hp2 hf2 hk2 ⊢
    have sz2:es2.size=n+1:=by rw[<- ak,hp2.length_eq,ak,sz1]
    have stp:∀(X:Sem Unit),(∀Q':Unit->Shared->Prop,∀s1,Q' () s1->wpAny (model prog w) A X Q' E s1)->∀s1 Q',Q' () s1->wpAny (model prog w) A X Q' E s1:=fun X hX s1 Q' q=>hX Q' s1 q
    refine aa (stp _ (fun Q' s1 q=>by cases gv2<;>first|exact ag q|exact cX q) _ _ ?_)
    refine aa (wpAny_storeSet_of g1 dt1 ?_ (fits_of_scanBound (by rw[sz2];exact hroom)))
    obtain⟨o2,g2,x2,dt2,i2⟩:=e1' (knd:=knd) g1 x1 dt1 (el1.perm hp2) (fun k'=>(me1 k').trans ⟨fun⟨e,he,q⟩=>⟨e,hp2.mem_iff.mpr he,q⟩,fun⟨e,he,q⟩=>⟨e,hp2.mem_iff.mp he,q⟩⟩) (by rw[sz2];exact hroom) hf2 sz2
     ((List.Perm.pairwise_iff (fun {a b} z k q1 q2=>z k q2 q1) hp2).mpr d1) hk2
    exact ag ⟨rfl,fin _ o2 (b1.trans (Heap.SameBut.update _ a _)) g2 i2⟩
   .exact ag ⟨rfl,fin _ o1 b1 g1 i1⟩
  have hgw:∀(b:Bool) {s1:Shared} {Q':Unit->Shared->Prop},Q' () s1->wpAny (model prog w) A (match b with|true=>rule "set.scan.the-table-gave-way" | false=>pure ()) Q' E s1:=
   fun b s1 Q' q=>by cases b<;>first|exact ag q|exact cX q
  refine aa (hgw gv ?_)
  split
  .rw[hashByValue_scannable 8 hsc]
   refine aa (ag ?_)
   refine wpAny_mono (way _ ?_ ?_) (fun r s' q=>?_) fun _ _ z=>z
   .split
    .exact hfit
    .exact SetTable.fits_plain_off hfit
   .split
    .exact htk1
    .rcases htk1 with z|⟨z1,z2⟩
     .exact .inl z
     .exact .inr ⟨z1,z2⟩
   .obtain⟨rfl,q⟩:=q
    exact ag q
  .refine aa (ag ?_)
   rw[if_pos rfl]
   refine wpAny_mono (way _ hfit htk1) (fun r s' q=>?_) fun _ _ z=>z
   obtain⟨rfl,q⟩:=q
   exact ag q
theorem gX' {a:Addr} {o:Obj} {S:K->Bool} {n:Nat} (ho:s.heap.get? a=some o) (hS:o.SetIt knd S n):s.TypeIs (.ref a) "set":=let⟨_,_,_,hx,_⟩:=hS;⟨o,ho,hx.1⟩
theorem jL' {a:Addr} {o:Obj} {S:K->Bool} {n:Nat} {k:K} {x:Value} {Q:Value->Shared->Prop} (hkey:knd.is k x=true) (hsc:x.scannable=true) (ho:s.heap.get? a=some o) (hS:o.SetIt knd S n) (hroom:n+1<scanBound)
  (h:∀h' o',bZ a s.heap h'->h'.get? a=some o'->o'.SetIt knd (fun j=>S j || decide (j=k)) (if S k then n else n+1)->Q .none { s with heap:=h',toks:=s.toks+1 }):
  wpAny (model prog w) A (call (.builtin "set.add") [.ref a,x]) Q E s:=by
 refine bo F.slot_set_add (gX' ho hS) F.entry_set_add ?_ (F.args_set_add_2 _ _)
 unfold Builtin.«set.add» Builtin.Frozenset.oneOther
 simp only[List.isEmpty_nil,bind_assoc]
 unfold Builtin.Frozenset.addrOf setAdd
 refine aa (ag ?_)
 try dsimp only
 refine aa (ag ?_)
 try dsimp only
 refine aa (bg (aa (knd.pyHash hkey ?_)))
 refine k4' (s:={ s with toks:=s.toks+1 }) hkey hsc ho hS hroom fun h' o' z1 z2 z3=>?_
 exact ag ⟨_,rfl,h h' o' z1 z2 z3⟩
end
end PySem
namespace PySem
namespace Ts
open SetTable
section
variable {prog:Program} {w:World}
def elm (prog:Program) (w:World) (q:List Int×Addr):Int×Value:=(tupleKeyHash (intKind prog w) q.1,.ref q.2)
def Tup (prog:Program) (w:World) (h:Heap) (q:List Int×Addr):Prop:=IsTupleKey (intKind prog w) h q.1 q.2
structure MaskOk (t:SetTable):Prop where
 mask:t.mask∈[7,31,127,511,2047,8191]
 few:t.place.size*5<t.mask*3
theorem MaskOk.le {t:SetTable} (m:MaskOk t):7<=t.mask/\t.mask<=8191/\t.mask % 2=1:=by
 have:=m.mask
 simp only[ax,aO,or_false]at this
 omega
theorem TabOk.fits {t:SetTable} {es:Array (Int×Value)} (T:TabOk t es):t.fits es.size=true:=by
 unfold SetTable.fits SetTable.fill
 rw[T.dum,T.size]
 have:=T.room
 rw[T.size]at this
 simp[this]
variable {A:Around} {E:Value->Shared->Prop} {s:Shared}
structure Elms (prog:Program) (w:World) (h:Heap) (es:Array (Int×Value)) (t:SetTable) (L:List (List Int×Addr)):Prop where
 its:es.toList=L.map (elm prog w)
 tup:∀q∈L,Tup prog w h q
 nd:(L.map (·.1)).Nodup
 tab:TabOk t es
 mask:MaskOk t
end
end Ts
end PySem
namespace PySem
namespace Ts
open SetTable
section
variable {prog:Program} {w:World} {A:Around} {E:Value->Shared->Prop} {s:Shared}
theorem Tup.kept {h h':Heap} {a:Addr} {o:Obj} {es:Array (Int×Value)} {ep:Nat} {t:SetTable} {q:List Int×Addr} (hq:Tup prog w h q) (ho:h.get? a=some o) (hd:o.data=.set es ep t) (hs:bZ a h h'):Tup prog w h' q:=by
 obtain⟨o',items,n,ho',hc,hd',hi⟩:=hq
 have hne:q.2≠a:=by
  intro e
  rw[e,ho]at ho'
  cases ho'
  rw[hd]at hd';exact nomatch hd'
 exact⟨o',items,n,(hs.2 q.2 hne).trans ho',hc,hd',hi⟩
theorem TabOk.plain {t:SetTable} {es:Array (Int×Value)} (T:TabOk t es) (b:Bool):TabOk { t with plain:=b } es:=⟨T.rise,T.le,T.size,T.dum,T.pow,T.room,T.met⟩
end
end Ts
end PySem
namespace PySem
namespace Ts
open SetTable
section
variable {prog:Program} {w:World} {A:Around} {E:Value->Shared->Prop} {s:Shared}
end
end Ts
end PySem
namespace L2
open PySem PySem.Spec PyProof.Rows
def xW' (h:Heap) (a:Addr):Heap:=h.update a fun o=>{ o with data:=.freed }
def A8' (h:Heap) (S:List Addr):Heap:=S.foldl xW' h
def z0' (h:Heap) (e:Addr) (cls:Value) (T:Addr):Prop:=∃oe vs oT ts a0,h.get? e=some oe/\(oe.cls=cls/\vs[0]?=some a0)/\oe.data=.fields vs/\vs[1]?=some (.ref T)/\T≠e/\h.get? T=some oT/\oT.data=.fields ts/\ts[3]?=some .none
structure LeftX (F S:List Addr) (e:Addr) (cls:Value) (h h':Heap):Prop where
 keep:∀b o,b∉F->b∉S->h.get? b=some o->h'.get? b=some o
 slot:∀b o,b∈F->h.get? b=some o->∃sl,h'.get? b=some { o with slots:=sl }
 there:∀b o,b∉S->h.get? b=some o->∃o',h'.get? b=some o'
 exc:∃T,(h.get? T=none\/T∈S)/\z0' h' e cls T
section
variable {M:Model} {A:Around} {E:Value->Shared->Prop} {s:Shared}
end
structure FnCx (X:Cx):Prop where
 ex:X.ex=[]
 fn:∀x,X.fn x=true
 stk:X.stack=X.env :: X.outer
 fr:X.env.frame=some X.env.locals
theorem FnCx.frs {X:Cx} (F:FnCx X):L2.frs X.stack=X.env.locals :: X.fs:=by
 rw[F.stk]
 show List.filterMap _ _=_
 rw[aX,F.fr]
 rfl
section
variable {X:Cx} {pins:List (Addr×Obj)} {σ:St} {H:Hp} {s:Shared}
theorem Inv.left {S:List Addr} {e:Addr} {cls:Value} {h2:Heap} (I:Inv X pins σ H s) (F:FnCx X) (L:LeftX (frs X.stack) S e cls s.heap h2)
  (hS:∀b∈S,H b=none/\X.s₀.heap.get? b=none/\(∀p∈X.pn++pins,p.1≠b)/\∃o vs,s.heap.get? b=some o/\o.data=.fields vs):Inv X pins σ H { s with heap:=h2 }:=by
 have hF:=F.frs
 have nfs:∀{b:Addr},b≠X.env.locals->b∉X.fs->b∉frs X.stack:=fun {b} h1 h2 hb=>by
  rw[hF]at hb
  rcases ax.mp hb with z|z
  .exact h1 z
  .exact h2 z
 have cell_ok:∀x c oc v,X.env.cells.lookup x=some c->s.heap.get? c=some oc->oc.data=.cell v->h2.get? c=some oc:=fun x c oc v hx ho hd=>by
  refine L.keep c oc (nfs (I.cne x c hx) fun hb=>?_) (fun hb=>?_) ho
  .obtain⟨_,o,eo,_⟩:=I.ok.funs.mem hb
   exact aU _ (aD (av eo) (I.ok.cab x c (F.fn x) hx))
  .obtain⟨_,_,_,o,vs,eo,ed⟩:=hS c hb
   rw[ho]at eo;cases eo
   rw[hd]at ed;cases ed
 refine⟨I.ok,I.os,I.bare,⟨fun b o e0 n hb hx=>?_,fun b o e0 n hb hx=>?_,I.base.free,fun b o e0 hx=>?_,I.base.tups,I.base.frzs,I.base.tbls⟩,?_,fun x c hx=>?_,I.free,I.freeC,fun p hp=>?_,fun b u e=>?_,I.len⟩
 .have e1:=I.base.keep b o e0 n hb hx
  refine L.keep b o (nfs (aK (aD (av e0) I.ok.above)) hb) (fun z=>?_) e1
  rw[(hS b z).2.1]at e0;cases e0
 .obtain⟨sl,e1⟩:=I.base.slot b o e0 n hb hx
  obtain⟨sl2,e2⟩:=L.slot b _ (by rw[hF];exact aB _ hb) e1
  exact⟨sl2,e2⟩
 .obtain⟨o',e1⟩:=I.base.there b o e0 hx
  exact L.there b o' (fun z=>by rw[(hS b z).2.1]at e0;cases e0) e1
 .obtain⟨m,⟨o,es,ep,ho,hd,r⟩,hl⟩:=I.loc
  obtain⟨sl,e2⟩:=L.slot X.env.locals o (by rw[hF];exact aG) ho
  refine⟨m,⟨_,es,ep,e2,hd,r⟩,fun i x v h1 h2 h3=>?_⟩
  obtain⟨u,ru,q⟩:=hl i x v h1 h2 h3
  refine⟨u,ru,?_⟩
  rcases q with q|⟨k,c,hc,oc,ho,hd⟩
  .exact .inl q
  .exact .inr ⟨k,c,hc,oc,cell_ok x c oc _ hc ho hd,hd⟩
 .obtain⟨v,oc,ho,hd⟩:=I.cell x c hx
  exact⟨v,oc,cell_ok x c oc v hx ho hd,hd⟩
 .obtain⟨e,n,ne,nf,d⟩:=I.pin p hp
  exact⟨L.keep p.1 p.2 (nfs ne nf) (fun z=>(hS p.1 z).2.2.1 p hp rfl) e,n,ne,nf,d⟩
 .refine(I.hok b u e).stay (fun c v hc q=>?_) (fun _ q=>q) fun _ _ q=>q
  have tr:∃u',H c=some u':=by
   rcases hc with z|z
   .exact⟨u,by rw[z];exact e⟩
   .exact⟨_,z⟩
  obtain⟨u',hu⟩:=tr
  refine L.keep c v (fun hb=>?_) (fun hb=>?_) q
  .rw[I.stkFree c hb]at hu;cases hu
  .rw[(hS c hb).1]at hu;cases hu
def CX1 (P:Program) (w:World) (mg:Str->Option Value):CXT:=fun outer H s E e s'=>∃(ea T Ca:Addr) (nm:Str) (H':Hp),e=.ref ea/\mg nm=some (.ref Ca)/\s'.os=s.os/\AllBare s'.gens/\Un (frs outer) [] H H' s.heap s'.heap/\HOk P w H' s'.heap/\
 z0' s'.heap ea (.ref Ca) T/\H' ea=none/\H' T=none/\s.heap.get? ea=none/\s.heap.get? T=none/\E (.str nm 0) none H'
end
def bmV:List Value:=[.type "ValueError",.type "Exception",.type "BaseException",.type "object"]
section
variable {X:Cx}
end
section
variable {X:Cx} {pins:List (Addr×Obj)} {σ:St} {H:Hp} {s:Shared} {D:Ends} {hs:List ExceptHandler}
def Cx.inX (X:Cx) (e:Addr):Cx:={ X with A:=X.A.mark (some (.ref e)),calm:=false,xe:=fun _ _=>False }
def t1' (e Ca:Addr) (h:Heap):Prop:=∃o vs,h.get? e=some o/\o.cls=.ref Ca/\o.data=.fields vs
def A9' (e Ca:Addr):HO:=.ext (t1' e Ca)
end
end L2
namespace L2
open PySem PySem.Spec PyProof.Rows PySem.W
structure XCls (K:Frag) (C:Addr):Prop where
 ga:findIn K (.ref C) "__getattribute__"=some (some (.builtin "BaseException.__getattribute__"))
 gt:findIn K (.ref C) "__getattr__"=some none
 cl:findIn K (.ref C) "__class__"=some (some (.builtin "object.__class__"))
 be:subIn K (.ref C) (.type "BaseException")=some true
 ob:subIn K (.ref C) (.type "object")=some true
 is:(clsIn K C).isSome=true
section
variable {prog:Program} {w:World} {A:Around} {E:Value->Shared->Prop} {K:Frag} {h:Heap} {g:Array GenState} {d:Drawn} {t:Nat} {os:OsState} {a C:Addr} {o:Obj}
end
end L2
namespace L2
open PySem PySem.Spec PyProof.Rows PySem.W
section
variable {X:Cx}
end
def z1':Option Int->Value->Bool
 |some k,v=>Value.isInt k v
 |none,.none=>true
 |none,_=>false
theorem a0':∀{k:Option Int} {v:Value},z1' k v=true->(∃i t,k=some i/\v=Value.int i t)\/(k=none/\v=Value.none)
 |some i,v,h=>by
  obtain⟨t,e⟩:=Value.isInt_shape (k:=i) (v:=v) h
  exact .inl ⟨i,t,rfl,e⟩
 |none,v,h=>by cases v<;>first|exact .inr ⟨rfl,rfl⟩|cases h
def okH:Option Int->Int
 |some k=>hashInt k
 |none=>0xFCA86420
def gY' (prog:Program) (w:World):PySem.KeyKind prog w (Option Int) where
 is:=z1'
 hash:=okH
 inj:=fun v a b ha hb=>by
  rcases a0' ha with⟨i,t,rfl,rfl⟩|⟨rfl,rfl⟩
  .rcases a0' hb with⟨j,u,rfl,e⟩|⟨rfl,e⟩
   .injection e with e1 _;rw[e1]
   .exact nomatch e
  .rcases a0' hb with⟨j,u,rfl,e⟩|⟨rfl,e⟩
   .exact nomatch e
   .rfl
 byValue:=fun k v h=>by
  rcases a0' h with⟨i,t,rfl,rfl⟩|⟨rfl,rfl⟩<;>rfl
 pyHash:=fun hv h=>by
  rcases a0' hv with⟨i,t,rfl,rfl⟩|⟨rfl,rfl⟩
  .exact wpAny_pyHash_int h
  .exact eJ' h
 eqBool:=fun {A E s a b u v Q} hu hv h=>by
  rcases a0' hu with⟨i,t,rfl,rfl⟩|⟨rfl,rfl⟩
  .rcases a0' hv with⟨j,u,rfl,rfl⟩|⟨rfl,rfl⟩
   .have e:decide ((some i:Option Int)=some j)=(i == j):=by
     by_cases q:i=j
     .subst q;simp
     .rw[decide_eq_false (fun z=>q (Option.some.inj z)),(beq_eq_false_iff_ne.mpr q)]
    rw[e]at h
    exact wpAny_eqBool_int h
   .exact SeqAt.EqAt.int_none i t _ _ _ _ h
  .rcases a0' hv with⟨j,u,rfl,rfl⟩|⟨rfl,rfl⟩
   .exact SeqAt.EqAt.none_int j u _ _ _ _ h
   .exact SeqAt.EqAt.same .none _ _ _ _ h
 «strs»:=fun k x t v h=>by
  rcases a0' h with⟨i,u,rfl,e⟩|⟨rfl,e⟩<;>exact nomatch e
end L2
namespace PySem
open PyProof.Rows
section
variable {prog:Program} {w:World} {K:Type} [DecidableEq K] {knd:KeyKind prog w K}
variable {A:Around} {R:Result->Shared->Prop} {I:Addr} {fp wr:List Addr} {G:Array GenState->Array GenState->Prop} {n:Nat} {P:Nat->Value->Prop} {St:Nat->Shared->Prop}
end
section
variable {prog:Program} {w:World} {K:Type} [DecidableEq K] {knd:KeyKind prog w K} {A:Around} {E:Value->Shared->Prop} {s:Shared}
def gd' (led:Bool):Obj:={ cls:=.type "set",dict:=none,data:=.set #[] 0 (.fresh 0 0 led) }
theorem im':(gd' (!(w.params.followText "set-order"))).SetIt knd (fun _=>false) 0:=
 ⟨#[],0,_,⟨rfl,rfl,rfl⟩,rfl,fun e he=>by simp at he,fun k=>by simp,by decide,by rfl,rfl,by simp[Dst],by
  cases h:w.params.followText "set-order" with
  |true=>exact .inl rfl
  |false=>exact .inr ⟨rfl,by unfold Rsn;exact List.Pairwise.nil⟩⟩
theorem k5' {Q:Value->Shared->Prop} (h:Q (.ref s.heap.objs.size) { s with heap:=s.heap.push (gd' (!(w.params.followText "set-order"))) }):wpAny (model prog w) A (newSet (.type "set")) Q E s:=by
 unfold newSet setsByText
 refine aa (aa (bp (ag ?_)))
 exact aI h
end
end PySem
namespace PySem
open PyProof.Rows
namespace F
theorem gZ':Manifest.owners.lookup (String.ofList ['r','o','t','a','r','e','t','i','_','t','e','s'].reverse)=some Manifest.sig_set_iterator:=by kernel_rfl
theorem aF':Slot "set_iterator" "__next__" "set_iterator.__next__":=
 .of (owner:="set_iterator") (n:="__next__") (by rw[typeLookup_type,builtinLookup_eq_fast];kernel_rfl) (by decide +kernel) (by decide +kernel) (by decide +kernel)
  (by first|exact .inl (by decide +kernel)|exact .inr (by decide +kernel)) (by rw[isSubtype_type];kernel_rfl)
theorem dl':entryFor table "set_iterator.__next__"=some Builtin.«set_iterator.__next__»:=entryFor_of_tree (by kernel_rfl)
theorem dJ':Slot "set_iterator" "__iter__" "set_iterator.__iter__":=
 .of (owner:="set_iterator") (n:="__iter__") (by rw[typeLookup_type,builtinLookup_eq_fast];kernel_rfl) (by decide +kernel) (by decide +kernel) (by decide +kernel)
  (by first|exact .inl (by decide +kernel)|exact .inr (by decide +kernel)) (by rw[isSubtype_type];kernel_rfl)
theorem fz':entryFor table "set_iterator.__iter__"=some Builtin.«dict_keyiterator.__iter__»:=
 entryFor_alias (id':="dict_keyiterator.__iter__") (by kernel_rfl) (by first|rfl|decide +kernel|(unfold String.splitOn;simp +decide [String.splitOnAux])) (by decide +kernel) (by kernel_rfl)
theorem cY' (a:Value):argsOk "set_iterator.__next__" ⟨[a],[]⟩:=by
 unfold argsOk;rw[signature?_of (id:="set_iterator.__next__") (n:=['_','_','t','x','e','n','_','_']) (o:=['r','o','t','a','r','e','t','i','_','t','e','s']) (by kernel_rfl) gZ'];kernel_rfl
theorem e3' (a:Value):argsOk "set_iterator.__iter__" ⟨[a],[]⟩:=by
 unfold argsOk;rw[signature?_of (id:="set_iterator.__iter__") (n:=['_','_','r','e','t','i','_','_']) (o:=['r','o','t','a','r','e','t','i','_','t','e','s']) (by kernel_rfl) gZ'];kernel_rfl
theorem e4':entryFor table "set.__iter__"=some Builtin.«frozenset.__iter__»:=
 entryFor_alias (id':="frozenset.__iter__") (by kernel_rfl) (by first|rfl|decide +kernel|(unfold String.splitOn;simp +decide [String.splitOnAux])) (by decide +kernel) (by kernel_rfl)
end F
def Heap.IsSti (h:Heap) (a d:Addr) (f:Value) (i n ep:Nat):Prop:=∃o,h.get? a=some o/\o.cls=.type "set_iterator"/\o.data=.fields #[f,rawInt i,.ref d,rawInt n,rawInt ep]
theorem Heap.IsSti.at {h h':Heap} {a d:Addr} {f:Value} {i n ep:Nat} (x:h.IsSti a d f i n ep) (e:∀o,h.get? a=some o->h'.get? a=some o):h'.IsSti a d f i n ep:=let⟨o,ho,r⟩:=x;⟨o,e _ ho,r⟩
def Ord (bt:Bool) (w:World) (d ep:Nat) (es:Array (Int×Value)) (t:SetTable) (xs:Array Value) (h:Heap) (f:Value) (i:Nat):Prop:=
 (bt=true/\f=rawInt 0/\xs=(pickOrder (w.params.setOrder d ep) es).map (·.2))\/
 (bt=false/\(!t.plain&&decide (es.size > 1))=false/\Rsn t.place/\f=rawInt (if i=0 then 0 else((t.place.getD (i-1) 0+1:Nat):Int))/\xs=es.map (·.2))\/
 (bt=false/\∃(T:Addr) (pl:Array Nat),f=.ref T/\IsTup h T (pl.map fun(j:Nat)=>rawInt j)/\xs.size=pl.size/\∀(j p:Nat),pl[j]?=some p->∃x:Int×Value,es[p]?=some x/\xs[j]?=some x.2)
section
variable {prog:Program} {w:World} {A:Around} {E:Value->Shared->Prop} {s:Shared}
theorem Heap.IsSti.typeIs {a d:Addr} {f:Value} {i n ep:Nat} (x:s.heap.IsSti a d f i n ep):s.TypeIs (.ref a) "set_iterator":=let⟨o,ho,hc,_⟩:=x;⟨o,ho,hc⟩
theorem nD' {it d:Addr} {f:Value} {i n ep:Nat} {Q:Value->Shared->Prop} (hit:s.heap.IsSti it d f i n ep) (h:Q (.ref it) s):wpAny (model prog w) A (pyIter (.ref it)) Q E s:=by
 refine wpAny_pyIter_slot hit.typeIs F.dJ' (bo F.dJ' hit.typeIs F.fz' ?_ (F.e3' _))
 show wpAny _ _ (ret (.ref it)) _ _ s
 exact ag ⟨_,rfl,"set_iterator",_,hit.typeIs,F.aF'.lookup,h⟩
theorem fM' {xs:Array Nat} (hr:Rsn xs) {i:Nat} (hi:i<=xs.size):SetTable.below xs (Int.toNat (if i=0 then 0 else((xs.getD (i-1) 0+1:Nat):Int)))=i:=by
 by_cases h0:i=0
 .subst h0
  rw[if_pos rfl]
  obtain⟨h1,h2,h3⟩:=dI' hr (Int.toNat 0)
  by_cases hz:SetTable.below xs (Int.toNat 0)=0
  .exact hz
  .exact absurd (h2 0 (by omega) (by omega)) (by simp)
 .rw[if_neg h0,aZ]
  have hg:xs.getD (i-1) 0=xs[i-1]'(by omega):=by simp[Array.getD,show i-1<xs.size by omega]
  rw[hg]
  obtain⟨h1,h2,h3⟩:=dI' hr (xs[i-1]'(by omega)+1)
  refine Nat.le_antisymm (cB fun z=>?_) (cB fun z=>?_)
  .have q1:=h2 i (by omega) z
   have q2:=iY' hr (i:=i-1) (j:=i) (by omega) (by omega)
   omega
  .have q1:=h3 (i-1) (by omega) (by omega)
   omega
theorem ge' {α:Type}:∀(l:List α) (i:Nat) (h:i<l.length),(l[i] :: l.eraseIdx i).Perm l
 |a :: l,0,h=>List.Perm.refl _
 |a :: l,i+1,h=>by
  rw[List.eraseIdx_cons_succ,List.getElem_cons_succ]
  exact(List.Perm.swap a _ _).trans ((ge' l i (by simpa using h)).cons a)
theorem k7' {α:Type} (f:Nat->Nat):∀(n k:Nat) (l:List α) (out:Array α),n=l.length->(pickOrder.go f n k l out).toList.Perm (out.toList++l)
 |0,k,l,out,e=>by
  have:l=[]:=bx.mp e.symm
  subst this
  unfold pickOrder.go
  simp
 |n+1,k,l,out,e=>by
  unfold pickOrder.go
  have hl:f k % l.length<l.length:=Nat.mod_lt _ (by omega)
  rw[af hl]
  dsimp only
  refine(k7' f n (k+1) _ _ (by rw[List.length_eraseIdx_of_lt hl];omega)).trans ?_
  rw[cx,aS]
  refine List.Perm.append_left _ ?_
  rw[List.singleton_append]
  exact ge' l _ hl
theorem g0' {α:Type} (f:Nat->Nat) (xs:Array α):(pickOrder f xs).toList.Perm xs.toList:=by
 have:=k7' f xs.size 0 xs.toList #[] (by simp)
 simpa[pickOrder]using this
theorem nE' {it d:Addr} {o:Obj} {f:Value} {i ep:Nat} {es:Array (Int×Value)} {t:SetTable} {xs:Array Value} {v:Value} {Q:Option Value->Shared->Prop} (hit:s.heap.IsSti it d f i es.size ep) (hne:d≠it) (hT:∀T,f=.ref T->T≠it) (ho:s.heap.get? d=some o) (hd:o.data=.set es ep t)
  (hf:t.fits es.size=true) (htk:TOk (w.params.followText "set-order") t) (hor:Ord (w.params.followText "set-order") w d ep es t xs s.heap f i) (hx:xs[i]?=some v)
  (hQ:∀h' f',h'.IsSti it d f' (i+1) es.size ep->bZ it s.heap h'->Ord (w.params.followText "set-order") w d ep es t xs h' f' (i+1)->(∀T,f'=.ref T->f=.ref T)->Q (some v) { s with heap:=h' }):wpAny (model prog w) A (pyNext (.ref it)) Q E s:=by
 obtain⟨oi,hoi,hci,hdi⟩:=id hit
 have hfz:t.place.size=es.size:=by
  simp only[SetTable.fits,ai,beq_iff_eq]at hf
  exact hf.1
 unfold pyNext
 refine aa (wpAny_attempt (bL (name:=Str.ofString "__next__") hit.typeIs F.aF' (bo F.aF' hit.typeIs F.dl' ?_ (F.cY' _))))
 unfold Builtin.«set_iterator.__next__»
 refine aa (bz (a:=(Value.ref it,[])) rfl ?_)
 dsimp only
 refine aa (wpAny_fieldsOf hoi hdi ?_)
 dsimp only[rawInt]
 refine aa (wpAny_setEntries_of ho hd hf ?_)
 rw[if_neg (by simp)]
 have k1:∀(f1:Value) (h1:Heap),h1=(s.heap.update it (Obj.mapFields fun x=>x.setIfInBounds 0 f1)).update it (Obj.mapFields fun x=>x.setIfInBounds 1 (rawInt ((i:Int)+1)))->h1.IsSti it d f1 (i+1) es.size ep/\bZ it s.heap h1:=by
  intro f1 h1 e
  subst e
  have g1:=aV (Obj.mapFields fun x=>x.setIfInBounds 0 f1) hoi (Obj.isFreed_of_fields (Obj.data_mapFields hdi _))
  have g2:=aV (Obj.mapFields fun x=>x.setIfInBounds 1 (rawInt ((i:Int)+1))) g1 (Obj.isFreed_of_fields (Obj.data_mapFields (Obj.data_mapFields hdi _) _))
  exact⟨⟨_,g2,(Obj.cls_mapFields ..).trans ((Obj.cls_mapFields ..).trans hci),by rw[Obj.data_mapFields (Obj.data_mapFields hdi _)];simp[rawInt]⟩,(Heap.SameBut.update ..).trans (Heap.SameBut.update ..)⟩
 rcases id hor with⟨hb,rfl,hxs⟩|⟨hb,hdr,hrs,rfl,hxs⟩|⟨hb,T,pl,rfl,htp,hsz,hpl⟩
 .dsimp only[rawInt]
  unfold setNext
  refine aa (aa (bH ho hd hf ?_))
  dsimp only
  unfold setsByText
  refine aa (aa (bp (ag ?_)))
  show wpAny _ _ (if w.params.followText "set-order"=true then _ else _) _ _ _
  rw[if_pos hb]
  rw[if_neg (by simp)]
  unfold setWalk
  refine aa (aa (bH ho hd hf ?_))
  dsimp only
  unfold setsByText
  refine aa (aa (bp (ag ?_)))
  show wpAny _ _ (if w.params.followText "set-order"=true then _ else _) _ _ _
  rw[if_pos hb]
  refine aa (bp (ag ?_))
  have hv:(pickOrder (w.params.setOrder d ep) es)[i]?.map (·.2)=some v:=by
   rw[hxs,Array.getElem?_map]at hx
   exact hx
  obtain⟨p,hp,rfl⟩:∃p,(pickOrder (w.params.setOrder d ep) es)[i]?=some p/\p.2=v:=by
   cases hq:(pickOrder (w.params.setOrder d ep) es)[i]? with
   |none=>rw[hq]at hv;cases hv
   |some p=>rw[hq]at hv;exact⟨p,rfl,by injection hv⟩
  show wpAny _ _ (pure (Option.map (fun e=>(e.2,(0:Int).toNat)) (pickOrder (w.params.setOrder d ep) es)[(i:Int).toNat]?)) _ _ _
  rw[aZ,hp]
  refine ag ?_
  dsimp only[Option.map]
  refine aa (bI hoi hdi (by simp) ?_)
  have g1:=aV (Obj.mapFields fun x=>x.setIfInBounds 0 (rawInt ((0:Int).toNat:Int))) hoi (Obj.isFreed_of_fields (Obj.data_mapFields hdi _))
  refine aa (bI g1 (Obj.data_mapFields hdi _) (by simp) ?_)
  obtain⟨z1,z2⟩:=k1 (rawInt ((0:Int).toNat:Int)) _ rfl
  exact ag ⟨_,rfl,ag (hQ _ _ z1 z2 (.inl ⟨hb,rfl,hxs⟩) fun T z=>nomatch z)⟩
 .dsimp only[rawInt]
  have hi:i<es.size:=by
   rw[hxs]at hx
   have:=(Array.getElem?_eq_some_iff.mp hx).1
   rwa [Array.size_map]at this
  have hv:es[i].2=v:=by
   rw[hxs,Array.getElem?_map,aA hi]at hx
   injection hx
  unfold setNext
  refine aa (aa (bH ho hd hf ?_))
  dsimp only
  unfold setsByText
  refine aa (aa (bp (ag ?_)))
  show wpAny _ _ (if w.params.followText "set-order"=true then _ else _) _ _ _
  rw[if_neg (by rw[hb];exact am)]
  show wpAny _ _ (if(!t.plain&&decide (es.size > 1))=true then _ else _) _ _ _
  rw[if_neg (by rw[hdr];exact am)]
  have hled:t.led=true:=by
   rcases htk with z|z
   .rw[hb]at z;cases z
   .exact z.1
  refine aa ?_
  show wpAny _ _ (if(!t.led&&!es.isEmpty)=true then _ else _) _ _ _
  rw[if_neg (by rw[hled];simp)]
  refine ag ?_
  rw[fM' hrs (by omega)]
  rw[aA hi,aA (show i<t.place.size by omega)]
  refine ag ?_
  dsimp only
  refine aa (bI hoi hdi (by simp) ?_)
  have g1:=aV (Obj.mapFields fun x=>x.setIfInBounds 0 (rawInt ((t.place[i]'(by omega)+1:Nat):Int))) hoi (Obj.isFreed_of_fields (Obj.data_mapFields hdi _))
  refine aa (bI g1 (Obj.data_mapFields hdi _) (by simp) ?_)
  obtain⟨z1,z2⟩:=k1 (rawInt ((t.place[i]'(by omega)+1:Nat):Int)) _ rfl
  subst hv
  refine ag ⟨_,rfl,ag (hQ _ _ z1 z2 (.inr (.inl ⟨hb,hdr,hrs,?_,hxs⟩)) fun T z=>nomatch z)⟩
  rw[if_neg (by omega)]
  simp[Array.getD,show i<t.place.size by omega]
 .have hi:i<pl.size:=by
   have:=(Array.getElem?_eq_some_iff.mp hx).1
   omega
  dsimp only[rawInt]
  obtain⟨x,ex,exs⟩:=hpl i _ (aA hi)
  rw[exs]at hx
  injection hx with hx
  subst hx
  obtain⟨oT,hoT,hcT,nT,hdT⟩:=id htp
  refine aa ?_
  show wpAny _ _ (load T >>= _) _ _ _
  refine aa (wpAny_load hoT ?_)
  rw[hdT]
  refine ag ?_
  dsimp only
  have hg:(pl.map fun(j:Nat)=>rawInt j)[(i:Int).toNat]?=some (rawInt (pl[i]:Nat)):=by rw[aZ,Array.getElem?_map,aA hi];rfl
  rw[hg]
  dsimp only[rawInt]
  unfold setNextDrawn
  refine aa (aa (bH ho hd hf ?_))
  dsimp only
  rw[if_neg (by simp)]
  rw[aZ,ex]
  refine ag ?_
  refine aa (bI hoi hdi (by simp) ?_)
  have hsb:=Heap.SameBut.update s.heap it (Obj.mapFields fun x=>x.setIfInBounds 1 (rawInt ((i:Int)+1)))
  refine ag ⟨_,rfl,ag (hQ _ (.ref T) ⟨_,aV _ hoi (Obj.isFreed_of_fields (Obj.data_mapFields hdi _)),(Obj.cls_mapFields ..).trans hci,by rw[Obj.data_mapFields hdi];simp[rawInt]⟩ hsb (.inr (.inr ⟨hb,T,pl,rfl,pg' htp fun o e=>(hsb.2 T (hT T rfl)).trans e,hsz,hpl⟩)) fun T' z=>z)⟩
end
end PySem
namespace PySem
open PyProof.Rows
section
variable {prog:Program} {w:World} {A:Around} {E:Value->Shared->Prop} {s:Shared}
theorem qE' {it d:Addr} {o:Obj} {f:Value} {ep:Nat} {es:Array (Int×Value)} {t:SetTable} {xs:Array Value} {Q:Option Value->Shared->Prop} (hh:A.handled=none) (hit:s.heap.IsSti it d f es.size es.size ep) (ho:s.heap.get? d=some o) (hd:o.data=.set es ep t)
  (hf:t.fits es.size=true) (htk:TOk (w.params.followText "set-order") t) (hor:Ord (w.params.followText "set-order") w d ep es t xs s.heap f es.size) (hsx:xs.size=es.size)
  (hQ:∀h',Heap.ExtBut it s.heap h'->Q none { s with heap:=h' }):wpAny (model prog w) A (pyNext (.ref it)) Q E s:=by
 obtain⟨oi,hoi,hci,hdi⟩:=id hit
 have hfz:t.place.size=es.size:=by
  simp only[SetTable.fits,ai,beq_iff_eq]at hf
  exact hf.1
 unfold pyNext
 refine aa (wpAny_attempt (bL (name:=Str.ofString "__next__") hit.typeIs F.aF' (bo F.aF' hit.typeIs F.dl' ?_ (F.cY' _))))
 unfold Builtin.«set_iterator.__next__»
 refine aa (bz (a:=(Value.ref it,[])) rfl ?_)
 dsimp only
 refine aa (wpAny_fieldsOf hoi hdi ?_)
 dsimp only[rawInt]
 refine aa (wpAny_setEntries_of ho hd hf ?_)
 rw[if_neg (by simp)]
 rcases id hor with⟨hb,rfl,hxs⟩|⟨hb,hdr,hrs,rfl,hxs⟩|⟨hb,T,pl,rfl,htp,hsz,hpl⟩
 .dsimp only[rawInt]
  unfold setNext
  refine aa (aa (bH ho hd hf ?_))
  dsimp only
  unfold setsByText
  refine aa (aa (bp (ag ?_)))
  show wpAny _ _ (if w.params.followText "set-order"=true then _ else _) _ _ _
  rw[if_pos hb]
  rw[if_neg (by simp)]
  unfold setWalk
  refine aa (aa (bH ho hd hf ?_))
  dsimp only
  unfold setsByText
  refine aa (aa (bp (ag ?_)))
  show wpAny _ _ (if w.params.followText "set-order"=true then _ else _) _ _ _
  rw[if_pos hb]
  refine aa (bp (ag ?_))
  have hp:(pickOrder (w.params.setOrder d ep) es)[es.size]?=none:=by
   rw[hxs,Array.size_map]at hsx
   exact Array.getElem?_eq_none_iff.mpr (Nat.le_of_eq hsx)
  show wpAny _ _ (pure (Option.map (fun e=>(e.2,(0:Int).toNat)) (pickOrder (w.params.setOrder d ep) es)[(es.size:Int).toNat]?)) _ _ _
  rw[aZ,hp]
  refine ag ?_
  dsimp only[Option.map]
  refine aa (bI hoi hdi (by simp) ?_)
  have k:Heap.ExtBut it s.heap (s.heap.update it (Obj.mapFields fun x=>x.setIfInBounds 2 Value.none)):=(Heap.SameBut.update ..).extBut
  refine aa ?_
  simp only[newExc,newTuple]
  refine aa (aI ?_ (by size_fits))
  refine aa (m:=firstArgMember _ _) (bz (a:=Value.none) (by first|rfl|(simp only[firstArgMember];rfl)) ?_)
  refine aI ?_ (by size_fits)
  simp only[raiseNew]
  refine aa (wpAny_handled ?_)
  first|rw[show A.in1.handled=none from hh]|rw[hh]
  refine aa (ag (wpAny_throw ?_))
  refine aa (wpAny_isInstance (T:="StopIteration") (b:=true) ⟨_,ao _ rfl,rfl⟩ isSubtype_stop ?_)
  exact ag (hQ _ fun b o hb e=>((Heap.ExtBut.refl _ _).push _ |>.push _) b o hb (k b o hb e))
 .dsimp only[rawInt]
  unfold setNext
  refine aa (aa (bH ho hd hf ?_))
  dsimp only
  unfold setsByText
  refine aa (aa (bp (ag ?_)))
  show wpAny _ _ (if w.params.followText "set-order"=true then _ else _) _ _ _
  rw[if_neg (by rw[hb];exact am)]
  show wpAny _ _ (if(!t.plain&&decide (es.size > 1))=true then _ else _) _ _ _
  rw[if_neg (by rw[hdr];exact am)]
  have hled:t.led=true:=by
   rcases htk with z|z
   .rw[hb]at z;cases z
   .exact z.1
  refine aa ?_
  show wpAny _ _ (if(!t.led&&!es.isEmpty)=true then _ else _) _ _ _
  rw[if_neg (by rw[hled];simp)]
  refine ag ?_
  rw[show(if es.size=0 then(0:Int)else((t.place.getD (es.size-1) 0+1:Nat):Int))=(if t.place.size=0 then(0:Int)else((t.place.getD (t.place.size-1) 0+1:Nat):Int)) by rw[hfz]]
  rw[fM' hrs (ae _),hfz]
  rw[Array.getElem?_eq_none_iff.mpr (ae es.size)]
  refine ag ?_
  dsimp only
  refine aa (bI hoi hdi (by simp) ?_)
  have k:Heap.ExtBut it s.heap (s.heap.update it (Obj.mapFields fun x=>x.setIfInBounds 2 Value.none)):=(Heap.SameBut.update ..).extBut
  refine aa ?_
  simp only[newExc,newTuple]
  refine aa (aI ?_ (by size_fits))
  refine aa (m:=firstArgMember _ _) (bz (a:=Value.none) (by first|rfl|(simp only[firstArgMember];rfl)) ?_)
  refine aI ?_ (by size_fits)
  simp only[raiseNew]
  refine aa (wpAny_handled ?_)
  first|rw[show A.in1.handled=none from hh]|rw[hh]
  refine aa (ag (wpAny_throw ?_))
  refine aa (wpAny_isInstance (T:="StopIteration") (b:=true) ⟨_,ao _ rfl,rfl⟩ isSubtype_stop ?_)
  exact ag (hQ _ fun b o hb e=>((Heap.ExtBut.refl _ _).push _ |>.push _) b o hb (k b o hb e))
 .dsimp only[rawInt]
  obtain⟨oT,hoT,hcT,nT,hdT⟩:=id htp
  refine aa ?_
  show wpAny _ _ (load T >>= _) _ _ _
  refine aa (wpAny_load hoT ?_)
  rw[hdT]
  refine ag ?_
  dsimp only
  have hg:(pl.map fun(j:Nat)=>rawInt j)[(es.size:Int).toNat]?=none:=by rw[aZ];exact Array.getElem?_eq_none_iff.mpr (by rw[Array.size_map];omega)
  rw[hg]
  dsimp only
  refine aa (bI hoi hdi (by simp) ?_)
  refine aa (bI (aV _ hoi (Obj.isFreed_of_fields (Obj.data_mapFields hdi _))) (Obj.data_mapFields hdi _) (by simp) ?_)
  have k:Heap.ExtBut it s.heap ((s.heap.update it (Obj.mapFields fun x=>x.setIfInBounds 0 (rawInt 0))).update it (Obj.mapFields fun x=>x.setIfInBounds 2 Value.none)):=fun b o hb e=>
   (Heap.SameBut.update ..).extBut b o hb ((Heap.SameBut.update ..).extBut b o hb e)
  refine aa ?_
  simp only[newExc,newTuple]
  refine aa (aI ?_ (by size_fits))
  refine aa (m:=firstArgMember _ _) (bz (a:=Value.none) (by first|rfl|(simp only[firstArgMember];rfl)) ?_)
  refine aI ?_ (by size_fits)
  simp only[raiseNew]
  refine aa (wpAny_handled ?_)
  first|rw[show A.in1.handled=none from hh]|rw[hh]
  refine aa (ag (wpAny_throw ?_))
  refine aa (wpAny_isInstance (T:="StopIteration") (b:=true) ⟨_,ao _ rfl,rfl⟩ isSubtype_stop ?_)
  exact ag (hQ _ fun b o hb e=>((Heap.ExtBut.refl _ _).push _ |>.push _) b o hb (k b o hb e))
theorem g1' {α:Type}:∀(n:Nat) (l:List α) (s:Shared) (Q:List α->Shared->Prop),n=l.length->(∀l' d,l'.Perm l->Q l' { s with drawn:=d })->wpAny (model prog w) A (drawOrder n l) Q E s
 |0,l,s,Q,e,h=>by
  have:l=[]:=bx.mp e.symm
  subst this
  unfold drawOrder
  exact ag (h [] s.drawn (List.Perm.refl _))
 |n+1,[],s,Q,e,h=>by simp at e
 |n+1,x :: l,s,Q,e,h=>by
  unfold drawOrder
  have hch:∀(k:Nat->Sem (List α)),(∀i,i<(x :: l).length->∀d,wpAny (model prog w) A (k i) Q E { s with drawn:=d })->wpAny (model prog w) A (choose .order (x :: l).length >>= k) Q E s:=by
   intro k hk Γ p hΓ
   show Sem.wp _ Γ (.choose .order (x :: l).length fun i=>k i) _ _ p s
   rw[Sem.wp_choose]
   exact⟨by simp,hk _ (Nat.mod_lt _ (by simp)) _ Γ p hΓ⟩
  refine hch _ fun i hi d=>?_
  rw[af hi]
  dsimp only
  refine aa (g1' n _ _ _ (by rw[List.length_eraseIdx_of_lt hi];omega) fun l' d' hp=>ag ?_)
  exact h _ d' ((hp.cons _).trans (ge' _ _ hi))
end
end PySem
namespace PySem
open PyProof.Rows
theorem i0' {bt:Bool} {w:World} {d ep:Nat} {es:Array (Int×Value)} {t:SetTable} {xs:Array Value} {h h':Heap} {f:Value} {i:Nat} (x:Ord bt w d ep es t xs h f i) (k:∀T,f=.ref T->∀o,h.get? T=some o->h'.get? T=some o):Ord bt w d ep es t xs h' f i:=by
 rcases x with z|z|⟨z,T,pl,e,ht,r⟩
 .exact .inl z
 .exact .inr (.inl z)
 .exact .inr (.inr ⟨z,T,pl,e,pg' ht (k T e),r⟩)
section
variable {prog:Program} {w:World}
def qF' (w:World) (I D:Addr) (o:Obj) (TL:List Addr) (es:Array (Int×Value)) (ep:Nat) (t:SetTable) (xs:Array Value) (i:Nat) (s:Shared):Prop:=
 s.heap.get? D=some o/\∃f,s.heap.IsSti I D f i es.size ep/\Ord (w.params.followText "set-order") w D ep es t xs s.heap f i/\∀T,f=.ref T->T∈TL
theorem k8' {A:Around} (hh:A.handled=none) {I D:Addr} {o:Obj} {TL:List Addr} {es:Array (Int×Value)} {ep:Nat} {t:SetTable} {xs:Array Value} (hne:D≠I) (hTL:I∉TL) (hd:o.data=.set es ep t) (hf:t.fits es.size=true) (htk:TOk (w.params.followText "set-order") t) (hsx:xs.size=es.size):
  WalksS prog w A I (I :: D :: TL) [I] Eq es.size (fun i v=>xs[i]?=some v) (qF' w I D o TL es ep t xs) where
 sub:=fun b hb=>by simp at hb;simp[hb]
 grefl:=fun _=>rfl
 gtrans:=fun _ _ _=>Eq.trans
 frame:=fun _ _ _ _ x _ hk=>by
  obtain⟨ho,f,hi,hor,hT⟩:=x
  exact⟨hk D (by simp) o ho,f,hi.at fun o e=>hk I (by simp) o e,i0' hor fun T e o eo=>hk T (by simp[hT T e]) o eo,hT⟩
 item:=fun i s Q E hi x hQ=>by
  obtain⟨ho,f,hit,hor,hT⟩:=x
  have hx:xs[i]?=some (xs[i]'(by omega)):=aA (by omega)
  refine nE' hit hne (fun T e z=>hTL (z ▸ hT T e)) ho hd hf htk hor hx fun h' f' hit' hs' hor' hff=>?_
  exact hQ _ _ hx ⟨(hs'.2 D hne).trans ho,f',hit',hor',fun T e=>hT T (hff T e)⟩ ⟨fun b o hb eo=>hs'.extBut b o (fun z=>hb (by simp[z])) eo,rfl,rfl,rfl,ae _⟩
 done:=fun s Q E x hQ=>by
  obtain⟨ho,f,hit,hor,hT⟩:=x
  exact qE' hh hit ho hd hf htk hor hsx fun h' he'=>hQ _ ⟨fun b o hb eo=>he' b o (fun z=>hb (by simp[z])) eo,rfl,rfl,rfl,ae _⟩
 self:=fun _ _ _ _ x hQ=>by
  obtain⟨ho,f,hit,hor,hT⟩:=x
  exact nD' hit hQ
variable {A:Around} {E:Value->Shared->Prop} {s:Shared}
theorem jM' {D:Addr} {o:Obj} {es:Array (Int×Value)} {ep:Nat} {t:SetTable} {Q:Value->Shared->Prop} (ho:s.heap.get? D=some o) (hc:o.ExactSet) (hd:o.data=.set es ep t) (hf:t.fits es.size=true) (htk:TOk (w.params.followText "set-order") t) (hz:es.size<=sizeLine)
  (hQ:∀s' I TL xs,(∀b o,s.heap.get? b=some o->s'.heap.get? b=some o)->s'.gens=s.gens->s'.os=s.os->s.toks<=s'.toks->s.heap.objs.size<=s'.heap.objs.size->(∀b∈I :: TL,s.heap.objs.size<=b/\b<s'.heap.objs.size)->I∉TL->xs.size=es.size->xs.toList.Perm (es.toList.map (·.2))->qF' w I D o TL es ep t xs 0 s'->Q (.ref I) s'):
  wpAny (model prog w) A (pyIter (.ref D)) Q E s:=by
 have hT:s.TypeIs (.ref D) "set":=⟨o,ho,hc.1⟩
 have hlD:D<s.heap.objs.size:=av ho
 refine wpAny_pyIter_slot hT F.slot_set_iter (bo F.slot_set_iter hT F.e4' ?_ (F.args_set_iter_1 _))
 unfold Builtin.«frozenset.__iter__»
 refine aa (bz (a:=D) rfl ?_)
 dsimp only
 refine aa ?_
 unfold Builtin.Frozenset.sizeOf
 refine aa (wpAny_setEntries_of ho hd hf (ag ?_))
 unfold setDrawn
 refine aa (aa (bH ho hd hf ?_))
 dsimp only
 unfold setsByText
 refine aa (aa (bp (ag (ag ?_))))
 have tail:∀(f:Value) (s1:Shared) (TL:List Addr) (xs:Array Value) (Q':Fin->Shared->Prop),s1.heap.get? D=some o->(∀b o,s.heap.get? b=some o->s1.heap.get? b=some o)->s1.gens=s.gens->s1.os=s.os->s1.toks=s.toks->s.heap.objs.size<=s1.heap.objs.size->(∀b∈TL,s.heap.objs.size<=b/\b<s1.heap.objs.size)->
   xs.size=es.size->xs.toList.Perm (es.toList.map (·.2))->Ord (w.params.followText "set-order") w D ep es t xs s1.heap f 0->(∀T,f=.ref T->T∈TL)->
   (∀v s',Q v s'->s'.TypeIs v "set_iterator"->Q' (.done (.ret v)) s')->
   wpAny (model prog w) A.in1 (do ret (<- newFields "set_iterator" [f,rawInt 0,.ref D,rawInt es.size,rawInt (<- setEpoch D)])) Q' E s1:=by
  intro f s1 TL xs Q' h1 h2 h3 h4 h5 h6 h7 h8 h9 h10 h11 h12
  refine aa (wpAny_setEpoch_of h1 hd hf ?_)
  unfold newFields
  refine aa (aI ?_ (by size_fits))
  refine ag (h12 _ _ ?_ ⟨_,ao _ rfl,rfl⟩)
  refine hQ _ s1.heap.objs.size TL xs (fun b o e=>ah _ (h2 b o e)) h3 h4 (Nat.le_of_eq h5.symm) (by show _<=(s1.heap.push _).objs.size;rw[bC];exact Nat.le_succ_of_le h6) (fun b hb=>?_) (fun z=>aU _ (h7 _ z).2) h8 h9 ⟨ah _ h1,f,⟨_,ao _ rfl,rfl,rfl⟩,i0' h10 fun T e o eo=>ah _ eo,h11⟩
  show _/\b<(s1.heap.push _).objs.size
  rw[bC]
  rcases ax.mp hb with rfl|hb
  .exact⟨h6,cC _⟩
  .exact⟨(h7 b hb).1,cf (h7 b hb).2⟩
 show wpAny _ _ (if(!(w.params.followText "set-order")&&(!t.plain&&decide (es.size > 1)))=true then _ else _) _ _ _
 cases hb:w.params.followText "set-order" with
 |true=>
  rw[if_neg (by simp)]
  refine aa (ag ?_)
  refine tail (rawInt 0) s [] ((pickOrder (w.params.setOrder D ep) es).map (·.2)) _ ho (fun _ _ e=>e) rfl rfl rfl (ae _) (fun b z=>nomatch z) ?_ ?_ ?_ (fun T z=>nomatch z) fun v s' q ty=>⟨_,rfl,"set_iterator",_,ty,F.aF'.lookup,q⟩
  .rw[Array.size_map,<- ak,(g0' _ _).length_eq,ak]
  .rw[Array.toList_map]
   exact(g0' _ _).map _
  .rw[hb]
   exact .inl ⟨rfl,rfl,rfl⟩
 |false=>
  cases hdr:(!t.plain&&decide (es.size > 1))with
  |false=>
   rw[if_neg (by simp)]
   refine aa (ag ?_)
   refine tail (rawInt 0) s [] (es.map (·.2)) _ ho (fun _ _ e=>e) rfl rfl rfl (ae _) (fun b z=>nomatch z) ?_ ?_ ?_ (fun T z=>nomatch z) fun v s' q ty=>⟨_,rfl,"set_iterator",_,ty,F.aF'.lookup,q⟩
   .rw[Array.size_map]
   .rw[Array.toList_map]
   .rw[hb]
    refine .inr (.inl ⟨rfl,hdr,?_,rfl,rfl⟩)
    rcases htk with z|z
    .rw[hb]at z;cases z
    .exact z.2
  |true=>
   rw[if_pos (by simp)]
   refine aa (g1' _ _ _ _ (by simp) fun l' d hp=>?_)
   unfold newTuple
   refine aa ?_
   refine aI ?_ (by show(List.map _ l').toArray.size<=_;rw[al,ac,hp.length_eq,aQ];exact hz)
   have hin:∀p∈l',p<es.size:=fun p z=>aw.mp (hp.mem_iff.mp z)
   have hln:l'.length=es.size:=by rw[hp.length_eq,aQ]
   let xs:List Value:=l'.map fun p=>(es.getD p (0,.none)).2
   refine tail (.ref s.heap.objs.size) _ [s.heap.objs.size] xs.toArray _ (ah _ ho) (fun _ _ e=>ah _ e) rfl rfl rfl ?_ (fun b z=>?_) ?_ ?_ ?_ (fun T z=>by injection z with z;simp[z]) fun v s' q ty=>⟨_,rfl,"set_iterator",_,ty,F.aF'.lookup,q⟩
   .show _<=(s.heap.push _).objs.size
    rw[bC]
    exact Nat.le_succ _
   .rw[cG]at z
    subst z
    show _/\_<(s.heap.push _).objs.size
    rw[bC]
    exact⟨ae _,cC _⟩
   .rw[al,ac,hln]
   .show(l'.map fun p=>(es.getD p (0,.none)).2).Perm _
    refine(hp.map _).trans (List.Perm.of_eq ?_)
    apply bG
    intro j
    rw[aq,aq]
    by_cases hj:j<es.size
    .rw[bW hj,af (show j<es.toList.length by rw[ak];exact hj)]
     simp[Array.getD,hj]
    .rw[ba (by simpa using hj),ba (by rw[ak];omega)]
     rfl
   .rw[hb]
    refine .inr (.inr ⟨rfl,s.heap.objs.size,l'.toArray,rfl,⟨_,ao _ rfl,rfl,0,?_⟩,?_,fun j p e=>?_⟩)
    .show Data.seq _ _=_
     congr 1
     simp
    .rw[al,al,ac]
    .rw[List.getElem?_toArray]at e
     have hp':=hin p (bi e)
     refine⟨_,aA hp',?_⟩
     rw[List.getElem?_toArray]
     show(List.map _ l')[j]?=_
     rw[aq,e]
     simp[Array.getD,hp']
theorem gf' {D:Addr} {o:Obj} {es:Array (Int×Value)} {ep:Nat} {t:SetTable} {Q:List Value->Shared->Prop} (hh:A.handled=none) (ho:s.heap.get? D=some o) (hc:o.ExactSet) (hd:o.data=.set es ep t) (hf:t.fits es.size=true) (htk:TOk (w.params.followText "set-order") t) (hz:es.size<=sizeLine)
  (hQ:∀s' xs,(∀b o,s.heap.get? b=some o->s'.heap.get? b=some o)->s'.gens=s.gens->s'.os=s.os->s.toks<=s'.toks->s.heap.objs.size<=s'.heap.objs.size->xs.Perm (es.toList.map (·.2))->Q xs s'):wpAny (model prog w) A (collect (.ref D)) Q E s:=by
 have hlD:D<s.heap.objs.size:=av ho
 have hSD:s.heap.objs.size≠D:=Nat.ne_of_gt hlD
 unfold collect
 refine aa (wpAny_runValue (codeAny_builtin F.entry_proto_collect ?_))
 rw[Around.under_plainId F.plain_proto_collect _]
 show wpAny _ A.in1 (newList [] >>= fun l=>again (.builtin "list.__iadd__" ⟨[l,.ref D],[]⟩)) _ _ s
 refine aa (aI ?_)
 refine ag ⟨plainId_quiet F.plain_list_iadd _,codeAny_builtin F.entry_list_iadd ?_⟩
 rw[Around.under_plainId F.plain_list_iadd _]
 generalize hlo:({ cls:=.type "list",data:=.seq ([]:List Value).toArray }:Obj)=lo
 have hT1:Shared.TypeIs { s with heap:=s.heap.push lo } (.ref D) "set":=⟨o,ah _ ho,hc.1⟩
 have hS1:(s.heap.push lo).get? s.heap.objs.size=some lo:=ao _ (by rw[<- hlo];rfl)
 have h1:Builtin.List.listSameRef (.ref s.heap.objs.size) (.ref D)=false:=by simp[Builtin.List.listSameRef,hSD]
 show wpAny _ A.in1 (Builtin.List.listExtendWith (.ref s.heap.objs.size) (.ref D) (.ref s.heap.objs.size)) _ _ _
 unfold Builtin.List.listExtendWith
 refine aa (wpAny_typeOf hT1 ?_)
 rw[if_neg (by rw[h1];decide)]
 refine aa (jM' (s:={ s with heap:=s.heap.push lo }) (ah _ ho) hc hd hf htk hz fun s1 I TL xs k1 k2 k3 k4 k5 k6 k7 k8 k9 k10=>?_)
 have hT2:s1.TypeIs (.ref D) "set":=⟨o,k1 D o (ah _ ho),hc.1⟩
 refine aa (bg ?_)
 unfold Builtin.List.listLengthHint
 refine aa (wpAny_specialOf hT2 F.slot_set_len.lookup ?_)
 dsimp only
 (generalize hid:("set.__len__":String)=id0;(fail_if_success (clear hid id0));rw[show splitId id0=some ("set","__len__") from by subst hid;decide +kernel];subst hid)
 dsimp only
 refine aa (wpAny_isInstance (b:=true) hT2 (by rw[isSubtype_type];kernel_rfl) ?_)
 rw[if_neg (by decide),if_pos (by decide +kernel)]
 refine aa (wpAny_typeOf hT2 (ag ?_))
 rw[if_pos (by decide)]
 refine aa (cX ?_)
 refine aa ?_
 have hSs:s1.heap.get? s.heap.objs.size=some lo:=k1 _ _ hS1
 have hsq:lo.data=.seq #[] 0:=by rw[<- hlo]
 have hsz1:(s.heap.push lo).objs.size=s.heap.objs.size+1:=bC ..
 show wpAny _ A.in1 (updateSeq s.heap.objs.size (·.push .none) >>= fun _=>updateSeq s.heap.objs.size (·.pop)) _ _ _
 refine aa (wpAny_updateSeq hSs hsq ?_)
 have hS2:=aV (Obj.mapSeq (·.push Value.none)) hSs (by rw[<- hlo];rfl)
 refine wpAny_updateSeq hS2 (by rw[<- hlo];rfl) ?_
 have hS3:=aV (Obj.mapSeq (·.pop)) hS2 (by rw[<- hlo];rfl)
 have oth:∀b o,b≠s.heap.objs.size->s1.heap.get? b=some o->((s1.heap.update s.heap.objs.size (Obj.mapSeq (·.push Value.none))).update s.heap.objs.size (Obj.mapSeq (·.pop))).get? b=some o:=
  fun b o hb e=>(cE _ _ (Ne.symm hb)).trans ((cE _ _ (Ne.symm hb)).trans e)
 have k6':∀b∈I :: TL,s.heap.objs.size<b:=fun b hb=>by
  have:=(k6 b hb).1
  rw[show(Shared.heap { s with heap:=s.heap.push lo }).objs.size=s.heap.objs.size+1 from hsz1]at this
  exact this
 have hID:D≠I:=fun e=>aU _ (Nat.lt_trans hlD (e ▸ k6' I (by simp)))
 have hfp:s.heap.objs.size∉I :: D :: TL:=fun hm=>by
  have big:∀b∈I :: TL,s.heap.objs.size≠b:=fun b hb e=>aU _ (e ▸ k6' b hb)
  simp only[ax]at hm
  rcases hm with e|e|e
  .exact big I (by simp) e
  .exact hSD e
  .exact big _ (aB _ e) rfl
 have W:WalksS prog w A.in1 I (I :: D :: TL) [I] Eq es.size (fun i v=>xs[i]?=some v) (qF' w I D o TL es ep t xs):=k8' (A:=A.in1) hh hID k7 hd hf htk k8
 have k11:=W.frame 0 s1 _ s1.toks k10 (ae _) fun b hb o e=>oth b o (fun z=>hfp (z ▸ hb)) e
 refine ag ⟨plainId_quiet F.plain_extend_loop _,codeAny_extend_loopS W hz _ hfp _ es.size 0 _ _ _ rfl (aM _) k11 (by rw[hS3,<- hlo];rfl) (ItemsOf.nil _) fun s' acc' c' hm hS' hacc=>?_⟩
 show wpAny _ A (load s.heap.objs.size >>= _) _ _ s'
 refine aa (wpAny_load hS' (ag ?_))
 have eacc:acc'.toList=xs.toList:=by
  obtain⟨hl,hp⟩:=hacc
  apply bG
  intro j
  by_cases hj:j<es.size
  .have h2:acc'[j]?=some (acc'[j]'(by omega)):=aA (by omega)
   rw[Array.getElem?_toList,Array.getElem?_toList,h2,<- hp j _ h2]
  .rw[ba (by rw[ak];omega),ba (by rw[ak];omega)]
 have hlt:s.heap.objs.size<s'.heap.objs.size:=av hS'
 refine hQ s' _ (fun b o e=>?_) ?_ ?_ ?_ (cj hlt) (by rw[eacc];exact k9)
 .have hb:b≠s.heap.objs.size:=aK (av e)
  refine hm.heap b o ?_ (oth b o hb (k1 b o (ah _ e)))
  simp only[ax,aO,or_false,not_or]
  refine⟨hb,fun z=>?_⟩
  exact aU _ (Nat.lt_trans (av e) (z ▸ k6' I (by simp)))
 .have:=hm.gens;exact this.symm.trans k2
 .exact hm.os.trans k3
 .exact ay k4 hm.toks
end
end PySem
namespace L2
open PySem PySem.Spec PyProof.Rows
def ek' {α:Type} (own:List Nat) (wi:TI) (g:TG) (tc:TT) (ax':TL α) (a0:α) (ho:Addr->α->HO) (ok:α->Hp->Prop):TE:=fun σ H Q=>wi σ H fun J H1=>bc' own g tc ax' J σ a0 H1 fun xs H2=>ok xs H2/\∀p,H2 p=none->Q (.ref p) (upd H2 p (ho p xs))
structure CompInG {α:Type} (Is:α->Obj->Prop) (X:Cx) (e:Expr) (scope:Scope) (tg:Expr) (iter:Expr) (ifs:List Expr) (nx:Addr->Env->Sem Unit) (g:TG) (tc:TT) (ax':TL α) (own:List Nat):Prop where
 sc:CompSc X scope
 ow:∀i x,X.N[i]?=some x->(scope.names.lookup x=some .local\/scope.names.lookup x=some .cell)->i∈own
 cl:∃gs,clausesOf e=⟨tg,iter,ifs,0⟩ :: gs
 fs:∀x,foldedSetIterable iter X.env x=pure x
 calm:X.calm=true
 q:∀it D env,(Code.compLoop e 0 it (.ref D) env).quiet=true/\(Code.compStart e 0 it (.ref D) env).quiet=true
 u:∀A it D env,Around.under A (Code.compLoop e 0 it (.ref D) env)=A/\Around.under A (Code.compStart e 0 it (.ref D) env)=A
 T:∀P w it D env,(model P w).den (.compLoop e 0 it (.ref D) env)=(a6' e 0 tg iter ifs (nx D env) it (.ref D) env).onRaise (fun x=>do noteFrame x env;theTreesLotGoes x)
 S:∀P w it D env,(model P w).den (.compStart e 0 it (.ref D) env)=(compStart e 0 it (.ref D) env).onRaise (fun x=>do noteFrame x env;standAt theWindowsPlace)
 ge:sN' own g
 inn:∀s0 H0 ex D,PG (X.comp scope s0 H0 ex) tg g/\PTs (X.comp scope s0 H0 ex) ifs tc/\∃ws',(∀j∈ws',j∈own)/\cx' (X.comp scope s0 H0 ex) D Is ws' (nx D (X.comp scope s0 H0 ex).env) ax'
section
variable {X:Cx} {e:Expr} {scope:Scope} {tg iter:Expr} {ifs:List Expr} {nx:Addr->Env->Sem Unit} {g:TG} {tc:TT} {α:Type} {Is:α->Obj->Prop} {ax':TL α} {own:List Nat} {wi:TI} {a0:α} {o0:Bool->Obj} {newAcc:Sem Value} {ho:Addr->α->HO} {ok:α->Hp->Prop}
theorem e5' (hnew:∀(s:Shared) (Q:Value->Shared->Prop),(∀led,Q (.ref s.heap.objs.size) { s with heap:=s.heap.push (o0 led) })->wpAny (model X.prog X.w) X.A newAcc Q X.xe s) (hfr:∀led,(o0 led).isFreed=false) (ha0:∀led,Is a0 (o0 led)) (hda:∀(a:α) (o:Obj),Is a o->∀v:Option Value,o.data≠.cell v) (C:CompInG Is X e scope tg iter ifs nx g tc ax' own) (hi:PI X tg iter wi) {pins:List (Addr×Obj)} {s:Shared} {σ:St} {H:Hp} {R:V->Hp->Prop} (I:Inv X pins σ H s) (hw:ek' own wi g tc ax' a0 ho ok σ H R)
  {use:Option (Value->Sem Unit)} {Q:Value->Shared->Prop} {pos:Pos}
  (fin:∀(s3 s':Shared) (H0 H':Hp) (ex:List Addr) (D:Addr) (xs:α) (o:Obj) (σ':St),Inv X pins σ H0 s3->(∀b∈ex,dz' X pins H0 b)->Inv (X.comp scope s3 H0 ex) [] σ' H' s'->s'.heap.get? D=some o->D<s3.heap.objs.size->X.s₀.heap.objs.size<=D->dz' X pins H0 D->(D == sysModules)=false->Is xs o->H' D=none->ok xs H'->R (.ref D) (upd H' D (ho D xs))->
   compPost (model X.prog X.w) X.A X.xe use Q (.ref D) s3.heap.objs.size (.ok .next) s'):
  wpAny (model X.prog X.w) X.A (comprehension e scope X.env pos newAcc false (eval iter X.env) use) Q X.xe s:=by
 obtain⟨gs,hcl⟩:=C.cl
 refine wpAny_comprehension_free hcl C.fs (kC' fun n hn=>I.ok.has n (C.sc.free n hn)) C.sc.kind C.sc.names ?_
 refine thn (hi pins s σ H _ I hw) fun v s1 h1=>thn h1 fun itv s2 h2=>?_
 obtain⟨it,fp,tn,J,H2,rfl,I2,T,st2,f2,hc⟩:=h2
 refine hnew _ _ fun led=>dC' ?_
 have keep:∀b o,s2.heap.get? b=some o->(s2.heap.push (o0 led)).get? b=some o:=fun b o e=>ah _ e
 have I3:Inv X pins σ H2 { s2 with heap:=s2.heap.push (o0 led) }:=I2.kept (t':=s2.toks) keep
 have hsz:(s2.heap.push (o0 led)).objs.size=s2.heap.objs.size+1:=bC ..
 have fD:dz' X pins H2 s2.heap.objs.size:=I2.fpOk (ae _) (I2.hok.fresh (ae _))
 have hlt:∀b∈fp,b<s2.heap.objs.size:=fun b hb=>by
  obtain⟨o,e,_⟩:=T.obj _ _ st2 b hb
  exact av e
 have hDf:s2.heap.objs.size∉fp:=fun z=>aU _ (hlt _ z)
 have hex:∀b∈s2.heap.objs.size :: fp,dz' X pins H2 b:=fun b hb=>by
  rcases ax.mp hb with rfl|hb
  .exact fD
  .exact f2 b hb
 generalize hs3:({ s2 with heap:=s2.heap.push (o0 led) }:Shared)=s3 at *
 have hs3s:s3.heap.objs.size=s2.heap.objs.size+1:=by rw[<- hs3];exact hsz
 have hlt3:∀b∈s2.heap.objs.size :: fp,b<s3.heap.objs.size:=fun b hb=>by
  rw[hs3s]
  rcases ax.mp hb with rfl|hb
  .exact cC _
  .exact cf (hlt b hb)
 have J0:=fI' (own:=own) I3 hex hlt3 C.sc C.ow
 obtain⟨c1,c2,ws',c4,c5⟩:=C.inn s3 H2 (s2.heap.objs.size :: fp) s2.heap.objs.size
 have kp:∀b o,s2.heap.get? b=some o->(be' s3.heap scope.names).get? b=some o:=fun b o e=>pushCells_keeps _ _ b o (ah _ (by rw[<- hs3];exact keep b o e))
 have oD:(be' s3.heap scope.names).get? s2.heap.objs.size=some (o0 led):=pushCells_keeps _ _ _ _ (ah _ (by rw[<- hs3];exact ao _ (hfr led)))
 have stat:∀b∈s2.heap.objs.size :: fp,dz' (X.comp scope s3 H2 (s2.heap.objs.size :: fp)) [] H2 b:=fun b hb=>
  ⟨(hex b hb).1,(J0.ok.exf b hb).1,J0.ok.exfs b hb,.inl hb,(J0.ok.exf b hb).2,fun p hp=>absurd (show p∈([]:List (Addr×Obj)) from hp) (by simp)⟩
 have T':Turn (X.comp scope s3 H2 (s2.heap.objs.size :: fp)).prog (X.comp scope s3 H2 (s2.heap.objs.size :: fp)).w (X.comp scope s3 H2 (s2.heap.objs.size :: fp)).K tg J fp it tn:=T
 have hc':bc' own g tc ax' J (clr own σ) a0 H2 (fun xs H2=>ok xs H2/\∀p,H2 p=none->R (.ref p) (upd H2 p (ho p xs))):=by
  obtain⟨W,w0,turn⟩:=hc
  refine⟨W,w0,?_⟩
  rw[iU']
  exact turn
 have st3:tn 0 ({ s3 with heap:=be' s3.heap scope.names }:Shared).heap:=T.keep _ _ _ st2 fun b hb o e=>kp b o e
 have L:=eV' (X:=X.comp scope s3 H2 (s2.heap.objs.size :: fp)) (Is:=Is) (D:=s2.heap.objs.size) rfl C.calm (C.q _ _ _).1 (C.u _ _ _ _).1 (C.T _ _ _ _ _) T' c1 C.ge c2 c5 c4 hda hDf J0
  (fun b hb=>stat b (aB _ hb)) (stat _ aG) oD (ha0 led) st3 hc'
 have L2:=f5' (C.q _ _ _).2 (C.u _ _ _ _).2 (fun it'=>(C.q it' _ _).1) (C.S _ _ _ _ _) ⟨_,by rw[hcl];rfl,rfl⟩ L (fun E=>T.self _ 0 _ _ E st3 ⟨rfl,rfl⟩)
 refine codeAny_mono L2 fun r s' h=>?_
 obtain⟨rfl,xs,o',H',J',e',is',n',hN⟩:=h
 exact fin s3 s' H2 H' _ _ xs o' _ I3 hex J' e' (hlt3 _ aG) I2.sz fD (beq_eq_false_iff_ne.mpr (Nat.ne_of_gt I2.big)) is' n' hN.1 (hN.2 _ n')
end
section
variable {X:Cx} {e:Expr} {scope:Scope} {tg iter:Expr} {ifs:List Expr} {nx:Addr->Env->Sem Unit} {g:TG} {tc:TT} {α:Type} {Is:α->Obj->Prop} {ax':TL α} {own:List Nat} {wi:TI} {a0:α} {o0:Bool->Obj} {newAcc:Sem Value} {ho:Addr->α->HO} {ok:α->Hp->Prop}
theorem nF' (hnew:∀(s:Shared) (Q:Value->Shared->Prop),(∀led,Q (.ref s.heap.objs.size) { s with heap:=s.heap.push (o0 led) })->wpAny (model X.prog X.w) X.A newAcc Q X.xe s) (hfr:∀led,(o0 led).isFreed=false) (ha0:∀led,Is a0 (o0 led)) (hda:∀(a:α) (o:Obj),Is a o->∀v:Option Value,o.data≠.cell v)
  (hfin:∀(a:α) (o:Obj) (D:Addr) (H:Hp) (h:Heap),Is a o->h.get? D=some o->(D == sysModules)=false->H D=none->ok a H->HOk X.prog X.w H h->a5' X.prog X.w (upd H D (ho D a)) h D (ho D a)) (C:CompInG Is X e scope tg iter ifs nx g tc ax' own) (hi:PI X tg iter wi) {pos:Pos} (he:eval e X.env=comprehension e scope X.env pos newAcc false (eval iter X.env)):PE X e (ek' own wi g tc ax' a0 ho ok):=by
 intro pins s σ H Q I hw
 rw[he]
 refine e5' hnew hfr ha0 hda C hi I hw fun s3 s' H0 H' ex D xs o σ' I3 hex J e' hlt h0 fD sy is' n' hok' hR=>?_
 obtain⟨m,hn,_⟩:=J.loc
 refine⟨m,hn,fun h' hs=>?_⟩
 have J2:=dD' I3 hex J hs
 have neC:D≠s3.heap.objs.size:=aK hlt
 refine⟨.ref D,upd H' D (ho D xs),J2.track (o:=ho D xs) ⟨n',fD.2⟩ h0 (hfin xs o D H' _ is' ((hs.2 D neC).trans e') sy n' hok' J2.hok),rfl,hR⟩
theorem in' (hnew:∀(s:Shared) (Q:Value->Shared->Prop),(∀led,Q (.ref s.heap.objs.size) { s with heap:=s.heap.push (o0 led) })->wpAny (model X.prog X.w) X.A newAcc Q X.xe s) (hfr:∀led,(o0 led).isFreed=false) (ha0:∀led,Is a0 (o0 led)) (hda:∀(a:α) (o:Obj),Is a o->∀v:Option Value,o.data≠.cell v)
  (hfin:∀(a:α) (o:Obj) (D:Addr) (H:Hp) (h:Heap),Is a o->h.get? D=some o->(D == sysModules)=false->H D=none->ok a H->HOk X.prog X.w H h->a5' X.prog X.w (upd H D (ho D a)) h D (ho D a)) (C:CompInG Is X e scope tg iter ifs nx g tc ax' own) (hi:PI X tg iter wi) {i:Nat} {y:Str} {py pos pos2:Pos} (hN:X.N.Nodup) (hy:X.N[i]?=some y) (hx:Loc X.env.scope y) (hf:X.fn y=true\/X.env.scope.names.lookup y=some .local)
  (he:evalThenUse e X.env (assign (.Name y py) X.env)=(do let _ <- comprehension e scope X.env pos2 newAcc false (eval iter X.env) (some (assign (.Name y py) X.env))))
  (hsw:swapsWith e (some (.Name y py)) pos.line X.env=pure true):PS X (.Assign [.Name y py] e pos) (j8' (ek' own wi g tc ax' a0 ho ok) (dA' i)):=by
 intro pins s σ H D I hw
 rw[exec_Assign_Name_used _ _ _ _ hsw]
 refine aa (bK (aa ?_))
 rw[he]
 refine aa (thn (Q:=fun _ s'=>SP X pins D .next s') (e5' hnew hfr ha0 hda C hi I hw fun s3 s' H0 H' ex D' xs o σ' I3 hex J e' hlt h0 fD sy is' n' hok' hR=>?_) fun _ s' q=>ag (ag q))
 obtain⟨m,hn,_⟩:=J.loc
 have J2:Inv X pins σ H' s':=dD' I3 hex J (Heap.SameBut.refl ..)
 have neC:D'≠s3.heap.objs.size:=aK hlt
 have J3:Inv X pins σ (upd H' D' (ho D' xs)) s':=J2.track ⟨n',fD.2⟩ h0 (hfin xs o D' H' _ is' e' sy n' hok' J2.hok)
 have fC:dz' X pins H0 s3.heap.objs.size:=I3.fpOk (ae _) (I3.hok.fresh (ae _))
 refine wpAny_assign_Name (eK' J3 hN hy hx (v:=.ref D') rfl (fun s'' J4 hs=>?_) hf)
 obtain⟨a,hsa,ha⟩:=hs
 have haC:s3.heap.objs.size≠a:=by
  rcases ha with rfl|ha
  .exact fC.2.1
  .exact fun q=>fC.2.2.2.2.1 _ _ ha q.symm
 have hn':s'.heap.Ns s3.heap.objs.size m:=hn
 refine⟨m,hn'.sameBut hsa haC,fun h' hs'=>?_⟩
 have J5:Inv X pins (σ.set i (some (.ref D'))) (upd H' D' (ho D' xs)) { s'' with heap:=h' }:=J4.turned (it:=s3.heap.objs.size) (t':=s''.toks) (fun b ob hb q=>(hs'.2 b hb).trans q) (by rw[af' (Ne.symm neC)];exact J.free) fC.2.1 fC.2.2.2.1 fC.2.2.2.2.1 fC.2.2.2.2.2
 exact⟨_,_,J5,hR⟩
end
def kO:Option Int->V
 |some i=>.int i
 |none=>.non
theorem g2' {P:Program} {w:World} {k:Option Int} {u:Value} (r:aJ' (kO k) u):(gY' P w).is k u=true/\u.scannable=true:=by
 cases k with
 |none=>cases r;exact⟨rfl,rfl⟩
 |some i=>
  obtain⟨t,rfl⟩:=r
  exact⟨by show Value.isInt i (.int i t)=true;simp[Value.isInt],rfl⟩
def IsS (a:(Option Int->Bool)×Nat) (o:Obj):Prop:=a.2<=4000/\(∃es ep t,o.data=.set es ep t)/\∃m,m<=a.2/\∀(P:Program) (w:World),o.SetObjOf (gY' P w) a.1 m
theorem pi' {P:Program} {w:World} {S:Option Int->Bool} {n m:Nat} {o:Obj} (h:o.SetObjOf (gY' P w) S m) (hm:m<=n) (hn:n<=4000):IsS (S,n) o:=⟨hn,⟨_,_,_,h.2.choose_spec.choose_spec.choose_spec.1⟩,m,hm,fun P' w'=>h.transport (knd':=gY' P' w') rfl rfl⟩
theorem gg' (a:(Option Int->Bool)×Nat) (o:Obj) (h:IsS a o) (v:Option Value):o.data≠.cell v:=by
 obtain⟨_,⟨es,ep,t,hd⟩,_⟩:=h
 rw[hd]
 exact fun z=>nomatch z
def fA' (D:Addr) (S:Option Int->Bool) (n:Nat):HO:=.ext fun h=>∃o,h.get? D=some o/\IsS (S,n) o
theorem k9' {P:Program} {w:World} {H:Hp} {h:Heap} {D:Addr} {S:Option Int->Bool} {n:Nat} {o:Obj} (e:h.get? D=some o) (i:IsS (S,n) o):a5' P w H h D (fA' D S n):=
 ⟨⟨o,e,i⟩,⟨o,e⟩,fun h1 h2 ⟨o',e',i'⟩ k=>⟨o',k o' e',i'⟩⟩
section
variable {X:Cx}
theorem la' {s:Shared} {D:Addr} {a:(Option Int->Bool)×Nat} {o:Obj} (e:s.heap.get? D=some o) (i:IsS a o):∃m,m<=a.2/\s.heap.SetOf (gY' X.prog X.w) D a.1 m:=by
 obtain⟨hn,_,m,hm,h⟩:=i
 exact⟨m,hm,(h X.prog X.w).setOf e (bM (ay hm hn) (by decide))⟩
def w3' (neg:Bool):R2:=fun x y H Q=>∃k D S n,x=kO k/\y=.ref D/\H D=some (fA' D S n)/\Q (.bl (if neg then !(S k)else S k)) H
theorem t2':OpR X (compareOp .In) (w3' false):=by
 intro pins s σ H x y v u Q I rx ry h
 obtain⟨k,D,S,n,rfl,rfl,hD,q⟩:=h
 cases ry
 obtain⟨o,e,i⟩:=(show a5' X.prog X.w H s.heap D (fA' D S n) from I.hok D _ hD).1
 obtain⟨m,_,hS⟩:=la' (X:=X) e i
 exact wpAny_inSet_of (g2' rx).1 (g2' (P:=X.prog) (w:=X.w) rx).2 hS ⟨.bl (S k),H,I.tok _,rfl,q⟩
theorem lb':OpR X (compareOp .NotIn) (w3' true):=by
 intro pins s σ H x y v u Q I rx ry h
 obtain⟨k,D,S,n,rfl,rfl,hD,q⟩:=h
 cases ry
 obtain⟨o,e,i⟩:=(show a5' X.prog X.w H s.heap D (fA' D S n) from I.hok D _ hD).1
 obtain⟨m,_,hS⟩:=la' (X:=X) e i
 exact wpAny_notInSet_of (g2' rx).1 (g2' (P:=X.prog) (w:=X.w) rx).2 hS ⟨.bl (!S k),H,I.tok _,rfl,q⟩
def inL (ns:List Int):Option Int->Bool
 |some i=>ns.contains i
 |none=>false
def pj' (K:W.Frag):List V->Hp->VK->Prop:=fun xs H Q=>∃a ns,xs=[.ref a]/\SqL K H a (ns.map V.int)/\ns.length<=3999/\∀p,H p=none->Q (.ref p) (upd H p (fA' p (inL ns) ns.length))
theorem lc' (hc:X.calm=true):bl' X (.type "set") (pj' X.K):=by
 intro pins s σ H xs us Q I rv h
 obtain⟨a,ns,rfl,hs,hl,q⟩:=h
 cases rv with
 |cons r1 rv=>
  cases rv
  cases r1
  obtain⟨its,r,pl,hz⟩:=I.list hs
  have hlen:=r.length
  rw[ac]at hlen
  refine call_set_list (I.ok.hd hc) pl.isList (d2' r) (by rw[al,<- hlen];exact bM (Nat.succ_le_succ hl) (by decide)) fun h' tk hS hk=>?_
  have hn:H s.heap.objs.size=none:=I.hok.fresh (ae _)
  obtain⟨o,ho,hso⟩:=hS.objOf
  have fl:=firstMet_length_le (fun i=>ns.getD i 0) its.toArray.size
  have key:o.SetObjOf (gY' X.prog X.w) (inL ns) (firstMet (fun i=>ns.getD i 0) its.toArray.size).length:=by
   obtain⟨hex,es,ep,t,hd,hel,hmem,hsz,hf⟩:=hso
   refine⟨hex,es,ep,t,hd,fun e he=>?_,fun k=>?_,hsz,hf⟩
   .obtain⟨⟨j,hj,hh⟩,hsc⟩:=hel e he
    exact⟨⟨some j,hj,hh⟩,hsc⟩
   .cases k with
    |none=>
     constructor
     .intro z;cases z
     .rintro⟨e,he,hi⟩
      obtain⟨⟨j,hj,hh⟩,hsc⟩:=hel e he
      obtain⟨t',et⟩:=Value.isInt_shape hj
      rw[et]at hi
      cases hi
    |some i=>
     have:=hmem i
     dsimp only at this
     rw[firstMet_any]at this
     refine Iff.trans ?_ this
     show ns.contains i=true↔_
     have en:(au its.toArray.size).map (fun i=>ns.getD i 0)=ns:=by
      rw[al,<- hlen]
      apply bG
      intro j
      rw[aq]
      by_cases hj:j<ns.length
      .rw[bW hj]
       simp[List.getD,hj]
      .rw[aJ.mpr (by simpa using hj),aJ.mpr (by omega)]
       rfl
     rw[en,List.contains_eq_any_beq]
     constructor
     .intro z
      rw[ci]at z ⊢
      obtain⟨x,hx,e⟩:=z
      exact⟨x,hx,by rw[beq_iff_eq]at e ⊢;exact e.symm⟩
     .intro z
      rw[ci]at z ⊢
      obtain⟨x,hx,e⟩:=z
      exact⟨x,hx,by rw[beq_iff_eq]at e ⊢;exact e.symm⟩
  refine⟨.ref s.heap.objs.size,_,I.laid (t':=tk) (fun b o hb=>hk b o (av hb) hb) (ae _) (o:=fA' s.heap.objs.size (inL ns) ns.length) (k9' ho (pi' key (ay fl (by rw[al,hlen];exact ae _)) (by omega))),rfl,q _ hn⟩
def dK' (te:TE):TL ((Option Int->Bool)×Nat):=fun σ a H N=>te σ H fun v H'=>∃k,v=kO k/\a.2<4000/\N (fun j=>a.1 j || decide (j=k),a.2+1) H'
theorem ld' {D:Addr} {elt:Expr} {te:TE} (hxe:X.xe=fun _ _=>False) (he:PE X elt te):cx' X D IsS [] (do let v <- eval elt X.env;standAt elt.pos;let _ <- call (.builtin "set.add") [.ref D,v]) (dK' te):=by
 intro pins s σ H a o N I hD ho hi hq
 have I1:Inv X (pins++b4' [D] s.heap) σ H s:=I.pinned (fun b hb=>by
  have e:b=D:=by simpa using hb
  subst e
  exact hD) (fun b hb=>by
  have e:b=D:=by simpa using hb
  subst e
  exact⟨o,ho,gg' _ _ hi⟩)
 have h1:=he _ s σ H _ I1 hq
 rw[hxe]at h1
 refine aa (thn h1 fun u s1 ⟨v,H1,J1,r1,k,ek,z1,n1⟩=>?_)
 subst ek
 have q1:=J1.pin (D,o) (aj _ (aj _ (aD' (by simp) ho)))
 obtain⟨m,hm,hS⟩:=la' (X:=X) q1.1 hi
 refine aa (bK (aa (call_set_add (g2' r1).1 (g2' (P:=X.prog) (w:=X.w) r1).2 hS (bM (Nat.succ_le_of_lt (bM hm z1)) (by decide)) fun h' hs hS'=>?_)))
 obtain⟨_,f1,f2,f3,f4,f5⟩:=hD
 obtain⟨o',ho',hso⟩:=hS'.objOf
 have J2:Inv X pins σ H1 { s1 with heap:=h',toks:=s1.toks+1 }:=J1.unpinned.turned (it:=D) (t':=s1.toks+1) (fun b o hb e=>(hs.2 b hb).trans e) q1.2.1 f1 f3 f4 f5
 exact ag ⟨σ,_,o',H1,J2,Ext.refl,ho',pi' hso (by split<;>omega) (by omega),q1.2.1,n1⟩
theorem qG' {A:Around} {E:Value->Shared->Prop} (s:Shared) (Q:Value->Shared->Prop) (h:∀led,Q (.ref s.heap.objs.size) { s with heap:=s.heap.push { cls:=.type "set",dict:=none,data:=.set #[] 0 (.fresh 0 0 led) } }):wpAny (model X.prog X.w) A (newSet (.type "set")) Q E s:=by
 unfold newSet setsByText
 refine aa (aa (bp (ag ?_)))
 exact aI (h _)
theorem nG' (led:Bool):IsS (fun _=>false,0) { cls:=.type "set",dict:=none,data:=.set #[] 0 (.fresh 0 0 led) }:=⟨aM _,⟨_,_,_,rfl⟩,0,ae _,fun _ _=>setObjOf_fresh led⟩
end
abbrev NH:Int:=0xFCA86420
section
variable {prog:Program} {w:World} {A:Around} {E:Value->Shared->Prop} {s:Shared}
theorem le' {d:Addr} {o:Obj} {es:Array DictEntry} {ep:Nat} {Q:Option Nat->Shared->Prop} (ho:s.heap.get? d=some o) (hd:o.data=.dict es ep) (hno:∀e∈es.toList,e.hash≠NH) (h:Q none s):
  wpAny (model prog w) A (dictFind d .none NH) Q E s:=by
 have hp:placesWithHash es.size (fun i=>es[i]?.map (·.hash)) NH=[]:=by
  unfold placesWithHash
  rw[List.filter_eq_nil_iff]
  intro i hi hc
  dsimp only at hc
  cases he:es[i]? with
  |none=>rw[he]at hc;cases hc
  |some e=>
   rw[he]at hc
   have hm:e∈es.toList:=Array.mem_toList_iff.mpr (Array.mem_of_getElem? he)
   exact hno e hm (by simpa using hc)
 unfold dictFind
 try with_reducible refine bg ?_
 refine aa (wpAny_dictEntries ho hd ?_)
 dsimp only
 rw[hp]
 rw[if_pos (show((Value.none :: ([]:List Nat).filterMap (fun i=>es[i]?.map (·.key))).all carriedByValue)=true by rfl)]
 unfold dictWalkPlain
 simp only[List.forIn_nil,pure_bind,bind_pure]
 exact ag h
theorem fB' {d:Addr} (hd:(d == sysModules)=false):
  MeetsIn prog w (Builtin.«dict.get» ⟨[.ref d,.none],[]⟩) (fun _ R s=>∃o es ep,s.heap.get? d=some o/\o.data=.dict es ep/\(∀e∈es.toList,e.hash≠NH)/\R (.ok (.ret .none)) { s with toks:=s.toks+1 }):=
 .of_wp fun A R s ⟨o,es,ep,h1,h2,h3,h⟩=>by
  show wpAny _ _ (dictGet d .none >>= _) _ _ s
  refine aa ?_
  unfold dictGet
  try with_reducible refine bg ?_
  refine aa (eJ' (aa (le' (s:={ s with toks:=s.toks+1 }) h1 h2 h3 (ag ?_))))
  show wpAny _ _ (Builtin.Dict.missed d .none >>= _) _ _ _
  exact aa (wpAny_missed_other hd (ag ⟨.none,rfl,h⟩))
end
theorem g3' {P:Program} {w:World} {k:Key}:∀{es:List DictEntry} {vs:List (Key×Value)} {en:DictEntry},Pairs (au' P w) es vs->en∈es->(au' P w).is k en.key=true->k∈vs.map (·.1)
 |_,_,_,.nil,h,_=>by cases h
 |_,_,en,.cons (e:=e) (kv:=kv) h1 h2 r,h,hk=>by
  rcases ax.mp h with rfl|h
  .rw[(au' P w).inj _ _ _ hk h1]
   exact aG
  .exact aB _ (g3' r h hk)
theorem cl' {α β:Type} {F:α->β->Prop}:∀{xs:List α} {ys:List β} {y:β},Paired F xs ys->y∈ys->∃x∈xs,F x y
 |_,_,_,.nil,h=>by cases h
 |_,_,y,.cons h1 r,h=>by
  rcases ax.mp h with rfl|h
  .exact⟨_,aG,h1⟩
  .obtain⟨x,hx,hf⟩:=cl' r h
   exact⟨x,aB _ hx,hf⟩
def NoN (H:Hp) (a:Addr):Prop:=(∃kvs,H a=some (.dK kvs)/\∀kv∈kvs,∃i:Int,kv.1=.inl i/\hashInt i≠NH)\/
 ∃kvs,H a=some (.dT kvs)/\∀kv∈kvs,∃is:List Int,kv.1=is.map Key.inl/\reduceHash (Builtin.Tuple.tupleHashOf (is.map hashInt))≠NH
theorem NoN.at {X:Cx} {pins:List (Addr×Obj)} {σ:St} {H:Hp} {s:Shared} {a:Addr} (I:Inv X pins σ H s) (h:NoN H a):(a == sysModules)=false/\s.TypeIs (.ref a) "dict"/\∃o es ep,s.heap.get? a=some o/\o.data=.dict es ep/\∀e∈es.toList,e.hash≠NH:=by
 rcases h with⟨kvs,e,hk⟩|⟨kvs,e,hk⟩
 .obtain⟨z,hd,vs,rel,dd⟩:=xM' I.hok e
  refine⟨hd,dd.typeIs,?_⟩
  obtain⟨o,es,ep,h1,_,h3,h4,h5,_⟩:=dd
  refine⟨o,es,ep,h1,h3,fun en hen=>?_⟩
  obtain⟨k,hk1,hk2⟩:=h4 en (Array.mem_toList_iff.mp hen)
  have hin:k∈kvs.map (·.1):=by
   rw[rel.keys]
   exact g3' h5 hen hk1
  obtain⟨kv,hkv,rfl⟩:=aR.mp hin
  obtain⟨i,ei,hi⟩:=hk kv hkv
  rw[hk2,ei]
  exact hi
 .obtain⟨z,hd,xs,rel,dd⟩:=xN' I.hok e
  refine⟨hd,dd.typeIs,?_⟩
  obtain⟨o,es,ep,h1,_,h3,h4,_⟩:=dd
  refine⟨o,es,ep,h1,h3,fun en hen=>?_⟩
  rw[h4]at hen
  obtain⟨x,hx,rfl⟩:=aR.mp hen
  obtain⟨kv,hkv,hp⟩:=cl' rel hx
  obtain⟨is,ei,hi⟩:=hk kv hkv
  show(tupleKind (au' X.prog X.w)).hash x.1≠NH
  rw[<- hp.1,ei]
  show reduceHash (Builtin.Tuple.tupleHashOf ((is.map Key.inl).map (au' X.prog X.w).hash))≠NH
  rw[ck]
  exact hi
theorem t3' {X:Cx} {pins:List (Addr×Obj)} {σ:St} {H:Hp} {s:Shared} {a:Addr} {A:Around} {E:Value->Shared->Prop} {Q:Value->Shared->Prop} (I:Inv X pins σ H s) (g:NoN H a) (h:∀s',Inv X pins σ H s'->Q .none s'):
  wpAny (model X.prog X.w) A (call (.builtin "dict.get") [.ref a,.none]) Q E s:=by
 obtain⟨hd,ht,o,es,ep,h1,h2,h3⟩:=g.at I
 exact call_meetsIn PySem.F.slot_dict_get ht PySem.F.entry_dict_get (PySem.F.args_dict_get_2 _ _) (fB' hd) ⟨o,es,ep,h1,h2,h3,h _ (I.tok _)⟩
def t4' (P:Program) (w:World) (kvs:List (Key×V)) (o:Obj):Prop:=kvs.length<=sizeLine/\∃vs es ep,KV kvs vs/\o.ExactDict/\o.data=.dict es ep/\KeysOf (au' P w) es/\Pairs (au' P w) es.toList vs/\(vs.map (·.1)).Nodup
theorem g4' {P:Program} {w:World} (a:List (Key×V)) (o:Obj) (h:t4' P w a o) (v:Option Value):o.data≠.cell v:=by
 obtain⟨_,_,es,ep,_,_,hd,_⟩:=h
 rw[hd]
 exact fun z=>nomatch z
theorem i1' {X:Cx} {A:Around} {E:Value->Shared->Prop} (s:Shared) (Q:Value->Shared->Prop) (h:∀_led:Bool,Q (.ref s.heap.objs.size) { s with heap:=s.heap.push { cls:=.type "dict",dict:=none,data:=.dict #[] } }):wpAny (model X.prog X.w) A newDict Q E s:=aI (h true)
theorem lf' {P:Program} {w:World} (_led:Bool):t4' P w [] { cls:=.type "dict",dict:=none,data:=.dict #[] }:=
 ⟨aM _,[],#[],0,.nil,⟨rfl,rfl,rfl⟩,rfl,fun e he=>by simp at he,.nil,List.nodup_nil⟩
theorem t5' {P:Program} {w:World} (a:List (Key×V)) (o:Obj) (D:Addr) (H:Hp) (h:Heap) (i:t4' P w a o) (e:h.get? D=some o) (sy:(D == sysModules)=false) (_:H D=none) (_:True) (_:HOk P w H h):a5' P w (upd H D (.dK a)) h D (.dK a):=by
 obtain⟨z,vs,es,ep,h1,h2,h3,h4,h5,h6⟩:=i
 exact⟨z,sy,vs,h1,o,es,ep,e,h2,h3,h4,h5,h6⟩
section
variable {X:Cx}
def i2' (tk tv:TE):TL (List (Key×V)):=fun σ a H N=>tk σ H fun y H1=>tv σ H1 fun v H2=>∃k,y=kV k/\a.length<sizeLine/\N (iW' a k v) H2
theorem lg' {D:Addr} {ke ve:Expr} {tk tv:TE} (hxe:X.xe=fun _ _=>False) (hk:PE X ke tk) (hv:PE X ve tv):cx' X D (t4' X.prog X.w) [] (do
   let kv <- eval ke X.env
   let vv <- holding [kv] (eval ve X.env)
   match Value.ref D with
   | .ref d=>do
    standAt { ke.pos with endLine:=ve.pos.endLine,endCol:=ve.pos.endCol }
    holding [kv,vv] (dictSet d kv vv)
   |_=>unsupported "internal:dictcomp") (i2' tk tv):=by
 intro pins s σ H a o N I hD ho hi hq
 have pinD:∀{s1:Shared} {pins1:List (Addr×Obj)} {H1:Hp},Inv X pins1 σ H1 s1->dz' X pins1 H1 D->s1.heap.get? D=some o->Inv X (pins1++b4' [D] s1.heap) σ H1 s1:=fun J f e=>J.pinned (fun b hb=>by
  have z:b=D:=by simpa using hb
  subst z
  exact f) (fun b hb=>by
  have z:b=D:=by simpa using hb
  subst z
  exact⟨o,e,g4' _ _ hi⟩)
 have h1:=hk _ s σ H _ (pinD I hD ho) hq
 rw[hxe]at h1
 refine aa (thn h1 fun u s1 ⟨y,H1,J1,r1,hq1⟩=>?_)
 have q1:=J1.pin (D,o) (aj _ (aj _ (aD' (by simp) ho)))
 have h2:=hv _ s1 σ H1 _ J1 hq1
 rw[hxe]at h2
 refine aa (bg (thn h2 fun u2 s2 ⟨v,H2,J2,r2,k,ek,z2,n2⟩=>?_))
 subst ek
 have q2:=J2.pin (D,o) (aj _ (aj _ (aD' (by simp) ho)))
 obtain⟨z,vs,es,ep,g1,g2,g3,g4,g5,g6⟩:=hi
 have dd:s2.heap.DictOf (au' X.prog X.w) D vs:=⟨o,es,ep,q2.1,g2,g3,g4,g5,g6⟩
 refine aa (bK (bg (wpAny_dictSet_pairs (hsz:=by rw[<- g1.length];exact z) (kL' r1) dd fun h' dd' hs=>?_)))
 obtain⟨_,f1,f2,f3,f4,f5⟩:=hD
 obtain⟨o',es',ep',d1,d2,d3,d4,d5,d6⟩:=dd'
 have J3:Inv X pins σ H2 { s2 with heap:=h',toks:=s2.toks+1 }:=J2.unpinned.turned (it:=D) (t':=s2.toks+1) (fun b o hb e=>(hs.2 b hb).trans e) q2.2.1 f1 f3 f4 f5
 exact⟨σ,_,o',H2,J3,Ext.refl,d1,⟨ay (ij' a k v) z2,_,es',ep',g1.put k r2,d2,d3,d4,d5,d6⟩,q2.2.1,n2⟩
end
abbrev KTL:=List (List Key×Addr×V)
def t6' (P:Program) (w:World) (a:KTL) (o:Obj):Prop:=a.length<=sizeLine/\∃(xs:List (List Key×Addr×Value)) (es:Array DictEntry) (ep:Nat),Paired (fun(p:List Key×Addr×V) (q:List Key×Addr×Value)=>p.1=q.1/\p.2.1=q.2.1/\aJ' p.2.2 q.2.2) a xs/\o.ExactDict/\o.data=.dict es ep/\es.toList=xs.map (entryOfKey (tupleKind (au' P w)))/\(xs.map (·.1)).Nodup
theorem g5' {P:Program} {w:World} (a:KTL) (o:Obj) (h:t6' P w a o) (v:Option Value):o.data≠.cell v:=by
 obtain⟨_,_,es,ep,_,_,hd,_⟩:=h
 rw[hd]
 exact fun z=>nomatch z
theorem lh' {P:Program} {w:World} (_led:Bool):t6' P w [] { cls:=.type "dict",dict:=none,data:=.dict #[] }:=
 ⟨aM _,[],#[],0,.nil,⟨rfl,rfl,rfl⟩,rfl,rfl,List.nodup_nil⟩
def okT (a:KTL) (H:Hp):Prop:=∀x∈a,H x.2.1=some (.tup (x.1.map kV))
def plT (a:KTL):List (List Key×V):=a.map fun x=>(x.1,x.2.2)
theorem fN' {H:Hp}:∀{a:KTL} {xs:List (List Key×Addr×Value)},Paired (fun(p:List Key×Addr×V) (q:List Key×Addr×Value)=>p.1=q.1/\p.2.1=q.2.1/\aJ' p.2.2 q.2.2) a xs->okT a H->Paired (fun(p:List Key×V) (q:List Key×Addr×Value)=>p.1=q.1/\H q.2.1=some (.tup (p.1.map kV))/\aJ' p.2 q.2.2) (plT a) xs
 |_,_,.nil,_=>.nil
 |_,_,.cons h r,ok=>.cons ⟨h.1,by rw[<- h.2.1];exact ok _ aG,h.2.2⟩ (fN' r fun x hx=>ok x (aB _ hx))
theorem t7' {P:Program} {w:World} (a:KTL) (o:Obj) (D:Addr) (H:Hp) (h:Heap) (i:t6' P w a o) (e:h.get? D=some o) (sy:(D == sysModules)=false) (hD:H D=none) (ok:okT a H) (_:HOk P w H h):a5' P w (upd H D (.dT (plT a))) h D (.dT (plT a)):=by
 obtain⟨z,xs,es,ep,h1,h2,h3,h4,h5⟩:=i
 refine⟨by unfold plT;rw[ac];exact z,sy,xs,fN' h1 fun x hx=>?_,o,es,ep,e,h2,h3,h4,h5⟩
 rw[af' (av' (ok x hx) hD)]
 exact ok x hx
section
variable {X:Cx}
def i3' (tk tv:TE):TL KTL:=fun σ a H N=>tk σ H fun y H1=>tv σ H1 fun v H2=>∃(k:List Key) (b:Addr),y=.ref b/\H2 b=some (.tup (k.map kV))/\okT a H2/\(∀x∈a,x.1≠k)/\a.length<sizeLine/\N (a++[(k,b,v)]) H2
theorem li' {D:Addr} {ke ve:Expr} {tk tv:TE} (hu:X.A.units+1<cLine) (hxe:X.xe=fun _ _=>False) (hk:PE X ke tk) (hv:PE X ve tv):cx' X D (t6' X.prog X.w) [] (do
   let kv <- eval ke X.env
   let vv <- holding [kv] (eval ve X.env)
   match Value.ref D with
   | .ref d=>do
    standAt { ke.pos with endLine:=ve.pos.endLine,endCol:=ve.pos.endCol }
    holding [kv,vv] (dictSet d kv vv)
   |_=>unsupported "internal:dictcomp") (i3' tk tv):=by
 intro pins s σ H a o N I hD ho hi hq
 have pinD:∀{s1:Shared} {pins1:List (Addr×Obj)} {H1:Hp},Inv X pins1 σ H1 s1->dz' X pins1 H1 D->s1.heap.get? D=some o->Inv X (pins1++b4' [D] s1.heap) σ H1 s1:=fun J f e=>J.pinned (fun b hb=>by
  have z:b=D:=by simpa using hb
  subst z
  exact f) (fun b hb=>by
  have z:b=D:=by simpa using hb
  subst z
  exact⟨o,e,g5' _ _ hi⟩)
 have h1:=hk _ s σ H _ (pinD I hD ho) hq
 rw[hxe]at h1
 refine aa (thn h1 fun u s1 ⟨y,H1,J1,r1,hq1⟩=>?_)
 have h2:=hv _ s1 σ H1 _ J1 hq1
 rw[hxe]at h2
 refine aa (bg (thn h2 fun u2 s2 ⟨v,H2,J2,r2,k,b,ek,eb,ok,nw,z2,n2⟩=>?_))
 subst ek
 cases(show u=Value.ref b from r1)
 have q2:=J2.pin (D,o) (aj _ (aj _ (aD' (by simp) ho)))
 obtain⟨z,xs,es,ep,g1,g2,g3,g4,g5⟩:=hi
 have hxl:=Paired.length g1
 have dd:s2.heap.DictOfH (tupleKind (au' X.prog X.w)) D xs:=⟨o,es,ep,q2.1,g2,g3,g4,fun x hx=>by
  obtain⟨p,hp,e1,e2,_⟩:=cl' g1 hx
  rw[<- e1,<- e2]
  exact fJ' J2.hok (ok p hp),g5⟩
 refine aa (bK (bg (wpAny_dictSet_heap (hsz:=by rw[<- hxl];exact z) (show X.A.units<cLine from Nat.lt_of_succ_lt hu) (fJ' J2.hok eb) dd fun h' dd' hs=>?_)))
 obtain⟨_,f1,f2,f3,f4,f5⟩:=hD
 have hnew:∀x∈xs,x.1≠k:=fun x hx e=>by
  obtain⟨p,hp,e1,_⟩:=cl' g1 hx
  exact nw p hp (e1.trans e)
 rw[storedH_new (by unfold atKey;rw[List.find?_eq_none.mpr (fun x hx=>by simpa using hnew x hx)];rfl)]at dd'
 obtain⟨o',es',ep',d1,d2,d3,d4,d5,d6⟩:=dd'
 have J3:Inv X pins σ H2 { s2 with heap:=h',toks:=s2.toks+(tupleKind (au' X.prog X.w)).draws k }:=J2.unpinned.turned (it:=D) (t':=s2.toks+(tupleKind (au' X.prog X.w)).draws k) (fun b o hb e=>(hs.2 b hb).trans e) q2.2.1 f1 f3 f4 f5
 exact⟨σ,_,o',H2,J3,Ext.refl,d1,⟨by rw[ap];exact z2,_,es',ep',Paired.snoc g1 ⟨rfl,rfl,r2⟩,d2,d3,d4,d6⟩,q2.2.1,n2⟩
end
def xX' (neg:Bool) (ty td:TE):TE:=fun σ H Q=>ty σ H fun y H1=>td σ H1 fun x H2=>(∃a o,x=.ref a/\h4' H2 a y o/\Q (.bl (if neg then !o.isSome else o.isSome)) H2)\/w3' neg y x H2 Q
def lj' (td ty:TE):TE:=fun σ H Q=>td σ H fun x H1=>∃a,x=.ref a/\IsD H1 a/\ty σ H1 fun y H2=>(∃o,h4' H2 a y o/\Q (o.getD .non) H2)\/(y=.non/\NoN H2 a/\Q .non H2)
section
variable {X:Cx} {o e f i:Expr} {apos cpos:Pos} {td ty tx:TE}
theorem pk' (hu:X.A.units+1<cLine) (hi:PE X i ty) (ho:PE X o td):PC X .In i o (xX' false ty td):=by
 intro pins s σ H Q I h
 refine thn (hi pins s σ H _ I h) fun iv s1 ⟨y,H1,I1,ry,q1⟩=>thn (ho pins s1 σ H1 _ I1 q1) fun u s2 ⟨x,H2,I2,rx,q2⟩=>?_
 rcases q2 with⟨a,ov,ex,g,q2⟩|q2
 .subst ex
  obtain rfl:u=Value.ref a:=rx
  exact Av' hu I2 g ry fun s3 I3=>⟨.bl ov.isSome,H2,I3,rfl,q2⟩
 .exact t2' pins s2 σ H2 y x iv u Q I2 ry rx q2
theorem g6' (hu:X.A.units+1<cLine) (hi:PE X i ty) (ho:PE X o td):PC X .NotIn i o (xX' true ty td):=by
 intro pins s σ H Q I h
 refine thn (hi pins s σ H _ I h) fun iv s1 ⟨y,H1,I1,ry,q1⟩=>thn (ho pins s1 σ H1 _ I1 q1) fun u s2 ⟨x,H2,I2,rx,q2⟩=>?_
 rcases q2 with⟨a,ov,ex,g,q2⟩|q2
 .subst ex
  obtain rfl:u=Value.ref a:=rx
  exact qs' hu I2 g ry fun s3 I3=>⟨.bl (!ov.isSome),H2,I3,rfl,q2⟩
 .exact lb' pins s2 σ H2 y x iv u Q I2 ry rx q2
theorem nH' (hu:X.A.units+1<cLine) (ho:PE X o td) (he:PE X e ty) (m:M1 X o "get" apos e cpos):PE X (.Call (.Attribute o "get" apos) [e] [] cpos) (lj' td ty):=by
 intro pins s σ H Q I h
 refine wpAny_Call_method m.base m.few m.line PySem.F.plainAttrs_dict PySem.F.slot_dict_get PySem.F.type_dict_get (thn (ho pins s σ H _ I h) fun u s1 ⟨x,H1,I1,rx,a,ex,d,q1⟩=>?_)
 subst ex
 obtain rfl:u=Value.ref a:=rx
 obtain⟨t1,t2,_⟩:=tM' I1 d
 refine⟨t1,t2,?_⟩
 rw[m.trees]
 refine Calls.callWith_builtin rfl (Calls.evalArgs_plain (Calls.spliced_cons (thn (he pins s1 σ H1 _ I1 q1) fun iv s2 ⟨y,H2,I2,ry,q2⟩=>Calls.spliced_nil ?_)))
 rcases q2 with⟨ov,g,q2⟩|⟨ey,g,q2⟩
 .exact tN' hu I2 g ry fun w' s3 I3 rw'=>⟨_,H2,I3,rw',q2⟩
 .subst ey
  obtain rfl:iv=Value.none:=ry
  exact t3' I2 g fun s3 I3=>⟨.non,H2,I3,rfl,q2⟩
end
abbrev t8' (own:List Nat) (wi:TI) (g:TG) (tc:TT) (ax':TL ((Option Int->Bool)×Nat)):TE:=ek' own wi g tc ax' (fun _=>false,0) (fun p a=>fA' p a.1 a.2) fun _ _=>True
abbrev t9' (own:List Nat) (wi:TI) (g:TG) (tc:TT) (tk tv:TE):TE:=ek' own wi g tc (i2' tk tv) [] (fun _ a=>.dK a) fun _ _=>True
abbrev ua' (own:List Nat) (wi:TI) (g:TG) (tc:TT) (tk tv:TE):TE:=ek' own wi g tc (i3' tk tv) [] (fun _ a=>.dT (plT a)) okT
section
variable {X:Cx} {e:Expr} {scope:Scope} {tg iter:Expr} {ifs:List Expr} {nx:Addr->Env->Sem Unit} {g:TG} {tc:TT} {own:List Nat} {wi:TI}
theorem qH' {P:Program} {w:World} (a:(Option Int->Bool)×Nat) (o:Obj) (D:Addr) (H:Hp) (h:Heap) (i:IsS a o) (e:h.get? D=some o) (_:(D == sysModules)=false) (_:H D=none) (_:True) (_:HOk P w H h):a5' P w (upd H D (fA' D a.1 a.2)) h D (fA' D a.1 a.2):=k9' e i
theorem qI' {α:Type} {Is:α->Obj->Prop} {ax':TL α} {a0:α} {o0:Bool->Obj} {newAcc:Sem Value} {ho:Addr->α->HO} {ok:α->Hp->Prop} {i:Nat} {y:Str} {py pos pos2:Pos}
  (hnew:∀(s:Shared) (Q:Value->Shared->Prop),(∀led,Q (.ref s.heap.objs.size) { s with heap:=s.heap.push (o0 led) })->wpAny (model X.prog X.w) X.A newAcc Q X.xe s) (hfr:∀led,(o0 led).isFreed=false) (ha0:∀led,Is a0 (o0 led)) (hda:∀(a:α) (o:Obj),Is a o->∀v:Option Value,o.data≠.cell v)
  (hfin:∀(a:α) (o:Obj) (D:Addr) (H:Hp) (h:Heap),Is a o->h.get? D=some o->(D == sysModules)=false->H D=none->ok a H->HOk X.prog X.w H h->a5' X.prog X.w (upd H D (ho D a)) h D (ho D a))
  (C:CompInG Is X e scope tg iter ifs nx g tc ax' own) (hi:PI X tg iter wi) (hN:X.N.Nodup) (hy:X.N[i]?=some y) (hx:Loc X.env.scope y) (hf:X.fn y=true\/X.env.scope.names.lookup y=some .local)
  (hG:PG X (.Name y py) (dA' i))
  (he:eval e X.env=comprehension e scope X.env pos2 newAcc false (eval iter X.env))
  (he2:evalThenUse e X.env (assign (.Name y py) X.env)=(do let _ <- comprehension e scope X.env pos2 newAcc false (eval iter X.env) (some (assign (.Name y py) X.env))))
  (hsw:∃b,swapsWith e (some (.Name y py)) pos.line X.env=pure b):PS X (.Assign [.Name y py] e pos) (j8' (ek' own wi g tc ax' a0 ho ok) (dA' i)):=by
 obtain⟨b,hb⟩:=hsw
 cases b with
 |true=>exact in' hnew hfr ha0 hda hfin C hi hN hy hx hf he2 hb
 |false=>exact iS' (nF' hnew hfr ha0 hda hfin C hi he) hG hb rfl
end
def iOf:Value->Int
 | .int i _=>i
 |_=>0
theorem lk':∀{vs:List Value},(∀v∈vs,∃i t,v=.int i t)->IntsAre vs (vs.map iOf)
 | [],_=>.nil
 |v :: vs,h=>by
  obtain⟨i,t,rfl⟩:=h v (by simp)
  exact .cons i t (lk' fun v hv=>h v (by simp[hv]))
theorem el':∀{ns:List Int} {us:List Value},IntsAre us ns->aE' (ns.map V.int) us
 |_,_,.nil=>.nil
 |_,_,.cons y t r=>.cons ⟨t,rfl⟩ (el' r)
theorem qJ':∀{l b:List Int},l.Nodup->(∀i∈l,i∈b)->l.length<=b.length
 | [],_,_,_=>aM _
 |a :: l,b,h,hs=>by
  have ha:a∈b:=hs a (by simp)
  have:=qJ' (l:=l) (b:=b.erase a) (bB.mp h).2 fun i hi=>by
   have hne:i≠a:=fun e=>(bB.mp h).1 (by rw[<- e];exact hi)
   exact(List.mem_erase_of_ne hne).mpr (hs i (by simp[hi]))
  rw[List.length_erase_of_mem ha]at this
  have:=List.length_pos_of_mem ha
  rw[aE]
  omega
section
variable {prog:Program} {w:World} {A:Around} {E:Value->Shared->Prop} {s:Shared}
theorem g7' {D:Addr} {o:Obj} {S:Option Int->Bool} {n:Nat} {Q:Value->Shared->Prop} (hh:A.handled=none) (ho:s.heap.get? D=some o) (hS:o.SetIt (gY' prog w) S n) (hno:S none=false) (h64:∃b:List Int,b.length<64/\∀i,S (some i)=true->i∈b)
  (h:∀(s':Shared) (l:Addr) (us:List Int) (vs:Array Value) (e:Nat),(∀b o,s.heap.get? b=some o->s'.heap.get? b=some o)->s'.gens=s.gens->s'.os=s.os->s.heap.objs.size<=l->s'.heap.get? l=some (seqObj "list" vs e)->IntsAre vs.toList us->us.Pairwise (· < ·)->(∀i,i∈us↔S (some i)=true)->us.length=n->Q (.ref l) s'):
  wpAny (model prog w) A (call (.builtin "sorted") [.ref D]) Q E s:=by
 obtain⟨es,ep,t,hex,hd,hel,hmem,hb,hf,hn,hdst,htk⟩:=hS
 refine Calls.call_function_entry kind_sorted plain_sorted entry_sorted (args_sorted1 _) ?_
 unfold Builtin.«sorted»
 refine aa (m:=checkCount "sorted" 1 1 _) (ag (aa (gf' (A:=A.in1) hh ho hex hd hf htk (fits_of_scanBound hb) fun s1 xs k1 k2 k3 k4 k5 k6=>aa (wpAny_newList ?_ (by rw[k6.length_eq,ac,ak];exact fits_of_scanBound hb)))))
 have hint:∀e∈es.toList,∃i t,e.2=.int i t/\S (some i)=true:=by
  intro e he
  obtain⟨⟨k,hk,_⟩,_⟩:=hel e he
  have hSk:=(hmem k).mpr ⟨e,he,hk⟩
  rcases a0' hk with⟨i,t,rfl,q⟩|⟨rfl,_⟩
  .exact⟨i,t,q,hSk⟩
  .rw[hno]at hSk;cases hSk
 have hxi:∀v∈xs,∃i t,v=.int i t:=by
  intro v hv
  obtain⟨e,he,rfl⟩:=aR.mp (k6.mem_iff.mp hv)
  obtain⟨i,t,q,_⟩:=hint e he
  exact⟨i,t,q⟩
 have hI:=lk' hxi
 have hln:xs.length=n:=by rw[k6.length_eq,ac,ak,hn]
 have hnd:(xs.map iOf).Nodup:=by
  have h1:(es.toList.map (·.2)).Pairwise fun a b=>iOf a≠iOf b:=by
   rw[bU]
   refine List.Pairwise.imp_of_mem (fun {a b} ha hb' z q=>?_) hdst
   obtain⟨i,t,e1,_⟩:=hint a ha
   obtain⟨j,u,e2,_⟩:=hint b hb'
   rw[e1,e2]at q
   have q':i=j:=q
   subst q'
   exact z (some i) (by rw[e1];show Value.isInt i (.int i t)=true;simp[Value.isInt]) (by rw[e2];show Value.isInt i (.int i u)=true;simp[Value.isInt])
  rw[List.Nodup,bU]
  exact(List.Perm.pairwise_iff (fun {a b} z=>Ne.symm z) k6).mpr h1
 have hxl:xs.length<64:=by
  obtain⟨b,hb1,hb2⟩:=h64
  have:=qJ' (b:=b) hnd fun i hi=>by
   obtain⟨v,hv,rfl⟩:=aR.mp hi
   obtain⟨e,he,rfl⟩:=aR.mp (k6.mem_iff.mp hv)
   obtain⟨i,t,q,z⟩:=hint e he
   rw[q]
   exact hb2 i z
  rw[ac]at this
  omega
 have hoL:(s1.heap.push (seqObj "list" xs.toArray 0)).get? s1.heap.objs.size=some (seqObj "list" xs.toArray 0):=ao _ rfl
 refine aa (bg (bo slot_list_sort ⟨_,hoL,rfl⟩ entry_list_sort (list_sort_tree hoL hI hxl fun out us a1 a2 a3=>⟨_,rfl,ag ⟨_,rfl,?_⟩⟩) (args_list_sort _)))
 obtain⟨e',he'⟩:=sortedHeap_at (out:=out) hoL
 refine h _ s1.heap.objs.size us out e' (fun b o eb=>?_) k2 k3 k5 he' a1 ?_ (fun i=>?_) (by rw[a2.length_eq,ac,hln])
 .have hlt:=av (k1 b o eb)
  rw[sortedHeap_old (aK hlt) (by rw[size_push'];exact cf hlt)]
  exact ah _ (k1 b o eb)
 .have hn2:us.Nodup:=a2.nodup_iff.mpr hnd
  exact(List.Pairwise.and a3 hn2).imp fun {a b} z=>by
   have:=z.1
   have:=z.2
   omega
 .rw[a2.mem_iff,aR]
  constructor
  .rintro⟨v,hv,rfl⟩
   obtain⟨e,he,rfl⟩:=aR.mp (k6.mem_iff.mp hv)
   obtain⟨i,t,q,z⟩:=hint e he
   rw[q]
   exact z
  .intro z
   obtain⟨e,he,hk⟩:=(hmem (some i)).mp z
   obtain⟨u,eu⟩:=Value.isInt_shape hk
   exact⟨e.2,k6.mem_iff.mpr (List.mem_map_of_mem he),by rw[eu];rfl⟩
end
section
variable {X:Cx}
theorem Inv.other {pins:List (Addr×Obj)} {σ:List (Option V)} {H:Hp} {s s':Shared} (I:Inv X pins σ H s) (h1:s'.heap=s.heap) (h2:s'.gens=s.gens) (h3:s'.os=s.os):Inv X pins σ H s':=by
 obtain⟨hp,g,d,t,os⟩:=s'
 cases h1;cases h2;cases h3
 exact⟨I.ok,I.os,I.bare,I.base,I.loc,I.cell,I.free,I.freeC,I.pin,I.hok,I.len⟩
theorem Inv.ints {pins:List (Addr×Obj)} {σ:List (Option V)} {H:Hp} {s s':Shared} {l:Addr} {us:List Int} {vs:Array Value} {e:Nat} (I:Inv X pins σ H s) (k1:∀b o,s.heap.get? b=some o->s'.heap.get? b=some o) (k2:s'.gens=s.gens) (k3:s'.os=s.os) (k4:s.heap.objs.size<=l) (k5:s'.heap.get? l=some (seqObj "list" vs e)) (k6:IntsAre vs.toList us) (k7:us.length<=sizeLine):
  Inv X pins σ (upd H l (.lst (us.map V.int))) s':=by
 have J:=I.laid (a:=l) (o:=.lst (us.map V.int)) (h':=s'.heap) (t':=s.toks) k1 k4 ⟨by rw[ac];exact k7,vs.toList,e,el' k6,by rw[k5]⟩
 exact J.other rfl k2 k3
def w4' (P:Program) (w:World) (a:(Option Int->Bool)×Nat) (o:Obj):Prop:=a.2<=4000/\∃m,m<=a.2/\o.SetIt (gY' P w) a.1 m
theorem g8' {P:Program} {w:World} (a:(Option Int->Bool)×Nat) (o:Obj) (h:w4' P w a o) (v:Option Value):o.data≠.cell v:=by
 obtain⟨_,m,_,es,ep,t,_,hd,_⟩:=h
 rw[hd]
 exact fun z=>nomatch z
theorem ll' {D:Addr} {elt:Expr} {te:TE} (hxe:X.xe=fun _ _=>False) (he:PE X elt te):cx' X D (w4' X.prog X.w) [] (do let v <- eval elt X.env;standAt elt.pos;let _ <- call (.builtin "set.add") [.ref D,v]) (dK' te):=by
 intro pins s σ H a o N I hD ho hi hq
 have I1:Inv X (pins++b4' [D] s.heap) σ H s:=I.pinned (fun b hb=>by
  have e:b=D:=by simpa using hb
  subst e
  exact hD) (fun b hb=>by
  have e:b=D:=by simpa using hb
  subst e
  exact⟨o,ho,g8' _ _ hi⟩)
 have h1:=he _ s σ H _ I1 hq
 rw[hxe]at h1
 refine aa (thn h1 fun u s1 ⟨v,H1,J1,r1,k,ek,z1,n1⟩=>?_)
 subst ek
 have q1:=J1.pin (D,o) (aj _ (aj _ (aD' (by simp) ho)))
 obtain⟨hn,m,hm,hS⟩:=hi
 refine aa (bK (aa (jL' (g2' r1).1 (g2' (P:=X.prog) (w:=X.w) r1).2 q1.1 hS (bM (Nat.succ_le_of_lt (bM hm z1)) (by decide)) fun h' o' hs ho' hS'=>?_)))
 obtain⟨_,f1,f2,f3,f4,f5⟩:=hD
 have J2:Inv X pins σ H1 { s1 with heap:=h',toks:=s1.toks+1 }:=J1.unpinned.turned (it:=D) (t':=s1.toks+1) (fun b o hb e=>(hs.2 b hb).trans e) q1.2.1 f1 f3 f4 f5
 exact ag ⟨σ,_,o',H1,J2,Ext.refl,ho',⟨by show a.2+1<=4000;omega,_,by show _<=a.2+1;split<;>omega,hS'⟩,q1.2.1,n1⟩
def xY' (Q:VK) (a:(Option Int->Bool)×Nat) (H2:Hp):Prop:=a.1 none=false/\(∃b:List Int,b.length<64/\∀i,a.1 (some i)=true->i∈b)/\∀(l:Addr) (us:List Int),H2 l=none->us.Pairwise (· < ·)->(∀i:Int,i∈us↔a.1 (some i)=true)->Q (.ref l) (upd H2 l (.lst (us.map V.int)))
def xZ' (own:List Nat) (wi:TI) (g:TG) (tc:TT) (ax':TL ((Option Int->Bool)×Nat)):TE:=fun σ H Q=>ek' own wi g tc ax' (fun _=>false,0) (fun p a=>fA' p a.1 a.2) (xY' Q) σ H fun _ _=>True
variable {e:Expr} {scope:Scope} {tg iter:Expr} {ifs:List Expr} {nx:Addr->Env->Sem Unit} {g:TG} {tc:TT} {ax':TL ((Option Int->Bool)×Nat)} {own:List Nat} {wi:TI}
theorem ub' {p pos pos2:Pos} (hg1:Gl X "sorted") (hm1:X.mg "sorted"=none) (C:CompInG (w4' X.prog X.w) X e scope tg iter ifs nx g tc ax' own) (hi:PI X tg iter wi) (he:eval e X.env=comprehension e scope X.env pos2 (newSet (.type "set")) false (eval iter X.env)) (hs:starEach [e] X.env=[(false,eval e X.env)]):
  PE X (.Call (.Name "sorted" p) [e] [] pos) (xZ' own wi g tc ax'):=by
 intro pins s σ H Q I hw
 refine wpAny_Call_Name_kw (ei' I hg1 hm1 (u:=.builtin "sorted") rfl ?_)
 refine PyProof.Rows.callWith_builtin1 ?_ (by rw[hs];rfl) rfl
 rw[hs]
 show wpAny _ _ (spliced [(false,eval e X.env)]) _ _ s
 refine Calls.spliced_cons ?_
 rw[he]
 refine thn (e5' (o0:=fun _=>gd' (!(X.w.params.followText "set-order"))) (Q:=fun v s'=>∃D a o H',v=.ref D/\Inv X pins σ H' s'/\s'.heap.get? D=some o/\w4' X.prog X.w a o/\xY' Q a H') (fun s Q h=>k5' (h true)) (fun _=>rfl) (fun _=>⟨aM _,0,ae _,im'⟩) g8' C hi I hw fun s3 s' H0 H' ex D xs o σ' I3 hex J e' hlt h0 fD sy is' n' hok' hR=>?_) fun v s' ⟨D,a,o,H',ev,J,ho,hi',hok⟩=>Calls.spliced_nil ?_
 .obtain⟨m,hn,_⟩:=J.loc
  refine⟨m,hn,fun h' hs=>?_⟩
  have neC:D≠s3.heap.objs.size:=aK hlt
  exact⟨D,xs,o,H',rfl,dD' I3 hex J hs,(hs.2 D neC).trans e',is',hok'⟩
 .subst ev
  obtain⟨hn,m,hm,hS⟩:=hi'
  obtain⟨q1,q2,q3⟩:=hok
  refine g7' (I.ok.hd C.calm) ho hS q1 q2 fun s'' l us vs e' k1 k2 k3 k4 k5 k6 k7 k8 k9=>?_
  exact⟨.ref l,_,J.ints (s':=s'') k1 k2 k3 k4 k5 k6 (by rw[k9];exact ay hm (ay hn (by decide))),rfl,q3 l us (J.hok.fresh k4) k7 k8⟩
end
end L2
namespace L2
open PySem PySem.Spec PyProof.Rows PySem.Ts
section
variable {X:Cx}
def kI (k:List Int):List Itm:=k.map Sum.inl
variable {e:Expr} {scope:Scope} {tg iter:Expr} {ifs:List Expr} {nx:Addr->Env->Sem Unit} {g:TG} {tc:TT} {ax':TL (List (List Int×Addr))} {own:List Nat} {wi:TI}
end
section
variable {prog:Program} {w:World} {A:Around} {E:Value->Shared->Prop} {s:Shared}
end
def Fz (H:Hp) (d:Addr) (o:Obj):Prop:=∃u,H d=some (.frz o u)
theorem Fz.at {P:Program} {w:World} {H:Hp} {h:Heap} {d:Addr} {o:Obj} (f:Fz H d o) (x:HOk P w H h):h.get? d=some o:=let⟨u,e⟩:=f;(x d _ e).1
section
variable {X:Cx} {tg:Expr}
theorem HOk.freeze {P:Program} {w:World} {H:Hp} {h:Heap} {d:Addr} {u:HO} {o:Obj} (x:HOk P w H h) (e:H d=some u) (hu:Mut (some u)) (ho:h.get? d=some o):HOk P w (upd H d (.frz o u)) h:=fun b v q=>by
 have ntup:∀c xs,H c=some (.tup xs)->c≠d:=fun c xs r z=>by subst z;rw[r]at e;cases e;exact hu
 have nown:∀c y,H c=some (.own y)->c≠d:=fun c y r z=>by subst z;rw[r]at e;cases e;exact hu
 have st:∀a v,a5' P w H h a v->a5' P w (upd H d (.frz o u)) h a v:=fun a v y=>y.stay (fun _ _ _ q=>q) (fun c r=>by rw[af' (nown c a r)];exact r) fun c xs r=>by rw[af' (ntup c xs r)];exact r
 by_cases hb:b=d
 .subst hb;rw[ad']at q;cases q;exact⟨ho,st _ _ (x _ _ e)⟩
 .rw[af' hb]at q;exact st _ _ (x b v q)
theorem Inv.freeze {pins:List (Addr×Obj)} {σ:St} {H:Hp} {s:Shared} {d:Addr} {u:HO} {o:Obj} (I:Inv X pins σ H s) (e:H d=some u) (hu:Mut (some u)) (ho:s.heap.get? d=some o):Inv X pins σ (upd H d (.frz o u)) s:=by
 have:=I.step (h':=s.heap) (g':=s.gens) (d':=s.drawn) (t':=s.toks) (ch:=[]) (H':=upd H d (.frz o u)) (fun _ z=>nomatch z) (fun b o _ _ _ q _=>q) (fun b o _ _ _ q _=>⟨o.slots,q⟩)
  (fun b o _ _ n=>by rw[af' (fun z=>by subst z;rw[n]at e;cases e)];exact n) (fun b o _ q=>⟨o,q⟩)
  (fun b xs q=>by rw[af' (fun z=>by subst z;rw[q]at e;cases e;exact hu)];exact q)
  (fun b o v q=>by rw[af' (fun z=>by subst z;rw[q]at e;cases e;exact hu)];exact q)
  (fun b ps q=>⟨#[],by rw[af' (fun z=>by subst z;rw[q]at e;cases e;exact hu),Array.append_empty];exact q⟩)
  (fun m n=>n) (I.hok.freeze e hu ho) I.bare
 exact this
end
section
variable {X:Cx} {pos:Pos}
def x0' (K:W.Frag) (n:Nat) (t:TGs):TG:=fun v σ H Q=>∃a xs,v=.ref a/\(SqT K H a xs\/SqL K H a xs)/\xs.length=n/\t xs σ H Q
theorem uc' {es:List Expr} {k:Nat} {t:TGs} {n:Nat} (hc:X.calm=true) (h:PGs X es t)
  (hn:(assignEach es X.env).length=n:=by rfl) (hst:(assignEach es X.env).findIdx? (·.1)=none:=by rfl):PG X (.Tuple es k pos) (x0' X.K n t):=by
 intro pins s σ H v u Q I r hw
 obtain⟨a,xs,e1,hq,hl,hw⟩:=hw
 rcases hq with hq|hq
 .exact s3' hc h hn hst pins s σ H v u Q I r ⟨a,xs,e1,hq,hl,hw⟩
 .subst e1
  cases r
  obtain⟨its,rv,pl,hz⟩:=I.list hq
  rw[assign_Tuple]
  refine aa (bK ?_)
  unfold unpack
  rw[hn,hst]
  have e:n=its.toArray.size:=by simp[<- hl,rv.length]
  rw[e]
  refine aa (bg (W.kun_itemsOf (I.ok.hd hc) pl.isList fun h' hx=>?_))
  have I1:Inv X pins σ H { s with heap:=h' }:=I.kept (t':=s.toks) fun b o e=>hx b o (aK (av e)) e
  exact h pins _ σ H xs _ Q I1 (by simpa using rv) hw
end
section
variable {prog:Program} {w:World} {A:Around} {E:Value->Shared->Prop} {s:Shared} {K:Type} [DecidableEq K] {knd:HeapKind prog w K} {d:Addr}
end
section
variable {X:Cx}
end
end L2
namespace L2
open PySem PySem.Spec PyProof.Rows PySem.SeqAt
section
variable {prog:Program} {w:World} {d:Addr} {o:Obj} {es:Array DictEntry} {ep:Nat}
end
section
variable {X:Cx}
end
def Pw {α:Type} (R:V->α->Prop) (vs:List V) (as:List α):Prop:=vs.length=as.length/\∀(i:Nat) v a,vs[i]?=some v->as[i]?=some a->R v a
def LsR (H:Hp) {α:Type} (R:V->α->Prop) (v:V) (as:List α):Prop:=∃p vs,v=.ref p/\H p=some (.lst vs)/\Pw R vs as
def TpI (H:Hp) (v:V) (ns:List Int):Prop:=∃p,v=.ref p/\H p=some (.tup (ns.map V.int))
def w5' {α:Type} (R:V->α->Prop):Prop:=∀x a b,R x a->R x b->a=b
theorem Pw.fun1 {α:Type} {R:V->α->Prop} (hR:w5' R) {vs:List V} {as bs:List α} (h1:Pw R vs as) (h2:Pw R vs bs):as=bs:=by
 apply bG
 intro i
 by_cases hi:i<vs.length
 .have g:=af hi
  have g1:=af (show i<as.length by rw[<- h1.1];exact hi)
  have g2:=af (show i<bs.length by rw[<- h2.1];exact hi)
  rw[g1,g2,hR _ _ _ (h1.2 i _ _ g g1) (h2.2 i _ _ g g2)]
 .rw[ba (by rw[<- h1.1];omega),ba (by rw[<- h2.1];omega)]
theorem LsR.fun1 {H:Hp} {α:Type} {R:V->α->Prop} (hR:w5' R):w5' (LsR H R):=by
 rintro x a b ⟨p,vs,rfl,e,h⟩ ⟨q,ws,z,e',h'⟩
 cases z
 rw[e]at e'
 cases e'
 exact h.fun1 hR h'
theorem TpI.fun1 {H:Hp}:w5' (TpI H):=by
 rintro x a b ⟨p,rfl,e⟩ ⟨q,z,e'⟩
 cases z
 rw[e]at e'
 exact e0' (by injection e' with e';injection e' with e')
section
variable {X:Cx} {pins:List (Addr×Obj)} {σ:L2.St} {H:Hp} {s:Shared}
def Az':R2:=fun x y H Q=>∃(k:List (List Int)) (L:List (List (List Int))),LsR H (TpI H) x k/\LsR H (LsR H (TpI H)) y L/\Q (.bl (decide (k∈L))) H
end
section
variable {X:Cx} {e st:Expr} {te:TE} {ts:TO} {p2 pos:Pos}
def dk' {α:Type} (xs:List α) (n:Nat):List α:=(au ((xs.length+n-1) / n)).filterMap fun k=>xs[k*n]?
theorem gh' {α:Type} (xs:List α) {n:Nat} (hn:0<n):(dk' xs n).length<=xs.length:=by
 refine ay (List.length_filterMap_le _ _) ?_
 rw[aQ]
 cases h:xs.length with
 |zero=>rw[Nat.zero_add,Nat.div_eq_of_lt (by omega)];exact ae _
 |succ m=>
  apply bV
  rw[Nat.div_lt_iff_lt_mul hn]
  have:(m+1)*1<=(m+1)*n:=Nat.mul_le_mul_left _ hn
  have e:(m+1).succ*n=(m+1)*n+n:=by rw[Nat.succ_mul]
  rw[e]
  omega
theorem qK' {α β:Type} {f g:α->Option β}:∀{l:List α},(∀x∈l,f x=g x)->l.filterMap f=l.filterMap g
 | [],_=>rfl
 |a :: l,h=>by rw[aX,aX,h a (by simp),qK' fun x hx=>h x (by simp[hx])]
theorem gi' (its:List Value) {n:Nat} (hn:0<n):slicePick its.toArray none none (some (n:Int))=(dk' its n).toArray:=by
 unfold slicePick dk'
 congr 1
 have h0:((n:Int) > 0):=by omega
 have e:sliceBounds none none (some (n:Int)) its.toArray.size=(0,(its.length:Int),(n:Int)):=by
  simp only[sliceBounds,Option.getD_some,h0,if_true,al]
 rw[e]
 show(sliceRange 0 (its.length:Int) (n:Int)).filterMap (its.toArray[·]?)=_
 unfold sliceRange
 simp only[h0,if_true]
 by_cases hl:(0:Int)<(its.length:Int)
 .simp only[hl,if_true]
  have e2:(((its.length:Int)-0+(n:Int)-1) / (n:Int)).toNat=(its.length+n-1) / n:=by
   have:((its.length:Int)-0+(n:Int)-1)=((its.length+n-1:Nat):Int):=by omega
   rw[this,<- Int.natCast_ediv,aZ]
  rw[e2,List.filterMap_map]
  apply qK'
  intro k _
  have e3:((0:Int)+(n:Int)*(k:Int)).toNat=k*n:=by
   rw[Int.zero_add,<- cO,aZ,cy]
  show its.toArray[((0:Int)+(n:Int)*(k:Int)).toNat]?=_
  rw[e3]
  simp
 .have hl0:its.length=0:=by omega
  have e4:its=[]:=bx.mp hl0
  subst e4
  simp
theorem aE'.pick {xs:List V} {its:List Value} (r:aE' xs its) (f:Nat->Nat):∀l:List Nat,aE' (l.filterMap fun k=>xs[f k]?) (l.filterMap fun k=>its[f k]?)
 | []=>.nil
 |k :: l=>by
  rw[aX,aX]
  have hl:=r.length
  cases hx:xs[f k]? with
  |none=>
   have:its[f k]?=none:=by
    rw[aJ]at hx ⊢
    omega
   rw[this]
   exact aE'.pick r f l
  |some x=>
   obtain⟨u,hu,ru⟩:=r.get hx
   rw[hu]
   exact .cons ru (aE'.pick r f l)
def x1' (K:W.Frag) (te:TE) (ts:TO):TE:=fun σ H Q=>te σ H fun x H1=>ts σ H1 fun l H2=>∃(a:Addr) (xs:List V) (n:Nat),x=.ref a/\l=some (n:Int)/\0<n/\SqL K H2 a xs/\∀p,H2 p=none->Q (.ref p) (upd H2 p (.lst (dk' xs n)))
theorem ud' (he:PE X e te) (hs:PO X (some st) ts):PE X (.Subscript e (.Slice none none (some st) p2) pos) (x1' X.K te ts):=by
 intro pins s σ H Q I h
 refine Subscript_ (thn (he pins s σ H _ I h) fun v s1 ⟨x,H1,I1,r1,q0⟩=>?_)
 refine wpAny_Slice ?_
 rw[evalPart_none]
 refine ag ?_
 refine ag ?_
 refine thn (hs pins s1 σ H1 _ I1 q0) fun vs s3 ⟨l,H3,I3,pl,a,xs,n,ex,el,hn,hx,q1⟩=>?_
 subst ex el
 obtain rfl:v=Value.ref a:=r1
 have I4:Inv X pins σ H3 { s3 with heap:=s3.heap.push { cls:=.type "slice",data:=.fields #[.none,.none,vs] } }:=I3.kept (t':=s3.toks) fun b ob q=>ah _ q
 obtain⟨its,r,ht,hz⟩:=I4.list hx
 have hlen:=r.length
 refine tail_any (ops:=[.ref a,.ref s3.heap.objs.size]) ht.isList.typeIs slot_list_getitem.lookup ?_ (by with_unfolding_all rfl)
 refine wpAny_getItem_list_slice ht.isList (Heap.IsSliceOf.new ..) .none .none pl (by intro z;injection z with z;omega) ?_ (by rw[al]<;>omega)
 rw[gi' its hn]
 refine⟨.ref _,_,I4.laid (t':=s3.toks) (o:=.lst (dk' xs n)) (fun b ob q=>ah _ q) (ae _) ?_,rfl,q1 _ (I4.hok.fresh (ae _))⟩
 refine⟨ay (gh' xs hn) hz,dk' its n,0,?_,ao _ rfl⟩
 unfold dk'
 rw[<- hlen]
 exact r.pick (fun k=>k*n) _
end
section
variable {prog:Program} {w:World} {A:Around} {E:Value->Shared->Prop} {s:Shared}
end
section
variable {X:Cx}
end
section
variable {prog:Program} {w:World} {A:Around} {E:Value->Shared->Prop} {s:Shared}
end
section
variable {X:Cx}
end
end L2
namespace R3
open PySem PySem.Spec PyProof.Rows L2
inductive Bf where
 |len|abs|int|isinstance|any|max|min|list|tuple|range|set
 deriving DecidableEq
inductive Mf where
 |append|join|countS
 deriving DecidableEq
inductive Xf where
 |eqT|inR|notInR
 deriving DecidableEq
inductive Zf where
 |eqB|ninB|ltS|inP
 deriving DecidableEq
inductive Yf where
 |strd|ltx
 deriving DecidableEq
set_option genInjectivity false
mutual
inductive Ce where
 |var (i:Nat)|int (n:Int)|bl (b:Bool)|non|str (x:Str)
 |bin (op:Operator) (a b:Ce)
 |neg (a:Ce)|not (a:Ce)
 |and (a b:Ce)|or (a b:Ce)
 |cmp (op:CmpOp) (a b:Ce)
 |chn (op op':CmpOp) (a b c:Ce)
 |ife (q:Cq) (a b:Ce)
 |tup (es:Ces)|lst (es:Ces)
 |idx (a b:Ce)
 |cut (a:Ce) (lo hi:Co)
 |call (f:Str) (es:Ces)
 |blt (f:Bf) (es:Ces)
 |met (m:Mf) (o:Ce) (es:Ces)
 |comp (elt:Ce) (own:List Nat) (t:Ct) (it:Ci) (q:Cqo) (r:Cc)
 |din (neg:Bool) (a b:Ce)|dgt (a b:Ce)
 |stp (a b:Ce)
 |ssc (elt:Ce) (own:List Nat) (t:Ct) (it:Ci) (q:Cqo)
inductive Ces where
 |nil|cons (e:Ce) (r:Ces)
inductive Cq where
 |val (e:Ce)|not (q:Cq)|and (a b:Cq)|or (a b:Cq)|cmp (op:CmpOp) (a b:Ce)|chn (op op':CmpOp) (a b c:Ce)|din (neg:Bool) (a b:Ce)
inductive Cqo where
 |none|some (q:Cq)
inductive Co where
 |none|some (e:Ce)
inductive Ci where
 |val (e:Ce)|range1 (a:Ce)|range2 (a b:Ce)|enum (a:Ce)|range3 (a b c:Ce)|rev (a:Ce)
inductive Ct where
 |name (i:Nat)|tup (ts:Cts)|sub (o i:Ce)
inductive Cts where
 |nil|cons (t:Ct) (r:Cts)
inductive Cc where
 |nil|cons (ws:List Nat) (t:Ct) (it:Ci) (q:Cqo) (r:Cc)
end
mutual
inductive Cs where
 |expr (e:Ce)|ret (e:Ce)|asg (t:Ct) (e:Ce)|par (i j:Nat) (a b:Ce)|aug (i:Nat) (sub:Bool) (e:Ce)
 |ite (q:Cq) (a b:Css)|whl (q:Cq) (b:Css)|for_ (t:Ct) (it:Ci) (b:Css)|raise_
 |setc2 (i:Nat) (elt:Ce) (own:List Nat) (t:Ct) (it:Ci) (q:Cqo) (ws:List Nat) (t2:Ct) (it2:Ci) (q2:Cqo)|dctc (tup:Bool) (i:Nat) (k v:Ce) (own:List Nat) (t:Ct) (it:Ci) (q:Cqo)
inductive Css where
 |nil|cons (s:Cs) (r:Css)
end
set_option genInjectivity true
def z2' (i j:Int):Prop:=0<=j/\j<=1000000/\i.natAbs<2 ^ 100
def ue' (_ j:Int):Prop:=0<j/\(j<1073741824\/j.natAbs.log2<9000)
def qL' (i j:Int):Prop:=(-(2 ^ 64)<i/\i<2 ^ 64)\/(-(2 ^ 64)<j/\j<2 ^ 64)\/IntMulOk i j
section
variable (K:W.Frag)
def g9':Operator->R2
 | .Add=>fun x y H Q=>match x,y with
  | .int i,.int j=>Q (.int (i+j)) H
  | .str i,.str j=>i.length+j.length<=sizeLine/\Q (.str (i++j)) H
  |x,y=>zQ' x y H Q\/tq' K x y H Q\/pf' K x y H Q
 | .Sub=>rI0 fun i j=>.int (i-j)
 | .Mult=>fun x y H Q=>match x,y with
  | .int i,.int j=>qL' i j/\Q (.int (i*j)) H
  | .str a,.int n=>-1000000<=n/\n<=1000000/\a.length*n.toNat<=1000000/\Q (.str (Txt.mul a n)) H
  |x,y=>zR' x y H Q
 | .Mod=>rI (fun _ j=>0<j) fun i j=>.int (i % j)
 | .FloorDiv=>rI ue' fun i j=>.int (i / j)
 | .Pow=>rI xv' fun i j=>.int (i ^ j.toNat)
 | .LShift=>rI z2' fun i j=>.int (i*2 ^ j.toNat)
 | .RShift=>rI (fun _ j=>0<=j) fun i j=>.int (i / 2 ^ j.toNat)
 | .BitAnd=>rI (fun i j=>0<=i/\j=1) fun i _=>.int (i % 2)
 |_=>fun _ _ _ _=>False
def cD':CmpOp->R2
 | .Eq=>fun x y H Q=>match x,y with
  | .ref a,.ref b=>wY' K false (.ref a) (.ref b) H Q\/w2' false (.ref a) (.ref b) H Q
  |x,y=>rEq x y H Q
 | .NotEq=>fun x y H Q=>match x,y with
  | .ref a,.ref b=>wY' K true (.ref a) (.ref b) H Q\/w2' true (.ref a) (.ref b) H Q
  |x,y=>rNe x y H Q
 | .Lt=>rI0 fun i j=>.bl (decide (i<j))
 | .LtE=>rI0 fun i j=>.bl (decide (i<=j))
 | .Gt=>fun x y H Q=>match x with
  | .str a=>zY' (.str a) y H Q
  |x=>rI0 (fun i j=>.bl (decide (j<i))) x y H Q
 | .GtE=>rI0 fun i j=>.bl (decide (j<=i))
 | .Is=>fun x y H Q=>match y with
  | .bl b=>wZ' false x (.bl b) H Q
  |y=>y=.non/\Q (.bl (decide (x=.non))) H
 | .IsNot=>fun x y H Q=>match y with
  | .bl b=>wZ' true x (.bl b) H Q
  |y=>y=.non/\Q (.bl (!decide (x=.non))) H
 | .In=>fun x y H Q=>match y with
  | .str b=>w1' false x (.str b) H Q
  |y=>rIn K false x y H Q
 | .NotIn=>fun x y H Q=>match y with
  | .str b=>w1' true x (.str b) H Q
  |y=>rIn K true x y H Q
def d5':Bf->List V->Hp->VK->Prop
 | .len=>fun xs H Q=>∃x n,xs=[x]/\zO' K x H n/\Q (.int n) H
 | .abs=>fun xs H Q=>∃i,xs=[.int i]/\Q (.int (if i<0 then -i else i)) H
 | .int=>fun xs H Q=>match xs with
  | [.int i]=>Q (.int i) H
  | [.bl k]=>Q (.int (if k then 1 else 0)) H
  | [.str x]=>∃n,PySem.intText? x=some n/\x.length<=640/\Q (.int n) H
  | [.str x,.int j]=>j=2/\∃n,B2 x n/\Q (.int n) H
  |_=>False
 | .isinstance=>fun _ _ _=>False
 | .any=>zT' K true
 | .max=>fun xs H Q=>match xs with
  | [.int i,.int j]=>Q (.int (if j > i then j else i)) H
  |xs=>no' K true xs H Q
 | .min=>fun xs H Q=>match xs with
  | [.int i,.int j]=>Q (.int (if j<i then j else i)) H
  |xs=>no' K false xs H Q
 | .list=>fun xs H Q=>(∃p ys,xs=[.ref p]/\(SqL K H p ys\/SqT K H p ys)/\∀l,H l=none->Q (.ref l) (upd H l (.lst ys)))\/zV' xs H Q
 | .range=>zU'
 | .set=>pj' K
 | .tuple=>fun xs H Q=>∃p ys,xs=[.ref p]/\((SqL K H p ys/\∀l,H l=none->Q (.ref l) (upd H l (.tup ys)))\/(SqT K H p ys/\Q (.ref p) H))
def lm':Mf->V->List V->Hp->VK->Prop
 | .append=>ky'
 | .join=>tE' K
 | .countS=>pc'
def ha':Mf->String
 | .join=>"str"
 | .countS=>"str"
 |_=>"list"
def ln':Mf->Str
 | .append=>"append"
 | .join=>"join"
 | .countS=>"count"
def e6':Bf->Str
 | .len=>"len"
 | .abs=>"abs"
 | .int=>"int"
 | .isinstance=>"isinstance"
 | .any=>"any"
 | .max=>"max"
 | .min=>"min"
 | .list=>"list"
 | .tuple=>"tuple"
 | .range=>"range"
 | .set=>"set"
def nI':R2:=fun x y H Q=>match x,y with
 | .str z,.int i=>z.length<=sizeLine/\∃c,atI z.cps.toList i=some c/\Q (.str ⟨#[c]⟩) H
 |x,y=>jD' K x y H Q\/j9' K x y H Q
def rSl:V->Option Int->Option Int->Hp->VK->Prop:=fun x lo hi H Q=>match x with
 | .str a=>a.length<=sizeLine/\Q (.str (Txt.slice a lo hi)) H
 |x=>xH' K x lo hi H Q\/xF' K x lo hi H Q\/xP' K x lo hi H Q
end
def rZf:Zf->R2
 | .eqB=>Ax' false
 | .ninB=>xQ'
 | .ltS=>fun x y H Q=>∃i j,x=.str i/\y=.str j/\Q (.bl (decide (i.cps.toList<j.cps.toList))) H
 | .inP=>Az'
structure Rc where
 N:List Str
 B:List Str
 K:W.Frag
 fs:Str->Option Sp
 xk:L2.St->XK:=fun _=>E0
 cl:Str->Option Addr:=fun _=>none
def nJ' (neg:Bool) (ty td:TE):TE:=xX' neg ty td
def nK':Cts->Nat
 | .nil=>0
 | .cons _ r=>nK' r+1
mutual
def tE (C:Rc):Ce->TE
 | .var i=>wT' i
 | .int n=>tC (.int n)
 | .bl b=>tC (.bl b)
 | .non=>tC .non
 | .str x=>tC (.str x)
 | .bin op a b=>tOp (g9' C.K op) (tE C a) (tE C b)
 | .neg a=>tUn (rU fun i=>.int (-i)) (tE C a)
 | .not a=>pY' (tE C a)
 | .and a b=>m3' (tE C a) (tE C b)
 | .or a b=>wU' (tE C a) (tE C b)
 | .cmp op a b=>tOp (cD' C.K op) (tE C a) (tE C b)
 | .chn op op' a b c=>ej' (cD' C.K op) (cD' C.K op') (tE C a) (tE C b) (tE C c)
 | .ife q a b=>tIf (tQ C q) (tE C a) (tE C b)
 | .tup es=>xC' (tA C es)
 | .lst es=>xD' (tA C es)
 | .idx a b=>tOp (nI' C.K) (tE C a) (tE C b)
 | .cut a lo hi=>tSl (rSl C.K) (tE C a) (tO C lo) (tO C hi)
 | .call f es=>fun σ H Q=>match C.fs f with
  |some sp=>nf' sp [] (C.xk σ) (tA C es) σ H Q
  |none=>False
 | .blt f es=>tCB (d5' C.K f) (tA C es)
 | .met m o es=>tBM C.K (ha' m) (lm' C.K m) (tE C o) (tA C es)
 | .din neg a b=>nJ' neg (tE C a) (tE C b)
 | .dgt a b=>lj' (tE C a) (tE C b)
 | .stp a b=>x1' C.K (tE C a) (kt' (tE C b))
 | .ssc elt own t it q=>xZ' own (tI C it) (tG C t) (tQo C q) (dK' (tE C elt))
 | .comp elt own t it q r=>ie' own (tI C it) (tG C t) (tQo C q) (tR C r (eW' (tE C elt)))
def tA (C:Rc):Ces->TA
 | .nil=>gE'
 | .cons e r=>bP' (tE C e) (tA C r)
def tQ (C:Rc):Cq->TT
 | .val e=>fun σ H Q=>tE C e σ H fun x H'=>∃k,tj' C.K x H' k/\Q k H'
 | .not q=>xg' (tQ C q)
 | .and a b=>sW' (tQ C a) (tQ C b)
 | .or a b=>tOr (tQ C a) (tQ C b)
 | .cmp op a b=>ft' (tOp (cD' C.K op) (tE C a) (tE C b))
 | .chn op op' a b c=>ft' (ej' (cD' C.K op) (cD' C.K op') (tE C a) (tE C b) (tE C c))
 | .din neg a b=>ft' (nJ' neg (tE C a) (tE C b))
def tQo (C:Rc):Cqo->TT
 | .none=>fun _ H Q=>Q true H
 | .some q=>tQ C q
def tO (C:Rc):Co->TO
 | .none=>h8'
 | .some e=>kt' (tE C e)
def tI (C:Rc):Ci->TI
 | .val e=>xK' C.K (tE C e)
 | .range1 a=>p6' (bP' (tE C a) gE')
 | .range2 a b=>p7' (bP' (tE C a) (bP' (tE C b) gE'))
 | .enum a=>qo' C.K (tE C a)
 | .range3 a b c=>qt' (bP' (tE C a) (bP' (tE C b) (bP' (tE C c) gE')))
 | .rev a=>xO' C.K (tE C a)
def tG (C:Rc):Ct->TG
 | .name i=>dA' i
 | .tup ts=>x0' C.K (nK' ts) (tGs C ts)
 | .sub o i=>xn' (tE C o) (tE C i) fw'
def tGs (C:Rc):Cts->TGs
 | .nil=>xm'
 | .cons t r=>p4' (tG C t) (tGs C r)
def tR (C:Rc):Cc->TL (List V)->TL (List V)
 | .nil,em=>em
 | .cons ws t it q r,em=>ic' (tI C it) (bc' ws (tG C t) (tQo C q) (tR C r em))
end
mutual
def tS (C:Rc):Cs->TS
 | .expr e=>p1' (tE C e)
 | .ret e=>xi' (tE C e)
 | .asg t e=>j8' (tE C e) (tG C t)
 | .par i j a b=>xo' i j (bP' (tE C a) (bP' (tE C b) gE'))
 | .aug i sub e=>xp' i (tE C e) (ipI fun i j=>if sub then i-j else i+j)
 | .ite q a b=>xj' (tQ C q) (tSs C a) (tSs C b)
 | .whl q b=>kg' (tQ C q) (tSs C b)
 | .for_ t it b=>xq' (tI C it) (tG C t) (tSs C b)
 | .raise_=>kf'
 | .setc2 i elt own t it q ws t2 it2 q2=>j8' (t8' own (tI C it) (tG C t) (tQo C q) (ic' (tI C it2) (bc' ws (tG C t2) (tQo C q2) (dK' (tE C elt))))) (dA' i)
 | .dctc tup i k v own t it q=>if tup then j8' (ua' own (tI C it) (tG C t) (tQo C q) (tE C k) (tE C v)) (dA' i)else j8' (t9' own (tI C it) (tG C t) (tQo C q) (tE C k) (tE C v)) (dA' i)
def tSs (C:Rc):Css->TS
 | .nil=>pZ'
 | .cons s r=>xh' (tS C s) (tSs C r)
end
def vis (sc:Scope) (x:Str):Bool:=match sc.names.lookup x with
 |some .local=>true
 |some .cell=>true
 |some .free=>true
 |_=>false
def locb (sc:Scope) (x:Str):Bool:=match sc.names.lookup x with
 |some .local=>true
 |some .cell=>true
 |_=>false
def glb (sc:Scope) (x:Str):Bool:=decide (sc.names.lookup x=some .globalImplicit)
def e7' (N:List Str) (i:Nat) (x:Str):Bool:=decide (N[i]?=some x)&&!(x == ("__debug__":Str))&&!(x == ("__classdict__":Str))
def aC':Expr->Bool
 | .Starred ..=>false
 |_=>true
def aM':Expr->Bool
 | .Set ..=>false
 |_=>true
def eD':Expr->Bool
 | .Slice ..=>false
 |_=>true
def lo':Expr->Bool
 | .Call _ [] _ _=>false
 |_=>true
def pl':Expr->Bool
 | .UnaryOp .Not _ _=>false
 | .BoolOp ..=>false
 | .IfExp ..=>false
 | .Compare ..=>false
 |_=>true
def jN' (N:List Str) (sc scope:Scope) (own:List Nat):Bool:=
 decide (scope.kind=.function)&&
 scope.names.all (fun x=>(decide (x.2≠.local) || decide (scope.names.lookup x.1=some .local))&&(decide (x.2≠.cell) || decide (scope.names.lookup x.1=some .cell))&&
  (decide (x.2≠.free) || decide (sc.names.lookup x.1=some .cell) || decide (sc.names.lookup x.1=some .free)))&&
 (au N.length).all (fun i=>match N[i]? with
  |some x=>(decide (scope.names.lookup x≠some .local)&&decide (scope.names.lookup x≠some .cell)) || decide (i∈own)
  |none=>true)
def gD':Ci->Expr->Bool
 | .enum _,.Tuple ..=>true
 | .enum _,_=>false
 |_,_=>true
mutual
def fO' (own:List Nat):Ct->Bool
 | .name i=>decide (i∈own)
 | .tup ts=>lp' own ts
 | .sub _ _=>false
def lp' (own:List Nat):Cts->Bool
 | .nil=>true
 | .cons t r=>fO' own t&&lp' own r
end
def tld (B:List Str):Bool:=decide (("~":Str)∈B)
def hat (B:List Str):Bool:=decide (("^":Str)∈B)
def pct (B:List Str):Bool:=decide (("%":Str)∈B)
def sQ' (x:Str):Str:=⟨#[33]++x.cps⟩
theorem ap' {P:Prop} (h:false=true):P:=(am h).elim
theorem hh' {a b:Bool} (h:(a&&b)=true):a=true/\b=true:=by
 cases a with
 |true=>exact⟨rfl,h⟩
 |false=>exact ap' h
def x2' (e:Expr) (f:Expr->Expr->Bool):Bool:=match e with
 | .BoolOp .And [x,y] _=>f x y
 | .BoolOp .And (x :: y :: z :: r) pos=>f x (.BoolOp .And (y :: z :: r) pos)
 |_=>false
theorem lq' {e:Expr} {f:Expr->Expr->Bool} (h:x2' e f=true):(∃x y pos,e=.BoolOp .And [x,y] pos/\f x y=true)\/∃x y z r pos,e=.BoolOp .And (x :: y :: z :: r) pos/\f x (.BoolOp .And (y :: z :: r) pos)=true:=by
 cases e with
 |BoolOp o vs pos=>
  cases o with
  |And=>
   cases vs with
   |nil=>exact ap' h
   |cons x r=>
    cases r with
    |nil=>exact ap' h
    |cons y r=>
     cases r with
     |nil=>exact .inl ⟨x,y,pos,rfl,h⟩
     |cons z r=>exact .inr ⟨x,y,z,r,pos,rfl,h⟩
  |_=>exact ap' h
 |_=>exact ap' h
def vOr (e:Expr) (f:Expr->Expr->Bool):Bool:=match e with
 | .BoolOp .Or [x,y] _=>f x y
 | .BoolOp .Or (x :: y :: z :: r) pos=>f x (.BoolOp .Or (y :: z :: r) pos)
 |_=>false
theorem pm' {e:Expr} {f:Expr->Expr->Bool} (h:vOr e f=true):(∃x y pos,e=.BoolOp .Or [x,y] pos/\f x y=true)\/∃x y z r pos,e=.BoolOp .Or (x :: y :: z :: r) pos/\f x (.BoolOp .Or (y :: z :: r) pos)=true:=by
 cases e with
 |BoolOp o vs pos=>
  cases o with
  |Or=>
   cases vs with
   |nil=>exact ap' h
   |cons x r=>
    cases r with
    |nil=>exact ap' h
    |cons y r=>
     cases r with
     |nil=>exact .inl ⟨x,y,pos,rfl,h⟩
     |cons z r=>exact .inr ⟨x,y,z,r,pos,rfl,h⟩
  |_=>exact ap' h
 |_=>exact ap' h
def a7' {α:Type} (z:List α) (f:Bool):Bool:=match z with
 | []=>f
 |_=>false
theorem an' {α:Type} {z:List α} {f:Bool} (h:a7' z f=true):z=[]/\f=true:=by
 cases z with
 |nil=>exact⟨rfl,h⟩
 |_=>exact ap' h
def as' {α:Type} (z:List α) (f:α->List α->Bool):Bool:=match z with
 |x :: r=>f x r
 |_=>false
theorem ah' {α:Type} {z:List α} {f:α->List α->Bool} (h:as' z f=true):∃x r,z=x :: r/\f x r=true:=by
 cases z with
 |cons x r=>exact⟨x,r,rfl,h⟩
 |_=>exact ap' h
def ht' {α:Type} (z:Option α) (f:Bool):Bool:=match z with
 |none=>f
 |_=>false
theorem dL' {α:Type} {z:Option α} {f:Bool} (h:ht' z f=true):z=none/\f=true:=by
 cases z with
 |none=>exact⟨rfl,h⟩
 |_=>exact ap' h
def i4' {α:Type} (z:Option α) (f:α->Bool):Bool:=match z with
 |some x=>f x
 |_=>false
theorem e8' {α:Type} {z:Option α} {f:α->Bool} (h:i4' z f=true):∃x,z=some x/\f x=true:=by
 cases z with
 |some x=>exact⟨x,rfl,h⟩
 |_=>exact ap' h
def e9' (z:Comprehension) (f:Expr->Expr->List Expr->Int->Bool):Bool:=f z.target z.iter z.ifs z.is_async
theorem bH' {z:Comprehension} {f:Expr->Expr->List Expr->Int->Bool} (h:e9' z f=true):∃a b c d,z=⟨a,b,c,d⟩/\f a b c d=true:=by
 cases z
 exact⟨_,_,_,_,rfl,h⟩
def bQ' (z:Expr) (f:Str->Pos->Bool):Bool:=match z with
 | .Name x0 x1=>f x0 x1
 |_=>false
theorem aK' {z f} (h:bQ' z f=true):∃x0 x1,z=.Name x0 x1/\f x0 x1=true:=by
 cases z with
 |Name x0 x1=>exact⟨x0,x1,rfl,h⟩
 |_=>exact ap' h
def b8' (z:Expr) (f:Const->Nat->Pos->Bool):Bool:=match z with
 | .Constant x0 x1 x2=>f x0 x1 x2
 |_=>false
theorem bI' {z f} (h:b8' z f=true):∃x0 x1 x2,z=.Constant x0 x1 x2/\f x0 x1 x2=true:=by
 cases z with
 |Constant x0 x1 x2=>exact⟨x0,x1,x2,rfl,h⟩
 |_=>exact ap' h
def pn' (z:Const) (f:Int->Bool):Bool:=match z with
 | .int x0=>f x0
 |_=>false
theorem lr' {z f} (h:pn' z f=true):∃x0,z=.int x0/\f x0=true:=by
 cases z with
 |int x0=>exact⟨x0,rfl,h⟩
 |_=>exact ap' h
def ls' (z:Const) (f:Bool->Bool):Bool:=match z with
 | .bool x0=>f x0
 |_=>false
theorem jO' {z f} (h:ls' z f=true):∃x0,z=.bool x0/\f x0=true:=by
 cases z with
 |bool x0=>exact⟨x0,rfl,h⟩
 |_=>exact ap' h
def lu' (z:Const) (f:Bool):Bool:=match z with
 | .none=>f
 |_=>false
theorem jP' {z f} (h:lu' z f=true):z=.none/\f=true:=by
 cases z with
 |none=>exact⟨rfl,h⟩
 |_=>exact ap' h
def po' (z:Const) (f:Str->Bool):Bool:=match z with
 | .str x0=>f x0
 |_=>false
theorem lv' {z f} (h:po' z f=true):∃x0,z=.str x0/\f x0=true:=by
 cases z with
 |str x0=>exact⟨x0,rfl,h⟩
 |_=>exact ap' h
def i5' (z:Expr) (f:Expr->Operator->Expr->Pos->Bool):Bool:=match z with
 | .BinOp x0 x1 x2 x3=>f x0 x1 x2 x3
 |_=>false
theorem io' {z f} (h:i5' z f=true):∃x0 x1 x2 x3,z=.BinOp x0 x1 x2 x3/\f x0 x1 x2 x3=true:=by
 cases z with
 |BinOp x0 x1 x2 x3=>exact⟨x0,x1,x2,x3,rfl,h⟩
 |_=>exact ap' h
def d6' (z:Expr) (f:UnaryOp->Expr->Pos->Bool):Bool:=match z with
 | .UnaryOp x0 x1 x2=>f x0 x1 x2
 |_=>false
theorem dM' {z f} (h:d6' z f=true):∃x0 x1 x2,z=.UnaryOp x0 x1 x2/\f x0 x1 x2=true:=by
 cases z with
 |UnaryOp x0 x1 x2=>exact⟨x0,x1,x2,rfl,h⟩
 |_=>exact ap' h
def lw' (z:UnaryOp) (f:Bool):Bool:=match z with
 | .USub=>f
 |_=>false
theorem jQ' {z f} (h:lw' z f=true):z=.USub/\f=true:=by
 cases z with
 |USub=>exact⟨rfl,h⟩
 |_=>exact ap' h
def pp' (z:UnaryOp) (f:Bool):Bool:=match z with
 | .Not=>f
 |_=>false
theorem lx' {z f} (h:pp' z f=true):z=.Not/\f=true:=by
 cases z with
 |Not=>exact⟨rfl,h⟩
 |_=>exact ap' h
def d7' (z:Expr) (f:Expr->List CmpOp->List Expr->Pos->Bool):Bool:=match z with
 | .Compare x0 x1 x2 x3=>f x0 x1 x2 x3
 |_=>false
theorem dN' {z f} (h:d7' z f=true):∃x0 x1 x2 x3,z=.Compare x0 x1 x2 x3/\f x0 x1 x2 x3=true:=by
 cases z with
 |Compare x0 x1 x2 x3=>exact⟨x0,x1,x2,x3,rfl,h⟩
 |_=>exact ap' h
def i6' (z:Expr) (f:Expr->Expr->Expr->Pos->Bool):Bool:=match z with
 | .IfExp x0 x1 x2 x3=>f x0 x1 x2 x3
 |_=>false
theorem ip' {z f} (h:i6' z f=true):∃x0 x1 x2 x3,z=.IfExp x0 x1 x2 x3/\f x0 x1 x2 x3=true:=by
 cases z with
 |IfExp x0 x1 x2 x3=>exact⟨x0,x1,x2,x3,rfl,h⟩
 |_=>exact ap' h
def eE' (z:Expr) (f:List Expr->Nat->Pos->Bool):Bool:=match z with
 | .Tuple x0 x1 x2=>f x0 x1 x2
 |_=>false
theorem dr' {z f} (h:eE' z f=true):∃x0 x1 x2,z=.Tuple x0 x1 x2/\f x0 x1 x2=true:=by
 cases z with
 |Tuple x0 x1 x2=>exact⟨x0,x1,x2,rfl,h⟩
 |_=>exact ap' h
def ly' (z:Expr) (f:List Expr->Pos->Bool):Bool:=match z with
 | .List x0 x1=>f x0 x1
 |_=>false
theorem jR' {z f} (h:ly' z f=true):∃x0 x1,z=.List x0 x1/\f x0 x1=true:=by
 cases z with
 |List x0 x1=>exact⟨x0,x1,rfl,h⟩
 |_=>exact ap' h
def cm' (z:Expr) (f:Expr->Expr->Pos->Bool):Bool:=match z with
 | .Subscript x0 x1 x2=>f x0 x1 x2
 |_=>false
theorem b9' {z f} (h:cm' z f=true):∃x0 x1 x2,z=.Subscript x0 x1 x2/\f x0 x1 x2=true:=by
 cases z with
 |Subscript x0 x1 x2=>exact⟨x0,x1,x2,rfl,h⟩
 |_=>exact ap' h
def gj' (z:Expr) (f:Option Expr->Option Expr->Option Expr->Pos->Bool):Bool:=match z with
 | .Slice x0 x1 x2 x3=>f x0 x1 x2 x3
 |_=>false
theorem fa' {z f} (h:gj' z f=true):∃x0 x1 x2 x3,z=.Slice x0 x1 x2 x3/\f x0 x1 x2 x3=true:=by
 cases z with
 |Slice x0 x1 x2 x3=>exact⟨x0,x1,x2,x3,rfl,h⟩
 |_=>exact ap' h
def cZ' (z:Expr) (f:Expr->List Expr->List Keyword->Pos->Bool):Bool:=match z with
 | .Call x0 x1 x2 x3=>f x0 x1 x2 x3
 |_=>false
theorem bF' {z f} (h:cZ' z f=true):∃x0 x1 x2 x3,z=.Call x0 x1 x2 x3/\f x0 x1 x2 x3=true:=by
 cases z with
 |Call x0 x1 x2 x3=>exact⟨x0,x1,x2,x3,rfl,h⟩
 |_=>exact ap' h
def c0' (z:Expr) (f:Expr->Str->Pos->Bool):Bool:=match z with
 | .Attribute x0 x1 x2=>f x0 x1 x2
 |_=>false
theorem c1' {z f} (h:c0' z f=true):∃x0 x1 x2,z=.Attribute x0 x1 x2/\f x0 x1 x2=true:=by
 cases z with
 |Attribute x0 x1 x2=>exact⟨x0,x1,x2,rfl,h⟩
 |_=>exact ap' h
def fb' (z:Expr) (f:Expr->Expr->List Comprehension->Scope->Pos->Bool):Bool:=match z with
 | .DictComp x0 x1 x2 x3 x4=>f x0 x1 x2 x3 x4
 |_=>false
theorem fC' {z f} (h:fb' z f=true):∃x0 x1 x2 x3 x4,z=.DictComp x0 x1 x2 x3 x4/\f x0 x1 x2 x3 x4=true:=by
 cases z with
 |DictComp x0 x1 x2 x3 x4=>exact⟨x0,x1,x2,x3,x4,rfl,h⟩
 |_=>exact ap' h
def cE' (z:Expr) (f:Expr->List Comprehension->Scope->Pos->Bool):Bool:=match z with
 | .ListComp x0 x1 x2 x3=>f x0 x1 x2 x3
 |_=>false
theorem cy' {z f} (h:cE' z f=true):∃x0 x1 x2 x3,z=.ListComp x0 x1 x2 x3/\f x0 x1 x2 x3=true:=by
 cases z with
 |ListComp x0 x1 x2 x3=>exact⟨x0,x1,x2,x3,rfl,h⟩
 |_=>exact ap' h
def lz' (z:Stmt) (f:Expr->Pos->Bool):Bool:=match z with
 | .Expr x0 x1=>f x0 x1
 |_=>false
theorem jS' {z f} (h:lz' z f=true):∃x0 x1,z=.Expr x0 x1/\f x0 x1=true:=by
 cases z with
 |Expr x0 x1=>exact⟨x0,x1,rfl,h⟩
 |_=>exact ap' h
def hv' (z:Stmt) (f:Option Expr->Pos->Bool):Bool:=match z with
 | .Return x0 x1=>f x0 x1
 |_=>false
theorem hw' {z f} (h:hv' z f=true):∃x0 x1,z=.Return x0 x1/\f x0 x1=true:=by
 cases z with
 |Return x0 x1=>exact⟨x0,x1,rfl,h⟩
 |_=>exact ap' h
def c2' (z:Stmt) (f:List Expr->Expr->Pos->Bool):Bool:=match z with
 | .Assign x0 x1 x2=>f x0 x1 x2
 |_=>false
theorem cn' {z f} (h:c2' z f=true):∃x0 x1 x2,z=.Assign x0 x1 x2/\f x0 x1 x2=true:=by
 cases z with
 |Assign x0 x1 x2=>exact⟨x0,x1,x2,rfl,h⟩
 |_=>exact ap' h
def d8' (z:Expr) (f:Expr->List Comprehension->Scope->Pos->Bool):Bool:=match z with
 | .SetComp x0 x1 x2 x3=>f x0 x1 x2 x3
 |_=>false
theorem dO' {z f} (h:d8' z f=true):∃x0 x1 x2 x3,z=.SetComp x0 x1 x2 x3/\f x0 x1 x2 x3=true:=by
 cases z with
 |SetComp x0 x1 x2 x3=>exact⟨x0,x1,x2,x3,rfl,h⟩
 |_=>exact ap' h
def em' (z:Stmt) (f:Expr->Operator->Expr->Pos->Bool):Bool:=match z with
 | .AugAssign x0 x1 x2 x3=>f x0 x1 x2 x3
 |_=>false
theorem fc' {z f} (h:em' z f=true):∃x0 x1 x2 x3,z=.AugAssign x0 x1 x2 x3/\f x0 x1 x2 x3=true:=by
 cases z with
 |AugAssign x0 x1 x2 x3=>exact⟨x0,x1,x2,x3,rfl,h⟩
 |_=>exact ap' h
def uf' (z:Stmt) (f:Expr->List Stmt->List Stmt->Pos->Bool):Bool:=match z with
 | .If x0 x1 x2 x3=>f x0 x1 x2 x3
 |_=>false
theorem nL' {z f} (h:uf' z f=true):∃x0 x1 x2 x3,z=.If x0 x1 x2 x3/\f x0 x1 x2 x3=true:=by
 cases z with
 |If x0 x1 x2 x3=>exact⟨x0,x1,x2,x3,rfl,h⟩
 |_=>exact ap' h
def i7' (z:Stmt) (f:Expr->List Stmt->List Stmt->Pos->Bool):Bool:=match z with
 | .While x0 x1 x2 x3=>f x0 x1 x2 x3
 |_=>false
theorem iq' {z f} (h:i7' z f=true):∃x0 x1 x2 x3,z=.While x0 x1 x2 x3/\f x0 x1 x2 x3=true:=by
 cases z with
 |While x0 x1 x2 x3=>exact⟨x0,x1,x2,x3,rfl,h⟩
 |_=>exact ap' h
def pq' (z:Stmt) (f:Expr->Expr->List Stmt->List Stmt->Pos->Bool):Bool:=match z with
 | .For x0 x1 x2 x3 x4=>f x0 x1 x2 x3 x4
 |_=>false
theorem lA' {z f} (h:pq' z f=true):∃x0 x1 x2 x3 x4,z=.For x0 x1 x2 x3 x4/\f x0 x1 x2 x3 x4=true:=by
 cases z with
 |For x0 x1 x2 x3 x4=>exact⟨x0,x1,x2,x3,x4,rfl,h⟩
 |_=>exact ap' h
def v1 (zz:Expr) (f:Str->Bool):Bool:=bQ' zz fun y1 y2=>f y1
theorem z3' {zz f} {P:Prop} (h:v1 zz f=true) (k:∀x w1,zz=.Name x w1->f x=true->P):P:=by
 obtain⟨y1,y2,e0,h⟩:=aK' h
 exact k y1 y2 (by rw[e0]) h
def v2 (zz:Expr) (f:Int->Bool):Bool:=b8' zz fun y1 y2 y3=>pn' y1 fun y4=>f y4
theorem AA' {zz f} {P:Prop} (h:v2 zz f=true) (k:∀m w1 w2,zz=.Constant (.int m) w1 w2->f m=true->P):P:=by
 obtain⟨y1,y2,y3,e0,h⟩:=bI' h
 obtain⟨y4,e1,h⟩:=lr' h
 exact k y4 y2 y3 (by rw[e0,e1]) h
def v3 (zz:Expr) (f:Bool->Bool):Bool:=b8' zz fun y1 y2 y3=>ls' y1 fun y4=>f y4
theorem AB' {zz f} {P:Prop} (h:v3 zz f=true) (k:∀c w1 w2,zz=.Constant (.bool c) w1 w2->f c=true->P):P:=by
 obtain⟨y1,y2,y3,e0,h⟩:=bI' h
 obtain⟨y4,e1,h⟩:=jO' h
 exact k y4 y2 y3 (by rw[e0,e1]) h
def v4 (zz:Expr) (f:Bool):Bool:=b8' zz fun y1 y2 y3=>lu' y1 (f)
theorem AC' {zz f} {P:Prop} (h:v4 zz f=true) (k:∀w1 w2,zz=.Constant .none w1 w2->f=true->P):P:=by
 obtain⟨y1,y2,y3,e0,h⟩:=bI' h
 obtain⟨e1,h⟩:=jP' h
 exact k y2 y3 (by rw[e0,e1]) h
def v5 (zz:Expr) (f:Str->Bool):Bool:=b8' zz fun y1 y2 y3=>po' y1 fun y4=>f y4
theorem AD' {zz f} {P:Prop} (h:v5 zz f=true) (k:∀y w1 w2,zz=.Constant (.str y) w1 w2->f y=true->P):P:=by
 obtain⟨y1,y2,y3,e0,h⟩:=bI' h
 obtain⟨y4,e1,h⟩:=lv' h
 exact k y4 y2 y3 (by rw[e0,e1]) h
def v6 (zz:Expr) (f:Expr->Operator->Expr->Bool):Bool:=i5' zz fun y1 y2 y3 y4=>f y1 y2 y3
theorem AE' {zz f} {P:Prop} (h:v6 zz f=true) (k:∀ea op' eb w1,zz=.BinOp ea op' eb w1->f ea op' eb=true->P):P:=by
 obtain⟨y1,y2,y3,y4,e0,h⟩:=io' h
 exact k y1 y2 y3 y4 (by rw[e0]) h
def v7 (zz:Expr) (f:Expr->Bool):Bool:=d6' zz fun y1 y2 y3=>lw' y1 (f y2)
theorem AF' {zz f} {P:Prop} (h:v7 zz f=true) (k:∀ea w1,zz=.UnaryOp .USub ea w1->f ea=true->P):P:=by
 obtain⟨y1,y2,y3,e0,h⟩:=dM' h
 obtain⟨e1,h⟩:=jQ' h
 exact k y2 y3 (by rw[e0,e1]) h
def v8 (zz:Expr) (f:Expr->Bool):Bool:=d6' zz fun y1 y2 y3=>pp' y1 (f y2)
theorem z4' {zz f} {P:Prop} (h:v8 zz f=true) (k:∀ea w1,zz=.UnaryOp .Not ea w1->f ea=true->P):P:=by
 obtain⟨y1,y2,y3,e0,h⟩:=dM' h
 obtain⟨e1,h⟩:=lx' h
 exact k y2 y3 (by rw[e0,e1]) h
def v9 (zz:Expr) (f:Expr->CmpOp->Expr->Bool):Bool:=d7' zz fun y1 y2 y3 y4=>as' y2 fun y5 y6=>a7' y6 (as' y3 fun y7 y8=>a7' y8 (f y1 y5 y7))
theorem w6' {zz f} {P:Prop} (h:v9 zz f=true) (k:∀ea op' eb w1,zz=.Compare ea (op' :: []) (eb :: []) w1->f ea op' eb=true->P):P:=by
 obtain⟨y1,y2,y3,y4,e0,h⟩:=dN' h
 obtain⟨y5,y6,e1,h⟩:=ah' h
 obtain⟨e2,h⟩:=an' h
 obtain⟨y7,y8,e3,h⟩:=ah' h
 obtain⟨e4,h⟩:=an' h
 exact k y1 y5 y7 y4 (by rw[e0,e1,e2,e3,e4]) h
def v10 (zz:Expr) (f:Expr->CmpOp->CmpOp->Expr->Expr->Bool):Bool:=d7' zz fun y1 y2 y3 y4=>as' y2 fun y5 y6=>as' y6 fun y7 y8=>a7' y8 (as' y3 fun y9 y10=>as' y10 fun y11 y12=>a7' y12 (f y1 y5 y7 y9 y11))
theorem ug' {zz f} {P:Prop} (h:v10 zz f=true) (k:∀ea o1 o2 eb ec w1,zz=.Compare ea (o1 :: (o2 :: [])) (eb :: (ec :: [])) w1->f ea o1 o2 eb ec=true->P):P:=by
 obtain⟨y1,y2,y3,y4,e0,h⟩:=dN' h
 obtain⟨y5,y6,e1,h⟩:=ah' h
 obtain⟨y7,y8,e2,h⟩:=ah' h
 obtain⟨e3,h⟩:=an' h
 obtain⟨y9,y10,e4,h⟩:=ah' h
 obtain⟨y11,y12,e5,h⟩:=ah' h
 obtain⟨e6,h⟩:=an' h
 exact k y1 y5 y7 y9 y11 y4 (by rw[e0,e1,e2,e3,e4,e5,e6]) h
def v11 (zz:Expr) (f:Expr->Expr->Expr->Bool):Bool:=i6' zz fun y1 y2 y3 y4=>f y1 y2 y3
theorem x3' {zz f} {P:Prop} (h:v11 zz f=true) (k:∀eq ea eb w1,zz=.IfExp eq ea eb w1->f eq ea eb=true->P):P:=by
 obtain⟨y1,y2,y3,y4,e0,h⟩:=ip' h
 exact k y1 y2 y3 y4 (by rw[e0]) h
def v12 (zz:Expr) (f:List Expr->Bool):Bool:=eE' zz fun y1 y2 y3=>f y1
theorem uh' {zz f} {P:Prop} (h:v12 zz f=true) (k:∀xs w1 w2,zz=.Tuple xs w1 w2->f xs=true->P):P:=by
 obtain⟨y1,y2,y3,e0,h⟩:=dr' h
 exact k y1 y2 y3 (by rw[e0]) h
def v13 (zz:Expr) (f:List Expr->Bool):Bool:=ly' zz fun y1 y2=>f y1
theorem x4' {zz f} {P:Prop} (h:v13 zz f=true) (k:∀xs w1,zz=.List xs w1->f xs=true->P):P:=by
 obtain⟨y1,y2,e0,h⟩:=jR' h
 exact k y1 y2 (by rw[e0]) h
def v14 (zz:Expr) (f:Expr->Expr->Bool):Bool:=cm' zz fun y1 y2 y3=>f y1 y2
theorem ui' {zz f} {P:Prop} (h:v14 zz f=true) (k:∀ea eb w1,zz=.Subscript ea eb w1->f ea eb=true->P):P:=by
 obtain⟨y1,y2,y3,e0,h⟩:=b9' h
 exact k y1 y2 y3 (by rw[e0]) h
def v15 (zz:Expr) (f:Expr->Option Expr->Option Expr->Bool):Bool:=cm' zz fun y1 y2 y3=>gj' y2 fun y4 y5 y6 y7=>ht' y6 (f y1 y4 y5)
theorem x5' {zz f} {P:Prop} (h:v15 zz f=true) (k:∀ea l h w1 w2,zz=.Subscript ea (.Slice l h none w1) w2->f ea l h=true->P):P:=by
 obtain⟨y1,y2,y3,e0,h⟩:=b9' h
 obtain⟨y4,y5,y6,y7,e1,h⟩:=fa' h
 obtain⟨e2,h⟩:=dL' h
 exact k y1 y4 y5 y7 y3 (by rw[e0,e1,e2]) h
def v16 (zz:Expr) (f:Str->Expr->List Expr->Bool):Bool:=cZ' zz fun y1 y2 y3 y4=>bQ' y1 fun y5 y6=>as' y2 fun y7 y8=>a7' y3 (f y5 y7 y8)
theorem uj' {zz f} {P:Prop} (h:v16 zz f=true) (k:∀x w1 e r w2,zz=.Call (.Name x w1) (e :: r) [] w2->f x e r=true->P):P:=by
 obtain⟨y1,y2,y3,y4,e0,h⟩:=bF' h
 obtain⟨y5,y6,e1,h⟩:=aK' h
 obtain⟨y7,y8,e2,h⟩:=ah' h
 obtain⟨e3,h⟩:=an' h
 exact k y5 y6 y7 y8 y4 (by rw[e0,e1,e2,e3]) h
def v17 (zz:Expr) (f:Expr->Str->Pos->List Expr->Pos->Bool):Bool:=cZ' zz fun y1 y2 y3 y4=>c0' y1 fun y5 y6 y7=>a7' y3 (f y5 y6 y7 y2 y4)
theorem x6' {zz f} {P:Prop} (h:v17 zz f=true) (k:∀eo nm apos args pos,zz=.Call (.Attribute eo nm apos) args [] pos->f eo nm apos args pos=true->P):P:=by
 obtain⟨y1,y2,y3,y4,e0,h⟩:=bF' h
 obtain⟨y5,y6,y7,e1,h⟩:=c1' h
 obtain⟨e2,h⟩:=an' h
 exact k y5 y6 y7 y2 y4 (by rw[e0,e1,e2]) h
def v20 (zz:Expr) (f:Expr->Str->Pos->Expr->Pos->Bool):Bool:=cZ' zz fun y1 y2 y3 y4=>c0' y1 fun y5 y6 y7=>as' y2 fun y8 y9=>a7' y9 (a7' y3 (f y5 y6 y7 y8 y4))
theorem x7' {zz f} {P:Prop} (h:v20 zz f=true) (k:∀eo nm apos y pos,zz=.Call (.Attribute eo nm apos) (y :: []) [] pos->f eo nm apos y pos=true->P):P:=by
 obtain⟨y1,y2,y3,y4,e0,h⟩:=bF' h
 obtain⟨y5,y6,y7,e1,h⟩:=c1' h
 obtain⟨y8,y9,e2,h⟩:=ah' h
 obtain⟨e3,h⟩:=an' h
 obtain⟨e4,h⟩:=an' h
 exact k y5 y6 y7 y8 y4 (by rw[e0,e1,e2,e3,e4]) h
def v70 (zz:Expr) (f:Str->Expr->Expr->Expr->List Expr->Int->Scope->Bool):Bool:=cZ' zz fun y1 y2 y3 y4=>bQ' y1 fun y5 y6=>as' y2 fun y7 y8=>a7' y8 (a7' y3 (d8' y7 fun y9 y10 y11 y12=>as' y10 fun y13 y14=>e9' y13 fun y15 y16 y17 y18=>a7' y14 (f y5 y9 y15 y16 y17 y18 y11)))
theorem x9' {zz f} {P:Prop} (h:v70 zz f=true) (k:∀n1 w1 ee tg iter ifs a scope w2 w3,zz=.Call (.Name n1 w1) ((.SetComp ee (⟨tg,iter,ifs,a⟩ :: []) scope w2) :: []) [] w3->f n1 ee tg iter ifs a scope=true->P):P:=by
 obtain⟨y1,y2,y3,y4,e0,h⟩:=bF' h
 obtain⟨y5,y6,e1,h⟩:=aK' h
 obtain⟨y7,y8,e2,h⟩:=ah' h
 obtain⟨e3,h⟩:=an' h
 obtain⟨e4,h⟩:=an' h
 obtain⟨y9,y10,y11,y12,e5,h⟩:=dO' h
 obtain⟨y13,y14,e6,h⟩:=ah' h
 obtain⟨y15,y16,y17,y18,e7,h⟩:=bH' h
 obtain⟨e8,h⟩:=an' h
 exact k y5 y6 y9 y15 y16 y17 y18 y11 y12 y4 (by rw[e0,e1,e2,e3,e4,e5,e6,e7,e8]) h
def v23 (zz:Expr) (f:Str->Expr->Bool):Bool:=cZ' zz fun y1 y2 y3 y4=>bQ' y1 fun y5 y6=>as' y2 fun y7 y8=>a7' y8 (a7' y3 (f y5 y7))
theorem qM' {zz f} {P:Prop} (h:v23 zz f=true) (k:∀x w1 y w2,zz=.Call (.Name x w1) (y :: []) [] w2->f x y=true->P):P:=by
 obtain⟨y1,y2,y3,y4,e0,h⟩:=bF' h
 obtain⟨y5,y6,e1,h⟩:=aK' h
 obtain⟨y7,y8,e2,h⟩:=ah' h
 obtain⟨e3,h⟩:=an' h
 obtain⟨e4,h⟩:=an' h
 exact k y5 y6 y7 y4 (by rw[e0,e1,e2,e3,e4]) h
def v83 (zz:Expr) (f:Expr->Expr->Bool):Bool:=cm' zz fun y1 y2 y3=>gj' y2 fun y4 y5 y6 y7=>ht' y4 (ht' y5 (i4' y6 fun y8=>f y1 y8))
theorem ya' {zz f} {P:Prop} (h:v83 zz f=true) (k:∀ea eb w1 w2,zz=.Subscript ea (.Slice none none (some eb) w1) w2->f ea eb=true->P):P:=by
 obtain⟨y1,y2,y3,e0,h⟩:=b9' h
 obtain⟨y4,y5,y6,y7,e1,h⟩:=fa' h
 obtain⟨e2,h⟩:=dL' h
 obtain⟨e3,h⟩:=dL' h
 obtain⟨y8,e4,h⟩:=e8' h
 exact k y1 y8 y7 y3 (by rw[e0,e1,e2,e3,e4]) h
def v26 (zz:Expr) (f:Expr->Expr->Expr->List Expr->Int->Scope->Bool):Bool:=cE' zz fun y1 y2 y3 y4=>as' y2 fun y5 y6=>e9' y5 fun y7 y8 y9 y10=>a7' y6 (f y1 y7 y8 y9 y10 y3)
theorem yb' {zz f} {P:Prop} (h:v26 zz f=true) (k:∀ee tg iter ifs a scope w1,zz=.ListComp ee (⟨tg,iter,ifs,a⟩ :: []) scope w1->f ee tg iter ifs a scope=true->P):P:=by
 obtain⟨y1,y2,y3,y4,e0,h⟩:=cy' h
 obtain⟨y5,y6,e1,h⟩:=ah' h
 obtain⟨y7,y8,y9,y10,e2,h⟩:=bH' h
 obtain⟨e3,h⟩:=an' h
 exact k y1 y7 y8 y9 y10 y3 y4 (by rw[e0,e1,e2,e3]) h
def v27 (zz:Expr) (f:Expr->Expr->Expr->List Expr->Int->Expr->Expr->List Expr->Int->Scope->Bool):Bool:=cE' zz fun y1 y2 y3 y4=>as' y2 fun y5 y6=>e9' y5 fun y7 y8 y9 y10=>as' y6 fun y11 y12=>e9' y11 fun y13 y14 y15 y16=>a7' y12 (f y1 y7 y8 y9 y10 y13 y14 y15 y16 y3)
theorem yc' {zz f} {P:Prop} (h:v27 zz f=true) (k:∀ee tg iter ifs a tg2 iter2 ifs2 a2 scope w1,zz=.ListComp ee (⟨tg,iter,ifs,a⟩ :: (⟨tg2,iter2,ifs2,a2⟩ :: [])) scope w1->f ee tg iter ifs a tg2 iter2 ifs2 a2 scope=true->P):P:=by
 obtain⟨y1,y2,y3,y4,e0,h⟩:=cy' h
 obtain⟨y5,y6,e1,h⟩:=ah' h
 obtain⟨y7,y8,y9,y10,e2,h⟩:=bH' h
 obtain⟨y11,y12,e3,h⟩:=ah' h
 obtain⟨y13,y14,y15,y16,e4,h⟩:=bH' h
 obtain⟨e5,h⟩:=an' h
 exact k y1 y7 y8 y9 y10 y13 y14 y15 y16 y3 y4 (by rw[e0,e1,e2,e3,e4,e5]) h
def v28 (zz:Expr) (f:Expr->Expr->Expr->List Expr->Int->Expr->Expr->List Expr->Int->Expr->Expr->List Expr->Int->Scope->Bool):Bool:=cE' zz fun y1 y2 y3 y4=>as' y2 fun y5 y6=>e9' y5 fun y7 y8 y9 y10=>as' y6 fun y11 y12=>e9' y11 fun y13 y14 y15 y16=>as' y12 fun y17 y18=>e9' y17 fun y19 y20 y21 y22=>a7' y18 (f y1 y7 y8 y9 y10 y13 y14 y15 y16 y19 y20 y21 y22 y3)
theorem yd' {zz f} {P:Prop} (h:v28 zz f=true) (k:∀ee tg iter ifs a tg2 iter2 ifs2 a2 tg3 iter3 ifs3 a3 scope w1,zz=.ListComp ee (⟨tg,iter,ifs,a⟩ :: (⟨tg2,iter2,ifs2,a2⟩ :: (⟨tg3,iter3,ifs3,a3⟩ :: []))) scope w1->f ee tg iter ifs a tg2 iter2 ifs2 a2 tg3 iter3 ifs3 a3 scope=true->P):P:=by
 obtain⟨y1,y2,y3,y4,e0,h⟩:=cy' h
 obtain⟨y5,y6,e1,h⟩:=ah' h
 obtain⟨y7,y8,y9,y10,e2,h⟩:=bH' h
 obtain⟨y11,y12,e3,h⟩:=ah' h
 obtain⟨y13,y14,y15,y16,e4,h⟩:=bH' h
 obtain⟨y17,y18,e5,h⟩:=ah' h
 obtain⟨y19,y20,y21,y22,e6,h⟩:=bH' h
 obtain⟨e7,h⟩:=an' h
 exact k y1 y7 y8 y9 y10 y13 y14 y15 y16 y19 y20 y21 y22 y3 y4 (by rw[e0,e1,e2,e3,e4,e5,e6,e7]) h
def v29 (zz:List Expr) (f:Bool):Bool:=a7' zz (f)
theorem lB' {zz f} {P:Prop} (h:v29 zz f=true) (k:zz=[]->f=true->P):P:=by
 obtain⟨e0,h⟩:=an' h
 exact k (by rw[e0]) h
def v30 (zz:List Expr) (f:Expr->List Expr->Bool):Bool:=as' zz fun y1 y2=>f y1 y2
theorem nM' {zz f} {P:Prop} (h:v30 zz f=true) (k:∀x xs,zz=(x :: xs)->f x xs=true->P):P:=by
 obtain⟨y1,y2,e0,h⟩:=ah' h
 exact k y1 y2 (by rw[e0]) h
def v31 (zz:List Expr) (f:Expr->Bool):Bool:=as' zz fun y1 y2=>a7' y2 (f y1)
theorem ye' {zz f} {P:Prop} (h:v31 zz f=true) (k:∀e,zz=(e :: [])->f e=true->P):P:=by
 obtain⟨y1,y2,e0,h⟩:=ah' h
 obtain⟨e1,h⟩:=an' h
 exact k y1 (by rw[e0,e1]) h
def v32 (zz:Option Expr) (f:Bool):Bool:=ht' zz (f)
theorem yf' {zz f} {P:Prop} (h:v32 zz f=true) (k:zz=none->f=true->P):P:=by
 obtain⟨e0,h⟩:=dL' h
 exact k (by rw[e0]) h
def v33 (zz:Option Expr) (f:Expr->Bool):Bool:=i4' zz fun y1=>f y1
theorem yg' {zz f} {P:Prop} (h:v33 zz f=true) (k:∀y,zz=(some y)->f y=true->P):P:=by
 obtain⟨y1,e0,h⟩:=e8' h
 exact k y1 (by rw[e0]) h
def v34 (zz:Expr) (f:Str->Expr->Expr->Bool):Bool:=cZ' zz fun y1 y2 y3 y4=>bQ' y1 fun y5 y6=>as' y2 fun y7 y8=>as' y8 fun y9 y10=>a7' y10 (a7' y3 (f y5 y7 y9))
theorem yh' {zz f} {P:Prop} (h:v34 zz f=true) (k:∀n w1 y z w2,zz=.Call (.Name n w1) (y :: (z :: [])) [] w2->f n y z=true->P):P:=by
 obtain⟨y1,y2,y3,y4,e0,h⟩:=bF' h
 obtain⟨y5,y6,e1,h⟩:=aK' h
 obtain⟨y7,y8,e2,h⟩:=ah' h
 obtain⟨y9,y10,e3,h⟩:=ah' h
 obtain⟨e4,h⟩:=an' h
 obtain⟨e5,h⟩:=an' h
 exact k y5 y6 y7 y9 y4 (by rw[e0,e1,e2,e3,e4,e5]) h
def v35 (zz:Expr) (f:Str->Expr->Expr->Expr->Bool):Bool:=cZ' zz fun y1 y2 y3 y4=>bQ' y1 fun y5 y6=>as' y2 fun y7 y8=>as' y8 fun y9 y10=>as' y10 fun y11 y12=>a7' y12 (a7' y3 (f y5 y7 y9 y11))
theorem yi' {zz f} {P:Prop} (h:v35 zz f=true) (k:∀n w1 y z u w2,zz=.Call (.Name n w1) (y :: (z :: (u :: []))) [] w2->f n y z u=true->P):P:=by
 obtain⟨y1,y2,y3,y4,e0,h⟩:=bF' h
 obtain⟨y5,y6,e1,h⟩:=aK' h
 obtain⟨y7,y8,e2,h⟩:=ah' h
 obtain⟨y9,y10,e3,h⟩:=ah' h
 obtain⟨y11,y12,e4,h⟩:=ah' h
 obtain⟨e5,h⟩:=an' h
 obtain⟨e6,h⟩:=an' h
 exact k y5 y6 y7 y9 y11 y4 (by rw[e0,e1,e2,e3,e4,e5,e6]) h
def v36 (zz:Stmt) (f:Expr->Bool):Bool:=lz' zz fun y1 y2=>f y1
theorem yj' {zz f} {P:Prop} (h:v36 zz f=true) (k:∀x w1,zz=.Expr x w1->f x=true->P):P:=by
 obtain⟨y1,y2,e0,h⟩:=jS' h
 exact k y1 y2 (by rw[e0]) h
def v37 (zz:Stmt) (f:Expr->Bool):Bool:=hv' zz fun y1 y2=>i4' y1 fun y3=>f y3
theorem yk' {zz f} {P:Prop} (h:v37 zz f=true) (k:∀x w1,zz=.Return (some x) w1->f x=true->P):P:=by
 obtain⟨y1,y2,e0,h⟩:=hw' h
 obtain⟨y3,e1,h⟩:=e8' h
 exact k y3 y2 (by rw[e0,e1]) h
def v39 (zz:Stmt) (f:Expr->Expr->Bool):Bool:=c2' zz fun y1 y2 y3=>as' y1 fun y4 y5=>a7' y5 (f y4 y2)
theorem yl' {zz f} {P:Prop} (h:v39 zz f=true) (k:∀tg x w1,zz=.Assign (tg :: []) x w1->f tg x=true->P):P:=by
 obtain⟨y1,y2,y3,e0,h⟩:=cn' h
 obtain⟨y4,y5,e1,h⟩:=ah' h
 obtain⟨e2,h⟩:=an' h
 exact k y4 y2 y3 (by rw[e0,e1,e2]) h
def v41 (zz:Stmt) (f:Str->Pos->Expr->Expr->Expr->List Expr->Int->Expr->Expr->List Expr->Int->Scope->Bool):Bool:=c2' zz fun y1 y2 y3=>as' y1 fun y4 y5=>bQ' y4 fun y6 y7=>a7' y5 (d8' y2 fun y8 y9 y10 y11=>as' y9 fun y12 y13=>e9' y12 fun y14 y15 y16 y17=>as' y13 fun y18 y19=>e9' y18 fun y20 y21 y22 y23=>a7' y19 (f y6 y7 y8 y14 y15 y16 y17 y20 y21 y22 y23 y10))
theorem ym' {zz f} {P:Prop} (h:v41 zz f=true) (k:∀y py ee tg iter ifs a tg2 iter2 ifs2 a2 scope w1 w2,zz=.Assign ((.Name y py) :: []) (.SetComp ee (⟨tg,iter,ifs,a⟩ :: (⟨tg2,iter2,ifs2,a2⟩ :: [])) scope w1) w2->f y py ee tg iter ifs a tg2 iter2 ifs2 a2 scope=true->P):P:=by
 obtain⟨y1,y2,y3,e0,h⟩:=cn' h
 obtain⟨y4,y5,e1,h⟩:=ah' h
 obtain⟨y6,y7,e2,h⟩:=aK' h
 obtain⟨e3,h⟩:=an' h
 obtain⟨y8,y9,y10,y11,e4,h⟩:=dO' h
 obtain⟨y12,y13,e5,h⟩:=ah' h
 obtain⟨y14,y15,y16,y17,e6,h⟩:=bH' h
 obtain⟨y18,y19,e7,h⟩:=ah' h
 obtain⟨y20,y21,y22,y23,e8,h⟩:=bH' h
 obtain⟨e9,h⟩:=an' h
 exact k y6 y7 y8 y14 y15 y16 y17 y20 y21 y22 y23 y10 y11 y3 (by rw[e0,e1,e2,e3,e4,e5,e6,e7,e8,e9]) h
def v42 (zz:Stmt) (f:Str->Pos->Expr->Expr->Expr->Expr->List Expr->Int->Scope->Bool):Bool:=c2' zz fun y1 y2 y3=>as' y1 fun y4 y5=>bQ' y4 fun y6 y7=>a7' y5 (fb' y2 fun y8 y9 y10 y11 y12=>as' y10 fun y13 y14=>e9' y13 fun y15 y16 y17 y18=>a7' y14 (f y6 y7 y8 y9 y15 y16 y17 y18 y11))
theorem yn' {zz f} {P:Prop} (h:v42 zz f=true) (k:∀y py ke ve tg iter ifs a scope w1 w2,zz=.Assign ((.Name y py) :: []) (.DictComp ke ve (⟨tg,iter,ifs,a⟩ :: []) scope w1) w2->f y py ke ve tg iter ifs a scope=true->P):P:=by
 obtain⟨y1,y2,y3,e0,h⟩:=cn' h
 obtain⟨y4,y5,e1,h⟩:=ah' h
 obtain⟨y6,y7,e2,h⟩:=aK' h
 obtain⟨e3,h⟩:=an' h
 obtain⟨y8,y9,y10,y11,y12,e4,h⟩:=fC' h
 obtain⟨y13,y14,e5,h⟩:=ah' h
 obtain⟨y15,y16,y17,y18,e6,h⟩:=bH' h
 obtain⟨e7,h⟩:=an' h
 exact k y6 y7 y8 y9 y15 y16 y17 y18 y11 y12 y3 (by rw[e0,e1,e2,e3,e4,e5,e6,e7]) h
def v43 (zz:Stmt) (f:Str->Pos->Str->Pos->Expr->Expr->Bool):Bool:=c2' zz fun y1 y2 y3=>as' y1 fun y4 y5=>eE' y4 fun y6 y7 y8=>as' y6 fun y9 y10=>bQ' y9 fun y11 y12=>as' y10 fun y13 y14=>bQ' y13 fun y15 y16=>a7' y14 (a7' y5 (eE' y2 fun y17 y18 y19=>as' y17 fun y20 y21=>as' y21 fun y22 y23=>a7' y23 (f y11 y12 y15 y16 y20 y22)))
theorem yo' {zz f} {P:Prop} (h:v43 zz f=true) (k:∀x px y py w1 w2 ea eb w3 w4 w5,zz=.Assign ((.Tuple ((.Name x px) :: ((.Name y py) :: [])) w1 w2) :: []) (.Tuple (ea :: (eb :: [])) w3 w4) w5->f x px y py ea eb=true->P):P:=by
 obtain⟨y1,y2,y3,e0,h⟩:=cn' h
 obtain⟨y4,y5,e1,h⟩:=ah' h
 obtain⟨y6,y7,y8,e2,h⟩:=dr' h
 obtain⟨y9,y10,e3,h⟩:=ah' h
 obtain⟨y11,y12,e4,h⟩:=aK' h
 obtain⟨y13,y14,e5,h⟩:=ah' h
 obtain⟨y15,y16,e6,h⟩:=aK' h
 obtain⟨e7,h⟩:=an' h
 obtain⟨e8,h⟩:=an' h
 obtain⟨y17,y18,y19,e9,h⟩:=dr' h
 obtain⟨y20,y21,e10,h⟩:=ah' h
 obtain⟨y22,y23,e11,h⟩:=ah' h
 obtain⟨e12,h⟩:=an' h
 exact k y11 y12 y15 y16 y7 y8 y20 y22 y18 y19 y3 (by rw[e0,e1,e2,e3,e4,e5,e6,e7,e8,e9,e10,e11,e12]) h
def v49 (zz:Stmt) (f:Str->Operator->Expr->Bool):Bool:=em' zz fun y1 y2 y3 y4=>bQ' y1 fun y5 y6=>f y5 y2 y3
theorem yp' {zz f} {P:Prop} (h:v49 zz f=true) (k:∀x w1 op ee w2,zz=.AugAssign (.Name x w1) op ee w2->f x op ee=true->P):P:=by
 obtain⟨y1,y2,y3,y4,e0,h⟩:=fc' h
 obtain⟨y5,y6,e1,h⟩:=aK' h
 exact k y5 y6 y2 y3 y4 (by rw[e0,e1]) h
def v50 (zz:Stmt) (f:Expr->List Stmt->List Stmt->Bool):Bool:=uf' zz fun y1 y2 y3 y4=>f y1 y2 y3
theorem yq' {zz f} {P:Prop} (h:v50 zz f=true) (k:∀x ss rs w1,zz=.If x ss rs w1->f x ss rs=true->P):P:=by
 obtain⟨y1,y2,y3,y4,e0,h⟩:=nL' h
 exact k y1 y2 y3 y4 (by rw[e0]) h
def v51 (zz:Stmt) (f:Expr->List Stmt->Bool):Bool:=i7' zz fun y1 y2 y3 y4=>a7' y3 (f y1 y2)
theorem yr' {zz f} {P:Prop} (h:v51 zz f=true) (k:∀x ss w1,zz=.While x ss [] w1->f x ss=true->P):P:=by
 obtain⟨y1,y2,y3,y4,e0,h⟩:=iq' h
 obtain⟨e1,h⟩:=an' h
 exact k y1 y2 y4 (by rw[e0,e1]) h
def v52 (zz:Stmt) (f:Expr->Expr->List Stmt->Bool):Bool:=pq' zz fun y1 y2 y3 y4 y5=>a7' y4 (f y1 y2 y3)
theorem ys' {zz f} {P:Prop} (h:v52 zz f=true) (k:∀tg iter ss w1,zz=.For tg iter ss [] w1->f tg iter ss=true->P):P:=by
 obtain⟨y1,y2,y3,y4,y5,e0,h⟩:=lA' h
 obtain⟨e1,h⟩:=an' h
 exact k y1 y2 y3 y5 (by rw[e0,e1]) h
def v56 (zz:List Stmt) (f:Bool):Bool:=a7' zz (f)
theorem yt' {zz f} {P:Prop} (h:v56 zz f=true) (k:zz=[]->f=true->P):P:=by
 obtain⟨e0,h⟩:=an' h
 exact k (by rw[e0]) h
def v57 (zz:List Stmt) (f:Stmt->List Stmt->Bool):Bool:=as' zz fun y1 y2=>f y1 y2
theorem yu' {zz f} {P:Prop} (h:v57 zz f=true) (k:∀x xs,zz=(x :: xs)->f x xs=true->P):P:=by
 obtain⟨y1,y2,e0,h⟩:=ah' h
 exact k y1 y2 (by rw[e0]) h
mutual
def mE (N B:List Str) (sc:Scope):Ce->Expr->Bool
 | .var i,e=>v1 e fun x=>e7' N i x&&vis sc x
 | .int n,e=>v2 e fun m=>decide (n=m)
 | .bl b,e=>v3 e fun c=>decide (b=c)
 | .non,e=>v4 e (true)
 | .str x,e=>v5 e fun y=>decide (x=y)
 | .bin op a b,e=>v6 e fun ea op' eb=>decide (op=op')&&mE N B sc a ea&&mE N B sc b eb
 | .neg a,e=>v7 e fun ea=>mE N B sc a ea
 | .not a,e=>v8 e fun ea=>mE N B sc a ea
 | .and a b,e=>x2' e fun x y=>mE N B sc a x&&mE N B sc b y
 | .or a b,e=>vOr e fun x y=>mE N B sc a x&&mE N B sc b y
 | .cmp op a b,e=>v9 e fun ea op' eb=>decide (op=op')&&mE N B sc a ea&&mE N B sc b eb&&aM' eb
 | .chn op1 op2 a b c,e=>v10 e fun ea o1 o2 eb ec=>decide (op1=o1)&&decide (op2=o2)&&mE N B sc a ea&&mE N B sc b eb&&mE N B sc c ec&&aM' ec
 | .ife q a b,e=>v11 e fun eq ea eb=>mQ N B sc q eq&&mE N B sc a ea&&mE N B sc b eb
 | .tup es,e=>v12 e fun xs=>mA N B sc es xs
 | .lst es,e=>v13 e fun xs=>mA N B sc es xs
 | .idx a b,e=>v14 e fun ea eb=>mE N B sc a ea&&mE N B sc b eb&&eD' eb
 | .cut a lo hi,e=>v15 e fun ea l h=>mE N B sc a ea&&mO N B sc lo l&&mO N B sc hi h
 | .call f es,e=>v16 e fun x e r=>decide (x=f)&&glb sc x&&mA N B sc es (e :: r)&&!(x == ("__debug__":Str))&&!(hat B)&&!(tld B&&decide (sQ' x∈B))
 | .blt f es,e=>v16 e fun x e r=>decide (x=e6' f)&&glb sc x&&mA N B sc es (e :: r)&&decide (x∈B)&&(!(hat B) || decide (f=.isinstance))
 | .met m o es,e=>v17 e fun eo nm apos args pos=>decide (nm=ln' m)&&mE N B sc o eo&&lo' eo&&(apos.endLine == pos.line)&&mA N B sc es args&&decide (args.length<28)
 | .din neg a b,e=>v9 e fun ea op' eb=>decide (op'=if neg then .NotIn else .In)&&mE N B sc a ea&&mE N B sc b eb&&aM' eb
 | .dgt a b,e=>v20 e fun eo nm apos y pos=>decide (nm="get")&&mE N B sc a eo&&lo' eo&&(apos.endLine == pos.line)&&mE N B sc b y&&aC' y
 | .stp a b,e=>v83 e fun ea eb=>mE N B sc a ea&&mE N B sc b eb
 | .ssc elt own t it q,e=>v70 e fun n1 ee tg iter ifs a scope=>decide (n1="sorted")&&glb sc n1&&decide (n1∈B)&&!(hat B)&&jN' N sc scope own&&mE N ("~" :: B) scope elt ee&&fO' own t&&decide (a=0)&&mI N B sc it iter&&gD' it tg&&aM' iter&&mT N ("~" :: B) scope t tg&&mQo N ("~" :: B) scope q ifs
 | .comp elt own t it q .nil,e=>v26 e fun ee tg iter ifs a scope=>!(hat B)&&jN' N sc scope own&&mE N ("~" :: B) scope elt ee&&fO' own t&&decide (a=0)&&mI N B sc it iter&&gD' it tg&&aM' iter&&mT N ("~" :: B) scope t tg&&mQo N ("~" :: B) scope q ifs
 | .comp elt own t it q (.cons ws t2 it2 q2 .nil),e=>v27 e fun ee tg iter ifs a tg2 iter2 ifs2 a2 scope=>!(hat B)&&jN' N sc scope own&&mE N ("~" :: B) scope elt ee&&fO' own t&&decide (a=0)&&mI N B sc it iter&&gD' it tg&&aM' iter&&mT N ("~" :: B) scope t tg&&mQo N ("~" :: B) scope q ifs&&
    decide (a2=0)&&mI N ("~" :: B) scope it2 iter2&&gD' it2 tg2&&aM' iter2&&mT N ("~" :: B) scope t2 tg2&&mQo N ("~" :: B) scope q2 ifs2&&fO' ws t2&&ws.all (fun j=>decide (j∈own))
 | .comp elt own t it q (.cons ws t2 it2 q2 (.cons ws3 t3 it3 q3 .nil)),e=>v28 e fun ee tg iter ifs a tg2 iter2 ifs2 a2 tg3 iter3 ifs3 a3 scope=>!(hat B)&&jN' N sc scope own&&mE N ("~" :: B) scope elt ee&&fO' own t&&decide (a=0)&&mI N B sc it iter&&gD' it tg&&aM' iter&&mT N ("~" :: B) scope t tg&&mQo N ("~" :: B) scope q ifs&&
    decide (a2=0)&&mI N ("~" :: B) scope it2 iter2&&gD' it2 tg2&&aM' iter2&&mT N ("~" :: B) scope t2 tg2&&mQo N ("~" :: B) scope q2 ifs2&&fO' ws t2&&ws.all (fun j=>decide (j∈own))&&
    decide (a3=0)&&mI N ("~" :: B) scope it3 iter3&&gD' it3 tg3&&aM' iter3&&mT N ("~" :: B) scope t3 tg3&&mQo N ("~" :: B) scope q3 ifs3&&fO' ws3 t3&&ws3.all (fun j=>decide (j∈ws))
 | .comp _ _ _ _ _ (.cons _ _ _ _ (.cons _ _ _ _ (.cons _ _ _ _ _))),_=>false
def mA (N B:List Str) (sc:Scope):Ces->List Expr->Bool
 | .nil,es=>v29 es (true)
 | .cons e r,es=>v30 es fun x xs=>mE N B sc e x&&aC' x&&mA N B sc r xs
def mQ (N B:List Str) (sc:Scope):Cq->Expr->Bool
 | .val e,x=>mE N B sc e x&&pl' x
 | .not q,x=>v8 x fun y=>mQ N B sc q y
 | .and a b,e=>x2' e fun x y=>mQ N B sc a x&&mQ N B sc b y
 | .or a b,e=>vOr e fun x y=>mQ N B sc a x&&mQ N B sc b y
 | .cmp op a b,e=>v9 e fun ea op' eb=>decide (op=op')&&mE N B sc a ea&&mE N B sc b eb&&aM' eb
 | .chn op1 op2 a b c,e=>v10 e fun ea o1 o2 eb ec=>decide (op1=o1)&&decide (op2=o2)&&mE N B sc a ea&&mE N B sc b eb&&mE N B sc c ec&&aM' ec
 | .din neg a b,e=>v9 e fun ea op' eb=>decide (op'=if neg then .NotIn else .In)&&mE N B sc a ea&&mE N B sc b eb&&aM' eb
def mQo (N B:List Str) (sc:Scope):Cqo->List Expr->Bool
 | .none,es=>v29 es (true)
 | .some q,es=>v31 es fun e=>mQ N B sc q e
def mO (N B:List Str) (sc:Scope):Co->Option Expr->Bool
 | .none,x=>v32 x (true)
 | .some e,x=>v33 x fun y=>mE N B sc e y
def mI (N B:List Str) (sc:Scope):Ci->Expr->Bool
 | .val e,x=>mE N B sc e x
 | .range1 a,x=>v23 x fun n y=>decide (n="range")&&glb sc n&&decide (n∈B)&&mE N B sc a y&&aC' y
 | .range2 a b,x=>v34 x fun n y z=>decide (n="range")&&glb sc n&&decide (n∈B)&&mE N B sc a y&&aC' y&&mE N B sc b z&&aC' z
 | .enum a,x=>v23 x fun n y=>decide (n="enumerate")&&glb sc n&&decide (n∈B)&&mE N B sc a y&&aC' y
 | .range3 a b c,x=>v35 x fun n y z u=>decide (n="range")&&glb sc n&&decide (n∈B)&&mE N B sc a y&&aC' y&&mE N B sc b z&&aC' z&&mE N B sc c u&&aC' u
 | .rev a,x=>v23 x fun n y=>decide (n="reversed")&&glb sc n&&decide (n∈B)&&mE N B sc a y&&aC' y
def mT (N B:List Str) (sc:Scope):Ct->Expr->Bool
 | .name i,e=>v1 e fun x=>e7' N i x&&locb sc x
 | .tup ts,e=>v12 e fun es=>mTs N B sc ts es&&!(hat B)
 | .sub o i,e=>v14 e fun eo ei=>mE N B sc o eo&&mE N B sc i ei&&eD' ei
def mTs (N B:List Str) (sc:Scope):Cts->List Expr->Bool
 | .nil,es=>v29 es (true)
 | .cons t r,es=>v30 es fun x xs=>mT N B sc t x&&aC' x&&mTs N B sc r xs
end
def ir':Ce->Bool
 |_=>false
mutual
def mS (N B:List Str) (sc:Scope):Cs->Stmt->Bool
 | .expr e,s=>v36 s fun x=>mE N B sc e x&&(match e with | .comp ..=>false|_=>true)&&!ir' e
 | .ret e,s=>v37 s fun x=>mE N B sc e x
 | .asg t e,s=>v39 s fun tg x=>mE N B sc e x&&!ir' e&&mT N B sc t tg&&aC' tg&&(match tg,x with
   | .Tuple ..,.Tuple vs _ _=>vs.all (foldedForSure 8)
   | .Tuple ..,.ListComp ..=>false
   |_,_=>true)
 | .setc2 i elt own t it q ws t2 it2 q2,s=>v41 s fun y py ee tg iter ifs a tg2 iter2 ifs2 a2 scope=>!(hat B)&&mT N B sc (.name i) (.Name y py)&&jN' N sc scope own&&mE N ("~" :: B) scope elt ee&&fO' own t&&decide (a=0)&&mI N B sc it iter&&gD' it tg&&aM' iter&&mT N ("~" :: B) scope t tg&&mQo N ("~" :: B) scope q ifs&&
    decide (a2=0)&&mI N ("~" :: B) scope it2 iter2&&gD' it2 tg2&&aM' iter2&&mT N ("~" :: B) scope t2 tg2&&mQo N ("~" :: B) scope q2 ifs2&&fO' ws t2&&ws.all (fun j=>decide (j∈own))
 | .dctc _ i k v own t it q,s=>v42 s fun y py ke ve tg iter ifs a scope=>!(hat B)&&mT N B sc (.name i) (.Name y py)&&jN' N sc scope own&&mE N ("~" :: B) scope k ke&&mE N ("~" :: B) scope v ve&&fO' own t&&decide (a=0)&&mI N B sc it iter&&gD' it tg&&aM' iter&&mT N ("~" :: B) scope t tg&&mQo N ("~" :: B) scope q ifs
 | .par i j a b,s=>v43 s fun x px y py ea eb=>e7' N i x&&e7' N j y&&decide (i≠j)&&decide (sc.names.lookup x=some .local)&&decide (sc.names.lookup y=some .local)&&
    mE N B sc a ea&&mE N B sc b eb&&aC' ea&&aC' eb&&(px.line == py.line)&&(!(foldedForSure 8 ea&&foldedForSure 8 eb))&&(!(constantsAlone 8 ea&&constantsAlone 8 eb))&&!(hat B)
 | .raise_,s=>match s with
  | .Raise ..=>true
  |_=>false
 | .aug i sub e,s=>v49 s fun x op ee=>e7' N i x&&locb sc x&&mE N B sc e ee&&decide (op=if sub then .Sub else .Add)
 | .ite q a b,s=>v50 s fun x ss rs=>mQ N B sc q x&&mSs N B sc a ss&&mSs N B sc b rs
 | .whl q b,s=>v51 s fun x ss=>mQ N B sc q x&&mSs N B sc b ss
 | .for_ t it b,s=>v52 s fun tg iter ss=>mI N B sc it iter&&gD' it tg&&aM' iter&&mT N B sc t tg&&mSs N B sc b ss&&!(hat B)
def mSs (N B:List Str) (sc:Scope):Css->List Stmt->Bool
 | .nil,ss=>v56 ss (true)
 | .cons s r,ss=>v57 ss fun x xs=>mS N B sc s x&&mSs N B sc r xs
end
def qN' (CX:CXT) (X:Cx) (xk:L2.St->XK):Prop:=∀(pins:List (Addr×Obj)) (σ:L2.St) (H:Hp) (s:Shared) (e:Value) (s':Shared),Inv X pins σ H s->CX X.stack H s (xk σ) e s'->X.xe e s'
theorem pr' {X:Cx} {xk:L2.St->XK}:qN' CX0 X xk:=fun _ _ _ _ _ _ _ h=>h.elim
structure Rok (C:Rc) (B:List Str) (X:Cx) (sc:Scope):Prop where
 hN:X.N=C.N
 nd:C.N.Nodup
 hK:X.K=C.K
 own:PassesOwn (model X.prog X.w) X.A X.env X.xe
 calm:hat B=false->X.calm=true
 hu:X.A.units+64<cLine
 gd:X.A.guards=some []
 loc:∀x,sc.names.lookup x=some .local->X.env.scope.names.lookup x=some .local
 cel:∀x,sc.names.lookup x=some .cell->X.env.scope.names.lookup x=some .cell/\X.fn x=true
 fre:∀x,sc.names.lookup x=some .free->X.env.scope.names.lookup x=some .cell\/X.env.scope.names.lookup x=some .free
 glo:∀x,sc.names.lookup x=some .globalImplicit->X.env.kindOf x=some .globalImplicit
 fn:∀x sp,C.fs x=some sp->hat B=false->(tld B=true->sQ' x∉B)->∃f fd ps k CX,FnOk X.prog X.w X.K X.mg X.base CX k f fd ps sp/\Room k X.A/\X.mg x=some (.ref f)/\W.keepIn X.K (.ref f)=true/\fv' X.K fd ps []/\(CX=CX0\/CX=CX1 X.prog X.w X.mg/\sQ' x∈B)/\qN' CX X C.xk
 blt:∀x∈B,X.mg x=none
 mrk:X.mg "~"=none/\X.mg "^"=none/\X.mg "%"=none
 cls:∀c Ca,C.cl c=some Ca->X.mg c=some (.ref Ca)/\W.nsIn X.K mainGlobals c=some (some (.ref Ca))
 fx:tld B=false->FnCx X
 nohat:tld B=false->hat B=false
 xr:tld B=false->pct B=false->∀nm Ca pins σ H s e t,C.cl nm=some Ca->Inv X pins σ H s->H e=none->X.s₀.heap.get? e=none->(∀p∈X.pn++pins,p.1≠e)->s.heap.get? e=some { cls:=.ref Ca,data:=.fields #[.ref t,.none,.none,.none,.bool false,.none] }->C.xk σ (.str nm 0) none H->X.xe (.ref e) s
theorem Rok.hu1 {C:Rc} {B:List Str} {X:Cx} {sc:Scope} (R:Rok C B X sc):X.A.units+1<cLine:=by have:=R.hu;omega
section
variable {C:Rc} {B:List Str} {X:Cx} {sc:Scope}
set_option tactic.hygienic true in
theorem Rok.vis (R:Rok C B X sc) {x:Str} (h:R3.vis sc x=true):Vis X.env.scope x:=by
 unfold R3.vis at h
 split at h
 .rename_i e;exact .inl (R.loc x e)
 .rename_i e;exact .inr (.inl (R.cel x e).1)
 .rename_i e
  rcases R.fre x e with q|q
  .exact .inr (.inl q)
  .exact .inr (.inr q)
 .cases h
set_option tactic.hygienic true in
theorem Rok.locb (R:Rok C B X sc) {x:Str} (h:R3.locb sc x=true):Loc X.env.scope x/\(X.fn x=true\/X.env.scope.names.lookup x=some .local):=by
 unfold R3.locb at h
 split at h
 .rename_i e;exact⟨.inl (R.loc x e),.inr (R.loc x e)⟩
 .rename_i e;exact⟨.inr (R.cel x e).1,.inl (R.cel x e).2⟩
 .cases h
theorem Rok.glb (R:Rok C B X sc) {x:Str} (h:R3.glb sc x=true):Gl X x:=R.glo x (of_decide_eq_true h)
theorem bN' {N:List Str} {i:Nat} {x:Str} (h:e7' N i x=true):N[i]?=some x/\(x == ("__debug__":Str))=false/\(x == ("__classdict__":Str))=false:=by
 unfold e7' at h
 simp only[ai,decide_eq_true_eq,bj]at h
 exact⟨h.1.1,h.1.2,h.2⟩
theorem am' {e:Expr} {es:List Expr} {env:Env} (h:aC' e=true):starEach (e :: es) env=(false,eval e env) :: starEach es env:=by
 cases e<;>first|rfl|cases h
theorem gk' {N B:List Str} {sc:Scope} {env:Env} {pos:Pos}:∀{es:Ces} {xs:List Expr},mA N B sc es xs=true->(backTo pos (starEach xs env)).any (·.1)=false
 | .nil,xs,h=>by
  refine lB' h fun e0 g=>?_
  clear h
  subst e0
  revert g
  intro h
  rfl
 | .cons e r,xs,h=>by
  refine nM' h fun x xs e0 g=>?_
  clear h
  subst e0
  revert g
  intro h
  simp only[ai]at h
  rw[am' h.1.2]
  have ih:=gk' (env:=env) (pos:=pos) (es:=r) h.2
  exact ih
theorem aY' {e:Expr} {env:Env} (h:aM' e=true) (x:Value):foldedSetIterable e env x=pure x:=by
 cases e<;>first|rfl|cases h
theorem cF' {op:CmpOp} {e:Expr} (h:aM' e=true):behindInMarks op e=false:=by
 cases e<;>first|rfl|cases h
theorem lC' {o1 o2:CmpOp} {a e:Expr} (h:aM' e=true):lastMarks [o1,o2] [a,e]=false:=by
 show behindInMarks o2 e=false
 exact cF' h
theorem nN' {e:Expr} (h:eD' e=true):kw' e:=by
 intro o i
 cases e<;>first|rfl|cases h
theorem iu' {e:Expr} {f:Str} {env:Env} {w:Sem Value} (h:lo' e=true):attributeBase e f env w=w:=by
 cases e with
 |Call g args kw pos=>
  cases args with
  |nil=>cases h
  |cons a r=>cases g<;>rfl
 |_=>rfl
theorem lD' {e:Expr} {env:Env} (h:pl' e=true) (w:Sem Value):isTrue e env w=(do let v <- w;standAt e.pos;holding [v] (truthy v)):=by
 cases e with
 |UnaryOp op a p=>cases op<;>first|rfl|cases h
 |_=>first|rfl|cases h
theorem OpR.imp {f:Value->Value->Sem Value} {r r':R2} (h:OpR X f r) (i:∀x y H Q,r' x y H Q->r x y H Q):OpR X f r':=fun pins s σ H x y v u Q I rx ry q=>h pins s σ H x y v u Q I rx ry (i _ _ _ _ q)
theorem bl'.imp {f:Value} {r r':List V->Hp->VK->Prop} (h:bl' X f r) (i:∀xs H Q,r' xs H Q->r xs H Q):bl' X f r':=fun pins s σ H xs us Q I rv q=>h pins s σ H xs us Q I rv (i _ _ _ q)
theorem ixM:IxR X (nI' X.K):=by
 intro value slice pins s σ H x y v u Q I rx ry q hp
 refine tt' value slice pins s σ H x y v u Q I rx ry ?_ hp
 unfold nI' at q
 split at q
 .obtain⟨z,c,hc,q⟩:=q
  exact .inr (.inr ⟨_,_,c,rfl,rfl,z,hc,q⟩)
 .rcases q with q|q
  .exact .inl q
  .exact .inr (.inl q)
theorem uk' {CX:CXT} {k:Nat} {f:Addr} {fd:FuncData} {ps:List Str} {sp:Sp} {dvs:List V} {ds:List Value} {E:XK} {pins:List (Addr×Obj)} {σ:L2.St} {H:Hp} {s:Shared} {Q:VK} {us:List Value} {vs:List V} (F:FnOk X.prog X.w X.K X.mg X.base CX k f fd ps sp) (hr:Room k X.A) (hb:fv' X.K fd ps ds) (hd:aE' dvs ds)
  (hx:∀e s',CX X.stack H s E e s'->X.xe e s') (I:Inv X pins σ H s) (r:aE' vs us) (h:sp (vs++dvs) H Q E):wpAny (model X.prog X.w) X.A (call (.ref f) us) (EP X pins σ Q) X.xe s:=by
 have r2:=r.append hd
 have hl:(us++ds).length=ps.length:=r2.length ▸ F.len _ _ _ _ h
 have go:=F.run X.A X.stack s H ⟨us,[]⟩ (us++ds) (vs++dvs) Q E hr I.env0 (hb s us I.kIn hl) r2 h
 refine wpAny_call (codeAny_mono go fun r s' hq=>?_)
 match r,hq with
 | .error e,hq=>exact hx e s' hq
 | .ok (.ret u),hq=>exact I.after hq
theorem nO' {CX:CXT} {k:Nat} {f:Addr} {fd:FuncData} {ps:List Str} {sp:Sp} {dvs:List V} {ds:List Value} {xk:L2.St->XK} {x:Str} {p pos:Pos} {e:Expr} {es:List Expr} {t:TA} (F:FnOk X.prog X.w X.K X.mg X.base CX k f fd ps sp) (hr:Room k X.A) (hg:Gl X x) (hm:X.mg x=some (.ref f)) (hk:W.keepIn X.K (.ref f)=true) (hb:fv' X.K fd ps ds) (hd:aE' dvs ds) (hx:qN' CX X xk)
  (ha:PA X (e :: es) t) (hdb:(x == ("__debug__":Str))=false) (he:starEach (e :: es) X.env=(false,eval e X.env) :: starEach es X.env) (hpl:(backTo pos (starEach es X.env)).any (·.1)=false):
  PE X (.Call (.Name x p) (e :: es) [] pos) (fun σ H Q=>nf' sp dvs (xk σ) t σ H Q):=by
 intro pins s σ H Q I h
 refine wpAny_Call_Name_kw (pW' I hg hm ?_ hdb)
 exact W.callWith_K (h₀:=X.base) I.ok.mod.kin hk (thn (ha pos pins s σ H _ I h) fun us s1 ⟨vs,H1,I1,r,q⟩=>⟨I1.kIn,uk' F hr hb hd (fun e s' c=>hx pins σ H1 s1 e s' I1 c) I1 r q⟩) he hpl
theorem qO' {a:Int} (h:a.natAbs<2 ^ 100):(Builtin.Int.intBits a:Int)<=100:=by
 unfold Builtin.Int.intBits
 by_cases h0:a.natAbs=0
 .rw[if_pos (by simpa using h0)];decide
 .rw[if_neg (by simpa using h0)]
  have:=(Nat.log2_lt h0).mpr h
  omega
theorem qP' {X:Cx}:OpR X (binaryOp .LShift) (rI z2' fun i j=>.int (i*2 ^ j.toNat)):=opI fun _ _ _ _ _ _ _ hc q=>lshift_int hc.1 (by have:=qO' hc.2.2;have:=hc.2.1;omega) q
theorem ul' (op:Operator):OpR X (binaryOp op) (g9' X.K op):=by
 cases op with
 |Add=>
  refine OpR.imp ((s9'.or jA').or (tw'.or (qf'.or nv'))) fun x y H Q q=>?_
  unfold g9' at q
  dsimp only at q
  split at q
  .exact .inl (.inl ⟨_,_,rfl,rfl,q⟩)
  .exact .inl (.inr ⟨_,_,rfl,rfl,q.1,q.2⟩)
  .exact .inr q
 |Sub=>exact ta'
 |Mult=>
  refine OpR.imp (qr'.or (jI'.or tx')) fun x y H Q q=>?_
  unfold g9' at q
  dsimp only at q
  split at q
  .refine .inl ⟨_,_,rfl,rfl,?_,q.2⟩
   rcases q.1 with h|h|h
   .exact wW'.ok (.inl h)
   .exact wW'.ok (.inr h)
   .exact h
  .exact .inr (.inl ⟨_,_,rfl,rfl,q.1,q.2.1,q.2.2.1,q.2.2.2⟩)
  .exact .inr (.inr q)
 |Mod=>exact tb'
 |FloorDiv=>
  refine OpR.imp (p8'.or nr') fun x y H Q q=>?_
  obtain⟨i,j,h1,h2,⟨h3,h4⟩,q⟩:=q
  rcases h4 with h4|h4
  .exact .inl ⟨i,j,h1,h2,⟨h3,h4⟩,q⟩
  .exact .inr ⟨i,j,h1,h2,⟨h3,h4⟩,q⟩
 |Pow=>exact tc'
 |LShift=>exact qP'
 |RShift=>exact td'
 |MatMult=>exact fun _ _ _ _ _ _ _ _ _ _ _ _ h=>h.elim
 |Div=>exact fun _ _ _ _ _ _ _ _ _ _ _ _ h=>h.elim
 |BitOr=>exact fun _ _ _ _ _ _ _ _ _ _ _ _ h=>h.elim
 |BitXor=>exact fun _ _ _ _ _ _ _ _ _ _ _ _ h=>h.elim
 |BitAnd=>exact qv'
theorem fP' (hu':X.A.units+64<cLine) (op:CmpOp):OpR X (compareOp op) (cD' X.K op):=by
 cases op with
 |Eq=>
  refine OpR.imp (xw'.or ((tG' (by omega)).or (tT' hu'))) fun x y H Q q=>?_
  unfold cD' at q
  dsimp only at q
  split at q
  .exact .inr q
  .exact .inl q
 |NotEq=>
  refine OpR.imp (xx'.or ((tH' (by omega)).or (tU' hu'))) fun x y H Q q=>?_
  unfold cD' at q
  dsimp only at q
  split at q
  .exact .inr q
  .exact .inl q
 |Lt=>exact xy'
 |LtE=>exact xz'
 |Gt=>
  refine OpR.imp (xA'.or tQ') fun x y H Q q=>?_
  unfold cD' at q
  dsimp only at q
  split at q
  .exact .inr q
  .exact .inl q
 |GtE=>exact xB'
 |Is=>
  refine OpR.imp (ti'.or tJ') fun x y H Q q=>?_
  unfold cD' at q
  dsimp only at q
  split at q
  .exact .inr q
  .exact .inl q
 |IsNot=>
  refine OpR.imp (p9'.or kK') fun x y H Q q=>?_
  unfold cD' at q
  dsimp only at q
  split at q
  .exact .inr q
  .exact .inl q
 |In=>
  refine OpR.imp (tP'.or kx') fun x y H Q q=>?_
  unfold cD' at q
  dsimp only at q
  split at q
  .exact .inl q
  .exact .inr q
 |NotIn=>
  refine OpR.imp (kQ'.or gL') fun x y H Q q=>?_
  unfold cD' at q
  dsimp only at q
  split at q
  .exact .inl q
  .exact .inr q
theorem yv':SlR X (rSl X.K):=by
 intro pins s σ H x v vl vu lo hi sl Q I rx hs pl pu q
 refine(qh'.or (tp'.or (nx'.or tF'))) pins s σ H x v vl vu lo hi sl Q I rx hs pl pu ?_
 unfold rSl at q
 split at q
 .exact .inr (.inr (.inr ⟨_,rfl,q.1,q.2⟩))
 .rcases q with q|q|q
  .exact .inl q
  .exact .inr (.inl q)
  .exact .inr (.inr (.inl q))
inductive BltIs:Bf->Prop where
 |fn (f:Bf) (id:String) (hv:bootBuiltins (e6' f)=some (.builtin id)) (h:∀X:Cx,(X.calm=true\/f=.isinstance)->bl' X (.builtin id) (d5' X.K f)):BltIs f
 |ty (f:Bf) (T:String) (hv:bootBuiltins (e6' f)=some (.type T)) (h:∀X:Cx,(X.calm=true\/f=.isinstance)->bl' X (.type T) (d5' X.K f)):BltIs f
theorem um' (f:Bf):BltIs f:=by
 cases f with
 |len=>exact .fn _ "len" (by decide +kernel) fun X _=>ne'
 |abs=>exact .fn _ "abs" (by decide +kernel) fun X _=>nd'
 |int=>
  refine .ty _ "int" (by decide +kernel) fun X _=>bl'.imp kS' fun xs H Q q=>?_
  unfold d5' at q
  dsimp only at q
  split at q
  .exact .inl (.inl (.inl ⟨_,rfl,q⟩))
  .exact .inl (.inl (.inr ⟨_,rfl,q⟩))
  .obtain⟨n,h1,h2,q⟩:=q
   exact .inl (.inr ⟨_,n,rfl,h1,h2,q⟩)
  .obtain⟨rfl,n,h1,q⟩:=q
   exact .inr ⟨_,n,rfl,h1,q⟩
  .exact q.elim
 |set=>exact .ty _ "set" (by decide +kernel) fun X c0=>have c:X.calm=true:=c0.resolve_right (fun z=>by cases z);lc' c
 |isinstance=>exact .fn _ "isinstance" (by decide +kernel) fun X _=>fun _ _ _ _ _ _ _ _ _ h=>False.elim h
 |any=>exact .fn _ "any" (by decide +kernel) fun X c0=>have c:X.calm=true:=c0.resolve_right (fun z=>by cases z);kH' c
 |max=>
  refine .fn _ "max" (by decide +kernel) fun X c0=>have c:X.calm=true:=c0.resolve_right (fun z=>by cases z);bl'.imp ((kn' c).or (kI' c)) fun xs H Q q=>?_
  unfold d5' at q
  dsimp only at q
  split at q
  .exact .inl ⟨_,_,rfl,q⟩
  .exact .inr q
 |min=>
  refine .fn _ "min" (by decide +kernel) fun X c0=>have c:X.calm=true:=c0.resolve_right (fun z=>by cases z);bl'.imp ((ko' c).or (kJ' c)) fun xs H Q q=>?_
  unfold d5' at q
  dsimp only at q
  split at q
  .exact .inl ⟨_,_,rfl,q⟩
  .exact .inr q
 |list=>exact .ty _ "list" (by decide +kernel) fun X c0=>have c:X.calm=true:=c0.resolve_right (fun z=>by cases z);gM'.or (nq' c)
 |range=>exact .ty _ "range" (by decide +kernel) fun X _=>np'
 |tuple=>exact .ty _ "tuple" (by decide +kernel) fun X _=>f3'
structure MetIs (m:Mf) (id:String):Prop where
 pa:PlainAttrs (ha' m)
 slot:Slot (ha' m) (ln' m) id
 ty:typeOf (.builtin id)=pure (.type "method_descriptor")
 h:∀X:Cx,MtR X id (lm' X.K m)
theorem un' (m:Mf):∃id,MetIs m id:=by
 cases m with
 |append=>exact⟨_,F.plainAttrs_list,F.slot_list_append,F.type_list_append,fun _=>kz'⟩
 |join=>exact⟨_,F.plainAttrs_str,F.slot_str_join,F.type_str_join,fun _=>qq'⟩
 |countS=>exact⟨_,F.plainAttrs_str,F.slot_str_count,F.type_str_count,fun _=>nn'⟩
end
theorem c3' {N:List Str} {sc scope:Scope} {own:List Nat} (h:jN' N sc scope own=true):scope.kind=.function/\(∀x∈scope.names,x.2=.local->scope.names.lookup x.1=some .local)/\(∀n,(n,NameKind.cell)∈scope.names->scope.names.lookup n=some .cell)/\
  (∀n,(n,NameKind.free)∈scope.names->sc.names.lookup n=some .cell\/sc.names.lookup n=some .free)/\∀(i:Nat) (x:Str),N[i]?=some x->(scope.names.lookup x=some .local\/scope.names.lookup x=some .cell)->i∈own:=by
 unfold jN' at h
 simp only[ai,decide_eq_true_eq,cD,cc]at h
 obtain⟨⟨hk,hn⟩,ho⟩:=h
 refine⟨hk,fun x hx e=>?_,fun n hn'=>?_,fun n hn'=>?_,fun i x e hx=>?_⟩
 .exact(hn x hx).1.1.resolve_left fun q=>q e
 .exact(hn _ hn').1.2.resolve_left fun q=>q rfl
 .rcases(hn _ hn').2 with(q|q)|q
  .exact absurd rfl q
  .exact .inl q
  .exact .inr q
 .have:=ho i (aw.mpr (aL.mp e).1)
  rw[e]at this
  simp only[cc,ai,decide_eq_true_eq]at this
  rcases this with⟨q1,q2⟩|q
  .rcases hx with z|z
   .exact absurd z q1
   .exact absurd z q2
  .exact q
theorem Rok.compSc {C:Rc} {B:List Str} {X:Cx} {sc scope:Scope} {own:List Nat} (R:Rok C B X sc) (h:jN' C.N sc scope own=true):CompSc X scope:=by
 obtain⟨h1,h2,h3,h4,h5⟩:=c3' h
 refine⟨h1,h2,h3,fun n hn=>?_⟩
 rcases h4 n hn with q|q
 .exact .inl (R.cel n q).1
 .exact R.fre n q
theorem dP' {B:List Str}:tld ("~" :: B)=true:=decide_eq_true (aG)
theorem Rok.comp {C:Rc} {B:List Str} {X:Cx} {sc scope:Scope} {own:List Nat} (R:Rok C B X sc) (hh:hat B=false) (h:jN' C.N sc scope own=true) (s0:Shared) (H0:Hp) (ex:List Addr):Rok C ("~" :: B) (X.comp scope s0 H0 ex) scope:=by
 refine⟨R.hN,R.nd,R.hK,PassesOwn.never,fun _=>R.calm hh,R.hu,R.gd,fun x e=>lookup_relabel_local e,fun x e=>⟨?_,?_⟩,fun x e=>?_,fun x e=>?_,fun x sp e _ ht=>?_,fun x hx=>?_,R.mrk,R.cls,(fun z=>by rw[dP']at z;cases z),(fun z=>by rw[dP']at z;cases z),(fun z=>by rw[dP']at z;cases z)⟩
 .obtain⟨k',e1,e2⟩:=bu' (env:=X.env) e
  rcases e2 with rfl|⟨q,_⟩
  .exact e1
  .cases q
 .exact W.cellsFrom_some _ _ _ (.inl e)
 .obtain⟨k',e1,e2⟩:=bu' (env:=X.env) e
  rcases e2 with rfl|⟨_,rfl⟩
  .exact .inr e1
  .exact .inl e1
 .obtain⟨k',e1,e2⟩:=bu' (env:=X.env) e
  rcases e2 with rfl|⟨q,_⟩
  .exact e1
  .cases q
 .have hb:sQ' x∉B:=fun z=>ht dP' (aB _ z)
  obtain⟨f,fd,ps,k,CX,h1,h2,h3,h4,h5,h6,_⟩:=R.fn x sp e hh fun _=>hb
  rcases h6 with rfl|⟨_,z⟩
  .exact⟨f,fd,ps,k,CX0,h1,h2,h3,h4,h5,.inl rfl,pr'⟩
  .exact absurd z hb
 .rcases ax.mp hx with rfl|hx
  .exact R.mrk.1
  .exact R.blt x hx
mutual
theorem i8' (C:Rc) (own:List Nat):∀(t:Ct),fO' own t=true->∀(x:V) (σ:L2.St) (H:Hp) (Q Q':L2.St->Hp->Prop),tG C t x σ H Q->(∀σ2 H2,Q σ2 H2->Ext own σ σ2->Q' σ2 H2)->tG C t x σ H Q'
 | .name i,h,x,σ,H,Q,Q',q,m=>by
  obtain⟨q1,q2⟩:=kD' (of_decide_eq_true (show decide (i∈own)=true from h)) x σ H Q q
  exact m _ _ q1 q2
 | .tup ts,h,x,σ,H,Q,Q',q,m=>by
  replace h:lp' own ts=true:=h
  obtain⟨a,xs,e,hs,hl,q⟩:=q
  exact⟨a,xs,e,hs,hl,hy' C own ts h xs σ H Q Q' q m⟩
 | .sub _ _,h,_,_,_,_,_,_,_=>ap' h
theorem hy' (C:Rc) (own:List Nat):∀(ts:Cts),lp' own ts=true->∀(xs:List V) (σ:L2.St) (H:Hp) (Q Q':L2.St->Hp->Prop),tGs C ts xs σ H Q->(∀σ2 H2,Q σ2 H2->Ext own σ σ2->Q' σ2 H2)->tGs C ts xs σ H Q'
 | .nil,h,xs,σ,H,Q,Q',q,m=>by
  replace q:xs=[]/\Q σ H:=q
  exact And.intro q.1 (m _ _ q.2 Ext.refl)
 | .cons t r,h,xs,σ,H,Q,Q',q,m=>by
  replace h:=hh' (show(fO' own t&&lp' own r)=true from h)
  replace q:∃v vr,xs=v :: vr/\tG C t v σ H fun σ' H'=>tGs C r vr σ' H' Q:=q
  obtain⟨v,vr,e,q⟩:=q
  show ∃v vr,xs=v :: vr/\tG C t v σ H fun σ' H'=>tGs C r vr σ' H' Q'
  exact⟨v,vr,e,i8' C own t h.1 v σ H _ _ q fun σ2 H2 q2 x2=>hy' C own r h.2 vr σ2 H2 _ _ q2 fun σ3 H3 q3 x3=>m _ _ q3 (x2.trans x3)⟩
end
theorem ca' {C:Rc} {own:List Nat} {t:Ct} (h:fO' own t=true):sN' own (tG C t):=fun x σ H Q q=>i8' C own t h x σ H Q _ q fun _ _ q x=>⟨q,x⟩
theorem ds':∀{ts:Cts} {es:List Expr} {N B:List Str} {sc:Scope} {env:Env},mTs N B sc ts es=true->(assignEach es env).length=nK' ts/\(assignEach es env).findIdx? (·.1)=none
 | .nil,es,N,B,sc,env,h=>by
  refine lB' h fun e0 g=>?_
  clear h
  subst e0
  revert g
  intro h
  exact⟨rfl,rfl⟩
 | .cons t r,es,N,B,sc,env,h=>by
  refine nM' h fun x xs e0 g=>?_
  clear h
  subst e0
  revert g
  intro h
  simp only[ai]at h
  obtain⟨h1,h2⟩:=ds' (env:=env) h.2
  have e:assignEach (x :: xs) env=(false,assign x env) :: assignEach xs env:=by
   have hs:=h.1.2
   cases x<;>first|rfl|cases hs
  rw[e]
  refine⟨by rw[aE,h1];rfl,?_⟩
  rw[List.findIdx?_cons,h2]
  rfl
theorem iv' {x:Expr} {xs:List Expr} {env:Env} (hs:aC' x=true):(assignEach (x :: xs) env).map (·.2)=assign x env :: (assignEach xs env).map (·.2):=by
 cases x<;>first|rfl|cases hs
theorem qQ' {o i:Expr} {pos:Pos} {env:Env} (h:eD' i=true) (v:Value):assign (.Subscript o i pos) env v=(do
   let ov <- holding [v] (eval o env)
   let iv <- holding [v,ov] (eval i env)
   standAt pos
   holding [v,ov,iv] (setItem ov iv v)
   release [v,ov,iv] []):=by
 cases i<;>first|rfl|cases h
def nP' (C:Rc) (X:Cx) (e:Expr):Ce->Prop
 | .comp elt own t it q r=>∃tg iter ifs nx scope pos,CompIn X e scope tg iter ifs nx (tG C t) (tQo C q) (tR C r (eW' (tE C elt))) own/\PI X tg iter (tI C it)/\
   eval e X.env=comprehension e scope X.env pos (newList []) false (eval iter X.env)/\(∀u,evalThenUse e X.env u=(do let _ <- comprehension e scope X.env pos (newList []) false (eval iter X.env) (some u)))/\
   ∀y py line,∃b,swapsWith e (some (.Name y py)) line X.env=pure b
 |_=>True
theorem nQ' (P w it D env ee tg iter ifs tg2 iter2 ifs2 scope pos):(model P w).den (.compLoop (.ListComp ee [⟨tg,iter,ifs,0⟩,⟨tg2,iter2,ifs2,0⟩] scope pos) 0 it (.ref D) env)=(a6' (.ListComp ee [⟨tg,iter,ifs,0⟩,⟨tg2,iter2,ifs2,0⟩] scope pos) 0 tg iter ifs (a1' (.ListComp ee [⟨tg,iter,ifs,0⟩,⟨tg2,iter2,ifs2,0⟩] scope pos) 0 iter2 (.ref D) env) it (.ref D) env).onRaise (fun x=>do noteFrame x env;theTreesLotGoes x):=by
 show(compTurn _ _ _ _ _).onRaise _=_
 congr 1
 unfold a6' a1'
 simp only[bind_assoc,pure_bind]
 rfl
def uo' (ke ve:Expr) (D:Addr) (env:Env):Sem Unit:=do
 let kv <- eval ke env
 let vv <- holding [kv] (eval ve env)
 match Value.ref D with
 | .ref d=>do
  standAt { ke.pos with endLine:=ve.pos.endLine,endCol:=ve.pos.endCol }
  holding [kv,vv] (dictSet d kv vv)
 |_=>unsupported "internal:dictcomp"
theorem AG' {N B:List Str} {sc:Scope} {elt:Ce} {own:List Nat} {t:Ct} {it:Ci} {q:Cqo} {e:Expr} (h:mE N B sc (.comp elt own t it q .nil) e=true):∃ee tg iter ifs scope pos,e=.ListComp ee [⟨tg,iter,ifs,0⟩] scope pos/\
  hat B=false/\jN' N sc scope own=true/\mE N ("~" :: B) scope elt ee=true/\fO' own t=true/\mI N B sc it iter=true/\gD' it tg=true/\aM' iter=true/\mT N ("~" :: B) scope t tg=true/\mQo N ("~" :: B) scope q ifs=true:=by
 refine yb' h fun ee tg iter ifs a scope w1 e0 g=>?_
 clear h
 subst e0
 revert g
 intro h
 simp only[ai,decide_eq_true_eq,bj]at h
 obtain⟨⟨⟨⟨⟨⟨⟨⟨⟨hh,hsc⟩,helt⟩,hown⟩,rfl⟩,h1⟩,h2⟩,h3⟩,h4⟩,h5⟩:=h
 exact⟨_,_,_,_,_,_,rfl,hh,hsc,helt,hown,h1,h2,h3,h4,h5⟩
theorem AH' {N B:List Str} {sc:Scope} {elt:Ce} {own:List Nat} {t:Ct} {it:Ci} {q:Cqo} {ws:List Nat} {t2:Ct} {it2:Ci} {q2:Cqo} {e:Expr} (h:mE N B sc (.comp elt own t it q (.cons ws t2 it2 q2 .nil)) e=true):
  ∃ee tg iter ifs tg2 iter2 ifs2 scope pos,e=.ListComp ee [⟨tg,iter,ifs,0⟩,⟨tg2,iter2,ifs2,0⟩] scope pos/\
  hat B=false/\jN' N sc scope own=true/\mE N ("~" :: B) scope elt ee=true/\fO' own t=true/\mI N B sc it iter=true/\gD' it tg=true/\aM' iter=true/\mT N ("~" :: B) scope t tg=true/\mQo N ("~" :: B) scope q ifs=true/\
  mI N ("~" :: B) scope it2 iter2=true/\gD' it2 tg2=true/\aM' iter2=true/\mT N ("~" :: B) scope t2 tg2=true/\mQo N ("~" :: B) scope q2 ifs2=true/\fO' ws t2=true/\∀j∈ws,j∈own:=by
 refine yc' h fun ee tg iter ifs a tg2 iter2 ifs2 a2 scope w1 e0 g=>?_
 clear h
 subst e0
 revert g
 intro h
 simp only[ai,decide_eq_true_eq,cD,bj]at h
 obtain⟨⟨⟨⟨⟨⟨⟨⟨⟨⟨⟨⟨⟨⟨⟨⟨⟨hh,hsc⟩,helt⟩,hown⟩,rfl⟩,h1⟩,h2⟩,h3⟩,h4⟩,h5⟩,rfl⟩,g1⟩,g2⟩,g3⟩,g4⟩,g5⟩,g6⟩,g7⟩:=h
 exact⟨_,_,_,_,_,_,_,_,_,rfl,hh,hsc,helt,hown,h1,h2,h3,h4,h5,g1,g2,g3,g4,g5,g6,g7⟩
theorem lE' (P w it D env ee tg iter ifs tg2 iter2 ifs2 tg3 iter3 ifs3 scope pos):(model P w).den (.compLoop (.ListComp ee [⟨tg,iter,ifs,0⟩,⟨tg2,iter2,ifs2,0⟩,⟨tg3,iter3,ifs3,0⟩] scope pos) 0 it (.ref D) env)=(a6' (.ListComp ee [⟨tg,iter,ifs,0⟩,⟨tg2,iter2,ifs2,0⟩,⟨tg3,iter3,ifs3,0⟩] scope pos) 0 tg iter ifs (a1' (.ListComp ee [⟨tg,iter,ifs,0⟩,⟨tg2,iter2,ifs2,0⟩,⟨tg3,iter3,ifs3,0⟩] scope pos) 0 iter2 (.ref D) env) it (.ref D) env).onRaise (fun x=>do noteFrame x env;theTreesLotGoes x):=by
 show(compTurn _ _ _ _ _).onRaise _=_
 congr 1
 unfold a6' a1'
 simp only[bind_assoc,pure_bind]
 rfl
theorem jT' (P w it D env ee tg iter ifs tg2 iter2 ifs2 tg3 iter3 ifs3 scope pos):(model P w).den (.compLoop (.ListComp ee [⟨tg,iter,ifs,0⟩,⟨tg2,iter2,ifs2,0⟩,⟨tg3,iter3,ifs3,0⟩] scope pos) 1 it (.ref D) env)=(a6' (.ListComp ee [⟨tg,iter,ifs,0⟩,⟨tg2,iter2,ifs2,0⟩,⟨tg3,iter3,ifs3,0⟩] scope pos) 1 tg2 iter2 ifs2 (a1' (.ListComp ee [⟨tg,iter,ifs,0⟩,⟨tg2,iter2,ifs2,0⟩,⟨tg3,iter3,ifs3,0⟩] scope pos) 1 iter3 (.ref D) env) it (.ref D) env).onRaise (fun x=>do noteFrame x env;theTreesLotGoes x):=by
 show(compTurn _ _ _ _ _).onRaise _=_
 congr 1
 unfold a6' a1'
 simp only[bind_assoc,pure_bind]
 rfl
theorem AI' {N B:List Str} {sc:Scope} {elt:Ce} {own:List Nat} {t:Ct} {it:Ci} {q:Cqo} {ws:List Nat} {t2:Ct} {it2:Ci} {q2:Cqo} {ws3:List Nat} {t3:Ct} {it3:Ci} {q3:Cqo} {e:Expr} (h:mE N B sc (.comp elt own t it q (.cons ws t2 it2 q2 (.cons ws3 t3 it3 q3 .nil))) e=true):
  ∃ee tg iter ifs tg2 iter2 ifs2 tg3 iter3 ifs3 scope pos,e=.ListComp ee [⟨tg,iter,ifs,0⟩,⟨tg2,iter2,ifs2,0⟩,⟨tg3,iter3,ifs3,0⟩] scope pos/\
  hat B=false/\jN' N sc scope own=true/\mE N ("~" :: B) scope elt ee=true/\fO' own t=true/\mI N B sc it iter=true/\gD' it tg=true/\aM' iter=true/\mT N ("~" :: B) scope t tg=true/\mQo N ("~" :: B) scope q ifs=true/\
  (mI N ("~" :: B) scope it2 iter2=true/\gD' it2 tg2=true/\aM' iter2=true/\mT N ("~" :: B) scope t2 tg2=true/\mQo N ("~" :: B) scope q2 ifs2=true/\fO' ws t2=true/\∀j∈ws,j∈own)/\
  mI N ("~" :: B) scope it3 iter3=true/\gD' it3 tg3=true/\aM' iter3=true/\mT N ("~" :: B) scope t3 tg3=true/\mQo N ("~" :: B) scope q3 ifs3=true/\fO' ws3 t3=true/\∀j∈ws3,j∈ws:=by
 refine yd' h fun ee tg iter ifs a tg2 iter2 ifs2 a2 tg3 iter3 ifs3 a3 scope w1 e0 g=>?_
 clear h
 subst e0
 revert g
 intro h
 simp only[ai,decide_eq_true_eq,cD,bj]at h
 obtain⟨⟨⟨⟨⟨⟨⟨⟨⟨⟨⟨⟨⟨⟨⟨⟨⟨⟨⟨⟨⟨⟨⟨⟨⟨hh,hsc⟩,helt⟩,hown⟩,rfl⟩,h1⟩,h2⟩,h3⟩,h4⟩,h5⟩,rfl⟩,g1⟩,g2⟩,g3⟩,g4⟩,g5⟩,g6⟩,g7⟩,rfl⟩,k1⟩,k2⟩,k3⟩,k4⟩,k5⟩,k6⟩,k7⟩:=h
 exact⟨_,_,_,_,_,_,_,_,_,_,_,_,rfl,hh,hsc,helt,hown,h1,h2,h3,h4,h5,⟨g1,g2,g3,g4,g5,g6,g7⟩,k1,k2,k3,k4,k5,k6,k7⟩
theorem AJ' {N B:List Str} {sc:Scope} {elt:Ce} {own:List Nat} {t:Ct} {it:Ci} {q:Cqo} {ws:List Nat} {t2:Ct} {it2:Ci} {q2:Cqo} {ws3:List Nat} {t3:Ct} {it3:Ci} {q3:Cqo} {ws4:List Nat} {t4:Ct} {it4:Ci} {q4:Cqo} {r4:Cc} {e:Expr} (h:mE N B sc (.comp elt own t it q (.cons ws t2 it2 q2 (.cons ws3 t3 it3 q3 (.cons ws4 t4 it4 q4 r4)))) e=true):False:=by
 exact ap' h
set_option maxHeartbeats 4000000
theorem lF' (P w it D env ee tg iter ifs tg2 iter2 ifs2 scope pos):(model P w).den (.compLoop (.SetComp ee [⟨tg,iter,ifs,0⟩,⟨tg2,iter2,ifs2,0⟩] scope pos) 0 it (.ref D) env)=(a6' (.SetComp ee [⟨tg,iter,ifs,0⟩,⟨tg2,iter2,ifs2,0⟩] scope pos) 0 tg iter ifs (a1' (.SetComp ee [⟨tg,iter,ifs,0⟩,⟨tg2,iter2,ifs2,0⟩] scope pos) 0 iter2 (.ref D) env) it (.ref D) env).onRaise (fun x=>do noteFrame x env;theTreesLotGoes x):=by
 show(compTurn _ _ _ _ _).onRaise _=_
 congr 1
 unfold a6' a1'
 simp only[bind_assoc,pure_bind]
 rfl
mutual
theorem sE0 {C:Rc}:∀(c:Ce) {B:List Str} {X:Cx} {sc:Scope} {e:Expr},Rok C B X sc->mE C.N B sc c e=true->PE X e (tE C c)/\nP' C X e c
 | .var i,B,X,sc,e,R,h=>by
  refine⟨?_,trivial⟩
  refine z3' h fun x w1 e0 g=>?_
  clear h
  subst e0
  revert g
  intro h
  simp only[ai]at h
  obtain⟨h1,h2,h3⟩:=bN' h.1
  rw[show tE C (.var i)=(wT' i) from rfl]
  exact o1' (by rw[R.hN];exact h1) (R.vis h.2) h2 h3
 | .int n,B,X,sc,e,R,h=>by
  refine⟨?_,trivial⟩
  refine AA' h fun m w1 w2 e0 g=>?_
  clear h
  subst e0
  revert g
  intro h
  cases of_decide_eq_true h
  rw[show tE C (.int n)=(tC (.int n)) from rfl]
  exact sT'
 | .bl n,B,X,sc,e,R,h=>by
  refine⟨?_,trivial⟩
  refine AB' h fun c w1 w2 e0 g=>?_
  clear h
  subst e0
  revert g
  intro h
  cases of_decide_eq_true h
  rw[show tE C (.bl n)=(tC (.bl n)) from rfl]
  exact xf'
 | .non,B,X,sc,e,R,h=>by
  refine⟨?_,trivial⟩
  refine AC' h fun w1 w2 e0 g=>?_
  clear h
  subst e0
  revert g
  intro h
  rw[show tE C .non=(tC .non) from rfl]
  exact sU'
 | .str n,B,X,sc,e,R,h=>by
  refine⟨?_,trivial⟩
  refine AD' h fun y w1 w2 e0 g=>?_
  clear h
  subst e0
  revert g
  intro h
  cases of_decide_eq_true h
  rw[show tE C (.str n)=(tC (.str n)) from rfl]
  exact sV'
 | .bin op a b,B,X,sc,e,R,h=>by
  refine⟨?_,trivial⟩
  refine AE' h fun ea op' eb w1 e0 g=>?_
  clear h
  subst e0
  revert g
  intro h
  simp only[ai,decide_eq_true_eq]at h
  obtain⟨⟨rfl,h1⟩,h2⟩:=h
  rw[show tE C (.bin op a b)=(tOp (g9' C.K op) (tE C a) (tE C b)) from rfl]
  rw[<- R.hK]
  exact xs' (ul' _) ((sE0 a R h1).1) ((sE0 b R h2).1)
 | .neg a,B,X,sc,e,R,h=>by
  refine⟨?_,trivial⟩
  refine AF' h fun ea w1 e0 g=>?_
  clear h
  subst e0
  revert g
  intro h
  rw[show tE C (.neg a)=(tUn (rU fun i=>.int (-i)) (tE C a)) from rfl]
  exact xt' tf' ((sE0 a R h).1)
 | .not a,B,X,sc,e,R,h=>by
  refine⟨?_,trivial⟩
  refine z4' h fun ea w1 e0 g=>?_
  clear h
  subst e0
  revert g
  intro h
  rw[show tE C (.not a)=(pY' (tE C a)) from rfl]
  exact s1' ((sE0 a R h).1)
 | .and a b,B,X,sc,e,R,h=>by
  refine⟨?_,trivial⟩
  replace h:=lq' h
  rcases h with⟨x,y,pos,rfl,h⟩|⟨x,y,z,r,pos,rfl,h⟩
  .simp only[ai]at h
   rw[show tE C (.and a b)=(m3' (tE C a) (tE C b)) from rfl]
   exact o6' ((sE0 a R h.1).1) (o5' ((sE0 b R h.2).1))
  .simp only[ai]at h
   rw[show tE C (.and a b)=(m3' (tE C a) (tE C b)) from rfl]
   exact o6' ((sE0 a R h.1).1) ((sE0 b R h.2).1)
 | .or a b,B,X,sc,e,R,h=>by
  refine⟨?_,trivial⟩
  replace h:=pm' h
  rcases h with⟨x,y,pos,rfl,h⟩|⟨x,y,z,r,pos,rfl,h⟩
  .simp only[ai]at h
   rw[show tE C (.or a b)=(wU' (tE C a) (tE C b)) from rfl]
   exact s0' ((sE0 a R h.1).1) (o5' ((sE0 b R h.2).1))
  .simp only[ai]at h
   rw[show tE C (.or a b)=(wU' (tE C a) (tE C b)) from rfl]
   exact s0' ((sE0 a R h.1).1) ((sE0 b R h.2).1)
 | .cmp op a b,B,X,sc,e,R,h=>by
  refine⟨?_,trivial⟩
  refine w6' h fun ea op' eb w1 e0 g=>?_
  clear h
  subst e0
  revert g
  intro h
  simp only[ai,decide_eq_true_eq]at h
  obtain⟨⟨⟨rfl,h1⟩,h2⟩,h3⟩:=h
  rw[show tE C (.cmp op a b)=(tOp (cD' C.K op) (tE C a) (tE C b)) from rfl]
  rw[<- R.hK]
  exact qa' (fP' R.hu _) ((sE0 a R h1).1) ((sE0 b R h2).1) (cF' h3)
 | .chn op1 op2 a b c,B,X,sc,e,R,h=>by
  refine⟨?_,trivial⟩
  refine ug' h fun ea o1 o2 eb ec w1 e0 g=>?_
  clear h
  subst e0
  revert g
  intro h
  simp only[ai,decide_eq_true_eq]at h
  obtain⟨⟨⟨⟨⟨rfl,rfl⟩,h1⟩,h2⟩,h3⟩,h4⟩:=h
  rw[show tE C (.chn op1 op2 a b c)=(ej' (cD' C.K op1) (cD' C.K op2) (tE C a) (tE C b) (tE C c)) from rfl]
  rw[<- R.hK]
  exact na' (fP' R.hu _) (fP' R.hu _) ((sE0 a R h1).1) ((sE0 b R h2).1) ((sE0 c R h3).1) (lC' h4)
 | .ife q a b,B,X,sc,e,R,h=>by
  refine⟨?_,trivial⟩
  refine x3' h fun eq ea eb w1 e0 g=>?_
  clear h
  subst e0
  revert g
  intro h
  simp only[ai]at h
  rw[show tE C (.ife q a b)=(tIf (tQ C q) (tE C a) (tE C b)) from rfl]
  exact m4' (sQ q R h.1.1).1 ((sE0 a R h.1.2).1) ((sE0 b R h.2).1)
 | .tup es,B,X,sc,e,R,h=>by
  refine⟨?_,trivial⟩
  refine uh' h fun xs w1 w2 e0 g=>?_
  clear h
  subst e0
  revert g
  intro h
  rw[show tE C (.tup es)=(xC' (tA C es)) from rfl]
  exact tm' (sA es R h)
 | .lst es,B,X,sc,e,R,h=>by
  refine⟨?_,trivial⟩
  refine x4' h fun xs w1 e0 g=>?_
  clear h
  subst e0
  revert g
  intro h
  rw[show tE C (.lst es)=(xD' (tA C es)) from rfl]
  exact tn' (sA es R h)
 | .idx a b,B,X,sc,e,R,h=>by
  refine⟨?_,trivial⟩
  refine ui' h fun ea eb w1 e0 g=>?_
  clear h
  subst e0
  revert g
  intro h
  simp only[ai]at h
  rw[show tE C (.idx a b)=(tOp (nI' C.K) (tE C a) (tE C b)) from rfl]
  rw[<- R.hK]
  exact xG' ixM ((sE0 a R h.1.1).1) ((sE0 b R h.1.2).1) (nN' h.2)
 | .cut a lo hi,B,X,sc,e,R,h=>by
  refine⟨?_,trivial⟩
  refine x5' h fun ea l h_ w1 w2 e0 g=>?_
  clear h
  subst e0
  revert g
  intro h
  simp only[ai]at h
  rw[show tE C (.cut a lo hi)=(tSl (rSl C.K) (tE C a) (tO C lo) (tO C hi)) from rfl]
  rw[<- R.hK]
  exact ni' yv' ((sE0 a R h.1.1).1) (sO lo R h.1.2) (sO hi R h.2)
 | .call f es,B,X,sc,e,R,h=>by
  refine⟨?_,trivial⟩
  refine uj' h fun x w1 e r pos e0 g=>?_
  clear h
  subst e0
  revert g
  intro h
  simp only[ai,decide_eq_true_eq,bj]at h
  obtain⟨⟨⟨⟨⟨rfl,h1⟩,h2⟩,h3⟩,hh⟩,h6⟩:=h
  rw[show tE C (.call x es)=(fun σ H Q=>match C.fs x with|some sp=>nf' sp [] (C.xk σ) (tA C es) σ H Q|none=>False) from rfl]
  have ht:tld B=true->sQ' x∉B:=fun t m=>by rw[t,decide_eq_true m]at h6;cases h6
  cases hf:C.fs x with
  |none=>exact fun _ _ _ _ _ _ q=>q.elim
  |some sp=>
   obtain⟨f,fd,ps,k,CX,F,hr,hm,hk,hb,_,hx⟩:=R.fn x sp hf hh ht
   have hs:aC' e=true:=by
    cases es with
    |nil=>exact ap' h2
    |cons c r=>exact(hh' (hh' h2).1).2
   have hp:(backTo pos (starEach r X.env)).any (·.1)=false:=by
    have q:=gk' (env:=X.env) (pos:=pos) h2
    rw[am' hs]at q
    exact q
   exact nO' F hr (R.glb h1) hm hk hb .nil hx (sA es R h2) h3 (am' hs) hp
 | .blt f es,B,X,sc,e,R,h=>by
  refine⟨?_,trivial⟩
  refine uj' h fun x w1 e r pos e0 g=>?_
  clear h
  subst e0
  revert g
  intro h
  simp only[ai,decide_eq_true_eq,cc,bj]at h
  obtain⟨⟨⟨⟨rfl,h1⟩,h2⟩,h4⟩,h5⟩:=h
  have hcc:X.calm=true\/f=.isinstance:=h5.imp R.calm id
  rw[show tE C (.blt f es)=(tCB (d5' C.K f) (tA C es)) from rfl]
  have hs:aC' e=true:=by
   cases es with
   |nil=>exact ap' h2
   |cons c r=>exact(hh' (hh' h2).1).2
  have hp:(backTo pos (starEach r X.env)).any (·.1)=false:=by
   have q:=gk' (env:=X.env) (pos:=pos) h2
   rw[am' hs]at q
   exact q
  rw[<- R.hK]
  have hn:e6' f≠"__name__"/\(e6' f == ("__debug__":Str))=false:=by cases f<;>decide +kernel
  cases um' f with
  |fn id hv hc=>exact ng' (hc X hcc) (R.glb h1) (R.blt _ h4) hv (sA es R h2) hn.1 hn.2 (am' hs) hp
  |ty T hv hc=>exact kr' (hc X hcc) (R.glb h1) (R.blt _ h4) hv (sA es R h2) hn.1 hn.2 (am' hs) hp
 | .din neg a b,B,X,sc,e,R,h=>by
  refine⟨?_,trivial⟩
  refine w6' h fun ea op' eb w1 e0 g=>?_
  clear h
  subst e0
  revert g
  intro h
  simp only[ai,decide_eq_true_eq]at h
  obtain⟨⟨⟨rfl,h1⟩,h2⟩,h3⟩:=h
  rw[show tE C (.din neg a b)=(nJ' neg (tE C a) (tE C b)) from rfl]
  cases neg with
  |true=>exact o2' (g6' R.hu1 (sE0 a R h1).1 (sE0 b R h2).1) (cF' h3)
  |false=>exact o2' (pk' R.hu1 (sE0 a R h1).1 (sE0 b R h2).1) (cF' h3)
 | .dgt a b,B,X,sc,e,R,h=>by
  refine⟨?_,trivial⟩
  refine x7' h fun eo nm apos y pos e0 g=>?_
  clear h
  subst e0
  revert g
  intro h
  simp only[ai,decide_eq_true_eq]at h
  obtain⟨⟨⟨⟨⟨rfl,h1⟩,h2⟩,h3⟩,h4⟩,h5⟩:=h
  rw[show tE C (.dgt a b)=(lj' (tE C a) (tE C b)) from rfl]
  have e2:=am' (env:=X.env) (es:=[]) h5
  refine nH' R.hu1 (sE0 a R h1).1 (sE0 b R h4).1 ⟨iu' h2,?_,h3,?_⟩
  .rw[e2];rfl
  .rw[e2];rfl
 | .met m o es,B,X,sc,e,R,h=>by
  refine⟨?_,trivial⟩
  refine x6' h fun eo nm apos args pos e0 g=>?_
  clear h
  subst e0
  revert g
  intro h
  simp only[ai,decide_eq_true_eq]at h
  obtain⟨⟨⟨⟨⟨rfl,h1⟩,h2⟩,h3⟩,h4⟩,h5⟩:=h
  rw[show tE C (.met m o es)=(tBM C.K (ha' m) (lm' C.K m) (tE C o) (tA C es)) from rfl]
  rw[<- R.hK]
  obtain⟨id,M⟩:=un' m
  cases args with
  |nil=>
   cases es with
   |cons c r=>exact ap' h4
   |nil=>
    exact tv' M.pa M.slot M.ty (M.h X) ((sE0 o R h1).1) (iu' h2) h3
  |cons a r=>
   have hs:aC' a=true:=by
    cases es with
    |nil=>exact ap' h4
    |cons c r=>exact(hh' (hh' h4).1).2
   have hq:=gk' (env:=X.env) (pos:=pos) h4
   have hp:(backTo pos (starEach r X.env)).any (·.1)=false:=by
    rw[am' hs]at hq
    exact hq
   refine xI' M.pa M.slot M.ty (M.h X) ((sE0 o R h1).1) (sA es R h4) (iu' h2) ?_ h3 (am' hs) hp
   have e1:(backTo pos (starEach (a :: r) X.env)).all (fun x=>!x.1)=true:=by
    rw[cD]
    intro x hx
    rw[List.any_eq_false]at hq
    simpa using hq x hx
   rw[e1]
   show(true&&true&&decide ((a :: r).length+0+0<30))=true
   simp only[Bool.true_and,decide_eq_true_eq]
   omega
 | .stp a b,B,X,sc,e,R,h=>by
  refine⟨?_,trivial⟩
  refine ya' h fun ea eb w1 w2 e0 g=>?_
  clear h
  subst e0
  revert g
  intro h
  simp only[ai]at h
  rw[show tE C (.stp a b)=(x1' C.K (tE C a) (kt' (tE C b))) from rfl]
  rw[<- R.hK]
  exact ud' (sE0 a R h.1).1 (ku' (sE0 b R h.2).1)
 | .ssc elt own t it q,B,X,sc,e,R,h=>by
  refine⟨?_,trivial⟩
  refine x9' h fun n1 w1 ee tg iter ifs a scope w2 w3 e0 g=>?_
  clear h
  subst e0
  revert g
  intro h
  simp only[ai,decide_eq_true_eq,bj]at h
  obtain⟨⟨⟨⟨⟨⟨⟨⟨⟨⟨⟨⟨rfl,g1⟩,g2⟩,hh⟩,hsc⟩,helt⟩,hown⟩,rfl⟩,h1⟩,h2⟩,h3⟩,h4⟩,h5⟩:=h
  rw[show tE C (.ssc elt own t it q)=(xZ' own (tI C it) (tG C t) (tQo C q) (dK' (tE C elt))) from rfl]
  refine ub' (nx:=fun D env=>do let v <- eval ee env;standAt ee.pos;let _ <- call (.builtin "set.add") [.ref D,v]) (R.glb g1) (R.blt _ g2) ⟨R.compSc hsc,?_,⟨[],rfl⟩,aY' h3,R.calm hh,fun _ _ _=>⟨rfl,rfl⟩,fun _ _ _ _=>⟨rfl,rfl⟩,fun _ _ _ _ _=>rfl,fun _ _ _ _ _=>rfl,ca' hown,?_⟩ (sI it R h1 h2) rfl rfl
  .rw[R.hN];exact(c3' hsc).2.2.2.2
  .intro s0 H0 ex D
   have R':=R.comp hh hsc s0 H0 ex
   exact⟨sG t R' h4,sQo q R' h5,[],by simp,ll' rfl (sE0 elt R' helt).1⟩
 | .comp elt own t it q .nil,B,X,sc,e,R,h=>by
  have D:nP' C X e (.comp elt own t it q .nil):=by
   obtain⟨ee,tg,iter,ifs,scope,pos,rfl,hh,hsc,helt,hown,h1,h2,h3,h4,h5⟩:=AG' h
   refine⟨tg,iter,ifs,fun D env=>do let _ <- call (.builtin "list.append") [.ref D,<- eval ee env],scope,_,⟨R.compSc hsc,?_,⟨[],rfl⟩,aY' h3,R.calm hh,fun _ _ _=>⟨rfl,rfl⟩,fun _ _ _ _=>⟨rfl,rfl⟩,fun _ _ _ _ _=>rfl,fun _ _ _ _ _=>rfl,ca' hown,?_⟩,sI it R h1 h2,rfl,fun _=>rfl,fun _ _ _=>⟨_,rfl⟩⟩
   .rw[R.hN];exact(c3' hsc).2.2.2.2
   .intro s0 H0 ex D
    have R':=R.comp hh hsc s0 H0 ex
    refine⟨sG t R' h4,sQo q R' h5,[],by simp,?_⟩
    exact f4' rfl (sE0 elt R' helt).1
  refine⟨?_,D⟩
  obtain⟨tg,iter,ifs,nx,scope,pos,D,hi,he,_⟩:=D
  rw[show tE C (.comp elt own t it q .nil)=(ie' own (tI C it) (tG C t) (tQo C q) (tR C .nil (eW' (tE C elt)))) from rfl]
  exact if' D hi he
 | .comp elt own t it q (.cons ws t2 it2 q2 .nil),B,X,sc,e,R,h=>by
  have D:nP' C X e (.comp elt own t it q (.cons ws t2 it2 q2 .nil)):=by
   obtain⟨ee,tg,iter,ifs,tg2,iter2,ifs2,scope,pos,rfl,hh,hsc,helt,hown,h1,h2,h3,h4,h5,g1,g2,g3,g4,g5,g6,g7⟩:=AH' h
   refine⟨tg,iter,ifs,fun D env=>a1' (.ListComp ee [⟨tg,iter,ifs,0⟩,⟨tg2,iter2,ifs2,0⟩] scope pos) 0 iter2 (.ref D) env,scope,_,⟨R.compSc hsc,?_,⟨_,rfl⟩,aY' h3,R.calm hh,fun _ _ _=>⟨rfl,rfl⟩,fun _ _ _ _=>⟨rfl,rfl⟩,fun _ _ _ _ _=>nQ' _ _ _ _ _ _ _ _ _ _ _ _ _ _,fun _ _ _ _ _=>rfl,ca' hown,?_⟩,sI it R h1 h2,rfl,fun _=>rfl,fun _ _ _=>⟨_,rfl⟩⟩
   .rw[R.hN];exact(c3' hsc).2.2.2.2
   .intro s0 H0 ex D
    have R':=R.comp hh hsc s0 H0 ex
    refine⟨sG t R' h4,sQo q R' h5,ws,g7,?_⟩
    exact eA' (nx:=do let _ <- call (.builtin "list.append") [.ref D,<- eval ee (X.comp scope s0 H0 ex).env]) rfl (R.calm hh) (fun _=>rfl) (fun _=>rfl) (fun _=>rfl) (fun _=>rfl) (fun _=>rfl) (fun _=>rfl) ⟨_,rfl,rfl⟩ (aY' g3) (sI it2 R' g1 g2) (sG t2 R' g4) (ca' g6) (sQo q2 R' g5) (f4' rfl (sE0 elt R' helt).1) (by simp) dE'
  refine⟨?_,D⟩
  obtain⟨tg,iter,ifs,nx,scope,pos,D,hi,he,_⟩:=D
  rw[show tE C (.comp elt own t it q (.cons ws t2 it2 q2 .nil))=(ie' own (tI C it) (tG C t) (tQo C q) (tR C (.cons ws t2 it2 q2 .nil) (eW' (tE C elt)))) from rfl]
  exact if' D hi he
 | .comp elt own t it q (.cons ws t2 it2 q2 (.cons ws3 t3 it3 q3 .nil)),B,X,sc,e,R,h=>by
  have D:nP' C X e (.comp elt own t it q (.cons ws t2 it2 q2 (.cons ws3 t3 it3 q3 .nil))):=by
   obtain⟨ee,tg,iter,ifs,tg2,iter2,ifs2,tg3,iter3,ifs3,scope,pos,rfl,hh,hsc,helt,hown,h1,h2,h3,h4,h5,⟨g1,g2,g3,g4,g5,g6,g7⟩,k1,k2,k3,k4,k5,k6,k7⟩:=AI' h
   refine⟨tg,iter,ifs,fun D env=>a1' (.ListComp ee [⟨tg,iter,ifs,0⟩,⟨tg2,iter2,ifs2,0⟩,⟨tg3,iter3,ifs3,0⟩] scope pos) 0 iter2 (.ref D) env,scope,_,⟨R.compSc hsc,?_,⟨_,rfl⟩,aY' h3,R.calm hh,fun _ _ _=>⟨rfl,rfl⟩,fun _ _ _ _=>⟨rfl,rfl⟩,fun _ _ _ _ _=>lE' _ _ _ _ _ _ _ _ _ _ _ _ _ _ _ _ _,fun _ _ _ _ _=>rfl,ca' hown,?_⟩,sI it R h1 h2,rfl,fun _=>rfl,fun _ _ _=>⟨_,rfl⟩⟩
   .rw[R.hN];exact(c3' hsc).2.2.2.2
   .intro s0 H0 ex D
    have R':=R.comp hh hsc s0 H0 ex
    refine⟨sG t R' h4,sQo q R' h5,ws,g7,?_⟩
    exact eA' (d:=0) (nx:=a1' (.ListComp ee [⟨tg,iter,ifs,0⟩,⟨tg2,iter2,ifs2,0⟩,⟨tg3,iter3,ifs3,0⟩] scope pos) 1 iter3 (.ref D) (X.comp scope s0 H0 ex).env) rfl (R.calm hh) (fun _=>rfl) (fun _=>rfl) (fun _=>rfl) (fun _=>rfl) (fun _=>jT' _ _ _ _ _ _ _ _ _ _ _ _ _ _ _ _ _) (fun _=>rfl) ⟨_,rfl,rfl⟩ (aY' g3) (sI it2 R' g1 g2) (sG t2 R' g4) (ca' g6) (sQo q2 R' g5)
     (eA' (d:=1) (nx:=do let _ <- call (.builtin "list.append") [.ref D,<- eval ee (X.comp scope s0 H0 ex).env]) rfl (R.calm hh) (fun _=>rfl) (fun _=>rfl) (fun _=>rfl) (fun _=>rfl) (fun _=>rfl) (fun _=>rfl) ⟨_,rfl,rfl⟩ (aY' k3) (sI it3 R' k1 k2) (sG t3 R' k4) (ca' k6) (sQo q3 R' k5) (f4' rfl (sE0 elt R' helt).1) (by simp) dE') k7 dE'
  refine⟨?_,D⟩
  obtain⟨tg,iter,ifs,nx,scope,pos,D,hi,he,_⟩:=D
  rw[show tE C (.comp elt own t it q (.cons ws t2 it2 q2 (.cons ws3 t3 it3 q3 .nil)))=(ie' own (tI C it) (tG C t) (tQo C q) (tR C (.cons ws t2 it2 q2 (.cons ws3 t3 it3 q3 .nil)) (eW' (tE C elt)))) from rfl]
  exact if' D hi he
 | .comp elt own t it q (.cons ws t2 it2 q2 (.cons _ _ _ _ (.cons _ _ _ _ _))),B,X,sc,e,R,h=>(AJ' h).elim
termination_by structural c=>c
theorem sA {C:Rc}:∀(es:Ces) {B:List Str} {X:Cx} {sc:Scope} {xs:List Expr},Rok C B X sc->mA C.N B sc es xs=true->PA X xs (tA C es)
 | .nil,B,X,sc,xs,R,h=>by
  refine lB' h fun e0 g=>?_
  clear h
  subst e0
  revert g
  intro h
  rw[show tA C .nil=(gE') from rfl]
  exact eM'
 | .cons e r,B,X,sc,xs,R,h=>by
  refine nM' h fun x xs e0 g=>?_
  clear h
  subst e0
  revert g
  intro h
  simp only[ai]at h
  rw[show tA C (.cons e r)=(bP' (tE C e) (tA C r)) from rfl]
  exact b5' ((sE0 e R h.1.1).1) (sA r R h.2) (am' h.1.2)
termination_by structural c=>c
theorem sQ {C:Rc}:∀(q:Cq) {B:List Str} {X:Cx} {sc:Scope} {e:Expr},Rok C B X sc->mQ C.N B sc q e=true->PT X e (tQ C q)/\((∃op vs pos,e=.BoolOp op vs pos)->PW X e (tQ C q))
 | .val c,B,X,sc,e,R,h=>by
  replace h:=hh' h
  refine⟨?_,fun⟨op,vs,pos,z⟩=>?_⟩
  .rw[show tQ C (.val c)=(fun σ H Q=>tE C c σ H fun x H'=>∃k,tj' C.K x H' k/\Q k H') from rfl]
   rw[<- R.hK]
   exact nc' (sE0 c R h.1).1 (lD' h.2)
  .subst z;exact ap' h.2
 | .din neg a b,B,X,sc,e,R,h=>by
  refine w6' h fun ea op' eb w1 e0 g=>?_
  clear h
  subst e0
  revert g
  intro h
  simp only[ai,decide_eq_true_eq]at h
  obtain⟨⟨⟨rfl,h1⟩,h2⟩,h3⟩:=h
  rw[show tQ C (.din neg a b)=(ft' (nJ' neg (tE C a) (tE C b))) from rfl]
  cases neg with
  |true=>exact⟨o3' (g6' R.hu1 (sE0 a R h1).1 (sE0 b R h2).1) (cF' h3),fun⟨op,vs,pos,z⟩=>by cases z⟩
  |false=>exact⟨o3' (pk' R.hu1 (sE0 a R h1).1 (sE0 b R h2).1) (cF' h3),fun⟨op,vs,pos,z⟩=>by cases z⟩
 | .not q,B,X,sc,e,R,h=>by
  refine z4' h fun y w1 e0 g=>?_
  clear h
  subst e0
  revert g
  intro h
  rw[show tQ C (.not q)=(xg' (tQ C q)) from rfl]
  exact⟨sZ' (sQ q R h).1,fun⟨op,vs,pos,z⟩=>by cases z⟩
 | .and a b,B,X,sc,e,R,h=>by
  replace h:=lq' h
  rcases h with⟨x,y,pos,rfl,h⟩|⟨x,y,z,r,pos,rfl,h⟩
  .simp only[ai]at h
   rw[show tQ C (.and a b)=(sW' (tQ C a) (tQ C b)) from rfl]
   have w:PW X (.BoolOp .And [x,y] pos) (sW' (tQ C a) (tQ C b)):=o4' (sQ a R h.1).1 (pX' (sQ b R h.2).1)
   exact⟨w.pt,fun _=>w⟩
  .simp only[ai]at h
   rw[show tQ C (.and a b)=(sW' (tQ C a) (tQ C b)) from rfl]
   have w:=o4' (sQ a R h.1).1 ((sQ b R h.2).2 ⟨_,_,_,rfl⟩)
   exact⟨w.pt,fun _=>w⟩
 | .or a b,B,X,sc,e,R,h=>by
  replace h:=pm' h
  rcases h with⟨x,y,pos,rfl,h⟩|⟨x,y,z,r,pos,rfl,h⟩
  .simp only[ai]at h
   rw[show tQ C (.or a b)=(tOr (tQ C a) (tQ C b)) from rfl]
   have w:PW X (.BoolOp .Or [x,y] pos) (tOr (tQ C a) (tQ C b)):=sY' (sQ a R h.1).1 (sX' (sQ b R h.2).1)
   exact⟨w.pt,fun _=>w⟩
  .simp only[ai]at h
   rw[show tQ C (.or a b)=(tOr (tQ C a) (tQ C b)) from rfl]
   have w:=sY' (sQ a R h.1).1 ((sQ b R h.2).2 ⟨_,_,_,rfl⟩)
   exact⟨w.pt,fun _=>w⟩
 | .cmp op a b,B,X,sc,e,R,h=>by
  refine w6' h fun ea op' eb w1 e0 g=>?_
  clear h
  subst e0
  revert g
  intro h
  simp only[ai,decide_eq_true_eq]at h
  obtain⟨⟨⟨rfl,h1⟩,h2⟩,h3⟩:=h
  rw[show tQ C (.cmp op a b)=(ft' (tOp (cD' C.K op) (tE C a) (tE C b))) from rfl]
  rw[<- R.hK]
  exact⟨qb' (fP' R.hu _) (sE0 a R h1).1 (sE0 b R h2).1 (cF' h3),fun⟨op,vs,pos,z⟩=>by cases z⟩
 | .chn op1 op2 a b c,B,X,sc,e,R,h=>by
  refine ug' h fun ea o1 o2 eb ec w1 e0 g=>?_
  clear h
  subst e0
  revert g
  intro h
  simp only[ai,decide_eq_true_eq]at h
  obtain⟨⟨⟨⟨⟨rfl,rfl⟩,h1⟩,h2⟩,h3⟩,h4⟩:=h
  rw[show tQ C (.chn op1 op2 a b c)=(ft' (ej' (cD' C.K op1) (cD' C.K op2) (tE C a) (tE C b) (tE C c))) from rfl]
  rw[<- R.hK]
  exact⟨nb' (fP' R.hu _) (fP' R.hu _) (sE0 a R h1).1 (sE0 b R h2).1 (sE0 c R h3).1 (lC' h4),fun⟨op,vs,pos,z⟩=>by cases z⟩
termination_by structural c=>c
theorem sQo {C:Rc}:∀(q:Cqo) {B:List Str} {X:Cx} {sc:Scope} {es:List Expr},Rok C B X sc->mQo C.N B sc q es=true->PTs X es (tQo C q)
 | .none,B,X,sc,es,R,h=>by
  refine lB' h fun e0 g=>?_
  clear h
  subst e0
  revert g
  intro h
  rw[show tQo C .none=(fun _ H Q=>Q true H) from rfl];exact ql'
 | .some q,B,X,sc,es,R,h=>by
  refine ye' h fun e e0 g=>?_
  clear h
  subst e0
  revert g
  intro h
  rw[show tQo C (.some q)=(tQ C q) from rfl];exact qm' (sQ q R h).1
termination_by structural c=>c
theorem sO {C:Rc}:∀(o:Co) {B:List Str} {X:Cx} {sc:Scope} {e:Option Expr},Rok C B X sc->mO C.N B sc o e=true->PO X e (tO C o)
 | .none,B,X,sc,e,R,h=>by
  refine yf' h fun e0 g=>?_
  clear h
  subst e0
  revert g
  intro h
  rw[show tO C .none=(h8') from rfl];exact qe'
 | .some c,B,X,sc,e,R,h=>by
  refine yg' h fun y e0 g=>?_
  clear h
  subst e0
  revert g
  intro h
  rw[show tO C (.some c)=(kt' (tE C c)) from rfl];exact ku' (sE0 c R h).1
termination_by structural c=>c
theorem sI {C:Rc}:∀(i:Ci) {B:List Str} {X:Cx} {sc:Scope} {x tg:Expr},Rok C B X sc->mI C.N B sc i x=true->gD' i tg=true->PI X tg x (tI C i)
 | .val c,B,X,sc,x,tg,R,h,_=>by
  rw[show tI C (.val c)=(xK' C.K (tE C c)) from rfl]
  rw[<- R.hK]
  exact tA' (sE0 c R h).1
 | .range1 a,B,X,sc,x,tg,R,h,_=>by
  refine qM' h fun n w1 y w2 e0 g=>?_
  clear h
  subst e0
  revert g
  intro h
  simp only[ai,decide_eq_true_eq]at h
  obtain⟨⟨⟨⟨rfl,h1⟩,h2⟩,h3⟩,h4⟩:=h
  rw[show tI C (.range1 a)=(p6' (bP' (tE C a) gE')) from rfl]
  exact ki' (R.glb h1) (R.blt _ h2) (b5' (sE0 a R h3).1 eM' (am' h4)) (am' h4)
 | .range2 a b,B,X,sc,x,tg,R,h,_=>by
  refine yh' h fun n w1 y z w2 e0 g=>?_
  clear h
  subst e0
  revert g
  intro h
  simp only[ai,decide_eq_true_eq]at h
  obtain⟨⟨⟨⟨⟨⟨rfl,h1⟩,h2⟩,h3⟩,h4⟩,h5⟩,h6⟩:=h
  rw[show tI C (.range2 a b)=(p7' (bP' (tE C a) (bP' (tE C b) gE'))) from rfl]
  have e2:starEach [_] X.env=[(false,eval _ X.env)]:=am' (es:=[]) h6
  exact kj' (R.glb h1) (R.blt _ h2) (b5' (sE0 a R h3).1 (b5' (sE0 b R h5).1 eM' (am' h6)) (am' h4)) (by rw[am' h4,e2]) e2
 | .enum a,B,X,sc,x,tg,R,h,hz=>by
  refine qM' h fun n w1 y w2 e0 g=>?_
  clear h
  subst e0
  revert g
  intro h
  simp only[ai,decide_eq_true_eq]at h
  obtain⟨⟨⟨⟨rfl,h1⟩,h2⟩,h3⟩,h4⟩:=h
  rw[show tI C (.enum a)=(qo' C.K (tE C a)) from rfl]
  rw[<- R.hK]
  cases tg with
  |Tuple es k p=>exact qp' (R.glb h1) (R.blt _ h2) (b5' (sE0 a R h3).1 eM' (am' h4)) (am' h4)
  |_=>cases hz
 | .range3 a b c,B,X,sc,x,tg,R,h,_=>by
  refine yi' h fun n w1 y z u w2 e0 g=>?_
  clear h
  subst e0
  revert g
  intro h
  simp only[ai,decide_eq_true_eq]at h
  obtain⟨⟨⟨⟨⟨⟨⟨⟨rfl,h1⟩,h2⟩,h3⟩,h4⟩,h5⟩,h6⟩,h7⟩,h8⟩:=h
  rw[show tI C (.range3 a b c)=(qt' (bP' (tE C a) (bP' (tE C b) (bP' (tE C c) gE')))) from rfl]
  have e2:starEach [_] X.env=[(false,eval _ X.env)]:=am' (es:=[]) h8
  have e3:starEach [_,_] X.env=[(false,eval _ X.env),(false,eval _ X.env)]:=(am' (es:=[_]) h6).trans (by rw[e2])
  exact kP' (R.glb h1) (R.blt _ h2) (b5' (sE0 a R h3).1 (b5' (sE0 b R h5).1 (b5' (sE0 c R h7).1 eM' (am' h8)) (am' h6)) (am' h4)) (by rw[am' h4,e3]) e3
 | .rev a,B,X,sc,x,tg,R,h,_=>by
  refine qM' h fun n w1 y w2 e0 g=>?_
  clear h
  subst e0
  revert g
  intro h
  simp only[ai,decide_eq_true_eq]at h
  obtain⟨⟨⟨⟨rfl,h1⟩,h2⟩,h3⟩,h4⟩:=h
  rw[show tI C (.rev a)=(xO' C.K (tE C a)) from rfl]
  rw[<- R.hK]
  exact tO' (R.glb h1) (R.blt _ h2) (b5' (sE0 a R h3).1 eM' (am' h4)) (am' h4)
termination_by structural c=>c
theorem sG {C:Rc}:∀(t:Ct) {B:List Str} {X:Cx} {sc:Scope} {e:Expr},Rok C B X sc->mT C.N B sc t e=true->PG X e (tG C t)
 | .name i,B,X,sc,e,R,h=>by
  refine z3' h fun x w1 e0 g=>?_
  clear h
  subst e0
  revert g
  intro h
  simp only[ai]at h
  obtain⟨h1,h2,h3⟩:=bN' h.1
  obtain⟨h4,h5⟩:=R.locb h.2
  rw[show tG C (.name i)=(dA' i) from rfl]
  exact p3' (by rw[R.hN];exact R.nd) (by rw[R.hN];exact h1) h4 h5
 | .tup ts,B,X,sc,e,R,h=>by
  refine uh' h fun es w1 w2 e0 g=>?_
  clear h
  subst e0
  revert g
  intro h
  rw[show tG C (.tup ts)=(x0' C.K (nK' ts) (tGs C ts)) from rfl]
  rw[<- R.hK]
  simp only[ai,bj]at h
  exact uc' (R.calm h.2) (sGs ts R h.1) (ds' h.1).1 (ds' h.1).2
 | .sub o i,B,X,sc,e,R,h=>by
  refine ui' h fun eo ei w1 e0 g=>?_
  clear h
  subst e0
  revert g
  intro h
  simp only[ai]at h
  rw[show tG C (.sub o i)=(xn' (tE C o) (tE C i) fw') from rfl]
  exact s4' (sE0 o R h.1.1).1 (sE0 i R h.1.2).1 nj' (qQ' h.2)
termination_by structural c=>c
theorem sGs {C:Rc}:∀(ts:Cts) {B:List Str} {X:Cx} {sc:Scope} {es:List Expr},Rok C B X sc->mTs C.N B sc ts es=true->PGs X es (tGs C ts)
 | .nil,B,X,sc,es,R,h=>by
  refine lB' h fun e0 g=>?_
  clear h
  subst e0
  revert g
  intro h
  rw[show tGs C .nil=(xm') from rfl];exact p5'
 | .cons t r,B,X,sc,es,R,h=>by
  refine nM' h fun x xs e0 g=>?_
  clear h
  subst e0
  revert g
  intro h
  simp only[ai]at h
  rw[show tGs C (.cons t r)=(p4' (tG C t) (tGs C r)) from rfl]
  exact m7' (sG t R h.1.1) (sGs r R h.2) (iv' h.1.2)
termination_by structural c=>c
end
theorem sE {C:Rc} {B:List Str} (c:Ce) {X:Cx} {sc:Scope} {e:Expr} (R:Rok C B X sc) (h:mE C.N B sc c e=true):PE X e (tE C c):=(sE0 c R h).1
end R3
set_option maxHeartbeats 4000000
namespace R3
open PySem PySem.Spec PyProof.Rows L2
def fe':Expr->Bool
 | .ListComp ..=>false
 | .SetComp ..=>false
 | .DictComp ..=>false
 |_=>true
theorem nR' {x tg:Expr} {l:Nat} {env:Env} (h:fe' x=true):swapsWithSole [tg] x l env=pure false:=by
 cases x<;>first|rfl|cases h
theorem jU' {x:Expr} {l:Nat} {env:Env} (h:fe' x=true):swapsWith x none l env=pure false:=by
 cases x<;>first|rfl|cases h
set_option tactic.hygienic true in
theorem lG' {N B:List Str} {sc:Scope} {c:Ce} {x:Expr} (h:mE N B sc c x=true) (hd:ir' c=false) (hx:fe' x=false):∃elt own t it q r,c=.comp elt own t it q r/\∃ee gens scope pos,x=.ListComp ee gens scope pos:=by
 cases x<;>first|(cases hx;done)|skip
 .cases c<;>first|(exact ap' h)|(cases hd;done)|exact⟨_,_,_,_,_,_,rfl,_,_,_,_,rfl⟩
 .cases c<;>first|(exact ap' h)|(cases hd;done)|(rename_i r;cases r<;>first|(exact ap' h)|(cases hd;done)|(rename_i r;cases r<;>first|(exact ap' h)|(cases hd;done)|(rename_i r;cases r<;>exact ap' h)))
 .cases c<;>first|(exact ap' h)|(cases hd;done)|(rename_i r;cases r<;>first|(exact ap' h)|(cases hd;done)|(rename_i r;cases r<;>first|(exact ap' h)|(cases hd;done)|(rename_i r;cases r<;>exact ap' h)))
def pt':Expr->Bool
 | .Starred ..=>true
 |_=>false
theorem nst {e:Expr} (h:aC' e=true):pt' e=false:=by
 cases e<;>first|rfl|cases h
theorem iw' {x y:Str} {px py pt pt2:Pos} {kt k2:Nat} {ea eb:Expr} {env:Env} (hb:env.scope.kind=.function) (kx:env.kindOf x=some .local) (ky:env.kindOf y=some .local) (hxy:x≠y) (hl:px.line=py.line) (h8:aC' ea=true) (h9:aC' eb=true)
  (h11:(foldedForSure 8 ea&&foldedForSure 8 eb)=false) (h12:(constantsAlone 8 ea&&constantsAlone 8 eb)=false):swappedStores [.Tuple [.Name x px,.Name y py] kt pt] (.Tuple [ea,eb] k2 pt2) env=pure (some [x,y]):=by
 have hbk:env.blockKind=.function:=by unfold Env.blockKind;rw[hb];rfl
 have p1:(Expr.Name x px).pos=px:=rfl
 have p2:(Expr.Name y py).pos=py:=rfl
 have hyx:(y == x)=false:=by simpa using fun z=>hxy z.symm
 have s1:[ea,eb].any pt'=false:=by
  rw[cS,cS,List.any_nil,nst h8,nst h9]
  rfl
 have s2:[ea,eb].all (foldedForSure 8)=false:=by
  rw[cZ,cZ,List.all_nil,Bool.and_true];exact h11
 have s3:[ea,eb].all (constantsAlone 8)=false:=by
  rw[cZ,cZ,List.all_nil,Bool.and_true];exact h12
 have s4:([x,y].eraseDups).length=2:=by
  simp[List.eraseDups_cons,hxy,hyx]
 unfold swappedStores
 dsimp only
 refine(if_neg ?_).trans ((if_neg (Bool.eq_false_iff.mp s1)).trans ?_)
 .simp[hbk]
 rw[s2,s3]
 simp[kx,ky,p1,p2,hl,aX,s4]
theorem d9' {tg:Expr} {env:Env} (h:aC' tg=true):(assignEach [tg] env).map (·.2)=[assign tg env]:=by
 cases tg<;>first|rfl|cases h
def qR':Expr->Expr->Bool
 | .Tuple ..,.Tuple ..=>false
 | .List ..,.Tuple ..=>false
 |_,_=>true
theorem fQ' {tg x:Expr} {env:Env} (h:qR' tg x=true):swappedStores [tg] x env=pure none:=by
 cases tg<;>first|rfl|(cases x<;>first|rfl|cases h)
theorem hz' {tg:Expr} {vs:List Expr} {k:Nat} {pos:Pos} {env:Env} (h:vs.all (foldedForSure 8)=true):swappedStores [tg] (.Tuple vs k pos) env=pure none:=by
 have key:∀ts:List Expr,swappedStores [.Tuple ts 0 pos] (.Tuple vs k pos) env=pure none:=by
  intro ts
  unfold swappedStores
  dsimp only
  split
  .rfl
  .split
   .rfl
   .split
    .rfl
    .rfl
 cases tg<;>first|rfl|exact key _
theorem qS' {N B:List Str} {sc:Scope} {t:Ct} {a:List Expr} {p:Pos} (h:mT N B sc t (.List a p)=true):False:=by
 cases t<;>exact ap' h
section
variable {C:Rc} {B:List Str} {X:Cx} {sc:Scope}
theorem Rok.suite (R:Rok C B X sc) (e:Addr):Rok { C with xk:=fun _=>E0 } ("~" :: "^" :: B) (X.inX e) sc:=by
 have t1:tld ("~" :: "^" :: B)=true:=dP'
 have t2:hat ("~" :: "^" :: B)=true:=decide_eq_true (aB _ aG)
 refine⟨R.hN,R.nd,R.hK,PassesOwn.never,(fun z=>by rw[t2]at z;cases z),R.hu,R.gd,R.loc,R.cel,R.fre,R.glo,(fun _ _ _ z=>by rw[t2]at z;cases z),fun x hx=>?_,R.mrk,R.cls,(fun z=>by rw[t1]at z;cases z),(fun z=>by rw[t1]at z;cases z),(fun z=>by rw[t1]at z;cases z)⟩
 rcases ax.mp hx with rfl|hx
 .exact R.mrk.1
 .rcases ax.mp hx with rfl|hx
  .exact R.mrk.2.1
  .exact R.blt x hx
end
set_option maxHeartbeats 4000000
mutual
theorem sS:∀(c:Cs) {C:Rc} {B:List Str} {X:Cx} {sc:Scope} {s:Stmt},Rok C B X sc->X.env.scope.kind=.function->mS C.N B sc c s=true->PS X s (tS C c)
 | .expr e,C,B,X,sc,s,R,hk,h=>by
  refine yj' h fun x w1 e0 g=>?_
  clear h
  subst e0
  revert g
  intro h
  obtain⟨hc,hd⟩:=hh' h
  clear h
  obtain⟨hc,hm⟩:=hh' hc
  replace hd:ir' e=false:=by cases z:ir' e with
   |false=>rfl
   |true=>rw[z]at hd;exact ap' hd
  rw[show tS C (.expr e)=(p1' (tE C e)) from rfl]
  refine p2' (sE e R hc) (jU' ?_)
  cases hx:fe' x with
  |true=>rfl
  |false=>
   obtain⟨elt,own,t,it,q,r,rfl,_⟩:=lG' hc hd hx
   exact ap' hm
 | .ret e,C,B,X,sc,s,R,hk,h=>by
  refine yk' h fun x w1 e0 g=>?_
  clear h
  subst e0
  revert g
  intro h
  rw[show tS C (.ret e)=(xi' (tE C e)) from rfl]
  exact s2' (sE e R h)
 | .asg t e,C,B,X,sc,s,R,hk,h=>by
  refine yl' h fun tg x pos e0 g=>?_
  clear h
  subst e0
  revert g
  intro h
  obtain⟨h,h4⟩:=hh' h
  obtain⟨h,h3⟩:=hh' h
  obtain⟨h,h2⟩:=hh' h
  obtain⟨h1,h0⟩:=hh' h
  replace h0:ir' e=false:=by cases z:ir' e with
   |false=>rfl
   |true=>rw[z]at h0;exact ap' h0
  rw[show tS C (.asg t e)=(j8' (tE C e) (tG C t)) from rfl]
  have hw:swappedStores [tg] x X.env=pure none:=by
   cases tg with
   |Tuple a b c=>cases x<;>first|exact fQ' rfl|exact hz' h4|exact ap' h4
   |List a b=>exact(qS' h2).elim
   |_=>exact fQ' rfl
  cases hx:fe' x with
  |true=>exact iS' (sE e R h1) (sG t R h2) (nR' hx) hw (d9' h3)
  |false=>
   obtain⟨elt,own,t',it,q,r,rfl,ee,gens,scope,p2,rfl⟩:=lG' h1 h0 hx
   have D:=(sE0 _ R h1).2
   obtain⟨tg',iter,ifs,nx,scope',pos',D,hi,he,hu,hsw⟩:=D
   cases t with
   |name i=>
    cases tg with
    |Name y py=>
     obtain⟨b,hb⟩:=hsw y py pos.line
     cases b with
     |true=>
      replace h2:=hh' h2
      obtain⟨g1,g2,g3⟩:=bN' h2.1
      obtain⟨g4,g5⟩:=R.locb h2.2
      exact jG' D hi (by rw[R.hN];exact R.nd) (by rw[R.hN];exact g1) g4 g5 (hu _) hb
     |false=>exact iS' (sE _ R h1) (sG _ R h2) hb hw (d9' h3)
    |_=>exact ap' h2
   |tup ts=>
    cases tg with
    |Tuple a b c=>exact ap' h4
    |_=>exact ap' h2
   |sub o i=>
    cases tg with
    |Subscript a b c=>exact iS' (sE _ R h1) (sG _ R h2) rfl hw (d9' h3)
    |_=>exact ap' h2
 | .setc2 i elt own t it q ws t2 it2 q2,C,B,X,sc,s,R,hk,h=>by
  refine ym' h fun y py ee tg iter ifs a tg2 iter2 ifs2 a2 scope p2 pos e0 g=>?_
  clear h
  subst e0
  revert g
  intro h
  simp only[ai,decide_eq_true_eq,bj,cD]at h
  obtain⟨⟨⟨⟨⟨⟨⟨⟨⟨⟨⟨⟨⟨⟨⟨⟨⟨⟨hh,hnm⟩,hsc⟩,helt⟩,hown⟩,rfl⟩,h1⟩,h2⟩,h3⟩,h4⟩,h5⟩,rfl⟩,f1⟩,f2⟩,f3⟩,f4⟩,f5⟩,f6⟩,f7⟩:=h
  have hnm':=hnm
  replace hnm:=hh' hnm
  obtain⟨g1,g2,g3⟩:=bN' hnm.1
  obtain⟨g4,g5⟩:=R.locb hnm.2
  rw[show tS C (.setc2 i elt own t it q ws t2 it2 q2)=(j8' (t8' own (tI C it) (tG C t) (tQo C q) (ic' (tI C it2) (bc' ws (tG C t2) (tQo C q2) (dK' (tE C elt))))) (dA' i)) from rfl]
  refine qI' (nx:=fun D env=>a1' (.SetComp ee [⟨tg,iter,ifs,0⟩,⟨tg2,iter2,ifs2,0⟩] scope p2) 0 iter2 (.ref D) env) qG' (fun _=>rfl) nG' gg' qH' ⟨R.compSc hsc,?_,⟨_,rfl⟩,aY' h3,R.calm hh,fun _ _ _=>⟨rfl,rfl⟩,fun _ _ _ _=>⟨rfl,rfl⟩,fun _ _ _ _ _=>lF' _ _ _ _ _ _ _ _ _ _ _ _ _ _,fun _ _ _ _ _=>rfl,ca' hown,?_⟩ (sI it R h1 h2) (by rw[R.hN];exact R.nd) (by rw[R.hN];exact g1) g4 g5 (sG (.name i) R hnm') rfl rfl ⟨_,rfl⟩
  .rw[R.hN];exact(c3' hsc).2.2.2.2
  .intro s0 H0 ex D
   have R':=R.comp hh hsc s0 H0 ex
   refine⟨sG t R' h4,sQo q R' h5,ws,f7,?_⟩
   exact eA' (nx:=do let v <- eval ee (X.comp scope s0 H0 ex).env;standAt ee.pos;let _ <- call (.builtin "set.add") [.ref D,v]) rfl (R.calm hh) (fun _=>rfl) (fun _=>rfl) (fun _=>rfl) (fun _=>rfl) (fun _=>rfl) (fun _=>rfl) ⟨_,rfl,rfl⟩ (aY' f3) (sI it2 R' f1 f2) (sG t2 R' f4) (ca' f6) (sQo q2 R' f5) (ld' rfl (sE elt R' helt)) (by simp) gg'
 | .dctc tup i k v own t it q,C,B,X,sc,s,R,hk,h=>by
  refine yn' h fun y py ke ve tg iter ifs a scope p2 pos e0 g=>?_
  clear h
  subst e0
  revert g
  intro h
  simp only[ai,decide_eq_true_eq,bj]at h
  obtain⟨⟨⟨⟨⟨⟨⟨⟨⟨⟨⟨hh,hnm⟩,hsc⟩,hke⟩,hve⟩,hown⟩,rfl⟩,h1⟩,h2⟩,h3⟩,h4⟩,h5⟩:=h
  have hnm':=hnm
  replace hnm:=hh' hnm
  obtain⟨g1,g2,g3⟩:=bN' hnm.1
  obtain⟨g4,g5⟩:=R.locb hnm.2
  rw[show tS C (.dctc tup i k v own t it q)=(if tup then j8' (ua' own (tI C it) (tG C t) (tQo C q) (tE C k) (tE C v)) (dA' i)else j8' (t9' own (tI C it) (tG C t) (tQo C q) (tE C k) (tE C v)) (dA' i)) from rfl]
  cases tup with
  |false=>
   refine qI' (Is:=t4' X.prog X.w) (nx:=fun D env=>uo' ke ve D env) i1' (fun _=>rfl) lf' g4' t5' ⟨R.compSc hsc,?_,⟨[],rfl⟩,aY' h3,R.calm hh,fun _ _ _=>⟨rfl,rfl⟩,fun _ _ _ _=>⟨rfl,rfl⟩,fun _ _ _ _ _=>rfl,fun _ _ _ _ _=>rfl,ca' hown,?_⟩ (sI it R h1 h2) (by rw[R.hN];exact R.nd) (by rw[R.hN];exact g1) g4 g5 (sG (.name i) R hnm') rfl rfl ⟨_,rfl⟩
   .rw[R.hN];exact(c3' hsc).2.2.2.2
   .intro s0 H0 ex D
    have R':=R.comp hh hsc s0 H0 ex
    exact⟨sG t R' h4,sQo q R' h5,[],by simp,lg' rfl (sE k R' hke) (sE v R' hve)⟩
  |true=>
   refine qI' (Is:=t6' X.prog X.w) (nx:=fun D env=>uo' ke ve D env) i1' (fun _=>rfl) lh' g5' t7' ⟨R.compSc hsc,?_,⟨[],rfl⟩,aY' h3,R.calm hh,fun _ _ _=>⟨rfl,rfl⟩,fun _ _ _ _=>⟨rfl,rfl⟩,fun _ _ _ _ _=>rfl,fun _ _ _ _ _=>rfl,ca' hown,?_⟩ (sI it R h1 h2) (by rw[R.hN];exact R.nd) (by rw[R.hN];exact g1) g4 g5 (sG (.name i) R hnm') rfl rfl ⟨_,rfl⟩
   .rw[R.hN];exact(c3' hsc).2.2.2.2
   .intro s0 H0 ex D
    have R':=R.comp hh hsc s0 H0 ex
    exact⟨sG t R' h4,sQo q R' h5,[],by simp,li' R'.hu1 rfl (sE k R' hke) (sE v R' hve)⟩
 | .par i j a b,C,B,X,sc,s,R,hk,h=>by
  refine yo' h fun x px y py kt pt ea eb k2 pt2 pos e0 g=>?_
  clear h
  subst e0
  revert g
  intro h
  simp only[ai,decide_eq_true_eq,bj,beq_iff_eq]at h
  obtain⟨⟨⟨⟨⟨⟨⟨⟨⟨⟨⟨⟨h1,h2⟩,h3⟩,h4⟩,h5⟩,h6⟩,h7⟩,h8⟩,h9⟩,h10⟩,h11⟩,h12⟩,hh⟩:=h
  obtain⟨g1,g2,g3⟩:=bN' h1
  obtain⟨f1,f2,f3⟩:=bN' h2
  rw[show tS C (.par i j a b)=(xo' i j (bP' (tE C a) (bP' (tE C b) gE'))) from rfl]
  have lx:=R.loc x h4
  have ly:=R.loc y h5
  refine s5' (R.calm hh) (by rw[R.hN];exact R.nd) (by rw[R.hN];exact g1) (by rw[R.hN];exact f1) h3 lx ly (b5' (sE a R h6) (b5' (sE b R h7) eM' (am' h9)) (am' h8)) ?_
  have hxy:x≠y:=fun z=>h3 (fY' R.nd g1 (z ▸ f1))
  exact iw' hk lx ly hxy h10 h8 h9 h11 h12
 | .raise_,C,B,X,sc,s,R,hk,h=>by
  rw[show tS C .raise_=(kf') from rfl]
  exact m6'
 | .aug i sub e,C,B,X,sc,s,R,hk,h=>by
  refine yp' h fun x w1 op ee w2 e0 g=>?_
  clear h
  subst e0
  revert g
  intro h
  simp only[ai,decide_eq_true_eq]at h
  obtain⟨⟨⟨h1,h2⟩,h3⟩,rfl⟩:=h
  obtain⟨g1,g2,g3⟩:=bN' h1
  obtain⟨g4,g5⟩:=R.locb h2
  rw[show tS C (.aug i sub e)=(xp' i (tE C e) (ipI fun i j=>if sub then i-j else i+j)) from rfl]
  cases sub with
  |true=>exact o7' (by rw[R.hN];exact R.nd) (by rw[R.hN];exact g1) g4 (sE e R h3) s7' g5
  |false=>exact o7' (by rw[R.hN];exact R.nd) (by rw[R.hN];exact g1) g4 (sE e R h3) s6' g5
 | .ite q a b,C,B,X,sc,s,R,hk,h=>by
  refine yq' h fun x ss rs w1 e0 g=>?_
  clear h
  subst e0
  revert g
  intro h
  simp only[ai]at h
  rw[show tS C (.ite q a b)=(xj' (tQ C q) (tSs C a) (tSs C b)) from rfl]
  exact xk' (sQ q R h.1.1).1 (sSs a R hk h.1.2) (sSs b R hk h.2)
 | .whl q b,C,B,X,sc,s,R,hk,h=>by
  refine yr' h fun x ss w1 e0 g=>?_
  clear h
  subst e0
  revert g
  intro h
  simp only[ai]at h
  rw[show tS C (.whl q b)=(kg' (tQ C q) (tSs C b)) from rfl]
  exact m8' R.own (sQ q R h.1).1 (sSs b R hk h.2)
 | .for_ t it b,C,B,X,sc,s,R,hk,h=>by
  refine ys' h fun tg iter ss w1 e0 g=>?_
  clear h
  subst e0
  revert g
  intro h
  simp only[ai,bj]at h
  obtain⟨⟨⟨⟨⟨h1,h2⟩,h3⟩,h4⟩,h5⟩,hh⟩:=h
  rw[show tS C (.for_ t it b)=(xq' (tI C it) (tG C t) (tSs C b)) from rfl]
  exact s8' R.own (R.calm hh) (sI it R h1 h2) (sG t R h4) (sSs b R hk h5) (aY' h3)
theorem sSs:∀(c:Css) {C:Rc} {B:List Str} {X:Cx} {sc:Scope} {ss:List Stmt},Rok C B X sc->X.env.scope.kind=.function->mSs C.N B sc c ss=true->PSs X ss (tSs C c)
 | .nil,C,B,X,sc,ss,R,hk,h=>by
  refine yt' h fun e0 g=>?_
  clear h
  subst e0
  revert g
  intro h
  rw[show tSs C .nil=(pZ') from rfl];exact p0'
 | .cons c r,C,B,X,sc,ss,R,hk,h=>by
  refine yu' h fun x xs e0 g=>?_
  clear h
  subst e0
  revert g
  intro h
  simp only[ai]at h
  rw[show tSs C (.cons c r)=(xh' (tS C c) (tSs C r)) from rfl]
  exact m5' (sS c R hk h.1) (sSs r R hk h.2)
end
section
variable {P:Program} {w:World} {K:W.Frag} {mg:Str->Option Value} {base:Heap}
structure Ask (P:Program) (w:World) (K:W.Frag) (mg:Str->Option Value) (base:Heap) (k:Nat) (C:Rc):Prop where
 fs:∀y sp',C.fs y=some sp'->∃f' fd' ps',(FnOk P w K mg base CX0 k f' fd' ps' sp'\/FnOk P w K mg base (CX1 P w mg) k f' fd' ps' sp'/\sQ' y∈C.B)/\mg y=some (.ref f')/\W.keepIn K (.ref f')=true/\fv' K fd' ps' []
 B:∀y∈C.B,mg y=none
 mrk:mg "~"=none/\mg "^"=none/\mg "%"=none
 cl:∀c Ca,C.cl c=some Ca->mg c=some (.ref Ca)/\W.nsIn K mainGlobals c=some (some (.ref Ca))
 nt:tld C.B=false
 nh:hat C.B=false
theorem qT' {x qual:Str} {st:Stmt} {f:Addr} {fd:FuncData} {ps:List Str} {k:Nat} {sp:Sp} (F:Fun K x qual st f fd) (C:Rc) (S:FnScope C.N ps (ac' st)) (hK:C.K=K) (code:Css) (hm:mSs C.N C.B (ac' st) code (aj' st)=true)
  (len:∀vs H Q E,sp vs H Q E->vs.length=ps.length) (ask:Ask P w K mg base k C) (hxk:C.xk=fun _=>E0)
  (hbody:∀vs H Q E,sp vs H Q E->tSs C code { nx:=fun _ H'=>Q .non H',rt:=Q } (az' C.N vs) H):FnOk P w K mg base CX0 (k+1) f fd ps sp:=by
 refine F.ok S len fun cdv A outer s H vs Q E hr h=>⟨_,sSs code (sc:=ac' st) (B:=C.B) ?_ S.kind hm,hbody vs H Q E h⟩
 refine⟨rfl,S.nd,hK.symm,PassesOwn.never,fun _=>rfl,hr.units,hr.gd,fun _ e=>e,fun _ e=>⟨e,rfl⟩,fun _ e=>.inr e,fun _ e=>e,fun y sp' e _ _=>?_,ask.B,ask.mrk,ask.cl,fun _=>⟨rfl,fun _=>rfl,rfl,rfl⟩,fun _=>ask.nh,fun _ _ nm Ca pins σ H s e t _ _ _ _ _ _ z=>?_⟩
 .obtain⟨f',fd',ps',h1,h2,h3,h4⟩:=ask.fs y sp' e
  rcases h1 with h1|⟨h1,hb⟩
  .exact⟨f',fd',ps',k,CX0,h1,hr,h2,h3,h4,.inl rfl,pr'⟩
  .refine⟨f',fd',ps',k,_,h1,hr,h2,h3,h4,.inr ⟨rfl,hb⟩,?_⟩
   rintro pins σ H s e s' I ⟨ea,T,Ca,nm,H',_,_,_,_,_,_,_,_,_,_,_,z⟩
   rw[hxk]at z
   exact z.elim
 .rw[hxk]at z
  exact z.elim
end
def nS' (a:Addr) (k:Nat) (h:Heap):Prop:=∃(x y z:Int) (t1 t2 t3:Tok) (n:Nat),h.get? a=some { cls:=.type "list",data:=.seq #[.int x t1,.int y t2,.int z t3] n }/\0<=x/\0<=y/\y<2 ^ 62/\0<=z/\z<=k
def eF' (a:Addr) (k:Nat):HO:=.ext (nS' a k)
def hA' (x y z:Int):HO:=.lst [.int x,.int y,.int z]
theorem up' {a:Addr} {n k:Nat} (e:eF' a n=eF' a k):n<=k:=by
 have e1:nS' a n=nS' a k:=HO.ext.inj e
 let o:Obj:={ cls:=.type "list",data:=.seq #[.int 0 0,.int 0 0,.int n 0] 0 }
 let h0:Heap:={ (default:Heap)with objs:=Array.replicate a default }
 have hs:h0.objs.size=a:=Array.size_replicate
 have g:(h0.push o).get? a=some o:=by
  have:=ao h0 (o:=o) rfl
  rw[hs]at this
  exact this
 have q:nS' a n (h0.push o):=⟨0,0,n,0,0,0,0,g,by omega,by omega,by decide,by omega,by omega⟩
 rw[e1]at q
 obtain⟨x,y,z,t1,t2,t3,m,g2,_,_,_,_,hz⟩:=q
 rw[g]at g2
 have g3:=Option.some.inj g2
 have g4:(#[.int 0 0,.int 0 0,.int n 0]:Array Value)=#[.int x t1,.int y t2,.int z t3]:=by
  have:o.data=_:=congrArg Obj.data g3
  injection this
 have g6:=congrArg Array.toList g4
 simp only[List.cons.injEq,Value.int.injEq]at g6
 have g5:(n:Int)=z:=g6.2.2.1.1
 omega
theorem lH' {P:Program} {w:World} {H:Hp} {h:Heap} {b:Addr} {x y z:Int} {k:Nat} (hok:HOk P w H h) (e:H b=some (hA' x y z)) (hx:0<=x) (hy:0<=y) (hy2:y<2 ^ 62) (hz:0<=z) (hk:z<=k):HOk P w (upd H b (eF' b k)) h:=by
 intro c o ec
 by_cases hc:c=b
 .subst hc
  rw[ad']at ec
  cases ec
  obtain⟨_,its,n,rv,g⟩:=(show a5' P w H h c (.lst _) from hok c _ e)
  cases rv with
  |cons r1 r=>
   cases r with
   |cons r2 r=>
    cases r with
    |cons r3 r=>
     cases r
     obtain⟨t1,rfl⟩:=r1
     obtain⟨t2,rfl⟩:=r2
     obtain⟨t3,rfl⟩:=r3
     refine⟨⟨x,y,z,t1,t2,t3,n,g,hx,hy,hy2,hz,hk⟩,⟨_,g⟩,fun h1 h2 q kk=>?_⟩
     obtain⟨x,y,z,t1,t2,t3,n,g,r⟩:=q
     exact⟨x,y,z,t1,t2,t3,n,kk _ g,r⟩
 .rw[af' hc]at ec
  have ne:∀d u,H d=some u->(∀xs,u≠.lst xs)->d≠b:=fun d u q nu z=>by subst z;rw[e]at q;cases q;exact nu _ rfl
  exact(hok c o ec).stay (fun _ _ _ q=>q) (fun d q=>by rw[af' (ne d _ q fun _ z=>by cases z)];exact q) fun d xs q=>by rw[af' (ne d _ q fun _ z=>by cases z)];exact q
theorem nT' {P:Program} {w:World} {H:Hp} {h:Heap} {b:Addr} {k:Nat} (hok:HOk P w H h) (e:H b=some (eF' b k)):∃x y z:Int,0<=x/\0<=y/\y<2 ^ 62/\0<=z/\z<=k/\HOk P w (upd H b (hA' x y z)) h:=by
 obtain⟨⟨x,y,z,t1,t2,t3,n,g,hx,hy,hy2,hz,hk⟩,_,_⟩:=(show a5' P w H h b (.ext _) from hok b _ e)
 refine⟨x,y,z,hx,hy,hy2,hz,hk,fun c o ec=>?_⟩
 by_cases hc:c=b
 .subst hc
  rw[ad']at ec
  cases ec
  exact⟨by show 3<=sizeLine;decide,[.int x t1,.int y t2,.int z t3],n,.cons ⟨_,rfl⟩ (.cons ⟨_,rfl⟩ (.cons ⟨_,rfl⟩ .nil)),g⟩
 .rw[af' hc]at ec
  have ne:∀d u,H d=some u->(∀φ,u≠.ext φ)->d≠b:=fun d u q nu z=>by subst z;rw[e]at q;cases q;exact nu _ rfl
  exact(hok c o ec).stay (fun _ _ _ q=>q) (fun d q=>by rw[af' (ne d _ q fun _ z=>by cases z)];exact q) fun d xs q=>by rw[af' (ne d _ q fun _ z=>by cases z)];exact q
theorem nU' {fs ex:List Addr} {H H':Hp} {h h':Heap} {b:Addr} {xs:List V} {o:HO} (u:Un fs ex H H' h h') (e:H' b=some (.lst xs)):Un fs ex H (upd H' b o) h h' where
 keep:=u.keep
 slot:=u.slot
 free:=fun c ob q n hx=>by
  have z:=u.free c ob q n hx
  rw[af' (fun z2=>by subst z2;rw[e]at z;cases z)]
  exact z
 there:=u.there
 tups:=fun c ys q=>by
  have z:=u.tups c ys q
  rw[af' (fun z2=>by subst z2;rw[e]at z;cases z)]
  exact z
 frzs:=fun c ob ys q=>by
  have z:=u.frzs c ob ys q
  rw[af' (fun z2=>by subst z2;rw[e]at z;cases z)]
  exact z
 tbls:=fun c ps q=>by
  obtain⟨m,z⟩:=u.tbls c ps q
  exact⟨m,by rw[af' (fun z2=>by subst z2;rw[e]at z;cases z)];exact z⟩
theorem qU' {fs ex:List Addr} {H H':Hp} {h h':Heap} {b:Addr} {φ:Heap->Prop} {o:HO} (u:Un fs ex (upd H b o) H' h h') (e:H b=some (.ext φ)):Un fs ex H H' h h':=by
 have ne:∀c,H c=none->c≠b:=fun c n z=>by subst z;rw[e]at n;cases n
 have ne2:∀c v,H c=some v->(∀ψ,v≠.ext ψ)->c≠b:=fun c v q nv z=>by subst z;rw[e]at q;cases q;exact nv _ rfl
 exact⟨fun c ob q n=>u.keep c ob q (by rw[af' (ne c n)];exact n),fun c ob q n=>u.slot c ob q (by rw[af' (ne c n)];exact n),fun c ob q n=>u.free c ob q (by rw[af' (ne c n)];exact n),u.there,
  fun c ys q=>u.tups c ys (by rw[af' (ne2 c _ q fun _ z=>by cases z)];exact q),fun c ob ys q=>u.frzs c ob ys (by rw[af' (ne2 c _ q fun _ z=>by cases z)];exact q),fun c ps q=>u.tbls c ps (by rw[af' (ne2 c _ q fun _ z=>by cases z)];exact q)⟩
section
variable {P:Program} {w:World} {K:W.Frag} {mg:Str->Option Value} {base:Heap} {k:Nat} {f:Addr} {fd:FuncData} {ps:List Str} {sp sp':Sp}
def z5' (Q:VK) (v:V) (H:Hp):Prop:=∃b x y z m,H b=some (hA' x y z)/\0<=x/\0<=y/\y<2 ^ 62/\0<=z/\z<=((m:Nat):Int)/\Q v (upd H b (eF' b m))
theorem lI' (F:FnOk P w K mg base CX0 k f fd ps sp) (h:∀vs H Q E,sp' vs H Q E->sp vs H (z5' Q) E):FnOk P w K mg base CX0 k f fd ps sp':=by
 refine⟨fun vs H Q E q=>F.len vs H _ E (h _ _ _ _ q),fun A outer s H args us vs Q E hr e0 hb hv hs=>?_⟩
 refine codeAny_mono (F.run A outer s H args us vs _ E hr e0 hb hv (h _ _ _ _ hs)) fun r s' hq=>?_
 cases r with
 |error e=>exact hq
 |ok fl=>
  cases fl with
  |next=>exact hq
  |brk=>exact hq
  |cont=>exact hq
  |ret u=>
   obtain⟨v,H',os,bare,un,hok,rv,b,x,y,z,m,eb,hx,hy,hy2,hz,hm,q⟩:=hq
   exact⟨v,_,os,bare,nU' un eb,lH' hok eb hx hy hy2 hz hm,rv,q⟩
theorem qV' (F:FnOk P w K mg base CX0 k f fd ps sp) (h:∀vs H Q E,sp' vs H Q E->∃b n,H b=some (eF' b n)/\∀x y z,0<=x->0<=y->y<2 ^ 62->0<=z->z<=((n:Nat):Int)->sp vs (upd H b (hA' x y z)) Q E) (len:∀vs H Q E,sp' vs H Q E->vs.length=ps.length):FnOk P w K mg base CX0 k f fd ps sp':=by
 refine⟨len,fun A outer s H args us vs Q E hr e0 hb hv hs=>?_⟩
 obtain⟨b,n,eb,hsp⟩:=h _ _ _ _ hs
 obtain⟨x,y,z,hx,hy,hy2,hz,hn,hok⟩:=nT' e0.hok eb
 have ne:∀c,H c=none->c≠b:=fun c n z=>by subst z;rw[eb]at n;cases n
 have e1:Env0 P w K mg base A outer s (upd H b (hA' x y z)):=⟨e0.frames,e0.mod,fun c o e=>⟨(e0.bs c o e).1,by rw[af' (ne c (e0.bs c o e).2)];exact(e0.bs c o e).2⟩,e0.bsz,e0.funs,fun c hc=>by rw[af' (ne c (e0.frf c hc))];exact e0.frf c hc,hok,e0.bare⟩
 refine codeAny_mono (F.run A outer s _ args us vs Q E hr e1 hb hv (hsp x y z hx hy hy2 hz hn)) fun r s' hq=>?_
 cases r with
 |error e=>exact hq
 |ok fl=>
  cases fl with
  |next=>exact hq
  |brk=>exact hq
  |cont=>exact hq
  |ret u=>
   obtain⟨v,H',os,bare,un,hok,rv,q⟩:=hq
   exact⟨v,H',os,bare,qU' un eb,hok,rv,q⟩
end
structure Go (c:Nat) (H H':Hp):Prop where
 box:∀a n,H a=some (eF' a n)->∃m,m<=n+c/\H' a=some (eF' a m)
 oth:∀a o,H a=some o->(∀φ,o≠.ext φ)->H' a=some o
 free:∀a,H' a=none->H a=none
theorem Go.of_same {c:Nat} {H H':Hp} (h:aB' H H'):Go c H H':=⟨fun a n e=>⟨n,by omega,h a _ e⟩,fun a o e _=>h a o e,fun a e=>h.free e⟩
theorem Go.trans {c d:Nat} {H H1 H2:Hp} (a:Go c H H1) (b:Go d H1 H2):Go (c+d) H H2:=⟨fun p n e=>by
  obtain⟨m,hm,e1⟩:=a.box p n e
  obtain⟨m',hm',e2⟩:=b.box p m e1
  exact⟨m',by omega,e2⟩,fun p o e no=>b.oth p o (a.oth p o e no) no,fun p e=>a.free p (b.free p e)⟩
theorem Go.mono {c d:Nat} {H H1:Hp} (a:Go c H H1) (h:c<=d):Go d H H1:=⟨fun p n e=>by
  obtain⟨m,hm,e1⟩:=a.box p n e
  exact⟨m,by omega,e1⟩,a.oth,a.free⟩
theorem Go.lst {c:Nat} {H H1:Hp} (a:Go c H H1) {p:Addr} {xs:List V} (e:H p=some (.lst xs)):H1 p=some (.lst xs):=a.oth p _ e fun _ z=>by cases z
theorem Go.seq {c:Nat} {K:W.Frag} {H H1:Hp} (g:Go c H H1) {a:Addr} {xs:List V} (h:SqL K H a xs):SqL K H1 a xs:=by
 rcases h with(h|⟨o,h⟩)|h
 .exact .inl (.inl (g.lst h))
 .exact .inl (.inr ⟨o,g.oth _ _ h fun _ z=>by cases z⟩)
 .exact .inr h
theorem Go.new {c:Nat} {H:Hp} {p:Addr} (h:H p=none) (o:HO):Go c H (upd H p o):=.of_same fun b u q=>by rw[af' (av' q h)];exact q
theorem Go.draw {H:Hp} {b:Addr} {n m:Nat} (e:H b=some (eF' b n)) (h:m<=n+1) (o:HO):Go 1 H (upd (upd H b o) b (eF' b m)):=by
 rw[bt']
 refine⟨fun p k q=>?_,fun p u q no=>?_,fun p q=>?_⟩
 .by_cases hp:p=b
  .subst hp
   rw[e]at q
   have:=up' (Option.some.inj q)
   exact⟨m,by omega,ad'⟩
  .exact⟨k,by omega,by rw[af' hp];exact q⟩
 .rw[af']
  .exact q
  .intro z
   subst z
   rw[e]at q
   cases q
   exact no _ rfl
 .by_cases hp:p=b
  .subst hp
   rw[ad']at q
   cases q
  .rw[af' hp]at q
   exact q
section
variable {C:Rc} {σ:L2.St} {H:Hp} {Q:VK} {D:Ends} {Qb:Bool->Hp->Prop}
def kV (o:Option (Option V)) (H:Hp) (Q:VK):Prop:=∃v,o=some (some v)/\Q v H
theorem lJ' {v:V}:kV (some (some v)) H Q=Q v H:=propext ⟨fun⟨u,e,q⟩=>by cases e;exact q,fun q=>⟨v,rfl,q⟩⟩
theorem pu' {i:Nat}:tE C (.var i) σ H Q=kV σ[i]? H Q:=rfl
theorem pv' {n:Int}:tE C (.int n) σ H Q=Q (.int n) H:=rfl
theorem yw' {b:Bool}:tE C (.bl b) σ H Q=Q (.bl b) H:=rfl
theorem uq':tE C .non σ H Q=Q .non H:=rfl
theorem ur' {x:Str}:tE C (.str x) σ H Q=Q (.str x) H:=rfl
def kB1 (C:Rc) (σ:L2.St) (op:Operator) (b:Ce) (Q:VK):VK:=fun x H=>tE C b σ H fun y H2=>g9' C.K op x y H2 Q
def kB2 (C:Rc) (op:Operator) (x:V) (Q:VK):VK:=fun y H=>g9' C.K op x y H Q
theorem us' {op:Operator} {a b:Ce}:tE C (.bin op a b) σ H Q=tE C a σ H (kB1 C σ op b Q):=rfl
theorem ut' {op:Operator} {b:Ce} {x:V}:kB1 C σ op b Q x H=tE C b σ H (kB2 C op x Q):=rfl
theorem uu' {op:Operator} {x y:V}:kB2 C op x Q y H=g9' C.K op x y H Q:=rfl
def kC1 (C:Rc) (σ:L2.St) (op:CmpOp) (b:Ce) (Q:VK):VK:=fun x H=>tE C b σ H fun y H2=>cD' C.K op x y H2 Q
def kC2 (C:Rc) (op:CmpOp) (x:V) (Q:VK):VK:=fun y H=>cD' C.K op x y H Q
theorem uv' {op:CmpOp} {a b:Ce}:tE C (.cmp op a b) σ H Q=tE C a σ H (kC1 C σ op b Q):=rfl
theorem uw' {op:CmpOp} {b:Ce} {x:V}:kC1 C σ op b Q x H=tE C b σ H (kC2 C op x Q):=rfl
theorem ux' {op:CmpOp} {x y:V}:kC2 C op x Q y H=cD' C.K op x y H Q:=rfl
def kI1 (C:Rc) (σ:L2.St) (b:Ce) (Q:VK):VK:=fun x H=>tE C b σ H fun y H2=>nI' C.K x y H2 Q
def kI2 (C:Rc) (x:V) (Q:VK):VK:=fun y H=>nI' C.K x y H Q
theorem uy' {a b:Ce}:tE C (.idx a b) σ H Q=tE C a σ H (kI1 C σ b Q):=rfl
theorem uz' {b:Ce} {x:V}:kI1 C σ b Q x H=tE C b σ H (kI2 C x Q):=rfl
theorem uA' {x y:V}:kI2 C x Q y H=nI' C.K x y H Q:=rfl
def z6' (Q:VK):VK:=fun x H=>rU (fun i=>.int (-i)) x H Q
theorem uB' {a:Ce}:tE C (.neg a) σ H Q=tE C a σ H (z6' Q):=rfl
theorem nV' {i:Int}:z6' Q (.int i) H=Q (.int (-i)) H:=propext ⟨fun⟨u,e,q⟩=>by cases e;exact q,fun q=>⟨i,rfl,q⟩⟩
def kT (Qb:Bool->Hp->Prop):VK:=fun x H=>∃k,x=.bl k/\Qb k H
theorem yx' {k:Bool}:kT Qb (.bl k) H=Qb k H:=propext ⟨fun⟨u,e,q⟩=>by cases e;exact q,fun q=>⟨k,rfl,q⟩⟩
theorem uC' {op:CmpOp} {a b:Ce}:tQ C (.cmp op a b) σ H Qb=tE C a σ H (kC1 C σ op b (kT Qb)):=rfl
def uD' (Qb:Bool->Hp->Prop):Bool->Hp->Prop:=fun c H=>Qb (!c) H
theorem uE' {q:Cq}:tQ C (.not q) σ H Qb=tQ C q σ H (uD' Qb):=rfl
theorem nW' {c:Bool}:uD' Qb c H=Qb (!c) H:=rfl
def qW' (C:Rc) (σ:L2.St) (b:Cq) (Qb:Bool->Hp->Prop):Bool->Hp->Prop:=fun c H=>if c=true then tQ C b σ H Qb else Qb false H
def yy' (C:Rc) (σ:L2.St) (b:Cq) (Qb:Bool->Hp->Prop):Bool->Hp->Prop:=fun c H=>if c=true then Qb true H else tQ C b σ H Qb
theorem uF' {a b:Cq}:tQ C (.and a b) σ H Qb=tQ C a σ H (qW' C σ b Qb):=rfl
theorem yz' {a b:Cq}:tQ C (.or a b) σ H Qb=tQ C a σ H (yy' C σ b Qb):=rfl
theorem qX' {b:Cq}:qW' C σ b Qb true H=tQ C b σ H Qb:=rfl
theorem qY' {b:Cq}:qW' C σ b Qb false H=Qb false H:=rfl
theorem uG' {b:Cq}:yy' C σ b Qb true H=Qb true H:=rfl
theorem uH' {b:Cq}:yy' C σ b Qb false H=tQ C b σ H Qb:=rfl
variable {K:W.Frag} {i j:Int} {x y:Str}
theorem yA':g9' K .Add (.int i) (.int j) H Q=Q (.int (i+j)) H:=rfl
theorem uI':g9' K .Add (.str x) (.str y) H Q=(x.length+y.length<=sizeLine/\Q (.str (x++y)) H):=rfl
theorem yB':g9' K .Sub (.int i) (.int j) H Q=Q (.int (i-j)) H:=propext ⟨fun⟨_,_,e,e',q⟩=>by cases e;cases e';exact q,fun q=>⟨_,_,rfl,rfl,q⟩⟩
theorem yC':g9' K .Mult (.int i) (.int j) H Q=(qL' i j/\Q (.int (i*j)) H):=rfl
theorem uJ':g9' K .Mult (.str x) (.int j) H Q=(-1000000<=j/\j<=1000000/\x.length*j.toNat<=1000000/\Q (.str (Txt.mul x j)) H):=rfl
theorem yD':g9' K .Mod (.int i) (.int j) H Q=(0<j/\Q (.int (i % j)) H):=propext ⟨fun⟨_,_,e,e',c,q⟩=>by cases e;cases e';exact⟨c,q⟩,fun q=>⟨_,_,rfl,rfl,q.1,q.2⟩⟩
theorem yE':g9' K .FloorDiv (.int i) (.int j) H Q=(ue' i j/\Q (.int (i / j)) H):=propext ⟨fun⟨_,_,e,e',c,q⟩=>by cases e;cases e';exact⟨c,q⟩,fun q=>⟨_,_,rfl,rfl,q.1,q.2⟩⟩
theorem yF':g9' K .Pow (.int i) (.int j) H Q=(xv' i j/\Q (.int (i ^ j.toNat)) H):=propext ⟨fun⟨_,_,e,e',c,q⟩=>by cases e;cases e';exact⟨c,q⟩,fun q=>⟨_,_,rfl,rfl,q.1,q.2⟩⟩
theorem AK':cD' K .Lt (.int i) (.int j) H Q=Q (.bl (decide (i<j))) H:=propext ⟨fun⟨_,_,e,e',q⟩=>by cases e;cases e';exact q,fun q=>⟨_,_,rfl,rfl,q⟩⟩
theorem AL':cD' K .LtE (.int i) (.int j) H Q=Q (.bl (decide (i<=j))) H:=propext ⟨fun⟨_,_,e,e',q⟩=>by cases e;cases e';exact q,fun q=>⟨_,_,rfl,rfl,q⟩⟩
theorem AM':cD' K .Gt (.int i) (.int j) H Q=Q (.bl (decide (j<i))) H:=propext ⟨fun⟨_,_,e,e',q⟩=>by cases e;cases e';exact q,fun q=>⟨_,_,rfl,rfl,q⟩⟩
theorem AN':cD' K .GtE (.int i) (.int j) H Q=Q (.bl (decide (j<=i))) H:=propext ⟨fun⟨_,_,e,e',q⟩=>by cases e;cases e';exact q,fun q=>⟨_,_,rfl,rfl,q⟩⟩
theorem AO':cD' K .Eq (.int i) (.int j) H Q=Q (.bl (decide (i=j))) H:=by
 have e:decide (V.int i=V.int j)=decide (i=j):=by simp
 exact propext ⟨fun q=>e ▸ q.2,fun q=>⟨rfl,e.symm ▸ q⟩⟩
theorem yG':cD' K .Eq (.str x) (.str y) H Q=Q (.bl (decide (x=y))) H:=by
 have e:decide (V.str x=V.str y)=decide (x=y):=by simp
 exact propext ⟨fun q=>e ▸ q.2,fun q=>⟨rfl,e.symm ▸ q⟩⟩
theorem uK' {a:Addr}:nI' K (.ref a) (.int i) H Q=(jD' K (.ref a) (.int i) H Q\/j9' K (.ref a) (.int i) H Q):=rfl
def uL' (C:Rc) (r:Css) (D:Ends):Ends:={ D with nx:=tSs C r D }
theorem uM':tSs C .nil D σ H=D.nx σ H:=rfl
theorem qZ' {s:Cs} {r:Css}:tSs C (.cons s r) D σ H=tS C s (uL' C r D) σ H:=rfl
theorem lK' {r:Css}:(uL' C r D).nx σ H=tSs C r D σ H:=rfl
theorem uN' {r:Css}:(uL' C r D).rt=D.rt:=rfl
theorem uO' {r:Css}:(uL' C r D).bk=D.bk:=rfl
theorem uP' {r:Css}:(uL' C r D).ct=D.ct:=rfl
theorem yH' {e:Ce}:tS C (.ret e) D σ H=tE C e σ H D.rt:=rfl
def uQ' (D:Ends) (σ:L2.St):VK:=fun _ H=>D.nx σ H
theorem uR' {e:Ce}:tS C (.expr e) D σ H=tE C e σ H (uQ' D σ):=rfl
theorem nX' {v:V}:uQ' D σ v H=D.nx σ H:=rfl
def yI' (i:Nat) (D:Ends) (σ:L2.St):VK:=fun x H=>D.nx (σ.set i (some x)) H
theorem yJ' {i:Nat} {e:Ce}:tS C (.asg (.name i) e) D σ H=tE C e σ H (yI' i D σ):=rfl
theorem q0' {i:Nat} {v:V}:yI' i D σ v H=D.nx (σ.set i (some v)) H:=rfl
def uS' (C:Rc) (o i:Ce) (D:Ends) (σ:L2.St):VK:=fun v H=>tE C o σ H fun p H1=>tE C i σ H1 fun k H2=>fw' p k v H2 fun H3=>D.nx σ H3
def uT' (C:Rc) (i:Ce) (v:V) (D:Ends) (σ:L2.St):VK:=fun p H1=>tE C i σ H1 fun k H2=>fw' p k v H2 fun H3=>D.nx σ H3
def uU' (p v:V) (D:Ends) (σ:L2.St):VK:=fun k H2=>fw' p k v H2 fun H3=>D.nx σ H3
theorem yK' {o i e:Ce}:tS C (.asg (.sub o i) e) D σ H=tE C e σ H (uS' C o i D σ):=rfl
theorem nY' {o i:Ce} {v:V}:uS' C o i D σ v H=tE C o σ H (uT' C i v D σ):=rfl
theorem nZ' {i:Ce} {v p:V}:uT' C i v D σ p H=tE C i σ H (uU' p v D σ):=rfl
theorem n0' {v p k:V}:uU' p v D σ k H=fw' p k v H (D.nx σ):=rfl
def kIf (C:Rc) (a b:Css) (D:Ends) (σ:L2.St):Bool->Hp->Prop:=fun c H=>if c=true then tSs C a D σ H else tSs C b D σ H
theorem AP' {q:Cq} {a b:Css}:tS C (.ite q a b) D σ H=tQ C q σ H (kIf C a b D σ):=rfl
theorem yL' {a b:Css}:kIf C a b D σ true H=tSs C a D σ H:=rfl
theorem yM' {a b:Css}:kIf C a b D σ false H=tSs C b D σ H:=rfl
theorem bd' {p:Prop} [Decidable p] {F:Bool->Hp->Prop} (h1:p->F true H) (h2:¬p->F false H):F (decide p) H:=by
 by_cases h:p
 .rw[decide_eq_true h];exact h1 h
 .rw[decide_eq_false h];exact h2 h
end
section
variable {C:Rc} {σ:L2.St} {H:Hp} {Q:VK} {D:Ends} {Qb:Bool->Hp->Prop} {Qs:List V->Hp->Prop}
def kA1 (C:Rc) (σ:L2.St) (r:Ces) (Qs:List V->Hp->Prop):VK:=fun x H=>tA C r σ H fun xs H2=>Qs (x :: xs) H2
def kA2 (x:V) (Qs:List V->Hp->Prop):List V->Hp->Prop:=fun xs H=>Qs (x :: xs) H
theorem yN':tA C .nil σ H Qs=Qs [] H:=rfl
theorem uV' {e:Ce} {r:Ces}:tA C (.cons e r) σ H Qs=tE C e σ H (kA1 C σ r Qs):=rfl
theorem uW' {r:Ces} {x:V}:kA1 C σ r Qs x H=tA C r σ H (kA2 x Qs):=rfl
theorem uX' {x:V} {xs:List V}:kA2 x Qs xs H=Qs (x :: xs) H:=rfl
def w7' (Q:VK):List V->Hp->Prop:=fun xs H=>xs.length<=sizeLine/\∀p,H p=none->Q (.ref p) (upd H p (.tup xs))
def z7' (Q:VK):List V->Hp->Prop:=fun xs H=>xs.length<=sizeLine/\∀p,H p=none->Q (.ref p) (upd H p (.lst xs))
theorem uY' {es:Ces}:tE C (.tup es) σ H Q=tA C es σ H (w7' Q):=rfl
theorem uZ' {es:Ces}:tE C (.lst es) σ H Q=tA C es σ H (z7' Q):=rfl
theorem q1' {xs:List V}:w7' Q xs H=(xs.length<=sizeLine/\∀p,H p=none->Q (.ref p) (upd H p (.tup xs))):=rfl
theorem q2' {xs:List V}:z7' Q xs H=(xs.length<=sizeLine/\∀p,H p=none->Q (.ref p) (upd H p (.lst xs))):=rfl
def q3' (o:Option Sp) (E:XK) (Q:VK):List V->Hp->Prop:=fun vs H=>match o with
 |some sp=>sp (vs++[]) H Q E
 |none=>False
theorem q4' {f:Str} {es:Ces} {sp:Sp} (h:C.fs f=some sp):tE C (.call f es) σ H Q=tA C es σ H (q3' (some sp) (C.xk σ) Q):=by
 show(match C.fs f with|some sp=>nf' sp [] (C.xk σ) (tA C es) σ H Q|none=>False)=_
 rw[h]
 rfl
theorem n1' {sp:Sp} {E:XK} {vs:List V}:q3' (some sp) E Q vs H=sp vs H Q E:=by
 show sp (vs++[]) H Q E=_
 rw[List.append_nil]
def z8' (C:Rc) (f:Bf) (Q:VK):List V->Hp->Prop:=fun vs H=>d5' C.K f vs H Q
theorem u0' {f:Bf} {es:Ces}:tE C (.blt f es) σ H Q=tA C es σ H (z8' C f Q):=rfl
theorem q5' {f:Bf} {vs:List V}:z8' C f Q vs H=d5' C.K f vs H Q:=rfl
def u1' (C:Rc) (σ:L2.St) (m:Mf) (es:Ces) (Q:VK):VK:=fun x H=>tyV C.K (ha' m) x H/\tA C es σ H fun xs H2=>lm' C.K m x xs H2 Q
def u2' (C:Rc) (m:Mf) (x:V) (Q:VK):List V->Hp->Prop:=fun xs H=>lm' C.K m x xs H Q
theorem u3' {m:Mf} {o:Ce} {es:Ces}:tE C (.met m o es) σ H Q=tE C o σ H (u1' C σ m es Q):=rfl
theorem n2' {m:Mf} {es:Ces} {x:V}:u1' C σ m es Q x H=(tyV C.K (ha' m) x H/\tA C es σ H (u2' C m x Q)):=rfl
theorem n3' {m:Mf} {x:V} {xs:List V}:u2' C m x Q xs H=lm' C.K m x xs H Q:=rfl
def yO' (C:Rc) (σ:L2.St) (a b:Ce) (Q:VK):Bool->Hp->Prop:=fun c H=>if c=true then tE C a σ H Q else tE C b σ H Q
theorem u4' {q:Cq} {a b:Ce}:tE C (.ife q a b) σ H Q=tQ C q σ H (yO' C σ a b Q):=rfl
theorem u5' {a b:Ce}:yO' C σ a b Q true H=tE C a σ H Q:=rfl
theorem u6' {a b:Ce}:yO' C σ a b Q false H=tE C b σ H Q:=rfl
def yP' (Q:VK):VK:=fun x H=>∃c,x=.bl c/\Q (.bl (!c)) H
theorem u7' {a:Ce}:tE C (.not a) σ H Q=tE C a σ H (yP' Q):=rfl
def yQ' (C:Rc) (σ:L2.St) (b:Ce) (Q:VK):VK:=fun x H=>∃c,x=.bl c/\if c=true then tE C b σ H Q else Q (.bl false) H
def AQ' (C:Rc) (σ:L2.St) (b:Ce) (Q:VK):VK:=fun x H=>∃c,x=.bl c/\if c=true then Q (.bl true) H else tE C b σ H Q
theorem u8' {a b:Ce}:tE C (.and a b) σ H Q=tE C a σ H (yQ' C σ b Q):=rfl
theorem yR' {a b:Ce}:tE C (.or a b) σ H Q=tE C a σ H (AQ' C σ b Q):=rfl
def w8' (C:Rc) (Qb:Bool->Hp->Prop):VK:=fun x H=>∃k,tj' C.K x H k/\Qb k H
theorem u9' {e:Ce}:tQ C (.val e) σ H Qb=tE C e σ H (w8' C Qb):=rfl
theorem q6' {b:Bool}:w8' C Qb (.bl b) H=Qb b H:=propext ⟨fun⟨u,e,q⟩=>by
  have e:u=b:=e
  subst e
  exact q,fun q=>⟨b,rfl,q⟩⟩
def va' (C:Rc) (σ:L2.St) (lo hi:Co) (Q:VK):VK:=fun x H=>tO C lo σ H fun l H2=>tO C hi σ H2 fun u H3=>rSl C.K x l u H3 Q
def vb' (C:Rc) (σ:L2.St) (hi:Co) (x:V) (Q:VK):Option Int->Hp->Prop:=fun l H=>tO C hi σ H fun u H3=>rSl C.K x l u H3 Q
def vc' (C:Rc) (x:V) (l:Option Int) (Q:VK):Option Int->Hp->Prop:=fun u H=>rSl C.K x l u H Q
theorem vd' {a:Ce} {lo hi:Co}:tE C (.cut a lo hi) σ H Q=tE C a σ H (va' C σ lo hi Q):=rfl
theorem n4' {lo hi:Co} {x:V}:va' C σ lo hi Q x H=tO C lo σ H (vb' C σ hi x Q):=rfl
theorem n5' {hi:Co} {x:V} {l:Option Int}:vb' C σ hi x Q l H=tO C hi σ H (vc' C x l Q):=rfl
theorem n6' {x:V} {l u:Option Int}:vc' C x l Q u H=rSl C.K x l u H Q:=rfl
variable {Qo:Option Int->Hp->Prop}
def n7' (Qo:Option Int->Hp->Prop):VK:=fun x H=>∃i,x=.int i/\Qo (some i) H
theorem ve':tO C .none σ H Qo=Qo none H:=rfl
theorem vf' {e:Ce}:tO C (.some e) σ H Qo=tE C e σ H (n7' Qo):=rfl
theorem lL' {i:Int}:n7' Qo (.int i) H=Qo (some i) H:=propext ⟨fun⟨u,e,q⟩=>by cases e;exact q,fun q=>⟨i,rfl,q⟩⟩
theorem vg' {K:W.Frag} {a:Addr} {l u:Option Int}:rSl K (.ref a) l u H Q=(xH' K (.ref a) l u H Q\/xF' K (.ref a) l u H Q\/xP' K (.ref a) l u H Q):=rfl
def z9' (i:Nat) (sub:Bool) (x:V) (D:Ends) (σ:L2.St):VK:=fun y H=>∃a b,x=.int a/\y=.int b/\D.nx (σ.set i (some (.int (if sub then a-b else a+b)))) H
theorem ff' {i:Nat} {sub:Bool} {e:Ce} {a:Int} (h:σ[i]?=some (some (.int a))):tS C (.aug i sub e) D σ H=tE C e σ H (z9' i sub (.int a) D σ):=by
 show(∃x,σ[i]?=some (some x)/\tE C e σ H fun y H1=>(ipI fun i j=>if sub then i-j else i+j) x y H1 fun z H2=>D.nx (σ.set i (some z)) H2)=_
 rw[h]
 exact propext ⟨fun⟨x,e,q⟩=>by cases e;exact q,fun q=>⟨_,rfl,q⟩⟩
theorem n8' {i:Nat} {sub:Bool} {a b:Int}:z9' i sub (.int a) D σ (.int b) H=D.nx (σ.set i (some (.int (if sub then a-b else a+b)))) H:=propext ⟨fun⟨_,_,e,e',q⟩=>by cases e;cases e';exact q,fun q=>⟨_,_,rfl,rfl,q⟩⟩
def q8' (C:Rc) (σ:L2.St) (i j:Nat) (b:Ce) (D:Ends):VK:=fun v H=>tE C b σ H fun w H1=>D.nx ((σ.set i (some v)).set j (some w)) H1
def vh' (σ:L2.St) (i j:Nat) (v:V) (D:Ends):VK:=fun w H=>D.nx ((σ.set i (some v)).set j (some w)) H
theorem n9' {i j:Nat} {b:Ce} {v:V}:q8' C σ i j b D v H=tE C b σ H (vh' σ i j v D):=rfl
theorem oa' {i j:Nat} {v w:V}:vh' σ i j v D w H=D.nx ((σ.set i (some v)).set j (some w)) H:=rfl
end
def cb (b:Bool):Nat:=if b then 49 else 48
def tx (l:List Bool):Str:=⟨(l.map cb).toArray⟩
theorem vi' {a b:Bool} (h:cb a=cb b):a=b:=by cases a<;>cases b<;>first|rfl|cases h
theorem hB' {a b:List Bool} (h:tx a=tx b):a=b:=by
 have h1:(a.map cb).toArray=(b.map cb).toArray:=congrArg Str.cps h
 have h2:a.map cb=b.map cb:=by simpa using h1
 exact List.map_inj_right (f:=cb) (fun x y=>vi') |>.mp h2
theorem bO' {a:List Bool}:(tx a).length=a.length:=by show(a.map cb).toArray.size=_;simp
theorem en' {a:List Bool}:(tx a).cps.toList=a.map cb:=rfl
theorem fg' {a:List Bool}:(tx a).cps.size=a.length:=by show(a.map cb).toArray.size=_;simp
theorem lM' {a:List Bool} {i:Nat}:(tx a).cps[i]?=a[i]?.map cb:=by show(a.map cb).toArray[i]?=_;simp
theorem i9' {a b:List Bool}:tx a++tx b=tx (a++b):=by
 show(⟨(a.map cb).toArray++(b.map cb).toArray⟩:Str)=⟨((a++b).map cb).toArray⟩
 simp
theorem yS':(PySem.Str.ofString "01")=tx [false,true]:=by decide +kernel
theorem yT':(PySem.Str.ofString "10")=tx [true,false]:=by decide +kernel
theorem AR':(PySem.Str.ofString "0")=tx [false]:=by decide +kernel
theorem AS':(PySem.Str.ofString "1")=tx [true]:=by decide +kernel
theorem vj':(PySem.Str.ofString "")=tx []:=by decide +kernel
theorem pw' {c:Bool}:PySem.intText? (tx [c])=some (if c then 1 else 0):=by cases c<;>decide +kernel
set_option tactic.hygienic true in
theorem px' {a:List Bool} {n:Nat}:Txt.mul (tx a) n=tx (aP n a).flatten:=by
 unfold Txt.mul
 have key:∀(n:Nat) (acc:List Bool),(aP n (tx a).cps).foldl (·++·) (tx acc).cps=(tx (acc++(aP n a).flatten)).cps:=by
  intro n
  induction n with
  |zero=>intro acc;simp
  |succ n ih=>
   intro acc
   rw[bT,List.foldl_cons]
   have e:(tx acc).cps++(tx a).cps=(tx (acc++a)).cps:=congrArg Str.cps (i9' (a:=acc) (b:=a))
   rw[e,ih,bT,bF,aS]
 split
 .have:n=0:=by omega
  subst this
  rfl
 .split
  .rename_i h1 h2
   simp only[cc,beq_iff_eq]at h2
   rcases h2 with h2|h2
   .have:n=1:=by omega
    subst this
    simp
   .rw[bO']at h2
    have e:a=[]:=bx.mp h2
    subst e
    congr 1
    induction n with
    |zero=>rfl
    |succ n ih=>simp
  .have:=key n []
   show(⟨_⟩:Str)=_
   simp only[aZ]
   exact congrArg Str.mk (this.trans (by rw[List.nil_append];rfl))
theorem lN' {a:List Bool} {n:Nat} (h:n<=a.length):Txt.slice (tx a) none (some (n:Int))=tx (a.take n):=by
 have e:=slice_closes_to (x:=tx a) (j:=n) ⟨by omega,by rw[en',ac];omega⟩
 rw[eq_of_beq e,en']
 simp[tx,List.map_take]
theorem q9' {a:List Bool} {n:Nat} (h:n<=a.length):Txt.slice (tx a) (some (n:Int)) none=tx (a.drop n):=by
 have e:=slice_closes_from (x:=tx a) (i:=n) ⟨by omega,by rw[en',ac];omega⟩
 rw[eq_of_beq e,en']
 have e2:((List.map cb a).length:Int)-(n:Int)=((a.length-n:Nat):Int):=by rw[ac];omega
 rw[e2]
 simp only[aZ,tx,List.map_drop]
 rw[bb (by simp)]
theorem dQ' (s:Str) (c:Nat) (hi limit:Nat):∀(n lo:Nat) (st:Array Nat×Nat),st.2<=lo->lo+n<=hi+1->hi=s.cps.size->st.1.size+n<=limit ->
  (forIn (List.range' lo n) st (StrLaws.occBody s ⟨#[c]⟩ hi limit)).run.fst.size=st.1.size+((s.cps.toList.drop lo).take n).count c
 |0,lo,st,h1,h2,h3,h4=>by
  simp
 |n+1,lo,st,h1,h2,h3,h4=>by
  rw[List.range'_succ,List.forIn_cons]
  by_cases hlt2:lo<s.cps.size
  .have hlt:lo<s.cps.toList.length:=by rw[ak];omega
   have ed:(s.cps.toList.drop lo).take (n+1)=s.cps.toList[lo] :: (s.cps.toList.drop (lo+1)).take n:=by
    rw[cn hlt,List.take_succ_cons]
   have hsub:Builtin.Str.subAt s ⟨#[c]⟩ lo=decide (s.cps.toList[lo]=c):=by
    unfold Builtin.Str.subAt
    have e1:s.cps.extract lo (lo+(⟨#[c]⟩:Str).length)=#[s.cps[lo]]:=by
     show s.cps.extract lo (lo+1)=_
     apply Array.ext
     .simp;omega
     .intro i h1 h2
      have:i=0:=by simp at h2;omega
      subst this
      simp
    rw[e1]
    by_cases hc:s.cps[lo]=c
    .simp[hc]
    .simp[hc]
   unfold StrLaws.occBody
   by_cases hc:s.cps.toList[lo]=c
   .have cond:((st.fst.size<limit/\st.snd<=lo)/\lo+(⟨#[c]⟩:Str).length<=hi)/\Builtin.Str.subAt s ⟨#[c]⟩ lo=true:=⟨⟨⟨by omega,h1⟩,by show lo+1<=hi;omega⟩,by rw[hsub];exact decide_eq_true hc⟩
    rw[if_pos cond]
    have ih:=dQ' s c hi limit n (lo+1) (st.fst.push lo,lo+(⟨#[c]⟩:Str).length) (ae _) (by omega) h3 (by simp;omega)
    refine ih.trans ?_
    rw[ed,List.count_cons,hc]
    simp
    omega
   .have cond:¬(((st.fst.size<limit/\st.snd<=lo)/\lo+(⟨#[c]⟩:Str).length<=hi)/\Builtin.Str.subAt s ⟨#[c]⟩ lo=true):=fun h=>hc (of_decide_eq_true (hsub ▸ h.2))
    rw[if_neg cond]
    have ih:=dQ' s c hi limit n (lo+1) (st.fst,st.snd) (by show st.snd<=lo+1;omega) (by omega) h3 (by show st.fst.size+n<=limit;omega)
    refine ih.trans ?_
    rw[ed,List.count_cons_of_ne hc]
  .have cond:¬(((st.fst.size<limit/\st.snd<=lo)/\lo+(⟨#[c]⟩:Str).length<=hi)/\Builtin.Str.subAt s ⟨#[c]⟩ lo=true):=fun h=>by
    have:lo+1<=hi:=h.1.2
    omega
   unfold StrLaws.occBody
   rw[if_neg cond]
   have ih:=dQ' s c hi limit n (lo+1) (st.fst,st.snd) (by show st.snd<=lo+1;omega) (by omega) h3 (by show st.fst.size+n<=limit;omega)
   refine ih.trans ?_
   rw[cF (by rw[ak];omega),cF (by rw[ak];omega)]
   simp
theorem ja' {a:List Bool} {c:Bool}:(Builtin.Str.occurrences (tx a) (tx [c]) 0 (tx a).length ((tx a).length+1)).length=a.count c:=by
 rw[StrLaws.occ_eq]
 have k:=dQ' (tx a) (cb c) (tx a).length ((tx a).length+1) ((tx a).length+1-0) 0 (#[],0) (ae _) (by omega) rfl (by simp)
 have e2:(⟨#[cb c]⟩:Str)=tx [c]:=rfl
 rw[e2]at k
 rw[ak,k]
 simp only[List.drop_zero,en']
 rw[bb (by rw[bO'];simp)]
 simp
 rw[List.count_eq_countP,List.countP_map,List.count_eq_countP]
 congr 1
 funext x
 cases x<;>cases c<;>rfl
theorem ak' {N:List Str} {vs:List V} {n:Nat} (h:N.length=n):L2.az' N vs=vs.map some++aP (n-vs.length) none:=by subst h;rfl
section
variable {C:Rc} {σ:L2.St} {H:Hp} {Q:VK} {D:Ends} {Qb:Bool->Hp->Prop}
theorem py' {i:Nat} {v:V} {R:L2.St->Hp->Prop}:tG C (.name i) v σ H R=R (σ.set i (some v)) H:=rfl
theorem eo' {i j:Nat} {a:Addr} {x y:V} {R:L2.St->Hp->Prop} (h:SqT C.K H a [x,y]) (q:R ((σ.set i (some x)).set j (some y)) H):tG C (.tup (.cons (.name i) (.cons (.name j) .nil))) (.ref a) σ H R:=
 ⟨a,[x,y],rfl,.inl h,rfl,_,_,rfl,_,_,rfl,rfl,q⟩
theorem vk' {i j k:Nat} {a:Addr} {x y z:V} {R:L2.St->Hp->Prop} (h:SqT C.K H a [x,y,z]) (q:R (((σ.set i (some x)).set j (some y)).set k (some z)) H):tG C (.tup (.cons (.name i) (.cons (.name j) (.cons (.name k) .nil)))) (.ref a) σ H R:=
 ⟨a,[x,y,z],rfl,.inl h,rfl,_,_,rfl,_,_,rfl,_,_,rfl,rfl,q⟩
def ra' (C:Rc) (t:Ct) (b:Css) (D:Ends) (σ:L2.St) (J:It) (H1:Hp):Prop:=∃W:Nat->Nat->L2.St->Hp->Prop,(∃m,W 0 m σ H1)/\∀i m σ H,W i m σ H->
 (J.stop i H/\D.nx σ H)\/(J.go i H/\∃N:L2.St->Hp->Prop,(∀σ' H',N σ' H'->∃m',m'<m/\W (i+1) m' σ' H')/\∀x H',J.yld i H x H'->tG C t x σ H' fun σ2 H2=>tSs C b { D with nx:=N,ct:=N,bk:=D.nx } σ2 H2)
theorem yU' {t:Ct} {it:Ci} {b:Css}:tS C (.for_ t it b) D σ H=tI C it σ H (ra' C t b D σ):=rfl
def kIv (C:Rc) (R:It->Hp->Prop):VK:=fun x H1=>
 (∃a,x=.ref a/\(∃xs,SqL C.K H1 a xs)/\R (Itl C.K a) H1)\/(∃a,x=.ref a/\(∃xs,SqT C.K H1 a xs)/\R (Itt C.K a) H1)\/∃z,x=.str z/\R (Its z) H1
theorem yV' {e:Ce} {R:It->Hp->Prop}:tI C (.val e) σ H R=tE C e σ H (kIv C R):=rfl
def kR1 (R:It->Hp->Prop):VK:=fun x H1=>∃j:Int,x=.int j/\-(2 ^ 62)<=j/\j<2 ^ 62/\R (Itr 0 j.toNat) H1
theorem ob' {e:Ce} {R:It->Hp->Prop}:tI C (.range1 e) σ H R=tE C e σ H fun x H1=>∃j:Int,[x]=[.int j]/\-(2 ^ 62)<=j/\j<2 ^ 62/\R (Itr 0 j.toNat) H1:=rfl
theorem lO' {e:Ce} {R:It->Hp->Prop}:tI C (.range1 e) σ H R=tE C e σ H (kR1 R):=by
 rw[ob']
 congr 1
 funext x H1
 unfold kR1
 simp only[List.cons.injEq,and_true]
def w9' (R:It->Hp->Prop) (x:V):VK:=fun y H1=>∃i j:Int,x=.int i/\y=.int j/\(-(2 ^ 62)<=i/\i<2 ^ 62/\-(2 ^ 62)<=j/\j<2 ^ 62)/\R (Itr i (j-i).toNat) H1
def yW' (C:Rc) (σ:L2.St) (e:Ce) (R:It->Hp->Prop):VK:=fun x H1=>tE C e σ H1 (w9' R x)
theorem lP' {a b:Ce} {R:It->Hp->Prop}:tI C (.range2 a b) σ H R=tE C a σ H (yW' C σ b R):=by
 show(tE C a σ H fun x H1=>tE C b σ H1 fun y H2=>∃i j:Int,[x,y]=[.int i,.int j]/\(-(2 ^ 62)<=i/\i<2 ^ 62/\-(2 ^ 62)<=j/\j<2 ^ 62)/\R (Itr i (j-i).toNat) H2)=_
 congr 1
 funext x H1
 unfold yW'
 congr 1
 funext y H2
 unfold w9'
 simp only[List.cons.injEq,and_true,and_assoc]
theorem rb' {e:Ce} {R:It->Hp->Prop} {x:V}:yW' C σ e R x H=tE C e σ H (w9' R x):=rfl
def kZ2 (C:Rc) (R:It->Hp->Prop) (x:V):VK:=fun y H1=>∃(k j:Bool) (a b:Addr),x=.ref a/\y=.ref b/\(∃xs,Sq k C.K H1 a xs)/\(∃ys,Sq j C.K H1 b ys)/\R (As' k j C.K a b) H1
def kZ1 (C:Rc) (σ:L2.St) (e:Ce) (R:It->Hp->Prop):VK:=fun x H1=>tE C e σ H1 (kZ2 C R x)
theorem vl' {e:Ce} {R:It->Hp->Prop} {x:V}:kZ1 C σ e R x H=tE C e σ H (kZ2 C R x):=rfl
def kEn (C:Rc) (R:It->Hp->Prop):VK:=fun x H1=>(∃a,x=.ref a/\(∃xs,SqL C.K H1 a xs)/\R (Ite C.K a) H1)\/(∃z,x=.str z/\R (sO' z) H1)\/∃a,x=.ref a/\(∃xs,SqT C.K H1 a xs)/\R (wX' C.K a) H1
theorem vm' {a:Ce} {R:It->Hp->Prop}:tI C (.enum a) σ H R=tE C a σ H (kEn C R):=by
 show(tE C a σ H fun x H1=>∃y,[x]=[y]/\((∃a,y=.ref a/\(∃xs,SqL C.K H1 a xs)/\R (Ite C.K a) H1)\/(∃z,y=.str z/\R (sO' z) H1)\/∃a,y=.ref a/\(∃xs,SqT C.K H1 a xs)/\R (wX' C.K a) H1))=_
 congr 1
 funext x H1
 unfold kEn
 exact propext ⟨fun⟨y,e,q⟩=>by cases e;exact q,fun q=>⟨x,rfl,q⟩⟩
theorem lQ' {R:It->Hp->Prop} {a:Addr} {xs:List V} (h:SqL C.K H a xs) (q:R (Ite C.K a) H):kEn C R (.ref a) H:=.inl ⟨a,rfl,⟨xs,h⟩,q⟩
theorem lR' {R:It->Hp->Prop} {z:Str} (q:R (sO' z) H):kEn C R (.str z) H:=.inr (.inl ⟨z,rfl,q⟩)
theorem fh' {R:It->Hp->Prop} {z:Str} (q:R (Its z) H):kIv C R (.str z) H:=.inr (.inr ⟨z,rfl,q⟩)
theorem aL' {R:It->Hp->Prop} {a:Addr} {xs:List V} (h:SqL C.K H a xs) (q:R (Itl C.K a) H):kIv C R (.ref a) H:=.inl ⟨a,rfl,⟨xs,h⟩,q⟩
theorem hC' {R:It->Hp->Prop} {a:Addr} {xs:List V} (h:SqT C.K H a xs) (q:R (Itt C.K a) H):kIv C R (.ref a) H:=.inr (.inl ⟨a,rfl,⟨xs,h⟩,q⟩)
theorem yX' {R:It->Hp->Prop} {j:Int} (h0:-(2 ^ 62)<=j) (h1:j<2 ^ 62) (q:R (Itr 0 j.toNat) H):kR1 R (.int j) H:=⟨j,rfl,h0,h1,q⟩
theorem vn' {R:It->Hp->Prop} {i j:Int} (h0:-(2 ^ 62)<=i) (h1:i<2 ^ 62) (h2:-(2 ^ 62)<=j) (h3:j<2 ^ 62) (q:R (Itr i (j-i).toNat) H):w9' R (.int i) (.int j) H:=⟨i,j,rfl,rfl,⟨h0,h1,h2,h3⟩,q⟩
theorem yY' {a:Addr} {xs:List V} {t:Ct} {b:Css} (Pv:Nat->L2.St->Hp->Prop) (h0:Pv 0 σ H) (hl:∀i σ H,i<=xs.length->Pv i σ H->SqL C.K H a xs)
  (hs:∀i x σ H,xs[i]?=some x->Pv i σ H->tG C t x σ H (tSs C b { D with nx:=Pv (i+1),ct:=Pv (i+1),bk:=D.nx })) (hd:∀σ H,Pv xs.length σ H->D.nx σ H):ra' C t b D σ (Itl C.K a) H:=m9' Pv h0 hl hs hd
theorem vo' {lo:Int} {n:Nat} {t:Ct} {b:Css} (Pv:Nat->L2.St->Hp->Prop) (h0:Pv 0 σ H)
  (hs:∀i σ H,i<n->Pv i σ H->tG C t (.int (lo+i)) σ H (tSs C b { D with nx:=Pv (i+1),ct:=Pv (i+1),bk:=D.nx })) (hd:∀σ H,Pv n σ H->D.nx σ H):ra' C t b D σ (Itr lo n) H:=kk' Pv h0 hs hd
theorem yZ' {z:Str} {t:Ct} {b:Css} (Pv:Nat->L2.St->Hp->Prop) (h0:Pv 0 σ H)
  (hs:∀i c σ H,z.cps[i]?=some c->Pv i σ H->tG C t (.str ⟨#[c]⟩) σ H (tSs C b { D with nx:=Pv (i+1),ct:=Pv (i+1),bk:=D.nx })) (hd:∀σ H,Pv z.cps.size σ H->D.nx σ H):ra' C t b D σ (Its z) H:=by
 refine⟨fun i m σ H=>m=z.cps.size-i/\i<=z.cps.size/\Pv i σ H,⟨z.cps.size,by simp,aM _,h0⟩,?_⟩
 rintro i m σ H ⟨rfl,hi,p⟩
 by_cases hlt:i<z.cps.size
 .refine .inr ⟨hlt,Pv (i+1),fun σ' H' p'=>⟨z.cps.size-(i+1),by omega,rfl,hlt,p'⟩,fun x H' y=>?_⟩
  obtain⟨e,c,hc,rfl⟩:=y
  subst e
  exact hs i c σ _ hc p
 .have e:i=z.cps.size:=by omega
  subst e
  exact .inl ⟨ae _,hd σ H p⟩
theorem ix' {l:List Bool} {t:Ct} {b:Css} (Pv:Nat->L2.St->Hp->Prop) (h0:Pv 0 σ H)
  (hs:∀i c σ H p,l[i]?=some c->H p=none->Pv i σ H->tG C t (.ref p) σ (upd H p (.tup [.int i,.str (tx [c])])) (tSs C b { D with nx:=Pv (i+1),ct:=Pv (i+1),bk:=D.nx })) (hd:∀σ H,Pv l.length σ H->D.nx σ H):ra' C t b D σ (sO' (tx l)) H:=by
 refine⟨fun i m σ H=>m=l.length-i/\i<=l.length/\Pv i σ H,⟨l.length,by simp,aM _,h0⟩,?_⟩
 rintro i m σ H ⟨rfl,hi,p⟩
 by_cases hlt:i<l.length
 .refine .inr ⟨(show i<(tx l).cps.size by rw[fg'];exact hlt),Pv (i+1),fun σ' H' p'=>⟨l.length-(i+1),by omega,rfl,hlt,p'⟩,fun x H' y=>?_⟩
  obtain⟨ad,v,rfl,hn,⟨c,hc,rfl⟩,rfl⟩:=y
  rw[lM',af hlt]at hc
  cases hc
  exact hs i l[i] σ _ ad (af hlt) hn p
 .have e:i=l.length:=by omega
  subst e
  exact .inl ⟨(show(tx l).cps.size=l.length from fg'),hd σ H p⟩
theorem pz' {l:List Bool} {t:Ct} {b:Css} (Pv:Nat->L2.St->Hp->Prop) (h0:Pv 0 σ H)
  (hs:∀i c σ H,l[i]?=some c->Pv i σ H->tG C t (.str (tx [c])) σ H (tSs C b { D with nx:=Pv (i+1),ct:=Pv (i+1),bk:=D.nx })) (hd:∀σ H,Pv l.length σ H->D.nx σ H):ra' C t b D σ (Its (tx l)) H:=by
 refine yZ' Pv h0 (fun i c σ H hc p=>?_) fun σ H p=>hd σ H (by rw[fg']at p;exact p)
 rw[lM']at hc
 cases hl:l[i]? with
 |none=>rw[hl]at hc;cases hc
 |some d=>
  rw[hl]at hc
  cases hc
  exact hs i d σ H hl p
def xa' (C:Rc) (b:Css) (D:Ends) (N:L2.St->Hp->Prop) (σ:L2.St):Bool->Hp->Prop:=fun c H1=>if c=true then ∃N':L2.St->Hp->Prop,(∀σ' H',N' σ' H'->N σ' H')/\tSs C b { D with nx:=N',ct:=N',bk:=D.nx } σ H1 else D.nx σ H1
theorem lS' {q:Cq} {b:Css} (Pv:Nat->L2.St->Hp->Prop) (m:Nat) (h0:Pv m σ H) (hs:∀m σ H,Pv m σ H->tQ C q σ H (xa' C b D (fun σ' H'=>∃m',m'<m/\Pv m' σ' H') σ)):tS C (.whl q b) D σ H:=⟨Pv,⟨m,h0⟩,hs⟩
theorem lT' {b:Css} {N:L2.St->Hp->Prop} (h:tSs C b { D with nx:=N,ct:=N,bk:=D.nx } σ H):xa' C b D N σ true H:=⟨N,fun _ _ q=>q,h⟩
theorem lU' {b:Css} {N:L2.St->Hp->Prop} (h:D.nx σ H):xa' C b D N σ false H:=by unfold xa';rw[if_neg (by decide)];exact h
def hD' (xs:List V) (P:List V->Hp->Prop):VK:=fun v H=>xs.length<sizeLine/\P (xs++[v]) H
def kCT (C:Rc) (elt:Ce) (xs:List V) (P:List V->Hp->Prop) (σ:L2.St):Bool->Hp->Prop:=fun ok H=>if ok=true then tE C elt σ H (hD' xs P)else P xs H
def kCG (C:Rc) (elt:Ce) (q:Cqo) (xs:List V) (P:List V->Hp->Prop):L2.St->Hp->Prop:=fun σ H=>tQo C q σ H (kCT C elt xs P σ)
theorem y0' {elt:Ce} {xs:List V} {P:List V->Hp->Prop}:kCG C elt .none xs P σ H=tE C elt σ H (hD' xs P):=rfl
theorem y1' {elt:Ce} {q:Cq} {xs:List V} {P:List V->Hp->Prop}:kCG C elt (.some q) xs P σ H=tQ C q σ H (kCT C elt xs P σ):=rfl
theorem y2' {elt:Ce} {xs:List V} {P:List V->Hp->Prop}:kCT C elt xs P σ true H=tE C elt σ H (hD' xs P):=rfl
theorem y3' {elt:Ce} {xs:List V} {P:List V->Hp->Prop}:kCT C elt xs P σ false H=P xs H:=rfl
theorem oc' {xs:List V} {P:List V->Hp->Prop} {v:V}:hD' xs P v H=(xs.length<sizeLine/\P (xs++[v]) H):=rfl
def pA' (Q:VK) (xs:List V) (H2:Hp):Prop:=∀p,H2 p=none->Q (.ref p) (upd H2 p (.lst xs))
def jV' (C:Rc) (elt:Ce) (own:List Nat) (t:Ct) (q:Cqo) (σ:L2.St) (Q:VK) (J:It) (H1:Hp):Prop:=bc' own (tG C t) (tQo C q) (eW' (tE C elt)) J σ [] H1 (pA' Q)
theorem rc' {elt:Ce} {own:List Nat} {t:Ct} {it:Ci} {q:Cqo}:tE C (.comp elt own t it q .nil) σ H Q=tI C it σ H (jV' C elt own t q σ Q):=rfl
theorem gl' {elt:Ce} {own:List Nat} {t:Ct} {q:Cqo} {J:It} {n:Nat} (Pv:Nat->List V->Hp->Prop) (h0:Pv 0 [] H) (hgo:∀i xs H,i<n->Pv i xs H->J.go i H) (hstop:∀xs H,Pv n xs H->J.stop n H)
  (hs:∀i xs H x H' (R:List V->Hp->Prop),i<n->Pv i xs H->J.yld i H x H'->(∀ys H2,Pv (i+1) ys H2->R ys H2)->tG C t x (clr own σ) H' (kCG C elt q xs R)) (hd:∀xs H,Pv n xs H->pA' Q xs H):jV' C elt own t q σ Q J H:=by
 refine⟨fun i m xs H=>m=n-i/\i<=n/\Pv i xs H,⟨n,by simp,aM _,h0⟩,?_⟩
 rintro i m xs H ⟨rfl,hi,p⟩
 by_cases hlt:i<n
 .refine .inr ⟨hgo i xs H hlt p,fun x H' y=>?_⟩
  exact hs i xs H x H' (fun c H4=>∃m',m'<n-i/\(m'=n-(i+1)/\i+1<=n/\Pv (i+1) c H4)) hlt p y fun ys H2 p2=>⟨n-(i+1),by omega,rfl,hlt,p2⟩
 .have e:i=n:=by omega
  subst e
  exact .inl ⟨hstop xs H p,hd xs H p⟩
theorem dR' {elt:Ce} {own:List Nat} {t:Ct} {q:Cqo} {a:Addr} {vs:List V} (Pv:Nat->List V->Hp->Prop) (h0:Pv 0 [] H) (hl:∀i xs H,Pv i xs H->SqL C.K H a vs)
  (hs:∀i xs H x (R:List V->Hp->Prop),vs[i]?=some x->Pv i xs H->(∀ys H2,Pv (i+1) ys H2->R ys H2)->tG C t x (clr own σ) H (kCG C elt q xs R)) (hd:∀xs H,Pv vs.length xs H->pA' Q xs H):jV' C elt own t q σ Q (Itl C.K a) H:=
 gl' (n:=vs.length) Pv h0 (fun i xs H hi p=>⟨vs,vs[i],hl i xs H p,by simp[hi]⟩) (fun xs H p=>⟨vs,hl _ xs H p,ae _⟩) (fun i xs H x H' R hi p y k=>by
  obtain⟨e,y⟩:=y
  subst e
  exact hs i xs H' x R (y vs (hl i xs H' p)) p k) hd
theorem rd' {elt:Ce} {own:List Nat} {t:Ct} {q:Cqo} {l:List Bool} (Pv:Nat->List V->Hp->Prop) (h0:Pv 0 [] H)
  (hs:∀i xs H c (R:List V->Hp->Prop),l[i]?=some c->Pv i xs H->(∀ys H2,Pv (i+1) ys H2->R ys H2)->tG C t (.str (tx [c])) (clr own σ) H (kCG C elt q xs R)) (hd:∀xs H,Pv l.length xs H->pA' Q xs H):jV' C elt own t q σ Q (Its (tx l)) H:=
 gl' (n:=l.length) Pv h0 (fun i xs H hi p=>by show i<(tx l).cps.size;rw[fg'];exact hi) (fun xs H p=>by show(tx l).cps.size<=l.length;rw[fg'];exact ae _) (fun i xs H x H' R hi p y k=>by
  obtain⟨e,c,hc,rfl⟩:=y
  subst e
  rw[lM',af hi]at hc
  cases hc
  exact hs i xs H' l[i] R (af hi) p k) hd
theorem vp' {elt:Ce} {own:List Nat} {t:Ct} {q:Cqo} {a:Addr} {vs:List V} (Pv:Nat->List V->Hp->Prop) (h0:Pv 0 [] H) (hl:∀i xs H,Pv i xs H->SqL C.K H a vs)
  (hs:∀i xs H x p (R:List V->Hp->Prop),vs[i]?=some x->H p=none->Pv i xs H->(∀ys H2,Pv (i+1) ys H2->R ys H2)->tG C t (.ref p) (clr own σ) (upd H p (.tup [.int i,x])) (kCG C elt q xs R)) (hd:∀xs H,Pv vs.length xs H->pA' Q xs H):jV' C elt own t q σ Q (Ite C.K a) H:=
 gl' (n:=vs.length) Pv h0 (fun i xs H hi p=>⟨vs,vs[i],hl i xs H p,by simp[hi]⟩) (fun xs H p=>⟨vs,hl _ xs H p,rfl⟩) (fun i xs H x H' R hi p y k=>by
  obtain⟨ad,v,rfl,hn,y,rfl⟩:=y
  exact hs i xs H v ad R (y vs (hl i xs H p)) hn p k) hd
end
section
variable {C:Rc} {K:W.Frag} {σ:L2.St} {H:Hp} {Q:VK} {D:Ends} {Qb:Bool->Hp->Prop}
theorem ag' {f:Str} {es:Ces} {sp:Sp} (h:C.fs f=some sp) (q:tA C es σ H (q3' (some sp) (C.xk σ) Q)):tE C (.call f es) σ H Q:=by
 rw[q4' h]
 exact q
theorem jW' {x:Str}:d5' K .len [.str x] H Q=(x.length<=sizeLine/\Q (.int x.length) H):=propext ⟨fun⟨u,n,e,h,q⟩=>by cases e;obtain⟨h1,h2⟩:=h;subst h2;exact⟨h1,q⟩,fun q=>⟨_,_,rfl,⟨q.1,rfl⟩,q.2⟩⟩
theorem lV' {l:List Bool}:d5' K .len [.str (tx l)] H Q=(l.length<=sizeLine/\Q (.int l.length) H):=by rw[jW',bO']
theorem gm' {a:Addr} {xs:List V} (h:SqL K H a xs) (q:Q (.int xs.length) H):d5' K .len [.ref a] H Q:=⟨_,_,rfl,.inl ⟨xs,h,rfl⟩,q⟩
theorem lW' {a:Addr} {xs:List V} (h:SqT K H a xs) (q:Q (.int xs.length) H):d5' K .len [.ref a] H Q:=⟨_,_,rfl,.inr ⟨xs,h,rfl⟩,q⟩
theorem vq' {i:Int}:d5' K .abs [.int i] H Q=Q (.int (if i<0 then -i else i)) H:=propext ⟨fun⟨u,e,q⟩=>by cases e;exact q,fun q=>⟨_,rfl,q⟩⟩
theorem jX' {i:Int}:d5' K .int [.int i] H Q=Q (.int i) H:=rfl
theorem lX' {k:Bool}:d5' K .int [.bl k] H Q=Q (.int (if k then 1 else 0)) H:=rfl
theorem lY' {c:Bool}:d5' K .int [.str (tx [c])] H Q=Q (.int (if c then 1 else 0)) H:=propext ⟨fun⟨n,e,_,q⟩=>by rw[pw']at e;cases e;exact q,fun q=>⟨_,pw',by rw[bO',cN];decide,q⟩⟩
theorem re' {i j:Int}:d5' K .max [.int i,.int j] H Q=Q (.int (if j > i then j else i)) H:=rfl
theorem rf' {i j:Int}:d5' K .min [.int i,.int j] H Q=Q (.int (if j<i then j else i)) H:=rfl
theorem pB' {a:Addr} {ns:List Int} (h:SqL K H a (ns.map V.int)) (hn:ns≠[]) (q:∀M,M∈ns->(∀b∈ns,b<=M)->Q (.int M) H):d5' K .max [.ref a] H Q:=⟨a,ns,rfl,h,hn,fun M h1 h2=>q M h1 h2⟩
theorem vr' {a:Addr} {ns:List Int} (h:SqL K H a (ns.map V.int)) (hn:ns≠[]) (q:∀M,M∈ns->(∀b∈ns,M<=b)->Q (.int M) H):d5' K .min [.ref a] H Q:=⟨a,ns,rfl,h,hn,fun M h1 h2=>q M h1 h2⟩
theorem vs' {a:Addr} {bs:List Bool} (h:SqL K H a (bs.map V.bl)) (q:Q (.bl (bs.any id)) H):d5' K .any [.ref a] H Q:=⟨a,bs,rfl,h,q⟩
theorem jb' {a:Addr} {xs:List V} {i:Int} {v:V} (h:SqL K H a xs) (e:atI xs i=some v) (q:Q v H):jD' K (.ref a) (.int i) H Q\/j9' K (.ref a) (.int i) H Q:=.inl ⟨a,xs,i,v,rfl,rfl,h,e,q⟩
theorem fR' {a:Addr} {xs:List V} {i:Int} {v:V} (h:SqT K H a xs) (e:atI xs i=some v) (q:Q v H):jD' K (.ref a) (.int i) H Q\/j9' K (.ref a) (.int i) H Q:=.inr ⟨a,xs,i,v,rfl,rfl,h,e,q⟩
theorem rg' {α β:Type} {f:α->β} {xs:List α} {i:Int}:atI (xs.map f) i=(atI xs i).map f:=by
 unfold atI
 rw[ac]
 cases ixN xs.length i with
 |none=>rfl
 |some j=>simp
theorem ea' {l:List Bool} {i:Int} {c:Bool} (hl:l.length<=sizeLine) (e:atI l i=some c) (q:Q (.str (tx [c])) H):nI' K (.str (tx l)) (.int i) H Q:=by
 refine⟨by rw[bO'];exact hl,cb c,?_,q⟩
 rw[en',rg',e]
 rfl
theorem pC' {a:Addr} {u v:V} {k:Bool} (h:SqL K H a [u,v]) (q:Q (if k then v else u) H):jD' K (.ref a) (.int (if k then 1 else 0)) H Q\/j9' K (.ref a) (.int (if k then 1 else 0)) H Q:=by
 refine jb' h ?_ q
 cases k<;>rfl
theorem rh' {a:Addr} {u v:V} {k:Bool} (h:SqT K H a [u,v]) (q:Q (if k then v else u) H):jD' K (.ref a) (.int (if k then 1 else 0)) H Q\/j9' K (.ref a) (.int (if k then 1 else 0)) H Q:=by
 refine fR' h ?_ q
 cases k<;>rfl
theorem vt' {c:Bool}:decide (tx [c]=tx [true])=c:=by
 cases c
 .exact decide_eq_false fun h=>by cases hB' h
 .exact decide_eq_true rfl
theorem vu' {c:Bool}:decide (tx [c]=tx [false])=!c:=by
 cases c
 .exact decide_eq_true rfl
 .exact decide_eq_false fun h=>by cases hB' h
theorem ri' {x y:List Bool}:g9' K .Add (.str (tx x)) (.str (tx y)) H Q=(x.length+y.length<=sizeLine/\Q (.str (tx (x++y))) H):=by
 rw[uI',bO',bO',i9']
theorem y4' {x y:V} (h:th' x y=true):cD' K .NotEq x y H Q=Q (.bl (!decide (x=y))) H:=by
 have e:cD' K .NotEq x y H Q=rNe x y H Q:=by
  unfold cD'
  dsimp only
  split
  .cases h
  .rfl
 rw[e]
 exact propext ⟨fun⟨_,q⟩=>q,fun q=>⟨h,q⟩⟩
theorem lZ' {i j:Int} (q:∀p,H p=none->Q (.ref p) (upd H p (.rng i j))):d5' K .range [.int i,.int j] H Q:=⟨i,j,.inl rfl,q⟩
theorem fi' {j:Int} (q:∀p,H p=none->Q (.ref p) (upd H p (.rng 0 j))):d5' K .range [.int j] H Q:=⟨0,j,.inr ⟨rfl,rfl⟩,q⟩
theorem gn' {r:Addr} {i j:Int} (h:H r=some (.rng i j)) (h1:-(2 ^ 62)<=i) (h2:i<2 ^ 62) (h3:-(2 ^ 62)<=j) (h4:j<2 ^ 62) (hz:(j-i).toNat<=sizeLine) (q:∀p,H p=none->Q (.ref p) (upd H p (.lst (rgs i (j-i).toNat)))):d5' K .list [.ref r] H Q:=.inr ⟨r,i,j,rfl,h,⟨h1,h2,h3,h4⟩,hz,q⟩
theorem l0' {a:Addr} {xs:List V} (h:SqL K H a xs) (q:∀p,H p=none->Q (.ref p) (upd H p (.tup xs))):d5' K .tuple [.ref a] H Q:=⟨a,xs,rfl,.inl ⟨h,q⟩⟩
theorem y5' {x y:Int}:cD' K .NotEq (.int x) (.int y) H Q=Q (.bl (!decide (x=y))) H:=by
 have e:cD' K .NotEq (.int x) (.int y) H Q=Q (.bl (!decide (V.int x=V.int y))) H:=propext ⟨fun⟨_,q⟩=>q,fun q=>⟨rfl,q⟩⟩
 rw[e]
 congr 3
 simp only[V.int.injEq]
theorem AT' {x:V}:cD' K .Is x .non H Q=Q (.bl (decide (x=.non))) H:=propext ⟨fun⟨_,q⟩=>q,fun q=>⟨rfl,q⟩⟩
theorem rj' {x:V}:cD' K .IsNot x .non H Q=Q (.bl (!decide (x=.non))) H:=propext ⟨fun⟨_,q⟩=>q,fun q=>⟨rfl,q⟩⟩
theorem rk' {l:List Bool} {c:Bool}:lm' K .countS (.str (tx l)) [.str (tx [c])] H Q=Q (.int (l.count c)) H:=propext ⟨fun⟨a,b,e1,e2,q⟩=>by
  cases e1
  cases e2
  rw[ja']at q
  exact q,fun q=>⟨_,_,rfl,rfl,by rw[ja'];exact q⟩⟩
def kG (C:Rc) (t:Ct) (D:Ends) (σ:L2.St):VK:=fun v H=>tG C t v σ H D.nx
theorem od' {t:Ct} {e:Ce}:tS C (.asg t e) D σ H=tE C e σ H (kG C t D σ):=rfl
theorem rl' {i j k:Nat} {a:Addr} {x y z:V} (h:SqT C.K H a [x,y,z]) (q:D.nx (((σ.set i (some x)).set j (some y)).set k (some z)) H):kG C (.tup (.cons (.name i) (.cons (.name j) (.cons (.name k) .nil)))) D σ (.ref a) H:=vk' h q
theorem y6' {i j:Nat} {a b:Ce}:tS C (.par i j a b) D σ H=tE C a σ H (q8' C σ i j b D):=by
 show(tE C a σ H fun x H1=>tE C b σ H1 fun y H2=>∃v w,[x,y]=[v,w]/\D.nx ((σ.set i (some v)).set j (some w)) H2)=_
 congr 1
 funext x H1
 unfold q8'
 congr 1
 funext y H2
 exact propext ⟨fun⟨v,w,e,q⟩=>by cases e;exact q,fun q=>⟨x,y,rfl,q⟩⟩
theorem fj' {a:Addr} {xs:List V} {y:V} (h:H a=some (.lst xs)) (hz:xs.length<sizeLine) (q:Q .non (upd H a (.lst (xs++[y])))):lm' K .append (.ref a) [y] H Q:=⟨a,xs,y,rfl,rfl,h,hz,q⟩
theorem tyL {a:Addr} {xs:List V} {m:Mf} (h:H a=some (.lst xs)) (hm:ha' m="list"):tyV K (ha' m) (.ref a) H:=.inl ⟨hm,xs,SqL.of h⟩
theorem ae' {H:Hp} {p:Addr} (h:H p=none) (o:HO):aB' H (upd H p o):=fun b u q=>by rw[af' (av' q h)];exact q
theorem ao' {α:Type} {l:List α} {i:Nat} {c:α} (hc:l[i]?=some c):i<l.length:=by
 rcases bA i l.length with h|h
 .exact h
 .rw[aJ.mpr h]at hc;cases hc
def Aa' (x:V) (Q:VK):VK:=fun y H=>∃a v,x=.ref a/\h4' H a y (some v)/\Q v H
def AU' (C:Rc) (σ:L2.St) (b:Ce) (Q:VK):VK:=fun x H=>tE C b σ H (Aa' x Q)
theorem rm' {b:Ce} {x:V}:AU' C σ b Q x H=tE C b σ H (Aa' x Q):=rfl
theorem vv' {x y:List Bool}:cD' K .NotEq (.str (tx x)) (.str (tx y)) H Q=Q (.bl (!decide (x=y))) H:=by
 rw[y4' rfl]
 congr 3
 apply decide_eq_decide.mpr
 simp only[V.str.injEq]
 exact⟨hB',fun h=>by rw[h]⟩
end
end R3
namespace R3
open PySem PySem.Spec PyProof.Rows L2 PySem.Builtin PySem.Builtin.Str
theorem rn':∀{ls:List (List Bool)},Txt.join (tx []) (ls.map tx)=tx ls.flatten:=by
 intro ls
 unfold Txt.join
 rw[StrLaws.glued_eq_join]
 induction ls with
 |nil=>rfl
 |cons l r ih=>
  cases r with
  |nil=>simp[Str.join]
  |cons y r=>
   rw[aH,aH]
   show tx l++tx []++Str.join (tx []) (List.map tx (y :: r))=_
   rw[ih,i9',i9']
   simp
section
variable {K:W.Frag} {H:Hp} {Q:VK}
theorem eb' {a:Addr} {ls:List (List Bool)} (h:SqL K H a (ls.map fun l=>V.str (tx l))) (hz:ls.flatten.length<=16000000) (q:Q (.str (tx ls.flatten)) H):lm' K .join (.str (tx [])) [.ref a] H Q:=by
 refine⟨tx [],a,ls.map tx,rfl,rfl,.inl (by rw[ck];exact h),?_,by rw[rn'];exact q⟩
 have e:((ls.map tx).map (·.length)).sum=ls.flatten.length:=by
  rw[ck,List.length_flatten]
  congr 1
  apply bX
  intro l _
  exact bO'
 rw[e,bO',bN,Nat.mul_zero]
 omega
theorem go' {l:List Bool} {a b:Nat} (h1:a<=b) (h2:b<=l.length):Txt.slice (tx l) (some (a:Int)) (some (b:Int))=tx ((l.drop a).take (b-a)):=by
 have e:=slice_closes (x:=tx l) (i:=a) (j:=b) ⟨by omega,by omega,by rw[en',ac];omega⟩
 rw[eq_of_beq e,en']
 rw[show((b:Int)-(a:Int)).toNat=b-a by omega,aZ]
 simp[tx,List.map_take,List.map_drop]
theorem hE' {n:Nat} {i j:Int} (h:(n:Int)<=j):strSliceIndices (some i) (some j) 1 n=strSliceIndices (some i) (some (n:Int)) 1 n:=by
 have h0:¬j<0:=by omega
 have h1:¬((n:Int)<0):=by omega
 have h2:(1:Int) > 0:=by decide
 simp only[strSliceIndices,h0,h1,h2,if_false,if_true,Int.min_eq_right h,Int.min_self]
theorem ro' {l:List Bool} {a:Nat}:Txt.slice (tx l) (some (a:Int)) none=tx (l.drop a):=by
 rcases Nat.le_total a l.length with h|h
 .exact q9' h
 .rw[slice_beyond (by rw[bO'];omega),cF h]
  rfl
end
section
variable {C:Rc} {K:W.Frag} {σ:L2.St} {H:Hp} {Q:VK} {D:Ends} {Qb:Bool->Hp->Prop} {i j:Int}
theorem oe' {n:Int}:w8' C Qb (.int n) H=Qb (!decide (n=0)) H:=by
 have e:(n != 0)=!decide (n=0):=by
  by_cases h:n=0
  .subst h;rfl
  .rw[decide_eq_false h];simpa using h
 exact propext ⟨fun⟨u,h,q⟩=>by
  have h:u=(n != 0):=h
  subst h
  rw[e]at q
  exact q,fun q=>⟨n != 0,rfl,by rw[e];exact q⟩⟩
theorem iy' {a:Addr} {xs:List V} (h:SqL C.K H a xs) (q:Qb (!xs.isEmpty) H):w8' C Qb (.ref a) H:=⟨_,.inl ⟨xs,h,rfl⟩,q⟩
theorem iz' {i:Nat} {e:Ce} {r:Css} (h:∀K:VK,(∀v H',tSs C r D (σ.set i (some v)) H'->K v H')->tE C e σ H K):tSs C (.cons (.asg (.name i) e) r) D σ H:=h _ fun _ _ q=>q
theorem rp' {s:Cs} {r:Css} (h:∀N:L2.St->Hp->Prop,(∀σ' H',tSs C r D σ' H'->N σ' H')->tS C s { D with nx:=N } σ H):tSs C (.cons s r) D σ H:=h _ fun _ _ q=>q
def xb' (R:It->Hp->Prop) (x y:V):VK:=fun z H1=>∃i j c:Int,x=.int i/\y=.int j/\z=.int c/\(-(2 ^ 60)<=i/\i<2 ^ 60/\-(2 ^ 60)<=j/\j<2 ^ 60/\(0<c/\c<2 ^ 29\/c=-1))/\R (Itc i c (eZ' i j c)) H1
def xc' (C:Rc) (σ:L2.St) (e:Ce) (R:It->Hp->Prop) (x:V):VK:=fun y H1=>tE C e σ H1 (xb' R x y)
def y7' (C:Rc) (σ:L2.St) (e e':Ce) (R:It->Hp->Prop):VK:=fun x H1=>tE C e σ H1 (xc' C σ e' R x)
theorem l1' {a b c:Ce} {R:It->Hp->Prop}:tI C (.range3 a b c) σ H R=tE C a σ H (y7' C σ b c R):=by
 show(tE C a σ H fun x H1=>tE C b σ H1 fun y H2=>tE C c σ H2 fun z H3=>∃i j c:Int,[x,y,z]=[.int i,.int j,.int c]/\(-(2 ^ 60)<=i/\i<2 ^ 60/\-(2 ^ 60)<=j/\j<2 ^ 60/\(0<c/\c<2 ^ 29\/c=-1))/\R (Itc i c (eZ' i j c)) H3)=_
 congr 1
 funext x H1
 unfold y7'
 congr 1
 funext y H2
 unfold xc'
 congr 1
 funext z H3
 unfold xb'
 simp only[List.cons.injEq,and_true,and_assoc]
theorem rq' {e e':Ce} {R:It->Hp->Prop} {x:V}:y7' C σ e e' R x H=tE C e σ H (xc' C σ e' R x):=rfl
theorem rr' {e:Ce} {R:It->Hp->Prop} {x y:V}:xc' C σ e R x y H=tE C e σ H (xb' R x y):=rfl
theorem y8' {R:It->Hp->Prop} {i j c:Int} (h0:-(2 ^ 60)<=i) (h1:i<2 ^ 60) (h2:-(2 ^ 60)<=j) (h3:j<2 ^ 60) (h4:0<c) (h5:c<2 ^ 29) (q:R (Itc i c (ew' i j c)) H):xb' R (.int i) (.int j) (.int c) H:=⟨i,j,c,rfl,rfl,rfl,⟨h0,h1,h2,h3,.inl ⟨h4,h5⟩⟩,by rw[gU' h4];exact q⟩
def kRv (C:Rc) (R:It->Hp->Prop):VK:=fun x H1=>w0' C.K x H1 R
theorem y9' {a:Ce} {R:It->Hp->Prop}:tI C (.rev a) σ H R=tE C a σ H (kRv C R):=by
 show(tE C a σ H fun x H1=>∃y,[x]=[y]/\w0' C.K y H1 R)=_
 congr 1
 funext x H1
 exact propext ⟨fun⟨y,e,q⟩=>by cases e;exact q,fun q=>⟨x,rfl,q⟩⟩
theorem vw' {R:It->Hp->Prop} {p:Addr} {i j:Int} (h:H p=some (.rng i j)) (h0:-(2 ^ 62)<=i) (h1:i<2 ^ 62) (h2:-(2 ^ 62)<=j) (h3:j<2 ^ 62) (q:R (Itc (i+((j-i).toNat:Int)-1) (-1) (j-i).toNat) H):kRv C R (.ref p) H:=.inl ⟨p,i,j,rfl,h,⟨h0,h1,h2,h3⟩,q⟩
theorem za' {lo c:Int} {n:Nat} {t:Ct} {b:Css} (Pv:Nat->L2.St->Hp->Prop) (h0:Pv 0 σ H)
  (hs:∀i σ H,i<n->Pv i σ H->tG C t (.int (lo+i*c)) σ H (tSs C b { D with nx:=Pv (i+1),ct:=Pv (i+1),bk:=D.nx })) (hd:∀σ H,Pv n σ H->D.nx σ H):ra' C t b D σ (Itc lo c n) H:=by
 refine⟨fun i m σ H=>m=n-i/\i<=n/\Pv i σ H,⟨n,by simp,aM _,h0⟩,?_⟩
 rintro i m σ H ⟨rfl,hi,p⟩
 by_cases hlt:i<n
 .refine .inr ⟨hlt,Pv (i+1),fun σ' H' p'=>⟨n-(i+1),by omega,rfl,hlt,p'⟩,fun x H' y=>?_⟩
  obtain⟨e,rfl⟩:=y
  subst e
  exact hs i σ _ hlt p
 .have e:i=n:=by omega
  subst e
  exact .inl ⟨ae _,hd σ H p⟩
theorem vx' {elt:Ce} {own:List Nat} {t:Ct} {q:Cqo} {lo c:Int} {n:Nat} (Pv:Nat->List V->Hp->Prop) (h0:Pv 0 [] H)
  (hs:∀i xs H (R:List V->Hp->Prop),i<n->Pv i xs H->(∀ys H2,Pv (i+1) ys H2->R ys H2)->tG C t (.int (lo+i*c)) (clr own σ) H (kCG C elt q xs R)) (hd:∀xs H,Pv n xs H->pA' Q xs H):jV' C elt own t q σ Q (Itc lo c n) H:=
 gl' (n:=n) Pv h0 (fun i xs H hi p=>hi) (fun xs H p=>ae _) (fun i xs H x H' R hi p y k=>by
  obtain⟨e,rfl⟩:=y
  subst e
  exact hs i xs H' R hi p k) hd
def zb' (C:Rc) (elt:Ce) (ws:List Nat) (t2:Ct) (q2:Cqo) (xs:List V) (P:List V->Hp->Prop) (σ:L2.St) (J:It) (H1:Hp):Prop:=bc' ws (tG C t2) (tQo C q2) (eW' (tE C elt)) J σ xs H1 P
def xd' (C:Rc) (elt:Ce) (ws:List Nat) (t2:Ct) (it2:Ci) (q2:Cqo) (xs:List V) (P:List V->Hp->Prop) (σ:L2.St):Bool->Hp->Prop:=fun ok H=>if ok=true then tI C it2 σ H (zb' C elt ws t2 q2 xs P σ)else P xs H
def Ab' (C:Rc) (elt:Ce) (q:Cqo) (ws:List Nat) (t2:Ct) (it2:Ci) (q2:Cqo) (xs:List V) (P:List V->Hp->Prop):L2.St->Hp->Prop:=fun σ H=>tQo C q σ H (xd' C elt ws t2 it2 q2 xs P σ)
theorem vy' {elt:Ce} {ws:List Nat} {t2:Ct} {it2:Ci} {q2:Cqo} {xs:List V} {P:List V->Hp->Prop}:Ab' C elt .none ws t2 it2 q2 xs P σ H=tI C it2 σ H (zb' C elt ws t2 q2 xs P σ):=rfl
theorem vz' {elt:Ce} {q:Cq} {ws:List Nat} {t2:Ct} {it2:Ci} {q2:Cqo} {xs:List V} {P:List V->Hp->Prop}:Ab' C elt (.some q) ws t2 it2 q2 xs P σ H=tQ C q σ H (xd' C elt ws t2 it2 q2 xs P σ):=rfl
theorem vA' {elt:Ce} {ws:List Nat} {t2:Ct} {it2:Ci} {q2:Cqo} {xs:List V} {P:List V->Hp->Prop}:xd' C elt ws t2 it2 q2 xs P σ true H=tI C it2 σ H (zb' C elt ws t2 q2 xs P σ):=rfl
theorem vB' {elt:Ce} {ws:List Nat} {t2:Ct} {it2:Ci} {q2:Cqo} {xs:List V} {P:List V->Hp->Prop}:xd' C elt ws t2 it2 q2 xs P σ false H=P xs H:=rfl
def vC' (C:Rc) (elt:Ce) (own:List Nat) (t:Ct) (q:Cqo) (ws:List Nat) (t2:Ct) (it2:Ci) (q2:Cqo) (σ:L2.St) (Q:VK) (J:It) (H1:Hp):Prop:=bc' own (tG C t) (tQo C q) (ic' (tI C it2) (bc' ws (tG C t2) (tQo C q2) (eW' (tE C elt)))) J σ [] H1 (pA' Q)
theorem of' {elt:Ce} {own:List Nat} {t:Ct} {it:Ci} {q:Cqo} {ws:List Nat} {t2:Ct} {it2:Ci} {q2:Cqo}:tE C (.comp elt own t it q (.cons ws t2 it2 q2 .nil)) σ H Q=tI C it σ H (vC' C elt own t q ws t2 it2 q2 σ Q):=rfl
end
def d0' {α β:Type} (R:α->β->Prop):List α->List β->Prop
 | [],[]=>True
 |a :: as,b :: bs=>R a b/\d0' R as bs
 |_,_=>False
section
variable {α β:Type} {R S:α->β->Prop}
theorem d0'.mono (h:∀a b,R a b->S a b):∀{as:List α} {bs:List β},d0' R as bs->d0' S as bs
 | [],[],_=>trivial
 |_ :: _,_ :: _,q=>⟨h _ _ q.1,d0'.mono h q.2⟩
 | [],_ :: _,q=>q.elim
 |_ :: _,[],q=>q.elim
theorem d0'.len:∀{as:List α} {bs:List β},d0' R as bs->as.length=bs.length
 | [],[],_=>rfl
 |_ :: _,_ :: _,q=>by simp[d0'.len q.2]
 | [],_ :: _,q=>q.elim
 |_ :: _,[],q=>q.elim
theorem d0'.app:∀{as cs:List α} {bs ds:List β},d0' R as bs->d0' R cs ds->d0' R (as++cs) (bs++ds)
 | [],_,[],_,_,q=>q
 |_ :: _,_,_ :: _,_,p,q=>⟨p.1,d0'.app p.2 q⟩
 | [],_,_ :: _,_,p,_=>p.elim
 |_ :: _,_,[],_,p,_=>p.elim
theorem d0'.snoc {a:α} {b:β} {as:List α} {bs:List β} (h:d0' R as bs) (r:R a b):d0' R (as++[a]) (bs++[b]):=h.app ⟨r,trivial⟩
theorem d0'.getL:∀{as:List α} {bs:List β} {i:Nat} {a:α},d0' R as bs->as[i]?=some a->∃b,bs[i]?=some b/\R a b
 | [],[],_,_,_,e=>by cases e
 |_ :: _,b :: _,0,_,q,e=>by cases e;exact⟨b,rfl,q.1⟩
 |_ :: as,_ :: bs,i+1,a,q,e=>by
  obtain⟨b,h1,h2⟩:=d0'.getL (i:=i) (a:=a) q.2 (by simpa using e)
  exact⟨b,by simpa using h1,h2⟩
 | [],_ :: _,_,_,q,_=>q.elim
 |_ :: _,[],_,_,q,_=>q.elim
end
section
variable {C:Rc} {σ:L2.St} {H:Hp} {Q:VK} {D:Ends}
structure ClsG (C:Rc) (r:Str) (Cr:Addr) (L:List Str):Prop where
 own:C.cl r=some Cr
 e:∃Ce,C.cl "RunError"=some Ce/\W.exmOne C.K (.ref Cr) (.ref Ce)=some true
 ex:W.excIn C.K Cr bmV "ValueError.__new__"=true
 x:XCls C.K Cr
 kv:W.kitOne C.K (.ref Cr) (.type "ValueError")=some true
 k:∀c∈L,∃Cc,C.cl c=some Cc/\W.kitOne C.K (.ref Cr) (.ref Cc)=some (decide (c=r))
end
def aw' (l:List (Str×Sp)) (y:Str):Option Sp:=l.lookup y
theorem ab' {x:Str} {s:Sp} {l:List (Str×Sp)}:aw' ((x,s) :: l) x=some s:=by unfold aw';simp
theorem aa' {x y:Str} {s:Sp} {l:List (Str×Sp)} (h:(y == x)=false):aw' ((x,s) :: l) y=aw' l y:=by
 unfold aw'
 rw[bu,h]
theorem fS' {y:Str} {s:Sp}:∀{l:List (Str×Sp)},aw' l y=some s->(y,s)∈l
 | [],h=>by cases h
 |(x,t) :: l,h=>by
  unfold aw' at h
  rw[bu]at h
  cases e:y == x with
  |true=>
   rw[e]at h
   cases h
   rw[eq_of_beq e]
   exact aG ..
  |false=>
   rw[e]at h
   exact aB _ (fS' h)
theorem aq' {P:Program} {w:World} {K:W.Frag} {mg:Str->Option Value} {base:Heap} {k:Nat} {l:List (Str×Sp)} (h:∀p∈l,∃f' fd' ps',FnOk P w K mg base CX0 k f' fd' ps' p.2/\mg p.1=some (.ref f')/\W.keepIn K (.ref f')=true/\fv' K fd' ps' []):
  ∀y sp',aw' l y=some sp'->∃f' fd' ps',FnOk P w K mg base CX0 k f' fd' ps' sp'/\mg y=some (.ref f')/\W.keepIn K (.ref f')=true/\fv' K fd' ps' []:=fun y sp' e=>h (y,sp') (fS' e)
theorem ai' {P:Program} {w:World} {K:W.Frag} {mg:Str->Option Value} {base:Heap} {x qual:Str} {st:Stmt} {f:Addr} {fd:FuncData} {ps:List Str} {k:Nat} {sp:Sp} (F:Fun K x qual st f fd) (C:Rc) (S:FnScope C.N ps (ac' st)) (hK:C.K=K) (code:Css) (hm:mSs C.N C.B (ac' st) code (aj' st)=true)
  (len:∀vs H Q E,sp vs H Q E->vs.length=ps.length)
  (hfs:∀y sp',C.fs y=some sp'->∃f' fd' ps',FnOk P w K mg base CX0 k f' fd' ps' sp'/\mg y=some (.ref f')/\W.keepIn K (.ref f')=true/\fv' K fd' ps' []) (hB:∀y∈C.B,mg y=none) (hmk:mg "~"=none/\mg "^"=none/\mg "%"=none) (nt:tld C.B=false) (nh:hat C.B=false) (hxk:C.xk=fun _=>E0) (hcl:C.cl=fun _=>none)
  (hbody:∀vs H Q E,sp vs H Q E->tSs C code { nx:=fun _ H'=>Q .non H',rt:=Q } (az' C.N vs) H):FnOk P w K mg base CX0 (k+1) f fd ps sp:=
 qT' F C S hK code hm len ⟨fun y sp' e=>by
  obtain⟨f',fd',ps',h1,h2⟩:=hfs y sp' e
  exact⟨f',fd',ps',.inl h1,h2⟩,hB,hmk,(fun c Ca e=>by rw[hcl]at e;cases e),nt,nh⟩ hxk hbody
theorem mC {α:Type} {P:α->Prop} {a:α} {l:List α} (h:P a/\∀x∈l,P x):∀x∈a :: l,P x:=List.forall_mem_cons.mpr h
theorem mN {α:Type} {P:α->Prop}:∀x∈([]:List α),P x:=fun y hy=>absurd hy aO
theorem jY' {α:Type} {P:List α->Prop} (h:∀x0,P [x0]):∀us:List α,us.length=1->P us
 | [x0],_=>h x0
theorem fT' {α:Type} {P:List α->Prop} (h:∀x0 x1,P [x0,x1]):∀us:List α,us.length=2->P us
 | [x0,x1],_=>h x0 x1
theorem xe' {α:Type} {P:List α->Prop} (h:∀x0 x1 x2,P [x0,x1,x2]):∀us:List α,us.length=3->P us
 | [x0,x1,x2],_=>h x0 x1 x2
def jc' {α:Type} (ax':TL α) (b:α) (P:α->Hp->Prop) (σ:L2.St):Bool->Hp->Prop:=fun ok H=>if ok=true then ax' σ b H P else P b H
def iA' {α:Type} (tc:TT) (ax':TL α) (b:α) (P:α->Hp->Prop):L2.St->Hp->Prop:=fun σ H=>tc σ H (jc' ax' b P σ)
def kCl {α:Type} (own:List Nat) (g:TG) (tc:TT) (ax':TL α) (σ:L2.St) (a:α) (N:α->Hp->Prop) (J:It) (H:Hp):Prop:=bc' own g tc ax' J σ a H N
section
variable {C:Rc} {σ:L2.St} {H:Hp} {Q:VK} {D:Ends} {α:Type}
theorem rt' {ax':TL α} {b:α} {P:α->Hp->Prop}:iA' (tQo C .none) ax' b P σ H=ax' σ b H P:=rfl
theorem ru' {q:Cq} {ax':TL α} {b:α} {P:α->Hp->Prop}:iA' (tQo C (.some q)) ax' b P σ H=tQ C q σ H (jc' ax' b P σ):=rfl
theorem og' {ax':TL α} {b:α} {P:α->Hp->Prop}:jc' ax' b P σ true H=ax' σ b H P:=rfl
theorem oh' {ax':TL α} {b:α} {P:α->Hp->Prop}:jc' ax' b P σ false H=P b H:=rfl
theorem oi' {own:List Nat} {g:TG} {tc:TT} {ax':TL α} {J:It} {a:α} {N:α->Hp->Prop} {n:Nat} (Pv:Nat->α->Hp->Prop) (h0:Pv 0 a H) (hgo:∀i b H,i<n->Pv i b H->J.go i H) (hstop:∀b H,Pv n b H->J.stop n H)
  (hs:∀i b H x H' (R:α->Hp->Prop),i<n->Pv i b H->J.yld i H x H'->(∀c H2,Pv (i+1) c H2->R c H2)->g x (clr own σ) H' (iA' tc ax' b R)) (hd:∀b H,Pv n b H->N b H):kCl own g tc ax' σ a N J H:=by
 refine⟨fun i m b H=>m=n-i/\i<=n/\Pv i b H,⟨n,by simp,aM _,h0⟩,?_⟩
 rintro i m b H ⟨rfl,hi,p⟩
 by_cases hlt:i<n
 .refine .inr ⟨hgo i b H hlt p,fun x H' y=>?_⟩
  exact hs i b H x H' (fun c H4=>∃m',m'<n-i/\(m'=n-(i+1)/\i+1<=n/\Pv (i+1) c H4)) hlt p y fun ys H2 p2=>⟨n-(i+1),by omega,rfl,hlt,p2⟩
 .have e:i=n:=by omega
  subst e
  exact .inl ⟨hstop b H p,hd b H p⟩
theorem zc' {own:List Nat} {g:TG} {tc:TT} {ax':TL α} {b0:α} {N:α->Hp->Prop} {a:Addr} {vs:List V} (Pv:Nat->α->Hp->Prop) (h0:Pv 0 b0 H) (hl:∀i b H,Pv i b H->SqL C.K H a vs)
  (hs:∀i b H x (R:α->Hp->Prop),vs[i]?=some x->Pv i b H->(∀c H2,Pv (i+1) c H2->R c H2)->g x (clr own σ) H (iA' tc ax' b R)) (hd:∀b H,Pv vs.length b H->N b H):kCl own g tc ax' σ b0 N (Itl C.K a) H:=
 oi' (n:=vs.length) Pv h0 (fun i xs H hi p=>⟨vs,vs[i],hl i xs H p,by simp[hi]⟩) (fun xs H p=>⟨vs,hl _ xs H p,ae _⟩) (fun i xs H x H' R hi p y k=>by
  obtain⟨e,y⟩:=y
  subst e
  exact hs i xs H' x R (y vs (hl i xs H' p)) p k) hd
theorem Ac' {own:List Nat} {g:TG} {tc:TT} {ax':TL α} {b0:α} {N:α->Hp->Prop} {a:Addr} {vs:List V} (Pv:Nat->α->Hp->Prop) (h0:Pv 0 b0 H) (hl:∀i b H,Pv i b H->SqT C.K H a vs)
  (hs:∀i b H x (R:α->Hp->Prop),vs[i]?=some x->Pv i b H->(∀c H2,Pv (i+1) c H2->R c H2)->g x (clr own σ) H (iA' tc ax' b R)) (hd:∀b H,Pv vs.length b H->N b H):kCl own g tc ax' σ b0 N (Itt C.K a) H:=
 oi' (n:=vs.length) Pv h0 (fun i xs H hi p=>⟨vs,vs[i],hl i xs H p,by simp[hi]⟩) (fun xs H p=>⟨vs,hl _ xs H p,ae _⟩) (fun i xs H x H' R hi p y k=>by
  obtain⟨e,y⟩:=y
  subst e
  exact hs i xs H' x R (y vs (hl i xs H' p)) p k) hd
theorem Ad' {own:List Nat} {g:TG} {tc:TT} {ax':TL α} {b0:α} {N:α->Hp->Prop} {a:Addr} {vs:List V} (Pv:Nat->α->Hp->Prop) (h0:Pv 0 b0 H) (hl:∀i b H,Pv i b H->SqL C.K H a vs)
  (hs:∀i b H x p (R:α->Hp->Prop),vs[i]?=some x->H p=none->Pv i b H->(∀c H2,Pv (i+1) c H2->R c H2)->g (.ref p) (clr own σ) (upd H p (.tup [.int i,x])) (iA' tc ax' b R)) (hd:∀b H,Pv vs.length b H->N b H):kCl own g tc ax' σ b0 N (Ite C.K a) H:=
 oi' (n:=vs.length) Pv h0 (fun i xs H hi p=>⟨vs,vs[i],hl i xs H p,by simp[hi]⟩) (fun xs H p=>⟨vs,hl _ xs H p,rfl⟩) (fun i xs H x H' R hi p y k=>by
  obtain⟨ad,v,rfl,hn,y,rfl⟩:=y
  exact hs i xs H v ad R (y vs (hl i xs H p)) hn p k) hd
theorem AV' {own:List Nat} {g:TG} {tc:TT} {ax':TL α} {b0:α} {N:α->Hp->Prop} {lo:Int} {n:Nat} (Pv:Nat->α->Hp->Prop) (h0:Pv 0 b0 H)
  (hs:∀i b H (R:α->Hp->Prop),i<n->Pv i b H->(∀c H2,Pv (i+1) c H2->R c H2)->g (.int (lo+i)) (clr own σ) H (iA' tc ax' b R)) (hd:∀b H,Pv n b H->N b H):kCl own g tc ax' σ b0 N (Itr lo n) H:=
 oi' (n:=n) Pv h0 (fun i xs H hi p=>hi) (fun xs H p=>ae _) (fun i xs H x H' R hi p y k=>by
  obtain⟨e,rfl⟩:=y
  subst e
  exact hs i xs H' R hi p k) hd
theorem oj' {elt:Ce} {own:List Nat} {t:Ct} {it:Ci} {q:Cqo} {ws:List Nat} {t2:Ct} {it2:Ci} {q2:Cqo} {r:Cc}:tE C (.comp elt own t it q (.cons ws t2 it2 q2 r)) σ H Q=tI C it σ H (kCl own (tG C t) (tQo C q) (tR C (.cons ws t2 it2 q2 r) (eW' (tE C elt))) σ [] (pA' Q)):=rfl
theorem rv' {ws:List Nat} {t:Ct} {it:Ci} {q:Cqo} {r:Cc} {em:TL (List V)} {b:List V} {P:List V->Hp->Prop}:tR C (.cons ws t it q r) em σ b H P=tI C it σ H (kCl ws (tG C t) (tQo C q) (tR C r em) σ b P):=rfl
theorem vD' {em:TL (List V)} {b:List V} {P:List V->Hp->Prop}:tR C .nil em σ b H P=em σ b H P:=rfl
theorem rx' {elt:Ce} {b:List V} {P:List V->Hp->Prop}:eW' (tE C elt) σ b H P=tE C elt σ H (hD' b P):=rfl
def zd' (b:(Option Int->Bool)×Nat) (P:(Option Int->Bool)×Nat->Hp->Prop):VK:=fun v H=>∃k,v=kO k/\b.2<4000/\P (fun j=>b.1 j || decide (j=k),b.2+1) H
theorem ok' {elt:Ce} {b:(Option Int->Bool)×Nat} {P:(Option Int->Bool)×Nat->Hp->Prop}:dK' (tE C elt) σ b H P=tE C elt σ H (zd' b P):=rfl
theorem ry' {it:Ci} {own:List Nat} {g:TG} {tc:TT} {ax':TL α} {b:α} {P:α->Hp->Prop}:ic' (tI C it) (bc' own g tc ax') σ b H P=tI C it σ H (kCl own g tc ax' σ b P):=rfl
def ze' (i:Nat) (D:Ends) (σ:L2.St):(Option Int->Bool)×Nat->Hp->Prop:=fun a H2=>True/\∀p,H2 p=none->D.nx (σ.set i (some (.ref p))) (upd H2 p (fA' p a.1 a.2))
theorem rz' {i:Nat} {elt:Ce} {own:List Nat} {t:Ct} {it:Ci} {q:Cqo} {ws:List Nat} {t2:Ct} {it2:Ci} {q2:Cqo}:tS C (.setc2 i elt own t it q ws t2 it2 q2) D σ H=tI C it σ H (kCl own (tG C t) (tQo C q) (ic' (tI C it2) (bc' ws (tG C t2) (tQo C q2) (dK' (tE C elt)))) σ (fun _=>false,0) (ze' i D σ)):=rfl
theorem vE' {K:W.Frag} {a:Addr} {ns:List Int} (h:SqL K H a (ns.map V.int)) (hl:ns.length<=3999) (q:∀p,H p=none->Q (.ref p) (upd H p (fA' p (inL ns) ns.length))):d5' K .set [.ref a] H Q:=⟨a,ns,rfl,h,hl,q⟩
def zf' (i:Nat) (D:Ends) (σ:L2.St):List (Key×V)->Hp->Prop:=fun a H2=>True/\∀p,H2 p=none->D.nx (σ.set i (some (.ref p))) (upd H2 p (.dK a))
def zg' (i:Nat) (D:Ends) (σ:L2.St):KTL->Hp->Prop:=fun a H2=>okT a H2/\∀p,H2 p=none->D.nx (σ.set i (some (.ref p))) (upd H2 p (.dT (plT a)))
theorem rA' {i:Nat} {k v:Ce} {own:List Nat} {t:Ct} {it:Ci} {q:Cqo}:tS C (.dctc false i k v own t it q) D σ H=tI C it σ H (kCl own (tG C t) (tQo C q) (i2' (tE C k) (tE C v)) σ [] (zf' i D σ)):=rfl
theorem rB' {i:Nat} {k v:Ce} {own:List Nat} {t:Ct} {it:Ci} {q:Cqo}:tS C (.dctc true i k v own t it q) D σ H=tI C it σ H (kCl own (tG C t) (tQo C q) (i3' (tE C k) (tE C v)) σ [] (zg' i D σ)):=rfl
def Ae' (a:List (Key×V)) (P:List (Key×V)->Hp->Prop) (y:V):VK:=fun v H2=>∃k,y=L2.kV k/\a.length<sizeLine/\P (iW' a k v) H2
def Af' (C:Rc) (σ:L2.St) (v:Ce) (a:List (Key×V)) (P:List (Key×V)->Hp->Prop):VK:=fun y H1=>tE C v σ H1 (Ae' a P y)
theorem ol' {k v:Ce} {a:List (Key×V)} {P:List (Key×V)->Hp->Prop}:i2' (tE C k) (tE C v) σ a H P=tE C k σ H (Af' C σ v a P):=rfl
theorem rC' {v:Ce} {a:List (Key×V)} {P:List (Key×V)->Hp->Prop} {y:V}:Af' C σ v a P y H=tE C v σ H (Ae' a P y):=rfl
def Ag' (a:KTL) (P:KTL->Hp->Prop) (y:V):VK:=fun v H2=>∃(k:List Key) (b:Addr),y=.ref b/\H2 b=some (.tup (k.map L2.kV))/\okT a H2/\(∀x∈a,x.1≠k)/\a.length<sizeLine/\P (a++[(k,b,v)]) H2
def Ah' (C:Rc) (σ:L2.St) (v:Ce) (a:KTL) (P:KTL->Hp->Prop):VK:=fun y H1=>tE C v σ H1 (Ag' a P y)
theorem om' {k v:Ce} {a:KTL} {P:KTL->Hp->Prop}:i3' (tE C k) (tE C v) σ a H P=tE C k σ H (Ah' C σ v a P):=rfl
theorem rD' {v:Ce} {a:KTL} {P:KTL->Hp->Prop} {y:V}:Ah' C σ v a P y H=tE C v σ H (Ag' a P y):=rfl
def Ai' (Q:VK):(Option Int->Bool)×Nat->Hp->Prop:=fun a H2=>xY' Q a H2/\∀p,H2 p=none->True
theorem vF' {elt:Ce} {own:List Nat} {t:Ct} {it:Ci} {q:Cqo}:tE C (.ssc elt own t it q) σ H Q=tI C it σ H (kCl own (tG C t) (tQo C q) (dK' (tE C elt)) σ (fun _=>false,0) (Ai' Q)):=rfl
theorem vG' {a:(Option Int->Bool)×Nat} (h1:a.1 none=false) (h2:∃b:List Int,b.length<64/\∀i,a.1 (some i)=true->i∈b) (q:∀(l:Addr) (us:List Int),H l=none->us.Pairwise (· < ·)->(∀i:Int,i∈us↔a.1 (some i)=true)->Q (.ref l) (upd H l (.lst (us.map V.int)))):Ai' Q a H:=⟨⟨h1,h2,q⟩,fun _ _=>trivial⟩
def rE' (neg:Bool) (y:V) (Q:VK):VK:=fun x H2=>(∃a o,x=.ref a/\h4' H2 a y o/\Q (.bl (if neg then !o.isSome else o.isSome)) H2)\/w3' neg y x H2 Q
def rF' (C:Rc) (σ:L2.St) (neg:Bool) (b:Ce) (Q:VK):VK:=fun y H1=>tE C b σ H1 (rE' neg y Q)
theorem vH' {neg:Bool} {a b:Ce}:tE C (.din neg a b) σ H Q=tE C a σ H (rF' C σ neg b Q):=rfl
theorem vI' {neg:Bool} {a b:Ce} {Qb:Bool->Hp->Prop}:tQ C (.din neg a b) σ H Qb=tE C a σ H (rF' C σ neg b (kT Qb)):=rfl
theorem on' {neg:Bool} {b:Ce} {y:V}:rF' C σ neg b Q y H=tE C b σ H (rE' neg y Q):=rfl
theorem l2' {neg:Bool} {k:Option Int} {y:V} {p:Addr} {S:Option Int->Bool} {n:Nat} (hy:y=kO k) (h:H p=some (fA' p S n)) (q:Q (.bl (if neg then !(S k)else S k)) H):rE' neg y Q (.ref p) H:=.inr ⟨k,p,S,n,hy,rfl,h,q⟩
def iB' (a:Addr) (Q:VK):VK:=fun y H2=>(∃o,h4' H2 a y o/\Q (o.getD .non) H2)\/(y=.non/\NoN H2 a/\Q .non H2)
def vJ' (C:Rc) (σ:L2.St) (b:Ce) (Q:VK):VK:=fun x H1=>∃a,x=.ref a/\IsD H1 a/\tE C b σ H1 (iB' a Q)
theorem vK' {a b:Ce}:tE C (.dgt a b) σ H Q=tE C a σ H (vJ' C σ b Q):=rfl
def pD' (a:Addr) (y:V) (Q:VK):VK:=fun z H3=>∃o,h4' H3 a y o/\Q (o.getD z) H3
def vL' (C:Rc) (σ:L2.St) (c:Ce) (a:Addr) (Q:VK):VK:=fun y H2=>tE C c σ H2 (pD' a y Q)
theorem l3' {c:Ce} {a:Addr} {y:V}:vL' C σ c a Q y H=tE C c σ H (pD' a y Q):=rfl
theorem gp' {b:Ce} {p:Addr} (h:IsD H p) (q:tE C b σ H (iB' p Q)):vJ' C σ b Q (.ref p) H:=⟨p,rfl,h,q⟩
theorem l4' {p:Addr} {y:V} {o:Option V} (h:h4' H p y o) (q:Q (o.getD .non) H):iB' p Q y H:=.inl ⟨o,h,q⟩
theorem l5' {p:Addr} (h:NoN H p) (q:Q .non H):iB' p Q .non H:=.inr ⟨rfl,h,q⟩
end
section
variable {C:Rc} {σ:L2.St} {H:Hp} {Q:VK} {Qb:Bool->Hp->Prop}
def kW1 (C:Rc) (σ:L2.St) (k:Zf) (b:Ce) (Q:VK):VK:=fun x H=>tE C b σ H fun y H'=>rZf k x y H' Q
def kW2 (k:Zf) (x:V) (Q:VK):VK:=fun y H=>rZf k x y H Q
theorem vM' {k:Zf} {b:Ce} {x:V}:kW1 C σ k b Q x H=tE C b σ H (kW2 k x Q):=rfl
section
variable {D:Ends}
def AW' (x y z:V) (sub:Bool) (D:Ends) (σ:L2.St):VK:=fun w H4=>ipI (fun i j=>if sub then i-j else i+j) z w H4 fun u H5=>fw' x y u H5 fun H6=>D.nx σ H6
def Aj' (C:Rc) (e:Ce) (sub:Bool) (x:V) (D:Ends) (σ:L2.St):VK:=fun y H2=>jD' C.K x y H2 fun z H3=>tE C e σ H3 (AW' x y z sub D σ)
def AX' (C:Rc) (i:Ce) (sub:Bool) (e:Ce) (D:Ends) (σ:L2.St):VK:=fun x H1=>tE C i σ H1 (Aj' C e sub x D σ)
theorem rG' {i e:Ce} {sub:Bool} {x:V}:AX' C i sub e D σ x H=tE C i σ H (Aj' C e sub x D σ):=rfl
def Ak' (x v:V) (D:Ends) (σ:L2.St):VK:=fun y H3=>∃a H4,x=.ref a/\Au' H3 a y v H4/\D.nx σ H4
def zh' (C:Rc) (i:Ce) (v:V) (D:Ends) (σ:L2.St):VK:=fun x H2=>tE C i σ H2 (Ak' x v D σ)
def AY' (C:Rc) (o i:Ce) (D:Ends) (σ:L2.St):VK:=fun v H1=>tE C o σ H1 (zh' C i v D σ)
theorem rH' {o i:Ce} {v:V}:AY' C o i D σ v H=tE C o σ H (zh' C i v D σ):=rfl
theorem rI' {i:Ce} {v x:V}:zh' C i v D σ x H=tE C i σ H (Ak' x v D σ):=rfl
end
def vN' (C:Rc) (σ:L2.St) (b:Ce) (Q:VK):VK:=fun x H1=>tE C b σ H1 (n7' fun l H2=>∃(a:Addr) (xs:List V) (n:Nat),x=.ref a/\l=some (n:Int)/\0<n/\SqL C.K H2 a xs/\∀p,H2 p=none->Q (.ref p) (upd H2 p (.lst (dk' xs n))))
theorem vO' {a b:Ce}:tE C (.stp a b) σ H Q=tE C a σ H (vN' C σ b Q):=rfl
theorem oo' {b:Ce} {x:V}:vN' C σ b Q x H=tE C b σ H (n7' fun l H2=>∃(a:Addr) (xs:List V) (n:Nat),x=.ref a/\l=some (n:Int)/\0<n/\SqL C.K H2 a xs/\∀p,H2 p=none->Q (.ref p) (upd H2 p (.lst (dk' xs n)))):=rfl
end
end R3
section
open PySem PySem.Spec PyProof.Rows L2 R3
local macro_rules | `(tactic| walk_at "y") => `(tactic| try walk_at "sy")
set_option hygiene false in
local macro_rules | `(tactic| walk_at "sy") => `(tactic| simp only [vM', rH', rI', rG', vO', oo', oj', rv', vD', rx', vH', vI', on', vK', l3', rz', rA', rB', vF', ok', ry', ol', rC', om', rD', rt', ru', og', oh', pu', pv', yw', uq', ur', us', ut', uu', uv', uw', ux', uy', uz', uA', uB', nV', yx', uC', uE', nW', uF', yz', qX', qY', uG', uH', oe', l1', rq', rr', y9', vy', vz', vA', vB', of', yA', ri', yB', yC', uJ', yD', yE', yF', AK', AL', AM', AN', AO', yG', y5', vv', rm', AT', rj', uK', uM', qZ', lK', uN', uO', uP', yH', uR', nX', yJ', q0', yK', nY', nZ', n0', AP', yL', yM', lJ', uW', uX', yN', uV', uY', uZ', q1', q2', n1', u0', q5', u3', n2', n3', u4', u5', u6', u7', u8', yR', u9', q6', vd', n4', n5', n6', ve', vf', lL', vg', n8', n9', oa', y6', lV', vq', jX', lX', lY', re', rf', rk', yS', yT', AR', AS', vj', vt', vu', yU', yV', lO', lP', rb', vl', vm', py', rc', y0', y1', y2', y3', oc', clr, List.foldl_cons, List.foldl_nil, L2.az', aH, cM, aE, bN, List.cons_append, List.nil_append, aP, Nat.reduceSub, Nat.reduceAdd, cI, cJ, List.getElem?_cons_zero, List.getElem?_cons_succ, reduceCtorEq, decide_true, decide_false, eq_self, Bool.not_true, Bool.not_false, bne_self_eq_false, BEq.rfl])
namespace LW
open PySem PySem.Spec PyProof.Rows L2 R3
def dS':Css:=(.cons (.ite (.cmp .Lt (.var 1) (.blt .len (.cons (.var 0) .nil))) (.cons (.ret (.idx (.var 0) (.var 1)))
  .nil) .nil)
  (.cons (.ret (.int 0))
  .nil))
def oq':Css:=(.cons (.asg (.name 2) (.call "_law_cell_at" (.cons (.var 0) (.cons (.var 1) .nil))))
  (.cons (.ret (.lst (.cons (.bin .Mult (.blt .abs (.cons (.var 2) .nil)) (.blt .int (.cons (.cmp .GtE (.blt .abs (.cons (.var 2) .nil)) (.bin .Pow (.int 10) (.int 18))) .nil))) (.cons (.bin .Add (.bin .Add (.bin .Mod (.var 2) (.int 2305843009213693951)) (.bin .Mult (.int 39373) (.var 1))) (.int 17)) (.cons (.int 0) .nil)))))
  .nil))
def jd':Css:=(.cons (.ite (.cmp .Gt (.idx (.var 0) (.int 0)) (.int 0)) (.cons (.asg (.name 2) (.bin .Mod (.idx (.var 0) (.int 0)) (.var 1)))
  (.cons (.asg (.sub (.var 0) (.int 0)) (.bin .FloorDiv (.idx (.var 0) (.int 0)) (.var 1)))
  (.cons (.ret (.var 2))
  .nil))) .nil)
  (.cons (.asg (.sub (.var 0) (.int 2)) (.bin .Add (.idx (.var 0) (.int 2)) (.int 1)))
  (.cons (.asg (.name 3) (.bin .Mod (.bin .Mult (.bin .Add (.idx (.var 0) (.int 1)) (.bin .Mult (.int 48271) (.idx (.var 0) (.int 2)))) (.bin .Add (.int 39373) (.idx (.var 0) (.int 2)))) (.int 2147483647)))
  (.cons (.asg (.name 4) (.bin .Mod (.bin .Mult (.bin .Add (.var 3) (.idx (.var 0) (.int 2))) (.bin .Add (.bin .Mod (.var 3) (.int 40009)) (.int 7))) (.int 2147483629)))
  (.cons (.ret (.bin .Mod (.bin .FloorDiv (.bin .Mod (.bin .Add (.bin .Mult (.var 4) (.int 48271)) (.var 3)) (.int 2147483587)) (.int 64)) (.var 1)))
  .nil)))))
def or':Css:=(.cons (.asg (.name 1) (.idx (.lst (.cons (.call "_law_take" (.cons (.var 0) (.cons (.int 13) .nil))) (.cons (.call "_law_take" (.cons (.var 0) (.cons (.int 61) .nil))) .nil))) (.blt .int (.cons (.cmp .Eq (.call "_law_take" (.cons (.var 0) (.cons (.int 8) .nil))) (.int 0)) .nil))))
  (.cons (.asg (.name 2) (.bin .Add (.int 2) (.call "_law_take" (.cons (.var 0) (.cons (.int 3) .nil)))))
  (.cons (.asg (.name 3) (.bin .Mult (.idx (.str "01") (.call "_law_take" (.cons (.var 0) (.cons (.int 2) .nil)))) (.blt .int (.cons (.cmp .Gt (.var 1) (.int 0)) .nil))))
  (.cons (.whl (.cmp .Lt (.blt .len (.cons (.var 3) .nil)) (.var 1)) (.cons (.asg (.name 3) (.bin .Add (.var 3) (.idx (.lst (.cons (.idx (.var 3) (.neg (.int 1))) (.cons (.idx (.str "10") (.blt .int (.cons (.idx (.var 3) (.neg (.int 1))) .nil))) .nil))) (.blt .int (.cons (.cmp .Eq (.call "_law_take" (.cons (.var 0) (.cons (.var 2) .nil))) (.int 0)) .nil)))))
  .nil))
  (.cons (.ret (.var 3))
  .nil)))))
def fU' (K:W.Frag):Sp:=fun vs H Q _=>∃(a:Addr) (ns:List Int) (k:Int),vs=[.ref a,.int k]/\SqL K H a (ns.map V.int)/\0<=k/\∀c:Int,Q (.int c) H
theorem ot' {ns:List Int} {k:Int} (h0:0<=k) (h1:k<ns.length):∃c:Int,atI (ns.map V.int) k=some (.int c):=by
 obtain⟨j,rfl⟩:=Int.eq_ofNat_of_zero_le h0
 have hk:j<ns.length:=by omega
 exact⟨ns[j],eO' (by rw[aq,af hk];rfl)⟩
theorem l6' {C:Rc} (hN:C.N.length=2):∀vs H Q E,fU' C.K vs H Q E->tSs C dS' { nx:=fun _ H'=>Q .non H',rt:=Q } (L2.az' C.N vs) H:=by
 intro vs H Q E h
 obtain⟨a,ns,k,rfl,hs,hk,q⟩:=h
 rw[ak' hN]
 unfold dS'
 walk_at "y"
 refine gm' hs ?_
 rw[ac]
 walk_at "y"
 refine bd' (fun c=>?_) fun _=>?_
 .obtain⟨v,hv⟩:=ot' hk c
  walk_at "y"
  exact jb' hs hv (q v)
 .walk_at "y"
  exact q 0
def l7' (K:W.Frag):Sp:=fun vs H Q _=>∃(a:Addr) (ns:List Int) (k:Int),vs=[.ref a,.int k]/\SqL K H a (ns.map V.int)/\0<=k/\k<=1000/\∀(p:Addr) (x y:Int),H p=none->0<=x->0<=y->y<2 ^ 62->Q (.ref p) (upd H p (hA' x y 0))
theorem ou' {C:Rc} (hN:C.N.length=3) (hf:C.fs "_law_cell_at"=some (fU' C.K)):∀vs H Q E,l7' C.K vs H Q E->tSs C oq' { nx:=fun _ H'=>Q .non H',rt:=Q } (L2.az' C.N vs) H:=by
 intro vs H Q E h
 obtain⟨a,ns,k,rfl,hs,hk,hk2,q⟩:=h
 rw[ak' hN]
 unfold oq'
 walk_at "y"
 refine ag' hf ?_
 walk_at "y"
 refine⟨a,ns,k,rfl,hs,hk,fun c=>?_⟩
 walk_at "y"
 have hm0:0<=c % 2305843009213693951:=Int.emod_nonneg _ (by decide)
 have hm1:c % 2305843009213693951<2305843009213693951:=cH _ (by decide)
 refine⟨⟨by decide,by decide,by decide⟩,?_,by decide,.inl ⟨by decide,by decide⟩,by decide,fun p hp=>q p _ _ hp ?_ ?_ ?_⟩
 .refine .inr (.inl ⟨?_,?_⟩)<;>split<;>split<;>decide
 .split<;>split<;>omega
 .omega
 .omega
section
variable {K:W.Frag} {H:Hp} {b:Addr} {x y z:Int} {Q:VK}
theorem ix0 (h:H b=some (hA' x y z)) (q:Q (.int x) H):jD' K (.ref b) (.int 0) H Q\/j9' K (.ref b) (.int 0) H Q:=.inl ⟨b,_,0,_,rfl,rfl,SqL.of h,rfl,q⟩
theorem ix1 (h:H b=some (hA' x y z)) (q:Q (.int y) H):jD' K (.ref b) (.int 1) H Q\/j9' K (.ref b) (.int 1) H Q:=.inl ⟨b,_,1,_,rfl,rfl,SqL.of h,rfl,q⟩
theorem ix2 (h:H b=some (hA' x y z)) (q:Q (.int z) H):jD' K (.ref b) (.int 2) H Q\/j9' K (.ref b) (.int 2) H Q:=.inl ⟨b,_,2,_,rfl,rfl,SqL.of h,rfl,q⟩
theorem st0 {u:Int} {Q:Hp->Prop} (h:H b=some (hA' x y z)) (q:Q (upd H b (hA' u y z))):fw' (.ref b) (.int 0) (.int u) H Q:=⟨b,_,0,0,rfl,rfl,h,rfl,q⟩
theorem st2 {u:Int} {Q:Hp->Prop} (h:H b=some (hA' x y z)) (q:Q (upd H b (hA' x y u))):fw' (.ref b) (.int 2) (.int u) H Q:=⟨b,_,2,2,rfl,rfl,h,rfl,q⟩
end
def gq':Sp:=fun vs H Q _=>∃(b:Addr) (x y z m:Int),vs=[.ref b,.int m]/\H b=some (hA' x y z)/\0<=x/\0<=y/\y<2 ^ 62/\0<=z/\z<=2 ^ 40/\0<m/\m<4611686018427387904/\
 ∀(r x' z':Int),0<=r->r<m->0<=x'->0<=z'->z'<=z+1->Q (.int r) (upd H b (hA' x' y z'))
theorem l8' {C:Rc} (hN:C.N.length=5):∀vs H Q E,gq' vs H Q E->tSs C jd' { nx:=fun _ H'=>Q .non H',rt:=Q } (L2.az' C.N vs) H:=by
 intro vs H Q E h
 obtain⟨b,x,y,z,m,rfl,hb,hx,hy,hy2,hz,hz2,hm,hm2,q⟩:=h
 rw[ak' hN]
 unfold jd'
 walk_at "sy"
 refine ix0 hb ?_
 walk_at "sy"
 refine bd' (fun c=>?_) fun _=>?_
 .walk_at "sy"
  refine ix0 hb ?_
  walk_at "sy"
  refine⟨hm,?_⟩
  refine ix0 hb ?_
  walk_at "sy"
  refine⟨⟨hm,.inr (aD ((Nat.log2_lt (by omega)).mpr (show m.natAbs<2 ^ 62 by omega)) (by decide))⟩,st0 hb ?_⟩
  walk_at "sy"
  exact q _ _ _ (Int.emod_nonneg _ (by omega)) (cH _ hm) (Int.ediv_nonneg hx (by omega)) hz (by omega)
 .walk_at "sy"
  refine ix2 hb ?_
  walk_at "sy"
  refine st2 hb ?_
  have hb':upd H b (hA' x y (z+1)) b=some (hA' x y (z+1)):=ad'
  walk_at "sy"
  refine ix1 hb' ?_
  walk_at "sy"
  refine ix2 hb' ?_
  walk_at "sy"
  refine⟨.inl ⟨by decide,by decide⟩,?_⟩
  refine ix2 hb' ?_
  walk_at "sy"
  refine⟨.inr (.inl ⟨by omega,by omega⟩),by decide,?_⟩
  refine ix2 hb' ?_
  walk_at "sy"
  generalize (y+48271*(z+1))*(39373+(z+1)) % 2147483647=once
  have ho0:0<=once % 40009:=Int.emod_nonneg _ (by decide)
  have ho1:once % 40009<40009:=cH _ (by decide)
  refine⟨by decide,.inr (.inl ⟨by omega,by omega⟩),by decide,.inr (.inl ⟨by decide,by decide⟩),by decide,⟨by decide,by decide⟩,hm,?_⟩
  exact q _ _ _ (Int.emod_nonneg _ (by omega)) (cH _ hm) hx (by omega) (by omega)
def c4':Sp:=fun vs H Q _=>∃(b:Addr) (n:Nat) (m:Int),vs=[.ref b,.int m]/\H b=some (eF' b n)/\n<=2 ^ 40/\0<m/\m<4611686018427387904/\∀(r:Int) (H':Hp),0<=r->r<m->Go 1 H H'->Q (.int r) H'
theorem rJ' {P:Program} {w:World} {K:W.Frag} {mg:Str->Option Value} {base:Heap} {k:Nat} {f:Addr} {fd:FuncData} {ps:List Str} (hp:ps.length=2) (F:FnOk P w K mg base CX0 k f fd ps gq'):FnOk P w K mg base CX0 k f fd ps c4':=by
 refine qV' (lI' (sp':=fun vs H Q E=>gq' vs H (z5' Q) E) F fun _ _ _ _ h=>h) (fun vs H Q E h=>?_) fun vs H Q E h=>?_
 .obtain⟨b,n,m,rfl,hb,hn,hm,hm2,q⟩:=h
  refine⟨b,n,hb,fun x y z hx hy hy2 hz hzn=>⟨b,x,y,z,m,rfl,ad',hx,hy,hy2,hz,by omega,hm,hm2,fun r x' z' h1 h2 h3 h4 h5=>?_⟩⟩
  refine⟨b,x',y,z',n+1,ad',h3,hy,hy2,h4,by omega,?_⟩
  refine q r _ h1 h2 ?_
  rw[bt']
  exact Go.draw hb (ae _) _
 .obtain⟨b,n,m,rfl,_⟩:=h
  rw[hp]
  rfl
def hF' (K:W.Frag):Sp:=fun vs H Q _=>∃(a:Addr) (ns:List Int) (k:Int),vs=[.ref a,.int k]/\SqL K H a (ns.map V.int)/\0<=k/\k<=1000/\∀(p:Addr),H p=none->Q (.ref p) (upd H p (eF' p 0))
theorem vP' {P:Program} {w:World} {K:W.Frag} {mg:Str->Option Value} {base:Heap} {k:Nat} {f:Addr} {fd:FuncData} {ps:List Str} (F:FnOk P w K mg base CX0 k f fd ps (l7' K)):FnOk P w K mg base CX0 k f fd ps (hF' K):=by
 refine lI' F fun vs H Q E h=>?_
 obtain⟨a,ns,k,rfl,hs,h0,h1,q⟩:=h
 refine⟨a,ns,k,rfl,hs,h0,h1,fun p x y hp hx hy hy2=>⟨p,x,y,0,0,ad',hx,hy,hy2,by omega,by omega,?_⟩⟩
 rw[bt']
 exact q p hp
def iC':Sp:=fun vs H Q _=>∃(b:Addr) (n:Nat),vs=[.ref b]/\H b=some (eF' b n)/\n<=2 ^ 39/\∀(r:List Bool) (H':Hp),r.length<=60->Go 100 H H'->Q (.str (tx r)) H'
theorem _root_.R3.Go.boxed {c n:Nat} {H H':Hp} {b:Addr} (g:Go c H H') (h:H b=some (eF' b n)) (hn:n+c<=2 ^ 40):∃m,H' b=some (eF' b m)/\m<=n+c/\m<=2 ^ 40:=by
 obtain⟨m,hm,e⟩:=g.box b n h
 exact⟨m,e,hm,by omega⟩
theorem ov' {C:Rc} (hN:C.N.length=4) (hT:C.fs "_law_take"=some c4'):∀vs H Q E,iC' vs H Q E->tSs C or' { nx:=fun _ H'=>Q .non H',rt:=Q } (L2.az' C.N vs) H:=by
 intro vs H Q E h
 obtain⟨b,n,rfl,hb,hn,q⟩:=h
 rw[ak' hN]
 unfold or'
 walk_at "sy"
 refine ag' hT ?_
 walk_at "sy"
 refine⟨b,n,13,rfl,hb,by omega,by decide,by decide,fun r1 H1 h10 h11 g1=>?_⟩
 obtain⟨n1,hb1,hn1,hn1'⟩:=g1.boxed hb (by omega)
 walk_at "sy"
 refine ag' hT ?_
 walk_at "sy"
 refine⟨b,n1,61,rfl,hb1,hn1',by decide,by decide,fun r2 H2 h20 h21 g2=>?_⟩
 obtain⟨n2,hb2,hn2,hn2'⟩:=g2.boxed hb1 (by omega)
 walk_at "sy"
 refine⟨by decide,fun p hp=>?_⟩
 refine ag' hT ?_
 have hpb:p≠b:=fun z=>by subst z;rw[hb2]at hp;cases hp
 have hb2':upd H2 p (.lst [.int r1,.int r2]) b=some (eF' b n2):=by rw[af' (Ne.symm hpb)];exact hb2
 walk_at "sy"
 refine⟨b,n2,8,rfl,hb2',hn2',by decide,by decide,fun r3 H3 h30 h31 g3=>?_⟩
 have g23:Go 1 H2 H3:=(Go.trans (c:=0) (Go.new hp _) g3).mono (by omega)
 obtain⟨n3,hb3,hn3,hn3'⟩:=g3.boxed hb2' (by omega)
 have hp3:H3 p=some (.lst [.int r1,.int r2]):=g3.lst ad'
 walk_at "sy"
 refine pC' (SqL.of hp3) ?_
 have hm:∃many:Int,(if decide (r3=0)=true then V.int r2 else V.int r1)=.int many/\0<=many/\many<=60:=by
  split
  .exact⟨r2,rfl,h20,by omega⟩
  .exact⟨r1,rfl,h10,by omega⟩
 obtain⟨many,em,hm0,hm1⟩:=hm
 rw[em]
 walk_at "sy"
 refine ag' hT ?_
 walk_at "sy"
 refine⟨b,n3,3,rfl,hb3,hn3',by decide,by decide,fun r4 H4 h40 h41 g4=>?_⟩
 obtain⟨n4,hb4,hn4,hn4'⟩:=g4.boxed hb3 (by omega)
 walk_at "sy"
 refine ag' hT ?_
 walk_at "sy"
 refine⟨b,n4,2,rfl,hb4,hn4',by decide,by decide,fun r5 H5 h50 h51 g5=>?_⟩
 obtain⟨n5,hb5,hn5,hn5'⟩:=g5.boxed hb4 (by omega)
 have g05:Go 5 H H5:=((((g1.trans g2).trans g23).trans g4).trans g5)
 obtain⟨c0,hc0⟩:∃c0,atI [false,true] r5=some c0:=by
  have:r5=0\/r5=1:=by omega
  rcases this with rfl|rfl
  .exact⟨false,rfl⟩
  .exact⟨true,rfl⟩
 walk_at "sy"
 refine ea' (by decide) hc0 ?_
 walk_at "sy"
 have e0:∃r0:List Bool,Txt.mul (tx [c0]) (if decide (0<many)=true then 1 else 0)=tx r0/\r0.length<=1/\(0<many->r0≠[])/\(many<=0->r0=[]):=by
  by_cases h:0<many
  .refine⟨[c0],?_,by simp,fun _=>by simp,fun z=>by omega⟩
   rw[decide_eq_true h]
   exact(px' (a:=[c0]) (n:=1)).trans (by simp)
  .refine⟨[],?_,by simp,fun z=>absurd z h,fun _=>rfl⟩
   rw[decide_eq_false h]
   exact(px' (a:=[c0]) (n:=0)).trans (by simp)
 obtain⟨r0,er,hr1,hr2,hr3⟩:=e0
 refine⟨by split<;>decide,by split<;>decide,by rw[bO',cN];split<;>decide,?_⟩
 rw[er]
 refine lS' (fun m σ H'=>∃r:List Bool,σ=[some (.ref b),some (.int many),some (.int (2+r4)),some (.str (tx r))]/\(r.length:Int)<=many/\(0<many->r≠[])/\m=60-r.length/\Go (5+r.length) H H') _ ⟨r0,rfl,?_,hr2,rfl,g05.mono (by omega)⟩ ?_
 .by_cases h:0<many
  .omega
  .rw[hr3 (by omega)];simp;omega
 rintro m σ H6 ⟨r,rfl,hr,hne,rfl,g6⟩
 walk_at "sy"
 refine⟨ay (by omega:r.length<=60) (by decide),?_⟩
 refine bd' (fun hc=>lT' ?_) fun hc=>lU' ?_
 .have hr0:r≠[]:=hne (by omega)
  obtain⟨r',c,rfl⟩:∃r' c,r=r'++[c]:=⟨r.dropLast,r.getLast hr0,(List.dropLast_concat_getLast hr0).symm⟩
  have hsz:(r'++[c]).length<=60:=by omega
  have hszl:(r'++[c]).length<=sizeLine:=ay hsz (by decide)
  walk_at "sy"
  refine ea' hszl (f0' r' c) ?_
  walk_at "sy"
  refine ea' hszl (f0' r' c) ?_
  walk_at "sy"
  refine ea' (by decide) (c:=!c) (by cases c<;>rfl) ?_
  walk_at "sy"
  refine⟨by decide,fun p2 hp2=>?_⟩
  refine ag' hT ?_
  walk_at "sy"
  obtain⟨n6,hb6,hn6,hn6'⟩:=g6.boxed hb (by omega)
  have hpb2:p2≠b:=fun z=>by subst z;rw[hb6]at hp2;cases hp2
  have hb6':upd H6 p2 (.lst [.str (tx [c]),.str (tx [!c])]) b=some (eF' b n6):=by rw[af' (Ne.symm hpb2)];exact hb6
  refine⟨b,n6,_,rfl,hb6',hn6',by omega,by omega,fun r7 H7 h70 h71 g7=>?_⟩
  have g67:Go 1 H6 H7:=(Go.trans (c:=0) (Go.new hp2 _) g7).mono (by omega)
  have hp7:H7 p2=some (.lst [.str (tx [c]),.str (tx [!c])]):=g7.lst ad'
  walk_at "sy"
  refine pC' (SqL.of hp7) ?_
  obtain⟨c7,e7⟩:∃c7,(if decide (r7=0)=true then V.str (tx [!c])else V.str (tx [c]))=.str (tx [c7]):=by
   split
   .exact⟨_,rfl⟩
   .exact⟨_,rfl⟩
  rw[e7]
  walk_at "sy"
  refine⟨ay (by simp at hsz ⊢;omega:_<=61) (by decide),60-(r'++[c]++[c7]).length,?_,r'++[c]++[c7],rfl,?_,fun _=>by simp,rfl,?_⟩
  .simp at hsz hr hc ⊢;omega
  .simp at hr hc ⊢;omega
  .refine(g6.trans g67).mono ?_
   simp;omega
 .walk_at "sy"
  exact q r H6 (by omega) (g6.mono (by omega))
def Sc:V->Bool
 | .non=>true
 | .bl _=>true
 | .int _=>true
 | .str _=>true
 |_=>false
def Eqv (H:Hp):Nat->V->V->Prop
 |0,v,w=>v=w/\Sc v=true
 |n+1,v,w=>(v=w/\Sc v=true)\/∃a b xs ys,v=.ref a/\w=.ref b/\((H a=some (.lst xs)/\H b=some (.lst ys))\/(H a=some (.tup xs)/\H b=some (.tup ys)))/\xs.length<=sizeLine/\xs.length=ys.length/\∀(i:Nat) x y,xs[i]?=some x->ys[i]?=some y->Eqv H n x y
def je' (n:Nat):Sp:=fun vs H Q _=>∃v w,vs=[v,w]/\Eqv H n v w/\∀H',aB' H H'->Q (.bl true) H'
section
variable {K:W.Frag} {H:Hp} {Q:VK}
end
end LW
namespace SR
open PySem PySem.Spec PyProof.Rows L2 R3 LW
def bU':Css:=(.cons (.ret (.met .join (.str "") (.cons (.comp (.ife (.cmp .Eq (.var 1) (.str "0")) (.str "1") (.str "0")) [1] (.name 1) (.val (.var 0)) .none .nil) .nil)))
  .nil)
def de':Css:=(.cons (.ret (.bin .Sub (.met .countS (.var 0) (.cons (.str "1") .nil)) (.met .countS (.var 0) (.cons (.str "0") .nil))))
  .nil)
def eG':Css:=(.cons (.asg (.name 1) (.int 0))
  (.cons (.asg (.name 2) (.lst (.cons (.var 1) .nil)))
  (.cons (.for_ (.name 3) (.val (.var 0)) (.cons (.aug 1 false (.ife (.cmp .Eq (.var 3) (.str "1")) (.int 1) (.neg (.int 1))))
  (.cons (.expr (.met .append (.var 2) (.cons (.var 1) .nil)))
  .nil)))
  (.cons (.ret (.var 2))
  .nil))))
def df':Css:=(.cons (.ret (.bin .Add (.call "exchanged" (.cons (.cut (.var 0) .none (.some (.var 1))) .nil)) (.cut (.var 0) (.some (.var 1)) .none)))
  .nil)
def cG':Css:=(.cons (.asg (.name 1) (.call "sum_of" (.cons (.var 0) .nil)))
  (.cons (.ret (.idx (.comp (.var 2) [2,3] (.tup (.cons (.name 2) (.cons (.name 3) .nil))) (.enum (.call "sums" (.cons (.var 0) .nil))) (.some (.cmp .Eq (.bin .Mult (.int 2) (.var 3)) (.var 1))) .nil) (.int 0)))
  .nil))
def bb':Sp:=fun vs H Q _=>∃l:List Bool,vs=[.str (tx l)]/\l.length<=1000/\∀H',aB' H H'->Q (.str (tx (l.map (!·)))) H'
theorem l9':∀{l:List Bool},(l.map fun c=>[c]).flatten=l
 | []=>rfl
 |c :: r=>by rw[aH,bF,l9'];rfl
theorem ma' {C:Rc} (hN:C.N.length=2):∀vs H Q E,bb' vs H Q E->tSs C bU' { nx:=fun _ H'=>Q .non H',rt:=Q } (L2.az' C.N vs) H:=by
 intro vs H Q E h
 obtain⟨l,rfl,hl,q⟩:=h
 rw[ak' hN]
 unfold bU'
 walk_at "sy"
 refine⟨rfl,?_⟩
 refine fh' (rd' (fun i xs H'=>H'=H/\xs=(((l.take i).map (!·)).map fun c=>[c]).map fun l=>V.str (tx l)) ⟨rfl,rfl⟩ ?_ ?_)
 .rintro i xs H' c R hc ⟨rfl,rfl⟩ hR
  have hi:=ao' hc
  walk_at "y"
  have fin:∀d,d=!c->hD' ((((l.take i).map (!·)).map fun c=>[c]).map fun l=>V.str (tx l)) R (.str (tx [d])) H':=by
   rintro d rfl
   refine⟨by simp only[ac];exact al' (ay (List.length_take_le' ..) (by omega)),hR _ _ ⟨rfl,?_⟩⟩
   rw[bJ,hc]
   simp
  cases c
  .walk_at "y"
   exact fin true rfl
  .walk_at "y"
   exact fin false rfl
 .rintro xs H' ⟨rfl,rfl⟩ p hp
  rw[aN]
  walk_at "y"
  refine eb' (ls:=(l.map (!·)).map fun c=>[c]) (SqL.of ad') (by rw[l9'];simp;omega) ?_
  rw[l9']
  exact q _ (ae' hp _)
def sm (l:List Bool):Int:=(l.count true:Int)-(l.count false:Int)
def smL (l:List Bool):List Int:=(au (l.length+1)).map fun i=>sm (l.take i)
theorem mb' {l:List Bool}:smL l≠[]:=by
 unfold smL
 rw[List.range_succ_eq_map]
 simp
def bv':Sp:=fun vs H Q _=>∃l:List Bool,vs=[.str (tx l)]/\Q (.int (sm l)) H
theorem iD' {C:Rc} (hN:C.N.length=1):∀vs H Q E,bv' vs H Q E->tSs C de' { nx:=fun _ H'=>Q .non H',rt:=Q } (L2.az' C.N vs) H:=by
 intro vs H Q E h
 obtain⟨l,rfl,q⟩:=h
 rw[ak' hN]
 unfold de'
 walk_at "sy"
 refine⟨rfl,rfl,?_⟩
 exact q
def co':Sp:=fun vs H Q _=>∃l:List Bool,vs=[.str (tx l)]/\l.length<=1000/\∀a,H a=none->Q (.ref a) (upd H a (.lst ((smL l).map V.int)))
theorem aP' {l:List Bool} {i:Nat} {c:Bool} (h:l[i]?=some c):l.take (i+1)=l.take i++[c]:=by
 rw[bJ,h];rfl
theorem mc' {l:List Bool} {c:Bool}:sm (l++[c])=sm l+(if c then 1 else -1):=by
 unfold sm
 cases c<;>simp<;>omega
theorem md' {C:Rc} (hN:C.N.length=4):∀vs H Q E,co' vs H Q E->tSs C eG' { nx:=fun _ H'=>Q .non H',rt:=Q } (L2.az' C.N vs) H:=by
 intro vs H Q E h
 obtain⟨l,rfl,hl,q⟩:=h
 rw[ak' hN]
 unfold eG'
 walk_at "sy"
 refine⟨by decide,fun a ha=>?_⟩
 refine fh' (pz' (fun i σ H'=>∃x,σ=[some (.str (tx l)),some (.int (sm (l.take i))),some (.ref a),x]/\H'=upd H a (.lst (((au (i+1)).map fun i=>sm (l.take i)).map V.int))) ⟨none,rfl,rfl⟩ ?_ ?_)
 .rintro i c σ H' hc ⟨x,rfl,rfl⟩
  walk_at "sy"
  rw[ff' rfl]
  have hi:i<l.length:=by
   rcases bA i l.length with h|h
   .exact h
   .rw[aJ.mpr h]at hc;cases hc
  have fin:∀d:Int,d=(if c then 1 else -1)->lm' C.K .append (.ref a) [.int (sm (l.take i)+d)] (upd H a (.lst (((au (i+1)).map fun i=>sm (l.take i)).map V.int))) (fun _ H'=>∃x,[some (V.str (tx l)),some (V.int (sm (l.take i)+d)),some (V.ref a),some (V.str (tx [c]))]=[some (.str (tx l)),some (.int (sm (l.take (i+1)))),some (.ref a),x]/\H'=upd H a (.lst (((au (i+1+1)).map fun i=>sm (l.take i)).map V.int))):=by
   intro d hd
   have e:sm (l.take (i+1))=sm (l.take i)+d:=by rw[aP' hc,mc',hd]
   refine⟨a,_,_,rfl,rfl,ad',?_,_,by rw[e],?_⟩
   .rw[ac,ac,aQ]
    exact al' (by omega)
   .rw[bt',bE (n:=i+1),az,az]
    simp only[aH,cM,e]
  walk_at "sy"
  cases c
  .walk_at "sy"
   exact⟨.inl ⟨rfl,_,SqL.of ad'⟩,fin (-1) rfl⟩
  .walk_at "sy"
   exact⟨.inl ⟨rfl,_,SqL.of ad'⟩,fin 1 rfl⟩
 .rintro σ H' ⟨x,rfl,rfl⟩
  walk_at "sy"
  exact q a ha
theorem rK' {n:Nat} {i j:Int} (h:(n:Int)<=i):Builtin.Str.strSliceIndices (some i) (some j) 1 n=Builtin.Str.strSliceIndices (some (n:Int)) (some j) 1 n:=by
 have h0:¬i<0:=by omega
 have h1:¬((n:Int)<0):=by omega
 have h2:(1:Int) > 0:=by decide
 simp only[Builtin.Str.strSliceIndices,h0,h1,h2,if_false,if_true,Int.min_eq_right h,Int.min_self]
theorem rL' {n:Nat} {j:Int} (h:(n:Int)<=j):Builtin.Str.strSliceIndices none (some j) 1 n=Builtin.Str.strSliceIndices none (some (n:Int)) 1 n:=by
 have h0:¬j<0:=by omega
 have h1:¬((n:Int)<0):=by omega
 have h2:(1:Int) > 0:=by decide
 simp only[Builtin.Str.strSliceIndices,h0,h1,h2,if_false,if_true,Int.min_eq_right h,Int.min_self]
theorem zi' {l:List Bool} {n:Nat}:Txt.slice (tx l) none (some (n:Int))=tx (l.take n):=by
 rcases Nat.le_total n l.length with h|h
 .exact lN' h
 .have e:Txt.slice (tx l) none (some (n:Int))=Txt.slice (tx l) none (some (l.length:Int)):=by
   unfold Txt.slice
   rw[bO',rL' (by omega)]
  rw[e,lN' (ae _),bb h,bb (ae _)]
theorem zj' {l:List Bool} {a b:Nat} (h:a<=b):Txt.slice (tx l) (some (a:Int)) (some (b:Int))=tx ((l.drop a).take (b-a)):=by
 rcases Nat.le_total b l.length with hb|hb
 .exact go' h hb
 .have e:Txt.slice (tx l) (some (a:Int)) (some (b:Int))=Txt.slice (tx l) (some (a:Int)) (some (l.length:Int)):=by
   unfold Txt.slice
   rw[bO',hE' (by omega)]
  rw[e]
  rcases Nat.le_total a l.length with ha|ha
  .rw[go' ha (ae _),bb (by simp),bb (by simp;omega)]
  .have e2:Txt.slice (tx l) (some (a:Int)) (some (l.length:Int))=Txt.slice (tx l) (some (l.length:Int)) (some (l.length:Int)):=by
    unfold Txt.slice
    rw[bO',rK' (by omega)]
   rw[e2,go' (ae _) (ae _),cF ha]
   simp
section
variable {K:W.Frag} {H:Hp} {Q:VK}
theorem me' {l:List Bool} {n:Nat} (hl:l.length<=sizeLine) (q:Q (.str (tx (l.take n))) H):rSl K (.str (tx l)) none (some (n:Int)) H Q:=⟨by rw[bO'];exact hl,by rw[zi'];exact q⟩
theorem gr' {l:List Bool} {n:Nat} (hl:l.length<=sizeLine) (q:Q (.str (tx (l.drop n))) H):rSl K (.str (tx l)) (some (n:Int)) none H Q:=⟨by rw[bO'];exact hl,by rw[ro'];exact q⟩
theorem vQ' {l:List Bool} {a b:Nat} (hl:l.length<=sizeLine) (h:a<=b) (q:Q (.str (tx ((l.drop a).take (b-a)))) H):rSl K (.str (tx l)) (some (a:Int)) (some (b:Int)) H Q:=⟨by rw[bO'];exact hl,by rw[zj' h];exact q⟩
end
theorem ay' {n:Nat} (h:n<=1000):n<=sizeLine:=cj (al' h)
def hG' (l:List Bool):List V:=(l.map fun c=>[c]).map fun l=>V.str (tx l)
theorem dT' {l:List Bool}:(hG' l).length=l.length:=by unfold hG';simp
theorem cb' {l:List Bool} {c:Bool}:hG' l++[V.str (tx [c])]=hG' (l++[c]):=by unfold hG';simp
theorem gs' {K:W.Frag} {H:Hp} {Q:VK} {a:Addr} {l:List Bool} (h:SqL K H a (hG' l)) (hz:l.length<=16000000) (q:Q (.str (tx l)) H):lm' K .join (.str (tx [])) [.ref a] H Q:=by
 refine eb' (ls:=l.map fun c=>[c]) h (by rw[l9'];exact hz) ?_
 rw[l9']
 exact q
def tn (l:List Bool) (n:Nat):List Bool:=(l.take n).map (!·)++l.drop n
theorem mf' {l:List Bool} {n:Nat}:(tn l n).length=l.length:=by
 unfold tn
 simp
 omega
theorem cW' {a b:List Bool}:sm (a++b)=sm a+sm b:=by
 unfold sm
 rw[List.count_append,List.count_append]
 omega
theorem hH':∀{l:List Bool},sm (l.map (!·))=- sm l
 | []=>rfl
 |c :: r=>by
  have e1:sm (c :: r)=sm [c]+sm r:=by rw[<- cW'];rfl
  have e2:sm ((c :: r).map (!·))=sm [!c]+sm (r.map (!·)):=by rw[<- cW'];rfl
  rw[e1,e2,hH']
  cases c<;>simp[sm]<;>omega
theorem zk' {l:List Bool} {n:Nat}:sm (tn l n)=sm l-2*sm (l.take n):=by
 have e:sm l=sm (l.take n)+sm (l.drop n):=by rw[<- cW',aW]
 unfold tn
 rw[cW',hH',e]
 omega
theorem zl' {l:List Bool} {n:Nat}:tn (tn l n) n=l:=by
 apply bG
 intro i
 unfold tn
 rcases bA i n with h|h
 .rcases bA i l.length with h2|h2
  .rw[bq (by simp;omega),aq,cw h,bq (by simp;omega),aq,cw h,af h2]
   simp
  .rw[aJ.mpr h2,aJ.mpr (by simp;omega)]
 .rcases bA i l.length with h2|h2
  .rw[bR (by simp;omega),List.getElem?_drop,ac,aC,ap,ac,aC,bQ]
   rw[show n+(i-min n (min n l.length+(l.length-n)))=i by omega,bR (by simp;omega),List.getElem?_drop,ac,aC]
   congr 1
   omega
  .rw[aJ.mpr h2,aJ.mpr (by simp;omega)]
def bal (l:List Bool) (n:Nat):Bool:=decide (2*sm (l.take n)=sm l)
theorem pE':∀(l:List Bool),(sm l-l.length) % 2=0
 | []=>rfl
 |c :: r=>by
  have e1:sm (c :: r)=sm [c]+sm r:=by rw[<- cW'];rfl
  have ih:=pE' r
  rw[e1,aE]
  cases c<;>simp[sm]at *<;>omega
theorem mg' {l:List Bool} (h:l.length % 2=0):∃n:Nat,(n:Int)<(if(l.length:Int) > 1 then(l.length:Int)else 1)/\n<=l.length/\bal l n=true:=by
 apply Classical.byContradiction
 intro hno
 have no:∀n,n<=l.length->(n:Int)<(if(l.length:Int) > 1 then(l.length:Int)else 1)->2*sm (l.take n)≠sm l:=fun n h1 h2 e=>hno ⟨n,h2,h1,decide_eq_true e⟩
 have par:=pE' l
 have n0:=no 0 (aM _) (by split<;>omega)
 have e0:sm (l.take 0)=0:=rfl
 rw[e0]at n0
 have step:∀n,n<l.length->sm (l.take (n+1))=sm (l.take n)+1\/sm (l.take (n+1))=sm (l.take n)-1:=by
  intro n hn
  rw[aP' (af hn),mc']
  cases l[n]<;>simp<;>omega
 have eL:sm (l.take l.length)=sm l:=by rw[aN]
 rcases Int.lt_or_gt_of_ne n0 with hp|hp
 .have key:∀n,n<=l.length->2*sm (l.take n)<=sm l:=by
   intro n
   induction n with
   |zero=>intro _;rw[e0];omega
   |succ n ih=>
    intro hn
    have h1:=ih (by omega)
    have h2:=no n (by omega) (by split<;>omega)
    rcases step n (by omega)with s|s<;>omega
  have:=key l.length (ae _)
  omega
 .have key:∀n,n<=l.length->sm l<=2*sm (l.take n):=by
   intro n
   induction n with
   |zero=>intro _;rw[e0];omega
   |succ n ih=>
    intro hn
    have h1:=ih (by omega)
    have h2:=no n (by omega) (by split<;>omega)
    rcases step n (by omega)with s|s<;>omega
  have:=key l.length (ae _)
  omega
theorem AZ' {α:Type} {x:α} {r:List α}:atI (x :: r) 0=some x:=eO' (xs:=x :: r) (j:=0) rfl
def ey' (p:Nat->Bool) (n:Nat):Prop:=p n=true/\∀m,m<n->p m=false
theorem ey'.inj {p:Nat->Bool} {a b:Nat} (h:ey' p a) (h':ey' p b):a=b:=by
 rcases Nat.lt_trichotomy a b with q|q|q
 .have:=h'.2 a q;rw[h.1]at this;cases this
 .exact q
 .have:=h.2 b q;rw[h'.1]at this;cases this
theorem fk' {p:Nat->Bool}:∀{N:Nat},(∃n,n<N/\p n=true)->∃n r,(au N).filter p=n :: r/\ey' p n/\n<N
 |0,h=>by obtain⟨n,h,_⟩:=h;omega
 |N+1,h=>by
  rw[bE,List.filter_append]
  by_cases q:∃n,n<N/\p n=true
  .obtain⟨n,r,e,hl,hn⟩:=fk' q
   exact⟨n,_,by rw[e];rfl,hl,by omega⟩
  .have none:∀n,n<N->p n=false:=fun n hn=>by
    cases e:p n with
    |false=>rfl
    |true=>exact absurd ⟨n,hn,e⟩ q
   obtain⟨n,hn,e⟩:=h
   have:n=N:=by
    rcases bA n N with z|z
    .rw[none n z]at e;cases e
    .omega
   subst this
   refine⟨n,[],?_,⟨e,none⟩,by omega⟩
   have e0:(au n).filter p=[]:=by
    rw[List.filter_eq_nil_iff]
    intro a ha
    rw[none a (aw.mp ha)]
    exact am
   rw[e0]
   simp[e]
def cp':Sp:=fun vs H Q _=>∃(l:List Bool) (n:Nat),vs=[.str (tx l),.int n]/\l.length<=500/\∀H',aB' H H'->Q (.str (tx (tn l n))) H'
theorem iE' {C:Rc} (hN:C.N.length=2) (hX:C.fs "exchanged"=some bb'):∀vs H Q E,cp' vs H Q E->tSs C df' { nx:=fun _ H'=>Q .non H',rt:=Q } (L2.az' C.N vs) H:=by
 intro vs H Q E h
 obtain⟨l,n,rfl,hl,q⟩:=h
 rw[ak' hN]
 unfold df'
 walk_at "sy"
 refine ag' hX ?_
 walk_at "sy"
 refine me' (ay' (by omega)) ?_
 walk_at "sy"
 refine⟨_,rfl,ay (List.length_take_le' ..) (by omega),fun H' s=>?_⟩
 walk_at "sy"
 refine gr' (ay' (by omega)) ?_
 walk_at "sy"
 refine⟨ay' ?_,q _ s⟩
 simp
 omega
def c5':Sp:=fun vs H Q _=>∃l:List Bool,vs=[.str (tx l)]/\l.length<=500/\l.length % 2=0/\∀(n:Nat) H',aB' H H'->ey' (bal l) n->n<=l.length->Q (.int n) H'
theorem hI' {C:Rc} (hN:C.N.length=4) (hS:C.fs "sum_of"=some bv') (hS2:C.fs "sums"=some co'):∀vs H Q E,c5' vs H Q E->tSs C cG' { nx:=fun _ H'=>Q .non H',rt:=Q } (L2.az' C.N vs) H:=by
 intro vs H Q E h
 obtain⟨l,rfl,hl,he,q⟩:=h
 rw[ak' hN]
 unfold cG'
 walk_at "sy"
 refine ag' hS ?_
 walk_at "sy"
 refine⟨l,rfl,?_⟩
 walk_at "sy"
 refine ag' hS2 ?_
 walk_at "sy"
 refine⟨l,rfl,by omega,fun a ha=>?_⟩
 have hlen:(smL l).length=l.length+1:=by unfold smL;simp
 have sa:=ae' ha (.lst ((smL l).map V.int))
 have hh:upd H a (.lst ((smL l).map V.int)) a=some (.lst ((smL l).map V.int)):=ad'
 generalize upd H a (.lst ((smL l).map V.int))=H1 at sa hh ⊢
 refine lQ' (SqL.of hh) (vp' (vs:=(smL l).map V.int) (fun i xs H'=>xs=((au i).filter (bal l)).map (fun n:Nat=>V.int n)/\aB' H1 H') ⟨rfl,aB'.refl _⟩ (fun i xs H' p=>SqL.of (p.2 _ _ hh)) ?_ ?_)
 .rintro i xs H' x p R hx hp ⟨rfl,s⟩ hR
  have hi:=ao' hx
  rw[ac,hlen]at hi
  have ex:x=.int (sm (l.take i)):=by
   unfold smL at hx
   rw[aq,aq,bW (by omega)]at hx
   cases hx
   rfl
  subst ex
  refine eo' (SqT.of ad') ?_
  walk_at "sy"
  refine⟨.inl ⟨by decide,by decide⟩,?_⟩
  have s2:=s.trans (ae' hp (.tup [.int i,.int (sm (l.take i))]))
  refine bd' (fun c=>?_) fun c=>?_
  .walk_at "sy"
   refine⟨?_,hR _ _ ⟨?_,s2⟩⟩
   .rw[ac]
    exact al' (ay (cR ..) (by simp;omega))
   .rw[bE,List.filter_append,az]
    have:bal l i=true:=decide_eq_true c
    simp[this]
  .walk_at "sy"
   refine hR _ _ ⟨?_,s2⟩
   rw[bE,List.filter_append,az]
   have:bal l i=false:=decide_eq_false c
   simp[this]
 .rintro xs H' ⟨rfl,s⟩ p hp
  rw[ac,hlen]
  obtain⟨n0,h1,h2,h3⟩:=mg' he
  obtain⟨n,r,e,hlst,hn⟩:=fk' (N:=l.length+1) ⟨n0,by omega,h3⟩
  walk_at "sy"
  refine jb' (SqL.of ad') (v:=.int n) (by rw[e,aH];exact AZ') ?_
  exact q n _ ((sa.trans s).trans (ae' hp _)) hlst (by omega)
end SR
namespace LW
open PySem PySem.Spec PyProof.Rows L2 R3
abbrev Rm:=Option Nat×Option Nat
def oV:Option Nat->V
 |none=>.non
 |some n=>.int n
def Tp (H H':Hp):Prop:=∀a xs,H a=some (.tup xs)->H' a=some (.tup xs)
theorem bm' {H H':Hp} (s:aB' H H'):Tp H H':=fun a xs h=>s _ _ h
def hJ' (H:Hp) (v:V) (r:Rm):Prop:=∃p,v=.ref p/\H p=some (.tup [oV r.1,oV r.2])
theorem hJ'.mono {H H':Hp} {v:V} {r:Rm} (t:Tp H H') (h:hJ' H v r):hJ' H' v r:=by
 obtain⟨p,e,h⟩:=h
 exact⟨p,e,t _ _ h⟩
def cX' (H:Hp):List V->List Rm->Prop
 | [],[]=>True
 |v :: vs,r :: rs=>hJ' H v r/\cX' H vs rs
 |_,_=>False
theorem cX'.mono {H H':Hp} (t:Tp H H'):∀{vs:List V} {M:List Rm},cX' H vs M->cX' H' vs M
 | [],[],_=>trivial
 |v :: vs,r :: rs,h=>⟨h.1.mono t,cX'.mono t h.2⟩
 | [],_ :: _,h=>h.elim
 |_ :: _,[],h=>h.elim
theorem cX'.len {H:Hp}:∀{vs:List V} {M:List Rm},cX' H vs M->vs.length=M.length
 | [],[],_=>rfl
 |v :: vs,r :: rs,h=>by simp[cX'.len h.2]
 | [],_ :: _,h=>h.elim
 |_ :: _,[],h=>h.elim
theorem cX'.snoc {H:Hp} {v:V} {r:Rm} (hr:hJ' H v r):∀{vs:List V} {M:List Rm},cX' H vs M->cX' H (vs++[v]) (M++[r])
 | [],[],_=>⟨hr,trivial⟩
 |v :: vs,r :: rs,h=>⟨h.1,cX'.snoc hr h.2⟩
 | [],_ :: _,h=>h.elim
 |_ :: _,[],h=>h.elim
theorem cX'.get {H:Hp}:∀{vs:List V} {M:List Rm} {i:Nat} {r:Rm},cX' H vs M->M[i]?=some r->∃p,vs[i]?=some (.ref p)/\H p=some (.tup [oV r.1,oV r.2])
 | [],[],i,r,_,e=>by cases e
 |v :: vs,r :: rs,0,r',h,e=>by
  cases e
  obtain⟨p,rfl,hp⟩:=h.1
  exact⟨p,rfl,hp⟩
 |v :: vs,r :: rs,i+1,r',h,e=>cX'.get (i:=i) h.2 (by simpa using e)
 | [],_ :: _,_,_,h,_=>h.elim
 |_ :: _,[],_,_,h,_=>h.elim
def IsM (H:Hp) (a:Addr) (M:List Rm):Prop:=∃vs,H a=some (.tup vs)/\cX' H vs M
theorem IsM.mono {H H':Hp} {a:Addr} {M:List Rm} (t:Tp H H') (h:IsM H a M):IsM H' a M:=by
 obtain⟨vs,h1,h2⟩:=h
 exact⟨vs,t _ _ h1,h2.mono t⟩
def OkR (N:Nat) (r:Rm):Prop:=(∀n,r.1=some n->n<N)/\∀n,r.2=some n->n<N
def OkM (M:List Rm):Prop:=∀r∈M,OkR M.length r
def nV (n:Nat):V:=.int n
end LW
namespace LW
open PySem PySem.Spec PyProof.Rows L2 R3
def ow (f:Nat->Nat):Option Nat->Nat
 |none=>0
 |some m=>f m
def oi (ns:List Int):Option Nat->Int
 |none=>0
 |some m=>ns.getD m 0
end LW
namespace LW
open PySem PySem.Spec PyProof.Rows L2 R3
theorem pF' {a b:Nat} (ha:a<=2 ^ 2000) (hb:b<=2 ^ 2000):qL' (a:Int) (b:Int):=by
 have key:∀{a:Nat},a<=2 ^ 2000->Builtin.Int.intBits ((a:Nat):Int)<=2001:=fun {a} h=>intBits_le_iff.mpr (by
  rw[Int.natAbs_natCast]
  exact bM h (Nat.pow_lt_pow_right (by decide) (by decide)))
 exact .inr (.inr (IntMulOk.of_le (key ha) (key hb) (by decide)))
end LW
namespace BA
open PySem PySem.Spec PyProof.Rows L2 R3 LW SR
def a2':Css:=(.cons (.ite (.val (.bin .Mod (.var 0) (.int 2))) (.cons (.ret (.int 0))
  .nil) .nil)
  (.cons (.asg (.name 1) (.bin .FloorDiv (.var 0) (.int 2)))
  (.cons (.asg (.name 2) (.int 1))
  (.cons (.for_ (.name 3) (.range2 (.int 1) (.bin .Add (.var 1) (.int 1))) (.cons (.asg (.name 2) (.bin .FloorDiv (.bin .Mult (.var 2) (.bin .Add (.var 1) (.var 3))) (.var 3)))
  .nil))
  (.cons (.ret (.var 2))
  .nil)))))
def aQ':Css:=(.cons (.ret (.bin .FloorDiv (.bin .Mult (.var 0) (.bin .Sub (.var 1) (.var 2))) (.var 1)))
  .nil)
def bcL (h:Nat):Nat->Nat
 |0=>1
 |k+1=>bcL h k*(h+(k+1)) / (k+1)
def bc (m:Nat):Nat:=if m % 2=0 then bcL (m / 2) (m / 2)else 0
theorem mh' {h:Nat} (hh:h<=100):∀k,k<=100->bcL h k<=2 ^ (8*k)
 |0,_=>ae _
 |k+1,hk=>by
  show bcL h k*(h+(k+1)) / (k+1)<=_
  have ih:=mh' hh k (by omega)
  have h1:bcL h k*(h+(k+1))<=2 ^ (8*k)*256:=Nat.mul_le_mul ih (by omega)
  refine ay (Nat.div_le_self _ _) (ay h1 ?_)
  rw[show 8*(k+1)=8*k+8 by omega,Nat.pow_add]
  exact ae _
theorem mi' {n:Nat} (h:n<=800) {x:Nat} (hx:x<=2 ^ n):x<=2 ^ 2000:=ay hx (Nat.pow_le_pow_right (by decide) (by omega))
theorem vR' {m:Nat} (hm:m<=200):bc m<=2 ^ 800:=by
 unfold bc
 split
 .exact ay (mh' (by omega) (m / 2) (by omega)) (Nat.pow_le_pow_right (by decide) (by omega))
 .exact aM _
def aG':Sp:=fun vs H Q _=>∃m:Nat,vs=[.int m]/\m<=200/\Q (.int (bc m)) H
theorem iF' {C:Rc} (hN:C.N.length=4):∀vs H Q E,aG' vs H Q E->tSs C a2' { nx:=fun _ H'=>Q .non H',rt:=Q } (L2.az' C.N vs) H:=by
 intro vs H Q E h
 obtain⟨m,rfl,hm,q⟩:=h
 rw[ak' hN]
 unfold a2'
 walk_at "y"
 refine⟨by decide,?_⟩
 rw[<- decide_not]
 refine bd' (fun hq=>?_) fun hq=>?_
 .walk_at "y"
  have:bc m=0:=by unfold bc;rw[if_neg (by omega)]
  rw[this]at q
  exact q
 .walk_at "y"
  refine⟨⟨by decide,.inl (by decide)⟩,?_⟩
  have eb:bc m=bcL (m / 2) (m / 2):=by unfold bc;rw[if_pos (by omega)]
  rw[eb]at q
  rw[show(m:Int) / 2=((m / 2:Nat):Int) from rfl]
  have hh:m / 2<=100:=by omega
  generalize m / 2=h at q hh ⊢
  walk_at "y"
  refine vn' (by omega) (by omega) (by omega) (by omega) (vo' (fun i σ H'=>(∃x,σ=[some (.int m),some (.int h),some (.int (bcL h i)),x])/\H'=H) ⟨⟨none,rfl⟩,rfl⟩ ?_ ?_)
  .rintro i σ H' hi ⟨⟨x,rfl⟩,rfl⟩
   have hi2:i<h:=by omega
   walk_at "y"
   have e1:(h:Int)+(1+i)=((h+(i+1):Nat):Int):=by omega
   have e2:(1:Int)+i=((i+1:Nat):Int):=by omega
   rw[e1,e2]
   refine⟨pF' (mi' (by omega) (mh' hh i (by omega))) (ay (show h+(i+1)<=1000 by omega) (by decide +kernel)),⟨by omega,.inl (by omega)⟩,?_⟩
   exact⟨⟨_,rfl⟩,trivial⟩
  .rintro σ H' ⟨⟨x,rfl⟩,rfl⟩
   rw[show((h:Int)+1-1).toNat=h by omega]
   walk_at "y"
   exact q
def bn (c r o:Nat):Nat:=c*(r-o) / r
theorem rM' {c r o:Nat} (hr:0<r):bn c r o<=c:=by
 unfold bn
 exact ay (Nat.div_le_div_right (Nat.mul_le_mul_left c (Nat.sub_le r o))) (Nat.le_of_eq (cK c hr))
def hK':Sp:=fun vs H Q _=>∃c r o:Nat,vs=[.int c,.int r,.int o]/\c<=2 ^ 2000/\0<r/\r<=200/\o<=r/\Q (.int (bn c r o)) H
theorem ow' {C:Rc} (hN:C.N.length=3):∀vs H Q E,hK' vs H Q E->tSs C aQ' { nx:=fun _ H'=>Q .non H',rt:=Q } (L2.az' C.N vs) H:=by
 intro vs H Q E h
 obtain⟨c,r,o,rfl,hc,hr,hr2,ho,q⟩:=h
 rw[ak' hN]
 unfold aQ'
 walk_at "y"
 rw[show(r:Int)-o=((r-o:Nat):Int) by omega]
 refine⟨pF' hc (ay (show r-o<=1000 by omega) (by decide +kernel)),⟨by omega,.inl (by omega)⟩,?_⟩
 exact q
def bat:Nat->Nat->Nat->Nat->List Bool
 |0,_,_,_=>[]
 |r+1,c,o,a=>if a<bn c (r+1) o then false :: bat r (bn c (r+1) o) o a else true :: bat r (c-bn c (r+1) o) (o-1) (a-bn c (r+1) o)
theorem ec':∀{r c o a:Nat},(bat r c o a).length=r
 |0,_,_,_=>rfl
 |r+1,c,o,a=>by
  unfold bat
  split<;>rw[aE,ec']
def Bt (m:Nat) (all:List Bool) (i:Nat) (bits:List Bool) (c o a:Nat):Prop:=bits++bat (m-i) c o a=all/\bits.length=i/\o<=m-i/\a<c/\c<=2 ^ 800
theorem rN' {m:Nat} {all:List Bool} {i:Nat} {bits:List Bool} {c o a:Nat} (h:Bt m all i bits c o a) (hi:i<m):
  (a<bn c (m-i) o->Bt m all (i+1) (bits++[false]) (bn c (m-i) o) o a)/\(¬a<bn c (m-i) o->0<o/\Bt m all (i+1) (bits++[true]) (c-bn c (m-i) o) (o-1) (a-bn c (m-i) o)):=by
 obtain⟨h1,h2,h3,h4,h5⟩:=h
 obtain⟨r,hr⟩:∃r,m-i=r+1:=⟨m-i-1,by omega⟩
 have hr2:m-(i+1)=r:=by omega
 have hl:=rM' (c:=c) (o:=o) (show 0<m-i by omega)
 rw[hr]at h1 h3 hl
 unfold Bt
 rw[hr,hr2]
 constructor
 .intro hq
  unfold bat at h1
  rw[if_pos hq]at h1
  refine⟨by rw[<- h1];simp,by simp[h2],?_,hq,ay hl h5⟩
  have:o≠r+1:=by
   rintro rfl
   unfold bn at hq
   simp at hq
  omega
 .intro hq
  have ho:0<o:=by
   rcases Nat.eq_zero_or_pos o with rfl|h
   .unfold bn at hq
    rw[Nat.sub_zero,cK _ (by omega)]at hq
    exact absurd h4 hq
   .exact h
  unfold bat at h1
  rw[if_neg hq]at h1
  exact⟨ho,by rw[<- h1];simp,by simp[h2],by omega,by omega,ay (Nat.sub_le _ _) h5⟩
def hL' (m k:Nat):List Bool:=bat m (bc m) (m / 2) k
theorem rO' {C:Rc} {σ:L2.St} {H:Hp} {Qb:Bool->Hp->Prop} {j k:Nat} {a n m:Int} (hσ:σ[j]?=some (some (.int n))) (hk:σ[k]?=some (some (.int m))) (h:a<=n) (q:Qb (decide (n<m)) H):tQ C (.chn .LtE .Lt (.int a) (.var j) (.var k)) σ H Qb:=by
 show ft' (ej' (cD' C.K .LtE) (cD' C.K .Lt) (tE C (.int a)) (tE C (.var j)) (tE C (.var k))) σ H Qb
 unfold ft' ej'
 simp only[pv',pu',hσ,hk,lJ']
 refine⟨a,n,rfl,rfl,true,?_,?_⟩
 .show V.bl (decide (a<=n))=_
  rw[decide_eq_true h]
 .rw[if_pos rfl]
  exact⟨n,m,rfl,rfl,_,rfl,q⟩
def bnm:List Bool->Nat->Nat->Nat
 | [],_,_=>0
 |b :: r,c,o=>if b then bn c (r.length+1) o+bnm r (c-bn c (r.length+1) o) (o-1)else bnm r (bn c (r.length+1) o) o
def bnR (l:List Bool):Nat:=bnm l (bc l.length) (l.length / 2)
def Bm (l:List Bool) (i c o a:Nat):Prop:=a+bnm (l.drop i) c o=bnR l/\o=(l.drop i).count true/\c<=2 ^ 800
theorem sm0 {l:List Bool} (h:sm l=0):l.length / 2=l.count true:=by
 have:l.count true+l.count false=l.length:=by
  clear h
  induction l with
  |nil=>rfl
  |cons b l ih=>cases b<;>simp<;>omega
 unfold sm at h
 omega
end BA
namespace K56
open PySem PySem.Spec PyProof.Rows L2 R3 LW
def bw':Css:=(.cons (.asg (.name 2) (.call "balanced_count" (.cons (.var 0) .nil)))
  (.cons (.ite (.not (.chn .LtE .Lt (.int 0) (.var 1) (.var 2))) (.cons .raise_
  .nil) .nil)
  (.cons (.asg (.name 3) (.lst .nil))
  (.cons (.asg (.name 4) (.bin .FloorDiv (.var 0) (.int 2)))
  (.cons (.asg (.name 5) (.var 1))
  (.cons (.for_ (.name 6) (.rev (.blt .range (.cons (.int 1) (.cons (.bin .Add (.var 0) (.int 1)) .nil)))) (.cons (.asg (.name 7) (.call "count_by_nought" (.cons (.var 2) (.cons (.var 6) (.cons (.var 4) .nil)))))
  (.cons (.ite (.cmp .Lt (.var 5) (.var 7)) (.cons (.expr (.met .append (.var 3) (.cons (.str "0") .nil)))
  (.cons (.asg (.name 2) (.var 7))
  .nil)) (.cons (.expr (.met .append (.var 3) (.cons (.str "1") .nil)))
  (.cons (.aug 2 true (.var 7))
  (.cons (.aug 5 true (.var 7))
  (.cons (.aug 4 true (.int 1))
  .nil)))))
  .nil)))
  (.cons (.ret (.met .join (.str "") (.cons (.var 3) .nil)))
  .nil)))))))
def aR':Css:=(.cons (.ite (.cmp .NotEq (.call "sum_of" (.cons (.var 0) .nil)) (.int 0)) (.cons .raise_
  .nil) .nil)
  (.cons (.asg (.name 1) (.call "balanced_count" (.cons (.blt .len (.cons (.var 0) .nil)) .nil)))
  (.cons (.asg (.name 2) (.bin .FloorDiv (.blt .len (.cons (.var 0) .nil)) (.int 2)))
  (.cons (.asg (.name 3) (.int 0))
  (.cons (.for_ (.tup (.cons (.name 4) (.cons (.name 5) .nil))) (.enum (.var 0)) (.cons (.asg (.name 6) (.call "count_by_nought" (.cons (.var 1) (.cons (.bin .Sub (.blt .len (.cons (.var 0) .nil)) (.var 4)) (.cons (.var 2) .nil)))))
  (.cons (.ite (.cmp .Eq (.var 5) (.str "0")) (.cons (.asg (.name 1) (.var 6))
  .nil) (.cons (.aug 1 true (.var 6))
  (.cons (.aug 3 false (.var 6))
  (.cons (.aug 2 true (.int 1))
  .nil))))
  .nil)))
  (.cons (.ret (.var 3))
  .nil))))))
open SR BA
def cho:Nat->Nat->Nat
 |_,0=>1
 |0,_+1=>0
 |n+1,k+1=>cho n k+cho n (k+1)
theorem fD' {n:Nat}:cho n 0=1:=by cases n<;>rfl
theorem hM':∀{n k:Nat},n<k->cho n k=0
 |0,k+1,_=>rfl
 |n+1,k+1,h=>by
  show cho n k+cho n (k+1)=0
  rw[hM' (show n<k by omega),hM' (show n<k+1 by omega)]
theorem gt':∀{n:Nat},cho n n=1
 |0=>rfl
 |n+1=>by
  show cho n n+cho n (n+1)=1
  rw[gt',hM' (by omega)]
theorem fl':∀(n k:Nat),cho (n+1) (k+1)*(k+1)=cho n k*(n+1)
 |0,0=>rfl
 |0,k+1=>by
  rw[hM' (show 0+1<k+1+1 by omega)]
  show 0*_=0*_
  rw[ce,ce]
 |n+1,0=>by
  have ih:=fl' n 0
  show(cho (n+1) 0+cho (n+1) (0+1))*(0+1)=cho (n+1) 0*(n+1+1)
  rw[fD']at ih ⊢
  omega
 |n+1,k+1=>by
  have h1:=fl' n k
  have h2:=fl' n (k+1)
  show(cho (n+1) (k+1)+cho (n+1) (k+1+1))*(k+1+1)=cho (n+1) (k+1)*(n+1+1)
  have e:cho (n+1) (k+1)=cho n k+cho n (k+1):=rfl
  rw[bO,h2]
  rw[cQ (cho (n+1) (k+1)) (k+1) 1,h1,cQ (cho (n+1) (k+1)) (n+1) 1]
  rw[e]
  simp only[bO,cQ,Nat.mul_one]
  omega
theorem ox':∀(n k:Nat),k<=n+1->cho (n+1) k*(n+1-k)=cho n k*(n+1)
 |n,0,_=>by rw[fD',fD'];rfl
 |n,k+1,h=>by
  have h1:=fl' n k
  have e:cho (n+1) (k+1)=cho n k+cho n (k+1):=rfl
  have h2:cho (n+1) (k+1)*(n+1-(k+1))+cho (n+1) (k+1)*(k+1)=cho (n+1) (k+1)*(n+1):=by
   rw[<- cQ]
   congr 1
   omega
  rw[h1]at h2
  have h3:cho (n+1) (k+1)*(n+1)=cho n k*(n+1)+cho n (k+1)*(n+1):=by rw[e,bO]
  omega
theorem mj' {h:Nat}:∀k,bcL h k=cho (h+k) k
 |0=>by rw[Nat.add_zero,fD'];rfl
 |k+1=>by
  show bcL h k*(h+(k+1)) / (k+1)=cho (h+k+1) (k+1)
  rw[mj' k,show h+(k+1)=h+k+1 by omega,<- fl']
  exact cK _ (by omega)
theorem iG' {m:Nat} (h:m % 2=0):bc m=cho m (m / 2):=by
 unfold bc
 rw[if_pos h,mj',show m / 2+m / 2=m by omega]
theorem vS' {m:Nat} (h:m % 2≠0):bc m=0:=by unfold bc;rw[if_neg h]
theorem eq' {r o:Nat} (h:o<=r+1):bn (cho (r+1) o) (r+1) o=cho r o:=by
 unfold bn
 rw[ox' r o h]
 exact cK _ (by omega)
def cr:Nat->Nat->List (List Bool)
 |0,0=>[[]]
 |0,_+1=>[]
 |r+1,0=>(cr r 0).map (false :: ·)
 |r+1,o+1=>(cr r (o+1)).map (false :: ·)++(cr r o).map (true :: ·)
theorem fV':∀(r o:Nat),(cr r o).length=cho r o
 |0,0=>rfl
 |0,_+1=>rfl
 |r+1,0=>by
  show((cr r 0).map (false :: ·)).length=_
  rw[ac,fV' r 0,fD',fD']
 |r+1,o+1=>by
  show((cr r (o+1)).map (false :: ·)++(cr r o).map (true :: ·)).length=cho r o+cho r (o+1)
  rw[ap,ac,ac,fV' r o,fV' r (o+1)]
  omega
theorem fm':∀{r o:Nat} {l:List Bool},l∈cr r o↔l.length=r/\l.count true=o
 |0,0,l=>by
  show l∈[[]]↔_
  rw[cG]
  refine⟨fun h=>by rw[h];exact⟨rfl,rfl⟩,fun h=>List.eq_nil_of_length_eq_zero h.1⟩
 |0,o+1,l=>by
  show l∈[]↔_
  refine⟨fun h=>absurd h aO,fun h=>?_⟩
  rw[List.eq_nil_of_length_eq_zero h.1]at h
  have:=h.2
  simp at this
 |r+1,0,l=>by
  show l∈(cr r 0).map (false :: ·)↔_
  rw[aR]
  constructor
  .rintro⟨x,hx,rfl⟩
   obtain⟨h1,h2⟩:=fm'.mp hx
   exact⟨by rw[aE,h1],by simpa using h2⟩
  .rintro⟨h1,h2⟩
   cases l with
   |nil=>simp at h1
   |cons b l=>
    cases b with
    |true=>simp at h2
    |false=>exact⟨l,fm'.mpr ⟨by simpa using h1,by simpa using h2⟩,rfl⟩
 |r+1,o+1,l=>by
  show l∈(cr r (o+1)).map (false :: ·)++(cr r o).map (true :: ·)↔_
  rw[aT,aR,aR]
  constructor
  .rintro(⟨x,hx,rfl⟩|⟨x,hx,rfl⟩)
   .obtain⟨h1,h2⟩:=fm'.mp hx
    exact⟨by rw[aE,h1],by simpa using h2⟩
   .obtain⟨h1,h2⟩:=fm'.mp hx
    exact⟨by rw[aE,h1],by simp[h2]⟩
  .rintro⟨h1,h2⟩
   cases l with
   |nil=>simp at h1
   |cons b l=>
    cases b with
    |false=>exact .inl ⟨l,fm'.mpr ⟨by simpa using h1,by simpa using h2⟩,rfl⟩
    |true=>exact .inr ⟨l,fm'.mpr ⟨by simpa using h1,by simpa using h2⟩,rfl⟩
def ltR (a b:List Bool):Prop:=(a.map cb)<(b.map cb)
theorem gu' {b:Bool} {x y:List Bool} (h:ltR x y):ltR (b :: x) (b :: y):=by
 unfold ltR at *
 rw[aH,aH]
 exact List.cons_lt_cons_iff.mpr (.inr ⟨rfl,h⟩)
theorem vT' {x y:List Bool}:ltR (false :: x) (true :: y):=by
 unfold ltR
 rw[aH,aH]
 exact List.cons_lt_cons_iff.mpr (.inl (by decide))
theorem oy':∀(r o:Nat),(cr r o).Pairwise ltR
 |0,0=>by simp[cr]
 |0,_+1=>.nil
 |r+1,0=>by
  show((cr r 0).map (false :: ·)).Pairwise ltR
  rw[bU]
  exact(oy' r 0).imp fun h=>gu' h
 |r+1,o+1=>by
  show((cr r (o+1)).map (false :: ·)++(cr r o).map (true :: ·)).Pairwise ltR
  refine bP.mpr ⟨?_,?_,fun x hx y hy=>?_⟩
  .rw[bU];exact(oy' r (o+1)).imp fun h=>gu' h
  .rw[bU];exact(oy' r o).imp fun h=>gu' h
  .obtain⟨u,_,rfl⟩:=aR.mp hx
   obtain⟨v,_,rfl⟩:=aR.mp hy
   exact vT'
theorem jf':∀{r o a:Nat},o<=r->a<cho r o->(cr r o)[a]?=some (bat r (cho r o) o a)
 |0,0,a,_,h=>by
  have h:a<1:=h
  have:a=0:=by omega
  subst this
  rfl
 |r+1,0,a,_,h=>by
  rw[fD']at h
  have h1:a<cho r 0:=by rw[fD'];exact h
  have ih:=jf' (r:=r) (o:=0) (aM _) h1
  show((cr r 0).map (false :: ·))[a]?=some (if a<bn (cho (r+1) 0) (r+1) 0 then _ else _)
  rw[eq' (aM _),if_pos h1,aq,ih]
  rfl
 |r+1,o+1,a,ho,h=>by
  show((cr r (o+1)).map (false :: ·)++(cr r o).map (true :: ·))[a]?=some (if a<bn (cho (r+1) (o+1)) (r+1) (o+1)then _ else _)
  rw[eq' (by omega)]
  have e:cho (r+1) (o+1)=cho r o+cho r (o+1):=rfl
  have hl:((cr r (o+1)).map (false :: ·)).length=cho r (o+1):=by rw[ac,fV']
  by_cases hq:a<cho r (o+1)
  .rw[if_pos hq,bq (by omega),aq]
   have hor:o+1<=r:=by
    rcases bA r (o+1)with z|z
    .rw[hM' z]at hq;omega
    .exact z
   rw[jf' hor hq]
   rfl
  .rw[if_neg hq,bR (by omega),hl,aq,jf' (show o<=r by omega) (by omega)]
   show _=some (true :: bat r (cho (r+1) (o+1)-cho r (o+1)) (o+1-1) (a-cho r (o+1)))
   rw[show cho (r+1) (o+1)-cho r (o+1)=cho r o by omega]
   rfl
theorem ml':∀{l:List Bool},(cr l.length (l.count true))[bnm l (cho l.length (l.count true)) (l.count true)]?=some l
 | []=>rfl
 |false :: l=>by
  have ih:=ml' (l:=l)
  have hc:(false :: l).count true=l.count true:=by simp
  have hle:l.count true<=l.length:=cV
  rw[hc]
  show(cr (l.length+1) (l.count true))[if false=true then _ else bnm l (bn (cho (l.length+1) (l.count true)) (l.length+1) (l.count true)) (l.count true)]?=_
  rw[if_neg (by decide),eq' (by omega)]
  have hb:=(aL.mp ih).1
  cases ho:l.count true with
  |zero=>
   rw[ho]at ih
   show((cr l.length 0).map (false :: ·))[_]?=_
   rw[aq,ih]
   rfl
  |succ o=>
   rw[ho]at ih hb
   show((cr l.length (o+1)).map (false :: ·)++(cr l.length o).map (true :: ·))[_]?=_
   rw[bq (by rw[ac];exact hb),aq,ih]
   rfl
 |true :: l=>by
  have ih:=ml' (l:=l)
  have hc:(true :: l).count true=l.count true+1:=by simp
  have hle:l.count true<=l.length:=cV
  rw[hc]
  generalize l.count true=o at ih hle
  show(cr (l.length+1) (o+1))[if true=true then bn (cho (l.length+1) (o+1)) (l.length+1) (o+1)+bnm l (cho (l.length+1) (o+1)-bn (cho (l.length+1) (o+1)) (l.length+1) (o+1)) (o+1-1)else _]?=_
  rw[if_pos rfl,eq' (by omega)]
  have e:cho (l.length+1) (o+1)=cho l.length o+cho l.length (o+1):=rfl
  rw[show cho (l.length+1) (o+1)-cho l.length (o+1)=cho l.length o by omega,show o+1-1=o by omega]
  show((cr l.length (o+1)).map (false :: ·)++(cr l.length o).map (true :: ·))[_]?=_
  rw[bR (by rw[ac,fV'];omega),ac,fV',cA,aq,ih]
  rfl
theorem zm' {r o i j:Nat} {l:List Bool} (h1:(cr r o)[i]?=some l) (h2:(cr r o)[j]?=some l):i=j:=by
 obtain⟨b1,e1⟩:=aL.mp h1
 obtain⟨b2,e2⟩:=aL.mp h2
 have up:=bD.mp (oy' r o)
 rcases Nat.lt_trichotomy i j with z|z|z
 .have:=up i j b1 b2 z
  rw[e1,e2]at this
  exact absurd this (List.lt_irrefl _)
 .exact z
 .have:=up j i b2 b1 z
  rw[e1,e2]at this
  exact absurd this (List.lt_irrefl _)
theorem mm' {m k:Nat} (hm:m % 2=0) (hk:k<bc m):(cr m (m / 2))[k]?=some (hL' m k):=by
 unfold hL'
 rw[iG' hm]at hk ⊢
 exact jf' (by omega) hk
theorem mn' {m k:Nat} (hk:k<bc m):m % 2=0/\(hL' m k).length=m/\(hL' m k).count true=m / 2:=by
 have hm:m % 2=0:=by
  rcases Nat.decEq (m % 2) 0 with z|z
  .rw[vS' z]at hk;omega
  .exact z
 have:=fm'.mp (bi (mm' hm hk))
 exact⟨hm,this.1,this.2⟩
theorem vU' {l:List Bool} (h:l.length=2*l.count true):(cr l.length (l.length / 2))[bnR l]?=some l:=by
 have e:l.length / 2=l.count true:=by omega
 unfold bnR
 rw[iG' (by omega),e]
 exact ml'
theorem oz' {m k:Nat} (hk:k<bc m):bnR (hL' m k)=k:=by
 obtain⟨hm,hl,hc⟩:=mn' hk
 have h1:=vU' (l:=hL' m k) (by omega)
 rw[hl]at h1
 exact zm' h1 (mm' hm hk)
def iH':Sp:=fun vs H Q _=>∃(m k:Nat),vs=[.int m,.int k]/\m<=200/\k<bc m/\∀H',aB' H H'->Q (.str (tx (hL' m k))) H'
theorem oA' {C:Rc} (hN:C.N.length=8) (hB:C.fs "balanced_count"=some aG') (hY:C.fs "count_by_nought"=some hK'):∀vs H Q E,iH' vs H Q E->tSs C bw' { nx:=fun _ H'=>Q .non H',rt:=Q } (L2.az' C.N vs) H:=by
 intro vs H Q E h
 obtain⟨m,k,rfl,hm,hkm,q⟩:=h
 rw[ak' hN]
 unfold bw'
 walk_at "y"
 refine ag' hB ?_
 walk_at "y"
 refine⟨m,rfl,hm,?_⟩
 walk_at "y"
 have h0:(0:Int)<=(k:Int):=by omega
 have hlt:(k:Int)<(bc m:Int):=by omega
 refine rO' rfl rfl h0 ?_
 rw[decide_eq_true hlt]
 walk_at "y"
 refine⟨by decide,fun a ha=>?_⟩
 walk_at "y"
 refine⟨⟨by decide,.inl (by decide)⟩,?_⟩
 refine lZ' fun pr hpr=>?_
 walk_at "y"
 have har:a≠pr:=fun z=>by subst z;rw[ad']at hpr;cases hpr
 refine vw' (ad') (by omega) (by omega) (by omega) (by omega) ?_
 rw[show((m:Int)+1-1).toNat=m by omega]
 have hS0:∀o,aB' H (upd (upd (upd H a (.lst [])) pr (.rng 1 (m+1))) a o):=by
  intro o b u hb
  have hab:b≠a:=fun z=>by subst z;rw[ha]at hb;cases hb
  have hbp:b≠pr:=fun z=>by subst z;rw[af' hab,hb]at hpr;cases hpr
  rw[af' hab,af' hbp,af' hab]
  exact hb
 have hA0:(upd (upd H a (.lst [])) pr (.rng 1 (m+1))) a=some (.lst (hG' [])):=by rw[af' har,ad'];rfl
 refine za' (fun i σ H'=>(∃bits c o a' x6 x7,σ=[some (.int m),some (.int k),some (.int (c:Nat)),some (.ref a),some (.int (o:Nat)),some (.int (a':Nat)),x6,x7]/\Bt m (hL' m k) i bits c o a'/\H' a=some (.lst (hG' bits)))/\∀o,aB' H (upd H' a o)) ⟨⟨[],bc m,m / 2,k,none,none,rfl,⟨rfl,rfl,by omega,by omega,vR' hm⟩,hA0⟩,hS0⟩ ?_ ?_
 .rintro i σ H1 hi ⟨⟨bits,c,o,a',x6,x7,rfl,bt,hA⟩,hS⟩
  rw[show(1:Int)+(m:Nat)-1+i*(-1)=((m-i:Nat):Int) by omega]
  obtain⟨t1,t2⟩:=rN' bt hi
  have hbl:=bt.2.1
  walk_at "y"
  refine ag' hY ?_
  walk_at "y"
  refine⟨c,m-i,o,rfl,mi' (by omega) bt.2.2.2.2,by omega,by omega,bt.2.2.1,?_⟩
  have hbn:=rM' (c:=c) (o:=o) (show 0<m-i by omega)
  generalize bn c (m-i) o=n at t1 t2 hbn ⊢
  walk_at "y"
  refine bd' (fun hq=>?_) fun hq=>?_
  .walk_at "y"
   refine⟨tyL hA rfl,fj' hA (by rw[dT'];exact al' (by omega)) ?_⟩
   walk_at "y"
   exact⟨⟨_,n,o,a',_,_,rfl,t1 (by omega),by rw[ad',cb']⟩,fun o=>by rw[bt'];exact hS o⟩
  .obtain⟨ho,t2⟩:=t2 (by omega)
   walk_at "y"
   refine⟨tyL hA rfl,fj' hA (by rw[dT'];exact al' (by omega)) ?_⟩
   walk_at "y"
   rw[ff' (a:=(c:Int)) rfl]
   walk_at "y"
   rw[ff' (a:=(a':Int)) rfl]
   walk_at "y"
   rw[ff' (a:=(o:Int)) rfl]
   walk_at "y"
   simp only[if_true]
   rw[show(c:Int)-n=((c-n:Nat):Int) by omega,show(a':Int)-n=((a'-n:Nat):Int) by omega,show(o:Int)-1=((o-1:Nat):Int) by omega]
   exact⟨⟨_,c-n,o-1,a'-n,_,_,rfl,t2,by rw[ad',cb']⟩,fun o=>by rw[bt'];exact hS o⟩
 .rintro σ H1 ⟨⟨bits,c,o,a',x6,x7,rfl,bt,hA⟩,hS⟩
  obtain⟨b1,b2,_⟩:=bt
  rw[Nat.sub_self]at b1
  have eb:bits=hL' m k:=by rw[<- b1];simp[bat]
  rw[eb]at hA
  walk_at "y"
  refine⟨rfl,?_⟩
  refine gs' (SqL.of hA) (by rw[<- eb,b2];omega) ?_
  refine q _ (fun b u hb=>?_)
  have:=hS (.lst []) b u hb
  have hab:b≠a:=fun z=>by subst z;rw[ha]at hb;cases hb
  rw[af' hab]at this
  exact this
def c6':Sp:=fun vs H Q _=>∃l:List Bool,vs=[.str (tx l)]/\l.length<=200/\sm l=0/\∀H',aB' H H'->Q (.int (bnR l)) H'
theorem mo' {C:Rc} (hN:C.N.length=7) (hS:C.fs "sum_of"=some bv') (hB:C.fs "balanced_count"=some aG') (hY:C.fs "count_by_nought"=some hK'):∀vs H Q E,c6' vs H Q E->tSs C aR' { nx:=fun _ H'=>Q .non H',rt:=Q } (L2.az' C.N vs) H:=by
 intro vs H Q E h
 obtain⟨l,rfl,hl,h0,q⟩:=h
 rw[ak' hN]
 unfold aR'
 have hz:l.length<=sizeLine:=ay' (by omega)
 walk_at "y"
 refine ag' hS ?_
 walk_at "y"
 refine⟨l,rfl,?_⟩
 walk_at "y"
 rw[decide_eq_true h0]
 walk_at "y"
 refine ag' hB ?_
 walk_at "y"
 refine⟨hz,l.length,rfl,hl,?_⟩
 walk_at "y"
 refine⟨hz,⟨by decide,.inl (by decide)⟩,?_⟩
 refine lR' (ix' (l:=l) (fun i σ H'=>aB' H H'/\∃(c o a:Nat) (x4 x5 x6:Option V),σ=[some (.str (tx l)),some (.int c),some (.int o),some (.int a),x4,x5,x6]/\Bm l i c o a) ⟨aB'.refl _,bc l.length,l.length / 2,0,none,none,none,rfl,by rw[Nat.zero_add];rfl,sm0 h0,vR' hl⟩ ?_ ?_)
 .rintro i b σ H1 p hc hp ⟨s1,c,o,a,x4,x5,x6,rfl,b1,b2,b3⟩
  have hi:=ao' hc
  refine eo' (SqT.of ad') ?_
  have s2:=s1.trans (ae' hp (.tup [.int i,.str (tx [b])]))
  generalize upd H1 p (.tup [.int i,.str (tx [b])])=H2 at s2 ⊢
  have ed:l.drop i=b :: l.drop (i+1):=by
   rw[cn hi]
   congr 1
   rw[af hi]at hc
   exact Option.some.inj hc
  have edl:(l.drop (i+1)).length+1=l.length-i:=by rw[bQ];omega
  have ho:o<=l.length-i:=by rw[b2];exact ay cV (by rw[bQ];omega)
  walk_at "y"
  refine ag' hY ?_
  walk_at "y"
  refine⟨hz,?_⟩
  rw[show(l.length:Int)-i=((l.length-i:Nat):Int) by omega]
  refine⟨c,l.length-i,o,rfl,mi' (by omega) b3,by omega,by omega,ho,?_⟩
  have hbn:=rM' (c:=c) (o:=o) (show 0<l.length-i by omega)
  rw[ed]at b1 b2
  unfold bnm at b1
  rw[edl]at b1
  generalize bn c (l.length-i) o=n at b1 hbn ⊢
  cases b with
  |false=>
   walk_at "y"
   refine⟨s2,n,o,a,_,_,_,rfl,?_,?_,ay hbn b3⟩
   .simpa using b1
   .simpa using b2
  |true=>
   have ho1:0<o:=by rw[b2];simp
   walk_at "y"
   rw[ff' (a:=(c:Int)) rfl]
   walk_at "y"
   rw[ff' (a:=(a:Int)) rfl]
   walk_at "y"
   rw[ff' (a:=(o:Int)) rfl]
   walk_at "y"
   simp only[if_true]
   rw[show(c:Int)-n=((c-n:Nat):Int) by omega,show(o:Int)-1=((o-1:Nat):Int) by omega,<- Int.natCast_add]
   refine⟨s2,c-n,o-1,a+n,_,_,_,rfl,?_,?_,ay (Nat.sub_le _ _) b3⟩
   .rw[if_pos rfl]at b1;omega
   .rw[b2];simp
 .rintro σ H1 ⟨s1,c,o,a,x4,x5,x6,rfl,b1,b2,b3⟩
  rw[List.drop_length]at b1
  have:a=bnR l:=by rw[<- b1];rfl
  walk_at "y"
  rw[this]
  exact q _ s1
def wk1 (t k:Nat):Key:=.inl (2*(k:Int)-t)
def wd (t:Nat):List (Key×V):=(au (t+1)).map fun k=>(wk1 t k,V.int (cho t k))
def fd (t n:Nat):List (Key×V):=(au n).map fun k=>(wk1 (t+1) k,V.int (cho (t+1) k))
def zn':Sp:=fun vs H Q _=>∃m:Nat,vs=[.int m]/\m<=200/\∀H',aB' H H'->Q (.int (bc m)) H'
def vV':Sp:=fun vs H Q _=>∃(b:Addr) (n m:Nat),vs=[.ref b,.int m]/\H b=some (eF' b n)/\n<=2 ^ 39/\m<=60/\m % 2=0/\∀(l:List Bool) (H':Hp),l.length=m->l.count true=m / 2->Go 60 H H'->Q (.str (tx l)) H'
def bl:Nat->List (List Bool)
 |0=>[[]]
 |n+1=>(bl n).map (·++[false])++(bl n).map (·++[true])
theorem vW' {l:List Bool} (h:l.length=2*l.count true):sm l=0:=by
 have:l.count true+l.count false=l.length:=by
  clear h
  induction l with
  |nil=>rfl
  |cons b l ih=>cases b<;>simp<;>omega
 unfold sm
 omega
def rP':Sp:=fun vs H Q _=>∃n:Nat,vs=[.int n]/\n<9/\∀H',aB' H H'->Q (.bl true) H'
structure FsS (C:Rc):Prop where
 cnt:C.fs "balanced_count"=some aG'
 bat:C.fs "balanced_at"=some iH'
 num:C.fs "balanced_number"=some c6'
 same:C.fs "_law_same"=some (je' 1)
structure FsLaw (C:Rc):Prop where
 box:C.fs "_law_box"=some (hF' C.K)
 take:C.fs "_law_take"=some c4'
 same:C.fs "_law_same"=some (je' 1)
 cnt:C.fs "balanced_count"=some aG'
 bat:C.fs "balanced_at"=some iH'
 num:C.fs "balanced_number"=some c6'
 due:C.fs "_law_count"=some zn'
 brow:C.fs "_law_balanced_row"=some vV'
 short:C.fs "_law_short_right"=some rP'
end K56
namespace K61
open PySem PySem.Spec PyProof.Rows L2 R3 LW
def cH':Css:=(.cons (.asg (.name 2) (.lst .nil))
  (.cons (.asg (.name 3) (.int 0))
  (.cons (.for_ (.name 4) (.val (.var 0)) (.cons (.asg (.name 3) (.ife (.and (.val (.var 2)) (.cmp .Eq (.idx (.var 2) (.neg (.int 1))) (.var 4))) (.bin .Add (.var 3) (.int 1)) (.int 1)))
  (.cons (.expr (.met .append (.var 2) (.cons (.var 4) .nil)))
  (.cons (.ite (.cmp .Eq (.var 3) (.var 1)) (.cons (.expr (.met .append (.var 2) (.cons (.call "exchanged" (.cons (.var 4) .nil)) .nil)))
  (.cons (.asg (.name 3) (.int 1))
  .nil)) .nil)
  .nil))))
  (.cons (.ret (.met .join (.str "") (.cons (.var 2) .nil)))
  .nil))))
def bV':Css:=(.cons (.asg (.name 2) (.lst .nil))
  (.cons (.asg (.name 3) (.int 0))
  (.cons (.for_ (.tup (.cons (.name 4) (.cons (.name 5) .nil))) (.enum (.var 0)) (.cons (.ite (.cmp .Lt (.var 3) (.var 1)) (.cons (.expr (.met .append (.var 2) (.cons (.var 5) .nil)))
  .nil) .nil)
  (.cons (.asg (.name 3) (.ife (.and (.cmp .Gt (.var 4) (.int 0)) (.cmp .Eq (.idx (.var 0) (.bin .Sub (.var 4) (.int 1))) (.var 5))) (.bin .Add (.var 3) (.int 1)) (.int 1)))
  .nil)))
  (.cons (.asg (.name 6) (.met .join (.str "") (.cons (.var 2) .nil)))
  (.cons (.ite (.cmp .NotEq (.call "stuffed" (.cons (.var 6) (.cons (.var 1) .nil))) (.var 0)) (.cons .raise_
  .nil) .nil)
  (.cons (.ret (.var 6))
  .nil))))))
open SR
def nr (s:List Bool×Nat) (b:Bool):Nat:=if s.1.getLast?=some b then s.2+1 else 1
theorem vX' {s:List Bool×Nat} {b:Bool}:nr s b<=s.2+1:=by unfold nr;split<;>omega
def stp (m:Nat) (s:List Bool×Nat) (b:Bool):List Bool×Nat:=if nr s b=m then(s.1++[b]++[!b],1)else(s.1++[b],nr s b)
def sf (m:Nat) (l:List Bool):List Bool×Nat:=l.foldl (stp m) ([],0)
theorem c7' {m:Nat} {l:List Bool} {b:Bool}:sf m (l++[b])=stp m (sf m l) b:=by unfold sf;rw[List.foldl_append];rfl
theorem rQ' {m:Nat} {l:List Bool} {i:Nat} {c:Bool} (h:l[i]?=some c):sf m (l.take (i+1))=stp m (sf m (l.take i)) c:=by rw[aP' h,c7']
theorem cq' {P:List Bool->Prop} (h0:P []) (hs:∀l b,P l->P (l++[b])):∀l,P l:=by
 intro l
 have:∀n,∀l:List Bool,l.length=n->P l:=by
  intro n
  induction n with
  |zero=>intro l hl;rw[bx.mp hl];exact h0
  |succ n ih=>
   intro l hl
   have hne:l≠[]:=by intro e;rw[e]at hl;cases hl
   rw[<- List.dropLast_concat_getLast hne]
   exact hs _ _ (ih _ (by simp[hl]))
 exact this _ l rfl
theorem jg' {m:Nat}:∀l,(sf m l).1.length<=2*l.length:=by
 apply cq'
 .exact ae _
 .intro l b ih
  rw[c7']
  unfold stp
  split<;>simp<;>omega
theorem pG' {m:Nat} (hm:2<=m):∀l,(sf m l).2<m:=by
 apply cq'
 .show 0<m;omega
 .intro l b ih
  rw[c7']
  unfold stp
  have:=vX' (s:=sf m l) (b:=b)
  split
  .show 1<m;omega
  .show nr (sf m l) b<m;omega
def rl (l:List Bool):Option Bool×Nat:=l.foldl (fun s b=>(some b,if s.1=some b then s.2+1 else 1)) (none,0)
theorem cc' {l:List Bool} {b:Bool}:rl (l++[b])=(some b,if(rl l).1=some b then(rl l).2+1 else 1):=by unfold rl;rw[List.foldl_append];rfl
theorem mp':∀l,(rl l).1=l.getLast?:=by
 apply cq'
 .rfl
 .intro l b _
  rw[cc']
  simp
def us (m:Nat) (l:List Bool):List Bool:=(au l.length).filterMap fun i=>if(rl (l.take i)).2<m then l[i]? else none
theorem et' {α β:Type} {f g:α->Option β}:∀{l:List α},(∀x∈l,f x=g x)->l.filterMap f=l.filterMap g
 | [],_=>rfl
 |a :: r,h=>by
  rw[aX,aX,h a aG,et' fun x hx=>h x (aB _ hx)]
theorem gv' {m:Nat} {l:List Bool} {b:Bool}:us m (l++[b])=us m l++(if(rl l).2<m then[b]else[]):=by
 unfold us
 rw[ap,cN,bE,List.filterMap_append]
 congr 1
 .apply et'
  intro i hi
  have hi:=aw.mp hi
  rw[List.take_append_of_le_length (by omega),bq hi]
 .simp[aX]
  split<;>simp_all
theorem rR' {m:Nat} {l:List Bool} {i:Nat} {c:Bool} (h:l[i]?=some c):us m (l.take (i+1))=us m (l.take i)++(if(rl (l.take i)).2<m then[c]else[]):=by rw[aP' h,gv']
theorem vY' {m:Nat} {l:List Bool}:(us m l).length<=l.length:=by
 unfold us
 exact ay (List.length_filterMap_le ..) (by simp)
set_option tactic.hygienic true in
theorem vZ' {m:Nat} (hm:2<=m):∀l,us m (sf m l).1=l/\(rl (sf m l).1).2=(sf m l).2:=by
 apply cq'
 .exact⟨rfl,rfl⟩
 .intro l b ⟨ih1,ih2⟩
  have hr:=pG' hm l
  rw[c7']
  unfold stp
  have hl:=mp' (sf m l).1
  split
  .rename_i hq
   have hq':(if(sf m l).1.getLast?=some b then(sf m l).2+1 else 1)=m:=hq
   rw[gv',gv',ih1,cc',cc',ih2,hl,if_pos hr]
   dsimp only
   rw[hq',if_neg (aU m),List.append_nil]
   refine⟨rfl,?_⟩
   rw[if_neg]
   rw[cc']
   exact fun z=>absurd (Option.some.inj z) (by cases b<;>decide)
  .rw[gv',ih1,cc',ih2,hl,if_pos hr]
   exact⟨rfl,rfl⟩
theorem rS' {m:Nat} (hm:2<=m):∀l p,p <+: (sf m l).1->(rl p).2<=m:=by
 have base:∀(t p:List Bool) (b:Bool),p <+: t++[b]->p <+: t\/p=t++[b]:=by
  intro t p b ⟨u,hu⟩
  rcases List.eq_nil_or_concat u with rfl|⟨u',c,rfl⟩
  .rw[List.append_nil]at hu;exact .inr hu
  .left
   rw[List.concat_eq_append,<- aS]at hu
   exact⟨u',(List.append_inj' hu rfl).1⟩
 apply cq'
 .intro p hp
  have:p=[]:=List.prefix_nil.mp hp
  subst this
  show 0<=m;omega
 .intro l b ih p hp
  have hr:=pG' hm l
  obtain⟨_,e2⟩:=vZ' hm l
  have hl:=mp' (sf m l).1
  rw[c7']at hp
  unfold stp at hp
  have r1:(rl ((sf m l).1++[b])).2<=m:=by
   rw[cc']
   dsimp only
   split<;>omega
  split at hp
  .rcases base _ _ _ hp with h|rfl
   .rcases base _ _ _ h with h|rfl
    .exact ih p h
    .exact r1
   .rw[cc',cc']
    dsimp only
    rw[if_neg (fun z=>absurd (Option.some.inj z) (by cases b<;>decide))]
    omega
  .rcases base _ _ _ hp with h|rfl
   .exact ih p h
   .exact r1
def aZ':Sp:=fun vs H Q _=>∃(l:List Bool) (m:Nat),vs=[.str (tx l),.int m]/\l.length<=400/\∀H',aB' H H'->Q (.str (tx (sf m l).1)) H'
theorem rT' {a b:Nat}:decide ((a:Int)=(b:Int))=decide (a=b):=by apply decide_eq_decide.mpr;omega
theorem pH' {a b:List Bool}:decide (tx a=tx b)=decide (a=b):=by apply decide_eq_decide.mpr;exact⟨hB',fun h=>by rw[h]⟩
theorem hN' {C:Rc} (hN:C.N.length=5) (hX:C.fs "exchanged"=some bb'):∀vs H Q E,aZ' vs H Q E->tSs C cH' { nx:=fun _ H'=>Q .non H',rt:=Q } (L2.az' C.N vs) H:=by
 intro vs H Q E h
 obtain⟨l,m,rfl,hl,q⟩:=h
 rw[ak' hN]
 unfold cH'
 walk_at "y"
 refine⟨by decide,fun a ha=>?_⟩
 refine fh' (pz' (fun i σ H'=>(∃x,σ=[some (.str (tx l)),some (.int m),some (.ref a),some (.int (sf m (l.take i)).2),x])/\H' a=some (.lst (hG' (sf m (l.take i)).1))/\∀o,aB' H (upd H' a o)) ⟨⟨none,rfl⟩,ad',fun o=>by rw[bt'];exact ae' ha o⟩ ?_ ?_)
 .rintro i c σ H1 hc ⟨⟨x,rfl⟩,hA,hS⟩
  have hi:=ao' hc
  have hlen:=jg' (m:=m) (l.take i)
  rw[aC]at hlen
  have estp:=rQ' (m:=m) hc
  generalize hs:sf m (l.take i)=s at hA hlen estp ⊢
  rw[py']
  simp only[cI,cJ]
  refine iz' fun K hK=>?_
  have ax':∀r:Nat,r=nr s c->K (.int r) H1:=by
   intro r hr
   refine hK _ _ ?_
   walk_at "y"
   refine⟨tyL hA rfl,fj' hA (by rw[dT'];exact al' (by omega)) ?_⟩
   walk_at "y"
   rw[rT']
   refine bd' (fun hq=>?_) fun hq=>?_
   .walk_at "y"
    refine⟨tyL ad' rfl,?_⟩
    refine ag' hX ?_
    walk_at "y"
    refine⟨[c],rfl,by simp,fun H2 s2=>?_⟩
    have h2:=s2 _ _ (ad' (H:=H1) (a:=a) (o:=.lst (hG' s.1++[V.str (tx [c])])))
    walk_at "y"
    refine fj' h2 (by rw[ap,dT'];simp;exact al' (by omega)) ?_
    walk_at "y"
    have e:sf m (l.take (i+1))=(s.1++[c]++[!c],1):=by rw[estp];unfold stp;rw[<- hr,if_pos hq]
    rw[e]
    refine⟨⟨_,rfl⟩,?_,fun o=>?_⟩
    .rw[ad']
     simp only[aH,cM]
     rw[cb',cb']
    .rw[bt']
     intro b u hb
     have hab:b≠a:=fun z=>by subst z;rw[ha]at hb;cases hb
     rw[af' hab]
     exact s2 b u (hS _ b u hb)
   .walk_at "y"
    have e:sf m (l.take (i+1))=(s.1++[c],r):=by rw[estp];unfold stp;rw[<- hr,if_neg hq]
    rw[e]
    refine⟨⟨_,rfl⟩,?_,fun o=>?_⟩
    .rw[ad',cb']
    .rw[bt'];exact hS o
  walk_at "y"
  refine iy' (SqL.of hA) ?_
  rcases List.eq_nil_or_concat s.1 with hn|⟨t,d,hn⟩
  .rw[hn]
   rw[show(!(hG' ([]:List Bool)).isEmpty)=false from rfl]
   walk_at "y"
   exact ax' 1 (by unfold nr;rw[hn];rfl)
  .rw[List.concat_eq_append]at hn
   have e0:(!(hG' s.1).isEmpty)=true:=by rw[hn];unfold hG';simp
   rw[e0]
   walk_at "y"
   refine jb' (SqL.of hA) (v:=.str (tx [d])) ?_ ?_
   .rw[hn,<- cb'];exact f0' _ _
   walk_at "y"
   rw[pH']
   have eg:s.1.getLast?=some d:=by rw[hn];simp
   refine bd' (fun hq=>?_) fun hq=>?_
   .walk_at "y"
    have:=ax' (s.2+1) (by unfold nr;rw[eg,if_pos (by simpa using hq)])
    rw[show((s.2+1:Nat):Int)=(s.2:Int)+1 from rfl]at this
    exact this
   .walk_at "y"
    exact ax' 1 (by unfold nr;rw[eg,if_neg (by simpa using hq)])
 .rintro σ H1 ⟨⟨x,rfl⟩,hA,hS⟩
  rw[aN]at hA
  walk_at "y"
  refine⟨rfl,?_⟩
  have hlen:=jg' (m:=m) l
  refine gs' (SqL.of hA) (by omega) ?_
  refine q _ fun b u hb=>?_
  have:=hS (.lst (hG' (sf m l).1)) b u hb
  have hab:b≠a:=fun z=>by subst z;rw[ha]at hb;cases hb
  rw[af' hab]at this
  exact this
def eu':Sp:=fun vs H Q _=>∃(l:List Bool) (m:Nat),vs=[.str (tx (sf m l).1),.int m]/\l.length<=150/\2<=m/\∀H',aB' H H'->Q (.str (tx l)) H'
theorem mq' {C:Rc} (hN:C.N.length=7) (hSt:C.fs "stuffed"=some aZ'):∀vs H Q E,eu' vs H Q E->tSs C bV' { nx:=fun _ H'=>Q .non H',rt:=Q } (L2.az' C.N vs) H:=by
 intro vs H Q E h
 obtain⟨l0,m,rfl,hl0,hm,q⟩:=h
 rw[ak' hN]
 unfold bV'
 have hlen:=jg' (m:=m) l0
 obtain⟨eus,_⟩:=vZ' hm l0
 generalize hl:(sf m l0).1=l at hlen eus ⊢
 walk_at "y"
 refine⟨by decide,fun a ha=>?_⟩
 refine lR' (ix' (l:=l) (fun i σ H'=>(∃x y,σ=[some (.str (tx l)),some (.int m),some (.ref a),some (.int (rl (l.take i)).2),x,y,none])/\H' a=some (.lst (hG' (us m (l.take i))))/\∀o,aB' H (upd H' a o)) ⟨⟨none,none,rfl⟩,ad',fun o=>by rw[bt'];exact ae' ha o⟩ ?_ ?_)
 .rintro i c σ H1 p hc hp ⟨⟨x,y,rfl⟩,hA,hS⟩
  have hi:=ao' hc
  have hul:=vY' (m:=m) (l:=l.take i)
  rw[aC]at hul
  refine eo' (SqT.of ad') ?_
  have hA2:upd H1 p (.tup [.int i,.str (tx [c])]) a=some (.lst (hG' (us m (l.take i)))):=by rw[af' (av' hA hp)];exact hA
  have hpa:p≠a:=fun z=>by subst z;rw[hA]at hp;cases hp
  have hS2:∀o,aB' H (upd (upd H1 p (.tup [.int i,.str (tx [c])])) a o):=by
   intro o b u hb
   have hab:b≠a:=fun z=>by subst z;rw[ha]at hb;cases hb
   have h1:=hS o b u hb
   rw[af' hab]at h1 ⊢
   rw[af' (av' h1 hp)]
   exact h1
  generalize upd H1 p (.tup [.int i,.str (tx [c])])=H2 at hA2 hS2 ⊢
  simp only[cI,cJ]
  refine rp' fun N hNx=>?_
  have ax':∀H3,H3 a=some (.lst (hG' (us m (l.take (i+1)))))->(∀o,aB' H (upd H3 a o))->N [some (.str (tx l)),some (.int m),some (.ref a),some (.int (rl (l.take i)).2),some (.int i),some (.str (tx [c])),none] H3:=by
   intro H3 hA3 hS3
   refine hNx _ _ ?_
   have erl:rl (l.take (i+1))=(some c,if(rl (l.take i)).1=some c then(rl (l.take i)).2+1 else 1):=by rw[aP' hc,cc']
   refine iz' fun K hK=>?_
   have fin:∀r:Nat,r=(rl (l.take (i+1))).2->K (.int r) H3:=by
    rintro r rfl
    refine hK _ _ ?_
    walk_at "y"
    exact⟨⟨_,_,rfl⟩,hA3,hS3⟩
   walk_at "y"
   refine bd' (fun hq=>?_) fun hq=>?_
   .obtain⟨j,rfl⟩:∃j,i=j+1:=⟨i-1,by omega⟩
    walk_at "y"
    rw[show((j+1:Nat):Int)-1=(j:Int) by omega]
    have hj:l[j]?=some l[j]:=af (by omega)
    refine ea' (ay' (by omega)) (c:=l[j]) (eO' hj) ?_
    walk_at "y"
    have el:(rl (l.take (j+1))).1=some l[j]:=by rw[aP' hj,cc']
    rw[pH']
    refine bd' (fun hq=>?_) fun hq=>?_
    .walk_at "y"
     refine fin ((rl (l.take (j+1))).2+1) ?_
     rw[erl,el]
     dsimp only
     rw[if_pos (by simpa using hq)]
    .walk_at "y"
     refine fin 1 ?_
     rw[erl,el]
     dsimp only
     rw[if_neg (by simpa using hq)]
   .have:i=0:=by omega
    subst this
    walk_at "y"
    exact fin 1 (by rw[erl];rfl)
  have eu:=rR' (m:=m) hc
  walk_at "y"
  refine bd' (fun hq=>?_) fun hq=>?_
  .rw[if_pos (by omega)]at eu
   walk_at "y"
   refine⟨tyL hA2 rfl,fj' hA2 (by rw[dT'];exact al' (by omega)) ?_⟩
   walk_at "y"
   refine ax' _ (by rw[ad',eu,cb']) fun o=>by rw[bt'];exact hS2 o
  .rw[if_neg (by omega),List.append_nil]at eu
   walk_at "y"
   exact ax' _ (by rw[eu];exact hA2) hS2
 .rintro σ H1 ⟨⟨x,y,rfl⟩,hA,hS⟩
  rw[aN,eus]at hA
  rw[aN]
  have sH:aB' H H1:=by
   intro b u hb
   have:=hS (.lst []) b u hb
   have hab:b≠a:=fun z=>by subst z;rw[ha]at hb;cases hb
   rw[af' hab]at this
   exact this
  walk_at "y"
  refine⟨rfl,?_⟩
  refine gs' (SqL.of hA) (by omega) ?_
  walk_at "y"
  refine ag' hSt ?_
  walk_at "y"
  refine⟨l0,m,rfl,by omega,fun H2 s2=>?_⟩
  walk_at "y"
  rw[hl,decide_eq_true rfl]
  walk_at "y"
  exact q _ (sH.trans s2)
def iI':Sp:=fun vs H Q _=>∃(l:List Bool) (m:Nat),vs=[.str (tx l),.int m]/\l.length<=100/\2<=m/\m<=20/\∀H',aB' H H'->Q (.bl true) H'
structure FsLaw (C:Rc):Prop where
 box:C.fs "_law_box"=some (hF' C.K)
 row:C.fs "_law_row"=some iC'
 take:C.fs "_law_take"=some c4'
 right:C.fs "_law_right"=some iI'
 stuffed:C.fs "stuffed"=some aZ'
end K61
namespace TM
open PySem PySem.Spec PyProof.Rows L2 R3 LW
def cI':Css:=(.cons (.asg (.name 2) (.blt .set (.cons (.var 1) .nil)))
  (.cons (.setc2 3 (.var 5) [4,5] (.name 4) (.val (.var 1)) .none [5] (.name 5) (.val (.idx (.var 0) (.var 4))) .none)
  (.cons (.ret (.comp (.var 4) [4] (.name 4) (.val (.var 1)) (.some (.and (.din false (.var 4) (.var 3)) (.or (.din false (.idx (.idx (.var 0) (.var 4)) (.int 0)) (.var 2)) (.din false (.idx (.idx (.var 0) (.var 4)) (.int 1)) (.var 2))))) .nil))
  .nil)))
def cJ':Css:=(.cons (.dctc false 2 (.var 4) (.var 3) [3,4] (.tup (.cons (.name 3) (.cons (.name 4) .nil))) (.enum (.var 1)) .none)
  (.cons (.ret (.blt .tuple (.cons (.comp (.tup (.cons (.dgt (.var 2) (.idx (.idx (.var 0) (.var 4)) (.int 0))) (.cons (.dgt (.var 2) (.idx (.idx (.var 0) (.var 4)) (.int 1))) .nil))) [4] (.name 4) (.val (.var 1)) .none .nil) .nil)))
  .nil))
def cK':Css:=(.cons (.asg (.name 1) (.blt .list (.cons (.blt .range (.cons (.blt .len (.cons (.var 0) .nil)) .nil)) .nil)))
  (.cons (.asg (.name 2) (.call "lasting" (.cons (.var 0) (.cons (.var 1) .nil))))
  (.cons (.whl (.cmp .Lt (.blt .len (.cons (.var 2) .nil)) (.blt .len (.cons (.var 1) .nil))) (.cons (.asg (.name 1) (.var 2))
  (.cons (.asg (.name 2) (.call "lasting" (.cons (.var 0) (.cons (.var 1) .nil))))
  .nil)))
  (.cons (.ret (.tup (.cons (.call "part_of" (.cons (.var 0) (.cons (.var 1) .nil))) (.cons (.var 1) .nil))))
  .nil))))
def oI (o:Option Nat):Option Int:=o.map Int.ofNat
theorem oB' {o:Option Nat}:oV o=kO (oI o):=by cases o<;>rfl
theorem pI' {a b:Option Nat} (h:oI a=oI b):a=b:=by
 cases a<;>cases b<;>simp[oI]at h ⊢
 omega
def fs1 (M:List Rm) (r:Nat):Option Nat:=(M[r]?.getD (none,none)).1
def fs2 (M:List Rm) (r:Nat):Option Nat:=(M[r]?.getD (none,none)).2
theorem ed' {C:Rc} {H:Hp} {a:Addr} {M:List Rm} {r:Nat} {Q:VK} (hM:IsM H a M) (hr:r<M.length) (q:∀p,H p=some (.tup [oV (fs1 M r),oV (fs2 M r)])->Q (.ref p) H):jD' C.K (.ref a) (.int r) H Q\/j9' C.K (.ref a) (.int r) H Q:=by
 obtain⟨vs,ha,hv⟩:=hM
 obtain⟨p,hp,hpt⟩:=hv.get (af hr)
 refine fR' (SqT.of ha) (v:=.ref p) (eO' hp) (q p ?_)
 unfold fs1 fs2
 rw[af hr]
 exact hpt
theorem zo' {M:List Rm} (hO:OkM M) {r n:Nat}:(fs1 M r=some n->n<M.length)/\(fs2 M r=some n->n<M.length):=by
 unfold fs1 fs2
 cases e:M[r]? with
 |none=>exact⟨fun h=>(nomatch h),fun h=>(nomatch h)⟩
 |some m=>
  have:=hO m (bi e)
  exact⟨this.1 n,this.2 n⟩
def ldS (M:List Rm) (rs:List Nat):Option Int->Bool:=fun k=>rs.any fun r=>decide (k=oI (fs1 M r)) || decide (k=oI (fs2 M r))
theorem oC' {M:List Rm} {rs:List Nat} {r:Nat}:ldS M (rs++[r])=fun k=>(ldS M rs k || decide (k=oI (fs1 M r))) || decide (k=oI (fs2 M r)):=by
 funext k
 unfold ldS
 rw[List.any_append]
 simp[Bool.or_assoc]
def inR (rs:List Nat) (o:Option Nat):Bool:=match o with
 |some n=>rs.contains n
 |none=>false
theorem pJ' {rs:List Nat} {o:Option Nat}:inL (rs.map Int.ofNat) (oI o)=inR rs o:=by
 cases o with
 |none=>rfl
 |some n=>
  show(rs.map Int.ofNat).contains (Int.ofNat n)=rs.contains n
  induction rs with
  |nil=>rfl
  |cons a rs ih=>
   rw[aH,List.contains_cons,List.contains_cons,ih]
   congr 1
   by_cases h:n=a
   .subst h;simp
   .rw[beq_eq_false_iff_ne.mpr h,beq_eq_false_iff_ne.mpr (fun z=>h (Int.ofNat.inj z))]
def dU' (M:List Rm) (rs:List Nat) (r:Nat):Bool:=ldS M rs (some (r:Int))&&(inR rs (fs1 M r) || inR rs (fs2 M r))
def lst (M:List Rm) (rs:List Nat):List Nat:=rs.filter (dU' M rs)
theorem rU' {rs:List Nat}:(rs.map Int.ofNat).map V.int=rs.map nV:=by rw[ck];rfl
def hO':Sp:=fun vs H Q _=>∃(a l:Addr) (M:List Rm) (rs:List Nat),vs=[.ref a,.ref l]/\IsM H a M/\H l=some (.lst (rs.map nV))/\(∀r∈rs,r<M.length)/\rs.length<=500/\∀(p:Addr) (H':Hp),H p=none->aB' H H'->H' p=some (.lst ((lst M rs).map nV))->Q (.ref p) H'
theorem mr' {C:Rc} (hN:C.N.length=6):∀vs H Q E,hO' vs H Q E->tSs C cI' { nx:=fun _ H'=>Q .non H',rt:=Q } (L2.az' C.N vs) H:=by
 intro vs H Q E h
 obtain⟨a,l,M,rs,rfl,hM,hl,hrs,hlen,q⟩:=h
 rw[ak' hN]
 unfold cI'
 walk_at "y"
 refine vE' (ns:=rs.map Int.ofNat) (SqL.of (by rw[rU'];exact hl)) (by rw[ac];omega) fun p hp=>?_
 have s1:=ae' hp (fA' p (inL (rs.map Int.ofNat)) (rs.map Int.ofNat).length)
 have hp1:upd H p (fA' p (inL (rs.map Int.ofNat)) (rs.map Int.ofNat).length) p=some (fA' p (inL (rs.map Int.ofNat)) (rs.map Int.ofNat).length):=ad'
 generalize upd H p (fA' p (inL (rs.map Int.ofNat)) (rs.map Int.ofNat).length)=H1 at s1 hp1 ⊢
 have hl1:=s1 _ _ hl
 have hM1:=hM.mono (bm' s1)
 walk_at "y"
 refine aL' (SqL.of hl1) (zc' (vs:=rs.map nV) (fun i b H'=>b.1=ldS M (rs.take i)/\b.2=2*i/\H'=H1) ⟨rfl,rfl,rfl⟩ (fun i b H' pv=>SqL.of (by rw[pv.2.2];exact hl1)) ?_ ?_)
 .rintro i ⟨S,n⟩ H' x R hx ⟨hS,hn,hH⟩ hR
  subst hH
  rw[aq]at hx
  cases er:rs[i]? with
  |none=>rw[er]at hx;cases hx
  |some r=>
  rw[er]at hx
  cases hx
  have hi:=ao' er
  have hrM:=hrs r (bi er)
  dsimp only at hS hn
  subst hS hn
  simp only[nV]
  walk_at "y"
  refine ed' hM1 hrM fun pr hpr=>?_
  walk_at "y"
  refine hC' (SqT.of hpr) (Ac' (vs:=[oV (fs1 M r),oV (fs2 M r)]) (fun j b H''=>b.1=(fun k=>(if j=0 then ldS M (rs.take i) k else if j=1 then(ldS M (rs.take i) k || decide (k=oI (fs1 M r)))else(ldS M (rs.take i) k || decide (k=oI (fs1 M r))) || decide (k=oI (fs2 M r))))/\b.2=2*i+j/\H''=H') ⟨rfl,rfl,rfl⟩ (fun j b H' pv=>SqT.of (by rw[pv.2.2];exact hpr)) ?_ ?_)
  .rintro j ⟨S,n⟩ H' x R2 hx ⟨hS,hn,rfl⟩ hR2
   dsimp only at hS hn
   subst hS hn
   have hj:j=0\/j=1:=by
    have:=ao' hx
    simp only[aE,bN]at this
    omega
   rcases hj with rfl|rfl
   .simp only[List.getElem?_cons_zero,Option.some.injEq]at hx
    subst hx
    walk_at "y"
    refine⟨oI (fs1 M r),oB',by omega,hR2 _ _ ⟨?_,rfl,rfl⟩⟩
    funext k
    simp
   .simp only[List.getElem?_cons_succ,List.getElem?_cons_zero,Option.some.injEq]at hx
    subst hx
    walk_at "y"
    refine⟨oI (fs2 M r),oB',by omega,hR2 _ _ ⟨?_,rfl,rfl⟩⟩
    funext k
    simp
  .rintro⟨S,n⟩ H' ⟨hS,hn,rfl⟩
   dsimp only at hS hn
   subst hS hn
   refine hR _ _ ⟨?_,by simp;omega,rfl⟩
   rw[show rs.take (i+1)=rs.take i++[r] by rw[bJ,er];rfl,oC']
   rfl
 .rintro⟨S,n⟩ H' ⟨hS,hn,rfl⟩
  dsimp only at hS hn
  rw[ac,aN]at hS
  subst hS
  refine⟨trivial,fun p2 hp2=>?_⟩
  dsimp only
  have s2:=ae' hp2 (fA' p2 (ldS M rs) n)
  have hp22:upd H' p2 (fA' p2 (ldS M rs) n) p2=some (fA' p2 (ldS M rs) n):=ad'
  generalize upd H' p2 (fA' p2 (ldS M rs) n)=H2 at s2 hp22 ⊢
  have hl2:=s2 _ _ hl1
  have hp12:=s2 _ _ hp1
  have hM2:=hM1.mono (bm' s2)
  walk_at "y"
  refine aL' (SqL.of hl2) (dR' (vs:=rs.map nV) (fun i xs H'=>xs=((rs.take i).filter (dU' M rs)).map nV/\H'=H2) ⟨rfl,rfl⟩ (fun i xs H' pv=>SqL.of (by rw[pv.2];exact hl2)) ?_ ?_)
  .rintro i xs H' x R hx ⟨rfl,rfl⟩ hR
   rw[aq]at hx
   cases er:rs[i]? with
   |none=>rw[er]at hx;cases hx
   |some r=>
   rw[er]at hx
   cases hx
   have hi:=ao' er
   have hrM:=hrs r (bi er)
   have et:(rs.take (i+1)).filter (dU' M rs)=(rs.take i).filter (dU' M rs)++[r].filter (dU' M rs):=by rw[bJ,er,List.filter_append];rfl
   have hfl:((rs.take i).filter (dU' M rs)).length<=500:=ay (cR ..) (by rw[aC];omega)
   have yes:dU' M rs r=true->R (((rs.take i).filter (dU' M rs)).map nV++[nV r]) H':=fun h=>hR _ _ ⟨by rw[et,List.filter_cons,if_pos h,az];rfl,rfl⟩
   have no:dU' M rs r=false->R (((rs.take i).filter (dU' M rs)).map nV) H':=fun h=>hR _ _ ⟨by rw[et,List.filter_cons,if_neg (by rw[h];decide)];simp,rfl⟩
   have e1:=pJ' (rs:=rs) (o:=fs1 M r)
   have e2:=pJ' (rs:=rs) (o:=fs2 M r)
   unfold dU' at yes no
   simp only[nV]at yes ⊢
   walk_at "y"
   refine l2' (k:=some (r:Int)) rfl hp22 ?_
   simp only[aF,if_false]
   cases hld:ldS M rs (some (r:Int))with
   |false=>
    rw[hld]at no
    walk_at "y"
    exact no rfl
   |true=>
    rw[hld]at yes no
    walk_at "y"
    refine ed' hM2 hrM fun pr hpr=>?_
    walk_at "y"
    refine fR' (SqT.of hpr) (v:=oV (fs1 M r)) rfl ?_
    walk_at "y"
    refine l2' oB' hp12 ?_
    simp only[aF,if_false]
    rw[e1]
    cases h1:inR rs (fs1 M r)with
    |true=>
     rw[h1]at yes
     walk_at "y"
     exact⟨by rw[ac];exact al' (by omega),yes rfl⟩
    |false=>
     rw[h1]at yes no
     walk_at "y"
     refine ed' hM2 hrM fun pr hpr=>?_
     walk_at "y"
     refine fR' (SqT.of hpr) (v:=oV (fs2 M r)) rfl ?_
     walk_at "y"
     refine l2' oB' hp12 ?_
     simp only[aF,if_false]
     rw[e2]
     cases h2:inR rs (fs2 M r)with
     |true=>
      rw[h2]at yes
      walk_at "y"
      exact⟨by rw[ac];exact al' (by omega),yes rfl⟩
     |false=>
      rw[h2]at no
      walk_at "y"
      exact no rfl
  .rintro xs H' ⟨rfl,rfl⟩ p3 hp3
   rw[ac,aN]
   have hfin:upd H' p3 (.lst ((rs.filter (dU' M rs)).map nV)) p3=some (.lst ((lst M rs).map nV)):=ad'
   exact q p3 _ ((s1.trans s2).free hp3) (s1.trans (s2.trans (ae' hp3 _))) hfin
theorem jZ' {i:Nat} (h:i<=1000):hashInt (i:Int)=i:=by
 unfold hashInt rawHash
 have e:(((i:Int).natAbs:Nat):Int) % ((2 ^ 61-1:Nat):Int)=i:=by
  rw[Int.natAbs_natCast]
  exact Int.emod_eq_of_lt (by omega) (Int.ofNat_lt.mpr (show i<2 ^ 61-1 by omega))
 dsimp only
 rw[e]
 have h1:¬((i:Int)<0):=by omega
 have h2:((i:Int) == -1)=false:=by rw[beq_eq_false_iff_ne];omega
 simp only[h1,if_false,h2,aF]
def TbK (n m:Nat) (kvs:List (Key×V)):Prop:=∀kv∈kvs,∃r j:Nat,kv=(.inl (r:Int),.int j)/\r<n/\j<m
theorem TbK.non {H:Hp} {p:Addr} {n m:Nat} {kvs:List (Key×V)} (h:TbK n m kvs) (hn:n<=1000) (hp:H p=some (.dK kvs)):NoN H p:=.inl ⟨kvs,hp,fun kv hkv=>by
 obtain⟨r,j,rfl,hr,_⟩:=h kv hkv
 exact⟨r,rfl,by rw[jZ' (by omega)];show(r:Int)≠0xFCA86420;omega⟩⟩
theorem v0' {M:List Rm} {rs:List Nat}:(lst M rs).length<=rs.length:=cR ..
theorem ms' {M:List Rm} {rs:List Nat} {r:Nat} (h:r∈lst M rs):r∈rs:=(cL.mp h).1
theorem mt' {n:Nat}:rgs 0 n=(au n).map nV:=by
 unfold rgs
 apply bX
 intro k _
 show V.int (0+(k:Int))=V.int k
 rw[Int.zero_add]
end TM
namespace BD
open PySem PySem.Spec PyProof.Rows L2 R3 LW TM
def aS':Css:=(.cons (.asg (.tup (.cons (.name 1) (.cons (.name 2) (.cons (.name 3) (.cons (.name 4) (.cons (.name 5) .nil)))))) (.var 0))
  (.cons (.asg (.name 6) (.ife (.cmp .Is (.var 5) .non) (.lst (.cons (.int 0) .nil)) (.blt .list (.cons (.blt .range (.cons (.bin .Add (.var 5) (.int 1)) .nil)) .nil))))
  (.cons (.ret (.comp (.tup (.cons (.var 7) (.cons (.var 9) (.cons (.var 10) .nil)))) [7,8,9,10] (.tup (.cons (.name 7) (.cons (.name 8) .nil))) (.val (.tup (.cons (.tup (.cons (.int 0) (.cons (.var 2) .nil))) (.cons (.tup (.cons (.int 1) (.cons (.var 4) .nil))) .nil)))) .none (.cons [9,10] (.name 9) (.range2 (.int 1) (.bin .Add (.var 8) (.int 1))) .none (.cons [10] (.name 10) (.val (.var 6)) .none .nil))))
  .nil)))
def bx':Css:=(.cons (.asg (.tup (.cons (.name 3) (.cons (.name 4) (.cons (.name 5) (.cons (.name 6) (.cons (.name 7) .nil)))))) (.var 0))
  (.cons (.asg (.tup (.cons (.name 8) (.cons (.name 9) (.cons (.name 10) .nil)))) (.var 1))
  (.cons (.ite (.cmp .IsNot (.var 7) .non) (.cons (.aug 10 false (.ife (.cmp .Eq (.var 2) (.int 1)) (.int 1) (.neg (.int 1))))
  .nil) .nil)
  (.cons (.ite (.cmp .Eq (.var 2) (.var 8)) (.cons (.ret (.tup (.cons (.var 2) (.cons (.bin .Add (.var 9) (.int 1)) (.cons (.var 10) .nil)))))
  .nil) .nil)
  (.cons (.ite (.cmp .Lt (.var 9) (.ife (.cmp .Eq (.var 8) (.int 1)) (.var 5) (.var 3))) (.cons (.ret .non)
  .nil) .nil)
  (.cons (.ret (.tup (.cons (.var 2) (.cons (.int 1) (.cons (.var 10) .nil)))))
  .nil))))))
def aH':Css:=(.cons (.dctc true 2 (.var 4) (.var 3) [3,4] (.tup (.cons (.name 3) (.cons (.name 4) .nil))) (.enum (.var 1)) .none)
  (.cons (.ret (.blt .tuple (.cons (.comp (.tup (.cons (.dgt (.var 2) (.call "room_behind" (.cons (.var 0) (.cons (.var 4) (.cons (.int 0) .nil))))) (.cons (.dgt (.var 2) (.call "room_behind" (.cons (.var 0) (.cons (.var 4) (.cons (.int 1) .nil))))) .nil))) [4] (.name 4) (.val (.var 1)) .none .nil) .nil)))
  .nil))
def bJ':Css:=(.cons (.asg (.tup (.cons (.name 1) (.cons (.name 2) .nil))) (.call "trimmed" (.cons (.call "machine_in_bounds" (.cons (.var 0) (.cons (.call "rooms_in_bounds" (.cons (.var 0) .nil)) .nil))) .nil)))
  (.cons (.ret (.var 1))
  .nil))
structure IsB (H:Hp) (p:Addr) (l0 h0 l1 h1:Nat) (sp:Option Nat):Prop where
 at':H p=some (.tup [nV l0,nV h0,nV l1,nV h1,oV sp])
 b0:h0<=8
 b1:h1<=8
 bs:∀s,sp=some s->s<=16
theorem IsB.mono {H H':Hp} {p:Addr} {l0 h0 l1 h1:Nat} {sp:Option Nat} (h:IsB H p l0 h0 l1 h1 sp) (t:Tp H H'):IsB H' p l0 h0 l1 h1 sp:=⟨t _ _ h.at',h.b0,h.b1,h.bs⟩
theorem pK' {C:Rc} {H:Hp} {σ:L2.St} {i j k m n:Nat} {a:Addr} {x y z u v:V} {R:L2.St->Hp->Prop} (h:SqT C.K H a [x,y,z,u,v]) (q:R (((((σ.set i (some x)).set j (some y)).set k (some z)).set m (some u)).set n (some v)) H):tG C (.tup (.cons (.name i) (.cons (.name j) (.cons (.name k) (.cons (.name m) (.cons (.name n) .nil)))))) (.ref a) σ H R:=
 ⟨a,[x,y,z,u,v],rfl,.inl h,rfl,_,_,rfl,_,_,rfl,_,_,rfl,_,_,rfl,_,_,rfl,rfl,q⟩
abbrev K3:=Nat×Nat×Nat
def ka' (H:Hp) (v:V) (k:K3):Prop:=∃p,v=.ref p/\H p=some (.tup [nV k.1,nV k.2.1,nV k.2.2])
theorem ka'.mono {H H':Hp} (s:aB' H H') {v:V} {k:K3} (h:ka' H v k):ka' H' v k:=by
 obtain⟨p,e,hp⟩:=h
 exact⟨p,e,s _ _ hp⟩
def r1 (lv:List Nat) (b pl:Nat):List K3:=lv.map fun l=>(b,pl,l)
def r2 (lv:List Nat) (b:Nat) (h:Nat):List K3:=(au h).flatMap fun j=>r1 lv b (j+1)
def rk (lv:List Nat) (h0 h1:Nat):List K3:=r2 lv 0 h0++r2 lv 1 h1
def lvs:Option Nat->List Nat
 |none=>[0]
 |some s=>au (s+1)
theorem iJ' {lv:List Nat} {b h:Nat}:r2 lv b (h+1)=r2 lv b h++r1 lv b (h+1):=by
 unfold r2
 rw[bE,List.flatMap_append]
 simp
theorem hP' {lv:List Nat} {b:Nat}:∀{h},(r2 lv b h).length=h*lv.length
 |0=>by rw[ce];rfl
 |h+1=>by rw[iJ',ap,hP',bO,cg];unfold r1;rw[ac]
theorem hQ' {lv:List Nat} {b h:Nat} {k:K3}:k∈r2 lv b h->k.1=b/\1<=k.2.1/\k.2.1<=h/\k.2.2∈lv:=by
 unfold r2 r1
 intro hk
 obtain⟨j,hj,hk⟩:=List.mem_flatMap.mp hk
 obtain⟨l,hl,rfl⟩:=aR.mp hk
 have:=aw.mp hj
 exact⟨rfl,by show 1<=j+1;omega,by show j+1<=h;omega,hl⟩
theorem mu' {α β:Type} {f:α->β} (hf:∀x y,f x=f y->x=y):∀{l:List α},l.Nodup->(l.map f).Nodup
 | [],_=>List.nodup_nil
 |a :: l,h=>by
  rw[bB]at h
  rw[aH,bB]
  refine⟨fun z=>?_,mu' hf h.2⟩
  obtain⟨x,hx,e⟩:=aR.mp z
  rw[hf _ _ e]at hx
  exact h.1 hx
theorem rV' {lv:List Nat} (hl:lv.Nodup) {b:Nat}:∀{h},(r2 lv b h).Nodup
 |0=>List.nodup_nil
 |h+1=>by
  rw[iJ',List.nodup_append]
  refine⟨rV' hl,mu' (fun x y e=>by injection e with _ e;injection e) hl,fun x hx y hy e=>?_⟩
  subst e
  have h1:=(hQ' hx).2.2.1
  unfold r1 at hy
  obtain⟨l,_,rfl⟩:=aR.mp hy
  have:h+1<=h:=h1
  omega
theorem v1' {lv:List Nat} (hl:lv.Nodup) {h0 h1:Nat}:(rk lv h0 h1).Nodup:=by
 unfold rk
 rw[List.nodup_append]
 refine⟨rV' hl,rV' hl,fun x hx y hy e=>?_⟩
 subst e
 have a:=(hQ' hx).1
 have b:=(hQ' hy).1
 omega
theorem v2' {sp:Option Nat}:(lvs sp).Nodup:=by
 cases sp with
 |none=>exact bB.mpr ⟨aO,List.nodup_nil⟩
 |some s=>exact List.nodup_range
theorem pL' {sp:Option Nat} (h:∀s,sp=some s->s<=16):(lvs sp).length<=17/\∀l∈lvs sp,l<=16:=by
 cases sp with
 |none=>exact⟨by decide,fun l hl=>by have:l=0:=(by simpa[lvs]using hl);omega⟩
 |some s=>
  have:=h s rfl
  refine⟨by show(au (s+1)).length<=17;rw[aQ];omega,fun l hl=>?_⟩
  have:=aw.mp (show l∈au (s+1) from hl)
  omega
theorem v3' {sp:Option Nat} {h0 h1:Nat} (hs:∀s,sp=some s->s<=16) (a0:h0<=8) (a1:h1<=8):(rk (lvs sp) h0 h1).length<=272/\∀k∈rk (lvs sp) h0 h1,k.1<2/\k.2.1<9/\k.2.2<17:=by
 obtain⟨h,hm⟩:=pL' hs
 constructor
 .unfold rk
  rw[ap,hP',hP']
  have e0:h0*(lvs sp).length<=8*17:=Nat.mul_le_mul a0 h
  have e1:h1*(lvs sp).length<=8*17:=Nat.mul_le_mul a1 h
  omega
 .intro k hk
  unfold rk at hk
  rcases aT.mp hk with hk|hk
  .obtain⟨e,_,e2,e3⟩:=hQ' hk
   have:=hm _ e3
   omega
  .obtain⟨e,_,e2,e3⟩:=hQ' hk
   have:=hm _ e3
   omega
def mv':Sp:=fun vs H Q _=>∃(bd:Addr) (l0 h0 l1 h1:Nat) (sp:Option Nat),vs=[.ref bd]/\IsB H bd l0 h0 l1 h1 sp/\∀(p:Addr) (xs:List V) (H':Hp),aB' H H'->H' p=some (.lst xs)->d0' (ka' H') xs (rk (lvs sp) h0 h1)->Q (.ref p) H'
theorem hT' {H H':Hp} (s:aB' H H') {xs:List V} {ks:List K3} (h:d0' (ka' H) xs ks):d0' (ka' H') xs ks:=h.mono fun _ _ z=>z.mono s
theorem oD' {C:Rc} (hN:C.N.length=11):∀vs H Q E,mv' vs H Q E->tSs C aS' { nx:=fun _ H'=>Q .non H',rt:=Q } (L2.az' C.N vs) H:=by
 intro vs H Q E h
 obtain⟨bd,l0,h0,l1,h1,sp,rfl,hB,q⟩:=h
 rw[ak' hN]
 unfold aS'
 walk_at "y"
 rw[od']
 walk_at "y"
 refine pK' (C:=C) (SqT.of hB.at') ?_
 simp only[lK',cI,cJ]
 obtain⟨hlv,hlm⟩:=pL' hB.bs
 refine iz' fun K hK=>?_
 have ax':∀(pl:Addr) (H1:Hp),aB' H H1->H1 pl=some (.lst ((lvs sp).map nV))->K (.ref pl) H1:=by
  intro pl H1 s1 hpl
  refine hK _ _ ?_
  walk_at "y"
  refine⟨by show 2<=sizeLine;decide,fun q0 hq0=>?_⟩
  have t0:=ae' hq0 (.tup [.int 0,nV h0])
  have e0:upd H1 q0 (.tup [.int 0,nV h0]) q0=some (.tup [.int 0,nV h0]):=ad'
  generalize upd H1 q0 (.tup [.int 0,nV h0])=H2 at t0 e0 ⊢
  walk_at "y"
  refine⟨by show 2<=sizeLine;decide,fun q1 hq1=>?_⟩
  have t1:=ae' hq1 (.tup [.int 1,nV h1])
  have e1:upd H2 q1 (.tup [.int 1,nV h1]) q1=some (.tup [.int 1,nV h1]):=ad'
  generalize upd H2 q1 (.tup [.int 1,nV h1])=H3 at t1 e1 ⊢
  walk_at "y"
  refine⟨by show 2<=sizeLine;decide,fun q2 hq2=>?_⟩
  have t2:=ae' hq2 (.tup [.ref q0,.ref q1])
  have e2:upd H3 q2 (.tup [.ref q0,.ref q1]) q2=some (.tup [.ref q0,.ref q1]):=ad'
  generalize upd H3 q2 (.tup [.ref q0,.ref q1])=H4 at t2 e2 ⊢
  have s4:aB' H1 H4:=t0.trans (t1.trans t2)
  have e04:=t2 _ _ (t1 _ _ e0)
  have e14:=t2 _ _ e1
  have hpl4:=s4 _ _ hpl
  have hrk:=(v3' hB.bs hB.b0 hB.b1 (h0:=h0) (h1:=h1)).1
  refine hC' (SqT.of e2) (Ac' (vs:=[.ref q0,.ref q1]) (fun i xs H'=>aB' H4 H'/\d0' (ka' H') xs (if i=0 then[]else if i=1 then r2 (lvs sp) 0 h0 else rk (lvs sp) h0 h1)) ⟨aB'.refl _,trivial⟩ (fun i xs H' pv=>SqT.of (pv.1 _ _ e2)) ?_ ?_)
  .rintro i xs H5 x R hx ⟨s5,hA⟩ hR
   have hi2:i=0\/i=1:=by
    have:=ao' hx
    simp only[aE,bN]at this
    omega
   obtain⟨qq,b,hh,rfl,hqq,hh8,pre,hpre,hpost,hb⟩:∃(qq:Addr) (b hh:Nat),x=.ref qq/\H5 qq=some (.tup [.int b,nV hh])/\hh<=8/\∃pre,d0' (ka' H5) xs pre/\(∀ys H6,aB' H4 H6->d0' (ka' H6) ys (pre++r2 (lvs sp) b hh)->R ys H6)/\(pre++r2 (lvs sp) b hh).length<=272:=by
    rcases hi2 with rfl|rfl
    .cases hx
     refine⟨q0,0,h0,rfl,s5 _ _ e04,hB.b0,[],hA,fun ys H6 s6 h6=>hR _ _ ⟨s6,h6⟩,?_⟩
     rw[List.nil_append]
     unfold rk at hrk
     rw[ap]at hrk
     omega
    .cases hx
     exact⟨q1,1,h1,rfl,s5 _ _ e14,hB.b1,r2 (lvs sp) 0 h0,hA,fun ys H6 s6 h6=>hR _ _ ⟨s6,h6⟩,hrk⟩
   refine eo' (C:=C) (SqT.of hqq) ?_
   simp only[nV]
   walk_at "y"
   rw[ap,hP']at hb
   have hap:=hpre.len
   refine vn' (by omega) (by omega) (by omega) (by omega) (AV' (n:=((hh:Int)+1-1).toNat) (fun j ys H6=>aB' H4 H6/\d0' (ka' H6) ys (pre++r2 (lvs sp) b j)) ⟨s5,by simpa[r2]using hpre⟩ ?_ ?_)
   .rintro j ys H6 R2 hj ⟨s6,h6⟩ hR2
    have hjh:j<hh:=by omega
    have hjl:j*(lvs sp).length+(lvs sp).length<=hh*(lvs sp).length:=by
     have:=Nat.mul_le_mul_right (lvs sp).length hjh
     rw[Nat.succ_mul]at this
     exact this
    walk_at "y"
    refine aL' (SqL.of (s6 _ _ hpl4)) (zc' (vs:=(lvs sp).map nV) (fun m zs H7=>aB' H4 H7/\d0' (ka' H7) zs (pre++r2 (lvs sp) b j++r1 ((lvs sp).take m) b (j+1))) ⟨s6,by simpa[r1]using h6⟩ (fun m zs H7 pv=>SqL.of (pv.1 _ _ hpl4)) ?_ ?_)
    .rintro m zs H7 x R3 hx ⟨s7,h7⟩ hR3
     rw[aq]at hx
     cases er:(lvs sp)[m]? with
     |none=>rw[er]at hx;cases hx
     |some lv=>
     rw[er]at hx
     cases hx
     have hm:=ao' er
     have h7l:=h7.len
     rw[ap,ap,hP']at h7l
     unfold r1 at h7l
     rw[ac,aC]at h7l
     simp only[nV]
     walk_at "y"
     refine⟨by show 3<=sizeLine;decide,fun q8 hq8=>?_⟩
     have t8:=ae' hq8 (.tup [.int b,.int (1+j),.int lv])
     have e8:upd H7 q8 (.tup [.int b,.int (1+j),.int lv]) q8=some (.tup [nV b,nV (j+1),nV lv]):=by
      rw[ad']
      show some (HO.tup [.int b,.int (1+(j:Int)),.int lv])=some (HO.tup [.int b,.int ((j+1:Nat):Int),.int lv])
      rw[show(1:Int)+j=((j+1:Nat):Int) by omega]
     generalize upd H7 q8 (.tup [.int b,.int (1+j),.int lv])=H8 at t8 e8 ⊢
     refine⟨al' (by omega),hR3 _ _ ⟨s7.trans t8,?_⟩⟩
     rw[show r1 ((lvs sp).take (m+1)) b (j+1)=r1 ((lvs sp).take m) b (j+1)++[(b,j+1,lv)] by unfold r1;rw[bJ,er,az];rfl,<- aS]
     exact(hT' t8 h7).snoc ⟨q8,rfl,e8⟩
    .rintro zs H7 ⟨s7,h7⟩
     rw[ac,aN,aS,<- iJ']at h7
     exact hR2 _ _ ⟨s7,h7⟩
   .rintro ys H6 ⟨s6,h6⟩
    rw[show((hh:Int)+1-1).toNat=hh by omega]at h6
    exact hpost ys H6 s6 h6
  .rintro xs H5 ⟨s5,hA⟩ p9 hp9
   have s9:=ae' hp9 (.lst xs)
   exact q p9 xs _ (s1.trans (s4.trans (s5.trans s9))) ad' (hT' s9 hA)
 walk_at "y"
 cases sp with
 |none=>
  simp only[oV]
  walk_at "y"
  refine⟨by decide,fun pl hpl=>?_⟩
  exact ax' pl _ (ae' hpl _) ad'
 |some s=>
  have hs:=hB.bs s rfl
  simp only[oV]
  walk_at "y"
  refine fi' fun pr hpr=>?_
  walk_at "y"
  refine gn' ad' (by omega) (by omega) (by omega) (by omega) (cj (al' (by omega))) fun pl hpl=>?_
  rw[show((s:Int)+1-0).toNat=s+1 by omega,mt']
  exact ax' pl _ ((ae' hpr _).trans (ae' hpl _)) ad'
theorem zp':∀b:Fin 2,∀p:Fin 9,∀l:Fin 17,reduceHash (Builtin.Tuple.tupleHashOf [hashInt (b.val:Int),hashInt (p.val:Int),hashInt (l.val:Int)])≠NH:=by decide +kernel
def kI (k:K3):List Int:=[(k.1:Int),(k.2.1:Int),(k.2.2:Int)]
def kK (k:K3):List Key:=(kI k).map Key.inl
theorem pM' {a b:K3} (h:kK a=kK b):a=b:=by
 obtain⟨a1,a2,a3⟩:=a
 obtain⟨b1,b2,b3⟩:=b
 unfold kK kI at h
 simp only[aH,cM,List.cons.injEq,Key.inl.injEq,and_true]at h
 obtain⟨h1,h2,h3⟩:=h
 rw[show a1=b1 by omega,show a2=b2 by omega,show a3=b3 by omega]
theorem v4' {k:K3}:(kK k).map L2.kV=[nV k.1,nV k.2.1,nV k.2.2]:=rfl
theorem mw' {ks:List K3} {i:Nat} {k:K3} (h:ks.Nodup) (hk:ks[i]?=some k):k∉ks.take i:=by
 intro hm
 have hi:=ao' hk
 have e:ks=ks.take i++k :: ks.drop (i+1):=by
  have h1:=aW i ks
  rw[cn hi]at h1
  rw[af hi]at hk
  rw[Option.some.inj hk]at h1
  exact h1.symm
 rw[e,List.nodup_append]at h
 exact h.2.2 k hm k aG rfl
theorem hU' {ks:List K3} {i:Nat} {k:K3} (hk:ks[i]?=some k):ks.take (i+1)=ks.take i++[k]:=by rw[bJ,hk];rfl
def TbT (ks:List K3) (m:Nat) (a:KTL):Prop:=∀x∈a,∃(k:K3) (j:Nat),k∈ks/\x.1=kK k/\x.2.2=.int j/\j<m
theorem TbT.non {H:Hp} {p:Addr} {ks:List K3} {m:Nat} {a:KTL} (h:TbT ks m a) (hk:∀k∈ks,k.1<2/\k.2.1<9/\k.2.2<17) (hp:H p=some (.dT (plT a))):NoN H p:=.inr ⟨plT a,hp,fun kv hkv=>by
 obtain⟨x,hx,rfl⟩:=aR.mp hkv
 obtain⟨k,j,hks,e,_⟩:=h x hx
 obtain⟨h1,h2,h3⟩:=hk k hks
 exact⟨kI k,e,zp' ⟨k.1,h1⟩ ⟨k.2.1,h2⟩ ⟨k.2.2,h3⟩⟩⟩
end BD
namespace BE
open PySem PySem.Spec PyProof.Rows L2 R3 LW TM BD
def lvl (sp:Option Nat) (lv c:Nat):Int:=match sp with
 |none=>lv
 |some _=>(lv:Int)+if c=1 then 1 else -1
def bh (l0 l1:Nat) (sp:Option Nat) (k:K3) (c:Nat):Option (List Int):=
 if c=k.1 then some [(c:Int),(k.2.1:Int)+1,lvl sp k.2.2 c]else if k.2.1<(if k.1=1 then l1 else l0)then none else some [(c:Int),1,lvl sp k.2.2 c]
def mx':Sp:=fun vs H Q _=>∃(bd rm:Addr) (l0 h0 l1 h1:Nat) (sp:Option Nat) (k:K3) (c:Nat),vs=[.ref bd,.ref rm,.int c]/\IsB H bd l0 h0 l1 h1 sp/\H rm=some (.tup [nV k.1,nV k.2.1,nV k.2.2])/\(bh l0 l1 sp k c=none->∀H',aB' H H'->Q .non H')/\∀z,bh l0 l1 sp k c=some z->∀(p:Addr) (H':Hp),aB' H H'->H' p=some (.tup (z.map V.int))->Q (.ref p) H'
theorem oE' {C:Rc} (hN:C.N.length=11):∀vs H Q E,mx' vs H Q E->tSs C bx' { nx:=fun _ H'=>Q .non H',rt:=Q } (L2.az' C.N vs) H:=by
 intro vs H Q E h
 obtain⟨bd,rm,l0,h0,l1,h1,sp,⟨b,pl,lv⟩,c,rfl,hB,hrm,q1,q2⟩:=h
 rw[ak' hN]
 unfold bx'
 walk_at "y"
 rw[od']
 walk_at "y"
 refine pK' (C:=C) (SqT.of hB.at') ?_
 walk_at "y"
 rw[od']
 walk_at "y"
 refine rl' (SqT.of hrm) ?_
 simp only[nV,lK',cI,cJ]
 refine rp' fun N hNx=>?_
 have ax':∀lev:Int,lvl sp lv c=lev->N [some (.ref bd),some (.ref rm),some (.int c),some (.int l0),some (.int h0),some (.int l1),some (.int h1),some (oV sp),some (.int b),some (.int pl),some (.int lev)] H:=by
  intro lev hlev
  refine hNx _ _ ?_
  have e:bh l0 l1 sp (b,pl,lv) c=if c=b then some [(c:Int),(pl:Int)+1,lev]else if pl<(if b=1 then l1 else l0)then none else some [(c:Int),1,lev]:=by
   unfold bh
   rw[<- hlev]
  walk_at "y"
  refine bd' (fun hq=>?_) fun hq=>?_
  .have hq:c=b:=by omega
   walk_at "y"
   refine⟨by show 3<=sizeLine;decide,fun p hp=>?_⟩
   exact q2 _ (by rw[e,if_pos hq]) p _ (ae' hp _) ad'
  have hq:¬c=b:=by omega
  walk_at "y"
  refine bd' (fun hb=>?_) fun hb=>?_
  .have hb:b=1:=by omega
   walk_at "y"
   refine bd' (fun hq2=>?_) fun hq2=>?_
   .walk_at "y"
    exact q1 (by rw[e,if_neg hq,if_pos hb,if_pos (by omega)]) _ (aB'.refl _)
   .walk_at "y"
    refine⟨by show 3<=sizeLine;decide,fun p hp=>?_⟩
    exact q2 _ (by rw[e,if_neg hq,if_pos hb,if_neg (by omega)]) p _ (ae' hp _) ad'
  .have hb:¬b=1:=by omega
   walk_at "y"
   refine bd' (fun hq2=>?_) fun hq2=>?_
   .walk_at "y"
    exact q1 (by rw[e,if_neg hq,if_neg hb,if_pos (by omega)]) _ (aB'.refl _)
   .walk_at "y"
    refine⟨by show 3<=sizeLine;decide,fun p hp=>?_⟩
    exact q2 _ (by rw[e,if_neg hq,if_neg hb,if_neg (by omega)]) p _ (ae' hp _) ad'
 cases sp with
 |none=>
  simp only[oV]
  walk_at "y"
  exact ax' _ rfl
 |some s=>
  simp only[oV]
  walk_at "y"
  rw[ff' (a:=(lv:Int)) rfl]
  walk_at "y"
  refine bd' (fun hq=>?_) fun hq=>?_
  .walk_at "y"
   exact ax' _ (by show(lv:Int)+(if c=1 then 1 else -1)=_;(rw[if_pos (by omega)]<;>rfl))
  .walk_at "y"
   exact ax' _ (by show(lv:Int)+(if c=1 then 1 else -1)=_;(rw[if_neg (by omega)]<;>rfl))
def ixK (ks:List K3) (z:Option (List Int)):Option Nat:=match z with
 |none=>none
 |some z=>ks.findIdx? fun k=>decide (BD.kI k=z)
def plN (ks:List K3) (m:Nat):List (List Key×V):=(au m).map fun i:Nat=>(kK (ks[i]?.getD (0,0,0)),V.int i)
theorem oF' {ks:List K3} {m:Nat} {k:K3} (h:ks[m]?=some k):plN ks (m+1)=plN ks m++[(kK k,V.int m)]:=by
 unfold plN
 rw[bE,az]
 simp[h]
theorem my' {ks:List K3} {z:List Int} (h:∀k∈ks,BD.kI k≠z):ixK ks (some z)=none:=by
 show ks.findIdx? _=none
 rw[List.findIdx?_eq_none_iff]
 intro k hk
 exact decide_eq_false (h k hk)
theorem mz' {ks:List K3} {z:List Int} {i:Nat} {k:K3} (hn:ks.Nodup) (hk:ks[i]?=some k) (hz:BD.kI k=z):ixK ks (some z)=some i:=by
 show ks.findIdx? _=some i
 have hi:=ao' hk
 rw[cm]
 refine⟨hi,?_,fun j hj=>?_⟩
 .rw[af hi]at hk
  rw[Option.some.inj hk]
  exact decide_eq_true hz
 .have hjl:j<ks.length:=by omega
  intro hd
  have hd:=of_decide_eq_true hd
  have e:kK ks[j]=kK k:=by unfold kK;rw[hd,hz]
  have e2:=pM' e
  have h1:ks[j]?=some k:=by rw[af hjl,e2]
  have:=mw' hn hk
  exact this (bi (l:=ks.take i) (i:=j) (by rw[List.getElem?_take,if_pos hj];exact h1))
theorem mA':∀{a b:List Int},(a.map Key.inl:List Key)=b.map Key.inl->a=b
 | [],[],_=>rfl
 | [],_ :: _,h=>by cases h
 |_ :: _,[],h=>by cases h
 |x :: a,y :: b,h=>by
  rw[aH,aH]at h
  injection h with h1 h2
  injection h1 with h1
  rw[h1,mA' h2]
theorem rW' {ks:List K3} (hn:ks.Nodup) (z:List Int):(gC' (plN ks ks.length) (z.map Key.inl)).getD .non=oV (ixK ks (some z)):=by
 have e0:gC' (plN ks ks.length) (z.map Key.inl)=((au ks.length).find? fun i=>decide (kK (ks[i]?.getD (0,0,0))=z.map Key.inl)).map fun i:Nat=>V.int (i:Int):=by
  unfold gC' plN
  rw[List.find?_map,Option.map_map]
  rfl
 rw[e0]
 cases e:(au ks.length).find? fun i=>decide (kK (ks[i]?.getD (0,0,0))=z.map Key.inl)with
 |none=>
  rw[List.find?_eq_none]at e
  rw[my' fun k hk hz=>?_]
  .rfl
  .obtain⟨i,hi⟩:=List.getElem?_of_mem hk
   refine e i (aw.mpr (ao' hi)) (decide_eq_true ?_)
   rw[hi]
   show(BD.kI k).map Key.inl=_
   rw[hz]
 |some i=>
  have h0:=List.find?_some e
  have h1:=of_decide_eq_true h0
  have h2:=aw.mp (List.mem_of_find?_eq_some e)
  have h3:ks[i]?=some ks[i]:=af h2
  rw[h3]at h1
  rw[mz' hn h3 (mA' h1)]
  rfl
def mx (l0 l1:Nat) (sp:Option Nat) (ks:List K3) (k:K3):Rm:=(ixK ks (bh l0 l1 sp k 0),ixK ks (bh l0 l1 sp k 1))
def hV':Sp:=fun vs H Q _=>∃(bd l:Addr) (l0 h0 l1 h1:Nat) (sp:Option Nat) (xs:List V),vs=[.ref bd,.ref l]/\IsB H bd l0 h0 l1 h1 sp/\H l=some (.lst xs)/\d0' (ka' H) xs (rk (lvs sp) h0 h1)/\∀(p:Addr) (H':Hp),aB' H H'->IsM H' p ((rk (lvs sp) h0 h1).map (mx l0 l1 sp (rk (lvs sp) h0 h1)))->Q (.ref p) H'
theorem v5' {ks:List K3} {z:Option (List Int)} {i:Nat} (h:ixK ks z=some i):i<ks.length:=by
 cases z with
 |none=>cases h
 |some z=>exact(cm.mp h).1
theorem mB' {C:Rc} (hN:C.N.length=5) (hR:C.fs "room_behind"=some mx'):∀vs H Q E,hV' vs H Q E->tSs C aH' { nx:=fun _ H'=>Q .non H',rt:=Q } (L2.az' C.N vs) H:=by
 intro vs H Q E h
 obtain⟨bd,l,l0,h0,l1,h1,sp,xs,rfl,hB,hl,hA,q⟩:=h
 rw[ak' hN]
 unfold aH'
 obtain⟨hrl,hrb⟩:=v3' hB.bs hB.b0 hB.b1 (h0:=h0) (h1:=h1)
 have hnd:=v1' (v2' (sp:=sp)) (h0:=h0) (h1:=h1)
 generalize hks:rk (lvs sp) h0 h1=ks at hA q hrl hrb hnd
 have hxl:=hA.len
 walk_at "y"
 refine lQ' (SqL.of hl) (Ad' (vs:=xs) (fun i b H'=>i<=ks.length/\plT b=plN ks i/\TbT (ks.take i) ks.length b/\okT b H'/\b.length=i/\aB' H H') ⟨aM _,rfl,fun x h=>absurd h aO,fun x h=>absurd h aO,rfl,aB'.refl _⟩ (fun i b H' pv=>SqL.of (pv.2.2.2.2.2 _ _ hl)) ?_ ?_)
 .rintro i b H1 x p R hx hp ⟨_,hpl,hb,hok,hbl,s1⟩ hR'
  obtain⟨k,hk,pk,rfl,hpk⟩:=hA.getL hx
  have hi:=ao' hk
  refine eo' (SqT.of ad') ?_
  have t2:=ae' hp (.tup [.int i,.ref pk])
  have s2:=s1.trans t2
  generalize upd H1 p (.tup [.int i,.ref pk])=H2 at t2 s2 ⊢
  have ok2:okT b H2:=fun y hy=>t2 _ _ (hok y hy)
  walk_at "y"
  refine⟨kK k,pk,rfl,by rw[v4'];exact s2 _ _ hpk,ok2,fun y hy e=>?_,al' (by omega),hR' _ _ ⟨hi,?_,fun y hy=>?_,fun y hy=>?_,by simp[hbl],s2⟩⟩
  .obtain⟨k',j,hk',e',_⟩:=hb y hy
   have ek:k'=k:=pM' (e'.symm.trans e)
   subst ek
   exact mw' hnd hk hk'
  .rw[oF' hk,<- hpl]
   unfold plT
   rw[az]
   rfl
  .rw[hU' hk]
   rcases aT.mp hy with hy|hy
   .obtain⟨k',j,hk',e'⟩:=hb y hy
    exact⟨k',j,bf _ hk',e'⟩
   .have:y=(kK k,pk,V.int i):=by simpa using hy
    subst this
    exact⟨k,i,aj _ (cG.mpr rfl),rfl,rfl,hi⟩
  .rcases aT.mp hy with hy|hy
   .exact ok2 y hy
   .have:y=(kK k,pk,V.int i):=by simpa using hy
    subst this
    show H2 pk=some (.tup ((kK k).map L2.kV))
    rw[v4']
    exact s2 _ _ hpk
 .rintro a H1 ⟨_,hpl,hb,hok,hal,s1⟩
  rw[hxl,aN]at hb
  rw[hxl]at hpl
  refine⟨hok,fun p hp=>?_⟩
  have s2:=s1.trans (ae' hp (.dT (plT a)))
  have hp2:upd H1 p (.dT (plT a)) p=some (.dT (plT a)):=ad'
  generalize upd H1 p (.dT (plT a))=H2 at s2 hp2 ⊢
  have get0:∀{H3:Hp} {Q':VK},aB' H2 H3->Q' (oV (ixK ks none)) H3->iB' p Q' .non H3:=fun s3 q'=>l5' (hb.non hrb (s3 _ _ hp2)) q'
  have get1:∀{H3:Hp} {Q':VK} {pz:Addr} {z:List Int},aB' H2 H3->H3 pz=some (.tup (z.map V.int))->Q' (oV (ixK ks (some z))) H3->iB' p Q' (.ref pz) H3:=by
   intro H3 Q' pz z s3 hz q'
   refine l4' (h4'.t (k:=z.map Key.inl) (s3 _ _ hp2) (by rw[hz,ck];rfl)) ?_
   rw[hpl,rW' hnd]
   exact q'
  walk_at "y"
  refine aL' (SqL.of (s2 _ _ hl)) (dR' (vs:=xs) (fun i ys H'=>i<=ks.length/\cX' H' ys ((ks.take i).map (mx l0 l1 sp ks))/\aB' H2 H') ⟨aM _,trivial,aB'.refl _⟩ (fun i ys H' pv=>SqL.of (pv.2.2 _ _ (s2 _ _ hl))) ?_ ?_)
  .rintro i ys H3 x R hx ⟨_,hR',s3⟩ hRR
   obtain⟨k,hk,pk,rfl,hpk⟩:=hA.getL hx
   have hi:=ao' hk
   have s23:=s2.trans s3
   walk_at "y"
   refine gp' (.inr ⟨plT a,.inl (s3 _ _ hp2)⟩) ?_
   refine ag' hR ?_
   walk_at "y"
   have half:∀(H4:Hp),aB' H3 H4->kA1 C (List.set (clr [4] [some (.ref bd),some (.ref l),some (.ref p),none,none]) 4 (some (.ref pk))) (.cons (.dgt (.var 2) (.call "room_behind" (.cons (.var 0) (.cons (.var 4) (.cons (.int 1) .nil))))) .nil) (w7' (hD' ys R)) (oV (ixK ks (bh l0 l1 sp k 0))) H4:=by
    intro H4 s34
    have s4:=s3.trans s34
    walk_at "y"
    refine gp' (.inr ⟨plT a,.inl (s4 _ _ hp2)⟩) ?_
    refine ag' hR ?_
    walk_at "y"
    have second:∀(H5:Hp),aB' H4 H5->kA1 C (List.set (clr [4] [some (.ref bd),some (.ref l),some (.ref p),none,none]) 4 (some (.ref pk))) .nil (kA2 (oV (ixK ks (bh l0 l1 sp k 0))) (w7' (hD' ys R))) (oV (ixK ks (bh l0 l1 sp k 1))) H5:=by
     intro H5 s45
     walk_at "y"
     refine⟨by show 2<=sizeLine;decide,fun p6 hp6=>?_⟩
     have s6:=ae' hp6 (.tup [oV (ixK ks (bh l0 l1 sp k 0)),oV (ixK ks (bh l0 l1 sp k 1))])
     have h6:upd H5 p6 (.tup [oV (ixK ks (bh l0 l1 sp k 0)),oV (ixK ks (bh l0 l1 sp k 1))]) p6=some (.tup [oV (ixK ks (bh l0 l1 sp k 0)),oV (ixK ks (bh l0 l1 sp k 1))]):=ad'
     generalize upd H5 p6 (.tup [oV (ixK ks (bh l0 l1 sp k 0)),oV (ixK ks (bh l0 l1 sp k 1))])=H6 at s6 h6 ⊢
     have hyl:=hR'.len
     rw[ac,aC]at hyl
     refine⟨al' (by omega),hRR _ _ ⟨hi,?_,(s4.trans s45).trans s6⟩⟩
     rw[hU' hk,az]
     exact(hR'.mono (bm' (s34.trans (s45.trans s6)))).snoc ⟨p6,rfl,h6⟩
    refine⟨bd,pk,l0,h0,l1,h1,sp,k,1,rfl,hB.mono (bm' (s2.trans s4)),(s2.trans s4) _ _ hpk,fun e H5 s45=>get0 (s4.trans s45) (by rw[<- e];exact second H5 s45),fun z e pz H5 s45 hz=>get1 (s4.trans s45) hz (by rw[<- e];exact second H5 s45)⟩
   refine⟨bd,pk,l0,h0,l1,h1,sp,k,0,rfl,hB.mono (bm' s23),s23 _ _ hpk,fun e H4 s34=>get0 (s3.trans s34) (by rw[<- e];exact half H4 s34),fun z e pz H4 s34 hz=>get1 (s3.trans s34) hz (by rw[<- e];exact half H4 s34)⟩
  .rintro ys H3 ⟨_,hR',s3⟩ p5 hp5
   rw[hxl,aN]at hR'
   walk_at "y"
   have h5:upd H3 p5 (.lst ys) p5=some (.lst ys):=ad'
   have s5:=ae' hp5 (.lst ys)
   generalize upd H3 p5 (.lst ys)=H5 at h5 s5 ⊢
   refine l0' (SqL.of h5) fun p6 hp6=>?_
   have s6:=ae' hp6 (.tup ys)
   exact q p6 _ (s2.trans (s3.trans (s5.trans s6))) ⟨ys,ad',hR'.mono (bm' (s5.trans s6))⟩
theorem zq' {l0 l1:Nat} {sp:Option Nat} {ks:List K3}:OkM (ks.map (mx l0 l1 sp ks)):=by
 intro r hr
 obtain⟨k,_,rfl⟩:=aR.mp hr
 rw[ac]
 exact⟨fun n hn=>v5' hn,fun n hn=>v5' hn⟩
def Sus (M:List Rm) (S:List Nat):Prop:=∀r∈S,r<M.length/\(∃r'∈S,fs1 M r'=some r\/fs2 M r'=some r)/\∃r'∈S,fs1 M r=some r'\/fs2 M r=some r'
theorem jh' {M:List Rm} {S rs:List Nat} (h:Sus M S) (hs:∀r∈S,r∈rs):∀r∈S,r∈lst M rs:=by
 intro r hr
 obtain⟨_,⟨r1,hr1,e1⟩,⟨r2,hr2,e2⟩⟩:=h r hr
 refine cL.mpr ⟨hs r hr,?_⟩
 unfold dU'
 rw[ai]
 constructor
 .unfold ldS
  rw[ci]
  refine⟨r1,hs r1 hr1,?_⟩
  rw[cc]
  rcases e1 with e|e
  .left;rw[e];exact decide_eq_true rfl
  .right;rw[e];exact decide_eq_true rfl
 .rw[cc]
  rcases e2 with e|e
  .left;rw[e];exact List.contains_iff_mem.mpr (hs r2 hr2)
  .right;rw[e];exact List.contains_iff_mem.mpr (hs r2 hr2)
end BE
namespace TE
open PySem PySem.Spec PyProof.Rows L2 R3 LW TM BD BE
def ixR (rs:List Nat):Option Nat->Option Nat
 |none=>none
 |some n=>if n∈rs then some (rs.idxOf n)else none
theorem ji' {rs:List Nat} {n:Nat}:ixR rs (some n)=if n∈rs then some (rs.idxOf n)else none:=rfl
theorem v6' {rs:List Nat} (h:rs.Nodup) {i j:Nat} {hi:i<rs.length} {hj:j<rs.length} (e:rs[i]=rs[j]):i=j:=by
 rcases Nat.lt_trichotomy i j with z|z|z
 .exact absurd e (bD.mp h i j hi hj z)
 .exact z
 .exact absurd e.symm (bD.mp h j i hj hi z)
def prt (M:List Rm) (rs:List Nat):List Rm:=rs.map fun r=>(ixR rs (fs1 M r),ixR rs (fs2 M r))
theorem rX' {M:List Rm} {rs:List Nat}:(prt M rs).length=rs.length:=by unfold prt;rw[ac]
def ziR:List Nat->Nat->List (Key×V)
 | [],_=>[]
 |r :: rs,k=>((Key.inl (r:Int):Key),V.int k) :: ziR rs (k+1)
theorem jj' {r:Nat}:∀{rs:List Nat} {k:Nat},ziR (rs++[r]) k=ziR rs k++[((Key.inl (r:Int):Key),V.int (k+rs.length:Nat))]
 | [],k=>by simp[ziR]
 |a :: rs,k=>by
  show _ :: ziR (rs++[r]) (k+1)=_ :: (ziR rs (k+1)++_)
  rw[jj',aE,show k+1+rs.length=k+(rs.length+1) by omega]
theorem rY' {a b:Nat}:((Key.inl (a:Int):Key)=Key.inl (b:Int))↔a=b:=⟨fun h=>by injection h with h;omega,fun h=>by rw[h]⟩
theorem iK' {x:Nat}:∀{rs:List Nat} {k:Nat},gC' (ziR rs k) (Key.inl (x:Int))=if x∈rs then some (V.int (k+rs.idxOf x:Nat))else none
 | [],k=>by simp[ziR,gC']
 |r :: rs,k=>by
  by_cases h:r=x
  .subst h
   rw[show ziR (r :: rs) k=((Key.inl (r:Int):Key),V.int k) :: ziR rs (k+1) from rfl,eB' rfl]
   simp
  .rw[show ziR (r :: rs) k=((Key.inl (r:Int):Key),V.int k) :: ziR rs (k+1) from rfl,eC' (fun z=>h (rY'.mp z)),iK']
   have hx:¬x=r:=fun z=>h z.symm
   have e1:(r == x)=false:=by rw[beq_eq_false_iff_ne];exact h
   simp only[ax,hx,false_or]
   rw[List.idxOf_cons,e1]
   split
   .simp only[cond_false]
    rw[show k+1+rs.idxOf x=k+(rs.idxOf x+1) by omega]
   .rfl
theorem mC':∀{rs:List Nat} {k:Nat},(ziR rs k).length=rs.length
 | [],_=>rfl
 |_ :: rs,k=>by show(ziR rs (k+1)).length+1=_;rw[mC'];rfl
theorem pN' {n:Nat}:∀{rs:List Nat} {k m:Nat},(∀r∈rs,r<n)->k+rs.length<=m->TbK n m (ziR rs k)
 | [],_,_,_,_=>fun kv h=>absurd h aO
 |r :: rs,k,m,h,hm=>fun kv hkv=>by
  rw[aE]at hm
  rcases ax.mp hkv with rfl|hkv
  .exact⟨r,k,rfl,h r (by simp),by omega⟩
  .exact pN' (k:=k+1) (fun x hx=>h x (by simp[hx])) (by omega) kv hkv
theorem pO' {C:Rc} {H:Hp} {Q:VK} {p:Addr} {n:Nat} {rs:List Nat} {o:Option Nat} (h:∀r∈rs,r<n) (hn:n<=1000) (hp:H p=some (.dK (ziR rs 0))) (q:Q (oV (ixR rs o)) H):iB' p Q (oV o) H:=by
 cases o with
 |none=>exact l5' ((pN' (m:=rs.length) h (by omega)).non hn hp) q
 |some x=>
  refine l4' (h4'.k (k:=.inl (x:Int)) hp) ?_
  rw[iK']
  rw[ji']at q
  by_cases hx:x∈rs
  .rw[if_pos hx]at q ⊢
   rw[Nat.zero_add]
   exact q
  .rw[if_neg hx]at q ⊢
   exact q
def fn':Sp:=fun vs H Q _=>∃(a l:Addr) (M:List Rm) (rs:List Nat),vs=[.ref a,.ref l]/\IsM H a M/\M.length<=500/\H l=some (.lst (rs.map nV))/\(∀r∈rs,r<M.length)/\rs.Nodup/\rs.length<=500/\∀(p:Addr) (H':Hp),aB' H H'->IsM H' p (prt M rs)->Q (.ref p) H'
theorem j0' {C:Rc} (hN:C.N.length=5):∀vs H Q E,fn' vs H Q E->tSs C cJ' { nx:=fun _ H'=>Q .non H',rt:=Q } (L2.az' C.N vs) H:=by
 intro vs H Q E h
 obtain⟨a,l,M,rs,rfl,hM,hM5,hl,hrs,hnd,hlen,q⟩:=h
 rw[ak' hN]
 unfold cJ'
 walk_at "y"
 refine lQ' (SqL.of hl) (Ad' (vs:=rs.map nV) (fun i b H'=>b=ziR (rs.take i) 0/\i<=rs.length/\aB' H H') ⟨rfl,aM _,aB'.refl _⟩ (fun i b H' pv=>SqL.of (pv.2.2 _ _ hl)) ?_ ?_)
 .rintro i b H1 x p R hx hp ⟨rfl,hi0,s1⟩ hR
  rw[aq]at hx
  cases er:rs[i]? with
  |none=>rw[er]at hx;cases hx
  |some r=>
  rw[er]at hx
  cases hx
  have hi:=ao' er
  refine eo' (SqT.of ad') ?_
  have s2:=s1.trans (ae' hp (.tup [.int i,nV r]))
  generalize upd H1 p (.tup [.int i,nV r])=H2 at s2 ⊢
  simp only[nV]
  walk_at "y"
  have et:rs.take (i+1)=rs.take i++[r]:=by rw[bJ,er];rfl
  have hno:r∉rs.take i:=fun hm=>by
   obtain⟨j,hj,ej⟩:=cu.mp hm
   rw[aC]at hj
   rw[cT]at ej
   have er':rs[i]'hi=r:=by rw[af hi]at er;exact Option.some.inj er
   have:=v6' hnd (hi:=by omega) (hj:=hi) (ej.trans er'.symm)
   omega
  refine⟨.inl (r:Int),rfl,by rw[mC',aC];exact al' (by omega),hR _ _ ⟨?_,by omega,s2⟩⟩
  rw[ns' _ (by rw[iK',if_neg hno]),et,jj',aC,Nat.min_eq_left (by omega),Nat.zero_add]
 .rintro kvs H1 ⟨rfl,_,s1⟩
  rw[ac,aN]
  refine⟨trivial,fun p hp=>?_⟩
  have s2:=s1.trans (ae' hp (.dK (ziR rs 0)))
  have hp2:upd H1 p (.dK (ziR rs 0)) p=some (.dK (ziR rs 0)):=ad'
  generalize upd H1 p (.dK (ziR rs 0))=H2 at s2 hp2 ⊢
  walk_at "y"
  refine aL' (SqL.of (s2 _ _ hl)) (dR' (vs:=rs.map nV) (fun i xs H'=>cX' H' xs ((rs.take i).map fun r=>(ixR rs (fs1 M r),ixR rs (fs2 M r)))/\i<=rs.length/\aB' H2 H') ⟨trivial,aM _,aB'.refl _⟩ (fun i xs H' pv=>SqL.of (pv.2.2 _ _ (s2 _ _ hl))) ?_ ?_)
  .rintro i xs H3 x R hx ⟨hR',hi0,s3⟩ hR
   rw[aq]at hx
   cases er:rs[i]? with
   |none=>rw[er]at hx;cases hx
   |some r=>
   rw[er]at hx
   cases hx
   have hi:=ao' er
   have hrM:=hrs r (bi er)
   have hM3:=hM.mono (bm' (s2.trans s3))
   have hp3:=s3 _ _ hp2
   simp only[nV]
   walk_at "y"
   refine gp' (.inl ⟨_,.inl hp3⟩) ?_
   walk_at "y"
   refine ed' hM3 hrM fun pr hpr=>?_
   walk_at "y"
   refine fR' (SqT.of hpr) (v:=oV (fs1 M r)) rfl ?_
   refine pO' (C:=C) hrs (by omega) hp3 ?_
   walk_at "y"
   refine gp' (.inl ⟨_,.inl hp3⟩) ?_
   walk_at "y"
   refine ed' hM3 hrM fun pr hpr=>?_
   walk_at "y"
   refine fR' (SqT.of hpr) (v:=oV (fs2 M r)) rfl ?_
   refine pO' (C:=C) hrs (by omega) hp3 ?_
   walk_at "y"
   refine⟨by show 2<=sizeLine;decide,fun p4 hp4=>?_⟩
   have s4:=ae' hp4 (.tup [oV (ixR rs (fs1 M r)),oV (ixR rs (fs2 M r))])
   have h4:upd H3 p4 (.tup [oV (ixR rs (fs1 M r)),oV (ixR rs (fs2 M r))]) p4=some (.tup [oV (ixR rs (fs1 M r)),oV (ixR rs (fs2 M r))]):=ad'
   generalize upd H3 p4 (.tup [oV (ixR rs (fs1 M r)),oV (ixR rs (fs2 M r))])=H4 at s4 h4 ⊢
   have hxl:=hR'.len
   rw[ac,aC]at hxl
   refine⟨al' (by omega),hR _ _ ⟨?_,by omega,s3.trans s4⟩⟩
   rw[bJ,er,az]
   exact(hR'.mono (bm' s4)).snoc ⟨p4,rfl,h4⟩
  .rintro xs H3 ⟨hR',_,s3⟩ p5 hp5
   rw[ac,aN]at hR'
   walk_at "y"
   have h5:upd H3 p5 (.lst xs) p5=some (.lst xs):=ad'
   have s5:=ae' hp5 (.lst xs)
   generalize upd H3 p5 (.lst xs)=H5 at h5 s5 ⊢
   refine l0' (SqL.of h5) fun p6 hp6=>?_
   have s6:=ae' hp6 (.tup xs)
   exact q p6 _ (s2.trans (s3.trans (s5.trans s6))) ⟨xs,ad',hR'.mono (bm' (s5.trans s6))⟩
structure Rs (M:List Rm) (rs:List Nat):Prop where
 rise:rs.Pairwise (· < ·)
 lt:∀r∈rs,r<M.length
 fix:lst M rs=rs
 all:∀S,Sus M S->∀r∈S,r∈rs
theorem mD' {rs:List Nat} (h:rs.Pairwise (· < ·)):rs.Nodup:=h.imp fun {a b} z=>aK z
theorem jk':∀{a b:List Nat},a.Pairwise (· < ·)->b.Pairwise (· < ·)->(∀x,x∈a↔x∈b)->a=b
 | [],[],_,_,_=>rfl
 | [],y :: b,_,_,h=>absurd ((h y).mpr (by simp)) aO
 |x :: a,[],_,_,h=>absurd ((h x).mp (by simp)) aO
 |x :: a,y :: b,ha,hb,h=>by
  rw[List.pairwise_cons]at ha hb
  have e:x=y:=by
   rcases ax.mp ((h x).mp (by simp))with e|e
   .exact e
   .rcases ax.mp ((h y).mpr (by simp))with e'|e'
    .exact e'.symm
    .have:=hb.1 x e
     have:=ha.1 y e'
     omega
  subst e
  congr 1
  refine jk' ha.2 hb.2 fun z=>?_
  have:=h z
  simp only[ax]at this
  constructor
  .intro hz
   rcases this.mp (.inr hz)with e|e
   .have:=ha.1 z hz;omega
   .exact e
  .intro hz
   rcases this.mpr (.inr hz)with e|e
   .have:=hb.1 z hz;omega
   .exact e
theorem rZ' {M:List Rm} {rs:List Nat} (hl:∀r∈rs,r<M.length) (h:lst M rs=rs):Sus M rs:=by
 intro r hr
 have h2:r∈lst M rs:=by rw[h];exact hr
 have h3:=(cL.mp h2).2
 unfold dU' at h3
 rw[ai,cc]at h3
 refine⟨hl r hr,?_,?_⟩
 .obtain⟨r',hr',e⟩:=ci.mp h3.1
  refine⟨r',hr',?_⟩
  rw[cc,decide_eq_true_eq,decide_eq_true_eq]at e
  rcases e with e|e
  .exact .inl (pI' (b:=some r) (by rw[<- e];rfl))
  .exact .inr (pI' (b:=some r) (by rw[<- e];rfl))
 .have key:∀o,inR rs o=true->∃r'∈rs,o=some r':=fun o ho=>by
   cases o with
   |none=>cases ho
   |some n=>exact⟨n,List.contains_iff_mem.mp ho,rfl⟩
  rcases h3.2 with e|e
  .obtain⟨r',hr',e'⟩:=key _ e
   exact⟨r',hr',.inl e'⟩
  .obtain⟨r',hr',e'⟩:=key _ e
   exact⟨r',hr',.inr e'⟩
theorem Rs.sus {M:List Rm} {rs:List Nat} (h:Rs M rs):Sus M rs:=rZ' h.lt h.fix
theorem Rs.uniq {M:List Rm} {rs rs':List Nat} (h:Rs M rs) (h':Rs M rs'):rs=rs':=jk' h.rise h'.rise fun x=>⟨fun z=>h'.all _ h.sus x z,fun z=>h.all _ h'.sus x z⟩
set_option tactic.hygienic true in
theorem hW' {α:Type} {p:α->Bool}:∀{l:List α},l.length<=(l.filter p).length->l.filter p=l
 | [],_=>rfl
 |a :: l,h=>by
  rw[List.filter_cons]at h ⊢
  have:=cR p l
  split at h
  .rename_i hp
   rw[if_pos hp]
   rw[aE,aE]at h
   rw[hW' (by omega)]
  .rw[aE]at h
   omega
def fo':Sp:=fun vs H Q _=>∃(a:Addr) (M:List Rm),vs=[.ref a]/\IsM H a M/\M.length<=500/\∀(p p' l:Addr) (rs:List Nat) (H':Hp),aB' H H'->H l=none->H' p=some (.tup [.ref p',.ref l])->H' l=some (.lst (rs.map nV))->IsM H' p' (prt M rs)->Rs M rs->Q (.ref p) H'
theorem j1' {C:Rc} (hN:C.N.length=3) (hL:C.fs "lasting"=some hO') (hP:C.fs "part_of"=some fn'):∀vs H Q E,fo' vs H Q E->tSs C cK' { nx:=fun _ H'=>Q .non H',rt:=Q } (L2.az' C.N vs) H:=by
 intro vs H Q E h
 obtain⟨a,M,rfl,hM,hM5,q⟩:=h
 rw[ak' hN]
 unfold cK'
 obtain⟨mv,hmv,hmr⟩:=id hM
 walk_at "y"
 refine lW' (SqT.of hmv) ?_
 rw[hmr.len]
 walk_at "y"
 refine fi' fun pr hpr=>?_
 walk_at "y"
 have hsz:((M.length:Int)-0).toNat<=sizeLine:=cj (al' (by omega))
 refine gn' ad' (by omega) (by omega) (by omega) (by omega) hsz fun p1 hp1=>?_
 rw[show((M.length:Int)-0).toNat=M.length by omega,mt']
 have s1:=(ae' hpr (.rng 0 M.length)).trans (ae' hp1 (.lst ((au M.length).map nV)))
 have h1:upd (upd H pr (.rng 0 M.length)) p1 (.lst ((au M.length).map nV)) p1=some (.lst ((au M.length).map nV)):=ad'
 have f1:H p1=none:=(ae' hpr (.rng 0 M.length)).free hp1
 generalize upd (upd H pr (.rng 0 M.length)) p1 (.lst ((au M.length).map nV))=H1 at s1 h1 ⊢
 walk_at "y"
 refine ag' hL ?_
 walk_at "y"
 refine⟨a,p1,M,au M.length,rfl,hM.mono (bm' s1),h1,fun r hr=>aw.mp hr,by rw[aQ];omega,fun p2 H2 hp2 s2 h2=>?_⟩
 walk_at "y"
 refine lS' (fun m σ H'=>aB' H H'/\∃(l1 l2:Addr) (rs:List Nat),σ=[some (.ref a),some (.ref l1),some (.ref l2)]/\H l1=none/\H l2=none/\H' l1=some (.lst (rs.map nV))/\H' l2=some (.lst ((lst M rs).map nV))/\(∀r∈rs,r<M.length)/\rs.Pairwise (· < ·)/\rs.length<=M.length/\(∀S,Sus M S->∀r∈S,r∈rs)/\m=rs.length) _ ⟨s1.trans s2,p1,p2,au M.length,rfl,f1,s1.free hp2,s2 _ _ h1,h2,fun r hr=>aw.mp hr,bS,by rw[aQ];omega,fun S hS r hr=>aw.mpr (hS r hr).1,rfl⟩ ?_
 rintro m σ H3 ⟨s3,l1,l2,rs,rfl,f1,f2,hl1,hl2,hrs,hri,hrl,hSr,rfl⟩
 walk_at "y"
 refine gm' (SqL.of hl2) ?_
 walk_at "y"
 refine gm' (SqL.of hl1) ?_
 rw[ac,ac]
 walk_at "y"
 have hle:=v0' (M:=M) (rs:=rs)
 refine bd' (fun hc=>lT' ?_) fun hc=>lU' ?_
 .walk_at "y"
  refine ag' hL ?_
  walk_at "y"
  refine⟨a,l2,M,lst M rs,rfl,hM.mono (bm' s3),hl2,fun r hr=>hrs r (ms' hr),by omega,fun p4 H4 hp4 s4 h4=>?_⟩
  walk_at "y"
  exact⟨(lst M rs).length,by omega,s3.trans s4,l2,p4,lst M rs,rfl,f2,s3.free hp4,s4 _ _ hl2,h4,fun r hr=>hrs r (ms' hr),hri.sublist List.filter_sublist,by omega,fun S hS=>jh' hS (hSr S hS),rfl⟩
 .walk_at "y"
  refine ag' hP ?_
  walk_at "y"
  refine⟨a,l1,M,rs,rfl,hM.mono (bm' s3),hM5,hl1,hrs,mD' hri,by omega,fun p4 H4 s4 hM4=>?_⟩
  walk_at "y"
  refine⟨by show 2<=sizeLine;decide,fun p5 hp5=>?_⟩
  have s5:=ae' hp5 (.tup [.ref p4,.ref l1])
  exact q p5 p4 l1 rs _ (s3.trans (s4.trans s5)) f1 ad' (s5 _ _ (s4 _ _ hl1)) (hM4.mono (bm' s5)) ⟨hri,hrs,hW' (by have:¬((lst M rs).length:Int)<rs.length:=hc;unfold lst at this;omega),hSr⟩
theorem r0' {n x:Nat} (h:x<n):(au n).idxOf x=x:=by
 have hm:x∈au n:=aw.mpr h
 have hl:=List.idxOf_lt_length_of_mem hm
 have e:=List.getElem_idxOf hl
 rw[List.getElem_range]at e
 exact e
theorem r1' {rs:List Nat} {r:Nat} (h:r∈rs):ixR rs (some r)=some (rs.idxOf r):=by rw[ji',if_pos h]
end TE
namespace K04
open PySem PySem.Spec PyProof.Rows L2 R3 LW
def bf':Css:=(.cons (.asg (.name 3) (.comp (.idx (.idx (.var 0) (.var 4)) (.blt .int (.cons (.var 2) .nil))) [4] (.name 4) (.val (.var 1)) .none .nil))
  (.cons (.ret (.ssc (.var 5) [5] (.name 5) (.val (.var 3)) (.some (.cmp .IsNot (.var 5) .non))))
  .nil))
def cr':Css:=(.cons (.asg (.name 2) (.call "machine_of" (.cons (.var 0) .nil)))
  (.cons (.asg (.name 3) (.blt .list (.cons (.blt .range (.cons (.blt .len (.cons (.var 2) .nil)) .nil)) .nil)))
  (.cons (.for_ (.tup (.cons (.name 4) (.cons (.name 5) .nil))) (.enum (.var 1)) (.cons (.ite (.not (.val (.var 3))) (.cons (.ret (.var 4))
  .nil) .nil)
  (.cons (.asg (.name 3) (.call "rooms_behind" (.cons (.var 2) (.cons (.var 3) (.cons (.var 5) .nil)))))
  .nil)))
  (.cons (.ret (.ife (.val (.var 3)) .non (.blt .len (.cons (.var 1) .nil))))
  .nil))))
def dV':Css:=(.cons (.ret (.cmp .Is (.call "fault_at" (.cons (.var 0) (.cons (.var 1) .nil))) .non))
  .nil)
open SR TM BD BE TE
def mE':Sp:=fun vs H Q _=>∃(b:Addr) (n:Nat),vs=[.ref b]/\H b=some (eF' b n)/\n<=2 ^ 39/\∀(p:Addr) (l0 h0 l1 h1:Nat) (sp:Option Nat) (H':Hp),Go 20 H H'->IsB H' p l0 h0 l1 h1 sp->1<=l0->l0<=h0->1<=l1->l1<=h1->Q (.ref p) H'
def nx (l0 h0 l1 h1 i:Nat):Rm:=if i<h0 then(if i+1<h0 then some (i+1)else none,if i+1<l0 then none else some h0)else(if i-h0+1<l1 then none else some 0,if i+1<h0+h1 then some (i+1)else none)
def M0 (l0 h0 l1 h1:Nat):List Rm:=(au (h0+h1)).map (nx l0 h0 l1 h1)
theorem fW' {l0 h0 l1 h1:Nat}:(M0 l0 h0 l1 h1).length=h0+h1:=by unfold M0;rw[ac,aQ]
theorem zr' {l0 h0 l1 h1 i:Nat} (h:i<h0+h1):(M0 l0 h0 l1 h1)[i]?=some (nx l0 h0 l1 h1 i):=by unfold M0;rw[aq,bW h];rfl
theorem iL' {l0 h0 l1 h1 i:Nat} (h:i<h0+h1):fs1 (M0 l0 h0 l1 h1) i=(nx l0 h0 l1 h1 i).1/\fs2 (M0 l0 h0 l1 h1) i=(nx l0 h0 l1 h1 i).2:=by
 unfold fs1 fs2
 rw[zr' h]
 exact⟨rfl,rfl⟩
def kk (h0 i:Nat):K3:=if i<h0 then(0,i+1,0)else(1,i-h0+1,0)
theorem oG' {h0 h1:Nat}:rk [0] h0 h1=(au (h0+h1)).map (kk h0):=by
 have r:∀b h,r2 [0] b h=(au h).map fun j=>((b,j+1,0):K3):=fun b h=>by
  unfold r2 r1
  induction h with
  |zero=>rfl
  |succ h ih=>rw[bE,List.flatMap_append,ih,az];rfl
 unfold rk
 rw[r,r,List.range_add,az]
 congr 1
 .apply bX
  intro j hj
  unfold kk
  rw[if_pos (aw.mp hj)]
 .rw[ck]
  apply bX
  intro j hj
  show((1,j+1,0):K3)=kk h0 (h0+j)
  unfold kk
  rw[if_neg (by omega),show h0+j-h0=j by omega]
theorem v7' {h0 h1 i:Nat} (h:i<h0+h1):(rk [0] h0 h1)[i]?=some (kk h0 i):=by rw[oG',aq,bW h];rfl
theorem zs' {l0 h0 l1 h1 i:Nat} (h1':1<=h1) (h0':1<=h0) (hi:i<h0+h1):mx l0 l1 none (rk [0] h0 h1) (kk h0 i)=nx l0 h0 l1 h1 i:=by
 have nd:=v1' (lv:=[0]) (h0:=h0) (h1:=h1) (by simp)
 have no:∀z,(∀j,j<h0+h1->BD.kI (kk h0 j)≠z)->ixK (rk [0] h0 h1) (some z)=none:=fun z hz=>my' fun k hk=>by
  rw[oG']at hk
  obtain⟨j,hj,rfl⟩:=aR.mp hk
  exact hz j (aw.mp hj)
 have yes:∀j z,j<h0+h1->BD.kI (kk h0 j)=z->ixK (rk [0] h0 h1) (some z)=some j:=fun j z hj e=>mz' nd (v7' hj) e
 unfold mx nx
 by_cases hb:i<h0
 .have ek:kk h0 i=(0,i+1,0):=by unfold kk;rw[if_pos hb]
  rw[if_pos hb,ek]
  congr 1
  .rw[show bh l0 l1 none (0,i+1,0) 0=some [(0:Int),((i+1:Nat):Int)+1,(0:Int)] from rfl]
   by_cases hc:i+1<h0
   .rw[if_pos hc]
    refine yes (i+1) _ (by omega) ?_
    unfold kk
    rw[if_pos hc]
    rfl
   .rw[if_neg hc]
    refine no _ fun j hj e=>?_
    unfold kk at e
    split at e
    .have e2:((j+1:Nat):Int)=((i+1:Nat):Int)+1:=by
      have:=(List.cons.inj (List.cons.inj e).2).1
      exact this
     omega
    .have e2:((1:Nat):Int)=0:=(List.cons.inj e).1
     omega
  .by_cases hc:i+1<l0
   .rw[if_pos hc,show bh l0 l1 none (0,i+1,0) 1=none by unfold bh;rw[if_neg (by decide:¬(1:Nat)=0)];show(if i+1<(if(0:Nat)=1 then l1 else l0)then none else _)=none;rw[if_neg (by decide:¬(0:Nat)=1),if_pos hc]]
    rfl
   .rw[if_neg hc,show bh l0 l1 none (0,i+1,0) 1=some [(1:Int),1,0] by unfold bh;rw[if_neg (by decide:¬(1:Nat)=0)];show(if i+1<(if(0:Nat)=1 then l1 else l0)then none else _)=_;rw[if_neg (by decide:¬(0:Nat)=1),if_neg hc];rfl]
    refine yes h0 _ (by omega) ?_
    unfold kk
    rw[if_neg (by omega),Nat.sub_self]
    rfl
 .have ek:kk h0 i=(1,i-h0+1,0):=by unfold kk;rw[if_neg hb]
  rw[if_neg hb,ek]
  congr 1
  .by_cases hc:i-h0+1<l1
   .rw[if_pos hc,show bh l0 l1 none (1,i-h0+1,0) 0=none by unfold bh;rw[if_neg (by decide:¬(0:Nat)=1)];show(if i-h0+1<(if(1:Nat)=1 then l1 else l0)then none else _)=none;rw[if_pos rfl,if_pos hc]]
    rfl
   .rw[if_neg hc,show bh l0 l1 none (1,i-h0+1,0) 0=some [(0:Int),1,0] by unfold bh;rw[if_neg (by decide:¬(0:Nat)=1)];show(if i-h0+1<(if(1:Nat)=1 then l1 else l0)then none else _)=_;rw[if_pos rfl,if_neg hc];rfl]
    refine yes 0 _ (by omega) ?_
    unfold kk
    rw[if_pos (by omega)]
    rfl
  .rw[show bh l0 l1 none (1,i-h0+1,0) 1=some [(1:Int),((i-h0+1:Nat):Int)+1,(0:Int)] from rfl]
   by_cases hc:i+1<h0+h1
   .rw[if_pos hc]
    refine yes (i+1) _ hc ?_
    unfold kk
    rw[if_neg (by omega),show i+1-h0+1=i-h0+1+1 by omega]
    rfl
   .rw[if_neg hc]
    refine no _ fun j hj e=>?_
    unfold kk at e
    split at e
    .have e2:((0:Nat):Int)=1:=(List.cons.inj e).1
     omega
    .have e2:((j-h0+1:Nat):Int)=((i-h0+1:Nat):Int)+1:=(List.cons.inj (List.cons.inj e).2).1
     omega
theorem v8' {l0 h0 l1 h1:Nat} (h1':1<=h1) (h0':1<=h0):(rk (lvs none) h0 h1).map (mx l0 l1 none (rk (lvs none) h0 h1))=M0 l0 h0 l1 h1:=by
 show(rk [0] h0 h1).map (mx l0 l1 none (rk [0] h0 h1))=_
 unfold M0
 conv=>lhs;rw[oG']
 rw[ck]
 apply bX
 intro i hi
 show mx l0 l1 none ((au (h0+h1)).map (kk h0)) (kk h0 i)=_
 rw[<- oG']
 exact zs' h1' h0' (aw.mp hi)
theorem v9' {l0 h0 l1 h1:Nat} (a0:1<=l0) (b0:l0<=h0) (a1:1<=l1) (b1:l1<=h1):Sus (M0 l0 h0 l1 h1) (au (h0+h1)):=by
 intro i hi
 have hi:=aw.mp hi
 obtain⟨e1,e2⟩:=iL' (l0:=l0) (l1:=l1) hi
 refine⟨by rw[fW'];exact hi,?_,?_⟩
 .by_cases c0:i=0
  .refine⟨h0+h1-1,aw.mpr (by omega),.inl ?_⟩
   rw[(iL' (by omega)).1]
   unfold nx
   rw[if_neg (by omega)]
   dsimp only
   rw[if_neg (by omega),c0]
  .by_cases c1:i=h0
   .refine⟨h0-1,aw.mpr (by omega),.inr ?_⟩
    rw[(iL' (by omega)).2]
    unfold nx
    rw[if_pos (by omega)]
    dsimp only
    rw[if_neg (by omega),c1]
   .refine⟨i-1,aw.mpr (by omega),?_⟩
    rw[(iL' (by omega)).1,(iL' (by omega)).2]
    unfold nx
    by_cases c2:i-1<h0
    .left
     rw[if_pos c2]
     dsimp only
     rw[if_pos (by omega),show i-1+1=i by omega]
    .right
     rw[if_neg c2]
     dsimp only
     rw[if_pos (by omega),show i-1+1=i by omega]
 .rw[e1,e2]
  unfold nx
  by_cases c2:i<h0
  .rw[if_pos c2]
   dsimp only
   by_cases c3:i+1<h0
   .exact⟨i+1,aw.mpr (by omega),.inl (by rw[if_pos c3])⟩
   .exact⟨h0,aw.mpr (by omega),.inr (by rw[if_neg (by omega)])⟩
  .rw[if_neg c2]
   dsimp only
   by_cases c3:i+1<h0+h1
   .exact⟨i+1,aw.mpr (by omega),.inr (by rw[if_pos c3])⟩
   .exact⟨0,aw.mpr (by omega),.inl (by rw[if_neg (by omega)])⟩
theorem wa' {l0 h0 l1 h1:Nat} (h0':1<=h0) (h1':1<=h1):OkM (M0 l0 h0 l1 h1):=by
 rw[<- v8' h1' h0']
 exact zq'
theorem wb' {M:List Rm} (h:Sus M (au M.length)):Rs M (au M.length):=by
 refine⟨bS,fun r hr=>aw.mp hr,?_,fun S hS r hr=>aw.mpr (hS r hr).1⟩
 unfold lst
 rw[List.filter_eq_self]
 intro r hr
 exact(cL.mp (jh' h (rs:=au M.length) (fun _ z=>z) r hr)).2
theorem r2' {M:List Rm} (hO:OkM M):prt M (au M.length)=M:=by
 apply bG
 intro i
 by_cases hi:i<M.length
 .unfold prt
  rw[aq,bW hi,af hi]
  have f1:fs1 M i=M[i].1:=by unfold fs1;rw[af hi];rfl
  have f2:fs2 M i=M[i].2:=by unfold fs2;rw[af hi];rfl
  have key:∀o:Option Nat,(∀n,o=some n->n<M.length)->ixR (au M.length) o=o:=fun o ho=>by
   cases o with
   |none=>rfl
   |some n=>rw[r1' (aw.mpr (ho n rfl)),r0' (ho n rfl)]
  obtain⟨k1,k2⟩:=hO _ (List.getElem_mem hi)
  show some (ixR _ (fs1 M i),ixR _ (fs2 M i))=_
  rw[f1,f2,key _ k1,key _ k2]
 .rw[ba (by rw[rX',aQ];omega),ba (by omega)]
def hX':Sp:=fun vs H Q _=>∃(bd:Addr) (l0 h0 l1 h1:Nat),vs=[.ref bd]/\IsB H bd l0 h0 l1 h1 none/\1<=l0/\l0<=h0/\1<=l1/\l1<=h1/\∀(p:Addr) (H':Hp),aB' H H'->IsM H' p (M0 l0 h0 l1 h1)->Q (.ref p) H'
theorem mF' {C:Rc} (hN:C.N.length=3) (hT:C.fs "trimmed"=some fo') (hM:C.fs "machine_in_bounds"=some hV') (hR:C.fs "rooms_in_bounds"=some mv'):∀vs H Q E,hX' vs H Q E->tSs C bJ' { nx:=fun _ H'=>Q .non H',rt:=Q } (L2.az' C.N vs) H:=by
 intro vs H Q E h
 obtain⟨bd,l0,h0,l1,h1,rfl,hB,a0,b0,a1,b1,q⟩:=h
 rw[ak' hN]
 unfold bJ'
 walk_at "y"
 rw[od']
 refine ag' hT ?_
 walk_at "y"
 refine ag' hM ?_
 walk_at "y"
 refine ag' hR ?_
 walk_at "y"
 refine⟨bd,l0,h0,l1,h1,none,rfl,hB,fun p xs H1 s1 hp hxs=>?_⟩
 walk_at "y"
 refine⟨bd,p,l0,h0,l1,h1,none,xs,rfl,hB.mono (bm' s1),hp,hxs,fun p2 H2 s2 hM2=>?_⟩
 rw[v8' (by omega) (by omega)]at hM2
 walk_at "y"
 have c0:=hB.b0
 have c1:=hB.b1
 refine⟨p2,_,rfl,hM2,by rw[fW'];omega,fun p3 p' l rs H3 s3 _ hp3 hl hM3 hRs=>?_⟩
 have hs:=wb' (M:=M0 l0 h0 l1 h1) (by rw[fW'];exact v9' a0 b0 a1 b1)
 cases hRs.uniq hs
 rw[r2' (wa' (by omega) (by omega))]at hM3
 refine eo' (SqT.of hp3) ?_
 walk_at "y"
 exact q p' H3 (s1.trans (s2.trans s3)) hM3
def hg (h0 h1:Nat) (b:Bool):Nat:=if b then h1 else h0
abbrev Sta:=Option (Option (Bool×Nat×Bool))
def stp (l0 h0 l1 h1:Nat):Sta->Bool->Sta
 |none,_=>none
 |some none,b=>some (some (b,1,true))
 |some (some (c,k,f)),b=>if b=c then(if k<hg h0 h1 c then some (some (c,k+1,f))else none)else if f=false/\k<hg l0 l1 c then none else some (some (b,1,false))
def sts (l0 h0 l1 h1:Nat) (row:List Bool):Sta:=row.foldl (stp l0 h0 l1 h1) (some none)
theorem jl' {l0 h0 l1 h1:Nat} {row:List Bool} {b:Bool}:sts l0 h0 l1 h1 (row++[b])=stp l0 h0 l1 h1 (sts l0 h0 l1 h1 row) b:=by unfold sts;rw[List.foldl_append];rfl
def Vst (h0 h1:Nat):Sta->Prop
 |some (some (c,k,_))=>1<=k/\k<=hg h0 h1 c
 |_=>True
theorem r3' {l0 h0 l1 h1:Nat} (a0:1<=h0) (a1:1<=h1) {s:Sta} (h:Vst h0 h1 s) (b:Bool):Vst h0 h1 (stp l0 h0 l1 h1 s b):=by
 have hb:∀b,1<=hg h0 h1 b:=fun b=>by cases b<;>assumption
 match s,h with
 |none,_=>trivial
 |some none,_=>exact⟨ae _,hb b⟩
 |some (some (c,k,f)),h=>
  show Vst h0 h1 (if b=c then(if k<hg h0 h1 c then some (some (c,k+1,f))else none)else if f=false/\k<hg l0 l1 c then none else some (some (b,1,false)))
  by_cases e:b=c
  .rw[if_pos e]
   by_cases hk:k<hg h0 h1 c
   .rw[if_pos hk];exact⟨by omega,hk⟩
   .rw[if_neg hk];trivial
  .rw[if_neg e]
   by_cases hf:f=false/\k<hg l0 l1 c
   .rw[if_pos hf];trivial
   .rw[if_neg hf];exact⟨ae _,hb b⟩
theorem mG' {l0 h0 l1 h1:Nat} (a0:1<=h0) (a1:1<=h1):∀{row:List Bool} {s:Sta},Vst h0 h1 s->Vst h0 h1 (row.foldl (stp l0 h0 l1 h1) s)
 | [],_,h=>h
 |b :: row,_,h=>mG' a0 a1 (row:=row) (r3' a0 a1 h b)
def In (h0 h1:Nat):Sta->Nat->Prop
 |none,_=>False
 |some none,i=>i<h0+h1
 |some (some (b,k,f)),i=>(if f then(if b then h0 else 0)+k<=i+1 else i+1=(if b then h0 else 0)+k)/\i<(if b then h0 else 0)+hg h0 h1 b
theorem nx1 {l0 h0 l1 h1 i r:Nat}:(nx l0 h0 l1 h1 i).1=some r↔(i+1<h0/\r=i+1)\/(h0<=i/\l1<=i-h0+1/\r=0):=by
 unfold nx
 by_cases c:i<h0
 .rw[if_pos c]
  dsimp only
  by_cases d:i+1<h0
  .rw[if_pos d,Option.some.injEq];omega
  .rw[if_neg d];simp;omega
 .rw[if_neg c]
  dsimp only
  by_cases d:i-h0+1<l1
  .rw[if_pos d];simp;omega
  .rw[if_neg d,Option.some.injEq];omega
theorem nx2 {l0 h0 l1 h1 i r:Nat}:(nx l0 h0 l1 h1 i).2=some r↔(i<h0/\l0<=i+1/\r=h0)\/(h0<=i/\i+1<h0+h1/\r=i+1):=by
 unfold nx
 by_cases c:i<h0
 .rw[if_pos c]
  dsimp only
  by_cases d:i+1<l0
  .rw[if_pos d];simp;omega
  .rw[if_neg d,Option.some.injEq];omega
 .rw[if_neg c]
  dsimp only
  by_cases d:i+1<h0+h1
  .rw[if_pos d,Option.some.injEq];omega
  .rw[if_neg d];simp;omega
theorem oH' {h0 h1:Nat} {s:Sta} {i:Nat} (h:In h0 h1 s i):i<h0+h1:=by
 match s,h with
 |some none,h=>exact h
 |some (some (b,k,f)),h=>
  have:=h.2
  cases b<;>simp[hg]at this<;>omega
def bd (M:List Rm) (b:Bool) (p:Nat):Option Nat:=if b then fs2 M p else fs1 M p
theorem wc' {l0 h0 l1 h1:Nat} (a0:1<=l0) (b0:l0<=h0) (a1:1<=l1) (b1:l1<=h1) {s:Sta} (hv:Vst h0 h1 s) {b:Bool} {r:Nat}:(∃p,In h0 h1 s p/\bd (M0 l0 h0 l1 h1) b p=some r)↔In h0 h1 (stp l0 h0 l1 h1 s b) r:=by
 have conv:(∃p,In h0 h1 s p/\bd (M0 l0 h0 l1 h1) b p=some r)↔∃p,In h0 h1 s p/\(if b then(nx l0 h0 l1 h1 p).2 else(nx l0 h0 l1 h1 p).1)=some r:=by
  constructor
  .rintro⟨p,h,e⟩
   obtain⟨e1,e2⟩:=iL' (l0:=l0) (l1:=l1) (oH' h)
   unfold bd at e
   rw[e1,e2]at e
   exact⟨p,h,e⟩
  .rintro⟨p,h,e⟩
   obtain⟨e1,e2⟩:=iL' (l0:=l0) (l1:=l1) (oH' h)
   refine⟨p,h,?_⟩
   unfold bd
   rw[e1,e2]
   exact e
 rw[conv]
 match s,hv with
 |none,_=>exact⟨fun⟨p,h,_⟩=>h,fun h=>h.elim⟩
 |some none,_=>
  cases b with
  |false=>
   simp only[stp,In,aF,if_false,if_true,nx1,hg]
   constructor
   .rintro⟨p,h,e⟩;omega
   .intro h
    by_cases c:r=0
    .exact⟨h0+h1-1,by omega,.inr (by omega)⟩
    .exact⟨r-1,by omega,.inl (by omega)⟩
  |true=>
   simp only[stp,In,if_true,nx2,hg]
   constructor
   .rintro⟨p,h,e⟩;omega
   .intro h
    by_cases c:r=h0
    .exact⟨h0-1,by omega,.inl (by omega)⟩
    .exact⟨r-1,by omega,.inr (by omega)⟩
 |some (some (c,k,f)),⟨hv1,hv2⟩=>
  cases c with
  |false=>
   have hv2:k<=h0:=hv2
   cases b with
   |false=>
    simp only[stp,if_true,hg,aF,if_false]
    by_cases hk:k<h0
    .rw[if_pos hk]
     cases f with
     |false=>
      simp only[In,hg,aF,if_false,nx1]
      constructor
      .rintro⟨p,h,e⟩;omega
      .intro h;exact⟨r-1,by omega,.inl (by omega)⟩
     |true=>
      simp only[In,hg,aF,if_false,if_true,nx1]
      constructor
      .rintro⟨p,h,e⟩;omega
      .intro h;exact⟨r-1,by omega,.inl (by omega)⟩
    .rw[if_neg hk]
     refine⟨fun⟨p,h,e⟩=>?_,fun h=>h.elim⟩
     cases f<;>simp only[In,hg,aF,if_false,if_true,nx1]at h e ⊢<;>omega
   |true=>
    rw[show stp l0 h0 l1 h1 (some (some (false,k,f))) true=if f=false/\k<l0 then none else some (some (true,1,false)) from rfl]
    by_cases hf:f=false/\k<l0
    .rw[if_pos hf]
     refine⟨fun⟨p,h,e⟩=>?_,fun h=>h.elim⟩
     obtain⟨rfl,hf⟩:=hf
     simp only[In,hg,aF,if_false,if_true,nx2]at h e ⊢
     omega
    .rw[if_neg hf]
     cases f with
     |false=>
      have hk:l0<=k:=cB fun z=>hf ⟨rfl,z⟩
      simp only[In,hg,aF,if_false,if_true,nx2]
      constructor
      .rintro⟨p,h,e⟩;omega
      .intro h;exact⟨k-1,by omega,.inl (by omega)⟩
     |true=>
      simp only[In,hg,aF,if_false,if_true,nx2]
      constructor
      .rintro⟨p,h,e⟩;omega
      .intro h;exact⟨h0-1,by omega,.inl (by omega)⟩
  |true=>
   have hv2:k<=h1:=hv2
   cases b with
   |true=>
    simp only[stp,if_true,hg]
    by_cases hk:k<h1
    .rw[if_pos hk]
     cases f with
     |false=>
      simp only[In,hg,aF,if_false,if_true,nx2]
      constructor
      .rintro⟨p,h,e⟩;omega
      .intro h;exact⟨r-1,by omega,.inr (by omega)⟩
     |true=>
      simp only[In,hg,if_true,nx2]
      constructor
      .rintro⟨p,h,e⟩;omega
      .intro h;exact⟨r-1,by omega,.inr (by omega)⟩
    .rw[if_neg hk]
     refine⟨fun⟨p,h,e⟩=>?_,fun h=>h.elim⟩
     cases f<;>simp only[In,hg,aF,if_false,if_true,nx2]at h e ⊢<;>omega
   |false=>
    rw[show stp l0 h0 l1 h1 (some (some (true,k,f))) false=if f=false/\k<l1 then none else some (some (false,1,false)) from rfl]
    by_cases hf:f=false/\k<l1
    .rw[if_pos hf]
     refine⟨fun⟨p,h,e⟩=>?_,fun h=>h.elim⟩
     obtain⟨rfl,hf⟩:=hf
     simp only[In,hg,aF,if_false,if_true,nx1]at h e ⊢
     omega
    .rw[if_neg hf]
     cases f with
     |false=>
      have hk:l1<=k:=cB fun z=>hf ⟨rfl,z⟩
      simp only[In,hg,aF,if_false,if_true,nx1]
      constructor
      .rintro⟨p,h,e⟩;omega
      .intro h;exact⟨h0+k-1,by omega,.inr (by omega)⟩
     |true=>
      simp only[In,hg,aF,if_false,if_true,nx1]
      constructor
      .rintro⟨p,h,e⟩;omega
      .intro h;exact⟨h0+h1-1,by omega,.inr (by omega)⟩
theorem zt' {h0 h1:Nat} (a0:1<=h0) {s:Sta} (hv:Vst h0 h1 s):(∃i,In h0 h1 s i)↔s≠none:=by
 match s,hv with
 |none,_=>exact⟨fun⟨_,h⟩=>h.elim,fun h=>absurd rfl h⟩
 |some none,_=>exact⟨fun _=>(by simp),fun _=>⟨0,(by show 0<h0+h1;omega)⟩⟩
 |some (some (b,k,f)),⟨v1,v2⟩=>
  refine⟨fun _=>(by simp),fun _=>⟨(if b then h0 else 0)+k-1,?_⟩⟩
  cases b<;>cases f<;>simp only[In,hg,aF,if_false,if_true]at v2 ⊢<;>omega
def IsF (l0 h0 l1 h1:Nat) (row:List Bool):Option Nat->Prop
 |none=>∀n,n<=row.length->sts l0 h0 l1 h1 (row.take n)≠none
 |some n=>n<=row.length/\sts l0 h0 l1 h1 (row.take n)=none/\∀m,m<n->sts l0 h0 l1 h1 (row.take m)≠none
theorem jm' {l0 h0 l1 h1:Nat}:∀{row:List Bool},row.foldl (stp l0 h0 l1 h1) none=none
 | []=>rfl
 |_ :: row=>jm' (row:=row)
theorem IsF.keep {l0 h0 l1 h1:Nat} {row:List Bool} {o:Option Nat} (h:IsF l0 h0 l1 h1 row o):o=none↔sts l0 h0 l1 h1 row≠none:=by
 cases o with
 |none=>
  have:=h row.length (ae _)
  rw[aN]at this
  exact⟨fun _=>this,fun _=>rfl⟩
 |some n=>
  refine⟨fun z=>(nomatch z),fun z=>absurd ?_ z⟩
  conv=>lhs;rw[<- aW n row]
  unfold sts
  rw[List.foldl_append]
  have:=h.2.1
  unfold sts at this
  rw[this,jm']
theorem r4' {H H':Hp} {m:Addr} {M:List Rm} (s:aB' H H') (h:IsM H m M):IsM H' m M:=h.mono (bm' s)
theorem wd' {n:Nat} {l:List Nat} (h:l.Nodup) (hs:∀i∈l,i<n):l.length<=n:=by
 have:=qJ' (l:=l.map Int.ofNat) (b:=(au n).map Int.ofNat) (mu' (fun x y e=>Int.ofNat.inj e) h) fun i hi=>by
  obtain⟨x,hx,rfl⟩:=aR.mp hi
  exact List.mem_map_of_mem (aw.mpr (hs x hx))
 rw[ac,ac,aQ]at this
 exact this
def sS (os:List (Option Nat)):Option Int->Bool:=fun k=>os.any fun o=>o.isSome&&decide (k=oI o)
theorem r5' {os:List (Option Nat)} {o:Option Nat}:sS (os++[o])=fun k=>sS os k || (o.isSome&&decide (k=oI o)):=by
 funext k
 unfold sS
 rw[List.any_append]
 simp
theorem r6' {os:List (Option Nat)}:sS os none=false:=by
 unfold sS
 rw[List.any_eq_false]
 intro o _
 cases o with
 |none=>simp
 |some n=>simp[oI]
theorem iM' {os:List (Option Nat)} {i:Int}:sS os (some i)=true↔∃n:Nat,some n∈os/\i=n:=by
 unfold sS
 rw[ci]
 constructor
 .rintro⟨o,ho,h⟩
  cases o with
  |none=>simp at h
  |some n=>
   have:some i=oI (some n):=by simpa using h
   exact⟨n,ho,Option.some.inj this⟩
 .rintro⟨n,hn,rfl⟩
  exact⟨some n,hn,by simp[oI]⟩
def mH':Sp:=fun vs H Q _=>∃(a l:Addr) (M:List Rm) (rs:List Nat) (b:Bool),vs=[.ref a,.ref l,.str (tx [b])]/\IsM H a M/\OkM M/\M.length<=63/\H l=some (.lst (rs.map nV))/\(∀r∈rs,r<M.length)/\rs.length<=63/\∀(l':Addr) (rs':List Nat) (H':Hp),aB' H H'->H' l'=some (.lst (rs'.map nV))->rs'.Pairwise (· < ·)->(∀r,r∈rs'↔∃p∈rs,bd M b p=some r)->Q (.ref l') H'
theorem zu' {M:List Rm} (hO:OkM M) {b:Bool} {p r:Nat} (h:bd M b p=some r):r<M.length:=by
 obtain⟨h1,h2⟩:=zo' hO (r:=p) (n:=r)
 cases b with
 |true=>exact h2 h
 |false=>exact h1 h
theorem r7' {us:List Int} (h:us.Pairwise (· < ·)) (h0:∀i∈us,0<=i):∃bs:List Nat,bs.Pairwise (· < ·)/\us.map V.int=bs.map nV/\∀r:Nat,r∈bs↔(r:Int)∈us:=by
 refine⟨us.map Int.toNat,?_,?_,fun r=>?_⟩
 .rw[bU]
  refine List.Pairwise.imp_of_mem (fun {a b} ha hb z=>?_) h
  have:=h0 a ha
  have:=h0 b hb
  omega
 .rw[ck]
  apply bX
  intro i hi
  show V.int i=V.int (i.toNat:Nat)
  rw[Int.toNat_of_nonneg (h0 i hi)]
 .rw[aR]
  constructor
  .rintro⟨i,hi,rfl⟩
   rw[Int.toNat_of_nonneg (h0 i hi)]
   exact hi
  .intro hi
   exact⟨r,hi,by simp⟩
theorem oI' {C:Rc} (hN:C.N.length=6):∀vs H Q E,mH' vs H Q E->tSs C bf' { nx:=fun _ H'=>Q .non H',rt:=Q } (L2.az' C.N vs) H:=by
 intro vs H Q E h
 obtain⟨a,l,M,rs,b,rfl,hM,hO,h63,hl,hrs,hrl,q⟩:=h
 rw[ak' hN]
 unfold bf'
 walk_at "y"
 refine aL' (SqL.of hl) (dR' (vs:=rs.map nV) (fun i xs H'=>i<=rs.length/\xs=((rs.take i).map (bd M b)).map oV/\H'=H) ⟨aM _,rfl,rfl⟩ (fun i xs H' pv=>SqL.of (by rw[pv.2.2];exact hl)) ?_ ?_)
 .rintro i xs H' x K hx ⟨_,rfl,rfl⟩ hK
  rw[aq]at hx
  obtain⟨r,er,rfl⟩:=Option.map_eq_some_iff.mp hx
  have hi:=ao' er
  simp only[nV]
  walk_at "y"
  refine ed' hM (hrs r (bi er)) fun pr hpr=>?_
  walk_at "y"
  refine rh' (SqT.of hpr) ?_
  refine⟨by rw[ac,ac,aC];exact al' (by omega),hK _ _ ⟨hi,?_,rfl⟩⟩
  rw[bJ,er,az,az]
  show _++[if b=true then oV (fs2 M r)else oV (fs1 M r)]=_++[oV (bd M b r)]
  cases b<;>rfl
 .rintro xs H' ⟨_,rfl,rfl⟩ L hL
  rw[ac,aN]
  have s1:=ae' hL (.lst ((rs.map (bd M b)).map oV))
  have hL1:upd H' L (.lst ((rs.map (bd M b)).map oV)) L=some (.lst ((rs.map (bd M b)).map oV)):=ad'
  generalize upd H' L (.lst ((rs.map (bd M b)).map oV))=H1 at s1 hL1 ⊢
  walk_at "y"
  refine aL' (SqL.of hL1) (zc' (vs:=(rs.map (bd M b)).map oV) (fun i a H'=>i<=rs.length/\a.1=sS ((rs.map (bd M b)).take i)/\a.2<=i/\H'=H1) ⟨aM _,rfl,ae _,rfl⟩ (fun i a H' pv=>SqL.of (by rw[pv.2.2.2];exact hL1)) ?_ ?_)
  .rintro i ⟨S,n⟩ H2 x R hx ⟨_,hS,hn,rfl⟩ hR
   rw[aq]at hx
   obtain⟨o,ho,rfl⟩:=Option.map_eq_some_iff.mp hx
   have hi:i<rs.length:=by have:=ao' ho;rwa [ac]at this
   have hsn:=r5' (os:=(rs.map (bd M b)).take i) (o:=o)
   have et:(rs.map (bd M b)).take (i+1)=(rs.map (bd M b)).take i++[o]:=by rw[bJ,ho];rfl
   rw[<- et]at hsn
   dsimp only at hS hn
   subst hS
   cases o with
   |none=>
    simp only[oV]
    walk_at "y"
    refine hR _ _ ⟨hi,?_,by show n<=i+1;omega,rfl⟩
    show sS _=sS _
    rw[hsn]
    funext k
    simp
   |some y=>
    simp only[oV]
    walk_at "y"
    refine⟨some (y:Int),rfl,by show n<4000;omega,hR _ _ ⟨hi,?_,by show n+1<=i+1;omega,rfl⟩⟩
    show(fun j=>sS _ j || decide (j=some (y:Int)))=sS _
    rw[hsn]
    funext k
    show _=(_ || (true&&decide (k=some (y:Int))))
    rw[Bool.true_and]
  .rintro⟨S,n⟩ H2 ⟨_,hS,hn,rfl⟩
   rw[ac,bb (ae _)]at hS
   dsimp only at hS hn
   subst hS
   refine vG' r6' ⟨(au M.length).map Int.ofNat,by rw[ac,aQ];omega,fun i hi=>?_⟩ fun l' us hl' hus hmem=>?_
   .obtain⟨n,hn,rfl⟩:=iM'.mp hi
    obtain⟨p,_,hp⟩:=aR.mp hn
    exact List.mem_map_of_mem (f:=Int.ofNat) (aw.mpr (zu' hO hp))
   .dsimp only at hmem
    obtain⟨bs',hb1,hb2,hb3⟩:=r7' hus (fun i hi=>by
     obtain⟨n,_,rfl⟩:=iM'.mp ((hmem i).mp hi)
     exact Int.natCast_nonneg n)
    rw[hb2]
    refine q l' bs' _ (s1.trans (ae' hl' _)) ad' hb1 fun r=>?_
    rw[hb3,hmem,iM']
    constructor
    .rintro⟨n,hn,e⟩
     obtain⟨p,hp,hpe⟩:=aR.mp hn
     exact⟨p,hp,by rw[hpe,show r=n by omega]⟩
    .rintro⟨p,hp,hpe⟩
     exact⟨r,by rw[<- hpe];exact List.mem_map_of_mem hp,rfl⟩
def dt':Sp:=fun vs H Q _=>∃(p:Addr) (l0 h0 l1 h1:Nat) (row:List Bool),vs=[.ref p,.str (tx row)]/\IsB H p l0 h0 l1 h1 none/\1<=l0/\l0<=h0/\1<=l1/\l1<=h1/\row.length<=500/\∀(o:Option Nat) (H':Hp),aB' H H'->IsF l0 h0 l1 h1 row o->Q (oV o) H'
theorem j2' {C:Rc} (hN:C.N.length=6) (hM:C.fs "machine_of"=some hX') (hR:C.fs "rooms_behind"=some mH'):∀vs H Q E,dt' vs H Q E->tSs C cr' { nx:=fun _ H'=>Q .non H',rt:=Q } (L2.az' C.N vs) H:=by
 intro vs H Q E h
 obtain⟨p,l0,h0,l1,h1,row,rfl,hB,a0,b0,a1,b1,hrow,q⟩:=h
 rw[ak' hN]
 unfold cr'
 have c0:=hB.b0
 have c1:=hB.b1
 have hO:OkM (M0 l0 h0 l1 h1):=wa' (by omega) (by omega)
 walk_at "y"
 refine ag' hM ?_
 walk_at "y"
 refine⟨p,l0,h0,l1,h1,rfl,hB,a0,b0,a1,b1,fun m H1 s1 hm=>?_⟩
 obtain⟨mv,hmv,hmr⟩:=id hm
 walk_at "y"
 refine lW' (SqT.of hmv) ?_
 rw[hmr.len,fW']
 walk_at "y"
 refine fi' fun pr hpr=>?_
 walk_at "y"
 refine gn' ad' (by omega) (by omega) (by omega) (by omega) (cj (al' (by omega))) fun R hRr=>?_
 rw[show(((h0+h1:Nat):Int)-0).toNat=h0+h1 by omega,mt']
 have s2:=(ae' hpr (.rng 0 ((h0+h1:Nat):Int))).trans (ae' hRr (.lst ((au (h0+h1)).map nV)))
 have hR2:upd (upd H1 pr (.rng 0 ((h0+h1:Nat):Int))) R (.lst ((au (h0+h1)).map nV)) R=some (.lst ((au (h0+h1)).map nV)):=ad'
 generalize upd (upd H1 pr (.rng 0 ((h0+h1:Nat):Int))) R (.lst ((au (h0+h1)).map nV))=H2 at s2 hR2 ⊢
 have hv:∀n,Vst h0 h1 (sts l0 h0 l1 h1 (row.take n)):=fun n=>mG' (by omega) (by omega) (s:=some none) trivial
 have emp:∀(rs:List Nat) n,(∀r,r∈rs↔In h0 h1 (sts l0 h0 l1 h1 (row.take n)) r)->(rs=[]↔sts l0 h0 l1 h1 (row.take n)=none):=by
  intro rs n hm
  have:=zt' (by omega) (hv n)
  constructor
  .intro e
   subst e
   exact Classical.byContradiction fun z=>by
    obtain⟨i,hi⟩:=this.mpr z
    exact absurd ((hm i).mpr hi) aO
  .intro e
   cases rs with
   |nil=>rfl
   |cons r rs=>exact absurd e (this.mp ⟨r,(hm r).mp (by simp)⟩)
 walk_at "y"
 refine lR' (ix' (fun i σ H'=>(∃(l:Addr) (rs:List Nat) (x4 x5:Option V),σ=[some (.ref p),some (.str (tx row)),some (.ref m),some (.ref l),x4,x5]/\H' l=some (.lst (rs.map nV))/\rs.Pairwise (· < ·)/\∀r,r∈rs↔In h0 h1 (sts l0 h0 l1 h1 (row.take i)) r)/\aB' H1 H'/\∀j,j<i->sts l0 h0 l1 h1 (row.take j)≠none) ⟨⟨R,au (h0+h1),_,_,rfl,hR2,bS,fun r=>aw⟩,s2,fun j hj=>absurd hj (Nat.not_lt_zero _)⟩ ?_ ?_)
 .rintro i c σ H3 pp hc hpp ⟨⟨l,rs,x4,x5,rfl,hl,hri,hm⟩,s3,hjs⟩
  have hi:=ao' hc
  refine eo' (SqT.of ad') ?_
  have s4:=s3.trans (ae' hpp (.tup [.int i,.str (tx [c])]))
  have hl4:=ae' hpp (.tup [.int i,.str (tx [c])]) _ _ hl
  generalize upd H3 pp (.tup [.int i,.str (tx [c])])=H4 at s4 hl4 ⊢
  walk_at "y"
  refine iy' (SqL.of hl4) ?_
  have hE:=emp rs i hm
  cases he:((rs.map nV).isEmpty)with
  |true=>
   have:rs=[]:=by simpa using he
   walk_at "y"
   exact q (some i) _ (s1.trans s4) ⟨by omega,hE.mp this,hjs⟩
  |false=>
   have hne:rs≠[]:=by rintro rfl;cases he
   walk_at "y"
   refine ag' hR ?_
   walk_at "y"
   have hrl:rs.length<=63:=by
    have:=wd' (mD' hri) fun r hr=>oH' ((hm r).mp hr)
    omega
   refine⟨m,l,_,rs,c,rfl,r4' s4 ‹_›,hO,by rw[fW'];omega,hl4,fun r hr=>by rw[fW'];exact oH' ((hm r).mp hr),hrl,fun l' rs' H5 s5 hl' hri' hm'=>?_⟩
   walk_at "y"
   refine⟨⟨l',rs',_,_,rfl,hl',hri',fun r=>?_⟩,s4.trans s5,fun j hj=>?_⟩
   .rw[hm',aP' hc,jl',<- wc' a0 b0 a1 b1 (hv i)]
    exact⟨fun⟨p,hp,e⟩=>⟨p,(hm p).mp hp,e⟩,fun⟨p,hp,e⟩=>⟨p,(hm p).mpr hp,e⟩⟩
   .rcases bA j i with z|z
    .exact hjs j z
    .rw[show j=i by omega]
     exact fun e=>hne (hE.mpr e)
 .rintro σ H3 ⟨⟨l,rs,x4,x5,rfl,hl,hri,hm⟩,s3,hjs⟩
  have hE:=emp rs row.length hm
  rw[aN]at hE
  walk_at "y"
  refine iy' (SqL.of hl) ?_
  cases he:((rs.map nV).isEmpty)with
  |true=>
   have:rs=[]:=by simpa using he
   walk_at "y"
   exact⟨ay' (by omega),q (some row.length) _ (s1.trans s3) ⟨ae _,by rw[aN];exact hE.mp this,hjs⟩⟩
  |false=>
   have hne:rs≠[]:=by rintro rfl;cases he
   walk_at "y"
   refine q none _ (s1.trans s3) fun n hn=>?_
   rcases bA n row.length with z|z
   .exact hjs n z
   .rw[show n=row.length by omega,aN]
    exact fun e=>hne (hE.mpr e)
def ee':Sp:=fun vs H Q _=>∃(p:Addr) (l0 h0 l1 h1:Nat) (row:List Bool),vs=[.ref p,.str (tx row)]/\IsB H p l0 h0 l1 h1 none/\1<=l0/\l0<=h0/\1<=l1/\l1<=h1/\row.length<=500/\∀H',aB' H H'->Q (.bl (sts l0 h0 l1 h1 row).isSome) H'
theorem j3' {C:Rc} (hN:C.N.length=2) (hF:C.fs "fault_at"=some dt'):∀vs H Q E,ee' vs H Q E->tSs C dV' { nx:=fun _ H'=>Q .non H',rt:=Q } (L2.az' C.N vs) H:=by
 intro vs H Q E h
 obtain⟨p,l0,h0,l1,h1,row,rfl,hB,a0,b0,a1,b1,hrow,q⟩:=h
 rw[ak' hN]
 unfold dV'
 walk_at "y"
 refine ag' hF ?_
 walk_at "y"
 refine⟨p,l0,h0,l1,h1,row,rfl,hB,a0,b0,a1,b1,hrow,fun o H1 s1 hI=>?_⟩
 have hk:=hI.keep
 have e:decide (oV o=.non)=(sts l0 h0 l1 h1 row).isSome:=by
  cases o with
  |none=>
   have:=hk.mp rfl
   cases hs:sts l0 h0 l1 h1 row with
   |none=>exact absurd hs this
   |some _=>rfl
  |some n=>
   cases hs:sts l0 h0 l1 h1 row with
   |none=>rfl
   |some _=>exact absurd (hk.mpr (by rw[hs];simp)) (by simp)
 walk_at "y"
 rw[e]
 exact q _ s1
def nb (f:List Bool->Bool) (row:List Bool):List Bool:=[false,true].filter fun b=>f (row++[b])
def we':Sp:=fun vs H Q _=>∃(p:Addr) (l0 h0 l1 h1:Nat) (row:List Bool),vs=[.ref p,.str (tx row)]/\IsB H p l0 h0 l1 h1 none/\1<=l0/\l0<=h0/\1<=l1/\l1<=h1/\row.length<=400/\∀H',aB' H H'->Q (.str (tx (nb (fun r=>(sts l0 h0 l1 h1 r).isSome) row))) H'
def r8':Sp:=fun vs H Q _=>∃(p:Addr) (l0 h0 l1 h1:Nat) (row:List Bool),vs=[.ref p,.str (tx row)]/\IsB H p l0 h0 l1 h1 none/\1<=l0/\l0<=h0/\1<=l1/\l1<=h1/\row.length<=500/\∀H',aB' H H'->Q (.bl (sts l0 h0 l1 h1 row).isSome) H'
def r9':Sp:=fun vs H Q _=>∃(b p:Addr) (n l0 h0 l1 h1:Nat),vs=[.ref b,.ref p]/\H b=some (eF' b n)/\n<=2 ^ 38/\IsB H p l0 h0 l1 h1 none/\1<=l0/\l0<=h0/\1<=l1/\l1<=h1/\∀(row:List Bool) (H':Hp),row.length<=60->Go 200 H H'->Q (.str (tx row)) H'
def iI':Sp:=fun vs H Q _=>∃(p:Addr) (l0 h0 l1 h1:Nat) (row:List Bool),vs=[.ref p,.str (tx row)]/\IsB H p l0 h0 l1 h1 none/\1<=l0/\l0<=h0/\1<=l1/\l1<=h1/\row.length<=60/\∀H',aB' H H'->Q (.bl true) H'
structure FsRight (C:Rc):Prop where
 holds:C.fs "_law_holds"=some r8'
 keeps:C.fs "keeps"=some ee'
 fault:C.fs "fault_at"=some dt'
 next:C.fs "next_bits"=some we'
 same:C.fs "_law_same"=some (je' 0)
structure FsLaw (C:Rc):Prop where
 box:C.fs "_law_box"=some (hF' C.K)
 take:C.fs "_law_take"=some c4'
 bounds:C.fs "_law_bounds"=some mE'
 rowof:C.fs "_law_row_of"=some r9'
 right:C.fs "_law_right"=some iI'
 same:C.fs "_law_same"=some (je' 0)
 fault:C.fs "fault_at"=some dt'
 exch:C.fs "exchanged"=some bb'
end K04
namespace BK
open PySem PySem.Spec PyProof.Rows L2 R3 LW SR
def a8':Css:=(.cons (.ret (.comp (.cut (.var 0) (.some (.var 2)) (.some (.bin .Add (.var 2) (.var 1)))) [2] (.name 2) (.range3 (.int 0) (.blt .len (.cons (.var 0) .nil)) (.var 1)) .none .nil))
  .nil)
def tV (l:List Bool):V:=.str (tx l)
def bks (m:Nat) (l:List Bool) (n:Nat):List (List Bool):=(au n).map fun i=>(l.drop (i*m)).take m
theorem dW' {m n:Nat} {l:List Bool}:bks m l (n+1)=bks m l n++[(l.drop (n*m)).take m]:=by
 unfold bks
 rw[bE,az]
 rfl
theorem cd' {m n:Nat} {l:List Bool}:(bks m l n).length=n:=by unfold bks;simp
theorem gw' {m n i:Nat} {l:List Bool} (h:i<n):(bks m l n)[i]?=some ((l.drop (i*m)).take m):=by
 unfold bks
 simp[h]
theorem hY' {i n m:Nat} (hi:i<n):i*m+m<=n*m:=by
 have:(i+1)*m<=n*m:=Nat.mul_le_mul_right m hi
 rw[bO,cg]at this
 exact this
theorem mI' {n m:Nat} (hm:0<m):ew' 0 ((n*m:Nat):Int) m=n:=by
 unfold ew'
 rcases Nat.eq_zero_or_pos n with rfl|hn
 .rw[ce,if_neg (by omega)]
 .have hp:0<n*m:=Nat.mul_pos hn hm
  rw[if_pos (by omega)]
  have e:((n*m:Nat):Int)-0-1=((n*m-1:Nat):Int):=by omega
  have d:(n*m-1) / m=n-1:=by
   have h1:n*m=(n-1)*m+m:=by
    have:n=(n-1)+1:=by omega
    conv=>lhs;rw[this,bO,cg]
   apply Nat.div_eq_of_lt_le
   .omega
   .rw[bO,cg];omega
  rw[e,<- Int.natCast_ediv,d]
  omega
def bW':Sp:=fun vs H Q _=>∃(l:List Bool) (m n:Nat),vs=[.str (tx l),.int m]/\0<m/\m<=1000/\l.length=n*m/\l.length<=1000/\∀p H',H p=none->aB' H H'->H' p=some (.lst ((bks m l n).map tV))->Q (.ref p) H'
theorem fp' {C:Rc} (hN:C.N.length=3):∀vs H Q E,bW' vs H Q E->tSs C a8' { nx:=fun _ H'=>Q .non H',rt:=Q } (L2.az' C.N vs) H:=by
 intro vs H Q E h
 obtain⟨l,m,n,rfl,hm,hm2,hl,hl2,q⟩:=h
 rw[ak' hN]
 unfold a8'
 have hz:l.length<=sizeLine:=ay' (by omega)
 walk_at "y"
 refine⟨hz,?_⟩
 refine y8' (by omega) (by omega) (by omega) (by omega) (by omega) (by omega) ?_
 rw[hl,mI' hm]
 refine vx' (fun i xs H'=>xs=(bks m l i).map tV/\H'=H) ⟨rfl,rfl⟩ ?_ ?_
 .rintro i xs H' R hi ⟨rfl,rfl⟩ hR
  walk_at "y"
  have hb:=hY' (m:=m) hi
  have hin:i<=n*m:=ay (cj hi) (Nat.le_mul_of_pos_right n hm)
  rw[show(0:Int)+(i:Int)*(m:Int)=((i*m:Nat):Int) by rw[cO,Int.zero_add],show((i*m:Nat):Int)+(m:Int)=((i*m+m:Nat):Int) by omega]
  refine vQ' hz (by omega) ?_
  walk_at "y"
  refine⟨by rw[ac,cd'];exact al' (by omega),hR _ _ ⟨?_,rfl⟩⟩
  rw[dW',az,cA]
  rfl
 .rintro xs H' ⟨rfl,rfl⟩ p hp
  walk_at "y"
  exact q p _ hp (ae' hp _) ad'
end BK
namespace K64
open PySem PySem.Spec PyProof.Rows L2 R3 LW
def cL':List Str:=["row","bit"]
def bX':List Str:=[]
def ef':List Str:=["row"]
def dg':List Str:=[]
def gx':List Str:=["row","level","told","bit"]
def eH':List Str:=[]
def cM':List Str:=["row","levels"]
def bY':List Str:=["max","min"]
def bZ':Css:=(.cons (.asg (.name 1) (.call "sums" (.cons (.var 0) .nil)))
  (.cons (.ret (.bin .Sub (.blt .max (.cons (.var 1) .nil)) (.blt .min (.cons (.var 1) .nil))))
  .nil))
def cN':List Str:=["row","many","at"]
def b0':List Str:=["len","range"]
def bR':List Str:=["row","many"]
def bg':List Str:=["len"]
def bh':Css:=(.cons (.ite (.val (.bin .Mod (.blt .len (.cons (.var 0) .nil)) (.var 1))) (.cons .raise_
  .nil) .nil)
  (.cons (.ret (.call "blocks_of" (.cons (.var 0) (.cons (.var 1) .nil))))
  .nil))
def eg':List Str:=["row","many"]
def dh':List Str:=[]
def du':List Str:=["row","whole","many","level"]
def cO':List Str:=["enumerate"]
def by':List Str:=["many","half","count","ones"]
def a3':List Str:=["range"]
def bn':List Str:=["count","rest","ones"]
def aT':List Str:=[]
def ce':List Str:=["many","number","count","bits","ones","ahead","rest","by_nought"]
def bz':List Str:=["range","reversed"]
def bo':List Str:=["row","count","ones","ahead","at","bit","by_nought"]
def aU':List Str:=["enumerate","len"]
def c8':List Str:=["many","bits"]
def cs':List Str:=[]
def ct':Css:=(.cons (.asg (.name 1) (.int 0))
  (.cons (.whl (.cmp .Lt (.call "balanced_count" (.cons (.var 1) .nil)) (.var 0)) (.cons (.aug 1 false (.int 2))
  .nil))
  (.cons (.ret (.var 1))
  .nil)))
def bp':List Str:=["row","many"]
def aV':List Str:=["len"]
def aW':Css:=(.cons (.asg (.name 1) (.call "turning" (.cons (.var 0) .nil)))
  (.cons (.ret (.bin .Add (.call "balanced_at" (.cons (.call "head_for" (.cons (.blt .len (.cons (.var 0) .nil)) .nil)) (.cons (.var 1) .nil))) (.call "turned" (.cons (.var 0) (.cons (.var 1) .nil)))))
  .nil))
def bS':List Str:=["row","many","head","told"]
def bi':List Str:=["len"]
def bj':Css:=(.cons (.asg (.name 2) (.call "head_for" (.cons (.var 1) .nil)))
  (.cons (.ite (.cmp .NotEq (.blt .len (.cons (.var 0) .nil)) (.bin .Add (.var 2) (.var 1))) (.cons .raise_
  .nil) .nil)
  (.cons (.asg (.name 3) (.call "turned" (.cons (.cut (.var 0) (.some (.var 2)) .none) (.cons (.call "balanced_number" (.cons (.cut (.var 0) .none (.some (.var 2))) .nil)) .nil))))
  (.cons (.ite (.cmp .NotEq (.call "balance_written" (.cons (.var 3) .nil)) (.var 0)) (.cons .raise_
  .nil) .nil)
  (.cons (.ret (.var 3))
  .nil)))))
def bG':List Str:=["row","many","told","level","block","plain","rise"]
def a9':List Str:=["abs"]
def ba':Css:=(.cons (.asg (.name 2) (.lst .nil))
  (.cons (.asg (.name 3) (.int 0))
  (.cons (.for_ (.name 4) (.val (.call "whole_blocks" (.cons (.var 0) (.cons (.var 1) .nil)))) (.cons (.asg (.name 5) (.bin .Add (.str "0") (.var 4)))
  (.cons (.asg (.name 6) (.call "sum_of" (.cons (.var 5) .nil)))
  (.cons (.ite (.cmp .LtE (.blt .abs (.cons (.bin .Add (.var 3) (.var 6)) .nil)) (.blt .abs (.cons (.bin .Sub (.var 3) (.var 6)) .nil))) (.cons (.expr (.met .append (.var 2) (.cons (.var 5) .nil)))
  (.cons (.aug 3 false (.var 6))
  .nil)) (.cons (.expr (.met .append (.var 2) (.cons (.call "exchanged" (.cons (.var 5) .nil)) .nil)))
  (.cons (.aug 3 true (.var 6))
  .nil)))
  .nil))))
  (.cons (.ret (.met .join (.str "") (.cons (.var 2) .nil)))
  .nil))))
def cz':List Str:=["row","many","blocks","block"]
def bK':List Str:=[]
def bL':Css:=(.cons (.asg (.name 2) (.call "whole_blocks" (.cons (.var 0) (.cons (.bin .Add (.var 1) (.int 1)) .nil))))
  (.cons (.ret (.met .join (.str "") (.cons (.comp (.ife (.cmp .Eq (.idx (.var 3) (.int 0)) (.str "0")) (.cut (.var 3) (.some (.int 1)) .none) (.call "exchanged" (.cons (.cut (.var 3) (.some (.int 1)) .none) .nil))) [3] (.name 3) (.val (.var 2)) .none .nil) .nil)))
  .nil))
def bT':List Str:=["machine","rooms","bit","leads","room","lead"]
def bk':List Str:=["int","sorted"]
def dv':List Str:=["machine","rooms","inside","led_to","room","lead"]
def cP':List Str:=["set"]
def dw':List Str:=["machine","numbers","anew","at","room"]
def cQ':List Str:=["enumerate","tuple"]
def dx':List Str:=["machine","numbers","fewer"]
def cR':List Str:=["len","list","range"]
def bq':List Str:=["bounds","low0","high0","low1","high1","spread","levels","bit","high","place","level"]
def aX':List Str:=["list","range"]
def cf':List Str:=["bounds","room","bit","low0","high0","low1","high1","spread","last","place","level"]
def bA':List Str:=[]
def a4':List Str:=["bounds","rooms","numbers","at","room"]
def aI':List Str:=["enumerate","tuple"]
def cA':List Str:=["bounds","less","numbers"]
def bM':List Str:=[]
def c9':List Str:=["bounds","row","machine","rooms","at","bit"]
def cu':List Str:=["enumerate","len","list","range"]
def fq':List Str:=["bounds","row"]
def dX':List Str:=[]
def dy':List Str:=["row","most","told","run","bit"]
def cS':List Str:=[]
def cT':List Str:=["row","most","bits","run","at","bit","told"]
def b1':List Str:=["enumerate"]
def dY':List Str:=["_law_script","_law_k"]
def da':List Str:=["len"]
def oJ':List Str:=["_law_script","_law_k","_law_cell"]
def mJ':List Str:=["abs","int"]
def mK':List Str:=["_law_box_here","_law_many","_law_found","_law_once","_law_twice"]
def jn':List Str:=[]
def sa':List Str:=["_law_box_here","_law_many","_law_often","_law_row_here"]
def oK':List Str:=["int","len"]
def gy':List Str:=["_law_row_here","_law_many","_law_at"]
def eI':List Str:=["len","range"]
def cg':List Str:=["_law_row_here","_law_many","_law_told","_law_block","_law_long","_law_total"]
def bB':List Str:=["any","len"]
def bC':Css:=(.cons (.asg (.name 0) (.cut (.var 0) .none (.some (.bin .Mult (.bin .FloorDiv (.blt .len (.cons (.var 0) .nil)) (.var 1)) (.var 1)))))
  (.cons (.asg (.name 2) (.met .join (.str "") (.cons (.comp (.call "balance_written" (.cons (.var 3) .nil)) [3] (.name 3) (.val (.call "_law_blocks" (.cons (.var 0) (.cons (.var 1) .nil)))) .none .nil) .nil)))
  (.cons (.ite (.cmp .Eq (.var 0) (.str "")) (.cons (.ret (.cmp .Eq (.var 2) (.str "")))
  .nil) .nil)
  (.cons (.asg (.name 4) (.bin .FloorDiv (.bin .Mult (.blt .len (.cons (.var 2) .nil)) (.var 1)) (.blt .len (.cons (.var 0) .nil))))
  (.cons (.ite (.or (.cmp .NotEq (.call "sum_of" (.cons (.var 2) .nil)) (.int 0)) (.or (.cmp .Gt (.call "spread_of" (.cons (.var 2) .nil)) (.var 4)) (.val (.blt .any (.cons (.comp (.cmp .NotEq (.var 5) (.int 0)) [5] (.name 5) (.val (.stp (.call "sums" (.cons (.var 2) .nil)) (.var 4))) .none .nil) .nil))))) (.cons (.ret (.bl false))
  .nil) .nil)
  (.cons (.ret (.cmp .Eq (.met .join (.str "") (.cons (.comp (.call "balance_read" (.cons (.var 3) (.cons (.var 1) .nil))) [3] (.name 3) (.val (.call "_law_blocks" (.cons (.var 2) (.cons (.var 4) .nil)))) .none .nil) .nil)) (.var 0)))
  .nil))))))
def ch':List Str:=["_law_row_here","_law_most","_law_told"]
def bD':List Str:=["len"]
def bE':Css:=(.cons (.asg (.name 2) (.call "stuffed" (.cons (.var 0) (.cons (.var 1) .nil))))
  (.cons (.ite (.or (.not (.val (.call "keeps" (.cons (.tup (.cons (.int 1) (.cons (.var 1) (.cons (.int 1) (.cons (.var 1) (.cons .non .nil)))))) (.cons (.var 2) .nil))))) (.cmp .NotEq (.call "unstuffed" (.cons (.var 2) (.cons (.var 1) .nil))) (.var 0))) (.cons (.ret (.bl false))
  .nil) .nil)
  (.cons (.ite (.cmp .NotEq (.call "stuffed" (.cons (.call "exchanged" (.cons (.var 0) .nil)) (.cons (.var 1) .nil))) (.call "exchanged" (.cons (.var 2) .nil))) (.cons (.ret (.bl false))
  .nil) .nil)
  (.cons (.ret (.cmp .LtE (.bin .Mult (.bin .Sub (.blt .len (.cons (.var 2) .nil)) (.blt .len (.cons (.var 0) .nil))) (.bin .Sub (.var 1) (.int 1))) (.blt .len (.cons (.var 0) .nil))))
  .nil))))
def cU':List Str:=["_law_row_here","_law_many","_law_most","_law_told","_law_total"]
def b2':List Str:=["abs","len","max"]
def b3':Css:=(.cons (.asg (.name 0) (.cut (.var 0) .none (.some (.bin .Mult (.bin .FloorDiv (.blt .len (.cons (.var 0) .nil)) (.var 1)) (.var 1)))))
  (.cons (.asg (.name 3) (.call "flags_written" (.cons (.var 0) (.cons (.var 1) .nil))))
  (.cons (.ite (.cmp .Gt (.blt .max (.cons (.comp (.blt .abs (.cons (.var 4) .nil)) [4] (.name 4) (.val (.stp (.call "sums" (.cons (.var 3) .nil)) (.bin .Add (.var 1) (.int 1)))) .none .nil) .nil)) (.bin .Add (.var 1) (.int 1))) (.cons (.ret (.bl false))
  .nil) .nil)
  (.cons (.ret (.cmp .Eq (.call "flags_read" (.cons (.call "unstuffed" (.cons (.call "stuffed" (.cons (.var 3) (.cons (.var 2) .nil))) (.cons (.var 2) .nil))) (.cons (.var 1) .nil))) (.var 0)))
  .nil))))
def oL':List Str:=["_law_script","_law_k","_law_box_here","_law_row_here","_law_many","_law_most","_law_even","_law_told","_law_total"]
def mL':List Str:=["len","min","range"]
def oM':Css:=(.cons (.for_ (.name 1) (.range1 (.bin .Add (.int 1) (.blt .min (.cons (.int 8) (.cons (.blt .len (.cons (.var 0) .nil)) .nil))))) (.cons (.asg (.name 2) (.call "_law_box" (.cons (.var 0) (.cons (.var 1) .nil))))
  (.cons (.asg (.name 3) (.call "_law_row" (.cons (.var 2) .nil)))
  (.cons (.par 4 5 (.bin .Add (.int 1) (.call "_law_take" (.cons (.var 2) (.cons (.int 6) .nil)))) (.bin .Add (.int 2) (.call "_law_take" (.cons (.var 2) (.cons (.int 7) .nil)))))
  (.cons (.ite (.or (.not (.val (.call "_law_balance_right" (.cons (.var 3) (.cons (.bin .Mult (.int 2) (.var 4)) .nil))))) (.not (.val (.call "_law_stuffed_right" (.cons (.var 3) (.cons (.var 5) .nil)))))) (.cons (.ret (.bl false))
  .nil) .nil)
  (.cons (.ite (.not (.val (.call "_law_flags_right" (.cons (.var 3) (.cons (.var 4) (.cons (.var 5) .nil)))))) (.cons (.ret (.bl false))
  .nil) .nil)
  (.cons (.asg (.name 6) (.cut (.var 3) .none (.some (.bin .Mult (.bin .FloorDiv (.blt .len (.cons (.var 3) .nil)) (.int 2)) (.int 2)))))
  (.cons (.asg (.name 7) (.ife (.cmp .NotEq (.var 6) (.str "")) (.call "balance_written" (.cons (.var 6) .nil)) (.str "")))
  (.cons (.asg (.name 8) (.bin .Add (.call "balanced_number" (.cons (.var 7) .nil)) (.call "balanced_number" (.cons (.call "exchanged" (.cons (.var 7) .nil)) .nil))))
  (.cons (.ite (.cmp .NotEq (.var 8) (.bin .Sub (.call "balanced_count" (.cons (.blt .len (.cons (.var 7) .nil)) .nil)) (.int 1))) (.cons (.ret (.bl false))
  .nil) .nil)
  .nil))))))))))
  (.cons (.ret (.bl true))
  .nil))
open SR BA BK
theorem wf' {a b:List Bool} {n:Nat} (h:a.length=n):(a++b).take n=a:=by rw[<- h,List.take_left]
theorem wg' {a b:List Bool} {n:Nat} (h:a.length=n):(a++b).drop n=b:=by rw[<- h,List.drop_left]
def hdj (n:Nat):Nat->Nat->Nat
 |0,j=>j
 |f+1,j=>if bc (2*j)<n then hdj n f (j+1)else j
def hd (n:Nat):Nat:=2*hdj n 12 0
theorem A0':1000000<=bc 24:=by decide +kernel
theorem jo':∀n:Fin 71,hd n.val<=8/\n.val<=bc (hd n.val)/\bc (hd n.val)<=70/\1<=bc (hd n.val):=by decide +kernel
theorem wh' {n:Nat} (h:n<=70):hd n<=8:=(jo' ⟨n,by omega⟩).1
theorem zv' {n:Nat} (h:n<=70):n<=bc (hd n)/\bc (hd n)<=70/\1<=bc (hd n):=(jo' ⟨n,by omega⟩).2
def pP':Sp:=fun vs H Q _=>∃n:Nat,vs=[.int n]/\n<=1000000/\Q (.int (hd n)) H
theorem sb' {C:Rc} (hN:C.N.length=2) (hB:C.fs "balanced_count"=some aG'):∀vs H Q E,pP' vs H Q E->tSs C ct' { nx:=fun _ H'=>Q .non H',rt:=Q } (L2.az' C.N vs) H:=by
 intro vs H Q E h
 obtain⟨n,rfl,hn,q⟩:=h
 rw[ak' hN]
 unfold ct'
 walk_at "y"
 refine lS' (fun m σ H'=>∃j:Nat,σ=[some (.int n),some (.int (2*j:Nat))]/\m+j=12/\hdj n m j=hdj n 12 0/\H'=H) _ ⟨0,rfl,rfl,rfl,rfl⟩ ?_
 rintro m σ H' ⟨j,rfl,hmj,hj,rfl⟩
 walk_at "y"
 refine ag' hB ?_
 walk_at "y"
 refine⟨2*j,rfl,by omega,?_⟩
 walk_at "y"
 refine bd' (fun hq=>lT' ?_) fun hq=>lU' ?_
 .walk_at "y"
  rw[ff' (a:=((2*j:Nat):Int)) rfl]
  walk_at "y"
  simp only[aF,if_false]
  obtain⟨f,rfl⟩:∃f,m=f+1:=⟨m-1,by
   rcases Nat.eq_zero_or_pos m with z|z
   .have:j=12:=by omega
    subst this
    have:=A0'
    rw[show 2*12=24 from rfl]at hq
    omega
   .omega⟩
  unfold hdj at hj
  rw[if_pos (by omega)]at hj
  exact⟨f,by omega,j+1,by rw[show((2*j:Nat):Int)+2=((2*(j+1):Nat):Int) by omega],by omega,by rw[hj];rfl,trivial⟩
 .walk_at "y"
  have:hdj n m j=j:=by
   cases m with
   |zero=>rfl
   |succ f=>unfold hdj;rw[if_neg (by omega)]
  rw[show((2*j:Nat):Int)=((hd n:Nat):Int) by unfold hd;rw[<- hj,this]]
  exact q
theorem wi' {l:List Bool} {t:Nat} (he:l.length % 2=0) (h2:2<=l.length) (h:ey' (bal l) t):t<l.length:=by
 obtain⟨n,hn,_,hb⟩:=mg' he
 rw[if_pos (by omega)]at hn
 rcases bA n t with hlt|hge
 .rw[h.2 n hlt]at hb;cases hb
 .omega
noncomputable def tt (l:List Bool):Nat:=open Classical in if h:∃t,ey' (bal l) t then h.choose else 0
theorem wj' {l:List Bool} {t:Nat} (h:ey' (bal l) t):tt l=t:=by
 unfold tt
 have h':∃t,ey' (bal l) t:=⟨t,h⟩
 rw[dif_pos h']
 exact ey'.inj h'.choose_spec h
theorem wk' {l:List Bool} (he:l.length % 2=0):ey' (bal l) (tt l):=by
 have:∃t,ey' (bal l) t:=by
  obtain⟨n,hn,_,hb⟩:=mg' he
  obtain⟨t,r,_,ht,_⟩:=fk' (p:=bal l) (N:=n+1) ⟨n,by omega,hb⟩
  exact⟨t,ht⟩
 obtain⟨t,ht⟩:=this
 rw[wj' ht]
 exact ht
noncomputable def wr (l:List Bool):List Bool:=hL' (hd l.length) (tt l)++tn l (tt l)
def Ev (l:List Bool):Prop:=l.length<=60/\2<=l.length/\l.length % 2=0
theorem Ev.tl {l:List Bool} (h:Ev l):tt l<l.length:=wi' h.2.2 h.2.1 (wk' h.2.2)
theorem Ev.bc {l:List Bool} (h:Ev l):tt l<bc (hd l.length):=aD h.tl (zv' (by have:=h.1;omega)).1
theorem Ev.hl {l:List Bool} (h:Ev l):hd l.length<=8:=wh' (by have:=h.1;omega)
theorem mM' {l:List Bool}:(wr l).length=hd l.length+l.length:=by
 unfold wr
 rw[ap,mf',show(hL' (hd l.length) (tt l)).length=hd l.length from ec']
theorem sc' {l:List Bool} (h:l.length=2*l.count true):sm l=0:=K56.vW' h
theorem pQ' {m k:Nat} (h:k<BA.bc m):sm (hL' m k)=0:=by
 obtain⟨h1,h2,h3⟩:=K56.mn' h
 exact sc' (by omega)
theorem wl' {l:List Bool} (h:Ev l):sm (wr l)=0:=by
 unfold wr
 rw[cW',pQ' h.bc,zk']
 have:=(wk' h.2.2).1
 unfold bal at this
 have:=of_decide_eq_true this
 omega
theorem sd' {l:List Bool}:(wr l).take (hd l.length)=hL' (hd l.length) (tt l):=by
 unfold wr
 exact wf' ec'
theorem se' {l:List Bool}:(wr l).drop (hd l.length)=tn l (tt l):=by
 unfold wr
 exact wg' ec'
def kb':Sp:=fun vs H Q _=>∃l:List Bool,vs=[.str (tx l)]/\Ev l/\∀H',aB' H H'->Q (.str (tx (wr l))) H'
theorem sf' {C:Rc} (hN:C.N.length=2) (hT:C.fs "turning"=some c5') (hA:C.fs "balanced_at"=some K56.iH') (hH:C.fs "head_for"=some pP') (hTn:C.fs "turned"=some cp'):∀vs H Q E,kb' vs H Q E->tSs C aW' { nx:=fun _ H'=>Q .non H',rt:=Q } (L2.az' C.N vs) H:=by
 intro vs H Q E h
 obtain⟨l,rfl,ev,q⟩:=h
 obtain⟨hl,hl2,he⟩:=id ev
 rw[ak' hN]
 unfold aW'
 have hz:l.length<=sizeLine:=ay' (by omega)
 have h8:=ev.hl
 have hb:=ev.bc
 walk_at "y"
 refine ag' hT ?_
 walk_at "y"
 refine⟨l,rfl,by omega,he,fun t H1 s1 ht htl=>?_⟩
 cases wj' ht
 walk_at "y"
 refine ag' hA ?_
 walk_at "y"
 refine ag' hH ?_
 walk_at "y"
 refine⟨hz,l.length,rfl,by omega,?_⟩
 walk_at "y"
 refine⟨hd l.length,tt l,rfl,by omega,hb,fun H2 s2=>?_⟩
 walk_at "y"
 refine ag' hTn ?_
 walk_at "y"
 refine⟨l,tt l,rfl,by omega,fun H3 s3=>?_⟩
 have hbl:(hL' (hd l.length) (tt l)).length=hd l.length:=ec'
 walk_at "y"
 refine⟨ay' (by rw[hbl,mf'];omega),?_⟩
 exact q _ (s1.trans (s2.trans s3))
def wm':Sp:=fun vs H Q E=>∃(l:List Bool) (n:Nat),vs=[.str (tx (wr l)),.int n]/\n=l.length/\Ev l/\∀H',aB' H H'->Q (.str (tx l)) H'
theorem sg' {C:Rc} (hN:C.N.length=4) (hH:C.fs "head_for"=some pP') (hTn:C.fs "turned"=some cp') (hM:C.fs "balanced_number"=some K56.c6') (hW:C.fs "balance_written"=some kb'):∀vs H Q E,wm' vs H Q E->tSs C bj' { nx:=fun _ H'=>Q .non H',rt:=Q } (L2.az' C.N vs) H:=by
 intro vs H Q E h
 obtain⟨l,n,rfl,rfl,ev,q⟩:=h
 obtain⟨hl,hl2,he⟩:=id ev
 rw[ak' hN]
 unfold bj'
 have h8:=ev.hl
 have hwl:=mM' (l:=l)
 have hz:(wr l).length<=sizeLine:=ay' (by omega)
 have e1:=sd' (l:=l)
 have e2:=se' (l:=l)
 have e3:=pQ' ev.bc
 have e4:bnR (hL' (hd l.length) (tt l))=tt l:=K56.oz' ev.bc
 walk_at "y"
 refine ag' hH ?_
 walk_at "y"
 refine⟨l.length,rfl,by omega,?_⟩
 walk_at "y"
 refine⟨hz,?_⟩
 rw[decide_eq_true (show((wr l).length:Int)=(hd l.length:Int)+(l.length:Int) by omega)]
 walk_at "y"
 refine ag' hTn ?_
 walk_at "y"
 refine gr' hz ?_
 walk_at "y"
 refine ag' hM ?_
 walk_at "y"
 refine me' hz ?_
 rw[e1,e2]
 walk_at "y"
 refine⟨hL' (hd l.length) (tt l),rfl,by rw[show(hL' (hd l.length) (tt l)).length=hd l.length from ec'];omega,e3,fun H1 s1=>?_⟩
 rw[e4]
 walk_at "y"
 refine⟨tn l (tt l),tt l,rfl,by rw[mf'];omega,fun H2 s2=>?_⟩
 rw[zl']
 walk_at "y"
 refine ag' hW ?_
 walk_at "y"
 refine⟨l,rfl,ev,fun H3 s3=>?_⟩
 walk_at "y"
 exact q _ (s1.trans (s2.trans s3))
def ab (i:Int):Int:=if i<0 then -i else i
def fwB (t b:List Bool):List Bool:=if ab (sm t+sm (false :: b))<=ab (sm t-sm (false :: b))then false :: b else(false :: b).map (!·)
def fwL (m:Nat) (l:List Bool):Nat->List (List Bool)
 |0=>[]
 |i+1=>fwL m l i++[fwB (fwL m l i).flatten ((l.drop (i*m)).take m)]
def fw (m:Nat) (l:List Bool) (n:Nat):List Bool:=(fwL m l n).flatten
theorem mN' {m:Nat} {l:List Bool}:∀{n},(fwL m l n).length=n
 |0=>rfl
 |n+1=>by
  show(fwL m l n++[_]).length=_
  rw[ap,mN']
  rfl
theorem mO' {t b:List Bool}:(fwB t b).length=b.length+1:=by unfold fwB;split<;>simp
theorem fr' {m n:Nat} {l:List Bool}:fw m l (n+1)=fw m l n++fwB (fw m l n) ((l.drop (n*m)).take m):=by
 show(fwL m l n++[_]).flatten=_
 rw[List.flatten_append]
 simp[fw]
theorem eh' {m n i:Nat} {l:List Bool} (hl:l.length=n*m) (hi:i<n):((l.drop (i*m)).take m).length=m:=by
 have:=hY' (m:=m) hi
 rw[aC,bQ]
 omega
theorem hZ' {m n:Nat} {l:List Bool} (hl:l.length=n*m):∀{i},i<=n->(fw m l i).length=i*(m+1)
 |0,_=>by rw[ce];rfl
 |i+1,hi=>by
  rw[fr',ap,mO',hZ' hl (by omega),eh' hl (by omega),bO,cg]
theorem mP' {m n:Nat} {l:List Bool}:∀{k i:Nat},i+k=n->∃r,fw m l n=fw m l i++r
 |0,i,h=>⟨[],by rw[<- h];simp⟩
 |k+1,i,h=>by
  obtain⟨r,hr⟩:=mP' (m:=m) (n:=n) (l:=l) (k:=k) (i:=i+1) (by omega)
  rw[fr']at hr
  exact⟨_,by rw[hr,aS]⟩
theorem sh' {m n i:Nat} {l:List Bool} (hl:l.length=n*m) (hi:i<=n):(fw m l n).take (i*(m+1))=fw m l i:=by
 obtain⟨r,hr⟩:=mP' (m:=m) (n:=n) (l:=l) (k:=n-i) (i:=i) (by omega)
 rw[hr,<- hZ' hl hi,List.take_left]
theorem wn' {m n i:Nat} {l:List Bool} (hl:l.length=n*m) (hi:i<n):((fw m l n).drop (i*(m+1))).take (m+1)=fwB (fw m l i) ((l.drop (i*m)).take m):=by
 obtain⟨r,hr⟩:=mP' (m:=m) (n:=n) (l:=l) (k:=n-(i+1)) (i:=i+1) (by omega)
 rw[hr,fr',aS,<- hZ' hl (cj hi),List.drop_left]
 have:(fwB (fw m l i) ((l.drop (i*m)).take m)).length=m+1:=by rw[mO',eh' hl hi]
 rw[<- this,List.take_left]
def rdB:List Bool->List Bool
 | []=>[]
 |false :: b=>b
 |true :: b=>b.map (!·)
theorem si' (b:List Bool):(b.map (!·)).map (!·)=b:=by
 rw[ck]
 conv=>rhs;rw[<- List.map_id b]
 apply bX
 intro c _
 cases c<;>rfl
theorem sj' {t b:List Bool}:rdB (fwB t b)=b:=by
 unfold fwB
 split
 .rfl
 .show(b.map (!·)).map (!·)=b
  exact si' b
def fr (m:Nat) (l:List Bool) (n:Nat):List Bool:=((bks (m+1) l n).map rdB).flatten
theorem mQ' {m n:Nat} {l:List Bool}:fr m l (n+1)=fr m l n++rdB ((l.drop (n*(m+1))).take (m+1)):=by
 unfold fr
 rw[dW',az,List.flatten_append]
 simp
theorem wo' {m n:Nat} {l:List Bool} (hl:l.length=n*m):∀{i},i<=n->fr m (fw m l n) i=l.take (i*m)
 |0,_=>by rw[ce];rfl
 |i+1,hi=>by
  rw[mQ',wo' hl (by omega),wn' hl (by omega),sj',bO,cg,List.take_add]
theorem pR' (l:List Bool):l.count true+l.count false=l.length:=by
 induction l with
 |nil=>rfl
 |cons b l ih=>cases b<;>simp<;>omega
theorem sk' (l:List Bool):-(l.length:Int)<=sm l/\sm l<=l.length:=by
 have h1:=pR' l
 unfold sm
 omega
theorem wp' {m n:Nat} {l:List Bool} (hl:l.length=n*m):∀{i},i<=n->-(m:Int)-1<=sm (fw m l i)/\sm (fw m l i)<=m+1
 |0,_=>by
  show -(m:Int)-1<=0/\(0:Int)<=m+1
  omega
 |i+1,hi=>by
  obtain⟨h1,h2⟩:=wp' hl (i:=i) (by omega)
  have hb:=sk' (false :: (l.drop (i*m)).take m)
  rw[aE,eh' hl (by omega)]at hb
  rw[fr',cW']
  unfold fwB
  generalize false :: (l.drop (i*m)).take m=p at hb ⊢
  generalize fw m l i=t at h1 h2 ⊢
  by_cases hq:ab (sm t+sm p)<=ab (sm t-sm p)
  .rw[if_pos hq]
   unfold ab at hq
   split at hq<;>split at hq<;>omega
  .rw[if_neg hq,hH']
   unfold ab at hq
   split at hq<;>split at hq<;>omega
def cv':Sp:=fun vs H Q _=>∃(l:List Bool) (m n:Nat),vs=[.str (tx l),.int m]/\0<m/\m<=1000/\l.length=n*m/\l.length<=1000/\∀p H',H p=none->aB' H H'->H' p=some (.lst ((bks m l n).map tV))->Q (.ref p) H'
theorem iN' {C:Rc} (hN:C.N.length=2) (hB:C.fs "blocks_of"=some bW'):∀vs H Q E,cv' vs H Q E->tSs C bh' { nx:=fun _ H'=>Q .non H',rt:=Q } (L2.az' C.N vs) H:=by
 intro vs H Q E h
 obtain⟨l,m,n,rfl,hm,hm2,hl,hl2,q⟩:=h
 rw[ak' hN]
 unfold bh'
 have hz:l.length<=sizeLine:=ay' (by omega)
 have e0:((l.length:Int) % (m:Int))=0:=by
  have:l.length % m=0:=by rw[hl];exact Nat.mul_mod_left _ _
  omega
 walk_at "y"
 refine⟨hz,by omega,?_⟩
 rw[e0]
 rw[decide_eq_true rfl]
 walk_at "y"
 refine ag' hB ?_
 walk_at "y"
 exact⟨l,m,n,rfl,hm,hm2,hl,hl2,fun p H' hp s hH=>q p H' hp s hH⟩
def wq':Sp:=fun vs H Q _=>∃(l:List Bool) (m n:Nat),vs=[.str (tx l),.int m]/\0<m/\m<=20/\l.length<=300/\l.length=n*m/\∀H',aB' H H'->Q (.str (tx (fw m l n))) H'
theorem sm' {C:Rc} (hN:C.N.length=7) (hX:C.fs "exchanged"=some bb') (hS':C.fs "sum_of"=some bv') (hB:C.fs "whole_blocks"=some cv'):∀vs H Q E,wq' vs H Q E->tSs C ba' { nx:=fun _ H'=>Q .non H',rt:=Q } (L2.az' C.N vs) H:=by
 intro vs H Q E h
 obtain⟨l,m,n,rfl,hm,hm2,hl2,hl,q⟩:=h
 rw[ak' hN]
 unfold ba'
 walk_at "y"
 refine⟨by decide,fun a ha=>?_⟩
 have hA0:upd H a (.lst []) a=some (.lst (([]:List (List Bool)).map tV)):=ad'
 have hS0:∀o,aB' H (upd (upd H a (.lst [])) a o):=fun o=>by rw[bt'];exact ae' ha o
 have s0:=ae' ha (.lst [])
 generalize upd H a (.lst [])=H0 at hA0 hS0 s0 ⊢
 refine ag' hB ?_
 walk_at "y"
 refine⟨l,m,n,rfl,hm,by omega,hl,by omega,fun p H1 hp s1 hp1=>?_⟩
 .have hpa:p≠a:=fun z=>by subst z;rw[hA0]at hp;cases hp
  have hA1:=s1 _ _ hA0
  have hS1:∀o,aB' H (upd H1 a o):=by
   intro o b u hb
   have hab:b≠a:=fun z=>by subst z;rw[ha]at hb;cases hb
   rw[af' hab]
   exact s1 _ _ (s0 _ _ hb)
  have hnm:n<=n*m:=Nat.le_mul_of_pos_right n hm
  refine aL' (SqL.of hp1) (yY' (xs:=(bks m l n).map tV) (fun i σ H'=>(∃x4 x5 x6,σ=[some (.str (tx l)),some (.int m),some (.ref a),some (.int (sm (fw m l i))),x4,x5,x6])/\H' a=some (.lst ((fwL m l i).map tV))/\H' p=some (.lst ((bks m l n).map tV))/\∀o,aB' H (upd H' a o)) ⟨⟨none,none,none,rfl⟩,hA1,hp1,hS1⟩ (fun i σ H' _ pv=>SqL.of pv.2.2.1) ?_ ?_)
  .rintro i x σ H2 hx ⟨⟨x4,x5,x6,rfl⟩,hA,hP,hS⟩
   have hi:i<n:=by have:=ao' hx;rwa [ac,cd']at this
   rw[aq,gw' hi]at hx
   cases hx
   have hbl:=eh' hl hi
   have hfs:=fr' (m:=m) (n:=i) (l:=l)
   have hfL:fwL m l (i+1)=fwL m l i++[fwB (fw m l i) ((l.drop (i*m)).take m)]:=rfl
   have hlL:=mN' (m:=m) (l:=l) (n:=i)
   generalize (l.drop (i*m)).take m=b at hbl hfs hfL ⊢
   simp only[tV]
   walk_at "y"
   refine⟨ay' (by omega),?_⟩
   refine ag' hS' ?_
   walk_at "y"
   refine⟨false :: b,rfl,?_⟩
   walk_at "y"
   refine bd' (fun hq=>?_) fun hq=>?_
   .walk_at "y"
    refine⟨tyL hA rfl,fj' hA (by rw[ac,hlL];exact al' (by omega)) ?_⟩
    walk_at "y"
    rw[ff' (a:=sm (fw m l i)) rfl]
    walk_at "y"
    simp only[aF,if_false]
    have eB:fwB (fw m l i) b=false :: b:=by unfold fwB;exact if_pos hq
    rw[eB]at hfs hfL
    refine⟨⟨_,_,_,by rw[hfs,cW']⟩,?_,?_,fun o=>by rw[bt'];exact hS o⟩
    .rw[ad',hfL,az];rfl
    .rw[af' hpa];exact hP
   .walk_at "y"
    refine⟨tyL hA rfl,?_⟩
    refine ag' hX ?_
    walk_at "y"
    refine⟨false :: b,rfl,by simp;omega,fun H3 s3=>?_⟩
    have hA3:=s3 _ _ hA
    have hP3:=s3 _ _ hP
    walk_at "y"
    refine fj' hA3 (by rw[ac,hlL];exact al' (by omega)) ?_
    walk_at "y"
    rw[ff' (a:=sm (fw m l i)) rfl]
    walk_at "y"
    simp only[if_true]
    have eB:fwB (fw m l i) b=(false :: b).map (!·):=by unfold fwB;exact if_neg hq
    rw[eB]at hfs hfL
    refine⟨⟨_,_,_,by rw[hfs,cW',hH'];rfl⟩,?_,?_,fun o=>?_⟩
    .rw[ad',hfL,az];rfl
    .rw[af' hpa];exact hP3
    .rw[bt']
     intro b u hb
     have hab:b≠a:=fun z=>by subst z;rw[ha]at hb;cases hb
     have:=hS o b u hb
     rw[af' hab]at this ⊢
     exact s3 _ _ this
  .rintro σ H2 ⟨⟨x4,x5,x6,rfl⟩,hA,hP,hS⟩
   rw[ac,cd']at hA
   walk_at "y"
   refine⟨rfl,?_⟩
   have hfl:=hZ' hl (ae n)
   have h2:n*(m+1)<=1000:=by rw[cQ];omega
   refine eb' (ls:=fwL m l n) (SqL.of hA) (by show(fw m l n).length<=_;omega) ?_
   refine q _ fun b u hb=>?_
   have:=hS (.lst []) b u hb
   have hab:b≠a:=fun z=>by subst z;rw[ha]at hb;cases hb
   rw[af' hab]at this
   exact this
def wr':Sp:=fun vs H Q _=>∃(l:List Bool) (m n:Nat),vs=[.str (tx l),.int m]/\0<m/\m<=20/\l.length<=400/\l.length=n*(m+1)/\∀H',aB' H H'->Q (.str (tx (fr m l n))) H'
theorem wt' {m n:Nat} {l:List Bool}:(fr m l n).length<=n*(m+1):=by
 induction n with
 |zero=>rw[ce];exact ae _
 |succ n ih=>
  rw[mQ',ap,bO,cg]
  have:(rdB ((l.drop (n*(m+1))).take (m+1))).length<=m+1:=by
   have h2:((l.drop (n*(m+1))).take (m+1)).length<=m+1:=List.length_take_le ..
   generalize (l.drop (n*(m+1))).take (m+1)=b at h2 ⊢
   match b,h2 with
   | [],_=>exact aM _
   |false :: b,h2=>simp only[rdB];simp at h2;omega
   |true :: b,h2=>simp only[rdB,ac];simp at h2;omega
  omega
theorem sn' {C:Rc} (hN:C.N.length=4) (hX:C.fs "exchanged"=some bb') (hB:C.fs "whole_blocks"=some cv'):∀vs H Q E,wr' vs H Q E->tSs C bL' { nx:=fun _ H'=>Q .non H',rt:=Q } (L2.az' C.N vs) H:=by
 intro vs H Q E h
 obtain⟨l,m,n,rfl,hm,hm2,hl2,hl,q⟩:=h
 rw[ak' hN]
 unfold bL'
 walk_at "y"
 refine ag' hB ?_
 walk_at "y"
 refine⟨l,m+1,n,rfl,by omega,by omega,hl,by omega,fun p H1 hp s1 hp1=>?_⟩
 .have hnm:n<=n*(m+1):=Nat.le_mul_of_pos_right n (by omega)
  walk_at "y"
  refine⟨rfl,?_⟩
  refine aL' (SqL.of hp1) (dR' (fun i xs H'=>xs=((bks (m+1) l i).map rdB).map (fun l=>V.str (tx l))/\aB' H1 H') ⟨rfl,aB'.refl _⟩ (fun i xs H' pv=>SqL.of (pv.2 _ _ hp1)) ?_ ?_)
  .rintro i xs H2 x R hx ⟨rfl,s2⟩ hR
   have hi:i<n:=by have:=ao' hx;rwa [ac,cd']at this
   rw[aq,gw' hi]at hx
   cases hx
   have hbl:=eh' hl hi
   have hfs:=dW' (m:=m+1) (n:=i) (l:=l)
   have hll:=cd' (m:=m+1) (l:=l) (n:=i)
   generalize (l.drop (i*(m+1))).take (m+1)=b at hbl hfs ⊢
   simp only[tV]
   have hbz:b.length<=sizeLine:=ay' (by omega)
   match b,hbl with
   |c :: b,hbl=>
   rw[aE]at hbl
   walk_at "y"
   refine ea' hbz (c:=c) (eO' (j:=0) rfl) ?_
   cases c with
   |false=>
    walk_at "y"
    refine gr' (n:=1) hbz ?_
    walk_at "y"
    refine⟨by rw[ac,ac,hll];exact al' (by omega),hR _ _ ⟨?_,s2⟩⟩
    rw[hfs,az,az]
    rfl
   |true=>
    walk_at "y"
    refine ag' hX ?_
    walk_at "y"
    refine gr' (n:=1) hbz ?_
    walk_at "y"
    refine⟨b,rfl,by omega,fun H3 s3=>?_⟩
    walk_at "y"
    refine⟨by rw[ac,ac,hll];exact al' (by omega),hR _ _ ⟨?_,s2.trans s3⟩⟩
    rw[hfs,az,az]
    rfl
  .rintro xs H2 ⟨rfl,s2⟩ p2 hp2
   rw[ac,cd']
   have hfl:=wt' (m:=m) (n:=n) (l:=l)
   walk_at "y"
   refine eb' (SqL.of ad') (by show(fr m l n).length<=_;omega) ?_
   exact q _ (s1.trans (s2.trans (ae' hp2 _)))
theorem wu' {m:Nat}:∀row:List Bool,(∀p,p <+: row->(K61.rl p).2<=m)->(row=[]/\K04.sts 1 m 1 m row=some none)\/∃c f,(K61.rl row).1=some c/\1<=(K61.rl row).2/\K04.sts 1 m 1 m row=some (some (c,(K61.rl row).2,f)):=by
 apply K61.cq'
 .intro _;exact .inl ⟨rfl,rfl⟩
 .intro l b ih h
  have h0:=h (l++[b]) (List.prefix_refl _)
  have ih:=ih fun p hp=>h p (hp.trans (List.prefix_append _ _))
  refine .inr ?_
  rw[K04.jl']
  rw[K61.cc']at h0 ⊢
  rcases ih with⟨rfl,e⟩|⟨c,f,e1,e2,e⟩
  .rw[e]
   exact⟨b,true,rfl,ae _,rfl⟩
  .rw[e]
   rw[e1]at h0 ⊢
   have hg:∀c,K04.hg m m c=m:=fun c=>by cases c<;>rfl
   have hg1:∀c,K04.hg 1 1 c=1:=fun c=>by cases c<;>rfl
   by_cases hb:b=c
   .subst hb
    rw[if_pos rfl]at h0 ⊢
    refine⟨b,f,rfl,by omega,?_⟩
    show(if b=b then(if(K61.rl l).2<K04.hg m m b then some (some (b,(K61.rl l).2+1,f))else none)else _)=_
    rw[if_pos rfl,hg,if_pos (by dsimp only at h0;omega)]
   .rw[if_neg (fun z=>hb (Option.some.inj z).symm)]
    refine⟨b,false,rfl,ae _,?_⟩
    show(if b=c then _ else if f=false/\(K61.rl l).2<K04.hg 1 1 c then none else some (some (b,1,false)))=_
    rw[if_neg hb,hg1,if_neg (fun z=>by omega)]
theorem so' {m:Nat} (hm:2<=m) (l:List Bool):(K04.sts 1 m 1 m (K61.sf m l).1).isSome=true:=by
 rcases wu' (m:=m) (K61.sf m l).1 (K61.rS' hm l)with⟨_,e⟩|⟨c,f,_,_,e⟩<;>rw[e]<;>rfl
theorem wv' {m:Nat}:∀l:List Bool,K61.sf m (l.map (!·))=((K61.sf m l).1.map (!·),(K61.sf m l).2):=by
 apply K61.cq'
 .rfl
 .intro l b ih
  rw[az,aH,cM,K61.c7',K61.c7',ih]
  have en:K61.nr ((K61.sf m l).1.map (!·),(K61.sf m l).2) (!b)=K61.nr (K61.sf m l) b:=by
   unfold K61.nr
   dsimp only
   rw[List.getLast?_map]
   cases(K61.sf m l).1.getLast? with
   |none=>rfl
   |some c=>cases c<;>cases b<;>rfl
  unfold K61.stp
  rw[en]
  split
  .rw[az,az];rfl
  .rw[az];rfl
set_option tactic.hygienic true in
theorem ww' {m:Nat} (hm:2<=m):∀l:List Bool,∃s,(K61.sf m l).1.length=l.length+s/\s*(m-1)+(K61.sf m l).2<=l.length+1/\(l≠[]->1<=(K61.sf m l).2)/\(l=[]->s=0):=by
 apply K61.cq'
 .exact⟨0,rfl,by show 0*(m-1)+0<=0+1;omega,fun h=>absurd rfl h,fun _=>rfl⟩
 .intro l b ⟨s,h1,h2,h3,h4⟩
  rw[K61.c7']
  have hn:=K61.vX' (s:=K61.sf m l) (b:=b)
  have hn1:1<=K61.nr (K61.sf m l) b:=by unfold K61.nr;split<;>omega
  have hne:l++[b]≠[]:=by simp
  unfold K61.stp
  split
  .rename_i he
   refine⟨s+1,?_,?_,fun _=>ae _,fun z=>absurd z hne⟩
   .simp only[ap,aE,bN];omega
   .simp only[ap,aE,bN]
    rw[bO,cg]
    omega
  .refine⟨s,?_,?_,fun _=>hn1,fun z=>absurd z hne⟩
   .simp only[ap,aE,bN];omega
   .simp only[ap,aE,bN]
    omega
theorem sq' {m:Nat} (hm:2<=m) (l:List Bool):(((K61.sf m l).1.length:Int)-(l.length:Int))*((m:Int)-1)<=l.length:=by
 obtain⟨s,h1,h2,h3,h4⟩:=ww' hm l
 have e1:((K61.sf m l).1.length:Int)-(l.length:Int)=(s:Nat):=by omega
 have e2:(m:Int)-1=((m-1:Nat):Int):=by omega
 have h:s*(m-1)<=l.length:=by
  by_cases hl:l=[]
  .rw[h4 hl,ce];exact aM _
  .have:=h3 hl;omega
 rw[e1,e2,<- cO]
 omega
theorem gz':∀n k:Nat,k<=n->K56.cho n k=K56.cho n (n-k)
 |0,k,h=>by rw[show k=0 by omega]
 |n+1,0,h=>by rw[Nat.sub_zero,K56.fD',K56.gt']
 |n+1,k+1,h=>by
  by_cases hk:k=n
  .subst hk
   rw[Nat.sub_self,K56.fD',K56.gt']
  .rw[show n+1-(k+1)=(n-k-1)+1 by omega]
   show K56.cho n k+K56.cho n (k+1)=K56.cho n (n-k-1)+K56.cho n (n-k-1+1)
   rw[gz' n k (by omega),gz' n (k+1) (by omega),show n-(k+1)=n-k-1 by omega,show n-k-1+1=n-k by omega]
   omega
theorem mR':∀l:List Bool,bnm l (K56.cho l.length (l.count true)) (l.count true)+bnm (l.map (!·)) (K56.cho l.length (l.length-l.count true)) (l.length-l.count true)+1=K56.cho l.length (l.count true)
 | []=>rfl
 |b :: l=>by
  have ih:=mR' l
  have hc:=cV (a:=true) (l:=l)
  have hln:(l.map (!·)).length=l.length:=ac ..
  generalize ho:l.count true=o at ih hc
  generalize hr:l.length=r at ih hc hln
  cases b with
  |false=>
   have e1:(false :: l).count true=o:=by rw[List.count_cons,ho];rfl
   rw[e1,aE,hr,aH]
   show bnm (false :: l) _ _+bnm (true :: l.map (!·)) _ _+1=_
   unfold bnm
   simp only[aF,if_false,if_true]
   rw[hr,hln,K56.eq' (by omega),K56.eq' (by omega)]
   rw[show r+1-o=(r-o)+1 by omega]
   have e2:K56.cho (r+1) (r-o+1)-K56.cho r (r-o+1)=K56.cho r (r-o):=by
    show K56.cho r (r-o)+K56.cho r (r-o+1)-K56.cho r (r-o+1)=_
    omega
   rw[e2,show r-o+1-1=r-o by omega]
   have e3:K56.cho (r+1) o=K56.cho r o+K56.cho r (r-o+1):=by
    rw[gz' (r+1) o (by omega),show r+1-o=r-o+1 by omega]
    show K56.cho r (r-o)+K56.cho r (r-o+1)=_
    rw[<- gz' r o hc]
   rw[e3]
   omega
  |true=>
   have e1:(true :: l).count true=o+1:=by rw[List.count_cons,ho];rfl
   rw[e1,aE,hr,aH]
   show bnm (true :: l) _ _+bnm (false :: l.map (!·)) _ _+1=_
   unfold bnm
   simp only[aF,if_false,if_true]
   rw[hr,hln,K56.eq' (by omega),K56.eq' (by omega)]
   rw[show r+1-(o+1)=r-o by omega]
   have e2:K56.cho (r+1) (o+1)-K56.cho r (o+1)=K56.cho r o:=by
    show K56.cho r o+K56.cho r (o+1)-K56.cho r (o+1)=_
    omega
   rw[e2,show o+1-1=o by omega]
   have e3:K56.cho (r+1) (o+1)=K56.cho r o+K56.cho r (o+1):=rfl
   rw[e3]
   omega
theorem sr' {l:List Bool} (h:l.length=2*l.count true):(bnR l:Int)+(bnR (l.map (!·)):Int)=(BA.bc l.length:Int)-1:=by
 have e:=mR' l
 have e2:l.length-l.count true=l.count true:=by omega
 have e3:l.length / 2=l.count true:=by omega
 rw[e2]at e
 unfold bnR
 rw[ac,K56.iG' (by omega),e3]
 omega
theorem ss' {l:List Bool} (h:sm l=0):l.length=2*l.count true:=by
 have h1:=pR' l
 unfold sm at h
 omega
theorem jp' {m:Nat} {l:List Bool}:∀n,(bks m l n).flatten=l.take (n*m)
 |0=>by rw[ce];rfl
 |n+1=>by rw[dW',List.flatten_append,jp' n,bO,cg,List.take_add];simp
def cat (f:Nat->List Bool):Nat->List Bool
 |0=>[]
 |n+1=>cat f n++f n
theorem gA' {f:Nat->List Bool} {L:Nat}:∀{n},(∀i,i<n->(f i).length=L)->(cat f n).length=n*L
 |0,_=>by rw[ce];rfl
 |n+1,h=>by
  show(cat f n++f n).length=_
  rw[ap,gA' fun i hi=>h i (by omega),h n (by omega),bO,cg]
theorem iO' {f:Nat->List Bool} {n:Nat}:∀{k i:Nat},i+k=n->∃r,cat f n=cat f i++r
 |0,i,h=>⟨[],by rw[<- h];simp⟩
 |k+1,i,h=>by
  obtain⟨r,hr⟩:=iO' (f:=f) (n:=n) (k:=k) (i:=i+1) (by omega)
  exact⟨f i++r,by rw[hr];show(cat f i++f i)++r=_;rw[aS]⟩
theorem oN' {f:Nat->List Bool} {L n i:Nat} (h:∀i,i<n->(f i).length=L) (hi:i<=n):(cat f n).take (i*L)=cat f i:=by
 obtain⟨r,hr⟩:=iO' (f:=f) (n:=n) (k:=n-i) (i:=i) (by omega)
 rw[hr,<- gA' (f:=f) (n:=i) fun j hj=>h j (by omega),List.take_left]
theorem su' {f:Nat->List Bool} {L n i:Nat} (h:∀i,i<n->(f i).length=L) (hi:i<n):((cat f n).drop (i*L)).take L=f i:=by
 obtain⟨r,hr⟩:=iO' (f:=f) (n:=n) (k:=n-(i+1)) (i:=i+1) (by omega)
 rw[hr]
 show(((cat f i++f i)++r).drop (i*L)).take L=f i
 rw[aS,<- gA' (f:=f) (n:=i) fun j hj=>h j (by omega),List.drop_left]
 have:=h i hi
 rw[<- this,List.take_left]
theorem gB' {f:Nat->List Bool}:∀n,((au n).map f).flatten=cat f n
 |0=>rfl
 |n+1=>by rw[bE,az,List.flatten_append,gB' n];simp[cat]
theorem jq' {f:Nat->List Bool}:∀{n},(∀i,i<n->sm (f i)=0)->sm (cat f n)=0
 |0,_=>rfl
 |n+1,h=>by
  show sm (cat f n++f n)=0
  rw[cW',jq' fun i hi=>h i (by omega),h n (by omega)]
  rfl
theorem sv' {b:List Bool} (h:sm b=0) (j:Nat):-(b.length:Int)<=2*sm (b.take j)/\2*sm (b.take j)<=b.length:=by
 have e:sm (b.take j)+sm (b.drop j)=0:=by rw[<- cW',aW];exact h
 have h1:=sk' (b.take j)
 have h2:=sk' (b.drop j)
 have h3:(b.take j).length+(b.drop j).length=b.length:=by rw[<- ap,aW]
 omega
theorem pS' {f:Nat->List Bool} {L:Nat}:∀{n},(∀i,i<n->(f i).length=L)->(∀i,i<n->sm (f i)=0)->∀j,-(L:Int)<=2*sm ((cat f n).take j)/\2*sm ((cat f n).take j)<=L
 |0,_,_,j=>by
  show -(L:Int)<=2*sm (([]:List Bool).take j)/\2*sm (([]:List Bool).take j)<=L
  rw[List.take_nil]
  show -(L:Int)<=2*0/\2*(0:Int)<=L
  omega
 |n+1,h,h2,j=>by
  show -(L:Int)<=2*sm ((cat f n++f n).take j)/\2*sm ((cat f n++f n).take j)<=L
  rw[List.take_append,cW']
  by_cases hj:j<=(cat f n).length
  .rw[show j-(cat f n).length=0 by omega,List.take_zero]
   have:=pS' (f:=f) (n:=n) (fun i hi=>h i (by omega)) (fun i hi=>h2 i (by omega)) j
   show -(L:Int)<=2*(_+0)/\2*(_+(0:Int))<=L
   rw[Int.add_zero]
   exact this
  .rw[bb (show(cat f n).length<=j by omega),jq' fun i hi=>h2 i (by omega),Int.zero_add]
   have:=sv' (h2 n (by omega)) (j-(cat f n).length)
   rw[h n (by omega)]at this
   exact this
theorem mS' {α:Type} {P:α->Prop} {xs:List α} {n:Nat} (h:∀k x,xs[k*n]?=some x->P x):∀x∈dk' xs n,P x:=by
 intro x hx
 obtain⟨k,_,hk⟩:=List.mem_filterMap.mp hx
 exact h k x hk
theorem jr' {α β:Type} {f:α->β} {xs:List α} {n:Nat}:dk' (xs.map f) n=(dk' xs n).map f:=by
 unfold dk'
 rw[ac,List.map_filterMap]
 apply qK'
 intro k _
 rw[aq]
theorem sw' {α:Type} {xs:List α} {n:Nat} (h:xs≠[]) (hn:0<n):dk' xs n≠[]:=by
 have hl:0<xs.length:=List.length_pos_iff.mpr h
 have h0:xs[0]?=some xs[0]:=af hl
 have:xs[0]∈dk' xs n:=by
  unfold dk'
  refine List.mem_filterMap.mpr ⟨0,aw.mpr ?_,by rw[ce];exact h0⟩
  exact Nat.div_pos (by omega) hn
 exact List.ne_nil_of_mem this
theorem iP' {l:List Bool} {i:Nat} {x:Int} (h:(smL l)[i]?=some x):i<=l.length/\x=sm (l.take i):=by
 unfold smL at h
 rw[aq]at h
 cases hi:(au (l.length+1))[i]? with
 |none=>rw[hi]at h;cases h
 |some j=>
  rw[hi]at h
  have hj:=ao' hi
  rw[aQ]at hj
  rw[bW hj]at hi
  cases hi
  cases h
  exact⟨by omega,rfl⟩
def Top (l:List Bool) (M:Int):Prop:=M∈smL l/\∀b∈smL l,b<=M
def Low (l:List Bool) (M:Int):Prop:=M∈smL l/\∀b∈smL l,M<=b
def dZ':Sp:=fun vs H Q _=>∃l:List Bool,vs=[.str (tx l)]/\l.length<=1000/\∀H' M m,aB' H H'->Top l M->Low l m->Q (.int (M-m)) H'
theorem iQ' {C:Rc} (hN:C.N.length=2) (hS:C.fs "sums"=some co'):∀vs H Q E,dZ' vs H Q E->tSs C bZ' { nx:=fun _ H'=>Q .non H',rt:=Q } (L2.az' C.N vs) H:=by
 intro vs H Q E h
 obtain⟨l,rfl,hl,q⟩:=h
 rw[ak' hN]
 unfold bZ'
 walk_at "y"
 refine ag' hS ?_
 walk_at "y"
 refine⟨l,rfl,hl,fun a ha=>?_⟩
 walk_at "y"
 refine pB' (SqL.of ad') mb' fun M h1 h2=>?_
 walk_at "y"
 refine vr' (SqL.of ad') mb' fun m h3 h4=>?_
 walk_at "y"
 exact q _ M m (ae' ha _) ⟨h1,h2⟩ ⟨h3,h4⟩
theorem pT' {l:List Bool} {x:Int} (h:x∈smL l):∃i,i<=l.length/\x=sm (l.take i):=by
 obtain⟨i,hi⟩:=List.getElem?_of_mem h
 exact⟨i,iP' hi⟩
def fX':Sp:=fun vs H Q _=>∃(l:List Bool) (m:Nat),vs=[.str (tx l),.int m]/\l.length<=60/\2<=m/\m<=12/\m % 2=0/\∀H',aB' H H'->Q (.bl true) H'
structure FsBal (C:Rc):Prop where
 bl:C.fs "_law_blocks"=some bW'
 bw:C.fs "balance_written"=some kb'
 so:C.fs "sum_of"=some bv'
 sp:C.fs "spread_of"=some dZ'
 su:C.fs "sums"=some co'
 br:C.fs "balance_read"=some wm'
theorem js' {a m:Nat}:(a:Int) / (m:Int)*(m:Int)=((a / m*m:Nat):Int):=by
 rw[cO,Int.natCast_ediv]
theorem jt' {l:List Bool} {m:Nat}:(l.take (l.length / m*m)).length=l.length / m*m:=by
 rw[aC]
 have:=Nat.div_mul_le_self l.length m
 omega
theorem mT' {C:Rc} (hN:C.N.length=6) (F:FsBal C):∀vs H Q E,fX' vs H Q E->tSs C bC' { nx:=fun _ H'=>Q .non H',rt:=Q } (L2.az' C.N vs) H:=by
 intro vs H Q E h
 obtain⟨l,m,rfl,hl,hm2,hm12,hme,q⟩:=h
 rw[ak' hN]
 unfold bC'
 walk_at "y"
 refine⟨ay' (by omega),⟨by omega,.inl (by omega)⟩,.inr (.inl ⟨by omega,by omega⟩),?_⟩
 rw[js']
 refine me' (ay' (by omega)) ?_
 have hrl:=jt' (l:=l) (m:=m)
 have hr60:(l.take (l.length / m*m)).length<=60:=by rw[aC];omega
 generalize l.take (l.length / m*m)=r at hrl hr60 ⊢
 generalize l.length / m=n at hrl ⊢
 have hn60:n<=30:=by
  have:n*2<=n*m:=Nat.mul_le_mul_left n hm2
  omega
 walk_at "y"
 refine⟨rfl,?_⟩
 refine ag' F.bl ?_
 walk_at "y"
 refine⟨r,m,n,rfl,by omega,by omega,hrl,by omega,fun p H1 hp s1 hp1=>?_⟩
 have hbl:∀i,i<n->((r.drop (i*m)).take m).length=m:=fun i hi=>eh' hrl hi
 have hev:∀i,i<n->Ev ((r.drop (i*m)).take m):=fun i hi=>by
  have:=hbl i hi
  exact⟨by omega,by omega,by omega⟩
 have hfl:∀i,i<n->(wr ((r.drop (i*m)).take m)).length=hd m+m:=fun i hi=>by rw[mM',hbl i hi]
 have hfs:∀i,i<n->sm (wr ((r.drop (i*m)).take m))=0:=fun i hi=>wl' (hev i hi)
 have h8:hd m<=8:=wh' (by omega)
 refine aL' (SqL.of hp1) (dR' (fun i xs H'=>i<=n/\xs=((au i).map fun i=>wr ((r.drop (i*m)).take m)).map (fun l=>V.str (tx l))/\aB' H1 H') ⟨aM _,rfl,aB'.refl _⟩ (fun i xs H' pv=>SqL.of (pv.2.2 _ _ hp1)) ?_ ?_)
 .rintro i xs H2 x R hx ⟨_,rfl,s2⟩ hR
  have hi:i<n:=by have:=ao' hx;rwa [ac,cd']at this
  rw[aq,gw' hi]at hx
  cases hx
  simp only[tV]
  walk_at "y"
  refine ag' F.bw ?_
  walk_at "y"
  refine⟨_,rfl,hev i hi,fun H3 s3=>?_⟩
  walk_at "y"
  refine⟨by rw[ac,ac,aQ];exact al' (by omega),hR _ _ ⟨hi,?_,s2.trans s3⟩⟩
  rw[bE,az,az]
  rfl
 .rintro xs H2 ⟨_,rfl,s2⟩ p2 hp2
  rw[ac,cd']
  have htl:(cat (fun i=>wr ((r.drop (i*m)).take m)) n).length=n*(hd m+m):=gA' hfl
  have hts:=jq' (f:=fun i=>wr ((r.drop (i*m)).take m)) hfs
  have htb:=pS' (f:=fun i=>wr ((r.drop (i*m)).take m)) hfl hfs
  have htk:∀i,i<=n->_:=fun i hi=>oN' (f:=fun i=>wr ((r.drop (i*m)).take m)) hfl (i:=i) hi
  have htx:∀i,i<n->_:=fun i hi=>su' (f:=fun i=>wr ((r.drop (i*m)).take m)) hfl (i:=i) hi
  have hnL:n*(hd m+m)<=600:=ay (Nat.mul_le_mul hn60 (show hd m+m<=20 by omega)) (by omega)
  walk_at "y"
  refine eb' (SqL.of ad') (by rw[gB',htl];omega) ?_
  rw[gB']
  have s3:aB' H (upd H2 p2 (.lst (((au n).map fun i=>wr ((r.drop (i*m)).take m)).map fun l=>V.str (tx l)))):=s1.trans (s2.trans (ae' hp2 _))
  generalize upd H2 p2 (.lst (((au n).map fun i=>wr ((r.drop (i*m)).take m)).map fun l=>V.str (tx l)))=H3 at s3 ⊢
  generalize hT:cat (fun i=>wr ((r.drop (i*m)).take m)) n=T at htl hts htb htk htx ⊢
  refine rp' fun N hNx=>?_
  walk_at "y"
  rw[decide_eq_decide.mpr (show(tx r=tx []↔n=0) from⟨fun z=>by
   have:=congrArg List.length (hB' z)
   rw[hrl]at this
   rcases Nat.eq_zero_or_pos n with z|z
   .exact z
   .have:1*m<=n*m:=Nat.mul_le_mul_right m z
    simp only[bN]at *
    omega,fun z=>by
   subst z
   rw[ce]at hrl
   rw[bx.mp hrl]⟩)]
  refine bd' (fun hq=>?_) fun hq=>?_
  .subst hq
   have hT0:T=[]:=by rw[<- hT];rfl
   subst hT0
   walk_at "y"
   exact q _ s3
  .refine hNx _ _ ?_
   have hL0:0<hd m+m:=by omega
   have hrp:0<n*m:=Nat.mul_pos (by omega) (by omega)
   have eL:(T.length:Int)*(m:Int) / (r.length:Int)=((hd m+m:Nat):Int):=by
    rw[htl,hrl,<- cO,<- Int.natCast_ediv,show n*(hd m+m)*m=(hd m+m)*(n*m) by rw[cy n,bY],cK _ hrp]
   generalize hL:hd m+m=L at *
   have hL20:L<=20:=by omega
   walk_at "y"
   refine⟨ay' (by omega),.inr (.inl ⟨by omega,by omega⟩),ay' (by omega),⟨by omega,.inl (by omega)⟩,?_⟩
   rw[eL]
   walk_at "y"
   refine ag' F.so ?_
   walk_at "y"
   refine⟨T,rfl,?_⟩
   rw[hts]
   walk_at "y"
   refine ag' F.sp ?_
   walk_at "y"
   refine⟨T,rfl,by omega,fun H4 M mn s4 hM hmn=>?_⟩
   have hle:M-mn<=(L:Int):=by
    obtain⟨i,_,e1⟩:=pT' hM.1
    obtain⟨j,_,e2⟩:=pT' hmn.1
    have h1:=htb i
    have h2:=htb j
    rw[e1,e2]
    omega
   walk_at "y"
   rw[decide_eq_false (show ¬M-mn > (L:Int) by omega)]
   walk_at "y"
   refine ag' F.su ?_
   walk_at "y"
   refine⟨T,rfl,by omega,fun a ha=>?_⟩
   walk_at "y"
   refine⟨a,_,L,rfl,rfl,hL0,SqL.of ad',fun a2 ha2=>?_⟩
   have s5:aB' H (upd (upd H4 a (.lst ((smL T).map V.int))) a2 (.lst (dk' ((smL T).map V.int) L))):=s3.trans (s4.trans ((ae' ha _).trans (ae' ha2 _)))
   have h5:upd (upd H4 a (.lst ((smL T).map V.int))) a2 (.lst (dk' ((smL T).map V.int) L)) a2=some (.lst ((dk' (smL T) L).map V.int)):=by rw[ad',jr']
   generalize upd (upd H4 a (.lst ((smL T).map V.int))) a2 (.lst (dk' ((smL T).map V.int) L))=H5 at s5 h5 ⊢
   have hall:∀x∈dk' (smL T) L,x=0:=mS' fun k x hx=>by
    obtain⟨h1,h2⟩:=iP' hx
    have hk:k<=n:=by
     rw[htl]at h1
     exact Nat.le_of_mul_le_mul_right h1 hL0
    rw[h2,htk k hk]
    exact jq' fun i hi=>hfs i (by omega)
   have hsl:(dk' (smL T) L).length<=1000:=by
    have:=gh' (smL T) hL0
    have e:(smL T).length=T.length+1:=by unfold smL;simp
    omega
   walk_at "y"
   refine aL' (SqL.of h5) (dR' (fun i xs H'=>xs=(aP i false).map V.bl/\H'=H5) ⟨rfl,rfl⟩ (fun i xs H' pv=>SqL.of (by rw[pv.2];exact h5)) ?_ ?_)
   .rintro i xs H6 x R hx ⟨rfl,rfl⟩ hR
    have hi:i<(dk' (smL T) L).length:=by have:=ao' hx;rwa [ac]at this
    rw[aq]at hx
    obtain⟨y,hy,rfl⟩:=Option.map_eq_some_iff.mp hx
    cases hall y (bi hy)
    walk_at "y"
    refine⟨by rw[ac,List.length_replicate];exact al' (by omega),hR _ _ ⟨?_,rfl⟩⟩
    rw[List.replicate_succ',az]
    rfl
   .rintro xs H6 ⟨rfl,rfl⟩ p6 hp6
    walk_at "y"
    refine vs' (SqL.of ad') ?_
    rw[show(aP ((dk' (smL T) L).map V.int).length false).any id=false by rw[List.any_eq_false];intro x hx;rw[(List.mem_replicate.mp hx).2];decide]
    walk_at "y"
    have s6:=s5.trans (ae' hp6 (.lst ((aP ((dk' (smL T) L).map V.int).length false).map V.bl)))
    generalize upd H6 p6 (.lst ((aP ((dk' (smL T) L).map V.int).length false).map V.bl))=H7 at s6 ⊢
    refine⟨rfl,?_⟩
    refine ag' F.bl ?_
    walk_at "y"
    refine⟨T,L,n,rfl,hL0,by omega,htl,by omega,fun p7 H8 hp7 s8 hp8=>?_⟩
    refine aL' (SqL.of hp8) (dR' (fun i xs H'=>i<=n/\xs=(bks m r i).map (fun l=>V.str (tx l))/\aB' H8 H') ⟨aM _,rfl,aB'.refl _⟩ (fun i xs H' pv=>SqL.of (pv.2.2 _ _ hp8)) ?_ ?_)
    .rintro i xs H9 x R hx ⟨_,rfl,s9⟩ hR
     have hi:i<n:=by have:=ao' hx;rwa [ac,cd']at this
     rw[aq,gw' hi,htx i hi]at hx
     cases hx
     simp only[tV]
     walk_at "y"
     refine ag' F.br ?_
     walk_at "y"
     refine⟨_,m,rfl,(hbl i hi).symm,hev i hi,fun H10 s10=>?_⟩
     walk_at "y"
     refine⟨by rw[ac,cd'];exact al' (by omega),hR _ _ ⟨hi,?_,s9.trans s10⟩⟩
     rw[dW',az]
     rfl
    .rintro xs H9 ⟨_,rfl,s9⟩ p9 hp9
     rw[ac,cd']
     walk_at "y"
     have ef:(bks m r n).flatten=r:=by rw[jp',<- hrl,aN]
     refine eb' (SqL.of ad') (by rw[ef];omega) ?_
     rw[ef]
     walk_at "y"
     exact q _ (s6.trans (s8.trans (s9.trans (ae' hp9 _))))
def j4':Sp:=fun vs H Q _=>∃(l:List Bool) (m:Nat),vs=[.str (tx l),.int m]/\l.length<=60/\2<=m/\m<=8/\∀H',aB' H H'->Q (.bl true) H'
structure FsSt (C:Rc):Prop where
 st:C.fs "stuffed"=some K61.aZ'
 kp:C.fs "keeps"=some K04.ee'
 us:C.fs "unstuffed"=some K61.eu'
 ex:C.fs "exchanged"=some bb'
theorem oO' {C:Rc} (hN:C.N.length=3) (F:FsSt C):∀vs H Q E,j4' vs H Q E->tSs C bE' { nx:=fun _ H'=>Q .non H',rt:=Q } (L2.az' C.N vs) H:=by
 intro vs H Q E h
 obtain⟨l,m,rfl,hl,hm2,hm8,q⟩:=h
 rw[ak' hN]
 unfold bE'
 have hlen:=K61.jg' (m:=m) l
 walk_at "y"
 refine ag' F.st ?_
 walk_at "y"
 refine⟨l,m,rfl,by omega,fun H1 s1=>?_⟩
 walk_at "y"
 refine ag' F.kp ?_
 walk_at "y"
 refine⟨by decide,fun p hp=>?_⟩
 walk_at "y"
 refine⟨p,1,m,1,m,(K61.sf m l).1,rfl,⟨ad',by omega,by omega,fun _ z=>nomatch z⟩,by omega,by omega,by omega,by omega,by omega,fun H2 s2=>?_⟩
 rw[so' hm2 l]
 walk_at "y"
 refine ag' F.us ?_
 walk_at "y"
 refine⟨l,m,rfl,by omega,hm2,fun H3 s3=>?_⟩
 walk_at "y"
 refine ag' F.st ?_
 walk_at "y"
 refine ag' F.ex ?_
 walk_at "y"
 refine⟨l,rfl,by omega,fun H4 s4=>?_⟩
 walk_at "y"
 refine⟨l.map (!·),m,rfl,by rw[ac];omega,fun H5 s5=>?_⟩
 rw[wv']
 walk_at "y"
 refine ag' F.ex ?_
 walk_at "y"
 refine⟨(K61.sf m l).1,rfl,by omega,fun H6 s6=>?_⟩
 walk_at "y"
 refine⟨ay' (by omega),ay' (by omega),.inr (.inl ⟨by omega,by omega⟩),ay' (by omega),?_⟩
 rw[decide_eq_true (sq' hm2 l)]
 exact q _ (s1.trans ((ae' hp _).trans (s2.trans (s3.trans (s4.trans (s5.trans s6))))))
def j5':Sp:=fun vs H Q _=>∃(l:List Bool) (m k:Nat),vs=[.str (tx l),.int m,.int k]/\l.length<=60/\1<=m/\m<=6/\2<=k/\k<=8/\∀H',aB' H H'->Q (.bl true) H'
structure FsFl (C:Rc):Prop where
 fw:C.fs "flags_written"=some wq'
 su:C.fs "sums"=some co'
 fr:C.fs "flags_read"=some wr'
 us:C.fs "unstuffed"=some K61.eu'
 st:C.fs "stuffed"=some K61.aZ'
theorem oP' {C:Rc} (hN:C.N.length=5) (F:FsFl C):∀vs H Q E,j5' vs H Q E->tSs C b3' { nx:=fun _ H'=>Q .non H',rt:=Q } (L2.az' C.N vs) H:=by
 intro vs H Q E h
 obtain⟨l,m,k,rfl,hl,hm1,hm6,hk2,hk8,q⟩:=h
 rw[ak' hN]
 unfold b3'
 walk_at "y"
 refine⟨ay' (by omega),⟨by omega,.inl (by omega)⟩,.inr (.inl ⟨by omega,by omega⟩),?_⟩
 rw[js']
 refine me' (ay' (by omega)) ?_
 have hrl:=jt' (l:=l) (m:=m)
 have hr60:(l.take (l.length / m*m)).length<=60:=by rw[aC];omega
 generalize l.take (l.length / m*m)=r at hrl hr60 ⊢
 generalize l.length / m=n at hrl ⊢
 have hn60:n<=60:=by
  have:n*1<=n*m:=Nat.mul_le_mul_left n hm1
  omega
 walk_at "y"
 refine ag' F.fw ?_
 walk_at "y"
 refine⟨r,m,n,rfl,by omega,by omega,by omega,hrl,fun H1 s1=>?_⟩
 have hfl:=hZ' hrl (ae n)
 have hf120:(fw m r n).length<=120:=by rw[hfl,cQ];omega
 have htk:∀i,i<=n->_:=fun i hi=>sh' hrl (i:=i) hi
 have hbd:∀i,i<=n->_:=fun i hi=>wp' hrl (i:=i) hi
 have hrd:=wo' hrl (ae n)
 generalize hT:fw m r n=T at hfl hf120 htk hrd ⊢
 walk_at "y"
 refine ag' F.su ?_
 walk_at "y"
 refine⟨T,rfl,by omega,fun a ha=>?_⟩
 walk_at "y"
 rw[show(m:Int)+1=((m+1:Nat):Int) by omega]
 refine⟨a,_,m+1,rfl,rfl,by omega,SqL.of ad',fun a2 ha2=>?_⟩
 have s5:aB' H (upd (upd H1 a (.lst ((smL T).map V.int))) a2 (.lst (dk' ((smL T).map V.int) (m+1)))):=s1.trans ((ae' ha _).trans (ae' ha2 _))
 have h5:upd (upd H1 a (.lst ((smL T).map V.int))) a2 (.lst (dk' ((smL T).map V.int) (m+1))) a2=some (.lst ((dk' (smL T) (m+1)).map V.int)):=by rw[ad',jr']
 generalize upd (upd H1 a (.lst ((smL T).map V.int))) a2 (.lst (dk' ((smL T).map V.int) (m+1)))=H5 at s5 h5 ⊢
 have hall:∀x∈dk' (smL T) (m+1),-(m:Int)-1<=x/\x<=m+1:=mS' fun k x hx=>by
  obtain⟨h1,h2⟩:=iP' hx
  have hk:k<=n:=by
   rw[hfl]at h1
   exact Nat.le_of_mul_le_mul_right h1 (by omega)
  rw[h2,htk k hk]
  exact hbd k hk
 have hsl:(dk' (smL T) (m+1)).length<=1000:=by
  have:=gh' (smL T) (n:=m+1) (by omega)
  have e:(smL T).length=T.length+1:=by unfold smL;simp
  omega
 have hne:=sw' (mb' (l:=T)) (n:=m+1) (by omega)
 generalize dk' (smL T) (m+1)=X at h5 hall hsl hne
 walk_at "y"
 refine aL' (SqL.of h5) (dR' (fun i xs H'=>xs=((X.take i).map ab).map V.int/\H'=H5) ⟨rfl,rfl⟩ (fun i xs H' pv=>SqL.of (by rw[pv.2];exact h5)) ?_ ?_)
 .rintro i xs H6 x R hx ⟨rfl,rfl⟩ hR
  have hi:i<X.length:=by have:=ao' hx;rwa [ac]at this
  rw[aq,af hi]at hx
  cases hx
  walk_at "y"
  refine⟨by rw[ac,ac,aC];exact al' (by omega),hR _ _ ⟨?_,rfl⟩⟩
  rw[bJ,af hi,az,az]
  rfl
 .rintro xs H6 ⟨rfl,rfl⟩ p6 hp6
  rw[ac,aN]
  walk_at "y"
  refine pB' (SqL.of ad') (fun z=>hne (List.map_eq_nil_iff.mp z)) fun M hM _=>?_
  have hMb:M<=(m:Int)+1:=by
   obtain⟨y,hy,rfl⟩:=aR.mp hM
   have:=hall y hy
   unfold ab
   split<;>omega
  walk_at "y"
  rw[decide_eq_false (show ¬M > (m:Int)+1 by omega)]
  walk_at "y"
  refine ag' F.fr ?_
  walk_at "y"
  refine ag' F.us ?_
  walk_at "y"
  refine ag' F.st ?_
  walk_at "y"
  refine⟨T,k,rfl,by omega,fun H7 s7=>?_⟩
  walk_at "y"
  refine⟨T,k,rfl,by omega,hk2,fun H8 s8=>?_⟩
  walk_at "y"
  refine⟨T,m,n,rfl,by omega,by omega,by omega,hfl,fun H9 s9=>?_⟩
  rw[hrd,<- hrl,aN]
  walk_at "y"
  exact q _ (s5.trans ((ae' hp6 _).trans (s7.trans (s8.trans s9))))
def mU' (K:W.Frag):Sp:=fun vs H Q _=>∃(a:Addr) (ns:List Int),vs=[.ref a]/\SqL K H a (ns.map V.int)/\ns.length<=63/\∀H',Q (.bl true) H'
structure FsLaw (C:Rc):Prop where
 box:C.fs "_law_box"=some (hF' C.K)
 row:C.fs "_law_row"=some iC'
 take:C.fs "_law_take"=some c4'
 bal:C.fs "_law_balance_right"=some fX'
 stf:C.fs "_law_stuffed_right"=some j4'
 flg:C.fs "_law_flags_right"=some j5'
 bw:C.fs "balance_written"=some kb'
 num:C.fs "balanced_number"=some K56.c6'
 ex:C.fs "exchanged"=some bb'
 cnt:C.fs "balanced_count"=some aG'
theorem oQ' {C:Rc} (hN:C.N.length=9) (F:FsLaw C):∀vs H Q E,mU' C.K vs H Q E->tSs C oM' { nx:=fun _ H'=>Q .non H',rt:=Q } (L2.az' C.N vs) H:=by
 intro vs H Q E h
 obtain⟨a,ns,rfl,hs,h63,q⟩:=h
 rw[ak' hN]
 unfold oM'
 walk_at "y"
 refine gm' hs ?_
 rw[ac]
 walk_at "y"
 obtain⟨N,eN,hN1,hN2⟩:∃N:Int,N=1+(if(ns.length:Int)<8 then(ns.length:Int)else 8)/\1<=N/\N<=9:=by
  refine⟨_,rfl,?_,?_⟩<;>split<;>omega
 rw[<- eN]
 refine yX' (by omega) (by omega) (vo' (fun i σ H'=>(∃x1 x2 x3 x4 x5 x6 x7 x8,σ=[some (.ref a),x1,x2,x3,x4,x5,x6,x7,x8])/\SqL C.K H' a (ns.map V.int)) ⟨⟨none,none,none,none,none,none,none,none,rfl⟩,hs⟩ ?_ ?_)
 .rintro i σ H0 hi ⟨⟨x1,x2,x3,x4,x5,x6,x7,x8,rfl⟩,hs0⟩
  walk_at "y"
  refine ag' F.box ?_
  walk_at "y"
  refine⟨a,ns,_,rfl,hs0,by omega,by omega,fun b hb=>?_⟩
  have hs1:=(ae' hb (eF' b 0)).seq hs0
  have hb1:upd H0 b (eF' b 0) b=some (eF' b 0):=ad'
  generalize upd H0 b (eF' b 0)=H1 at hs1 hb1 ⊢
  walk_at "y"
  refine ag' F.row ?_
  walk_at "y"
  refine⟨b,0,rfl,hb1,by decide,fun r H2 hr g2=>?_⟩
  obtain⟨n2,hb2,hn2,_⟩:=g2.boxed hb1 (by decide)
  have hs2:=g2.seq hs1
  walk_at "y"
  refine ag' F.take ?_
  walk_at "y"
  refine⟨b,n2,_,rfl,hb2,by omega,by omega,by omega,fun m0 H3 hm0 hm1 g3=>?_⟩
  obtain⟨m0,rfl⟩:=Int.eq_ofNat_of_zero_le hm0
  obtain⟨n3,hb3,hn3,_⟩:=g3.boxed hb2 (by omega)
  have hs3:=g3.seq hs2
  obtain⟨m,em⟩:∃m:Nat,(1:Int)+m0=m:=⟨1+m0,rfl⟩
  walk_at "y"
  rw[em]
  refine ag' F.take ?_
  walk_at "y"
  refine⟨b,n3,_,rfl,hb3,by omega,by omega,by omega,fun k0 H4 hk0 hk1 g4=>?_⟩
  obtain⟨k0,rfl⟩:=Int.eq_ofNat_of_zero_le hk0
  obtain⟨n4,hb4,hn4,_⟩:=g4.boxed hb3 (by omega)
  have hs4:=g4.seq hs3
  obtain⟨k,ek⟩:∃k:Nat,(2:Int)+k0=k:=⟨2+k0,rfl⟩
  walk_at "y"
  rw[ek]
  walk_at "y"
  refine ag' F.bal ?_
  walk_at "y"
  refine⟨.inr (.inl ⟨by omega,by omega⟩),r,2*m,by rw[show((2*m:Nat):Int)=2*(m:Int) by omega],hr,by omega,by omega,by omega,fun H5 s5=>?_⟩
  walk_at "y"
  refine ag' F.stf ?_
  walk_at "y"
  refine⟨r,k,rfl,hr,by omega,by omega,fun H6 s6=>?_⟩
  walk_at "y"
  refine ag' F.flg ?_
  walk_at "y"
  refine⟨r,m,k,rfl,hr,by omega,by omega,by omega,by omega,fun H7 s7=>?_⟩
  have hs7:=s7.seq (s6.seq (s5.seq hs4))
  walk_at "y"
  refine⟨ay' (by omega),⟨by omega,.inl (by omega)⟩,.inr (.inl ⟨by omega,by omega⟩),?_⟩
  rw[show(r.length:Int) / 2*2=((r.length / 2*2:Nat):Int) by omega]
  refine me' (ay' (by omega)) ?_
  have hel:(r.take (r.length / 2*2)).length=r.length / 2*2:=by rw[aC];omega
  have he2:(r.take (r.length / 2*2)).length % 2=0:=by omega
  have he60:(r.take (r.length / 2*2)).length<=60:=by omega
  clear hel
  generalize r.take (r.length / 2*2)=e at he2 he60 ⊢
  walk_at "y"
  generalize hD:yI' 7 _ _=D0
  have ax':∀(T:List Bool) (H8:Hp),SqL C.K H8 a (ns.map V.int)->sm T=0->T.length<=100->D0 (.str (tx T)) H8:=by
   intro T H8 hs8 hT hTl
   rw[<- hD]
   walk_at "y"
   refine ag' F.num ?_
   walk_at "y"
   refine⟨T,rfl,by omega,hT,fun H9 s9=>?_⟩
   walk_at "y"
   refine ag' F.num ?_
   walk_at "y"
   refine ag' F.ex ?_
   walk_at "y"
   refine⟨T,rfl,by omega,fun H10 s10=>?_⟩
   walk_at "y"
   refine⟨T.map (!·),rfl,by rw[ac];omega,by rw[hH',hT];rfl,fun H11 s11=>?_⟩
   walk_at "y"
   refine ag' F.cnt ?_
   walk_at "y"
   refine⟨ay' (by omega),T.length,rfl,by omega,?_⟩
   walk_at "y"
   rw[sr' (ss' hT),decide_eq_true rfl]
   walk_at "y"
   exact⟨⟨_,_,_,_,_,_,_,_,rfl⟩,s11.seq (s10.seq (s9.seq hs8))⟩
  rw[<- decide_not]
  refine bd' (fun hq=>?_) fun hq=>?_
  .walk_at "y"
   refine ag' F.bw ?_
   walk_at "y"
   have ev:Ev e:=⟨he60,by
    have:0<e.length:=List.length_pos_iff.mpr hq
    omega,he2⟩
   refine⟨e,rfl,ev,fun H8 s8=>?_⟩
   have:=ev.hl
   exact ax' _ _ (s8.seq hs7) (wl' ev) (by rw[mM'];omega)
  .walk_at "y"
   exact ax' [] _ hs7 rfl (by decide)
 .rintro σ H0 ⟨⟨x1,x2,x3,x4,x5,x6,x7,x8,rfl⟩,hs0⟩
  walk_at "y"
  exact q _
end K64
namespace K64
open PySem PySem.Spec PyProof.Rows L2 R3 LW SR BA BK TM BD BE TE
def top (i:Nat):Stmt:=PySem.Challenge.pw_runbound_k64_whole_sums_and_runs.main.body.getD i (.Pass ⟨0,0,0,0⟩)
theorem iR':mSs cL' bX' (ac' (top 6)) bU' (aj' (top 6))=true:=by decide +kernel
theorem h2':FnScope cL' ["row"] (ac' (top 6)):=⟨rfl,rfl,rfl,by decide +kernel,rfl,by decide +kernel,by decide +kernel⟩
theorem sx':mSs ef' dg' (ac' (top 7)) de' (aj' (top 7))=true:=by decide +kernel
theorem oR':FnScope ef' ["row"] (ac' (top 7)):=⟨rfl,rfl,rfl,by decide +kernel,rfl,by decide +kernel,by decide +kernel⟩
theorem wx':mSs gx' eH' (ac' (top 8)) eG' (aj' (top 8))=true:=by decide +kernel
theorem sy':FnScope gx' ["row"] (ac' (top 8)):=⟨rfl,rfl,rfl,by decide +kernel,rfl,by decide +kernel,by decide +kernel⟩
theorem oS':mSs cM' bY' (ac' (top 9)) bZ' (aj' (top 9))=true:=by decide +kernel
theorem mV':FnScope cM' ["row"] (ac' (top 9)):=⟨rfl,rfl,rfl,by decide +kernel,rfl,by decide +kernel,by decide +kernel⟩
theorem oT':mSs cN' b0' (ac' (top 10)) a8' (aj' (top 10))=true:=by decide +kernel
theorem mW':FnScope cN' ["row","many"] (ac' (top 10)):=⟨rfl,rfl,rfl,by decide +kernel,rfl,by decide +kernel,by decide +kernel⟩
theorem sz':mSs bR' bg' (ac' (top 11)) bh' (aj' (top 11))=true:=by decide +kernel
theorem oU':FnScope bR' ["row","many"] (ac' (top 11)):=⟨rfl,rfl,rfl,by decide +kernel,rfl,by decide +kernel,by decide +kernel⟩
theorem oV':mSs eg' dh' (ac' (top 13)) df' (aj' (top 13))=true:=by decide +kernel
theorem mX':FnScope eg' ["row","many"] (ac' (top 13)):=⟨rfl,rfl,rfl,by decide +kernel,rfl,by decide +kernel,by decide +kernel⟩
theorem mY':mSs du' cO' (ac' (top 14)) cG' (aj' (top 14))=true:=by decide +kernel
theorem j6':FnScope du' ["row"] (ac' (top 14)):=⟨rfl,rfl,rfl,by decide +kernel,rfl,by decide +kernel,by decide +kernel⟩
theorem oW':mSs by' a3' (ac' (top 15)) a2' (aj' (top 15))=true:=by decide +kernel
theorem mZ':FnScope by' ["many"] (ac' (top 15)):=⟨rfl,rfl,rfl,by decide +kernel,rfl,by decide +kernel,by decide +kernel⟩
theorem zw':mSs bn' aT' (ac' (top 16)) aQ' (aj' (top 16))=true:=by decide +kernel
theorem wy':FnScope bn' ["count","rest","ones"] (ac' (top 16)):=⟨rfl,rfl,rfl,by decide +kernel,rfl,by decide +kernel,by decide +kernel⟩
theorem zx':mSs ce' bz' (ac' (top 17)) K56.bw' (aj' (top 17))=true:=by decide +kernel
theorem wz':FnScope ce' ["many","number"] (ac' (top 17)):=⟨rfl,rfl,rfl,by decide +kernel,rfl,by decide +kernel,by decide +kernel⟩
theorem wA':mSs bo' aU' (ac' (top 18)) K56.aR' (aj' (top 18))=true:=by decide +kernel
theorem sA':FnScope bo' ["row"] (ac' (top 18)):=⟨rfl,rfl,rfl,by decide +kernel,rfl,by decide +kernel,by decide +kernel⟩
theorem A1':mSs c8' cs' (ac' (top 19)) ct' (aj' (top 19))=true:=by decide +kernel
theorem zy':FnScope c8' ["many"] (ac' (top 19)):=⟨rfl,rfl,rfl,by decide +kernel,rfl,by decide +kernel,by decide +kernel⟩
theorem A2':mSs bp' aV' (ac' (top 20)) aW' (aj' (top 20))=true:=by decide +kernel
theorem zz':FnScope bp' ["row"] (ac' (top 20)):=⟨rfl,rfl,rfl,by decide +kernel,rfl,by decide +kernel,by decide +kernel⟩
theorem A3':mSs bS' bi' (ac' (top 21)) bj' (aj' (top 21))=true:=by decide +kernel
theorem zA':FnScope bS' ["row","many"] (ac' (top 21)):=⟨rfl,rfl,rfl,by decide +kernel,rfl,by decide +kernel,by decide +kernel⟩
theorem A4':mSs bG' a9' (ac' (top 22)) ba' (aj' (top 22))=true:=by decide +kernel
theorem zB':FnScope bG' ["row","many"] (ac' (top 22)):=⟨rfl,rfl,rfl,by decide +kernel,rfl,by decide +kernel,by decide +kernel⟩
theorem A5':mSs cz' bK' (ac' (top 23)) bL' (aj' (top 23))=true:=by decide +kernel
theorem zC':FnScope cz' ["row","many"] (ac' (top 23)):=⟨rfl,rfl,rfl,by decide +kernel,rfl,by decide +kernel,by decide +kernel⟩
theorem zD':mSs bT' bk' (ac' (top 25)) K04.bf' (aj' (top 25))=true:=by decide +kernel
theorem wB':FnScope bT' ["machine","rooms","bit"] (ac' (top 25)):=⟨rfl,rfl,rfl,by decide +kernel,rfl,by decide +kernel,by decide +kernel⟩
theorem wC':mSs dv' cP' (ac' (top 26)) cI' (aj' (top 26))=true:=by decide +kernel
theorem sB':FnScope dv' ["machine","rooms"] (ac' (top 26)):=⟨rfl,rfl,rfl,by decide +kernel,rfl,by decide +kernel,by decide +kernel⟩
theorem wD':mSs dw' cQ' (ac' (top 27)) cJ' (aj' (top 27))=true:=by decide +kernel
theorem sC':FnScope dw' ["machine","numbers"] (ac' (top 27)):=⟨rfl,rfl,rfl,by decide +kernel,rfl,by decide +kernel,by decide +kernel⟩
theorem wE':mSs dx' cR' (ac' (top 28)) cK' (aj' (top 28))=true:=by decide +kernel
theorem sD':FnScope dx' ["machine"] (ac' (top 28)):=⟨rfl,rfl,rfl,by decide +kernel,rfl,by decide +kernel,by decide +kernel⟩
theorem zE':mSs bq' aX' (ac' (top 30)) aS' (aj' (top 30))=true:=by decide +kernel
theorem wF':FnScope bq' ["bounds"] (ac' (top 30)):=⟨rfl,rfl,rfl,by decide +kernel,rfl,by decide +kernel,by decide +kernel⟩
theorem A6':mSs cf' bA' (ac' (top 31)) bx' (aj' (top 31))=true:=by decide +kernel
theorem zF':FnScope cf' ["bounds","room","bit"] (ac' (top 31)):=⟨rfl,rfl,rfl,by decide +kernel,rfl,by decide +kernel,by decide +kernel⟩
theorem zG':mSs a4' aI' (ac' (top 32)) aH' (aj' (top 32))=true:=by decide +kernel
theorem wG':FnScope a4' ["bounds","rooms"] (ac' (top 32)):=⟨rfl,rfl,rfl,by decide +kernel,rfl,by decide +kernel,by decide +kernel⟩
theorem zH':mSs cA' bM' (ac' (top 33)) bJ' (aj' (top 33))=true:=by decide +kernel
theorem wH':FnScope cA' ["bounds"] (ac' (top 33)):=⟨rfl,rfl,rfl,by decide +kernel,rfl,by decide +kernel,by decide +kernel⟩
theorem sE':mSs c9' cu' (ac' (top 34)) K04.cr' (aj' (top 34))=true:=by decide +kernel
theorem oX':FnScope c9' ["bounds","row"] (ac' (top 34)):=⟨rfl,rfl,rfl,by decide +kernel,rfl,by decide +kernel,by decide +kernel⟩
theorem sF':mSs fq' dX' (ac' (top 35)) K04.dV' (aj' (top 35))=true:=by decide +kernel
theorem oY':FnScope fq' ["bounds","row"] (ac' (top 35)):=⟨rfl,rfl,rfl,by decide +kernel,rfl,by decide +kernel,by decide +kernel⟩
theorem zI':mSs dy' cS' (ac' (top 37)) K61.cH' (aj' (top 37))=true:=by decide +kernel
theorem wI':FnScope dy' ["row","most"] (ac' (top 37)):=⟨rfl,rfl,rfl,by decide +kernel,rfl,by decide +kernel,by decide +kernel⟩
theorem zJ':mSs cT' b1' (ac' (top 38)) K61.bV' (aj' (top 38))=true:=by decide +kernel
theorem wJ':FnScope cT' ["row","most"] (ac' (top 38)):=⟨rfl,rfl,rfl,by decide +kernel,rfl,by decide +kernel,by decide +kernel⟩
theorem wK':mSs dY' da' (ac' (top 40)) dS' (aj' (top 40))=true:=by decide +kernel
theorem sG':FnScope dY' ["_law_script","_law_k"] (ac' (top 40)):=⟨rfl,rfl,rfl,by decide +kernel,rfl,by decide +kernel,by decide +kernel⟩
theorem zK':mSs oJ' mJ' (ac' (top 41)) oq' (aj' (top 41))=true:=by decide +kernel
theorem wL':FnScope oJ' ["_law_script","_law_k"] (ac' (top 41)):=⟨rfl,rfl,rfl,by decide +kernel,rfl,by decide +kernel,by decide +kernel⟩
theorem wM':mSs mK' jn' (ac' (top 42)) jd' (aj' (top 42))=true:=by decide +kernel
theorem sH':FnScope mK' ["_law_box_here","_law_many"] (ac' (top 42)):=⟨rfl,rfl,rfl,by decide +kernel,rfl,by decide +kernel,by decide +kernel⟩
theorem zL':mSs sa' oK' (ac' (top 43)) or' (aj' (top 43))=true:=by decide +kernel
theorem wN':FnScope sa' ["_law_box_here"] (ac' (top 43)):=⟨rfl,rfl,rfl,by decide +kernel,rfl,by decide +kernel,by decide +kernel⟩
theorem m0':mSs gy' eI' (ac' (top 44)) a8' (aj' (top 44))=true:=by decide +kernel
theorem j7':FnScope gy' ["_law_row_here","_law_many"] (ac' (top 44)):=⟨rfl,rfl,rfl,by decide +kernel,rfl,by decide +kernel,by decide +kernel⟩
theorem wO':mSs cg' bB' (ac' (top 45)) bC' (aj' (top 45))=true:=by decide +kernel
theorem sI':FnScope cg' ["_law_row_here","_law_many"] (ac' (top 45)):=⟨rfl,rfl,rfl,by decide +kernel,rfl,by decide +kernel,by decide +kernel⟩
theorem wP':mSs ch' bD' (ac' (top 46)) bE' (aj' (top 46))=true:=by decide +kernel
theorem sJ':FnScope ch' ["_law_row_here","_law_most"] (ac' (top 46)):=⟨rfl,rfl,rfl,by decide +kernel,rfl,by decide +kernel,by decide +kernel⟩
theorem wQ':mSs cU' b2' (ac' (top 47)) b3' (aj' (top 47))=true:=by decide +kernel
theorem sK':FnScope cU' ["_law_row_here","_law_many","_law_most"] (ac' (top 47)):=⟨rfl,rfl,rfl,by decide +kernel,rfl,by decide +kernel,by decide +kernel⟩
theorem zM':mSs oL' mL' (ac' (top 48)) oM' (aj' (top 48))=true:=by decide +kernel
theorem wR':FnScope oL' ["_law_script"] (ac' (top 48)):=⟨rfl,rfl,rfl,by decide +kernel,rfl,by decide +kernel,by decide +kernel⟩
set_option hygiene false in
local macro_rules | `(tactic| walk_at "o") => `(tactic| (intro vs H Q E h; repeat (first | (obtain ⟨rfl, _⟩ := h; rfl) | (obtain ⟨_, h⟩ := h))))
def FnD (K:W.Frag) (x:Str) (st:Stmt):Prop:=∃(f:Addr) (fd:FuncData),W.nsIn K mainGlobals x=some (some (.ref f))/\Fun K x x st f fd
theorem ar' {K:W.Frag} {x:Str} {st:Stmt} {f:Addr} {oc:Value} {od an:Option Addr} {osl:Array (Option Value)} {kV doc pm cdv ct:Value} (a:W.nsIn K mainGlobals x=some (some (.ref f))) (l:K.lookup f=some ⟨oc,od,.func (W.fnOf x x (d3' st) (aj' st) (ac' st) .none kV doc pm an cdv ct),osl⟩) (c:W.codeIn K cdv x=true) (k:W.keepIn K (.ref f)=true):FnD K x st:=⟨f,_,a,ty' l c k⟩
theorem wS' {l:W.OpenLaw} {w:World} {K:W.Frag} {h:Heap} {mg:Str->Option Value} {fa:Addr} (X:K.In h) (G:h.Ns mainGlobals mg) (hfa:mg "law"=some (.ref fa))
  (p1:FnD K "exchanged" (top 6))
  (p2:FnD K "sum_of" (top 7))
  (p3:FnD K "sums" (top 8))
  (p4:FnD K "spread_of" (top 9))
  (p5:FnD K "blocks_of" (top 10))
  (p6:FnD K "whole_blocks" (top 11))
  (p7:FnD K "turned" (top 13))
  (p8:FnD K "turning" (top 14))
  (p9:FnD K "balanced_count" (top 15))
  (p10:FnD K "count_by_nought" (top 16))
  (p11:FnD K "balanced_at" (top 17))
  (p12:FnD K "balanced_number" (top 18))
  (p13:FnD K "head_for" (top 19))
  (p14:FnD K "balance_written" (top 20))
  (p15:FnD K "balance_read" (top 21))
  (p16:FnD K "flags_written" (top 22))
  (p17:FnD K "flags_read" (top 23))
  (p18:FnD K "rooms_behind" (top 25))
  (p19:FnD K "lasting" (top 26))
  (p20:FnD K "part_of" (top 27))
  (p21:FnD K "trimmed" (top 28))
  (p22:FnD K "rooms_in_bounds" (top 30))
  (p23:FnD K "room_behind" (top 31))
  (p24:FnD K "machine_in_bounds" (top 32))
  (p25:FnD K "machine_of" (top 33))
  (p26:FnD K "fault_at" (top 34))
  (p27:FnD K "keeps" (top 35))
  (p28:FnD K "stuffed" (top 37))
  (p29:FnD K "unstuffed" (top 38))
  (p30:FnD K "_law_cell_at" (top 40))
  (p31:FnD K "_law_box" (top 41))
  (p32:FnD K "_law_take" (top 42))
  (p33:FnD K "_law_row" (top 43))
  (p34:FnD K "_law_blocks" (top 44))
  (p35:FnD K "_law_balance_right" (top 45))
  (p36:FnD K "_law_stuffed_right" (top 46))
  (p37:FnD K "_law_flags_right" (top 47))
  (p38:FnD K "law" (top 48))
  (z1:W.nsIn K mainGlobals "~"=some none)
  (z2:W.nsIn K mainGlobals "^"=some none)
  (z3:W.nsIn K mainGlobals "%"=some none)
  (z4:W.nsIn K mainGlobals "max"=some none)
  (z5:W.nsIn K mainGlobals "min"=some none)
  (z6:W.nsIn K mainGlobals "len"=some none)
  (z7:W.nsIn K mainGlobals "range"=some none)
  (z8:W.nsIn K mainGlobals "enumerate"=some none)
  (z9:W.nsIn K mainGlobals "reversed"=some none)
  (z10:W.nsIn K mainGlobals "abs"=some none)
  (z11:W.nsIn K mainGlobals "int"=some none)
  (z12:W.nsIn K mainGlobals "sorted"=some none)
  (z13:W.nsIn K mainGlobals "set"=some none)
  (z14:W.nsIn K mainGlobals "tuple"=some none)
  (z15:W.nsIn K mainGlobals "list"=some none)
  (z16:W.nsIn K mainGlobals "any"=some none):
  ∃fd:FuncData,(∀(s:Shared) (v:Value),BindsTo s fd ⟨[v],[]⟩ [("_law_script",v)])/\∀base:Heap,K.In base->base.Ns mainGlobals mg->FnOk l.prog w K mg base CX0 60 fa fd ["_law_script"] (mU' K):=by
 obtain⟨f1,g1,a1,F1⟩:=p1
 obtain⟨f2,g2,a2,F2⟩:=p2
 obtain⟨f3,g3,a3,F3⟩:=p3
 obtain⟨f4,g4,a4,F4⟩:=p4
 obtain⟨f5,g5,a5,F5⟩:=p5
 obtain⟨f6,g6,a6,F6⟩:=p6
 obtain⟨f7,g7,a7,F7⟩:=p7
 obtain⟨f8,g8,a8,F8⟩:=p8
 obtain⟨f9,g9,a9,F9⟩:=p9
 obtain⟨f10,g10,a10,F10⟩:=p10
 obtain⟨f11,g11,a11,F11⟩:=p11
 obtain⟨f12,g12,a12,F12⟩:=p12
 obtain⟨f13,g13,a13,F13⟩:=p13
 obtain⟨f14,g14,a14,F14⟩:=p14
 obtain⟨f15,g15,a15,F15⟩:=p15
 obtain⟨f16,g16,a16,F16⟩:=p16
 obtain⟨f17,g17,a17,F17⟩:=p17
 obtain⟨f18,g18,a18,F18⟩:=p18
 obtain⟨f19,g19,a19,F19⟩:=p19
 obtain⟨f20,g20,a20,F20⟩:=p20
 obtain⟨f21,g21,a21,F21⟩:=p21
 obtain⟨f22,g22,a22,F22⟩:=p22
 obtain⟨f23,g23,a23,F23⟩:=p23
 obtain⟨f24,g24,a24,F24⟩:=p24
 obtain⟨f25,g25,a25,F25⟩:=p25
 obtain⟨f26,g26,a26,F26⟩:=p26
 obtain⟨f27,g27,a27,F27⟩:=p27
 obtain⟨f28,g28,a28,F28⟩:=p28
 obtain⟨f29,g29,a29,F29⟩:=p29
 obtain⟨f30,g30,a30,F30⟩:=p30
 obtain⟨f31,g31,a31,F31⟩:=p31
 obtain⟨f32,g32,a32,F32⟩:=p32
 obtain⟨f33,g33,a33,F33⟩:=p33
 obtain⟨f34,g34,a34,F34⟩:=p34
 obtain⟨f35,g35,a35,F35⟩:=p35
 obtain⟨f36,g36,a36,F36⟩:=p36
 obtain⟨f37,g37,a37,F37⟩:=p37
 obtain⟨f38,g38,a38,F38⟩:=p38
 obtain⟨oc38,od38,kV38,dc38,pm38,an38,cd38,ct38,sl38,rfl,l38,c38⟩:=F38.ex
 have e:=hfa.symm.trans (W.mg_of X G a38)
 cases e
 have b1:=F1.binds (ps:=["row"]) fun _ _ _ _ _ _ us hl=>jY' (P:=fun us=>bindArgs _ ({ pos:=us }:Args)=pure (aY _ us)) (fun _=>rfl) us hl
 have m1:=W.mg_of X G a1
 have b2:=F2.binds (ps:=["row"]) fun _ _ _ _ _ _ us hl=>jY' (P:=fun us=>bindArgs _ ({ pos:=us }:Args)=pure (aY _ us)) (fun _=>rfl) us hl
 have m2:=W.mg_of X G a2
 have b3:=F3.binds (ps:=["row"]) fun _ _ _ _ _ _ us hl=>jY' (P:=fun us=>bindArgs _ ({ pos:=us }:Args)=pure (aY _ us)) (fun _=>rfl) us hl
 have m3:=W.mg_of X G a3
 have b4:=F4.binds (ps:=["row"]) fun _ _ _ _ _ _ us hl=>jY' (P:=fun us=>bindArgs _ ({ pos:=us }:Args)=pure (aY _ us)) (fun _=>rfl) us hl
 have m4:=W.mg_of X G a4
 have b5:=F5.binds (ps:=["row","many"]) fun _ _ _ _ _ _ us hl=>fT' (P:=fun us=>bindArgs _ ({ pos:=us }:Args)=pure (aY _ us)) (fun _ _=>rfl) us hl
 have m5:=W.mg_of X G a5
 have b6:=F6.binds (ps:=["row","many"]) fun _ _ _ _ _ _ us hl=>fT' (P:=fun us=>bindArgs _ ({ pos:=us }:Args)=pure (aY _ us)) (fun _ _=>rfl) us hl
 have m6:=W.mg_of X G a6
 have b7:=F7.binds (ps:=["row","many"]) fun _ _ _ _ _ _ us hl=>fT' (P:=fun us=>bindArgs _ ({ pos:=us }:Args)=pure (aY _ us)) (fun _ _=>rfl) us hl
 have m7:=W.mg_of X G a7
 have b8:=F8.binds (ps:=["row"]) fun _ _ _ _ _ _ us hl=>jY' (P:=fun us=>bindArgs _ ({ pos:=us }:Args)=pure (aY _ us)) (fun _=>rfl) us hl
 have m8:=W.mg_of X G a8
 have b9:=F9.binds (ps:=["many"]) fun _ _ _ _ _ _ us hl=>jY' (P:=fun us=>bindArgs _ ({ pos:=us }:Args)=pure (aY _ us)) (fun _=>rfl) us hl
 have m9:=W.mg_of X G a9
 have b10:=F10.binds (ps:=["count","rest","ones"]) fun _ _ _ _ _ _ us hl=>xe' (P:=fun us=>bindArgs _ ({ pos:=us }:Args)=pure (aY _ us)) (fun _ _ _=>rfl) us hl
 have m10:=W.mg_of X G a10
 have b11:=F11.binds (ps:=["many","number"]) fun _ _ _ _ _ _ us hl=>fT' (P:=fun us=>bindArgs _ ({ pos:=us }:Args)=pure (aY _ us)) (fun _ _=>rfl) us hl
 have m11:=W.mg_of X G a11
 have b12:=F12.binds (ps:=["row"]) fun _ _ _ _ _ _ us hl=>jY' (P:=fun us=>bindArgs _ ({ pos:=us }:Args)=pure (aY _ us)) (fun _=>rfl) us hl
 have m12:=W.mg_of X G a12
 have b13:=F13.binds (ps:=["many"]) fun _ _ _ _ _ _ us hl=>jY' (P:=fun us=>bindArgs _ ({ pos:=us }:Args)=pure (aY _ us)) (fun _=>rfl) us hl
 have m13:=W.mg_of X G a13
 have b14:=F14.binds (ps:=["row"]) fun _ _ _ _ _ _ us hl=>jY' (P:=fun us=>bindArgs _ ({ pos:=us }:Args)=pure (aY _ us)) (fun _=>rfl) us hl
 have m14:=W.mg_of X G a14
 have b15:=F15.binds (ps:=["row","many"]) fun _ _ _ _ _ _ us hl=>fT' (P:=fun us=>bindArgs _ ({ pos:=us }:Args)=pure (aY _ us)) (fun _ _=>rfl) us hl
 have m15:=W.mg_of X G a15
 have b16:=F16.binds (ps:=["row","many"]) fun _ _ _ _ _ _ us hl=>fT' (P:=fun us=>bindArgs _ ({ pos:=us }:Args)=pure (aY _ us)) (fun _ _=>rfl) us hl
 have m16:=W.mg_of X G a16
 have b17:=F17.binds (ps:=["row","many"]) fun _ _ _ _ _ _ us hl=>fT' (P:=fun us=>bindArgs _ ({ pos:=us }:Args)=pure (aY _ us)) (fun _ _=>rfl) us hl
 have m17:=W.mg_of X G a17
 have b18:=F18.binds (ps:=["machine","rooms","bit"]) fun _ _ _ _ _ _ us hl=>xe' (P:=fun us=>bindArgs _ ({ pos:=us }:Args)=pure (aY _ us)) (fun _ _ _=>rfl) us hl
 have m18:=W.mg_of X G a18
 have b19:=F19.binds (ps:=["machine","rooms"]) fun _ _ _ _ _ _ us hl=>fT' (P:=fun us=>bindArgs _ ({ pos:=us }:Args)=pure (aY _ us)) (fun _ _=>rfl) us hl
 have m19:=W.mg_of X G a19
 have b20:=F20.binds (ps:=["machine","numbers"]) fun _ _ _ _ _ _ us hl=>fT' (P:=fun us=>bindArgs _ ({ pos:=us }:Args)=pure (aY _ us)) (fun _ _=>rfl) us hl
 have m20:=W.mg_of X G a20
 have b21:=F21.binds (ps:=["machine"]) fun _ _ _ _ _ _ us hl=>jY' (P:=fun us=>bindArgs _ ({ pos:=us }:Args)=pure (aY _ us)) (fun _=>rfl) us hl
 have m21:=W.mg_of X G a21
 have b22:=F22.binds (ps:=["bounds"]) fun _ _ _ _ _ _ us hl=>jY' (P:=fun us=>bindArgs _ ({ pos:=us }:Args)=pure (aY _ us)) (fun _=>rfl) us hl
 have m22:=W.mg_of X G a22
 have b23:=F23.binds (ps:=["bounds","room","bit"]) fun _ _ _ _ _ _ us hl=>xe' (P:=fun us=>bindArgs _ ({ pos:=us }:Args)=pure (aY _ us)) (fun _ _ _=>rfl) us hl
 have m23:=W.mg_of X G a23
 have b24:=F24.binds (ps:=["bounds","rooms"]) fun _ _ _ _ _ _ us hl=>fT' (P:=fun us=>bindArgs _ ({ pos:=us }:Args)=pure (aY _ us)) (fun _ _=>rfl) us hl
 have m24:=W.mg_of X G a24
 have b25:=F25.binds (ps:=["bounds"]) fun _ _ _ _ _ _ us hl=>jY' (P:=fun us=>bindArgs _ ({ pos:=us }:Args)=pure (aY _ us)) (fun _=>rfl) us hl
 have m25:=W.mg_of X G a25
 have b26:=F26.binds (ps:=["bounds","row"]) fun _ _ _ _ _ _ us hl=>fT' (P:=fun us=>bindArgs _ ({ pos:=us }:Args)=pure (aY _ us)) (fun _ _=>rfl) us hl
 have m26:=W.mg_of X G a26
 have b27:=F27.binds (ps:=["bounds","row"]) fun _ _ _ _ _ _ us hl=>fT' (P:=fun us=>bindArgs _ ({ pos:=us }:Args)=pure (aY _ us)) (fun _ _=>rfl) us hl
 have m27:=W.mg_of X G a27
 have b28:=F28.binds (ps:=["row","most"]) fun _ _ _ _ _ _ us hl=>fT' (P:=fun us=>bindArgs _ ({ pos:=us }:Args)=pure (aY _ us)) (fun _ _=>rfl) us hl
 have m28:=W.mg_of X G a28
 have b29:=F29.binds (ps:=["row","most"]) fun _ _ _ _ _ _ us hl=>fT' (P:=fun us=>bindArgs _ ({ pos:=us }:Args)=pure (aY _ us)) (fun _ _=>rfl) us hl
 have m29:=W.mg_of X G a29
 have b30:=F30.binds (ps:=["_law_script","_law_k"]) fun _ _ _ _ _ _ us hl=>fT' (P:=fun us=>bindArgs _ ({ pos:=us }:Args)=pure (aY _ us)) (fun _ _=>rfl) us hl
 have m30:=W.mg_of X G a30
 have b31:=F31.binds (ps:=["_law_script","_law_k"]) fun _ _ _ _ _ _ us hl=>fT' (P:=fun us=>bindArgs _ ({ pos:=us }:Args)=pure (aY _ us)) (fun _ _=>rfl) us hl
 have m31:=W.mg_of X G a31
 have b32:=F32.binds (ps:=["_law_box_here","_law_many"]) fun _ _ _ _ _ _ us hl=>fT' (P:=fun us=>bindArgs _ ({ pos:=us }:Args)=pure (aY _ us)) (fun _ _=>rfl) us hl
 have m32:=W.mg_of X G a32
 have b33:=F33.binds (ps:=["_law_box_here"]) fun _ _ _ _ _ _ us hl=>jY' (P:=fun us=>bindArgs _ ({ pos:=us }:Args)=pure (aY _ us)) (fun _=>rfl) us hl
 have m33:=W.mg_of X G a33
 have b34:=F34.binds (ps:=["_law_row_here","_law_many"]) fun _ _ _ _ _ _ us hl=>fT' (P:=fun us=>bindArgs _ ({ pos:=us }:Args)=pure (aY _ us)) (fun _ _=>rfl) us hl
 have m34:=W.mg_of X G a34
 have b35:=F35.binds (ps:=["_law_row_here","_law_many"]) fun _ _ _ _ _ _ us hl=>fT' (P:=fun us=>bindArgs _ ({ pos:=us }:Args)=pure (aY _ us)) (fun _ _=>rfl) us hl
 have m35:=W.mg_of X G a35
 have b36:=F36.binds (ps:=["_law_row_here","_law_most"]) fun _ _ _ _ _ _ us hl=>fT' (P:=fun us=>bindArgs _ ({ pos:=us }:Args)=pure (aY _ us)) (fun _ _=>rfl) us hl
 have m36:=W.mg_of X G a36
 have b37:=F37.binds (ps:=["_law_row_here","_law_many","_law_most"]) fun _ _ _ _ _ _ us hl=>xe' (P:=fun us=>bindArgs _ ({ pos:=us }:Args)=pure (aY _ us)) (fun _ _ _=>rfl) us hl
 have m37:=W.mg_of X G a37
 have m38:=W.mg_of X G a38
 have n1:=W.mg_none_of X G z1
 have n2:=W.mg_none_of X G z2
 have n3:=W.mg_none_of X G z3
 have n4:=W.mg_none_of X G z4
 have n5:=W.mg_none_of X G z5
 have n6:=W.mg_none_of X G z6
 have n7:=W.mg_none_of X G z7
 have n8:=W.mg_none_of X G z8
 have n9:=W.mg_none_of X G z9
 have n10:=W.mg_none_of X G z10
 have n11:=W.mg_none_of X G z11
 have n12:=W.mg_none_of X G z12
 have n13:=W.mg_none_of X G z13
 have n14:=W.mg_none_of X G z14
 have n15:=W.mg_none_of X G z15
 have n16:=W.mg_none_of X G z16
 refine⟨W.fnOf "law" "law" (d3' (top 48)) (aj' (top 48)) (ac' (top 48)) .none kV38 dc38 pm38 an38 cd38 ct38,fun s v=>.of_eq rfl,fun base _ _=>?_⟩
 have O1:=ai' (P:=l.prog) (w:=w) (mg:=mg) (base:=base) (k:=0) F1 { N:=cL',B:=bX',K:=K,fs:=aw' [] } h2' rfl bU' iR' (sp:=bb') (by walk_at "o") (aq' mN) mN ⟨n1,n2,n3⟩ (show tld bX'=false by decide +kernel) (show hat bX'=false by decide +kernel) rfl rfl (ma' rfl  )
 have O2:=ai' (P:=l.prog) (w:=w) (mg:=mg) (base:=base) (k:=0) F2 { N:=ef',B:=dg',K:=K,fs:=aw' [] } oR' rfl de' sx' (sp:=bv') (by walk_at "o") (aq' mN) mN ⟨n1,n2,n3⟩ (show tld dg'=false by decide +kernel) (show hat dg'=false by decide +kernel) rfl rfl (iD' rfl  )
 have O3:=ai' (P:=l.prog) (w:=w) (mg:=mg) (base:=base) (k:=0) F3 { N:=gx',B:=eH',K:=K,fs:=aw' [] } sy' rfl eG' wx' (sp:=co') (by walk_at "o") (aq' mN) mN ⟨n1,n2,n3⟩ (show tld eH'=false by decide +kernel) (show hat eH'=false by decide +kernel) rfl rfl (md' rfl  )
 have O4:=ai' (P:=l.prog) (w:=w) (mg:=mg) (base:=base) (k:=1) F4 { N:=cM',B:=bY',K:=K,fs:=aw' [("sums",co')] } mV' rfl bZ' oS' (sp:=dZ') (by walk_at "o") (aq' (mC ⟨⟨_,_,_,(O3).mono (by omega),m3,F3.kp,b3⟩,mN⟩)) (mC ⟨n4,(mC ⟨n5,mN⟩)⟩) ⟨n1,n2,n3⟩ (show tld bY'=false by decide +kernel) (show hat bY'=false by decide +kernel) rfl rfl (iQ' rfl (show aw' _ "sums"=some (co') from ab') )
 have O5:=ai' (P:=l.prog) (w:=w) (mg:=mg) (base:=base) (k:=0) F5 { N:=cN',B:=b0',K:=K,fs:=aw' [] } mW' rfl a8' oT' (sp:=bW') (by walk_at "o") (aq' mN) (mC ⟨n6,(mC ⟨n7,mN⟩)⟩) ⟨n1,n2,n3⟩ (show tld b0'=false by decide +kernel) (show hat b0'=false by decide +kernel) rfl rfl (fp' rfl  )
 have O6:=ai' (P:=l.prog) (w:=w) (mg:=mg) (base:=base) (k:=1) F6 { N:=bR',B:=bg',K:=K,fs:=aw' [("blocks_of",bW')] } oU' rfl bh' sz' (sp:=cv') (by walk_at "o") (aq' (mC ⟨⟨_,_,_,(O5).mono (by omega),m5,F5.kp,b5⟩,mN⟩)) (mC ⟨n6,mN⟩) ⟨n1,n2,n3⟩ (show tld bg'=false by decide +kernel) (show hat bg'=false by decide +kernel) rfl rfl (iN' rfl (show aw' _ "blocks_of"=some (bW') from ab') )
 have O7:=ai' (P:=l.prog) (w:=w) (mg:=mg) (base:=base) (k:=1) F7 { N:=eg',B:=dh',K:=K,fs:=aw' [("exchanged",bb')] } mX' rfl df' oV' (sp:=cp') (by walk_at "o") (aq' (mC ⟨⟨_,_,_,(O1).mono (by omega),m1,F1.kp,b1⟩,mN⟩)) mN ⟨n1,n2,n3⟩ (show tld dh'=false by decide +kernel) (show hat dh'=false by decide +kernel) rfl rfl (iE' rfl (show aw' _ "exchanged"=some (bb') from ab') )
 have O8:=ai' (P:=l.prog) (w:=w) (mg:=mg) (base:=base) (k:=1) F8 { N:=du',B:=cO',K:=K,fs:=aw' [("sum_of",bv'),("sums",co')] } j6' rfl cG' mY' (sp:=c5') (by walk_at "o") (aq' (mC ⟨⟨_,_,_,(O2).mono (by omega),m2,F2.kp,b2⟩,(mC ⟨⟨_,_,_,(O3).mono (by omega),m3,F3.kp,b3⟩,mN⟩)⟩)) (mC ⟨n8,mN⟩) ⟨n1,n2,n3⟩ (show tld cO'=false by decide +kernel) (show hat cO'=false by decide +kernel) rfl rfl (hI' rfl (show aw' _ "sum_of"=some (bv') from ab') (show aw' _ "sums"=some (co') from((aa' (by decide +kernel)).trans ab')) )
 have O9:=ai' (P:=l.prog) (w:=w) (mg:=mg) (base:=base) (k:=0) F9 { N:=by',B:=a3',K:=K,fs:=aw' [] } mZ' rfl a2' oW' (sp:=aG') (by walk_at "o") (aq' mN) (mC ⟨n7,mN⟩) ⟨n1,n2,n3⟩ (show tld a3'=false by decide +kernel) (show hat a3'=false by decide +kernel) rfl rfl (iF' rfl  )
 have O10:=ai' (P:=l.prog) (w:=w) (mg:=mg) (base:=base) (k:=0) F10 { N:=bn',B:=aT',K:=K,fs:=aw' [] } wy' rfl aQ' zw' (sp:=hK') (by walk_at "o") (aq' mN) mN ⟨n1,n2,n3⟩ (show tld aT'=false by decide +kernel) (show hat aT'=false by decide +kernel) rfl rfl (ow' rfl  )
 have O11:=ai' (P:=l.prog) (w:=w) (mg:=mg) (base:=base) (k:=1) F11 { N:=ce',B:=bz',K:=K,fs:=aw' [("balanced_count",aG'),("count_by_nought",hK')] } wz' rfl K56.bw' zx' (sp:=K56.iH') (by walk_at "o") (aq' (mC ⟨⟨_,_,_,(O9).mono (by omega),m9,F9.kp,b9⟩,(mC ⟨⟨_,_,_,(O10).mono (by omega),m10,F10.kp,b10⟩,mN⟩)⟩)) (mC ⟨n7,(mC ⟨n9,mN⟩)⟩) ⟨n1,n2,n3⟩ (show tld bz'=false by decide +kernel) (show hat bz'=false by decide +kernel) rfl rfl (K56.oA' rfl (show aw' _ "balanced_count"=some (aG') from ab') (show aw' _ "count_by_nought"=some (hK') from((aa' (by decide +kernel)).trans ab')) )
 have O12:=ai' (P:=l.prog) (w:=w) (mg:=mg) (base:=base) (k:=1) F12 { N:=bo',B:=aU',K:=K,fs:=aw' [("sum_of",bv'),("balanced_count",aG'),("count_by_nought",hK')] } sA' rfl K56.aR' wA' (sp:=K56.c6') (by walk_at "o") (aq' (mC ⟨⟨_,_,_,(O2).mono (by omega),m2,F2.kp,b2⟩,(mC ⟨⟨_,_,_,(O9).mono (by omega),m9,F9.kp,b9⟩,(mC ⟨⟨_,_,_,(O10).mono (by omega),m10,F10.kp,b10⟩,mN⟩)⟩)⟩)) (mC ⟨n8,(mC ⟨n6,mN⟩)⟩) ⟨n1,n2,n3⟩ (show tld aU'=false by decide +kernel) (show hat aU'=false by decide +kernel) rfl rfl (K56.mo' rfl (show aw' _ "sum_of"=some (bv') from ab') (show aw' _ "balanced_count"=some (aG') from((aa' (by decide +kernel)).trans ab')) (show aw' _ "count_by_nought"=some (hK') from((aa' (by decide +kernel)).trans ((aa' (by decide +kernel)).trans ab'))) )
 have O13:=ai' (P:=l.prog) (w:=w) (mg:=mg) (base:=base) (k:=1) F13 { N:=c8',B:=cs',K:=K,fs:=aw' [("balanced_count",aG')] } zy' rfl ct' A1' (sp:=pP') (by walk_at "o") (aq' (mC ⟨⟨_,_,_,(O9).mono (by omega),m9,F9.kp,b9⟩,mN⟩)) mN ⟨n1,n2,n3⟩ (show tld cs'=false by decide +kernel) (show hat cs'=false by decide +kernel) rfl rfl (sb' rfl (show aw' _ "balanced_count"=some (aG') from ab') )
 have O14:=ai' (P:=l.prog) (w:=w) (mg:=mg) (base:=base) (k:=2) F14 { N:=bp',B:=aV',K:=K,fs:=aw' [("turning",c5'),("balanced_at",K56.iH'),("head_for",pP'),("turned",cp')] } zz' rfl aW' A2' (sp:=kb') (by walk_at "o") (aq' (mC ⟨⟨_,_,_,(O8).mono (by omega),m8,F8.kp,b8⟩,(mC ⟨⟨_,_,_,(O11).mono (by omega),m11,F11.kp,b11⟩,(mC ⟨⟨_,_,_,(O13).mono (by omega),m13,F13.kp,b13⟩,(mC ⟨⟨_,_,_,(O7).mono (by omega),m7,F7.kp,b7⟩,mN⟩)⟩)⟩)⟩)) (mC ⟨n6,mN⟩) ⟨n1,n2,n3⟩ (show tld aV'=false by decide +kernel) (show hat aV'=false by decide +kernel) rfl rfl (sf' rfl (show aw' _ "turning"=some (c5') from ab') (show aw' _ "balanced_at"=some (K56.iH') from((aa' (by decide +kernel)).trans ab')) (show aw' _ "head_for"=some (pP') from((aa' (by decide +kernel)).trans ((aa' (by decide +kernel)).trans ab'))) (show aw' _ "turned"=some (cp') from((aa' (by decide +kernel)).trans ((aa' (by decide +kernel)).trans ((aa' (by decide +kernel)).trans ab')))) )
 have O15:=ai' (P:=l.prog) (w:=w) (mg:=mg) (base:=base) (k:=3) F15 { N:=bS',B:=bi',K:=K,fs:=aw' [("head_for",pP'),("turned",cp'),("balanced_number",K56.c6'),("balance_written",kb')] } zA' rfl bj' A3' (sp:=wm') (by walk_at "o") (aq' (mC ⟨⟨_,_,_,(O13).mono (by omega),m13,F13.kp,b13⟩,(mC ⟨⟨_,_,_,(O7).mono (by omega),m7,F7.kp,b7⟩,(mC ⟨⟨_,_,_,(O12).mono (by omega),m12,F12.kp,b12⟩,(mC ⟨⟨_,_,_,(O14).mono (by omega),m14,F14.kp,b14⟩,mN⟩)⟩)⟩)⟩)) (mC ⟨n6,mN⟩) ⟨n1,n2,n3⟩ (show tld bi'=false by decide +kernel) (show hat bi'=false by decide +kernel) rfl rfl (sg' rfl (show aw' _ "head_for"=some (pP') from ab') (show aw' _ "turned"=some (cp') from((aa' (by decide +kernel)).trans ab')) (show aw' _ "balanced_number"=some (K56.c6') from((aa' (by decide +kernel)).trans ((aa' (by decide +kernel)).trans ab'))) (show aw' _ "balance_written"=some (kb') from((aa' (by decide +kernel)).trans ((aa' (by decide +kernel)).trans ((aa' (by decide +kernel)).trans ab')))) )
 have O16:=ai' (P:=l.prog) (w:=w) (mg:=mg) (base:=base) (k:=2) F16 { N:=bG',B:=a9',K:=K,fs:=aw' [("exchanged",bb'),("sum_of",bv'),("whole_blocks",cv')] } zB' rfl ba' A4' (sp:=wq') (by walk_at "o") (aq' (mC ⟨⟨_,_,_,(O1).mono (by omega),m1,F1.kp,b1⟩,(mC ⟨⟨_,_,_,(O2).mono (by omega),m2,F2.kp,b2⟩,(mC ⟨⟨_,_,_,(O6).mono (by omega),m6,F6.kp,b6⟩,mN⟩)⟩)⟩)) (mC ⟨n10,mN⟩) ⟨n1,n2,n3⟩ (show tld a9'=false by decide +kernel) (show hat a9'=false by decide +kernel) rfl rfl (sm' rfl (show aw' _ "exchanged"=some (bb') from ab') (show aw' _ "sum_of"=some (bv') from((aa' (by decide +kernel)).trans ab')) (show aw' _ "whole_blocks"=some (cv') from((aa' (by decide +kernel)).trans ((aa' (by decide +kernel)).trans ab'))) )
 have O17:=ai' (P:=l.prog) (w:=w) (mg:=mg) (base:=base) (k:=2) F17 { N:=cz',B:=bK',K:=K,fs:=aw' [("exchanged",bb'),("whole_blocks",cv')] } zC' rfl bL' A5' (sp:=wr') (by walk_at "o") (aq' (mC ⟨⟨_,_,_,(O1).mono (by omega),m1,F1.kp,b1⟩,(mC ⟨⟨_,_,_,(O6).mono (by omega),m6,F6.kp,b6⟩,mN⟩)⟩)) mN ⟨n1,n2,n3⟩ (show tld bK'=false by decide +kernel) (show hat bK'=false by decide +kernel) rfl rfl (sn' rfl (show aw' _ "exchanged"=some (bb') from ab') (show aw' _ "whole_blocks"=some (cv') from((aa' (by decide +kernel)).trans ab')) )
 have O18:=ai' (P:=l.prog) (w:=w) (mg:=mg) (base:=base) (k:=0) F18 { N:=bT',B:=bk',K:=K,fs:=aw' [] } wB' rfl K04.bf' zD' (sp:=K04.mH') (by walk_at "o") (aq' mN) (mC ⟨n11,(mC ⟨n12,mN⟩)⟩) ⟨n1,n2,n3⟩ (show tld bk'=false by decide +kernel) (show hat bk'=false by decide +kernel) rfl rfl (K04.oI' rfl  )
 have O19:=ai' (P:=l.prog) (w:=w) (mg:=mg) (base:=base) (k:=0) F19 { N:=dv',B:=cP',K:=K,fs:=aw' [] } sB' rfl cI' wC' (sp:=hO') (by walk_at "o") (aq' mN) (mC ⟨n13,mN⟩) ⟨n1,n2,n3⟩ (show tld cP'=false by decide +kernel) (show hat cP'=false by decide +kernel) rfl rfl (mr' rfl  )
 have O20:=ai' (P:=l.prog) (w:=w) (mg:=mg) (base:=base) (k:=0) F20 { N:=dw',B:=cQ',K:=K,fs:=aw' [] } sC' rfl cJ' wD' (sp:=fn') (by walk_at "o") (aq' mN) (mC ⟨n8,(mC ⟨n14,mN⟩)⟩) ⟨n1,n2,n3⟩ (show tld cQ'=false by decide +kernel) (show hat cQ'=false by decide +kernel) rfl rfl (j0' rfl  )
 have O21:=ai' (P:=l.prog) (w:=w) (mg:=mg) (base:=base) (k:=1) F21 { N:=dx',B:=cR',K:=K,fs:=aw' [("lasting",hO'),("part_of",fn')] } sD' rfl cK' wE' (sp:=fo') (by walk_at "o") (aq' (mC ⟨⟨_,_,_,(O19).mono (by omega),m19,F19.kp,b19⟩,(mC ⟨⟨_,_,_,(O20).mono (by omega),m20,F20.kp,b20⟩,mN⟩)⟩)) (mC ⟨n6,(mC ⟨n15,(mC ⟨n7,mN⟩)⟩)⟩) ⟨n1,n2,n3⟩ (show tld cR'=false by decide +kernel) (show hat cR'=false by decide +kernel) rfl rfl (j1' rfl (show aw' _ "lasting"=some (hO') from ab') (show aw' _ "part_of"=some (fn') from((aa' (by decide +kernel)).trans ab')) )
 have O22:=ai' (P:=l.prog) (w:=w) (mg:=mg) (base:=base) (k:=0) F22 { N:=bq',B:=aX',K:=K,fs:=aw' [] } wF' rfl aS' zE' (sp:=mv') (by walk_at "o") (aq' mN) (mC ⟨n15,(mC ⟨n7,mN⟩)⟩) ⟨n1,n2,n3⟩ (show tld aX'=false by decide +kernel) (show hat aX'=false by decide +kernel) rfl rfl (oD' rfl  )
 have O23:=ai' (P:=l.prog) (w:=w) (mg:=mg) (base:=base) (k:=0) F23 { N:=cf',B:=bA',K:=K,fs:=aw' [] } zF' rfl bx' A6' (sp:=mx') (by walk_at "o") (aq' mN) mN ⟨n1,n2,n3⟩ (show tld bA'=false by decide +kernel) (show hat bA'=false by decide +kernel) rfl rfl (oE' rfl  )
 have O24:=ai' (P:=l.prog) (w:=w) (mg:=mg) (base:=base) (k:=1) F24 { N:=a4',B:=aI',K:=K,fs:=aw' [("room_behind",mx')] } wG' rfl aH' zG' (sp:=hV') (by walk_at "o") (aq' (mC ⟨⟨_,_,_,(O23).mono (by omega),m23,F23.kp,b23⟩,mN⟩)) (mC ⟨n8,(mC ⟨n14,mN⟩)⟩) ⟨n1,n2,n3⟩ (show tld aI'=false by decide +kernel) (show hat aI'=false by decide +kernel) rfl rfl (mB' rfl (show aw' _ "room_behind"=some (mx') from ab') )
 have O25:=ai' (P:=l.prog) (w:=w) (mg:=mg) (base:=base) (k:=2) F25 { N:=cA',B:=bM',K:=K,fs:=aw' [("trimmed",fo'),("machine_in_bounds",hV'),("rooms_in_bounds",mv')] } wH' rfl bJ' zH' (sp:=K04.hX') (by walk_at "o") (aq' (mC ⟨⟨_,_,_,(O21).mono (by omega),m21,F21.kp,b21⟩,(mC ⟨⟨_,_,_,(O24).mono (by omega),m24,F24.kp,b24⟩,(mC ⟨⟨_,_,_,(O22).mono (by omega),m22,F22.kp,b22⟩,mN⟩)⟩)⟩)) mN ⟨n1,n2,n3⟩ (show tld bM'=false by decide +kernel) (show hat bM'=false by decide +kernel) rfl rfl (K04.mF' rfl (show aw' _ "trimmed"=some (fo') from ab') (show aw' _ "machine_in_bounds"=some (hV') from((aa' (by decide +kernel)).trans ab')) (show aw' _ "rooms_in_bounds"=some (mv') from((aa' (by decide +kernel)).trans ((aa' (by decide +kernel)).trans ab'))) )
 have O26:=ai' (P:=l.prog) (w:=w) (mg:=mg) (base:=base) (k:=3) F26 { N:=c9',B:=cu',K:=K,fs:=aw' [("machine_of",K04.hX'),("rooms_behind",K04.mH')] } oX' rfl K04.cr' sE' (sp:=K04.dt') (by walk_at "o") (aq' (mC ⟨⟨_,_,_,(O25).mono (by omega),m25,F25.kp,b25⟩,(mC ⟨⟨_,_,_,(O18).mono (by omega),m18,F18.kp,b18⟩,mN⟩)⟩)) (mC ⟨n8,(mC ⟨n6,(mC ⟨n15,(mC ⟨n7,mN⟩)⟩)⟩)⟩) ⟨n1,n2,n3⟩ (show tld cu'=false by decide +kernel) (show hat cu'=false by decide +kernel) rfl rfl (K04.j2' rfl (show aw' _ "machine_of"=some (K04.hX') from ab') (show aw' _ "rooms_behind"=some (K04.mH') from((aa' (by decide +kernel)).trans ab')) )
 have O27:=ai' (P:=l.prog) (w:=w) (mg:=mg) (base:=base) (k:=4) F27 { N:=fq',B:=dX',K:=K,fs:=aw' [("fault_at",K04.dt')] } oY' rfl K04.dV' sF' (sp:=K04.ee') (by walk_at "o") (aq' (mC ⟨⟨_,_,_,(O26).mono (by omega),m26,F26.kp,b26⟩,mN⟩)) mN ⟨n1,n2,n3⟩ (show tld dX'=false by decide +kernel) (show hat dX'=false by decide +kernel) rfl rfl (K04.j3' rfl (show aw' _ "fault_at"=some (K04.dt') from ab') )
 have O28:=ai' (P:=l.prog) (w:=w) (mg:=mg) (base:=base) (k:=1) F28 { N:=dy',B:=cS',K:=K,fs:=aw' [("exchanged",bb')] } wI' rfl K61.cH' zI' (sp:=K61.aZ') (by walk_at "o") (aq' (mC ⟨⟨_,_,_,(O1).mono (by omega),m1,F1.kp,b1⟩,mN⟩)) mN ⟨n1,n2,n3⟩ (show tld cS'=false by decide +kernel) (show hat cS'=false by decide +kernel) rfl rfl (K61.hN' rfl (show aw' _ "exchanged"=some (bb') from ab') )
 have O29:=ai' (P:=l.prog) (w:=w) (mg:=mg) (base:=base) (k:=2) F29 { N:=cT',B:=b1',K:=K,fs:=aw' [("stuffed",K61.aZ')] } wJ' rfl K61.bV' zJ' (sp:=K61.eu') (by walk_at "o") (aq' (mC ⟨⟨_,_,_,(O28).mono (by omega),m28,F28.kp,b28⟩,mN⟩)) (mC ⟨n8,mN⟩) ⟨n1,n2,n3⟩ (show tld b1'=false by decide +kernel) (show hat b1'=false by decide +kernel) rfl rfl (K61.mq' rfl (show aw' _ "stuffed"=some (K61.aZ') from ab') )
 have O30:=ai' (P:=l.prog) (w:=w) (mg:=mg) (base:=base) (k:=0) F30 { N:=dY',B:=da',K:=K,fs:=aw' [] } sG' rfl dS' wK' (sp:=fU' K) (by walk_at "o") (aq' mN) (mC ⟨n6,mN⟩) ⟨n1,n2,n3⟩ (show tld da'=false by decide +kernel) (show hat da'=false by decide +kernel) rfl rfl (l6' (C:={ N:=dY',B:=da',K:=K,fs:=aw' [] }) rfl  )
 have O31:=vP' (ai' (P:=l.prog) (w:=w) (mg:=mg) (base:=base) (k:=1) F31 { N:=oJ',B:=mJ',K:=K,fs:=aw' [("_law_cell_at",fU' K)] } wL' rfl oq' zK' (sp:=l7' K) (by walk_at "o") (aq' (mC ⟨⟨_,_,_,(O30).mono (by omega),m30,F30.kp,b30⟩,mN⟩)) (mC ⟨n10,(mC ⟨n11,mN⟩)⟩) ⟨n1,n2,n3⟩ (show tld mJ'=false by decide +kernel) (show hat mJ'=false by decide +kernel) rfl rfl (ou' (C:={ N:=oJ',B:=mJ',K:=K,fs:=aw' [("_law_cell_at",fU' K)] }) rfl (show aw' _ "_law_cell_at"=some (fU' K) from ab') ))
 have O32:=rJ' rfl (ai' (P:=l.prog) (w:=w) (mg:=mg) (base:=base) (k:=0) F32 { N:=mK',B:=jn',K:=K,fs:=aw' [] } sH' rfl jd' wM' (sp:=gq') (by walk_at "o") (aq' mN) mN ⟨n1,n2,n3⟩ (show tld jn'=false by decide +kernel) (show hat jn'=false by decide +kernel) rfl rfl (l8' rfl  ))
 have O33:=ai' (P:=l.prog) (w:=w) (mg:=mg) (base:=base) (k:=1) F33 { N:=sa',B:=oK',K:=K,fs:=aw' [("_law_take",c4')] } wN' rfl or' zL' (sp:=iC') (by walk_at "o") (aq' (mC ⟨⟨_,_,_,(O32).mono (by omega),m32,F32.kp,b32⟩,mN⟩)) (mC ⟨n11,(mC ⟨n6,mN⟩)⟩) ⟨n1,n2,n3⟩ (show tld oK'=false by decide +kernel) (show hat oK'=false by decide +kernel) rfl rfl (ov' rfl (show aw' _ "_law_take"=some (c4') from ab') )
 have O34:=ai' (P:=l.prog) (w:=w) (mg:=mg) (base:=base) (k:=0) F34 { N:=gy',B:=eI',K:=K,fs:=aw' [] } j7' rfl a8' m0' (sp:=bW') (by walk_at "o") (aq' mN) (mC ⟨n6,(mC ⟨n7,mN⟩)⟩) ⟨n1,n2,n3⟩ (show tld eI'=false by decide +kernel) (show hat eI'=false by decide +kernel) rfl rfl (fp' rfl  )
 have O35:=ai' (P:=l.prog) (w:=w) (mg:=mg) (base:=base) (k:=4) F35 { N:=cg',B:=bB',K:=K,fs:=aw' [("_law_blocks",bW'),("balance_written",kb'),("sum_of",bv'),("spread_of",dZ'),("sums",co'),("balance_read",wm')] } sI' rfl bC' wO' (sp:=fX') (by walk_at "o") (aq' (mC ⟨⟨_,_,_,(O34).mono (by omega),m34,F34.kp,b34⟩,(mC ⟨⟨_,_,_,(O14).mono (by omega),m14,F14.kp,b14⟩,(mC ⟨⟨_,_,_,(O2).mono (by omega),m2,F2.kp,b2⟩,(mC ⟨⟨_,_,_,(O4).mono (by omega),m4,F4.kp,b4⟩,(mC ⟨⟨_,_,_,(O3).mono (by omega),m3,F3.kp,b3⟩,(mC ⟨⟨_,_,_,(O15).mono (by omega),m15,F15.kp,b15⟩,mN⟩)⟩)⟩)⟩)⟩)⟩)) (mC ⟨n16,(mC ⟨n6,mN⟩)⟩) ⟨n1,n2,n3⟩ (show tld bB'=false by decide +kernel) (show hat bB'=false by decide +kernel) rfl rfl (mT' rfl ⟨(show aw' _ "_law_blocks"=some (bW') from ab'),(show aw' _ "balance_written"=some (kb') from((aa' (by decide +kernel)).trans ab')),(show aw' _ "sum_of"=some (bv') from((aa' (by decide +kernel)).trans ((aa' (by decide +kernel)).trans ab'))),(show aw' _ "spread_of"=some (dZ') from((aa' (by decide +kernel)).trans ((aa' (by decide +kernel)).trans ((aa' (by decide +kernel)).trans ab')))),(show aw' _ "sums"=some (co') from((aa' (by decide +kernel)).trans ((aa' (by decide +kernel)).trans ((aa' (by decide +kernel)).trans ((aa' (by decide +kernel)).trans ab'))))),(show aw' _ "balance_read"=some (wm') from((aa' (by decide +kernel)).trans ((aa' (by decide +kernel)).trans ((aa' (by decide +kernel)).trans ((aa' (by decide +kernel)).trans ((aa' (by decide +kernel)).trans ab'))))))⟩ )
 have O36:=ai' (P:=l.prog) (w:=w) (mg:=mg) (base:=base) (k:=5) F36 { N:=ch',B:=bD',K:=K,fs:=aw' [("stuffed",K61.aZ'),("keeps",K04.ee'),("unstuffed",K61.eu'),("exchanged",bb')] } sJ' rfl bE' wP' (sp:=j4') (by walk_at "o") (aq' (mC ⟨⟨_,_,_,(O28).mono (by omega),m28,F28.kp,b28⟩,(mC ⟨⟨_,_,_,(O27).mono (by omega),m27,F27.kp,b27⟩,(mC ⟨⟨_,_,_,(O29).mono (by omega),m29,F29.kp,b29⟩,(mC ⟨⟨_,_,_,(O1).mono (by omega),m1,F1.kp,b1⟩,mN⟩)⟩)⟩)⟩)) (mC ⟨n6,mN⟩) ⟨n1,n2,n3⟩ (show tld bD'=false by decide +kernel) (show hat bD'=false by decide +kernel) rfl rfl (oO' rfl ⟨(show aw' _ "stuffed"=some (K61.aZ') from ab'),(show aw' _ "keeps"=some (K04.ee') from((aa' (by decide +kernel)).trans ab')),(show aw' _ "unstuffed"=some (K61.eu') from((aa' (by decide +kernel)).trans ((aa' (by decide +kernel)).trans ab'))),(show aw' _ "exchanged"=some (bb') from((aa' (by decide +kernel)).trans ((aa' (by decide +kernel)).trans ((aa' (by decide +kernel)).trans ab'))))⟩ )
 have O37:=ai' (P:=l.prog) (w:=w) (mg:=mg) (base:=base) (k:=3) F37 { N:=cU',B:=b2',K:=K,fs:=aw' [("flags_written",wq'),("sums",co'),("flags_read",wr'),("unstuffed",K61.eu'),("stuffed",K61.aZ')] } sK' rfl b3' wQ' (sp:=j5') (by walk_at "o") (aq' (mC ⟨⟨_,_,_,(O16).mono (by omega),m16,F16.kp,b16⟩,(mC ⟨⟨_,_,_,(O3).mono (by omega),m3,F3.kp,b3⟩,(mC ⟨⟨_,_,_,(O17).mono (by omega),m17,F17.kp,b17⟩,(mC ⟨⟨_,_,_,(O29).mono (by omega),m29,F29.kp,b29⟩,(mC ⟨⟨_,_,_,(O28).mono (by omega),m28,F28.kp,b28⟩,mN⟩)⟩)⟩)⟩)⟩)) (mC ⟨n10,(mC ⟨n6,(mC ⟨n4,mN⟩)⟩)⟩) ⟨n1,n2,n3⟩ (show tld b2'=false by decide +kernel) (show hat b2'=false by decide +kernel) rfl rfl (oP' rfl ⟨(show aw' _ "flags_written"=some (wq') from ab'),(show aw' _ "sums"=some (co') from((aa' (by decide +kernel)).trans ab')),(show aw' _ "flags_read"=some (wr') from((aa' (by decide +kernel)).trans ((aa' (by decide +kernel)).trans ab'))),(show aw' _ "unstuffed"=some (K61.eu') from((aa' (by decide +kernel)).trans ((aa' (by decide +kernel)).trans ((aa' (by decide +kernel)).trans ab')))),(show aw' _ "stuffed"=some (K61.aZ') from((aa' (by decide +kernel)).trans ((aa' (by decide +kernel)).trans ((aa' (by decide +kernel)).trans ((aa' (by decide +kernel)).trans ab')))))⟩ )
 exact ai' (P:=l.prog) (w:=w) (mg:=mg) (base:=base) (k:=59) F38 { N:=oL',B:=mL',K:=K,fs:=aw' [("_law_box",hF' K),("_law_row",iC'),("_law_take",c4'),("_law_balance_right",fX'),("_law_stuffed_right",j4'),("_law_flags_right",j5'),("balance_written",kb'),("balanced_number",K56.c6'),("exchanged",bb'),("balanced_count",aG')] } wR' rfl oM' zM' (sp:=mU' K) (by walk_at "o") (aq' (mC ⟨⟨_,_,_,(O31).mono (by omega),m31,F31.kp,b31⟩,(mC ⟨⟨_,_,_,(O33).mono (by omega),m33,F33.kp,b33⟩,(mC ⟨⟨_,_,_,(O32).mono (by omega),m32,F32.kp,b32⟩,(mC ⟨⟨_,_,_,(O35).mono (by omega),m35,F35.kp,b35⟩,(mC ⟨⟨_,_,_,(O36).mono (by omega),m36,F36.kp,b36⟩,(mC ⟨⟨_,_,_,(O37).mono (by omega),m37,F37.kp,b37⟩,(mC ⟨⟨_,_,_,(O14).mono (by omega),m14,F14.kp,b14⟩,(mC ⟨⟨_,_,_,(O12).mono (by omega),m12,F12.kp,b12⟩,(mC ⟨⟨_,_,_,(O1).mono (by omega),m1,F1.kp,b1⟩,(mC ⟨⟨_,_,_,(O9).mono (by omega),m9,F9.kp,b9⟩,mN⟩)⟩)⟩)⟩)⟩)⟩)⟩)⟩)⟩)⟩)) (mC ⟨n6,(mC ⟨n5,(mC ⟨n7,mN⟩)⟩)⟩) ⟨n1,n2,n3⟩ (show tld mL'=false by decide +kernel) (show hat mL'=false by decide +kernel) rfl rfl (oQ' (C:={ N:=oL',B:=mL',K:=K,fs:=aw' [("_law_box",hF' K),("_law_row",iC'),("_law_take",c4'),("_law_balance_right",fX'),("_law_stuffed_right",j4'),("_law_flags_right",j5'),("balance_written",kb'),("balanced_number",K56.c6'),("exchanged",bb'),("balanced_count",aG')] }) rfl ⟨(show aw' _ "_law_box"=some (hF' K) from ab'),(show aw' _ "_law_row"=some (iC') from((aa' (by decide +kernel)).trans ab')),(show aw' _ "_law_take"=some (c4') from((aa' (by decide +kernel)).trans ((aa' (by decide +kernel)).trans ab'))),(show aw' _ "_law_balance_right"=some (fX') from((aa' (by decide +kernel)).trans ((aa' (by decide +kernel)).trans ((aa' (by decide +kernel)).trans ab')))),(show aw' _ "_law_stuffed_right"=some (j4') from((aa' (by decide +kernel)).trans ((aa' (by decide +kernel)).trans ((aa' (by decide +kernel)).trans ((aa' (by decide +kernel)).trans ab'))))),(show aw' _ "_law_flags_right"=some (j5') from((aa' (by decide +kernel)).trans ((aa' (by decide +kernel)).trans ((aa' (by decide +kernel)).trans ((aa' (by decide +kernel)).trans ((aa' (by decide +kernel)).trans ab')))))),(show aw' _ "balance_written"=some (kb') from((aa' (by decide +kernel)).trans ((aa' (by decide +kernel)).trans ((aa' (by decide +kernel)).trans ((aa' (by decide +kernel)).trans ((aa' (by decide +kernel)).trans ((aa' (by decide +kernel)).trans ab'))))))),(show aw' _ "balanced_number"=some (K56.c6') from((aa' (by decide +kernel)).trans ((aa' (by decide +kernel)).trans ((aa' (by decide +kernel)).trans ((aa' (by decide +kernel)).trans ((aa' (by decide +kernel)).trans ((aa' (by decide +kernel)).trans ((aa' (by decide +kernel)).trans ab')))))))),(show aw' _ "exchanged"=some (bb') from((aa' (by decide +kernel)).trans ((aa' (by decide +kernel)).trans ((aa' (by decide +kernel)).trans ((aa' (by decide +kernel)).trans ((aa' (by decide +kernel)).trans ((aa' (by decide +kernel)).trans ((aa' (by decide +kernel)).trans ((aa' (by decide +kernel)).trans ab'))))))))),(show aw' _ "balanced_count"=some (aG') from((aa' (by decide +kernel)).trans ((aa' (by decide +kernel)).trans ((aa' (by decide +kernel)).trans ((aa' (by decide +kernel)).trans ((aa' (by decide +kernel)).trans ((aa' (by decide +kernel)).trans ((aa' (by decide +kernel)).trans ((aa' (by decide +kernel)).trans ((aa' (by decide +kernel)).trans ab'))))))))))⟩ )
theorem A7' {l:W.OpenLaw} {q:Program} {loose:List Str} {XP:(Str->Option Value)->Heap->Prop} {d:DefRec} {K:Params->W.Frag} {bs:List Addr} {m t:Nat} (hn:l.most=some 63) (hdf:d.params.defaults=[]) (e:∀P,bs=(K P).map (·.1))
  (F:∀(w:World) (mg:Str->Option Value) (fa:Addr) (h:Heap),(K w.params).In h->h.Ns mainGlobals mg->mg d.name=some (.ref fa)->
   ∃fd:FuncData,(∀(s:Shared) (u:Value),BindsTo s fd ⟨[u],[]⟩ [("_law_script",u)])/\∀base:Heap,(K w.params).In base->base.Ns mainGlobals mg->FnOk l.prog w (K w.params) mg base CX0 60 fa fd ["_law_script"] (mU' (K w.params))):
  W.WalkX q loose XP (W.X.obsZ bs) (W.X.valZ K m t) l.row.toRowW d [] (fun f vs=>PySem.call f vs):=
 fun w s₀ s₁ mg mb G y a o pm cd doc dV kV h1 h2 h3 h4 h5 h6 args vals cs La=>L2.qj' (YP:=fun w h=>(K w.params).In h) (n:=63) (k:=60) (x:="_law_script") (CX:=fun _=>CX0) (sp:=fun w=>mU' (K w.params)) hn (by decide) hdf ⟨rfl,by decide,by decide,rfl⟩ (fun _ _ Y=>Y) F (fun _ _ a ns hl _ hS=>⟨a,ns,rfl,hS,hl,fun _=>rfl⟩) (fun _ _ _ _ _ z=>z) w s₀ s₁ mg mb G (W.InK.keeps w _ _ (W.X.z_facts e y).2.1 La.keeps) a o pm cd doc dV kV h1 h2 h3 h4 h5 h6 args vals cs
end K64
end
open PySem PySem.W PyProof.Rows
noncomputable def PySem.W.Fast.tw16430689107988847839:Nat:=0
noncomputable def PySem.W.Fast.tw13636748024557923557:Nat:=0
noncomputable def PySem.W.Fast.tw11970252438859774211:Nat:=0
noncomputable def PySem.W.Fast.tw11005043161919732119:Nat:=0
noncomputable def PySem.W.Fast.tw1678790074303880142:Nat:=0
noncomputable def PySem.W.Fast.tw7054092816603625342:Nat:=0
noncomputable def PySem.W.Fast.tw15025663127613533040:Nat:=0
noncomputable def PySem.W.Fast.tw11265185660419738857:Nat:=0
noncomputable def PySem.W.Fast.tw169456815296935859:Nat:=0
noncomputable def PySem.W.Fast.tw6906092445435311337:Nat:=0
noncomputable def PySem.W.Fast.tw1455488629509151182:Nat:=0
noncomputable def PySem.W.Fast.tw17650291252111586522:Nat:=0
noncomputable def PySem.W.Fast.tw5138070947877106421:Nat:=0
noncomputable def PySem.W.Fast.tw10681089032094383618:Nat:=0
noncomputable def PySem.W.Fast.tw1234637928891821999:Nat:=0
noncomputable def PySem.W.Fast.tw11191309261309023303:Nat:=0
noncomputable def PySem.W.Fast.tw4862754606075695029:Nat:=0
noncomputable def PySem.W.Fast.tw17917256284800532080:Nat:=0
noncomputable def PySem.W.Fast.tw10921314204473213304:Nat:=0
noncomputable def PySem.W.Fast.tw16121088619747201091:Nat:=0
noncomputable def PySem.W.Fast.tw10922588559584152969:Nat:=0
noncomputable def PySem.W.Fast.tw9729416310276904140:Nat:=0
noncomputable def PySem.W.Fast.tw6876224069562800982:Nat:=0
noncomputable def PySem.W.Fast.tw3369237684696023845:Nat:=0
noncomputable def PySem.W.Fast.tw14941921607278786039:Nat:=0
noncomputable def PySem.W.Fast.tw335076582357840324:Nat:=0
noncomputable def PySem.W.Fast.tw4245720518609432578:Nat:=0
noncomputable def PySem.W.Fast.tw12872620323287427631:Nat:=0
noncomputable def PySem.W.Fast.tw12860904785846034726:Nat:=0
noncomputable def PySem.W.Fast.tw5690218960807145628:Nat:=0
noncomputable def PySem.W.Fast.tw6771754004910954782:Nat:=0
noncomputable def PySem.W.Fast.tw4659374019832391043:Nat:=0
noncomputable def PySem.W.Fast.tw14679032946104886592:Nat:=0
noncomputable def PySem.W.Fast.tw15637399488440227850:Nat:=0
noncomputable def PySem.W.Fast.tw3949556322702127870:Nat:=0
noncomputable def PySem.W.Fast.tw623816458782266980:Nat:=0
noncomputable def PySem.W.Fast.tw5914021343687493734:Nat:=0
noncomputable def PySem.W.Fast.tw3449314934522873023:Nat:=0
noncomputable def PySem.W.Fast.tw15568874079134551980:Nat:=0
noncomputable def PySem.W.Fast.tw5675775627511188410:Nat:=0
noncomputable def PySem.W.Fast.tw6612241253687136024:Nat:=0
noncomputable def PySem.W.Fast.tw3118339436876097692:Nat:=0
noncomputable def PySem.W.Fast.tw3027659941649105171:Nat:=0
noncomputable def PySem.W.Fast.tw7974934596246561967:Nat:=0
noncomputable def PySem.W.Fast.tw3318103414273642568:Nat:=0
noncomputable def PySem.W.Fast.tw12806508942952707336:Nat:=0
noncomputable def PySem.W.Fast.tw12268857384261433203:Nat:=0
noncomputable def PySem.W.Fast.tw14572040285425720474:Nat:=0
noncomputable def PySem.W.Fast.tw7800370760277515415:Nat:=0
noncomputable def PySem.W.Fast.tw15374566549513270092:Nat:=0
noncomputable def PySem.W.Fast.tw16586721331009066328:Nat:=0
noncomputable def PySem.W.Fast.tw4413336916568989877:Nat:=0
noncomputable def PySem.W.Fast.tw16713045660367323425:Nat:=0
noncomputable def PySem.W.Fast.tw18103609180723435549:Nat:=0
noncomputable def PySem.W.Fast.tw1001244211804059684:Nat:=0
noncomputable def PySem.W.Fast.tw12908281696016212149:Nat:=0
noncomputable def PySem.W.Fast.tw17787240992106588465:Nat:=0
noncomputable def PySem.W.Fast.tw1528917652736502192:Nat:=0
set_option maxRecDepth 100000 in
set_option maxHeartbeats 0 in
theorem PySem.Challenge.cw_runbound_k64_whole_sums_and_runs_holds : PySem.Challenge.rw_runbound_k64_whole_sums_and_runs.Holds := by
 w_on; o_law; z_head; (case hw => w_witness2)
 k_fill
 refine K64.A7' (l := PySem.Challenge.rw_runbound_k64_whole_sums_and_runs) rfl rfl (fun _ => rfl) ?F
 case F =>
  intro w mg fa h KX G hmg
  refine' K64.wS' KX G hmg (K64.ar' ?a1 ?l1 ?c1 ?k1) (K64.ar' ?a2 ?l2 ?c2 ?k2) (K64.ar' ?a3 ?l3 ?c3 ?k3) (K64.ar' ?a4 ?l4 ?c4 ?k4) (K64.ar' ?a5 ?l5 ?c5 ?k5) (K64.ar' ?a6 ?l6 ?c6 ?k6) (K64.ar' ?a7 ?l7 ?c7 ?k7) (K64.ar' ?a8 ?l8 ?c8 ?k8) (K64.ar' ?a9 ?l9 ?c9 ?k9) (K64.ar' ?a10 ?l10 ?c10 ?k10) (K64.ar' ?a11 ?l11 ?c11 ?k11) (K64.ar' ?a12 ?l12 ?c12 ?k12) (K64.ar' ?a13 ?l13 ?c13 ?k13) (K64.ar' ?a14 ?l14 ?c14 ?k14) (K64.ar' ?a15 ?l15 ?c15 ?k15) (K64.ar' ?a16 ?l16 ?c16 ?k16) (K64.ar' ?a17 ?l17 ?c17 ?k17) (K64.ar' ?a18 ?l18 ?c18 ?k18) (K64.ar' ?a19 ?l19 ?c19 ?k19) (K64.ar' ?a20 ?l20 ?c20 ?k20) (K64.ar' ?a21 ?l21 ?c21 ?k21) (K64.ar' ?a22 ?l22 ?c22 ?k22) (K64.ar' ?a23 ?l23 ?c23 ?k23) (K64.ar' ?a24 ?l24 ?c24 ?k24) (K64.ar' ?a25 ?l25 ?c25 ?k25) (K64.ar' ?a26 ?l26 ?c26 ?k26) (K64.ar' ?a27 ?l27 ?c27 ?k27) (K64.ar' ?a28 ?l28 ?c28 ?k28) (K64.ar' ?a29 ?l29 ?c29 ?k29) (K64.ar' ?a30 ?l30 ?c30 ?k30) (K64.ar' ?a31 ?l31 ?c31 ?k31) (K64.ar' ?a32 ?l32 ?c32 ?k32) (K64.ar' ?a33 ?l33 ?c33 ?k33) (K64.ar' ?a34 ?l34 ?c34 ?k34) (K64.ar' ?a35 ?l35 ?c35 ?k35) (K64.ar' ?a36 ?l36 ?c36 ?k36) (K64.ar' ?a37 ?l37 ?c37 ?k37) (K64.ar' ?a38 ?l38 ?c38 ?k38) ?z1 ?z2 ?z3 ?z4 ?z5 ?z6 ?z7 ?z8 ?z9 ?z10 ?z11 ?z12 ?z13 ?z14 ?z15 ?z16 
  (case a1 => k_is); (case l1 => k_is); (case c1 => k_is); (case k1 => k_is)
  (case a2 => k_is); (case l2 => k_is); (case c2 => k_is); (case k2 => k_is)
  (case a3 => k_is); (case l3 => k_is); (case c3 => k_is); (case k3 => k_is)
  (case a4 => k_is); (case l4 => k_is); (case c4 => k_is); (case k4 => k_is)
  (case a5 => k_is); (case l5 => k_is); (case c5 => k_is); (case k5 => k_is)
  (case a6 => k_is); (case l6 => k_is); (case c6 => k_is); (case k6 => k_is)
  (case a7 => k_is); (case l7 => k_is); (case c7 => k_is); (case k7 => k_is)
  (case a8 => k_is); (case l8 => k_is); (case c8 => k_is); (case k8 => k_is)
  (case a9 => k_is); (case l9 => k_is); (case c9 => k_is); (case k9 => k_is)
  (case a10 => k_is); (case l10 => k_is); (case c10 => k_is); (case k10 => k_is)
  (case a11 => k_is); (case l11 => k_is); (case c11 => k_is); (case k11 => k_is)
  (case a12 => k_is); (case l12 => k_is); (case c12 => k_is); (case k12 => k_is)
  (case a13 => k_is); (case l13 => k_is); (case c13 => k_is); (case k13 => k_is)
  (case a14 => k_is); (case l14 => k_is); (case c14 => k_is); (case k14 => k_is)
  (case a15 => k_is); (case l15 => k_is); (case c15 => k_is); (case k15 => k_is)
  (case a16 => k_is); (case l16 => k_is); (case c16 => k_is); (case k16 => k_is)
  (case a17 => k_is); (case l17 => k_is); (case c17 => k_is); (case k17 => k_is)
  (case a18 => k_is); (case l18 => k_is); (case c18 => k_is); (case k18 => k_is)
  (case a19 => k_is); (case l19 => k_is); (case c19 => k_is); (case k19 => k_is)
  (case a20 => k_is); (case l20 => k_is); (case c20 => k_is); (case k20 => k_is)
  (case a21 => k_is); (case l21 => k_is); (case c21 => k_is); (case k21 => k_is)
  (case a22 => k_is); (case l22 => k_is); (case c22 => k_is); (case k22 => k_is)
  (case a23 => k_is); (case l23 => k_is); (case c23 => k_is); (case k23 => k_is)
  (case a24 => k_is); (case l24 => k_is); (case c24 => k_is); (case k24 => k_is)
  (case a25 => k_is); (case l25 => k_is); (case c25 => k_is); (case k25 => k_is)
  (case a26 => k_is); (case l26 => k_is); (case c26 => k_is); (case k26 => k_is)
  (case a27 => k_is); (case l27 => k_is); (case c27 => k_is); (case k27 => k_is)
  (case a28 => k_is); (case l28 => k_is); (case c28 => k_is); (case k28 => k_is)
  (case a29 => k_is); (case l29 => k_is); (case c29 => k_is); (case k29 => k_is)
  (case a30 => k_is); (case l30 => k_is); (case c30 => k_is); (case k30 => k_is)
  (case a31 => k_is); (case l31 => k_is); (case c31 => k_is); (case k31 => k_is)
  (case a32 => k_is); (case l32 => k_is); (case c32 => k_is); (case k32 => k_is)
  (case a33 => k_is); (case l33 => k_is); (case c33 => k_is); (case k33 => k_is)
  (case a34 => k_is); (case l34 => k_is); (case c34 => k_is); (case k34 => k_is)
  (case a35 => k_is); (case l35 => k_is); (case c35 => k_is); (case k35 => k_is)
  (case a36 => k_is); (case l36 => k_is); (case c36 => k_is); (case k36 => k_is)
  (case a37 => k_is); (case l37 => k_is); (case c37 => k_is); (case k37 => k_is)
  (case a38 => k_is); (case l38 => k_is); (case c38 => k_is); (case k38 => k_is)
  (case z1 => k_is)
  (case z2 => k_is)
  (case z3 => k_is)
  (case z4 => k_is)
  (case z5 => k_is)
  (case z6 => k_is)
  (case z7 => k_is)
  (case z8 => k_is)
  (case z9 => k_is)
  (case z10 => k_is)
  (case z11 => k_is)
  (case z12 => k_is)
  (case z13 => k_is)
  (case z14 => k_is)
  (case z15 => k_is)
  (case z16 => k_is)