import PyProof.Rows.All
import Wide.All
import OpenK.AllK
import Wide.FinOn
import Lean
import PyProof.EqAt
import PyProof.EqKinds
import PyProof.TupleCall
import KE.KSetDisp
import PyProof.DictFindH
import PyProof.Rows.TupAdd
import PyProof.Rows.SortStr
import PyProof.Rows.SortWalk
import PyProof.CollectIter
import PyProof.Rows.Tup
import PyProof.TupleOfSeq
import PyProof.ReprRoads
import PyProof.CallStr
import PyProof.SeqRoads2
import KE.KEqDict
import PyProof.IsiH_list
import PyProof.Rows.SetFrom
import PyProof.FactsAll.dict_1
import PyProof.SetRoads
import PyProof.TupleKey
import PyProof.IsRules
import PyProof.Rows.SortShell
import KE.KSortTup
import KE.KDictList
import KE.KUnpack
import KE.KDictSum
import PySem.Challenge.RW_runbound_k14_alike_shown
open PySem renaming wpAny_bind → aa,wpAny_pure → ab,wpAny_holding → aE,wpAny_callSpecial?_slot → aH,wpAny_newObj_type → aI,wpAny_field → aJ,wpAny_call_entry → aK,wpAny_truthy_bool → aW,wpAny_rule → bu,wpAny_seqItems → bx,wpAny_of_eq → bA,wpAny_pyIter_tuple → bB,wpAny_attempt → bH,wpAny_specialOf → bI,wpAny_setField_rec → bL,wpAny_isInstance → bM,wpAny_typeNameOfWhole_keyiter → bO,wpAny_dictEntries → bY,wpAny_passesOwn → cq,wpAny_dictEpoch → cw,wpAny_typeNameOf_keyiter → cx,wpAny_standAt → cy,wpAny_setField → cC,wpAny_Call_Name_kw → cI,wpAny_pyIter_list → cP,wpAny_typeOf → cV
open PySem.Heap renaming get?_push_of_some → ac,get?_push_size → ai,lt_size → ap,get?_update_self → aR,size_push → aS,SameBut → br,get?_update_other → cE
open List renaming getElem?_eq_getElem → ae,length_map → ah,size_toArray → aj,mem_cons → am,mem_cons_of_mem → ao,mem_cons_self → au,mem_append → aw,mem_append_right → ax,mem_of_getElem? → az,not_mem_nil → aB,getElem?_map → aC,length_append → aD,map_append → aL,getElem?_eq_some_iff → aM,forall_mem_cons → aN,replicate → aO,length_take → aP,map_cons → aQ,mem_singleton → aU,mem_map → aZ,range → bf,all_eq_true → bh,mem_range → bi,getElem?_eq_none → bn,length_cons → bo,lookup_cons → bp,getElem?_eq_none_iff → bq,take_append_drop → bv,zip → bC,mem_append_left → bD,getD_eq_getElem?_getD → bE,filterMap_cons → bF,length_reverse → bG,take_length → bN,getElem?_set_ne → bP,getElem?_of_mem → bQ,mem_of_mem_drop → bR,map_map → bU,flatten_cons → bV,append_assoc → bW,ext_getElem? → bX,take_of_length_le → ce,length_drop → cf,getElem_mem → cg,pairwise_iff_getElem → ck,pairwise_append → cm,mem_of_mem_take → cn,nodup_cons → cr,find?_cons → cu,any_cons → cz,replicate_succ → cA,map_congr_left → cB,forIn_nil → cD,mem_filterMap → cH,mem_filter → cL,foldl_cons → cM,forIn_cons → cN,getElem_drop → cQ,mem_iff_getElem → cS
open Bool renaming and_eq_true → af,false_ne_true → al,false_eq_true → bc,false_and → bj,not_eq_true' → bw,eq_iff_iff → bK,true_and → cj,and_false → cT
open Nat renaming le_refl → ag,lt_of_lt_of_le → ak,ne_of_lt → ay,le_trans → aG,zero_le → aT,lt_irrefl → aV,le_add_right → aX,ne_of_gt → bm,le_of_lt → bJ,mul_assoc → bT,le_of_lt_succ → cc,lt_succ_of_lt → cv,lt_of_le_of_lt → cJ,lt_or_ge → cO,mod_eq_of_lt → cU,mul_comm → cW,pow_succ → cX
open Array renaming length_toList → aq,getElem?_eq_getElem → aA,toList_append → bg,toList_push → bZ,getElem?_toList → ci,getElem?_eq_none → cF,mem_toList_iff → cR
open Int renaming eq_ofNat_of_zero_le → aF,toNat_natCast → ba,emod_lt_of_pos → cK
open Option renaming map → aY,map_eq_some_iff → cG,isSome → cY
set_option genSizeOf false
set_option Elab.async false
set_option compiler.extract_closed false
set_option linter.all false
set_option maxRecDepth 100000
set_option tactic.hygienic false
namespace L2
open PySem PySem.Spec PyProof.Rows
section
variable {prog:Program} {w:World} {A:Around} {E:Value->Shared->Prop} {s:Shared}
theorem bA' (s:Shared):s.TypeIs .none "NoneType":=rfl
theorem cA' {Q:Int->Shared->Prop} (h:Q 0xFCA86420 { s with toks:=s.toks+1 }):wpAny (model prog w) A (pyHash .none) Q E s:=by
 unfold pyHash
 have hv:[Value.none].any Value.onHeap=false:=rfl
 refine aa ?_
 rw[cRoomFor,if_neg (by rw[hv];exact al)];refine ab ?_
 refine aa (bI (bA' s) F.slot_NoneType_hash.lookup ?_)
 show wpAny _ _ (if(some (Value.builtin "NoneType.__hash__") == some Value.none)=true then _ else _) Q E s
 rw[if_neg (by rw[beq_builtin_none];exact al)]
 refine aa (bI (bA' s) F.slot_NoneType_hash.lookup ?_)
 show wpAny _ _ (callSpecialIfBoundUnlessNone? (.none) "__hash__" _ >>= _) Q E s
 refine aa (wpAny_callSpecialIfBoundUnlessNone?_slot (bA' s) F.slot_NoneType_hash
  (aK F.slot_NoneType_hash (bA' s) F.entry_NoneType_hash
   (show wpAny _ _ (do ret (<- mkInt 0xFCA86420)) _ _ s from wpAny_ret_mkInt ?_) (F.args_NoneType_hash_1 _)))
 exact ab h
end
inductive Key where
 |inl (i:Int)|inr (x:Str)|non
 deriving DecidableEq
def gc':Key->Value->Bool
 | .inl k,v=>Value.isInt k v
 | .inr x,v=>Value.isStrOf x v
 | .non,.none=>true
 | .non,_=>false
def yt' (w:World):Key->Int
 | .inl k=>hashInt k
 | .inr x=>hashStr w x
 | .non=>0xFCA86420
theorem aB':∀{k:Key} {v:Value},gc' k v=true->(∃i t,k=Key.inl i/\v=Value.int i t)\/(∃x t,k=Key.inr x/\v=Value.str x t)\/(k=Key.non/\v=Value.none)
 | .inl i,v,h=>by
  obtain⟨t,e⟩:=Value.isInt_shape (k:=i) (v:=v) h
  exact .inl ⟨i,t,rfl,e⟩
 | .inr x,v,h=>by
  obtain⟨t,e⟩:=Value.isStrOf_shape (x:=x) (v:=v) h
  exact .inr (.inl ⟨x,t,rfl,e⟩)
 | .non,v,h=>by cases v<;>first|exact .inr (.inr ⟨rfl,rfl⟩)|cases h
theorem iH' (i:Int) (t:Tok):gc' (.inl i) (.int i t)=true:=by simp[gc',Value.isInt]
theorem iI' (x:Str) (t:Tok):gc' (.inr x) (.str x t)=true:=by simp[gc',Value.isStrOf]
theorem qY' (a b:Int):decide ((Key.inl a:Key)=Key.inl b)=(a == b):=by
 by_cases e:a=b
 .rw[e,decide_eq_true rfl,beq_self_eq_true]
 .rw[decide_eq_false (fun q=>e (Key.inl.inj q)),beq_eq_false_iff_ne.mpr e]
theorem qZ' (a b:Str):decide ((Key.inr a:Key)=Key.inr b)=decide (a=b):=by
 by_cases e:a=b
 .rw[e,decide_eq_true rfl,decide_eq_true rfl]
 .rw[decide_eq_false (fun q=>e (Key.inr.inj q)),decide_eq_false e]
theorem eA' {a b:Key} (h:a≠b):decide (a=b)=false:=decide_eq_false h
def al' (prog:Program) (w:World):PySem.KeyKind prog w Key where
 is:=gc'
 hash:=yt' w
 inj:=fun v a b ha hb=>by
  rcases aB' ha with⟨i,t,rfl,rfl⟩|⟨x,t,rfl,rfl⟩|⟨rfl,rfl⟩<;>rcases aB' hb with⟨j,u,rfl,e⟩|⟨y,u,rfl,e⟩|⟨rfl,e⟩<;>
   first|rfl|(injection e with e1 _;rw[e1])|exact nomatch e
 byValue:=fun k v h=>by
  rcases aB' h with⟨i,t,rfl,rfl⟩|⟨x,t,rfl,rfl⟩|⟨rfl,rfl⟩<;>rfl
 pyHash:=fun hv h=>by
  rcases aB' hv with⟨i,t,rfl,rfl⟩|⟨x,t,rfl,rfl⟩|⟨rfl,rfl⟩
  .exact wpAny_pyHash_int h
  .exact wpAny_pyHash_str h
  .exact cA' h
 eqBool:=fun {A E s a b u v Q} hu hv h=>by
  rcases aB' hu with⟨i,t,rfl,rfl⟩|⟨x,t,rfl,rfl⟩|⟨rfl,rfl⟩
  .rcases aB' hv with⟨j,u,rfl,rfl⟩|⟨y,u,rfl,rfl⟩|⟨rfl,rfl⟩
   .rw[qY']at h;exact wpAny_eqBool_int h
   .rw[eA' (a:=Key.inl i) (b:=Key.inr y) (fun q=>nomatch q)]at h;exact SeqAt.EqAt.int_str i t y u _ _ _ _ h
   .rw[eA' (a:=Key.inl i) (b:=Key.non) (fun q=>nomatch q)]at h;exact SeqAt.EqAt.int_none i t _ _ _ _ h
  .rcases aB' hv with⟨j,u,rfl,rfl⟩|⟨y,u,rfl,rfl⟩|⟨rfl,rfl⟩
   .rw[eA' (a:=Key.inr x) (b:=Key.inl j) (fun q=>nomatch q)]at h;exact SeqAt.EqAt.str_int x t j u _ _ _ _ h
   .rw[qZ']at h;exact wpAny_eqBool_str h
   .rw[eA' (a:=Key.inr x) (b:=Key.non) (fun q=>nomatch q)]at h;exact SeqAt.EqAt.str_none x t _ _ _ _ h
  .rcases aB' hv with⟨j,u,rfl,rfl⟩|⟨y,u,rfl,rfl⟩|⟨rfl,rfl⟩
   .rw[eA' (a:=Key.non) (b:=Key.inl j) (fun q=>nomatch q)]at h;exact SeqAt.EqAt.none_int j u _ _ _ _ h
   .rw[eA' (a:=Key.non) (b:=Key.inr y) (fun q=>nomatch q)]at h;exact SeqAt.EqAt.none_str y u _ _ _ _ h
   .rw[decide_eq_true rfl]at h;exact SeqAt.EqAt.same .none _ _ _ _ h
 «strs»:=fun k x t v h=>by
  rcases aB' h with⟨i,u,rfl,e⟩|⟨y,u,rfl,e⟩|⟨rfl,e⟩
  .exact nomatch e
  .injection e with e1 _
   subst e1
   cases v<;>rfl
  .exact nomatch e
theorem gd' (prog:Program) (w:World) (i:Int) (t:Tok):(al' prog w).is (.inl i) (.int i t)=true:=iH' i t
theorem ge' (prog:Program) (w:World) (x:Str) (t:Tok):(al' prog w).is (.inr x) (.str x t)=true:=iI' x t
inductive V where
 |non|bl (b:Bool)|int (i:Int)|str (x:Str)|byt (b:Array UInt8)|flt (b:UInt64)|ref (a:Addr)|ty (n:String)
 deriving DecidableEq
def av':V->Value->Prop
 | .non,u=>u=Value.none
 | .bl b,u=>u=Value.bool b
 | .int i,u=>∃t,u=Value.int i t
 | .str x,u=>∃t,u=Value.str x t
 | .byt b,u=>∃t,u=Value.bytes b t
 | .flt b,u=>∃t,u=Value.float b t
 | .ref a,u=>u=Value.ref a
 | .ty n,u=>u=Value.type n
abbrev aA':List V->List Value->Prop:=Paired av'
theorem aA'.length {xs:List V} {us:List Value} (r:aA' xs us):xs.length=us.length:=Paired.length r
theorem aA'.get:∀{xs:List V} {us:List Value} {i:Nat} {x:V},aA' xs us->xs[i]?=some x->∃u,us[i]?=some u/\av' x u
 |_,_,_,_,.nil,e=>by simp at e
 |_,_,0,_,.cons r _,e=>by simp at e;subst e;exact⟨_,rfl,r⟩
 |_,_,i+1,x,.cons _ t,e=>by
  obtain⟨u,h1,h2⟩:=aA'.get (i:=i) (x:=x) t (by simpa using e)
  exact⟨u,by simpa using h1,h2⟩
theorem aA'.set {x:V} {u:Value} (r:av' x u):∀{xs:List V} {us:List Value} (i:Nat),aA' xs us->aA' (xs.set i x) (us.set i u)
 |_,_,_,.nil=>.nil
 |_,_,0,.cons _ t=>.cons r t
 |_,_,i+1,.cons q t=>.cons q (aA'.set r i t)
theorem aA'.append:∀{xs ys:List V} {us ws:List Value},aA' xs us->aA' ys ws->aA' (xs++ys) (us++ws)
 |_,_,_,_,.nil,s=>s
 |_,_,_,_,.cons r t,s=>.cons r (aA'.append t s)
theorem aA'.take:∀{xs:List V} {us:List Value} (n:Nat),aA' xs us->aA' (xs.take n) (us.take n)
 |_,_,0,_=>.nil
 |_,_,_+1,.nil=>.nil
 |_,_,n+1,.cons r t=>.cons r (aA'.take n t)
theorem aA'.drop:∀{xs:List V} {us:List Value} (n:Nat),aA' xs us->aA' (xs.drop n) (us.drop n)
 |_,_,0,r=>r
 |_,_,_+1,.nil=>.nil
 |_,_,n+1,.cons _ t=>aA'.drop n t
def lf':Option V->Option Value->Prop
 |some v,some u=>av' v u
 |none,none=>True
 |_,_=>False
def KV {κ:Type}:List (κ×V)->List (κ×Value)->Prop:=Paired fun(p:κ×V) (q:κ×Value)=>p.1=q.1/\av' p.2 q.2
def kV:Key->V
 | .inl i=>.int i
 | .inr x=>.str x
 | .non=>.non
inductive HO where
 |lst (xs:List V)
 |tup (xs:List V)
 |dK (kvs:List (Key×V))|dT (kvs:List (List Key×V))
 |set (S:Int->Bool) (n:Nat)
 |ins (C dx:Addr) (fs:List (Str×V))
 |own (x:Addr)
 |xd (fs:List (Str×V))
 |met (f x:Addr)
 |rng (lo hi:Int)
 |frz (o:Obj) (u:HO)
 |tbl (ps:Array Value)
 |ext (φ:Heap->Prop)
abbrev Hp:=Addr->Option HO
def upd (H:Hp) (a:Addr) (o:HO):Hp:=fun b=>if b=a then some o else H b
theorem ab' {H:Hp} {a:Addr} {o:HO}:upd H a o a=some o:=by unfold upd;rw[if_pos rfl]
theorem ad' {H:Hp} {a b:Addr} {o:HO} (h:b≠a):upd H a o b=H b:=by unfold upd;rw[if_neg h]
theorem gf' {H:Hp} {a:Addr} {o u:HO}:upd (upd H a o) a u=upd H a u:=by
 funext b;unfold upd;split<;>rfl
theorem vj' {H:Hp} {a b:Addr} {o u:HO} (h:H a=some o) (h':H b=some u) (d:o≠u):a≠b:=by
 intro e;subst e;rw[h]at h';exact d (Option.some.inj h')
theorem af' {H:Hp} {a b:Addr} {o:HO} (h:H a=some o) (h':H b=none):a≠b:=by
 intro e;subst e;rw[h]at h';cases h'
def lc' (h:Heap) (a:Addr) (items:Array Value):Prop:=∃o,h.get? a=some o/\o.cls=.type "tuple"/\(∃n,o.data=.seq items n)/\o.dict=none
theorem lc'.tup {h:Heap} {a:Addr} {items:Array Value} (x:lc' h a items):IsTup h a items:=let⟨o,e,c,⟨n,d⟩,_⟩:=x;⟨o,e,c,n,d⟩
theorem lc'.new (h:Heap) (items:Array Value):lc' (h.push { cls:=.type "tuple",data:=.seq items }) h.objs.size items:=⟨_,ai _ rfl,rfl,⟨_,rfl⟩,rfl⟩
section
variable (P:Program) (w:World)
def as' (H:Hp) (h:Heap) (a:Addr):HO->Prop
 | .lst xs=>xs.length<=sizeLine/\∃(its:List Value) (n:Nat),aA' xs its/\h.get? a=some { cls:=.type "list",data:=.seq its.toArray n }
 | .tup xs=>xs.length<=sizeLine/\∃its:List Value,aA' xs its/\lc' h a its.toArray
 | .dK kvs=>kvs.length<=sizeLine/\(a == sysModules)=false/\∃vs,KV kvs vs/\h.DictOf (al' P w) a vs
 | .dT kvs=>kvs.length<=sizeLine/\(a == sysModules)=false/\∃xs:List (List Key×Addr×Value),
   Paired (fun(p:List Key×V) (q:List Key×Addr×Value)=>p.1=q.1/\H q.2.1=some (.tup (p.1.map kV))/\av' p.2 q.2.2) kvs xs/\
   ∃o es ep,h.get? a=some o/\o.ExactDict/\o.data=.dict es ep/\es.toList=xs.map (entryOfKey (tupleKind (al' P w)))/\(xs.map (·.1)).Nodup
 | .set S n=>h.SetOf (intKind P w) a S n
 | .ins C dx fs=>H dx=some (.own a)/\fs.length<=1000/\dx≠a/\h.get? a=some (W.instObj C dx)/\
   ∃mA,h.Ns1 dx mA/\(∀f,lf' (fs.lookup f) (mA f))/\PySem.Within mA (fs.map (·.1))
 | .own _=>∃o,h.get? a=some o
 | .xd fs=>∃mA,h.Ns1 a mA/\∀f,lf' (fs.lookup f) (mA f)
 | .rng lo hi=>∃t u v,h.get? a=some { cls:=.type "range",data:=.fields #[.int lo t,.int hi u,.int 1 v] }
 | .frz o u=>h.get? a=some o/\as' H h a u
 | .tbl ps=>h.get? a=some { cls:=.none,data:=.fields ps }
 | .met f x=>h.get? a=some (W.methodObj (.ref f) (.ref x))
 | .ext φ=>φ h/\(∃o,h.get? a=some o)/\∀h1 h2:Heap,φ h1->(∀o,h1.get? a=some o->h2.get? a=some o)->φ h2
def HOk (H:Hp) (h:Heap):Prop:=∀a o,H a=some o->as' P w H h a o
end
section
variable {P:Program} {w:World} {H H':Hp} {h h':Heap} {a:Addr} {o:HO}
theorem as'.lt (x:as' P w H h a o):a<h.objs.size:=by
 cases o with
 |lst xs=>obtain⟨_,_,_,_,e⟩:=x;exact ap e
 |tup xs=>obtain⟨_,_,_,p⟩:=x;exact p.tup.lt
 |dK kvs=>obtain⟨_,_,_,_,o,_,_,e,_⟩:=x;exact ap e
 |dT kvs=>obtain⟨_,_,_,_,o,_,_,e,_⟩:=x;exact ap e
 |set S n=>obtain⟨o,_,_,_,e,_⟩:=x;exact ap e
 |ins C dx fs=>obtain⟨_,_,_,e,_⟩:=x;exact ap e
 |own y=>obtain⟨_,e⟩:=x;exact ap e
 |xd fs=>obtain⟨_,⟨_,_,_,e,_⟩,_⟩:=x;exact ap e
 |rng lo hi=>obtain⟨_,_,_,e⟩:=x;exact ap e
 |frz ob u=>obtain⟨e,_⟩:=x;exact ap e
 |tbl ps=>exact ap (show h.get? a=some _ from x)
 |met f y=>exact ap (show h.get? a=some _ from x)
 |ext φ=>obtain⟨_,⟨_,e⟩,_⟩:=x;exact ap e
theorem Paired.mapP {α β:Type} {F G:α->β->Prop}:∀{l₁:List α} {l₂:List β},Paired F l₁ l₂->(∀a b,F a b->G a b)->Paired G l₁ l₂
 |_,_,.nil,_=>.nil
 |_,_,.cons r t,f=>.cons (f _ _ r) (Paired.mapP t f)
theorem as'.stay (x:as' P w H h a o) (k:∀b u,(b=a\/H b=some (.own a))->h.get? b=some u->h'.get? b=some u)
  (ho:∀b,H b=some (.own a)->H' b=some (.own a)) (ht:∀b xs,H b=some (.tup xs)->H' b=some (.tup xs)):as' P w H' h' a o:=by
 induction o with
 |lst xs=>obtain⟨z,its,n,r,e⟩:=x;exact⟨z,its,n,r,k _ _ (.inl rfl) e⟩
 |tup xs=>obtain⟨z,its,r,ob,e,c⟩:=x;exact⟨z,its,r,ob,k _ _ (.inl rfl) e,c⟩
 |dK kvs=>obtain⟨z,y,vs,r,ob,es,ep,e,c⟩:=x;exact⟨z,y,vs,r,ob,es,ep,k _ _ (.inl rfl) e,c⟩
 |dT kvs=>
  obtain⟨z,y,xs,r,ob,es,ep,e,c⟩:=x
  exact⟨z,y,xs,Paired.mapP r fun p q z=>⟨z.1,ht _ _ z.2.1,z.2.2⟩,ob,es,ep,k _ _ (.inl rfl) e,c⟩
 |set S n=>obtain⟨ob,es,ep,t,e,c⟩:=x;exact⟨ob,es,ep,t,k _ _ (.inl rfl) e,c⟩
 |ins C dx fs=>
  obtain⟨d,z,ne,e,mA,⟨od,es,ep,e2,c⟩,r⟩:=x
  exact⟨ho _ d,z,ne,k _ _ (.inl rfl) e,mA,⟨od,es,ep,k _ _ (.inr d) e2,c⟩,r⟩
 |own y=>obtain⟨ob,e⟩:=x;exact⟨ob,k _ _ (.inl rfl) e⟩
 |xd fs=>obtain⟨mA,⟨od,es,ep,e,c⟩,r⟩:=x;exact⟨mA,⟨od,es,ep,k _ _ (.inl rfl) e,c⟩,r⟩
 |rng lo hi=>obtain⟨t,u,v,e⟩:=x;exact⟨t,u,v,k _ _ (.inl rfl) e⟩
 |frz ob u ih=>obtain⟨e,q⟩:=x;exact⟨k _ _ (.inl rfl) e,ih q⟩
 |tbl ps=>
  have e:h.get? a=some { cls:=.none,data:=.fields ps }:=x
  show h'.get? a=some { cls:=.none,data:=.fields ps }
  exact k a _ (.inl rfl) e
 |met f y=>
  have e:h.get? a=some (W.methodObj (.ref f) (.ref y)):=x
  show h'.get? a=some (W.methodObj (.ref f) (.ref y))
  exact k a _ (.inl rfl) e
 |ext φ=>obtain⟨p,⟨o,e⟩,st⟩:=x;exact⟨st _ _ p fun o q=>k _ _ (.inl rfl) q,⟨o,k _ _ (.inl rfl) e⟩,st⟩
theorem HOk.lt (x:HOk P w H h) (e:H a=some o):a<h.objs.size:=(x a o e).lt
theorem HOk.fresh (x:HOk P w H h) (e:h.objs.size<=a):H a=none:=by
 cases q:H a with
 |none=>rfl
 |some u=>exact absurd (ak (x.lt q) e) (aV _)
theorem HOk.kept (x:HOk P w H h) (k:∀b u,h.get? b=some u->h'.get? b=some u):HOk P w H h':=fun a o e=>
 (x a o e).stay (fun b u _ q=>k b u q) (fun _ q=>q) fun _ _ q=>q
theorem HOk.laid (x:HOk P w H h) (k:∀b u,h.get? b=some u->h'.get? b=some u) (hp:h.objs.size<=a) (new:as' P w (upd H a o) h' a o):HOk P w (upd H a o) h':=fun b u e=>by
 have hn:=x.fresh hp
 by_cases hb:b=a
 .subst hb;rw[ab']at e;cases e;exact new
 .rw[ad' hb]at e
  exact(x b u e).stay (fun c v _ q=>k c v q) (fun c q=>by rw[ad' (af' q hn)];exact q) fun c xs q=>by rw[ad' (af' q hn)];exact q
end
def Rd (H:Hp) (a:Addr) (u:HO):Prop:=H a=some u\/∃o,H a=some (.frz o u)
theorem Rd.ok {P:Program} {w:World} {H:Hp} {h:Heap} {a:Addr} {u:HO} (r:Rd H a u) (x:HOk P w H h):as' P w H h a u:=by
 rcases r with r|⟨o,r⟩
 .exact x a u r
 .obtain⟨_,q⟩:=x a _ r
  exact q
def Mut:Option HO->Prop
 |some (.lst _)=>True
 |some (.dK _)=>True
 |some (.dT _)=>True
 |some (.set _ _)=>True
 |some (.ins _ _ _)=>True
 |some (.ext _)=>True
 |_=>False
section
variable {P:Program} {w:World} {H:Hp} {h h':Heap} {x e:Addr} {o':HO}
theorem HOk.write (ok:HOk P w H h) (mu:Mut (H x)) (he:e=x\/H e=some (.own x)) (k:∀b u,b≠e->h.get? b=some u->h'.get? b=some u) (heo:∃u,h'.get? e=some u)
  (new:as' P w (upd H x o') h' x o'):HOk P w (upd H x o') h':=fun b u q=>by
 have nown:∀c y,H c=some (.own y)->c≠x:=fun c y r z=>by subst z;rw[r]at mu;exact mu
 have ntup:∀c xs,H c=some (.tup xs)->c≠x:=fun c xs r z=>by subst z;rw[r]at mu;exact mu
 by_cases hb:b=x
 .subst hb;rw[ab']at q;cases q;exact new
 .rw[ad' hb]at q
  by_cases hbe:b=e
  .have q':H b=some (.own x):=by
    rcases he with z|z
    .exact absurd (hbe.trans z) hb
    .rw[hbe];exact z
   rw[q]at q';cases q'
   obtain⟨v,hv⟩:=heo
   exact⟨v,by rw[hbe];exact hv⟩
  .refine(ok b u q).stay (fun c v hc r=>k c v ?_ r) (fun c r=>by rw[ad' (nown c b r)];exact r) fun c xs r=>by rw[ad' (ntup c xs r)];exact r
   rcases hc with rfl|hc
   .exact hbe
   .rintro rfl
    rcases he with z|z
    .exact nown c b hc z
    .rw[hc]at z;cases z;exact hb rfl
end
structure Un (fs ex:List Addr) (H H':Hp) (h h':Heap):Prop where
 keep:∀b o,h.get? b=some o->H b=none->b∉fs->b∉ex->h'.get? b=some o
 slot:∀b o,h.get? b=some o->H b=none->b∈fs->b∉ex->∃sl,h'.get? b=some { o with slots:=sl }
 free:∀b o,h.get? b=some o->H b=none->b∉ex->H' b=none
 there:∀b o,h.get? b=some o->b∉ex->∃o',h'.get? b=some o'
 tups:∀b xs,H b=some (.tup xs)->H' b=some (.tup xs)
 frzs:∀b o u,H b=some (.frz o u)->H' b=some (.frz o u)
 tbls:∀b ps,H b=some (.tbl ps)->∃more,H' b=some (.tbl (ps++more))
section
variable {fs fs' ex ex':List Addr} {H H1 H2:Hp} {h h1 h2 h':Heap} {a x e:Addr} {o:HO}
theorem Un.any (u:Un fs ex H H1 h h1) {b:Addr} {ob:Obj} (q:h.get? b=some ob) (n:H b=none) (hx:b∉ex):∃sl,h1.get? b=some { ob with slots:=sl }:=by
 by_cases hb:b∈fs
 .exact u.slot b ob q n hb hx
 .exact⟨ob.slots,u.keep b ob q n hb hx⟩
theorem Un.kept (k:∀b u,h.get? b=some u->h'.get? b=some u):Un fs ex H H h h':=
 ⟨fun b ob q _ _ _=>k b ob q,fun b ob q _ _ _=>⟨ob.slots,k b ob q⟩,fun _ _ _ n _=>n,fun b ob q _=>⟨ob,k b ob q⟩,fun _ _ q=>q,fun _ _ _ q=>q,fun _ ps q=>⟨#[],by rw[q];simp⟩⟩
theorem Un.refl:Un fs ex H H h h:=Un.kept fun _ _ q=>q
theorem Un.laid (k:∀b u,h.get? b=some u->h'.get? b=some u) (hp:h.objs.size<=a) (hn:H a=none):Un fs ex H (upd H a o) h h' where
 keep:=fun b u q _ _ _=>k b u q
 slot:=fun b u q _ _ _=>⟨u.slots,k b u q⟩
 free:=fun b u q n _=>by rw[ad' (ay (ak (ap q) hp))];exact n
 there:=fun b u q _=>⟨u,k b u q⟩
 tups:=fun b xs q=>by rw[ad' (af' q hn)];exact q
 frzs:=fun b u xs q=>by rw[ad' (af' q hn)];exact q
 tbls:=fun b ps q=>⟨#[],by rw[ad' (af' q hn),q];simp⟩
theorem Un.write (mu:Mut (H x)) (he:e=x\/H e=some (.own x)) (k:∀b u,b≠e->h.get? b=some u->h'.get? b=some u) (heo:∃u,h'.get? e=some u):Un fs ex H (upd H x o) h h':=by
 have hx:∀b,H b=none->b≠x:=fun b n z=>by subst z;rw[n]at mu;exact mu
 have hb:∀b,H b=none->b≠e:=fun b n z=>by
  subst z
  rcases he with r|r
  .exact hx b n r
  .rw[n]at r;cases r
 have hm:∀b u,H b=some u->¬Mut (some u)->b≠x:=fun b u q nm z=>by subst z;rw[q]at mu;exact nm mu
 refine⟨fun b u q n _ _=>k b u (hb b n) q,fun b u q n _ _=>⟨u.slots,k b u (hb b n) q⟩,fun b u q n _=>by rw[ad' (hx b n)];exact n,fun b u q _=>?_,
  fun b xs q=>by rw[ad' (hm b _ q fun z=>z)];exact q,fun b u xs q=>by rw[ad' (hm b _ q fun z=>z)];exact q,fun b ps q=>⟨#[],by rw[ad' (hm b _ q fun z=>z),q];simp⟩⟩
 by_cases hbe:b=e
 .subst hbe;exact heo
 .exact⟨u,k b u hbe q⟩
end
def trk (h:Heap) (H:Hp):List Addr:=(bf h.objs.size).filter fun a=>(H a).isSome
def lg' (h:Heap) (H:Hp):Heap:=W.hideAll h (trk h H)
theorem iJ' (h:Heap) (H:Hp):(lg' h H).objs.size=h.objs.size:=W.hideAll_size _ _
theorem lh' {h:Heap} {H:Hp} {b:Addr} {o:Obj} (e:h.get? b=some o) (n:H b=none):(lg' h H).get? b=some o:=
 W.hideAll_get _ e fun hm=>by
  have q:(H b).isSome=true:=(cL.mp hm).2
  rw[n]at q;simp at q
theorem ol' {h:Heap} {H:Hp} {b:Addr} {o:Obj} (e:(lg' h H).get? b=some o):h.get? b=some o/\H b=none:=by
 have e':h.get? b=some o:=W.of_hideAll (trk h H) e
 refine⟨e',?_⟩
 cases q:H b with
 |none=>rfl
 |some x=>
  have hm:b∈trk h H:=cL.mpr ⟨bi.mpr (ap e'),by simp[q]⟩
  have z:(lg' h H).get? b=none:=W.hideAll_none (trk h H) hm
  rw[z]at e;cases e
def om' (g h:Heap) (L:Addr):List (Addr×Obj):=(bf h.objs.size).filterMap fun a=>if a=L\/(g.get? a).isSome=true then none else(h.get? a).map fun o=>(a,o)
def aw' (g h:Heap) (L d:Addr):List (Addr×Obj):=(om' g h L).filter fun p=>decide (p.1≠d)
structure Mod (K:W.Frag) (mg:Str->Option Value) (base:Heap):Prop where
 kin:K.In base
 glob:base.Ns mainGlobals mg
 blt:∃mb,base.Ns builtinsNs mb/\∀x:Str,x≠"__name__"->mb x=bootBuiltins x
 nolimit:base.NoLimit
set_option genInjectivity false
structure Cx where
 prog:Program
 w:World
 K:W.Frag
 mg:Str->Option Value
 base:Heap
 A:Around
 N:List Str
 s₀:Shared
 H₀:Hp
 env:Env
 outer:List Env
 stack:List Env
 ex:List Addr
 fn:Str->Bool
 calm:Bool
 pn:List (Addr×Obj)
 xe:Value->Shared->Prop
set_option genInjectivity true
def frs (l:List Env):List Addr:=l.filterMap (·.frame)
abbrev Cx.fs (X:Cx):List Addr:=frs X.outer
def Vis (sc:Scope) (x:Str):Prop:=sc.names.lookup x=some .local\/sc.names.lookup x=some .cell\/sc.names.lookup x=some .free
def Loc (sc:Scope) (x:Str):Prop:=sc.names.lookup x=some .local\/sc.names.lookup x=some .cell
def yu' (env:Env) (h:Heap) (m:Str->Option Value) (x:Str) (u:Value):Prop:=
 (env.kindOf x=some .local/\m x=some u)\/((env.kindOf x=some .cell\/env.kindOf x=some .free)/\∃c,env.cells.lookup x=some c/\h.IsCell c (some u))
structure Cx.Ok (X:Cx):Prop where
 mod:Mod X.K X.mg X.base
 kind:X.env.scope.kind=.function
 glob:X.env.globals=mainGlobals
 blt:X.env.builtins=builtinsNs
 above:X.s₀.heap.objs.size<=X.env.locals
 inj:∀x y c,X.env.cells.lookup x=some c->X.env.cells.lookup y=some c->x=y
 has:∀x,(X.env.kindOf x=some .cell\/X.env.kindOf x=some .free)->∃c,X.env.cells.lookup x=some c
 cab:∀x c,X.fn x=true->X.env.cells.lookup x=some c->X.s₀.heap.objs.size<=c
 hd:X.calm=true->X.A.handled=none
 frames:X.A.frames=some X.stack
 stk:X.stack=X.outer\/(X.stack=X.env :: X.outer/\X.env.frame=some X.env.locals)
 exf:∀b∈X.ex,b≠X.env.locals/\∀x c,X.env.cells.lookup x=some c->c≠b
 bs:∀b o,X.base.get? b=some o->X.s₀.heap.get? b=some o/\X.H₀ b=none
 bsz:X.base.objs.size<=X.s₀.heap.objs.size
 noex:∀b o,X.base.get? b=some o->b∉X.ex
 exfs:∀b∈X.ex,b∉X.fs
 funs:X.s₀.heap.FunFrames X.base X.outer
 frf:∀b∈X.fs,X.H₀ b=none
structure Inv (X:Cx) (pins:List (Addr×Obj)) (σ:List (Option V)) (H:Hp) (s:Shared):Prop where
 ok:X.Ok
 os:s.os=X.s₀.os
 bare:AllBare s.gens
 base:Un X.fs X.ex X.H₀ H X.s₀.heap s.heap
 loc:∃m,s.heap.Ns X.env.locals m/\∀(i:Nat) (x:Str) (v:V),X.N[i]?=some x->σ[i]?=some (some v)->Vis X.env.scope x->∃u,av' v u/\yu' X.env s.heap m x u
 cell:∀x c,X.env.cells.lookup x=some c->∃v,s.heap.IsCell c v
 free:H X.env.locals=none
 freeC:∀x c,X.env.cells.lookup x=some c->H c=none
 pin:∀p∈X.pn++pins,s.heap.get? p.1=some p.2/\H p.1=none/\p.1≠X.env.locals/\p.1∉X.fs/\∀v,p.2.data≠.cell v
 hok:HOk X.prog X.w H s.heap
 len:σ.length=X.N.length
section
variable {X:Cx} {pins:List (Addr×Obj)} {σ:List (Option V)} {H H':Hp} {s:Shared} {h':Heap}
theorem Cx.Ok.nofr (ok:X.Ok) {b:Addr} {o:Obj} (e:X.base.get? b=some o):b∉X.fs:=fun hb=>by
 have:=(ok.funs.mem hb).1
 rw[e]at this;cases this
theorem Inv.bs (I:Inv X pins σ H s):∀b o,X.base.get? b=some o->s.heap.get? b=some o/\H b=none:=fun b o e=>
 ⟨I.base.keep b o (I.ok.bs b o e).1 (I.ok.bs b o e).2 (I.ok.nofr e) (I.ok.noex b o e),I.base.free b o (I.ok.bs b o e).1 (I.ok.bs b o e).2 (I.ok.noex b o e)⟩
theorem Inv.bk (I:Inv X pins σ H s):∀b o,X.base.get? b=some o->s.heap.get? b=some o:=fun b o e=>(I.bs b o e).1
theorem Inv.mod (I:Inv X pins σ H s):Mod X.K X.mg X.base:=I.ok.mod
theorem Inv.kIn (I:Inv X pins σ H s):X.K.In s.heap:=I.ok.mod.kin.keeps I.bk
theorem Inv.fr (I:Inv X pins σ H s):∃m,Fr X.base X.env.locals s.heap m:=
 let⟨m,hn,_⟩:=I.loc
 ⟨m,hn,I.bk,aG I.ok.bsz I.ok.above⟩
theorem Inv.lt (I:Inv X pins σ H s):X.env.locals<s.heap.objs.size:=let⟨_,hn,_⟩:=I.loc;hn.lt
theorem Inv.sz (I:Inv X pins σ H s):X.s₀.heap.objs.size<=s.heap.objs.size:=aG I.ok.above (bJ I.lt)
theorem Inv.nofs (I:Inv X pins σ H s) {a:Addr} (h:s.heap.objs.size<=a):a∉X.fs:=fun hb=>by
 obtain⟨_,o,ho,_⟩:=I.ok.funs.mem hb
 exact absurd (ak (ap ho) (aG I.sz h)) (aV _)
theorem Inv.cne (I:Inv X pins σ H s):∀x c,X.env.cells.lookup x=some c->c≠X.env.locals:=fun x c e z=>by
 obtain⟨v,o,ho,hd⟩:=I.cell x c e
 obtain⟨m,⟨o',es,ep,ho',hd',_⟩,_⟩:=I.loc
 rw[z,ho']at ho;cases ho;rw[hd']at hd;cases hd
theorem Inv.funs (I:Inv X pins σ H s):s.heap.FunFrames X.base X.outer:=by
 have all:∀(l:List Env),(∀b∈frs l,b∈X.fs)->X.s₀.heap.FunFrames X.base l->s.heap.FunFrames X.base l:=by
  intro l
  induction l with
  |nil=>intro _ _;trivial
  |cons env r ih=>
   intro hs hl
   obtain⟨hk,⟨L,o,hf,hn,ho,hd⟩,hr⟩:=hl
   have hL:L∈X.fs:=hs L (by unfold frs;rw[bF,hf];exact au)
   obtain⟨sl,e⟩:=I.base.slot L o ho (I.ok.frf L hL) hL fun z=>I.ok.exfs L z hL
   exact⟨hk,⟨L,_,hf,hn,e,hd⟩,ih (fun b hb=>hs b (by unfold frs;rw[bF,hf];exact ao _ hb)) hr⟩
 exact all X.outer (fun _ hb=>hb) I.ok.funs
theorem Inv.stack (I:Inv X pins σ H s):s.heap.FunFrames X.base X.stack:=by
 rcases I.ok.stk with e|⟨e,hf⟩
 .rw[e];exact I.funs
 .rw[e]
  obtain⟨m,hn,_⟩:=I.loc
  refine .cons (by rw[I.ok.kind];decide) hf hn ?_ I.funs
  exact Heap.get?_none_of_le (aG I.ok.bsz I.ok.above)
theorem Inv.stkSub (I:Inv X pins σ H s):∀b∈frs X.stack,b∈X.env.locals :: X.fs:=fun b hb=>by
 rcases I.ok.stk with e|⟨e,hf⟩
 .rw[e]at hb;exact ao _ hb
 .rw[e]at hb
  unfold frs at hb
  rw[bF,hf]at hb
  exact hb
theorem Inv.stkFree (I:Inv X pins σ H s):∀b∈frs X.stack,H b=none:=fun b hb=>by
 rcases am.mp (I.stkSub b hb)with e|hb
 .rw[e];exact I.free
 .obtain⟨_,o,ho,_⟩:=I.ok.funs.mem hb
  exact I.base.free b o ho (I.ok.frf b hb) fun z=>I.ok.exfs b z hb
theorem Inv.step {g':Array GenState} {t':Nat} {d':Drawn} {ch:List Addr} (I:Inv X pins σ H s)
  (hch:∀b∈ch,(b∈X.ex\/X.s₀.heap.objs.size<=b)/\b≠X.env.locals/\(∀x c,X.env.cells.lookup x=some c->c≠b)/\∀p∈X.pn++pins,p.1≠b)
  (keep:∀b o,b≠X.env.locals->b∉X.fs->b∉ch->s.heap.get? b=some o->H b=none->h'.get? b=some o)
  (slot:∀b o,b≠X.env.locals->b∈X.fs->b∉ch->s.heap.get? b=some o->H b=none->∃sl,h'.get? b=some { o with slots:=sl }) (free:∀b o,b∉ch->s.heap.get? b=some o->H b=none->H' b=none)
  (there:∀b o,b∉ch->s.heap.get? b=some o->∃o',h'.get? b=some o')
  (tups:∀b xs,H b=some (.tup xs)->H' b=some (.tup xs)) (frzs:∀b o u,H b=some (.frz o u)->H' b=some (.frz o u)) (tbls:∀b ps,H b=some (.tbl ps)->∃more,H' b=some (.tbl (ps++more)))
  (ns:∀m,s.heap.Ns X.env.locals m->h'.Ns X.env.locals m) (hok:HOk X.prog X.w H' h') (hg:AllBare g'):
  Inv X pins σ H' { s with heap:=h',gens:=g',drawn:=d',toks:=t' }:=by
 have neL:∀b o,X.s₀.heap.get? b=some o->b≠X.env.locals:=fun b o e=>ay (ak (ap e) I.ok.above)
 have neC:∀b o,X.s₀.heap.get? b=some o->b∉X.ex->b∉ch:=fun b o e hx hb=>by
  rcases(hch b hb).1 with z|z
  .exact hx z
  .exact absurd (ak (ap e) z) (aV _)
 have cellK:∀x c,X.env.cells.lookup x=some c->∀v,s.heap.IsCell c v->h'.IsCell c v:=fun x c e v ⟨o,ho,hd⟩=>by
  have nch:c∉ch:=fun z=>(hch c z).2.2.1 x c e rfl
  by_cases hc:c∈X.fs
  .obtain⟨sl,q⟩:=slot c o (I.cne x c e) hc nch ho (I.freeC x c e)
   exact⟨_,q,hd⟩
  .exact⟨o,keep c o (I.cne x c e) hc nch ho (I.freeC x c e),hd⟩
 refine⟨I.ok,I.os,hg,⟨fun b o e n hb hx=>?_,fun b o e n hb hx=>?_,fun b o e n hx=>?_,fun b o e hx=>?_,fun b xs e=>tups b xs (I.base.tups b xs e),fun b o xs e=>frzs b o xs (I.base.frzs b o xs e),fun b ps e=>?_⟩,?_,fun x c e=>?_,?_,fun x c e=>?_,fun p hp=>?_,hok,I.len⟩
 .exact keep b o (neL b o e) hb (neC b o e hx) (I.base.keep b o e n hb hx) (I.base.free b o e n hx)
 .obtain⟨sl,e1⟩:=I.base.slot b o e n hb hx
  obtain⟨sl',e2⟩:=slot b _ (neL b o e) hb (neC b o e hx) e1 (I.base.free b o e n hx)
  exact⟨sl',e2⟩
 .obtain⟨o',e1⟩:=I.base.there b o e hx
  exact free b o' (neC b o e hx) e1 (I.base.free b o e n hx)
 .obtain⟨o',e1⟩:=I.base.there b o e hx
  exact there b o' (neC b o e hx) e1
 .obtain⟨m1,e1⟩:=I.base.tbls b ps e
  obtain⟨m2,e2⟩:=tbls b _ e1
  exact⟨m1++m2,by rw[e2,Array.append_assoc]⟩
 .obtain⟨m,hn,hl⟩:=I.loc
  refine⟨m,ns m hn,fun i x v e1 e2 e3=>?_⟩
  obtain⟨u,r,l⟩:=hl i x v e1 e2 e3
  refine⟨u,r,?_⟩
  rcases l with l|⟨k,c,e,z⟩
  .exact .inl l
  .exact .inr ⟨k,c,e,cellK x c e _ z⟩
 .obtain⟨v,z⟩:=I.cell x c e
  exact⟨v,cellK x c e v z⟩
 .obtain⟨m,⟨o,_,_,ho,_⟩,_⟩:=I.loc
  exact free _ o (fun z=>(hch _ z).2.1 rfl) ho I.free
 .obtain⟨v,o,ho,hd⟩:=I.cell x c e
  exact free c o (fun z=>(hch c z).2.2.1 x c e rfl) ho (I.freeC x c e)
 .obtain⟨e,n,ne,nf,d⟩:=I.pin p hp
  have nch:p.1∉ch:=fun z=>(hch p.1 z).2.2.2 p hp rfl
  exact⟨keep p.1 p.2 ne nf nch e n,free p.1 p.2 nch e n,ne,nf,d⟩
theorem Inv.un {t':Nat} (I:Inv X pins σ H s) (u:Un X.fs [] H H' s.heap h') (hok:HOk X.prog X.w H' h'):Inv X pins σ H' { s with heap:=h',toks:=t' }:=by
 obtain⟨m,⟨o,es,ep,ho,r⟩,_⟩:=id I.loc
 obtain⟨sl,hL⟩:=u.any ho I.free (by simp)
 exact I.step (g':=s.gens) (d':=s.drawn) (ch:=[]) (fun _ z=>nomatch z) (fun b o _ hb _ e n=>u.keep b o e n hb (by simp)) (fun b o _ hb _ e n=>u.slot b o e n hb (by simp)) (fun b o _ e n=>u.free b o e n (by simp)) (fun b o _ e=>u.there b o e (by simp)) u.tups u.frzs u.tbls (fun m' hm=>by
  obtain⟨o',es',ep',ho',r'⟩:=hm
  rw[ho]at ho';cases ho'
  exact⟨_,es',ep',hL,r'⟩) hok I.bare
theorem Inv.call {g':Array GenState} {t':Nat} {d':Drawn} {ch:List Addr} (I:Inv X pins σ H s) (u:Un (frs X.stack) ch H H' s.heap h') (hok:HOk X.prog X.w H' h') (hg:AllBare g')
  (hch:∀b∈ch,(b∈X.ex\/X.s₀.heap.objs.size<=b)/\b≠X.env.locals/\(∀x c,X.env.cells.lookup x=some c->c≠b)/\∀p∈X.pn++pins,p.1≠b):
  Inv X pins σ H' { s with heap:=h',gens:=g',drawn:=d',toks:=t' }:=by
 obtain⟨m,⟨o,es,ep,ho,r⟩,_⟩:=id I.loc
 obtain⟨sl,hL⟩:=u.any ho I.free fun z=>(hch _ z).2.1 rfl
 exact I.step (ch:=ch) hch (fun b o hL hb hc e n=>u.keep b o e n (fun z=>(am.mp (I.stkSub b z)).elim hL hb) hc) (fun b o _ _ hc e n=>u.any e n hc) (fun b o hc e n=>u.free b o e n hc) (fun b o hc e=>u.there b o e hc) u.tups u.frzs u.tbls (fun m' hm=>by
  obtain⟨o',es',ep',ho',r'⟩:=hm
  rw[ho]at ho';cases ho'
  exact⟨_,es',ep',hL,r'⟩) hok hg
theorem Inv.turned {t':Nat} {it:Addr} (I:Inv X pins σ H s) (k:∀b o,b≠it->s.heap.get? b=some o->h'.get? b=some o) (hn:H it=none) (hL:it≠X.env.locals)
  (h1:it∈X.ex\/X.s₀.heap.objs.size<=it) (h2:∀x c,X.env.cells.lookup x=some c->c≠it) (h3:∀p∈X.pn++pins,p.1≠it):Inv X pins σ H { s with heap:=h',toks:=t' }:=by
 have nit:∀b u,H b=some u->b≠it:=fun b u e z=>by rw[z,hn]at e;cases e
 refine I.step (g':=s.gens) (d':=s.drawn) (ch:=[it]) (fun b hb=>?_) (fun b o _ _ hc e _=>k b o (fun z=>hc (by simp[z])) e) (fun b o _ _ hc e _=>⟨o.slots,k b o (fun z=>hc (by simp[z])) e⟩) (fun _ _ _ _ n=>n)
  (fun b o hc e=>⟨o,k b o (fun z=>hc (by simp[z])) e⟩) (fun _ _ e=>e) (fun _ _ _ e=>e) (fun b ps e=>⟨#[],by rw[e];simp⟩) (fun m hm=>?_) (fun b u e=>?_) I.bare
 .have e:b=it:=by simpa using hb
  subst e
  exact⟨h1,hL,h2,h3⟩
 .obtain⟨o,es,ep,ho,r⟩:=hm
  exact⟨o,es,ep,k _ o (Ne.symm hL) ho,r⟩
 .refine(I.hok b u e).stay (fun c v hc q=>k c v ?_ q) (fun _ q=>q) fun _ _ q=>q
  rcases hc with z|z
  .rw[z];exact nit b u e
  .exact nit c _ z
theorem Inv.tok (I:Inv X pins σ H s) (t:Nat):Inv X pins σ H { s with toks:=t }:=I.un (h':=s.heap) (t':=t) Un.refl I.hok
theorem Inv.kept {t':Nat} (I:Inv X pins σ H s) (k:∀b u,s.heap.get? b=some u->h'.get? b=some u):Inv X pins σ H { s with heap:=h',toks:=t' }:=I.un (Un.kept k) (I.hok.kept k)
theorem Inv.laid {a:Addr} {o:HO} {t':Nat} (I:Inv X pins σ H s) (k:∀b u,s.heap.get? b=some u->h'.get? b=some u) (hp:s.heap.objs.size<=a) (new:as' X.prog X.w (upd H a o) h' a o):
  Inv X pins σ (upd H a o) { s with heap:=h',toks:=t' }:=I.un (Un.laid k hp (I.hok.fresh hp)) (I.hok.laid k hp new)
theorem Inv.write {x e:Addr} {o:HO} {t':Nat} (I:Inv X pins σ H s) (mu:Mut (H x)) (he:e=x\/H e=some (.own x)) (k:∀b u,b≠e->s.heap.get? b=some u->h'.get? b=some u) (heo:∃u,h'.get? e=some u)
  (new:as' X.prog X.w (upd H x o) h' x o):Inv X pins σ (upd H x o) { s with heap:=h',toks:=t' }:=I.un (Un.write mu he k heo) (I.hok.write mu he k heo new)
theorem Inv.weak {σ':List (Option V)} (I:Inv X pins σ H s) (hl:σ'.length=σ.length) (w:∀(i:Nat) v,σ'[i]?=some (some v)->σ[i]?=some (some v)):Inv X pins σ' H s:=
 ⟨I.ok,I.os,I.bare,I.base,let⟨m,hn,hl'⟩:=I.loc;⟨m,hn,fun i x v e1 e2 e3=>hl' i x v e1 (w i v e2) e3⟩,I.cell,I.free,I.freeC,I.pin,I.hok,hl.trans I.len⟩
theorem Inv.pins_of {pins':List (Addr×Obj)} (I:Inv X pins σ H s) (h:∀p∈pins',s.heap.get? p.1=some p.2/\H p.1=none/\p.1≠X.env.locals/\p.1∉X.fs/\∀v,p.2.data≠.cell v):Inv X pins' σ H s:=
 ⟨I.ok,I.os,I.bare,I.base,I.loc,I.cell,I.free,I.freeC,fun p hp=>(aw.mp hp).elim (fun z=>I.pin p (bD _ z)) (h p),I.hok,I.len⟩
theorem gS' {N:List Str} (hN:N.Nodup) {i j:Nat} {x:Str} (a:N[i]?=some x) (b:N[j]?=some x):i=j:=by
 obtain⟨h1,e1⟩:=aM.mp a
 obtain⟨h2,e2⟩:=aM.mp b
 exact(List.getElem_inj hN).mp (e1.trans e2.symm)
theorem dz' {M:Model} {A:Around} {E:Value->Shared->Prop} {i:Nat} {x:Str} {v:V} {u:Value} {Q:Unit->Shared->Prop} (I:Inv X pins σ H s) (hN:X.N.Nodup) (hi:X.N[i]?=some x) (hx:Loc X.env.scope x) (r:av' v u)
  (h:∀s',Inv X pins (σ.set i (some v)) H s'->(∃a,br a s.heap s'.heap/\(a=X.env.locals\/X.env.cells.lookup x=some a))->Q () s') (hf:X.fn x=true\/X.env.scope.names.lookup x=some .local:=by first|exact .inl rfl|exact .inr rfl|assumption):wpAny M A (storeName X.env x u) Q E s:=by
 obtain⟨m,hn,hl⟩:=id I.loc
 have hcls:(X.env.scope.kind == .class || (X.env.scope.kind == .module&&X.env.locals != X.env.globals))=false:=by rw[I.ok.kind];rfl
 have hiσ:i<σ.length:=by rw[I.len];exact(aM.mp hi).1
 have cne:=I.cne
 have tracked:∀{a:Addr} {h':Heap},(∃o,s.heap.get? a=some o/\H a=none)->br a s.heap h'->HOk X.prog X.w H h':=fun {a h'} ha hs b ob e=>by
  obtain⟨_,_,hfree⟩:=ha
  refine(I.hok b ob e).stay (fun c w' hc q=>(hs.2 c ?_).trans q) (fun _ q=>q) fun _ _ q=>q
  rintro rfl
  rcases hc with rfl|hc
  .rw[hfree]at e;cases e
  .rw[hfree]at hc;cases hc
 rcases hx with hk|hk
 .refine wpAny_storeName_local hk hn (fun h' hn' hs=>?_) hcls
  obtain⟨oL,_,_,hoL,_⟩:=id hn
  refine h _ ⟨I.ok,I.os,I.bare,⟨fun b o e n hb hx=>?_,fun b o e n hb hx=>?_,I.base.free,fun b o e hx=>?_,I.base.tups,I.base.frzs,I.base.tbls⟩,⟨_,hn',fun j y v' e1 e2 e3=>?_⟩,fun y c e=>?_,I.free,I.freeC,fun p hp=>?_,tracked ⟨oL,hoL,I.free⟩ hs,by simpa using I.len⟩ ⟨_,hs,.inl rfl⟩
  .exact(hs.2 b (ay (ak (ap e) I.ok.above))).trans (I.base.keep b o e n hb hx)
  .obtain⟨sl,e1⟩:=I.base.slot b o e n hb hx
   exact⟨sl,(hs.2 b (ay (ak (ap e) I.ok.above))).trans e1⟩
  .obtain⟨o',e1⟩:=I.base.there b o e hx
   exact⟨o',(hs.2 b (ay (ak (ap e) I.ok.above))).trans e1⟩
  .by_cases hj:j=i
   .subst hj
    rw[hi]at e1;cases e1
    rw[List.getElem?_set_self hiσ]at e2
    cases e2
    exact⟨u,r,.inl ⟨hk,by simp⟩⟩
   .rw[bP (Ne.symm hj)]at e2
    obtain⟨u',r',q⟩:=hl j y v' e1 e2 e3
    refine⟨u',r',?_⟩
    rcases q with⟨k,e⟩|⟨k,c,e,z⟩
    .refine .inl ⟨k,?_⟩
     have:y≠x:=fun e=>hj (gS' hN e1 (e ▸ hi))
     simp[this,e]
    .exact .inr ⟨k,c,e,z.sameBut hs (cne y c e)⟩
  .obtain⟨w',z⟩:=I.cell y c e
   exact⟨w',z.sameBut hs (cne y c e)⟩
  .obtain⟨e,n,ne,nf,d⟩:=I.pin p hp
   exact⟨(hs.2 p.1 ne).trans e,n,ne,nf,d⟩
 .have hfn:X.fn x=true:=by
   rcases hf with z|z
   .exact z
   .rw[z]at hk;cases hk
  obtain⟨c,hc⟩:=I.ok.has x (.inl hk)
  obtain⟨w',z⟩:=I.cell x c hc
  refine wpAny_storeName_cell I.ok.kind hk hc z (fun h' hc' hs=>?_)
  obtain⟨oc,hoc,hocd⟩:=id z
  refine h { s with heap:=h' } ⟨I.ok,I.os,I.bare,⟨fun b o e n hb hx=>?_,fun b o e n hb hx=>?_,I.base.free,fun b o e hx=>?_,I.base.tups,I.base.frzs,I.base.tbls⟩,⟨m,hn.sameBut hs (Ne.symm (cne x c hc)),fun j y v' e1 e2 e3=>?_⟩,fun y c' e=>?_,I.free,I.freeC,fun p hp=>?_,tracked ⟨oc,hoc,I.freeC x c hc⟩ hs,by simpa using I.len⟩ ⟨c,hs,.inr hc⟩
  .exact(hs.2 b (ay (ak (ap e) (I.ok.cab x c hfn hc)))).trans (I.base.keep b o e n hb hx)
  .obtain⟨sl,e1⟩:=I.base.slot b o e n hb hx
   exact⟨sl,(hs.2 b (ay (ak (ap e) (I.ok.cab x c hfn hc)))).trans e1⟩
  .obtain⟨o',e1⟩:=I.base.there b o e hx
   exact⟨o',(hs.2 b (ay (ak (ap e) (I.ok.cab x c hfn hc)))).trans e1⟩
  .by_cases hj:j=i
   .subst hj
    rw[hi]at e1;cases e1
    rw[List.getElem?_set_self hiσ]at e2
    cases e2
    exact⟨u,r,.inr ⟨.inl hk,c,hc,hc'⟩⟩
   .rw[bP (Ne.symm hj)]at e2
    obtain⟨u',r',q⟩:=hl j y v' e1 e2 e3
    refine⟨u',r',?_⟩
    rcases q with q|⟨k,c',e,z'⟩
    .exact .inl q
    .refine .inr ⟨k,c',e,z'.sameBut hs ?_⟩
     rintro rfl
     exact hj (gS' hN e1 (I.ok.inj _ _ _ e hc ▸ hi))
  .by_cases hcc:c'=c
   .subst hcc;exact⟨_,hc'⟩
   .obtain⟨w2,z2⟩:=I.cell y c' e
    exact⟨w2,z2.sameBut hs hcc⟩
  .obtain⟨e,n,ne,nf,d⟩:=I.pin p hp
   refine⟨(hs.2 p.1 ?_).trans e,n,ne,nf,d⟩
   intro q
   rw[q,hoc]at e
   have q':oc=p.2:=Option.some.inj e
   exact d w' (by rw[<- q'];exact hocd)
theorem li' {M:Model} {A:Around} {E:Value->Shared->Prop} {i:Nat} {x:Str} {v:V} {u:Value} {Q:Unit->Shared->Prop} (I:Inv X pins σ H s) (hN:X.N.Nodup) (hi:X.N[i]?=some x) (hx:Loc X.env.scope x) (r:av' v u)
  (h:∀s',Inv X pins (σ.set i (some v)) H s'->Q () s') (hf:X.fn x=true\/X.env.scope.names.lookup x=some .local:=by first|exact .inl rfl|exact .inr rfl|assumption):wpAny M A (storeName X.env x u) Q E s:=
 dz' I hN hi hx r (fun s' I' _=>h s' I') hf
theorem Inv.call' {s':Shared} {ch:List Addr} (I:Inv X pins σ H s) (ho:s'.os=s.os) (u:Un (frs X.stack) ch H H' s.heap s'.heap) (hok:HOk X.prog X.w H' s'.heap) (hg:AllBare s'.gens)
  (hch:∀b∈ch,(b∈X.ex\/X.s₀.heap.objs.size<=b)/\b≠X.env.locals/\(∀x c,X.env.cells.lookup x=some c->c≠b)/\∀p∈X.pn++pins,p.1≠b):Inv X pins σ H' s':=by
 obtain⟨h',g',d',t',o'⟩:=s'
 have e:o'=s.os:=ho
 subst e
 exact I.call (g':=g') (t':=t') (d':=d') u hok hg hch
end
abbrev XK:=Value->Option Addr->Hp->Prop
abbrev St:=List (Option V)
abbrev VK:=V->Hp->Prop
abbrev TE:=St->Hp->VK->Prop
abbrev TT:=St->Hp->(Bool->Hp->Prop)->Prop
abbrev TA:=St->Hp->(List V->Hp->Prop)->Prop
structure Ends where
 nx:St->Hp->Prop
 rt:VK
 bk:St->Hp->Prop:=fun _ _=>False
 ct:St->Hp->Prop:=fun _ _=>False
abbrev TS:=Ends->St->Hp->Prop
def EP (X:Cx) (pins:List (Addr×Obj)) (σ:St) (Q:VK) (u:Value) (s':Shared):Prop:=∃v H',Inv X pins σ H' s'/\av' v u/\Q v H'
def TP (X:Cx) (pins:List (Addr×Obj)) (σ:St) (Q:Bool->Hp->Prop) (b:Bool) (s':Shared):Prop:=∃H',Inv X pins σ H' s'/\Q b H'
def AP (X:Cx) (pins:List (Addr×Obj)) (σ:St) (Q:List V->Hp->Prop) (us:List Value) (s':Shared):Prop:=∃vs H',Inv X pins σ H' s'/\aA' vs us/\Q vs H'
def SP (X:Cx) (pins:List (Addr×Obj)) (D:Ends) (f:Flow) (s':Shared):Prop:=
 match f with
 | .next=>∃σ' H',Inv X pins σ' H' s'/\D.nx σ' H'
 | .brk=>∃σ' H',Inv X pins σ' H' s'/\D.bk σ' H'
 | .cont=>∃σ' H',Inv X pins σ' H' s'/\D.ct σ' H'
 | .ret u=>∃v σ' H',Inv X pins σ' H' s'/\av' v u/\D.rt v H'
def PE (X:Cx) (e:Expr) (t:TE):Prop:=
 ∀(pins:List (Addr×Obj)) (s:Shared) (σ:St) (H:Hp) (Q:VK),Inv X pins σ H s->t σ H Q->wpAny (model X.prog X.w) X.A (eval e X.env) (EP X pins σ Q) X.xe s
def PT (X:Cx) (e:Expr) (t:TT):Prop:=
 ∀(pins:List (Addr×Obj)) (s:Shared) (σ:St) (H:Hp) (Q:Bool->Hp->Prop),Inv X pins σ H s->t σ H Q->wpAny (model X.prog X.w) X.A (isTrue e X.env (eval e X.env)) (TP X pins σ Q) X.xe s
def PW (X:Cx) (e:Expr) (t:TT):Prop:=
 ∀(whole:Sem Value) (pins:List (Addr×Obj)) (s:Shared) (σ:St) (H:Hp) (Q:Bool->Hp->Prop),Inv X pins σ H s->t σ H Q->wpAny (model X.prog X.w) X.A (isTrue e X.env whole) (TP X pins σ Q) X.xe s
theorem PW.pt {X:Cx} {e:Expr} {t:TT} (h:PW X e t):PT X e t:=h _
def PA (X:Cx) (es:List Expr) (t:TA):Prop:=
 ∀(pos:Pos) (pins:List (Addr×Obj)) (s:Shared) (σ:St) (H:Hp) (Q:List V->Hp->Prop),Inv X pins σ H s->t σ H Q->wpAny (model X.prog X.w) X.A (spliced (backTo pos (starEach es X.env))) (AP X pins σ Q) X.xe s
def PS (X:Cx) (st:Stmt) (t:TS):Prop:=
 ∀(pins:List (Addr×Obj)) (s:Shared) (σ:St) (H:Hp) (D:Ends),Inv X pins σ H s->t D σ H->wpAny (model X.prog X.w) X.A (exec st X.env) (SP X pins D) X.xe s
def PSs (X:Cx) (st:List Stmt) (t:TS):Prop:=
 ∀(pins:List (Addr×Obj)) (s:Shared) (σ:St) (H:Hp) (D:Ends),Inv X pins σ H s->t D σ H->wpAny (model X.prog X.w) X.A (execs st X.env) (SP X pins D) X.xe s
theorem thn {α:Type} {t:Sem α} {Q Q':α->Shared->Prop} {M:Model} {A:Around} {E:Value->Shared->Prop} {s:Shared} (h:wpAny M A t Q E s) (hQ:∀a s,Q a s->Q' a s):wpAny M A t Q' E s:=wpAny_mono h hQ fun _ _ x=>x
section
variable {X:Cx}
theorem bin {a b:Expr} {ta tb:TE} (ha:PE X a ta) (hb:PE X b tb) {pins:List (Addr×Obj)} {s:Shared} {σ:St} {H:Hp} {R:V->V->Hp->Prop} (I:Inv X pins σ H s) (h:ta σ H fun x H1=>tb σ H1 fun y H2=>R x y H2)
  {α:Type} {Q:α->Shared->Prop} {f:Value->Value->Sem α}
  (hf:∀v u s2 x y H2,Inv X pins σ H2 s2->av' x v->av' y u->R x y H2->wpAny (model X.prog X.w) X.A (f v u) Q X.xe s2):
  wpAny (model X.prog X.w) X.A (eval a X.env) (fun v s₁=>wpAny (model X.prog X.w) X.A (eval b X.env) (fun u s₂=>wpAny (model X.prog X.w) X.A (f v u) Q X.xe s₂) X.xe s₁) X.xe s:=by
 refine thn (ha pins s σ H _ I h) fun v s1 ⟨x,H1,I1,r1,q1⟩=>?_
 refine thn (hb pins s1 σ H1 _ I1 q1) fun u s2 ⟨y,H2,I2,r2,q2⟩=>?_
 exact hf v u s2 x y H2 I2 r1 r2 q2
def u1' (i:Nat):TE:=fun σ H Q=>∃v,σ[i]?=some (some v)/\Q v H
def tC (v:V):TE:=fun _ H Q=>Q v H
theorem nv' {i:Nat} {x:Str} {pos:Pos} (hN:X.N[i]?=some x) (hv:Vis X.env.scope x) (hd:(x == ("__debug__":Str))=false:=by decide) (hcd:(x == ("__classdict__":Str))=false:=by decide):PE X (.Name x pos) (u1' i):=by
 intro pins s σ H Q I h
 obtain⟨v,e,h⟩:=h
 obtain⟨m,hn,hl⟩:=I.loc
 obtain⟨u,r,l⟩:=hl i x v hN e hv
 have fin:EP X pins σ Q u s:=⟨v,H,I,r,h⟩
 rcases l with⟨hk,hm⟩|⟨hk,c,hc,hcell⟩
 .exact wpAny_Name (wpAny_loadName_local I.ok.kind hk hn hm fin) hd
 .rcases hk with hk|hk
  .exact wpAny_Name (wpAny_loadName_cell I.ok.kind hk hc hcell fin) hd
  .exact wpAny_Name (wpAny_loadName_free I.ok.kind hk hc hcell fin hcd) hd
theorem nw' {i j pos}:PE X (.Constant (.int i) j pos) (tC (.int i)):=fun _ _ _ H _ I h=>wpAny_Constant_int ⟨.int i,H,I.tok _,⟨_,rfl⟩,h⟩
theorem vk' {b j pos}:PE X (.Constant (.bool b) j pos) (tC (.bl b)):=fun _ _ _ H _ I h=>Constant_bool ⟨.bl b,H,I,rfl,h⟩
theorem q1' {j pos}:PE X (.Constant .none j pos) (tC .non):=fun _ _ _ H _ I h=>Constant_none ⟨.non,H,I,rfl,h⟩
theorem q2' {x j pos}:PE X (.Constant (.str x) j pos) (tC (.str x)):=fun _ _ _ H _ I h=>Calls.Constant_str ⟨.str x,H,I.tok _,⟨_,rfl⟩,h⟩
def Gl (X:Cx) (x:Str):Prop:=X.env.kindOf x=some .globalImplicit
theorem on' {E:Value->Shared->Prop} {pins:List (Addr×Obj)} {s:Shared} {σ:St} {H:Hp} {x:Str} {u:Value} {pos:Pos} {Q:Value->Shared->Prop} (I:Inv X pins σ H s) (hg:Gl X x) (hm:X.mg x=some u) (h:Q u s)
  (hd:(x == ("__debug__":Str))=false:=by decide):wpAny (model X.prog X.w) X.A (eval (.Name x pos) X.env) Q E s:=
 Calls.Name_function_global I.ok.kind hg (Calls.loadGlobal_global (by rw[I.ok.glob];exact I.mod.glob.keeps I.bk) hm h) hd
theorem c9' {E:Value->Shared->Prop} {pins:List (Addr×Obj)} {s:Shared} {σ:St} {H:Hp} {x:Str} {u:Value} {pos:Pos} {Q:Value->Shared->Prop} (I:Inv X pins σ H s) (hg:Gl X x) (hm:X.mg x=none) (hv:bootBuiltins x=some u) (h:Q u s)
  (hn:x≠"__name__":=by decide) (hd:(x == ("__debug__":Str))=false:=by decide):wpAny (model X.prog X.w) X.A (eval (.Name x pos) X.env) Q E s:=by
 obtain⟨mb,h1,h2⟩:=I.mod.blt
 exact Calls.Name_function_global I.ok.kind hg (Calls.loadGlobal_builtin (by rw[I.ok.glob];exact I.mod.glob.keeps I.bk) hm (by rw[I.ok.blt];exact h1.keeps I.bk) ((h2 x hn).trans hv) h) hd
theorem oo' {x:Str} {v:V} {u:Value} {pos:Pos} (hg:Gl X x) (hm:X.mg x=none) (hv:bootBuiltins x=some u) (r:av' v u) (hn:x≠"__name__":=by decide) (hd:(x == ("__debug__":Str))=false:=by decide):PE X (.Name x pos) (tC v):=
 fun _ _ _ H _ I h=>c9' I hg hm hv ⟨v,H,I,r,h⟩ hn hd
variable {a b:Expr} {ta tb:TE} {pos:Pos}
def PC (X:Cx) (op:CmpOp) (a b:Expr) (t:TE):Prop:=
 ∀(pins:List (Addr×Obj)) (s:Shared) (σ:St) (H:Hp) (Q:VK),Inv X pins σ H s->t σ H Q->
  wpAny (model X.prog X.w) X.A (eval a X.env) (fun v s₁=>wpAny (model X.prog X.w) X.A (eval b X.env) (fun u s₂=>wpAny (model X.prog X.w) X.A (compareOp op v u) (EP X pins σ Q) X.xe s₂) X.xe s₁) X.xe s
def tB (t:TE):TT:=fun σ H Q=>t σ H fun x H1=>∃c,x=.bl c/\Q c H1
theorem nx' {op:CmpOp} {t:TE} (h:PC X op a b t) (h1:behindInMarks op b=false:=by rfl):PE X (.Compare a [op] [b] pos) t:=fun pins s σ H Q I hw=>wpAny_Compare1 (h pins s σ H Q I hw) h1
theorem ny' {op:CmpOp} {t:TE} (h:PC X op a b t) (h1:behindInMarks op b=false:=by rfl):PT X (.Compare a [op] [b] pos) (tB t):=by
 intro pins s σ H Q I hw
 refine wpAny_isTrue_Compare1 (thn (h pins s σ H _ I hw) fun v s1 h1=>thn h1 fun u s2 h2=>thn h2 fun c s3 ⟨x,H1,I1,r1,q1⟩=>?_) h1
 obtain⟨d,rfl,q⟩:=q1
 cases r1
 exact aW ⟨H1,I1,q⟩
variable {tA tB':TT} {aw':List Expr}
def q3' (t u:TT):TT:=fun σ H Q=>t σ H fun c H1=>if c=true then u σ H1 Q else Q false H1
def tOr (t u:TT):TT:=fun σ H Q=>t σ H fun c H1=>if c=true then Q true H1 else u σ H1 Q
def vl' (t:TT):TT:=fun σ H Q=>t σ H fun c H1=>Q (!c) H1
theorem oq' (ha:PT X a tA):PW X (.BoolOp .And [a] pos) tA:=by
 intro wh pins s σ H Q I h
 refine isTrue_and (thn (ha pins s σ H Q I h) fun c s1 e=>?_)
 cases c with
 |true=>exact isTrue_and_nil e
 |false=>exact e
theorem q4' (ha:PT X a tA):PW X (.BoolOp .Or [a] pos) tA:=by
 intro wh pins s σ H Q I h
 refine isTrue_or (thn (ha pins s σ H Q I h) fun c s1 e=>?_)
 cases c with
 |false=>exact isTrue_or_nil e
 |true=>exact e
theorem nz' (ha:PT X a tA) (hb:PW X (.BoolOp .And (b :: aw') pos) tB'):PW X (.BoolOp .And (a :: b :: aw') pos) (q3' tA tB'):=by
 intro wh pins s σ H Q I h
 refine isTrue_and (thn (ha pins s σ H _ I h) fun c s1 ⟨H1,I1,q1⟩=>?_)
 cases c with
 |true=>exact hb wh pins s1 σ H1 Q I1 q1
 |false=>exact⟨H1,I1,q1⟩
theorem q5' (ha:PT X a tA) (hb:PW X (.BoolOp .Or (b :: aw') pos) tB'):PW X (.BoolOp .Or (a :: b :: aw') pos) (tOr tA tB'):=by
 intro wh pins s σ H Q I h
 refine isTrue_or (thn (ha pins s σ H _ I h) fun c s1 ⟨H1,I1,q1⟩=>?_)
 cases c with
 |true=>exact⟨H1,I1,q1⟩
 |false=>exact hb wh pins s1 σ H1 Q I1 q1
theorem q6' (ha:PT X a tA):PT X (.UnaryOp .Not a pos) (vl' tA):=by
 intro pins s σ H Q I h
 exact isTrue_not (ha pins s σ H (fun c H1=>Q (!c) H1) I h)
def lj' (ta tb:TE):TE:=fun σ H Q=>ta σ H fun x H1=>∃c,x=.bl c/\if c=true then tb σ H1 Q else Q (.bl false) H1
def u2' (ta tb:TE):TE:=fun σ H Q=>ta σ H fun x H1=>∃c,x=.bl c/\if c=true then Q (.bl true) H1 else tb σ H1 Q
def or' (ta:TE):TE:=fun σ H Q=>ta σ H fun x H1=>∃c,x=.bl c/\Q (.bl (!c)) H1
theorem nA' {op} {t:TE} (h:PE X a t):PE X (.BoolOp op [a] pos) t:=fun pins s σ H Q I hw=>BoolOp_one (h pins s σ H Q I hw)
theorem nB' (ha:PE X a ta) (hb:PE X (.BoolOp .And (b :: aw') pos) tb):PE X (.BoolOp .And (a :: b :: aw') pos) (lj' ta tb):=by
 intro pins s σ H Q I h
 refine BoolOp_and (thn (ha pins s σ H _ I h) fun v s1 ⟨x,H1,I1,r1,q1⟩=>?_)
 obtain⟨c,rfl,q1⟩:=q1
 cases r1
 refine aW ?_
 cases c with
 |true=>exact hb pins s1 σ H1 Q I1 q1
 |false=>exact⟨.bl false,H1,I1,rfl,q1⟩
theorem q8' (ha:PE X a ta) (hb:PE X (.BoolOp .Or (b :: aw') pos) tb):PE X (.BoolOp .Or (a :: b :: aw') pos) (u2' ta tb):=by
 intro pins s σ H Q I h
 refine BoolOp_or (thn (ha pins s σ H _ I h) fun v s1 ⟨x,H1,I1,r1,q1⟩=>?_)
 obtain⟨c,rfl,q1⟩:=q1
 cases r1
 refine aW ?_
 cases c with
 |false=>exact hb pins s1 σ H1 Q I1 q1
 |true=>exact⟨.bl true,H1,I1,rfl,q1⟩
theorem q9' (ha:PE X a ta):PE X (.UnaryOp .Not a pos) (or' ta):=by
 intro pins s σ H Q I h
 refine UnaryOp_ (thn (ha pins s σ H _ I h) fun v s1 ⟨x,H1,I1,r1,q1⟩=>?_)
 obtain⟨c,rfl,q1⟩:=q1
 cases r1
 exact not_of (aW ⟨.bl (!c),H1,I1,rfl,q1⟩)
def tIf (t:TT) (ta tb:TE):TE:=fun σ H Q=>t σ H fun c H1=>if c=true then ta σ H1 Q else tb σ H1 Q
theorem lk' {c:Expr} (hc:PT X c tA) (ha:PE X a ta) (hb:PE X b tb):PE X (.IfExp c a b pos) (tIf tA ta tb):=by
 intro pins s σ H Q I h
 refine wpAny_IfExp (thn (hc pins s σ H _ I h) fun d s1 ⟨H1,I1,q1⟩=>?_)
 cases d with
 |true=>exact ha pins s1 σ H1 Q I1 q1
 |false=>exact hb pins s1 σ H1 Q I1 q1
end
def SqL (K:W.Frag) (H:Hp) (a:Addr) (xs:List V):Prop:=
 Rd H a (.lst xs)\/
  ∃(o:Obj) (its:Array Value) (n:Nat),K.lookup a=some o/\o.cls=.type "list"/\o.dict=none/\o.data=.seq its n/\its.size<=sizeLine/\aA' xs its.toList
def SqT (K:W.Frag) (H:Hp) (a:Addr) (xs:List V):Prop:=
 Rd H a (.tup xs)\/
  ∃(o:Obj) (its:Array Value) (n:Nat),K.lookup a=some o/\o.cls=.type "tuple"/\o.data=.seq its n/\its.size<=sizeLine/\aA' xs its.toList
def yv':Value->Option V
 | .none=>some .non
 | .bool b=>some (.bl b)
 | .int i _=>some (.int i)
 | .str x _=>some (.str x)
 | .bytes b _=>some (.byt b)
 | .float b _=>some (.flt b)
 | .ref a=>some (.ref a)
 | .type n=>some (.ty n)
 |_=>none
theorem av'.abs {x:V} {u:Value} (r:av' x u):yv' u=some x:=by
 cases x with
 |non=>cases r;rfl
 |bl _=>cases r;rfl
 |int _=>obtain⟨t,rfl⟩:=r;rfl
 |str _=>obtain⟨t,rfl⟩:=r;rfl
 |byt _=>obtain⟨t,rfl⟩:=r;rfl
 |flt _=>obtain⟨t,rfl⟩:=r;rfl
 |ref _=>cases r;rfl
 |ty _=>cases r;rfl
theorem av'.inj {x y:V} {u:Value} (r:av' x u) (q:av' y u):x=y:=Option.some.inj (r.abs.symm.trans q.abs)
theorem aA'.inj:∀{xs ys:List V} {us:List Value},aA' xs us->aA' ys us->xs=ys
 |_,_,_,.nil,.nil=>rfl
 |_,_,_,.cons r t,.cons r' t'=>by rw[r.inj r',aA'.inj t t']
section
variable {X:Cx} {pins:List (Addr×Obj)} {σ:St} {H:Hp} {s:Shared} {a:Addr} {xs ys:List V}
theorem SqL.of {K:W.Frag} (h:H a=some (.lst xs)):SqL K H a xs:=.inl (.inl h)
theorem SqT.of {K:W.Frag} (h:H a=some (.tup xs)):SqT K H a xs:=.inl (.inl h)
theorem Inv.list (I:Inv X pins σ H s) (h:SqL X.K H a xs):∃its:List Value,aA' xs its/\PlainL s.heap a its.toArray/\xs.length<=sizeLine:=by
 rcases h with h|⟨o,its,n,hk,hc,hd,hs,hz,r⟩
 .obtain⟨z,its,n,r,e⟩:=h.ok I.hok
  exact⟨its,r,⟨_,n,e,rfl,rfl,rfl⟩,z⟩
 .refine⟨its.toList,r,⟨o,n,I.kIn a o hk,hc,hd,by simpa using hs⟩,?_⟩
  have e:=r.length
  simp only[aq]at e
  omega
theorem Inv.tuple (I:Inv X pins σ H s) (h:SqT X.K H a xs):∃its:List Value,aA' xs its/\IsTup s.heap a its.toArray/\xs.length<=sizeLine:=by
 rcases h with h|⟨o,its,n,hk,hc,hs,hz,r⟩
 .obtain⟨z,its,r,p⟩:=h.ok I.hok
  exact⟨its,r,p.tup,z⟩
 .refine⟨its.toList,r,⟨o,I.kIn a o hk,hc,n,by simpa using hs⟩,?_⟩
  have e:=r.length
  simp only[aq]at e
  omega
theorem Inv.list_inj (I:Inv X pins σ H s) (h:SqL X.K H a xs) (h':SqL X.K H a ys):xs=ys:=by
 obtain⟨its,r,⟨o,n,e,_,_,d⟩,_⟩:=I.list h
 obtain⟨its',r',⟨o',n',e',_,_,d'⟩,_⟩:=I.list h'
 rw[e]at e';cases e'
 rw[d]at d'
 injection d' with d1 _
 have:its=its':=by simpa using congrArg Array.toList d1
 subst this
 exact r.inj r'
theorem Inv.tuple_inj (I:Inv X pins σ H s) (h:SqT X.K H a xs) (h':SqT X.K H a ys):xs=ys:=by
 obtain⟨its,r,⟨o,e,_,n,d⟩,_⟩:=I.tuple h
 obtain⟨its',r',⟨o',e',_,n',d'⟩,_⟩:=I.tuple h'
 rw[e]at e';cases e'
 rw[d]at d'
 injection d' with d1 _
 have:its=its':=by simpa using congrArg Array.toList d1
 subst this
 exact r.inj r'
end
abbrev Cx.wish (X:Cx) (E:Value->Shared->Prop):Cx:={ X with xe:=E }
abbrev Cx.nox (X:Cx):Cx:=X.wish fun _ _=>False
theorem Cx.Ok.wish {X:Cx} (ok:X.Ok) (E:Value->Shared->Prop):(X.wish E).Ok:=
 ⟨ok.mod,ok.kind,ok.glob,ok.blt,ok.above,ok.inj,ok.has,ok.cab,ok.hd,ok.frames,ok.stk,ok.exf,ok.bs,ok.bsz,ok.noex,ok.exfs,ok.funs,ok.frf⟩
theorem Cx.Ok.unwish {X:Cx} {E:Value->Shared->Prop} (ok:(X.wish E).Ok):X.Ok:=
 ⟨ok.mod,ok.kind,ok.glob,ok.blt,ok.above,ok.inj,ok.has,ok.cab,ok.hd,ok.frames,ok.stk,ok.exf,ok.bs,ok.bsz,ok.noex,ok.exfs,ok.funs,ok.frf⟩
section
variable {X:Cx} {pins:List (Addr×Obj)} {σ:St} {H:Hp} {s:Shared} {E:Value->Shared->Prop}
theorem Inv.wish (I:Inv X pins σ H s) (E:Value->Shared->Prop):Inv (X.wish E) pins σ H s:=⟨I.ok.wish E,I.os,I.bare,I.base,I.loc,I.cell,I.free,I.freeC,I.pin,I.hok,I.len⟩
theorem Inv.unwish (I:Inv (X.wish E) pins σ H s):Inv X pins σ H s:=⟨I.ok.unwish,I.os,I.bare,I.base,I.loc,I.cell,I.free,I.freeC,I.pin,I.hok,I.len⟩
theorem SP.unwish {D:Ends} {f:Flow} {s':Shared} (h:SP (X.wish E) pins D f s'):SP X pins D f s':=by
 cases f with
 |next=>obtain⟨σ',H',I,q⟩:=h;exact⟨σ',H',I.unwish,q⟩
 |brk=>obtain⟨σ',H',I,q⟩:=h;exact⟨σ',H',I.unwish,q⟩
 |cont=>obtain⟨σ',H',I,q⟩:=h;exact⟨σ',H',I.unwish,q⟩
 |ret u=>obtain⟨v,σ',H',I,r,q⟩:=h;exact⟨v,σ',H',I.unwish,r,q⟩
theorem PSs.nox {st:List Stmt} {t:TS} (h:PSs X.nox st t):PSs X st t:=fun pins s σ H D I hw=>
 wpAny_mono (h pins s σ H D (I.wish _) hw) (fun _ _ q=>q.unwish) fun _ _ z=>False.elim z
end
section
variable {X:Cx} {st:Stmt} {aw':List Stmt} {t u:TS} {e:Expr} {te:TE} {pos:Pos}
def ot':TS:=fun D σ H=>D.nx σ H
def vm' (t u:TS):TS:=fun D σ H=>t { D with nx:=u D } σ H
theorem ou':PSs X [] ot':=fun _ _ σ H _ I h=>wpAny_execs_nil ⟨σ,H,I,h⟩
theorem ll' (h1:PS X st t) (h2:PSs X aw' u):PSs X (st :: aw') (vm' t u):=by
 intro pins s σ H D I h
 refine wpAny_execs_cons (thn (h1 pins s σ H { D with nx:=u D } I h) fun f s1 q=>?_)
 cases f with
 |next=>
  obtain⟨σ',H',I',q⟩:=q
  exact h2 pins s1 σ' H' D I' q
 |ret v=>exact q
 |brk=>exact q
 |cont=>exact q
theorem Inv.quiet {pins:List (Addr×Obj)} {σ:St} {H:Hp} {s:Shared} (I:Inv X pins σ H s):interactive X.env=false:=by simp[interactive,I.ok.kind]
def ov' (te:TE):TS:=fun D σ H=>te σ H fun _ H1=>D.nx σ H1
theorem ow' (he:PE X e te) (hs:swapsWith e none pos.line X.env=pure false:=by rfl):PS X (.Expr e pos) (ov' te):=by
 intro pins s σ H D I h
 exact wpAny_Expr_any (thn (he pins s σ H _ I h) fun v s1 ⟨x,H1,I1,r1,q1⟩=>⟨σ,H1,I1,q1⟩) I.quiet hs
def vn' (te:TE):TS:=fun D σ H=>te σ H D.rt
theorem ra' (he:PE X e te):PS X (.Return (some e) pos) (vn' te):=by
 intro pins s σ H D I h
 exact wpAny_Return_some (thn (he pins s σ H _ I h) fun v s1 ⟨x,H1,I1,r1,q1⟩=>⟨x,σ,H1,I1,r1,q1⟩)
def vo' (c:TT) (t u:TS):TS:=fun D σ H=>c σ H fun b H1=>if b=true then t D σ H1 else u D σ H1
theorem vp' {c:Expr} {a b:List Stmt} {tc:TT} (hc:PT X c tc) (ha:PSs X a t) (hb:PSs X b u):PS X (.If c a b pos) (vo' tc t u):=by
 intro pins s σ H D I h
 refine wpAny_If (thn (hc pins s σ H _ I h) fun d s1 ⟨H1,I1,q1⟩=>?_)
 cases d with
 |true=>exact ha pins s1 σ H1 D I1 q1
 |false=>exact hb pins s1 σ H1 D I1 q1
end
abbrev TG:=V->St->Hp->(St->Hp->Prop)->Prop
abbrev TGs:=List V->St->Hp->(St->Hp->Prop)->Prop
def PG (X:Cx) (target:Expr) (t:TG):Prop:=
 ∀(pins:List (Addr×Obj)) (s:Shared) (σ:St) (H:Hp) (v:V) (u:Value) (Q:St->Hp->Prop),Inv X pins σ H s->av' v u->t v σ H Q->
  wpAny (model X.prog X.w) X.A (assign target X.env u) (fun _ s'=>∃σ' H',Inv X pins σ' H' s'/\Q σ' H') X.xe s
def PGs (X:Cx) (ts:List Expr) (t:TGs):Prop:=
 ∀(pins:List (Addr×Obj)) (s:Shared) (σ:St) (H:Hp) (vs:List V) (us:List Value) (Q:St->Hp->Prop),Inv X pins σ H s->aA' vs us->t vs σ H Q->
  wpAny (model X.prog X.w) X.A (assignInOrder ((assignEach ts X.env).map (·.2)) us) (fun _ s'=>∃σ' H',Inv X pins σ' H' s'/\Q σ' H') X.xe s
abbrev vq':=V->V->V->Hp->(Hp->Prop)->Prop
def xx' (X:Cx) (t:vq'):Prop:=
 ∀(pins:List (Addr×Obj)) (s:Shared) (σ:St) (H:Hp) (o i v:V) (ov iv u:Value) (Q:Hp->Prop),Inv X pins σ H s->av' o ov->av' i iv->av' v u->t o i v H Q->
  wpAny (model X.prog X.w) X.A (setItem ov iv u) (fun _ s'=>∃H',Inv X pins σ H' s'/\Q H') X.xe s
abbrev TIp:=V->V->Hp->VK->Prop
section
variable {X:Cx} {pos:Pos}
def ei' (i:Nat):TG:=fun v σ H Q=>Q (σ.set i (some v)) H
theorem ox' {i:Nat} {x:Str} (hN:X.N.Nodup) (hi:X.N[i]?=some x) (hx:Loc X.env.scope x) (hf:X.fn x=true\/X.env.scope.names.lookup x=some .local:=by first|exact .inl rfl|exact .inr rfl|assumption):PG X (.Name x pos) (ei' i):=by
 intro pins s σ H v u Q I r h
 exact wpAny_assign_Name (li' I hN hi hx r (fun s' I'=>⟨_,H,I',h⟩) hf)
def vr':TGs:=fun vs σ H Q=>vs=[]/\Q σ H
def oy' (t:TG) (u:TGs):TGs:=fun vs σ H Q=>∃v r,vs=v :: r/\t v σ H fun σ' H'=>u r σ' H' Q
theorem oz':PGs X [] vr':=by
 intro pins s σ H vs us Q I r h
 obtain⟨e,h⟩:=h
 subst e
 cases r
 exact assignInOrder_nil ⟨σ,H,I,h⟩
theorem lm' {e:Expr} {es:List Expr} {t:TG} {u:TGs} (h1:PG X e t) (h2:PGs X es u)
  (hs:(assignEach (e :: es) X.env).map (·.2)=assign e X.env :: (assignEach es X.env).map (·.2):=by rfl):PGs X (e :: es) (oy' t u):=by
 intro pins s σ H vs us Q I r h
 obtain⟨v,vr,e1,h⟩:=h
 subst e1
 cases r with
 |cons r rr=>
  rw[hs]
  refine assignInOrder_cons (thn (h1 pins s σ H _ _ _ I r h) fun _ s1 ⟨σ1,H1,I1,q1⟩=>?_)
  exact h2 pins s1 σ1 H1 _ _ Q I1 rr q1
def yw' (K:W.Frag) (n:Nat) (t:TGs):TG:=fun v σ H Q=>∃a xs,v=.ref a/\SqT K H a xs/\xs.length=n/\t xs σ H Q
theorem rb' {es:List Expr} {k:Nat} {t:TGs} {n:Nat} (hc:X.calm=true) (h:PGs X es t)
  (hn:(assignEach es X.env).length=n:=by rfl) (hst:(assignEach es X.env).findIdx? (·.1)=none:=by rfl):PG X (.Tuple es k pos) (yw' X.K n t):=by
 intro pins s σ H v u Q I r hw
 obtain⟨a,xs,e1,hq,hl,hw⟩:=hw
 subst e1
 cases r
 obtain⟨its,rv,ht,hz⟩:=I.tuple hq
 refine assign_Tuple_tuple (I.ok.hd hc) ht (by simp[hn,<- hl,rv.length]) hst fun h' hx=>?_
 have I1:Inv X pins σ H { s with heap:=h' }:=I.kept (t':=s.toks) fun b o e=>hx b o (ay (ap e)) e
 exact h pins _ σ H xs _ Q I1 (by simpa using rv) hw
def vs' (to ti:TE) (t:vq'):TG:=fun v σ H Q=>to σ H fun o H1=>ti σ H1 fun i H2=>t o i v H2 fun H3=>Q σ H3
theorem rc' {o i:Expr} {to ti:TE} {t:vq'} (ho:PE X o to) (hi:PE X i ti) (hs:xx' X t)
  (ha:∀v,assign (.Subscript o i pos) X.env v=(do
   let ov <- holding [v] (eval o X.env)
   let iv <- holding [v,ov] (eval i X.env)
   standAt pos
   holding [v,ov,iv] (setItem ov iv v)
   release [v,ov,iv] []):=by intro _;rfl):PG X (.Subscript o i pos) (vs' to ti t):=by
 intro pins s σ H v u Q I r h
 rw[ha]
 refine aa (aE (thn (ho pins s σ H _ I h) fun ov s1 ⟨x,H1,I1,r1,q1⟩=>?_))
 refine aa (aE (thn (hi pins s1 σ H1 _ I1 q1) fun iv s2 ⟨y,H2,I2,r2,q2⟩=>?_))
 refine aa (cy (aa (aE (thn (hs pins s2 σ H2 x y v ov iv u _ I2 r1 r2 r q2) fun _ s3 ⟨H3,I3,q3⟩=>?_))))
 exact wpAny_release ⟨σ,H3,I3,q3⟩
def nC' (te:TE) (g:TG):TS:=fun D σ H=>te σ H fun x H1=>g x σ H1 D.nx
theorem gT' {tg e:Expr} {te:TE} {g:TG} (he:PE X e te) (hg:PG X tg g) (hs:swapsWithSole [tg] e pos.line X.env=pure false:=by rfl) (hw:swappedStores [tg] e X.env=pure none:=by rfl)
  (h1:(assignEach [tg] X.env).map (·.2)=[assign tg X.env]:=by rfl):PS X (.Assign [tg] e pos) (nC' te g):=by
 intro pins s σ H D I h
 refine wpAny_Assign_stores (thn (he pins s σ H _ I h) fun v s1 ⟨x,H1,I1,r1,q1⟩=>?_) hs hw
 rw[h1]
 exact thn (hg pins s1 σ H1 x v _ I1 r1 q1) fun _ s2 q=>q
def ipI (f:Int->Int->Int):TIp:=fun x y H Q=>∃i j,x=.int i/\y=.int j/\Q (.int (f i j)) H
end
section
variable {X:Cx} {pos:Pos}
def iK' (c:TT) (tb:TS):TS:=fun D σ H=>∃W:Nat->St->Hp->Prop,(∃m,W m σ H)/\∀m σ H,W m σ H->
 c σ H fun b H1=>if b=true then ∃N:St->Hp->Prop,(∀σ' H',N σ' H'->∃m',m'<m/\W m' σ' H')/\tb { D with nx:=N,ct:=N,bk:=D.nx } σ H1 else D.nx σ H1
theorem ln' {c:Expr} {body:List Stmt} {tc:TT} {tb:TS} (hp:PassesOwn (model X.prog X.w) X.A X.env X.xe) (hc:PT X c tc) (hb:PSs X body tb):PS X (.While c body [] pos) (iK' tc tb):=by
 intro pins s σ H D I h
 obtain⟨W,⟨m0,w0⟩,turn⟩:=h
 refine wpAny_While (codeAny_whileLoop (fun n s'=>∃σ' H',Inv X pins σ' H' s'/\W n σ' H') ?_ m0 ⟨σ,H,I,w0⟩)
 rintro n s1 ⟨σ1,H1,I1,w1⟩
 refine cq hp (thn (hc pins s1 σ1 H1 _ I1 (turn n σ1 H1 w1)) fun b s2 ⟨H2,I2,q2⟩=>?_)
 cases b with
 |true=>
  obtain⟨N,hN,q2⟩:=q2
  rw[if_pos rfl]
  refine cq hp (thn (hb pins s2 σ1 H2 _ I2 q2) fun f s3 q3=>?_)
  cases f with
  |next=>
   obtain⟨σ3,H3,I3,n3⟩:=q3
   obtain⟨m',hm,w3⟩:=hN σ3 H3 n3
   exact⟨m',hm,σ3,H3,I3,w3⟩
  |cont=>
   obtain⟨σ3,H3,I3,n3⟩:=q3
   obtain⟨m',hm,w3⟩:=hN σ3 H3 n3
   exact⟨m',hm,σ3,H3,I3,w3⟩
  |brk=>exact q3
  |ret v=>exact q3
 |false=>
  rw[if_neg al]
  exact wpAny_execs_nil ⟨σ1,H2,I2,q2⟩
end
structure It where
 go:Nat->Hp->Prop
 yld:Nat->Hp->V->Hp->Prop
 stop:Nat->Hp->Prop
def cX' (X:Cx) (pins:List (Addr×Obj)) (H:Hp) (b:Addr):Prop:=
 H b=none/\b≠X.env.locals/\b∉X.fs/\(b∈X.ex\/X.s₀.heap.objs.size<=b)/\(∀x c,X.env.cells.lookup x=some c->c≠b)/\∀p∈X.pn++pins,p.1≠b
theorem Inv.fpOk {X:Cx} {pins:List (Addr×Obj)} {σ:St} {H H':Hp} {s:Shared} {b:Addr} (I:Inv X pins σ H s) (hb:s.heap.objs.size<=b) (hn:H' b=none):cX' X pins H' b:=by
 refine⟨hn,bm (ak I.lt hb),I.nofs hb,.inr (aG I.sz hb),fun x c e z=>?_,fun p hp z=>?_⟩
 .obtain⟨v,q⟩:=I.cell x c e
  exact absurd (ak q.lt (by rw[z];exact hb)) (aV _)
 .exact absurd (ak (ap (I.pin p hp).1) (by rw[z];exact hb)) (aV _)
structure Turn (P:Program) (w:World) (K:W.Frag) (tg:Expr) (J:It) (fp:List Addr) (it:Addr) (tn:Nat->Heap->Prop):Prop where
 mem:it∈fp
 obj:∀i h,tn i h->∀b∈fp,∃o,h.get? b=some o/\∀v,o.data≠.cell v
 keep:∀i h h',tn i h->(∀b∈fp,∀o,h.get? b=some o->h'.get? b=some o)->tn i h'
 item:∀(X:Cx),X.prog=P->X.w=w->X.K=K->X.calm=true->∀(i:Nat) (pins:List (Addr×Obj)) (s:Shared) (σ:St) (H:Hp) (E:Value->Shared->Prop),Inv X pins σ H s->(∀b∈fp,cX' X pins H b)->tn i s.heap->J.go i H->
  wpAny (model P w) X.A (pyNext (.ref it)) (fun r s1=>∃u,r=some u/\
   wpAny (model P w) X.A (letOwnedTupleGo tg (.ref it) u) (fun _ s2=>∃x H',Inv X pins σ H' s2/\av' x u/\J.yld i H x H'/\tn (i+1) s2.heap/\∀b∈fp,H' b=none) E s1) E s
 done:∀(X:Cx),X.prog=P->X.w=w->X.K=K->X.calm=true->∀(i:Nat) (pins:List (Addr×Obj)) (s:Shared) (σ:St) (H:Hp) (E:Value->Shared->Prop),Inv X pins σ H s->(∀b∈fp,cX' X pins H b)->tn i s.heap->J.stop i H->
  wpAny (model P w) X.A (pyNext (.ref it)) (fun r s1=>r=none/\Inv X pins σ H s1) E s
 self:∀(A:Around) (i:Nat) (s:Shared) (Q:Value->Shared->Prop) (E:Value->Shared->Prop),tn i s.heap->Q (.ref it) s->wpAny (model P w) A (pyIter (.ref it)) Q E s
abbrev TI:=St->Hp->(It->Hp->Prop)->Prop
def PIE (X:Cx) (pins:List (Addr×Obj)) (σ:St) (tg:Expr) (R:It->Hp->Prop) (itv:Value) (s2:Shared):Prop:=
 ∃(it:Addr) (fp:List Addr) (tn:Nat->Heap->Prop) (J:It) (H':Hp),itv=.ref it/\Inv X pins σ H' s2/\Turn X.prog X.w X.K tg J fp it tn/\tn 0 s2.heap/\(∀b∈fp,cX' X pins H' b)/\R J H'
def PI (X:Cx) (tg iter:Expr) (wi:TI):Prop:=
 ∀(pins:List (Addr×Obj)) (s:Shared) (σ:St) (H:Hp) (R:It->Hp->Prop),Inv X pins σ H s->wi σ H R->
  wpAny (model X.prog X.w) X.A (eval iter X.env) (fun v s1=>wpAny (model X.prog X.w) X.A (pyIter v) (PIE X pins σ tg R) X.xe s1) X.xe s
theorem iL' {M:Model} {A:Around} {E:Value->Shared->Prop} {s:Shared} {tg:Expr} {it:Addr} {u:Value} {o:Obj} {n:String} {vs:Array Value} {Q:Unit->Shared->Prop} (ho:s.heap.get? it=some o) (hc:o.cls=.type n) (hd:o.data=.fields vs)
  (hn:["enumerate","zip","dict_itemiterator","dict_reverseitemiterator","odict_iterator","itertools.zip_longest","itertools.pairwise"].contains n=false) (hQ:Q () s):wpAny M A (letOwnedTupleGo tg (.ref it) u) Q E s:=by
 unfold letOwnedTupleGo
 cases tg<;>first
  |exact ab hQ
  |(cases u<;>first
    |exact ab hQ
    |(refine aa (wpAny_load ho ?_)
      rw[hc,hd]
      show wpAny M A (if(["enumerate","zip","dict_itemiterator","dict_reverseitemiterator","odict_iterator","itertools.zip_longest","itertools.pairwise"].contains n&&vs[0]? == some (rawInt _))=true then _ else _) Q E s
      rw[if_neg (by intro h;rw[hn,bj]at h;cases h)]
      exact ab hQ))
def Itl (K:W.Frag) (a:Addr):It:=
 ⟨fun i H=>∃xs x,SqL K H a xs/\xs[i]?=some x,fun i H x H'=>H'=H/\∀xs,SqL K H a xs->xs[i]?=some x,fun i H=>∃xs,SqL K H a xs/\xs.length<=i⟩
def Itt (K:W.Frag) (a:Addr):It:=
 ⟨fun i H=>∃xs x,SqT K H a xs/\xs[i]?=some x,fun i H x H'=>H'=H/\∀xs,SqT K H a xs->xs[i]?=some x,fun i H=>∃xs,SqT K H a xs/\xs.length<=i⟩
def Itr (lo:Int) (n:Nat):It:=⟨fun i _=>i<n,fun i H x H'=>H'=H/\x=.int (lo+i),fun i _=>n<=i⟩
theorem iM' {P:Program} {w:World} {K:W.Frag} {tg:Expr} (a it:Addr):Turn P w K tg (Itl K a) [it] it (fun i h=>h.IsListIter it a i) where
 mem:=by simp
 obj:=fun i h st b hb=>by
  have e:b=it:=by simpa using hb
  subst e
  obtain⟨o,e,c,d⟩:=st
  exact⟨o,e,fun v z=>by rw[d]at z;cases z⟩
 keep:=fun i h h' st k=>st.at fun o e=>k it (by simp) o e
 item:=by
  intro X hP hw hK hc i pins s σ H E I hf st hg
  subst hP hw hK
  obtain⟨xs,x,hq,hx⟩:=hg
  obtain⟨its,rv,p,hz⟩:=I.list hq
  obtain⟨u,hu,ru⟩:=rv.get hx
  obtain⟨f0,f1,f2,f3,f4,f5⟩:=hf it (by simp)
  refine wpAny_pyNext_list_item st p.isList (x:=u) (by simpa using hu) fun h' st' sb=>?_
  have I1:Inv X pins σ H { s with heap:=h' }:=I.turned (t':=s.toks) (fun b o hb e=>(sb.2 b hb).trans e) f0 f1 f3 f4 f5
  obtain⟨o,e,c,d⟩:=id st'
  exact⟨u,rfl,iL' (s:={ s with heap:=h' }) e c d (by decide) ⟨x,H,I1,ru,⟨rfl,fun ys hy=>by rw[I.list_inj hy hq];exact hx⟩,st',fun b hb=>(hf b hb).1⟩⟩
 done:=by
  intro X hP hw hK hc i pins s σ H E I hf st hg
  subst hP hw hK
  obtain⟨xs,hq,hx⟩:=hg
  obtain⟨its,rv,p,hz⟩:=I.list hq
  obtain⟨f0,f1,f2,f3,f4,f5⟩:=hf it (by simp)
  have hl:=rv.length
  exact wpAny_pyNext_list_end (I.ok.hd hc) st p.isList (by simp;omega) fun h' eb=>⟨rfl,I.turned (t':=s.toks) (fun b o hb e=>eb b o hb e) f0 f1 f3 f4 f5⟩
 self:=fun _ _ _ _ _ st h=>wpAny_pyIter_listiter st h
theorem hW' {P:Program} {w:World} {K:W.Frag} {tg:Expr} (a it:Addr):Turn P w K tg (Itt K a) [it] it (fun i h=>h.IsTupleIter it a i) where
 mem:=by simp
 obj:=fun i h st b hb=>by
  have e:b=it:=by simpa using hb
  subst e
  obtain⟨o,e,c,d⟩:=st
  exact⟨o,e,fun v z=>by rw[d]at z;cases z⟩
 keep:=fun i h h' st k=>st.at fun o e=>k it (by simp) o e
 item:=by
  intro X hP hw hK hc i pins s σ H E I hf st hg
  subst hP hw hK
  obtain⟨xs,x,hq,hx⟩:=hg
  obtain⟨its,rv,p,hz⟩:=I.tuple hq
  obtain⟨u,hu,ru⟩:=rv.get hx
  obtain⟨f0,f1,f2,f3,f4,f5⟩:=hf it (by simp)
  refine wpAny_pyNext_tuple_item st (show s.heap.IsTuple a its.toArray from p) (x:=u) (by simpa using hu) fun h' st' sb=>?_
  have I1:Inv X pins σ H { s with heap:=h' }:=I.turned (t':=s.toks) (fun b o hb e=>(sb.2 b hb).trans e) f0 f1 f3 f4 f5
  obtain⟨o,e,c,d⟩:=id st'
  exact⟨u,rfl,iL' (s:={ s with heap:=h' }) e c d (by decide) ⟨x,H,I1,ru,⟨rfl,fun ys hy=>by rw[I.tuple_inj hy hq];exact hx⟩,st',fun b hb=>(hf b hb).1⟩⟩
 done:=by
  intro X hP hw hK hc i pins s σ H E I hf st hg
  subst hP hw hK
  obtain⟨xs,hq,hx⟩:=hg
  obtain⟨its,rv,p,hz⟩:=I.tuple hq
  obtain⟨f0,f1,f2,f3,f4,f5⟩:=hf it (by simp)
  have hl:=rv.length
  exact wpAny_pyNext_tuple_end (I.ok.hd hc) st (show s.heap.IsTuple a its.toArray from p) (by simp;omega) fun h' eb=>⟨rfl,I.turned (t':=s.toks) (fun b o hb e=>eb b o hb e) f0 f1 f3 f4 f5⟩
 self:=fun _ _ _ _ _ st h=>wpAny_pyIter_tupleiter st h
theorem hX' {P:Program} {w:World} {K:W.Frag} {tg:Expr} (it:Addr) (lo:Int) (n:Nat):Turn P w K tg (Itr lo n) [it] it (fun i h=>IsRangeIter h it (lo+(i:Nat)*1) ((n:Int)-(i:Nat)) 1) where
 mem:=by simp
 obj:=fun i h st b hb=>by
  have e:b=it:=by simpa using hb
  subst e
  exact⟨_,st,fun v z=>by
   have z':Data.fields _=Data.cell v:=z
   cases z'⟩
 keep:=fun i h h' st k=>k it (by simp) _ st
 item:=by
  intro X hP hw hK hc i pins s σ H E I hf st hg
  subst hP hw hK
  obtain⟨f0,f1,f2,f3,f4,f5⟩:=hf it (by simp)
  have W:=Walks.range (prog:=X.prog) (w:=X.w) (I.ok.hd hc) it lo 1 n
  refine W.item i s _ _ hg st fun v h' tk hv st' kk=>?_
  obtain⟨t,rfl⟩:=hv
  have I1:Inv X pins σ H { s with heap:=h',toks:=tk }:=I.turned (fun b o hb e=>kk b o (by simpa using hb) e) f0 f1 f3 f4 f5
  refine⟨_,rfl,iL' (s:={ s with heap:=h',toks:=tk }) (n:="range_iterator") st' rfl rfl (by decide) ⟨.int (lo+i),H,I1,⟨t,?_⟩,⟨rfl,rfl⟩,st',fun b hb=>(hf b hb).1⟩⟩
  rw[Int.mul_one]
 done:=by
  intro X hP hw hK hc i pins s σ H E I hf st hg
  subst hP hw hK
  obtain⟨f0,f1,f2,f3,f4,f5⟩:=hf it (by simp)
  exact wpAny_pyNext_range_end (I.ok.hd hc) st (by have:n<=i:=hg;omega) fun h' eb=>⟨rfl,I.turned (t':=s.toks) (fun b o hb e=>eb b o hb e) f0 f1 f3 f4 f5⟩
 self:=fun _ _ _ _ _ st h=>wpAny_pyIter_rangeiter st h
section
variable {X:Cx} {tg:Expr}
theorem lo' {pins:List (Addr×Obj)} {σ:St} {H:Hp} {s:Shared} {R:It->Hp->Prop} {E:Value->Shared->Prop} {lo hi:Int} {t u v:Tok} {tk:Nat} (I:Inv X pins σ H s) (h1:-(2 ^ 62)<=lo) (h2:lo<2 ^ 62) (h3:-(2 ^ 62)<=hi) (h4:hi<2 ^ 62)
  (q:R (Itr lo (hi-lo).toNat) H):wpAny (model X.prog X.w) X.A (pyIter (.ref s.heap.objs.size)) (PIE X pins σ tg R) E { s with heap:=s.heap.push { cls:=.type "range",data:=.fields #[.int lo t,.int hi u,.int 1 v] },toks:=tk }:=by
 refine wpAny_pyIter_range (IsRange.new ..) (small_one h1 h2 h3 h4) ?_
 have I1:Inv X pins σ H { s with heap:=s.heap.push { cls:=.type "range",data:=.fields #[.int lo t,.int hi u,.int 1 v] },toks:=tk }:=I.kept fun b o e=>ac _ e
 refine⟨(s.heap.push { cls:=.type "range",data:=.fields #[.int lo t,.int hi u,.int 1 v] }).objs.size,[(s.heap.push { cls:=.type "range",data:=.fields #[.int lo t,.int hi u,.int 1 v] }).objs.size],_,_,H,rfl,
  I1.kept (t':=tk) fun b o e=>ac _ e,hX' _ lo (hi-lo).toNat,?_,fun b hb=>?_,q⟩
 .have e1:lo+((0:Nat):Int)*1=lo:=by simp
  have e2:(((hi-lo).toNat:Nat):Int)-((0:Nat):Int)=Builtin.Range.rangeSize lo hi 1:=by rw[rangeSize_one];split<;>omega
  show IsRangeIter _ _ (lo+((0:Nat):Int)*1) ((((hi-lo).toNat:Nat):Int)-((0:Nat):Int)) 1
  rw[e1,e2]
  exact ai _ rfl
 .have e:b=(s.heap.push { cls:=.type "range",data:=.fields #[.int lo t,.int hi u,.int 1 v] }).objs.size:=by simpa using hb
  subst e
  exact I1.fpOk (ag _) (I1.hok.fresh (ag _))
def oA' (ta:TA):TI:=fun σ H R=>ta σ H fun vs H1=>∃j:Int,vs=[.int j]/\-(2 ^ 62)<=j/\j<2 ^ 62/\R (Itr 0 j.toNat) H1
theorem iN' {a:Expr} {ta:TA} {p pos:Pos} (hg:Gl X "range") (hm:X.mg "range"=none) (ha:PA X [a] ta) (hs:starEach [a] X.env=[(false,eval a X.env)]:=by rfl):PI X tg (.Call (.Name "range" p) [a] [] pos) (oA' ta):=by
 intro pins s σ H R I h
 refine Call_ (c9' I hg hm boot_range (PyProof.Rows.callWith_type1 (thn (ha pos pins s σ H _ I h) fun us s1 ⟨vs,H1,I1,r1,q1⟩=>?_) hs rfl))
 obtain⟨j,e,q1,q2,q⟩:=q1
 subst e
 cases r1 with
 |cons r rr=>
  cases rr
  obtain⟨t,rfl⟩:=r
  exact call_range_1 (lo' I1 (by omega) (by omega) q1 q2 (by simpa using q))
def vt' (wi:TI) (g:TG) (tb:TS):TS:=fun D σ H=>wi σ H fun J H1=>∃W:Nat->Nat->St->Hp->Prop,(∃m,W 0 m σ H1)/\∀i m σ H,W i m σ H->
 (J.stop i H/\D.nx σ H)\/(J.go i H/\∃N:St->Hp->Prop,(∀σ' H',N σ' H'->∃m',m'<m/\W (i+1) m' σ' H')/\∀x H',J.yld i H x H'->g x σ H' fun σ2 H2=>tb { D with nx:=N,ct:=N,bk:=D.nx } σ2 H2)
def cm' (fp:List Addr) (h:Heap):List (Addr×Obj):=fp.filterMap fun b=>(h.get? b).map fun o=>(b,o)
theorem ba' {fp:List Addr} {h:Heap} {b:Addr} {o:Obj} (hb:b∈fp) (e:h.get? b=some o):(b,o)∈cm' fp h:=cH.mpr ⟨b,hb,by rw[e];rfl⟩
theorem dA' {fp:List Addr} {h:Heap} {p:Addr×Obj} (hp:p∈cm' fp h):p.1∈fp/\h.get? p.1=some p.2:=by
 obtain⟨b,hb,e⟩:=cH.mp hp
 cases q:h.get? b with
 |none=>rw[q]at e;cases e
 |some o=>
  rw[q]at e
  have e':(b,o)=p:=Option.some.inj e
  subst e'
  exact⟨hb,q⟩
theorem Inv.pinned {pins:List (Addr×Obj)} {σ:St} {H:Hp} {s:Shared} {fp:List Addr} (I:Inv X pins σ H s) (hf:∀b∈fp,cX' X pins H b) (ho:∀b∈fp,∃o,s.heap.get? b=some o/\∀v,o.data≠.cell v):Inv X (pins++cm' fp s.heap) σ H s:=
 I.pins_of fun p hp=>(aw.mp hp).elim (fun z=>I.pin p (ax _ z)) fun z=>by
  obtain⟨hb,e⟩:=dA' z
  obtain⟨f0,f1,f2,_⟩:=hf p.1 hb
  obtain⟨o,e',d⟩:=ho p.1 hb
  rw[e]at e';cases e'
  exact⟨e,f0,f1,f2,d⟩
theorem Inv.unpinned {pins pl:List (Addr×Obj)} {σ:St} {H:Hp} {s:Shared} (I:Inv X (pins++pl) σ H s):Inv X pins σ H s:=I.pins_of fun p hp=>I.pin p (ax _ (bD _ hp))
theorem re' {iter:Expr} {body:List Stmt} {wi:TI} {g:TG} {tb:TS} {pos:Pos} (hp:PassesOwn (model X.prog X.w) X.A X.env X.xe) (hc:X.calm=true) (hi:PI X tg iter wi) (hg:PG X tg g) (hb:PSs X body tb)
  (hs:∀x,foldedSetIterable iter X.env x=pure x:=by intro _;rfl):PS X (.For tg iter body [] pos) (vt' wi g tb):=by
 intro pins s σ H D I h
 refine wpAny_For (thn (hi pins s σ H _ I h) fun v s1 h1=>thn h1 fun itv s2 h2=>?_) hs
 obtain⟨it,fp,tn,J,H2,e,I2,T,st2,f2,W,⟨m0,w0⟩,turn⟩:=h2
 subst e
 have stat:∀{H':Hp},(∀b∈fp,H' b=none)->∀b∈fp,cX' X pins H' b:=fun hn b hb=>⟨hn b hb,(f2 b hb).2⟩
 refine codeAny_forLoop_any (fun n s'=>∃i σ' H',Inv X pins σ' H' s'/\tn i s'.heap/\(∀b∈fp,H' b=none)/\W i n σ' H') ?_ m0 ⟨0,σ,H2,I2,st2,fun b hb=>(f2 b hb).1,w0⟩
 rintro n s3 ⟨i,σ3,H3,I3,st3,fr3,w3⟩
 rcases turn i n σ3 H3 w3 with⟨stop,qn⟩|⟨go,N,hN,step⟩
 .refine cq hp (thn (T.done X rfl rfl rfl hc i pins s3 σ3 H3 X.xe I3 (stat fr3) st3 stop) fun r s4 ⟨hr,I4⟩=>?_)
  subst hr
  exact wpAny_execs_nil ⟨σ3,H3,I4,qn⟩
 .refine cq hp (thn (T.item X rfl rfl rfl hc i pins s3 σ3 H3 X.xe I3 (stat fr3) st3 go) fun r s4 ⟨u,hr,h4⟩=>?_)
  subst hr
  refine cq hp (thn h4 fun _ s5 ⟨x,H5,I5,r5,y5,st5,fr5⟩=>?_)
  have I5':=I5.pinned (stat fr5) (T.obj _ _ st5)
  refine cq hp (thn (hg _ s5 σ3 H5 x u _ I5' r5 (step x H5 y5)) fun _ s6 ⟨σ6,H6,I6,q6⟩=>?_)
  refine cq hp (thn (hb _ s6 σ6 H6 _ I6 q6) fun f s7 q7=>?_)
  have again:∀{σ7:St} {H7:Hp},Inv X (pins++cm' fp s5.heap) σ7 H7 s7->N σ7 H7->∃m,m<n/\∃i σ' H',Inv X pins σ' H' s7/\tn i s7.heap/\(∀b∈fp,H' b=none)/\W i m σ' H':=fun {σ7 H7} I7 n7=>by
   obtain⟨m',hm,w7⟩:=hN σ7 H7 n7
   refine⟨m',hm,i+1,σ7,H7,I7.unpinned,T.keep _ _ _ st5 fun b hb o e=>(I7.pin (b,o) (ax _ (ax _ (ba' hb e)))).1,fun b hb=>?_,w7⟩
   obtain⟨o,e,d⟩:=T.obj _ _ st5 b hb
   exact(I7.pin (b,o) (ax _ (ax _ (ba' hb e)))).2.1
  cases f with
  |next=>obtain⟨σ7,H7,I7,n7⟩:=q7;exact again I7 n7
  |cont=>obtain⟨σ7,H7,I7,n7⟩:=q7;exact again I7 n7
  |brk=>obtain⟨σ7,H7,I7,q7⟩:=q7;exact⟨σ7,H7,I7.unpinned,q7⟩
  |ret v=>obtain⟨x7,σ7,H7,I7,r7,q7⟩:=q7;exact⟨x7,σ7,H7,I7.unpinned,r7,q7⟩
end
theorem lp' {K:W.Frag} {a:Addr} {xs:List V} {g:TG} {tb:TS} {D:Ends} {σ:St} {H:Hp} (Pv:Nat->St->Hp->Prop) (h0:Pv 0 σ H) (hl:∀i σ H,i<=xs.length->Pv i σ H->SqL K H a xs)
  (hs:∀i x σ H,xs[i]?=some x->Pv i σ H->g x σ H fun σ2 H2=>tb { D with nx:=Pv (i+1),ct:=Pv (i+1),bk:=D.nx } σ2 H2) (hd:∀σ H,Pv xs.length σ H->D.nx σ H):
  ∃W:Nat->Nat->St->Hp->Prop,(∃m,W 0 m σ H)/\∀i m σ H,W i m σ H->
   ((Itl K a).stop i H/\D.nx σ H)\/((Itl K a).go i H/\∃N:St->Hp->Prop,(∀σ' H',N σ' H'->∃m',m'<m/\W (i+1) m' σ' H')/\∀x H',(Itl K a).yld i H x H'->g x σ H' fun σ2 H2=>tb { D with nx:=N,ct:=N,bk:=D.nx } σ2 H2):=by
 refine⟨fun i m σ H=>m=xs.length-i/\i<=xs.length/\Pv i σ H,⟨xs.length,by simp,aT _,h0⟩,?_⟩
 rintro i m σ H ⟨rfl,hi,p⟩
 have q:=hl i σ H hi p
 by_cases hlt:i<xs.length
 .refine .inr ⟨⟨xs,xs[i],q,by simp[hlt]⟩,Pv (i+1),fun σ' H' p'=>⟨xs.length-(i+1),by omega,rfl,hlt,p'⟩,fun x H' y=>?_⟩
  obtain⟨e,y⟩:=y
  subst e
  exact hs i x σ _ (y xs q) p
 .have e:i=xs.length:=by omega
  subst e
  exact .inl ⟨⟨xs,q,ag _⟩,hd σ H p⟩
theorem oB' {K:W.Frag} {a:Addr} {xs:List V} {g:TG} {tb:TS} {D:Ends} {σ:St} {H:Hp} (Pv:Nat->St->Hp->Prop) (h0:Pv 0 σ H) (hl:∀i σ H,i<=xs.length->Pv i σ H->SqT K H a xs)
  (hs:∀i x σ H,xs[i]?=some x->Pv i σ H->g x σ H fun σ2 H2=>tb { D with nx:=Pv (i+1),ct:=Pv (i+1),bk:=D.nx } σ2 H2) (hd:∀σ H,Pv xs.length σ H->D.nx σ H):
  ∃W:Nat->Nat->St->Hp->Prop,(∃m,W 0 m σ H)/\∀i m σ H,W i m σ H->
   ((Itt K a).stop i H/\D.nx σ H)\/((Itt K a).go i H/\∃N:St->Hp->Prop,(∀σ' H',N σ' H'->∃m',m'<m/\W (i+1) m' σ' H')/\∀x H',(Itt K a).yld i H x H'->g x σ H' fun σ2 H2=>tb { D with nx:=N,ct:=N,bk:=D.nx } σ2 H2):=by
 refine⟨fun i m σ H=>m=xs.length-i/\i<=xs.length/\Pv i σ H,⟨xs.length,by simp,aT _,h0⟩,?_⟩
 rintro i m σ H ⟨rfl,hi,p⟩
 have q:=hl i σ H hi p
 by_cases hlt:i<xs.length
 .refine .inr ⟨⟨xs,xs[i],q,by simp[hlt]⟩,Pv (i+1),fun σ' H' p'=>⟨xs.length-(i+1),by omega,rfl,hlt,p'⟩,fun x H' y=>?_⟩
  obtain⟨e,y⟩:=y
  subst e
  exact hs i x σ _ (y xs q) p
 .have e:i=xs.length:=by omega
  subst e
  exact .inl ⟨⟨xs,q,ag _⟩,hd σ H p⟩
theorem iO' {lo:Int} {n:Nat} {g:TG} {tb:TS} {D:Ends} {σ:St} {H:Hp} (Pv:Nat->St->Hp->Prop) (h0:Pv 0 σ H)
  (hs:∀i σ H,i<n->Pv i σ H->g (.int (lo+i)) σ H fun σ2 H2=>tb { D with nx:=Pv (i+1),ct:=Pv (i+1),bk:=D.nx } σ2 H2) (hd:∀σ H,Pv n σ H->D.nx σ H):
  ∃W:Nat->Nat->St->Hp->Prop,(∃m,W 0 m σ H)/\∀i m σ H,W i m σ H->
   ((Itr lo n).stop i H/\D.nx σ H)\/((Itr lo n).go i H/\∃N:St->Hp->Prop,(∀σ' H',N σ' H'->∃m',m'<m/\W (i+1) m' σ' H')/\∀x H',(Itr lo n).yld i H x H'->g x σ H' fun σ2 H2=>tb { D with nx:=N,ct:=N,bk:=D.nx } σ2 H2):=by
 refine⟨fun i m σ H=>m=n-i/\i<=n/\Pv i σ H,⟨n,by simp,aT _,h0⟩,?_⟩
 rintro i m σ H ⟨rfl,hi,p⟩
 by_cases hlt:i<n
 .refine .inr ⟨hlt,Pv (i+1),fun σ' H' p'=>⟨n-(i+1),by omega,rfl,hlt,p'⟩,fun x H' y=>?_⟩
  obtain⟨e,y⟩:=y
  subst e y
  exact hs i σ _ hlt p
 .have e:i=n:=by omega
  subst e
  exact .inl ⟨ag _,hd σ H p⟩
abbrev R2:=V->V->Hp->VK->Prop
def OpR (X:Cx) (f:Value->Value->Sem Value) (r:R2):Prop:=
 ∀(pins:List (Addr×Obj)) (s:Shared) (σ:St) (H:Hp) (x y:V) (v u:Value) (Q:VK),Inv X pins σ H s->av' x v->av' y u->r x y H Q->
  wpAny (model X.prog X.w) X.A (f v u) (EP X pins σ Q) X.xe s
def UnR (X:Cx) (f:Value->Sem Value) (r:V->Hp->VK->Prop):Prop:=
 ∀(pins:List (Addr×Obj)) (s:Shared) (σ:St) (H:Hp) (x:V) (v:Value) (Q:VK),Inv X pins σ H s->av' x v->r x H Q->
  wpAny (model X.prog X.w) X.A (f v) (EP X pins σ Q) X.xe s
def aT' (X:Cx) (f:Value) (r:List V->Hp->VK->Prop):Prop:=
 ∀(pins:List (Addr×Obj)) (s:Shared) (σ:St) (H:Hp) (xs:List V) (us:List Value) (Q:VK),Inv X pins σ H s->aA' xs us->r xs H Q->
  wpAny (model X.prog X.w) X.A (call f us) (EP X pins σ Q) X.xe s
def yx' (X:Cx) (r:V->Hp->(Bool->Hp->Prop)->Prop):Prop:=
 ∀(pins:List (Addr×Obj)) (s:Shared) (σ:St) (H:Hp) (x:V) (v:Value) (Q:Bool->Hp->Prop),Inv X pins σ H s->av' x v->r x H Q->
  wpAny (model X.prog X.w) X.A (truthy v) (TP X pins σ Q) X.xe s
def tOp (r:R2) (ta tb:TE):TE:=fun σ H Q=>ta σ H fun x H1=>tb σ H1 fun y H2=>r x y H2 Q
def tUn (r:V->Hp->VK->Prop) (ta:TE):TE:=fun σ H Q=>ta σ H fun x H1=>r x H1 Q
def rI (C:Int->Int->Prop) (g:Int->Int->V):R2:=fun x y H Q=>∃i j,x=.int i/\y=.int j/\C i j/\Q (g i j) H
def rI0 (g:Int->Int->V):R2:=fun x y H Q=>∃i j,x=.int i/\y=.int j/\Q (g i j) H
def rU (g:Int->V):V->Hp->VK->Prop:=fun x H Q=>∃i,x=.int i/\Q (g i) H
section
variable {X:Cx} {a b c:Expr} {ta tb tc:TE} {pos:Pos}
theorem vu' (ha:PE X a ta) (hb:PE X b tb) {pins:List (Addr×Obj)} {s:Shared} {σ:St} {H:Hp} {R:V->V->Hp->Prop} (I:Inv X pins σ H s)
  (h:ta σ H fun x H1=>tb σ H1 fun y H2=>R x y H2) {Q:Value->Shared->Prop} {f:Value->Value->Sem Value}
  (hf:∀v u s2 x y H2,Inv X pins σ H2 s2->av' x v->av' y u->R x y H2->wpAny (model X.prog X.w) X.A (f v u) Q X.xe s2):
  wpAny (model X.prog X.w) X.A (eval a X.env) (fun v s₁=>wpAny (model X.prog X.w) X.A (eval b X.env) (fun u s₂=>wpAny (model X.prog X.w) X.A (f v u) Q X.xe s₂) X.xe s₁) X.xe s:=by
 refine thn (ha pins s σ H _ I h) fun v s1 ⟨x,H1,I1,r1,q1⟩=>?_
 refine thn (hb pins s1 σ H1 _ I1 q1) fun u s2 ⟨y,H2,I2,r2,q2⟩=>?_
 exact hf v u s2 x y H2 I2 r1 r2 q2
theorem vv' {op:Operator} {r:R2} (ho:OpR X (binaryOp op) r) (ha:PE X a ta) (hb:PE X b tb):PE X (.BinOp a op b pos) (tOp r ta tb):=by
 intro pins s σ H Q I h
 exact wpAny_BinOp (vu' ha hb I h fun v u s2 x y H2 I2 rx ry q=>ho pins s2 σ H2 x y v u Q I2 rx ry q)
theorem rf' {op:UnaryOp} {r:V->Hp->VK->Prop} (ho:UnR X (unaryOp op) r) (ha:PE X a ta):PE X (.UnaryOp op a pos) (tUn r ta):=by
 intro pins s σ H Q I h
 exact UnaryOp_ (thn (ha pins s σ H _ I h) fun v s1 ⟨x,H1,I1,r1,q1⟩=>ho pins s1 σ H1 x v Q I1 r1 q1)
theorem opI {f:Value->Value->Sem Value} {C:Int->Int->Prop} {g:Int->Int->Int}
  (rule:∀(i j:Int) (t u:Tok) (s:Shared) (Q:Value->Shared->Prop) (E:Value->Shared->Prop),C i j->Q (.int (g i j) s.toks) { s with toks:=s.toks+1 }->wpAny (model X.prog X.w) X.A (f (.int i t) (.int j u)) Q E s):
  OpR X f (rI C fun i j=>.int (g i j)):=by
 intro pins s σ H x y v u Q I rx ry h
 obtain⟨i,j,rfl,rfl,hc,q⟩:=h
 obtain⟨t,rfl⟩:=rx
 obtain⟨t',rfl⟩:=ry
 exact rule i j t t' s _ _ hc ⟨.int (g i j),H,I.tok _,⟨_,rfl⟩,q⟩
theorem vw' {f:Value->Value->Sem Value} {g:Int->Int->Int}
  (rule:∀(i j:Int) (t u:Tok) (s:Shared) (Q:Value->Shared->Prop) (E:Value->Shared->Prop),Q (.int (g i j) s.toks) { s with toks:=s.toks+1 }->wpAny (model X.prog X.w) X.A (f (.int i t) (.int j u)) Q E s):
  OpR X f (rI0 fun i j=>.int (g i j)):=by
 intro pins s σ H x y v u Q I rx ry h
 obtain⟨i,j,rfl,rfl,q⟩:=h
 obtain⟨t,rfl⟩:=rx
 obtain⟨t',rfl⟩:=ry
 exact rule i j t t' s _ _ ⟨.int (g i j),H,I.tok _,⟨_,rfl⟩,q⟩
theorem u3' {f:Value->Value->Sem Value} {g:Int->Int->Bool}
  (rule:∀(i j:Int) (t u:Tok) (s:Shared) (Q:Value->Shared->Prop) (E:Value->Shared->Prop),Q (.bool (g i j)) s->wpAny (model X.prog X.w) X.A (f (.int i t) (.int j u)) Q E s):
  OpR X f (rI0 fun i j=>.bl (g i j)):=by
 intro pins s σ H x y v u Q I rx ry h
 obtain⟨i,j,rfl,rfl,q⟩:=h
 obtain⟨t,rfl⟩:=rx
 obtain⟨t',rfl⟩:=ry
 exact rule i j t t' s _ _ ⟨.bl (g i j),H,I,rfl,q⟩
def yy' (i j:Int):Prop:=0<j/\j<1073741824
def vx' (i j:Int):Prop:=0<=j/\j<=1000000/\i.natAbs<2 ^ 64
def u4' (i j:Int):Prop:=(-(2 ^ 64)<i/\i<2 ^ 64)\/(-(2 ^ 64)<j/\j<2 ^ 64)
theorem u4'.ok {i j:Int} (h:u4' i j):IntMulOk i j:=by
 rcases h with⟨h1,h2⟩|⟨h1,h2⟩
 .exact .of_left (intBits_le_64 h1 h2)
 .exact .of_right (intBits_le_64 h1 h2)
theorem hY' (k:Nat):(0:Int)<=2 ^ k:=by
 rw[two_pow_cast]
 exact Int.natCast_nonneg _
theorem rg':OpR X (binaryOp .Add) (rI0 fun i j=>.int (i+j)):=vw' fun _ _ _ _ _ _ _ q=>add_int q
theorem rh':OpR X (binaryOp .Sub) (rI0 fun i j=>.int (i-j)):=vw' fun _ _ _ _ _ _ _ q=>sub_int q
theorem oC':OpR X (binaryOp .FloorDiv) (rI yy' fun i j=>.int (i / j)):=opI fun i j _ _ _ _ _ hc q=>by
 have h1:(0:Int)<j:=hc.1
 have h2:j<1073741824:=hc.2
 exact floordiv_int (by omega) (by rw[Int.fdiv_eq_ediv_of_nonneg i (by omega)];exact q) (.inl (PyProof.noPylong_small (by omega)))
theorem ri':OpR X (binaryOp .Mod) (rI (fun _ j=>0<j) fun i j=>.int (i % j)):=opI fun i j _ _ _ _ _ hc q=>by
 have h1:(0:Int)<j:=hc
 exact mod_int' (by omega) (by rw[Int.fmod_eq_emod_of_nonneg i (by omega)];exact q)
theorem rj':OpR X (binaryOp .Pow) (rI vx' fun i j=>.int (i ^ j.toNat)):=opI fun _ _ _ _ _ _ _ hc q=>pow_int_small hc.1 hc.2.1 hc.2.2 q
theorem rk':OpR X (binaryOp .RShift) (rI (fun _ j=>0<=j) fun i j=>.int (i / 2 ^ j.toNat)):=opI fun i j _ _ _ _ _ hc q=>
 rshift_int hc (by rw[Int.fdiv_eq_ediv_of_nonneg i (hY' _)];exact q)
theorem rl':OpR X (binaryOp .BitAnd) (rI0 fun i j=>.int (Builtin.bitAnd i j)):=vw' fun _ _ _ _ _ _ _ q=>and_int q
theorem unI {f:Value->Sem Value} {g:Int->Int}
  (rule:∀(i:Int) (t:Tok) (s:Shared) (Q:Value->Shared->Prop) (E:Value->Shared->Prop),Q (.int (g i) s.toks) { s with toks:=s.toks+1 }->wpAny (model X.prog X.w) X.A (f (.int i t)) Q E s):
  UnR X f (rU fun i=>.int (g i)):=by
 intro pins s σ H x v Q I rx h
 obtain⟨i,rfl,q⟩:=h
 obtain⟨t,rfl⟩:=rx
 exact rule i t s _ _ ⟨.int (g i),H,I.tok _,⟨_,rfl⟩,q⟩
theorem nD':UnR X (unaryOp .USub) (rU fun i=>.int (-i)):=unI fun _ _ _ _ _ q=>neg_int q
end
def iP':V->V->Bool
 | .non,.non=>true | .non,.int _=>true | .int _,.non=>true | .non,.bl _=>true | .bl _,.non=>true | .non,.str _=>true | .str _,.non=>true
 | .int _,.int _=>true | .bl _,.bl _=>true | .str _,.str _=>true | .byt _,.byt _=>true
 | .int _,.str _=>true | .str _,.int _=>true | .bl _,.str _=>true | .str _,.bl _=>true
 |_,_=>false
def rEq:R2:=fun x y H Q=>iP' x y=true/\Q (.bl (decide (x=y))) H
def rNe:R2:=fun x y H Q=>iP' x y=true/\Q (.bl (!decide (x=y))) H
theorem gg' {i j:Int}:decide (V.int i=V.int j)=(i == j):=by
 rw[bK]
 simp
theorem nE' {i j:Bool}:decide (V.bl i=V.bl j)=(i == j):=by
 rw[bK]
 simp
theorem iQ' {i j:Str}:decide (V.str i=V.str j)=(i == j):=by
 rw[bK]
 simp
theorem iR' {i j:Array UInt8}:decide (V.byt i=V.byt j)=(i.toList == j.toList):=by
 rw[bK]
 cases i
 cases j
 simp
section
variable {X:Cx} {a b c:Expr} {ta tb tc:TE} {pos:Pos}
theorem au' {pins:List (Addr×Obj)} {σ:St} {H:Hp} {s:Shared} {Q:VK} {k k':Bool} (I:Inv X pins σ H s) (q:Q (.bl k) H) (e:k=k'):EP X pins σ Q (.bool k') s:=by
 subst e
 exact⟨.bl k,H,I,rfl,q⟩
theorem vy':OpR X (compareOp .Eq) rEq:=by
 intro pins s σ H x y v u Q I rx ry h
 obtain⟨hs,q⟩:=h
 cases x with
 |non=>
  cases rx
  cases y with
  |non=>cases ry;exact PySem.EqNone.eq_none_none (au' I q (by simp))
  |bl j=>cases ry;exact PySem.EqNone.eq_none_bool (au' I q (by simp))
  |int j=>obtain⟨t',rfl⟩:=ry;exact PySem.EqNone.eq_none_int (au' I q (by simp))
  |str j=>obtain⟨t',rfl⟩:=ry;exact PySem.EqNone.eq_none_str (au' I q (by simp))
  |_=>exact absurd (show false=true from hs) al
 |bl i=>
  cases rx
  cases y with
  |non=>cases ry;exact PySem.EqNone.eq_bool_none (au' I q (by simp))
  |bl j=>cases ry;exact eq_bool (au' I q nE')
  |str j=>obtain⟨t',rfl⟩:=ry;exact PySem.EqMixed.eq_bool_str (au' I q (by simp))
  |_=>exact absurd (show false=true from hs) al
 |int i=>
  obtain⟨t,rfl⟩:=rx
  cases y with
  |non=>cases ry;exact PySem.EqNone.eq_int_none (au' I q (by simp))
  |int j=>obtain⟨t',rfl⟩:=ry;exact eq_int (au' I q gg')
  |str j=>obtain⟨t',rfl⟩:=ry;exact PySem.EqMixed.eq_int_str (au' I q (by simp))
  |_=>exact absurd (show false=true from hs) al
 |str i=>
  obtain⟨t,rfl⟩:=rx
  cases y with
  |non=>cases ry;exact PySem.EqNone.eq_str_none (au' I q (by simp))
  |bl j=>cases ry;exact PySem.EqMixed.eq_str_bool (au' I q (by simp))
  |int j=>obtain⟨t',rfl⟩:=ry;exact PySem.EqMixed.eq_str_int (au' I q (by simp))
  |str j=>obtain⟨t',rfl⟩:=ry;exact eq_str (au' I q iQ')
  |_=>exact absurd (show false=true from hs) al
 |byt i=>
  obtain⟨t,rfl⟩:=rx
  cases y with
  |byt j=>obtain⟨t',rfl⟩:=ry;exact W.eq_bytes (au' I q iR')
  |_=>exact absurd (show false=true from hs) al
 |_=>cases y<;>exact absurd (show false=true from hs) al
theorem vz':OpR X (compareOp .NotEq) rNe:=by
 intro pins s σ H x y v u Q I rx ry h
 obtain⟨hs,q⟩:=h
 cases x with
 |non=>
  cases rx
  cases y with
  |non=>cases ry;exact PySem.EqNone.ne_none_none (au' I q (by simp))
  |bl j=>cases ry;exact PySem.EqNone.ne_none_bool (au' I q (by simp))
  |int j=>obtain⟨t',rfl⟩:=ry;exact PySem.EqNone.ne_none_int (au' I q (by simp))
  |str j=>obtain⟨t',rfl⟩:=ry;exact PySem.EqNone.ne_none_str (au' I q (by simp))
  |_=>exact absurd (show false=true from hs) al
 |bl i=>
  cases rx
  cases y with
  |non=>cases ry;exact PySem.EqNone.ne_bool_none (au' I q (by simp))
  |bl j=>cases ry;exact ne_bool (au' I q (congrArg not nE'))
  |str j=>obtain⟨t',rfl⟩:=ry;exact PySem.EqMixed.ne_bool_str (au' I q (by simp))
  |_=>exact absurd (show false=true from hs) al
 |int i=>
  obtain⟨t,rfl⟩:=rx
  cases y with
  |non=>cases ry;exact PySem.EqNone.ne_int_none (au' I q (by simp))
  |int j=>obtain⟨t',rfl⟩:=ry;exact ne_int (au' I q (congrArg not gg'))
  |str j=>obtain⟨t',rfl⟩:=ry;exact PySem.EqMixed.ne_int_str (au' I q (by simp))
  |_=>exact absurd (show false=true from hs) al
 |str i=>
  obtain⟨t,rfl⟩:=rx
  cases y with
  |non=>cases ry;exact PySem.EqNone.ne_str_none (au' I q (by simp))
  |bl j=>cases ry;exact PySem.EqMixed.ne_str_bool (au' I q (by simp))
  |int j=>obtain⟨t',rfl⟩:=ry;exact PySem.EqMixed.ne_str_int (au' I q (by simp))
  |str j=>obtain⟨t',rfl⟩:=ry;exact ne_str (au' I q (congrArg not iQ'))
  |_=>exact absurd (show false=true from hs) al
 |byt i=>
  obtain⟨t,rfl⟩:=rx
  cases y with
  |byt j=>obtain⟨t',rfl⟩:=ry;exact W.ne_bytes (au' I q (congrArg not iR'))
  |_=>exact absurd (show false=true from hs) al
 |_=>cases y<;>exact absurd (show false=true from hs) al
theorem vA':OpR X (compareOp .Lt) (rI0 fun i j=>.bl (decide (i<j))):=u3' fun _ _ _ _ _ _ _ q=>lt_int q
theorem vB':OpR X (compareOp .LtE) (rI0 fun i j=>.bl (decide (i<=j))):=u3' fun _ _ _ _ _ _ _ q=>le_int q
theorem vC':OpR X (compareOp .Gt) (rI0 fun i j=>.bl (decide (j<i))):=u3' fun _ _ _ _ _ _ _ q=>gt_int q
theorem vD':OpR X (compareOp .GtE) (rI0 fun i j=>.bl (decide (j<=i))):=u3' fun _ _ _ _ _ _ _ q=>ge_int q
theorem rm':OpR X (compareOp .Is) (fun x y H Q=>y=.non/\Q (.bl (decide (x=.non))) H):=by
 intro pins s σ H x y v u Q I rx ry h
 obtain⟨rfl,q⟩:=h
 cases ry
 refine is_none_gen (au' I q ?_)
 cases x<;>first
  |(cases rx;rfl)
  |(obtain⟨t,rfl⟩:=rx;rfl)
theorem oD':OpR X (compareOp .IsNot) (fun x y H Q=>y=.non/\Q (.bl (!decide (x=.non))) H):=by
 intro pins s σ H x y v u Q I rx ry h
 obtain⟨rfl,q⟩:=h
 cases ry
 refine isnot_none_gen (au' I q ?_)
 cases x<;>first
  |(cases rx;rfl)
  |(obtain⟨t,rfl⟩:=rx;rfl)
theorem OpR.or {f:Value->Value->Sem Value} {r r':R2} (h:OpR X f r) (h':OpR X f r'):OpR X f (fun x y H Q=>r x y H Q\/r' x y H Q):=by
 intro pins s σ H x y v u Q I rx ry q
 rcases q with q|q
 .exact h pins s σ H x y v u Q I rx ry q
 .exact h' pins s σ H x y v u Q I rx ry q
theorem oE' {op:CmpOp} {r:R2} (ho:OpR X (compareOp op) r) (ha:PE X a ta) (hb:PE X b tb) (hm:behindInMarks op b=false):PE X (.Compare a [op] [b] pos) (tOp r ta tb):=by
 intro pins s σ H Q I h
 exact wpAny_Compare1 (vu' ha hb I h fun v u s2 x y H2 I2 rx ry q=>ho pins s2 σ H2 x y v u Q I2 rx ry q) hm
def dl' (t:TE):TT:=fun σ H Q=>t σ H fun x H'=>∃k,x=.bl k/\Q k H'
theorem gh' {op:CmpOp} {r:R2} (ho:OpR X (compareOp op) r) (ha:PE X a ta) (hb:PE X b tb) (hm:behindInMarks op b=false):PT X (.Compare a [op] [b] pos) (dl' (tOp r ta tb)):=by
 intro pins s σ H Q I h
 refine wpAny_isTrue_Compare1 (thn (ha pins s σ H _ I h) fun v s1 ⟨x,H1,I1,r1,q1⟩=>thn (hb pins s1 σ H1 _ I1 q1) fun u s2 ⟨y,H2,I2,r2,q2⟩=>
  thn (ho pins s2 σ H2 x y v u _ I2 r1 r2 q2) fun c s3 ⟨z,H3,I3,r3,k,e,q3⟩=>?_) hm
 subst e
 cases r3
 exact aW ⟨H3,I3,q3⟩
def da' (r r':R2) (ta tb tc:TE):TE:=fun σ H Q=>ta σ H fun x H1=>tb σ H1 fun y H2=>r x y H2 fun z H3=>∃k,z=.bl k/\
 (if k=true then tc σ H3 fun w' H4=>r' y w' H4 Q else Q (.bl false) H3)
theorem lq' {op op':CmpOp} {r r':R2} (ho:OpR X (compareOp op) r) (ho':OpR X (compareOp op') r') (ha:PE X a ta) (hb:PE X b tb) (hc:PE X c tc)
  (hm:lastMarks [op,op'] [b,c]=false:=by with_unfolding_all rfl):PE X (.Compare a [op,op'] [b,c] pos) (da' r r' ta tb tc):=by
 intro pins s σ H Q I h
 refine Compare_chain (thn (ha pins s σ H _ I h) fun v s1 ⟨x,H1,I1,r1,q1⟩=>chain_link (thn (hb pins s1 σ H1 _ I1 q1) fun u s2 ⟨y,H2,I2,r2,q2⟩=>
  thn (ho pins s2 σ H2 x y v u _ I2 r1 r2 q2) fun d s3 ⟨z,H3,I3,r3,k,e,q3⟩=>?_)) hm
 subst e
 cases r3
 refine aW ?_
 cases k with
 |false=>exact ite_ff ⟨.bl false,H3,I3,rfl,q3⟩
 |true=>exact ite_tt (chain_last (thn (hc pins s3 σ H3 _ I3 q3) fun w' s4 ⟨z',H4,I4,r4,q4⟩=>ho' pins s4 σ H4 y z' u w' Q I4 r2 r4 q4))
theorem lr' {op op':CmpOp} {r r':R2} (ho:OpR X (compareOp op) r) (ho':OpR X (compareOp op') r') (ha:PE X a ta) (hb:PE X b tb) (hc:PE X c tc)
  (hm:lastMarks [op,op'] [b,c]=false:=by with_unfolding_all rfl):PT X (.Compare a [op,op'] [b,c] pos) (dl' (da' r r' ta tb tc)):=by
 intro pins s σ H Q I h
 refine isTrue_chain (thn (ha pins s σ H _ I h) fun v s1 ⟨x,H1,I1,r1,q1⟩=>test_link (thn (hb pins s1 σ H1 _ I1 q1) fun u s2 ⟨y,H2,I2,r2,q2⟩=>
  thn (ho pins s2 σ H2 x y v u _ I2 r1 r2 q2) fun d s3 ⟨z,H3,I3,r3,k,e,q3⟩=>?_)) hm
 subst e
 cases r3
 refine aW ?_
 cases k with
 |false=>
  obtain⟨k',e',q'⟩:=q3
  cases e'
  exact ite_ff ⟨H3,I3,q'⟩
 |true=>
  refine ite_tt (test_last (thn (hc pins s3 σ H3 _ I3 q3) fun w' s4 ⟨z',H4,I4,r4,q4⟩=>thn (ho' pins s4 σ H4 y z' u w' _ I4 r2 r4 q4) fun d' s5 ⟨z2,H5,I5,r5,k2,e2,q5⟩=>?_))
  subst e2
  cases r5
  exact aW ⟨H5,I5,q5⟩
def rn' (K:W.Frag) (x:V) (H:Hp) (k:Bool):Prop:=
 match x with
 | .non=>k=false
 | .bl b=>k=b
 | .int i=>k=(i != 0)
 | .str y=>y.length<=sizeLine/\k=((y.length:Int) != 0)
 | .byt y=>y.size<=sizeLine/\k=((y.size:Int) != 0)
 | .ref p=>(∃xs,SqL K H p xs/\k=!xs.isEmpty)\/(∃xs,SqT K H p xs/\k=!xs.isEmpty)\/∃kvs,H p=some (.dK kvs)/\k=!kvs.isEmpty
 |_=>False
theorem hZ' {κ:Type} {kvs:List (κ×V)} {vs:List (κ×Value)} (r:KV kvs vs):(!vs.isEmpty)=!kvs.isEmpty:=by
 cases r<;>rfl
theorem eB' {xs:List V} {its:List Value} (r:aA' xs its):(!its.toArray.isEmpty)=!xs.isEmpty:=by
 cases r<;>simp
theorem eC':(sizeLine:Nat)<2 ^ 63:=by rw[sizeLine_eq];decide
theorem ro':yx' X (fun x H Q=>∃k,rn' X.K x H k/\Q k H):=by
 intro pins s σ H x v Q I rx h
 obtain⟨k,e,q⟩:=h
 have hl:=eC'
 have hs:sizeLine=16777216:=sizeLine_eq
 cases x with
 |non=>
  cases rx
  have e':k=false:=e
  subst e'
  exact truthy_none ⟨H,I,q⟩
 |bl b=>
  cases rx
  have e':k=b:=e
  subst e'
  exact aW ⟨H,I,q⟩
 |int i=>
  obtain⟨t,rfl⟩:=rx
  have e':k=(i != 0):=e
  subst e'
  exact PySem.P.truthy_int ⟨H,I,q⟩
 |str y=>
  obtain⟨t,rfl⟩:=rx
  obtain⟨hy,e'⟩:y.length<=sizeLine/\k=((y.length:Int) != 0):=e
  subst e'
  exact PySem.P.truthy_str (by omega) ⟨H,I.tok _,q⟩
 |byt y=>
  obtain⟨t,rfl⟩:=rx
  obtain⟨hy,e'⟩:y.size<=sizeLine/\k=((y.size:Int) != 0):=e
  subst e'
  exact W.truthy_bytes (by omega) ⟨H,I.tok _,q⟩
 |ref p=>
  cases rx
  have e':(∃xs,SqL X.K H p xs/\k=!xs.isEmpty)\/(∃xs,SqT X.K H p xs/\k=!xs.isEmpty)\/∃kvs,H p=some (.dK kvs)/\k=!kvs.isEmpty:=e
  rcases e' with⟨xs,hx,e'⟩|⟨xs,hx,e'⟩|⟨kvs,hx,e'⟩
  .subst e'
   obtain⟨its,r,pl,hz⟩:=I.list hx
   have hlen:=r.length
   exact wpAny_truthy_list pl.isList (by simp only[aj];omega) ⟨H,I.tok _,by rw[eB' r];exact q⟩
  .subst e'
   obtain⟨its,r,pl,hz⟩:=I.tuple hx
   have hlen:=r.length
   exact truthy_tuple pl (by simp only[aj];omega) ⟨H,I.tok _,by rw[eB' r];exact q⟩
  .subst e'
   obtain⟨hz,hS,vs,r,m⟩:kvs.length<=sizeLine/\(p == sysModules)=false/\∃vs,KV kvs vs/\s.heap.DictOf (al' X.prog X.w) p vs:=I.hok p _ hx
   have hlen:kvs.length=vs.length:=Paired.length r
   exact wpAny_truthy_dict hS m (by omega) ⟨H,I.tok _,by rw[hZ' r];exact q⟩
 |_=>exact(show False from e).elim
theorem ls' (ha:PE X a ta) (he:∀whole,isTrue a X.env whole=(do let v <- whole;standAt a.pos;holding [v] (truthy v))):
  PT X a (fun σ H Q=>ta σ H fun x H'=>∃k,rn' X.K x H' k/\Q k H'):=by
 intro pins s σ H Q I h
 exact isTrue_plain (thn (ha pins s σ H _ I h) fun v s1 ⟨x,H1,I1,r1,q1⟩=>ro' pins s1 σ H1 x v Q I1 r1 q1) (he _)
theorem h0':OpR X (binaryOp .Add) (fun x y H Q=>∃i j,x=.str i/\y=.str j/\i.length+j.length<=sizeLine/\Q (.str (i++j)) H):=by
 intro pins s σ H x y v u Q I rx ry h
 obtain⟨i,j,rfl,rfl,hz,q⟩:=h
 obtain⟨t,rfl⟩:=rx
 obtain⟨t',rfl⟩:=ry
 exact add_str (fun t' tk=>⟨.str (i++j),H,I.tok _,⟨_,rfl⟩,q⟩) hz
theorem ej' {x:V} {us:List Value} (r:aA' [x] us):∃u,us=[u]/\av' x u:=by
 cases r with
 |cons r1 r2=>cases r2;exact⟨_,rfl,r1⟩
theorem lu' {x y:V} {us:List Value} (r:aA' [x,y] us):∃u w',us=[u,w']/\av' x u/\av' y w':=by
 cases r with
 |cons r1 r2=>
  cases r2 with
  |cons r3 r4=>cases r4;exact⟨_,_,rfl,r1,r3⟩
theorem lv':aT' X (.builtin "abs") (fun xs H Q=>∃i,xs=[.int i]/\Q (.int (if i<0 then -i else i)) H):=by
 intro pins s σ H xs us Q I r h
 obtain⟨i,rfl,q⟩:=h
 obtain⟨u,rfl,t,rfl⟩:=ej' r
 exact call_abs_int fun u tk=>⟨.int (if i<0 then -i else i),H,I.tok _,⟨_,rfl⟩,q⟩
theorem iS' (hc:X.calm=true):aT' X (.builtin "min") (fun xs H Q=>∃i j,xs=[.int i,.int j]/\Q (.int (if j<i then j else i)) H):=by
 intro pins s σ H xs us Q I r h
 obtain⟨i,j,rfl,q⟩:=h
 obtain⟨u,w',rfl,⟨t,rfl⟩,⟨t',rfl⟩⟩:=lu' r
 refine min_two_ints (I.ok.hd hc) fun h' tk k=>⟨_,H,I.kept k,?_,q⟩
 by_cases hj:j<i
 .rw[if_pos hj,if_pos hj];exact⟨_,rfl⟩
 .rw[if_neg hj,if_neg hj];exact⟨_,rfl⟩
theorem iT':aT' X (.type "int") (fun xs H Q=>(∃i,xs=[.int i]/\Q (.int i) H)\/∃k,xs=[.bl k]/\Q (.int (if k then 1 else 0)) H):=by
 intro pins s σ H xs us Q I r h
 rcases h with⟨i,rfl,q⟩|⟨k,rfl,q⟩
 .obtain⟨u,rfl,t,rfl⟩:=ej' r
  exact call_int_int ⟨.int i,H,I,⟨_,rfl⟩,q⟩
 .obtain⟨u,rfl,r1⟩:=ej' r
  cases r1
  exact call_int_bool ⟨.int (if k then 1 else 0),H,I.tok _,⟨_,rfl⟩,q⟩
def xy' (K:W.Frag) (x:V) (H:Hp) (n:Nat):Prop:=
 match x with
 | .str y=>y.length<=sizeLine/\n=y.length
 | .byt y=>y.size<=sizeLine/\n=y.size
 | .ref p=>(∃xs,SqL K H p xs/\n=xs.length)\/∃xs,SqT K H p xs/\n=xs.length
 |_=>False
theorem lw':aT' X (.builtin "len") (fun xs H Q=>∃x n,xs=[x]/\xy' X.K x H n/\Q (.int n) H):=by
 intro pins s σ H xs us Q I r h
 obtain⟨x,n,rfl,e,q⟩:=h
 obtain⟨u,rfl,rx⟩:=ej' r
 have hl:=eC'
 have hs:sizeLine=16777216:=sizeLine_eq
 cases x with
 |str y=>
  obtain⟨t,rfl⟩:=rx
  obtain⟨hy,e'⟩:y.length<=sizeLine/\n=y.length:=e
  subst e'
  exact len_str (by omega) ⟨.int _,H,I.tok _,⟨_,rfl⟩,q⟩
 |byt y=>
  obtain⟨t,rfl⟩:=rx
  obtain⟨hy,e'⟩:y.size<=sizeLine/\n=y.size:=e
  subst e'
  exact W.len_bytes (by omega) ⟨.int _,H,I.tok _,⟨_,rfl⟩,q⟩
 |ref p=>
  cases rx
  have e':(∃xs,SqL X.K H p xs/\n=xs.length)\/∃xs,SqT X.K H p xs/\n=xs.length:=e
  rcases e' with⟨xs,hx,e'⟩|⟨xs,hx,e'⟩
  .subst e'
   obtain⟨its,r',pl,hz⟩:=I.list hx
   have hlen:=r'.length
   exact Calls.call_len_list pl.isList (by simp only[aj];omega) ⟨.int xs.length,H,I.tok _,⟨_,by simp only[aj];rw[hlen]⟩,q⟩
  .subst e'
   obtain⟨its,r',pl,hz⟩:=I.tuple hx
   have hlen:=r'.length
   exact len_tuple pl (by simp only[aj];omega) ⟨.int xs.length,H,I.tok _,⟨_,by simp only[aj];rw[hlen]⟩,q⟩
 |_=>exact(show False from e).elim
end
structure ObjM (h:Heap) (x dx C:Addr) (mA:Str->Option Value):Prop where
 obj:h.get? x=some (W.instObj C dx)
 ns:h.Ns1 dx mA
 ne:dx≠x
set_option tactic.hygienic true in
theorem iU' {h:Heap} {dx:Addr} {mA:Str->Option Value} (n:h.Ns1 dx mA):∃od,h.get? dx=some od/\∀name,W.lookIn name od=some (mA name):=by
 obtain⟨o,es,ep,ho,hd,hk,_,hm⟩:=n
 refine⟨o,ho,fun name=>?_⟩
 have e:=hm name
 unfold nsFind findBy at e
 rw[<- Array.find?_toList]at e
 unfold W.lookIn
 rw[hd]
 dsimp only
 split
 .rename_i y q
  rw[q]at e
  exact congrArg some e
 .rename_i q
  rw[q]at e
  have a:es.toList.any (·.refKey)=false:=by
   rw[List.any_eq_false]
   intro y hy
   obtain⟨z,t,hkey⟩:=hk y (cR.mp hy)
   simp[DictEntry.refKey,hkey]
  have a':¬es.toList.any (·.refKey)=true:=by rw[a];exact al
  rw[if_neg a']
  exact congrArg some e
theorem ObjM.look {h:Heap} {x dx C:Addr} {mA:Str->Option Value} (I:ObjM h x dx C mA):∃od,W.InstAt h x (W.instObj C dx) C (some od)/\∀name,W.lookIn name od=some (mA name):=
 let⟨od,ho,hl⟩:=iU' I.ns
 ⟨od,⟨I.obj,rfl,rfl,ho⟩,hl⟩
section
variable {prog:Program} {w:World} {A:Around} {E:Value->Shared->Prop} {s:Shared} {K:W.Frag} {x dx C f:Addr} {mA:Str->Option Value} {name:Str} {v:Value}
end
section
variable {P:Program} {w:World} {H H':Hp} {h h':Heap} {a C dx:Addr} {fs fs':List (Str×V)}
theorem oF' (hok:HOk P w H h) (e:H a=some (.ins C dx fs)):∃mA,ObjM h a dx C mA/\(∀f,lf' (fs.lookup f) (mA f))/\PySem.Within mA (fs.map (·.1))/\fs.length<=1000/\H dx=some (.own a):=by
 obtain⟨d,z,ne,ob,mA,n,r,q⟩:=(show as' P w H h a (.ins C dx fs) from hok a _ e)
 exact⟨mA,⟨ob,n,ne⟩,r,q,z,d⟩
end
structure Cls (K:W.Frag) (C:Addr):Prop where
 pg:W.plainGet K C Str.empty=true
 hd:W.hasDictIn K C=true
 po:W.plainOver K C=true
 sa:W.findIn K (.ref C) "__setattr__"=some (some (.builtin "object.__setattr__"))
theorem Cls.get {K:W.Frag} {C:Addr} (c:Cls K C) (f:Str):W.plainGet K C f=true:=c.pg
structure Con (K:W.Frag) (C:Addr) (f:Str) (v:V) (u:Value):Prop where
 at_:W.findIn K (.ref C) f=some (some u)
 rel:av' v u
 get:W.specialIn K u "__get__"=some none
 cp:W.copiedNames.contains f=false
structure Meth (K:W.Frag) (C:Addr) (m:Str) (f:Addr):Prop where
 at_:W.findIn K (.ref C) m=some (some (.ref f))
 fn:W.isFn K (.ref f)=true
 kp:W.keepIn K (.ref f)=true
section
variable {X:Cx} {pins:List (Addr×Obj)} {σ:St} {H:Hp} {s:Shared} {a C dx:Addr} {fs:List (Str×V)} {f:Str} {v:V} {A:Around} {E:Value->Shared->Prop}
end
section
variable {X:Cx} {o e value:Expr} {f:Str} {pos pos' tpos:Pos} {ta tv:TE}
end
section
variable {X:Cx} {pins:List (Addr×Obj)} {σ:St} {H:Hp} {s:Shared} {A:Around} {E:Value->Shared->Prop} {Q:Value->Shared->Prop} {c:Value} {b:Bool}
inductive TyOf (K:W.Frag) (H:Hp):V->Value->Prop where
 |non:TyOf K H .non (.type "NoneType")
 |bl (x:Bool):TyOf K H (.bl x) (.type "bool")
 |int (i:Int):TyOf K H (.int i) (.type "int")
 |str (x:Str):TyOf K H (.str x) (.type "str")
 |flt (x:UInt64):TyOf K H (.flt x) (.type "float")
 |lst {a:Addr} {xs:List V} (e:H a=some (.lst xs)):TyOf K H (.ref a) (.type "list")
 |frz {a:Addr} {o:Obj} {xs:List V} (e:H a=some (.frz o (.lst xs))):TyOf K H (.ref a) (.type "list")
 |tup {a:Addr} {xs:List V} (e:H a=some (.tup xs)):TyOf K H (.ref a) (.type "tuple")
 |dK {a:Addr} {kvs:List (Key×V)} (e:H a=some (.dK kvs)):TyOf K H (.ref a) (.type "dict")
 |dT {a:Addr} {kvs:List (List Key×V)} (e:H a=some (.dT kvs)):TyOf K H (.ref a) (.type "dict")
 |ins {a C dx:Addr} {fs:List (Str×V)} (e:H a=some (.ins C dx fs)) (cl:Cls K C) (ha:W.findIn K (.ref C) "__class__"=some (some (.builtin "object.__class__")))
   (hn:W.specialIn K (.builtin "object.__class__") "__get__"=some (some (.builtin "getset_descriptor.__get__"))) (htk:W.takesIn K (.builtin "object.__class__")=some true)
   (hm:W.mroIn K C (.type "object")=some true):TyOf K H (.ref a) (.ref C)
theorem iV' {x:V} {u t:Value} (I:Inv X pins σ H s) (rx:av' x u) (ty:TyOf X.K H x t) (e:W.kitOne X.K t c=some b) (h:∀tk,Q (.bool b) { s with toks:=tk }):
  wpAny (model X.prog X.w) A (call (.builtin "isinstance") [u,c]) Q E s:=by
 cases ty with
 |non=>cases(show u=Value.none from rx);exact W.kia_one W.kitx_none I.kIn True.intro e (fun z=>nomatch z) h
 |bl y=>cases(show u=Value.bool y from rx);exact W.kia_one W.kitx_bool I.kIn True.intro e (fun z=>nomatch z) h
 |int i=>obtain⟨t,q⟩:=(show ∃t,u=Value.int i t from rx);cases q;exact W.kia_one W.kitx_int I.kIn True.intro e (fun z=>nomatch z) h
 |str y=>obtain⟨t,q⟩:=(show ∃t,u=Value.str y t from rx);cases q;exact W.kia_one W.kitx_str I.kIn True.intro e (fun z=>nomatch z) h
 |flt y=>obtain⟨t,q⟩:=(show ∃t,u=Value.float y t from rx);cases q;exact W.kia_one W.kitx_float I.kIn True.intro e (fun z=>nomatch z) h
 | @lst a xs ea=>
  cases(show u=Value.ref a from rx)
  obtain⟨_,_,n,_,h1⟩:=(show as' X.prog X.w H s.heap a (.lst xs) from I.hok a _ ea)
  exact W.kia_one W.kitx_list I.kIn ⟨_,h1,rfl⟩ e (fun z=>nomatch z) h
 | @frz a ob xs ea=>
  cases(show u=Value.ref a from rx)
  obtain⟨_,_,_,n,_,h1⟩:=(show as' X.prog X.w H s.heap a (.frz ob (.lst xs)) from I.hok a _ ea)
  exact W.kia_one W.kitx_list I.kIn ⟨_,h1,rfl⟩ e (fun z=>nomatch z) h
 | @tup a xs ea=>
  cases(show u=Value.ref a from rx)
  obtain⟨_,_,_,p⟩:=(show as' X.prog X.w H s.heap a (.tup xs) from I.hok a _ ea)
  obtain⟨o,h1,h2,_⟩:=p
  exact W.kia_one W.kitx_tuple I.kIn ⟨o,h1,h2⟩ e (fun z=>nomatch z) h
 | @dK a kvs ea=>
  cases(show u=Value.ref a from rx)
  obtain⟨_,_,vs,_,p⟩:=(show as' X.prog X.w H s.heap a (.dK kvs) from I.hok a _ ea)
  obtain⟨o,es,ep,h1,h2,_⟩:=p
  exact W.kia_one W.kitx_dict I.kIn ⟨o,h1,h2.1⟩ e (fun z=>nomatch z) h
 | @dT a kvs ea=>
  cases(show u=Value.ref a from rx)
  obtain⟨_,_,xs,_,o,es,ep,h1,h2,_⟩:=(show as' X.prog X.w H s.heap a (.dT kvs) from I.hok a _ ea)
  exact W.kia_one W.kitx_dict I.kIn ⟨o,h1,h2.1⟩ e (fun z=>nomatch z) h
 | @ins a C dx fs ea cl ha hn htk hm=>
  cases(show u=Value.ref a from rx)
  obtain⟨mA,O,_⟩:=oF' I.hok ea
  obtain⟨od,J,_⟩:=O.look
  exact W.kia_one (W.kitx_own (cl.get _) cl.hd ha hn htk hm) I.kIn J e (fun z=>nomatch z) h
end
structure Room (k:Nat) (A:Around):Prop where
 hd:A.handled=none
 dp:A.depth+3*k+5<recursionLimit
 un:A.units+16*k+200<cLine
 gd:A.guards=some []
theorem Room.mono {j k:Nat} {A:Around} (r:Room k A) (h:j<=k):Room j A:=⟨r.hd,by have:=r.dp;omega,by have:=r.un;omega,r.gd⟩
theorem Room.deeper {k:Nat} {A:Around} (r:Room (k+1) A) (env:Env):Room k (A.deeper env):=
 ⟨r.hd,by have:=r.dp;show A.depth+1+3*k+5<_;omega,by have:=r.un;show A.units+3+16*k+200<_;omega,r.gd⟩
theorem Room.depth {k:Nat} {A:Around} (r:Room k A):A.depth<recursionLimit:=by have:=r.dp;omega
theorem Room.units {k:Nat} {A:Around} (r:Room k A):A.units+64<cLine:=by have:=r.un;omega
def iC':TA:=fun _ H Q=>Q [] H
def cB' (ta:TE) (tr:TA):TA:=fun σ H Q=>ta σ H fun x H1=>tr σ H1 fun xs H2=>Q (x :: xs) H2
section
variable {X:Cx} {e:Expr} {es:List Expr} {te:TE} {t:TA} {pos:Pos}
theorem eD':PA X [] iC':=fun _ _ _ _ H Q I h=>Calls.spliced_nil ⟨[],H,I,.nil,h⟩
theorem cq' (ha:PE X e te) (hr:PA X es t) (hs:starEach (e :: es) X.env=(false,eval e X.env) :: starEach es X.env:=by rfl):PA X (e :: es) (cB' te t):=by
 intro pos pins s σ H Q I h
 rw[hs]
 show wpAny _ _ (spliced ((false,eval e X.env) :: backTo pos (starEach es X.env))) _ _ s
 refine Calls.spliced_cons (thn (ha pins s σ H _ I h) fun u s1 ⟨x,H1,I1,r1,q1⟩=>?_)
 exact thn (hr pos pins s1 σ H1 _ I1 q1) fun us s2 ⟨xs,H2,I2,r2,q2⟩=>⟨x :: xs,H2,I2,.cons r1 r2,q2⟩
def vE' (t:TA):TE:=fun σ H Q=>t σ H fun xs H1=>xs.length<=sizeLine/\∀p,H1 p=none->Q (.ref p) (upd H1 p (.tup xs))
def vF' (t:TA):TE:=fun σ H Q=>t σ H fun xs H1=>xs.length<=sizeLine/\∀p,H1 p=none->Q (.ref p) (upd H1 p (.lst xs))
theorem rp' {x1} (h:PA X es t):PE X (.Tuple es x1 pos) (vE' t):=by
 intro pins s σ H Q I hq
 refine wpAny_Tuple_spliced (thn (h pos pins s σ H _ I hq) fun us s1 ⟨xs,H1,I1,r,z,q⟩=>⟨by rw[<- r.length];exact z,?_⟩)
 have hf:H1 s1.heap.objs.size=none:=I1.hok.fresh (ag _)
 refine⟨.ref s1.heap.objs.size,upd H1 s1.heap.objs.size (.tup xs),I1.laid (t':=s1.toks) (fun b u e=>ac _ e) (ag _) ?_,rfl,q _ hf⟩
 exact⟨z,us,r,⟨_,ai _ rfl,rfl,⟨_,rfl⟩,rfl⟩⟩
theorem rq' (h:PA X es t):PE X (.List es pos) (vF' t):=by
 intro pins s σ H Q I hq
 refine wpAny_List_spliced (thn (h pos pins s σ H _ I hq) fun us s1 ⟨xs,H1,I1,r,z,q⟩=>⟨by rw[<- r.length];exact z,?_⟩)
 have hf:H1 s1.heap.objs.size=none:=I1.hok.fresh (ag _)
 refine⟨.ref s1.heap.objs.size,upd H1 s1.heap.objs.size (.lst xs),I1.laid (t':=s1.toks) (fun b u e=>ac _ e) (ag _) ?_,rfl,q _ hf⟩
 exact⟨z,us,0,r,ai _ rfl⟩
end
abbrev Sp:=List V->Hp->VK->XK->Prop
abbrev CXT:=List Env->Hp->Shared->XK->Value->Shared->Prop
structure Env0 (P:Program) (w:World) (K:W.Frag) (mg:Str->Option Value) (base:Heap) (A:Around) (outer:List Env) (s:Shared) (H:Hp):Prop where
 frames:A.frames=some outer
 mod:Mod K mg base
 bs:∀b o,base.get? b=some o->s.heap.get? b=some o/\H b=none
 bsz:base.objs.size<=s.heap.objs.size
 funs:s.heap.FunFrames base outer
 frf:∀b∈frs outer,H b=none
 hok:HOk P w H s.heap
 bare:AllBare s.gens
def CE (outer:List Env) (P:Program) (w:World) (H:Hp) (s:Shared) (Q:VK) (u:Value) (s':Shared):Prop:=
 ∃v H',s'.os=s.os/\AllBare s'.gens/\Un (frs outer) [] H H' s.heap s'.heap/\HOk P w H' s'.heap/\av' v u/\Q v H'
def CR (CX:CXT) (outer:List Env) (P:Program) (w:World) (H:Hp) (s:Shared) (Q:VK) (E:XK) (r:Result) (s':Shared):Prop:=
 match r with
 | .ok (.ret u)=>CE outer P w H s Q u s'
 | .ok _=>False
 | .error e=>CX outer H s E e s'
structure FnOk (P:Program) (w:World) (K:W.Frag) (mg:Str->Option Value) (base:Heap) (CX:CXT) (k:Nat) (f:Addr) (fd:FuncData) (ps:List Str) (sp:Sp):Prop where
 len:∀vs H Q E,sp vs H Q E->vs.length=ps.length
 run:∀(A:Around) (outer:List Env) (s:Shared) (H:Hp) (args:Args) (us:List Value) (vs:List V) (Q:VK) (E:XK),Room k A->Env0 P w K mg base A outer s H->BindsTo s fd args (ps.zip us)->aA' vs us->sp vs H Q E->
  codeAny (model P w) A (.call (.ref f) args) (CR CX outer P w H s Q E) s
theorem FnOk.mono {P:Program} {w:World} {K:W.Frag} {mg:Str->Option Value} {base:Heap} {CX:CXT} {j k:Nat} {f:Addr} {fd:FuncData} {ps:List Str} {sp:Sp} (F:FnOk P w K mg base CX j f fd ps sp) (h:j<=k):
  FnOk P w K mg base CX k f fd ps sp:=⟨F.len,fun A outer s H args us vs Q E hr=>F.run A outer s H args us vs Q E (hr.mono h)⟩
section
variable {X:Cx} {pins:List (Addr×Obj)} {σ:St} {H:Hp} {s s':Shared}
theorem Inv.env0 (I:Inv X pins σ H s):Env0 X.prog X.w X.K X.mg X.base X.A X.stack s H:=
 ⟨I.ok.frames,I.ok.mod,I.bs,aG I.ok.bsz I.sz,I.stack,I.stkFree,I.hok,I.bare⟩
theorem Inv.after {Q:VK} {u:Value} (I:Inv X pins σ H s) (h:CE X.stack X.prog X.w H s Q u s'):EP X pins σ Q u s':=by
 obtain⟨v,H',os,bare,un,hok,r,q⟩:=h
 obtain⟨hh,g,d,t,os'⟩:=s'
 obtain rfl:os'=s.os:=os
 exact⟨v,H',I.call (h':=hh) (g':=g) (d':=d) (t':=t) (ch:=[]) un hok bare (fun b z=>absurd z (by simp)),r,q⟩
end
def lx' (sp:Sp) (dvs:List V) (E:XK) (t:TA):TE:=fun σ H Q=>t σ H fun vs H1=>sp (vs++dvs) H1 Q E
def ek' (K:W.Frag) (fd:FuncData) (ps:List Str) (ds:List Value):Prop:=
 ∀(s:Shared) (us:List Value),K.In s.heap->(us++ds).length=ps.length->BindsTo s fd ⟨us,[]⟩ (ps.zip (us++ds))
theorem ek'.all {K:W.Frag} {fd:FuncData} {ps:List Str} (h:∀us:List Value,us.length=ps.length->bindArgs fd ⟨us,[]⟩=pure (ps.zip us)):ek' K fd ps []:=fun s us _ hl=>by
 rw[List.append_nil]at hl ⊢
 exact .of_eq (h us hl)
section
variable {X:Cx} {CX:CXT} {k:Nat} {f C:Addr} {fd:FuncData} {ps:List Str} {sp:Sp} {dvs:List V} {ds:List Value} {E:XK} {x m:Str} {p pos apos:Pos} {e o:Expr} {es:List Expr} {ta:TE} {t:TA}
structure Mk (K:W.Frag) (C f:Addr):Prop where
 makes:W.makesIn K C=true
 init:W.findIn K (.ref C) "__init__"=some (some (.ref f))
 fn:W.isFn K (.ref f)=true
 kp:W.keepIn K (.ref C)=true
end
section
variable {X:Cx} {CX:CXT} {k:Nat} {f C:Addr} {fd:FuncData} {ps ks:List Str} {sp:Sp} {E:XK} {x m:Str} {p pos apos kpos:Pos} {e o:Expr} {es:List Expr} {kws:List Keyword} {te ta:TE} {t tk:TA} {nm:Option Str}
structure KBinds (K:W.Frag) (fd:FuncData) (ps ks:List Str) (g:List Value->List Value->List Value) (gV:List V->List V->List V):Prop where
 to:∀(s:Shared) (us ws:List Value),K.In s.heap->(g us ws).length=ps.length->BindsTo s fd ⟨us,ks.zip ws⟩ (ps.zip (g us ws))
 rel:∀{vs:List V} {us:List Value} {zs:List V} {ws:List Value},aA' vs us->aA' zs ws->aA' (gV vs zs) (g us ws)
variable {g:List Value->List Value->List Value} {gV:List V->List V->List V}
end
structure FnScope (N P:List Str) (sc:Scope):Prop where
 kind:sc.kind=.function
 co:sc.isCoroutine=false
 gen:sc.isGenerator=false
 nd:N.Nodup
 pre:N.take P.length=P
 par:∀x∈P,sc.names.lookup x=some .local\/sc.names.lookup x=some .cell
 nofree:∀y∈sc.names,y.2≠.free
theorem fp' {kindOf:Str->Option NameKind} {x:Str}:∀{binds:List (Str×Value)} {m:Str->Option Value},(∀v,(x,v)∉binds)->bindL kindOf binds m x=m x
 | [],_,_=>rfl
 |(n,v) :: r,m,h=>by
  unfold bindL
  rw[fp' fun w hw=>h w (ao _ hw)]
  split
  .have:x≠n:=by rintro rfl;exact h v au
   simp[this]
  .rfl
theorem fq' {kindOf:Str->Option NameKind} {x:Str}:∀{binds:List (Str×Value)} {m:Str->Option Value},(∀v,(x,v)∉binds)->bindC kindOf binds m x=m x
 | [],_,_=>rfl
 |(n,v) :: r,m,h=>by
  unfold bindC
  rw[fq' fun w hw=>h w (ao _ hw)]
  split
  .rfl
  .have:x≠n:=by rintro rfl;exact h v au
   simp[this]
theorem fr' {kindOf:Str->Option NameKind} {x:Str} {v:Value}:∀{P:List Str} {vs:List Value} {i:Nat} {m:Str->Option Value},P.Nodup->P[i]?=some x->vs[i]?=some v->kindOf x=some .local->
  bindL kindOf (P.zip vs) m x=some v
 | [],_,_,_,_,h,_,_=>by simp at h
 |_ :: _,[],_,_,_,_,h,_=>by simp at h
 |p :: P,w :: vs,0,m,nd,h1,h2,hk=>by
  simp at h1 h2;subst h1;subst h2
  show bindL kindOf ((p,w) :: P.zip vs) m p=_
  unfold bindL
  rw[fp' fun v hv=>(cr.mp nd).1 (List.of_mem_zip hv).1,if_pos hk]
  simp
 |p :: P,w :: vs,i+1,m,nd,h1,h2,hk=>by
  show bindL kindOf ((p,w) :: P.zip vs) m x=_
  unfold bindL
  exact fr' (i:=i) (cr.mp nd).2 (by simpa using h1) (by simpa using h2) hk
theorem ft' {kindOf:Str->Option NameKind} {x:Str} {v:Value}:∀{P:List Str} {vs:List Value} {i:Nat} {m:Str->Option Value},P.Nodup->P[i]?=some x->vs[i]?=some v->kindOf x≠some .local->
  bindC kindOf (P.zip vs) m x=some v
 | [],_,_,_,_,h,_,_=>by simp at h
 |_ :: _,[],_,_,_,_,h,_=>by simp at h
 |p :: P,w :: vs,0,m,nd,h1,h2,hk=>by
  simp at h1 h2;subst h1;subst h2
  show bindC kindOf ((p,w) :: P.zip vs) m p=_
  unfold bindC
  rw[fq' fun v hv=>(cr.mp nd).1 (List.of_mem_zip hv).1,if_neg hk]
  simp
 |p :: P,w :: vs,i+1,m,nd,h1,h2,hk=>by
  show bindC kindOf ((p,w) :: P.zip vs) m x=_
  unfold bindC
  exact ft' (i:=i) (cr.mp nd).2 (by simpa using h1) (by simpa using h2) hk
def aK' (N:List Str) (vs:List V):St:=vs.map some++aO (N.length-vs.length) none
def qO' (CX:CXT) (P:Program) (w:World) (K:W.Frag) (mg:Str->Option Value) (base:Heap) (N:List Str) (qual:Str) (scope:Scope) (f:Addr) (cd:Value) (A:Around) (outer:List Env) (s:Shared) (H:Hp) (E:XK):Cx where
 prog:=P
 w:=w
 K:=K
 mg:=mg
 base:=base
 A:=A.deeper (envOfC qual scope s.heap.objs.size f cd)
 N:=N
 s₀:=s
 H₀:=H
 env:=envOfC qual scope s.heap.objs.size f cd
 outer:=outer
 stack:=envOfC qual scope s.heap.objs.size f cd :: outer
 ex:=[]
 calm:=true
 fn:=fun _=>true
 pn:=[]
 xe:=fun e s'=>wpAny (model P w) (A.deeper (envOfC qual scope s.heap.objs.size f cd)) (leaving (envOfC qual scope s.heap.objs.size f cd) e) (fun _ s''=>CX outer H s E e s'') (fun e' s''=>CX outer H s E e' s'') s'
theorem eT' {sc:Scope} {n:Nat} {x:Str} (h:sc.names.lookup x=some .cell):∃c,(cellsFrom n sc.names []).lookup x=some c:=by
 have q:=W.cellsFrom_some sc.names n [] (.inl h)
 exact Option.isSome_iff_exists.mp q
theorem iW' {CX:CXT} {P:Program} {w:World} {K:W.Frag} {mg:Str->Option Value} {base:Heap} {N ps:List Str} {qual:Str} {scope:Scope} {f:Addr} {cd:Value} {A:Around} {outer:List Env} {s s1:Shared} {H:Hp} {E:XK} {us:List Value} {vs:List V}
  (S:FnScope N ps scope) (hd:A.handled=none) (e0:Env0 P w K mg base A outer s H) (hl:vs.length=ps.length) (r:aA' vs us)
  (x:InCallC s s.heap.objs.size (bindL (envOfC qual scope s.heap.objs.size f cd).kindOf (ps.zip us) fun _=>none) (cellsFrom (s.heap.objs.size+1) scope.names []) (bindC (envOfC qual scope s.heap.objs.size f cd).kindOf (ps.zip us) fun _=>none) s1):
  Inv (qO' CX P w K mg base N qual scope f cd A outer s H E) [] (aK' N vs) H s1:=by
 have hpl:ps.length<=N.length:=by have:=congrArg List.length S.pre;rw[aP]at this;omega
 obtain⟨h1,tk,rfl,hk⟩:=x.done
 have noA:∀b:Addr,b∉(qO' CX P w K mg base N qual scope f cd A outer s H E).ex:=fun b z=>absurd (show b∈([]:List Addr) from z) (by simp)
 refine⟨⟨e0.mod,S.kind,rfl,rfl,ag _,fun y z c h1 h2=>?_,fun y hy=>?_,fun y c _ h=>?_,fun _=>hd,Around.frames_deeper e0.frames,.inr ⟨rfl,rfl⟩,fun b z=>absurd z (noA b),e0.bs,e0.bsz,fun b _ _=>noA b,fun b z=>absurd z (noA b),e0.funs,e0.frf⟩,
  rfl,e0.bare,Un.kept hk,⟨_,x.toInCall.ns,fun i y v h1 h2 h3=>?_⟩,fun y c h=>⟨_,x.cell y c h⟩,e0.hok.fresh (ag _),fun y c h=>?_,fun p hp=>absurd (show p∈([]:List (Addr×Obj)) from hp) (by simp),e0.hok.kept hk,?_⟩
 .exact name_of_addr x.apart (PySem.mem_of_lookup h1) (PySem.mem_of_lookup h2)
 .have hy:scope.names.lookup y=some .cell\/scope.names.lookup y=some .free:=hy
  rcases hy with hy|hy
  .exact eT' hy
  .exact absurd rfl (S.nofree _ (PySem.mem_of_lookup hy))
 .exact bJ (x.above y c (PySem.mem_of_lookup h))
 .have hi:i<vs.length:=by
   unfold aK' at h2
   by_cases hi:i<vs.length
   .exact hi
   .rw[List.getElem?_append_right (by simpa using hi)]at h2
    rw[List.getElem?_replicate]at h2
    split at h2<;>cases h2
  have ha:vs[i]?=some v:=by
   unfold aK' at h2
   rw[List.getElem?_append_left (by simpa using hi),aC]at h2
   cases e:vs[i]? with
   |none=>rw[e]at h2;cases h2
   |some a=>rw[e]at h2;cases h2;rfl
  obtain⟨u,hu,rv⟩:=r.get ha
  have hp:ps[i]?=some y:=by
   rw[<- S.pre,List.getElem?_take_of_lt (by omega)];exact h1
  have ndP:ps.Nodup:=by rw[<- S.pre];exact S.nd.sublist (List.take_sublist _ _)
  refine⟨u,rv,?_⟩
  rcases S.par y (az hp)with k|k
  .exact .inl ⟨k,fr' ndP hp hu k⟩
  .obtain⟨c,e⟩:=eT' (n:=s.heap.objs.size+1) k
   refine .inr ⟨.inl k,c,e,?_⟩
   have q:=x.cell y c e
   rw[ft' ndP hp hu (by show scope.names.lookup y≠_;rw[k];decide)]at q
   exact q
 .exact e0.hok.fresh (bJ (x.above y c (PySem.mem_of_lookup h)))
 .unfold aK'
  show _=N.length
  rw[aD,ah,List.length_replicate]
  omega
theorem vG' {CX:CXT} {P:Program} {w:World} {K:W.Frag} {mg:Str->Option Value} {base:Heap} {k:Nat} {f:Addr} {name qual:Str} {params:Arguments} {body:List Stmt} {scope:Scope} {dV kV doc pm cdv ct oc:Value} {an od:Option Addr}
  {osl:Array (Option Value)} {N ps:List Str} {sp:Sp} (lk:K.lookup f=some ⟨oc,od,.func (W.fnOf name qual params body scope dV kV doc pm an cdv ct),osl⟩) (hcd:W.codeIn K cdv qual=true) (S:FnScope N ps scope)
  (len:∀vs H Q E,sp vs H Q E->vs.length=ps.length)
  (hbody:∀(A:Around) (outer:List Env) (s:Shared) (H:Hp) (vs:List V) (Q:VK) (E:XK),Room k (A.deeper (envOfC qual scope s.heap.objs.size f cdv))->sp vs H Q E->
   ∃t,PSs (qO' CX P w K mg base N qual scope f cdv A outer s H E) body t/\t { nx:=fun _ H'=>Q .non H',rt:=Q } (aK' N vs) H):
  FnOk P w K mg base CX (k+1) f (W.fnOf name qual params body scope dV kV doc pm an cdv ct) ps sp:=by
 refine⟨len,fun A outer s H args us vs Q E hr e0 hb r hsp=>?_⟩
 have hl:=len _ _ _ _ hsp
 have KX:K.In s.heap:=e0.mod.kin.keeps fun b o e=>(e0.bs b o e).1
 have lim:s.heap.NoLimit:=e0.mod.nolimit.keeps fun b o e=>(e0.bs b o e).1
 have hkind:∀y∈ps.zip us,scope.names.lookup y.1=some .local\/(scope.names.lookup y.1=some .cell/\((cellsFrom (s.heap.objs.size+1) scope.names []).lookup y.1).isSome=true):=fun⟨n,v⟩ hy=>by
  rcases S.par n (List.of_mem_zip hy).1 with q|q
  .exact .inl q
  .exact .inr ⟨q,W.cellsFrom_some _ _ _ (.inl q)⟩
 refine codeAny_call_function hr.depth (KX _ _ lk) rfl S.co S.gen rfl (W.codeRec_of KX hcd) (hb _ _ _ _ ?_)
 refine wpAny_newFunctionEnv_cells S.kind hkind fun env he s1 x=>?_
 subst he
 refine⟨lim.keeps x.toInCall.keep,codeAny_func ?_⟩
 obtain⟨t,ht,hq⟩:=hbody A outer s H vs Q E (hr.deeper _) hsp
 have I:Inv (qO' CX P w K mg base N qual scope f cdv A outer s H E) [] (aK' N vs) H s1:=iW' S hr.hd e0 hl r x
 refine wpAny_mono (ht [] s1 (aK' N vs) H _ I hq) (fun fl s' hs=>?_) fun e s' hs=>hs
 have fin:∀{σ':St} {H':Hp} {v:V} {u:Value},Inv (qO' CX P w K mg base N qual scope f cdv A outer s H E) [] σ' H' s'->av' v u->Q v H'->CE outer P w H s Q u s':=
  fun {σ' H' v u} J rv q=>⟨v,H',J.os,J.bare,J.base,J.hok,rv,q⟩
 cases fl with
 |ret u=>
  obtain⟨v,σ',H',J,rv,q⟩:=hs
  exact fin J rv q
 |next=>
  obtain⟨σ',H',J,q⟩:=hs
  exact fin (v:=V.non) (u:=Value.none) J rfl q
 |brk=>
  obtain⟨_,_,_,q⟩:=hs
  exact False.elim q
 |cont=>
  obtain⟨_,_,_,q⟩:=hs
  exact False.elim q
section
variable {X:Cx} {x:Str} {p pos:Pos} {e:Expr} {es:List Expr} {t:TA} {id T:String} {r:List V->Hp->VK->Prop}
def tCB (r:List V->Hp->VK->Prop) (t:TA):TE:=fun σ H Q=>t σ H fun vs H1=>r vs H1 Q
theorem ly' (hc:aT' X (.builtin id) r) (hg:Gl X x) (hm:X.mg x=none) (hv:bootBuiltins x=some (.builtin id)) (ha:PA X (e :: es) t) (hn:x≠"__name__":=by decide) (hdb:(x == ("__debug__":Str))=false:=by decide)
  (he:starEach (e :: es) X.env=(false,eval e X.env) :: starEach es X.env:=by rfl) (hpl:(backTo pos (starEach es X.env)).any (·.1)=false:=by rfl):PE X (.Call (.Name x p) (e :: es) [] pos) (tCB r t):=by
 intro pins s σ H Q I h
 refine cI (c9' I hg hm hv ?_ hn hdb)
 exact PyProof.Rows.callWith_builtin1 (thn (ha pos pins s σ H _ I h) fun us s1 ⟨vs,H1,I1,r1,q1⟩=>hc pins s1 σ H1 vs us Q I1 r1 q1) he hpl
theorem dB' (hc:aT' X (.type T) r) (hg:Gl X x) (hm:X.mg x=none) (hv:bootBuiltins x=some (.type T)) (ha:PA X (e :: es) t) (hn:x≠"__name__":=by decide) (hdb:(x == ("__debug__":Str))=false:=by decide)
  (he:starEach (e :: es) X.env=(false,eval e X.env) :: starEach es X.env:=by rfl) (hpl:(backTo pos (starEach es X.env)).any (·.1)=false:=by rfl):PE X (.Call (.Name x p) (e :: es) [] pos) (tCB r t):=by
 intro pins s σ H Q I h
 refine cI (c9' I hg hm hv ?_ hn hdb)
 exact PyProof.Rows.callWith_type1 (thn (ha pos pins s σ H _ I h) fun us s1 ⟨vs,H1,I1,r1,q1⟩=>hc pins s1 σ H1 vs us Q I1 r1 q1) he hpl
end
end L2
namespace HT
open PySem PyProof.Rows
section
open PySem.SeqAt
open PySem.AutoSeq1 (wpAny_loadPart')
open PySem.MeetsSeq PySem.MeetsSeq2 PySem.MeetsSeq3
end
section
variable {prog:Program} {w:World} {A:Around} {E:Value->Shared->Prop} {s:Shared}
theorem oG' {t b:Addr} {vs ws:List Value} {Q:Value->Shared->Prop} (ht:IsTup s.heap t vs.toArray) (hb:IsTup s.heap b ws.toArray) (hv:vs≠[])
  (h1:ws=[]->Q (.ref t) s) (h2:ws≠[]->Q (.ref s.heap.objs.size) { s with heap:=s.heap.push { cls:=.type "tuple",data:=.seq (vs++ws).toArray } })
  (hsz:vs.length+ws.length<=sizeLine):wpAny (model prog w) A (binaryOp .Add (.ref t) (.ref b)) Q E s:=by
 obtain⟨⟨cls,dd,data,sl⟩,ho,hc,n,hd⟩:=id ht
 obtain⟨⟨cls2,dd2,data2,sl2⟩,ho2,hc2,n2,hd2⟩:=id hb
 simp only at hc hd hc2 hd2
 subst hc hd hc2 hd2
 have e:vs.toArray++ws.toArray=(vs++ws).toArray:=by simp
 by_cases hw:ws=[]
 .exact concat_meets ⟨_,ho,rfl⟩ ⟨_,ho2,rfl⟩ noFill_tuple_add seq_tuple_add PySem.F.slot_tuple_add PySem.F.entry_tuple_add (PySem.F.args_tuple_add_2 _ _)
   (tuple_addW1 t b vs.toArray ws.toArray n n2 dd dd2 sl sl2 (by simpa using hv) (by simp[hw])) ⟨ho,ho2,h1 hw⟩
 .refine concat_meets ⟨_,ho,rfl⟩ ⟨_,ho2,rfl⟩ noFill_tuple_add seq_tuple_add PySem.F.slot_tuple_add PySem.F.entry_tuple_add (PySem.F.args_tuple_add_2 _ _)
   (tuple_addW2 t b vs.toArray ws.toArray n n2 dd dd2 sl sl2 (by simpa using hv) (by simpa using hw) (by rw[aj,aj];exact hsz)) ⟨ho,ho2,?_⟩
  rw[e]
  exact h2 hw
def sIx (n d:Nat):Option Int->Nat
 |none=>d
 |some v=>if v<0 then(v+(n:Int)).toNat else min v.toNat n
theorem gU' (n d:Nat):sIx n d none=d:=rfl
theorem eU' (n d k:Nat):sIx n d (some (k:Int))=min k n:=by
 show(if(k:Int)<0 then((k:Int)+(n:Int)).toNat else min (k:Int).toNat n)=min k n
 rw[if_neg (by omega),ba]
theorem rr' (n d:Nat) (hd:d<=n) (o:Option Int):sIx n d o<=n:=by
 cases o with
 |none=>exact hd
 |some v=>
  show(if v<0 then(v+(n:Int)).toNat else min v.toNat n)<=n
  by_cases hv:v<0
  .rw[if_pos hv];omega
  .rw[if_neg hv];exact Nat.min_le_right _ _
theorem iX' (v:Int) (n d:Nat):(if v<0 then max (v+(n:Int)) 0 else min v (n:Int))=((sIx n d (some v):Nat):Int):=by
 show(if v<0 then max (v+(n:Int)) 0 else min v (n:Int))=(((if v<0 then(v+(n:Int)).toNat else min v.toNat n):Nat):Int)
 by_cases hv:v<0
 .simp only[if_pos hv];omega
 .simp only[if_neg hv];omega
theorem h4' (lo hi:Option Int) (n:Nat):Builtin.Slice.sliceAdjust lo hi 1 (n:Int)=(((sIx n 0 lo:Nat):Int),((sIx n n hi:Nat):Int)):=by
 have h1:¬((1:Int)<0):=by omega
 unfold Builtin.Slice.sliceAdjust
 simp only[h1,if_false]
 refine Prod.ext ?_ ?_
 .cases lo with
  |none=>rfl
  |some v=>exact iX' v n 0
 .cases hi with
  |none=>rfl
  |some v=>exact iX' v n n
theorem h5' (i j:Nat):Builtin.Slice.slicePlaces (i:Int) (j:Int) 1=j-i:=by
 unfold Builtin.Slice.slicePlaces
 have h1:(1:Int) > 0:=by omega
 simp only[h1,if_true,Int.ediv_one]
 split<;>omega
theorem eE' {v:Value} {o:Option Int} {Q:Option Int->Shared->Prop} (p:IsPart v o) (h:Q o s):wpAny (model prog w) A (Builtin.Slice.slicePartIndex v) Q E s:=by
 cases p with
 |none=>exact slicePart_none h
 |int i t=>exact slicePart_int h
theorem b5' {sl:Addr} {vl vu:Value} {lo hi:Option Int} {n:Nat} {Q:Int×Int×Nat->Shared->Prop} (hs:s.heap.IsSliceOf sl vl vu .none) (pl:IsPart vl lo) (pu:IsPart vu hi)
  (h:Q (((sIx n 0 lo:Nat):Int),1,sIx n n hi-sIx n 0 lo) s):wpAny (model prog w) A (Builtin.Slice.sliceApplied (.ref sl) (pure (n:Int))) Q E s:=by
 obtain⟨os,hos,hcs,hds⟩:=id hs
 unfold Builtin.Slice.sliceApplied Builtin.Slice.sliceFields
 refine aa (aa (aJ hos hds (x:=vl) rfl (aa (aJ hos hds (x:=vu) rfl (aa (aJ hos hds (x:=.none) rfl (ab ?_)))))))
 refine aa (slicePart_none ?_)
 show wpAny _ _ (if((1:Int) == 0)=true then _ else _) _ _ s
 rw[if_neg (by decide)]
 refine aa (eE' pl (aa (eE' pu (aa (ab ?_)))))
 show wpAny _ _ (match Builtin.Slice.sliceAdjust lo hi 1 (n:Int)with|(lo,hi)=>pure (lo,(1:Int),Builtin.Slice.slicePlaces lo hi 1)) _ _ s
 rw[h4' lo hi n]
 show wpAny _ _ (pure (((sIx n 0 lo:Nat):Int),(1:Int),Builtin.Slice.slicePlaces ((sIx n 0 lo:Nat):Int) ((sIx n n hi:Nat):Int) 1)) _ _ s
 rw[h5']
 exact ab h
theorem lz' (xs:Array Value) (i k:Nat):((bf k).filterMap fun(m:Nat)=>xs[((i:Int)+(m:Int)*1).toNat]?).toArray=((xs.toList.drop i).take k).toArray:=by
 have e:(fun(m:Nat)=>xs[((i:Int)+(m:Int)*1).toNat]?)=fun m=>xs[i+m]?:=by
  funext m
  have:((i:Int)+(m:Int)*1).toNat=i+m:=by omega
  rw[this]
 rw[e]
 have:=pick_run xs i k
 rw[List.filterMap_map]at this
 have e2:((fun x=>xs[x]?)∘fun x=>i+x)=fun m=>xs[i+m]?:=rfl
 rw[e2]at this
 rw[this]
theorem cZ' {t sl:Addr} {items:Array Value} {vl vu:Value} {lo hi:Option Int} {Q:Value->Shared->Prop} (ht:IsTup s.heap t items) (hs:s.heap.IsSliceOf sl vl vu .none) (pl:IsPart vl lo) (pu:IsPart vu hi)
  (hw:¬(sIx items.size 0 lo=0/\sIx items.size items.size hi=items.size))
  (h:Q (.ref s.heap.objs.size) { s with heap:=s.heap.push { cls:=.type "tuple",data:=.seq ((items.toList.drop (sIx items.size 0 lo)).take (sIx items.size items.size hi-sIx items.size 0 lo)).toArray } })
  (hsz:items.size<=sizeLine):wpAny (model prog w) A (getItem (.ref t) (.ref sl)) Q E s:=by
 have htake:sizeOk (.seq ((items.toList.drop (sIx items.size 0 lo)).take (sIx items.size items.size hi-sIx items.size 0 lo)).toArray):=by
  show((items.toList.drop (sIx items.size 0 lo)).take (sIx items.size items.size hi-sIx items.size 0 lo)).toArray.size<=sizeLine
  rw[aj,aP,cf,aq]
  omega
 have hj:sIx items.size items.size hi<=items.size:=rr' _ _ (ag _) hi
 obtain⟨os,hos,hcs,hds⟩:=id hs
 have hTs:s.TypeIs (.ref sl) "slice":=⟨os,hos,hcs⟩
 unfold getItem
 try with_reducible refine aE ?_
 first|refine aa (ab ?_)|skip
 refine aa (wpAny_sequenceKey ht.typeIs (by decide) ?_)
 refine aa (aH (name:=Str.ofString "__getitem__") ht.typeIs PyProof.Rows.slot_tuple_getitem
  (aK PyProof.Rows.slot_tuple_getitem ht.typeIs entry_tuple_getitem ?_ (args_tuple_getitem _ _)))
 show wpAny _ _ (Builtin.Tuple.tupleItemsOf (.ref t) >>= _) _ _ s
 refine aa (tupleItemsOf_ ht ?_)
 refine aa (cV hTs ?_)
 rw[if_pos (by decide)]
 refine aa (b5' hs pl pu ?_)
 have hno:¬((((sIx items.size 0 lo:Nat):Int) == 0&&(1:Int) == 1&&(sIx items.size items.size hi-sIx items.size 0 lo) == items.size)=true):=by
  intro q
  rw[af,af]at q
  have q1:((sIx items.size 0 lo:Nat):Int)=0:=eq_of_beq q.1.1
  have q2:sIx items.size items.size hi-sIx items.size 0 lo=items.size:=eq_of_beq q.2
  exact hw ⟨by omega,by omega⟩
 show wpAny _ _ (if(((sIx items.size 0 lo:Nat):Int) == 0&&(1:Int) == 1&&(sIx items.size items.size hi-sIx items.size 0 lo) == items.size)=true then _ else _) _ _ s
 rw[if_neg hno,lz']
 first
  |exact aa (m:=Builtin.Tuple.tupleExact _) (aI (ab ⟨_,rfl,ab h⟩) htake)
  |exact aa (m:=Builtin.Tuple.tupleExact _) (aI (aa (ab (ab ⟨_,rfl,ab h⟩))) htake)
  |exact aa (aa (m:=Builtin.Tuple.tupleExact _) (aI (ab (ab ⟨_,rfl,ab h⟩)) htake))
  |exact aa (aa (m:=Builtin.Tuple.tupleExact _) (aI (ab ⟨_,rfl,ab h⟩) htake))
end
end HT
namespace L2
open PySem PySem.Spec PyProof.Rows
abbrev TO:=St->Hp->(Option Int->Hp->Prop)->Prop
def PO (X:Cx) (e:Option Expr) (t:TO):Prop:=
 ∀(pins:List (Addr×Obj)) (s:Shared) (σ:St) (H:Hp) (Q:Option Int->Hp->Prop),Inv X pins σ H s->t σ H Q->
  wpAny (model X.prog X.w) X.A (evalPart e X.env) (fun u s'=>∃o H',Inv X pins σ H' s'/\IsPart u o/\Q o H') X.xe s
def gi':TO:=fun _ H Q=>Q none H
def lA' (t:TE):TO:=fun σ H Q=>t σ H fun x H1=>∃i,x=.int i/\Q (some i) H1
theorem h6' {ns:List Int}:∀{us:List Value},aA' (ns.map V.int) us->IntsAre us ns:=by
 induction ns with
 |nil=>intro us r;rw[List.map_nil]at r;cases r;exact .nil
 |cons n ns ih=>
  intro us r
  rw[aQ]at r
  cases r with
  |cons r1 r2=>
   obtain⟨t,e⟩:=r1
   subst e
   exact .cons n t (ih r2)
section
variable {X:Cx} {e:Expr} {te:TE} {lo hi:Option Expr} {tl th:TO} {pos p2:Pos}
theorem oH':PO X none gi':=by
 intro pins s σ H Q I h
 rw[evalPart_none]
 exact ab ⟨none,H,I,.none,h⟩
theorem iY' (h:PE X e te):PO X (some e) (lA' te):=by
 intro pins s σ H Q I hw
 rw[evalPart_some]
 refine thn (h pins s σ H _ I hw) fun u s1 ⟨x,H1,I1,r1,q1⟩=>?_
 obtain⟨i,rfl,q⟩:=q1
 obtain⟨t,rfl⟩:=r1
 exact⟨some i,H1,I1,.int i t,q⟩
def SlR (X:Cx) (r:V->Option Int->Option Int->Hp->VK->Prop):Prop:=
 ∀(pins:List (Addr×Obj)) (s:Shared) (σ:St) (H:Hp) (x:V) (v vl vu:Value) (lo hi:Option Int) (sl:Addr) (Q:VK),Inv X pins σ H s->av' x v->s.heap.IsSliceOf sl vl vu .none->IsPart vl lo->IsPart vu hi->r x lo hi H Q->
  ∃T id,typeLookup (.type T) "__getitem__"=pure (some (.builtin id))/\s.TypeIs v T/\wpAny (model X.prog X.w) X.A (getItem v (.ref sl)) (EP X pins σ Q) X.xe s
theorem SlR.or {r r':V->Option Int->Option Int->Hp->VK->Prop} (h:SlR X r) (h':SlR X r'):SlR X (fun x lo hi H Q=>r x lo hi H Q\/r' x lo hi H Q):=by
 intro pins s σ H x v vl vu lo hi sl Q I rx hs pl pu q
 rcases q with q|q
 .exact h pins s σ H x v vl vu lo hi sl Q I rx hs pl pu q
 .exact h' pins s σ H x v vl vu lo hi sl Q I rx hs pl pu q
def tSl (r:V->Option Int->Option Int->Hp->VK->Prop) (te:TE) (tl th:TO):TE:=fun σ H Q=>te σ H fun x H1=>tl σ H1 fun l H2=>th σ H2 fun u H3=>r x l u H3 Q
theorem lB' {r:V->Option Int->Option Int->Hp->VK->Prop} (hr:SlR X r) (he:PE X e te) (hl:PO X lo tl) (hu:PO X hi th):PE X (.Subscript e (.Slice lo hi none p2) pos) (tSl r te tl th):=by
 intro pins s σ H Q I h
 refine Subscript_ (thn (he pins s σ H _ I h) fun v s1 ⟨x,H1,I1,r1,q1⟩=>?_)
 refine wpAny_Slice (thn (hl pins s1 σ H1 _ I1 q1) fun vl s2 ⟨l,H2,I2,pl,q2⟩=>thn (hu pins s2 σ H2 _ I2 q2) fun vu s3 ⟨u,H3,I3,pu,q3⟩=>?_)
 rw[evalPart_none]
 refine ab ?_
 have I4:Inv X pins σ H3 { s3 with heap:=s3.heap.push { cls:=.type "slice",data:=.fields #[vl,vu,.none] } }:=I3.kept (t':=s3.toks) fun b ob q=>ac _ q
 obtain⟨T,id,hT,ht,hg⟩:=hr pins { s3 with heap:=s3.heap.push { cls:=.type "slice",data:=.fields #[vl,vu,.none] } } σ H3 x v vl vu l u s3.heap.objs.size Q I4 r1 (Heap.IsSliceOf.new ..) pl pu q3
 show wpAny (model X.prog X.w) X.A (subscriptTail e (.Slice lo hi none p2) v (.ref s3.heap.objs.size)) (EP X pins σ Q) X.xe { s3 with heap:=s3.heap.push { cls:=.type "slice",data:=.fields #[vl,vu,.none] } }
 exact tail_any (ops:=[.ref s3.heap.objs.size,v]) ht hT hg (by with_unfolding_all rfl)
def gj' (xs:List V) (lo hi:Option Int):List V:=(xs.drop (HT.sIx xs.length 0 lo)).take (HT.sIx xs.length xs.length hi-HT.sIx xs.length 0 lo)
theorem cr' (xs:List V) (lo hi:Option Int):(gj' xs lo hi).length<=xs.length:=by
 unfold gj'
 rw[aP,cf]
 omega
def qP' (K:W.Frag):V->Option Int->Option Int->Hp->VK->Prop:=fun x lo hi H Q=>∃a xs,x=.ref a/\SqT K H a xs/\
 ¬(HT.sIx xs.length 0 lo=0/\HT.sIx xs.length xs.length hi=xs.length)/\∀p,H p=none->Q (.ref p) (upd H p (.tup (gj' xs lo hi)))
theorem rs':SlR X (qP' X.K):=by
 intro pins s σ H x v vl vu lo hi sl Q I rx hs pl pu h
 obtain⟨a,xs,rfl,hx,hw,q⟩:=h
 cases rx
 obtain⟨its,r,ht,hz⟩:=I.tuple hx
 have hlen:its.toArray.size=xs.length:=by rw[aj];exact r.length.symm
 refine⟨"tuple",_,PyProof.Rows.slot_tuple_getitem.lookup,ht.typeIs,?_⟩
 refine HT.cZ' ht hs pl pu (by rw[hlen];exact hw) ?_ (by rw[hlen];exact hz)
 rw[hlen]
 refine⟨.ref s.heap.objs.size,_,I.laid (t':=s.toks) (o:=.tup (gj' xs lo hi)) (fun b ob q=>ac _ q) (ag _) ?_,rfl,q _ (I.hok.fresh (ag _))⟩
 exact⟨aG (cr' xs lo hi) hz,_,(r.drop (HT.sIx xs.length 0 lo)).take (HT.sIx xs.length xs.length hi-HT.sIx xs.length 0 lo),lc'.new _ _⟩
def rt' (K:W.Frag):R2:=fun x y H Q=>∃a b xs ys,x=.ref a/\y=.ref b/\SqT K H a xs/\SqT K H b ys/\xs≠[]/\xs.length+ys.length<=sizeLine/\
 (ys=[]->Q (.ref a) H)/\(ys≠[]->∀p,H p=none->Q (.ref p) (upd H p (.tup (xs++ys))))
theorem aA'.nil_iff {xs:List V} {us:List Value} (r:aA' xs us):us=[]↔xs=[]:=by
 cases r with
 |nil=>simp
 |cons _ _=>simp
theorem oI':OpR X (binaryOp .Add) (rt' X.K):=by
 intro pins s σ H x y v u Q I rx ry h
 obtain⟨a,b,xs,ys,rfl,rfl,ha,hb,hx,hz,q1,q2⟩:=h
 cases rx
 cases ry
 obtain⟨its,r1,p1,_⟩:=I.tuple ha
 obtain⟨its2,r2,p2,_⟩:=I.tuple hb
 refine HT.oG' p1 p2 (fun z=>hx (r1.nil_iff.mp z)) (fun z=>⟨.ref a,H,I,rfl,q1 (r2.nil_iff.mp z)⟩) (fun z=>?_) (by rw[<- r1.length,<- r2.length];exact hz)
 refine⟨.ref s.heap.objs.size,_,I.laid (t':=s.toks) (o:=.tup (xs++ys)) (fun b ob q=>ac _ q) (ag _) ?_,rfl,q2 (fun w=>z (r2.nil_iff.mpr w)) _ (I.hok.fresh (ag _))⟩
 exact⟨by rw[aD];exact hz,_,r1.append r2,lc'.new _ _⟩
end
def ixN (n:Nat) (i:Int):Option Nat:=if 0<=i then(if i<n then some i.toNat else none)else if -(n:Int)<=i then some (i+n).toNat else none
def atI {α:Type} (xs:List α) (i:Int):Option α:=(ixN xs.length i).bind fun j=>xs[j]?
theorem iZ' {n:Nat} {i:Int} {j:Nat} (h:ixN n i=some j):seqIndex? i n=some j/\j<n/\-(n:Int)<=i/\i<n:=by
 unfold ixN at h
 by_cases h0:0<=i
 .rw[if_pos h0]at h
  by_cases h1:i<n
  .rw[if_pos h1]at h
   have e:i.toNat=j:=Option.some.inj h
   exact⟨by rw[seqIndex_of h0 h1,e],by omega,by omega,h1⟩
  .rw[if_neg h1]at h;cases h
 .rw[if_neg h0]at h
  by_cases h1:-(n:Int)<=i
  .rw[if_pos h1]at h
   have e:(i+n).toNat=j:=Option.some.inj h
   exact⟨by rw[seqIndex_neg (by omega) h1,e],by omega,h1,by omega⟩
  .rw[if_neg h1]at h;cases h
theorem gk' {α:Type} {xs:List α} {i:Int} {v:α} (h:atI xs i=some v):∃j,seqIndex? i xs.length=some j/\xs[j]?=some v/\j<xs.length/\-(xs.length:Int)<=i/\i<xs.length:=by
 unfold atI at h
 cases e:ixN xs.length i with
 |none=>rw[e]at h;cases h
 |some j=>
  rw[e]at h
  obtain⟨h1,h2,h3,h4⟩:=iZ' e
  exact⟨j,h1,h,h2,h3,h4⟩
theorem a1' {α:Type} {xs:List α} {j:Nat} {v:α} (h:xs[j]?=some v):atI xs (j:Int)=some v:=by
 have hj:j<xs.length:=(aM.mp h).1
 have e:ixN xs.length (j:Int)=some j:=by
  unfold ixN
  rw[if_pos (by omega),if_pos (by omega)];simp
 unfold atI;rw[e];exact h
def i0' (b:Expr):Prop:=∀o i,subscripted b false o i=operate [o,i] (getItem o i)
def IxR (X:Cx) (r:R2):Prop:=
 ∀(value slice:Expr) (pins:List (Addr×Obj)) (s:Shared) (σ:St) (H:Hp) (x y:V) (v u:Value) (Q:VK),Inv X pins σ H s->av' x v->av' y u->r x y H Q->
  subscripted slice false v u=operate [v,u] (getItem v u)->wpAny (model X.prog X.w) X.A (subscriptTail value slice v u) (EP X pins σ Q) X.xe s
def MtR (X:Cx) (id:String) (r:V->List V->Hp->VK->Prop):Prop:=
 ∀(pins:List (Addr×Obj)) (s:Shared) (σ:St) (H:Hp) (x:V) (xs:List V) (v:Value) (us:List Value) (Q:VK),Inv X pins σ H s->av' x v->aA' xs us->r x xs H Q->
  wpAny (model X.prog X.w) X.A (call (.builtin id) (v :: us)) (EP X pins σ Q) X.xe s
section
variable {X:Cx} {a b:Expr} {ta tb:TE} {pos:Pos}
theorem IxR.or {r r':R2} (h:IxR X r) (h':IxR X r'):IxR X (fun x y H Q=>r x y H Q\/r' x y H Q):=by
 intro value slice pins s σ H x y v u Q I rx ry q hs
 rcases q with q|q
 .exact h value slice pins s σ H x y v u Q I rx ry q hs
 .exact h' value slice pins s σ H x y v u Q I rx ry q hs
theorem vH' {r:R2} (hr:IxR X r) (ha:PE X a ta) (hb:PE X b tb) (hs:i0' b):PE X (.Subscript a b pos) (tOp r ta tb):=by
 intro pins s σ H Q I h
 exact Subscript_ (vu' ha hb I h fun v u s2 x y H2 I2 rx ry q=>hr a b pins s2 σ H2 x y v u Q I2 rx ry q (hs _ _))
def iD' (K:W.Frag):R2:=fun x y H Q=>∃p xs i v,x=.ref p/\y=.int i/\SqL K H p xs/\atI xs i=some v/\Q v H
def i1' (K:W.Frag):R2:=fun x y H Q=>∃p xs i v,x=.ref p/\y=.int i/\SqT K H p xs/\atI xs i=some v/\Q v H
def xz':R2:=fun x y H Q=>∃z i c,x=.str z/\y=.int i/\z.length<=sizeLine/\atI z.cps.toList i=some c/\Q (.str ⟨#[c]⟩) H
theorem oJ':IxR X (iD' X.K):=by
 intro value slice pins s σ H x y v u Q I rx ry h hs
 obtain⟨p,xs,i,z,rfl,rfl,hq,he,q⟩:=h
 cases rx
 obtain⟨t,rfl⟩:=ry
 obtain⟨its,r,pl,hz⟩:=I.list hq
 obtain⟨j,h1,h2,h3,h4,h5⟩:=gk' he
 obtain⟨w,ew,rw'⟩:=r.get h2
 have hl:=r.length
 have hn:=eC'
 have fin:EP X pins σ Q w s:=⟨z,H,I,rw',q⟩
 by_cases h0:0<=i
 .have hj:i.toNat=j:=by
   rw[seqIndex_of h0 h5]at h1
   exact Option.some.inj h1
  exact item_listR pl.isList h0 (by omega) (by rw[hj];simpa using ew) fin hs
 .have hj:(i+(its.toArray.size:Int)).toNat=j:=by
   rw[seqIndex_neg (by omega) h4]at h1
   rw[aj,<- hl]
   exact Option.some.inj h1
  exact subscriptTail_builtinR (x:=w) pl.isList.typeIs slot_list_getitem.lookup
   (wpAny_getItem_list_neg (Q:=fun r s'=>r=w/\EP X pins σ Q r s') pl.isList (by omega) (by rw[aj]<;>omega) (by omega) (by rw[hj];simpa using ew) ⟨rfl,fin⟩) hs
theorem ru':IxR X (i1' X.K):=by
 intro value slice pins s σ H x y v u Q I rx ry h hs
 obtain⟨p,xs,i,z,rfl,rfl,hq,he,q⟩:=h
 cases rx
 obtain⟨t,rfl⟩:=ry
 obtain⟨its,r,pl,hz⟩:=I.tuple hq
 obtain⟨j,h1,h2,h3,h4,h5⟩:=gk' he
 obtain⟨w,ew,rw'⟩:=r.get h2
 have hl:=r.length
 have hn:=eC'
 have fin:EP X pins σ Q w s:=⟨z,H,I,rw',q⟩
 exact subscriptTail_builtinR (x:=w) pl.typeIs slot_tuple_getitem.lookup
  (getItem_tuple (j:=j) (Q:=fun r s'=>r=w/\EP X pins σ Q r s') pl (by omega) (by omega) (by rw[aj,<- hl];exact h1) (by simpa using ew) ⟨rfl,fin⟩) hs
theorem rv':IxR X xz':=by
 intro value slice pins s σ H x y v u Q I rx ry h hs
 obtain⟨z,i,c,rfl,rfl,hz,he,q⟩:=h
 obtain⟨t,rfl⟩:=rx
 obtain⟨t',rfl⟩:=ry
 obtain⟨j,h1,h2,h3,h4,h5⟩:=gk' he
 have hl:z.cps.toList.length=z.length:=by simp[Str.length]
 rw[hl]at h1 h4 h5
 have hn:=eC'
 exact tail_any (typeIs_str s z t) slot_str_getitem.lookup (getItem_str (c:=c) (by
  have e1:decide (i < -(2 ^ 63:Int))=false:=decide_eq_false (by omega)
  have e2:decide (i ≥ 2 ^ 63)=false:=decide_eq_false (by omega)
  rw[e1,e2,Bool.or_false]) (by rw[h1];simpa using h2) ⟨.str ⟨#[c]⟩,H,I.tok _,⟨_,rfl⟩,q⟩) hs
def rIx (K:W.Frag):R2:=fun x y H Q=>iD' K x y H Q\/i1' K x y H Q\/xz' x y H Q
theorem rx':IxR X (rIx X.K):=oJ'.or (ru'.or rv')
theorem h7' (its:List Value) (n j:Nat) (u:Value):Obj.mapSeq (·.setIfInBounds j u) { cls:=.type "list",data:=.seq its.toArray n }={ cls:=.type "list",data:=.seq (its.set j u).toArray n }:=by
 simp[Obj.mapSeq]
theorem Inv.lst {pins:List (Addr×Obj)} {σ:St} {H:Hp} {s:Shared} {p:Addr} {xs:List V} (I:Inv X pins σ H s) (h:H p=some (.lst xs)):
  ∃(its:List Value) (n:Nat),aA' xs its/\s.heap.get? p=some { cls:=.type "list",data:=.seq its.toArray n }/\xs.length<=sizeLine:=by
 obtain⟨z,its,n,r,e⟩:=I.hok p _ h
 exact⟨its,n,r,e,z⟩
theorem Inv.lstUpd {pins:List (Addr×Obj)} {σ:St} {H:Hp} {s:Shared} {p:Addr} {xs ys:List V} {its its':List Value} {n n':Nat} {f:Obj->Obj} (I:Inv X pins σ H s) (h:H p=some (.lst xs))
  (ho:s.heap.get? p=some { cls:=.type "list",data:=.seq its.toArray n }) (hf:f { cls:=.type "list",data:=.seq its.toArray n }={ cls:=.type "list",data:=.seq its'.toArray n' }) (r:aA' ys its') (hz:ys.length<=sizeLine) (t:Nat):
  Inv X pins σ (upd H p (.lst ys)) { s with heap:=s.heap.update p f,toks:=t }:=by
 have e:(s.heap.update p f).get? p=some { cls:=.type "list",data:=.seq its'.toArray n' }:=by
  rw[aR f ho (by rw[hf]<;>rfl),hf]
 refine I.write (x:=p) (e:=p) (by rw[h];trivial) (.inl rfl) (fun b u hb q=>(cE _ _ (Ne.symm hb)).trans q) ⟨_,e⟩ ?_
 exact⟨hz,its',n',r,e⟩
def dm':V->V->V->Hp->(Hp->Prop)->Prop:=fun o i v H Q=>∃p xs k j,o=.ref p/\i=.int k/\H p=some (.lst xs)/\ixN xs.length k=some j/\Q (upd H p (.lst (xs.set j v)))
theorem lC':xx' X dm':=by
 intro pins s σ H o i v ov iv u Q I ro ri rv h
 obtain⟨p,xs,k,j,rfl,rfl,hp,hj,q⟩:=h
 cases ro
 obtain⟨t,rfl⟩:=ri
 obtain⟨its,n,r,ho,hz⟩:=I.lst hp
 obtain⟨h1,h2,h3,h4⟩:=iZ' hj
 have hl:=r.length
 have hn:=eC'
 have I':Inv X pins σ (upd H p (.lst (xs.set j v))) { s with heap:=s.heap.update p (Obj.mapSeq (·.setIfInBounds j u)) }:=
  I.lstUpd hp ho (h7' its n j u) (r.set rv j) (by rw[List.length_set];exact hz) s.toks
 by_cases h0:0<=k
 .have hk:k.toNat=j:=by
   rw[seqIndex_of h0 h4]at h1
   exact Option.some.inj h1
  exact W.ki_setAt ho h0 (by omega) (by rw[aj,<- hl];exact h4) (by rw[hk];exact⟨_,I',q⟩)
 .have hk:(k+(its.toArray.size:Int)).toNat=j:=by
   rw[seqIndex_neg (by omega) h3]at h1
   rw[aj,<- hl]
   exact Option.some.inj h1
  exact W.ki_setBack ho (by omega) (by rw[aj,<- hl];exact h3) (by omega) (by rw[hk];exact⟨_,I',q⟩)
theorem fu' (lo hi:Option Int) (n:Nat):(sliceBounds lo hi none n).1=((HT.sIx n 0 lo:Nat):Int)/\(sliceBounds lo hi none n).2.1=((HT.sIx n n hi:Nat):Int)/\(sliceBounds lo hi none n).2.2=1:=by
 refine⟨?_,?_,rfl⟩
 .cases lo with
  |none=>simp[sliceBounds,HT.sIx]
  |some i=>
   simp only[sliceBounds,HT.sIx,Option.getD_none,show(1:Int) > 0 by decide,if_true]
   by_cases h:i<0
   .simp only[h,if_true]<;>omega
   .simp only[h,if_false]<;>omega
 .cases hi with
  |none=>simp[sliceBounds,HT.sIx]
  |some i=>
   simp only[sliceBounds,HT.sIx,Option.getD_none,show(1:Int) > 0 by decide,if_true]
   by_cases h:i<0
   .simp only[h,if_true]<;>omega
   .simp only[h,if_false]<;>omega
theorem eV' (its:List Value) (lo hi:Option Int):slicePick its.toArray lo hi none=((its.drop (HT.sIx its.length 0 lo)).take (HT.sIx its.length its.length hi-HT.sIx its.length 0 lo)).toArray:=by
 obtain⟨h1,h2,h3⟩:=fu' lo hi its.toArray.size
 unfold slicePick
 rw[h1,h2,h3]
 simp only[sliceRange_one,pick_run,aj]<;>rfl
def qQ' (K:W.Frag):V->Option Int->Option Int->Hp->VK->Prop:=fun x lo hi H Q=>∃a xs,x=.ref a/\SqL K H a xs/\∀p,H p=none->Q (.ref p) (upd H p (.lst (gj' xs lo hi)))
theorem oK':SlR X (qQ' X.K):=by
 intro pins s σ H x v vl vu lo hi sl Q I rx hs pl pu h
 obtain⟨a,xs,rfl,hx,q⟩:=h
 cases rx
 obtain⟨its,r,ht,hz⟩:=I.list hx
 have hlen:=r.length
 refine⟨"list",_,slot_list_getitem.lookup,ht.isList.typeIs,?_⟩
 refine wpAny_getItem_list_slice ht.isList hs pl pu .none (by simp) ?_ (by rw[aj]<;>omega)
 rw[eV',<- hlen]
 refine⟨.ref s.heap.objs.size,_,I.laid (t':=s.toks) (o:=.lst (gj' xs lo hi)) (fun b ob q=>ac _ q) (ag _) ?_,rfl,q _ (I.hok.fresh (ag _))⟩
 exact⟨aG (cr' xs lo hi) hz,_,0,(r.drop (HT.sIx xs.length 0 lo)).take (HT.sIx xs.length xs.length hi-HT.sIx xs.length 0 lo),ai _ rfl⟩
def fv':V->Bool
 | .non=>true
 | .bl _=>true
 | .int _=>true
 | .str _=>true
 |_=>false
def eqV:V->V->Bool
 | .non,.non=>true
 | .bl a,.bl b=>a == b
 | .bl a,.int b=>(if a then 1 else 0) == b
 | .int a,.bl b=>a == (if b then 1 else 0)
 | .int a,.int b=>a == b
 | .str a,.str b=>a == b
 |_,_=>false
theorem ry' {A:Around} {s:Shared} {y x:V} {u v:Value} (ry:av' y u) (rx:av' x v) (fy:fv' y=true) (fx:fv' x=true):SeqAt.EqAt A s u v (eqV y x):=by
 cases y with
 |non=>
  cases ry
  cases x with
  |non=>cases rx;exact SeqAt.EqAt.same _
  |bl b=>cases rx;exact SeqAt.EqAt.none_bool b
  |int b=>obtain⟨t,rfl⟩:=rx;exact SeqAt.EqAt.none_int b t
  |str b=>obtain⟨t,rfl⟩:=rx;exact SeqAt.EqAt.none_str b t
  |_=>exact absurd (show false=true from fx) al
 |bl a=>
  cases ry
  cases x with
  |non=>cases rx;exact SeqAt.EqAt.bool_none a
  |bl b=>cases rx;exact SeqAt.EqAt.bool_bool a b
  |int b=>obtain⟨t,rfl⟩:=rx;exact SeqAt.EqAt.bool_int a b t
  |str b=>obtain⟨t,rfl⟩:=rx;exact SeqAt.EqAt.bool_str a b t
  |_=>exact absurd (show false=true from fx) al
 |int a=>
  obtain⟨t',rfl⟩:=ry
  cases x with
  |non=>cases rx;exact SeqAt.EqAt.int_none a t'
  |bl b=>cases rx;exact SeqAt.EqAt.int_bool a t' b
  |int b=>obtain⟨t,rfl⟩:=rx;exact SeqAt.EqAt.int_int a t' b t
  |str b=>obtain⟨t,rfl⟩:=rx;exact SeqAt.EqAt.int_str a t' b t
  |_=>exact absurd (show false=true from fx) al
 |str a=>
  obtain⟨t',rfl⟩:=ry
  cases x with
  |non=>cases rx;exact SeqAt.EqAt.str_none a t'
  |bl b=>cases rx;exact SeqAt.EqAt.str_bool a t' b
  |int b=>obtain⟨t,rfl⟩:=rx;exact SeqAt.EqAt.str_int a t' b t
  |str b=>obtain⟨t,rfl⟩:=rx;exact SeqAt.EqAt.str_str a t' b t
  |_=>exact absurd (show false=true from fx) al
 |_=>exact absurd (show false=true from fy) al
def eqU (x:V) (u:Value):Bool:=match u with
 | .none=>eqV .non x
 | .bool b=>eqV (.bl b) x
 | .int i _=>eqV (.int i) x
 | .str z _=>eqV (.str z) x
 |_=>false
theorem nF' {x y:V} {u:Value} (r:av' y u) (f:fv' y=true):eqU x u=eqV y x:=by
 cases y with
 |non=>cases r;rfl
 |bl b=>cases r;rfl
 |int i=>obtain⟨t,rfl⟩:=r;rfl
 |str z=>obtain⟨t,rfl⟩:=r;rfl
 |_=>exact absurd (show false=true from f) al
theorem dC' {x:V}:∀{xs:List V} {us:List Value},aA' xs us->xs.all fv'=true->us.any (eqU x)=xs.any fun y=>eqV y x
 |_,_,.nil,_=>rfl
 |y :: xs,u :: us,.cons r t,f=>by
  rw[List.all_cons,af]at f
  rw[cz,cz,nF' r f.1,dC' t f.2]
theorem cC' {A:Around} {s:Shared} {x:V} {v:Value} (rx:av' x v) (fx:fv' x=true):∀{xs:List V} {us:List Value},aA' xs us->xs.all fv'=true->∀u∈us,SeqAt.EqAt A s u v (eqU x u)
 |_,_,.nil,_=>fun u hu=>by cases hu
 |y :: xs,u :: us,.cons r t,f=>fun u' hu=>by
  rw[List.all_cons,af]at f
  rcases am.mp hu with rfl|hu
  .rw[nF' r f.1];exact ry' r rx f.1 fx
  .exact cC' rx fx t f.2 u' hu
def inV (x:V) (xs:List V):Bool:=xs.any fun y=>eqV y x
def rIn (K:W.Frag) (neg:Bool):R2:=fun x y H Q=>∃p xs,y=.ref p/\(SqL K H p xs\/SqT K H p xs)/\fv' x=true/\xs.all fv'=true/\Q (.bl (if neg then !inV x xs else inV x xs)) H
theorem i2':OpR X (compareOp .In) (rIn X.K false):=by
 intro pins s σ H x y v u Q I rx ry h
 obtain⟨p,xs,rfl,hq,fx,fs,q⟩:=h
 cases ry
 rcases hq with hq|hq
 .obtain⟨its,r,pl,hz⟩:=I.list hq
  refine SeqAt.in_listAt (eqU x) pl.isList (fun w hw=>cC' rx fx r fs w (by simpa using hw)) ⟨.bl _,H,I,rfl,?_⟩
  rw[show its.toArray.any (eqU x)=its.any (eqU x) by simp,dC' r fs]
  exact q
 .obtain⟨its,r,pl,hz⟩:=I.tuple hq
  refine SeqAt.in_tupleAt (eqU x) pl (fun w hw=>cC' rx fx r fs w (by simpa using hw)) ⟨.bl _,H,I,rfl,?_⟩
  rw[show its.toArray.any (eqU x)=its.any (eqU x) by simp,dC' r fs]
  exact q
theorem fw':OpR X (compareOp .NotIn) (rIn X.K true):=by
 intro pins s σ H x y v u Q I rx ry h
 obtain⟨p,xs,rfl,hq,fx,fs,q⟩:=h
 cases ry
 rcases hq with hq|hq
 .obtain⟨its,r,pl,hz⟩:=I.list hq
  refine SeqAt.notIn_listAt (eqU x) pl.isList (fun w hw=>cC' rx fx r fs w (by simpa using hw)) ⟨.bl _,H,I,rfl,?_⟩
  rw[show its.toArray.any (eqU x)=its.any (eqU x) by simp,dC' r fs]
  exact q
 .obtain⟨its,r,pl,hz⟩:=I.tuple hq
  refine SeqAt.notIn_tupleAt (eqU x) pl (fun w hw=>cC' rx fx r fs w (by simpa using hw)) ⟨.bl _,H,I,rfl,?_⟩
  rw[show its.toArray.any (eqU x)=its.any (eqU x) by simp,dC' r fs]
  exact q
theorem aT'.or {f:Value} {r r':List V->Hp->VK->Prop} (h:aT' X f r) (h':aT' X f r'):aT' X f (fun xs H Q=>r xs H Q\/r' xs H Q):=by
 intro pins s σ H xs us Q I rs q
 rcases q with q|q
 .exact h pins s σ H xs us Q I rs q
 .exact h' pins s σ H xs us Q I rs q
theorem fx':aT' X (.type "list") (fun xs H Q=>∃p ys,xs=[.ref p]/\(SqL X.K H p ys\/SqT X.K H p ys)/\∀l,H l=none->Q (.ref l) (upd H l (.lst ys))):=by
 intro pins s σ H xs us Q I r h
 obtain⟨p,ys,rfl,hq,q⟩:=h
 obtain⟨u,rfl,rx⟩:=ej' r
 cases rx
 have fin:∀(its:List Value),aA' ys its->ys.length<=sizeLine->∀(h':Heap) (c':Nat),(∀b o',s.heap.get? b=some o'->h'.get? b=some o')->
   h'.get? s.heap.objs.size=some { cls:=.type "list",dict:=none,data:=.seq its.toArray c',slots:=#[] }->EP X pins σ Q (.ref s.heap.objs.size) { s with heap:=h' }:=fun its r' hz h' c' kp e=>
  ⟨.ref s.heap.objs.size,_,I.laid (t':=s.toks) kp (ag _) (show as' X.prog X.w _ h' _ (.lst ys) from⟨hz,its,c',r',e⟩),rfl,q _ (I.hok.fresh (ag _))⟩
 rcases hq with hq|hq
 .obtain⟨its,r',pl,hz⟩:=I.list hq
  have hlen:=r'.length
  obtain⟨o,ho,hc,n,hd⟩:=pl.isList
  exact call_list_seq p (.inl rfl) ho hc hd (fun h' c' kp e=>fin its r' hz h' c' kp e) (by simp only[aj]<;>omega)
 .obtain⟨its,r',pl,hz⟩:=I.tuple hq
  have hlen:=r'.length
  obtain⟨o,ho,hc,n,hd⟩:=pl
  exact call_list_seq p (.inr rfl) ho hc hd (fun h' c' kp e=>fin its r' hz h' c' kp e) (by simp only[aj]<;>omega)
theorem eW':aT' X (.type "tuple") (fun xs H Q=>∃p ys,xs=[.ref p]/\((SqL X.K H p ys/\∀l,H l=none->Q (.ref l) (upd H l (.tup ys)))\/(SqT X.K H p ys/\Q (.ref p) H))):=by
 intro pins s σ H xs us Q I r h
 obtain⟨p,ys,rfl,h⟩:=h
 obtain⟨u,rfl,rx⟩:=ej' r
 cases rx
 rcases h with⟨hq,q⟩|⟨hq,q⟩
 .obtain⟨its,r',pl,hz⟩:=I.list hq
  have hlen:=r'.length
  refine call_tuple_list pl.isList (fun h' kp=>?_) (by simp only[aj]<;>omega)
  have I1:Inv X pins σ H { s with heap:=h' }:=I.kept (t':=s.toks) kp
  have I2:Inv X pins σ (upd H h'.objs.size (.tup ys)) { s with heap:=h'.push { cls:=.type "tuple",data:=.seq its.toArray } }:=
   I1.laid (t':=s.toks) (fun b o e=>ac _ e) (ag _) (show as' X.prog X.w _ _ _ (.tup ys) from⟨hz,its,r',lc'.new _ _⟩)
  exact⟨.ref h'.objs.size,_,I2,rfl,q _ (I1.hok.fresh (ag _))⟩
 .obtain⟨its,r',pl,hz⟩:=I.tuple hq
  exact call_tuple_same pl ⟨.ref p,H,I,rfl,q⟩
def tyV (K:W.Frag) (T:String) (x:V) (H:Hp):Prop:=match x with
 | .str _=>T="str"
 | .int _=>T="int"
 | .ref p=>(T="list"/\∃xs,SqL K H p xs)\/(T="tuple"/\((∃o,K.lookup p=some o/\o.cls=.type "tuple"/\o.dict=none)\/∃xs,H p=some (.tup xs)))\/
   (T="dict"/\((∃kvs,H p=some (.dK kvs))\/∃kvs,H p=some (.dT kvs)))\/(T="set"/\∃S n,H p=some (.set S n))
 |_=>False
theorem nG' {pins:List (Addr×Obj)} {σ:St} {H:Hp} {s:Shared} {T:String} {x:V} {v:Value} (I:Inv X pins σ H s) (r:av' x v) (ty:tyV X.K T x H):
  s.TypeIs v T/\∀a,v=.ref a->∃ob,s.heap.get? a=some ob/\ob.dict=none:=by
 cases x with
 |str z=>
  obtain⟨t,rfl⟩:=r
  cases(show T="str" from ty)
  exact⟨typeIs_str s z t,fun _ e=>nomatch e⟩
 |int i=>
  obtain⟨t,rfl⟩:=r
  cases(show T="int" from ty)
  exact⟨typeIs_int s i t,fun _ e=>nomatch e⟩
 |ref p=>
  cases r
  rcases ty with⟨rfl,xs,hq⟩|⟨rfl,⟨o,hk,hc,hd⟩|⟨xs,hk⟩⟩|⟨rfl,hk⟩|⟨rfl,S,n,hk⟩
  .obtain⟨its,_,pl,_⟩:=I.list hq
   refine⟨pl.isList.typeIs,fun a e=>?_⟩
   cases e
   obtain⟨o,n,e,c,hd,_⟩:=pl
   exact⟨o,e,hd⟩
  .refine⟨⟨o,I.kIn p o hk,hc⟩,fun a e=>?_⟩
   cases e
   exact⟨o,I.kIn _ o hk,hd⟩
  .obtain⟨_,_,_,o,e,c,_,hd⟩:=I.hok p _ hk
   refine⟨⟨o,e,c⟩,fun a e2=>?_⟩
   cases e2
   exact⟨o,e,hd⟩
  .have z:∃o,s.heap.get? p=some o/\o.ExactDict:=by
    rcases hk with⟨kvs,hk⟩|⟨kvs,hk⟩
    .obtain⟨_,_,_,_,o,_,_,e,ex,_⟩:=I.hok p _ hk
     exact⟨o,e,ex⟩
    .obtain⟨_,_,_,_,o,_,_,e,ex,_⟩:=I.hok p _ hk
     exact⟨o,e,ex⟩
   obtain⟨o,e,ex⟩:=z
   refine⟨⟨o,e,ex.1⟩,fun a e2=>?_⟩
   cases e2
   exact⟨o,e,ex.2.1⟩
  .obtain⟨o,_,_,_,e,ex,_⟩:=I.hok p _ hk
   refine⟨⟨o,e,ex.1⟩,fun a e2=>?_⟩
   cases e2
   exact⟨o,e,ex.2.1⟩
 |_=>exact False.elim ty
def yz' (K:W.Frag) (T:String) (r:V->List V->Hp->VK->Prop) (to:TE):TE:=fun σ H Q=>to σ H fun x H1=>tyV K T x H1/\r x [] H1 Q
def tBM (K:W.Frag) (T:String) (r:V->List V->Hp->VK->Prop) (to:TE) (t:TA):TE:=fun σ H Q=>to σ H fun x H1=>tyV K T x H1/\t σ H1 fun xs H2=>r x xs H2 Q
variable {o e:Expr} {es:List Expr} {to:TE} {t:TA} {name:Str} {apos cpos:Pos} {T id:String} {r:V->List V->Hp->VK->Prop}
theorem rz' (pa:PlainAttrs T) (slot:Slot T name id) (hty:typeOf (.builtin id)=pure (.type "method_descriptor")) (hm:MtR X id r) (ho:PE X o to)
  (hbase:attributeBase o name X.env (eval o X.env)=eval o X.env:=by rfl) (hline:(apos.endLine == cpos.line)=true:=by rfl):PE X (.Call (.Attribute o name apos) [] [] cpos) (yz' X.K T r to):=by
 intro pins s σ H Q I h
 refine wpAny_Call_method0_late hbase hline (thn (ho pins s σ H _ I h) fun v s1 ⟨x,H1,I1,r1,ty,q1⟩=>?_)
 obtain⟨h1,h2⟩:=nG' I1 r1 ty
 exact⟨T,id,pa,slot,hty,h1,h2,Calls.callWith_builtin rfl (PySem.evalArgs_none (hm pins s1 σ H1 x [] v [] Q I1 r1 .nil q1))⟩
theorem vI' (pa:PlainAttrs T) (slot:Slot T name id) (hty:typeOf (.builtin id)=pure (.type "method_descriptor")) (hm:MtR X id r) (ho:PE X o to) (ha:PA X (e :: es) t)
  (hbase:attributeBase o name X.env (eval o X.env)=eval o X.env:=by rfl)
  (hfew:((backTo cpos (starEach (e :: es) X.env)).all (fun x=>!x.1)&&(backToKw cpos (keywordEach [] X.env)).all (fun x=>x.1.isSome)
   && decide ((e :: es).length+([]:List Keyword).length+(if([]:List Keyword).isEmpty then 0 else 1)<30))=true:=by rfl)
  (hline:(apos.endLine == cpos.line)=true:=by rfl) (hs:starEach (e :: es) X.env=(false,eval e X.env) :: starEach es X.env:=by rfl) (hplain:(backTo cpos (starEach es X.env)).any (·.1)=false:=by rfl):
  PE X (.Call (.Attribute o name apos) (e :: es) [] cpos) (tBM X.K T r to t):=by
 intro pins s σ H Q I h
 refine wpAny_Call_method_late hbase hfew hline rfl (thn (ho pins s σ H _ I h) fun v s1 ⟨x,H1,I1,r1,ty,q1⟩=>?_)
 obtain⟨h1,h2⟩:=nG' I1 r1 ty
 refine⟨T,id,pa,slot,hty,h1,h2,?_⟩
 have hA:=ha cpos pins s1 σ H1 _ I1 q1
 rw[hs]at hA ⊢
 refine Calls.callWith_builtin (by show(false || (backTo cpos (starEach es X.env)).any (·.1))=false;rw[hplain]<;>rfl) (Calls.evalArgs_plain ?_)
 exact thn hA fun us s2 ⟨vs,H2,I2,r2,q2⟩=>hm pins s2 σ H2 x vs v us Q I2 r1 r2 q2
end
def MtM (X:Cx) (id:String) (r:V->List V->Hp->VK->Prop):Prop:=
 ∀(pins:List (Addr×Obj)) (s:Shared) (σ:St) (H:Hp) (x:V) (xs:List V) (v:Value) (us:List Value) (Q:VK),Inv X pins σ H s->av' x v->aA' xs us->r x xs H Q->
  wpAny (model X.prog X.w) X.A (call (.builtin id) (v :: us)) (EP X pins σ Q) X.xe s
theorem aA'.one:∀{x:V} {us:List Value},aA' [x] us->∃u,us=[u]/\av' x u
 |_,_,.cons r .nil=>⟨_,rfl,r⟩
theorem aA'.zero:∀{us:List Value},aA' [] us->us=[]
 |_,.nil=>rfl
theorem aA'.reverse {xs:List V} {us:List Value} (h:aA' xs us):aA' xs.reverse us.reverse:=by
 induction h with
 |nil=>exact .nil
 |cons r t ih=>rw[List.reverse_cons,List.reverse_cons];exact aA'.append ih (.cons r .nil)
theorem aA'.rep {xs:List V} {us:List Value} (h:aA' xs us):∀k:Nat,aA' (aO k xs).flatten (aO k us).flatten
 |0=>.nil
 |k+1=>by
  rw[cA,cA,bV,bV]
  exact aA'.append h (aA'.rep h k)
theorem fy' (its:List Value):∀(k:Nat) (acc:List Value),
  List.foldl (fun x1 x2=>x1++x2) acc.toArray (aO k its.toArray)=(acc++(aO k its).flatten).toArray
 |0,acc=>by simp
 |k+1,acc=>by
  have e:acc.toArray++its.toArray=(acc++its).toArray:=by simp
  have e2:(acc++its)++(aO k its).flatten=acc++(aO (k+1) its).flatten:=by
   rw[cA,bV,bW]
  rw[<- e2,<- fy' its k (acc++its),<- e,cA,cM]
section
variable {X:Cx} {pins:List (Addr×Obj)} {σ:St} {H:Hp} {s:Shared} {l b:Addr} {xs ys zs:List V}
theorem Inv.lset {its its':List Value} {n:Nat} {f:Array Value->Array Value} {t':Nat} (I:Inv X pins σ H s) (hH:H l=some (.lst xs))
  (e:s.heap.get? l=some { cls:=.type "list",data:=.seq its.toArray n }) (hf:f its.toArray=its'.toArray) (hv:aA' ys its') (hz:ys.length<=sizeLine):
  Inv X pins σ (upd H l (.lst ys)) { s with heap:=s.heap.update l (Obj.mapSeq f),toks:=t' }:=by
 have q:=PySem.IsL.update e f
 rw[hf]at q
 refine I.write (x:=l) (e:=l) (by rw[hH];exact trivial) (.inl rfl) (fun b' u hb hu=>(cE s.heap (Obj.mapSeq f) (Ne.symm hb)).trans hu) ⟨_,q⟩ ?_
 exact⟨hz,its',_,hv,q⟩
theorem Inv.lnew {its:List Value} {t':Nat} (I:Inv X pins σ H s) (hv:aA' ys its) (hz:ys.length<=sizeLine):
  Inv X pins σ (upd H s.heap.objs.size (.lst ys)) { s with heap:=s.heap.push { cls:=.type "list",data:=.seq its.toArray },toks:=t' }:=
 I.laid (fun _ _ q=>ac _ q) (ag _) ⟨hz,its,0,hv,ai _ rfl⟩
theorem Inv.fresh (I:Inv X pins σ H s):H s.heap.objs.size=none:=I.hok.fresh (ag _)
theorem Inv.lstM (I:Inv X pins σ H s) (hH:H l=some (.lst xs)):xs.length<=sizeLine/\∃(its:List Value) (n:Nat),aA' xs its/\xs.length=its.length/\s.heap.get? l=some { cls:=.type "list",data:=.seq its.toArray n }:=by
 obtain⟨z,its,n,r,e⟩:=I.hok l _ hH
 exact⟨z,its,n,r,r.length,e⟩
theorem lD' {n:Nat} (h:n<=sizeLine):Builtin.List.listTooLong n=false:=by
 unfold Builtin.List.listTooLong
 exact decide_eq_false (by omega)
end
section
variable {X:Cx}
def i3':V->List V->Hp->VK->Prop:=fun x vs H Q=>∃l xs y,x=.ref l/\vs=[y]/\H l=some (.lst xs)/\xs.length<sizeLine/\Q .non (upd H l (.lst (xs++[y])))
theorem i4':MtM X "list.append" i3':=by
 intro pins s σ H x vs v us Q I rx rv h
 obtain⟨l,xs,y,rfl,rfl,hH,hz,q⟩:=h
 cases rx
 obtain⟨u,rfl,ru⟩:=rv.one
 obtain⟨z,its,n,r,hl,e⟩:=I.lstM hH
 refine call_meets F.slot_list_append ⟨_,e,rfl⟩ F.entry_list_append (F.args_list_append_2 _ _) (PySem.list_append l its.toArray n u (by rw[aj];omega)) ⟨e,?_⟩
 refine⟨.non,_,I.lset (its':=its++[u]) hH e (by simp) (r.append (.cons ru .nil)) ?_,rfl,q⟩
 rw[aD,List.length_singleton]
 omega
def xA':R2:=fun x y H Q=>∃l b xs zs,x=.ref l/\y=.ref b/\H l=some (.lst xs)/\H b=some (.lst zs)/\xs.length+zs.length<=sizeLine/\∀p,H p=none->Q (.ref p) (upd H p (.lst (xs++zs)))
theorem rA':OpR X (binaryOp .Add) xA':=by
 intro pins s σ H x y v u Q I rx ry h
 obtain⟨l,b,xs,zs,rfl,rfl,hH,hB,hz,q⟩:=h
 cases rx
 cases ry
 obtain⟨z,its,n,r,hl,e⟩:=I.lstM hH
 obtain⟨z2,its2,n2,r2,hl2,e2⟩:=I.lstM hB
 refine PySem.P.add_list e e2 ?_ (by rw[aj,aj];omega)
 have ea:its.toArray++its2.toArray=(its++its2).toArray:=by simp
 rw[ea]
 exact⟨.ref _,_,I.lnew (t':=s.toks) (r.append r2) (by rw[aD];omega),rfl,q _ I.fresh⟩
def xB':R2:=fun x y H Q=>∃l k xs,x=.ref l/\y=.int k/\H l=some (.lst xs)/\-(2 ^ 63)<=k/\k<2 ^ 63/\xs.length*k.toNat<=sizeLine/\
 ∀p,H p=none->Q (.ref p) (upd H p (.lst (aO k.toNat xs).flatten))
theorem oL' {α:Type} (xs:List α) (k:Nat):(aO k xs).flatten.length=k*xs.length:=by
 induction k with
 |zero=>simp
 |succ k ih=>rw[cA,bV,aD,ih,Nat.succ_mul,Nat.add_comm]
theorem rB':OpR X (binaryOp .Mult) xB':=by
 intro pins s σ H x y v u Q I rx ry h
 obtain⟨l,k,xs,rfl,rfl,hH,h1,h2,hz,q⟩:=h
 cases rx
 obtain⟨t,rfl⟩:=ry
 obtain⟨z,its,n,r,hl,e⟩:=I.lstM hH
 have hlen:its.toArray.size*k.toNat<=sizeLine:=by rw[aj,<- hl];exact hz
 have hcap:¬its.toArray.size*k.toNat > (2 ^ 63-1) / 8:=by
  have:(sizeLine:Nat)<=(2 ^ 63-1) / 8:=by decide
  omega
 have hfit:¬(!Builtin.List.listFitsIndex k)=true:=by
  rw[fitsIndex_both h1 h2]
  exact al
 have hlong:¬Builtin.List.listTooLong (its.toArray.size*k.toNat)=true:=by
  rw[lD' hlen]
  exact al
 have hnew:List.foldl (fun x1 x2=>x1++x2) #[] (aO (if its.toArray.isEmpty=true then 0 else k.toNat) its.toArray)=(aO k.toNat its).flatten.toArray:=by
  have f0:∀m:Nat,List.foldl (fun x1 x2=>x1++x2) #[] (aO m its.toArray)=(aO m its).flatten.toArray:=fun m=>by
   have:=fy' its m []
   rw[List.nil_append]at this
   exact this
  rw[f0]
  cases its with
  |nil=>simp
  |cons a r'=>rw[if_neg (by simp)]
 refine wpAny_binaryOp_repeat_ref (T:="list") (U:="int") (by decide) ⟨_,e,rfl⟩ (fun s'=>typeIs_int s' k t) noFill_list_mul F.fills_int_mul F.slot_int_rmul repeat_list F.slot_int_index.lookup
  (call_meets F.slot_int_rmul (typeIs_int s k t) F.entry_int_rmul (F.args_int_rmul_2 _ _) (int___rmul___int_list k t l its.toArray n)
   ⟨e,rfl,⟨_,e,rfl⟩,call_meets F.slot_list_mul ⟨_,e,rfl⟩ F.entry_list_mul (F.args_list_mul_2 _ _) (AutoListH.list___mul___list_int_3 l its.toArray n k t hfit hcap hlong) ⟨e,?_⟩⟩)
 rw[hnew]
 exact⟨.ref _,_,I.lnew (t':=s.toks) (r.rep k.toNat) (by rw[oL',cW];exact hz),rfl,q _ I.fresh⟩
end
section
variable {prog:Program} {w:World} {A:Around} {E:Value->Shared->Prop} {s:Shared}
end
section
variable {X:Cx}
end
end L2
namespace Att
open PySem PySem.W PySem.Calls PyProof.Rows
theorem dD' {P:Params} {h:Heap}:∀(ns:List Int) (vs:List Value),WellAll P h vs (ns.map WData.int)->IntsAre vs ns:=by
 intro ns
 induction ns with
 |nil=>
  intro vs w
  rw[List.map_nil]at w
  cases w
  exact .nil
 |cons n ns ih=>
  intro vs w
  rw[aQ]at w
  cases w with
  |cons a b=>
   cases a
   exact .cons _ _ (ih _ b)
theorem i5' {l:OpenLaw} {n:Nat} (hn:l.most=some n) {P:Params} {h:Heap} {args:List WData} {vals:List Value}
  (hpre:l.row.toRowW.claim.pre args=true) (hwl:WellAll P h vals args):
  ∃a vs ns,vals=[Value.ref a]/\args=[WData.list (ns.map WData.int)]/\h.get? a=some { cls:=.type "list",data:=.seq vs.toArray }/\IntsAre vs ns/\ns.length<=n:=by
 have hsh:WShape.hasAll [] args [.list .int]=true:=(pre_splitW hpre).1
 have hc:l.pre.holds [] { args:=args }=true:=(pre_splitW hpre).2
 obtain⟨d,r,rfl,h1,h2⟩:=hasAllW_cons hsh
 obtain rfl:=hasAllW_nil h2
 obtain⟨xs,rfl,h3⟩:=hasW_list h1
 obtain⟨ns,rfl⟩:=items_int h3
 have hlen:ns.length<=n:=by
  unfold OpenLaw.pre at hc
  have h4:(WTm.not (.lt (.lit (.int (n:Int))) (.len (.arg 0)))).holds [] { args:=[.list (ns.map .int)] }=true:=by
   have h4:=(holds_andW hc).1
   rw[hn]at h4
   exact h4
  have h5:=condW_of h4 (w_not (w_lt w_lit (w_len_list (w_arg rfl))))
  rw[ah]at h5
  refine Nat.le_of_not_lt fun q=>?_
  have q':(n:Int)<((ns.length:Nat):Int):=by omega
  first
   |(rw[decide_eq_true q']at h5;exact absurd h5 (by decide))
   |(simp at h5;omega)
 cases hwl with
 |cons w1 w2=>
  cases w2
  cases w1 with
  |list ho hall=>exact⟨_,_,ns,rfl,rfl,ho,dD' ns _ hall,hlen⟩
theorem i6' (l:OpenLaw) (args:List WData):l.row.toRowW.claim.post args (.bool true) args=true:=
 postW_of (r:=l.row.toRowW) (X:=(true == true))
  (show WShape.has [] (.bool true) .bool=true by first|rfl|decide|simp[WShape.has,WShape.arms,WShape.armsAll])
  (show(WTm.eq .res (.lit (.bool true))).value [] { args:=args,res:=some (.bool true),after:=args }=some (.bool (true == true)) from w_eq_bool (w_res rfl) w_lit) rfl
theorem gl' {l:OpenLaw} {n:Nat} {q:Program} {loose:List Str} {XP:(Str->Option Value)->Heap->Prop} {YP:World->Heap->Prop} {d:DefRec}
  (hn:l.most=some n) (hdf:d.params.defaults=[])
  (call:∀(w:World) (s₀ s₁:Shared) (mg mb:Str->Option Value) (fa:Addr) (o:Obj) (pm cd doc:Value) (a:Addr) (vs:List Value) (ns:List Int),
   Ground q loose [] XP w s₀ mg mb s₁.heap->YP w s₁.heap->
   s₁.heap.get? fa=some o->o.data=.func (docDef d.name d.params d.body d.scope pm cd doc)->s₁.heap.CodeRec cd d.name->mg d.name=some (.ref fa)->
   s₁.heap.get? a=some { cls:=.type "list",data:=.seq vs.toArray }->IntsAre vs ns->ns.length<=n->s₁.gens=#[]->
   codeAny (model l.prog w) callerA (.call (.ref fa) ⟨[.ref a],[]⟩) (fun r s'=>r=.ok (.ret (.bool true))/\OldK s₁.heap s'.heap/\s'.os=s₁.os/\AllBare s'.gens) s₁):
  WalkO q loose XP YP l.row.toRowW d [] (fun f vs=>PySem.call f vs):=by
 intro w s₀ s₁ mg mb G Y fa o pm cd doc dV kV ho hd hcd hD hmg hg args vals as hpre hlay hrd hwl hlo
 obtain rfl:dV=.none:=Dflts.none hD hdf
 obtain rfl:kV=.none:=Dflts.noKw hD
 obtain⟨a,vs,ns,rfl,rfl,hobj,hints,hlen⟩:=i5' hn hpre hwl
 refine enter_call (codeAny_mono (call w s₀ s₁ mg mb fa o pm cd doc a vs ns G Y ho (fd_plain hd) hcd hmg hobj hints hlen hg) fun r s' hq=>?_)
 obtain⟨rfl,h2,h3,h4⟩:=hq
 exact⟨.inl ⟨.bool true,.bool true,[],rfl,fun _=>rfl,.bool true,i6' l _,fun _=>⟨List.Pairwise.nil,fun _ hm=>(nomatch hm)⟩⟩,h2,h3,h4⟩
section
variable {prog:Program} {w:World} {A:Around} {E:Value->Shared->Prop} {s:Shared} {K:Frag}
end
end Att
namespace L2
open PySem PySem.Spec PyProof.Rows
theorem fz':∀{vs:List Value} {ns:List Int},IntsAre vs ns->aA' (ns.map V.int) vs
 |_,_,.nil=>.nil
 |_,_,.cons n t h=>.cons ⟨t,rfl⟩ (fz' h)
def vJ' (H:Hp):Prop:=∀b,H b=none\/∃o xs,H b=some (.frz o (.lst xs))
theorem lE' {P:Program} {w:World} {K:W.Frag} {mg mb:Str->Option Value} {CX:CXT} {k:Nat} {fa a:Addr} {fd:FuncData} {x:Str} {sp:Sp} {s₁:Shared} {vs:List Value} {ns:List Int}
  (KX:K.In s₁.heap) (hns:s₁.heap.Ns mainGlobals mg) (hb:s₁.heap.Ns builtinsNs mb) (hbb:∀x:Str,x≠"__name__"->mb x=bootBuiltins x) (hlim:s₁.heap.NoLimit) (hg:s₁.gens=#[])
  (ha:s₁.heap.get? a=some { cls:=.type "list",data:=.seq vs.toArray }) (hi:IntsAre vs ns) (hl:ns.length<=sizeLine) (hr:Room k callerA)
  (F:∀base:Heap,K.In base->base.Ns mainGlobals mg->FnOk P w K mg base CX k fa fd [x] sp) (hbind:∀(s:Shared) (u:Value),BindsTo s fd ⟨[u],[]⟩ [(x,u)])
  (hsp:∀H:Hp,vJ' H->SqL K H a (ns.map V.int)->sp [.ref a] H (fun v _=>v=.bl true) fun _ _ _=>False)
  (hCX:∀H e s',CX [] H s₁ (fun _ _ _=>False) e s'->False):
  codeAny (model P w) callerA (.call (.ref fa) ⟨[.ref a],[]⟩) (fun r s'=>r=.ok (.ret (.bool true))/\OldK s₁.heap s'.heap/\s'.os=s₁.os/\AllBare s'.gens) s₁:=by
 have rv:=fz' hi
 have lenV:=hi.length
 have core:∀H:Hp,vJ' H->SqL K H a (ns.map V.int)->HOk P w H s₁.heap->(∀b,H b≠none->b=a)->(H a≠none->K.lookup a=none)->
   codeAny (model P w) callerA (.call (.ref fa) ⟨[.ref a],[]⟩) (fun r s'=>r=.ok (.ret (.bool true))/\OldK s₁.heap s'.heap/\s'.os=s₁.os/\AllBare s'.gens) s₁:=by
  intro H hO hS hok hA hK
  have base_of:∀{b:Addr} {o:Obj},s₁.heap.get? b=some o->H b=none->(lg' s₁.heap H).get? b=some o:=fun e n=>lh' e n
  have noA:∀{b:Addr} {o:Obj} {es:Array DictEntry} {ep:Nat},s₁.heap.get? b=some o->o.data=.dict es ep->H b=none:=fun {b o es ep} e d=>by
   cases q:H b with
   |none=>rfl
   |some u=>
    have e':b=a:=hA b (by rw[q];simp)
    subst e'
    rw[ha]at e;cases e
    have d':Data.seq vs.toArray _=Data.dict es ep:=d
    cases d'
  have nsK:∀{b:Addr} {m:Str->Option Value},s₁.heap.Ns b m->(lg' s₁.heap H).Ns b m:=fun {b m} ⟨o,es,ep,e,d,r⟩=>⟨o,es,ep,base_of e (noA e d),d,r⟩
  have hKb:K.In (lg' s₁.heap H):=fun b o e=>base_of (KX b o e) (by
   cases q:H b with
   |none=>rfl
   |some u=>
    have e':b=a:=hA b (by rw[q];simp)
    subst e'
    rw[hK (by rw[q];simp)]at e;cases e)
  have hM:Mod K mg (lg' s₁.heap H):=⟨hKb,nsK hns,⟨mb,nsK hb,hbb⟩,let⟨mc,h1,h2⟩:=hlim;⟨mc,nsK h1,h2⟩⟩
  have e0:Env0 P w K mg (lg' s₁.heap H) callerA [] s₁ H:=⟨rfl,hM,fun b o e=>ol' e,Nat.le_of_eq (iJ' _ _),trivial,fun b hb=>absurd (show b∈([]:List Addr) from hb) (by simp),hok,.of_eq hg⟩
  refine codeAny_mono ((F _ hKb (nsK hns)).run callerA [] s₁ H ⟨[.ref a],[]⟩ [.ref a] [.ref a] _ _ hr e0 (hbind s₁ (.ref a)) (.cons rfl .nil) (hsp H hO hS)) fun r s' h=>?_
  cases r with
  |error e=>exact(hCX H e s' h).elim
  |ok fl=>
   cases fl with
   |next=>exact False.elim h
   |brk=>exact False.elim h
   |cont=>exact False.elim h
   |ret u=>
    obtain⟨v,H',os,bare,un,hok',r',q⟩:=h
    have q':v=.bl true:=q
    subst q'
    obtain rfl:u=Value.bool true:=r'
    refine⟨rfl,OldK.of_keep fun b o e=>?_,os,bare⟩
    cases q:H b with
    |none=>exact un.keep b o e q (by intro z;exact absurd (show b∈([]:List Addr) from z) (by simp)) (by simp)
    |some u=>
     rcases hO b with z|⟨ob,xs,z⟩
     .rw[q]at z;cases z
     .have z2:=un.frzs b ob _ z
      obtain⟨e1,_⟩:=hok b _ z
      obtain⟨e2,_⟩:=hok' b _ z2
      rw[e]at e1;cases e1
      exact e2
 cases hk:K.lookup a with
 |some o=>
  have e:=KX a o hk
  rw[ha]at e
  cases e
  refine core (fun _=>none) (fun _=>.inl rfl) (.inr ⟨_,vs.toArray,_,hk,rfl,rfl,rfl,by rw[aj,lenV];exact hl,by simpa using rv⟩) (fun b u z=>by have z':(none:Option HO)=some u:=z;cases z') (fun b z=>absurd rfl z) fun z=>absurd rfl z
 |none=>
  refine core (fun b=>if b=a then some (.frz { cls:=.type "list",data:=.seq vs.toArray } (.lst (ns.map V.int)))else none) (fun b=>?_) (.inl (.inr ⟨{ cls:=.type "list",data:=.seq vs.toArray },if_pos rfl⟩)) (fun b u z=>?_) (fun b z=>?_) fun _=>hk
  .by_cases hb:b=a
   .exact .inr ⟨_,_,if_pos hb⟩
   .exact .inl (if_neg hb)
  .by_cases hb:b=a
   .have z':=(if_pos hb).symm.trans z
    cases z'
    subst hb
    exact⟨ha,by rw[ah];exact hl,vs,_,rv,ha⟩
   .have z':=(if_neg hb).symm.trans z
    cases z'
  .by_cases hb:b=a
   .exact hb
   .exact absurd (if_neg hb) z
theorem oM' {l:W.OpenLaw} {n k:Nat} {q:Program} {loose:List Str} {XP:(Str->Option Value)->Heap->Prop} {YP:World->Heap->Prop} {d:DefRec} {K:Params->W.Frag} {CX:World->CXT} {sp:World->Sp} {x:Str}
  (hn:l.most=some n) (hn2:n<=sizeLine) (hdf:d.params.defaults=[]) (hr:Room k callerA)
  (hY:∀(w:World) (h:Heap),YP w h->(K w.params).In h)
  (F:∀(w:World) (mg:Str->Option Value) (fa:Addr) (h:Heap),(K w.params).In h->h.Ns mainGlobals mg->mg d.name=some (.ref fa)->
   ∃fd:FuncData,(∀(s:Shared) (u:Value),BindsTo s fd ⟨[u],[]⟩ [(x,u)])/\
    ∀base:Heap,(K w.params).In base->base.Ns mainGlobals mg->FnOk l.prog w (K w.params) mg base (CX w) k fa fd [x] (sp w))
  (hsp:∀(w:World) (H:Hp) (a:Addr) (ns:List Int),ns.length<=n->vJ' H->SqL (K w.params) H a (ns.map V.int)->sp w [.ref a] H (fun v _=>v=.bl true) fun _ _ _=>False)
  (hCX:∀(w:World) (H:Hp) (s:Shared) (e:Value) (s':Shared),CX w [] H s (fun _ _ _=>False) e s'->False):
  W.WalkO q loose XP YP l.row.toRowW d [] (fun f vs=>PySem.call f vs):=by
 refine Att.gl' hn hdf fun w s₀ s₁ mg mb fa o pm cd doc a vs ns G Y ho hd hcd hmg hobj hints hlen hg=>?_
 have KX:=hY w _ Y
 obtain⟨fd,hb,hF⟩:=F w mg fa _ KX G.T.g hmg
 exact lE' KX G.T.g G.T.b G.T.builtins G.T.nolimit hg hobj hints (aG hlen hn2) hr hF hb (fun H hO hS=>hsp w H a ns hlen hO hS) fun H e s'=>hCX w H s₁ e s'
def c0' (s:Stmt):Arguments:=match s with
 | .FunctionDef _ a _ _ _ _ _ _ _ _=>a
 |_=>{ posonlyargs:=[],args:=[],vararg:=none,kwonlyargs:=[],kw_defaults:=[],kwarg:=none,defaults:=[] }
def aj' (s:Stmt):List Stmt:=match s with
 | .FunctionDef _ _ b _ _ _ _ _ _ _=>b
 |_=>[]
def ac' (s:Stmt):Scope:=match s with
 | .FunctionDef _ _ _ _ _ _ sc _ _ _=>sc
 |_=>{ kind:=.function,names:=[],isGenerator:=false,isCoroutine:=false }
abbrev CX0:CXT:=fun _ _ _ _ _ _=>False
abbrev E0:XK:=fun _ _ _=>False
structure Fun (K:W.Frag) (x qual:Str) (st:Stmt) (f:Addr) (fd:FuncData):Prop where
 ex:∃(oc:Value) (od:Option Addr) (kV doc pm:Value) (an:Option Addr) (cdv ct:Value) (osl:Array (Option Value)),
  fd=W.fnOf x qual (c0' st) (aj' st) (ac' st) .none kV doc pm an cdv ct/\K.lookup f=some ⟨oc,od,.func fd,osl⟩/\W.codeIn K cdv qual=true
 kp:W.keepIn K (.ref f)=true
section
variable {P:Program} {w:World} {K:W.Frag} {mg:Str->Option Value} {base:Heap}
theorem Fun.binds {x qual:Str} {st:Stmt} {f:Addr} {fd:FuncData} {ps:List Str} (F:Fun K x qual st f fd)
  (h:∀(kV doc pm:Value) (an:Option Addr) (cdv ct:Value) (us:List Value),us.length=ps.length->bindArgs (W.fnOf x qual (c0' st) (aj' st) (ac' st) .none kV doc pm an cdv ct) ⟨us,[]⟩=pure (ps.zip us)):ek' K fd ps []:=by
 obtain⟨oc,od,kV,doc,pm,an,cdv,ct,osl,rfl,lk,hcd⟩:=F.ex
 exact .all (h kV doc pm an cdv ct)
theorem rC' {x qual:Str} {st:Stmt} {f:Addr} {oc:Value} {od an:Option Addr} {osl:Array (Option Value)} {kV doc pm cdv ct:Value} (l:K.lookup f=some ⟨oc,od,.func (W.fnOf x qual (c0' st) (aj' st) (ac' st) .none kV doc pm an cdv ct),osl⟩)
  (c:W.codeIn K cdv qual=true) (k:W.keepIn K (.ref f)=true):Fun K x qual st f (W.fnOf x qual (c0' st) (aj' st) (ac' st) .none kV doc pm an cdv ct):=⟨⟨oc,od,kV,doc,pm,an,cdv,ct,osl,rfl,l,c⟩,k⟩
end
theorem ax' {n:Nat} (h:n<=1000):n<sizeLine:=cJ h (by decide)
section
variable {X:Cx}
theorem pv (i:Nat) {x:Str} {pos:Pos} (hN:X.N[i]?=some x:=by rfl) (hv:Vis X.env.scope x:=by first|exact Or.inl rfl|exact Or.inr (Or.inl rfl)|exact Or.inr (Or.inr rfl)) (hd:(x == ("__debug__":Str))=false:=by decide)
  (hcd:(x == ("__classdict__":Str))=false:=by decide):PE X (.Name x pos) (u1' i):=nv' hN hv hd hcd
end
def aH' (H H':Hp):Prop:=∀b o,H b=some o->H' b=some o
theorem aH'.refl (H:Hp):aH' H H:=fun _ _ h=>h
theorem aH'.trans {H H1 H2:Hp} (a:aH' H H1) (b:aH' H1 H2):aH' H H2:=fun c o h=>b c o (a c o h)
theorem aH'.free {H H':Hp} (e:aH' H H') {l:Addr} (h:H' l=Option.none):H l=Option.none:=by
 cases q:H l with
 |none=>rfl
 |some o=>
  rw[e l o q]at h
  cases h
theorem aH'.seq {K:W.Frag} {H H':Hp} {a:Addr} {xs:List V} (e:aH' H H') (h:SqL K H a xs):SqL K H' a xs:=by
 rcases h with(h|⟨o,h⟩)|h
 .exact .inl (.inl (e _ _ h))
 .exact .inl (.inr ⟨o,e _ _ h⟩)
 .exact .inr h
section
variable {κ:Type} [DecidableEq κ]
def ga' (kvs:List (κ×V)) (k:κ):Option V:=(kvs.find? fun kv=>decide (kv.1=k)).map (·.2)
def dn' (kvs:List (κ×V)) (k:κ) (v:V):List (κ×V):=
 if(kvs.any fun kv=>decide (kv.1=k))=true then kvs.map (fun kv=>if kv.1=k then(kv.1,v)else kv)else kvs++[(k,v)]
theorem dp' {p:κ×V} {r:List (κ×V)} {k:κ} (e:p.1=k):ga' (p :: r) k=some p.2:=by simp[ga',cu,e]
theorem cD' {p:κ×V} {r:List (κ×V)} {k:κ} (e:¬p.1=k):ga' (p :: r) k=ga' r k:=by simp[ga',cu,e]
theorem dq' (k:κ):∀kvs:List (κ×V),(kvs.any fun kv=>decide (kv.1=k))=(ga' kvs k).isSome
 | []=>rfl
 |p :: r=>by
  rw[cz]
  by_cases e:p.1=k
  .simp only[dp' e,decide_eq_true e,Bool.true_or,Option.isSome_some]
  .rw[cD' e,decide_eq_false e,Bool.false_or];exact dq' k r
theorem dE' (kvs:List (κ×V)) (k:κ) (v:V):(dn' kvs k v).length<=kvs.length+1:=by
 unfold dn'
 split
 .rw[ah];omega
 .rw[aD,bo,List.length_nil];omega
theorem lF' {kvs:List (κ×V)} {k:κ} (v:V) (h:ga' kvs k=none):dn' kvs k v=kvs++[(k,v)]:=by
 unfold dn'
 rw[dq',h]
 exact if_neg (by decide)
theorem lf'.isSome_eq {o:Option V} {u:Option Value} (r:lf' o u):o.isSome=u.isSome:=by
 cases o with
 |none=>cases u with
  |none=>rfl
  |some _=>exact(show False from r).elim
 |some _=>cases u with
  |none=>exact(show False from r).elim
  |some _=>rfl
theorem lf'.getD {o:Option V} {u:Option Value} {d:V} {d':Value} (r:lf' o u) (rd:av' d d'):av' (o.getD d) (u.getD d'):=by
 cases o with
 |none=>cases u with
  |none=>exact rd
  |some _=>exact(show False from r).elim
 |some _=>cases u with
  |none=>exact(show False from r).elim
  |some _=>exact r
theorem KV.val {kvs:List (κ×V)} {vs:List (κ×Value)} (r:KV kvs vs) (k:κ):lf' (ga' kvs k) (valueAt vs k):=by
 unfold KV at r
 induction r with
 |nil=>exact True.intro
 | @cons p q ps qs h t ih=>
  obtain⟨h1,h2⟩:=h
  by_cases e:p.1=k
  .have e':q.1=k:=h1.symm.trans e
   have b:valueAt (q :: qs) k=some q.2:=by simp[valueAt,cu,e']
   rw[dp' e,b];exact h2
  .have e':¬q.1=k:=fun z=>e (h1.trans z)
   have b:valueAt (q :: qs) k=valueAt qs k:=by simp[valueAt,cu,e']
   rw[cD' e,b];exact ih
theorem KV.any {kvs:List (κ×V)} {vs:List (κ×Value)} (r:KV kvs vs) (k:κ):(kvs.any fun kv=>decide (kv.1=k))=vs.any fun kv=>decide (kv.1=k):=by
 unfold KV at r
 induction r with
 |nil=>rfl
 |cons h t ih=>rw[cz,cz,ih,h.1]
theorem KV.repl {kvs:List (κ×V)} {vs:List (κ×Value)} (r:KV kvs vs) (k:κ) {y:V} {u:Value} (ry:av' y u):
  KV (kvs.map fun kv=>if kv.1=k then(kv.1,y)else kv) (vs.map fun kv=>if kv.1=k then(kv.1,u)else kv):=by
 unfold KV at r ⊢
 induction r with
 |nil=>exact .nil
 | @cons p q ps qs h t ih=>
  rw[aQ,aQ]
  refine .cons ?_ ih
  obtain⟨h1,h2⟩:=h
  by_cases e:p.1=k
  .rw[if_pos e,if_pos (h1.symm.trans e)];exact⟨h1,ry⟩
  .rw[if_neg e,if_neg (fun z=>e (h1.trans z))];exact⟨h1,h2⟩
theorem KV.put {kvs:List (κ×V)} {vs:List (κ×Value)} (r:KV kvs vs) (k:κ) {y:V} {u:Value} (ry:av' y u):KV (dn' kvs k y) (stored vs k u):=by
 unfold dn' stored
 rw[r.any k]
 by_cases e:(vs.any fun kv=>decide (kv.1=k))=true
 .rw[if_pos e,if_pos e];exact r.repl k ry
 .rw[if_neg e,if_neg e];exact Paired.snoc r ⟨rfl,ry⟩
theorem KV.keys {kvs:List (κ×V)} {vs:List (κ×Value)} (r:KV kvs vs):kvs.map (·.1)=vs.map (·.1):=by
 unfold KV at r
 induction r with
 |nil=>rfl
 |cons h t ih=>rw[aQ,aQ,ih,h.1]
theorem KV.length {kvs:List (κ×V)} {vs:List (κ×Value)} (r:KV kvs vs):kvs.length=vs.length:=Paired.length r
end
theorem lG' {P:Program} {w:World} {k:Key} {u:Value} (r:av' (kV k) u):(al' P w).is k u=true:=by
 cases k with
 |inl i=>obtain⟨t,e⟩:=(show ∃t,u=Value.int i t from r);subst e;exact gd' P w i t
 |inr x=>obtain⟨t,e⟩:=(show ∃t,u=Value.str x t from r);subst e;exact ge' P w x t
 |non=>obtain rfl:u=Value.none:=r;rfl
theorem fA' {P:Program} {w:World}:∀{ks:List Key} {us:List Value},aA' (ks.map kV) us->ItemsAre (al' P w) ks us
 | [],_,r=>by rw[List.map_nil]at r;cases r;exact .nil
 |k :: ks,_,r=>by
  rw[aQ]at r
  cases r with
  |cons h t=>exact .cons (lG' h) (fA' t)
abbrev KT (H:Hp):List (List Key×V)->List (List Key×Addr×Value)->Prop:=Paired fun p q=>p.1=q.1/\H q.2.1=some (.tup (p.1.map kV))/\av' p.2 q.2.2
theorem KT.val {H:Hp} {kvs:List (List Key×V)} {xs:List (List Key×Addr×Value)} (r:KT H kvs xs) (k:List Key):lf' (ga' kvs k) ((atKey xs k).map (·.2)):=by
 induction r with
 |nil=>exact True.intro
 | @cons p q ps qs h t ih=>
  obtain⟨h1,_,h2⟩:=h
  by_cases e:p.1=k
  .have e':q.1=k:=h1.symm.trans e
   have b:atKey (q :: qs) k=some q.2:=by simp[atKey,cu,e']
   rw[dp' e,b];exact h2
  .have e':¬q.1=k:=fun z=>e (h1.trans z)
   have b:atKey (q :: qs) k=atKey qs k:=by simp[atKey,cu,e']
   rw[cD' e,b];exact ih
theorem KT.repl {H:Hp} {kvs:List (List Key×V)} {xs:List (List Key×Addr×Value)} (r:KT H kvs xs) (k:List Key) {y:V} {u:Value} (ry:av' y u):
  KT H (kvs.map fun kv=>if kv.1=k then(kv.1,y)else kv) (xs.map (putAt k u)):=by
 induction r with
 |nil=>exact .nil
 | @cons p q ps qs h t ih=>
  rw[aQ,aQ]
  refine .cons ?_ ih
  obtain⟨h1,h2,h3⟩:=h
  unfold putAt
  by_cases e:p.1=k
  .rw[if_pos e,if_pos (h1.symm.trans e)];exact⟨h1,h2,ry⟩
  .rw[if_neg e,if_neg (fun z=>e (h1.trans z))];exact⟨h1,h2,h3⟩
theorem KT.put {H:Hp} {kvs:List (List Key×V)} {xs:List (List Key×Addr×Value)} (r:KT H kvs xs) (k:List Key) {b:Addr} {y:V} {u:Value} (hb:H b=some (.tup (k.map kV))) (ry:av' y u):
  KT H (dn' kvs k y) (storedH xs k b u):=by
 have e:(kvs.any fun kv=>decide (kv.1=k))=(atKey xs k).isSome:=by
  rw[dq',(r.val k).isSome_eq,Option.isSome_map]
 unfold dn' storedH
 rw[e]
 by_cases q:(atKey xs k).isSome=true
 .rw[if_pos q,if_pos q];exact r.repl k ry
 .rw[if_neg q,if_neg q];exact Paired.snoc r ⟨rfl,hb,ry⟩
theorem KT.keeps {H H':Hp} {kvs:List (List Key×V)} {xs:List (List Key×Addr×Value)} (r:KT H kvs xs) (ht:∀b ys,H b=some (.tup ys)->H' b=some (.tup ys)):KT H' kvs xs:=
 Paired.mapP r fun _ _ z=>⟨z.1,ht _ _ z.2.1,z.2.2⟩
section
variable {P:Program} {w:World} {H:Hp} {h:Heap} {a:Addr}
theorem rD' {u:HO} (ok:HOk P w H h) (e:Rd H a u):as' P w H h a u:=e.ok ok
theorem oN' {kvs:List (Key×V)} (ok:HOk P w H h) (e:Rd H a (.dK kvs)):kvs.length<=sizeLine/\(a == sysModules)=false/\∃vs,KV kvs vs/\h.DictOf (al' P w) a vs:=
 show as' P w H h a (.dK kvs) from rD' ok e
theorem rE' {kvs:List (Key×V)} (ok:HOk P w H h) (e:H a=some (.dK kvs)):kvs.length<=sizeLine/\(a == sysModules)=false/\∃vs,KV kvs vs/\h.DictOf (al' P w) a vs:=oN' ok (.inl e)
theorem b6' {ks:List Key} (ok:HOk P w H h) (e:H a=some (.tup (ks.map kV))):(tupleKind (al' P w)).is h ks a:=by
 obtain⟨_,its,r,o,h1,h2,⟨n,h3⟩,_⟩:=(show as' P w H h a (.tup (ks.map kV)) from ok a _ e)
 exact⟨o,its.toArray,n,h1,h2,h3,by simpa using fA' r⟩
theorem i7' {kvs:List (List Key×V)} (ok:HOk P w H h) (e:Rd H a (.dT kvs)):kvs.length<=sizeLine/\(a == sysModules)=false/\
  ∃xs,KT H kvs xs/\h.DictOfH (tupleKind (al' P w)) a xs:=by
 obtain⟨z,y,xs,r,o,es,ep,h1,h2,h3,h4,h5⟩:=(show as' P w H h a (.dT kvs) from rD' ok e)
 refine⟨z,y,xs,r,o,es,ep,h1,h2,h3,h4,fun x hx=>?_,h5⟩
 have all:∀{l:List (List Key×V)} {m:List (List Key×Addr×Value)},KT H l m->∀x∈m,(tupleKind (al' P w)).is h x.1 x.2.1:=by
  intro l m q
  induction q with
  |nil=>intro x hx;exact nomatch hx
  | @cons p q ps qs hq t ih=>
   intro x hx
   rcases am.mp hx with e|hx
   .subst e
    exact b6' ok (by rw[<- hq.1];exact hq.2.1)
   .exact ih x hx
 exact all r x hx
theorem rF' {kvs:List (List Key×V)} (ok:HOk P w H h) (e:H a=some (.dT kvs)):kvs.length<=sizeLine/\(a == sysModules)=false/\
  ∃xs,KT H kvs xs/\h.DictOfH (tupleKind (al' P w)) a xs:=i7' ok (.inl e)
end
def nH' (H:Hp) (a:Addr) (y:V) (r:Option V):Prop:=
 (∃kvs k,Rd H a (.dK kvs)/\y=kV k/\r=ga' kvs k)\/∃kvs k b,Rd H a (.dT kvs)/\y=.ref b/\H b=some (.tup (k.map kV))/\r=ga' kvs k
def oO' (H:Hp) (a:Addr) (y v:V) (H':Hp):Prop:=
 (∃kvs k,H a=some (.dK kvs)/\y=kV k/\kvs.length<sizeLine/\H'=upd H a (.dK (dn' kvs k v)))\/
 ∃kvs k b,H a=some (.dT kvs)/\y=.ref b/\H b=some (.tup (k.map kV))/\kvs.length<sizeLine/\H'=upd H a (.dT (dn' kvs k v))
theorem oO'.t {H:Hp} {a b:Addr} {kvs:List (List Key×V)} {k:List Key} {v:V} (e:H a=some (.dT kvs)) (eb:H b=some (.tup (k.map kV))) (hl:kvs.length<sizeLine):
  oO' H a (.ref b) v (upd H a (.dT (dn' kvs k v))):=.inr ⟨kvs,k,b,e,rfl,eb,hl,rfl⟩
section
variable {X:Cx} {pins:List (Addr×Obj)} {σ:St} {H:Hp} {s:Shared} {a:Addr} {y v:V} {u r:Value} {o:Option V} {A:Around} {E:Value->Shared->Prop}
theorem Inv.big (I:Inv X pins σ H s):sysModules<s.heap.objs.size:=by
 have h:mainGlobals<s.heap.objs.size:=(I.mod.glob.keeps I.bk).lt
 exact Nat.lt_trans (by decide) h
theorem yA' {Q:Value->Shared->Prop} (hu:A.units+1<cLine) (I:Inv X pins σ H s) (g:nH' H a y o) (ry:av' y u) (h:∀s',Inv X pins σ H s'->Q (.bool o.isSome) s'):
  wpAny (model X.prog X.w) A (compareOp .In u (.ref a)) Q E s:=by
 rcases g with⟨kvs,k,e,ey,l⟩|⟨kvs,k,b,e,ey,eb,l⟩
 .subst ey
  obtain⟨z,hd,vs,rel,dd⟩:=oN' I.hok e
  refine wpAny_in_of (lG' ry) hd dd.mapOf ?_
  rw[<- (rel.val k).isSome_eq,<- l]
  exact h _ (I.tok _)
 .subst ey
  cases(show u=Value.ref b from ry)
  obtain⟨z,hd,xs,rel,dd⟩:=i7' I.hok e
  refine wpAny_in_heap (tupleKind_room_in1 hu) (b6' I.hok eb) hd dd ?_
  have q:=(rel.val k).isSome_eq
  rw[Option.isSome_map]at q
  rw[<- q,<- l]
  exact h _ (I.tok _)
theorem oP' {Q:Value->Shared->Prop} (hu:A.units+1<cLine) (I:Inv X pins σ H s) (g:nH' H a y o) (ry:av' y u) (h:∀s',Inv X pins σ H s'->Q (.bool (!o.isSome)) s'):
  wpAny (model X.prog X.w) A (compareOp .NotIn u (.ref a)) Q E s:=by
 rcases g with⟨kvs,k,e,ey,l⟩|⟨kvs,k,b,e,ey,eb,l⟩
 .subst ey
  obtain⟨z,hd,vs,rel,dd⟩:=oN' I.hok e
  refine wpAny_notIn_of (lG' ry) hd dd.mapOf ?_
  rw[<- (rel.val k).isSome_eq,<- l]
  exact h _ (I.tok _)
 .subst ey
  cases(show u=Value.ref b from ry)
  obtain⟨z,hd,xs,rel,dd⟩:=i7' I.hok e
  refine wpAny_notIn_heap (tupleKind_room_in1 hu) (b6' I.hok eb) hd dd ?_
  have q:=(rel.val k).isSome_eq
  rw[Option.isSome_map]at q
  rw[<- q,<- l]
  exact h _ (I.tok _)
theorem dF' {h':Heap} {t':Nat} {ob:HO} (I:Inv X pins σ H s) (mu:Mut (H a)) (hs:br a s.heap h') (he:∃q,h'.get? a=some q) (new:as' X.prog X.w (upd H a ob) h' a ob):
  Inv X pins σ (upd H a ob) { s with heap:=h',toks:=t' }:=
 I.write (x:=a) (e:=a) mu (.inl rfl) (fun b q hb z=>(hs.2 b hb).trans z) he new
theorem rG' {P:Program} {w:World} {H':Hp} {h':Heap} {kvs:List (Key×V)} {vs:List (Key×Value)} (z:kvs.length<=sizeLine) (hd:(a == sysModules)=false) (rel:KV kvs vs) (dd:h'.DictOf (al' P w) a vs):
  as' P w H' h' a (.dK kvs):=⟨z,hd,vs,rel,dd⟩
theorem i8' {H':Hp} {Q:Unit->Shared->Prop} (hu:A.units+1<cLine) (I:Inv X pins σ H s) (g:oO' H a y v H') (ry:av' y u) (rv:av' v r) (h:∀s',Inv X pins σ H' s'->Q () s'):
  wpAny (model X.prog X.w) A (setItem (.ref a) u r) Q E s:=by
 rcases g with⟨kvs,k,e,ey,l,eH⟩|⟨kvs,k,b,e,ey,eb,l,eH⟩
 .subst ey eH
  obtain⟨z,hd,vs,rel,dd⟩:=rE' I.hok e
  have hz:vs.length<=sizeLine:=by rw[<- rel.length];exact z
  have hl:(dn' kvs k v).length<=sizeLine:=by have:=dE' kvs k v;omega
  refine wpAny_setItem_pairs (hsz:=hz) (lG' ry) dd fun h' dd' hs=>h _ ?_
  have he:∃q,h'.get? a=some q:=let⟨q,_,_,hq,_⟩:=dd';⟨q,hq⟩
  exact dF' I (by rw[e];exact True.intro) hs he (rG' hl hd (rel.put k rv) dd')
 .subst ey eH
  cases(show u=Value.ref b from ry)
  obtain⟨z,hd,xs,rel,dd⟩:=rF' I.hok e
  have hz:xs.length<=sizeLine:=by rw[<- Paired.length rel];exact z
  have hl:(dn' kvs k v).length<=sizeLine:=by have:=dE' kvs k v;omega
  refine wpAny_setItem_heap (hsz:=hz) (tupleKind_room_in1 hu) (b6' I.hok eb) dd fun h' dd' hs=>h _ ?_
  obtain⟨q,es,ep,hq,h2,h3,h4,_,h5⟩:=dd'
  refine dF' I (by rw[e];exact True.intro) hs ⟨q,hq⟩ ⟨hl,hd,_,(rel.put k eb rv).keeps fun c ys ec=>?_,q,es,ep,hq,h2,h3,h4,h5⟩
  rw[ad' (vj' ec e (fun z=>nomatch z))]
  exact ec
end
section
variable {X:Cx} {pins:List (Addr×Obj)} {σ:St} {H:Hp} {s:Shared} {a:Addr} {kvs:List (Key×V)} {k:Key} {u:Value} {A:Around} {E:Value->Shared->Prop}
end
section
variable {X:Cx} {o i e value:Expr} {pos pos' tpos:Pos} {td ty tv:TE}
end
theorem lH' {P:Program} {w:World} {H:Hp} (h:Heap) (hb:sysModules<h.objs.size):as' P w H (h.push { cls:=.type "dict",data:=.dict #[] }) h.objs.size (.dT []):=
 ⟨aT _,beq_eq_false_iff_ne.mpr (Ne.symm (ay hb)),[],.nil,_,#[],0,ai _ rfl,⟨rfl,rfl,rfl⟩,rfl,rfl,List.nodup_nil⟩
section
variable {X:Cx} {pos:Pos}
end
def nI':List (TE×TE)->St->Hp->(List (V×V)->Hp->Prop)->Prop
 | [],_,H,Q=>Q [] H
 |(tk,tv) :: r,σ,H,Q=>tk σ H fun x H1=>tv σ H1 fun y H2=>nI' r σ H2 fun ps H3=>Q ((x,y) :: ps) H3
abbrev VV:List (V×V)->List (Value×Value)->Prop:=Paired fun p q=>av' p.1 q.1/\av' p.2 q.2
def PPs (X:Cx) (pos:Pos) (keys:List (Option Expr)) (values:List Expr) (trs:List (TE×TE)):Prop:=
 ∀(pins:List (Addr×Obj)) (s:Shared) (σ:St) (H:Hp) (Q:List (V×V)->Hp->Prop),Inv X pins σ H s->nI' trs σ H Q->
  wpAny (model X.prog X.w) X.A (evalPairs (pairTrees keys values X.env pos)) (fun vs s'=>∃ps H',Inv X pins σ H' s'/\VV ps vs/\Q ps H') X.xe s
theorem oQ' {X:Cx} {pos:Pos}:PPs X pos [] [] []:=fun pins s σ H Q I h=>pairTrees_nil_walk ⟨[],H,I,.nil,h⟩
theorem lI' {X:Cx} {pos:Pos} {k v:Expr} {ks:List (Option Expr)} {vs:List Expr} {tk tv:TE} {trs:List (TE×TE)} (hk:PE X k tk) (hv:PE X v tv) (hr:PPs X pos ks vs trs):
  PPs X pos (some k :: ks) (v :: vs) ((tk,tv) :: trs):=fun pins s σ H Q I h=>
 pairTrees_cons_walk (thn (hk pins s σ H _ I h) fun u s1 ⟨x,H1,I1,rx,q1⟩=>thn (hv pins s1 σ H1 _ I1 q1) fun w2 s2 ⟨y,H2,I2,ry,q2⟩=>
  thn (hr pins s2 σ H2 _ I2 q2) fun ws s3 ⟨ps,H3,I3,rel,q3⟩=>⟨(x,y) :: ps,H3,I3,.cons ⟨rx,ry⟩ rel,q3⟩)
def rH' (kvs more:List (Key×V)):List (Key×V):=more.foldl (fun acc kv=>dn' acc kv.1 kv.2) kvs
theorem KV.merge:∀{more:List (Key×V)} {rs:List (Key×Value)} {kvs:List (Key×V)} {vs:List (Key×Value)},KV more rs->KV kvs vs->KV (rH' kvs more) (merged vs rs):=by
 intro more rs kvs vs r
 unfold KV at r
 induction r generalizing kvs vs with
 |nil=>intro q;exact q
 | @cons p q ps qs h t ih=>
  intro r0
  have e:KV (dn' kvs p.1 p.2) (stored vs q.1 q.2):=by
   have:=r0.put p.1 h.2
   rw[<- h.1];exact this
  exact ih e
structure M1 (X:Cx) (o:Expr) (m:Str) (apos:Pos) (e:Expr) (cpos:Pos):Prop where
 base:attributeBase o m X.env (eval o X.env)=eval o X.env
 few:((backTo cpos (starEach [e] X.env)).all (fun x=>!x.1)&&(backToKw cpos (keywordEach [] X.env)).all (fun x=>x.1.isSome)
  && decide (([e]:List Expr).length+([]:List Keyword).length+(if([]:List Keyword).isEmpty then 0 else 1)<30))=true
 line:(apos.endLine == cpos.line)=true
 trees:backTo cpos (starEach [e] X.env)=[(false,eval e X.env)]
structure M2 (X:Cx) (o:Expr) (m:Str) (apos:Pos) (e f:Expr) (cpos:Pos):Prop where
 base:attributeBase o m X.env (eval o X.env)=eval o X.env
 few:((backTo cpos (starEach [e,f] X.env)).all (fun x=>!x.1)&&(backToKw cpos (keywordEach [] X.env)).all (fun x=>x.1.isSome)
  && decide (([e,f]:List Expr).length+([]:List Keyword).length+(if([]:List Keyword).isEmpty then 0 else 1)<30))=true
 line:(apos.endLine == cpos.line)=true
 trees:backTo cpos (starEach [e,f] X.env)=[(false,eval e X.env),(false,eval f X.env)]
section
variable {X:Cx} {pins:List (Addr×Obj)} {σ:St} {H:Hp} {s:Shared} {a:Addr} {y d:V} {u r:Value} {o:Option V} {A:Around} {E:Value->Shared->Prop}
end
section
variable {X:Cx} {o e f:Expr} {apos cpos:Pos} {td ty tx:TE}
end
section
variable {X:Cx} {pins:List (Addr×Obj)} {σ:St} {H:Hp} {s:Shared} {a:Addr} {kvs:List (Key×V)} {A:Around} {E:Value->Shared->Prop}
end
section
variable {X:Cx} {pins:List (Addr×Obj)} {σ:St} {H:Hp} {s:Shared} {a:Addr} {y:V} {u:Value} {A:Around} {E:Value->Shared->Prop}
end
section
variable {X:Cx}
end
section
variable {κ:Type} [DecidableEq κ]
end
section
variable {X:Cx} {a b:Expr} {aw':List Expr} {pos:Pos} {ta tb:TE}
end
def bO' (cells:List (Str×Addr)):List (Str×NameKind)->List (Str×Addr)->List (Str×Addr)
 | [],acc=>acc
 |(n,k) :: r,acc=>if k == .free then bO' cells r ((n,(cells.lookup n).getD 0) :: acc)else bO' cells r acc
def fB' (env:Env) (x:Str×NameKind) (r:List (Str×Addr)):Sem (ForInStep (List (Str×Addr))):=
 match x with|(name,kind)=>if(kind == .free)=true then(do let a <- cellOf env name;pure (ForInStep.yield ((name,a) :: r)))else pure (ForInStep.yield r)
theorem rI' {env:Env}:∀(names:List (Str×NameKind)) (acc:List (Str×Addr)),(∀n,(n,NameKind.free)∈names->∃c,env.cells.lookup n=some c)->
   forIn names acc (fB' env)=(pure (bO' env.cells names acc):Sem _):=by
  intro names
  induction names with
  |nil=>intro acc _;rfl
  |cons x r ih=>
   intro acc hh
   obtain⟨n,k⟩:=x
   rw[cN]
   have hr:=fun m hm=>hh m (ao _ hm)
   by_cases hk:k=.free
   .subst hk
    obtain⟨c,hc⟩:=hh n au
    have e1:cellOf env n=(pure c:Sem Addr):=by unfold cellOf;rw[hc]
    have e2:fB' env (n,NameKind.free) acc=pure (ForInStep.yield ((n,c) :: acc)):=by
     unfold fB'
     dsimp only
     rw[if_pos (by rfl),e1]
     rfl
    rw[e2]
    have e3:=ih ((n,c) :: acc) hr
    have e4:bO' env.cells ((n,NameKind.free) :: r) acc=bO' env.cells r ((n,c) :: acc):=by
     show(if(NameKind.free == NameKind.free)=true then _ else _)=_
     rw[if_pos (by rfl),hc]
     rfl
    rw[e4,<- e3]
    rfl
   .have hb:(k == NameKind.free)=false:=by simpa using hk
    have e2:fB' env (n,k) acc=pure (ForInStep.yield acc):=by
     unfold fB'
     dsimp only
     rw[if_neg (by rw[hb];exact al)]
    rw[e2]
    have e4:bO' env.cells ((n,k) :: r) acc=bO' env.cells r acc:=by
     show(if(k == NameKind.free)=true then _ else _)=_
     rw[if_neg (by rw[hb];exact al)]
    rw[e4,<- ih acc hr]
    rfl
theorem i9' {env:Env} {scope:Scope} (h:∀n,(n,NameKind.free)∈scope.names->∃c,env.cells.lookup n=some c):closureFor scope env=pure (bO' env.cells scope.names []):=by
 have e:=rI' (env:=env) scope.names [] h
 unfold closureFor
 have q:∀f:Str×NameKind->List (Str×Addr)->Sem (ForInStep (List (Str×Addr))),(∀x r,f x r=fB' env x r)->(forIn scope.names ([]:List (Str×Addr)) f >>= fun r=>pure r)=(pure (bO' env.cells scope.names []):Sem _):=by
  intro f hf
  have:f=fB' env:=funext fun x=>funext fun r=>hf x r
  rw[this,e]
  rfl
 refine q _ fun x r=>?_
 obtain⟨n,k⟩:=x
 unfold fB'
 first|done|(dsimp only;done)|(dsimp only;cases hk:k == NameKind.free<;>simp[hk])
set_option tactic.hygienic true in
theorem dG' {cells:List (Str×Addr)}:∀{names:List (Str×NameKind)} {acc:List (Str×Addr)} {n:Str} {c:Addr},(n,c)∈bO' cells names acc->(n,c)∈acc\/((n,NameKind.free)∈names/\c=(cells.lookup n).getD 0)
 | [],_,_,_,h=>.inl h
 |(m,k) :: r,acc,n,c,h=>by
  unfold bO' at h
  split at h
  .rename_i hk
   have hk':k=.free:=by simpa using hk
   subst hk'
   rcases dG' h with q|⟨q,e⟩
   .rcases am.mp q with q|q
    .cases q;exact .inr ⟨au,rfl⟩
    .exact .inl q
   .exact .inr ⟨ao _ q,e⟩
  .rcases dG' h with q|⟨q,e⟩
   .exact .inl q
   .exact .inr ⟨ao _ q,e⟩
set_option tactic.hygienic true in
theorem dH' {cells:List (Str×Addr)}:∀{names:List (Str×NameKind)} {acc:List (Str×Addr)} {n:Str},((n,NameKind.free)∈names\/∃c,(n,c)∈acc)->∃c,(n,c)∈bO' cells names acc
 | [],_,_,h=>by
  rcases h with h|h
  .simp at h
  .exact h
 |(m,k) :: r,acc,n,h=>by
  unfold bO'
  split
  .rename_i hk
   refine dH' ?_
   rcases h with h|⟨c,h⟩
   .rcases am.mp h with h|h
    .cases h;exact .inr ⟨_,au⟩
    .exact .inl h
   .exact .inr ⟨c,ao _ h⟩
  .rename_i hk
   refine dH' ?_
   rcases h with h|h
   .rcases am.mp h with h|h
    .cases h;exact absurd rfl hk
    .exact .inl h
   .exact .inr h
theorem aE':∀(names:List (Str×NameKind)) (n:Nat) (acc:List (Str×Addr)),cellsFrom n names acc=cellsFrom n names []++acc
 | [],_,_=>rfl
 |(x,k) :: r,n,acc=>by
  unfold cellsFrom
  split
  .rw[aE' r (n+1) ((x,n) :: acc),aE' r (n+1) [(x,n)],bW]
   rfl
  .exact aE' r n acc
theorem bB' {α:Type}:∀{l:List (Str×α)} {n:Str} {c:α},(n,c)∈l->∃c',l.lookup n=some c'
 |(k,v) :: r,n,c,h=>by
  rw[bp]
  cases hb:n == k with
  |true=>exact⟨v,rfl⟩
  |false=>
   rcases am.mp h with e|h
   .cases e;simp at hb
   .exact bB' h
theorem bI' {env:Env}:∀{names:List (Str×NameKind)} {x:Str} {k':NameKind},
  (names.map fun(n,k)=>if(k == NameKind.free&&env.scope.kind == .function&&env.kindOf n == some .cell)then(n,NameKind.cell)else(n,k)).lookup x=some k'->∃k,names.lookup x=some k/\(k'=k\/(k=.free/\k'=.cell))
 | [],_,_,h=>by simp at h
 |(n,k) :: r,x,k',h=>by
  have ih:=@bI' env r x k'
  rw[aQ]at h
  by_cases hc:(k == NameKind.free&&env.scope.kind == .function&&env.kindOf n == some .cell)=true
  .have e1:(match ((n,k):Str×NameKind)with|(n,k)=>if(k == NameKind.free&&env.scope.kind == .function&&env.kindOf n == some .cell)=true then(n,NameKind.cell)else(n,k))=(n,NameKind.cell):=if_pos hc
   rw[e1,bp]at h
   rw[bp]
   cases hx:x == n with
   |true=>
    rw[hx]at h
    cases h
    refine⟨k,rfl,.inr ⟨?_,rfl⟩⟩
    simp only[af]at hc
    exact beq_iff_eq.mp hc.1.1
   |false=>rw[hx]at h;exact ih h
  .have e1:(match ((n,k):Str×NameKind)with|(n,k)=>if(k == NameKind.free&&env.scope.kind == .function&&env.kindOf n == some .cell)=true then(n,NameKind.cell)else(n,k))=(n,k):=if_neg hc
   rw[e1,bp]at h
   rw[bp]
   cases hx:x == n with
   |true=>rw[hx]at h;cases h;exact⟨k,rfl,.inl rfl⟩
   |false=>rw[hx]at h;exact ih h
theorem a2' {env:Env}:∀{names:List (Str×NameKind)} {x:Str} {k:NameKind},names.lookup x=some k ->
  ∃k',(names.map fun(n,k)=>if(k == NameKind.free&&env.scope.kind == .function&&env.kindOf n == some .cell)then(n,NameKind.cell)else(n,k)).lookup x=some k'/\(k'=k\/(k=.free/\k'=.cell))
 | [],_,_,h=>by simp at h
 |(n,k0) :: r,x,k,h=>by
  have ih:=@a2' env r x k
  rw[aQ]
  by_cases hc:(k0 == NameKind.free&&env.scope.kind == .function&&env.kindOf n == some .cell)=true
  .have e1:(match ((n,k0):Str×NameKind)with|(n,k)=>if(k == NameKind.free&&env.scope.kind == .function&&env.kindOf n == some .cell)=true then(n,NameKind.cell)else(n,k))=(n,NameKind.cell):=if_pos hc
   rw[e1,bp]
   rw[bp]at h
   cases hx:x == n with
   |true=>
    rw[hx]at h
    cases h
    refine⟨_,rfl,.inr ⟨?_,rfl⟩⟩
    simp only[af]at hc
    exact beq_iff_eq.mp hc.1.1
   |false=>rw[hx]at h;exact ih h
  .have e1:(match ((n,k0):Str×NameKind)with|(n,k)=>if(k == NameKind.free&&env.scope.kind == .function&&env.kindOf n == some .cell)=true then(n,NameKind.cell)else(n,k))=(n,k0):=if_neg hc
   rw[e1,bp]
   rw[bp]at h
   cases hx:x == n with
   |true=>rw[hx]at h;cases h;exact⟨_,rfl,.inl rfl⟩
   |false=>rw[hx]at h;exact ih h
section
variable {M:Model} {A:Around} {E:Value->Shared->Prop} {s:Shared}
abbrev aX' (h:Heap) (names:List (Str×NameKind)):Heap:=pushCells (h.push { cls:=.type "dict",data:=.dict #[] }) names
theorem cE' {scope:Scope} {globals:Addr} {cl:List (Str×Addr)} {qual:Str} {env:Env} {Q:Env->Shared->Prop}
  (h:Q (newEnv scope s.heap.objs.size globals (cellsFrom (s.heap.objs.size+1) scope.names cl) qual none .none (some env) builtinsNs) { s with heap:=aX' s.heap scope.names }):
  wpAny M A (newFunctionEnv scope globals cl [] qual none .none (some env)) Q E s:=by
 simp only[newFunctionEnv,Option.isSome_some,if_true]
 refine aa (wpAny_alloc ?_)
 refine aa (wpAny_layCells _ (fun name kind cells=>by cases hkc:kind == NameKind.cell<;>simp[hkc]) _ _ _ _ ?_)
 rw[show({ s with heap:=s.heap.push { cls:=.type "dict",data:=.dict #[] } }:Shared).heap.objs.size=s.heap.objs.size+1 from aS ..]
 exact aa (ab (ab h))
end
def Cx.comp (X:Cx) (scope:Scope) (s₀:Shared) (H₀:Hp) (ex:List Addr):Cx:=
 { X with
  s₀:=s₀,H₀:=H₀
  env:={ newEnv scope s₀.heap.objs.size X.env.globals (cellsFrom (s₀.heap.objs.size+1) scope.names (bO' X.env.cells scope.names [])) X.env.qual none .none (some X.env) builtinsNs with scope:=relabel scope X.env }
  outer:=X.stack,ex:=ex,fn:=fun x=>((cellsFrom (s₀.heap.objs.size+1) scope.names []).lookup x).isSome,pn:=[],xe:=fun _ _=>False }
structure CompSc (X:Cx) (scope:Scope):Prop where
 kind:scope.kind=.function
 names:∀x∈scope.names,x.2=.local->scope.names.lookup x.1=some .local
 one:∀n,(n,NameKind.cell)∈scope.names->scope.names.lookup n=some .cell
 free:∀n,(n,NameKind.free)∈scope.names->X.env.kindOf n=some .cell\/X.env.kindOf n=some .free
set_option tactic.hygienic true in
theorem bQ':∀{names:List (Str×NameKind)} {n:Nat} {x:Str} {c:Addr},(x,c)∈cellsFrom n names []->(x,NameKind.cell)∈names
 | [],_,_,_,h=>by simp[cellsFrom]at h
 |(y,k) :: r,n,x,c,h=>by
  unfold cellsFrom at h
  split at h
  .rename_i hk
   have hk':k=.cell:=by simpa using hk
   subst hk'
   rw[aE']at h
   rcases aw.mp h with h|h
   .exact ao _ (bQ' h)
   .have h':(x,c)=(y,n):=by simpa using h
    cases h'
    exact au
  .exact ao _ (bQ' h)
def clr (own:List Nat) (σ:St):St:=own.foldl (fun σ i=>σ.set i none) σ
theorem dI':∀(own:List Nat) (σ:St),(clr own σ).length=σ.length
 | [],_=>rfl
 |i :: r,σ=>by
  show(clr r (σ.set i none)).length=_
  rw[dI' r,List.length_set]
theorem dJ':∀{own:List Nat} {σ:St} {i:Nat} {v:V},(clr own σ)[i]?=some (some v)->σ[i]?=some (some v)/\i∉own
 | [],_,_,_,h=>⟨h,by simp⟩
 |j :: r,σ,i,v,h=>by
  obtain⟨h1,h2⟩:=dJ' (own:=r) (σ:=σ.set j none) h
  by_cases e:j=i
  .subst e
   rw[List.getElem?_set]at h1
   simp at h1
  .rw[bP e]at h1
   exact⟨h1,by simp;exact⟨fun z=>e z.symm,h2⟩⟩
theorem gm':∀{own:List Nat} {σ:St} {i:Nat},i∉own->(clr own σ)[i]?=σ[i]?
 | [],_,_,_=>rfl
 |j :: r,σ,i,h=>by
  have h1:i≠j:=fun z=>h (by simp[z])
  have h2:i∉r:=fun z=>h (by simp[z])
  show(clr r (σ.set j none))[i]?=_
  rw[gm' h2,bP (Ne.symm h1)]
section
variable {X:Cx} {pins:List (Addr×Obj)} {σ:St} {H H':Hp} {s s':Shared} {scope:Scope} {ex:List Addr} {own:List Nat}
theorem h8' (I:Inv X pins σ H s) (S:CompSc X scope):
  (∀x c,(bO' X.env.cells scope.names []).lookup x=some c->X.env.cells.lookup x=some c)/\
  (∀x,(x,NameKind.free)∈scope.names->∃c,(bO' X.env.cells scope.names []).lookup x=some c)/\
  CellsOk (aX' s.heap scope.names) (s.heap.objs.size+1) (cellsFrom (s.heap.objs.size+1) scope.names []):=by
 have hc:∀x c,(x,c)∈bO' X.env.cells scope.names []->X.env.cells.lookup x=some c:=fun x c h=>by
  rcases dG' h with z|⟨z,e⟩
  .simp at z
  .obtain⟨c',e'⟩:=I.ok.has x (S.free x z)
   rw[e',Option.getD_some]at e
   rw[e',e]
 refine⟨fun x c h=>hc x c (PySem.mem_of_lookup h),fun x h=>?_,?_⟩
 .obtain⟨c,q⟩:=dH' (cells:=X.env.cells) (acc:=[]) (.inl h)
  exact bB' q
 .have q:=cellsFrom_ok scope.names (s.heap.push { cls:=.type "dict",data:=.dict #[] }) (s.heap.objs.size+1) [] ⟨fun _ _ hm=>(nomatch hm),List.Pairwise.nil⟩ (by rw[aS];exact ag _)
  rw[aS]at q
  exact q
theorem eF' (I:Inv X pins σ H s) (hex:∀b∈ex,cX' X pins H b) (hlt:∀b∈ex,b<s.heap.objs.size) (S:CompSc X scope)
  (hown:∀i x,X.N[i]?=some x->(scope.names.lookup x=some .local\/scope.names.lookup x=some .cell)->i∈own):
  Inv (X.comp scope s H ex) [] (clr own σ) H { s with heap:=aX' s.heap scope.names }:=by
 obtain⟨hcl,hcf,ok⟩:=h8' I S
 have lk:∀x c,(X.comp scope s H ex).env.cells.lookup x=some c->(cellsFrom (s.heap.objs.size+1) scope.names []).lookup x=some c\/((cellsFrom (s.heap.objs.size+1) scope.names []).lookup x=none/\X.env.cells.lookup x=some c):=fun x c h=>by
  have h':(cellsFrom (s.heap.objs.size+1) scope.names (bO' X.env.cells scope.names [])).lookup x=some c:=h
  rw[aE',List.lookup_append]at h'
  cases q:(cellsFrom (s.heap.objs.size+1) scope.names []).lookup x with
  |some d=>rw[q]at h';exact .inl h'
  |none=>rw[q]at h';exact .inr ⟨rfl,hcl x c h'⟩
 have newC:∀x c,(cellsFrom (s.heap.objs.size+1) scope.names []).lookup x=some c->(aX' s.heap scope.names).IsCell c none/\s.heap.objs.size+1<=c:=fun x c h=>ok.empty x c (PySem.mem_of_lookup h)
 have oldC:∀x c,X.env.cells.lookup x=some c->c<s.heap.objs.size:=fun x c h=>let⟨_,q⟩:=I.cell x c h;q.lt
 have keep:∀b o,s.heap.get? b=some o->(aX' s.heap scope.names).get? b=some o:=fun b o e=>pushCells_keeps _ _ b o (ac _ e)
 have fresh:∀b,s.heap.objs.size<=b->H b=none:=fun b hb=>I.hok.fresh hb
 have loc0:(X.comp scope s H ex).env.locals=s.heap.objs.size:=rfl
 refine⟨⟨I.ok.mod,S.kind,I.ok.glob,?_,ag _,fun x y c h1 h2=>?_,fun x hx=>?_,fun x c hf h=>?_,I.ok.hd,I.ok.frames,.inl rfl,fun b hb=>?_,I.bs,aG I.ok.bsz I.sz,fun b o e hb=>?_,fun b hb=>?_,I.stack,I.stkFree⟩,
  rfl,I.bare,Un.kept keep,⟨fun _=>none,?_,fun i x v h1 h2 h3=>?_⟩,fun x c h=>?_,fresh _ (ag _),fun x c h=>?_,fun p hp=>absurd (show p∈([]:List (Addr×Obj)) from hp) (by simp),I.hok.kept keep,?_⟩
 .show X.env.builtins=_
  exact I.ok.blt
 .rcases lk x c h1 with q1|⟨_,q1⟩<;>rcases lk y c h2 with q2|⟨_,q2⟩
  .exact name_of_addr ok.apart (PySem.mem_of_lookup q1) (PySem.mem_of_lookup q2)
  .exact absurd (ak (oldC y c q2) (aG (Nat.le_succ _) (newC x c q1).2)) (aV _)
  .exact absurd (ak (oldC x c q1) (aG (Nat.le_succ _) (newC y c q2).2)) (aV _)
  .exact I.ok.inj x y c q1 q2
 .have hx':(relabel scope X.env).names.lookup x=some .cell\/(relabel scope X.env).names.lookup x=some .free:=hx
  have fin:∀k,scope.names.lookup x=some k->(k=.cell\/k=.free)->∃c,(cellsFrom (s.heap.objs.size+1) scope.names (bO' X.env.cells scope.names [])).lookup x=some c:=fun k hk hkk=>by
   rw[aE',List.lookup_append]
   rcases hkk with rfl|rfl
   .obtain⟨c,q⟩:=eT' (n:=s.heap.objs.size+1) hk
    exact⟨c,by rw[q];rfl⟩
   .obtain⟨c,q⟩:=hcf x (PySem.mem_of_lookup hk)
    cases z:(cellsFrom (s.heap.objs.size+1) scope.names []).lookup x with
    |some d=>exact⟨d,rfl⟩
    |none=>exact⟨c,by rw[q];rfl⟩
  rcases hx' with hx'|hx'<;>obtain⟨k,hk,e⟩:=bI' hx'
  .rcases e with e|⟨e,_⟩
   .exact fin k hk (.inl e.symm)
   .exact fin k hk (.inr e)
  .rcases e with e|⟨e,_⟩
   .exact fin k hk (.inr e.symm)
   .exact fin k hk (.inr e)
 .rcases lk x c h with q|⟨q,_⟩
  .have:=(newC x c q).2
   show s.heap.objs.size<=c
   omega
  .have hf':((cellsFrom (s.heap.objs.size+1) scope.names []).lookup x).isSome=true:=hf
   rw[q]at hf'
   cases hf'
 .refine⟨?_,fun x c h=>?_⟩
  .show b≠s.heap.objs.size
   exact ay (hlt b hb)
  .rcases lk x c h with q|⟨_,q⟩
   .intro e
    rw[e]at q
    exact absurd (ak (hlt b hb) (aG (Nat.le_succ _) (newC x b q).2)) (aV _)
   .exact(hex b hb).2.2.2.2.1 x c q
 .rcases(hex b hb).2.2.2.1 with z|z
  .exact I.ok.noex b o e z
  .exact absurd (ak (ap e) (aG I.ok.bsz z)) (aV _)
 .intro z
  rcases am.mp (I.stkSub b z)with e|e
  .exact(hex b hb).2.1 e
  .exact(hex b hb).2.2.1 e
 .show(aX' s.heap scope.names).Ns s.heap.objs.size _
  exact(Heap.Ns.new s.heap (.type "dict")).keeps (pushCells_keeps _ _)
 .obtain⟨h2,hno⟩:=dJ' h2
  have h3':(relabel scope X.env).names.lookup x=some .local\/(relabel scope X.env).names.lookup x=some .cell\/(relabel scope X.env).names.lookup x=some .free:=h3
  have h3k:∃k',(relabel scope X.env).names.lookup x=some k'/\(k'=.local\/k'=.cell\/k'=.free):=by
   rcases h3' with z|z|z
   .exact⟨_,z,.inl rfl⟩
   .exact⟨_,z,.inr (.inl rfl)⟩
   .exact⟨_,z,.inr (.inr rfl)⟩
  obtain⟨k',hk',hkk⟩:=h3k
  obtain⟨k,hk,e⟩:=bI' hk'
  have hfree:k=.free:=by
   rcases e with e|⟨e,_⟩
   .subst e
    rcases hkk with z|z|z
    .subst z;exact absurd (hown i x h1 (.inl hk)) hno
    .subst z;exact absurd (hown i x h1 (.inr hk)) hno
    .exact z
   .exact e
  subst hfree
  have hm:=PySem.mem_of_lookup hk
  have hv:Vis X.env.scope x:=by
   rcases S.free x hm with z|z
   .exact .inr (.inl z)
   .exact .inr (.inr z)
  obtain⟨m,hn,hl⟩:=I.loc
  obtain⟨u,r,l⟩:=hl i x v h1 h2 hv
  refine⟨u,r,?_⟩
  have hkind:(X.comp scope s H ex).env.kindOf x=some .cell\/(X.comp scope s H ex).env.kindOf x=some .free:=by
   show(relabel scope X.env).names.lookup x=some .cell\/(relabel scope X.env).names.lookup x=some .free
   rcases e with e|⟨_,e⟩
   .subst e;exact .inr hk'
   .subst e;exact .inl hk'
  have hcc:∃c,X.env.cells.lookup x=some c/\s.heap.IsCell c (some u):=by
   rcases l with⟨kk,_⟩|⟨_,c,e1,e2⟩
   .rcases S.free x hm with z|z
    .rw[z]at kk;cases kk
    .rw[z]at kk;cases kk
   .exact⟨c,e1,e2⟩
  obtain⟨c,e1,e2⟩:=hcc
  refine .inr ⟨hkind,c,?_,e2.keeps keep⟩
  show(cellsFrom (s.heap.objs.size+1) scope.names (bO' X.env.cells scope.names [])).lookup x=some c
  rw[aE',List.lookup_append]
  have hnone:(cellsFrom (s.heap.objs.size+1) scope.names []).lookup x=none:=by
   cases z:(cellsFrom (s.heap.objs.size+1) scope.names []).lookup x with
   |none=>rfl
   |some d=>
    exfalso
    have q1:=S.one x (bQ' (PySem.mem_of_lookup z))
    rw[hk]at q1
    cases q1
  obtain⟨c',q⟩:=hcf x hm
  have q':=hcl x c' q
  rw[e1]at q'
  cases q'
  rw[hnone,q]
  rfl
 .rcases lk x c h with q|⟨_,q⟩
  .exact⟨_,(newC x c q).1⟩
  .obtain⟨v,z⟩:=I.cell x c q
   exact⟨v,z.keeps keep⟩
 .rcases lk x c h with q|⟨_,q⟩
  .have:=(newC x c q).2
   exact fresh c (by omega)
  .exact I.freeC x c q
 .rw[dI']
  exact I.len
end
section
variable {X:Cx} {pins:List (Addr×Obj)} {σ:St} {H H':Hp} {s s':Shared} {scope:Scope} {ex:List Addr} {own:List Nat}
theorem oR' {P:Program} {w:World} {h h':Heap} {a:Addr} (x:HOk P w H h) (hn:H a=none) (hs:∀b o,b≠a->h.get? b=some o->h'.get? b=some o):HOk P w H h':=fun b ob e=>
 (x b ob e).stay (fun c w' hc q=>hs c w' (by
  rintro rfl
  rcases hc with rfl|hc
  .rw[hn]at e;cases e
  .rw[hn]at hc;cases hc) q) (fun _ q=>q) fun _ _ q=>q
theorem dr' {σ':St} {pins':List (Addr×Obj)} {h':Heap} (I:Inv X pins σ H s) (hex:∀b∈ex,cX' X pins H b) (J:Inv (X.comp scope s H ex) pins' σ' H' s') (hs:br s.heap.objs.size s'.heap h'):
  Inv X pins σ H' { s' with heap:=h' }:=by
 have ne:∀b o,s.heap.get? b=some o->b≠s.heap.objs.size:=fun b o e=>ay (ap e)
 have u:Un (frs X.stack) ex H H' s.heap s'.heap:=J.base
 have hf:H' s.heap.objs.size=none:=J.free
 refine I.call' (s':={ s' with heap:=h' }) (ch:=ex) J.os ⟨fun b o e n hb hx=>?_,fun b o e n hb hx=>?_,u.free,fun b o e hx=>?_,u.tups,u.frzs,u.tbls⟩ (oR' J.hok hf fun b o hb e=>(hs.2 b hb).trans e) J.bare fun b hb=>?_
 .exact(hs.2 b (ne b o e)).trans (u.keep b o e n hb hx)
 .obtain⟨sl,q⟩:=u.slot b o e n hb hx
  exact⟨sl,(hs.2 b (ne b o e)).trans q⟩
 .obtain⟨o',q⟩:=u.there b o e hx
  exact⟨o',(hs.2 b (ne b o e)).trans q⟩
 .obtain⟨f0,f1,f2,f3,f4,f5⟩:=hex b hb
  exact⟨f3,f1,f4,f5⟩
end
def PTs (X:Cx) (ifs:List Expr) (t:TT):Prop:=∀(pins:List (Addr×Obj)) (s:Shared) (σ:St) (H:Hp) (Q:Bool->Hp->Prop),Inv X pins σ H s->t σ H Q->
 wpAny (model X.prog X.w) X.A (forIn ifs true fun c r=>if r=true then do let ok <- isTrue c X.env (eval c X.env);pure (ForInStep.yield ok)else pure (ForInStep.yield r)) (TP X pins σ Q) X.xe s
theorem oS' {X:Cx}:PTs X [] (fun _ H Q=>Q true H):=fun pins s σ H Q I h=>wpAny_tests_nil ⟨H,I,h⟩
theorem oT' {X:Cx} {c:Expr} {t:TT} (hc:PT X c t):PTs X [c] t:=fun pins s σ H Q I h=>wpAny_tests_one (hc pins s σ H Q I h)
def Ext (ws:List Nat) (σ σ':St):Prop:=σ'.length=σ.length/\∀j,j∉ws->σ'[j]?=σ[j]?
theorem Ext.refl {ws:List Nat} {σ:St}:Ext ws σ σ:=⟨rfl,fun _ _=>rfl⟩
theorem Ext.trans {ws:List Nat} {σ σ1 σ2:St} (a:Ext ws σ σ1) (b:Ext ws σ1 σ2):Ext ws σ σ2:=⟨b.1.trans a.1,fun j hj=>(b.2 j hj).trans (a.2 j hj)⟩
theorem Ext.mono {ws ws':List Nat} {σ σ1:St} (a:Ext ws σ σ1) (h:∀j∈ws,j∈ws'):Ext ws' σ σ1:=⟨a.1,fun j hj=>a.2 j fun z=>hj (h j z)⟩
theorem Ext.clr {ws:List Nat} {σ:St}:Ext ws σ (clr ws σ):=⟨dI' _ _,fun j hj=>gm' hj⟩
theorem Ext.back {ws:List Nat} {σ σ':St} (a:Ext ws (L2.clr ws σ) σ') (i:Nat) (v:V) (h:(L2.clr ws σ)[i]?=some (some v)):σ'[i]?=some (some v):=by
 obtain⟨_,q⟩:=dJ' h
 rw[a.2 i q]
 exact h
def rJ' (ws:List Nat) (g:TG):Prop:=∀(x:V) (σ:St) (H:Hp) (Q:St->Hp->Prop),g x σ H Q->g x σ H fun σ2 H2=>Q σ2 H2/\Ext ws σ σ2
theorem ja' {i:Nat} {ws:List Nat} (h:i∈ws):rJ' ws (ei' i):=fun x σ H Q q=>⟨q,by simp,fun j hj=>by
 have:i≠j:=fun z=>hj (z ▸ h)
 rw[bP this]⟩
def dt' (e:Expr) (d:Nat) (tg iter:Expr) (ifs:List Expr) (nx:Sem Unit) (it acc:Value) (env:Env):Sem Fin:=do
 standAt iter.pos
 match <- pyNext it with
 |none=>pure (.done .next)
 |some v=>
  letOwnedTupleGo tg it v
  assign tg env v
  let mut ok:=true
  for c in ifs do
   if ok then ok <- isTrue c env (eval c env)
  if ok then nx
  again (.compLoop e d it acc env)
abbrev TL (α:Type):=St->α->Hp->(α->Hp->Prop)->Prop
def dK' {α:Type} (X:Cx) (D:Addr) (Is:α->Obj->Prop) (ws:List Nat) (code:Sem Unit) (t:TL α):Prop:=
 ∀(pins:List (Addr×Obj)) (s:Shared) (σ:St) (H:Hp) (a:α) (o:Obj) (N:α->Hp->Prop),Inv X pins σ H s->cX' X pins H D->s.heap.get? D=some o->Is a o->t σ a H N->
  wpAny (model X.prog X.w) X.A code (fun _ s'=>∃σ' a' o' H',Inv X pins σ' H' s'/\Ext ws σ σ'/\s'.heap.get? D=some o'/\Is a' o'/\H' D=none/\N a' H') (fun _ _=>False) s
def bj' {α:Type} (ws:List Nat) (g:TG) (tc:TT) (aw':TL α) (J:It):TL α:=fun σ a H1 N=>
 ∃W:Nat->Nat->α->Hp->Prop,(∃m,W 0 m a H1)/\∀i m b H,W i m b H->
  (J.stop i H/\N b H)\/(J.go i H/\∀x H',J.yld i H x H'->g x (clr ws σ) H' fun σ2 H2=>tc σ2 H2 fun ok H3=>
   if ok=true then aw' σ2 b H3 (fun c H4=>∃m',m'<m/\W (i+1) m' c H4)else ∃m',m'<m/\W (i+1) m' b H3)
theorem fC' {α:Type} {Is:α->Obj->Prop} {X:Cx} {e:Expr} {d:Nat} {tg iter:Expr} {ifs:List Expr} {nx:Sem Unit} {it D:Addr} {fp:List Addr} {tn:Nat->Heap->Prop} {J:It} {g:TG} {tc:TT} {aw':TL α} {ws ws':List Nat}
  (hxe:X.xe=fun _ _=>False) (hcalm:X.calm=true)
  (hq:(Code.compLoop e d (.ref it) (.ref D) X.env).quiet=true) (hu:X.A.under (Code.compLoop e d (.ref it) (.ref D) X.env)=X.A)
  (hT:(model X.prog X.w).den (.compLoop e d (.ref it) (.ref D) X.env)=(dt' e d tg iter ifs nx (.ref it) (.ref D) X.env).onRaise (fun x=>do noteFrame x X.env;theTreesLotGoes x))
  (T:Turn X.prog X.w X.K tg J fp it tn) (hg:PG X tg g) (hge:rJ' ws g) (ht:PTs X ifs tc) (hn:dK' X D Is ws' nx aw') (hws:∀j∈ws',j∈ws) (hIs:∀a o,Is a o->∀v,o.data≠.cell v) (hDf:D∉fp)
  {pins:List (Addr×Obj)} {s:Shared} {σ:St} {H:Hp} {a:α} {o:Obj} {N:α->Hp->Prop} (I:Inv X pins σ H s) (hf:∀b∈fp,cX' X pins H b) (hD:cX' X pins H D) (ho:s.heap.get? D=some o) (ha:Is a o) (h0:tn 0 s.heap)
  (hw:bj' ws g tc aw' J σ a H N):
  codeAny (model X.prog X.w) X.A (.compLoop e d (.ref it) (.ref D) X.env) (fun r s'=>r=.ok .next/\∃a' o' H',Inv X pins (clr ws σ) H' s'/\s'.heap.get? D=some o'/\Is a' o'/\H' D=none/\N a' H') s:=by
 obtain⟨W,⟨m0,w0⟩,turn⟩:=hw
 have stat:∀{H':Hp} {pl:List (Addr×Obj)},(∀b∈D :: fp,H' b=none)->(∀b∈D :: fp,cX' X pins H' b):=fun {H' pl} hn b hb=>by
  rcases am.mp hb with rfl|hb'
  .exact⟨hn _ au,hD.2⟩
  .exact⟨hn b hb,(hf b hb').2⟩
 refine codeAny_loop hq (fun n s'=>∃i b ob H',Inv X pins (clr ws σ) H' s'/\tn i s'.heap/\(∀b∈D :: fp,H' b=none)/\s'.heap.get? D=some ob/\Is b ob/\W i n b H') ?_ m0
  ⟨0,a,o,H,I.weak (dI' _ _) (fun i v q=>(dJ' q).1),h0,fun b hb=>by
   rcases am.mp hb with rfl|hb'
   .exact hD.1
   .exact(hf b hb').1,ho,ha,w0⟩
 rintro n s3 ⟨i,b,ob,H3,I3,st3,fr3,o3,is3,w3⟩
 rw[hu,hT]
 refine wpAny_noted ?_
 have hE:∀{β:Type} {c:Sem β} {Q:β->Shared->Prop} {s:Shared} {E:Value->Shared->Prop},wpAny (model X.prog X.w) X.A c Q (fun _ _=>False) s->wpAny (model X.prog X.w) X.A c Q E s:=fun h=>wpAny_mono h (fun _ _ q=>q) fun _ _ q=>q.elim
 refine hE ?_
 unfold dt'
 refine aa (cy (aa ?_))
 have hxeE:∀{β:Type} {c:Sem β} {Q:β->Shared->Prop} {s:Shared},wpAny (model X.prog X.w) X.A c Q X.xe s->wpAny (model X.prog X.w) X.A c Q (fun _ _=>False) s:=fun h=>by rw[hxe]at h;exact h
 have pD:Inv X (pins++cm' [D] s3.heap) (clr ws σ) H3 s3:=I3.pinned (fun b hb=>by
  have e:b=D:=by simpa using hb
  subst e
  exact stat (pl:=[]) fr3 b au) (fun b hb=>by
  have e:b=D:=by simpa using hb
  subst e
  exact⟨ob,o3,hIs _ _ is3⟩)
 have mD:(D,ob)∈cm' [D] s3.heap:=ba' (by simp) o3
 have fpD:∀{H':Hp},(∀b∈fp,H' b=none)->∀b∈fp,cX' X (pins++cm' [D] s3.heap) H' b:=fun {H'} hn b hb=>by
  obtain⟨_,f1,f2,f3,f4,f5⟩:=hf b hb
  refine⟨hn b hb,f1,f2,f3,f4,fun p hp=>?_⟩
  rcases aw.mp hp with q|q
  .exact f5 p (bD _ q)
  .rcases aw.mp q with q|q
   .exact f5 p (ax _ q)
   .have e:p.1=D:=by simpa using(dA' q).1
    rw[e]
    rintro rfl
    exact hDf hb
 have fr3':∀b∈fp,H3 b=none:=fun b hb=>fr3 b (ao _ hb)
 rcases turn i n b H3 w3 with⟨stop,qn⟩|⟨go,step⟩
 .refine thn (T.done X rfl rfl rfl hcalm i _ s3 _ H3 _ pD (fpD fr3') st3 stop) fun r s4 ⟨hr,I4⟩=>?_
  subst hr
  have q4:=I4.pin (D,ob) (ax _ (ax _ mD))
  exact ab ⟨rfl,b,ob,H3,I4.unpinned,q4.1,is3,q4.2.1,qn⟩
 .refine thn (T.item X rfl rfl rfl hcalm i _ s3 _ H3 _ pD (fpD fr3') st3 go) fun r s4 ⟨u,hr,h4⟩=>?_
  subst hr
  refine aa (thn h4 fun _ s5 ⟨x,H5,I5,r5,y5,st5,fr5⟩=>?_)
  have I5':=I5.pinned (fpD fr5) (T.obj _ _ st5)
  refine aa (thn (hxeE (hg _ s5 _ H5 x u _ I5' r5 (hge x _ H5 _ (step x H5 y5)))) fun _ s6 ⟨σ6,H6,I6,q6,x6⟩=>?_)
  refine aa (thn (hxeE (ht _ s6 σ6 H6 _ I6 q6)) fun ok s7 ⟨H7,I7,q7⟩=>?_)
  have q7D:=I7.pin (D,ob) (ax _ (bD _ (ax _ mD)))
  have q7f:∀b∈fp,∀o,s5.heap.get? b=some o->s7.heap.get? b=some o/\H7 b=none:=fun b hb o e =>
   let q:=I7.pin (b,o) (ax _ (ax _ (ba' hb e)))
   ⟨q.1,q.2.1⟩
  have st7:tn (i+1) s7.heap:=T.keep _ _ _ st5 fun b hb o e=>(q7f b hb o e).1
  have fr7:∀b∈fp,H7 b=none:=fun b hb=>by
   obtain⟨o,e,_⟩:=T.obj _ _ st5 b hb
   exact(q7f b hb o e).2
  have I7':Inv X pins σ6 H7 s7:=I7.unpinned.unpinned
  cases ok with
  |false=>
   have q7':∃m',m'<n/\W (i+1) m' b H7:=q7
   obtain⟨m',hm,w7⟩:=q7'
   refine ab ⟨rfl,m',hm,i+1,b,ob,H7,I7'.weak ?_ x6.back,st7,fun c hc=>?_,q7D.1,is3,w7⟩
   .rw[x6.1]
   .rcases am.mp hc with rfl|hc'
    .exact q7D.2.1
    .exact fr7 c hc'
  |true=>
   have I7p:=I7'.pinned (fun b hb=>stat (pl:=[]) (fun c hc=>by
    rcases am.mp hc with rfl|hc'
    .exact q7D.2.1
    .exact fr7 c hc') b (ao _ hb)) (T.obj _ _ st7)
   have fD:cX' X (pins++cm' fp s7.heap) H7 D:=by
    obtain⟨_,f1,f2,f3,f4,f5⟩:=hD
    refine⟨q7D.2.1,f1,f2,f3,f4,fun p hp=>?_⟩
    rcases aw.mp hp with q|q
    .exact f5 p (bD _ q)
    .rcases aw.mp q with q|q
     .exact f5 p (ax _ q)
     .intro z
      exact hDf (z ▸ (dA' q).1)
   refine aa (thn (hn _ s7 σ6 H7 b ob _ I7p fD q7D.1 is3 q7) fun _ s8 ⟨σ8,b8,o8,H8,I8,x8,e8,is8,n8,m',hm,w8⟩=>?_)
   have q8f:∀b∈fp,∀o,s7.heap.get? b=some o->s8.heap.get? b=some o/\H8 b=none:=fun b hb o e =>
    let q:=I8.pin (b,o) (ax _ (ax _ (ba' hb e)))
    ⟨q.1,q.2.1⟩
   have x8':Ext ws (clr ws σ) σ8:=x6.trans (x8.mono hws)
   refine ab ⟨rfl,m',hm,i+1,b8,o8,H8,I8.unpinned.weak (by rw[x8'.1]) x8'.back,T.keep _ _ _ st7 fun b hb o e=>(q8f b hb o e).1,fun c hc=>?_,e8,is8,w8⟩
   rcases am.mp hc with rfl|hc'
   .exact n8
   .obtain⟨o,e,_⟩:=T.obj _ _ st7 c hc'
    exact(q8f c hc' o e).2
def IsL (xs:List V) (o:Obj):Prop:=xs.length<=sizeLine/\∃(its:List Value) (n:Nat),aA' xs its/\o={ cls:=.type "list",data:=.seq its.toArray n }
theorem gV' (xs:List V) (o:Obj) (h:IsL xs o) (v:Option Value):o.data≠.cell v:=by
 obtain⟨_,its,n,_,rfl⟩:=h
 intro z
 cases z
def eX' (te:TE):TL (List V):=fun σ xs H N=>te σ H fun v H'=>xs.length<sizeLine/\N (xs++[v]) H'
theorem lJ' {X:Cx} {D:Addr} {elt:Expr} {te:TE} (hxe:X.xe=fun _ _=>False) (he:PE X elt te):dK' X D IsL [] (do let _ <- call (.builtin "list.append") [.ref D,<- eval elt X.env]) (eX' te):=by
 intro pins s σ H xs o N I hD ho hi hq
 have I1:Inv X (pins++cm' [D] s.heap) σ H s:=I.pinned (fun b hb=>by
  have e:b=D:=by simpa using hb
  subst e
  exact hD) (fun b hb=>by
  have e:b=D:=by simpa using hb
  subst e
  exact⟨o,ho,gV' _ _ hi⟩)
 have h1:=he _ s σ H _ I1 hq
 rw[hxe]at h1
 refine aa (thn h1 fun u s1 ⟨v,H1,J1,r1,z1,n1⟩=>?_)
 have q1:=J1.pin (D,o) (ax _ (ax _ (ba' (by simp) ho)))
 obtain⟨zx,its,n,rv,rfl⟩:=hi
 have hl:=rv.length
 refine aa (wpAny_list_append_plain (items:=its.toArray) ⟨n,q1.1⟩ (fun h' hp hs=>?_) (by rw[aj,<- hl];exact zx))
 obtain⟨_,f1,f2,f3,f4,f5⟩:=hD
 have J2:Inv X pins σ H1 { s1 with heap:=h' }:=J1.unpinned.turned (it:=D) (t':=s1.toks) (fun b o hb e=>(hs.2 b hb).trans e) q1.2.1 f1 f3 f4 f5
 obtain⟨n',hp⟩:=hp
 refine ab ⟨σ,xs++[v],_,H1,J2,Ext.refl,hp,⟨?_,its++[u],n',rv.append (.cons r1 .nil),?_⟩,q1.2.1,n1⟩
 .rw[aD];exact z1
 .simp
theorem gW' {M:Model} {A:Around} {e:Expr} {d:Nat} {it acc:Value} {env:Env} {R:Result->Shared->Prop} {s:Shared}
  (hq:(Code.compStart e d it acc env).quiet=true) (hu:A.under (Code.compStart e d it acc env)=A) (hql:∀it',(Code.compLoop e d it' acc env).quiet=true)
  (hden:M.den (.compStart e d it acc env)=(compStart e d it acc env).onRaise (fun x=>do noteFrame x env;standAt theWindowsPlace)) (hg:∃g,(clausesOf e)[d]?=some g/\g.is_async=0)
  (h0:codeAny M A (.compLoop e d it acc env) R s) (h1:∀E,wpAny M A (pyIter it) (fun it' s'=>it'=it/\s'=s) E s):codeAny M A (.compStart e d it acc env) R s:=by
 refine codeAny_of_tree ?_
 rw[hu,hden]
 refine wpAny_notedAt ?_
 obtain⟨g,eg,ea⟩:=hg
 unfold compStart
 rw[eg]
 have e1:((some g:Option Comprehension).elim false (fun x=>x.is_async != 0))=false:=by
  show(g.is_async != 0)=false
  rw[ea];rfl
 rw[e1]
 show wpAny _ _ (ask >>= _) _ _ s
 refine aa (wpAny_askSetting (wpAny_ite ?_))
 have fin:wpAny M A (again (.compLoop e d it acc env)) (fun fin s'=>match fin with | .done f=>R (.ok f) s' | .again c=>c.quiet=true/\codeAny M A c R s') (notedBy M A env fun x s'=>R (.error x) s') s:=ab ⟨hql it,h0⟩
 split
 .first
   |exact fin
   |exact aa fin
   |exact aa (ab fin)
 .refine aa (bu ?_)
  refine aa (cy ?_)
  refine aa (wpAny_mono (h1 _) (fun it' s' q=>?_) fun _ _ q=>q)
  obtain⟨rfl,rfl⟩:=q
  exact fin
theorem gX' (own:List Nat) (σ:St):clr own (clr own σ)=clr own σ:=by
 apply bX
 intro i
 by_cases h:i∈own
 .have z:∀τ:St,(clr own τ)[i]?=none\/(clr own τ)[i]?=some none:=fun τ=>by
   cases q:(clr own τ)[i]? with
   |none=>exact .inl rfl
   |some o=>
    cases o with
    |none=>exact .inr rfl
    |some v=>exact absurd h (dJ' q).2
  have hl:(clr own (clr own σ)).length=(clr own σ).length:=dI' _ _
  rcases z (clr own σ)with a|a<;>rcases z σ with b|b<;>rw[a,b]
  .have q1:=bq.mp a
   have q2:=(aM.mp b).1
   omega
  .have q1:=bq.mp b
   have q2:=(aM.mp a).1
   omega
 .rw[gm' h]
def oU' {α:Type} (wi:TI) (c:It->TL α):TL α:=fun σ a H N=>wi σ H fun J H1=>c J σ a H1 N
def jb' (own:List Nat) (wi:TI) (g:TG) (tc:TT) (aw':TL (List V)):TE:=fun σ H Q=>wi σ H fun J H1=>bj' own g tc aw' J σ [] H1 fun xs H2=>∀p,H2 p=none->Q (.ref p) (upd H2 p (.lst xs))
structure CompIn (X:Cx) (e:Expr) (scope:Scope) (tg:Expr) (iter:Expr) (ifs:List Expr) (nx:Addr->Env->Sem Unit) (g:TG) (tc:TT) (aw':TL (List V)) (own:List Nat):Prop where
 sc:CompSc X scope
 ow:∀i x,X.N[i]?=some x->(scope.names.lookup x=some .local\/scope.names.lookup x=some .cell)->i∈own
 cl:∃gs,clausesOf e=⟨tg,iter,ifs,0⟩ :: gs
 fs:∀x,foldedSetIterable iter X.env x=pure x
 calm:X.calm=true
 q:∀it D env,(Code.compLoop e 0 it (.ref D) env).quiet=true/\(Code.compStart e 0 it (.ref D) env).quiet=true
 u:∀A it D env,Around.under A (Code.compLoop e 0 it (.ref D) env)=A/\Around.under A (Code.compStart e 0 it (.ref D) env)=A
 T:∀P w it D env,(model P w).den (.compLoop e 0 it (.ref D) env)=(dt' e 0 tg iter ifs (nx D env) it (.ref D) env).onRaise (fun x=>do noteFrame x env;theTreesLotGoes x)
 S:∀P w it D env,(model P w).den (.compStart e 0 it (.ref D) env)=(compStart e 0 it (.ref D) env).onRaise (fun x=>do noteFrame x env;standAt theWindowsPlace)
 ge:rJ' own g
 inn:∀s0 H0 ex D,PG (X.comp scope s0 H0 ex) tg g/\PTs (X.comp scope s0 H0 ex) ifs tc/\∃ws',(∀j∈ws',j∈own)/\dK' (X.comp scope s0 H0 ex) D IsL ws' (nx D (X.comp scope s0 H0 ex).env) aw'
section
variable {X:Cx} {e:Expr} {scope:Scope} {tg iter:Expr} {ifs:List Expr} {nx:Addr->Env->Sem Unit} {g:TG} {tc:TT} {aw':TL (List V)} {own:List Nat} {wi:TI}
theorem gY' (C:CompIn X e scope tg iter ifs nx g tc aw' own) (hi:PI X tg iter wi) {pins:List (Addr×Obj)} {s:Shared} {σ:St} {H:Hp} {R:V->Hp->Prop} (I:Inv X pins σ H s) (hw:jb' own wi g tc aw' σ H R)
  {use:Option (Value->Sem Unit)} {Q:Value->Shared->Prop} {pos:Pos}
  (fin:∀(s3 s':Shared) (H0 H':Hp) (ex:List Addr) (D:Addr) (xs:List V) (o:Obj) (σ':St),Inv X pins σ H0 s3->(∀b∈ex,cX' X pins H0 b)->Inv (X.comp scope s3 H0 ex) [] σ' H' s'->s'.heap.get? D=some o->D<s3.heap.objs.size->X.s₀.heap.objs.size<=D->cX' X pins H0 D->IsL xs o->H' D=none->R (.ref D) (upd H' D (.lst xs))->
   compPost (model X.prog X.w) X.A X.xe use Q (.ref D) s3.heap.objs.size (.ok .next) s'):
  wpAny (model X.prog X.w) X.A (comprehension e scope X.env pos (newList []) false (eval iter X.env) use) Q X.xe s:=by
 obtain⟨gs,hcl⟩:=C.cl
 refine wpAny_comprehension_free hcl C.fs (i9' fun n hn=>I.ok.has n (C.sc.free n hn)) C.sc.kind C.sc.names ?_
 refine thn (hi pins s σ H _ I hw) fun v s1 h1=>thn h1 fun itv s2 h2=>?_
 obtain⟨it,fp,tn,J,H2,rfl,I2,T,st2,f2,hc⟩:=h2
 refine aI (cE' ?_)
 have keep:∀b o,s2.heap.get? b=some o->(s2.heap.push { cls:=.type "list",dict:=none,data:=.seq ([]:List Value).toArray }).get? b=some o:=fun b o e=>ac _ e
 have I3:Inv X pins σ H2 { s2 with heap:=s2.heap.push { cls:=.type "list",dict:=none,data:=.seq ([]:List Value).toArray } }:=I2.kept (t':=s2.toks) keep
 have hsz:(s2.heap.push { cls:=.type "list",dict:=none,data:=.seq ([]:List Value).toArray }).objs.size=s2.heap.objs.size+1:=aS ..
 have fD:cX' X pins H2 s2.heap.objs.size:=I2.fpOk (ag _) (I2.hok.fresh (ag _))
 have hlt:∀b∈fp,b<s2.heap.objs.size:=fun b hb=>by
  obtain⟨o,e,_⟩:=T.obj _ _ st2 b hb
  exact ap e
 have hDf:s2.heap.objs.size∉fp:=fun z=>aV _ (hlt _ z)
 have hex:∀b∈s2.heap.objs.size :: fp,cX' X pins H2 b:=fun b hb=>by
  rcases am.mp hb with rfl|hb
  .exact fD
  .exact f2 b hb
 generalize hs3:({ s2 with heap:=s2.heap.push { cls:=.type "list",dict:=none,data:=.seq ([]:List Value).toArray } }:Shared)=s3 at *
 have hs3s:s3.heap.objs.size=s2.heap.objs.size+1:=by rw[<- hs3];exact hsz
 have hlt3:∀b∈s2.heap.objs.size :: fp,b<s3.heap.objs.size:=fun b hb=>by
  rw[hs3s]
  rcases am.mp hb with rfl|hb
  .exact Nat.lt_succ_self _
  .exact cv (hlt b hb)
 have J0:=eF' (own:=own) I3 hex hlt3 C.sc C.ow
 obtain⟨c1,c2,ws',c4,c5⟩:=C.inn s3 H2 (s2.heap.objs.size :: fp) s2.heap.objs.size
 have kp:∀b o,s2.heap.get? b=some o->(aX' s3.heap scope.names).get? b=some o:=fun b o e=>pushCells_keeps _ _ b o (ac _ (by rw[<- hs3];exact keep b o e))
 have oD:(aX' s3.heap scope.names).get? s2.heap.objs.size=some { cls:=.type "list",dict:=none,data:=.seq ([]:List Value).toArray }:=pushCells_keeps _ _ _ _ (ac _ (by rw[<- hs3];exact ai _ rfl))
 have stat:∀b∈s2.heap.objs.size :: fp,cX' (X.comp scope s3 H2 (s2.heap.objs.size :: fp)) [] H2 b:=fun b hb=>
  ⟨(hex b hb).1,(J0.ok.exf b hb).1,J0.ok.exfs b hb,.inl hb,(J0.ok.exf b hb).2,fun p hp=>absurd (show p∈([]:List (Addr×Obj)) from hp) (by simp)⟩
 have T':Turn (X.comp scope s3 H2 (s2.heap.objs.size :: fp)).prog (X.comp scope s3 H2 (s2.heap.objs.size :: fp)).w (X.comp scope s3 H2 (s2.heap.objs.size :: fp)).K tg J fp it tn:=T
 have hc':bj' own g tc aw' J (clr own σ) [] H2 (fun xs H2=>∀p,H2 p=none->R (.ref p) (upd H2 p (.lst xs))):=by
  obtain⟨W,w0,turn⟩:=hc
  refine⟨W,w0,?_⟩
  rw[gX']
  exact turn
 have st3:tn 0 ({ s3 with heap:=aX' s3.heap scope.names }:Shared).heap:=T.keep _ _ _ st2 fun b hb o e=>kp b o e
 have L:=fC' (X:=X.comp scope s3 H2 (s2.heap.objs.size :: fp)) (Is:=IsL) (D:=s2.heap.objs.size) rfl C.calm (C.q _ _ _).1 (C.u _ _ _ _).1 (C.T _ _ _ _ _) T' c1 C.ge c2 c5 c4 gV' hDf J0
  (fun b hb=>stat b (ao _ hb)) (stat _ au) oD ⟨aT _,[],0,.nil,rfl⟩ st3 hc'
 have L2:=gW' (C.q _ _ _).2 (C.u _ _ _ _).2 (fun it'=>(C.q it' _ _).1) (C.S _ _ _ _ _) ⟨_,by rw[hcl];rfl,rfl⟩ L (fun E=>T.self _ 0 _ _ E st3 ⟨rfl,rfl⟩)
 refine codeAny_mono L2 fun r s' h=>?_
 obtain⟨rfl,xs,o',H',J',e',is',n',hN⟩:=h
 exact fin s3 s' H2 H' _ _ xs o' _ I3 hex J' e' (hlt3 _ au) I2.sz fD is' n' (hN _ n')
end
section
variable {X:Cx} {pins:List (Addr×Obj)} {σ:St} {H H':Hp} {s s':Shared} {D:Addr} {o:HO}
theorem Inv.track (I:Inv X pins σ H s) (f:cX' X pins H D) (h0:X.s₀.heap.objs.size<=D) (new:as' X.prog X.w (upd H D o) s.heap D o):Inv X pins σ (upd H D o) s:=by
 obtain⟨f0,f1,f2,f3,f4,f5⟩:=f
 have ne:∀b ob,X.s₀.heap.get? b=some ob->b≠D:=fun b ob e=>ay (ak (ap e) h0)
 have neT:∀b u,H b=some u->b≠D:=fun b u e z=>by rw[z,f0]at e;cases e
 refine⟨I.ok,I.os,I.bare,⟨I.base.keep,I.base.slot,fun b ob e n hx=>by rw[ad' (ne b ob e)];exact I.base.free b ob e n hx,I.base.there,fun b xs e=>?_,fun b ob u e=>?_,fun b ps e=>?_⟩,I.loc,I.cell,?_,fun x c e=>?_,fun p hp=>?_,fun b u e=>?_,I.len⟩
 .have q:=I.base.tups b xs e
  rw[ad' (neT b _ q)];exact q
 .have q:=I.base.frzs b ob u e
  rw[ad' (neT b _ q)];exact q
 .obtain⟨m,q⟩:=I.base.tbls b ps e
  exact⟨m,by rw[ad' (neT b _ q)];exact q⟩
 .rw[ad' (Ne.symm f1)];exact I.free
 .rw[ad' (f4 x c e)];exact I.freeC x c e
 .obtain⟨e,n,r⟩:=I.pin p hp
  refine⟨e,?_,r⟩
  rw[ad' (f5 p hp)];exact n
 .by_cases hb:b=D
  .subst hb
   rw[ab']at e;cases e
   exact new
  .rw[ad' hb]at e
   exact(I.hok b u e).stay (fun _ _ _ q=>q) (fun c q=>by rw[ad' (neT c _ q)];exact q) fun c xs q=>by rw[ad' (neT c _ q)];exact q
end
section
variable {X:Cx} {e:Expr} {scope:Scope} {tg iter:Expr} {ifs:List Expr} {nx:Addr->Env->Sem Unit} {g:TG} {tc:TT} {aw':TL (List V)} {own:List Nat} {wi:TI}
theorem oV' (C:CompIn X e scope tg iter ifs nx g tc aw' own) (hi:PI X tg iter wi) {pos:Pos} (he:eval e X.env=comprehension e scope X.env pos (newList []) false (eval iter X.env)):PE X e (jb' own wi g tc aw'):=by
 intro pins s σ H Q I hw
 rw[he]
 refine gY' C hi I hw fun s3 s' H0 H' ex D xs o σ' I3 hex J e' hlt h0 fD is' n' hR=>?_
 obtain⟨m,hn,_⟩:=J.loc
 refine⟨m,hn,fun h' hs=>?_⟩
 have J2:=dr' I3 hex J hs
 obtain⟨z,its,n,rv,rfl⟩:=is'
 have neC:D≠s3.heap.objs.size:=ay hlt
 refine⟨.ref D,upd H' D (.lst xs),J2.track (o:=.lst xs) ⟨n',fD.2⟩ h0 ⟨z,its,n,rv,(hs.2 D neC).trans e'⟩,rfl,hR⟩
theorem h9' (C:CompIn X e scope tg iter ifs nx g tc aw' own) (hi:PI X tg iter wi) {i:Nat} {y:Str} {py pos pos2:Pos} (hN:X.N.Nodup) (hy:X.N[i]?=some y) (hx:Loc X.env.scope y) (hf:X.fn y=true\/X.env.scope.names.lookup y=some .local)
  (he:evalThenUse e X.env (assign (.Name y py) X.env)=(do let _ <- comprehension e scope X.env pos2 (newList []) false (eval iter X.env) (some (assign (.Name y py) X.env))))
  (hsw:swapsWith e (some (.Name y py)) pos.line X.env=pure true):PS X (.Assign [.Name y py] e pos) (nC' (jb' own wi g tc aw') (ei' i)):=by
 intro pins s σ H D I hw
 rw[exec_Assign_Name_used _ _ _ _ hsw]
 refine aa (cy (aa ?_))
 rw[he]
 refine aa (thn (Q:=fun _ s'=>SP X pins D .next s') (gY' C hi I hw fun s3 s' H0 H' ex D' xs o σ' I3 hex J e' hlt h0 fD is' n' hR=>?_) fun _ s' q=>ab (ab q))
 obtain⟨m,hn,_⟩:=J.loc
 have J2:Inv X pins σ H' s':=dr' I3 hex J (Heap.SameBut.refl ..)
 obtain⟨z,its,n,rv,rfl⟩:=is'
 have neC:D'≠s3.heap.objs.size:=ay hlt
 have J3:Inv X pins σ (upd H' D' (.lst xs)) s':=J2.track ⟨n',fD.2⟩ h0 ⟨z,its,n,rv,e'⟩
 have fC:cX' X pins H0 s3.heap.objs.size:=I3.fpOk (ag _) (I3.hok.fresh (ag _))
 refine wpAny_assign_Name (dz' J3 hN hy hx (v:=.ref D') rfl (fun s'' J4 hs=>?_) hf)
 obtain⟨a,hsa,ha⟩:=hs
 have haC:s3.heap.objs.size≠a:=by
  rcases ha with rfl|ha
  .exact fC.2.1
  .exact fun q=>fC.2.2.2.2.1 _ _ ha q.symm
 have hn':s'.heap.Ns s3.heap.objs.size m:=hn
 refine⟨m,hn'.sameBut hsa haC,fun h' hs'=>?_⟩
 have J5:Inv X pins (σ.set i (some (.ref D'))) (upd H' D' (.lst xs)) { s'' with heap:=h' }:=J4.turned (it:=s3.heap.objs.size) (t':=s''.toks) (fun b ob hb q=>(hs'.2 b hb).trans q) (by rw[ad' (Ne.symm neC)];exact J.free) fC.2.1 fC.2.2.2.1 fC.2.2.2.2.1 fC.2.2.2.2.2
 exact⟨_,_,J5,hR⟩
end
def ce':Bool->Heap->Addr->Addr->Nat->Prop
 |true,h,it,a,i=>h.IsTupleIter it a i
 |false,h,it,a,i=>h.IsListIter it a i
def dL':Bool->Heap->Addr->Array Value->Prop
 |true,h,a,xs=>h.IsTuple a xs
 |false,h,a,xs=>h.IsList a xs
def jc':Bool->String
 |true=>"tuple_iterator"
 |false=>"list_iterator"
theorem ce'.obj {k:Bool} {h:Heap} {it a:Addr} {i:Nat} (x:ce' k h it a i):∃o,h.get? it=some o/\o.data=.fields #[.ref a,.int i 0]:=by
 cases k
 .obtain⟨o,e,_,d⟩:=x;exact⟨o,e,d⟩
 .obtain⟨o,e,_,d⟩:=x;exact⟨o,e,d⟩
theorem ce'.at {k:Bool} {h h':Heap} {it a:Addr} {i:Nat} (x:ce' k h it a i) (hk:∀o,h.get? it=some o->h'.get? it=some o):ce' k h' it a i:=by
 cases k
 .obtain⟨o,e,r⟩:=x;exact⟨o,hk o e,r⟩
 .obtain⟨o,e,r⟩:=x;exact⟨o,hk o e,r⟩
theorem dL'.at {k:Bool} {h h':Heap} {a:Addr} {xs:Array Value} (x:dL' k h a xs) (hk:∀o,h.get? a=some o->h'.get? a=some o):dL' k h' a xs:=by
 cases k
 .obtain⟨o,e,r⟩:=x;exact⟨o,hk o e,r⟩
 .obtain⟨o,e,r⟩:=x;exact⟨o,hk o e,r⟩
theorem dL'.lt {k:Bool} {h:Heap} {a:Addr} {xs:Array Value} (x:dL' k h a xs):a<h.objs.size:=by
 cases k
 .obtain⟨o,e,r⟩:=x;exact ap e
 .obtain⟨o,e,r⟩:=x;exact ap e
section
variable {prog:Program} {w:World} {A:Around} {E:Value->Shared->Prop} {s:Shared}
theorem bb' {k:Bool} {it l:Addr} {i:Nat} {items:Array Value} {x:Value} {Q:Value->Shared->Prop} (hit:ce' k s.heap it l i) (hl:dL' k s.heap l items) (hx:items[i]?=some x)
  (hQ:∀h',ce' k h' it l (i+1)->br it s.heap h'->Q x { s with heap:=h' }):wpAny (model prog w) A (Builtin.SmallTypes.nextOf (.ref it)) Q E s:=by
 cases k
 .exact wpAny_nextOf_list_item hit hl hx hQ
 .have hit:s.heap.IsTupleIter it l i:=hit
  have hl:s.heap.IsTuple l items:=hl
  obtain⟨o,ho,hc,hd⟩:=id hit
  obtain⟨ol,hol,_,nl,hdl⟩:=hl
  unfold Builtin.SmallTypes.nextOf
  refine aa (aH (name:=Str.ofString "__next__") hit.typeIs F.slot_tuple_iterator_next
   (aK F.slot_tuple_iterator_next hit.typeIs F.entry_tuple_iterator_next ?_ (F.args_tuple_iterator_next_1 _)))
  show wpAny _ _ (field (.ref it) 0 >>= _) _ _ s
  refine aa (aJ ho hd (x:=.ref l) rfl ?_)
  show wpAny _ _ (if(Value.ref l == Value.none)=true then _ else _) _ _ s
  rw[if_neg (show ¬((Value.ref l == Value.none)=true) from al)]
  show wpAny _ _ (field (.ref it) 1 >>= _) _ _ s
  refine aa (aJ ho hd (x:=.int i 0) rfl ?_)
  show wpAny _ _ (seqItems? (.ref l) >>= _) _ _ s
  refine aa (bx hol hdl ?_)
  simp only[ba,hx]
  refine aa (cC ho hd (by simp) (ab ⟨x,rfl,ab (hQ _ ?_ (Heap.SameBut.update ..))⟩))
  exact⟨_,aR _ ho (Obj.isFreed_of_fields (Obj.data_mapFields hd _)),(Obj.cls_mapFields ..).trans hc,by
   rw[Obj.data_mapFields hd];simp[rawInt]⟩
theorem cf' {k:Bool} {it l:Addr} {i:Nat} {items:Array Value} {Q:Value->Shared->Prop} (hh:A.handled=none) (hit:ce' k s.heap it l i) (hl:dL' k s.heap l items) (hx:items[i]?=none)
  (hE:∀h' e,Heap.ExtBut it s.heap h'->(∃o,h'.get? e=some o/\o.cls=.type "StopIteration")->E (.ref e) { s with heap:=h' }):wpAny (model prog w) A (Builtin.SmallTypes.nextOf (.ref it)) Q E s:=by
 cases k
 .exact wpAny_nextOf_list_end hh hit hl hx hE
 .have hit:s.heap.IsTupleIter it l i:=hit
  have hl:s.heap.IsTuple l items:=hl
  obtain⟨o,ho,hc,hd⟩:=id hit
  obtain⟨ol,hol,_,nl,hdl⟩:=hl
  unfold Builtin.SmallTypes.nextOf
  refine aa (aH (name:=Str.ofString "__next__") hit.typeIs F.slot_tuple_iterator_next
   (aK F.slot_tuple_iterator_next hit.typeIs F.entry_tuple_iterator_next ?_ (F.args_tuple_iterator_next_1 _)))
  show wpAny _ _ (field (.ref it) 0 >>= _) _ _ s
  refine aa (aJ ho hd (x:=.ref l) rfl ?_)
  show wpAny _ _ (if(Value.ref l == Value.none)=true then _ else _) _ _ s
  rw[if_neg (show ¬((Value.ref l == Value.none)=true) from al)]
  show wpAny _ _ (field (.ref it) 1 >>= _) _ _ s
  refine aa (aJ ho hd (x:=.int i 0) rfl ?_)
  show wpAny _ _ (seqItems? (.ref l) >>= _) _ _ s
  refine aa (bx hol hdl ?_)
  simp only[ba,hx]
  refine aa (bu (aa (cC ho hd (by simp) ?_)))
  show wpAny _ _ (newExc (.type "StopIteration") [] >>= _) _ _ _
  refine aa ?_
  simp only[newExc,newTuple]
  refine aa (aI ?_ (by size_fits))
  refine aa (m:=firstArgMember _ _) (bA (a:=Value.none) (by first|rfl|(simp only[firstArgMember];rfl)) ?_)
  refine aI ?_ (by size_fits)
  simp only[raiseNew]
  refine aa (wpAny_handled ?_)
  first|rw[show A.in1.handled=none from hh]|rw[hh]
  refine aa (ab (wpAny_throw ?_))
  exact hE _ _ (((Heap.SameBut.update ..).extBut.push _).push _) ⟨_,ai _ rfl,rfl⟩
end
abbrev zH1 (k:Bool) (h:Heap) (l1:Addr):Heap:=h.push { cls:=.type (jc' k),data:=.fields #[.ref l1,.int 0 0] }
abbrev zH2 (k j:Bool) (h:Heap) (l1 l2:Addr):Heap:=(zH1 k h l1).push { cls:=.type (jc' j),data:=.fields #[.ref l2,.int 0 0] }
abbrev zH3 (k j:Bool) (h:Heap) (l1 l2:Addr):Heap:=(zH2 k j h l1 l2).push { cls:=.type "tuple",data:=.seq #[.ref h.objs.size,.ref (zH1 k h l1).objs.size] }
abbrev zH4 (k j:Bool) (h:Heap) (l1 l2:Addr):Heap:=(zH3 k j h l1 l2).push { cls:=.type "tuple",data:=.seq #[.none,.none] }
abbrev zH5 (k j:Bool) (h:Heap) (l1 l2:Addr):Heap:=(zH4 k j h l1 l2).push { cls:=.type "zip",data:=.fields #[.none,.bool false,.bool false,.ref (zH2 k j h l1 l2).objs.size,.ref (zH3 k j h l1 l2).objs.size] }
set_option maxHeartbeats 4000000 in
theorem jd' (k j:Bool) (l1 l2:Addr) (xs ys:Array Value):
  Meets (Builtin.«zip.__new__» ⟨[.type "zip",.ref l1,.ref l2],[]⟩) (fun _ R s=>dL' k s.heap l1 xs/\dL' j s.heap l2 ys/\
   R (.ok (.ret (.ref (zH4 k j s.heap l1 l2).objs.size))) { s with heap:=zH5 k j s.heap l1 l2 }):=by
 cases k<;>cases j
 .exact meets_zip_new l1 l2 xs ys
 .exact .of_wp fun prog w A R s h=>by
   obtain⟨hp,g,d,tk,os⟩:=s;obtain⟨hl1,hl2,h⟩:=h
   have hsub:=sub_zip
   have hL1:Heap.IsList (Shared.heap ⟨hp,g,d,tk,os⟩) l1 xs:=hl1
   have hL2:Heap.IsTuple (Shared.heap ⟨hp.push { cls:=.type "list_iterator",data:=.fields #[.ref l1,.int 0 0] },g,d,tk,os⟩) l2 ys:=Heap.IsTuple.push hl2 _
   wp_walk using cP hL1,bB hL2
   exact⟨_,rfl,h⟩
 .exact .of_wp fun prog w A R s h=>by
   obtain⟨hp,g,d,tk,os⟩:=s;obtain⟨hl1,hl2,h⟩:=h
   have hsub:=sub_zip
   have hL1:Heap.IsTuple (Shared.heap ⟨hp,g,d,tk,os⟩) l1 xs:=hl1
   have hL2:Heap.IsList (Shared.heap ⟨hp.push { cls:=.type "tuple_iterator",data:=.fields #[.ref l1,.int 0 0] },g,d,tk,os⟩) l2 ys:=Heap.IsList.push hl2 _
   wp_walk using bB hL1,cP hL2
   exact⟨_,rfl,h⟩
 .exact .of_wp fun prog w A R s h=>by
   obtain⟨hp,g,d,tk,os⟩:=s;obtain⟨hl1,hl2,h⟩:=h
   have hsub:=sub_zip
   have hL1:Heap.IsTuple (Shared.heap ⟨hp,g,d,tk,os⟩) l1 xs:=hl1
   have hL2:Heap.IsTuple (Shared.heap ⟨hp.push { cls:=.type "tuple_iterator",data:=.fields #[.ref l1,.int 0 0] },g,d,tk,os⟩) l2 ys:=Heap.IsTuple.push hl2 _
   wp_walk using bB hL1,bB hL2
   exact⟨_,rfl,h⟩
section
variable {prog:Program} {w:World} {A:Around} {E:Value->Shared->Prop} {s:Shared}
theorem oW' {k j:Bool} {l1 l2:Addr} {xs ys:Array Value} {Q:Value->Shared->Prop} (hl1:dL' k s.heap l1 xs) (hl2:dL' j s.heap l2 ys)
  (h:∀h',IsZip h' (s.heap.objs.size+4) (s.heap.objs.size+2) (s.heap.objs.size+3) .none->IsPair h' (s.heap.objs.size+2) (.ref s.heap.objs.size) (.ref (s.heap.objs.size+1))->
   IsPair h' (s.heap.objs.size+3) .none .none->ce' k h' s.heap.objs.size l1 0->ce' j h' (s.heap.objs.size+1) l2 0->h'.objs.size=s.heap.objs.size+5->
   (∀c o,s.heap.get? c=some o->h'.get? c=some o)->Q (.ref (s.heap.objs.size+4)) { s with heap:=h' }):
  wpAny (model prog w) A (call (.type "zip") [.ref l1,.ref l2]) Q E s:=by
 refine callType_new F.called_zip (by decide) (F.typeCall_zip_2 _ _) (F.newCall_zip_2 _ _) (fun obj=>F.args_object_init_3 obj _ _) F.entry_zip_new
  (jd' k j l1 l2 xs ys) ⟨hl1,hl2,?_⟩
 have z1:(zH1 k s.heap l1).objs.size=s.heap.objs.size+1:=aS ..
 have z2:(zH2 k j s.heap l1 l2).objs.size=s.heap.objs.size+2:=by rw[aS,z1]
 have z3:(zH3 k j s.heap l1 l2).objs.size=s.heap.objs.size+3:=by rw[aS,z2]
 have z4:(zH4 k j s.heap l1 l2).objs.size=s.heap.objs.size+4:=by rw[aS,z3]
 have z5:(zH5 k j s.heap l1 l2).objs.size=s.heap.objs.size+5:=by rw[aS,z4]
 have g5:(zH5 k j s.heap l1 l2).get? (zH4 k j s.heap l1 l2).objs.size=some _:=ai _ rfl
 have g4:(zH5 k j s.heap l1 l2).get? (zH3 k j s.heap l1 l2).objs.size=some _:=ac _ (ai _ rfl)
 have g3:(zH5 k j s.heap l1 l2).get? (zH2 k j s.heap l1 l2).objs.size=some _:=ac _ (ac _ (ai _ rfl))
 have g2:(zH5 k j s.heap l1 l2).get? (zH1 k s.heap l1).objs.size=some { cls:=.type (jc' j),data:=.fields #[.ref l2,.int 0 0] }:=ac _ (ac _ (ac _ (ai _ rfl)))
 have g1:(zH5 k j s.heap l1 l2).get? s.heap.objs.size=some { cls:=.type (jc' k),data:=.fields #[.ref l1,.int 0 0] }:=ac _ (ac _ (ac _ (ac _ (ai _ rfl))))
 have gk:∀c o,s.heap.get? c=some o->(zH5 k j s.heap l1 l2).get? c=some o:=fun c o e=>ac _ (ac _ (ac _ (ac _ (ac _ e))))
 have mk:∀(c:Bool) (it l:Addr),(zH5 k j s.heap l1 l2).get? it=some { cls:=.type (jc' c),data:=.fields #[.ref l,.int 0 0] }->ce' c (zH5 k j s.heap l1 l2) it l 0:=fun c it l e=>by
  cases c
  .exact⟨_,e,rfl,rfl⟩
  .exact⟨_,e,rfl,rfl⟩
 show _/\_
 rw[z2,z3,z4]at g5
 rw[z1,z2]at g3
 rw[z3]at g4
 rw[z1]at g2
 rw[z4]
 exact⟨⟨_,g5,rfl⟩,h _ g5 g3 g4 (mk k _ _ g1) (mk j _ _ g2) z5 gk⟩
theorem gZ' {k j:Bool} {z TI TO i1 i2 l1 l2:Addr} {k1 k2:Nat} {xs ys:Array Value} {x y a b:Value} {Q:Option Value->Shared->Prop} (D:ZipApart z TI TO i1 i2 l1 l2)
  (hz:IsZip s.heap z TI TO .none) (hTI:IsPair s.heap TI (.ref i1) (.ref i2)) (hTO:IsPair s.heap TO a b)
  (h1:ce' k s.heap i1 l1 k1) (h2:ce' j s.heap i2 l2 k2) (hl1:dL' k s.heap l1 xs) (hl2:dL' j s.heap l2 ys) (hx:xs[k1]?=some x) (hy:ys[k2]?=some y)
  (hQ:∀h',IsZip h' z TI TO (rawInt s.heap.objs.size)->IsPair h' TO x y->ce' k h' i1 l1 (k1+1)->ce' j h' i2 l2 (k2+1)->IsPair h' s.heap.objs.size x y->h'.objs.size=s.heap.objs.size+1->
   (∀c o,c≠z->c≠TO->c≠i1->c≠i2->s.heap.get? c=some o->h'.get? c=some o)->Q (some (.ref s.heap.objs.size)) { s with heap:=h' }):
  wpAny (model prog w) A (pyNext (.ref z)) Q E s:=by
 have hT:s.TypeIs (.ref z) "zip":=⟨_,hz,rfl⟩
 unfold pyNext
 refine aa (bH (aH (name:=Str.ofString "__next__") hT F.slot_zip_next
  (aK F.slot_zip_next hT F.entry_zip_next ?_ (F.args_zip_next_1 _))))
 show wpAny _ _ (field (.ref z) 2 >>= _) _ _ _
 refine aa (aJ hz rfl (x:=.bool false) rfl ?_)
 show wpAny _ _ (field (.ref z) 3 >>= _) _ _ _
 refine aa (aJ hz rfl (x:=.ref TI) rfl ?_)
 refine aa (bx hTI rfl ?_)
 show wpAny _ _ (Builtin.SmallTypes.ownedTupleIsFree (.ref z) >>= _) _ _ _
 refine aa ?_
 unfold Builtin.SmallTypes.ownedTupleIsFree
 refine aa (aJ hz rfl (x:=.none) rfl (ab ?_))
 simp only[if_true]
 refine aa (bu ?_)
 refine aa (aJ hz rfl (x:=.ref TO) rfl ?_)
 refine aa (bL hz (by simp) fun h₁ hz₁ hs₁=>?_)
 replace hz₁:IsZip h₁ z TI TO .ellipsis:=hz₁
 refine aa ?_
 simp only[List.zipIdx_cons,List.zipIdx_nil,cN,cD]
 refine aa (aa (wpAny_onRaise ?_))
 show wpAny _ _ (Builtin.SmallTypes.nextOf (.ref i1) >>= _) _ _ _
 refine aa (bb' (h1.at fun o e=>hs₁.extBut _ _ D.i1z e) (hl1.at fun o e=>hs₁.extBut _ _ D.l1z e) hx fun h₂ h1₂ hs₂=>ab ?_)
 have hTO₂:IsPair h₂ TO a b:=hs₂.extBut _ _ D.TOi1 (hs₁.extBut _ _ D.TOz hTO)
 refine aa (bx hTO₂ rfl ?_)
 refine aa (wpAny_updateSeq_pair hTO₂ fun h₃ hTO₃ hs₃=>?_)
 replace hTO₃:IsPair h₃ TO x b:=hTO₃
 refine aa (wpAny_letGo (ab ?_))
 refine aa (aa (wpAny_onRaise ?_))
 show wpAny _ _ (Builtin.SmallTypes.nextOf (.ref i2) >>= _) _ _ _
 refine aa (bb' (h2.at fun o e=>hs₃.extBut _ _ D.TOi2.symm (hs₂.extBut _ _ D.i12.symm (hs₁.extBut _ _ D.i2z e)))
  (hl2.at fun o e=>hs₃.extBut _ _ D.l2TO (hs₂.extBut _ _ D.l2i1 (hs₁.extBut _ _ D.l2z e))) hy fun h₄ h2₄ hs₄=>ab ?_)
 have hTO₄:IsPair h₄ TO x b:=hs₄.extBut _ _ D.TOi2 hTO₃
 refine aa (bx hTO₄ rfl ?_)
 refine aa (wpAny_updateSeq_pair hTO₄ fun h₅ hTO₅ hs₅=>?_)
 replace hTO₅:IsPair h₅ TO x y:=hTO₅
 refine aa (wpAny_letGo (ab (ab ?_)))
 refine aa (bx hTO₅ rfl ?_)
 refine aa (wpAny_newTuple ?_)
 have hsz:h₅.objs.size=s.heap.objs.size:=by rw[hs₅.1,hs₄.1,hs₃.1,hs₂.1,hs₁.1]
 have hz₅:IsZip h₅ z TI TO .ellipsis:=hs₅.extBut _ _ D.TOz.symm (hs₄.extBut _ _ D.i2z.symm (hs₃.extBut _ _ D.TOz.symm (hs₂.extBut _ _ D.i1z.symm hz₁)))
 have hk₅:∀c o,c≠z->c≠TO->c≠i1->c≠i2->s.heap.get? c=some o->h₅.get? c=some o:=fun c o c1 c2 c3 c4 e=>
  hs₅.extBut _ _ c2 (hs₄.extBut _ _ c4 (hs₃.extBut _ _ c2 (hs₂.extBut _ _ c3 (hs₁.extBut _ _ c1 e))))
 have h1₅:ce' k h₅ i1 l1 (k1+1):=h1₂.at fun o e=>hs₅.extBut _ _ D.TOi1.symm (hs₄.extBut _ _ D.i12 (hs₃.extBut _ _ D.TOi1.symm e))
 have h2₅:ce' j h₅ i2 l2 (k2+1):=h2₄.at fun o e=>hs₅.extBut _ _ D.TOi2.symm e
 have hzlt:z<h₅.objs.size:=ap hz₅
 show wpAny _ _ (Builtin.SmallTypes.ownedTupleHandOut (.ref z) (.ref h₅.objs.size) >>= _) _ _ _
 refine aa ?_
 unfold Builtin.SmallTypes.ownedTupleHandOut
 have hz₆:IsZip (h₅.push { cls:=.type "tuple",data:=.seq #[x,y] }) z TI TO .ellipsis:=ac _ hz₅
 refine aa (bL hz₆ (by simp) fun h₇ hz₇ hs₇=>?_)
 replace hz₇:IsZip h₇ z TI TO (rawInt h₅.objs.size):=hz₇
 refine bL hz₇ (by simp) fun h₈ hz₈ hs₈=>?_
 replace hz₈:IsZip h₈ z TI TO (rawInt h₅.objs.size):=hz₈
 have up:∀c o,c≠z->h₅.get? c=some o->h₈.get? c=some o:=fun c o c1 e=>hs₈.extBut _ _ c1 (hs₇.extBut _ _ c1 (ac _ e))
 have hT₈:IsPair h₈ h₅.objs.size x y:=hs₈.extBut _ _ (bm hzlt) (hs₇.extBut _ _ (bm hzlt) (ai _ rfl))
 have hz8:h₈.objs.size=h₅.objs.size+1:=by rw[hs₈.1,hs₇.1,aS]
 rw[hsz]at hz₈ hT₈ hz8
 refine ab ⟨_,rfl,ab ?_⟩
 show Q (some (.ref h₅.objs.size)) _
 rw[hsz]
 exact hQ h₈ hz₈ (up _ _ D.TOz hTO₅) (h1₅.at fun o e=>up _ o D.i1z e) (h2₅.at fun o e=>up _ o D.i2z e) hT₈ hz8 fun c o c1 c2 c3 c4 e=>up c o c1 (hk₅ c o c1 c2 c3 c4 e)
theorem je' {k j:Bool} {z TI TO i1 i2 l1 l2:Addr} {k1 k2:Nat} {xs ys:Array Value} {a b:Value} {Q:Option Value->Shared->Prop} (hh:A.handled=none) (D:ZipApart z TI TO i1 i2 l1 l2)
  (hz:IsZip s.heap z TI TO .none) (hTI:IsPair s.heap TI (.ref i1) (.ref i2)) (hTO:IsPair s.heap TO a b)
  (h1:ce' k s.heap i1 l1 k1) (h2:ce' j s.heap i2 l2 k2) (hl1:dL' k s.heap l1 xs) (hl2:dL' j s.heap l2 ys) (hend:xs[k1]?=none\/ys[k2]?=none)
  (hQ:∀h',(∀c o,c≠z->c≠TO->c≠i1->c≠i2->s.heap.get? c=some o->h'.get? c=some o)->Q none { s with heap:=h' }):wpAny (model prog w) A (pyNext (.ref z)) Q E s:=by
 have hT:s.TypeIs (.ref z) "zip":=⟨_,hz,rfl⟩
 unfold pyNext
 refine aa (bH (aH (name:=Str.ofString "__next__") hT F.slot_zip_next
  (aK F.slot_zip_next hT F.entry_zip_next ?_ (F.args_zip_next_1 _))))
 have fin:∀(h':Heap) (e:Addr),(∀c o,c≠z->c≠TO->c≠i1->c≠i2->s.heap.get? c=some o->h'.get? c=some o)->(∃o,h'.get? e=some o/\o.cls=.type "StopIteration")->
   wpAny (model prog w) A (do if <- isInstance (.ref e) (.type "StopIteration")then pure none else throw (.ref e)) Q E { s with heap:=h' }:=fun h' e hk ⟨o,ho,hc⟩=>
  aa (bM (T:="StopIteration") (b:=true) ⟨o,ho,hc⟩ isSubtype_stop (ab (hQ _ hk)))
 show wpAny _ _ (field (.ref z) 2 >>= _) _ _ _
 refine aa (aJ hz rfl (x:=.bool false) rfl ?_)
 show wpAny _ _ (field (.ref z) 3 >>= _) _ _ _
 refine aa (aJ hz rfl (x:=.ref TI) rfl ?_)
 refine aa (bx hTI rfl ?_)
 show wpAny _ _ (Builtin.SmallTypes.ownedTupleIsFree (.ref z) >>= _) _ _ _
 refine aa ?_
 unfold Builtin.SmallTypes.ownedTupleIsFree
 refine aa (aJ hz rfl (x:=.none) rfl (ab ?_))
 simp only[if_true]
 refine aa (bu ?_)
 refine aa (aJ hz rfl (x:=.ref TO) rfl ?_)
 refine aa (bL hz (by simp) fun h₁ hz₁ hs₁=>?_)
 replace hz₁:IsZip h₁ z TI TO .ellipsis:=hz₁
 refine aa ?_
 simp only[List.zipIdx_cons,List.zipIdx_nil,cN,cD]
 refine aa (aa (wpAny_onRaise ?_))
 show wpAny _ _ (Builtin.SmallTypes.nextOf (.ref i1) >>= _) _ _ _
 have a1:=h1.at (h':=h₁) fun o e=>hs₁.extBut _ _ D.i1z e
 have b1:=hl1.at (h':=h₁) fun o e=>hs₁.extBut _ _ D.l1z e
 cases hx:xs[k1]? with
 |none=>
  refine aa (cf' (by first|exact hh|rfl) a1 b1 hx fun h₂ e hs₂ he=>?_)
  obtain⟨oe,hoe,hce⟩:=he
  have hz₂:IsZip h₂ z TI TO .ellipsis:=hs₂ _ _ D.i1z.symm hz₁
  have hez:e≠z:=fun x=>by subst x;rw[hz₂]at hoe;cases hoe;simp at hce
  refine bL hz₂ (by simp) fun h₃ _ hs₃=>fin h₃ e (fun c o c1 _ c3 _ x=>hs₃.extBut _ _ c1 (hs₂ _ _ c3 (hs₁.extBut _ _ c1 x))) ⟨oe,hs₃.extBut _ _ hez hoe,hce⟩
 |some x=>
  have hy:ys[k2]?=none:=by rcases hend with h|h;rw[hx]at h;cases h;exact h
  refine aa (bb' a1 b1 hx fun h₂ h1₂ hs₂=>ab ?_)
  have hTO₂:IsPair h₂ TO a b:=hs₂.extBut _ _ D.TOi1 (hs₁.extBut _ _ D.TOz hTO)
  refine aa (bx hTO₂ rfl ?_)
  refine aa (wpAny_updateSeq_pair hTO₂ fun h₃ hTO₃ hs₃=>?_)
  refine aa (wpAny_letGo (ab ?_))
  refine aa (aa (wpAny_onRaise ?_))
  show wpAny _ _ (Builtin.SmallTypes.nextOf (.ref i2) >>= _) _ _ _
  refine aa (cf' (by first|exact hh|rfl) (h2.at fun o e=>hs₃.extBut _ _ D.TOi2.symm (hs₂.extBut _ _ D.i12.symm (hs₁.extBut _ _ D.i2z e)))
   (hl2.at fun o e=>hs₃.extBut _ _ D.l2TO (hs₂.extBut _ _ D.l2i1 (hs₁.extBut _ _ D.l2z e))) hy fun h₄ e hs₄ he=>?_)
  obtain⟨oe,hoe,hce⟩:=he
  have hz₄:IsZip h₄ z TI TO .ellipsis:=hs₄ _ _ D.i2z.symm (hs₃.extBut _ _ D.TOz.symm (hs₂.extBut _ _ D.i1z.symm hz₁))
  have hez:e≠z:=fun x=>by subst x;rw[hz₄]at hoe;cases hoe;simp at hce
  refine bL hz₄ (by simp) fun h₅ _ hs₅=>fin h₅ e (fun c o c1 c2 c3 c4 x=>hs₅.extBut _ _ c1 (hs₄ _ _ c4 (hs₃.extBut _ _ c2 (hs₂.extBut _ _ c3 (hs₁.extBut _ _ c1 x))))) ⟨oe,hs₅.extBut _ _ hez hoe,hce⟩
end
def Its (x:Str):It:=⟨fun i _=>i<x.cps.size,fun i H v H'=>H'=H/\∃c,x.cps[i]?=some c/\v=.str ⟨#[c]⟩,fun i _=>x.cps.size<=i⟩
theorem lK' {P:Program} {w:World} {K:W.Frag} {tg:Expr} (it:Addr) (x:Str) (ty:String) (t:Tok) (hty:ty="str_ascii_iterator"\/ty="str_iterator"):
  Turn P w K tg (Its x) [it] it (fun i h=>h.IsStrIter it ty x t i) where
 mem:=by simp
 obj:=fun i h st b hb=>by
  have e:b=it:=by simpa using hb
  subst e
  obtain⟨o,e,c,d⟩:=st
  exact⟨o,e,fun v z=>by rw[d]at z;cases z⟩
 keep:=fun i h h' st k=>by
  obtain⟨o,e,r⟩:=st
  exact⟨o,k it (by simp) o e,r⟩
 item:=by
  intro X hP hw hK hc i pins s σ H E I hf st hg
  subst hP hw hK
  obtain⟨f0,f1,f2,f3,f4,f5⟩:=hf it (by simp)
  have hg':i<x.cps.size:=hg
  have hx:x.cps[i]?=some x.cps[i]:=by simp[hg']
  have fin:∀h',h'.IsStrIter it ty x t (i+1)->br it s.heap h'->∃u,some (Value.str ⟨#[x.cps[i]]⟩ s.toks)=some u/\
    wpAny (model X.prog X.w) X.A (letOwnedTupleGo tg (.ref it) u) (fun _ s2=>∃y H',Inv X pins σ H' s2/\av' y u/\(Its x).yld i H y H'/\s2.heap.IsStrIter it ty x t (i+1)/\∀b∈[it],H' b=none) E { s with heap:=h',toks:=s.toks+1 }:=fun h' st' sb=>by
   have I1:Inv X pins σ H { s with heap:=h',toks:=s.toks+1 }:=I.turned (fun b o hb e=>(sb.2 b hb).trans e) f0 f1 f3 f4 f5
   obtain⟨o,e,c,d⟩:=id st'
   refine⟨_,rfl,iL' (s:={ s with heap:=h',toks:=s.toks+1 }) e c d ?_ ⟨.str ⟨#[x.cps[i]]⟩,H,I1,⟨_,rfl⟩,⟨rfl,_,hx,rfl⟩,st',fun b hb=>(hf b hb).1⟩⟩
   rcases hty with rfl|rfl<;>decide
  rcases hty with rfl|rfl
  .exact wpAny_pyNext_ascii_item st hx fin
  .exact wpAny_pyNext_wide_item st hx fin
 done:=by
  intro X hP hw hK hc i pins s σ H E I hf st hg
  subst hP hw hK
  obtain⟨f0,f1,f2,f3,f4,f5⟩:=hf it (by simp)
  have hg':x.cps.size<=i:=hg
  have hx:x.cps[i]?=none:=by simp[hg']
  have fin:∀h',Heap.ExtBut it s.heap h'->(none:Option Value)=none/\Inv X pins σ H { s with heap:=h' }:=fun h' eb=>⟨rfl,I.turned (t':=s.toks) (fun b o hb e=>eb b o hb e) f0 f1 f3 f4 f5⟩
  rcases hty with rfl|rfl
  .exact wpAny_pyNext_ascii_end (I.ok.hd hc) st hx fin
  .exact wpAny_pyNext_wide_end (I.ok.hd hc) st hx fin
 self:=fun _ _ _ _ _ st h=>by
  rcases hty with rfl|rfl
  .exact wpAny_pyIter_striter_ascii st h
  .exact wpAny_pyIter_striter_wide st h
def Sq (k:Bool) (K:W.Frag) (H:Hp) (a:Addr) (xs:List V):Prop:=match k with
 |true=>SqT K H a xs
 |false=>SqL K H a xs
theorem Inv.sq {X:Cx} {pins:List (Addr×Obj)} {σ:St} {H:Hp} {s:Shared} {k:Bool} {a:Addr} {xs:List V} (I:Inv X pins σ H s) (h:Sq k X.K H a xs):∃its:List Value,aA' xs its/\dL' k s.heap a its.toArray/\xs.length<=sizeLine:=by
 cases k
 .obtain⟨its,r,p,z⟩:=I.list h
  exact⟨its,r,p.isList,z⟩
 .obtain⟨its,r,p,z⟩:=I.tuple h
  exact⟨its,r,p,z⟩
theorem Inv.sq_inj {X:Cx} {pins:List (Addr×Obj)} {σ:St} {H:Hp} {s:Shared} {k:Bool} {a:Addr} {xs ys:List V} (I:Inv X pins σ H s) (h:Sq k X.K H a xs) (h':Sq k X.K H a ys):xs=ys:=by
 cases k
 .exact I.list_inj h h'
 .exact I.tuple_inj h h'
def oX' (k j:Bool) (K:W.Frag) (a b:Addr):It:=
 ⟨fun i H=>∃xs ys x y,Sq k K H a xs/\Sq j K H b ys/\xs[i]?=some x/\ys[i]?=some y,
  fun i H v H'=>∃p x y,v=.ref p/\H p=none/\(∀xs,Sq k K H a xs->xs[i]?=some x)/\(∀ys,Sq j K H b ys->ys[i]?=some y)/\H'=upd H p (.tup [x,y]),
  fun i H=>∃xs ys,Sq k K H a xs/\Sq j K H b ys/\(xs.length<=i\/ys.length<=i)⟩
abbrev Itz (k:Bool) (K:W.Frag) (a b:Addr):It:=oX' k k K a b
def zTn (k j:Bool) (z TI TO i1 i2 l1 l2:Addr) (i:Nat) (h:Heap):Prop:=
 IsZip h z TI TO .none/\IsPair h TI (.ref i1) (.ref i2)/\(∃a b,IsPair h TO a b)/\ce' k h i1 l1 i/\ce' j h i2 l2 i
theorem lL' {P:Program} {w:World} {K:W.Frag} {elts:List Expr} {kt:Nat} {pt:Pos} {k j:Bool} {z TI TO i1 i2 l1 l2:Addr} (D:ZipApart z TI TO i1 i2 l1 l2):
  Turn P w K (.Tuple elts kt pt) (oX' k j K l1 l2) [z,TI,TO,i1,i2] z (zTn k j z TI TO i1 i2 l1 l2) where
 mem:=by simp
 obj:=fun i h st b hb=>by
  obtain⟨hz,hTI,⟨_,_,hTO⟩,h1,h2⟩:=st
  simp only[am,aB,or_false]at hb
  rcases hb with rfl|rfl|rfl|rfl|rfl
  .exact⟨_,hz,fun v=>(nomatch ·)⟩
  .exact⟨_,hTI,fun v=>(nomatch ·)⟩
  .exact⟨_,hTO,fun v=>(nomatch ·)⟩
  .obtain⟨o,e,d⟩:=h1.obj
   exact⟨o,e,fun v q=>by rw[d]at q;cases q⟩
  .obtain⟨o,e,d⟩:=h2.obj
   exact⟨o,e,fun v q=>by rw[d]at q;cases q⟩
 keep:=fun i h h' st kk=>by
  obtain⟨hz,hTI,⟨a,b,hTO⟩,h1,h2⟩:=st
  exact⟨kk z (by simp) _ hz,kk TI (by simp) _ hTI,⟨a,b,kk TO (by simp) _ hTO⟩,h1.at fun o e=>kk i1 (by simp) o e,h2.at fun o e=>kk i2 (by simp) o e⟩
 item:=by
  intro X hP hw hK hc i pins s σ H E I hf st hg
  subst hP hw hK
  obtain⟨xs,ys,x,y,hxs,hys,hx,hy⟩:=hg
  obtain⟨hz,hTI,⟨a,b,hTO⟩,h1,h2⟩:=st
  obtain⟨us,rus,ous,_⟩:=I.sq hxs
  obtain⟨vs,rvs,ovs,_⟩:=I.sq hys
  obtain⟨u,hu,ru⟩:=rus.get hx
  obtain⟨v,hv,rv⟩:=rvs.get hy
  refine gZ' D hz hTI hTO h1 h2 ous ovs (x:=u) (y:=v) (by simpa using hu) (by simpa using hv) fun h' hz' hTO' h1' h2' hT hsz hk=>?_
  refine⟨_,rfl,wpAny_letOwnedTupleGo_zip (s:={ s with heap:=h' }) hz' fun h'' hz'' hs=>?_⟩
  have hs':br z h' h'':=hs
  have zlt:z<s.heap.objs.size:=ap hz
  have neT:s.heap.objs.size≠z:=bm zlt
  have hkk:∀c o,c∉[z,TO,i1,i2]->s.heap.get? c=some o->h''.get? c=some o:=fun c o hc e=>by
   simp only[am,aB,or_false,not_or]at hc
   exact(hs'.2 c hc.1).trans (hk c o hc.1 hc.2.1 hc.2.2.1 hc.2.2.2 e)
  have sub:∀c∈[z,TO,i1,i2],c∈[z,TI,TO,i1,i2]:=fun c hc=>by
   simp only[am,aB,or_false]at hc ⊢
   rcases hc with h|h|h|h
   .exact .inl h
   .exact .inr (.inr (.inl h))
   .exact .inr (.inr (.inr (.inl h)))
   .exact .inr (.inr (.inr (.inr h)))
  have hTn:H s.heap.objs.size=none:=I.hok.fresh (ag _)
  have trk:∀c o,H c=some o->c∉[z,TO,i1,i2]:=fun c o e hc=>by rw[(hf c (sub c hc)).1]at e;cases e
  have I1:Inv X pins σ (upd H s.heap.objs.size (.tup [x,y])) { s with heap:=h'' }:=by
   refine I.step (g':=s.gens) (d':=s.drawn) (t':=s.toks) (ch:=[z,TO,i1,i2]) (fun c hc=>?_) (fun c o _ _ hc e _=>hkk c o hc e) (fun c o _ _ hc e _=>⟨o.slots,hkk c o hc e⟩)
    (fun c o _ e n=>by rw[ad' (ay (ap e))];exact n) (fun c o hc e=>⟨o,hkk c o hc e⟩) (fun c ps e=>by rw[ad' (af' e hTn)];exact e) (fun c o p e=>by rw[ad' (af' e hTn)];exact e)
    (fun c ps e=>⟨#[],by rw[ad' (af' e hTn),e];simp⟩) (fun m hm=>?_) (fun c o e=>?_) I.bare
   .obtain⟨f0,f1,f2,f3,f4,f5⟩:=hf c (sub c hc)
    exact⟨f3,f1,f4,f5⟩
   .obtain⟨oo,es,ep,ho,r⟩:=hm
    exact⟨oo,es,ep,hkk _ oo (fun hc=>(hf _ (sub _ hc)).2.1 rfl) ho,r⟩
   .by_cases hb:c=s.heap.objs.size
    .subst hb
     rw[ab']at e;cases e
     exact⟨by show 2<=sizeLine;decide,[u,v],.cons ru (.cons rv .nil),⟨_,(hs'.2 _ neT).trans hT,rfl,⟨_,rfl⟩,rfl⟩⟩
    .rw[ad' hb]at e
     refine(I.hok c o e).stay (fun d q hd eq=>hkk d q ?_ eq) (fun d q=>by rw[ad' (af' q hTn)];exact q) fun d qs q=>by rw[ad' (af' q hTn)];exact q
     rcases hd with rfl|hd
     .exact trk _ _ e
     .exact trk _ _ hd
  refine⟨.ref s.heap.objs.size,_,I1,rfl,⟨s.heap.objs.size,x,y,rfl,hTn,fun xs' h'=>by rw[I.sq_inj h' hxs];exact hx,fun ys' h'=>by rw[I.sq_inj h' hys];exact hy,rfl⟩,⟨hz'',?_,⟨u,v,?_⟩,?_,?_⟩,fun c hc=>?_⟩
  .exact(hs'.2 TI D.TIz).trans (hk TI _ D.TIz D.TITO D.TIi1 D.TIi2 hTI)
  .exact(hs'.2 TO D.TOz).trans hTO'
  .exact h1'.at fun o e=>(hs'.2 i1 D.i1z).trans e
  .exact h2'.at fun o e=>(hs'.2 i2 D.i2z).trans e
  .rw[ad']
   .exact(hf c hc).1
   .intro q
    subst q
    simp only[am,aB,or_false]at hc
    rcases hc with q|q|q|q|q
    .exact neT q
    .exact aV _ (q ▸ ap hTI)
    .exact aV _ (q ▸ ap hTO)
    .obtain⟨o,e,_⟩:=h1.obj
     exact aV _ (q ▸ ap e)
    .obtain⟨o,e,_⟩:=h2.obj
     exact aV _ (q ▸ ap e)
 done:=by
  intro X hP hw hK hc i pins s σ H E I hf st hg
  subst hP hw hK
  obtain⟨xs,ys,hxs,hys,hend⟩:=hg
  obtain⟨hz,hTI,⟨a,b,hTO⟩,h1,h2⟩:=st
  obtain⟨us,rus,ous,_⟩:=I.sq hxs
  obtain⟨vs,rvs,ovs,_⟩:=I.sq hys
  have l1':=rus.length
  have l2':=rvs.length
  refine je' (I.ok.hd hc) D hz hTI hTO h1 h2 ous ovs ?_ fun h' hk=>⟨rfl,?_⟩
  .rcases hend with q|q
   .exact .inl (by simp;omega)
   .exact .inr (by simp;omega)
  have sub:∀c∈[z,TO,i1,i2],c∈[z,TI,TO,i1,i2]:=fun c hc=>by
   simp only[am,aB,or_false]at hc ⊢
   rcases hc with h|h|h|h
   .exact .inl h
   .exact .inr (.inr (.inl h))
   .exact .inr (.inr (.inr (.inl h)))
   .exact .inr (.inr (.inr (.inr h)))
  have hkk:∀c o,c∉[z,TO,i1,i2]->s.heap.get? c=some o->h'.get? c=some o:=fun c o hc e=>by
   simp only[am,aB,or_false,not_or]at hc
   exact hk c o hc.1 hc.2.1 hc.2.2.1 hc.2.2.2 e
  have trk:∀c o,H c=some o->c∉[z,TO,i1,i2]:=fun c o e hc=>by rw[(hf c (sub c hc)).1]at e;cases e
  refine I.step (g':=s.gens) (d':=s.drawn) (t':=s.toks) (ch:=[z,TO,i1,i2]) (fun c hc=>?_) (fun c o _ _ hc e _=>hkk c o hc e) (fun c o _ _ hc e _=>⟨o.slots,hkk c o hc e⟩)
    (fun c o _ e n=>n) (fun c o hc e=>⟨o,hkk c o hc e⟩) (fun c ps e=>e) (fun c o p e=>e) (fun c ps e=>⟨#[],by rw[e];simp⟩) (fun m hm=>?_) (fun c o e=>?_) I.bare
  .obtain⟨f0,f1,f2,f3,f4,f5⟩:=hf c (sub c hc)
   exact⟨f3,f1,f4,f5⟩
  .obtain⟨oo,es,ep,ho,r⟩:=hm
   exact⟨oo,es,ep,hkk _ oo (fun hc=>(hf _ (sub _ hc)).2.1 rfl) ho,r⟩
  .refine(I.hok c o e).stay (fun d q hd eq=>hkk d q ?_ eq) (fun d q=>q) fun d qs q=>q
   rcases hd with rfl|hd
   .exact trk _ _ e
   .exact trk _ _ hd
 self:=fun _ _ _ _ _ st h=>wpAny_pyIter_zip st.1 h
section
variable {X:Cx} {tg:Expr}
def vK' (K:W.Frag) (tl:TE):TI:=fun σ H R=>tl σ H fun x H1=>
 (∃a,x=.ref a/\(∃xs,SqL K H1 a xs)/\R (Itl K a) H1)\/(∃a,x=.ref a/\(∃xs,SqT K H1 a xs)/\R (Itt K a) H1)\/∃z,x=.str z/\R (Its z) H1
theorem rK' {l:Expr} {tl:TE} (hl:PE X l tl):PI X tg l (vK' X.K tl):=by
 intro pins s σ H R I h
 refine thn (hl pins s σ H _ I h) fun v s1 ⟨x,H1,I1,r1,q1⟩=>?_
 rcases q1 with⟨a,e,⟨xs,hq⟩,q⟩|⟨a,e,⟨xs,hq⟩,q⟩|⟨z,e,q⟩
 .subst e
  cases r1
  obtain⟨its,rv,p,hz⟩:=I1.list hq
  refine cP p.isList ?_
  refine⟨s1.heap.objs.size,[s1.heap.objs.size],_,_,H1,rfl,I1.kept (t':=s1.toks) fun b o e=>ac _ e,iM' a _,⟨_,ai _ rfl,rfl,rfl⟩,fun b hb=>?_,q⟩
  have e:b=s1.heap.objs.size:=by simpa using hb
  subst e
  exact I1.fpOk (ag _) (I1.hok.fresh (ag _))
 .subst e
  cases r1
  obtain⟨its,rv,p,hz⟩:=I1.tuple hq
  refine bB (show s1.heap.IsTuple a its.toArray from p) ?_
  refine⟨s1.heap.objs.size,[s1.heap.objs.size],_,_,H1,rfl,I1.kept (t':=s1.toks) fun b o e=>ac _ e,hW' a _,⟨_,ai _ rfl,rfl,rfl⟩,fun b hb=>?_,q⟩
  have e:b=s1.heap.objs.size:=by simpa using hb
  subst e
  exact I1.fpOk (ag _) (I1.hok.fresh (ag _))
 .subst e
  obtain⟨t,rfl⟩:=r1
  have fin:∀(ty:String),(ty="str_ascii_iterator"\/ty="str_iterator")->PIE X pins σ tg R (.ref s1.heap.objs.size) { s1 with heap:=s1.heap.push { cls:=.type ty,data:=.fields #[.str z t,.int 0 0] } }:=fun ty hty=>by
   refine⟨s1.heap.objs.size,[s1.heap.objs.size],_,_,H1,rfl,I1.kept (t':=s1.toks) fun b o e=>ac _ e,lK' _ z ty t hty,⟨_,ai _ rfl,rfl,rfl⟩,fun b hb=>?_,q⟩
   have e:b=s1.heap.objs.size:=by simpa using hb
   subst e
   exact I1.fpOk (ag _) (I1.hok.fresh (ag _))
  cases ha:z.cps.all (· < 128)
  .exact wpAny_pyIter_wide ha (fin _ (.inr rfl))
  .exact wpAny_pyIter_ascii ha (fin _ (.inl rfl))
def vL' (K:W.Frag) (ta:TA):TI:=fun σ H R=>ta σ H fun vs H1=>∃(k j:Bool) (a b:Addr),vs=[.ref a,.ref b]/\(∃xs,Sq k K H1 a xs)/\(∃ys,Sq j K H1 b ys)/\R (oX' k j K a b) H1
theorem rL' {a b:Expr} {ta:TA} {p pos:Pos} {elts:List Expr} {kt:Nat} {pt:Pos} (hg:Gl X "zip") (hm:X.mg "zip"=none) (ha:PA X [a,b] ta) (hs:starEach [a,b] X.env=[(false,eval a X.env),(false,eval b X.env)]) (hs2:starEach [b] X.env=[(false,eval b X.env)]):
  PI X (.Tuple elts kt pt) (.Call (.Name "zip" p) [a,b] [] pos) (vL' X.K ta):=by
 intro pins s σ H R I h
 refine Call_ (c9' I hg hm boot_zip (PyProof.Rows.callWith_type1 (thn (ha pos pins s σ H _ I h) fun us s1 ⟨vs,H1,I1,r1,q1⟩=>?_) (by rw[hs,hs2]) (by rw[hs2];rfl)))
 obtain⟨k,j,a,b,e,⟨xs,hxs⟩,⟨ys,hys⟩,q⟩:=q1
 subst e
 cases r1 with
 |cons r rr=>
  cases rr with
  |cons r' rr=>
   cases rr
   cases r
   cases r'
   obtain⟨us,rus,ous,_⟩:=I1.sq hxs
   obtain⟨vs,rvs,ovs,_⟩:=I1.sq hys
   refine oW' ous ovs fun h' hz hTI hTO h1 h2 hsz hk=>wpAny_pyIter_zip hz ?_
   refine⟨s1.heap.objs.size+4,[s1.heap.objs.size+4,s1.heap.objs.size+2,s1.heap.objs.size+3,s1.heap.objs.size,s1.heap.objs.size+1],_,_,H1,rfl,I1.kept (t':=s1.toks) hk,lL' (k:=k) (j:=j) (PyProof.Rows.zipApart_new ous.lt ovs.lt),⟨hz,hTI,⟨_,_,hTO⟩,h1,h2⟩,fun c hc=>?_,q⟩
   have hle:s1.heap.objs.size<=c:=by
    simp only[am,aB,or_false]at hc
    rcases hc with rfl|rfl|rfl|rfl|rfl
    .exact aX _ _
    .exact aX _ _
    .exact aX _ _
    .exact ag _
    .exact aX _ _
   exact I1.fpOk hle (I1.hok.fresh hle)
end
def Itd (go:Nat->Hp->Prop) (val:Nat->Hp->V->Prop) (stop:Nat->Hp->Prop):It:=
 ⟨go,fun i H v H'=>∃p x,v=.ref p/\H p=none/\val i H x/\H'=upd H p (.tup [.int i,x]),stop⟩
structure EnSrc (P:Program) (w:World) (K:W.Frag) (e it:Addr) (Sx:Nat->Heap->Prop) (go:Nat->Hp->Prop) (val:Nat->Hp->V->Prop) (stop:Nat->Hp->Prop):Prop where
 ne:e≠it
 obj:∀i h,Sx i h->∃o,h.get? it=some o/\∀v,o.data≠.cell v
 keep:∀i h h',Sx i h->(∀o,h.get? it=some o->h'.get? it=some o)->Sx i h'
 item:∀(X:Cx),X.prog=P->X.w=w->X.K=K->X.calm=true->∀(i:Nat) (pins:List (Addr×Obj)) (s:Shared) (σ:St) (H:Hp),Inv X pins σ H s->H e=none->H it=none->e<s.heap.objs.size->(∃old,IsEnum s.heap e it i old)->Sx i s.heap->go i H->
  ∃n Pd Sd fp,Draws P w X.A.in1 it fp n Pd Sd/\e∉fp/\i<n/\Sd i s.heap/\(∀j h,Sd j h->Sx j h)/\∀u,Pd i u->∃x,av' x u/\val i H x
 done:∀(X:Cx),X.prog=P->X.w=w->X.K=K->X.calm=true->∀(i:Nat) (pins:List (Addr×Obj)) (s:Shared) (σ:St) (H:Hp),Inv X pins σ H s->H e=none->H it=none->(∃old,IsEnum s.heap e it i old)->Sx i s.heap->stop i H->
  ∃Pd Sd fp,Draws P w X.A.in1 it fp i Pd Sd/\Sd i s.heap
theorem dM' {P:Program} {w:World} {K:W.Frag} {elts:List Expr} {kt:Nat} {pt:Pos} {e it:Addr} {Sx:Nat->Heap->Prop} {go:Nat->Hp->Prop} {val:Nat->Hp->V->Prop} {stop:Nat->Hp->Prop} (S:EnSrc P w K e it Sx go val stop):
  Turn P w K (.Tuple elts kt pt) (Itd go val stop) [e,it] e (fun i h=>(∃old,IsEnum h e it i old)/\Sx i h) where
 mem:=by simp
 obj:=fun i h st b hb=>by
  obtain⟨⟨old,he⟩,hs⟩:=st
  simp only[am,aB,or_false]at hb
  rcases hb with rfl|rfl
  .exact⟨_,he,fun v=>(nomatch ·)⟩
  .exact S.obj i h hs
 keep:=fun i h h' st kk=>by
  obtain⟨⟨old,he⟩,hs⟩:=st
  exact⟨⟨old,kk e (by simp) _ he⟩,S.keep i h h' hs fun o q=>kk it (by simp) o q⟩
 item:=by
  intro X hP hw hK hc i pins s σ H E I hf st hg
  have hfe:=hf e (by simp)
  have hfi:=hf it (by simp)
  obtain⟨n,Pd,Sd,fp,D,hefp,hin,hsd,hsub,hval⟩:=S.item X hP hw hK hc i pins s σ H I hfe.1 hfi.1 (ap st.1.choose_spec) st.1 st.2 hg
  obtain⟨⟨old,he⟩,hs⟩:=st
  subst hP hw hK
  refine wpAny_pyNext_enum_itemD D he hsd hin S.ne hefp fun u h' tk hPu ho hs' hT hsz hk=>?_
  obtain⟨x,rx,vx⟩:=hval u hPu
  refine⟨_,rfl,wpAny_letOwnedTupleGo_enum (s:={ s with heap:=h',toks:=tk+1 }) ho fun h'' he'' hb=>?_⟩
  have hb':br e h' h'':=hb
  have elt:e<s.heap.objs.size:=ap he
  have neT:s.heap.objs.size≠e:=bm elt
  have hTn:H s.heap.objs.size=none:=I.hok.fresh (ag _)
  have hkk:∀c o,c∉[e,it]->s.heap.get? c=some o->h''.get? c=some o:=fun c o hc q=>by
   simp only[am,aB,or_false,not_or]at hc
   exact(hb'.2 c hc.1).trans (hk c o hc.1 hc.2 q)
  have trk:∀c o,H c=some o->c∉[e,it]:=fun c o q hc=>by rw[(hf c hc).1]at q;cases q
  have I1:Inv X pins σ (upd H s.heap.objs.size (.tup [.int i,x])) { s with heap:=h'',toks:=tk+1 }:=by
   refine I.step (g':=s.gens) (d':=s.drawn) (t':=tk+1) (ch:=[e,it]) (fun c hc=>?_) (fun c o _ _ hc q _=>hkk c o hc q) (fun c o _ _ hc q _=>⟨o.slots,hkk c o hc q⟩)
    (fun c o _ q n=>by rw[ad' (ay (ap q))];exact n) (fun c o hc q=>⟨o,hkk c o hc q⟩) (fun c ps q=>by rw[ad' (af' q hTn)];exact q) (fun c o p q=>by rw[ad' (af' q hTn)];exact q)
    (fun c ps q=>⟨#[],by rw[ad' (af' q hTn),q];simp⟩) (fun m hm=>?_) (fun c o q=>?_) I.bare
   .obtain⟨f0,f1,f2,f3,f4,f5⟩:=hf c hc
    exact⟨f3,f1,f4,f5⟩
   .obtain⟨oo,es,ep,ho,r⟩:=hm
    exact⟨oo,es,ep,hkk _ oo (fun hc=>(hf _ hc).2.1 rfl) ho,r⟩
   .by_cases hb:c=s.heap.objs.size
    .subst hb
     rw[ab']at q;cases q
     exact⟨by show 2<=sizeLine;decide,[.int i tk,u],.cons ⟨_,rfl⟩ (.cons rx .nil),⟨_,(hb'.2 _ neT).trans hT,rfl,⟨_,rfl⟩,rfl⟩⟩
    .rw[ad' hb]at q
     refine(I.hok c o q).stay (fun d q hd eq=>hkk d q ?_ eq) (fun d q=>by rw[ad' (af' q hTn)];exact q) fun d qs q=>by rw[ad' (af' q hTn)];exact q
     rcases hd with rfl|hd
     .exact trk _ _ (by assumption)
     .exact trk _ _ hd
  refine⟨.ref s.heap.objs.size,_,I1,rfl,⟨s.heap.objs.size,x,rfl,hTn,vx,rfl⟩,⟨⟨_,he''⟩,S.keep _ _ _ (hsub _ _ hs') fun o q=>(hb'.2 it (Ne.symm S.ne)).trans q⟩,fun c hc=>?_⟩
  rw[ad']
  .exact(hf c hc).1
  .intro q
   subst q
   simp only[am,aB,or_false]at hc
   rcases hc with q|q
   .exact neT q
   .obtain⟨o,e1,_⟩:=S.obj _ _ hs
    exact aV _ (q ▸ ap e1)
 done:=by
  intro X hP hw hK hc i pins s σ H E I hf st hg
  have hfe:=hf e (by simp)
  have hfi:=hf it (by simp)
  obtain⟨Pd,Sd,fp,D,hsd⟩:=S.done X hP hw hK hc i pins s σ H I hfe.1 hfi.1 st.1 st.2 hg
  obtain⟨⟨old,he⟩,hs⟩:=st
  subst hP hw hK
  refine wpAny_pyNext_enum_endD D he hsd fun h' hx=>⟨rfl,?_⟩
  obtain⟨f0,f1,f2,f3,f4,f5⟩:=hfi
  exact I.turned (t':=s.toks) (fun b o hb q=>hx b o hb q) f0 f1 f3 f4 f5
 self:=fun _ _ _ _ _ st h=>by
  obtain⟨⟨old,he⟩,_⟩:=st
  exact wpAny_pyIter_enum he h
def Ite (K:W.Frag) (a:Addr):It:=Itd (fun i H=>∃xs x,SqL K H a xs/\xs[i]?=some x) (fun i H x=>∀xs,SqL K H a xs->xs[i]?=some x) (fun i H=>∃xs,SqL K H a xs/\xs.length=i)
theorem oY' {P:Program} {w:World} {K:W.Frag} {e it a:Addr} (ne:e≠it) (na:a≠e) (nai:a≠it):EnSrc P w K e it (fun i h=>h.IsListIter it a i) (fun i H=>∃xs x,SqL K H a xs/\xs[i]?=some x) (fun i H x=>∀xs,SqL K H a xs->xs[i]?=some x) (fun i H=>∃xs,SqL K H a xs/\xs.length=i) where
 ne:=ne
 obj:=fun i h st=>by
  obtain⟨o,q,c,d⟩:=st
  exact⟨o,q,fun v z=>by rw[d]at z;cases z⟩
 keep:=fun i h h' st k=>st.at k
 item:=by
  intro X hP hw hK hc i pins s σ H I _ _ _ _ st hg
  obtain⟨xs,x,hxs,hx⟩:=hg
  subst hP hw hK
  obtain⟨its,rv,p,hz⟩:=I.list hxs
  have hl:=rv.length
  obtain⟨u,hu,ru⟩:=rv.get hx
  refine⟨_,_,_,_,Draws.list (show X.A.in1.handled=none from I.ok.hd hc) it a nai its.toArray,?_,?_,⟨st,p.isList⟩,fun j h q=>q.1,fun u' hu'=>⟨x,?_,fun ys hys=>by rw[I.list_inj hys hxs];exact hx⟩⟩
  .simp only[am,aB,or_false,not_or]
   exact⟨ne,Ne.symm na⟩
  .have:=(aM.mp hx).1
   simp;omega
  .have e2:its[i]?=some u':=by simpa using hu'
   rw[hu]at e2
   cases e2
   exact ru
 done:=by
  intro X hP hw hK hc i pins s σ H I _ _ _ st hg
  obtain⟨xs,hxs,hx⟩:=hg
  subst hP hw hK
  obtain⟨its,rv,p,hz⟩:=I.list hxs
  have hl:=rv.length
  have e:i=its.toArray.size:=by simp;omega
  subst e
  exact⟨_,_,_,Draws.list (show X.A.in1.handled=none from I.ok.hd hc) it a nai its.toArray,st,p.isList⟩
def u5' (z:Str):It:=Itd (fun i _=>i<z.cps.size) (fun i _ v=>∃c,z.cps[i]?=some c/\v=.str ⟨#[c]⟩) (fun i _=>z.cps.size=i)
theorem rM' {P:Program} {w:World} {K:W.Frag} {e it:Addr} {z:Str} {t:Tok} {ty:String} (hty:ty="str_ascii_iterator"\/ty="str_iterator") (ne:e≠it):EnSrc P w K e it (fun i h=>h.IsStrIter it ty z t i) (fun i _=>i<z.cps.size) (fun i _ v=>∃c,z.cps[i]?=some c/\v=.str ⟨#[c]⟩) (fun i _=>z.cps.size=i) where
 ne:=ne
 obj:=fun i h st=>by
  obtain⟨o,q,c,d⟩:=st
  exact⟨o,q,fun v z=>by rw[d]at z;cases z⟩
 keep:=fun i h h' st k=>by
  obtain⟨o,q,r⟩:=st
  exact⟨o,k o q,r⟩
 item:=by
  intro X hP hw hK hc i pins s σ H I _ _ _ _ st hg
  subst hP hw hK
  have hh:X.A.in1.handled=none:=I.ok.hd hc
  rcases hty with rfl|rfl
  .refine⟨_,_,_,_,Draws.strAscii hh it z t,by simpa using ne,hg,st,fun j h q=>q,fun u hu=>?_⟩
   obtain⟨c,t',hc',rfl⟩:=hu
   exact⟨.str ⟨#[c]⟩,⟨_,rfl⟩,c,hc',rfl⟩
  .refine⟨_,_,_,_,Draws.strWide hh it z t,by simpa using ne,hg,st,fun j h q=>q,fun u hu=>?_⟩
   obtain⟨c,t',hc',rfl⟩:=hu
   exact⟨.str ⟨#[c]⟩,⟨_,rfl⟩,c,hc',rfl⟩
 done:=by
  intro X hP hw hK hc i pins s σ H I _ _ _ st hg
  subst hP hw hK
  have hh:X.A.in1.handled=none:=I.ok.hd hc
  have hg':z.cps.size=i:=hg
  subst hg'
  rcases hty with rfl|rfl
  .exact⟨_,_,_,Draws.strAscii hh it z t,st⟩
  .exact⟨_,_,_,Draws.strWide hh it z t,st⟩
theorem fD' {prog:Program} {w:World} {A:Around} (hh:A.handled=none) (it l:Addr) (hne:l≠it) (items:Array Value):
  Draws prog w A it [it,l] items.size (fun i v=>items[i]?=some v) (fun i h=>ce' true h it l i/\dL' true h l items) where
 live:=fun _ _ st=>let⟨o,ho,_⟩:=st.1.obj;⟨o,ho⟩
 frame:=fun _ _ _ st hk=>⟨st.1.at fun o e=>hk it (by simp) o e,st.2.at fun o e=>hk l (by simp) o e⟩
 item:=fun i s Q E hi st hQ=>by
  refine bb' st.1 st.2 (x:=items[i]) (by simp[hi]) fun h' hit' hs'=>?_
  exact hQ _ h' s.toks (by simp[hi]) ⟨hit',st.2.at fun o e=>hs'.extBut l o hne e⟩ hs'
 done:=fun s Q E st hE=>cf' hh st.1 st.2 (by simp) hE
set_option tactic.hygienic true in
open AutoSeq1 (wpAny_loadPart') in
theorem ck' (l:Addr) (items:Array Value) (n:Nat) (dct:Option Addr) (sl:Array (Option Value)):
  Meets (Builtin.«enumerate.__new__» ⟨[.type "enumerate",.ref l],[]⟩) (fun _ R s=>s.heap.get? l=some { cls:=.type "tuple",dict:=dct,data:=.seq items n,slots:=sl }/\
   R (.ok (.ret (.ref (s.heap.push { cls:=.type "tuple_iterator",data:=.fields #[.ref l,.int 0 0] }).objs.size)))
    { s with heap:=(s.heap.push { cls:=.type "tuple_iterator",data:=.fields #[.ref l,.int 0 0] }).push { cls:=.type "enumerate",data:=.fields #[.none,.bool false,.ref s.heap.objs.size,rawInt 0,.none,.none] } }):=
 .of_wp fun prog w A R s h=>by
  obtain⟨hp,g,d,tk,os⟩:=s;obtain⟨hl,h⟩:=h
  have hsub:=sub_enumerate
  have hL:Heap.IsTuple (Shared.heap ⟨hp,g,d,tk,os⟩) l items:=⟨_,hl,rfl,n,rfl⟩
  wp_walk using wpAny_loadPart' hl
  refine wpAny_stack_any fun st=>ab ?_
  split
  .rename_i c _ _ _ _ _
   cases(c == Value.type "enumerate")
   .wp_walk using wpAny_loadPart' hl,bB hL
    exact⟨_,rfl,h⟩
   .wp_walk using wpAny_loadPart' hl,bB hL
    exact⟨_,rfl,h⟩
  .wp_walk using wpAny_loadPart' hl,bB hL
   exact⟨_,rfl,h⟩
theorem cl' {prog:Program} {w:World} {A:Around} {E:Value->Shared->Prop} {s:Shared} {l:Addr} {items:Array Value} {Q:Value->Shared->Prop} (hL:s.heap.IsTuple l items)
  (h:∀h',IsEnum h' (s.heap.objs.size+1) s.heap.objs.size 0 .none->ce' true h' s.heap.objs.size l 0->h'.objs.size=s.heap.objs.size+2->
   (∀b o,s.heap.get? b=some o->h'.get? b=some o)->Q (.ref (s.heap.objs.size+1)) { s with heap:=h' }):
  wpAny (model prog w) A (call (.type "enumerate") [.ref l]) Q E s:=by
 obtain⟨⟨c,dct,dt,sl⟩,hl,hc,n,hd⟩:=hL
 replace hc:c=.type "tuple":=hc
 replace hd:dt=.seq items n:=hd
 subst hc hd
 refine callType_new F.called_enumerate (by decide) (F.typeCall_enumerate_1 _) (F.newCall_enumerate_1 _) (fun obj=>F.args_object_init_2 obj _) F.entry_enumerate_new
  (ck' l items n dct sl) ⟨hl,?_⟩
 have hz:(s.heap.push { cls:=.type "tuple_iterator",data:=.fields #[.ref l,.int 0 0] }).objs.size=s.heap.objs.size+1:=aS ..
 show _/\_
 rw[hz]
 have he:IsEnum ((s.heap.push { cls:=.type "tuple_iterator",data:=.fields #[.ref l,.int 0 0] }).push
   { cls:=.type "enumerate",data:=.fields #[.none,.bool false,.ref s.heap.objs.size,rawInt 0,.none,.none] }) (s.heap.objs.size+1) s.heap.objs.size 0 .none:=by
  have:=ai (s.heap.push { cls:=.type "tuple_iterator",data:=.fields #[.ref l,.int 0 0] })
   (o:={ cls:=.type "enumerate",data:=.fields #[.none,.bool false,.ref s.heap.objs.size,rawInt 0,.none,.none] }) rfl
  rw[hz]at this;exact this
 refine⟨⟨_,he,rfl⟩,h _ he ⟨_,ac _ (ai _ rfl),rfl,rfl⟩ (by rw[aS,hz]) fun b o x=>ac _ (ac _ x)⟩
def u6' (K:W.Frag) (a:Addr):It:=Itd (fun i H=>∃xs x,SqT K H a xs/\xs[i]?=some x) (fun i H x=>∀xs,SqT K H a xs->xs[i]?=some x) (fun i H=>∃xs,SqT K H a xs/\xs.length=i)
theorem rN' {P:Program} {w:World} {K:W.Frag} {e it a:Addr} (ne:e≠it) (na:a≠e) (nai:a≠it):EnSrc P w K e it (fun i h=>ce' true h it a i) (fun i H=>∃xs x,SqT K H a xs/\xs[i]?=some x) (fun i H x=>∀xs,SqT K H a xs->xs[i]?=some x) (fun i H=>∃xs,SqT K H a xs/\xs.length=i) where
 ne:=ne
 obj:=fun i h st=>by
  obtain⟨o,q,d⟩:=st.obj
  exact⟨o,q,fun v z=>by rw[d]at z;cases z⟩
 keep:=fun i h h' st k=>st.at k
 item:=by
  intro X hP hw hK hc i pins s σ H I _ _ _ _ st hg
  obtain⟨xs,x,hxs,hx⟩:=hg
  subst hP hw hK
  obtain⟨its,rv,p,hz⟩:=I.tuple hxs
  have hl:=rv.length
  obtain⟨u,hu,ru⟩:=rv.get hx
  refine⟨_,_,_,_,fD' (show X.A.in1.handled=none from I.ok.hd hc) it a nai its.toArray,?_,?_,⟨st,p⟩,fun j h q=>q.1,fun u' hu'=>⟨x,?_,fun ys hys=>by rw[I.tuple_inj hys hxs];exact hx⟩⟩
  .simp only[am,aB,or_false,not_or]
   exact⟨ne,Ne.symm na⟩
  .have:=(aM.mp hx).1
   simp;omega
  .have e2:its[i]?=some u':=by simpa using hu'
   rw[hu]at e2
   cases e2
   exact ru
 done:=by
  intro X hP hw hK hc i pins s σ H I _ _ _ st hg
  obtain⟨xs,hxs,hx⟩:=hg
  subst hP hw hK
  obtain⟨its,rv,p,hz⟩:=I.tuple hxs
  have hl:=rv.length
  have e:i=its.toArray.size:=by simp;omega
  subst e
  exact⟨_,_,_,fD' (show X.A.in1.handled=none from I.ok.hd hc) it a nai its.toArray,st,p⟩
section
variable {X:Cx}
def oZ' (K:W.Frag) (tl:TE):TI:=fun σ H R=>cB' tl iC' σ H fun vs H1=>∃x,vs=[x]/\
 ((∃a,x=.ref a/\(∃xs,SqL K H1 a xs)/\R (Ite K a) H1)\/(∃z,x=.str z/\R (u5' z) H1)\/∃a,x=.ref a/\(∃xs,SqT K H1 a xs)/\R (u6' K a) H1)
theorem el':bootBuiltins "enumerate"=some (.type "enumerate"):=by decide +kernel
theorem o0' {a:Expr} {tl:TE} {p pos:Pos} {elts:List Expr} {kt:Nat} {pt:Pos} (hg:Gl X "enumerate") (hm:X.mg "enumerate"=none) (ha:PA X [a] (cB' tl iC')) (hs:starEach [a] X.env=[(false,eval a X.env)]):
  PI X (.Tuple elts kt pt) (.Call (.Name "enumerate" p) [a] [] pos) (oZ' X.K tl):=by
 intro pins s σ H R I h
 have h':cB' tl iC' σ H (fun vs H1=>∃x,vs=[x]/\((∃a,x=.ref a/\(∃xs,SqL X.K H1 a xs)/\R (Ite X.K a) H1)\/(∃z,x=.str z/\R (u5' z) H1)\/∃a,x=.ref a/\(∃xs,SqT X.K H1 a xs)/\R (u6' X.K a) H1)):=h
 refine Call_ (c9' I hg hm el' (PyProof.Rows.callWith_type1 (thn (ha pos pins s σ H _ I h') fun us s1 ⟨vs,H1,I1,r1,q1⟩=>?_) (by rw[hs];rfl) (by rfl)))
 obtain⟨x,e,q1⟩:=q1
 subst e
 cases r1 with
 |cons r rr=>
  cases rr
  rcases q1 with⟨a,rfl,⟨xs,hxs⟩,q⟩|⟨z,rfl,q⟩|⟨a,rfl,⟨xs,hxs⟩,q⟩
  .cases r
   obtain⟨its,rv,pl,hz⟩:=I1.list hxs
   refine call_enumerate_list pl.isList fun h' he hit hsz hk=>wpAny_pyIter_enum he ?_
   have la:a<s1.heap.objs.size:=by
    obtain⟨o,q,_⟩:=pl.isList
    exact ap q
   refine⟨s1.heap.objs.size+1,[s1.heap.objs.size+1,s1.heap.objs.size],_,_,H1,rfl,I1.kept (t':=s1.toks) hk,dM' (oY' (Nat.succ_ne_self _) (ay (cv la)) (ay la)),⟨⟨_,he⟩,hit⟩,fun c hc=>?_,q⟩
   have hle:s1.heap.objs.size<=c:=by
    simp only[am,aB,or_false]at hc
    rcases hc with rfl|rfl<;>omega
   exact I1.fpOk hle (I1.hok.fresh hle)
  .obtain⟨t,rfl⟩:=r
   refine call_enumerate_str fun h' he hit hsz hk=>wpAny_pyIter_enum he ?_
   have hty:strIterType z="str_ascii_iterator"\/strIterType z="str_iterator":=by
    unfold strIterType
    split
    .exact .inl rfl
    .exact .inr rfl
   refine⟨s1.heap.objs.size+1,[s1.heap.objs.size+1,s1.heap.objs.size],_,_,H1,rfl,I1.kept (t':=s1.toks) hk,dM' (rM' hty (Nat.succ_ne_self _)),⟨⟨_,he⟩,hit⟩,fun c hc=>?_,q⟩
   have hle:s1.heap.objs.size<=c:=by
    simp only[am,aB,or_false]at hc
    rcases hc with rfl|rfl<;>omega
   exact I1.fpOk hle (I1.hok.fresh hle)
  .cases r
   obtain⟨its,rv,pl,hz⟩:=I1.tuple hxs
   refine cl' (show s1.heap.IsTuple a its.toArray from pl) fun h' he hit hsz hk=>wpAny_pyIter_enum he ?_
   have la:a<s1.heap.objs.size:=by
    obtain⟨o,q,_⟩:=pl
    exact ap q
   refine⟨s1.heap.objs.size+1,[s1.heap.objs.size+1,s1.heap.objs.size],_,_,H1,rfl,I1.kept (t':=s1.toks) hk,dM' (rN' (Nat.succ_ne_self _) (ay (cv la)) (ay la)),⟨⟨_,he⟩,hit⟩,fun c hc=>?_,q⟩
   have hle:s1.heap.objs.size<=c:=by
    simp only[am,aB,or_false]at hc
    rcases hc with rfl|rfl<;>omega
   exact I1.fpOk hle (I1.hok.fresh hle)
end
section
variable {X:Cx}
theorem eY':aT' X (.type "int") (fun xs H Q=>∃x n,xs=[.str x]/\PySem.intText? x=some n/\x.length<=640/\Q (.int n) H):=by
 intro pins s σ H xs us Q I r h
 obtain⟨x,n,rfl,hn,hl,q⟩:=h
 obtain⟨u,rfl,t,rfl⟩:=ej' r
 exact W.KIN.call_text hn hl ⟨.int n,H,I.tok _,⟨_,rfl⟩,q⟩
def xC':List V->Hp->VK->Prop:=fun xs H Q=>((∃i,xs=[.int i]/\Q (.int i) H)\/∃k,xs=[.bl k]/\Q (.int (if k then 1 else 0)) H)\/∃x n,xs=[.str x]/\PySem.intText? x=some n/\x.length<=640/\Q (.int n) H
theorem jf':aT' X (.type "int") xC':=iT'.or eY'
def vM':R2:=fun x y H Q=>∃a n,x=.str a/\y=.int n/\-1000000<=n/\n<=1000000/\a.length*n.toNat<=1000000/\Q (.str (Txt.mul a n)) H
theorem ia':OpR X (binaryOp .Mult) vM':=by
 intro pins s σ H x y v u Q I rx ry h
 obtain⟨a,n,rfl,rfl,h1,h2,h3,q⟩:=h
 obtain⟨t,rfl⟩:=rx
 obtain⟨t',rfl⟩:=ry
 refine SB.mul ⟨?_,fun hn hc=>?_,fun hn hc=>?_⟩ fun t' k=>⟨.str (Txt.mul a n),H,I.tok _,⟨_,rfl⟩,q⟩
 .have e1:¬n < -(2 ^ 63:Int):=by omega
  have e2:¬n ≥ 2 ^ 63:=by omega
  simp[e1,e2]
  omega
 .have hn0:0<n:=by omega
  intro hgt
  have h4:(a.length:Int)*n<=1000000:=by
   have:((a.length*n.toNat:Nat):Int)<=1000000:=by omega
   rw[Int.natCast_mul,Int.toNat_of_nonneg (by omega)]at this
   exact this
  have h5:=(Int.ediv_lt_iff_lt_mul hn0).mp hgt
  omega
 .have e:Builtin.Str.tooLong (a.length*n.toNat)=false:=by
   unfold Builtin.Str.tooLong
   have:sizeLine=16777216:=sizeLine_eq
   simp
   omega
  exact e
def rO' (K:W.Frag):V->List V->Hp->VK->Prop:=fun x xs H Q=>∃(sep:Str) (p:Addr) (ys:List Str),x=.str sep/\xs=[.ref p]/\(SqL K H p (ys.map V.str)\/SqT K H p (ys.map V.str))/\(ys.map (·.length)).sum+ys.length*sep.length<=16777216/\Q (.str (Txt.join sep ys)) H
theorem c1':∀{ys:List Str} {us:List Value},aA' (ys.map V.str) us->StrsAre us ys
 | [],us,h=>by
  have e:=h.zero
  subst e
  exact .nil
 |y :: ys,_,.cons r t=>by
  obtain⟨k,rfl⟩:=r
  exact .cons y k (c1' t)
theorem o1':MtR X "str.join" (rO' X.K):=by
 intro pins s σ H x xs v us Q I rx rv h
 obtain⟨sep,p,ys,rfl,rfl,hs,hz,q⟩:=h
 obtain⟨t,rfl⟩:=rx
 obtain⟨u,rfl,ru⟩:=rv.one
 cases ru
 rcases hs with hs|hs
 .obtain⟨its,r,pl,_⟩:=I.list hs
  exact join_list pl.isList (c1' r) hz fun t' k=>⟨.str _,H,I.tok _,⟨_,rfl⟩,q⟩
 .obtain⟨its,r,pl,_⟩:=I.tuple hs
  exact join_tuple pl (c1' r) hz fun t' k=>⟨.str _,H,I.tok _,⟨_,rfl⟩,q⟩
def yB':V->Option Int->Option Int->Hp->VK->Prop:=fun x lo hi H Q=>∃a,x=.str a/\a.length<=sizeLine/\Q (.str (Txt.slice a lo hi)) H
theorem rP':SlR X yB':=by
 intro pins s σ H x v vl vu lo hi sl Q I rx hs pl pu h
 obtain⟨a,rfl,hz,q⟩:=h
 obtain⟨t,rfl⟩:=rx
 have fin:∀(l u:Option (Int×Tok)),l.map (·.1)=lo->u.map (·.1)=hi->s.heap.IsSlice sl l u none->wpAny (model X.prog X.w) X.A (getItem (.str a t) (.ref sl)) (EP X pins σ Q) X.xe s:=by
  intro l u e1 e2 hsl
  refine wpAny_getItem_str_slice (l:=l) (u:=u) (st:=none) hsl rfl ?_
  refine post_val_or_str ?_
  subst e1 e2
  exact⟨aG (Txt.slice_le a _ _) hz,fun t' k=>⟨.str _,H,I.tok _,⟨_,rfl⟩,q⟩⟩
 refine⟨"str",_,F.slot_str_getitem.lookup,typeIs_str _ _ _,?_⟩
 cases pl with
 |none=>
  cases pu with
  |none=>exact fin none none rfl rfl hs
  |int j u=>exact fin none (some (j,u)) rfl rfl hs
 |int i t1=>
  cases pu with
  |none=>exact fin (some (i,t1)) none rfl rfl hs
  |int j u=>exact fin (some (i,t1)) (some (j,u)) rfl rfl hs
def bk' (H:Hp):V->Option String
 | .non=>some "NoneType"
 | .bl _=>some "bool"
 | .int _=>some "int"
 | .str _=>some "str"
 | .ref a=>match H a with
  |some (.lst _)=>some "list"
  |some (.tup _)=>some "tuple"
  |some (.dK _)=>some "dict"
  |some (.dT _)=>some "dict"
  |some (.frz _ (.lst _))=>some "list"
  |_=>none
 |_=>none
set_option tactic.hygienic true in
theorem jg' {K:W.Frag} {H:Hp} {x:V} {T:String} (h:bk' H x=some T):TyOf K H x (.type T):=by
 cases x with
 |non=>cases h;exact .non
 |bl b=>cases h;exact .bl b
 |int i=>cases h;exact .int i
 |str y=>cases h;exact .str y
 |byt _=>cases h
 |flt _=>cases h
 |ty _=>cases h
 |ref a=>
  have h:(match H a with
   |some (.lst _)=>some "list"
   |some (.tup _)=>some "tuple"
   |some (.dK _)=>some "dict"
   |some (.dT _)=>some "dict"
   |some (.frz _ (.lst _))=>some "list"
   |_=>none)=some T:=h
  split at h
  .rename_i e;cases h;exact .lst e
  .rename_i e;cases h;exact .tup e
  .rename_i e;cases h;exact .dK e
  .rename_i e;cases h;exact .dT e
  .rename_i e;cases h;exact .frz e
  .cases h
def isT (T c:String):Bool:=T == c || (T == "bool"&&c == "int")
def bR':List String:=["NoneType","bool","int","str","list","tuple","dict"]
theorem db' (K:W.Frag):∀T∈bR',∀c∈["bool","int","str","list","tuple","dict"],W.kitOne K (.type T) (.type c)=some (isT T c):=by
 intro T hT c hc
 simp only[bR',am,aB,or_false]at hT hc
 rcases hT with rfl|rfl|rfl|rfl|rfl|rfl|rfl<;>rcases hc with rfl|rfl|rfl|rfl|rfl|rfl<;>rfl
def xD':List V->Hp->VK->Prop:=fun xs H Q=>
 (∃x T c,xs=[x,.ty c]/\bk' H x=some T/\T∈bR'/\c∈["bool","int","str","list","tuple","dict"]/\Q (.bl (isT T c)) H)\/
 (∃(x:V) (T:String) (p:Addr) (cs:List String),xs=[x,.ref p]/\bk' H x=some T/\T∈bR'/\H p=some (.tup (cs.map V.ty))/\(∀c∈cs,c∈["bool","int","str","list","tuple","dict"])/\Q (.bl (cs.any (isT T))) H)
theorem jh':∀{cs:List String} {us:List Value},aA' (cs.map V.ty) us->us=cs.map Value.type
 | [],us,h=>h.zero
 |c :: cs,_,.cons r t=>by
  have r':_=Value.type c:=r
  rw[r',jh' t]
  rfl
theorem dc' (K:W.Frag) {T:String} (hT:T∈bR'):∀{cs:List String},(∀c∈cs,c∈["bool","int","str","list","tuple","dict"])->W.kitAny K (.type T) (cs.map Value.type)=some (cs.any (isT T))
 | [],_=>rfl
 |c :: cs,h=>by
  have h1:=db' K T hT c (h c au)
  have h2:=dc' K hT (cs:=cs) fun c' hc'=>h c' (ao _ hc')
  show(match W.kitOne K (.type T) (.type c)with|some true=>some true|some false=>W.kitAny K (.type T) (cs.map Value.type)|none=>none)=_
  rw[h1]
  cases hb:isT T c
  .rw[cz,hb]
   exact h2
  .rw[cz,hb]
   rfl
set_option tactic.hygienic true in
theorem ib' {pins:List (Addr×Obj)} {σ:St} {H:Hp} {s:Shared} {Q:Value->Shared->Prop} {E:Value->Shared->Prop} {b:Bool} {x:V} {u:Value} {T:String} {p:Addr} {dd:Option Addr} {its:List Value} {n:Nat} {sl:Array (Option Value)} (I:Inv X pins σ H s) (rx:av' x u) (ty:bk' H x=some T)
  (hp:s.heap.get? p=some ⟨.type "tuple",dd,.seq its.toArray n,sl⟩) (e:W.kitAny X.K (.type T) its=some b) (h:∀tk,Q (.bool b) { s with toks:=tk }):
  wpAny (model X.prog X.w) X.A (call (.builtin "isinstance") [u,.ref p]) Q E s:=by
 cases x with
 |non=>cases ty;cases(show u=Value.none from rx);exact W.kia_tup W.kitx_none I.kIn True.intro hp e (fun z=>nomatch z) h
 |bl y=>cases ty;cases(show u=Value.bool y from rx);exact W.kia_tup W.kitx_bool I.kIn True.intro hp e (fun z=>nomatch z) h
 |int i=>cases ty;obtain⟨t,q⟩:=(show ∃t,u=Value.int i t from rx);cases q;exact W.kia_tup W.kitx_int I.kIn True.intro hp e (fun z=>nomatch z) h
 |str y=>cases ty;obtain⟨t,q⟩:=(show ∃t,u=Value.str y t from rx);cases q;exact W.kia_tup W.kitx_str I.kIn True.intro hp e (fun z=>nomatch z) h
 |byt _=>cases ty
 |flt _=>cases ty
 |ty _=>cases ty
 |ref a=>
  cases(show u=Value.ref a from rx)
  have ty:(match H a with
   |some (.lst _)=>some "list"
   |some (.tup _)=>some "tuple"
   |some (.dK _)=>some "dict"
   |some (.dT _)=>some "dict"
   |some (.frz _ (.lst _))=>some "list"
   |_=>none)=some T:=ty
  split at ty
  .rename_i xs ea
   cases ty
   obtain⟨_,_,n,_,h1⟩:=(show as' X.prog X.w H s.heap a (.lst xs) from I.hok a _ ea)
   exact W.kia_tup W.kitx_list I.kIn ⟨_,h1,rfl⟩ hp e (fun z=>nomatch z) h
  .rename_i xs ea
   cases ty
   obtain⟨_,_,_,o,h1,h2,_⟩:=(show as' X.prog X.w H s.heap a (.tup xs) from I.hok a _ ea)
   exact W.kia_tup W.kitx_tuple I.kIn ⟨o,h1,h2⟩ hp e (fun z=>nomatch z) h
  .rename_i kvs ea
   cases ty
   obtain⟨_,_,vs,_,o,es,ep,h1,h2,_⟩:=(show as' X.prog X.w H s.heap a (.dK kvs) from I.hok a _ ea)
   exact W.kia_tup W.kitx_dict I.kIn ⟨o,h1,h2.1⟩ hp e (fun z=>nomatch z) h
  .rename_i kvs ea
   cases ty
   obtain⟨_,_,xs,_,o,es,ep,h1,h2,_⟩:=(show as' X.prog X.w H s.heap a (.dT kvs) from I.hok a _ ea)
   exact W.kia_tup W.kitx_dict I.kIn ⟨o,h1,h2.1⟩ hp e (fun z=>nomatch z) h
  .rename_i ob xs ea
   cases ty
   obtain⟨_,_,_,n,_,h1⟩:=(show as' X.prog X.w H s.heap a (.frz ob (.lst xs)) from I.hok a _ ea)
   exact W.kia_tup W.kitx_list I.kIn ⟨_,h1,rfl⟩ hp e (fun z=>nomatch z) h
  .cases ty
theorem lM':aT' X (.builtin "isinstance") xD':=by
 intro pins s σ H xs us Q I r h
 rcases h with⟨x,T,c,rfl,hT,hk,hc,q⟩|⟨x,T,p,cs,rfl,hT,hk,hp,hc,q⟩
 .obtain⟨u,w',rfl,r1,r2⟩:=lu' r
  have r2:w'=Value.type c:=r2
  subst r2
  exact iV' I r1 (jg' hT) (db' X.K T hk c hc) fun tk=>⟨.bl _,H,I.tok _,rfl,q⟩
 .obtain⟨u,w',rfl,r1,r2⟩:=lu' r
  have r2:w'=Value.ref p:=r2
  subst r2
  obtain⟨_,its,rv,o,h1,h2,⟨n,h3⟩,_⟩:=(show as' X.prog X.w H s.heap p (.tup (cs.map V.ty)) from I.hok p _ hp)
  have e:=jh' rv
  subst e
  obtain⟨oc,od,dat,osl⟩:=o
  have h2:oc=_:=h2
  have h3:dat=_:=h3
  subst h2 h3
  exact ib' I r1 hT h1 (dc' X.K hk hc) fun tk=>⟨.bl _,H,I.tok _,rfl,q⟩
def xE' (K:W.Frag) (any:Bool):List V->Hp->VK->Prop:=fun xs H Q=>∃(p:Addr) (bs:List Bool),xs=[.ref p]/\SqL K H p (bs.map V.bl)/\Q (.bl (if any then bs.any id else bs.all id)) H
theorem fE':∀{bs:List Bool} {us:List Value} {i:Nat} {v:Value},aA' (bs.map V.bl) us->us[i]?=some v->∃b,bs[i]?=some b/\v=.bool b
 | [],us,i,v,h,e=>by rw[h.zero]at e;simp at e
 |b :: bs,_,0,v,.cons r t,e=>by
  have r:_=Value.bool b:=r
  simp at e
  exact⟨b,rfl,by rw[<- e];exact r⟩
 |b :: bs,_,i+1,v,.cons r t,e=>by
  obtain⟨b',h1,h2⟩:=fE' (i:=i) t (by simpa using e)
  exact⟨b',by simpa using h1,h2⟩
theorem ji' (bs:List Bool):(bf bs.length).all (fun i=>bs.getD i false)=bs.all id:=by
 rw[bK,bh,bh]
 constructor
 .intro h b hb
  obtain⟨i,hi,rfl⟩:=cS.mp hb
  have:=h i (bi.mpr hi)
  simpa[bE,hi]using this
 .intro h i hi
  have hi:=bi.mp hi
  have:=h bs[i] (cg hi)
  simpa[bE,hi]using this
theorem jj' (hc:X.calm=true):aT' X (.builtin "all") (xE' X.K false):=by
 intro pins s σ H xs us Q I r h
 obtain⟨p,bs,rfl,hs,q⟩:=h
 obtain⟨u,rfl,ru⟩:=ej' r
 cases ru
 obtain⟨its,rv,pl,hz⟩:=I.list hs
 have hlen:its.toArray.size=bs.length:=by
  have:=rv.length
  rw[ah]at this
  rw[aj,this]
 refine call_all_walk (cP pl.isList ?_)
 have hlt:p<s.heap.objs.size:=by obtain⟨o,n,e,_⟩:=pl;exact ap e
 refine⟨s.heap.objs.size,_,_,_,_,_,fun i=>bs.getD i false,rfl,Walks.list (A:=X.A.in1) (I.ok.hd hc) _ p (ay hlt) its.toArray,⟨⟨_,ai _ rfl,rfl,rfl⟩,Heap.IsList.push pl.isList _⟩,?_,fun h' tk hk=>?_⟩
 .intro i v s' Q' E' hv hq
  obtain⟨b,hb,rfl⟩:=fE' rv (i:=i) (by simpa using hv)
  refine aW ?_
  have e:bs.getD i false=b:=by rw[bE,hb];rfl
  have hq':Q' (bs.getD i false) s':=hq
  rw[e]at hq'
  exact hq'
 .rw[hlen,ji']
  exact⟨.bl _,H,I.kept fun b o e=>hk b o (by simp;exact ay (ap e)) (ac _ e),rfl,q⟩
def rQ' (K:W.Frag) (mx:Bool):List V->Hp->VK->Prop:=fun xs H Q=>∃(p:Addr) (ns:List Int),xs=[.ref p]/\SqL K H p (ns.map V.int)/\ns≠[]/\∀M,M∈ns->(∀a∈ns,if mx then a<=M else M<=a)->Q (.int M) H
theorem jk' (hc:X.calm=true):aT' X (.builtin "min") (rQ' X.K false):=by
 intro pins s σ H xs us Q I r h
 obtain⟨p,ns,rfl,hs,hne,q⟩:=h
 obtain⟨u,rfl,ru⟩:=ej' r
 cases ru
 obtain⟨its,rv,pl,hz⟩:=I.list hs
 have hi:=h6' rv
 obtain⟨xs,e⟩:=hi.allInts.items
 have hns:ns=xs.toList.map (·.1):=by
  rw[<- hi.numsOf,<- nums_intItems,<- e]
 have hsz:0<xs.size:=by
  have h3:=List.length_pos_iff.mpr hne
  rw[hns,ah,aq]at h3
  exact h3
 have hl:=pl.isList
 rw[e]at hl
 refine min_intList (I.ok.hd hc) hl hsz fun v h' tk hv hk=>?_
 obtain⟨t,rfl⟩:=intItems_at hv
 obtain⟨h1,h2⟩:=argBest_lt (numAt xs) (xs.size-1)
 refine⟨.int _,H,I.kept hk,⟨t,rfl⟩,q _ ?_ fun a ha=>?_⟩
 .rw[hns,numAt_eq];exact getD_mem (by rw[ah,aq];omega)
 .rw[hns]at ha
  obtain⟨j,hj,rfl⟩:=mem_getD ha
  rw[ah,aq]at hj
  rw[if_neg (by decide),<- numAt_eq];exact h2 j (by omega)
end
section
variable {X:Cx}
def jl':V->List V->Hp->VK->Prop:=fun x vs H Q=>∃l xs y,∃i:Nat,x=.ref l/\vs=[.int i,y]/\H l=some (.lst xs)/\xs.length<sizeLine/\i<=xs.length/\Q .non (upd H l (.lst (xs.take i++y :: xs.drop i)))
set_option tactic.hygienic true in
theorem jm':MtM X "list.insert" jl':=by
 intro pins s σ H x vs v us Q I rx rv h
 obtain⟨l,xs,y,i,rfl,rfl,hH,hz,hi,q⟩:=h
 cases rx
 cases rv with
 |cons r1 rv=>
  cases rv with
  |cons r2 rv=>
   cases rv
   obtain⟨t,rfl⟩:=r1
   rename_i u
   obtain⟨z,its,n,r,hl,e⟩:=I.lstM hH
   have hb:i<2 ^ 62:=cJ hi (cJ z (show 2 ^ 24<2 ^ 62 from Nat.pow_lt_pow_right (by decide) (by decide)))
   have hfit:¬(!Builtin.List.listFitsIndex (i:Int))=true:=by
    unfold Builtin.List.listFitsIndex
    simp
    omega
   have hsz:its.toArray.size<=sizeLine:=by rw[aj];exact hl ▸ z
   generalize hj:(i:Int)=j at hfit
   have M:=AutoListH.list_insert_list_int_val_1 l its.toArray n j t u hfit hsz
   refine call_meets F.slot_list_insert ⟨_,e,rfl⟩ F.entry_list_insert (F.args_list_insert_3 _ _ _) M ⟨e,?_⟩
   subst hj
   refine⟨.non,_,I.lset (its':=its.take i++u :: its.drop i) hH e ?_ ((r.take i).append (.cons r2 (r.drop i))) ?_,rfl,q⟩
   .have hn:¬((i:Int)<0):=by omega
    simp only[hn,if_false,ba,aj]
    rw[Nat.min_eq_left (by omega)]
    simp
    exact ce (by simp)
   .simp
    omega
open PySem.SeqAt in
theorem dN' {A:Around} {s:Shared} {x y:V} {u v:Value} (rx:av' x u) (ry:av' y v) (h:iP' x y=true/\(∀b,x≠.byt b)\/x=y/\∃a,x=.ref a):EqAt A s u v (decide (x=y)):=by
 rcases h with⟨h,hb⟩|⟨rfl,a,rfl⟩
 .cases x with
  |non=>cases y with
   |non=>cases rx;cases ry;exact EqAt.same _
   |bl b=>cases rx;cases ry;exact EqAt.none_bool _
   |int b=>cases rx;obtain⟨t,rfl⟩:=ry;exact EqAt.none_int _ _
   |str b=>cases rx;obtain⟨t,rfl⟩:=ry;exact EqAt.none_str _ _
   |_=>cases h
  |bl a=>cases y with
   |non=>cases rx;cases ry;exact EqAt.bool_none _
   |bl b=>cases rx;cases ry;have:=EqAt.bool_bool (A:=A) (s:=s) a b;cases a<;>cases b<;>exact this
   |str b=>cases rx;obtain⟨t,rfl⟩:=ry;exact EqAt.bool_str _ _ _
   |_=>cases h
  |int a=>cases y with
   |non=>obtain⟨t,rfl⟩:=rx;cases ry;exact EqAt.int_none _ _
   |int b=>obtain⟨t,rfl⟩:=rx;obtain⟨t',rfl⟩:=ry;rw[gg'];exact EqAt.int_int _ _ _ _
   |str b=>obtain⟨t,rfl⟩:=rx;obtain⟨t',rfl⟩:=ry;exact EqAt.int_str _ _ _ _
   |_=>cases h
  |str a=>cases y with
   |non=>obtain⟨t,rfl⟩:=rx;cases ry;exact EqAt.str_none _ _
   |bl b=>obtain⟨t,rfl⟩:=rx;cases ry;exact EqAt.str_bool _ _ _
   |int b=>obtain⟨t,rfl⟩:=rx;obtain⟨t',rfl⟩:=ry;exact EqAt.str_int _ _ _ _
   |str b=>
    obtain⟨t,rfl⟩:=rx
    obtain⟨t',rfl⟩:=ry
    have e:decide (V.str a=V.str b)=(a == b):=by
     by_cases hab:a=b
     .subst hab;simp
     .rw[decide_eq_false (by intro z;cases z;exact hab rfl)];simp[hab]
    rw[e]
    exact EqAt.str_str _ _ _ _
   |_=>cases h
  |byt b=>exact absurd rfl (hb b)
  |_=>cases y<;>cases h
 .cases rx
  cases ry
  rw[decide_eq_true rfl]
  exact EqAt.same _
def LEq (xs ys:List V):Prop:=∀(i:Nat) x y,xs[i]?=some x->ys[i]?=some y->iP' x y=true/\(∀b,x≠.byt b)\/x=y/\∃a,x=.ref a
def u7' (K:W.Frag) (neg:Bool):V->V->Hp->VK->Prop:=fun x y H Q=>∃p q xs ys,x=.ref p/\y=.ref q/\SqL K H p xs/\SqL K H q ys/\(xs.length=ys.length->LEq xs ys)/\Q (.bl (if neg then !decide (xs=ys)else decide (xs=ys))) H
theorem g0' {xs ys:List V} (h:xs.length=ys.length):(bf xs.length).all (fun i=>decide (xs[i]?=ys[i]?))=decide (xs=ys):=by
 by_cases e:xs=ys
 .subst e
  simp
 .rw[decide_eq_false e,Bool.eq_false_iff]
  intro q
  rw[bh]at q
  apply e
  apply bX
  intro i
  rcases cO i xs.length with hi|hi
  .exact of_decide_eq_true (q i (bi.mpr hi))
  .rw[bq.mpr hi,bq.mpr (by omega)]
open PySem.SeqAt in
theorem rR' (hu:X.A.units<cLine):OpR X (compareOp .Eq) (u7' X.K false):=by
 intro pins s σ H x y v u Q I rx ry h
 obtain⟨p,q,xs,ys,rfl,rfl,hp,hq,he,k⟩:=h
 cases rx
 cases ry
 obtain⟨its,r1,pl1,_⟩:=I.list hp
 obtain⟨its2,r2,pl2,_⟩:=I.list hq
 have l1:=r1.length
 have l2:=r2.length
 by_cases hl:xs.length=ys.length
 .refine eq_listAt (e:=fun i=>decide (xs[i]?=ys[i]?)) pl1.isList pl2.isList (by simp;omega) hu (fun j h1 h2=>?_) ?_
  .have j1:j<xs.length:=by simp at h1;omega
   have j2:j<ys.length:=by omega
   have g1:xs[j]?=some xs[j]:=ae j1
   have g2:ys[j]?=some ys[j]:=ae j2
   obtain⟨u1,e1,ru1⟩:=r1.get g1
   obtain⟨u2,e2,ru2⟩:=r2.get g2
   have f1:its.toArray[j]=u1:=by simp at h1 ⊢;rw[ae h1]at e1;exact Option.some.inj e1
   have f2:its2.toArray[j]=u2:=by simp at h2 ⊢;rw[ae h2]at e2;exact Option.some.inj e2
   rw[f1,f2,g1,g2]
   have e3:decide (some xs[j]=some ys[j])=decide (xs[j]=ys[j]):=by simp
   rw[e3]
   exact dN' ru1 ru2 (he hl j _ _ g1 g2)
  .have e4:(bf its.toArray.size).all (fun i=>decide (xs[i]?=ys[i]?))=decide (xs=ys):=by
    rw[aj,<- l1];exact g0' hl
   rw[e4]
   exact⟨.bl _,H,I,rfl,k⟩
 .refine eq_list_lengthsAt pl1.isList pl2.isList (by simp;omega) hu ?_
  rw[decide_eq_false (fun z=>hl (by rw[z]))]at k
  exact⟨.bl false,H,I,rfl,k⟩
open PySem.SeqAt in
theorem rS' (hu:X.A.units<cLine):OpR X (compareOp .NotEq) (u7' X.K true):=by
 intro pins s σ H x y v u Q I rx ry h
 obtain⟨p,q,xs,ys,rfl,rfl,hp,hq,he,k⟩:=h
 cases rx
 cases ry
 obtain⟨its,r1,pl1,_⟩:=I.list hp
 obtain⟨its2,r2,pl2,_⟩:=I.list hq
 have l1:=r1.length
 have l2:=r2.length
 obtain⟨⟨cls,dd,data,sl⟩,ho,hc,n,hd⟩:=pl1.isList
 obtain⟨⟨cls2,dd2,data2,sl2⟩,ho2,hc2,n2,hd2⟩:=pl2.isList
 simp only at hc hd hc2 hd2
 subst hc hd hc2 hd2
 by_cases hl:xs.length=ys.length
 .refine richCompare_meets_room (op:=.NotEq) ⟨_,ho,rfl⟩ ⟨_,ho2,rfl⟩ F.slot_list_ne F.entry_list_ne (F.args_list_ne_2 _ _) (list_neAt p q its.toArray its2.toArray n n2 dd dd2 sl sl2 (by simp;omega) (fun i=>decide (xs[i]?=ys[i]?))) ⟨ho,ho2,fun j h1 h2=>?_,?_⟩ hu
  .have j1:j<xs.length:=by simp at h1;omega
   have j2:j<ys.length:=by omega
   have g1:xs[j]?=some xs[j]:=ae j1
   have g2:ys[j]?=some ys[j]:=ae j2
   obtain⟨u1,e1,ru1⟩:=r1.get g1
   obtain⟨u2,e2,ru2⟩:=r2.get g2
   have f1:its.toArray[j]=u1:=by simp at h1 ⊢;rw[ae h1]at e1;exact Option.some.inj e1
   have f2:its2.toArray[j]=u2:=by simp at h2 ⊢;rw[ae h2]at e2;exact Option.some.inj e2
   rw[f1,f2,g1,g2]
   have e3:decide (some xs[j]=some ys[j])=decide (xs[j]=ys[j]):=by simp
   rw[e3]
   exact dN' ru1 ru2 (he hl j _ _ g1 g2)
  .have e4:(bf its.toArray.size).all (fun i=>decide (xs[i]?=ys[i]?))=decide (xs=ys):=by
    rw[aj,<- l1];exact g0' hl
   rw[e4]
   exact(show Value.bool (!decide (xs=ys))≠Value.notImplemented/\EP X pins σ Q (Value.bool (!decide (xs=ys))) s from⟨(fun x=>nomatch x),⟨.bl _,H,I,rfl,k⟩⟩)
 .refine richCompare_meets_room (op:=.NotEq) ⟨_,ho,rfl⟩ ⟨_,ho2,rfl⟩ F.slot_list_ne F.entry_list_ne (F.args_list_ne_2 _ _) (list_ne_lengthsAt p q its.toArray its2.toArray n n2 dd dd2 sl sl2 (by simp;omega)) ⟨ho,ho2,?_⟩ hu
  rw[decide_eq_false (fun z=>hl (by rw[z]))]at k
  exact(show Value.bool true≠Value.notImplemented/\EP X pins σ Q (Value.bool true) s from⟨(fun x=>nomatch x),⟨.bl true,H,I,rfl,k⟩⟩)
def rgs (i:Int) (n:Nat):List V:=(bf n).map fun(k:Nat)=>V.int (i+(k:Int))
def xF':List V->Hp->VK->Prop:=fun xs H Q=>∃i j:Int,(xs=[.int i,.int j]\/(i=0/\xs=[.int j]))/\∀p,H p=none->Q (.ref p) (upd H p (.rng i j))
theorem lN':aT' X (.type "range") xF':=by
 intro pins s σ H xs us Q I rv h
 obtain⟨i,j,hx,q⟩:=h
 have hn:H s.heap.objs.size=none:=I.hok.fresh (ag _)
 rcases hx with rfl|⟨rfl,rfl⟩
 .cases rv with
  |cons r1 rv=>
   cases rv with
   |cons r2 rv=>
    cases rv
    obtain⟨t,rfl⟩:=r1
    obtain⟨u,rfl⟩:=r2
    exact call_range_2 ⟨.ref s.heap.objs.size,_,I.laid (t':=s.toks+1) (fun _ _ e=>ac _ e) (ag _) (o:=.rng i j) ⟨t,u,s.toks,ai _ rfl⟩,rfl,q _ hn⟩
 .cases rv with
  |cons r1 rv=>
   cases rv
   obtain⟨t,rfl⟩:=r1
   exact call_range_1 ⟨.ref s.heap.objs.size,_,I.laid (t':=s.toks+1+1) (fun _ _ e=>ac _ e) (ag _) (o:=.rng 0 j) ⟨s.toks,t,s.toks+1,ai _ rfl⟩,rfl,q _ hn⟩
def xG':List V->Hp->VK->Prop:=fun xs H Q=>∃r i j,xs=[.ref r]/\H r=some (.rng i j)/\(-(2 ^ 62)<=i/\i<2 ^ 62/\-(2 ^ 62)<=j/\j<2 ^ 62)/\(j-i).toNat<=sizeLine/\∀p,H p=none->Q (.ref p) (upd H p (.lst (rgs i (j-i).toNat)))
theorem lO' (hc:X.calm=true):aT' X (.type "list") xG':=by
 intro pins s σ H xs us Q I rv h
 obtain⟨r,i,j,rfl,hr,⟨h1,h2,h3,h4⟩,hz,q⟩:=h
 cases rv with
 |cons r1 rv=>
  cases rv
  cases r1
  obtain⟨t,u,v,e⟩:=(show as' X.prog X.w H s.heap r (.rng i j) from I.hok r _ hr)
  refine call_list_range (n:=(j-i).toNat) (I.ok.hd hc) e (small_one h1 h2 h3 h4) (by rw[rangeSize_one];split<;>omega) hz fun h' tk' acc' c' hk hS hit=>?_
  obtain⟨hsz,hv⟩:=hit
  have hn:H s.heap.objs.size=none:=I.hok.fresh (ag _)
  have key:∀(n:Nat) (l:List Value) (f:Nat->Int),l.length=n->(∀k v,l[k]?=some v->∃t,v=Value.int (f k) t)->aA' ((bf n).map fun k=>V.int (f k)) l:=by
   intro n
   induction n with
   |zero=>intro l f hl hv;have:l=[]:=List.length_eq_zero_iff.mp hl;subst this;exact .nil
   |succ n ih=>
    intro l f hl hv
    cases l with
    |nil=>cases hl
    |cons x r=>
     rw[List.range_succ_eq_map,aQ,bU]
     refine .cons (hv 0 x rfl) ?_
     exact ih r (fun k=>f (k+1)) (by simpa using hl) fun k v hk=>hv (k+1) v (by simpa using hk)
  refine⟨.ref s.heap.objs.size,_,I.laid (t':=tk') hk (ag _) (o:=.lst (rgs i (j-i).toNat)) ⟨by unfold rgs;rw[ah,List.length_range];exact hz,acc'.toList,c',?_,hS⟩,rfl,q _ hn⟩
  refine key _ _ (fun k=>i+(k:Int)) (by rw[aq];exact hsz) fun k v hk=>?_
  obtain⟨t,e⟩:=hv k v (by simpa using hk)
  exact⟨t,by rw[e];simp⟩
end
section
variable {X:Cx}
theorem o2':OpR X (binaryOp .Mult) (rI IntMulOk fun i j=>.int (i*j)):=opI fun _ _ _ _ _ _ _ hc q=>mul_int q hc
def xH':V->Bool
 | .ty _=>false
 | .byt _=>false
 | .flt _=>false
 |_=>true
def u8' (neg:Bool):R2:=fun x y H Q=>∃b,y=.bl b/\xH' x=true/\Q (.bl (if neg then !decide (x=.bl b)else decide (x=.bl b))) H
theorem rT' {x:V} {v:Value} {b:Bool} (r:av' x v) (h:xH' x=true):plainIs v (.bool b)=true/\(v == Value.bool b)=decide (x=.bl b):=by
 cases x with
 |non=>cases r;exact⟨rfl,rfl⟩
 |bl a=>cases r;refine⟨rfl,?_⟩;cases a<;>cases b<;>rfl
 |int i=>obtain⟨t,rfl⟩:=r;exact⟨rfl,rfl⟩
 |str i=>obtain⟨t,rfl⟩:=r;exact⟨rfl,rfl⟩
 |ref a=>cases r;exact⟨rfl,rfl⟩
 |_=>cases h
theorem rU':OpR X (compareOp .Is) (u8' false):=by
 intro pins s σ H x y v u Q I rx ry h
 obtain⟨b,rfl,hp,q⟩:=h
 cases ry
 obtain⟨h1,h2⟩:=rT' (b:=b) rx hp
 exact wpAny_is_plain h1 ⟨.bl _,H,I,by rw[h2];rfl,q⟩
theorem jn':OpR X (compareOp .IsNot) (u8' true):=by
 intro pins s σ H x y v u Q I rx ry h
 obtain⟨b,rfl,hp,q⟩:=h
 cases ry
 obtain⟨h1,h2⟩:=rT' (b:=b) rx hp
 exact wpAny_isNot_plain h1 ⟨.bl _,H,I,by rw[h2];rfl,q⟩
theorem lP':OpR X (binaryOp .FloorDiv) (rI (fun _ j=>0<j/\j.natAbs.log2<9000) fun i j=>.int (i / j)):=opI fun i j _ _ _ _ _ hc q=>by
 refine floordiv_int (by omega) ?_ (.inl (PyProof.noPylong_of_log2 hc.2))
 rw[Int.fdiv_eq_ediv_of_nonneg i (by omega)]
 exact q
end
def Itc (lo c:Int) (n:Nat):It:=⟨fun i _=>i<n,fun i H x H'=>H'=H/\x=.int (lo+i*c),fun i _=>n<=i⟩
section
variable {prog:Program} {w:World} {A:Around} {E:Value->Shared->Prop} {s:Shared}
end
section
variable {X:Cx} {tg:Expr}
theorem eZ':bootBuiltins "reversed"=some (.type "reversed"):=by decide +kernel
def vN' (i j c:Int):Nat:=if i<j then((j-i-1) / c+1).toNat else 0
def vO' (i j c:Int):Nat:=if c=-1 then(i-j).toNat else vN' i j c
end
section
variable {X:Cx}
theorem o3' {i:Int} (h:0<=i):Builtin.bitAnd i 1=i % 2:=by
 rw[PyProof.Rows.bitAnd_pp h (by decide)]
 have e:(1:Int).toNat=1:=rfl
 rw[e,Nat.and_one_is_mod]
 omega
theorem o4':OpR X (binaryOp .BitAnd) (rI (fun i j=>0<=i/\j=1) fun i _=>.int (i % 2)):=by
 intro pins s σ H x y v u Q I rx ry h
 obtain⟨i,j,rfl,rfl,⟨h0,rfl⟩,q⟩:=h
 refine rl' pins s σ H _ _ v u Q I rx ry ⟨i,1,rfl,rfl,?_⟩
 have q':Q (.int (i % 2)) H:=q
 rw[<- o3' h0]at q'
 exact q'
def inT (x y:Str):Bool:=!(Builtin.Str.occurrences x y 0 x.length 1).isEmpty
def u9' (neg:Bool):R2:=fun x y H Q=>∃a b,x=.str a/\y=.str b/\Q (.bl (if neg then !inT b a else inT b a)) H
theorem rV':OpR X (compareOp .In) (u9' false):=by
 intro pins s σ H x y v u Q I rx ry h
 obtain⟨a,b,rfl,rfl,q⟩:=h
 obtain⟨t,rfl⟩:=rx
 obtain⟨t',rfl⟩:=ry
 exact in_str ⟨.bl _,H,I,rfl,q⟩
theorem jo':OpR X (compareOp .NotIn) (u9' true):=by
 intro pins s σ H x y v u Q I rx ry h
 obtain⟨a,b,rfl,rfl,q⟩:=h
 obtain⟨t,rfl⟩:=rx
 obtain⟨t',rfl⟩:=ry
 have q':Q (.bl (!inT b a)) H:=q
 refine notIn_str ⟨.bl (!inT b a),H,I,?_,q'⟩
 show Value.bool _=Value.bool _
 simp[inT]
end
def xI' (h:Heap) (e:Addr) (cls:Value) (T:Addr):Prop:=∃oe vs oT ts a0,h.get? e=some oe/\(oe.cls=cls/\vs[0]?=some a0)/\oe.data=.fields vs/\vs[1]?=some (.ref T)/\T≠e/\h.get? T=some oT/\oT.data=.fields ts/\ts[3]?=some .none
structure LeftX (F S:List Addr) (e:Addr) (cls:Value) (h h':Heap):Prop where
 keep:∀b o,b∉F->b∉S->h.get? b=some o->h'.get? b=some o
 slot:∀b o,b∈F->h.get? b=some o->∃sl,h'.get? b=some { o with slots:=sl }
 there:∀b o,b∉S->h.get? b=some o->∃o',h'.get? b=some o'
 exc:∃T,(h.get? T=none\/T∈S)/\xI' h' e cls T
section
variable {M:Model} {A:Around} {E:Value->Shared->Prop} {s:Shared}
end
set_option tactic.hygienic true in
theorem rW' {K:W.Frag} {cd:Value} {q:Str} (e:W.codeIn K cd q=true):W.kdsCode K cd=true:=by
 unfold W.codeIn at e
 unfold W.kdsCode
 split at e
 .split at e
  .rename_i h
   dsimp only
   rw[h]
  .cases e
 .cases e
structure FnCx (X:Cx):Prop where
 ex:X.ex=[]
 fn:∀x,X.fn x=true
 stk:X.stack=X.env :: X.outer
 fr:X.env.frame=some X.env.locals
 cd:W.kdsCode X.K X.env.code=true
theorem FnCx.frs {X:Cx} (F:FnCx X):L2.frs X.stack=X.env.locals :: X.fs:=by
 rw[F.stk]
 show List.filterMap _ _=_
 rw[bF,F.fr]
 rfl
section
variable {X:Cx} {pins:List (Addr×Obj)} {σ:St} {H:Hp} {s:Shared}
def CX1 (P:Program) (w:World) (mg:Str->Option Value):CXT:=fun outer H s E e s'=>∃(ea T Ca:Addr) (nm:Str) (H':Hp),e=.ref ea/\mg nm=some (.ref Ca)/\s'.os=s.os/\AllBare s'.gens/\Un (frs outer) [] H H' s.heap s'.heap/\HOk P w H' s'.heap/\
 xI' s'.heap ea (.ref Ca) T/\H' ea=none/\H' T=none/\s.heap.get? ea=none/\s.heap.get? T=none/\E (.str nm 0) none H'
end
def bmV:List Value:=[.type "ValueError",.type "Exception",.type "BaseException",.type "object"]
section
variable {X:Cx}
end
section
variable {X:Cx} {pins:List (Addr×Obj)} {σ:St} {H:Hp} {s:Shared} {D:Ends} {hs:List ExceptHandler}
def Cx.inX (X:Cx) (e:Addr):Cx:={ X with A:=X.A.mark (some (.ref e)),calm:=false,xe:=fun _ _=>False }
def rX' (e Ca:Addr) (h:Heap):Prop:=∃o vs,h.get? e=some o/\o.cls=.ref Ca/\o.data=.fields vs
def y6' (e Ca:Addr):HO:=.ext (rX' e Ca)
end
end L2
namespace L2
open PySem PySem.Spec PyProof.Rows PySem.W
structure XCls (K:Frag) (C:Addr):Prop where
 ga:findIn K (.ref C) "__getattribute__"=some (some (.builtin "BaseException.__getattribute__"))
 gt:findIn K (.ref C) "__getattr__"=some none
 cl:findIn K (.ref C) "__class__"=some (some (.builtin "object.__class__"))
 be:subIn K (.ref C) (.type "BaseException")=some true
 ob:subIn K (.ref C) (.type "object")=some true
 is:(clsIn K C).isSome=true
section
variable {prog:Program} {w:World} {A:Around} {E:Value->Shared->Prop} {K:Frag} {h:Heap} {g:Array GenState} {d:Drawn} {t:Nat} {os:OsState} {a C:Addr} {o:Obj}
end
end L2
namespace L2
open PySem PySem.Spec PyProof.Rows PySem.W
section
variable {X:Cx}
end
def xJ':Option Int->Value->Bool
 |some k,v=>Value.isInt k v
 |none,.none=>true
 |none,_=>false
theorem aQ':∀{k:Option Int} {v:Value},xJ' k v=true->(∃i t,k=some i/\v=Value.int i t)\/(k=none/\v=Value.none)
 |some i,v,h=>by
  obtain⟨t,e⟩:=Value.isInt_shape (k:=i) (v:=v) h
  exact .inl ⟨i,t,rfl,e⟩
 |none,v,h=>by cases v<;>first|exact .inr ⟨rfl,rfl⟩|cases h
def okH:Option Int->Int
 |some k=>hashInt k
 |none=>0xFCA86420
def o5' (prog:Program) (w:World):PySem.KeyKind prog w (Option Int) where
 is:=xJ'
 hash:=okH
 inj:=fun v a b ha hb=>by
  rcases aQ' ha with⟨i,t,rfl,rfl⟩|⟨rfl,rfl⟩
  .rcases aQ' hb with⟨j,u,rfl,e⟩|⟨rfl,e⟩
   .injection e with e1 _;rw[e1]
   .exact nomatch e
  .rcases aQ' hb with⟨j,u,rfl,e⟩|⟨rfl,e⟩
   .exact nomatch e
   .rfl
 byValue:=fun k v h=>by
  rcases aQ' h with⟨i,t,rfl,rfl⟩|⟨rfl,rfl⟩<;>rfl
 pyHash:=fun hv h=>by
  rcases aQ' hv with⟨i,t,rfl,rfl⟩|⟨rfl,rfl⟩
  .exact wpAny_pyHash_int h
  .exact cA' h
 eqBool:=fun {A E s a b u v Q} hu hv h=>by
  rcases aQ' hu with⟨i,t,rfl,rfl⟩|⟨rfl,rfl⟩
  .rcases aQ' hv with⟨j,u,rfl,rfl⟩|⟨rfl,rfl⟩
   .have e:decide ((some i:Option Int)=some j)=(i == j):=by
     by_cases q:i=j
     .subst q;simp
     .rw[decide_eq_false (fun z=>q (Option.some.inj z)),(beq_eq_false_iff_ne.mpr q)]
    rw[e]at h
    exact wpAny_eqBool_int h
   .exact SeqAt.EqAt.int_none i t _ _ _ _ h
  .rcases aQ' hv with⟨j,u,rfl,rfl⟩|⟨rfl,rfl⟩
   .exact SeqAt.EqAt.none_int j u _ _ _ _ h
   .exact SeqAt.EqAt.same .none _ _ _ _ h
 «strs»:=fun k x t v h=>by
  rcases aQ' h with⟨i,u,rfl,e⟩|⟨rfl,e⟩<;>exact nomatch e
def fF' {α:Type} (own:List Nat) (wi:TI) (g:TG) (tc:TT) (aw':TL α) (a0:α) (ho:Addr->α->HO) (ok:α->Hp->Prop):TE:=fun σ H Q=>wi σ H fun J H1=>bj' own g tc aw' J σ a0 H1 fun xs H2=>ok xs H2/\∀p,H2 p=none->Q (.ref p) (upd H2 p (ho p xs))
structure CompInG {α:Type} (Is:α->Obj->Prop) (X:Cx) (e:Expr) (scope:Scope) (tg:Expr) (iter:Expr) (ifs:List Expr) (nx:Addr->Env->Sem Unit) (g:TG) (tc:TT) (aw':TL α) (own:List Nat):Prop where
 sc:CompSc X scope
 ow:∀i x,X.N[i]?=some x->(scope.names.lookup x=some .local\/scope.names.lookup x=some .cell)->i∈own
 cl:∃gs,clausesOf e=⟨tg,iter,ifs,0⟩ :: gs
 fs:∀x,foldedSetIterable iter X.env x=pure x
 calm:X.calm=true
 q:∀it D env,(Code.compLoop e 0 it (.ref D) env).quiet=true/\(Code.compStart e 0 it (.ref D) env).quiet=true
 u:∀A it D env,Around.under A (Code.compLoop e 0 it (.ref D) env)=A/\Around.under A (Code.compStart e 0 it (.ref D) env)=A
 T:∀P w it D env,(model P w).den (.compLoop e 0 it (.ref D) env)=(dt' e 0 tg iter ifs (nx D env) it (.ref D) env).onRaise (fun x=>do noteFrame x env;theTreesLotGoes x)
 S:∀P w it D env,(model P w).den (.compStart e 0 it (.ref D) env)=(compStart e 0 it (.ref D) env).onRaise (fun x=>do noteFrame x env;standAt theWindowsPlace)
 ge:rJ' own g
 inn:∀s0 H0 ex D,PG (X.comp scope s0 H0 ex) tg g/\PTs (X.comp scope s0 H0 ex) ifs tc/\∃ws',(∀j∈ws',j∈own)/\dK' (X.comp scope s0 H0 ex) D Is ws' (nx D (X.comp scope s0 H0 ex).env) aw'
section
variable {X:Cx} {e:Expr} {scope:Scope} {tg iter:Expr} {ifs:List Expr} {nx:Addr->Env->Sem Unit} {g:TG} {tc:TT} {α:Type} {Is:α->Obj->Prop} {aw':TL α} {own:List Nat} {wi:TI} {a0:α} {o0:Bool->Obj} {newAcc:Sem Value} {ho:Addr->α->HO} {ok:α->Hp->Prop}
theorem fG' (hnew:∀(s:Shared) (Q:Value->Shared->Prop),(∀led,Q (.ref s.heap.objs.size) { s with heap:=s.heap.push (o0 led) })->wpAny (model X.prog X.w) X.A newAcc Q X.xe s) (hfr:∀led,(o0 led).isFreed=false) (ha0:∀led,Is a0 (o0 led)) (hda:∀(a:α) (o:Obj),Is a o->∀v:Option Value,o.data≠.cell v) (C:CompInG Is X e scope tg iter ifs nx g tc aw' own) (hi:PI X tg iter wi) {pins:List (Addr×Obj)} {s:Shared} {σ:St} {H:Hp} {R:V->Hp->Prop} (I:Inv X pins σ H s) (hw:fF' own wi g tc aw' a0 ho ok σ H R)
  {use:Option (Value->Sem Unit)} {Q:Value->Shared->Prop} {pos:Pos}
  (fin:∀(s3 s':Shared) (H0 H':Hp) (ex:List Addr) (D:Addr) (xs:α) (o:Obj) (σ':St),Inv X pins σ H0 s3->(∀b∈ex,cX' X pins H0 b)->Inv (X.comp scope s3 H0 ex) [] σ' H' s'->s'.heap.get? D=some o->D<s3.heap.objs.size->X.s₀.heap.objs.size<=D->cX' X pins H0 D->(D == sysModules)=false->Is xs o->H' D=none->ok xs H'->R (.ref D) (upd H' D (ho D xs))->
   compPost (model X.prog X.w) X.A X.xe use Q (.ref D) s3.heap.objs.size (.ok .next) s'):
  wpAny (model X.prog X.w) X.A (comprehension e scope X.env pos newAcc false (eval iter X.env) use) Q X.xe s:=by
 obtain⟨gs,hcl⟩:=C.cl
 refine wpAny_comprehension_free hcl C.fs (i9' fun n hn=>I.ok.has n (C.sc.free n hn)) C.sc.kind C.sc.names ?_
 refine thn (hi pins s σ H _ I hw) fun v s1 h1=>thn h1 fun itv s2 h2=>?_
 obtain⟨it,fp,tn,J,H2,rfl,I2,T,st2,f2,hc⟩:=h2
 refine hnew _ _ fun led=>cE' ?_
 have keep:∀b o,s2.heap.get? b=some o->(s2.heap.push (o0 led)).get? b=some o:=fun b o e=>ac _ e
 have I3:Inv X pins σ H2 { s2 with heap:=s2.heap.push (o0 led) }:=I2.kept (t':=s2.toks) keep
 have hsz:(s2.heap.push (o0 led)).objs.size=s2.heap.objs.size+1:=aS ..
 have fD:cX' X pins H2 s2.heap.objs.size:=I2.fpOk (ag _) (I2.hok.fresh (ag _))
 have hlt:∀b∈fp,b<s2.heap.objs.size:=fun b hb=>by
  obtain⟨o,e,_⟩:=T.obj _ _ st2 b hb
  exact ap e
 have hDf:s2.heap.objs.size∉fp:=fun z=>aV _ (hlt _ z)
 have hex:∀b∈s2.heap.objs.size :: fp,cX' X pins H2 b:=fun b hb=>by
  rcases am.mp hb with rfl|hb
  .exact fD
  .exact f2 b hb
 generalize hs3:({ s2 with heap:=s2.heap.push (o0 led) }:Shared)=s3 at *
 have hs3s:s3.heap.objs.size=s2.heap.objs.size+1:=by rw[<- hs3];exact hsz
 have hlt3:∀b∈s2.heap.objs.size :: fp,b<s3.heap.objs.size:=fun b hb=>by
  rw[hs3s]
  rcases am.mp hb with rfl|hb
  .exact Nat.lt_succ_self _
  .exact cv (hlt b hb)
 have J0:=eF' (own:=own) I3 hex hlt3 C.sc C.ow
 obtain⟨c1,c2,ws',c4,c5⟩:=C.inn s3 H2 (s2.heap.objs.size :: fp) s2.heap.objs.size
 have kp:∀b o,s2.heap.get? b=some o->(aX' s3.heap scope.names).get? b=some o:=fun b o e=>pushCells_keeps _ _ b o (ac _ (by rw[<- hs3];exact keep b o e))
 have oD:(aX' s3.heap scope.names).get? s2.heap.objs.size=some (o0 led):=pushCells_keeps _ _ _ _ (ac _ (by rw[<- hs3];exact ai _ (hfr led)))
 have stat:∀b∈s2.heap.objs.size :: fp,cX' (X.comp scope s3 H2 (s2.heap.objs.size :: fp)) [] H2 b:=fun b hb=>
  ⟨(hex b hb).1,(J0.ok.exf b hb).1,J0.ok.exfs b hb,.inl hb,(J0.ok.exf b hb).2,fun p hp=>absurd (show p∈([]:List (Addr×Obj)) from hp) (by simp)⟩
 have T':Turn (X.comp scope s3 H2 (s2.heap.objs.size :: fp)).prog (X.comp scope s3 H2 (s2.heap.objs.size :: fp)).w (X.comp scope s3 H2 (s2.heap.objs.size :: fp)).K tg J fp it tn:=T
 have hc':bj' own g tc aw' J (clr own σ) a0 H2 (fun xs H2=>ok xs H2/\∀p,H2 p=none->R (.ref p) (upd H2 p (ho p xs))):=by
  obtain⟨W,w0,turn⟩:=hc
  refine⟨W,w0,?_⟩
  rw[gX']
  exact turn
 have st3:tn 0 ({ s3 with heap:=aX' s3.heap scope.names }:Shared).heap:=T.keep _ _ _ st2 fun b hb o e=>kp b o e
 have L:=fC' (X:=X.comp scope s3 H2 (s2.heap.objs.size :: fp)) (Is:=Is) (D:=s2.heap.objs.size) rfl C.calm (C.q _ _ _).1 (C.u _ _ _ _).1 (C.T _ _ _ _ _) T' c1 C.ge c2 c5 c4 hda hDf J0
  (fun b hb=>stat b (ao _ hb)) (stat _ au) oD (ha0 led) st3 hc'
 have L2:=gW' (C.q _ _ _).2 (C.u _ _ _ _).2 (fun it'=>(C.q it' _ _).1) (C.S _ _ _ _ _) ⟨_,by rw[hcl];rfl,rfl⟩ L (fun E=>T.self _ 0 _ _ E st3 ⟨rfl,rfl⟩)
 refine codeAny_mono L2 fun r s' h=>?_
 obtain⟨rfl,xs,o',H',J',e',is',n',hN⟩:=h
 exact fin s3 s' H2 H' _ _ xs o' _ I3 hex J' e' (hlt3 _ au) I2.sz fD (beq_eq_false_iff_ne.mpr (bm I2.big)) is' n' hN.1 (hN.2 _ n')
end
section
variable {X:Cx} {e:Expr} {scope:Scope} {tg iter:Expr} {ifs:List Expr} {nx:Addr->Env->Sem Unit} {g:TG} {tc:TT} {α:Type} {Is:α->Obj->Prop} {aw':TL α} {own:List Nat} {wi:TI} {a0:α} {o0:Bool->Obj} {newAcc:Sem Value} {ho:Addr->α->HO} {ok:α->Hp->Prop}
theorem lQ' (hnew:∀(s:Shared) (Q:Value->Shared->Prop),(∀led,Q (.ref s.heap.objs.size) { s with heap:=s.heap.push (o0 led) })->wpAny (model X.prog X.w) X.A newAcc Q X.xe s) (hfr:∀led,(o0 led).isFreed=false) (ha0:∀led,Is a0 (o0 led)) (hda:∀(a:α) (o:Obj),Is a o->∀v:Option Value,o.data≠.cell v)
  (hfin:∀(a:α) (o:Obj) (D:Addr) (H:Hp) (h:Heap),Is a o->h.get? D=some o->(D == sysModules)=false->H D=none->ok a H->HOk X.prog X.w H h->as' X.prog X.w (upd H D (ho D a)) h D (ho D a)) (C:CompInG Is X e scope tg iter ifs nx g tc aw' own) (hi:PI X tg iter wi) {pos:Pos} (he:eval e X.env=comprehension e scope X.env pos newAcc false (eval iter X.env)):PE X e (fF' own wi g tc aw' a0 ho ok):=by
 intro pins s σ H Q I hw
 rw[he]
 refine fG' hnew hfr ha0 hda C hi I hw fun s3 s' H0 H' ex D xs o σ' I3 hex J e' hlt h0 fD sy is' n' hok' hR=>?_
 obtain⟨m,hn,_⟩:=J.loc
 refine⟨m,hn,fun h' hs=>?_⟩
 have J2:=dr' I3 hex J hs
 have neC:D≠s3.heap.objs.size:=ay hlt
 refine⟨.ref D,upd H' D (ho D xs),J2.track (o:=ho D xs) ⟨n',fD.2⟩ h0 (hfin xs o D H' _ is' ((hs.2 D neC).trans e') sy n' hok' J2.hok),rfl,hR⟩
theorem gn' (hnew:∀(s:Shared) (Q:Value->Shared->Prop),(∀led,Q (.ref s.heap.objs.size) { s with heap:=s.heap.push (o0 led) })->wpAny (model X.prog X.w) X.A newAcc Q X.xe s) (hfr:∀led,(o0 led).isFreed=false) (ha0:∀led,Is a0 (o0 led)) (hda:∀(a:α) (o:Obj),Is a o->∀v:Option Value,o.data≠.cell v)
  (hfin:∀(a:α) (o:Obj) (D:Addr) (H:Hp) (h:Heap),Is a o->h.get? D=some o->(D == sysModules)=false->H D=none->ok a H->HOk X.prog X.w H h->as' X.prog X.w (upd H D (ho D a)) h D (ho D a)) (C:CompInG Is X e scope tg iter ifs nx g tc aw' own) (hi:PI X tg iter wi) {i:Nat} {y:Str} {py pos pos2:Pos} (hN:X.N.Nodup) (hy:X.N[i]?=some y) (hx:Loc X.env.scope y) (hf:X.fn y=true\/X.env.scope.names.lookup y=some .local)
  (he:evalThenUse e X.env (assign (.Name y py) X.env)=(do let _ <- comprehension e scope X.env pos2 newAcc false (eval iter X.env) (some (assign (.Name y py) X.env))))
  (hsw:swapsWith e (some (.Name y py)) pos.line X.env=pure true):PS X (.Assign [.Name y py] e pos) (nC' (fF' own wi g tc aw' a0 ho ok) (ei' i)):=by
 intro pins s σ H D I hw
 rw[exec_Assign_Name_used _ _ _ _ hsw]
 refine aa (cy (aa ?_))
 rw[he]
 refine aa (thn (Q:=fun _ s'=>SP X pins D .next s') (fG' hnew hfr ha0 hda C hi I hw fun s3 s' H0 H' ex D' xs o σ' I3 hex J e' hlt h0 fD sy is' n' hok' hR=>?_) fun _ s' q=>ab (ab q))
 obtain⟨m,hn,_⟩:=J.loc
 have J2:Inv X pins σ H' s':=dr' I3 hex J (Heap.SameBut.refl ..)
 have neC:D'≠s3.heap.objs.size:=ay hlt
 have J3:Inv X pins σ (upd H' D' (ho D' xs)) s':=J2.track ⟨n',fD.2⟩ h0 (hfin xs o D' H' _ is' e' sy n' hok' J2.hok)
 have fC:cX' X pins H0 s3.heap.objs.size:=I3.fpOk (ag _) (I3.hok.fresh (ag _))
 refine wpAny_assign_Name (dz' J3 hN hy hx (v:=.ref D') rfl (fun s'' J4 hs=>?_) hf)
 obtain⟨a,hsa,ha⟩:=hs
 have haC:s3.heap.objs.size≠a:=by
  rcases ha with rfl|ha
  .exact fC.2.1
  .exact fun q=>fC.2.2.2.2.1 _ _ ha q.symm
 have hn':s'.heap.Ns s3.heap.objs.size m:=hn
 refine⟨m,hn'.sameBut hsa haC,fun h' hs'=>?_⟩
 have J5:Inv X pins (σ.set i (some (.ref D'))) (upd H' D' (ho D' xs)) { s'' with heap:=h' }:=J4.turned (it:=s3.heap.objs.size) (t':=s''.toks) (fun b ob hb q=>(hs'.2 b hb).trans q) (by rw[ad' (Ne.symm neC)];exact J.free) fC.2.1 fC.2.2.2.1 fC.2.2.2.2.1 fC.2.2.2.2.2
 exact⟨_,_,J5,hR⟩
end
def kO:Option Int->V
 |some i=>.int i
 |none=>.non
theorem lR' {P:Program} {w:World} {k:Option Int} {u:Value} (r:av' (kO k) u):(o5' P w).is k u=true/\u.scannable=true:=by
 cases k with
 |none=>cases r;exact⟨rfl,rfl⟩
 |some i=>
  obtain⟨t,rfl⟩:=r
  exact⟨by show Value.isInt i (.int i t)=true;simp[Value.isInt],rfl⟩
def IsS (a:(Option Int->Bool)×Nat) (o:Obj):Prop:=a.2<=4000/\(∃es ep t,o.data=.set es ep t)/\∃m,m<=a.2/\∀(P:Program) (w:World),o.SetObjOf (o5' P w) a.1 m
def vP' (D:Addr) (S:Option Int->Bool) (n:Nat):HO:=.ext fun h=>∃o,h.get? D=some o/\IsS (S,n) o
section
variable {X:Cx}
theorem nJ' {s:Shared} {D:Addr} {a:(Option Int->Bool)×Nat} {o:Obj} (e:s.heap.get? D=some o) (i:IsS a o):∃m,m<=a.2/\s.heap.SetOf (o5' X.prog X.w) D a.1 m:=by
 obtain⟨hn,_,m,hm,h⟩:=i
 exact⟨m,hm,(h X.prog X.w).setOf e (cJ (aG hm hn) (by decide))⟩
def va' (neg:Bool):R2:=fun x y H Q=>∃k D S n,x=kO k/\y=.ref D/\H D=some (vP' D S n)/\Q (.bl (if neg then !(S k)else S k)) H
theorem rY':OpR X (compareOp .In) (va' false):=by
 intro pins s σ H x y v u Q I rx ry h
 obtain⟨k,D,S,n,rfl,rfl,hD,q⟩:=h
 cases ry
 obtain⟨o,e,i⟩:=(show as' X.prog X.w H s.heap D (vP' D S n) from I.hok D _ hD).1
 obtain⟨m,_,hS⟩:=nJ' (X:=X) e i
 exact wpAny_inSet_of (lR' rx).1 (lR' (P:=X.prog) (w:=X.w) rx).2 hS ⟨.bl (S k),H,I.tok _,rfl,q⟩
theorem jp':OpR X (compareOp .NotIn) (va' true):=by
 intro pins s σ H x y v u Q I rx ry h
 obtain⟨k,D,S,n,rfl,rfl,hD,q⟩:=h
 cases ry
 obtain⟨o,e,i⟩:=(show as' X.prog X.w H s.heap D (vP' D S n) from I.hok D _ hD).1
 obtain⟨m,_,hS⟩:=nJ' (X:=X) e i
 exact wpAny_notInSet_of (lR' rx).1 (lR' (P:=X.prog) (w:=X.w) rx).2 hS ⟨.bl (!S k),H,I.tok _,rfl,q⟩
def rZ' (te:TE):TL ((Option Int->Bool)×Nat):=fun σ a H N=>te σ H fun v H'=>∃k,v=kO k/\a.2<4000/\N (fun j=>a.1 j || decide (j=k),a.2+1) H'
end
abbrev NH:Int:=0xFCA86420
section
variable {prog:Program} {w:World} {A:Around} {E:Value->Shared->Prop} {s:Shared}
theorem jq' {d:Addr} {o:Obj} {es:Array DictEntry} {ep:Nat} {Q:Option Nat->Shared->Prop} (ho:s.heap.get? d=some o) (hd:o.data=.dict es ep) (hno:∀e∈es.toList,e.hash≠NH) (h:Q none s):
  wpAny (model prog w) A (dictFind d .none NH) Q E s:=by
 have hp:placesWithHash es.size (fun i=>es[i]?.map (·.hash)) NH=[]:=by
  unfold placesWithHash
  rw[List.filter_eq_nil_iff]
  intro i hi hc
  dsimp only at hc
  cases he:es[i]? with
  |none=>rw[he]at hc;cases hc
  |some e=>
   rw[he]at hc
   have hm:e∈es.toList:=cR.mpr (Array.mem_of_getElem? he)
   exact hno e hm (by simpa using hc)
 unfold dictFind
 try with_reducible refine aE ?_
 refine aa (bY ho hd ?_)
 dsimp only
 rw[hp]
 rw[if_pos (show((Value.none :: ([]:List Nat).filterMap (fun i=>es[i]?.map (·.key))).all carriedByValue)=true by rfl)]
 unfold dictWalkPlain
 simp only[cD,pure_bind,bind_pure]
 exact ab h
end
theorem fH' {P:Program} {w:World} {k:Key}:∀{es:List DictEntry} {vs:List (Key×Value)} {en:DictEntry},Pairs (al' P w) es vs->en∈es->(al' P w).is k en.key=true->k∈vs.map (·.1)
 |_,_,_,.nil,h,_=>by cases h
 |_,_,en,.cons (e:=e) (kv:=kv) h1 h2 r,h,hk=>by
  rcases am.mp h with rfl|h
  .rw[(al' P w).inj _ _ _ hk h1]
   exact au
  .exact ao _ (fH' r h hk)
theorem bC' {α β:Type} {F:α->β->Prop}:∀{xs:List α} {ys:List β} {y:β},Paired F xs ys->y∈ys->∃x∈xs,F x y
 |_,_,_,.nil,h=>by cases h
 |_,_,y,.cons h1 r,h=>by
  rcases am.mp h with rfl|h
  .exact⟨_,au,h1⟩
  .obtain⟨x,hx,hf⟩:=bC' r h
   exact⟨x,ao _ hx,hf⟩
def NoN (H:Hp) (a:Addr):Prop:=(∃kvs,H a=some (.dK kvs)/\∀kv∈kvs,∃i:Int,kv.1=.inl i/\hashInt i≠NH)\/
 ∃kvs,H a=some (.dT kvs)/\∀kv∈kvs,∃is:List Int,kv.1=is.map Key.inl/\reduceHash (Builtin.Tuple.tupleHashOf (is.map hashInt))≠NH
theorem NoN.at {X:Cx} {pins:List (Addr×Obj)} {σ:St} {H:Hp} {s:Shared} {a:Addr} (I:Inv X pins σ H s) (h:NoN H a):(a == sysModules)=false/\s.TypeIs (.ref a) "dict"/\∃o es ep,s.heap.get? a=some o/\o.data=.dict es ep/\∀e∈es.toList,e.hash≠NH:=by
 rcases h with⟨kvs,e,hk⟩|⟨kvs,e,hk⟩
 .obtain⟨z,hd,vs,rel,dd⟩:=rE' I.hok e
  refine⟨hd,dd.typeIs,?_⟩
  obtain⟨o,es,ep,h1,_,h3,h4,h5,_⟩:=dd
  refine⟨o,es,ep,h1,h3,fun en hen=>?_⟩
  obtain⟨k,hk1,hk2⟩:=h4 en (cR.mp hen)
  have hin:k∈kvs.map (·.1):=by
   rw[rel.keys]
   exact fH' h5 hen hk1
  obtain⟨kv,hkv,rfl⟩:=aZ.mp hin
  obtain⟨i,ei,hi⟩:=hk kv hkv
  rw[hk2,ei]
  exact hi
 .obtain⟨z,hd,xs,rel,dd⟩:=rF' I.hok e
  refine⟨hd,dd.typeIs,?_⟩
  obtain⟨o,es,ep,h1,_,h3,h4,_⟩:=dd
  refine⟨o,es,ep,h1,h3,fun en hen=>?_⟩
  rw[h4]at hen
  obtain⟨x,hx,rfl⟩:=aZ.mp hen
  obtain⟨kv,hkv,hp⟩:=bC' rel hx
  obtain⟨is,ei,hi⟩:=hk kv hkv
  show(tupleKind (al' X.prog X.w)).hash x.1≠NH
  rw[<- hp.1,ei]
  show reduceHash (Builtin.Tuple.tupleHashOf ((is.map Key.inl).map (al' X.prog X.w).hash))≠NH
  rw[bU]
  exact hi
theorem lS' {X:Cx} {A:Around} {E:Value->Shared->Prop} (s:Shared) (Q:Value->Shared->Prop) (h:∀_led:Bool,Q (.ref s.heap.objs.size) { s with heap:=s.heap.push { cls:=.type "dict",dict:=none,data:=.dict #[] } }):wpAny (model X.prog X.w) A newDict Q E s:=aI (h true)
section
variable {X:Cx}
def r0' (tk tv:TE):TL (List (Key×V)):=fun σ a H N=>tk σ H fun y H1=>tv σ H1 fun v H2=>∃k,y=kV k/\a.length<sizeLine/\N (dn' a k v) H2
end
abbrev KTL:=List (List Key×Addr×V)
def r1' (P:Program) (w:World) (a:KTL) (o:Obj):Prop:=a.length<=sizeLine/\∃(xs:List (List Key×Addr×Value)) (es:Array DictEntry) (ep:Nat),Paired (fun(p:List Key×Addr×V) (q:List Key×Addr×Value)=>p.1=q.1/\p.2.1=q.2.1/\av' p.2.2 q.2.2) a xs/\o.ExactDict/\o.data=.dict es ep/\es.toList=xs.map (entryOfKey (tupleKind (al' P w)))/\(xs.map (·.1)).Nodup
theorem fI' {P:Program} {w:World} (a:KTL) (o:Obj) (h:r1' P w a o) (v:Option Value):o.data≠.cell v:=by
 obtain⟨_,_,es,ep,_,_,hd,_⟩:=h
 rw[hd]
 exact fun z=>nomatch z
theorem jr' {P:Program} {w:World} (_led:Bool):r1' P w [] { cls:=.type "dict",dict:=none,data:=.dict #[] }:=
 ⟨aT _,[],#[],0,.nil,⟨rfl,rfl,rfl⟩,rfl,rfl,List.nodup_nil⟩
def okT (a:KTL) (H:Hp):Prop:=∀x∈a,H x.2.1=some (.tup (x.1.map kV))
def plT (a:KTL):List (List Key×V):=a.map fun x=>(x.1,x.2.2)
theorem eG' {H:Hp}:∀{a:KTL} {xs:List (List Key×Addr×Value)},Paired (fun(p:List Key×Addr×V) (q:List Key×Addr×Value)=>p.1=q.1/\p.2.1=q.2.1/\av' p.2.2 q.2.2) a xs->okT a H->Paired (fun(p:List Key×V) (q:List Key×Addr×Value)=>p.1=q.1/\H q.2.1=some (.tup (p.1.map kV))/\av' p.2 q.2.2) (plT a) xs
 |_,_,.nil,_=>.nil
 |_,_,.cons h r,ok=>.cons ⟨h.1,by rw[<- h.2.1];exact ok _ au,h.2.2⟩ (eG' r fun x hx=>ok x (ao _ hx))
theorem r2' {P:Program} {w:World} (a:KTL) (o:Obj) (D:Addr) (H:Hp) (h:Heap) (i:r1' P w a o) (e:h.get? D=some o) (sy:(D == sysModules)=false) (hD:H D=none) (ok:okT a H) (_:HOk P w H h):as' P w (upd H D (.dT (plT a))) h D (.dT (plT a)):=by
 obtain⟨z,xs,es,ep,h1,h2,h3,h4,h5⟩:=i
 refine⟨by unfold plT;rw[ah];exact z,sy,xs,eG' h1 fun x hx=>?_,o,es,ep,e,h2,h3,h4,h5⟩
 rw[ad' (af' (ok x hx) hD)]
 exact ok x hx
section
variable {X:Cx}
def r3' (tk tv:TE):TL KTL:=fun σ a H N=>tk σ H fun y H1=>tv σ H1 fun v H2=>∃(k:List Key) (b:Addr),y=.ref b/\H2 b=some (.tup (k.map kV))/\okT a H2/\(∀x∈a,x.1≠k)/\a.length<sizeLine/\N (a++[(k,b,v)]) H2
end
theorem ltG {α:Type} {l:List α} {i:Nat} {x:α} (h:l[i]?=some x):i<l.length:=(aM.mp h).1
section
variable {prog:Program} {w:World} {K:Type} [DecidableEq K] {knd:HeapKind prog w K} {A:Around} {E:Value->Shared->Prop} {s:Shared}
def nK' (knd:HeapKind prog w K):Option (K×Addr)->DictEntry
 |none=>⟨NH,.none,.bool true⟩
 |some (k,a)=>⟨knd.hash k,.ref a,.bool true⟩
structure MixO (knd:HeapKind prog w K) (h:Heap) (es:Array DictEntry) (ys:List (Option (K×Addr))):Prop where
 its:es.toList=ys.map (nK' knd)
 is:∀k b,some (k,b)∈ys->knd.is h k b
 ne:∀k b,some (k,b)∈ys->knd.hash k≠NH
 nd:(ys.map (aY Prod.fst)).Nodup
theorem MixO.get {h:Heap} {es:Array DictEntry} {ys:List (Option (K×Addr))} (m:MixO knd h es ys) (j:Nat):es[j]?=ys[j]?.map (nK' knd):=by
 rw[<- ci,m.its,aC]
theorem MixO.one {h:Heap} {es:Array DictEntry} {ys:List (Option (K×Addr))} (m:MixO knd h es ys) {i j:Nat} {x y:Option (K×Addr)} (hi:ys[i]?=some x) (hj:ys[j]?=some y) (e:x.map Prod.fst=y.map Prod.fst):i=j:=by
 have li:=ltG hi
 have lj:=ltG hj
 rw[ae li]at hi
 rw[ae lj]at hj
 cases hi
 cases hj
 have key:∀a b:Nat,∀(ha:a<ys.length) (hb:b<ys.length),a<b->ys[a].map Prod.fst≠ys[b].map Prod.fst:=fun a b ha hb hab=>by
  have:=ck.mp m.nd a b (by rw[ah];exact ha) (by rw[ah];exact hb) hab
  rw[List.getElem_map,List.getElem_map]at this
  exact this
 rcases Nat.lt_trichotomy i j with z|z|z
 .exact absurd e (key i j li lj z)
 .exact z
 .exact absurd e.symm (key j i lj li z)
theorem g1' {d a:Addr} {o:Obj} {es:Array DictEntry} {ep:Nat} {ys:List (Option (K×Addr))} {k:K} {Q:Option Nat->Shared->Prop} (hu:knd.room A) (hkey:knd.is s.heap k a) (hne:knd.hash k≠NH)
  (ho:s.heap.get? d=some o) (hd:o.data=.dict es ep) (m:MixO knd s.heap es ys) (hnone:(∀(j:Nat) b,ys[j]?≠some (some (k,b)))->Q none s) (hsome:∀(j:Nat) b,ys[j]?=some (some (k,b))->Q (some j) s):
  wpAny (model prog w) A (dictFind d (.ref a) (knd.hash k)) Q E s:=by
 have at_:∀i:Nat,(es[i]?.map (·.hash))=some (knd.hash k)->∃k' b,ys[i]?=some (some (k',b)):=fun i hi=>by
  rw[m.get i]at hi
  cases e:ys[i]? with
  |none=>rw[e]at hi;cases hi
  |some x=>
   cases x with
   |none=>rw[e]at hi;exact absurd (Option.some.inj hi).symm hne
   |some q=>exact⟨q.1,q.2,rfl⟩
 have mem_:∀i:Nat,i∈placesWithHash es.size (fun i=>es[i]?.map (·.hash)) (knd.hash k)->(es[i]?.map (·.hash))=some (knd.hash k):=fun i hi=>by
  have:=(cL.mp hi).2
  simpa using this
 have in_:∀(j:Nat) b,ys[j]?=some (some (k,b))->j∈placesWithHash es.size (fun i=>es[i]?.map (·.hash)) (knd.hash k):=fun j b hj=>by
  refine cL.mpr ⟨bi.mpr ?_,?_⟩
  .have:=ltG hj
   have e:es.size=ys.length:=by rw[<- aq,m.its,ah]
   omega
  .show(es[j]?.map (·.hash) == some (knd.hash k))=true
   rw[m.get j,hj]
   simp[nK']
 have hany:¬(es.any fun e=>e.key == Value.ref a&&e.hash != knd.hash k)=true:=by
  rw[<- Array.any_toList,List.any_eq_true]
  rintro⟨e,hin,hc⟩
  rw[m.its]at hin
  obtain⟨x,hx,rfl⟩:=aZ.mp hin
  cases x with
  |none=>
   have h1:=(Bool.and_eq_true_iff.mp hc).1
   exact absurd (eq_of_beq h1) (fun z=>nomatch z)
  |some q=>
   have h1:=eq_of_beq (Bool.and_eq_true_iff.mp hc).1
   have h2:=(Bool.and_eq_true_iff.mp hc).2
   have ea:q.2=a:=Value.ref.inj h1
   have hi:=m.is q.1 q.2 hx
   rw[ea]at hi
   have hk:=knd.inj hi hkey
   have:(knd.hash q.1 != knd.hash k)=true:=h2
   rw[hk]at this
   simp at this
 have hst:∀v∈(placesWithHash es.size (fun i=>es[i]?.map (·.hash)) (knd.hash k)).filterMap (fun i=>es[i]?.map (·.key)),∃k' b,v=.ref b/\knd.is s.heap k' b:=by
  intro v hv
  obtain⟨i,hi,hv⟩:=cH.mp hv
  obtain⟨k',b,hq⟩:=at_ i (mem_ i hi)
  rw[m.get i,hq]at hv
  exact⟨k',b,(Option.some.inj hv).symm,m.is k' b (az hq)⟩
 unfold dictFind
 try with_reducible refine aE ?_
 refine aa (bY ho hd ?_)
 dsimp only
 rw[if_neg (show ¬((Value.ref a :: (placesWithHash es.size (fun i=>es[i]?.map (·.hash)) (knd.hash k)).filterMap (fun i=>es[i]?.map (·.key))).all carriedByValue)=true by simp[carriedByValue])]
 rw[if_neg hany]
 by_cases hone:(((placesWithHash es.size (fun i=>es[i]?.map (·.hash)) (knd.hash k)).filterMap (fun i=>es[i]?.map (·.key))) == [Value.ref a])=true<;>
 (first|rw[if_pos hone]|rw[if_neg hone])<;>(first|refine aa (ab ?_)|refine aa (wpAny_tableMayTell_quiet hkey hst ?_))<;>(
  rw[if_neg (by simp)]
  refine aa ?_
  refine wpAny_forIn_list _ (fun aw' b s'=>s'=s/\∃hit,b=(none,hit)/\aw'.Nodup/\(∀i∈aw',(es[i]?.map (·.hash))=some (knd.hash k))/\(∀j b,ys[j]?=some (some (k,b))->j∈aw'\/hit=some j)/\∀j,hit=some j->j∉aw'/\∃b,ys[j]?=some (some (k,b))) _ ?_ ?_ _ _
   ⟨rfl,none,rfl,List.Pairwise.filter _ List.nodup_range,mem_,fun j b hj=>.inl (in_ j b hj),fun j z=>nomatch z⟩
  .rintro x aw' b s' ⟨rfl,hit,rfl,hnd,hr,hall,hh⟩
   obtain⟨hxr,hnd⟩:=cr.mp hnd
   obtain⟨k',b,hq⟩:=at_ x (hr x au)
   have hib:=m.is k' b (az hq)
   have hex:es[x]?=some ⟨knd.hash k',.ref b,.bool true⟩:=by rw[m.get x,hq];rfl
   have hhk:(knd.hash k' == knd.hash k)=true:=by
    have:=hr x au
    rw[hex]at this
    simpa using this
   have hr':=fun i hi=>hr i (ao _ hi)
   rw[hex]
   dsimp only
   rw[if_pos hhk]
   refine aa (cw ho hd (aa (knd.eqBool (x:=k') (y:=k) hu hib hkey (aa (cw ho hd ?_)))))
   show wpAny _ _ (if(ep != ep)=true then _ else _) _ E _
   rw[if_neg (by simp)]
   by_cases hkk:k'=k
   .rw[decide_eq_true hkk]
    subst hkk
    have h0:hit=none:=by
     cases hit with
     |none=>rfl
     |some j=>
      obtain⟨z,b',hj⟩:=hh j rfl
      have:=m.one hj hq rfl
      subst this
      exact absurd au z
    subst h0
    first|rw[if_pos rfl]|skip
    simp only[Option.isSome_none,bc,if_false]
    first|refine aa (ab ?_)|skip
    refine aa (bu ?_)
    split
    .exact ab (ab (hsome x b hq))
    .refine ab ⟨rfl,some x,rfl,hnd,hr',fun j b' hj=>.inr (by rw[m.one hj hq rfl]),fun j hj=>?_⟩
     cases hj
     exact⟨hxr,b,hq⟩
   .rw[decide_eq_false hkk]
    simp only[bc,if_false]
    refine aa (bu ?_)
    have stay:∀j b',ys[j]?=some (some (k,b'))->j∈aw'\/hit=some j:=fun j b' hj=>by
     rcases hall j b' hj with z|z
     .rcases am.mp z with z|z
      .subst z
       rw[hq]at hj
       cases hj
       exact absurd rfl hkk
      .exact .inl z
     .exact .inr z
    have stay2:∀j,hit=some j->j∉aw'/\∃b,ys[j]?=some (some (k,b)):=fun j hj=>⟨fun z=>(hh j hj).1 (ao _ z),(hh j hj).2⟩
    first|rw[if_neg (by simp)]|skip
    first
     |exact ab ⟨rfl,hit,rfl,hnd,hr',stay,stay2⟩
     |exact aa (ab (ab ⟨rfl,hit,rfl,hnd,hr',stay,stay2⟩))
  .rintro b s' ⟨rfl,hit,rfl,_,_,hall,hh⟩
   cases hit with
   |none=>
    refine ab (hnone fun j b hj=>?_)
    rcases hall j b hj with z|z
    .exact aB z
    .cases z
   |some j=>
    obtain⟨_,b,hj⟩:=hh j rfl
    exact ab (hsome j b hj))
theorem go' {Q:Bool->Shared->Prop} (h:Q true s):wpAny (model prog w) A (eqBool .none .none) Q E s:=by
 unfold eqBool
 refine aE ?_
 show wpAny _ _ (if(Value.none == Value.none)=true then _ else _) Q E s
 rw[if_pos (beq_self_eq_true _)]
 exact aa (bu (ab h))
theorem js' {d:Addr} {o:Obj} {es:Array DictEntry} {ep:Nat} {ys:List (Option (K×Addr))} {Q:Option Nat->Shared->Prop}
  (ho:s.heap.get? d=some o) (hd:o.data=.dict es ep) (m:MixO knd s.heap es ys) (hnone:none∉ys->Q none s) (hsome:∀j:Nat,ys[j]?=some none->Q (some j) s):
  wpAny (model prog w) A (dictFind d .none NH) Q E s:=by
 have at_:∀i:Nat,(es[i]?.map (·.hash))=some NH->ys[i]?=some none:=fun i hi=>by
  rw[m.get i]at hi
  cases e:ys[i]? with
  |none=>rw[e]at hi;cases hi
  |some x=>
   cases x with
   |none=>rfl
   |some q=>rw[e]at hi;exact absurd (Option.some.inj hi) (m.ne q.1 q.2 (az e))
 have mem_:∀i:Nat,i∈placesWithHash es.size (fun i=>es[i]?.map (·.hash)) NH->(es[i]?.map (·.hash))=some NH:=fun i hi=>by
  have:=(cL.mp hi).2
  simpa using this
 have in_:∀j:Nat,ys[j]?=some none->j∈placesWithHash es.size (fun i=>es[i]?.map (·.hash)) NH:=fun j hj=>by
  refine cL.mpr ⟨bi.mpr ?_,?_⟩
  .have:=ltG hj
   have e:es.size=ys.length:=by rw[<- aq,m.its,ah]
   omega
  .show(es[j]?.map (·.hash) == some NH)=true
   rw[m.get j,hj]
   simp[nK']
 have hst:((Value.none :: (placesWithHash es.size (fun i=>es[i]?.map (·.hash)) NH).filterMap (fun i=>es[i]?.map (·.key))).all carriedByValue)=true:=by
  rw[bh]
  intro v hv
  rcases am.mp hv with rfl|hv
  .rfl
  .obtain⟨i,hi,hv⟩:=cH.mp hv
   rw[m.get i,at_ i (mem_ i hi)]at hv
   cases hv
   rfl
 unfold dictFind
 try with_reducible refine aE ?_
 refine aa (bY ho hd ?_)
 dsimp only
 rw[if_pos hst]
 unfold dictWalkPlain
 cases hp:placesWithHash es.size (fun i=>es[i]?.map (·.hash)) NH with
 |nil=>
  simp only[cD,pure_bind,bind_pure]
  refine ab (hnone fun z=>?_)
  obtain⟨j,hj⟩:=bQ z
  have:=in_ j hj
  rw[hp]at this
  exact aB this
 |cons i aw'=>
  have hi:i∈placesWithHash es.size (fun i=>es[i]?.map (·.hash)) NH:=by rw[hp];exact au
  have hq:=at_ i (mem_ i hi)
  have hex:es[i]?=some ⟨NH,.none,.bool true⟩:=by rw[m.get i,hq];rfl
  refine aa ?_
  refine wpAny_forIn_list _ (fun aw' b s'=>s'=s/\((b=(none,())/\∃r',aw'=i :: r'))\/False) _ ?_ ?_ _ _ (.inl ⟨rfl,rfl,aw',rfl⟩)
  .rintro x aw' b s' (⟨rfl,rfl,r',e⟩|z)
   .cases e
    rw[hex]
    dsimp only
    rw[if_pos (by simp)]
    refine aa (cw ho hd (aa (go' (aa (cw ho hd ?_)))))
    show wpAny _ _ (if(ep != ep)=true then _ else _) _ E _
    rw[if_neg (by simp)]
    rw[if_pos rfl]
    exact aa (bu (ab (ab (hsome i hq))))
   .exact z.elim
  .rintro b s' (⟨rfl,rfl,r',e⟩|z)
   .cases e
   .exact z.elim
def r4' (ys:List (Option (K×Addr))) (q:Option (K×Addr)):List (Option (K×Addr)):=if q.map Prod.fst∈ys.map (aY Prod.fst)then ys else ys++[q]
theorem gp' {ys:List (Option (K×Addr))} {q:Option (K×Addr)} (h:q.map Prod.fst∈ys.map (aY Prod.fst)):r4' ys q=ys:=if_pos h
theorem e0' {ys:List (Option (K×Addr))} {q:Option (K×Addr)} (h:¬q.map Prod.fst∈ys.map (aY Prod.fst)):r4' ys q=ys++[q]:=if_neg h
theorem dO' {es:Array DictEntry} {l:List DictEntry} {j:Nat} (he:es.toList=l) (hj:∀e,l[j]?=some e->e.val=.bool true):(es.modify j fun e=>{ e with val:=.bool true }).toList=l:=by
 rw[Array.toList_modify,he]
 refine bX fun i=>?_
 rw[List.getElem?_modify]
 cases e:l[i]? with
 |none=>rfl
 |some x=>
  show some (if j=i then { x with val:=Value.bool true } else x)=some x
  by_cases h:j=i
  .subst h
   have:=hj x e
   rw[if_pos rfl,<- this]
  .rw[if_neg h]
theorem MixO.val {h:Heap} {es:Array DictEntry} {ys:List (Option (K×Addr))} (m:MixO knd h es ys) {j:Nat} {e:DictEntry} (he:(ys.map (nK' knd))[j]?=some e):e.val=.bool true:=by
 rw[aC]at he
 cases x:ys[j]? with
 |none=>rw[x]at he;cases he
 |some q=>
  rw[x]at he
  cases q<;>cases he<;>rfl
theorem o6' {d a:Addr} {o:Obj} {es:Array DictEntry} {ep:Nat} {ys:List (Option (K×Addr))} {k:K} {Q:Unit->Shared->Prop} (hu:knd.room A) (hkey:knd.is s.heap k a) (hne:knd.hash k≠NH)
  (ho:s.heap.get? d=some o) (hc:o.ExactDict) (hd:o.data=.dict es ep) (m:MixO knd s.heap es ys) (hz:ys.length<=sizeLine)
  (hQ:∀h' o' es' ep',h'.get? d=some o'->o'.ExactDict->o'.data=.dict es' ep'->es'.toList=(r4' ys (some (k,a))).map (nK' knd)->br d s.heap h'->Q () { s with heap:=h',toks:=s.toks+knd.draws k }):
  wpAny (model prog w) A (dictSet d (.ref a) (.bool true)) Q E s:=by
 have hsz:es.size<=sizeLine:=by rw[<- aq,m.its,ah];exact hz
 unfold dictSet
 try with_reducible refine aE ?_
 refine aa (knd.pyHash hu hkey ?_)
 unfold dictSetHashed
 try with_reducible refine aE ?_
 refine aa (g1' (s:={ s with toks:=s.toks+knd.draws k }) hu hkey hne ho hd m (fun hno=>?_) fun j b hj=>?_)
 .refine aa (bu (wpAny_updateDictKeys (hz:=hsz) (s:={ s with toks:=s.toks+knd.draws k }) ho hd (hQ _ _ _ (ep+1) (aR _ ho (Obj.isFreed_of_dict (Obj.data_mapDictKeys hd _))) (hc.mapDictKeys _) (Obj.data_mapDictKeys hd _) ?_ (Heap.SameBut.update ..))))
  have hk:¬(some (k,a):Option (K×Addr)).map Prod.fst∈ys.map (aY Prod.fst):=fun z=>by
   obtain⟨q,hq,e⟩:=aZ.mp z
   cases q with
   |none=>cases e
   |some q=>
    obtain⟨j,hj⟩:=bQ hq
    have e:q.1=k:=Option.some.inj e
    exact hno j q.2 (by rw[hj,<- e])
  rw[e0' hk,bZ,m.its,aL]
  rfl
 .refine aa (bu (aa (wpAny_updateDict (s:={ s with toks:=s.toks+knd.draws k }) ho hd (wpAny_point (hQ _ _ _ ep (aR _ ho (Obj.isFreed_of_dict (Obj.data_mapDict hd _))) (hc.mapDict _) (Obj.data_mapDict hd _) ?_ (Heap.SameBut.update ..))))))
  rw[gp' (q:=some (k,a)) (aZ.mpr ⟨some (k,b),az hj,rfl⟩)]
  exact dO' m.its fun e he=>m.val he
theorem lT' {d:Addr} {o:Obj} {es:Array DictEntry} {ep:Nat} {ys:List (Option (K×Addr))} {Q:Unit->Shared->Prop}
  (ho:s.heap.get? d=some o) (hc:o.ExactDict) (hd:o.data=.dict es ep) (m:MixO knd s.heap es ys) (hz:ys.length<=sizeLine)
  (hQ:∀h' o' es' ep',h'.get? d=some o'->o'.ExactDict->o'.data=.dict es' ep'->es'.toList=(r4' ys none).map (nK' knd)->br d s.heap h'->Q () { s with heap:=h',toks:=s.toks+1 }):
  wpAny (model prog w) A (dictSet d .none (.bool true)) Q E s:=by
 have hsz:es.size<=sizeLine:=by rw[<- aq,m.its,ah];exact hz
 unfold dictSet
 try with_reducible refine aE ?_
 refine aa (cA' ?_)
 unfold dictSetHashed
 try with_reducible refine aE ?_
 refine aa (js' (s:={ s with toks:=s.toks+1 }) ho hd m (fun hno=>?_) fun j hj=>?_)
 .refine aa (bu (wpAny_updateDictKeys (hz:=hsz) (s:={ s with toks:=s.toks+1 }) ho hd (hQ _ _ _ (ep+1) (aR _ ho (Obj.isFreed_of_dict (Obj.data_mapDictKeys hd _))) (hc.mapDictKeys _) (Obj.data_mapDictKeys hd _) ?_ (Heap.SameBut.update ..))))
  have hk:¬(none:Option (K×Addr)).map Prod.fst∈ys.map (aY Prod.fst):=fun z=>by
   obtain⟨q,hq,e⟩:=aZ.mp z
   cases q with
   |none=>exact hno hq
   |some q=>cases e
  rw[e0' hk,bZ,m.its,aL]
  rfl
 .refine aa (bu (aa (wpAny_updateDict (s:={ s with toks:=s.toks+1 }) ho hd (wpAny_point (hQ _ _ _ ep (aR _ ho (Obj.isFreed_of_dict (Obj.data_mapDict hd _))) (hc.mapDict _) (Obj.data_mapDict hd _) ?_ (Heap.SameBut.update ..))))))
  rw[gp' (aZ.mpr ⟨none,az hj,rfl⟩)]
  exact dO' m.its fun e he=>m.val he
theorem o7' {d a:Addr} {o:Obj} {es:Array DictEntry} {ep:Nat} {ys:List (Option (K×Addr))} {k:K} {Q:Option Value->Shared->Prop} (hu:knd.room A) (hkey:knd.is s.heap k a) (hne:knd.hash k≠NH)
  (ho:s.heap.get? d=some o) (hd:o.data=.dict es ep) (m:MixO knd s.heap es ys)
  (h:Q (if some k∈ys.map (aY Prod.fst)then some (.bool true)else none) { s with toks:=s.toks+knd.draws k }):wpAny (model prog w) A (dictGet d (.ref a)) Q E s:=by
 unfold dictGet
 try with_reducible refine aE ?_
 refine aa (knd.pyHash hu hkey (aa (g1' (s:={ s with toks:=s.toks+knd.draws k }) hu hkey hne ho hd m (fun hno=>?_) fun j b hj=>?_)))
 .rw[if_neg]at h
  .exact ab h
  .intro z
   obtain⟨q,hq,e⟩:=aZ.mp z
   cases q with
   |none=>cases e
   |some q=>
    obtain⟨j,hj⟩:=bQ hq
    have e:q.1=k:=Option.some.inj e
    exact hno j q.2 (by rw[hj,<- e])
 .rw[if_pos (show some k∈ys.map (aY Prod.fst) from aZ.mpr ⟨some (k,b),az hj,rfl⟩)]at h
  refine aa (bY (s:={ s with toks:=s.toks+knd.draws k }) ho hd ?_)
  rw[m.get j,hj]
  exact ab h
end
abbrev NK:=Option (List Int×Addr)
def lkN:NK->Option (List Key×Addr):=aY fun q=>(q.1.map Key.inl,q.2)
def hT (k:List Int):Int:=reduceHash (Builtin.Tuple.tupleHashOf (k.map hashInt))
def vb':NK->DictEntry
 |none=>⟨NH,.none,.bool true⟩
 |some q=>⟨hT q.1,.ref q.2,.bool true⟩
def IsN (L:List NK) (o:Obj):Prop:=L.length<=4000/\(∀q,some q∈L->hT q.1≠NH)/\(L.map (aY Prod.fst)).Nodup/\∃es ep,o.ExactDict/\o.data=.dict es ep/\es.toList=L.map vb'
def gq' (D:Addr) (L:List NK):HO:=.ext fun h=>(D == sysModules)=false/\∃o,h.get? D=some o/\IsN L o
def o8' (H:Hp) (L:List NK):Prop:=∀q,some q∈L->H q.2=some (.tup (q.1.map V.int))
theorem jt' {P:Program} {w:World} {H:Hp} {h:Heap} {D:Addr} {L:List NK} {o:Obj} (hs:(D == sysModules)=false) (e:h.get? D=some o) (i:IsN L o):as' P w H h D (gq' D L):=
 ⟨⟨hs,o,e,i⟩,⟨o,e⟩,fun h1 h2 ⟨hs,o',e',i'⟩ k=>⟨hs,o',k o' e',i'⟩⟩
theorem gr' {k:List Int}:(k.map Key.inl).map kV=k.map V.int:=by rw[bU];rfl
theorem ju' {P:Program} {w:World} {k:List Int}:(tupleKind (al' P w)).hash (k.map Key.inl)=hT k:=by
 show reduceHash (Builtin.Tuple.tupleHashOf ((k.map Key.inl).map (al' P w).hash))=_
 rw[bU]
 rfl
theorem e1' {P:Program} {w:World} {L:List NK}:(L.map lkN).map (nK' (tupleKind (al' P w)))=L.map vb':=by
 rw[bU]
 refine cB fun q _=>?_
 cases q with
 |none=>rfl
 |some q=>
  show DictEntry.mk ((tupleKind (al' P w)).hash (q.1.map Key.inl)) _ _=DictEntry.mk (hT q.1) _ _
  rw[ju']
theorem gs' {q:NK}:(lkN q).map Prod.fst=(q.map Prod.fst).map fun k=>k.map Key.inl:=by cases q<;>rfl
theorem jv' {L:List NK}:(L.map lkN).map (aY Prod.fst)=(L.map (aY Prod.fst)).map (aY fun k=>k.map Key.inl):=by
 rw[bU,bU]
 exact cB fun q _=>gs'
set_option tactic.hygienic true in
theorem g2' {o p:Option (List Int)} (h:o.map (fun k=>k.map Key.inl)=p.map (fun k=>k.map (Key.inl:Int->Key))):o=p:=by
 cases o<;>cases p
 .rfl
 .cases h
 .cases h
 .rename_i a b
  have h:a.map (Key.inl:Int->Key)=b.map Key.inl:=Option.some.inj h
  congr 1
  exact List.map_inj_right (fun x y z=>by injection z) |>.mp h
theorem du' {L:List NK} {o:Option (List Int)}:o.map (fun k=>k.map (Key.inl:Int->Key))∈(L.map lkN).map (aY Prod.fst)↔o∈L.map (aY Prod.fst):=by
 rw[jv',aZ]
 exact⟨fun⟨p,hp,e⟩=>g2' e ▸ hp,fun h=>⟨o,h,rfl⟩⟩
def iE' (L:List NK) (q:NK):List NK:=if q.map Prod.fst∈L.map (aY Prod.fst)then L else L++[q]
theorem jw' {L:List NK} {q:NK}:r4' (L.map lkN) (lkN q)=(iE' L q).map lkN:=by
 by_cases h:q.map Prod.fst∈L.map (aY Prod.fst)
 .rw[gp' (by rw[gs'];exact du'.mpr h)]
  unfold iE'
  rw[if_pos h]
 .rw[e0' (by rw[gs'];exact fun z=>h (du'.mp z))]
  unfold iE'
  rw[if_neg h,aL]
  rfl
theorem lU' {α:Type} {l:List α} {a:α} (h:l.Nodup) (ha:a∉l):(l++[a]).Nodup:=by
 rw[List.nodup_append]
 refine⟨h,by simp,fun x hx y hy=>?_⟩
 rw[aU.mp hy]
 exact fun e=>ha (e ▸ hx)
section
variable {X:Cx} {pins:List (Addr×Obj)} {σ:St} {H:Hp} {s:Shared} {A:Around} {E:Value->Shared->Prop}
theorem gt' {D:Addr} {L:List NK} (I:Inv X pins σ H s) (hD:H D=some (gq' D L)) (ht:o8' H L):(D == sysModules)=false/\L.length<=4000/\(∀q,some q∈L->hT q.1≠NH)/\(L.map (aY Prod.fst)).Nodup/\∃o es ep,s.heap.get? D=some o/\o.ExactDict/\o.data=.dict es ep/\MixO (tupleKind (al' X.prog X.w)) s.heap es (L.map lkN):=by
 obtain⟨hs,o,e,h4,hh,hn,es,ep,hex,hd,hes⟩:=(show as' X.prog X.w H s.heap D (gq' D L) from I.hok D _ hD).1
 refine⟨hs,h4,hh,hn,o,es,ep,e,hex,hd,hes.trans e1'.symm,fun k b hk=>?_,fun k b hk=>?_,?_⟩
 .obtain⟨q,hq,e⟩:=aZ.mp hk
  cases q with
  |none=>cases e
  |some q=>
   cases e
   exact b6' I.hok (by rw[gr'];exact ht q hq)
 .obtain⟨q,hq,e⟩:=aZ.mp hk
  cases q with
  |none=>cases e
  |some q=>
   cases e
   rw[ju']
   exact hh q hq
 .rw[jv']
  rw[List.nodup_iff_pairwise_ne,List.pairwise_map]
  exact hn.imp fun {a b} z e=>z (g2' e)
theorem jx' {D:Addr} {o:Obj} (e:s.heap.get? D=some o) (h:o.ExactDict):s.TypeIs (.ref D) "dict":=⟨o,e,h.1⟩
def vQ' (H:Hp) (y:V) (q:NK):Prop:=(y=.non/\q=none)\/∃k b,y=.ref b/\q=some (k,b)/\H b=some (.tup (k.map V.int))/\hT k≠NH
theorem nL' {L:List NK} {q:NK} {o':Obj} {es':Array DictEntry} {ep':Nat} (h4:L.length<4000) (hh:∀q,some q∈L->hT q.1≠NH) (hn:(L.map (aY Prod.fst)).Nodup) (hq:∀r,q=some r->hT r.1≠NH) (hx:o'.ExactDict) (hd:o'.data=.dict es' ep')
  (hes:es'.toList=(iE' L q).map vb'):IsN (iE' L q) o':=by
 by_cases h:q.map Prod.fst∈L.map (aY Prod.fst)
 .have e:iE' L q=L:=if_pos h
  rw[e]at hes ⊢
  exact⟨bJ h4,hh,hn,es',ep',hx,hd,hes⟩
 .have e:iE' L q=L++[q]:=if_neg h
  rw[e]at hes ⊢
  refine⟨by rw[aD];exact h4,fun r hr=>?_,?_,es',ep',hx,hd,hes⟩
  .rcases aw.mp hr with hr|hr
   .exact hh r hr
   .exact hq r (aU.mp hr).symm
  .rw[aL]
   exact lU' hn h
theorem ic' {D:Addr} {L:List NK} {y:V} {u:Value} {q:NK} {Q:Unit->Shared->Prop} (hu:A.units+1<cLine) (I:Inv X pins σ H s) (hD:H D=some (gq' D L)) (ht:o8' H L) (h4:L.length<4000) (hk:vQ' H y q) (ry:av' y u)
  (h:∀s',Inv X pins σ (upd H D (gq' D (iE' L q))) s'->Q () s'):wpAny (model X.prog X.w) A (setItem (.ref D) u (.bool true)) Q E s:=by
 obtain⟨hs,_,hh,hn,o,es,ep,ho,hex,hd,m⟩:=gt' I hD ht
 have hz:(L.map lkN).length<=sizeLine:=by rw[ah];exact aG (bJ h4) (by decide)
 have hT:=jx' ho hex
 unfold setItem
 try with_reducible refine aE ?_
 refine aa (wpAny_sequenceKey hT (by decide) ?_)
 refine aa (aH (name:=Str.ofString "__setitem__") hT F.slot_dict_setitem (aK F.slot_dict_setitem hT F.entry_dict_setitem ?_ (F.args_dict_setitem_3 _ _ _)))
 rcases hk with⟨rfl,rfl⟩|⟨k,b,rfl,rfl,hb,hne⟩
 .cases ry
  show wpAny _ _ (Builtin.Dict.notOrdered "__setitem__" ⟨[.ref D,.none,.bool true],[]⟩ >>= _) _ _ s
  refine aa (wpAny_notOrdered_dict hT ?_)
  show wpAny _ _ (dictSet D .none (.bool true) >>= _) _ _ s
  refine aa (lT' ho hex hd m hz fun h' o' es' ep' ho' hex' hd' hes' hs'=>ab ⟨.none,rfl,ab (h _ ?_)⟩)
  refine dF' (ob:=gq' D (iE' L none)) I (by rw[hD];exact True.intro) hs' ⟨o',ho'⟩ (jt' hs ho' (nL' h4 hh hn (fun r e=>nomatch e) hex' hd' ?_))
  rw[hes',<- e1' (P:=X.prog) (w:=X.w),<- jw']
  rfl
 .cases(show u=Value.ref b from ry)
  show wpAny _ _ (Builtin.Dict.notOrdered "__setitem__" ⟨[.ref D,.ref b,.bool true],[]⟩ >>= _) _ _ s
  refine aa (wpAny_notOrdered_dict hT ?_)
  show wpAny _ _ (dictSet D (.ref b) (.bool true) >>= _) _ _ s
  refine aa (o6' (k:=k.map Key.inl) (tupleKind_room_in1 hu) (b6' I.hok (by rw[gr'];exact hb)) (by rw[ju'];exact hne) ho hex hd m hz fun h' o' es' ep' ho' hex' hd' hes' hs'=>ab ⟨.none,rfl,ab (h _ ?_)⟩)
  refine dF' (ob:=gq' D (iE' L (some (k,b)))) I (by rw[hD];exact True.intro) hs' ⟨o',ho'⟩ (jt' hs ho' (nL' h4 hh hn (fun r e=>by cases e;exact hne) hex' hd' ?_))
  rw[hes',<- e1' (P:=X.prog) (w:=X.w),<- jw']
  rfl
theorem nM' {D b:Addr} {L:List NK} {k:List Int} {Q:Bool->Shared->Prop} (hu:A.units+1<cLine) (I:Inv X pins σ H s) (hD:H D=some (gq' D L)) (ht:o8' H L) (hb:H b=some (.tup (k.map V.int))) (hne:hT k≠NH)
  (h:∀s',Inv X pins σ H s'->Q (decide (some k∈L.map (aY Prod.fst))) s'):wpAny (model X.prog X.w) A (contains (.ref D) (.ref b)) Q E s:=by
 obtain⟨hs,_,hh,hn,o,es,ep,ho,hex,hd,m⟩:=gt' I hD ht
 have hT:=jx' ho hex
 unfold contains
 try with_reducible refine aE ?_
 refine aa (bI hT F.slot_dict_contains.lookup ?_)
 show wpAny _ _ (if(some (Value.builtin "dict.__contains__") == some Value.none)=true then _ else _) _ E s
 rw[if_neg (by rw[beq_builtin_none];exact al)]
 refine aa (wpAny_callSpecialUnlessNone?_slot (name:=Str.ofString "__contains__") hT F.slot_dict_contains (aK F.slot_dict_contains hT F.entry_dict_contains ?_ (F.args_dict_contains_2 _ _)))
 show wpAny _ _ (dictGet D (.ref b) >>= _) _ _ s
 refine aa (o7' (k:=k.map Key.inl) (tupleKind_room_in1 hu) (b6' I.hok (by rw[gr'];exact hb)) (by rw[ju'];exact hne) ho hd m ?_)
 by_cases hin:some k∈L.map (aY Prod.fst)
 .rw[if_pos (show some (k.map Key.inl)∈_ from du' (o:=some k) |>.mpr hin)]
  have h:=h _ (I.tok (s.toks+(tupleKind (al' X.prog X.w)).draws (k.map Key.inl)))
  rw[decide_eq_true hin]at h
  show wpAny _ _ (ret (.bool true)) _ _ _
  exact ab ⟨_,rfl,aW h⟩
 .rw[if_neg (show ¬some (k.map Key.inl)∈_ from fun z=>hin (du' (o:=some k) |>.mp z))]
  have h:=h _ (I.tok (s.toks+(tupleKind (al' X.prog X.w)).draws (k.map Key.inl)))
  rw[decide_eq_false hin]at h
  show wpAny _ _ (Builtin.Dict.pendingKey? D (.ref b) >>= _) _ _ _
  exact aa (wpAny_pendingKey_other hs (ab ⟨_,rfl,aW h⟩))
def NoR (H:Hp) (a:Addr):Prop:=∃kvs,Rd H a (.dT kvs)/\∀kv∈kvs,∃is:List Int,kv.1=is.map Key.inl/\hT is≠NH
theorem NoR.at {a:Addr} (I:Inv X pins σ H s) (h:NoR H a):(a == sysModules)=false/\s.TypeIs (.ref a) "dict"/\∃o es ep,s.heap.get? a=some o/\o.data=.dict es ep/\∀e∈es.toList,e.hash≠NH:=by
 obtain⟨kvs,e,hk⟩:=h
 obtain⟨z,hd,xs,rel,dd⟩:=i7' I.hok e
 refine⟨hd,dd.typeIs,?_⟩
 obtain⟨o,es,ep,h1,_,h3,h4,_⟩:=dd
 refine⟨o,es,ep,h1,h3,fun en hen=>?_⟩
 rw[h4]at hen
 obtain⟨x,hx,rfl⟩:=aZ.mp hen
 obtain⟨kv,hkv,hp⟩:=bC' rel hx
 obtain⟨is,ei,hi⟩:=hk kv hkv
 show(tupleKind (al' X.prog X.w)).hash x.1≠NH
 rw[<- hp.1,ei,ju']
 exact hi
theorem jy' {a:Addr} {Q:Bool->Shared->Prop} (I:Inv X pins σ H s) (g:NoR H a) (h:∀s',Inv X pins σ H s'->Q false s'):wpAny (model X.prog X.w) A (contains (.ref a) .none) Q E s:=by
 obtain⟨hs,hT,o,es,ep,ho,hd,hno⟩:=g.at I
 unfold contains
 try with_reducible refine aE ?_
 refine aa (bI hT F.slot_dict_contains.lookup ?_)
 show wpAny _ _ (if(some (Value.builtin "dict.__contains__") == some Value.none)=true then _ else _) _ E s
 rw[if_neg (by rw[beq_builtin_none];exact al)]
 refine aa (wpAny_callSpecialUnlessNone?_slot (name:=Str.ofString "__contains__") hT F.slot_dict_contains (aK F.slot_dict_contains hT F.entry_dict_contains ?_ (F.args_dict_contains_2 _ _)))
 show wpAny _ _ (dictGet a .none >>= _) _ _ s
 refine aa ?_
 unfold dictGet
 try with_reducible refine aE ?_
 refine aa (cA' (aa (jq' (s:={ s with toks:=s.toks+1 }) ho hd hno (ab ?_))))
 show wpAny _ _ (Builtin.Dict.pendingKey? a .none >>= _) _ _ _
 exact aa (wpAny_pendingKey_other hs (ab ⟨_,rfl,aW (h _ (I.tok _))⟩))
def vc' (neg:Bool):R2:=fun y x H Q=>(∃(k:List Int) (b D:Addr) (L:List NK),y=.ref b/\H b=some (.tup (k.map V.int))/\hT k≠NH/\x=.ref D/\H D=some (gq' D L)/\o8' H L/\Q (.bl (if neg then !decide (some k∈L.map (aY Prod.fst))else decide (some k∈L.map (aY Prod.fst)))) H)\/(y=.non/\∃D,x=.ref D/\NoR H D/\Q (.bl neg) H)
theorem r5' (hu:X.A.units+1<cLine):OpR X (compareOp .In) (vc' false):=by
 intro pins s σ H y x v u Q I ry rx h
 show wpAny _ _ (contains u v >>= fun b=>pure (Value.bool b)) _ _ s
 rcases h with⟨k,b,D,L,rfl,hb,hne,rfl,hD,ht,q⟩|⟨rfl,D,rfl,g,q⟩
 .cases ry
  cases rx
  exact aa (nM' hu I hD ht hb hne fun s' I'=>ab ⟨.bl (decide (some k∈L.map (aY Prod.fst))),H,I',rfl,q⟩)
 .cases ry
  cases rx
  exact aa (jy' I g fun s' I'=>ab ⟨.bl false,H,I',rfl,q⟩)
theorem jz' (hu:X.A.units+1<cLine):OpR X (compareOp .NotIn) (vc' true):=by
 intro pins s σ H y x v u Q I ry rx h
 show wpAny _ _ (contains u v >>= fun b=>pure (Value.bool (!b))) _ _ s
 rcases h with⟨k,b,D,L,rfl,hb,hne,rfl,hD,ht,q⟩|⟨rfl,D,rfl,g,q⟩
 .cases ry
  cases rx
  exact aa (nM' hu I hD ht hb hne fun s' I'=>ab ⟨.bl (!decide (some k∈L.map (aY Prod.fst))),H,I',rfl,q⟩)
 .cases ry
  cases rx
  exact aa (jy' I g fun s' I'=>ab ⟨.bl true,H,I',rfl,q⟩)
def jA' (td ty tv:TE):TS:=fun D σ H=>tv σ H fun v H1=>td σ H1 fun x H2=>ty σ H2 fun y H3=>(∃a H4,x=.ref a/\oO' H3 a y v H4/\D.nx σ H4)\/∃(a:Addr) (L:List NK) (q:NK),x=.ref a/\v=.bl true/\H3 a=some (gq' a L)/\o8' H3 L/\L.length<4000/\vQ' H3 y q/\D.nx σ (upd H3 a (gq' a (iE' L q)))
variable {o i value:Expr} {pos pos':Pos} {td ty tv:TE}
theorem lV' (hu:X.A.units+1<cLine) (ho:PE X o td) (hi:PE X i ty) (hv:PE X value tv) (hs:swapsWith value (some (.Subscript o i pos')) pos.line X.env=pure false):
  PS X (.Assign [.Subscript o i pos'] value pos) (jA' td ty tv):=by
 intro pins s σ H D I h
 refine wpAny_Assign_Subscript (thn (hv pins s σ H _ I h) fun r s1 ⟨v,H1,I1,rv,q1⟩=>thn (ho pins s1 σ H1 _ I1 q1) fun u s2 ⟨x,H2,I2,rx,q2⟩=>thn (hi pins s2 σ H2 _ I2 q2) fun iv s3 ⟨y,H3,I3,ry,q3⟩=>?_) hs
 rcases q3 with⟨a,H4,ex,g,q3⟩|⟨a,L,q,ex,ev,hD,ht,h4,hk,q3⟩
 .subst ex
  obtain rfl:u=Value.ref a:=rx
  exact i8' hu I3 g ry rv fun s4 I4=>⟨σ,H4,I4,q3⟩
 .subst ex ev
  obtain rfl:u=Value.ref a:=rx
  obtain rfl:r=Value.bool true:=rv
  exact ic' hu I3 hD ht h4 hk ry fun s4 I4=>⟨σ,_,I4,q3⟩
end
def vR' (neg:Bool) (ty td:TE):TE:=fun σ H Q=>ty σ H fun y H1=>td σ H1 fun x H2=>(∃a o,x=.ref a/\nH' H2 a y o/\Q (.bl (if neg then !o.isSome else o.isSome)) H2)\/va' neg y x H2 Q\/vc' neg y x H2 Q
section
variable {X:Cx} {o e f i:Expr} {apos cpos:Pos} {td ty tx:TE}
theorem nN' (hu:X.A.units+1<cLine) (hi:PE X i ty) (ho:PE X o td):PC X .In i o (vR' false ty td):=by
 intro pins s σ H Q I h
 refine thn (hi pins s σ H _ I h) fun iv s1 ⟨y,H1,I1,ry,q1⟩=>thn (ho pins s1 σ H1 _ I1 q1) fun u s2 ⟨x,H2,I2,rx,q2⟩=>?_
 rcases q2 with⟨a,ov,ex,g,q2⟩|q2|q2
 .subst ex
  obtain rfl:u=Value.ref a:=rx
  exact yA' hu I2 g ry fun s3 I3=>⟨.bl ov.isSome,H2,I3,rfl,q2⟩
 .exact rY' pins s2 σ H2 y x iv u Q I2 ry rx q2
 .exact r5' hu pins s2 σ H2 y x iv u Q I2 ry rx q2
theorem fJ' (hu:X.A.units+1<cLine) (hi:PE X i ty) (ho:PE X o td):PC X .NotIn i o (vR' true ty td):=by
 intro pins s σ H Q I h
 refine thn (hi pins s σ H _ I h) fun iv s1 ⟨y,H1,I1,ry,q1⟩=>thn (ho pins s1 σ H1 _ I1 q1) fun u s2 ⟨x,H2,I2,rx,q2⟩=>?_
 rcases q2 with⟨a,ov,ex,g,q2⟩|q2|q2
 .subst ex
  obtain rfl:u=Value.ref a:=rx
  exact oP' hu I2 g ry fun s3 I3=>⟨.bl (!ov.isSome),H2,I3,rfl,q2⟩
 .exact jp' pins s2 σ H2 y x iv u Q I2 ry rx q2
 .exact jz' hu pins s2 σ H2 y x iv u Q I2 ry rx q2
end
section
variable {X:Cx} {e:Expr} {scope:Scope} {tg iter:Expr} {ifs:List Expr} {nx:Addr->Env->Sem Unit} {g:TG} {tc:TT} {own:List Nat} {wi:TI}
theorem vS' {α:Type} {Is:α->Obj->Prop} {aw':TL α} {a0:α} {o0:Bool->Obj} {newAcc:Sem Value} {ho:Addr->α->HO} {ok:α->Hp->Prop} {i:Nat} {y:Str} {py pos pos2:Pos}
  (hnew:∀(s:Shared) (Q:Value->Shared->Prop),(∀led,Q (.ref s.heap.objs.size) { s with heap:=s.heap.push (o0 led) })->wpAny (model X.prog X.w) X.A newAcc Q X.xe s) (hfr:∀led,(o0 led).isFreed=false) (ha0:∀led,Is a0 (o0 led)) (hda:∀(a:α) (o:Obj),Is a o->∀v:Option Value,o.data≠.cell v)
  (hfin:∀(a:α) (o:Obj) (D:Addr) (H:Hp) (h:Heap),Is a o->h.get? D=some o->(D == sysModules)=false->H D=none->ok a H->HOk X.prog X.w H h->as' X.prog X.w (upd H D (ho D a)) h D (ho D a))
  (C:CompInG Is X e scope tg iter ifs nx g tc aw' own) (hi:PI X tg iter wi) (hN:X.N.Nodup) (hy:X.N[i]?=some y) (hx:Loc X.env.scope y) (hf:X.fn y=true\/X.env.scope.names.lookup y=some .local)
  (hG:PG X (.Name y py) (ei' i))
  (he:eval e X.env=comprehension e scope X.env pos2 newAcc false (eval iter X.env))
  (he2:evalThenUse e X.env (assign (.Name y py) X.env)=(do let _ <- comprehension e scope X.env pos2 newAcc false (eval iter X.env) (some (assign (.Name y py) X.env))))
  (hsw:∃b,swapsWith e (some (.Name y py)) pos.line X.env=pure b):PS X (.Assign [.Name y py] e pos) (nC' (fF' own wi g tc aw' a0 ho ok) (ei' i)):=by
 obtain⟨b,hb⟩:=hsw
 cases b with
 |true=>exact gn' hnew hfr ha0 hda hfin C hi hN hy hx hf he2 hb
 |false=>exact gT' (lQ' hnew hfr ha0 hda hfin C hi he) hG hb rfl
end
section
variable {X:Cx}
def ld' (a:KTL) (k:List Key) (b:Addr) (v:V):KTL:=if(a.any fun x=>decide (x.1=k))=true then a.map fun x=>if x.1=k then(x.1,x.2.1,v)else x else a++[(k,b,v)]
theorem g3' {a:KTL} {k:List Key} {b:Addr} {v:V}:(ld' a k b v).length<=a.length+1:=by
 unfold ld'
 split
 .rw[ah];omega
 .rw[aD];exact ag _
theorem ie' {a:KTL} {xs:List (List Key×Addr×Value)} {k:List Key} {b:Addr} {v:V} {u:Value} (r:Paired (fun(p:List Key×Addr×V) (q:List Key×Addr×Value)=>p.1=q.1/\p.2.1=q.2.1/\av' p.2.2 q.2.2) a xs) (rv:av' v u):
  Paired (fun(p:List Key×Addr×V) (q:List Key×Addr×Value)=>p.1=q.1/\p.2.1=q.2.1/\av' p.2.2 q.2.2) (ld' a k b v) (storedH xs k b u):=by
 have e:(a.any fun x=>decide (x.1=k))=(atKey xs k).isSome:=by
  unfold atKey
  rw[Option.isSome_map]
  induction r with
  |nil=>rfl
  | @cons x y xs ys h _ ih=>
   rw[cz,ih,cu,h.1]
   by_cases z:y.1=k
   .rw[decide_eq_true z];rfl
   .rw[decide_eq_false z];rfl
 unfold ld' storedH
 rw[e]
 by_cases q:(atKey xs k).isSome=true
 .rw[if_pos q,if_pos q]
  clear e q
  induction r with
  |nil=>exact .nil
  | @cons x y xs ys h _ ih=>
   refine .cons ?_ ih
   show(fun(p:List Key×Addr×V) (q:List Key×Addr×Value)=>p.1=q.1/\p.2.1=q.2.1/\av' p.2.2 q.2.2) (if x.1=k then(x.1,x.2.1,v)else x) (putAt k u y)
   unfold putAt
   rw[<- h.1]
   by_cases z:x.1=k
   .rw[if_pos z,if_pos z];exact⟨rfl,h.2.1,rv⟩
   .rw[if_neg z,if_neg z];exact h
 .rw[if_neg q,if_neg q];exact Paired.snoc r ⟨rfl,rfl,rv⟩
def g4' (tk tv:TE):TL KTL:=fun σ a H N=>tk σ H fun y H1=>tv σ H1 fun v H2=>∃(k:List Key) (b:Addr),y=.ref b/\H2 b=some (.tup (k.map kV))/\okT a H2/\a.length<sizeLine/\N (ld' a k b v) H2
theorem jB' {D:Addr} {ke ve:Expr} {tk tv:TE} (hu:X.A.units+1<cLine) (hxe:X.xe=fun _ _=>False) (hk:PE X ke tk) (hv:PE X ve tv):dK' X D (r1' X.prog X.w) [] (do
   let kv <- eval ke X.env
   let vv <- holding [kv] (eval ve X.env)
   match Value.ref D with
   | .ref d=>do
    standAt { ke.pos with endLine:=ve.pos.endLine,endCol:=ve.pos.endCol }
    holding [kv,vv] (dictSet d kv vv)
   |_=>unsupported "internal:dictcomp") (g4' tk tv):=by
 intro pins s σ H a o N I hD ho hi hq
 have pinD:∀{s1:Shared} {pins1:List (Addr×Obj)} {H1:Hp},Inv X pins1 σ H1 s1->cX' X pins1 H1 D->s1.heap.get? D=some o->Inv X (pins1++cm' [D] s1.heap) σ H1 s1:=fun J f e=>J.pinned (fun b hb=>by
  have z:b=D:=by simpa using hb
  subst z
  exact f) (fun b hb=>by
  have z:b=D:=by simpa using hb
  subst z
  exact⟨o,e,fI' _ _ hi⟩)
 have h1:=hk _ s σ H _ (pinD I hD ho) hq
 rw[hxe]at h1
 refine aa (thn h1 fun u s1 ⟨y,H1,J1,r1,hq1⟩=>?_)
 have h2:=hv _ s1 σ H1 _ J1 hq1
 rw[hxe]at h2
 refine aa (aE (thn h2 fun u2 s2 ⟨v,H2,J2,r2,k,b,ek,eb,ok,z2,n2⟩=>?_))
 subst ek
 cases(show u=Value.ref b from r1)
 have q2:=J2.pin (D,o) (ax _ (ax _ (ba' (by simp) ho)))
 obtain⟨z,xs,es,ep,g1,g2,g3,g4,g5⟩:=hi
 have hxl:=Paired.length g1
 have dd:s2.heap.DictOfH (tupleKind (al' X.prog X.w)) D xs:=⟨o,es,ep,q2.1,g2,g3,g4,fun x hx=>by
  obtain⟨p,hp,e1,e2,_⟩:=bC' g1 hx
  rw[<- e1,<- e2]
  exact b6' J2.hok (ok p hp),g5⟩
 refine aa (cy (aE (wpAny_dictSet_heap (hsz:=by rw[<- hxl];exact z) (show X.A.units<cLine from Nat.lt_of_succ_lt hu) (b6' J2.hok eb) dd fun h' dd' hs=>?_)))
 obtain⟨_,f1,f2,f3,f4,f5⟩:=hD
 obtain⟨o',es',ep',d1,d2,d3,d4,d5,d6⟩:=dd'
 have J3:Inv X pins σ H2 { s2 with heap:=h',toks:=s2.toks+(tupleKind (al' X.prog X.w)).draws k }:=J2.unpinned.turned (it:=D) (t':=s2.toks+(tupleKind (al' X.prog X.w)).draws k) (fun b o hb e=>(hs.2 b hb).trans e) q2.2.1 f1 f3 f4 f5
 exact⟨σ,_,o',H2,J3,Ext.refl,d1,⟨aG g3' z2,_,es',ep',ie' g1 r2,d2,d3,d4,d6⟩,q2.2.1,n2⟩
abbrev r6' (own:List Nat) (wi:TI) (g:TG) (tc:TT) (tk tv:TE):TE:=fF' own wi g tc (g4' tk tv) [] (fun _ a=>.dT (plT a)) okT
end
def vT' (tk tv:TE):TE:=fun σ H Q=>∀d,H d=none->tk σ (upd H d (.dT [])) fun x H1=>tv σ H1 fun y H2=>∃(b:Addr) (ks:List Key),x=.ref b/\H2 b=some (.tup (ks.map kV))/\H2 d=some (.dT [])/\Q (.ref d) (upd H2 d (.dT [(ks,y)]))
theorem r7' {X:Cx} {pos:Pos} {k v:Expr} {tk tv:TE} (hu:X.A.units+1<cLine) (hk:PE X k tk) (hv:PE X v tv):PE X (.Dict [some k] [v] pos) (vT' tk tv):=by
 intro pins s σ H Q I q
 have hn:=I.hok.fresh (ag s.heap.objs.size)
 have I1:=I.laid (a:=s.heap.objs.size) (o:=.dT []) (h':=s.heap.push { cls:=.type "dict",data:=.dict #[] }) (t':=s.toks) (fun _ _ q=>ac _ q) (ag _) (lH' s.heap I.big)
 let P:List (V×V)->Hp->Prop:=fun ps H3=>match ps with
  | [(x,y)]=>∃(b:Addr) (ks:List Key),x=.ref b/\H3 b=some (.tup (ks.map kV))/\H3 s.heap.objs.size=some (.dT [])/\Q (.ref s.heap.objs.size) (upd H3 s.heap.objs.size (.dT [(ks,y)]))
  |_=>False
 have hw:=(lI' (pos:=pos) hk hv oQ') pins _ σ _ P I1 (q _ hn)
 rw[arm_eval_Dict,zip_pairTrees [some k] [v] X.env pos rfl rfl,dictDisplay_pairs (pairTrees [some k] [v] X.env pos) (by simp[pairTrees]) (by simp[pairTrees])]
 refine aa (cy (aa ?_))
 unfold subDict
 refine aa (wpAny_alloc ?_)
 refine aa (aE ?_)
 rw[if_pos (by simp[pairTrees])]
 refine aa (thn hw fun ws s2 ⟨ps,H2,I2,rel,q2⟩=>?_)
 match ps,rel,q2 with
 | [(x,y)],rel,⟨b,ks,ex,hb,hd,q2⟩=>
  subst ex
  cases rel with
  | @cons p q ps qs h t=>
   cases t
   obtain⟨u1,u2⟩:=q
   obtain⟨r1,r2⟩:=h
   cases(show u1=Value.ref b from r1)
   refine aE ?_
   rw[cN]
   obtain⟨z,hs,xs,rx,dd⟩:=i7' I2.hok (.inl hd)
   cases rx
   refine aa (aa (aa (wpAny_dictSet_heap (xs:=[]) (k:=ks) (show X.A.units<cLine by omega) (b6' I2.hok hb) dd (fun h' dd' hs'=>ab ?_) (aT _))))
   dsimp only
   rw[cD]
   refine ab (ab (ab (ab ⟨.ref s.heap.objs.size,_,?_,rfl,q2⟩)))
   obtain⟨o',es',ep',d1,d2,d3,d4,_,d5⟩:=dd'
   have hkt:KT H2 [(ks,y)] (storedH [] ks b u2):=KT.put (kvs:=[]) .nil ks hb r2
   refine dF' (ob:=.dT [(ks,y)]) I2 (by rw[hd];exact True.intro) hs' ⟨o',d1⟩ ⟨by show 1<=sizeLine;decide,hs,_,KT.keeps hkt fun c ys e=>?_,o',es',ep',d1,d2,d3,d4,d5⟩
   rw[ad' (fun z=>by rw[z,hd]at e;cases e)]
   exact e
section
variable {X:Cx}
def yC' (x y:Str):Bool:=decide (y.cps.toList<x.cps.toList)
def xK':R2:=fun x y H Q=>∃a b,x=.str a/\y=.str b/\Q (.bl (yC' a b)) H
theorem r8':OpR X (compareOp .Gt) xK':=by
 intro pins s σ H x y v u Q I rx ry h
 obtain⟨a,b,rfl,rfl,k⟩:=h
 obtain⟨t,rfl⟩:=rx
 obtain⟨t',rfl⟩:=ry
 exact PySem.P.gt_str ⟨.bl _,H,I,rfl,k⟩
def dSc:V->Bool
 | .int _=>true
 | .str _=>true
 | .bl _=>true
 | .non=>true
 |_=>false
def Dq (H:Hp):Nat->V->V->Prop
 |0,v,w=>v=w/\dSc v=true
 |n+1,v,w=>(v=w/\dSc v=true)\/∃a b xs ys,v=.ref a/\w=.ref b/\((H a=some (.lst xs)/\H b=some (.lst ys))\/(H a=some (.tup xs)/\H b=some (.tup ys)))/\xs.length=ys.length/\∀(i:Nat) x y,xs[i]?=some x->ys[i]?=some y->Dq H n x y
open PySem.SeqAt in
theorem r9' {A:Around} {s:Shared} {x:V} {u v:Value} (h:dSc x=true) (r1:av' x u) (r2:av' x v):EqAt A s u v true:=by
 have:=dN' (A:=A) (s:=s) r1 r2 (.inl (by cases x<;>first|(cases h;done)|exact⟨rfl,fun b=>by intro z;cases z⟩))
 rw[decide_eq_true rfl]at this
 exact this
theorem cg' {n:Nat}:(bf n).all (fun _=>true)=true:=by simp
theorem eH' {its:List Value} {j:Nat} {u:Value} (e:its[j]?=some u) (h:j<its.toArray.size):its.toArray[j]=u:=by
 simp at h ⊢
 rw[ae h]at e
 exact Option.some.inj e
open PySem.SeqAt in
theorem ch' {n:Nat} {H:Hp} {A:Around} {s:Shared} {xs ys:List V} {its its2:List Value} (ih:∀x y u v,Dq H n x y->av' x u->av' y v->EqAt A.in1 s u v true) (hl:xs.length=ys.length) (r1:aA' xs its) (r2:aA' ys its2)
  (he:∀(i:Nat) x y,xs[i]?=some x->ys[i]?=some y->Dq H n x y):∀j (h1:j<its.toArray.size) (h2:j<its2.toArray.size),EqAt A.in1 s its.toArray[j] its2.toArray[j] ((fun _=>true) j):=by
 intro j h1 h2
 have l1:=r1.length
 have j1:j<xs.length:=by simp at h1;omega
 have j2:j<ys.length:=by omega
 have g1:xs[j]?=some xs[j]:=ae j1
 have g2:ys[j]?=some ys[j]:=ae j2
 obtain⟨u1,e1,ru1⟩:=r1.get g1
 obtain⟨u2,e2,ru2⟩:=r2.get g2
 rw[eH' e1 h1,eH' e2 h2]
 exact ih _ _ _ _ (he j _ _ g1 g2) ru1 ru2
open PySem.SeqAt in
theorem sa' {pins:List (Addr×Obj)} {σ:L2.St} {H:Hp} {s:Shared} (I:Inv X pins σ H s):∀(n:Nat) (A:Around) (x y:V) (u v:Value),A.units+n<cLine->Dq H n x y->av' x u->av' y v->EqAt A s u v true:=by
 intro n
 induction n with
 |zero=>
  rintro A x y u v hu ⟨rfl,hs⟩ r1 r2
  exact r9' hs r1 r2
 |succ n ih=>
  rintro A x y u v hu h rx ry
  rcases h with⟨rfl,hs⟩|⟨a,b,xs,ys,rfl,rfl,hab,hl,he⟩
  .exact r9' hs rx ry
  cases rx
  cases ry
  by_cases hne:a=b
  .subst hne;exact EqAt.same _
  have ih':∀x y u v,Dq H n x y->av' x u->av' y v->EqAt A.in1 s u v true:=fun x y u v=>ih A.in1 x y u v (by show A.units+1+n<cLine;omega)
  rcases hab with⟨h1,h2⟩|⟨h1,h2⟩
  .obtain⟨its,r1,pl1,_⟩:=I.list (SqL.of h1)
   obtain⟨its2,r2,pl2,_⟩:=I.list (SqL.of h2)
   have l1:=r1.length
   have l2:=r2.length
   have:=RcAt.lists pl1.isList pl2.isList (by simp;omega) (by omega) (ch' ih' hl r1 r2 he)
   rw[cg']at this
   exact EqAt.of_refs hne this
  .obtain⟨its,r1,pl1,_⟩:=I.tuple (SqT.of h1)
   obtain⟨its2,r2,pl2,_⟩:=I.tuple (SqT.of h2)
   have l1:=r1.length
   have l2:=r2.length
   have:=RcAt.tuples pl1 pl2 (by omega) (ch' ih' hl r1 r2 he)
   rw[cg']at this
   have e:(true&&its.toArray.size == its2.toArray.size)=true:=by simp;omega
   rw[e]at this
   exact EqAt.of_refs hne this
def xL':R2:=fun x y H Q=>∃a b xs ys,x=.ref a/\y=.ref b/\H a=some (.tup xs)/\H b=some (.tup ys)/\xs.length=ys.length/\LEq xs ys/\Q (.bl (decide (xs=ys))) H
open PySem.SeqAt in
theorem sb' (hu:X.A.units+64<cLine):OpR X (compareOp .Eq) xL':=by
 intro pins s σ H x y v u Q I rx ry h
 obtain⟨p,q,xs,ys,rfl,rfl,hp,hq,hl,he,k⟩:=h
 cases rx
 cases ry
 obtain⟨its,r1,pl1,_⟩:=I.tuple (SqT.of hp)
 obtain⟨its2,r2,pl2,_⟩:=I.tuple (SqT.of hq)
 have l1:=r1.length
 have l2:=r2.length
 refine eq_tupleAt (e:=fun i=>decide (xs[i]?=ys[i]?)) pl1 pl2 (by omega) (fun j h1 h2=>?_) ?_
 .have j1:j<xs.length:=by simp at h1;omega
  have j2:j<ys.length:=by omega
  have g1:xs[j]?=some xs[j]:=ae j1
  have g2:ys[j]?=some ys[j]:=ae j2
  obtain⟨u1,e1,ru1⟩:=r1.get g1
  obtain⟨u2,e2,ru2⟩:=r2.get g2
  rw[eH' e1 h1,eH' e2 h2,g1,g2]
  have e3:decide (some xs[j]=some ys[j])=decide (xs[j]=ys[j]):=by simp
  rw[e3]
  exact dN' ru1 ru2 (he j _ _ g1 g2)
 .have e4:(bf (min its.toArray.size its2.toArray.size)).all (fun i=>decide (xs[i]?=ys[i]?))=decide (xs=ys):=by
   rw[aj,aj,<- l1,<- l2,<- hl,Nat.min_self];exact g0' hl
  have e5:(its.toArray.size == its2.toArray.size)=true:=by simp;omega
  rw[e4,e5,Bool.and_true]
  exact⟨.bl _,H,I,rfl,k⟩
def vd' (neg:Bool):R2:=fun x y H Q=>(∃n,n<=8/\Dq H n x y/\(∃a b,x=.ref a/\y=.ref b)/\Q (.bl (!neg)) H)\/(neg=false/\xL' x y H Q)
theorem Dq.open {H:Hp} {n:Nat} {a b:Addr} (h:Dq H n (.ref a) (.ref b)):∃m xs ys,n=m+1/\((H a=some (.lst xs)/\H b=some (.lst ys))\/(H a=some (.tup xs)/\H b=some (.tup ys)))/\xs.length=ys.length/\∀(i:Nat) x y,xs[i]?=some x->ys[i]?=some y->Dq H m x y:=by
 cases n with
 |zero=>exact(al h.2).elim
 |succ m=>
  rcases h with⟨_,hs⟩|⟨a',b',xs,ys,e1,e2,hab,hl,he⟩
  .cases hs
  .cases e1;cases e2;exact⟨m,xs,ys,rfl,hab,hl,he⟩
open PySem.SeqAt in
theorem sc' (hu:X.A.units+64<cLine):OpR X (compareOp .Eq) (vd' false):=by
 intro pins s σ H x y v u Q I rx ry h
 rcases h with h|⟨_,h⟩
 case inr=>exact sb' hu pins s σ H x y v u Q I rx ry h
 obtain⟨n,hn,hd,⟨a,b,rfl,rfl⟩,k⟩:=h
 cases rx
 cases ry
 obtain⟨m,xs,ys,rfl,hab,hl,he⟩:=hd.open
 have ih':∀x y u v,Dq H m x y->av' x u->av' y v->EqAt X.A.in1 s u v true:=fun x y u v=>sa' I m X.A.in1 x y u v (by show X.A.units+1+m<cLine;omega)
 rcases hab with⟨h1,h2⟩|⟨h1,h2⟩
 .obtain⟨its,r1,pl1,_⟩:=I.list (SqL.of h1)
  obtain⟨its2,r2,pl2,_⟩:=I.list (SqL.of h2)
  have l1:=r1.length
  have l2:=r2.length
  refine eq_listAt pl1.isList pl2.isList (by simp;omega) (by omega) (ch' ih' hl r1 r2 he) ?_
  rw[cg']
  exact⟨.bl true,H,I,rfl,k⟩
 .obtain⟨its,r1,pl1,_⟩:=I.tuple (SqT.of h1)
  obtain⟨its2,r2,pl2,_⟩:=I.tuple (SqT.of h2)
  have l1:=r1.length
  have l2:=r2.length
  refine eq_tupleAt pl1 pl2 (by omega) (ch' ih' hl r1 r2 he) ?_
  have e:(true&&its.toArray.size == its2.toArray.size)=true:=by simp;omega
  rw[cg',e]
  exact⟨.bl true,H,I,rfl,k⟩
open PySem.SeqAt in
theorem sd' (hu:X.A.units+64<cLine):OpR X (compareOp .NotEq) (vd' true):=by
 intro pins s σ H x y v u Q I rx ry h
 rcases h with h|⟨hf,_⟩
 case inr=>cases hf
 obtain⟨n,hn,hd,⟨a,b,rfl,rfl⟩,k⟩:=h
 cases rx
 cases ry
 obtain⟨m,xs,ys,rfl,hab,hl,he⟩:=hd.open
 have ih':∀x y u v,Dq H m x y->av' x u->av' y v->EqAt X.A.in1 s u v true:=fun x y u v=>sa' I m X.A.in1 x y u v (by show X.A.units+1+m<cLine;omega)
 have hend:EP X pins σ Q (Value.bool false) s:=⟨.bl false,H,I,rfl,k⟩
 rcases hab with⟨h1,h2⟩|⟨h1,h2⟩
 .obtain⟨its,r1,pl1,_⟩:=I.list (SqL.of h1)
  obtain⟨its2,r2,pl2,_⟩:=I.list (SqL.of h2)
  have l1:=r1.length
  have l2:=r2.length
  obtain⟨⟨cls,dd,data,sl⟩,ho,hc,n1,hd1⟩:=pl1.isList
  obtain⟨⟨cls2,dd2,data2,sl2⟩,ho2,hc2,n2,hd2⟩:=pl2.isList
  simp only at hc hd1 hc2 hd2
  subst hc hd1 hc2 hd2
  refine richCompare_meets_room (op:=.NotEq) ⟨_,ho,rfl⟩ ⟨_,ho2,rfl⟩ F.slot_list_ne F.entry_list_ne (F.args_list_ne_2 _ _) (list_neAt a b its.toArray its2.toArray n1 n2 dd dd2 sl sl2 (by simp;omega) (fun _=>true)) ⟨ho,ho2,ch' ih' hl r1 r2 he,?_⟩ (by omega)
  rw[cg']
  exact(show Value.bool false≠Value.notImplemented/\EP X pins σ Q (Value.bool false) s from⟨(fun x=>nomatch x),hend⟩)
 .obtain⟨its,r1,pl1,_⟩:=I.tuple (SqT.of h1)
  obtain⟨its2,r2,pl2,_⟩:=I.tuple (SqT.of h2)
  have l1:=r1.length
  have l2:=r2.length
  obtain⟨⟨cls,dd,data,sl⟩,ho,hc,n1,hd1⟩:=id pl1
  obtain⟨⟨cls2,dd2,data2,sl2⟩,ho2,hc2,n2,hd2⟩:=id pl2
  simp only at hc hd1 hc2 hd2
  subst hc hd1 hc2 hd2
  refine richCompare_meets_room (op:=.NotEq) ⟨_,ho,rfl⟩ ⟨_,ho2,rfl⟩ F.slot_tuple_ne F.entry_tuple_ne (F.args_tuple_ne_2 _ _) (tuple_neAt a b its.toArray its2.toArray n1 n2 dd dd2 sl sl2 (fun _=>true)) ⟨ho,ho2,ch' ih' hl r1 r2 he,?_⟩ (by omega)
  have e:(true&&its.toArray.size == its2.toArray.size)=true:=by simp;omega
  rw[cg',e]
  exact(show Value.bool false≠Value.notImplemented/\EP X pins σ Q (Value.bool false) s from⟨(fun x=>nomatch x),hend⟩)
end
section
variable {X:Cx}
def xM':R2:=fun x y H Q=>∃a b xs ys,x=.ref a/\y=.ref b/\H a=some (.tup xs)/\H b=some (.tup ys)/\xs.length=ys.length/\LEq xs ys/\Q (.bl (!decide (xs=ys))) H
open PySem.SeqAt in
theorem se' (hu:X.A.units+64<cLine):OpR X (compareOp .NotEq) xM':=by
 intro pins s σ H x y v u Q I rx ry h
 obtain⟨p,q,xs,ys,rfl,rfl,hp,hq,hl,he,k⟩:=h
 cases rx
 cases ry
 obtain⟨its,r1,pl1,_⟩:=I.tuple (SqT.of hp)
 obtain⟨its2,r2,pl2,_⟩:=I.tuple (SqT.of hq)
 have l1:=r1.length
 have l2:=r2.length
 obtain⟨⟨cls,dd,data,sl⟩,ho,hc,n1,hd1⟩:=id pl1
 obtain⟨⟨cls2,dd2,data2,sl2⟩,ho2,hc2,n2,hd2⟩:=id pl2
 simp only at hc hd1 hc2 hd2
 subst hc hd1 hc2 hd2
 refine richCompare_meets_room (op:=.NotEq) ⟨_,ho,rfl⟩ ⟨_,ho2,rfl⟩ F.slot_tuple_ne F.entry_tuple_ne (F.args_tuple_ne_2 _ _) (tuple_neAt p q its.toArray its2.toArray n1 n2 dd dd2 sl sl2 (fun i=>decide (xs[i]?=ys[i]?))) ⟨ho,ho2,fun j h1 h2=>?_,?_⟩ (by omega)
 .have j1:j<xs.length:=by simp at h1;omega
  have j2:j<ys.length:=by omega
  have g1:xs[j]?=some xs[j]:=ae j1
  have g2:ys[j]?=some ys[j]:=ae j2
  obtain⟨u1,e1,ru1⟩:=r1.get g1
  obtain⟨u2,e2,ru2⟩:=r2.get g2
  rw[eH' e1 h1,eH' e2 h2,g1,g2]
  have e3:decide (some xs[j]=some ys[j])=decide (xs[j]=ys[j]):=by simp
  rw[e3]
  exact dN' ru1 ru2 (he j _ _ g1 g2)
 .have e4:(bf (min its.toArray.size its2.toArray.size)).all (fun i=>decide (xs[i]?=ys[i]?))=decide (xs=ys):=by
   rw[aj,aj,<- l1,<- l2,<- hl,Nat.min_self];exact g0' hl
  have e5:(its.toArray.size == its2.toArray.size)=true:=by simp;omega
  rw[e4,e5,Bool.and_true]
  exact(show Value.bool (!decide (xs=ys))≠Value.notImplemented/\EP X pins σ Q (Value.bool (!decide (xs=ys))) s from⟨(fun x=>nomatch x),⟨.bl _,H,I,rfl,k⟩⟩)
end
end L2
namespace HT
open PySem PyProof.Rows
open PySem.SeqAt
open PySem.MeetsSeq PySem.MeetsSeq2 PySem.MeetsSeq3
section
variable {prog:Program} {w:World} {A:Around} {E:Value->Shared->Prop} {s:Shared}
theorem lW' {t b:Addr} {ws:List Value} {Q:Value->Shared->Prop} (ht:IsTup s.heap t #[]) (hb:IsTup s.heap b ws.toArray) (h0:Q (.ref b) s):wpAny (model prog w) A (binaryOp .Add (.ref t) (.ref b)) Q E s:=by
 obtain⟨⟨cls,dd,data,sl⟩,ho,hc,n,hd⟩:=id ht
 obtain⟨⟨cls2,dd2,data2,sl2⟩,ho2,hc2,n2,hd2⟩:=id hb
 simp only at hc hd hc2 hd2
 subst hc hd hc2 hd2
 exact concat_meets ⟨_,ho,rfl⟩ ⟨_,ho2,rfl⟩ noFill_tuple_add seq_tuple_add PySem.F.slot_tuple_add PySem.F.entry_tuple_add (PySem.F.args_tuple_add_2 _ _)
  (tuple_addW0 t b #[] ws.toArray n n2 dd dd2 sl sl2 rfl) ⟨ho,ho2,h0⟩
end
end HT
namespace L2
open PySem PySem.Spec PyProof.Rows
section
variable {X:Cx}
def nO' (K:W.Frag):R2:=fun x y H Q=>∃a b ys,x=.ref a/\y=.ref b/\SqT K H a []/\SqT K H b ys/\Q (.ref b) H
theorem lX':OpR X (binaryOp .Add) (nO' X.K):=by
 intro pins s σ H x y v u Q I rx ry h
 obtain⟨a,b,ys,rfl,rfl,ha,hb,q⟩:=h
 cases rx
 cases ry
 obtain⟨its,r1,p1,_⟩:=I.tuple ha
 obtain⟨its2,r2,p2,_⟩:=I.tuple hb
 have e:its=[]:=r1.nil_iff.mpr rfl
 subst e
 exact HT.lW' p1 p2 ⟨.ref b,H,I,rfl,q⟩
end
end L2
namespace L2
open PySem PySem.Spec PyProof.Rows PySem.Calls PySem.NumText
def B2 (x:PySem.Str) (n:Int):Prop:=(x.cps.all (· < 128))=true/\(x.cps.toList.takeWhile (· != 0)).length<=640/\(int_private% "readNumeral") 0 2 (x.cps.toList.takeWhile (· != 0))=(int_private% "Numeral.value") n/\((x.cps.toList.takeWhile (· != 0)).length == x.cps.toList.length)=true
theorem lY' {M:Model} {A:Around} {E:Value->Shared->Prop} {s:Shared} {Q:Value->Shared->Prop} {v:Value} {text:List Nat} {n:Int}
  (hs:(text.takeWhile (· != 0)).length<=640) (hr:(int_private% "readNumeral") 0 2 (text.takeWhile (· != 0))=(int_private% "Numeral.value") n)
  (ha:((text.takeWhile (· != 0)).length == text.length)=true) (h:Q (.int n s.toks) { s with toks:=s.toks+1 }):
  wpAny M A ((int_private% "intFromText") v text 2) Q E s:=by
 obtain⟨hp,g,d,tk,os⟩:=s
 repeat (any_goals (first
  |assumption
  |(with_reducible refine wpAny_ite_true (decide_eq_true hs) ?_)
  |(with_reducible refine wpAny_ite_true (decide_eq_true ha) ?_)
  |wp_step))
 all_goals (try rw[hr])
 all_goals (try dsimp only)
 repeat (any_goals (first
  |assumption
  |(with_reducible refine wpAny_ite_true (decide_eq_true hs) ?_)
  |(with_reducible refine wpAny_ite_true (decide_eq_true ha) ?_)
  |wp_step))
set_option maxHeartbeats 4000000 in
theorem gu' {x:PySem.Str} {u v:Tok} {n:Int} (hb:B2 x n):Gives (Builtin.«int.__new__» ⟨[.type "int",.str x u,.int 2 v],[]⟩) (.int n):=
 .of_wp fun M A E s Q h=>by
  obtain⟨hp,g,d,tk,os⟩:=s
  have f1:=F.conv_sub_int
  have f2:=F.madeHere_int
  have f6:typeOf (.str x u)=pure (.type "str"):=rfl
  have hk:=W.KIN.Hid.mk hb
  clear hb
  repeat (any_goals (first
   |assumption
   |((with_reducible show wpAny _ _ ((int_private% "intFromText") _ _ _) _ _ _);rw[if_pos hk.out.1];refine lY' hk.out.2.1 hk.out.2.2.1 hk.out.2.2.2 ?_)
   |wp_step))
  all_goals first|exact⟨_,rfl,h⟩|skip
theorem em' (a b:Value):checkTypeCall "int" ⟨[a,b],[]⟩=pure ():=by kernel_rfl
theorem e3' (a b:Value):checkBuiltinCall "int.__new__" ⟨[.type "int",a,b],[]⟩=pure ():=by kernel_rfl
section
variable {X:Cx}
def sf':List V->Hp->VK->Prop:=fun xs H Q=>∃x n,xs=[.str x,.int 2]/\B2 x n/\Q (.int n) H
theorem jC':aT' X (.type "int") sf':=by
 intro pins s σ H xs us Q I r h
 obtain⟨x,n,rfl,hb,q⟩:=h
 obtain⟨u,v,rfl,⟨t,rfl⟩,⟨t',rfl⟩⟩:=lu' r
 exact callType_new F.called_int F.newNe_int (em' _ _) (e3' _ _) (fun obj=>F.args_object_init_3 obj _ _) F.entry_int_new (gu' hb).meets (show(Made.int n).post _ s from⟨rfl,⟨.int n,H,I.tok _,⟨_,rfl⟩,q⟩⟩)
theorem jD':aT' X (.type "int") (fun xs H Q=>xC' xs H Q\/sf' xs H Q):=jf'.or jC'
end
section
variable {X:Cx}
end
end L2
namespace PySem
namespace F
theorem dP':Manifest.owners.lookup (String.ofList ['d','e','s','r','e','v','e','r'].reverse)=some Manifest.sig_reversed:=by kernel_rfl
theorem e4':Slot "reversed" "__init__" "object.__init__":=
 .of (owner:="object") (n:="__init__") (by rw[typeLookup_type,builtinLookup_eq_fast];kernel_rfl) (by decide +kernel) (by decide +kernel) (by decide +kernel)
  (by first|exact .inl (by decide +kernel)|exact .inr (by decide +kernel)) (by rw[isSubtype_type];kernel_rfl)
theorem a3':Slot "reversed" "__next__" "reversed.__next__":=
 .of (owner:="reversed") (n:="__next__") (by rw[typeLookup_type,builtinLookup_eq_fast];kernel_rfl) (by decide +kernel) (by decide +kernel) (by decide +kernel)
  (by first|exact .inl (by decide +kernel)|exact .inr (by decide +kernel)) (by rw[isSubtype_type];kernel_rfl)
theorem cn':entryFor table "reversed.__next__"=some Builtin.«reversed.__next__»:=entryFor_of_tree (by kernel_rfl)
theorem cF':Slot "reversed" "__iter__" "reversed.__iter__":=
 .of (owner:="reversed") (n:="__iter__") (by rw[typeLookup_type,builtinLookup_eq_fast];kernel_rfl) (by decide +kernel) (by decide +kernel) (by decide +kernel)
  (by first|exact .inl (by decide +kernel)|exact .inr (by decide +kernel)) (by rw[isSubtype_type];kernel_rfl)
theorem en':entryFor table "reversed.__iter__"=some Builtin.«dict_keyiterator.__iter__»:=
 entryFor_alias (id':="dict_keyiterator.__iter__") (by kernel_rfl) (by first|rfl|decide +kernel|(unfold String.splitOn;simp +decide [String.splitOnAux])) (by decide +kernel) (by kernel_rfl)
theorem b7' (a:Value):argsOk "reversed.__next__" ⟨[a],[]⟩:=by
 unfold argsOk;rw[signature?_of (id:="reversed.__next__") (n:=['_','_','t','x','e','n','_','_']) (o:=['d','e','s','r','e','v','e','r']) (by kernel_rfl) dP'];kernel_rfl
theorem dQ' (a:Value):argsOk "reversed.__iter__" ⟨[a],[]⟩:=by
 unfold argsOk;rw[signature?_of (id:="reversed.__iter__") (n:=['_','_','r','e','t','i','_','_']) (o:=['d','e','s','r','e','v','e','r']) (by kernel_rfl) dP'];kernel_rfl
theorem jE':typeLookup (.type "reversed") "__len__"=pure none:=by rw[typeLookup_type,builtinLookup_eq_fast];kernel_rfl
theorem lZ':typeLookup (.type "reversed") "__length_hint__"=pure (some (.builtin "reversed.__length_hint__")):=by rw[typeLookup_type,builtinLookup_eq_fast];kernel_rfl
theorem jF':typeLookup (.type "tuple") "__reversed__"=pure none:=by rw[typeLookup_type,builtinLookup_eq_fast];kernel_rfl
theorem dR':TypeCalled "reversed" "reversed.__new__" "object.__init__":=
 ⟨by decide +kernel,by decide +kernel,⟨_,_,mro_reversed⟩,made_reversed,by decide +kernel,sub_reversed_self,e4'⟩
end F
open PyProof.Rows
def jG' (t:Addr) (i:Int):Obj:={ cls:=.type "reversed",data:=.fields #[.ref t,rawInt i] }
def Heap.IsRvd (h:Heap) (a t:Addr) (i:Int):Prop:=∃o,h.get? a=some o/\o.cls=.type "reversed"/\o.data=.fields #[.ref t,rawInt i]
theorem Heap.IsRvd.at {h h':Heap} {a t:Addr} {i:Int} (x:h.IsRvd a t i) (e:∀o,h.get? a=some o->h'.get? a=some o):h'.IsRvd a t i:=let⟨o,ho,r⟩:=x;⟨o,e _ ho,r⟩
theorem jH' (t:Addr) (items:Array Value):Meets (Builtin.«reversed.__new__» ⟨[.type "reversed",.ref t],[]⟩) (fun _ R s=>IsTup s.heap t items/\items.size<=sizeLine/\
  ∀tk,s.toks<=tk->R (.ok (.ret (.ref s.heap.objs.size))) { s with heap:=s.heap.push (jG' t ((items.size:Int)-1)),toks:=tk }):=
 .of_wp fun prog w A R s h=>by
  obtain⟨ht,hsz,h⟩:=h
  unfold Builtin.«reversed.__new__»
  refine aa (bA (newClass_reversed _) ?_)
  try dsimp only
  refine aa (bA (a:=()) (by first|rfl|kernel_rfl) ?_)
  refine aa (bA (a:=()) (by first|rfl|kernel_rfl) ?_)
  try dsimp only
  refine aa (bI ht.typeIs F.jF' ?_)
  try dsimp only
  refine aa ?_
  have hT:=ht.typeIs (s:=s)
  wp_delta
  refine aa (bM (T:="tuple") (b:=false) hT (by rw[isSubtype_type];kernel_rfl) ?_)
  simp only[bc,if_false]
  refine aa (bI hT slot_tuple_getitem.lookup ?_)
  dsimp only
  rw[if_pos (by decide +kernel)]
  refine ab ?_
  simp only[Bool.not_true,bc,if_false]
  refine aa (len_tuple ht (by have:=sizeLine_eq;omega) ?_)
  refine aa (m:=asInt? (.int _ _)) (ab ?_)
  dsimp only
  refine aa (m:=Builtin.SmallTypes.newRecord _ _) ?_
  show wpAny _ _ (newObj (.type "reversed") (.fields #[.ref t,rawInt ((items.size:Int)-1)])) _ _ _
  refine aI ?_ (by size_fits)
  exact ab ⟨_,rfl,h _ (by show s.toks<=s.toks+1+1;omega)⟩
section
variable {prog:Program} {w:World} {A:Around} {E:Value->Shared->Prop} {s:Shared}
theorem l0' {t:Addr} {items:Array Value} {Q:Value->Shared->Prop} (ht:IsTup s.heap t items) (hsz:items.size<=sizeLine)
  (h:∀tk,s.toks<=tk->Q (.ref s.heap.objs.size) { s with heap:=s.heap.push (jG' t ((items.size:Int)-1)),toks:=tk }):wpAny (model prog w) A (call (.type "reversed") [.ref t]) Q E s:=by
 refine callType_new F.dR' (by decide) (F.typeCall_reversed_1 _) (F.newCall_reversed_1 _) (fun obj=>F.args_object_init_2 obj _) F.entry_reversed_new (jH' t items) ⟨ht,hsz,fun tk htk=>?_⟩
 exact⟨⟨_,ai _ rfl,rfl⟩,h tk htk⟩
theorem Heap.IsRvd.typeIs {a t:Addr} {i:Int} (x:s.heap.IsRvd a t i):s.TypeIs (.ref a) "reversed":=let⟨o,ho,hc,_⟩:=x;⟨o,ho,hc⟩
theorem l3' {it t:Addr} {i:Nat} {items:Array Value} {x:Value} {Q:Option Value->Shared->Prop} (hit:s.heap.IsRvd it t (i:Int)) (hne:t≠it) (ht:IsTup s.heap t items) (hx:items[i]?=some x) (hi:i<2 ^ 30)
  (hQ:∀h' tk,s.toks<=tk->h'.IsRvd it t ((i:Int)-1)->br it s.heap h'->Q (some x) { s with heap:=h',toks:=tk }):wpAny (model prog w) A (pyNext (.ref it)) Q E s:=by
 obtain⟨o,ho,hc,hd⟩:=id hit
 have hT:=ht.typeIs (s:=s)
 unfold pyNext
 refine aa (bH (aH (name:=Str.ofString "__next__") hit.typeIs F.a3'
  (aK F.a3' hit.typeIs F.cn' ?_ (F.b7' _))))
 unfold Builtin.«reversed.__next__»
 refine aa (bA (a:=(Value.ref it,[])) rfl ?_)
 try dsimp only
 refine aa (aJ ho hd (x:=.ref t) rfl ?_)
 refine aa (aJ ho hd (x:=rawInt (i:Int)) rfl ?_)
 show wpAny _ _ (if(i:Int)<0 then _ else _) _ _ s
 rw[if_neg (by omega)]
 refine aa (bI hT slot_tuple_getitem.lookup ?_)
 rw[if_neg (by simp)]
 refine aa (wpAny_mkInt ?_)
 have hj:seqIndex? (i:Int) items.size=some i:=by
  have hlt:i<items.size:=(Array.getElem?_eq_some_iff.mp hx).1
  unfold seqIndex?
  simp
  omega
 refine aa (bH (getItem_tuple (s:={ s with toks:=s.toks+1 }) ht (by omega) (by omega) hj hx ?_))
 dsimp only
 refine aa (aJ (s:={ s with toks:=s.toks+1 }) ho hd (x:=rawInt (i:Int)) rfl ?_)
 show wpAny _ _ (setField (.ref it) 1 (rawInt ((i:Int)-1)) >>= _) _ _ _
 refine aa (cC (s:={ s with toks:=s.toks+1 }) ho hd (by simp) ?_)
 first
 |refine ab ⟨x,rfl,ab (hQ _ _ (Nat.le_succ _) ?_ (Heap.SameBut.update ..))⟩
 |refine aa (ab (ab ⟨x,rfl,ab (hQ _ _ (Nat.le_succ _) ?_ (Heap.SameBut.update ..))⟩))
 exact⟨_,aR _ ho (Obj.isFreed_of_fields (Obj.data_mapFields hd _)),(Obj.cls_mapFields ..).trans hc,by
  rw[Obj.data_mapFields hd];simp⟩
theorem o9' {it t:Addr} {Q:Option Value->Shared->Prop} (hh:A.handled=none) (hit:s.heap.IsRvd it t (-1))
  (hQ:∀h',Heap.ExtBut it s.heap h'->Q none { s with heap:=h' }):wpAny (model prog w) A (pyNext (.ref it)) Q E s:=by
 obtain⟨o,ho,hc,hd⟩:=id hit
 unfold pyNext
 refine aa (bH (aH (name:=Str.ofString "__next__") hit.typeIs F.a3'
  (aK F.a3' hit.typeIs F.cn' ?_ (F.b7' _))))
 unfold Builtin.«reversed.__next__»
 refine aa (bA (a:=(Value.ref it,[])) rfl ?_)
 try dsimp only
 refine aa (aJ ho hd (x:=.ref t) rfl ?_)
 refine aa (aJ ho hd (x:=rawInt (-1)) rfl ?_)
 show wpAny _ _ (if(-1:Int)<0 then _ else _) _ _ s
 rw[if_pos (by decide)]
 refine aa (bu ?_)
 refine aa ?_
 wp_delta
 refine aa (cC ho hd (by simp) ?_)
 refine cC (aR _ ho (Obj.isFreed_of_fields (Obj.data_mapFields hd _))) (Obj.data_mapFields hd _) (by simp) ?_
 have k:Heap.ExtBut it s.heap ((s.heap.update it (Obj.mapFields fun x=>x.setIfInBounds 1 (rawInt (-1)))).update it (Obj.mapFields fun x=>x.setIfInBounds 0 Value.none)):=fun b o hb e=>
  (Heap.SameBut.update ..).extBut b o hb ((Heap.SameBut.update ..).extBut b o hb e)
 refine aa ?_
 show wpAny _ _ (newExc (.type "StopIteration") [] >>= _) _ _ _
 refine aa ?_
 simp only[newExc,newTuple]
 refine aa (aI ?_ (by size_fits))
 refine aa (m:=firstArgMember _ _) (bA (a:=Value.none) (by first|rfl|(simp only[firstArgMember];rfl)) ?_)
 refine aI ?_ (by size_fits)
 simp only[raiseNew]
 refine aa (wpAny_handled ?_)
 first|rw[show A.in1.handled=none from hh]|rw[hh]
 refine aa (ab (wpAny_throw ?_))
 refine aa (bM (T:="StopIteration") (b:=true) ⟨_,ai _ rfl,rfl⟩ isSubtype_stop ?_)
 exact ab (hQ _ fun b o hb e=>((Heap.ExtBut.refl _ _).push _ |>.push _) b o hb (k b o hb e))
theorem l4' {it t:Addr} {i:Int} {Q:Value->Shared->Prop} (hit:s.heap.IsRvd it t i) (h:Q (.ref it) s):wpAny (model prog w) A (pyIter (.ref it)) Q E s:=by
 refine wpAny_pyIter_slot hit.typeIs F.cF' (aK F.cF' hit.typeIs F.en' ?_ (F.dQ' _))
 show wpAny _ _ (ret (.ref it)) _ _ s
 exact ab ⟨_,rfl,"reversed",_,hit.typeIs,F.a3'.lookup,h⟩
end
theorem jI' {h h':Heap} {t:Addr} {items:Array Value} (x:IsTup h t items) (k:∀o,h.get? t=some o->h'.get? t=some o):IsTup h' t items:=let⟨o,ho,r⟩:=x;⟨o,k o ho,r⟩
theorem jJ' {prog:Program} {w:World} {A:Around} (hh:A.handled=none) (I t:Addr) (hne:t≠I) (items:Array Value) (hsz:items.size<=sizeLine):
  WalksS prog w A I [I,t] [I] Eq items.size (fun i v=>items[items.size-1-i]?=some v) (fun i s=>i<=items.size/\s.heap.IsRvd I t ((items.size:Int)-1-(i:Int))/\IsTup s.heap t items) where
 sub:=fun b hb=>by simp at hb;simp[hb]
 grefl:=fun _=>rfl
 gtrans:=fun _ _ _=>Eq.trans
 frame:=fun _ _ _ _ x _ hk=>⟨x.1,x.2.1.at fun o e=>hk I (by simp) o e,jI' x.2.2 fun o e=>hk t (by simp) o e⟩
 item:=fun i s Q E hi x hQ=>by
  have hs:=sizeLine_eq
  have e:(items.size:Int)-1-(i:Int)=((items.size-1-i:Nat):Int):=by omega
  have hit:=x.2.1
  rw[e]at hit
  have hx:items[items.size-1-i]?=some (items[items.size-1-i]'(by omega)):=aA (by omega)
  refine l3' hit hne x.2.2 hx (by omega) fun h' tk htk hit' hs'=>?_
  have e2:((items.size-1-i:Nat):Int)-1=(items.size:Int)-1-((i+1:Nat):Int):=by omega
  rw[e2]at hit'
  exact hQ _ _ hx ⟨hi,hit',jI' x.2.2 fun o eo=>(hs'.2 t hne).trans eo⟩ ⟨fun b o hb eo=>hs'.extBut b o (fun h=>hb (by simp[h])) eo,rfl,rfl,rfl,htk⟩
 done:=fun s Q E x hQ=>by
  have e:(items.size:Int)-1-(items.size:Int)=-1:=by omega
  have hit:=x.2.1
  rw[e]at hit
  exact o9' hh hit fun h' he'=>hQ _ ⟨fun b o hb eo=>he' b o (fun h=>hb (by simp[h])) eo,rfl,rfl,rfl,ag _⟩
 self:=fun _ _ _ _ x hQ=>l4' x.2.1 hQ
namespace F
theorem cG':Slot "reversed" "__length_hint__" "reversed.__length_hint__":=
 .of (owner:="reversed") (n:="__length_hint__") (by rw[typeLookup_type,builtinLookup_eq_fast];kernel_rfl) (by decide +kernel) (by decide +kernel) (by decide +kernel)
  (by first|exact .inl (by decide +kernel)|exact .inr (by decide +kernel)) (by rw[isSubtype_type];kernel_rfl)
theorem eo':entryFor table "reversed.__length_hint__"=some Builtin.«reversed.__length_hint__»:=entryFor_of_tree (by kernel_rfl)
theorem dS' (a:Value):argsOk "reversed.__length_hint__" ⟨[a],[]⟩:=by
 unfold argsOk;rw[signature?_of (id:="reversed.__length_hint__") (n:=['_','_','t','n','i','h','_','h','t','g','n','e','l','_','_']) (o:=['d','e','s','r','e','v','e','r']) (by kernel_rfl) dP'];kernel_rfl
end F
section
variable {prog:Program} {w:World} {A:Around} {E:Value->Shared->Prop} {s:Shared}
theorem e5' {it t:Addr} {items:Array Value} {Q:Value->Shared->Prop} (hit:s.heap.IsRvd it t ((items.size:Int)-1)) (ht:IsTup s.heap t items) (hsz:items.size<=sizeLine)
  (h:∀tk u,s.toks<=tk->Q (.int items.size u) { s with toks:=tk }):wpAny (model prog w) A (call (.builtin "reversed.__length_hint__") [.ref it]) Q E s:=by
 obtain⟨o,ho,hc,hd⟩:=id hit
 refine aK F.cG' hit.typeIs F.eo' ?_ (F.dS' _)
 unfold Builtin.«reversed.__length_hint__»
 refine aa (bA (a:=Value.ref it) rfl ?_)
 refine aa (aJ ho hd (x:=.ref t) rfl ?_)
 rw[if_neg (show ¬((Value.ref t == Value.none)=true) from al)]
 refine aa (len_tuple ht (by have:=sizeLine_eq;omega) ?_)
 refine aa (m:=asInt? (.int _ _)) (ab ?_)
 dsimp only
 refine aa (aJ (s:={ s with toks:=s.toks+1+1 }) ho hd (x:=rawInt ((items.size:Int)-1)) rfl ?_)
 show wpAny _ _ (if(items.size:Int)<(items.size:Int)-1+1 then _ else _) _ _ _
 rw[if_neg (by omega),show(items.size:Int)-1+1=(items.size:Int) by omega]
 exact aa (wpAny_mkInt (ab ⟨_,rfl,h _ _ (by show s.toks<=s.toks+1+1+1;omega)⟩))
theorem gv' {I t:Addr} {items:Array Value} {Q:List Value->Shared->Prop} (hh:A.handled=none) (hne:t≠I) (hit:s.heap.IsRvd I t ((items.size:Int)-1)) (ht:IsTup s.heap t items) (hsz:items.size<=sizeLine) (h0:items.size≠0)
  (hQ:∀s',Moved [I] Eq s s'->s.heap.objs.size<s'.heap.objs.size->Q items.toList.reverse s'):wpAny (model prog w) A (collect (.ref I)) Q E s:=by
 have W:WalksS prog w A.in1 I [I,t] [I] Eq items.size (fun i v=>items[items.size-1-i]?=some v) (fun i s=>i<=items.size/\s.heap.IsRvd I t ((items.size:Int)-1-(i:Int))/\IsTup s.heap t items):=jJ' (A:=A.in1) hh I t hne items hsz
 have hlI:I<s.heap.objs.size:=by obtain⟨o,ho,_⟩:=hit;exact ap ho
 have hlt:t<s.heap.objs.size:=by obtain⟨o,ho,_⟩:=ht;exact ap ho
 have hfp:∀b∈[I,t],b<s.heap.objs.size:=fun b hb=>by
  simp only[am,aB,or_false]at hb
  rcases hb with rfl|rfl
  .exact hlI
  .exact hlt
 have hst:(fun(i:Nat) (s:Shared)=>i<=items.size/\s.heap.IsRvd I t ((items.size:Int)-1-(i:Int))/\IsTup s.heap t items) 0 s:=⟨aT _,by simpa using hit,ht⟩
 have hSf:s.heap.objs.size∉[I,t]:=fun hm=>aV _ (hfp _ hm)
 have hSI:s.heap.objs.size≠I:=fun e=>hSf (e ▸ by simp)
 unfold collect
 refine aa (wpAny_runValue (codeAny_builtin F.entry_proto_collect ?_))
 rw[Around.under_plainId F.plain_proto_collect _]
 show wpAny _ A.in1 (newList [] >>= fun l=>again (.builtin "list.__iadd__" ⟨[l,.ref I],[]⟩)) _ _ s
 refine aa (aI ?_)
 refine ab ⟨plainId_quiet F.plain_list_iadd _,codeAny_builtin F.entry_list_iadd ?_⟩
 rw[Around.under_plainId F.plain_list_iadd _]
 have hst₁:=W.frame 0 s (s.heap.push { cls:=.type "list",data:=.seq ([]:List Value).toArray }) s.toks hst (ag _) fun b _ o e=>ac _ e
 have hT1:Shared.TypeIs { s with heap:=s.heap.push { cls:=.type "list",data:=.seq ([]:List Value).toArray } } (.ref I) "reversed":=hst₁.2.1.typeIs
 have hS₁:(s.heap.push { cls:=.type "list",data:=.seq ([]:List Value).toArray }).get? s.heap.objs.size=some { cls:=.type "list",data:=.seq ([]:List Value).toArray }:=ai _ rfl
 have h1:Builtin.List.listSameRef (.ref s.heap.objs.size) (.ref I)=false:=by simp[Builtin.List.listSameRef,hSI]
 show wpAny _ A.in1 (Builtin.List.listExtendWith (.ref s.heap.objs.size) (.ref I) (.ref s.heap.objs.size)) _ _ _
 unfold Builtin.List.listExtendWith
 refine aa (cV hT1 ?_)
 rw[if_neg (by rw[h1];decide)]
 refine aa (W.self 0 _ _ _ hst₁ ?_)
 refine aa (aE ?_)
 unfold Builtin.List.listLengthHint
 refine aa (bI hT1 F.jE' ?_)
 show wpAny _ A.in1 (specialOf (Value.ref I) (Str.ofString "__length_hint__") >>= _) _ _ _
 refine aa (bI hT1 F.lZ' ?_)
 (generalize hid:("reversed.__length_hint__":String)=id0;(fail_if_success (clear hid id0));wp_delta;rw[show splitId id0=some ("reversed","__length_hint__") from by subst hid;decide +kernel];subst hid)
 refine aa (bM (b:=true) hT1 (by rw[isSubtype_type];kernel_rfl) ?_)
 rw[if_neg (by decide),if_neg (by decide +kernel)]
 refine aa (bu ?_)
 refine aa (bA (F.cG'.bind _) ?_)
 dsimp only
 refine aa (bH (e5' (s:={ s with heap:=s.heap.push { cls:=.type "list",data:=.seq ([]:List Value).toArray } }) (items:=items) (by simpa using hst₁.2.1) hst₁.2.2 hsz fun tk u htk=>?_))
 generalize hz:(items.size:Int)=z
 have hai:asInt? (.int z u)=pure (some z):=rfl
 simp only[hai,pure_bind]
 subst hz
 have hse:=sizeLine_eq
 rw[if_neg (by
  have e:Builtin.List.listFitsIndex (items.size:Int)=true:=by
   unfold Builtin.List.listFitsIndex
   rw[af,decide_eq_true_eq,decide_eq_true_eq]
   omega
  rw[e];decide),if_neg (by omega),if_neg (by
  have e:Builtin.List.listTooLong (Int.toNat (items.size:Int))=false:=by
   unfold Builtin.List.listTooLong
   rw[ba]
   exact decide_eq_false (by omega)
  rw[e];decide)]
 refine ab ?_
 rw[if_pos (by
  have e:((items.size:Int) != 0)=true:=by rw[bne_iff_ne];omega
  rw[e];rfl)]
 refine aa (bu ?_)
 refine aa ?_
 show wpAny _ A.in1 (updateSeq s.heap.objs.size (·.push .none) >>= fun _=>updateSeq s.heap.objs.size (·.pop)) _ _ _
 refine aa (wpAny_updateSeq hS₁ rfl ?_)
 have hS₂:=aR (Obj.mapSeq (·.push Value.none)) hS₁ rfl
 refine wpAny_updateSeq hS₂ rfl ?_
 have hS₃:=aR (Obj.mapSeq (·.pop)) hS₂ rfl
 have oth:∀b o,b≠s.heap.objs.size->(s.heap.push { cls:=.type "list",data:=.seq ([]:List Value).toArray }).get? b=some o->
   (((s.heap.push { cls:=.type "list",data:=.seq ([]:List Value).toArray }).update s.heap.objs.size (Obj.mapSeq (·.push Value.none))).update s.heap.objs.size (Obj.mapSeq (·.pop))).get? b=some o:=
  fun b o hb e=>(cE _ _ (Ne.symm hb)).trans ((cE _ _ (Ne.symm hb)).trans e)
 refine ab ⟨plainId_quiet F.plain_extend_loop _,codeAny_extend_loopS W hsz _ hSf _ items.size 0 _ _ _ rfl (aT _)
  (W.frame 0 ({ s with heap:=s.heap.push { cls:=.type "list",data:=.seq ([]:List Value).toArray } }:Shared) _ tk hst₁ htk fun b hb o e=>oth b o (fun h=>hSf (h ▸ hb)) e) hS₃ (ItemsOf.nil _) fun s' acc' c' hm hS' hacc=>?_⟩
 show wpAny _ A (load s.heap.objs.size >>= _) _ _ s'
 refine aa (wpAny_load hS' ?_)
 have eacc:acc'.toList=items.toList.reverse:=by
  obtain⟨hl,hp⟩:=hacc
  apply bX
  intro j
  by_cases hj:j<items.size
  .have h2:acc'[j]?=some (acc'[j]'(by omega)):=aA (by omega)
   have h3:=hp j _ h2
   rw[List.getElem?_reverse (by simpa using hj),ci,ci,h2,aq,<- h3]
  .rw[bn (by rw[aq];omega),bn (by rw[bG,aq];omega)]
 refine ab ?_
 show Q acc'.toList s'
 rw[eacc]
 refine hQ s' (Moved.drop_new (o:={ cls:=.type "list",data:=.seq ([]:List Value).toArray }) (tk:=tk) (Moved.trans W.gtrans ((Moved.refl W.grefl).then_heap (ag _) fun b o hb e=>oth b o (fun h=>hb (by simp[h])) e) hm) htk) (ap hS')
end
theorem dT' (I t:Addr) (items:Array Value) (hne:t≠I) (hsz:items.size<=sizeLine) (h0:items.size≠0):
  Meets (Builtin.«tuple.__new__» ⟨[.type "tuple",.ref I],[]⟩)
   (fun A R s=>A.handled=none/\s.heap.IsRvd I t ((items.size:Int)-1)/\IsTup s.heap t items/\∀s',Moved [I] Eq s s'->s.heap.objs.size<s'.heap.objs.size->R (.ok (.ret (.ref s'.heap.objs.size))) { s' with heap:=s'.heap.push { cls:=.type "tuple",data:=.seq items.toList.reverse.toArray } }):=
 .of_wp fun prog w A R s h=>by
  obtain⟨hh,hit,ht,h⟩:=h
  have hsub:=sub_tuple_self
  have hinit:=init_tuple_lookup
  have hmh:=madeHere_tuple
  obtain⟨o,ho,hc,hd⟩:=id hit
  have hT:Shared.TypeIs s (.ref I) "reversed":=⟨o,ho,hc⟩
  obtain⟨hp,g,d,tk,os⟩:=s
  wp_walk using AutoSeq1.wpAny_loadPart' ho,cV hT,gv' (A:=A.in1) hh hne hit ht hsz h0
  intro s' hm hlt
  show wpAny _ _ (Builtin.Tuple.tupleExact items.toList.reverse.toArray >>= fun v=>ret v) _ _ _
  unfold Builtin.Tuple.tupleExact
  refine aa (aI ?_ (by show items.toList.reverse.toArray.size<=sizeLine;simpa using hsz))
  exact ab ⟨_,rfl,h s' hm hlt⟩
section
variable {prog:Program} {w:World} {A:Around} {E:Value->Shared->Prop} {s:Shared}
theorem eq' {I t:Addr} {items:Array Value} {Q:Value->Shared->Prop} (hh:A.handled=none) (hne:t≠I) (hit:s.heap.IsRvd I t ((items.size:Int)-1)) (ht:IsTup s.heap t items) (hsz:items.size<=sizeLine) (h0:items.size≠0)
  (h:∀s',Moved [I] Eq s s'->s.heap.objs.size<s'.heap.objs.size->Q (.ref s'.heap.objs.size) { s' with heap:=s'.heap.push { cls:=.type "tuple",data:=.seq items.toList.reverse.toArray } }):
  wpAny (model prog w) A (call (.type "tuple") [.ref I]) Q E s:=
 callType_new F.called_tuple (by decide) (F.typeCall_tuple_1 _) (F.newCall_tuple_1 _) (fun obj=>F.args_object_init_2 obj _) F.entry_tuple_new
  (dT' I t items hne hsz h0) ⟨hh,hit,ht,fun s' hm hlt=>⟨⟨_,ai _ rfl,rfl⟩,h s' hm hlt⟩⟩
end
end PySem
namespace L2
open PySem PySem.Spec PyProof.Rows
section
variable {X:Cx}
def vU' (K:W.Frag) (te:TE):TE:=fun σ H Q=>te σ H fun x H1=>∃a xs,x=.ref a/\SqT K H1 a xs/\xs≠[]/\∀p,H1 p=none->Q (.ref p) (upd H1 p (.tup xs.reverse))
theorem sg' {e:Expr} {te:TE} {p p2 pos pos2:Pos} (hc:X.calm=true) (hg1:Gl X "tuple") (hm1:X.mg "tuple"=none) (hg2:Gl X "reversed") (hm2:X.mg "reversed"=none) (he:PE X e te) (hs:starEach [e] X.env=[(false,eval e X.env)]):
  PE X (.Call (.Name "tuple" p) [.Call (.Name "reversed" p2) [e] [] pos2] [] pos) (vU' X.K te):=by
 intro pins s σ H Q I h
 refine cI (c9' I hg1 hm1 boot_tuple ?_)
 refine PyProof.Rows.callWith_type1 ?_
 show wpAny _ _ (spliced [(false,eval (.Call (.Name "reversed" p2) [e] [] pos2) X.env)]) _ _ s
 refine Calls.spliced_cons ?_
 refine cI (c9' I hg2 hm2 eZ' ?_)
 refine PyProof.Rows.callWith_type1 ?_ (by rw[hs];rfl) rfl
 rw[hs]
 show wpAny _ _ (spliced [(false,eval e X.env)]) _ _ s
 refine Calls.spliced_cons (thn (he pins s σ H _ I h) fun u s1 ⟨x,H1,I1,rx,a,xs,ex,hx,hne,q⟩=>Calls.spliced_nil ?_)
 subst ex
 obtain rfl:u=Value.ref a:=rx
 obtain⟨its,r,ht,hz⟩:=I1.tuple hx
 have hlen:=r.length
 have hsz:its.toArray.size<=sizeLine:=by rw[aj,<- hlen];exact hz
 have h0:its.toArray.size≠0:=by
  rw[aj,<- hlen]
  exact fun z=>hne (List.length_eq_zero_iff.mp z)
 refine l0' ht hsz fun tk htk=>Calls.spliced_nil ?_
 have hta:a<s1.heap.objs.size:=by obtain⟨o,ho,_⟩:=ht;exact ap ho
 refine eq' (I:=s1.heap.objs.size) (t:=a) (items:=its.toArray) (I.ok.hd hc) (ay hta) ⟨_,ai _ rfl,rfl,rfl⟩ (jI' ht fun o eo=>ac _ eo) hsz h0 fun s' hm hlt=>?_
 obtain⟨hp',g',d',tk',os'⟩:=s'
 have e1:g'=s1.gens:=hm.gens.symm
 have e2:d'=s1.drawn:=hm.drawn
 have e3:os'=s1.os:=hm.os
 subst e1 e2 e3
 have hlt2:s1.heap.objs.size<=hp'.objs.size:=by
  have:(s1.heap.push (jG' a ((its.toArray.size:Int)-1))).objs.size<hp'.objs.size:=hlt
  rw[aS]at this
  omega
 have kk:∀b o,s1.heap.get? b=some o->(hp'.push { cls:=.type "tuple",data:=.seq its.reverse.toArray }).get? b=some o:=fun b o eb=>
  ac _ (hm.heap b o (by simp;exact ay (ap eb)) (ac _ eb))
 have hn:H1 hp'.objs.size=none:=I1.hok.fresh hlt2
 refine⟨.ref hp'.objs.size,_,I1.laid (a:=hp'.objs.size) (o:=.tup xs.reverse) (h':=hp'.push { cls:=.type "tuple",data:=.seq its.reverse.toArray }) (t':=tk') kk hlt2 ?_,rfl,q _ hn⟩
 exact⟨by rw[bG];exact hz,its.reverse,r.reverse,lc'.new _ _⟩
end
end L2
namespace HT
open PySem PyProof.Rows
section
variable {prog:Program} {w:World} {A:Around} {E:Value->Shared->Prop} {s:Shared}
theorem cs' {t sl:Addr} {items:Array Value} {vl vu:Value} {lo hi:Option Int} {Q:Value->Shared->Prop} (ht:IsTup s.heap t items) (hs:s.heap.IsSliceOf sl vl vu .none) (pl:IsPart vl lo) (pu:IsPart vu hi)
  (hw:sIx items.size 0 lo=0/\sIx items.size items.size hi=items.size)
  (h:Q (.ref t) s):wpAny (model prog w) A (getItem (.ref t) (.ref sl)) Q E s:=by
 obtain⟨os,hos,hcs,hds⟩:=id hs
 have hTs:s.TypeIs (.ref sl) "slice":=⟨os,hos,hcs⟩
 unfold getItem
 try with_reducible refine aE ?_
 first|refine aa (ab ?_)|skip
 refine aa (wpAny_sequenceKey ht.typeIs (by decide) ?_)
 refine aa (aH (name:=Str.ofString "__getitem__") ht.typeIs PyProof.Rows.slot_tuple_getitem
  (aK PyProof.Rows.slot_tuple_getitem ht.typeIs entry_tuple_getitem ?_ (args_tuple_getitem _ _)))
 show wpAny _ _ (Builtin.Tuple.tupleItemsOf (.ref t) >>= _) _ _ s
 refine aa (tupleItemsOf_ ht ?_)
 refine aa (cV hTs ?_)
 rw[if_pos (by decide)]
 refine aa (b5' hs pl pu ?_)
 have hyes:(((sIx items.size 0 lo:Nat):Int) == 0&&(1:Int) == 1&&(sIx items.size items.size hi-sIx items.size 0 lo) == items.size)=true:=by
  rw[hw.1,hw.2]
  simp
 show wpAny _ _ (if(((sIx items.size 0 lo:Nat):Int) == 0&&(1:Int) == 1&&(sIx items.size items.size hi-sIx items.size 0 lo) == items.size)=true then _ else _) _ _ s
 rw[if_pos hyes]
 obtain⟨ot,hot,hct,nt,hdt⟩:=id ht
 refine aa (wpAny_mono (Q:=fun b s'=>b=true/\s'=s) (E:=E) ?_ ?_ (fun _ _ z=>z))
 .unfold Builtin.Tuple.tupleIsExact
  exact aa (cV ht.typeIs (ab ⟨rfl,rfl⟩))
 .rintro b s' ⟨rfl,rfl⟩
  rw[if_pos rfl]
  exact aa (bu (ab ⟨_,rfl,ab h⟩))
end
end HT
namespace L2
open PySem PySem.Spec PyProof.Rows
section
variable {X:Cx}
def qR' (K:W.Frag):V->Option Int->Option Int->Hp->VK->Prop:=fun x lo hi H Q=>∃a xs,x=.ref a/\SqT K H a xs/\(HT.sIx xs.length 0 lo=0/\HT.sIx xs.length xs.length hi=xs.length)/\Q (.ref a) H
theorem l5':SlR X (qR' X.K):=by
 intro pins s σ H x v vl vu lo hi sl Q I rx hs pl pu h
 obtain⟨a,xs,rfl,hx,hw,q⟩:=h
 cases rx
 obtain⟨its,r,ht,hz⟩:=I.tuple hx
 have hlen:its.toArray.size=xs.length:=by rw[aj];exact r.length.symm
 refine⟨"tuple",_,PyProof.Rows.slot_tuple_getitem.lookup,ht.typeIs,?_⟩
 exact HT.cs' ht hs pl pu (by rw[hlen];exact hw) ⟨.ref a,H,I,rfl,q⟩
end
def RdA (r:V->PyData->Prop):List V->List PyData->Prop
 | [],[]=>True
 |x :: xs,d :: ds=>r x d/\RdA r xs ds
 |_,_=>False
def RdV (H:Hp):Nat->V->PyData->Prop
 |_,.non,d=>d=.none
 |_,.bl b,d=>d=.bool b
 |_,.int i,d=>d=.int i
 |_,.str x,d=>d=.str x
 |n+1,.ref a,d=>(∃xs ds,H a=some (.lst xs)/\d=.list ds/\RdA (RdV H n) xs ds)\/∃xs ds,H a=some (.tup xs)/\d=.tuple ds/\RdA (RdV H n) xs ds
 |_,_,_=>False
section
variable {X:Cx} {pins:List (Addr×Obj)} {σ:St} {H:Hp} {s:Shared}
theorem dU' (r:V->PyData->Prop) (hr:∀v d u,r v d->av' v u->∃as,Reads s.heap u d as):∀{xs:List V} {ds:List PyData} {us:List Value},RdA r xs ds->aA' xs us->∃as,ReadsAll s.heap us ds as
 | [],[],_,_,.nil=>⟨[],.nil⟩
 |x :: xs,d :: ds,_,h,.cons rx rt=>by
  obtain⟨as,h1⟩:=hr _ _ _ h.1 rx
  obtain⟨bs,h2⟩:=dU' r hr h.2 rt
  exact⟨as++bs,.cons h1 h2⟩
 | [],_ :: _,_,h,_=>h.elim
 |_ :: _,[],_,h,_=>h.elim
theorem l6' (I:Inv X pins σ H s):∀(n:Nat) (v:V) (d:PyData) (u:Value),RdV H n v d->av' v u->∃as,Reads s.heap u d as:=by
 intro n
 induction n with
 |zero=>
  intro v d u h r
  cases v with
  |non=>cases(show d=.none from h);cases(show u=Value.none from r);exact⟨[],.none⟩
  |bl b=>cases(show d=.bool b from h);cases(show u=Value.bool b from r);exact⟨[],.bool b⟩
  |int i=>cases(show d=.int i from h);obtain⟨t,rfl⟩:=(show ∃t,u=Value.int i t from r);exact⟨[],.int i t⟩
  |str x=>cases(show d=.str x from h);obtain⟨t,rfl⟩:=(show ∃t,u=Value.str x t from r);exact⟨[],.str x t⟩
  |_=>exact h.elim
 |succ n ih=>
  intro v d u h r
  cases v with
  |non=>cases(show d=.none from h);cases(show u=Value.none from r);exact⟨[],.none⟩
  |bl b=>cases(show d=.bool b from h);cases(show u=Value.bool b from r);exact⟨[],.bool b⟩
  |int i=>cases(show d=.int i from h);obtain⟨t,rfl⟩:=(show ∃t,u=Value.int i t from r);exact⟨[],.int i t⟩
  |str x=>cases(show d=.str x from h);obtain⟨t,rfl⟩:=(show ∃t,u=Value.str x t from r);exact⟨[],.str x t⟩
  |ref a=>
   obtain rfl:u=Value.ref a:=r
   rcases(show(∃xs ds,H a=some (.lst xs)/\d=.list ds/\RdA (RdV H n) xs ds)\/∃xs ds,H a=some (.tup xs)/\d=.tuple ds/\RdA (RdV H n) xs ds from h)with⟨xs,ds,ha,rfl,hx⟩|⟨xs,ds,ha,rfl,hx⟩
   .obtain⟨its,rv,pl,hz⟩:=I.list (SqL.of ha)
    obtain⟨o,ho,hc,k,hd⟩:=pl.isList
    obtain⟨as,h1⟩:=dU' (RdV H n) ih hx rv
    exact⟨a :: as,.list ho hc hd (by simpa using h1)⟩
   .obtain⟨its,rv,ht,hz⟩:=I.tuple (SqT.of ha)
    obtain⟨o,ho,hc,k,hd⟩:=ht
    obtain⟨as,h1⟩:=dU' (RdV H n) ih hx rv
    exact⟨as,.tuple ho hc hd (by simpa using h1)⟩
  |_=>exact h.elim
def xN':PyData->Str
 | .str x=>x
 |d=>d.shown
def sh':List V->Hp->VK->Prop:=fun xs H Q=>∃v n d,xs=[v]/\RdV H n v d/\d.showable=true/\d.hasDict=false/\d.depth<=50/\d.shown.length<=sizeLine/\Q (.str (xN' d)) H
theorem jK' (hg:X.A.guards=some []) (hu:X.A.units+64<cLine):aT' X (.type "str") sh':=by
 intro pins s σ H xs us Q I r h
 obtain⟨v,n,d,rfl,hd,hs,hdd,hdp,hsz,q⟩:=h
 obtain⟨u,rfl,rv⟩:=ej' r
 obtain⟨as,hr⟩:=l6' I n v d u hd rv
 cases hr with
 |none=>exact P.str_of_none ⟨.str _,H,I.tok _,⟨_,rfl⟩,q⟩
 |bool b=>exact P.str_of_bool ⟨.str _,H,I.tok _,⟨_,rfl⟩,by cases b<;>exact q⟩
 |int i t=>exact P.str_of_int (by simpa[PyData.showable]using hs) ⟨.str _,H,I.tok _,⟨_,rfl⟩,q⟩
 |str x t=>exact P.str_of_str ⟨.str x,H,I,⟨_,rfl⟩,q⟩
 |list h1 h2 h3 h4=>exact str_of_reads (.list h1 h2 h3 h4) hs (PyData.noDict_hsm hdd) hg (by omega) (fun _ _ e=>e) (fun h' t tk hk=>⟨.str _,H,I.kept (t':=tk) hk,⟨_,rfl⟩,q⟩) hsz
 |tuple h1 h2 h3 h4=>exact str_of_reads (.tuple h1 h2 h3 h4) hs (PyData.noDict_hsm hdd) hg (by omega) (fun _ _ e=>e) (fun h' t tk hk=>⟨.str _,H,I.kept (t':=tk) hk,⟨_,rfl⟩,q⟩) hsz
 |dict _ _ _ _ _=>simp[PyData.hasDict]at hdd
def xO' (neg:Bool):R2:=fun x y H Q=>∃(i lo hi:Int) (p:Addr),x=.int i/\y=.ref p/\H p=some (.rng lo hi)/\Q (.bl (if neg then !(decide (lo<=i)&&decide (i<hi))else decide (lo<=i)&&decide (i<hi))) H
theorem jL' (p:Addr) (lo hi i:Int) (t u v k:Tok):Meets (Builtin.«range.__contains__» ⟨[.ref p,.int i k],[]⟩) (fun _ R s=>s.heap.get? p=some { cls:=.type "range",data:=.fields #[.int lo t,.int hi u,.int 1 v] }/\R (.ok (.ret (.bool (decide (lo<=i)&&decide (i<hi))))) s):=
 .of_wp fun prog w A R s h=>by
  obtain⟨ho,h⟩:=h
  unfold Builtin.«range.__contains__»
  refine aa (bA (a:=(Value.ref p,[Value.int i k])) rfl ?_)
  dsimp only[Builtin.Range.rangeExactInt?]
  refine aa (bu ?_)
  refine aa ?_
  unfold Builtin.Range.rangeFields
  refine aa (aJ ho rfl (x:=.int lo t) rfl ?_)
  refine aa (bA (a:=some lo) rfl ?_)
  refine aa (aJ ho rfl (x:=.int hi u) rfl ?_)
  refine aa (bA (a:=some hi) rfl ?_)
  refine aa (aJ ho rfl (x:=.int 1 v) rfl ?_)
  refine aa (bA (a:=some 1) rfl ?_)
  dsimp only
  refine ab ?_
  have e:(Builtin.Range.rangePlace? lo hi 1 i).isSome=(decide (lo<=i)&&decide (i<hi)):=by
   unfold Builtin.Range.rangePlace?
   simp only[Int.emod_one]
   cases decide (lo<=i)&&decide (i<hi)<;>simp_all
  exact ab ⟨_,rfl,by rw[e];exact h⟩
variable {X:Cx}
theorem jM':OpR X (compareOp .NotIn) (xO' true):=by
 intro pins s σ H x y v u Q I rx ry h
 obtain⟨i,lo,hi,p,rfl,rfl,hp,q⟩:=h
 obtain⟨k,rfl⟩:=rx
 cases ry
 obtain⟨t,u,v,ho⟩:=(show as' X.prog X.w H s.heap p (.rng lo hi) from I.hok p _ hp)
 exact SeqRoads2.notIn_meets ⟨_,ho,rfl⟩ F.slot_range_contains F.entry_range_contains (F.args_range_contains_2 _ _) (jL' p lo hi i t u v k) ⟨ho,_,rfl,⟨.bl _,H,I,rfl,q⟩⟩
end
end L2
namespace HT
open PySem PyProof.Rows
section
variable {prog:Program} {w:World} {A:Around} {E:Value->Shared->Prop} {s:Shared}
theorem do' {sl:Addr} {u:Tok} {n:Nat} {Q:Int×Int×Nat->Shared->Prop} (hs:s.heap.IsSliceOf sl .none .none (.int (-1) u))
  (h:Q ((n:Int)-1,-1,n) s):wpAny (model prog w) A (Builtin.Slice.sliceApplied (.ref sl) (pure (n:Int))) Q E s:=by
 obtain⟨os,hos,hcs,hds⟩:=id hs
 unfold Builtin.Slice.sliceApplied Builtin.Slice.sliceFields
 refine aa (aa (aJ hos hds (x:=.none) rfl (aa (aJ hos hds (x:=.none) rfl (aa (aJ hos hds (x:=.int (-1) u) rfl (ab ?_)))))))
 refine aa (slicePart_int ?_)
 show wpAny _ _ (if((-1:Int) == 0)=true then _ else _) _ _ s
 rw[if_neg (by decide)]
 refine aa (slicePart_none (aa (slicePart_none (aa (ab ?_)))))
 show wpAny _ _ (match Builtin.Slice.sliceAdjust none none (-1) (n:Int)with|(lo,hi)=>pure (lo,(-1:Int),Builtin.Slice.slicePlaces lo hi (-1))) _ _ s
 have e1:Builtin.Slice.sliceAdjust none none (-1) (n:Int)=((n:Int)-1,-1):=rfl
 have e2:Builtin.Slice.slicePlaces ((n:Int)-1) (-1) (-1)=n:=by
  unfold Builtin.Slice.slicePlaces
  rw[if_neg (by decide)]
  split
  .rw[show -(-1:Int)=1 from rfl,Int.ediv_one];omega
  .omega
 rw[e1]
 show wpAny _ _ (pure ((n:Int)-1,(-1:Int),Builtin.Slice.slicePlaces ((n:Int)-1) (-1) (-1))) _ _ s
 rw[e2]
 exact ab h
theorem g5' (xs:Array Value):((bf xs.size).filterMap fun(m:Nat)=>xs[((xs.size:Int)-1+(m:Int) * -1).toNat]?).toArray=xs.toList.reverse.toArray:=by
 congr 1
 have e:∀k,k<=xs.size->(bf k).filterMap (fun(m:Nat)=>xs[((xs.size:Int)-1+(m:Int) * -1).toNat]?)=xs.toList.reverse.take k:=by
  intro k
  induction k with
  |zero=>intro _;rfl
  |succ k ih=>
   intro hk
   rw[List.range_succ,List.filterMap_append,ih (by omega),List.take_succ]
   congr 1
   have e1:((xs.size:Int)-1+(k:Int) * -1).toNat=xs.size-1-k:=by omega
   have e2:xs.toList.reverse[k]?=xs[xs.size-1-k]?:=by
    rw[List.getElem?_reverse (by rw[aq];omega),ci,aq]
   rw[e2]
   have e3:xs[xs.size-1-k]?=some (xs[xs.size-1-k]'(by omega)):=aA (by omega)
   simp only[bF,List.filterMap_nil,e1,e3]
   rfl
 rw[e xs.size (ag _),ce (by simp)]
theorem c2' {t sl:Addr} {items:Array Value} {u:Tok} {Q:Value->Shared->Prop} (ht:IsTup s.heap t items) (hs:s.heap.IsSliceOf sl .none .none (.int (-1) u)) (hsz:items.size<=sizeLine)
  (h:Q (.ref s.heap.objs.size) { s with heap:=s.heap.push { cls:=.type "tuple",data:=.seq items.toList.reverse.toArray } }):wpAny (model prog w) A (getItem (.ref t) (.ref sl)) Q E s:=by
 obtain⟨os,hos,hcs,hds⟩:=id hs
 have hTs:s.TypeIs (.ref sl) "slice":=⟨os,hos,hcs⟩
 have htake:sizeOk (.seq items.toList.reverse.toArray):=by show items.toList.reverse.toArray.size<=sizeLine;simpa using hsz
 unfold getItem
 try with_reducible refine aE ?_
 first|refine aa (ab ?_)|skip
 refine aa (wpAny_sequenceKey ht.typeIs (by decide) ?_)
 refine aa (aH (name:=Str.ofString "__getitem__") ht.typeIs PyProof.Rows.slot_tuple_getitem
  (aK PyProof.Rows.slot_tuple_getitem ht.typeIs entry_tuple_getitem ?_ (args_tuple_getitem _ _)))
 show wpAny _ _ (Builtin.Tuple.tupleItemsOf (.ref t) >>= _) _ _ s
 refine aa (tupleItemsOf_ ht ?_)
 refine aa (cV hTs ?_)
 rw[if_pos (by decide)]
 refine aa (do' hs ?_)
 have hno:¬((((items.size:Int)-1) == 0&&(-1:Int) == 1&&items.size == items.size)=true):=by simp
 show wpAny _ _ (if(((items.size:Int)-1) == 0&&(-1:Int) == 1&&items.size == items.size)=true then _ else _) _ _ s
 rw[if_neg hno,g5']
 first
  |exact aa (m:=Builtin.Tuple.tupleExact _) (aI (ab ⟨_,rfl,ab h⟩) htake)
  |exact aa (m:=Builtin.Tuple.tupleExact _) (aI (aa (ab (ab ⟨_,rfl,ab h⟩))) htake)
  |exact aa (aa (m:=Builtin.Tuple.tupleExact _) (aI (ab (ab ⟨_,rfl,ab h⟩)) htake))
  |exact aa (aa (m:=Builtin.Tuple.tupleExact _) (aI (ab ⟨_,rfl,ab h⟩) htake))
end
end HT
namespace L2
open PySem PySem.Spec PyProof.Rows
section
variable {X:Cx} {e st:Expr} {te:TE} {p2 pos:Pos}
def vV' (a:Str):Str:=⟨a.cps.toList.reverse.toArray⟩
theorem jN' (a:Str) (t u:Tok):sliceMade a t none none (some (-1,u))=.str (vV' a):=by
 unfold sliceMade
 rw[if_neg (by show ¬((false&&_)=true);rw[bj];decide)]
 congr 1
 show(⟨((Builtin.Str.strSliceIndices none none (-1) a.length).filterMap (a.cps[·]?)).toArray⟩:Str)=⟨_⟩
 congr 2
 rw[picked_rev]
 apply bX
 intro i
 rw[filterMap_get,bU,aC]
 .rcases cO i a.length with h|h
  .have h':i<a.cps.size:=h
   rw[List.getElem?_range h,List.getElem?_reverse (by rw[aq];exact h'),aq]
   have e:a.cps.size-1-i<a.cps.size:=by omega
   show some (a.cps.getD (a.cps.size-1-i) 0)=_
   rw[ci,aA e]
   simp[Array.getD,e]
  .rw[bn (by simpa using h),bn (by rw[bG,aq];exact h)]
   rfl
 .intro j hj
  obtain⟨k,hk,rfl⟩:=aZ.mp hj
  have:=bi.mp hk
  show a.length-1-k<a.length
  omega
theorem e6' (its:List Value):slicePick its.toArray none none (some (-1))=its.reverse.toArray:=by
 have h:=HT.g5' its.toArray
 have h:((bf its.length).filterMap fun(m:Nat)=>its.toArray[((its.length:Int)-1+(m:Int) * -1).toNat]?).toArray=its.reverse.toArray:=h
 rw[<- h]
 unfold slicePick
 congr 1
 have e:sliceBounds none none (some (-1)) its.toArray.size=((its.length:Int)-1,-1,-1):=rfl
 rw[e]
 show(sliceRange ((its.length:Int)-1) (-1) (-1)).filterMap (its.toArray[·]?)=_
 have e2:sliceRange ((its.length:Int)-1) (-1) (-1)=(bf its.length).map fun(k:Nat)=>((its.length:Int)-1+(k:Int) * -1).toNat:=by
  unfold sliceRange
  rw[if_neg (by decide)]
  by_cases h0:(its.length:Int)-1 > -1
  .rw[if_pos h0,show((its.length:Int)-1 - -1 - -1-1)=(its.length:Int) by omega,show -(-1:Int)=1 from rfl,Int.ediv_one]
   show List.map _ (bf ((its.length:Int).toNat))=_
   rw[ba]
   exact cB fun k _=>by rw[Int.mul_comm]
  .rw[if_neg h0]
   have:its.length=0:=by omega
   rw[this]
   rfl
 rw[e2,List.filterMap_map]
 rfl
def vW' (K:W.Frag) (te:TE):TE:=fun σ H Q=>te σ H fun x H1=>(∃a xs,x=.ref a/\SqT K H1 a xs/\∀p,H1 p=none->Q (.ref p) (upd H1 p (.tup xs.reverse)))\/(∃a,x=.str a/\a.length<=sizeLine/\Q (.str (vV' a)) H1)\/∃a xs,x=.ref a/\SqL K H1 a xs/\∀p,H1 p=none->Q (.ref p) (upd H1 p (.lst xs.reverse))
theorem si' (he:PE X e te) (hs:PO X (some st) (lA' (tUn (rU fun i=>.int (-i)) (tC (.int 1))))):PE X (.Subscript e (.Slice none none (some st) p2) pos) (vW' X.K te):=by
 intro pins s σ H Q I h
 refine Subscript_ (thn (he pins s σ H _ I h) fun v s1 ⟨x,H1,I1,r1,q0⟩=>?_)
 refine wpAny_Slice ?_
 rw[evalPart_none]
 refine ab ?_
 refine ab ?_
 refine thn (hs pins s1 σ H1 (fun l H'=>l=some (-1)/\H'=H1) I1 ⟨1,rfl,-1,rfl,rfl,rfl⟩) fun vs s3 ⟨l,H3,I3,pl,hl,hH⟩=>?_
 subst hl hH
 cases pl with
 |int i u=>
 have I4:Inv X pins σ H3 { s3 with heap:=s3.heap.push { cls:=.type "slice",data:=.fields #[.none,.none,.int (-1) u] } }:=I3.kept (t':=s3.toks) fun b ob q=>ac _ q
 rcases q0 with⟨a,xs,ex,hx,q1⟩|⟨a,ex,hz,q1⟩|⟨a,xs,ex,hx,q1⟩
 .subst ex
  obtain rfl:v=Value.ref a:=r1
  obtain⟨its,r,ht,hz⟩:=I4.tuple hx
  have hlen:its.toArray.size=xs.length:=by rw[aj];exact r.length.symm
  refine tail_any (ops:=[.ref a,.ref s3.heap.objs.size]) ht.typeIs PyProof.Rows.slot_tuple_getitem.lookup ?_ (by with_unfolding_all rfl)
  refine HT.c2' ht (Heap.IsSliceOf.new ..) (by rw[hlen];exact hz) ?_
  refine⟨.ref _,_,I4.laid (t':=s3.toks) (o:=.tup xs.reverse) (fun b ob q=>ac _ q) (ag _) ?_,rfl,q1 _ (I4.hok.fresh (ag _))⟩
  exact⟨by rw[bG];exact hz,_,r.reverse,lc'.new _ _⟩
 .subst ex
  obtain⟨t,rfl⟩:=r1
  refine tail_any (ops:=[.str a t,.ref s3.heap.objs.size]) (typeIs_str _ _ _) F.slot_str_getitem.lookup ?_ (by with_unfolding_all rfl)
  refine wpAny_getItem_str_slice (l:=none) (u:=none) (st:=some (-1,u)) ⟨_,ai _ rfl,rfl,rfl⟩ rfl ?_
  rw[jN']
  refine⟨?_,.str _,H3,I4.tok _,⟨_,rfl⟩,q1⟩
  show a.cps.toList.reverse.toArray.size<=sizeLine
  rw[aj,bG,aq]
  exact hz
 .subst ex
  obtain rfl:v=Value.ref a:=r1
  obtain⟨its,r,ht,hz⟩:=I4.list hx
  have hlen:=r.length
  refine tail_any (ops:=[.ref a,.ref s3.heap.objs.size]) ht.isList.typeIs slot_list_getitem.lookup ?_ (by with_unfolding_all rfl)
  refine wpAny_getItem_list_slice ht.isList (Heap.IsSliceOf.new ..) .none .none (.int (-1) u) (by intro z;injection z with z;omega) ?_ (by rw[aj]<;>omega)
  rw[e6' its]
  refine⟨.ref _,_,I4.laid (t':=s3.toks) (o:=.lst xs.reverse) (fun b ob q=>ac _ q) (ag _) ?_,rfl,q1 _ (I4.hok.fresh (ag _))⟩
  exact⟨by rw[bG];exact hz,its.reverse,0,r.reverse,ai _ rfl⟩
end
section
variable {prog:Program} {w:World} {A:Around} {E:Value->Shared->Prop} {s:Shared} {b0:Array Keyed} {κ:PyProof.Rows.KeyKind}
end
section
variable {X:Cx}
end
end L2
namespace L2
open PySem PySem.Spec PyProof.Rows PySem.SeqAt
theorem dV':∀{a b:List Int},a.map V.int=b.map V.int->a=b
 | [],[],_=>rfl
 | [],_ :: _,h=>by cases h
 |_ :: _,[],h=>by cases h
 |x :: a,y :: b,h=>by
  rw[aQ,aQ]at h
  injection h with h1 h2
  injection h1 with h1
  rw[h1,dV' h2]
section
variable {X:Cx} {pins:List (Addr×Obj)} {σ:L2.St} {H:Hp} {s:Shared}
end
section
variable {X:Cx}
end
section
variable {prog:Program} {w:World} {A:Around} {E:Value->Shared->Prop} {s:Shared}
end
section
variable {X:Cx}
end
end L2
namespace PySem
open Sem (wp)
namespace F
theorem fK':typeLookup (.type "list") "__getattr__"=pure none:=by rw[typeLookup_type,builtinLookup_eq_fast];kernel_rfl
theorem fL':typeLookup (.type "list") "keys"=pure none:=by rw[typeLookup_type,builtinLookup_eq_fast];kernel_rfl
theorem dW':isSubtype (.type "AttributeError") (.type "AttributeError")=pure true:=by rw[isSubtype_type];kernel_rfl
end F
section
variable {prog:Program} {w:World} {A:Around} {h:Heap} {g:Array GenState} {d:Drawn} {t:Nat} {os:OsState} {a:Addr}
theorem if' {α:Type} {E:Value->Shared->Prop} {Q:α->Shared->Prop} {o:Value} {name msg:Str} (hh:A.handled=none) (hm:msg.length<=sizeLine)
  (hE:∀h' tk e,(∀b ob,h.get? b=some ob->h'.get? b=some ob)->(∃oe,h'.get? e=some oe/\oe.cls=.type "AttributeError")->h.objs.size<=h'.objs.size->t<=tk->E (.ref e) ⟨h',g,d,tk,os⟩):
  wpAny (model prog w) A (raiseAttrError o name msg) Q E ⟨h,g,d,t,os⟩:=by
 unfold raiseAttrError newExc
 have f1:=F.dW'
 repeat (any_goals (first|assumption|wp_step))
 simp only[raiseNew]
 refine aa (wpAny_handled ?_)
 rw[hh]
 refine aa (ab (wpAny_throw ?_))
 refine hE _ _ _ (fun b ob eb=>?_) ?_ ?_ (by omega)
 .have hb:=ap eb
  refine(Heap.SameBut.update ..).extBut b ob (fun z=>?_) (ac _ (ac _ eb))
  rw[aS]at z
  exact ay (cv hb) z
 .exact⟨_,aR _ (ai _ rfl) (Obj.isFreed_of_fields (Obj.data_mapFields rfl _)),(Obj.cls_mapFields ..).trans rfl⟩
 .rw[(Heap.SameBut.update ..).1,aS,aS]
  omega
theorem dX' {tk:Tok} {E:Value->Shared->Prop} {items:Array Value} {ne:Nat} {sl:Array (Option Value)} {Q:Fin->Shared->Prop} (hx:h.get? a=some { cls:=.type "list",data:=.seq items ne,dict:=none,slots:=sl }) (hh:A.handled=none)
  (hE:∀h' tk e,(∀b ob,h.get? b=some ob->h'.get? b=some ob)->(∃oe,h'.get? e=some oe/\oe.cls=.type "AttributeError")->h.objs.size<=h'.objs.size->t<=tk->E (.ref e) ⟨h',g,d,tk,os⟩):
  wpAny (model prog w) A (Builtin.«object.__getattribute__» ⟨[.ref a,.str "keys" tk],[]⟩) Q E ⟨h,g,d,t,os⟩:=by
 have hT:(⟨h,g,d,t,os⟩:Shared).TypeIs (.ref a) "list":=⟨_,hx,rfl⟩
 have f4:=F.fL'
 repeat (any_goals (first|assumption|wp_step))
 exact if' hh (by decide +kernel) hE
theorem er' {tk:Tok} {items:Array Value} {ne:Nat} {sl:Array (Option Value)} {R:Result->Shared->Prop} (hx:h.get? a=some { cls:=.type "list",data:=.seq items ne,dict:=none,slots:=sl }) (hh:A.handled=none)
  (hE:∀h' tk e,(∀b ob,h.get? b=some ob->h'.get? b=some ob)->(∃oe,h'.get? e=some oe/\oe.cls=.type "AttributeError")->h.objs.size<=h'.objs.size->t<=tk->R (.error (.ref e)) ⟨h',g,d,tk,os⟩):
  codeAny (model prog w) A (.call (.builtin "list.__getattribute__") ⟨[.ref a,.str "keys" tk],[]⟩) R ⟨h,g,d,t,os⟩:=
 codeAny_call_builtin F.slot_list_getattribute.plain F.entry_list_ga (F.slot_list_getattribute.check _ _ _ _ _ _ _ _ (show(⟨h,g,d,t,os⟩:Shared).TypeIs (.ref a) "list" from⟨_,hx,rfl⟩) (F.args_list_getattribute_2 _ _) (dX' hx hh hE))
theorem fM' {tk:Tok} {E:Value->Shared->Prop} {items:Array Value} {ne:Nat} {sl:Array (Option Value)} {Q:Value->Shared->Prop} (hx:h.get? a=some { cls:=.type "list",data:=.seq items ne,dict:=none,slots:=sl }) (hh:A.handled=none)
  (hE:∀h' tk e,(∀b ob,h.get? b=some ob->h'.get? b=some ob)->(∃oe,h'.get? e=some oe/\oe.cls=.type "AttributeError")->h.objs.size<=h'.objs.size->t<=tk->E (.ref e) ⟨h',g,d,tk,os⟩):
  wpAny (model prog w) A (getAttrBy (.ref a) (.str "keys" tk) false) Q E ⟨h,g,d,t,os⟩:=by
 have hT:(⟨h,g,d,t,os⟩:Shared).TypeIs (.ref a) "list":=⟨_,hx,rfl⟩
 have f2:=F.slot_list_getattribute.lookup
 have f3:=F.slot_list_getattribute.bind (.ref a)
 repeat (any_goals (first|assumption|wp_step))
 refine er' hx hh fun h' tk' e k1 ⟨oe,he,hce⟩ k2 k3=>?_
 dsimp only
 unfold getattributeRaised
 have f5:=F.dW'
 have f6:=F.fK'
 have hTe:(⟨h',g,d,tk',os⟩:Shared).TypeIs (.ref e) "AttributeError":=⟨_,he,hce⟩
 refine aa (bM (T:="AttributeError") (b:=true) hTe f5 ?_)
 rw[if_pos rfl]
 repeat (any_goals (first|assumption|wp_step))
 exact hE h' tk' e k1 ⟨oe,he,hce⟩ k2 k3
theorem et' {E:Value->Shared->Prop} {items:Array Value} {ne:Nat} {sl:Array (Option Value)} {Q:Option Value->Shared->Prop} (hx:h.get? a=some { cls:=.type "list",data:=.seq items ne,dict:=none,slots:=sl }) (hh:A.handled=none)
  (hQ:∀h' tk,(∀b ob,h.get? b=some ob->h'.get? b=some ob)->h.objs.size<=h'.objs.size->t<=tk->Q none ⟨h',g,d,tk,os⟩):
  wpAny (model prog w) A (getAttr? (.ref a) "keys") Q E ⟨h,g,d,t,os⟩:=by
 unfold getAttr? getAttrBy?
 refine aa (wpAny_mkText (s:=⟨h,g,d,t,os⟩) ?_)
 refine aa (bH (fM' hx hh fun h' tk' e k1 ⟨oe,he,hce⟩ k2 k3=>?_))
 have hTe:(⟨h',g,d,tk',os⟩:Shared).TypeIs (.ref e) "AttributeError":=⟨_,he,hce⟩
 dsimp only
 refine aa (bM (T:="AttributeError") (b:=true) hTe F.dW' ?_)
 rw[if_pos rfl]
 have k4:t+1<=tk':=k3
 exact ab (hQ h' tk' k1 k2 (by omega))
end
end PySem
namespace PySem
namespace F
theorem co':plainId "dict.__new__"=true:=by decide +kernel
theorem eu':entryFor table "dict.__new__"=some Builtin.«dict.__new__»:=entryFor_of_tree (by kernel_rfl)
theorem g6':mroOf (.type "dict")=pure [.type "dict",.type "object"]:=by first|rfl|kernel_rfl
theorem jO':Bind.madeBy (.type "dict")=pure (some "dict.__new__"):=by first|rfl|kernel_rfl
theorem cH':isSubtype (.type "dict") (.type "dict")=pure true:=by rw[isSubtype_type];kernel_rfl
theorem aF':TypeCalled "dict" "dict.__new__" "dict.__init__":=
 ⟨by decide +kernel,by decide +kernel,⟨_,_,g6'⟩,jO',by decide +kernel,cH',slot_dict_init⟩
theorem dY' (a:Value):checkTypeCall "dict" ⟨[a],[]⟩=pure ():=by kernel_rfl
theorem ev' (a:Value):checkBuiltinCall "dict.__new__" ⟨[.type "dict",a],[]⟩=pure ():=by kernel_rfl
theorem a9':entryFor table "dict.update.loop"=some Builtin.«dict.update.loop»:=entryFor_of_tree (by kernel_rfl)
theorem aL':plainId "dict.update.loop"=true:=by decide +kernel
end F
end PySem
namespace L2
open PySem PySem.Spec PyProof.Rows
section
variable {prog:Program} {w:World} {A:Around} {R:Result->Shared->Prop} {I:Addr} {fp wr:List Addr} {G:Array GenState->Array GenState->Prop} {n:Nat} {St:Nat->Shared->Prop}
abbrev kT (prog:Program) (w:World):=tupleKind (al' prog w)
def ig' (key:Nat->List Key) (ka:Nat->Addr) (xv:Nat->Value):Nat->List (List Key×Addr×Value)
 |0=>[]
 |i+1=>storedH (ig' key ka xv i) (key i) (ka i) (xv i)
def OkP (prog:Program) (w:World) (n:Nat) (ps:Nat->Addr) (key:Nat->List Key) (ka:Nat->Addr) (xv:Nat->Value) (h:Heap):Prop:=
 ∀i,i<n->IsTup h (ps i) #[.ref (ka i),xv i]/\(kT prog w).is h (key i) (ka i)
theorem OkP.at {ps:Nat->Addr} {key:Nat->List Key} {ka:Nat->Addr} {xv:Nat->Value} {h h':Heap} (x:OkP prog w n ps key ka xv h) (k:∀i,i<n->∀b,b=ps i\/b=ka i->∀o,h.get? b=some o->h'.get? b=some o):OkP prog w n ps key ka xv h':=fun i hi=>by
 obtain⟨⟨o,e,c,m,z⟩,⟨o2,its,m2,e2,r⟩⟩:=x i hi
 exact⟨⟨o,k i hi _ (.inl rfl) o e,c,m,z⟩,⟨o2,its,m2,k i hi _ (.inr rfl) o2 e2,r⟩⟩
theorem gw' {key:Nat->List Key} {ka:Nat->Addr} {xv:Nat->Value}:∀{i:Nat} {x:List Key×Addr×Value},x∈ig' key ka xv i->∃j,j<i/\x.1=key j/\x.2.1=ka j
 |0,x,h=>by cases h
 |i+1,x,h=>by
  have h:x∈storedH (ig' key ka xv i) (key i) (ka i) (xv i):=h
  cases hf:atKey (ig' key ka xv i) (key i)with
  |none=>
   rw[storedH_new hf]at h
   rcases aw.mp h with h|h
   .obtain⟨j,h1,h2⟩:=gw' h
    exact⟨j,by omega,h2⟩
   .cases aU.mp h
    exact⟨i,by omega,rfl,rfl⟩
  |some p=>
   rw[storedH_old hf]at h
   obtain⟨y,hy,rfl⟩:=aZ.mp h
   obtain⟨j,h1,h2,h3⟩:=gw' hy
   refine⟨j,by omega,?_⟩
   unfold putAt
   split
   .exact⟨h2,h3⟩
   .exact⟨h2,h3⟩
theorem gx' {key:Nat->List Key} {ka:Nat->Addr} {xv:Nat->Value}:∀{i:Nat},(ig' key ka xv i).length<=i
 |0=>ag _
 |i+1=>by
  show(storedH (ig' key ka xv i) (key i) (ka i) (xv i)).length<=_
  have:=gx' (key:=key) (ka:=ka) (xv:=xv) (i:=i)
  cases hf:atKey (ig' key ka xv i) (key i)with
  |none=>rw[storedH_new hf,aD];exact Nat.succ_le_succ this
  |some p=>rw[storedH_old hf,ah];omega
def ve' (prog:Program) (w:World) (h:Heap) (d:Addr) (xs:List (List Key×Addr×Value)):Prop:=∃o es ep,h.get? d=some o/\o.ExactDict/\o.data=.dict es ep/\es.toList=xs.map (entryOfKey (kT prog w))/\(xs.map (·.1)).Nodup
theorem jP' {ps:Nat->Addr} {key:Nat->List Key} {ka:Nat->Addr} {xv:Nat->Value} (W:WalksS prog w A.in1 I fp wr G n (fun i v=>v=.ref (ps i)) St) (d:Addr) (hdf:d∉fp) (hu:A.in1.units<cLine)
  (hps:∀i,i<n->ps i∉d :: wr) (hka:∀i,i<n->ka i∉d :: wr) (hn:n<=sizeLine):
  ∀(k i:Nat) (s:Shared),n-i=k->i<=n->St i s->OkP prog w n ps key ka xv s.heap->ve' prog w s.heap d (ig' key ka xv i)->
   (∀s',Moved (d :: wr) G s s'->ve' prog w s'.heap d (ig' key ka xv n)->R (.ok (.ret .none)) s')->
   codeAny (model prog w) A (.builtin "dict.update.loop" ⟨[.ref d,.ref I,rawInt (i:Int),.none],[]⟩) R s:=by
 have hdw:d∉wr:=fun h=>hdf (W.sub _ h)
 have hsub:∀b∈wr,b∈d :: wr:=fun b hb=>ao _ hb
 intro k
 induction k with
 |zero=>
  intro i s hk hi hst hok hD hR
  have hin:i=n:=by omega
  subst hin
  refine codeAny_builtin F.a9' ?_
  rw[Around.under_plainId F.aL' _]
  show wpAny _ A.in1 (pyNext (.ref I) >>= _) _ _ s
  refine aa (W.done s _ _ hst fun s' hm=>?_)
  dsimp only
  unfold Builtin.Dict.addKeywords
  refine aa (ab ?_)
  refine ab (hR s' (hm.mono hsub) ?_)
  obtain⟨o,es,ep,h1,h2⟩:=hD
  exact⟨o,es,ep,hm.heap _ _ hdw h1,h2⟩
 |succ k ih=>
  intro i s hk hi hst hok hD hR
  have hlt:i<n:=by omega
  refine codeAny_builtin F.a9' ?_
  rw[Around.under_plainId F.aL' _]
  show wpAny _ A.in1 (pyNext (.ref I) >>= _) _ _ s
  refine aa (W.item i s _ _ hlt hst fun v s' hP hst' hm=>?_)
  subst hP
  dsimp only
  obtain⟨hti,hki⟩:=hok i hlt
  have hok':OkP prog w n ps key ka xv s'.heap:=hok.at fun j hj b hb o e=>hm.heap b o (fun z=>by
   rcases hb with rfl|rfl
   .exact hps j hj (hsub _ z)
   .exact hka j hj (hsub _ z)) e
  obtain⟨hti,hki⟩:=hok' i hlt
  obtain⟨ot,hot,hct,nt,hdt⟩:=hti
  have hTt:s'.TypeIs (.ref (ps i)) "tuple":=⟨ot,hot,hct⟩
  refine aa (aE ?_)
  refine aa (wpAny_tryCatch ?_)
  unfold Builtin.Dict.pairItems
  refine aa (cV hTt ?_)
  rw[if_pos (by decide)]
  refine aa (bx hot hdt ?_)
  refine ab ?_
  show wpAny _ _ (holding [.ref (ka i),xv i] (dictSet d (.ref (ka i)) (xv i))) _ _ s'
  have hD':s'.heap.DictOfH (kT prog w) d (ig' key ka xv i):=by
   obtain⟨o,es,ep,h1,h2,h3,h4,h5⟩:=hD
   refine⟨o,es,ep,hm.heap _ _ hdw h1,h2,h3,h4,fun x hx=>?_,h5⟩
   obtain⟨j,hj,e1,e2⟩:=gw' hx
   rw[e1,e2]
   exact(hok' j (by omega)).2
  refine aE (wpAny_dictSet_heap (hsz:=aG gx' (by omega)) hu hki hD' fun h' dd hs=>?_)
  have k':∀b o,b∉d :: wr->s'.heap.get? b=some o->h'.get? b=some o:=fun b o hb e=>(hs.2 b (fun z=>hb (by rw[z];exact au))).trans e
  refine ab ⟨plainId_quiet F.aL' _,?_⟩
  rw[show rawInt ((i:Int)+1)=rawInt (((i+1:Nat)):Int) by rw[Int.natCast_add];rfl]
  refine ih (i+1) _ (by omega) hlt (W.frame _ s' _ _ hst' (aX _ _) fun b hb o e=>?_) (hok'.at fun j hj b hb o e=>k' b o (fun z=>?_) e) ?_ fun s'' hm'' hD''=>?_
  .exact(hs.2 b (fun h:b=d=>hdf (by rw[<- h];exact hb))).trans e
  .rcases hb with rfl|rfl
   .exact hps j hj z
   .exact hka j hj z
  .obtain⟨o,es,ep,h1,h2,h3,h4,_,h5⟩:=dd
   exact⟨o,es,ep,h1,h2,h3,h4,h5⟩
  .exact hR s'' (Moved.trans W.gtrans ((hm.mono hsub).then_heap (aX _ _) k') hm'') hD''
end
section
variable {prog:Program} {w:World} {A:Around} {E:Value->Shared->Prop} {s:Shared}
theorem dZ' (a:Value) {Q₁:Value->Shared->Prop} (h:Q₁ (.ref s.heap.objs.size) { s with heap:=s.heap.push { cls:=.type "dict",data:=.dict #[] } }):
  codeAny (model prog w) A (.call (.builtin "dict.__new__") ⟨[.type "dict",a],[]⟩) (wants Q₁ E) s:=by
 refine codeAny_of_tree ?_
 show wpAny _ A.in1 (do checkBuiltinCall "dict.__new__" ⟨[.type "dict",a],[]⟩;again (.builtin "dict.__new__" ⟨[.type "dict",a],[]⟩)) _ _ s
 refine aa (bA (F.ev' a) (ab ⟨plainId_quiet F.co' _,codeAny_builtin F.eu' ?_⟩))
 rw[Around.under_plainId F.co' _]
 unfold Builtin.«dict.__new__»
 have hsub:=F.cH'
 have hmro:=F.g6'
 obtain⟨hp,g,d,tk,os⟩:=s
 dsimp only
 wp_walk
 exact h
theorem ii' {I:Addr} {fp wr:List Addr} {G:Array GenState->Array GenState->Prop} {n:Nat} {P P':Nat->Value->Prop} {St:Nat->Shared->Prop} (W:WalksS prog w A I fp wr G n P St) (h:∀i v,i<n->P i v->P' i v):WalksS prog w A I fp wr G n P' St where
 sub:=W.sub
 grefl:=W.grefl
 gtrans:=W.gtrans
 frame:=W.frame
 item:=fun i s Q E hi st hQ=>W.item i s Q E hi st fun v s' hP=>hQ v s' (h i v hi hP)
 done:=W.done
 self:=W.self
set_option maxRecDepth 100000 in
set_option maxHeartbeats 3200000 in
theorem ew' {l:Addr} {items:Array Value} {ps:Nat->Addr} {key:Nat->List Key} {ka:Nat->Addr} {xv:Nat->Value} {Q:Value->Shared->Prop}
  (hh:A.handled=none) (hu:A.units+64<cLine) (hl:PlainL s.heap l items) (hit:∀i,i<items.size->items[i]?=some (.ref (ps i))) (hok:OkP prog w items.size ps key ka xv s.heap) (hsz:items.size<=sizeLine)
  (h:∀(h':Heap) (tk:Nat),ve' prog w h' s.heap.objs.size (ig' key ka xv items.size)->(∀b o,s.heap.get? b=some o->h'.get? b=some o)->s.toks<=tk->Q (.ref s.heap.objs.size) { s with heap:=h',toks:=tk }):
  wpAny (model prog w) A (call (.type "dict") [.ref l]) Q E s:=by
 obtain⟨c,tl,hmro⟩:=F.aF'.mro
 have hmade:=F.aF'.made
 have hsub:=F.aF'.sub
 refine wpAny_call (codeAny_of_tree ?_)
 show wpAny _ _ (callAny (.type "dict") _) _ _ _
 refine ab ⟨Code.quiet_builtin _ (by decide +kernel),codeAny_builtin F.entry_type_call ?_⟩
 rw[Around.under_plain (weight_type_call_type "dict" [.ref l] []) rfl]
 have h1:=F.aF'.notType
 have h2:=F.aF'.canCreate
 have hct:=F.dY' (.ref l)
 repeat (any_goals (first|assumption|wp_step))
 refine codeAny_mono (dZ' (.ref l) (E:=E) (Q₁:=fun obj s₁=>obj=.ref s.heap.objs.size/\s₁={ s with heap:=s.heap.push { cls:=.type "dict",data:=.dict #[] } }) ⟨rfl,rfl⟩) fun r s₁ hr=>?_
 cases r with
 |error e=>exact hr
 |ok fl=>
  cases fl with
  |ret obj=>
   obtain⟨rfl,rfl⟩:=hr
   have hS:(s.heap.push { cls:=.type "dict",data:=.dict #[] }).get? s.heap.objs.size=some { cls:=.type "dict",data:=.dict #[] }:=ai _ rfl
   have hT:Shared.TypeIs { s with heap:=s.heap.push { cls:=.type "dict",data:=.dict #[] } } (.ref s.heap.objs.size) "dict":=⟨_,hS,rfl⟩
   have hli:=F.aF'.init.lookup
   have hbi:=F.aF'.init.bind (.ref s.heap.objs.size)
   repeat (any_goals (first|assumption|wp_step))
   refine codeAny_mono (codeAny_call_builtin (R:=wants (fun r s₂=>r=.none/\∃h' tk,s₂={ s with heap:=h',toks:=tk }/\ve' prog w h' s.heap.objs.size (ig' key ka xv items.size)/\(∀b o,s.heap.get? b=some o->h'.get? b=some o)/\s.toks<=tk) E) F.aF'.init.plain F.entry_dict_init (F.aF'.init.check _ _ _ _ _ _ _ _ hT (F.args_dict_init_2 _ _) ?_)) fun r₂ s₂ hr₂=>?_
   .obtain⟨⟨ocls,odict,odata,oslots⟩,nl,hol,hcl,hdl,hdd⟩:=hl
    simp only at hcl hdl hdd
    subst hcl;subst hdl;subst hdd
    have hol':(s.heap.push { cls:=.type "dict",data:=.dict #[] }).get? l=some { cls:=.type "list",dict:=none,data:=.seq items nl,slots:=oslots }:=ac _ hol
    have hTl:Shared.TypeIs { s with heap:=s.heap.push { cls:=.type "dict",data:=.dict #[] } } (.ref l) "list":=⟨_,hol',rfl⟩
    unfold Builtin.«dict.__init__» Builtin.Dict.selfAndRest Builtin.Dict.notOrdered Builtin.Dict.updateCommon Builtin.Dict.updateFrom
    generalize hGA:getAttr?=GA
    generalize hPI:pyIter=PI
    repeat (any_goals (first|assumption|wp_step))
    subst hGA
    have hh2:A.in1.in1.handled=none:=by simp[hh]
    refine et' hol' hh2 fun h2 tk2 k2 z2 t2=>?_
    have hlS:l<s.heap.objs.size:=ap hol
    rw[aS]at z2
    simp only[Option.isNone_none,if_true]
    refine aa (bu ?_)
    subst hPI
    have hl2:h2.IsList l items:=⟨_,k2 _ _ hol',rfl,nl,rfl⟩
    refine aa (cP (s:=⟨h2,s.gens,s.drawn,tk2,s.os⟩) hl2 ?_)
    refine ab ⟨Code.quiet_builtin _ (by decide +kernel),?_⟩
    have hneI:l≠h2.objs.size:=ay (ak hlS (by omega))
    have hDI:s.heap.objs.size≠h2.objs.size:=by omega
    have hDf:s.heap.objs.size∉[h2.objs.size,l]:=by
     simp only[am,aU,aB,or_false,not_or]
     exact⟨hDI,bm hlS⟩
    have hok2:OkP prog w items.size ps key ka xv (h2.push { cls:=.type "list_iterator",data:=.fields #[.ref l,.int 0 0] }):=hok.at fun i hi b hb o e=>ac _ (k2 _ _ (ac _ e))
    have old:∀{b:Addr} {o:Obj},s.heap.get? b=some o->b∉[s.heap.objs.size,h2.objs.size]:=fun {b o} e=>by
     have:=ap e
     simp only[am,aU,aB,or_false,not_or]
     exact⟨ay this,ay (ak this (by omega))⟩
    have hh3:A.in1.in1.handled=none:=hh2
    refine jP' (G:=fun a b=>b=a) (fp:=[h2.objs.size,l]) (wr:=[h2.objs.size]) (n:=items.size) (ps:=ps) (key:=key) (ka:=ka) (xv:=xv) (St:=fun i s=>(Heap.IsListIter s.heap h2.objs.size l i)/\s.heap.IsList l items) ?W s.heap.objs.size hDf ?hu (fun i hi=>old (hok i hi).1.choose_spec.1) (fun i hi=>old (hok i hi).2.choose_spec.choose_spec.choose_spec.1) hsz (items.size-0) 0 _ (by omega) (aT _) ?hSt hok2 ?hD0 ?hR
    case W=>exact ii' ((Walks.list hh3 _ l hneI items).toS) fun i v hi hv=>(Option.some.inj ((hit i hi).symm.trans hv)).symm
    case hu=>simp[units_in1];omega
    case hSt=>exact⟨⟨_,ai _ rfl,rfl,rfl⟩,hl2.push _⟩
    case hD0=>exact⟨_,#[],0,ac _ (k2 _ _ hS),⟨rfl,rfl,rfl⟩,rfl,rfl,List.nodup_nil⟩
    case hR=>
     intro s' hm hD'
     obtain⟨h',g',d',tk',os'⟩:=s'
     have eg:g'=s.gens:=hm.gens
     have ed:d'=s.drawn:=hm.drawn
     have eo:os'=s.os:=hm.os
     subst eg;subst ed;subst eo
     have htk:tk2<=tk':=hm.toks
     have ht2:s.toks<=tk2:=t2
     exact⟨rfl,h',tk',rfl,hD',fun b o e=>hm.heap b o (old e) (ac _ (k2 _ _ (ac _ e))),by omega⟩
   .cases r₂ with
    |error e=>exact hr₂
    |ok fl₂=>
     cases fl₂ with
     |ret r=>
      obtain⟨rfl,h',tk,rfl,hS',hk',htk⟩:=hr₂
      repeat (any_goals (first|assumption|wp_step))
      exact h _ _ hS' hk' htk
     |_=>exact hr₂.elim
  |_=>exact hr.elim
end
section
variable {X:Cx}
abbrev PL:=List (Addr×List Key×Addr×V)
def l7' (L:PL):List (List Key×V):=L.foldl (fun kvs x=>dn' kvs x.2.1 x.2.2.2) []
theorem jQ' {L:PL} {x:Addr×List Key×Addr×V}:l7' (L++[x])=dn' (l7' L) x.2.1 x.2.2.2:=by unfold l7';rw[List.foldl_append];rfl
def vX' (K:W.Frag):List V->Hp->VK->Prop:=fun xs H Q=>∃(p:Addr) (L:PL),xs=[.ref p]/\SqL K H p (L.map fun x=>V.ref x.1)/\(∀x∈L,H x.1=some (.tup [.ref x.2.2.1,x.2.2.2])/\H x.2.2.1=some (.tup (x.2.1.map kV)))/\∀d,H d=none->Q (.ref d) (upd H d (.dT (l7' L)))
def sj':List V->Hp->VK->Prop:=fun xs H Q=>∃(p:Addr) (L:PL),xs=[.ref p]/\H p=some (.lst (L.map fun x=>V.ref x.1))/\(∀x∈L,H x.1=some (.tup [.ref x.2.2.1,x.2.2.2])/\H x.2.2.1=some (.tup (x.2.1.map kV)))/\∀d,H d=none->Q (.ref d) (upd H d (.dT (l7' L)))
theorem l8' (hc:X.calm=true) (hu:X.A.units+64<cLine):aT' X (.type "dict") (vX' X.K):=by
 intro pins s σ H xs us Q I rv h
 obtain⟨p,L,rfl,hs,hL,q⟩:=h
 cases rv with
 |cons r1 rv=>
  cases rv
  cases r1
  obtain⟨its,r,pl,hz⟩:=I.list hs
  have hlen:=r.length
  rw[ah]at hlen hz
  have hn:H s.heap.objs.size=none:=I.hok.fresh (ag _)
  have hv:∀i,i<L.length->∃u:Value,av' ((L[i]?.getD (0,[],0,.non)).2.2.2) u/\IsTup s.heap (L[i]?.getD (0,[],0,.non)).1 #[.ref (L[i]?.getD (0,[],0,.non)).2.2.1,u]:=fun i hi=>by
   have hx:L[i]?.getD (0,[],0,.non)=L[i]:=by rw[ae hi];rfl
   rw[hx]
   obtain⟨_,its2,r2,t2⟩:=(show as' X.prog X.w H s.heap _ (.tup [.ref L[i].2.2.1,L[i].2.2.2]) from I.hok _ _ (hL _ (cg hi)).1)
   cases r2 with
   |cons a1 r2=>
    cases r2 with
    |cons a2 r2=>
     cases r2
     cases a1
     exact⟨_,a2,t2.tup⟩
  let xv:Nat->Value:=fun i=>if h:i<L.length then(hv i h).choose else .none
  have hxv:∀i (h:i<L.length),xv i=(hv i h).choose:=fun i h=>by show(if h:i<L.length then _ else _)=_;rw[dif_pos h]
  have hsz:its.toArray.size=L.length:=by rw[aj,<- hlen]
  refine ew' (ps:=fun i=>(L[i]?.getD (0,[],0,.non)).1) (key:=fun i=>(L[i]?.getD (0,[],0,.non)).2.1) (ka:=fun i=>(L[i]?.getD (0,[],0,.non)).2.2.1) (xv:=xv) (I.ok.hd hc) hu pl (fun i hi=>?_) (fun i hi=>?_) (by rw[hsz];exact hz) fun h' tk hD hk htk=>?_
  .rw[hsz]at hi
   have hx:L[i]?.getD (0,[],0,.non)=L[i]:=by rw[ae hi];rfl
   obtain⟨u,hu1,ru⟩:=r.get (i:=i) (x:=.ref L[i].1) (by rw[aC,ae hi];rfl)
   cases ru
   rw[hx]
   simpa using hu1
  .rw[hsz]at hi
   have hx:L[i]?.getD (0,[],0,.non)=L[i]:=by rw[ae hi];rfl
   refine⟨by rw[hxv i hi];exact(hv i hi).choose_spec.2,?_⟩
   show(kT X.prog X.w).is s.heap (L[i]?.getD (0,[],0,.non)).2.1 (L[i]?.getD (0,[],0,.non)).2.2.1
   rw[hx]
   exact b6' I.hok (hL _ (cg hi)).2
  .rw[hsz]at hD
   have hpair:∀i,i<=L.length->KT H (l7' (L.take i)) (ig' (fun i=>(L[i]?.getD (0,[],0,.non)).2.1) (fun i=>(L[i]?.getD (0,[],0,.non)).2.2.1) xv i):=by
    intro i
    induction i with
    |zero=>intro _;exact .nil
    |succ i ih=>
     intro hi
     have hx:L[i]?.getD (0,[],0,.non)=L[i]:=by rw[ae (by omega)];rfl
     rw[List.take_succ,ae (show i<L.length by omega),Option.toList_some,jQ']
     show KT H _ (storedH _ (L[i]?.getD (0,[],0,.non)).2.1 (L[i]?.getD (0,[],0,.non)).2.2.1 _)
     have rr:=(hv i (by omega)).choose_spec.1
     rw[<- hxv i (by omega),hx]at rr
     rw[hx]
     exact KT.put (ih (by omega)) _ (hL _ (cg (by omega))).2 rr
   have hp:=hpair L.length (ag _)
   rw[bN]at hp
   have hlp:(l7' L).length<=L.length:=by
    have:=Paired.length hp
    rw[this]
    exact gx'
   obtain⟨o,es,ep,d1,d2,d3,d4,d5⟩:=hD
   refine⟨.ref s.heap.objs.size,_,I.laid (a:=s.heap.objs.size) (o:=.dT (l7' L)) (h':=h') (t':=tk) hk (ag _) ?_,rfl,q _ hn⟩
   have sy:(s.heap.objs.size == sysModules)=false:=by
    have:=I.big
    rw[beq_eq_false_iff_ne]
    exact bm this
   refine⟨aG hlp hz,sy,_,?_,o,es,ep,d1,d2,d3,d4,d5⟩
   exact KT.keeps hp fun b ys e=>by rw[ad' (af' e hn)];exact e
theorem jR' (hc:X.calm=true) (hu:X.A.units+64<cLine):aT' X (.type "dict") sj':=fun pins s σ H xs us Q I rv ⟨p,L,e,hp,h⟩=>l8' hc hu pins s σ H xs us Q I rv ⟨p,L,e,.inl (.inl hp),h⟩
end
abbrev QK:=Option (List Key×Addr)
def kvV:QK->Value
 |none=>.none
 |some q=>.ref q.2
section
variable {prog:Program} {w:World} {A:Around} {R:Result->Shared->Prop} {I:Addr} {fp wr:List Addr} {G:Array GenState->Array GenState->Prop} {n:Nat} {St:Nat->Shared->Prop}
def OkN (prog:Program) (w:World) (n:Nat) (ps:Nat->Addr) (qk:Nat->QK) (h:Heap):Prop:=
 ∀i,i<n->IsTup h (ps i) #[kvV (qk i),.bool true]/\∀q,qk i=some q->(kT prog w).is h q.1 q.2/\(kT prog w).hash q.1≠NH
theorem OkN.at {ps:Nat->Addr} {qk:Nat->QK} {h h':Heap} (x:OkN prog w n ps qk h) (k:∀i,i<n->∀b,(b=ps i\/∃q,qk i=some q/\b=q.2)->∀o,h.get? b=some o->h'.get? b=some o):OkN prog w n ps qk h':=fun i hi=>by
 obtain⟨⟨o,e,c,m,z⟩,r⟩:=x i hi
 refine⟨⟨o,k i hi _ (.inl rfl) o e,c,m,z⟩,fun q hq=>?_⟩
 obtain⟨⟨o2,its,m2,e2,r2⟩,hne⟩:=r q hq
 exact⟨⟨o2,its,m2,k i hi _ (.inr ⟨q,hq,rfl⟩) o2 e2,r2⟩,hne⟩
end
section
variable {prog:Program} {w:World} {A:Around} {E:Value->Shared->Prop} {s:Shared}
set_option maxRecDepth 100000 in
set_option maxHeartbeats 3200000 in
end
def nkV:NK->V
 |none=>.non
 |some q=>.ref q.2
section
variable {X:Cx}
end
end L2
namespace PySem
def Rsn (xs:Array Nat):Prop:=xs.toList.Pairwise (· < ·)
theorem jS' {xs:Array Nat} (hr:Rsn xs) {i j:Nat} (hij:i<j) (hj:j<xs.size):xs[i]'(by omega)<xs[j]:=by
 have:=ck.mp hr i j (by rw[aq];omega) (by rw[aq];omega) hij
 simpa using this
theorem e7' {xs:Array Nat} (hr:Rsn xs) (j:Nat):∀(f lo hi:Nat),lo<=hi->hi<=xs.size->hi-lo<=f->(∀i (h:i<xs.size),i<lo->xs[i]<j)->(∀i (h:i<xs.size),hi<=i->j<=xs[i])->
  SetTable.below.go xs j f lo hi<=xs.size/\(∀i (h:i<xs.size),i<SetTable.below.go xs j f lo hi->xs[i]<j)/\(∀i (h:i<xs.size),SetTable.below.go xs j f lo hi<=i->j<=xs[i])
 |0,lo,hi,h1,h2,h3,a,b=>by
  have e:lo=hi:=by omega
  subst e
  exact⟨h2,a,b⟩
 |f+1,lo,hi,h1,h2,h3,a,b=>by
  unfold SetTable.below.go
  by_cases hl:lo<hi
  .rw[if_pos hl]
   dsimp only
   have hm:(lo+hi) / 2<xs.size:=by omega
   have eg:xs.getD ((lo+hi) / 2) j=xs[(lo+hi) / 2]:=by simp[Array.getD,hm]
   rw[eg]
   by_cases hx:xs[(lo+hi) / 2]<j
   .rw[if_pos hx]
    refine e7' hr j f _ _ (by omega) h2 (by omega) (fun i h hi'=>?_) b
    by_cases e:i=(lo+hi) / 2
    .subst e;exact hx
    .exact Nat.lt_trans (jS' hr (by omega) hm) hx
   .rw[if_neg hx]
    refine e7' hr j f _ _ (by omega) (by omega) (by omega) a fun i h hi'=>?_
    by_cases e:i=(lo+hi) / 2
    .subst e;omega
    .have:=jS' hr (i:=(lo+hi) / 2) (j:=i) (by omega) h
     omega
  .rw[if_neg hl]
   have e:lo=hi:=by omega
   subst e
   exact⟨h2,a,b⟩
theorem e8' {xs:Array Nat} (hr:Rsn xs) (j:Nat):SetTable.below xs j<=xs.size/\(∀i (h:i<xs.size),i<SetTable.below xs j->xs[i]<j)/\(∀i (h:i<xs.size),SetTable.below xs j<=i->j<=xs[i]):=
 e7' hr j _ _ _ (aT _) (ag _) (ag _) (fun _ _ z=>absurd z (Nat.not_lt_zero _)) fun i h z=>absurd h (by omega)
theorem l9' {xs:Array Nat} (hr:Rsn xs) {j:Nat} (h:xs[SetTable.below xs j]?≠some j):j∉xs.toList:=by
 intro hm
 obtain⟨i,hi,e⟩:=cS.mp hm
 rw[aq]at hi
 rw[Array.getElem_toList]at e
 obtain⟨h1,h2,h3⟩:=e8' hr j
 have hle:SetTable.below xs j<=i:=Nat.le_of_not_lt fun z=>by have:=h2 i hi z;omega
 by_cases hq:SetTable.below xs j=i
 .rw[hq]at h
  exact h (by rw[aA hi,e])
 .have:=jS' hr (i:=SetTable.below xs j) (j:=i) (by omega) hi
  have:=h3 _ (by omega) (ag (SetTable.below xs j))
  omega
theorem ij' {xs:Array Nat} (hr:Rsn xs) {j:Nat} (h:xs[SetTable.below xs j]?≠some j):Rsn (SetTable.insertAt xs (SetTable.below xs j) j):=by
 obtain⟨h1,h2,h3⟩:=e8' hr j
 have hn:=l9' hr h
 unfold Rsn
 rw[SetTable.toList_insertAt]
 first
 |rw[bW,List.singleton_append]
 |skip
 rw[cm,List.pairwise_cons]
 have hT:∀a∈xs.toList.take (SetTable.below xs j),a<j:=by
  intro a ha
  obtain⟨i,hi,e⟩:=cS.mp ha
  rw[aP,aq]at hi
  rw[List.getElem_take,Array.getElem_toList]at e
  have:=h2 i (by omega) (by omega)
  omega
 have hD:∀b∈xs.toList.drop (SetTable.below xs j),j<b:=by
  intro b hb
  obtain⟨i,hi,e⟩:=cS.mp hb
  rw[cf,aq]at hi
  rw[cQ,Array.getElem_toList]at e
  have:=h3 (SetTable.below xs j+i) (by omega) (by omega)
  have hne:b≠j:=fun z=>hn (z ▸ bR hb)
  omega
 refine⟨hr.sublist (List.take_sublist _ _),⟨hD,hr.sublist (List.drop_sublist _ _)⟩,fun a ha b hb=>?_⟩
 rcases am.mp hb with rfl|hb
 .exact hT a ha
 .exact Nat.lt_trans (hT a ha) (hD b hb)
end PySem
namespace PySem
namespace Ts
open SetTable
def u (x:Nat):Nat->Nat
 |0=>x
 |n+1=>5*u x n+1
theorem pa' (x a:Nat):∀b,u x (a+b)=u (u x a) b
 |0=>rfl
 |b+1=>by show 5*u x (a+b)+1=5*u (u x a) b+1;rw[pa' x a b]
theorem pb' (x:Nat):∀n,u x n=5 ^ n*x+u 0 n
 |0=>by simp[u]
 |n+1=>by
  show 5*u x n+1=5 ^ (n+1)*x+(5*u 0 n+1)
  rw[pb' x n,cX]
  have:5 ^ n*5*x=5*(5 ^ n*x):=by rw[cW (5 ^ n) 5,bT]
  omega
theorem jT':∀n,4*u 0 n+1=5 ^ n
 |0=>rfl
 |n+1=>by
  have:=jT' n
  rw[cX]
  show 4*(5*u 0 n+1)+1=_
  omega
theorem vY' (k:Nat):∃c,u 0 (2 ^ k)=2 ^ k*(2*c+1):=by
 induction k with
 |zero=>exact⟨0,rfl⟩
 |succ k ih=>
  obtain⟨c,hc⟩:=ih
  have h1:u 0 (2 ^ (k+1))=5 ^ (2 ^ k)*u 0 (2 ^ k)+u 0 (2 ^ k):=by
   rw[cX,Nat.mul_two,pa',pb' (u 0 (2 ^ k))]
  have h2:=jT' (2 ^ k)
  rw[<- h2]at h1
  generalize hs:u 0 (2 ^ k)=S at h1 hc
  rw[h1,cX]
  generalize 2 ^ k=p at hc
  refine⟨(2*c+1)*S+c,?_⟩
  have e1:p*((2*c+1)*S)=S*S:=by rw[<- bT,<- hc]
  have e2:(4*S+1)*S=4*(S*S)+S:=by rw[Nat.add_mul,Nat.one_mul,bT]
  have e3:p*2*(2*((2*c+1)*S+c)+1)=4*(p*((2*c+1)*S))+2*(p*(2*c+1)):=by
   rw[show 2*((2*c+1)*S+c)+1=2*((2*c+1)*S)+(2*c+1) by omega,Nat.mul_add,cW p 2]
   generalize (2*c+1)*S=q
   rw[bT 2 p (2*q),Nat.mul_left_comm p 2 q,bT 2 p (2*c+1)]
   omega
  rw[e2,e3,e1,<- hc]
  omega
theorem sk' (z k:Nat):u z (2 ^ k) % 2 ^ (k+1)=(z+2 ^ k) % 2 ^ (k+1):=by
 obtain⟨c,hc⟩:=vY' k
 have h2:=jT' (2 ^ k)
 rw[pb',<- h2,hc,cX]
 generalize 2 ^ k=p
 have e:(4*(p*(2*c+1))+1)*z+p*(2*c+1)=z+p+p*2*(2*(2*c+1)*z+c):=by
  rw[Nat.add_mul,Nat.one_mul,Nat.mul_add (p*2)]
  have e1:4*(p*(2*c+1))*z=p*2*(2*(2*c+1)*z):=by
   rw[bT p 2,<- bT 2 (2*(2*c+1)) z,<- bT 2 2,Nat.mul_left_comm 4 p,bT p]
  have e2:p*(2*c)=p*2*c:=by rw[bT]
  have e3:p*(2*c+1)=p*(2*c)+p:=by rw[Nat.mul_add,Nat.mul_one]
  rw[e1,e3]
  omega
 rw[e,Nat.add_mul_mod_self_left]
theorem cyc:∀(k x y:Nat),∃n,n<2 ^ k/\u x n % 2 ^ k=y % 2 ^ k
 |0,x,y=>⟨0,by decide,by rw[Nat.pow_zero,Nat.mod_one,Nat.mod_one]⟩
 |k+1,x,y=>by
  obtain⟨n,hn,e⟩:=cyc k x y
  have hp:0<2 ^ k:=Nat.pow_pos (by decide)
  have h2:2 ^ (k+1)=2*2 ^ k:=by rw[cX,cW]
  by_cases h:u x n % 2 ^ (k+1)=y % 2 ^ (k+1)
  .exact⟨n,by omega,h⟩
  .refine⟨n+2 ^ k,by omega,?_⟩
   rw[pa',sk']
   generalize u x n=z at e h ⊢
   rw[h2]at h ⊢
   generalize 2 ^ k=p at e h hp ⊢
   have a1:z % (2*p)=z % p\/z % (2*p)=z % p+p:=by
    have:=Nat.mod_two_eq_zero_or_one (z / p)
    rw[cW 2 p,Nat.mod_mul]
    rcases this with q|q<;>rw[q]<;>simp
   have a2:y % (2*p)=y % p\/y % (2*p)=y % p+p:=by
    have:=Nat.mod_two_eq_zero_or_one (y / p)
    rw[cW 2 p,Nat.mod_mul]
    rcases this with q|q<;>rw[q]<;>simp
   rw[Nat.add_mod,cU (show p<2*p by omega)]
   have b1:=Nat.mod_lt z hp
   rcases a1 with q1|q1<;>rcases a2 with q2|q2
   .omega
   .rw[q1,q2,e,cU (by omega)]
   .rw[q1,q2,e,show y % p+p+p=y % p+2*p by omega,Nat.add_mod_right,cU (by omega)]
   .omega
end Ts
end PySem
namespace PySem
namespace Ts
open SetTable
def nxt (m:Nat) (p:Probe):Probe:=if p.more > 0 then { p with j:=p.j+1,more:=p.more-1 } else
 { p with j:=(leap m p.i p.perturb).1,more:=runEnd m (leap m p.i p.perturb).1-(leap m p.i p.perturb).1,i:=(leap m p.i p.perturb).1,perturb:=(leap m p.i p.perturb).2 }
def Pj (m:Nat) (h:Int):Nat->Probe
 |0=>{ j:=bits h % (m+1),more:=runEnd m (bits h % (m+1))-bits h % (m+1),i:=bits h % (m+1),perturb:=bits h,dummy:=none }
 |n+1=>nxt m (Pj m h n)
def Lp (m:Nat) (h:Int):Nat->Nat×Nat
 |0=>(bits h % (m+1),bits h)
 |l+1=>leap m (Lp m h l).1 (Lp m h l).2
def mo (m i:Nat):Nat:=runEnd m i-i
theorem vZ' {m i:Nat}:mo m i<=9:=by unfold mo runEnd;split<;>omega
theorem sm' {m i k:Nat} (hi:i<=m) (hk:k<=mo m i):i+k<=m:=by
 unfold mo runEnd at hk
 split at hk<;>omega
def sg (m:Nat) (h:Int):Nat->Nat
 |0=>0
 |l+1=>sg m h l+mo m (Lp m h l).1+1
theorem sn' (m:Nat) (h:Int):∀l,sg m h l<=10*l
 |0=>ag _
 |l+1=>by
  have:=sn' m h l
  have:=@vZ' m (Lp m h l).1
  show sg m h l+mo m (Lp m h l).1+1<=_
  omega
theorem gy' {m:Nat} {h:Int} {l b:Nat} (e:Pj m h b={ j:=(Lp m h l).1,more:=mo m (Lp m h l).1,i:=(Lp m h l).1,perturb:=(Lp m h l).2,dummy:=none }):∀k,k<=mo m (Lp m h l).1->Pj m h (b+k)={ j:=(Lp m h l).1+k,more:=mo m (Lp m h l).1-k,i:=(Lp m h l).1,perturb:=(Lp m h l).2,dummy:=none }
 |0,_=>by rw[Nat.add_zero,e];rfl
 |k+1,hk=>by
  have ih:=gy' e k (by omega)
  show nxt m (Pj m h (b+k))=_
  rw[ih]
  unfold nxt
  rw[if_pos (by show mo m _-k > 0;omega)]
  rfl
theorem jU' (m:Nat) (h:Int):∀l,Pj m h (sg m h l)={ j:=(Lp m h l).1,more:=mo m (Lp m h l).1,i:=(Lp m h l).1,perturb:=(Lp m h l).2,dummy:=none }
 |0=>rfl
 |l+1=>by
  have e:=gy' (jU' m h l) _ (ag _)
  show nxt m (Pj m h (sg m h l+mo m (Lp m h l).1))=_
  rw[e]
  unfold nxt
  rw[if_neg (by show ¬(_-_ > 0);omega)]
  rfl
theorem fN' {m:Nat} {h:Int} {l k:Nat} (hk:k<=mo m (Lp m h l).1):Pj m h (sg m h l+k)={ j:=(Lp m h l).1+k,more:=mo m (Lp m h l).1-k,i:=(Lp m h l).1,perturb:=(Lp m h l).2,dummy:=none }:=gy' (jU' m h l) k hk
theorem g7' {m:Nat} {h:Int}:∀{l n:Nat},n<sg m h l->∃l' k',l'<l/\k'<=mo m (Lp m h l').1/\n=sg m h l'+k'
 |0,n,hn=>absurd hn (Nat.not_lt_zero _)
 |l+1,n,hn=>by
  have hn:n<sg m h l+mo m (Lp m h l).1+1:=hn
  by_cases q:n<sg m h l
  .obtain⟨l',k',h1,h2,h3⟩:=g7' q
   exact⟨l',k',by omega,h2,h3⟩
  .exact⟨l,n-sg m h l,by omega,by omega,by omega⟩
theorem ma' {m:Nat} {h:Int} (n:Nat):∃l k,k<=mo m (Lp m h l).1/\n=sg m h l+k:=by
 have hle:∀l,l<=sg m h l:=fun l=>by
  induction l with
  |zero=>exact ag _
  |succ l ih=>show l+1<=sg m h l+mo m (Lp m h l).1+1;omega
 obtain⟨l',k',_,h2,h3⟩:=g7' (m:=m) (h:=h) (l:=n+1) (n:=n) (ak (Nat.lt_succ_self n) (hle (n+1)))
 exact⟨l',k',h2,h3⟩
theorem pc' {m:Nat} {h:Int}:∀{l:Nat},(Lp m h l).1<=m
 |0=>cc (Nat.mod_lt _ (Nat.succ_pos _))
 |l+1=>cc (Nat.mod_lt _ (Nat.succ_pos _))
theorem v0' {m:Nat} {h:Int} {n:Nat}:(Pj m h n).j<=m:=by
 obtain⟨l,k,hk,rfl⟩:=ma' (m:=m) (h:=h) n
 rw[fN' hk]
 exact sm' pc' hk
theorem jV' {m:Nat} {h:Int}:∀{l:Nat},(Lp m h l).2=bits h / 32 ^ l
 |0=>by show bits h=_;simp
 |l+1=>by
  show(Lp m h l).2 / 32=_
  rw[jV',Nat.div_div_eq_div_mul,cX]
theorem pd' (h:Int):bits h<2 ^ 64:=by
 unfold bits
 have:=cK h (show(0:Int)<2 ^ 64 by decide)
 have:=Int.emod_nonneg h (show(2 ^ 64:Int)≠0 by decide)
 omega
theorem pe' {m:Nat} {h:Int} {l:Nat} (hl:13<=l):(Lp m h l).2=0:=by
 rw[jV']
 refine Nat.div_eq_of_lt (ak (pd' h) ?_)
 exact aG (show 2 ^ 64<=32 ^ 13 by decide) (Nat.pow_le_pow_right (by decide) hl)
theorem xP' {m:Nat} {h:Int}:∀{n:Nat},(Lp m h (13+n)).1=u (Lp m h 13).1 n % (m+1)
 |0=>(cU (Nat.lt_succ_of_le pc')).symm
 |n+1=>by
  show((Lp m h (13+n)).1*5+1+(Lp m h (13+n)).2 / 32) % (m+1)=(5*u _ n+1) % (m+1)
  rw[pe' (by omega),xP' (n:=n),Nat.zero_div,Nat.add_zero,cW]
  rw[Nat.add_mod,Nat.mul_mod,Nat.mod_mod,<- Nat.mul_mod,<- Nat.add_mod]
theorem so' {m k:Nat} (hk:m+1=2 ^ k) (h:Int) {y:Nat} (hy:y<=m):∃l,l<m+14/\(Lp m h l).1=y:=by
 obtain⟨n,hn,e⟩:=cyc k (Lp m h 13).1 y
 refine⟨13+n,by omega,?_⟩
 rw[xP',hk,e,<- hk,cU (by omega)]
theorem sq' {m k:Nat} (hk:m+1=2 ^ k) (h:Int) {y:Nat} (hy:y<=m):∃n,n<10*(m+14)/\(Pj m h n).j=y:=by
 obtain⟨l,hl,e⟩:=so' hk h hy
 have:=sn' m h l
 exact⟨sg m h l,by omega,by rw[jU'];exact e⟩
theorem v1' {P:Nat->Prop} {n:Nat} (h:P n):∃m,m<=n/\P m/\∀i,i<m->¬P i:=by
 induction n using Nat.strongRecOn with
 |ind n ih=>
  by_cases q:∃i,i<n/\P i
  .obtain⟨i,hi,pi⟩:=q
   obtain⟨m,h1,h2,h3⟩:=ih i hi pi
   exact⟨m,by omega,h2,h3⟩
  .exact⟨n,ag _,h,fun i hi pi=>q ⟨i,hi,pi⟩⟩
theorem jW':∀{l b:List Nat},l.Nodup->(∀i∈l,i∈b)->l.length<=b.length
 | [],_,_,_=>aT _
 |a :: l,b,h,hs=>by
  have ha:a∈b:=hs a (by simp)
  have:=jW' (l:=l) (b:=b.erase a) (cr.mp h).2 fun i hi=>by
   have hne:i≠a:=fun e=>(cr.mp h).1 (by rw[<- e];exact hi)
   exact(List.mem_erase_of_ne hne).mpr (hs i (by simp[hi]))
  rw[List.length_erase_of_mem ha]at this
  have:=List.length_pos_of_mem ha
  rw[bo]
  omega
theorem jX' {m:Nat} {l:List Nat} (h:l.length<=m):∃y,y<=m/\y∉l:=Classical.byContradiction fun z=>by
 have:=jW' (l:=bf (m+1)) (b:=l) List.nodup_range fun i hi=>Classical.byContradiction fun q=>z ⟨i,cc (bi.mp hi),q⟩
 rw[List.length_range]at this
 omega
structure TabOk (t:SetTable) (es:Array (Int×Value)):Prop where
 rise:Rsn t.place
 le:∀p∈t.place.toList,p<=t.mask
 size:t.place.size=es.size
 dum:t.dummies=#[]
 pow:∃k,t.mask+1=2 ^ k
 room:t.place.size<=t.mask
 met:∀q∈t.place.toList.zip es.toList,∃n,(Pj t.mask q.2.1 n).j=q.1/\∀n',n'<n->(Pj t.mask q.2.1 n').j∈t.place.toList
theorem TabOk.end {t:SetTable} {es:Array (Int×Value)} (T:TabOk t es) (h:Int):∃N,N<10*(t.mask+14)/\(Pj t.mask h N).j∉t.place.toList/\∀n,n<N->(Pj t.mask h n).j∈t.place.toList:=by
 obtain⟨y,hy,hn⟩:=jX' (m:=t.mask) (l:=t.place.toList) (by rw[aq];exact T.room)
 obtain⟨k,hk⟩:=T.pow
 obtain⟨n,h1,h2⟩:=sq' hk h hy
 obtain⟨N,g1,g2,g3⟩:=v1' (P:=fun n=>(Pj t.mask h n).j∉t.place.toList) (n:=n) (by rw[h2];exact hn)
 exact⟨N,by omega,g2,fun i hi=>Classical.byContradiction (g3 i hi)⟩
end Ts
end PySem
namespace PySem
namespace Ts
open SetTable
theorem pf' (j:Nat):has #[] j=false:=by
 unfold has
 rfl
theorem TabOk.put {t:SetTable} {es:Array (Int×Value)} (T:TabOk t es) {h:Int} {x:Value} {N:Nat} (hN:(Pj t.mask h N).j∉t.place.toList) (hB:∀n,n<N->(Pj t.mask h n).j∈t.place.toList) (hroom:es.size+1<=t.mask):
  TabOk (t.put (Pj t.mask h N).j).1 (insertAt es (t.put (Pj t.mask h N).j).2 (h,x)):=by
 have hb:=e8' T.rise (Pj t.mask h N).j
 have hne:t.place[below t.place (Pj t.mask h N).j]?≠some (Pj t.mask h N).j:=fun z=>hN (by rw[cR];exact Array.mem_of_getElem? z)
 have hp:(t.put (Pj t.mask h N).j).1={ t with place:=insertAt t.place (below t.place (Pj t.mask h N).j) (Pj t.mask h N).j }:=by
  unfold SetTable.put
  rw[T.dum,pf']
  have hd:=T.dum
  cases t
  cases hd
  rfl
 have hp2:(t.put (Pj t.mask h N).j).2=below t.place (Pj t.mask h N).j:=rfl
 rw[hp,hp2]
 generalize hj:(Pj t.mask h N).j=j at *
 generalize hq:below t.place j=p at *
 have hl:(List.take p t.place.toList).length=(List.take p es.toList).length:=by
  rw[aP,aP,aq,aq,T.size]
 have hmem:∀y,y∈(insertAt t.place p j).toList↔y=j\/y∈t.place.toList:=by
  intro y
  rw[toList_insertAt]
  conv=>rhs;rw[<- bv p t.place.toList]
  simp only[aw,am]
  constructor
  .rintro(a|a|a)
   .exact .inr (.inl a)
   .exact .inl a
   .exact .inr (.inr a)
  .rintro(a|a|a)
   .exact .inr (.inl a)
   .exact .inl a
   .exact .inr (.inr a)
 have hsz:∀{α:Type} (xs:Array α) (y:α),(insertAt xs p y).size=xs.size+1:=fun xs y=>by
  rw[<- aq,toList_insertAt]
  simp only[aD,bo,aP,cf,aq]
  omega
 refine⟨?_,?_,?_,T.dum,T.pow,?_,?_⟩
 .have:=ij' T.rise (j:=j) (by rw[hq];exact hne)
  rw[hq]at this
  exact this
 .intro y hy
  rcases(hmem y).mp hy with rfl|hy
  .rw[<- hj];exact v0'
  .exact T.le y hy
 .show(insertAt t.place p j).size=_
  rw[hsz,hsz,T.size]
 .show(insertAt t.place p j).size<=t.mask
  rw[hsz,T.size]
  exact hroom
 .show ∀q∈(insertAt t.place p j).toList.zip (insertAt es p (h,x)).toList,∃n,(Pj t.mask q.2.1 n).j=q.1/\∀n',n'<n->_∈(insertAt t.place p j).toList
  rw[toList_insertAt t.place,toList_insertAt es,List.zip_append hl,List.zip_cons_cons,<- toList_insertAt t.place]
  have old:∀q∈t.place.toList.zip es.toList,∃n,(Pj t.mask q.2.1 n).j=q.1/\∀n',n'<n->(Pj t.mask q.2.1 n').j∈(insertAt t.place p j).toList:=fun q hq=>by
   obtain⟨n,h1,h2⟩:=T.met q hq
   exact⟨n,h1,fun n' hn'=>(hmem _).mpr (.inr (h2 n' hn'))⟩
  rw[<- bv p t.place.toList,<- bv p es.toList,List.zip_append hl]at old
  intro q hq
  rcases aw.mp hq with hq|hq
  .exact old q (bD _ hq)
  .rcases am.mp hq with rfl|hq
   .exact⟨N,hj,fun n' hn'=>(hmem _).mpr (.inr (hB n' hn'))⟩
   .exact old q (ax _ hq)
structure OwnOk (m:Nat) (hs:List Int) (k:Nat) (ow:Array (Option Nat)):Prop where
 size:ow.size=m+1
 met:∀j i:Nat,ow[j]?=some (some i)->i<k/\∃h n,hs[i]?=some h/\(Pj m h n).j=j/\∀n',n'<n->∃z,ow[(Pj m h n').j]?=some (some z)
 all:∀i,i<k->∃j:Nat,ow[j]?=some (some i)
 uniq:∀i j j':Nat,ow[j]?=some (some i)->ow[j']?=some (some i)->j=j'
theorem OwnOk.free {m:Nat} {hs:List Int} {k:Nat} {ow:Array (Option Nat)} (O:OwnOk m hs k ow) (hk:k<=m):∃y,y<=m/\ow[y]?=some none:=Classical.byContradiction fun z=>by
 have full:∀y,y<=m->∃i,ow[y]?=some (some i):=fun y hy=>by
  have e:ow[y]?=some (ow[y]'(by have:=O.size;omega)):=aA _
  cases hv:ow[y]'(by have:=O.size;omega)with
  |none=>rw[hv]at e;exact absurd ⟨y,hy,e⟩ z
  |some i=>rw[hv]at e;exact⟨i,e⟩
 have:=jW' (l:=(bf (m+1)).map fun y=>(ow.getD y none).getD 0) (b:=bf k) ?_ ?_
 .rw[ah,List.length_range,List.length_range]at this
  omega
 .rw[List.Nodup,List.pairwise_map]
  refine List.Pairwise.imp_of_mem (fun {a b} ha hb hab=>?_) List.pairwise_lt_range
  obtain⟨i,hi⟩:=full a (cc (bi.mp ha))
  obtain⟨i',hi'⟩:=full b (cc (bi.mp hb))
  rw[Array.getD_eq_getD_getElem?,Array.getD_eq_getD_getElem?,hi,hi']
  intro q
  have q:i=i':=q
  subst q
  exact absurd (O.uniq i a b hi hi') (by omega)
 .intro i hi
  obtain⟨y,hy,rfl⟩:=aZ.mp hi
  obtain⟨i,hi⟩:=full y (cc (bi.mp hy))
  rw[Array.getD_eq_getD_getElem?,hi]
  exact bi.mpr (O.met y i hi).1
theorem jY' {m:Nat} {ow:Array (Option Nat)} (hs:ow.size=m+1) (h:Int) {L:Nat} (hL:ow[(Lp m h L).1]?=some none):∀(f l:Nat),l<=L->L-l<f->(∀n,n<sg m h l->∃z,ow[(Pj m h n).j]?=some (some z))->
  ∃n,layClean.free m ow f (Lp m h l).1 (Lp m h l).2=some (Pj m h n).j/\ow[(Pj m h n).j]?=some none/\∀n',n'<n->∃z,ow[(Pj m h n').j]?=some (some z)
 |0,l,_,hf,_=>absurd hf (Nat.not_lt_zero _)
 |f+1,l,hl,hf,hB=>by
  unfold layClean.free
  have e1:runEnd m (Lp m h l).1+1-(Lp m h l).1=mo m (Lp m h l).1+1:=by
   unfold mo runEnd
   split<;>omega
  rw[e1]
  have val:∀k,k<=mo m (Lp m h l).1->∃o,ow[(Lp m h l).1+k]?=some o/\ow.getD ((Lp m h l).1+k) (some 0)=o:=fun k hk=>by
   have hlt:(Lp m h l).1+k<ow.size:=by rw[hs];exact Nat.lt_succ_of_le (sm' pc' hk)
   exact⟨_,aA hlt,by simp[Array.getD,hlt]⟩
  cases hq:(bf (mo m (Lp m h l).1+1)).find? fun k=>(ow.getD ((Lp m h l).1+k) (some 0)).isNone with
  |some k=>
   obtain⟨h1,h2,h3⟩:=List.find?_range_eq_some.mp hq
   have hk:k<=mo m (Lp m h l).1:=cc (bi.mp h2)
   refine⟨sg m h l+k,?_,?_,fun n' hn'=>?_⟩
   .dsimp only
    rw[fN' hk]
   .obtain⟨o,q1,q2⟩:=val k hk
    rw[q2]at h1
    rw[fN' hk,q1]
    cases o with
    |none=>rfl
    |some _=>cases h1
   .by_cases q:n'<sg m h l
    .exact hB n' q
    .obtain⟨d,rfl⟩:∃d,n'=sg m h l+d:=⟨n'-sg m h l,by omega⟩
     have hd:d<k:=by omega
     obtain⟨o,q1,q2⟩:=val d (by omega)
     have:=h3 d hd
     rw[q2]at this
     rw[fN' (by omega),q1]
     cases o with
     |none=>cases this
     |some z=>exact⟨z,rfl⟩
  |none=>
   have h3:=List.find?_range_eq_none.mp hq
   have hw:∀d,d<=mo m (Lp m h l).1->∃z,ow[(Lp m h l).1+d]?=some (some z):=fun d hd=>by
    obtain⟨o,q1,q2⟩:=val d hd
    have:=h3 d (by omega)
    rw[q2]at this
    cases o with
    |none=>cases this
    |some z=>exact⟨z,q1⟩
   have hne:l≠L:=fun e=>by
    obtain⟨z,hz⟩:=hw 0 (aT _)
    rw[Nat.add_zero,e,hL]at hz
    cases hz
   refine jY' hs h hL f (l+1) (by omega) (by omega) fun n hn=>?_
   by_cases q:n<sg m h l
   .exact hB n q
   .have hn:n<sg m h l+mo m (Lp m h l).1+1:=hn
    obtain⟨d,rfl⟩:∃d,n=sg m h l+d:=⟨n-sg m h l,by omega⟩
    rw[fN' (by omega)]
    exact hw d (by omega)
theorem OwnOk.step {m k:Nat} {hs:List Int} {ow:Array (Option Nat)} (O:OwnOk m hs k ow) (hk:k<=m) (hp:∃b,m+1=2 ^ b) {h:Int} (hh:hs[k]?=some h):∃j,layClean.free m ow (turns m) (bits h % (m+1)) (bits h)=some j/\OwnOk m hs (k+1) (ow.setIfInBounds j (some k)):=by
 obtain⟨y,hy,hye⟩:=O.free hk
 obtain⟨b,hb⟩:=hp
 obtain⟨L,hL,e⟩:=so' hb h hy
 obtain⟨n,h1,h2,h3⟩:=jY' O.size h (L:=L) (by rw[e];exact hye) (turns m) 0 (aT _) (by unfold turns;omega) fun n hn=>absurd hn (Nat.not_lt_zero _)
 refine⟨_,h1,?_⟩
 generalize hj:(Pj m h n).j=j at h2 ⊢
 have hlt:j<ow.size:=(Array.getElem?_eq_some_iff.mp h2).1
 have g:∀y,(ow.setIfInBounds j (some k))[y]?=if j=y then some (some k)else ow[y]?:=fun y=>by
  rw[Array.getElem?_setIfInBounds]
  by_cases q:j=y
  .rw[if_pos q,if_pos q,if_pos hlt]
  .rw[if_neg q,if_neg q]
 have mono:∀y z:Nat,ow[y]?=some (some z)->∃z,(ow.setIfInBounds j (some k))[y]?=some (some z):=fun y z e=>by
  rw[g]
  by_cases q:j=y
  .exact⟨k,by rw[if_pos q]⟩
  .exact⟨z,by rw[if_neg q];exact e⟩
 refine⟨by rw[Array.size_setIfInBounds];exact O.size,fun y i e=>?_,fun i hi=>?_,fun i y y' e e'=>?_⟩
 .rw[g]at e
  by_cases q:j=y
  .rw[if_pos q]at e
   injection e with e
   injection e with e
   subst e
   exact⟨Nat.lt_succ_self _,h,n,hh,by rw[hj,q],fun n' hn'=>by obtain⟨z,hz⟩:=h3 n' hn';exact mono _ z hz⟩
  .rw[if_neg q]at e
   obtain⟨a1,h',n',a2,a3,a4⟩:=O.met y i e
   exact⟨cv a1,h',n',a2,a3,fun n'' hn=>by obtain⟨z,hz⟩:=a4 n'' hn;exact mono _ z hz⟩
 .rcases cO i k with z|z
  .obtain⟨y,hy⟩:=O.all i z
   refine⟨y,?_⟩
   rw[g,if_neg (fun q=>by rw[<- q,h2]at hy;cases hy)]
   exact hy
  .exact⟨j,by rw[g,if_pos rfl,show i=k by omega]⟩
 .rw[g]at e e'
  by_cases q:j=y<;>by_cases q':j=y'
  .omega
  .rw[if_pos q]at e
   rw[if_neg q']at e'
   injection e with e
   injection e with e
   subst e
   exact absurd (O.met y' _ e').1 (aV _)
  .rw[if_neg q]at e
   rw[if_pos q']at e'
   injection e' with e'
   injection e' with e'
   subst e'
   exact absurd (O.met y _ e).1 (aV _)
  .rw[if_neg q]at e
   rw[if_neg q']at e'
   exact O.uniq i y y' e e'
end Ts
end PySem
namespace PySem
section
variable {prog:Program} {w:World} {K:Type} [DecidableEq K] (knd:KeyKind prog w K)
variable {knd}
variable {A:Around} {E:Value->Shared->Prop} {s:Shared}
end
end PySem
namespace PySem
namespace Ts
open SetTable
section
variable {prog:Program} {w:World}
def elm (prog:Program) (w:World) (q:List Int×Addr):Int×Value:=(tupleKeyHash (intKind prog w) q.1,.ref q.2)
def Tup (prog:Program) (w:World) (h:Heap) (q:List Int×Addr):Prop:=IsTupleKey (intKind prog w) h q.1 q.2
structure MaskOk (t:SetTable):Prop where
 mask:t.mask∈[7,31,127,511,2047,8191]
 few:t.place.size*5<t.mask*3
theorem MaskOk.le {t:SetTable} (m:MaskOk t):7<=t.mask/\t.mask<=8191/\t.mask % 2=1:=by
 have:=m.mask
 simp only[am,aB,or_false]at this
 omega
variable {A:Around} {E:Value->Shared->Prop} {s:Shared}
structure Elms (prog:Program) (w:World) (h:Heap) (es:Array (Int×Value)) (t:SetTable) (L:List (List Int×Addr)):Prop where
 its:es.toList=L.map (elm prog w)
 tup:∀q∈L,Tup prog w h q
 nd:(L.map (·.1)).Nodup
 tab:TabOk t es
 mask:MaskOk t
end
end Ts
end PySem
namespace PySem
namespace Ts
open SetTable
section
variable {prog:Program} {w:World} {A:Around} {E:Value->Shared->Prop} {s:Shared}
theorem Tup.kept {h h':Heap} {a:Addr} {o:Obj} {es:Array (Int×Value)} {ep:Nat} {t:SetTable} {q:List Int×Addr} (hq:Tup prog w h q) (ho:h.get? a=some o) (hd:o.data=.set es ep t) (hs:br a h h'):Tup prog w h' q:=by
 obtain⟨o',items,n,ho',hc,hd',hi⟩:=hq
 have hne:q.2≠a:=by
  intro e
  rw[e,ho]at ho'
  cases ho'
  rw[hd]at hd';exact nomatch hd'
 exact⟨o',items,n,(hs.2 q.2 hne).trans ho',hc,hd',hi⟩
theorem TabOk.plain {t:SetTable} {es:Array (Int×Value)} (T:TabOk t es) (b:Bool):TabOk { t with plain:=b } es:=⟨T.rise,T.le,T.size,T.dum,T.pow,T.room,T.met⟩
end
end Ts
end PySem
namespace PySem
namespace Ts
open SetTable
section
variable {prog:Program} {w:World} {A:Around} {E:Value->Shared->Prop} {s:Shared}
end
end Ts
end PySem
namespace PySem
open PyProof.Rows
section
variable {prog:Program} {w:World} {K:Type} [DecidableEq K] {knd:KeyKind prog w K}
variable {A:Around} {R:Result->Shared->Prop} {I:Addr} {fp wr:List Addr} {G:Array GenState->Array GenState->Prop} {n:Nat} {P:Nat->Value->Prop} {St:Nat->Shared->Prop}
end
section
variable {prog:Program} {w:World} {K:Type} [DecidableEq K] {knd:KeyKind prog w K} {A:Around} {E:Value->Shared->Prop} {s:Shared}
end
end PySem
namespace PySem
open PyProof.Rows
def Heap.IsSti (h:Heap) (a d:Addr) (f:Value) (i n ep:Nat):Prop:=∃o,h.get? a=some o/\o.cls=.type "set_iterator"/\o.data=.fields #[f,rawInt i,.ref d,rawInt n,rawInt ep]
theorem Heap.IsSti.at {h h':Heap} {a d:Addr} {f:Value} {i n ep:Nat} (x:h.IsSti a d f i n ep) (e:∀o,h.get? a=some o->h'.get? a=some o):h'.IsSti a d f i n ep:=let⟨o,ho,r⟩:=x;⟨o,e _ ho,r⟩
def Ord (bt:Bool) (w:World) (d ep:Nat) (es:Array (Int×Value)) (t:SetTable) (xs:Array Value) (h:Heap) (f:Value) (i:Nat):Prop:=
 (bt=true/\f=rawInt 0/\xs=(pickOrder (w.params.setOrder d ep) es).map (·.2))\/
 (bt=false/\(!t.plain&&decide (es.size > 1))=false/\Rsn t.place/\f=rawInt (if i=0 then 0 else((t.place.getD (i-1) 0+1:Nat):Int))/\xs=es.map (·.2))\/
 (bt=false/\∃(T:Addr) (pl:Array Nat),f=.ref T/\IsTup h T (pl.map fun(j:Nat)=>rawInt j)/\xs.size=pl.size/\∀(j p:Nat),pl[j]?=some p->∃x:Int×Value,es[p]?=some x/\xs[j]?=some x.2)
section
variable {prog:Program} {w:World} {A:Around} {E:Value->Shared->Prop} {s:Shared}
theorem Heap.IsSti.typeIs {a d:Addr} {f:Value} {i n ep:Nat} (x:s.heap.IsSti a d f i n ep):s.TypeIs (.ref a) "set_iterator":=let⟨o,ho,hc,_⟩:=x;⟨o,ho,hc⟩
theorem g8' {α:Type}:∀(l:List α) (i:Nat) (h:i<l.length),(l[i] :: l.eraseIdx i).Perm l
 |a :: l,0,h=>List.Perm.refl _
 |a :: l,i+1,h=>by
  rw[List.eraseIdx_cons_succ,List.getElem_cons_succ]
  exact(List.Perm.swap a _ _).trans ((g8' l i (by simpa using h)).cons a)
theorem jZ' {α:Type} (f:Nat->Nat):∀(n k:Nat) (l:List α) (out:Array α),n=l.length->(pickOrder.go f n k l out).toList.Perm (out.toList++l)
 |0,k,l,out,e=>by
  have:l=[]:=List.length_eq_zero_iff.mp e.symm
  subst this
  unfold pickOrder.go
  simp
 |n+1,k,l,out,e=>by
  unfold pickOrder.go
  have hl:f k % l.length<l.length:=Nat.mod_lt _ (by omega)
  rw[ae hl]
  dsimp only
  refine(jZ' f n (k+1) _ _ (by rw[List.length_eraseIdx_of_lt hl];omega)).trans ?_
  rw[bZ,bW]
  refine List.Perm.append_left _ ?_
  rw[List.singleton_append]
  exact g8' l _ hl
theorem sr' {α:Type} (f:Nat->Nat) (xs:Array α):(pickOrder f xs).toList.Perm xs.toList:=by
 have:=jZ' f xs.size 0 xs.toList #[] (by simp)
 simpa[pickOrder]using this
end
end PySem
namespace PySem
open PyProof.Rows
section
variable {prog:Program} {w:World} {A:Around} {E:Value->Shared->Prop} {s:Shared}
end
end PySem
namespace PySem
open PyProof.Rows
section
variable {prog:Program} {w:World}
variable {A:Around} {E:Value->Shared->Prop} {s:Shared}
end
end PySem
namespace L2
open PySem PySem.Spec PyProof.Rows
section
variable {prog:Program} {w:World} {A:Around} {E:Value->Shared->Prop} {s:Shared}
end
section
variable {X:Cx}
theorem Inv.other {pins:List (Addr×Obj)} {σ:List (Option V)} {H:Hp} {s s':Shared} (I:Inv X pins σ H s) (h1:s'.heap=s.heap) (h2:s'.gens=s.gens) (h3:s'.os=s.os):Inv X pins σ H s':=by
 obtain⟨hp,g,d,t,os⟩:=s'
 cases h1;cases h2;cases h3
 exact⟨I.ok,I.os,I.bare,I.base,I.loc,I.cell,I.free,I.freeC,I.pin,I.hok,I.len⟩
variable {e:Expr} {scope:Scope} {tg iter:Expr} {ifs:List Expr} {nx:Addr->Env->Sem Unit} {g:TG} {tc:TT} {aw':TL ((Option Int->Bool)×Nat)} {own:List Nat} {wi:TI}
end
section
variable {prog:Program} {w:World} {A:Around} {E:Value->Shared->Prop} {s:Shared} {b0:Array Keyed} {κ:SortKind}
end
section
variable {X:Cx}
end
end L2
namespace So
open PySem PySem.Spec PyProof.Rows
def j0':Bool->Keyed->Array Keyed->Nat->Nat->Nat->StateT SortSt Sem (Option Nat):=sortPriv% PySem.Builtin.gallop
section
variable {M:Model} {A:Around} {E:Value->Shared->Prop} {s:Shared} {O:KeyOrd} {ky:Keyed->O.α} {P:Keyed->Prop} {kd:SortKind}
structure Cmp (M:Model) (A:Around) (E:Value->Shared->Prop) (s:Shared) (O:KeyOrd) (ky:Keyed->O.α) (P:Keyed->Prop) (kd:SortKind):Prop where
 lt:∀{x y:Keyed} {st:SortSt} {Q:Option Bool->SortSt->Prop},P x->P y->kindOf st=kd->Q (some (O.blt (ky x) (ky y))) st->wpS M A E s (lt' x y) Q st
theorem g9' {a:Array Keyed} {i:Nat} {x:Keyed} {Q:Keyed->SortSt->Prop} {st:SortSt} (e:a[i]?=some x) (h:Q x st):wpS M A E s (elem' a i) Q st:=by
 rw[elem'_eq,e];exact wpS_pure h
end
end So
namespace So
open PySem PySem.Spec PyProof.Rows
structure Mg (R:Keyed->Keyed->Prop) (T o ra rb:List Keyed):Prop where
 pm:(o++(ra++rb)).Perm T
 so:o.Pairwise R
 sa:ra.Pairwise R
 sb:rb.Pairwise R
 oa:∀x∈o,∀y∈ra,R x y
 ob:∀x∈o,∀y∈rb,R x y
section
variable {R:Keyed->Keyed->Prop} {T o ra rb:List Keyed}
theorem Mg.swap (m:Mg R T o ra rb):Mg R T o rb ra:=⟨(List.Perm.append_left o List.perm_append_comm).trans m.pm,m.so,m.sb,m.sa,m.ob,m.oa⟩
theorem Mg.put {u:List Keyed} (m:Mg R T o (u++ra) rb) (h:∀y∈u,∀z∈rb,R y z):Mg R T (o++u) ra rb:=by
 have⟨s1,s2,s3⟩:=cm.mp m.sa
 refine⟨?_,cm.mpr ⟨m.so,s1,fun x hx y hy=>m.oa x hx y (bD _ hy)⟩,s2,m.sb,?_,?_⟩
 .have:=m.pm;simpa[bW]using this
 .intro x hx y hy
  rcases aw.mp hx with hx|hx
  .exact m.oa x hx y (ax _ hy)
  .exact s3 x hx y hy
 .intro x hx y hy
  rcases aw.mp hx with hx|hx
  .exact m.ob x hx y hy
  .exact h x hx y hy
theorem Mg.put1 {u:Keyed} (m:Mg R T o (u :: ra) rb) (h:∀z∈rb,R u z):Mg R T (o++[u]) ra rb:=
 Mg.put (u:=[u]) m fun y hy=>by rw[aU]at hy;subst hy;exact h
theorem Mg.putB {u:List Keyed} (m:Mg R T o ra (u++rb)) (h:∀y∈u,∀z∈ra,R y z):Mg R T (o++u) ra rb:=(m.swap.put h).swap
theorem Mg.putB1 {u:Keyed} (m:Mg R T o ra (u :: rb)) (h:∀z∈ra,R u z):Mg R T (o++[u]) ra rb:=(m.swap.put1 h).swap
theorem Mg.fin (m:Mg R T o ra rb) (h:∀y∈ra,∀z∈rb,R y z):(o++(ra++rb)).Perm T/\(o++(ra++rb)).Pairwise R:=by
 refine⟨m.pm,cm.mpr ⟨m.so,cm.mpr ⟨m.sa,m.sb,h⟩,fun x hx y hy=>?_⟩⟩
 rcases aw.mp hy with hy|hy
 .exact m.oa x hx y hy
 .exact m.ob x hx y hy
end
end So
namespace So
open PySem PySem.Spec PyProof.Rows
section
variable {M:Model} {A:Around} {E:Value->Shared->Prop} {s:Shared} {O:KeyOrd} {ky:Keyed->O.α} {P:Keyed->Prop} {kd:SortKind}
def fO' (st st':SortSt):Prop:=kindOf st'=kindOf st/\arrOf st'=arrOf st/\pendingOf st'=pendingOf st/\failedOf st'=failedOf st
theorem fO'.rfl' (st:SortSt):fO' st st:=⟨rfl,rfl,rfl,rfl⟩
theorem fO'.trans {a b c:SortSt} (h:fO' a b) (g:fO' b c):fO' a c:=⟨g.1.trans h.1,g.2.1.trans h.2.1,g.2.2.1.trans h.2.2.1,g.2.2.2.trans h.2.2.2⟩
theorem fO'.set (st:SortSt) (m:Nat):fO' st (SortSt.mk' (kindOf st) (arrOf st) (pendingOf st) m (failedOf st)):=⟨rfl,rfl,rfl,rfl⟩
def Rk (O:KeyOrd) (ky:Keyed->O.α) (p q:Keyed):Prop:=O.kle (ky p) (ky q)
theorem j1' {a:Array Keyed} {i:Nat} (h:i<a.size):∃p,a[i]?=some p/\p∈a.toList:=⟨a[i],by simp,by simp⟩
theorem j2' {a:Array Keyed} {i:Nat} {p:Keyed} (e:a[i]?=some p):a.toList.drop i=p :: a.toList.drop (i+1):=by
 have hi:i<a.size:=by
  rcases cO i a.size with h|h
  .exact h
  .rw[cF h]at e;cases e
 have:a[i]=p:=by rw[aA hi]at e;exact Option.some.inj e
 rw[List.drop_eq_getElem_cons (by simpa using hi)]
 simp[this]
theorem aZ' (a:Array Keyed) (i j:Nat):(a.extract i j).toList=(a.toList.drop i).take (j-i):=by
 simp[Array.toList_extract,List.extract_eq_take_drop]
theorem cI' (a:Array Keyed) (i:Nat):(a.extract i a.size).toList=a.toList.drop i:=by
 rw[aZ',ce];simp
theorem j3' (l:List Keyed) (i k:Nat):l.drop i=(l.drop i).take k++l.drop (i+k):=by
 rw[<- List.drop_drop,bv]
theorem bv' {a:Array Keyed} {i k:Nat} {p:Keyed} (h:p∈(a.toList.drop i).take k):∃n,n<k/\a[i+n]?=some p:=by
 obtain⟨n,hn,e⟩:=List.getElem_of_mem h
 have hl:n<k:=by simp at hn;omega
 refine⟨n,hl,?_⟩
 rw[List.getElem_take,cQ]at e
 simp at hn
 rw[aA (by omega)]
 simpa using e
theorem bw' {a:Array Keyed} {i:Nat} {p:Keyed} (h:p∈a.toList.drop i):∃n,i<=n/\a[n]?=some p:=by
 obtain⟨n,hn,e⟩:=List.getElem_of_mem h
 refine⟨i+n,by omega,?_⟩
 rw[cQ]at e
 simp at hn
 rw[aA (by omega)]
 simpa using e
theorem v2' {R:Keyed->Keyed->Prop} {a:Array Keyed} (h:a.toList.Pairwise R) {i j:Nat} {p q:Keyed} (hij:i<j) (e:a[i]?=some p) (e2:a[j]?=some q):R p q:=by
 have hj:j<a.size:=by
  rcases cO j a.size with h|h
  .exact h
  .rw[cF h]at e2;cases e2
 have h1:a[i]=p:=by rw[aA (by omega)]at e;exact Option.some.inj e
 have h2:a[j]=q:=by rw[aA hj]at e2;exact Option.some.inj e2
 have:=ck.mp h i j (by simp;omega) (by simp;omega) hij
 simpa[h1,h2]using this
theorem mb' {a:Array Keyed} (h:a.toList.Pairwise (Rk O ky)) {i j:Nat} {p q:Keyed} (hij:i<=j) (e:a[i]?=some p) (e2:a[j]?=some q):O.kle (ky p) (ky q):=by
 by_cases g:i=j
 .subst g;rw[e]at e2;cases e2;exact KeyOrd.kle_refl _
 .exact v2' h (by omega) e e2
end
end So
namespace So
open PySem PySem.Spec PyProof.Rows
section
variable {M:Model} {A:Around} {E:Value->Shared->Prop} {s:Shared} {O:KeyOrd} {ky:Keyed->O.α} {P:Keyed->Prop} {kd:SortKind} {x y:Array Keyed}
def qS' (O:KeyOrd) (ky:Keyed->O.α) (x y r:Array Keyed):Prop:=r.toList.Perm (x.toList++y.toList)/\r.toList.Pairwise (Rk O ky)
def Wk (O:KeyOrd) (ky:Keyed->O.α) (x y o:Array Keyed) (i j:Nat):Prop:=Mg (Rk O ky) (x.toList++y.toList) o.toList (x.toList.drop i) (y.toList.drop j)/\i<=x.size/\j<=y.size
theorem Wk.dn {o:Array Keyed} {i j:Nat} (w:Wk O ky x y o i j) (e:j=y.size):qS' O ky x y (o++x.extract i x.size++y.extract j y.size):=by
 subst e
 have:=w.1.fin (fun p _ q hq=>by rw[List.drop_eq_nil_of_le (by simp)]at hq;cases hq)
 unfold qS'
 rw[bg,bg,cI',cI',bW]
 exact this
theorem Wk.la {o:Array Keyed} {i j:Nat} (w:Wk O ky x y o i j) (e:i+1=x.size) (hl:∀p q,x[x.size-1]?=some p->q∈y.toList->O.klt (ky q) (ky p)):qS' O ky x y (o++y.extract j y.size++x.extract i x.size):=by
 have:=w.1.swap.fin (fun q hq p hp=>by
  obtain⟨n,hn,e2⟩:=bw' hp
  have:n<x.size:=by
   rcases cO n x.size with h|h
   .exact h
   .rw[cF h]at e2;cases e2
  have:n=x.size-1:=by omega
  subst this
  exact KeyOrd.kle_of_klt (hl p q e2 (bR hq)))
 unfold qS'
 rw[bg,bg,cI',cI',bW]
 exact this
theorem Wk.putB {o:Array Keyed} {i j:Nat} {p q:Keyed} (w:Wk O ky x y o i j) (e1:x[i]?=some p) (e2:y[j]?=some q) (h:O.kle (ky q) (ky p)) (hj:j<y.size) (sx:x.toList.Pairwise (Rk O ky)):Wk O ky x y (o.push q) i (j+1):=by
 refine⟨?_,w.2.1,hj⟩
 have m:=w.1
 rw[j2' e2]at m
 rw[bZ]
 refine m.putB1 fun z hz=>?_
 obtain⟨n,hn,e3⟩:=bw' hz
 exact KeyOrd.kle_trans h (mb' sx hn e1 e3)
theorem Wk.putA {o:Array Keyed} {i j:Nat} {p q:Keyed} (w:Wk O ky x y o i j) (e1:x[i]?=some p) (e2:y[j]?=some q) (h:O.kle (ky p) (ky q)) (hi:i<x.size) (sy:y.toList.Pairwise (Rk O ky)):Wk O ky x y (o.push p) (i+1) j:=by
 refine⟨?_,hi,w.2.2⟩
 have m:=w.1
 rw[j2' e1]at m
 rw[bZ]
 refine m.put1 fun z hz=>?_
 obtain⟨n,hn,e3⟩:=bw' hz
 exact KeyOrd.kle_trans h (mb' sy hn e2 e3)
theorem Wk.manyA {o:Array Keyed} {i j k:Nat} {q:Keyed} (w:Wk O ky x y o i j) (e2:y[j]?=some q) (h:∀n p,n<k->x[i+n]?=some p->O.kle (ky p) (ky q)) (hi:i+k<=x.size) (sy:y.toList.Pairwise (Rk O ky)):
  Wk O ky x y (o++x.extract i (i+k)) (i+k) j:=by
 refine⟨?_,hi,w.2.2⟩
 have m:=w.1
 rw[j3' _ i k]at m
 rw[bg,aZ',Nat.add_sub_cancel_left]
 refine m.put fun p hp z hz=>?_
 obtain⟨n,hn,e3⟩:=bv' hp
 obtain⟨n2,hn2,e4⟩:=bw' hz
 exact KeyOrd.kle_trans (h n p hn e3) (mb' sy hn2 e2 e4)
theorem Wk.manyB {o:Array Keyed} {i j k:Nat} {p:Keyed} (w:Wk O ky x y o i j) (e1:x[i]?=some p) (h:∀n q,n<k->y[j+n]?=some q->O.klt (ky q) (ky p)) (hj:j+k<=y.size) (sx:x.toList.Pairwise (Rk O ky)):
  Wk O ky x y (o++y.extract j (j+k)) i (j+k):=by
 refine⟨?_,w.2.1,hj⟩
 have m:=w.1
 rw[j3' _ j k]at m
 rw[bg,aZ',Nat.add_sub_cancel_left]
 refine m.putB fun q hq z hz=>?_
 obtain⟨n,hn,e3⟩:=bv' hq
 obtain⟨n2,hn2,e4⟩:=bw' hz
 exact KeyOrd.kle_trans (KeyOrd.kle_of_klt (h n q hn e3)) (mb' sx hn2 e1 e4)
end
end So
namespace So
open PySem PySem.Spec PyProof.Rows
def dnH (x y o:Array Keyed) (i j:Nat):Array Keyed:=x.extract 0 i++y.extract 0 j++o.reverse
def fbH (x y o:Array Keyed) (i j:Nat):Array Keyed:=y.extract 0 j++x.extract 0 i++o.reverse
abbrev TG:Type:=Option (Array Keyed)×Nat×Nat×Array Keyed×Nat×Nat×Nat
abbrev TI:Type:=Option (Array Keyed)×Nat×Nat×Array Keyed×Nat×Nat
abbrev TO:Type:=Option (Array Keyed)×Nat×Nat×Array Keyed×Nat
def hi3 (x y:Array Keyed) (i j:Nat) (o:Array Keyed) (mg ca cb:Nat):StateT SortSt Sem (ForInStep TG):=do
 let p <- elem' x (i-1)
 if(i-1 == 0)=true then pure (.done (some (dnH x y (o.push p) (i-1) j),i-1,j,o.push p,mg,ca,cb))
 else if(decide (ca<7)&&decide (cb<7))=true then pure (.done (none,i-1,j,o.push p,mg,ca,cb))else pure (.yield (none,i-1,j,o.push p,mg,ca,cb))
def hi2 (x y:Array Keyed) (i j:Nat) (o:Array Keyed) (mg ca cb:Nat):StateT SortSt Sem (ForInStep TG):=do
 let q <- elem' y (j-1)
 if(j-1 == 1)=true then pure (.done (some (fbH x y (o.push q) i (j-1)),i,j-1,o.push q,mg,ca,cb))
 else do
  let p <- elem' x (i-1)
  let r <- j0' true p y 0 (j-1) (j-1-1)
  match r with
  |some z=>
   if j-1-z > 0 then
    if(z == 1)=true then pure (.done (some (fbH x y (o.push q++(y.extract z (j-1)).reverse) i z),i,z,o.push q++(y.extract z (j-1)).reverse,mg,ca,j-1-z))
    else if(z == 0)=true then pure (.done (some (dnH x y (o.push q++(y.extract z (j-1)).reverse) i z),i,z,o.push q++(y.extract z (j-1)).reverse,mg,ca,j-1-z))
    else hi3 x y i z (o.push q++(y.extract z (j-1)).reverse) mg ca (j-1-z)
   else hi3 x y i (j-1) (o.push q) mg ca (j-1-z)
  |_=>pure (.done (some (dnH x y (o.push q) i (j-1)),i,j-1,o.push q,mg,ca,cb))
def hi1 (x y:Array Keyed) (i j:Nat) (o:Array Keyed) (mg ca cb:Nat):StateT SortSt Sem (ForInStep TG):=do
 modify fun st=>SortSt.mk' (kindOf st) (arrOf st) (pendingOf st) mg (failedOf st)
 let q <- elem' y (j-1)
 let r <- j0' false q x 0 i (i-1)
 match r with
 |some z=>
  if i-z > 0 then
   if(z == 0)=true then pure (.done (some (dnH x y (o++(x.extract z i).reverse) z j),z,j,o++(x.extract z i).reverse,mg,i-z,cb))
   else hi2 x y z j (o++(x.extract z i).reverse) mg (i-z) cb
  else hi2 x y i j o mg (i-z) cb
 |_=>pure (.done (some (dnH x y o i j),i,j,o,mg,ca,cb))
section
variable {M:Model} {A:Around} {E:Value->Shared->Prop} {s:Shared} {O:KeyOrd} {ky:Keyed->O.α} {P:Keyed->Prop} {kd:SortKind} {x y:Array Keyed}
theorem aq' {a:Array Keyed} {i:Nat} {p:Keyed} (e:a[i]?=some p):(a.toList.take (i+1)).reverse=p :: (a.toList.take i).reverse:=by
 have:a.toList[i]?=some p:=by simpa using e
 rw[List.take_add_one,this];simp
theorem eI' (a:Array Keyed) (i:Nat):(a.extract 0 i).toList=a.toList.take i:=by rw[aZ'];simp
theorem nP' (l:List Keyed) {z i:Nat} (h:z<=i):(l.take i).reverse=((l.drop z).take (i-z)).reverse++(l.take z).reverse:=by
 rw[<- List.reverse_append]
 congr 1
 rw[<- bv z (l.take i),List.take_take,List.drop_take]
 congr 2
 omega
theorem bD' {a:Array Keyed} {i:Nat} {p:Keyed} (h:p∈(a.toList.take i).reverse):∃n,n<i/\a[n]?=some p:=by
 obtain⟨n,hn,e⟩:=bv' (a:=a) (i:=0) (k:=i) (p:=p) (by simpa using h)
 exact⟨n,hn,by simpa using e⟩
def Wh (O:KeyOrd) (ky:Keyed->O.α) (x y o:Array Keyed) (i j:Nat):Prop:=Mg (fun p q=>Rk O ky q p) (x.toList++y.toList) o.toList (x.toList.take i).reverse (y.toList.take j).reverse/\i<=x.size/\j<=y.size
theorem Wh.dn {o:Array Keyed} {i j:Nat} (w:Wh O ky x y o i j) (e:i=0):qS' O ky x y (x.extract 0 i++y.extract 0 j++o.reverse):=by
 subst e
 have⟨h1,h2⟩:=w.1.swap.fin (fun q _ p hp=>by simp at hp)
 unfold qS'
 have e:(x.extract 0 0++y.extract 0 j++o.reverse).toList=(o.toList++((y.toList.take j).reverse++(x.toList.take 0).reverse)).reverse:=by
  rw[bg,bg,eI',eI'];simp
 rw[e]
 exact⟨(List.reverse_perm _).trans h1,List.pairwise_reverse.mpr h2⟩
theorem Wh.putA {o:Array Keyed} {i j:Nat} {p:Keyed} (w:Wh O ky x y o (i+1) j) (e1:x[i]?=some p) (h:∀n q,n<j->y[n]?=some q->O.kle (ky q) (ky p)):Wh O ky x y (o.push p) i j:=by
 refine⟨?_,by have:=w.2.1;omega,w.2.2⟩
 have m:=w.1
 rw[aq' e1]at m
 rw[bZ]
 refine m.put1 fun z hz=>?_
 obtain⟨n,hn,e3⟩:=bD' hz
 exact h n z hn e3
theorem Wh.putB {o:Array Keyed} {i j:Nat} {q:Keyed} (w:Wh O ky x y o i (j+1)) (e2:y[j]?=some q) (h:∀n p,n<i->x[n]?=some p->O.kle (ky p) (ky q)):Wh O ky x y (o.push q) i j:=by
 refine⟨?_,w.2.1,by have:=w.2.2;omega⟩
 have m:=w.1
 rw[aq' e2]at m
 rw[bZ]
 refine m.putB1 fun z hz=>?_
 obtain⟨n,hn,e3⟩:=bD' hz
 exact h n z hn e3
theorem Wh.manyA {o:Array Keyed} {i j z:Nat} (w:Wh O ky x y o i j) (hz:z<=i) (h:∀n p m q,z<=n->n<i->x[n]?=some p->m<j->y[m]?=some q->O.kle (ky q) (ky p)):Wh O ky x y (o++(x.extract z i).reverse) z j:=by
 refine⟨?_,by have:=w.2.1;omega,w.2.2⟩
 have m:=w.1
 rw[nP' _ hz]at m
 rw[bg,Array.toList_reverse,aZ']
 refine m.put fun p hp q hq=>?_
 obtain⟨n,hn,e3⟩:=bv' (List.mem_reverse.mp hp)
 obtain⟨n2,hn2,e4⟩:=bD' hq
 exact h _ p n2 q (by omega) (by omega) e3 hn2 e4
theorem Wh.manyB {o:Array Keyed} {i j z:Nat} (w:Wh O ky x y o i j) (hz:z<=j) (h:∀n q m p,z<=n->n<j->y[n]?=some q->m<i->x[m]?=some p->O.kle (ky p) (ky q)):Wh O ky x y (o++(y.extract z j).reverse) i z:=by
 refine⟨?_,w.2.1,by have:=w.2.2;omega⟩
 have m:=w.1
 rw[nP' _ hz]at m
 rw[bg,Array.toList_reverse,aZ']
 refine m.putB fun q hq p hp=>?_
 obtain⟨n,hn,e3⟩:=bv' (List.mem_reverse.mp hq)
 obtain⟨n2,hn2,e4⟩:=bD' hp
 exact h _ q n2 p (by omega) (by omega) e3 hn2 e4
end
end So
namespace So
open PySem PySem.Spec PyProof.Rows
section
variable {M:Model} {A:Around} {E:Value->Shared->Prop} {s:Shared} {O:KeyOrd} {ky:Keyed->O.α} {P:Keyed->Prop} {kd:SortKind}
end
end So
namespace So
open PySem PySem.Spec PyProof.Rows
section
variable {M:Model} {A:Around} {E:Value->Shared->Prop} {s:Shared} {O:KeyOrd} {ky:Keyed->O.α} {P:Keyed->Prop} {kd:SortKind} {st0:SortSt} {lo nrem:Nat}
def ke (ky:Keyed->O.α) (a:Array Keyed) (i:Nat):O.α:=ky ((a[i]?).getD (Value.none,Value.none))
theorem mc' {a:Array Keyed} {i:Nat} {p:Keyed} (h:a[i]?=some p):ke ky a i=ky p:=by unfold ke;rw[h];rfl
structure Sb (st0:SortSt) (lo:Nat) (st:SortSt):Prop where
 perm:(arrOf st).Perm (arrOf st0)
 same:∀i,i<lo->(arrOf st)[i]?=(arrOf st0)[i]?
 kind:kindOf st=kindOf st0
 fail:failedOf st=failedOf st0
 pend:pendingOf st=pendingOf st0
theorem Sb.rfl' (st0:SortSt) (lo:Nat):Sb st0 lo st0:=⟨Array.Perm.refl _,fun _ _=>rfl,rfl,rfl,rfl⟩
theorem Sb.size {st:SortSt} (B:Sb st0 lo st):(arrOf st).size=(arrOf st0).size:=B.perm.size_eq
theorem Sb.lt (C:Cmp M A E s O ky P kd) {st:SortSt} {i j:Nat} {Q:Option Bool->SortSt->Prop} (kst:kindOf st0=kd) (pa:∀p∈(arrOf st0).toList,P p) (B:Sb st0 lo st) (hi:i<(arrOf st0).size) (hj:j<(arrOf st0).size)
  (h:Q (some (O.blt (ke ky (arrOf st) i) (ke ky (arrOf st) j))) st):wpS M A E s (ltAt' i j) Q st:=by
 obtain⟨p,ep,mp⟩:=j1' (a:=arrOf st) (i:=i) (by rw[B.size];exact hi)
 obtain⟨q,eq,mq⟩:=j1' (a:=arrOf st) (i:=j) (by rw[B.size];exact hj)
 have pm:=Array.perm_iff_toList_perm.mp B.perm
 rw[ltAt'_eq]
 refine wpS_bind (wpS_get ?_)
 refine wpS_bind (g9' ep (wpS_bind (g9' eq (C.lt (pa p (pm.mem_iff.mp mp)) (pa q (pm.mem_iff.mp mq)) (B.kind.trans kst) ?_))))
 rw[mc' ep,mc' eq]at h
 exact h
def Si (ky:Keyed->O.α) (lo:Nat) (a:Array Keyed) (n:Nat):Prop:=∀i j,i<=j->j<n->O.kle (ke ky a (lo+i)) (ke ky a (lo+j))
def Ni (ky:Keyed->O.α) (lo:Nat) (a:Array Keyed) (n:Nat):Prop:=∀i j,i<=j->j<n->O.kle (ke ky a (lo+j)) (ke ky a (lo+i))
theorem Si.more {a:Array Keyed} {n:Nat} (h:Si ky lo a n) (h1:1<=n) (g:O.kle (ke ky a (lo+(n-1))) (ke ky a (lo+n))):Si ky lo a (n+1):=by
 intro i j hij hj
 by_cases c:j<n
 .exact h i j hij c
 .have e:j=n:=by omega
  subst e
  by_cases c2:i=j
  .subst c2;exact KeyOrd.kle_refl _
  .exact KeyOrd.kle_trans (h i (j-1) (by omega) (by omega)) g
theorem Ni.more {a:Array Keyed} {n:Nat} (h:Ni ky lo a n) (h1:1<=n) (g:O.kle (ke ky a (lo+n)) (ke ky a (lo+(n-1)))):Ni ky lo a (n+1):=by
 intro i j hij hj
 by_cases c:j<n
 .exact h i j hij c
 .have e:j=n:=by omega
  subst e
  by_cases c2:i=j
  .subst c2;exact KeyOrd.kle_refl _
  .exact KeyOrd.kle_trans g (h i (j-1) (by omega) (by omega))
end
end So
namespace So
open PySem PySem.Spec PyProof.Rows
section
variable {M:Model} {A:Around} {E:Value->Shared->Prop} {s:Shared} {O:KeyOrd} {ky:Keyed->O.α} {P:Keyed->Prop} {kd:SortKind} {st0:SortSt} {lo nrem:Nat}
end
end So
namespace So
open PySem PySem.Spec PyProof.Rows
def sP (lo n:Nat):StateT SortSt Sem (ForInStep (Option Unit×Nat)):=do
 modify fun s=>setPending s ((pendingOf s).push (lo,n,0))
 pure (ForInStep.yield (none,lo+n))
def sT (z lo n:Nat):StateT SortSt Sem (ForInStep (Option Unit×Nat)):=do
 let st <- get
 match (pendingOf st).back? with
 |some (s1,n1,_)=>do
  let r <- forIn [0:z] ((none,()):Option Unit×Unit) fun _ _=>do
   let st <- get
   match (if(pendingOf st).size > 1 then(pendingOf st)[(pendingOf st).size-2]? else none)with
   |some (_,_,older)=>(if older<=power' z (2*s1+n1) (2*s1+n1+n1+n) z then pure (ForInStep.done (none,()))else mergeAt' ((pendingOf st).size-2) >>= fun b=>if(!b)=true then pure (ForInStep.done (some (),()))else pure (ForInStep.yield (none,())))
   |_=>pure (ForInStep.done (none,()))
  match r.1 with
  |some v=>pure (ForInStep.done (some v,lo))
  |none=>do
   modify fun s=>setPending s ((pendingOf s).modify ((pendingOf s).size-1) fun(x:Nat×Nat×Nat)=>(x.1,x.2.1,power' z (2*s1+n1) (2*s1+n1+n1+n) z))
   sP lo n
 |_=>sP lo n
def sB (z mr lo:Nat):StateT SortSt Sem (ForInStep (Option Unit×Nat)):=
 if lo ≥ z then pure (ForInStep.done (none,lo))else countRun' lo (z-lo) >>= fun x=>match x with
  |some m=>if m<mr then(liftM (rule "list.sort.binary-insertion") >>= fun(_:Unit)=>binarySort' lo (min (z-lo) mr) m >>= fun b=>if(!b)=true then pure (ForInStep.done (some (),lo))else sT z lo (min (z-lo) mr))else sT z lo m
  |_=>pure (ForInStep.done (some (),lo))
section
variable {M:Model} {A:Around} {E:Value->Shared->Prop} {s:Shared} {O:KeyOrd} {ky:Keyed->O.α} {P:Keyed->Prop} {kd:SortKind} {st0:SortSt} {lo nrem:Nat}
inductive Rn (R:Keyed->Keyed->Prop):List (Nat×Nat×Nat)->List (List Keyed)->Nat->Prop
 |nil (a:Nat):Rn R [] [] a
 |cons {a:Nat} (w:Nat) {l:List Keyed} {p:List (Nat×Nat×Nat)} {L:List (List Keyed)}:0<l.length->l.Pairwise R->Rn R p L (a+l.length)->Rn R ((a,l.length,w) :: p) (l :: L) a
theorem Rn.len {R:Keyed->Keyed->Prop}:∀{p:List (Nat×Nat×Nat)} {L:List (List Keyed)} {a:Nat},Rn R p L a->p.length=L.length/\L.length<=L.flatten.length
 |_,_,_,.nil _=>⟨rfl,ag _⟩
 |_,_,_,.cons w h0 hs r=>by
  have⟨h1,h2⟩:=r.len
  refine⟨by simp[h1],?_⟩
  simp only[bo,bV,aD];omega
theorem Rn.push {R:Keyed->Keyed->Prop} {l:List Keyed} (h0:0<l.length) (hs:l.Pairwise R):∀{p:List (Nat×Nat×Nat)} {L:List (List Keyed)} {a:Nat},Rn R p L a->∀b,b=a+L.flatten.length->Rn R (p++[(b,l.length,0)]) (L++[l]) a
 |_,_,a,.nil _,b,e=>by
  have:b=a:=by simpa using e
  subst this
  exact .cons 0 h0 hs (.nil _)
 |_,_,a,.cons w g0 gs r,b,e=>.cons w g0 gs (r.push h0 hs b (by rw[e,bV,aD];omega))
theorem Rn.merge {R:Keyed->Keyed->Prop} {su nu pw sv nv pv:Nat}:∀{p:List (Nat×Nat×Nat)} {L:List (List Keyed)} {a i:Nat},Rn R p L a->p[i]?=some (su,nu,pw)->p[i+1]?=some (sv,nv,pv)->
  ∃L1 l1 l2 L2,L=L1++l1 :: l2 :: L2/\su=a+L1.flatten.length/\nu=l1.length/\sv=su+nu/\nv=l2.length/\0<nu/\0<nv/\l1.Pairwise R/\l2.Pairwise R/\
   ∀m,m.length=nu+nv->m.Pairwise R->Rn R ((p.set i (su,nu+nv,pw)).eraseIdx (i+1)) (L1++m :: L2) a
 |_,_,a,i,.nil _,e,_=>by simp at e
 |_,_,a,0,@Rn.cons _ _ w l p L h0 hs r,e,e2=>by
  have e':(a,l.length,w)=(su,nu,pw):=by simpa using e
  have e2':p[0]?=some (sv,nv,pv):=by simpa using e2
  obtain⟨rfl,rfl,rfl⟩:a=su/\l.length=nu/\w=pw:=by simpa using e'
  cases r with
  |nil _=>simp at e2'
  | @cons _ w2 l2 p2 L2 g0 gs r2=>
   obtain⟨rfl,rfl,rfl⟩:a+l.length=sv/\l2.length=nv/\w2=pv:=by simpa using e2'
   refine⟨[],l,l2,L2,rfl,by simp,rfl,rfl,rfl,h0,g0,hs,gs,fun m hm hsm=>?_⟩
   show Rn R ((a,l.length+l2.length,w) :: p2) (m :: L2) a
   rw[<- hm]
   refine .cons w (by omega) hsm ?_
   rw[hm,<- Nat.add_assoc];exact r2
 |_,_,a,i+1,@Rn.cons _ _ w l p L h0 hs r,e,e2=>by
  have e':p[i]?=some (su,nu,pw):=by simpa using e
  have e2':p[i+1]?=some (sv,nv,pv):=by simpa using e2
  obtain⟨L1,l1,l2,L2,rfl,a1,a2,a3,a4,a5,a6,a7,a8,a9⟩:=r.merge e' e2'
  refine⟨l :: L1,l1,l2,L2,rfl,by rw[a1,bV,aD];omega,a2,a3,a4,a5,a6,a7,a8,fun m hm hsm=>?_⟩
  have:=a9 m hm hsm
  exact .cons w h0 hs this
structure Wt (O:KeyOrd) (ky:Keyed->O.α) (kd:SortKind) (a0:Array Keyed) (st:SortSt) (L:List (List Keyed)) (T:List Keyed):Prop where
 ar:(arrOf st).toList=L.flatten++T
 rn:Rn (Rk O ky) (pendingOf st).toList L 0
 pm:(arrOf st).toList.Perm a0.toList
 kd:kindOf st=kd
 fl:failedOf st=none
theorem Wt.size {a0:Array Keyed} {st:SortSt} {L:List (List Keyed)} {T:List Keyed} (w:Wt O ky kd a0 st L T):(arrOf st).size=a0.size:=by
 have:=w.pm.length_eq;simpa using this
theorem Wt.pa {a0:Array Keyed} {st:SortSt} {L:List (List Keyed)} {T:List Keyed} (w:Wt O ky kd a0 st L T) (pa:∀p∈a0.toList,P p):∀p∈(arrOf st).toList,P p:=fun p hp=>pa p (w.pm.mem_iff.mp hp)
theorem Sb.split {U T:List Keyed} {st:SortSt} {n:Nat} (B:Sb st0 lo st) (e:(arrOf st0).toList=U++T) (hl:U.length=lo) (hn:lo+n<=(arrOf st0).size) (S:Si ky lo (arrOf st) n):
  ∃l T',(arrOf st).toList=U++(l++T')/\l.length=n/\l.Pairwise (Rk O ky):=by
 have hz:(arrOf st).toList.length=(arrOf st0).size:=by rw[aq];exact B.size
 have eU:(arrOf st).toList.take lo=U:=by
  apply bX
  intro i
  by_cases hi:i<lo
  .rw[List.getElem?_take_of_lt hi]
   have h1:=B.same i hi
   have h2:(arrOf st0).toList[i]?=U[i]?:=by rw[e,List.getElem?_append_left (by omega)]
   rw[<- h2];simpa using h1
  .rw[bn (by rw[aP];omega),bn (by omega)]
 refine⟨((arrOf st).toList.drop lo).take n,(arrOf st).toList.drop (lo+n),?_,by rw[aP,cf];omega,?_⟩
 .rw[<- eU,<- j3',bv]
 .rw[ck]
  intro i j hi hj hij
  have hj':j<n:=by rw[aP]at hj;omega
  have:=S i j (by omega) hj'
  have a1:(arrOf st)[lo+i]?=some (((arrOf st).toList.drop lo).take n)[i]:=by
   rw[List.getElem_take,cQ,aA (by simp at hz;omega)];simp
  have a2:(arrOf st)[lo+j]?=some (((arrOf st).toList.drop lo).take n)[j]:=by
   rw[List.getElem_take,cQ,aA (by simp at hz;omega)];simp
  rw[mc' a1,mc' a2]at this
  exact this
end
end So
namespace So
open PySem PySem.Spec PyProof.Rows
section
variable {M:Model} {A:Around} {E:Value->Shared->Prop} {s:Shared} {O:KeyOrd} {ky:Keyed->O.α} {P:Keyed->Prop} {kd:SortKind}
end
end So
namespace L2
open PySem PySem.Spec PyProof.Rows So
section
variable {prog:Program} {w:World} {A:Around} {E:Value->Shared->Prop} {s:Shared}
end
section
variable {X:Cx}
end
abbrev Itm:Type:=Int ⊕ PySem.Str
def yD':Itm->Itm->Bool
 | .inl i,.inl j=>decide (i<j)
 | .inl _,.inr _=>true
 | .inr _,.inl _=>false
 | .inr x,.inr y=>decide (x.cps.toList<y.cps.toList)
def ss':List Itm->List Itm->Bool
 | [],[]=>false
 | [],_ :: _=>true
 |_ :: _,[]=>false
 |a :: l,b :: m=>if a=b then ss' l m else yD' a b
def yE':Itm->Value->Prop
 | .inl i,v=>∃t,v=.int i t
 | .inr x,v=>∃t,v=.str x t
inductive ItsAre:List Value->List Itm->Prop
 |nil:ItsAre [] []
 |cons {v:Value} {a:Itm} {vs:List Value} {l:List Itm}:yE' a v->ItsAre vs l->ItsAre (v :: vs) (a :: l)
theorem ItsAre.len:∀{vs:List Value} {l:List Itm},ItsAre vs l->vs.length=l.length
 |_,_,.nil=>rfl
 |_,_,.cons _ r=>by simp[r.len]
section
variable {prog:Program} {w:World} {A:Around} {E:Value->Shared->Prop} {s:Shared}
end
section
variable {X:Cx}
end
end L2
namespace L2
open PySem PySem.Spec PyProof.Rows PySem.Ts
def Trk (H:Hp) (L:List (List Int×Addr)):Prop:=∀q∈L,H q.2=some (.tup (q.1.map V.int))
section
variable {X:Cx}
def xQ' (a:List (List Int×Addr)) (k:List Int) (b:Addr):List (List Int×Addr):=if k∈a.map (·.1)then a else a++[(k,b)]
def su' (te:TE):TL (List (List Int×Addr)):=fun σ a H N=>te σ H fun v H'=>∃(k:List Int) (b:Addr),v=.ref b/\H' b=some (.tup (k.map V.int))/\Trk H' a/\a.length<4000/\N (xQ' a k b) H'
variable {e:Expr} {scope:Scope} {tg iter:Expr} {ifs:List Expr} {nx:Addr->Env->Sem Unit} {g:TG} {tc:TT} {aw':TL (List (List Int×Addr))} {own:List Nat} {wi:TI}
end
section
variable {X:Cx} {env:Env}
def Fr {α:Type} (t:Sem α):Prop:=∀(M:Model) (Γ:PySem.Ctx) (Q:α->Pos->Shared->Prop) (E:Value->Pos->Shared->Prop) (p:Pos) (s:Shared),Sem.wp M Γ t Q E p s->Sem.wp M Γ t (fun a p' s'=>1<=s'.toks/\Q a p' s') E p s
theorem Fr.bindL {α β:Type} {m:Sem α} {f:α->Sem β} (h:Fr m):Fr (m >>= f):=by
 intro M Γ Q E p s q
 rw[Sem.wp_bind']at q ⊢
 refine Sem.wp_mono M Γ m (fun a p' s' z=>?_) (fun _ _ _ z=>z) p s (h M Γ _ E p s q)
 exact Sem.wp_mono M Γ (f a) (fun _ _ _ z=>z) (fun _ _ _ z=>z.2) p' s' (Sem.wp_toks M Γ 1 (f a) Q E p' s' z.1 z.2)
theorem Fr.any {α:Type} {M:Model} {A:Around} {t:Sem α} {Q:α->Shared->Prop} {E:Value->Shared->Prop} {s:Shared} (h:Fr t) (q:wpAny M A t Q E s):wpAny M A t (fun a s'=>1<=s'.toks/\Q a s') E s:=fun Γ p hΓ=>h M Γ _ _ p s (q Γ p hΓ)
end
theorem v3' {P:Program} {w:World} {k:Key} {u:Value} (h:(al' P w).is k u=true):av' (kV k) u:=by
 rcases aB' (show gc' k u=true from h)with⟨i,t,rfl,rfl⟩|⟨x,t,rfl,rfl⟩|⟨rfl,rfl⟩
 .exact⟨t,rfl⟩
 .exact⟨t,rfl⟩
 .exact rfl
theorem e9':∀{xs:List V} {us:List Value},xs.length=us.length->(∀(i:Nat) x u,xs[i]?=some x->us[i]?=some u->av' x u)->aA' xs us
 | [],[],_,_=>.nil
 |x :: xs,u :: us,hl,h=>.cons (h 0 x u rfl rfl) (e9' (by simpa using hl) fun i x' u' h1 h2=>h (i+1) x' u' (by simpa using h1) (by simpa using h2))
 | [],_ :: _,hl,_=>by simp at hl
 |_ :: _,[],hl,_=>by simp at hl
theorem v4' {kvs:List (Key×V)} {vs:List (Key×Value)} (r:KV kvs vs):∀{i:Nat} {kv:Key×V} {p:Key×Value},kvs[i]?=some kv->vs[i]?=some p->kv.1=p.1/\av' kv.2 p.2:=by
 induction r with
 |nil=>intro i kv p h;simp at h
 |cons h r ih=>
  intro i kv p h1 h2
  cases i with
  |zero=>cases h1;cases h2;exact h
  |succ i=>exact ih (by simpa using h1) (by simpa using h2)
section
variable {X:Cx}
end
section
variable {prog:Program} {w:World} {A:Around} {E:Value->Shared->Prop} {s:Shared}
theorem md' {q dd:Addr} {j ep:Nat} {od:Obj} {es:Array DictEntry} {en:DictEntry} {Q:Option Value->Shared->Prop} (hq:s.heap.IsKeyIter q dd j es.size ep) (g1:s.heap.get? dd=some od) (g2:od.data=.dict es ep) (hx:es[j]?=some en)
  (hQ:∀h',h'.IsKeyIter q dd (j+1) es.size ep->br q s.heap h'->Q (some en.key) { s with heap:=h' }):wpAny (model prog w) A (pyNext (.ref q)) Q E s:=by
 obtain⟨oq,e1,e2,e3⟩:=id hq
 unfold pyNext
 refine aa (bH (aH (name:=Str.ofString "__next__") hq.typeIs F.slot_dict_keyiterator_next (aK F.slot_dict_keyiterator_next hq.typeIs F.entry_dict_keyiterator_next ?_ (F.args_dict_keyiterator_next_1 _))))
 refine aa (ab (aa (aa ?_)))
 first|refine aa (bO hq.typeIs (ab ?_))|refine aa (cx hq.typeIs (ab ?_))
 refine aa (wpAny_fieldsOf e1 e3 ?_)
 have own0:Builtin.Dict_items.ownsTuple "dict_keyiterator"=false:=by decide
 simp only[own0,bc,if_false]
 show wpAny _ _ (if(Value.ref dd == Value.none)=true then _ else _) _ _ s
 rw[if_neg (show ¬((Value.ref dd == Value.none)=true) from al)]
 refine aa (ab (aa (bY g1 g2 ?_)))
 rw[if_neg (by simp)]
 refine aa (ab (aa (cw g1 g2 ?_)))
 rw[if_neg (by simp)]
 refine ab ?_
 simp only[show ¬((j:Int)<0) from by omega,if_false,ba,hx]
 refine aa ?_
 first|refine aa (bO hq.typeIs (ab ?_))|refine aa (cx hq.typeIs (ab ?_))
 refine aa (wpAny_isOneOf_keyiter hq.typeIs ?_)
 show wpAny _ _ (setField (.ref q) 1 (rawInt ((j:Int)+1)) >>= _) _ _ s
 refine aa (cC e1 e3 (by simp) ?_)
 have hq':(s.heap.update q (Obj.mapFields (·.setIfInBounds 1 (rawInt ((j:Int)+1))))).IsKeyIter q dd (j+1) es.size ep:=
  ⟨_,aR _ e1 (Obj.isFreed_of_fields (Obj.data_mapFields e3 _)),(Obj.cls_mapFields ..).trans e2,by rw[Obj.data_mapFields e3];simp[rawInt]⟩
 refine aa (aE ?_)
 refine aa (wpAny_isOneOf_keyiter (s:={ s with heap:=s.heap.update q (Obj.mapFields (·.setIfInBounds 1 (rawInt ((j:Int)+1)))) }) hq'.typeIs ?_)
 show wpAny _ _ (pure en.key) _ _ _
 exact ab (ab ⟨_,rfl,ab (hQ _ hq' (Heap.SameBut.update ..))⟩)
theorem pg' {q dd:Addr} {j ep:Nat} {od:Obj} {es:Array DictEntry} {Q:Option Value->Shared->Prop} (hh:A.handled=none) (hq:s.heap.IsKeyIter q dd j es.size ep) (g1:s.heap.get? dd=some od) (g2:od.data=.dict es ep) (hx:es.size<=j)
  (hQ:∀h',Heap.ExtBut q s.heap h'->Q none { s with heap:=h' }):wpAny (model prog w) A (pyNext (.ref q)) Q E s:=by
 obtain⟨oq,e1,e2,e3⟩:=id hq
 unfold pyNext
 refine aa (bH (aH (name:=Str.ofString "__next__") hq.typeIs F.slot_dict_keyiterator_next (aK F.slot_dict_keyiterator_next hq.typeIs F.entry_dict_keyiterator_next ?_ (F.args_dict_keyiterator_next_1 _))))
 refine aa (ab (aa (aa ?_)))
 first|refine aa (bO hq.typeIs (ab ?_))|refine aa (cx hq.typeIs (ab ?_))
 refine aa (wpAny_fieldsOf e1 e3 ?_)
 have own0:Builtin.Dict_items.ownsTuple "dict_keyiterator"=false:=by decide
 simp only[own0,bc,if_false]
 show wpAny _ _ (if(Value.ref dd == Value.none)=true then _ else _) _ _ s
 rw[if_neg (show ¬((Value.ref dd == Value.none)=true) from al)]
 refine aa (ab (aa (bY g1 g2 ?_)))
 rw[if_neg (by simp)]
 refine aa (ab (aa (cw g1 g2 ?_)))
 rw[if_neg (by simp)]
 refine ab ?_
 simp only[show ¬((j:Int)<0) from by omega,if_false,ba,cF hx]
 refine aa ?_
 first|refine aa (bO hq.typeIs (ab ?_))|refine aa (cx hq.typeIs (ab ?_))
 show wpAny _ _ (setField (.ref q) 0 .none >>= _) _ _ s
 refine aa (cC e1 e3 (by simp) ?_)
 show wpAny _ _ (newExc (.type "StopIteration") [] >>= _) _ _ _
 refine aa ?_
 simp only[newExc,newTuple]
 refine aa (aI ?_ (by size_fits))
 refine aa (m:=firstArgMember _ _) (bA (a:=Value.none) (by first|rfl|(simp only[firstArgMember];rfl)) ?_)
 refine aI ?_ (by size_fits)
 simp only[raiseNew]
 refine aa (wpAny_handled ?_)
 rw[show A.in1.handled=none from hh]
 refine aa (ab (wpAny_throw ?_))
 refine aa (bM (T:="StopIteration") (b:=true) ⟨_,ai _ rfl,rfl⟩ isSubtype_stop ?_)
 exact ab (hQ _ (((Heap.SameBut.update ..).extBut.push _).push _))
theorem me' {dd:Addr} {ep:Nat} {od:Obj} {es:Array DictEntry} {Q:Value->Shared->Prop} (hd:(dd == sysModules)=false) (hT:s.TypeIs (.ref dd) "dict") (g1:s.heap.get? dd=some od) (g2:od.data=.dict es ep)
  (hQ:Q (.ref s.heap.objs.size) { s with heap:=s.heap.push { cls:=.type "dict_keyiterator",data:=.fields #[.ref dd,.int 0 0,.int es.size 0,.int ep 0] } }):wpAny (model prog w) A (pyIter (.ref dd)) Q E s:=by
 refine wpAny_pyIter_slot hT F.slot_dict_iter (aK F.slot_dict_iter hT F.entry_dict_iter ?_ (F.args_dict_iter_1 _))
 unfold Builtin.«dict.__iter__»
 refine aa ?_
 unfold Builtin.Dict.dictSlotNone
 refine aa (wpAny_notOrdered_dict hT ?_)
 show wpAny _ _ (pure (Value.ref dd)) _ _ s
 refine ab ?_
 show wpAny _ _ (Builtin.Dict.showsAll dd >>= _) _ _ s
 unfold Builtin.Dict.showsAll
 rw[if_neg (by rw[hd];exact al)]
 refine aa (ab (aa (bY g1 g2 (aa (cw g1 g2 ?_)))))
 refine aa (aI (ab ⟨_,rfl,"dict_keyiterator",_,⟨_,ai _ rfl,rfl⟩,F.slot_dict_keyiterator_next.lookup,?_⟩))
 simpa[rawInt]using hQ
end
def Fz (H:Hp) (d:Addr) (o:Obj):Prop:=∃u,H d=some (.frz o u)
def KsO (o:Obj) (ks:List V):Prop:=∃es ep,o.data=.dict es ep/\aA' ks (es.toList.map (·.key))
def nQ' (d:Addr) (o:Obj) (ks:List V):It:=⟨fun i H=>i<ks.length/\Fz H d o,fun i H x H'=>H'=H/\ks[i]?=some x,fun i H=>ks.length<=i/\Fz H d o⟩
theorem Fz.at {P:Program} {w:World} {H:Hp} {h:Heap} {d:Addr} {o:Obj} (f:Fz H d o) (x:HOk P w H h):h.get? d=some o:=let⟨u,e⟩:=f;(x d _ e).1
theorem j4' {P:Program} {w:World} {K:W.Frag} {tg:Expr} (it d:Addr) {o:Obj} {ks:List V} {es:Array DictEntry} {ep:Nat} (hd:o.data=.dict es ep) (hv:aA' ks (es.toList.map (·.key))):Turn P w K tg (nQ' d o ks) [it] it (fun i h=>h.IsKeyIter it d i es.size ep) where
 mem:=by simp
 obj:=fun i h st b hb=>by
  have e:b=it:=by simpa using hb
  subst e
  obtain⟨ob,e,c,dt⟩:=st
  exact⟨ob,e,fun v z=>by rw[dt]at z;cases z⟩
 keep:=fun i h h' st k=>st.at fun ob e=>k it (by simp) ob e
 item:=by
  intro X hP hw hK hc i pins s σ H E I hf st hg
  subst hP hw hK
  obtain⟨hi,hz⟩:=hg
  have hx:ks[i]?=some ks[i]:=ae hi
  obtain⟨u,hu,ru⟩:=hv.get hx
  rw[aC]at hu
  obtain⟨en,he,rfl⟩:=cG.mp hu
  obtain⟨f0,f1,f2,f3,f4,f5⟩:=hf it (by simp)
  refine md' st (hz.at I.hok) hd (by simpa using he) fun h' st' sb=>?_
  have I1:Inv X pins σ H { s with heap:=h' }:=I.turned (t':=s.toks) (fun b o hb e=>(sb.2 b hb).trans e) f0 f1 f3 f4 f5
  obtain⟨ob,e1,c,dt⟩:=id st'
  exact⟨_,rfl,iL' (s:={ s with heap:=h' }) e1 c dt (by decide) ⟨_,H,I1,ru,⟨rfl,hx⟩,st',fun b hb=>(hf b hb).1⟩⟩
 done:=by
  intro X hP hw hK hc i pins s σ H E I hf st hg
  subst hP hw hK
  obtain⟨hi,hz⟩:=hg
  obtain⟨f0,f1,f2,f3,f4,f5⟩:=hf it (by simp)
  have hl:ks.length=es.size:=by have:=hv.length;simpa using this
  exact pg' (I.ok.hd hc) st (hz.at I.hok) hd (by omega) fun h' eb=>⟨rfl,I.turned (t':=s.toks) (fun b o hb e=>eb b o hb e) f0 f1 f3 f4 f5⟩
 self:=fun _ _ _ _ _ st h=>wpAny_pyIter_keyiter st h
section
variable {X:Cx} {tg:Expr}
theorem HOk.freeze {P:Program} {w:World} {H:Hp} {h:Heap} {d:Addr} {u:HO} {o:Obj} (x:HOk P w H h) (e:H d=some u) (hu:Mut (some u)) (ho:h.get? d=some o):HOk P w (upd H d (.frz o u)) h:=fun b v q=>by
 have ntup:∀c xs,H c=some (.tup xs)->c≠d:=fun c xs r z=>by subst z;rw[r]at e;cases e;exact hu
 have nown:∀c y,H c=some (.own y)->c≠d:=fun c y r z=>by subst z;rw[r]at e;cases e;exact hu
 have st:∀a v,as' P w H h a v->as' P w (upd H d (.frz o u)) h a v:=fun a v y=>y.stay (fun _ _ _ q=>q) (fun c r=>by rw[ad' (nown c a r)];exact r) fun c xs r=>by rw[ad' (ntup c xs r)];exact r
 by_cases hb:b=d
 .subst hb;rw[ab']at q;cases q;exact⟨ho,st _ _ (x _ _ e)⟩
 .rw[ad' hb]at q;exact st _ _ (x b v q)
theorem Inv.freeze {pins:List (Addr×Obj)} {σ:St} {H:Hp} {s:Shared} {d:Addr} {u:HO} {o:Obj} (I:Inv X pins σ H s) (e:H d=some u) (hu:Mut (some u)) (ho:s.heap.get? d=some o):Inv X pins σ (upd H d (.frz o u)) s:=by
 have:=I.step (h':=s.heap) (g':=s.gens) (d':=s.drawn) (t':=s.toks) (ch:=[]) (H':=upd H d (.frz o u)) (fun _ z=>nomatch z) (fun b o _ _ _ q _=>q) (fun b o _ _ _ q _=>⟨o.slots,q⟩)
  (fun b o _ _ n=>by rw[ad' (fun z=>by subst z;rw[n]at e;cases e)];exact n) (fun b o _ q=>⟨o,q⟩)
  (fun b xs q=>by rw[ad' (fun z=>by subst z;rw[q]at e;cases e;exact hu)];exact q)
  (fun b o v q=>by rw[ad' (fun z=>by subst z;rw[q]at e;cases e;exact hu)];exact q)
  (fun b ps q=>⟨#[],by rw[ad' (fun z=>by subst z;rw[q]at e;cases e;exact hu),Array.append_empty];exact q⟩)
  (fun m n=>n) (I.hok.freeze e hu ho) I.bare
 exact this
def DkV (x:V) (H1:Hp) (R:It->Hp->Prop):Prop:=∃d kvs,x=.ref d/\Rd H1 d (.dK kvs)/\∀o,KsO o (kvs.map fun kv=>kV kv.1)->R (nQ' d o (kvs.map fun kv=>kV kv.1)) (upd H1 d (.frz o (.dK kvs)))
def DtV (x:V) (H1:Hp) (R:It->Hp->Prop):Prop:=∃d kvs,x=.ref d/\Rd H1 d (.dT kvs)/\∀o (as:List Addr),as.length=kvs.length->(∀(i:Nat) a kv,as[i]?=some a->kvs[i]?=some kv->H1 a=some (.tup (kv.1.map kV)))->KsO o (as.map V.ref)->R (nQ' d o (as.map V.ref)) (upd H1 d (.frz o (.dT kvs)))
def DnV (x:V) (H1:Hp) (R:It->Hp->Prop):Prop:=∃d L,x=.ref d/\H1 d=some (gq' d L)/\o8' H1 L/\∀o,KsO o (L.map nkV)->R (nQ' d o (L.map nkV)) (upd H1 d (.frz o (gq' d L)))
def v5' (tl:TE):TI:=fun σ H R=>tl σ H fun x H1=>DkV x H1 R\/DtV x H1 R\/DnV x H1 R
set_option tactic.hygienic true in
theorem mf' {H:Hp} {d:Addr} {u:HO} (e:H d=some u):upd H d u=H:=by
 funext b;unfold upd;split
 .rename_i z;rw[z,e]
 .rfl
theorem fa' {pins:List (Addr×Obj)} {σ:St} {H1:Hp} {s1:Shared} {d:Addr} {u:HO} {R:It->Hp->Prop} {ks:List V} {o:Obj} {es:Array DictEntry} {ep:Nat} (I1:Inv X pins σ H1 s1) (hr:Rd H1 d u) (hu:Mut (some u)) (hs:(d == sysModules)=false) (hT:s1.TypeIs (.ref d) "dict")
  (ho:s1.heap.get? d=some o) (hd:o.data=.dict es ep) (hv:aA' ks (es.toList.map (·.key))) (q:∀o,KsO o ks->R (nQ' d o ks) (upd H1 d (.frz o u))):wpAny (model X.prog X.w) X.A (pyIter (.ref d)) (PIE X pins σ tg R) X.xe s1:=by
 have I2:Inv X pins σ (upd H1 d (.frz o u)) s1:=by
  rcases hr with e|⟨o',e⟩
  .exact I1.freeze e hu ho
  .have:=(I1.hok d _ e).1
   rw[ho]at this
   cases this
   rw[mf' e];exact I1
 refine me' hs hT ho hd ?_
 refine⟨s1.heap.objs.size,[s1.heap.objs.size],_,_,upd H1 d (.frz o u),rfl,I2.kept (t':=s1.toks) (fun b o e=>ac _ e),j4' _ d hd hv,⟨_,ai _ rfl,rfl,rfl⟩,fun b hb=>?_,q o ⟨es,ep,hd,hv⟩⟩
 have e:b=s1.heap.objs.size:=by simpa using hb
 subst e
 exact I2.fpOk (ag _) (I2.hok.fresh (ag _))
theorem sv' {l:Expr} {tl:TE} (hl:PE X l tl):PI X tg l (v5' tl):=by
 intro pins s σ H R I h
 refine thn (hl pins s σ H _ I h) fun v s1 ⟨x,H1,I1,r1,q1⟩=>?_
 rcases q1 with⟨d,kvs,rfl,hr,q⟩|⟨d,kvs,rfl,hr,q⟩|⟨d,L,rfl,hD,ht,q⟩
 .cases r1
  obtain⟨z,hs,vs,rel,dd⟩:=(show as' X.prog X.w H1 s1.heap d (.dK kvs) from hr.ok I1.hok)
  obtain⟨o,es,ep,ho,hc,hdat,hk,hp,hn⟩:=id dd
  refine fa' I1 hr trivial hs dd.typeIs ho hdat (e9' ?_ ?_) q
  .have h1:=rel.length
   have h2:=hp.length
   rw[ah,ah]
   omega
  .intro i x u hx hu
   rw[aC]at hx hu
   obtain⟨kv,hkv,rfl⟩:=cG.mp hx
   obtain⟨en,hen,rfl⟩:=cG.mp hu
   obtain⟨p,hpv⟩:∃p,vs[i]?=some p:=by
    have h1:=rel.length
    obtain⟨hl,_⟩:=aM.mp hkv
    exact⟨vs[i]'(by omega),ae _⟩
   have e:=(v4' rel hkv hpv).1
   rw[e]
   exact v3' (hp.get? hen hpv).1
 .cases r1
  obtain⟨z,hs,xs,rel,o,es,ep,ho,hc,hdat,he,hn⟩:=(show as' X.prog X.w H1 s1.heap d (.dT kvs) from hr.ok I1.hok)
  have hT:s1.TypeIs (.ref d) "dict":=⟨o,ho,hc.1⟩
  have hl:xs.length=kvs.length:=rel.length.symm
  refine fa' I1 hr trivial hs hT ho hdat (ks:=(xs.map fun x=>x.2.1).map V.ref) (e9' ?_ ?_) fun o' ho'=>q o' (xs.map fun x=>x.2.1) (by rw[ah];exact hl) (fun i a kv ha hkv=>?_) ho'
  .rw[he];simp
  .intro i x u hx hu
   rw[he,aC,aC]at hu
   rw[aC,aC]at hx
   cases e:xs[i]? with
   |none=>rw[e]at hx;simp at hx
   |some p=>
    rw[e]at hx hu
    simp at hx hu
    rw[<- hx,<- hu]
    rfl
  .rw[aC]at ha
   obtain⟨p,hp,rfl⟩:=cG.mp ha
   have key:∀{l:List (List Key×V)} {m:List (List Key×Addr×Value)},Paired (fun(p:List Key×V) (q:List Key×Addr×Value)=>p.1=q.1/\H1 q.2.1=some (.tup (p.1.map kV))/\av' p.2 q.2.2) l m->∀(i:Nat) kv p,l[i]?=some kv->m[i]?=some p->H1 p.2.1=some (.tup (kv.1.map kV)):=by
    intro l m r
    induction r with
    |nil=>intro i kv p h;simp at h
    |cons h r ih=>
     intro i kv p h1 h2
     cases i with
     |zero=>cases h1;cases h2;exact h.2.1
     |succ i=>exact ih i kv p (by simpa using h1) (by simpa using h2)
   exact key rel i kv p hkv hp
 .cases r1
  obtain⟨hs,_,_,_,o,es,ep,ho,hex,hdat,m⟩:=gt' I1 hD ht
  have hes:es.toList=L.map vb':=m.its.trans e1'
  refine fa' I1 (.inl hD) True.intro hs (jx' ho hex) ho hdat (ks:=L.map nkV) (e9' (by rw[hes];simp) fun i x u hx hu=>?_) q
  rw[hes,aC,aC]at hu
  rw[aC]at hx
  cases e:L[i]? with
  |none=>rw[e]at hx;cases hx
  |some z=>
   rw[e]at hx hu
   cases hx
   cases hu
   cases z<;>rfl
end
section
variable {X:Cx} {pos:Pos}
def v6' (K:W.Frag) (n:Nat) (t:TGs):TG:=fun v σ H Q=>∃a xs,v=.ref a/\(SqT K H a xs\/SqL K H a xs)/\xs.length=n/\t xs σ H Q
theorem sw' {es:List Expr} {k:Nat} {t:TGs} {n:Nat} (hc:X.calm=true) (h:PGs X es t)
  (hn:(assignEach es X.env).length=n:=by rfl) (hst:(assignEach es X.env).findIdx? (·.1)=none:=by rfl):PG X (.Tuple es k pos) (v6' X.K n t):=by
 intro pins s σ H v u Q I r hw
 obtain⟨a,xs,e1,hq,hl,hw⟩:=hw
 rcases hq with hq|hq
 .exact rb' hc h hn hst pins s σ H v u Q I r ⟨a,xs,e1,hq,hl,hw⟩
 .subst e1
  cases r
  obtain⟨its,rv,pl,hz⟩:=I.list hq
  rw[assign_Tuple]
  refine aa (cy ?_)
  unfold unpack
  rw[hn,hst]
  have e:n=its.toArray.size:=by simp[<- hl,rv.length]
  rw[e]
  refine aa (aE (W.kun_itemsOf (I.ok.hd hc) pl.isList fun h' hx=>?_))
  have I1:Inv X pins σ H { s with heap:=h' }:=I.kept (t':=s.toks) fun b o e=>hx b o (ay (ap e)) e
  exact h pins _ σ H xs _ Q I1 (by simpa using rv) hw
end
section
variable {prog:Program} {w:World} {A:Around} {E:Value->Shared->Prop} {s:Shared} {K:Type} [DecidableEq K] {knd:HeapKind prog w K} {d:Addr}
end
section
variable {X:Cx}
end
end L2
namespace L2
open PySem PySem.Spec PyProof.Rows PySem.SeqAt
section
variable {prog:Program} {w:World} {d:Addr} {o:Obj} {es:Array DictEntry} {ep:Nat}
end
section
variable {X:Cx}
end
def Pw {α:Type} (R:V->α->Prop) (vs:List V) (as:List α):Prop:=vs.length=as.length/\∀(i:Nat) v a,vs[i]?=some v->as[i]?=some a->R v a
def LsR (H:Hp) {α:Type} (R:V->α->Prop) (v:V) (as:List α):Prop:=∃p vs,v=.ref p/\H p=some (.lst vs)/\Pw R vs as
def TpI (H:Hp) (v:V) (ns:List Int):Prop:=∃p,v=.ref p/\H p=some (.tup (ns.map V.int))
def vf' {α:Type} (R:V->α->Prop):Prop:=∀x a b,R x a->R x b->a=b
theorem Pw.fun1 {α:Type} {R:V->α->Prop} (hR:vf' R) {vs:List V} {as bs:List α} (h1:Pw R vs as) (h2:Pw R vs bs):as=bs:=by
 apply bX
 intro i
 by_cases hi:i<vs.length
 .have g:=ae hi
  have g1:=ae (show i<as.length by rw[<- h1.1];exact hi)
  have g2:=ae (show i<bs.length by rw[<- h2.1];exact hi)
  rw[g1,g2,hR _ _ _ (h1.2 i _ _ g g1) (h2.2 i _ _ g g2)]
 .rw[bn (by rw[<- h1.1];omega),bn (by rw[<- h2.1];omega)]
theorem LsR.fun1 {H:Hp} {α:Type} {R:V->α->Prop} (hR:vf' R):vf' (LsR H R):=by
 rintro x a b ⟨p,vs,rfl,e,h⟩ ⟨q,ws,z,e',h'⟩
 cases z
 rw[e]at e'
 cases e'
 exact h.fun1 hR h'
theorem TpI.fun1 {H:Hp}:vf' (TpI H):=by
 rintro x a b ⟨p,rfl,e⟩ ⟨q,z,e'⟩
 cases z
 rw[e]at e'
 exact dV' (by injection e' with e';injection e' with e')
section
variable {X:Cx} {pins:List (Addr×Obj)} {σ:L2.St} {H:Hp} {s:Shared}
end
end L2
namespace L2
open PySem PySem.Spec PyProof.Rows PySem.Ts PySem.SeqAt
section
variable {prog:Program} {w:World} {A:Around} {E:Value->Shared->Prop} {s:Shared} {T:String} {r d:Addr} {n:Nat} {P:Nat->Value->Prop} {OK:Heap->Prop}
end
section
variable {X:Cx}
end
section
variable {prog:Program} {w:World} {A:Around} {E:Value->Shared->Prop} {s:Shared}
theorem c3' {M:Model} {a:Addr} {Q:Option Obj->Shared->Prop} (h:Q (s.heap.get? a) s):wpAny M A (loadIfAlive a) Q E s:=fun Γ p _=>by
 show Sem.wp M Γ (Sem.loadIfAlive a Sem.pure) _ _ p s
 rw[Sem.wp_loadIfAlive]
 exact h
def ph' (h:Heap) (z TI TO:Addr) (f0 f1:Value):Prop:=h.get? z=some { cls:=.type "zip",data:=.fields #[f0,f1,.bool false,.ref TI,.ref TO] }
theorem ha' {b1:Bool} {z TI TO T:Addr} {oT:Obj} {Q:Bool->Shared->Prop} (hz:ph' s.heap z TI TO (rawInt T) (.bool b1)) (hT:s.heap.get? T=some oT)
  (hQ:∀h',ph' h' z TI TO (rawInt T) (.bool true)->br z s.heap h'->Q false { s with heap:=h' }):wpAny (model prog w) A (Builtin.SmallTypes.ownedTupleIsFree (.ref z)) Q E s:=by
 unfold Builtin.SmallTypes.ownedTupleIsFree
 refine aa (aJ hz rfl (x:=rawInt T) rfl ?_)
 have eT:((T:Int)).toNat=T:=ba T
 simp only[rawInt]
 rw[eT]
 refine aa (c3' ?_)
 rw[hT]
 simp only[Option.isNone_some,bc,if_false]
 refine aa (aJ hz rfl (x:=.bool b1) rfl ?_)
 cases b1 with
 |true=>
  rw[if_neg (by decide)]
  exact ab (hQ s.heap hz ⟨rfl,fun _ _=>rfl⟩)
 |false=>
  rw[if_pos (by decide)]
  refine aa (bL hz (by simp) fun h' hz' hs'=>ab (hQ h' hz' hs'))
theorem j5' {k j b1:Bool} {z TI TO i1 i2 l1 l2 T:Addr} {k1 k2:Nat} {xs ys:Array Value} {x y:Value} {oT:Obj} {Q:Option Value->Shared->Prop} (D:ZipApart z TI TO i1 i2 l1 l2)
  (hz:ph' s.heap z TI TO (rawInt T) (.bool b1)) (hT:s.heap.get? T=some oT) (hTI:IsPair s.heap TI (.ref i1) (.ref i2))
  (h1:ce' k s.heap i1 l1 k1) (h2:ce' j s.heap i2 l2 k2) (hl1:dL' k s.heap l1 xs) (hl2:dL' j s.heap l2 ys) (hx:xs[k1]?=some x) (hy:ys[k2]?=some y)
  (hQ:∀h',ph' h' z TI TO (rawInt T) (.bool true)->ce' k h' i1 l1 (k1+1)->ce' j h' i2 l2 (k2+1)->IsPair h' s.heap.objs.size x y->h'.objs.size=s.heap.objs.size+1->
   (∀c o,c≠z->c≠i1->c≠i2->s.heap.get? c=some o->h'.get? c=some o)->Q (some (.ref s.heap.objs.size)) { s with heap:=h' }):
  wpAny (model prog w) A (pyNext (.ref z)) Q E s:=by
 have hTz:s.TypeIs (.ref z) "zip":=⟨_,hz,rfl⟩
 unfold pyNext
 refine aa (bH (aH (name:=Str.ofString "__next__") hTz F.slot_zip_next
  (aK F.slot_zip_next hTz F.entry_zip_next ?_ (F.args_zip_next_1 _))))
 show wpAny _ _ (field (.ref z) 2 >>= _) _ _ _
 refine aa (aJ hz rfl (x:=.bool false) rfl ?_)
 show wpAny _ _ (field (.ref z) 3 >>= _) _ _ _
 refine aa (aJ hz rfl (x:=.ref TI) rfl ?_)
 refine aa (bx hTI rfl ?_)
 show wpAny _ _ (Builtin.SmallTypes.ownedTupleIsFree (.ref z) >>= _) _ _ _
 refine aa (ha' hz hT fun h₁ hz₁ hs₁=>?_)
 simp only[bc,if_false]
 rw[<- Array.forIn_toList]
 simp only[cN,cD]
 have hTI₁:IsPair h₁ TI (.ref i1) (.ref i2):=hs₁.extBut _ _ D.TIz hTI
 refine aa (aa (aa (aE ?_)))
 show wpAny _ _ (Builtin.SmallTypes.nextOf (.ref i1) >>= _) _ _ _
 refine aa (bb' (s:={ s with heap:=h₁ }) (h1.at fun o e=>hs₁.extBut _ _ D.i1z e) (hl1.at fun o e=>hs₁.extBut _ _ D.l1z e) hx fun h₂ h1₂ hs₂=>ab ?_)
 refine ab ?_
 dsimp only
 refine aa (aa (aE ?_))
 show wpAny _ _ (Builtin.SmallTypes.nextOf (.ref i2) >>= _) _ _ _
 refine aa (bb' (s:={ s with heap:=h₂ }) (h2.at fun o e=>hs₂.extBut _ _ D.i12.symm (hs₁.extBut _ _ D.i2z e)) (hl2.at fun o e=>hs₂.extBut _ _ D.l2i1 (hs₁.extBut _ _ D.l2z e)) hy fun h₃ h2₃ hs₃=>ab ?_)
 refine ab ?_
 dsimp only
 refine ab ?_
 dsimp only
 refine aa (wpAny_newTuple (hsz:=by show 2<=sizeLine;decide) ?_)
 have hsz:h₃.objs.size=s.heap.objs.size:=by rw[hs₃.1,hs₂.1,hs₁.1]
 refine ab ⟨_,rfl,ab ?_⟩
 show Q (some (.ref h₃.objs.size)) _
 rw[hsz]
 have up:∀c o,h₃.get? c=some o->(h₃.push { cls:=.type "tuple",data:=.seq #[x,y] }).get? c=some o:=fun c o e=>ac _ e
 refine hQ _ (up _ _ (hs₃.extBut _ _ D.i2z.symm (hs₂.extBut _ _ D.i1z.symm hz₁))) (h1₂.at fun o e=>up _ _ (hs₃.extBut _ _ D.i12 e)) (h2₃.at fun o e=>up _ _ e) ?_ (by rw[aS,hsz]) fun c o c1 c2 c3 e=>up _ _ (hs₃.extBut _ _ c3 (hs₂.extBut _ _ c2 (hs₁.extBut _ _ c1 e)))
 have:=ai h₃ (o:={ cls:=.type "tuple",data:=.seq #[x,y] }) rfl
 rw[hsz]at this
 exact this
theorem mg' {k j b1:Bool} {z TI TO i1 i2 l1 l2 T:Addr} {k1 k2:Nat} {xs ys:Array Value} {oT:Obj} {Q:Option Value->Shared->Prop} (hh:A.handled=none) (D:ZipApart z TI TO i1 i2 l1 l2)
  (hz:ph' s.heap z TI TO (rawInt T) (.bool b1)) (hT:s.heap.get? T=some oT) (hTI:IsPair s.heap TI (.ref i1) (.ref i2))
  (h1:ce' k s.heap i1 l1 k1) (h2:ce' j s.heap i2 l2 k2) (hl1:dL' k s.heap l1 xs) (hl2:dL' j s.heap l2 ys) (hend:xs[k1]?=none)
  (hQ:∀h',(∀c o,c≠z->c≠i1->c≠i2->s.heap.get? c=some o->h'.get? c=some o)->Q none { s with heap:=h' }):wpAny (model prog w) A (pyNext (.ref z)) Q E s:=by
 have hTz:s.TypeIs (.ref z) "zip":=⟨_,hz,rfl⟩
 unfold pyNext
 refine aa (bH (aH (name:=Str.ofString "__next__") hTz F.slot_zip_next
  (aK F.slot_zip_next hTz F.entry_zip_next ?_ (F.args_zip_next_1 _))))
 show wpAny _ _ (field (.ref z) 2 >>= _) _ _ _
 refine aa (aJ hz rfl (x:=.bool false) rfl ?_)
 show wpAny _ _ (field (.ref z) 3 >>= _) _ _ _
 refine aa (aJ hz rfl (x:=.ref TI) rfl ?_)
 refine aa (bx hTI rfl ?_)
 show wpAny _ _ (Builtin.SmallTypes.ownedTupleIsFree (.ref z) >>= _) _ _ _
 refine aa (ha' hz hT fun h₁ hz₁ hs₁=>?_)
 simp only[bc,if_false]
 rw[<- Array.forIn_toList]
 simp only[cN,cD]
 refine aa (aa (aa (aE ?_)))
 show wpAny _ _ (Builtin.SmallTypes.nextOf (.ref i1) >>= _) _ _ _
 refine aa (cf' (s:={ s with heap:=h₁ }) (by first|exact hh|rfl) (h1.at fun o e=>hs₁.extBut _ _ D.i1z e) (hl1.at fun o e=>hs₁.extBut _ _ D.l1z e) hend fun h₂ e hs₂ he=>?_)
 obtain⟨oe,hoe,hce⟩:=he
 refine aa (bM (T:="StopIteration") (b:=true) ⟨oe,hoe,hce⟩ isSubtype_stop (ab (hQ _ ?_)))
 exact fun c o c1 c2 c3 x=>hs₂ _ _ c2 (hs₁.extBut _ _ c1 x)
structure Zst (h0:Heap) (B:Nat) (k j:Bool) (z TI TO i1 i2 l1 l2 S:Addr) (xs ys:Array Value) (i:Nat) (h:Heap):Prop where
 zs:(i=0/\IsZip h z TI TO .none/\∃a b,IsPair h TO a b)\/(0<i/\∃b1,ph' h z TI TO (rawInt B) (.bool b1))
 ti:IsPair h TI (.ref i1) (.ref i2)
 h1:ce' k h i1 l1 i
 h2:ce' j h i2 l2 i
 o1:dL' k h l1 xs
 o2:dL' j h l2 ys
 sz:h.objs.size=B+i
 pr:∀m,m<i->∃x y,xs[m]?=some x/\ys[m]?=some y/\IsPair h (B+m) x y
 kp:∀c o,h0.get? c=some o->h.get? c=some o
structure Zap (h0:Heap) (B:Nat) (z TI TO i1 i2 l1 l2 S:Addr):Prop where
 D:ZipApart z TI TO i1 i2 l1 l2
 bz:z<B
 bTO:TO<B
 b1:i1<B
 b2:i2<B
 bS:S<B
 Sz:S≠z
 STI:S≠TI
 STO:S≠TO
 S1:S≠i1
 S2:S≠i2
 Sl1:S≠l1
 Sl2:S≠l2
 nz:h0.objs.size<=z
 nTO:h0.objs.size<=TO
 n1:h0.objs.size<=i1
 n2:h0.objs.size<=i2
 nS:h0.objs.size<=S
theorem Zst.drawn {h0:Heap} {B:Nat} {k j:Bool} {z TI TO i1 i2 l1 l2 S:Addr} {xs ys:Array Value} {i:Nat} {Q:Option Value->Shared->Prop} (P:Zap h0 B z TI TO i1 i2 l1 l2 S) (Z:Zst h0 B k j z TI TO i1 i2 l1 l2 S xs ys i s.heap) (hi:i<xs.size) (hij:i<ys.size)
  (hQ:∀h',Zst h0 B k j z TI TO i1 i2 l1 l2 S xs ys (i+1) h'->(∀o,s.heap.get? S=some o->h'.get? S=some o)->Q (some (.ref (B+i))) { s with heap:=h' }):wpAny (model prog w) A (pyNext (.ref z)) Q E s:=by
 obtain⟨zs,ti,h1,h2,o1,o2,sz,pr,kp⟩:=Z
 have hx:xs[i]?=some xs[i]:=aA hi
 have hy:ys[i]?=some ys[i]:=aA hij
 have fin:∀h' b1,ph' h' z TI TO (rawInt B) (.bool b1)->ce' k h' i1 l1 (i+1)->ce' j h' i2 l2 (i+1)->IsPair h' s.heap.objs.size xs[i] ys[i]->h'.objs.size=s.heap.objs.size+1->(∀c o,c≠z->c≠TO->c≠i1->c≠i2->s.heap.get? c=some o->h'.get? c=some o)->Q (some (.ref s.heap.objs.size)) { s with heap:=h' }:=by
  intro h' b1 q1 q2 q3 q4 q5 q6
  rw[sz]at q4 q5 ⊢
  refine hQ h' ⟨.inr ⟨by omega,b1,q1⟩,q6 _ _ P.D.TIz P.D.TITO P.D.TIi1 P.D.TIi2 ti,q2,q3,o1.at fun o e=>q6 _ _ P.D.l1z P.D.l1TO P.D.l1i1 P.D.l1i2 e,o2.at fun o e=>q6 _ _ P.D.l2z P.D.l2TO P.D.l2i1 P.D.l2i2 e,by rw[q5,Nat.add_assoc],fun m hm=>?_,fun c o e=>?_⟩ fun o e=>q6 _ _ P.Sz P.STO P.S1 P.S2 e
  .by_cases hmi:m=i
   .subst hmi
    exact⟨_,_,hx,hy,q4⟩
   .obtain⟨x,y,e1,e2,e3⟩:=pr m (by omega)
    exact⟨x,y,e1,e2,q6 _ _ (bm (ak P.bz (aX _ _))) (bm (ak P.bTO (aX _ _))) (bm (ak P.b1 (aX _ _))) (bm (ak P.b2 (aX _ _))) e3⟩
  .have hc:=ap e
   exact q6 _ _ (ay (ak hc P.nz)) (ay (ak hc P.nTO)) (ay (ak hc P.n1)) (ay (ak hc P.n2)) (kp _ _ e)
 rcases zs with⟨e0,hz,a,b,hTO⟩|⟨e0,b1,hz⟩
 .refine gZ' P.D hz ti hTO h1 h2 o1 o2 hx hy fun h' q1 _ q2 q3 q4 q5 q6=>fin h' false ?_ q2 q3 q4 q5 q6
  rw[show B=s.heap.objs.size by omega]
  exact q1
 .obtain⟨x0,y0,_,_,hT⟩:=pr 0 e0
  exact j5' P.D hz hT ti h1 h2 o1 o2 hx hy fun h' q1 q2 q3 q4 q5 q6=>fin h' true q1 q2 q3 q4 q5 fun c o c1 _ c3 c4 e=>q6 c o c1 c3 c4 e
theorem Zst.over {h0:Heap} {B:Nat} {k j:Bool} {z TI TO i1 i2 l1 l2 S:Addr} {xs ys:Array Value} {i:Nat} {Q:Option Value->Shared->Prop} (hh:A.handled=none) (P:Zap h0 B z TI TO i1 i2 l1 l2 S) (Z:Zst h0 B k j z TI TO i1 i2 l1 l2 S xs ys i s.heap) (hi:xs.size=i)
  (hQ:∀h',(∀m,m<i->∃x y,xs[m]?=some x/\ys[m]?=some y/\IsPair h' (B+m) x y)->(∀c o,h0.get? c=some o->h'.get? c=some o)->(∀o,s.heap.get? S=some o->h'.get? S=some o)->Q none { s with heap:=h' }):wpAny (model prog w) A (pyNext (.ref z)) Q E s:=by
 obtain⟨zs,ti,h1,h2,o1,o2,sz,pr,kp⟩:=Z
 have hx:xs[i]?=none:=by rw[Array.getElem?_eq_none_iff];omega
 have fin:∀h',(∀c o,c≠z->c≠TO->c≠i1->c≠i2->s.heap.get? c=some o->h'.get? c=some o)->Q none { s with heap:=h' }:=by
  intro h' q6
  refine hQ h' (fun m hm=>?_) (fun c o e=>?_) fun o e=>q6 _ _ P.Sz P.STO P.S1 P.S2 e
  .obtain⟨x,y,e1,e2,e3⟩:=pr m hm
   exact⟨x,y,e1,e2,q6 _ _ (bm (ak P.bz (aX _ _))) (bm (ak P.bTO (aX _ _))) (bm (ak P.b1 (aX _ _))) (bm (ak P.b2 (aX _ _))) e3⟩
  .have hc:=ap e
   exact q6 _ _ (ay (ak hc P.nz)) (ay (ak hc P.nTO)) (ay (ak hc P.n1)) (ay (ak hc P.n2)) (kp _ _ e)
 rcases zs with⟨e0,hz,a,b,hTO⟩|⟨e0,b1,hz⟩
 .exact je' hh P.D hz ti hTO h1 h2 o1 o2 (.inl hx) fun h' q=>fin h' q
 .obtain⟨x0,y0,_,_,hT⟩:=pr 0 e0
  exact mg' hh P.D hz hT ti h1 h2 o1 o2 hx fun h' q=>fin h' fun c o c1 _ c3 c4 e=>q c o c1 c3 c4 e
end
section
variable {prog:Program} {w:World} {A:Around} {E:Value->Shared->Prop} {s:Shared}
end
section
variable {X:Cx} {pins:List (Addr×Obj)} {σ:St} {H H':Hp} {s:Shared} {h':Heap}
end
section
variable {X:Cx}
end
end L2
namespace L2
open PySem PySem.Spec PyProof.Rows PySem.Ts So
section
variable {prog:Program} {w:World} {A:Around} {E:Value->Shared->Prop} {s:Shared}
end
section
variable {X:Cx}
end
end L2
namespace L2
open PySem PySem.Spec PyProof.Rows PySem.Ts
section
variable {X:Cx} {pins:List (Addr×Obj)} {σ:St} {H:Hp} {s:Shared} {A:Around} {E:Value->Shared->Prop}
variable {o e:Expr} {apos cpos:Pos} {td ty:TE}
end
section
variable {prog:Program} {w:World} {K:Type} [DecidableEq K] {knd:HeapKind prog w K} {A:Around} {E:Value->Shared->Prop} {s:Shared}
end
section
variable {X:Cx} {pins:List (Addr×Obj)} {σ:St} {H:Hp} {s:Shared} {a:Addr} {y d:V} {u r:Value} {o:Option V} {A:Around} {E:Value->Shared->Prop}
end
section
variable {X:Cx} {o e f:Expr} {apos cpos:Pos} {td ty tx:TE}
end
section
variable {X:Cx} {e st:Expr} {te:TE} {ts:TO} {p2 pos:Pos}
def xR' {α:Type} (xs:List α) (n:Nat):List α:=(bf ((xs.length+n-1) / n)).filterMap fun k=>xs[k*n]?
theorem aA'.pick {xs:List V} {its:List Value} (r:aA' xs its) (f:Nat->Nat):∀l:List Nat,aA' (l.filterMap fun k=>xs[f k]?) (l.filterMap fun k=>its[f k]?)
 | []=>.nil
 |k :: l=>by
  rw[bF,bF]
  have hl:=r.length
  cases hx:xs[f k]? with
  |none=>
   have:its[f k]?=none:=by
    rw[bq]at hx ⊢
    omega
   rw[this]
   exact aA'.pick r f l
  |some x=>
   obtain⟨u,hu,ru⟩:=r.get hx
   rw[hu]
   exact .cons ru (aA'.pick r f l)
end
section
variable {prog:Program} {w:World} {A:Around} {E:Value->Shared->Prop} {s:Shared}
end
section
variable {X:Cx}
variable {e:Expr} {scope:Scope} {tg iter:Expr} {ifs:List Expr} {nx:Addr->Env->Sem Unit} {g:TG} {tc:TT} {aw':TL ((Option Int->Bool)×Nat)} {own:List Nat} {wi:TI}
end
section
variable {prog:Program} {w:World} {A:Around} {E:Value->Shared->Prop} {s:Shared}
end
section
variable {X:Cx}
end
section
variable {prog:Program} {w:World} {A:Around} {E:Value->Shared->Prop} {s:Shared}
end
section
variable {X:Cx}
end
end L2
namespace R3
open PySem PySem.Spec PyProof.Rows L2
inductive Bf where
 |len|abs|int|isinstance|all|min|list|tuple|range
 deriving DecidableEq
inductive Mf where
 |append|join|insert
 deriving DecidableEq
inductive Xf where
 |notInR
 deriving DecidableEq
inductive Zf where
 |neT
 deriving DecidableEq
inductive Yf where
 |strd|dct
 deriving DecidableEq
set_option genInjectivity false
mutual
inductive Ce where
 |var (i:Nat)|int (n:Int)|bl (b:Bool)|non|str (x:Str)|ty (n:String)
 |bin (op:Operator) (a b:Ce)
 |neg (a:Ce)|not (a:Ce)
 |and (a b:Ce)|or (a b:Ce)
 |cmp (op:CmpOp) (a b:Ce)
 |chn (op op':CmpOp) (a b c:Ce)
 |ife (q:Cq) (a b:Ce)
 |tup (es:Ces)|lst (es:Ces)
 |idx (a b:Ce)
 |cut (a:Ce) (lo hi:Co)
 |call (f:Str) (es:Ces)
 |blt (f:Bf) (es:Ces)
 |met (m:Mf) (o:Ce) (es:Ces)
 |comp (elt:Ce) (own:List Nat) (t:Ct) (it:Ci) (q:Cqo) (r:Cc)
 |dst (a b:Ce)|din (neg:Bool) (a b:Ce)|trv (a:Ce)|cal (f:Yf) (a:Ce)|rvt (a:Ce)
inductive Ces where
 |nil|cons (e:Ce) (r:Ces)
inductive Cq where
 |val (e:Ce)|not (q:Cq)|and (a b:Cq)|or (a b:Cq)|cmp (op:CmpOp) (a b:Ce)|chn (op op':CmpOp) (a b c:Ce)|din (neg:Bool) (a b:Ce)|cmx (k:Xf) (a b:Ce)|cmw (k:Zf) (a b:Ce)
inductive Cqo where
 |none|some (q:Cq)
inductive Co where
 |none|some (e:Ce)
inductive Ci where
 |val (e:Ce)|range1 (a:Ce)|zip (a b:Ce)|enum (a:Ce)|dk (e:Ce)
inductive Ct where
 |name (i:Nat)|tup (ts:Cts)|sub (o i:Ce)
inductive Cts where
 |nil|cons (t:Ct) (r:Cts)
inductive Cc where
 |nil|cons (ws:List Nat) (t:Ct) (it:Ci) (q:Cqo) (r:Cc)
end
mutual
inductive Cs where
 |expr (e:Ce)|ret (e:Ce)|asg (t:Ct) (e:Ce)
 |ite (q:Cq) (a b:Css)|whl (q:Cq) (b:Css)|for_ (t:Ct) (it:Ci) (b:Css)|dput (o i e:Ce)
 |dctd (i:Nat) (k v:Ce) (own:List Nat) (t:Ct) (it:Ci) (q:Cqo)
inductive Css where
 |nil|cons (s:Cs) (r:Css)
end
set_option genInjectivity true
def xS' (i j:Int):Prop:=0<=j/\j<=1000000/\i.natAbs<2 ^ 250*2 ^ 250*2 ^ 250
def sx' (_ j:Int):Prop:=0<j/\(j<1073741824\/j.natAbs.log2<9000)
def sy' (i j:Int):Prop:=(-(2 ^ 64)<i/\i<2 ^ 64)\/(-(2 ^ 64)<j/\j<2 ^ 64)\/IntMulOk i j
section
variable (K:W.Frag)
def eJ':Operator->R2
 | .Add=>fun x y H Q=>match x,y with
  | .int i,.int j=>Q (.int (i+j)) H
  | .str i,.str j=>i.length+j.length<=sizeLine/\Q (.str (i++j)) H
  |x,y=>xA' x y H Q\/rt' K x y H Q\/nO' K x y H Q
 | .Sub=>rI0 fun i j=>.int (i-j)
 | .Mult=>fun x y H Q=>match x,y with
  | .int i,.int j=>sy' i j/\Q (.int (i*j)) H
  | .str a,.int n=>-1000000<=n/\n<=1000000/\a.length*n.toNat<=1000000/\Q (.str (Txt.mul a n)) H
  |x,y=>xB' x y H Q
 | .Mod=>rI (fun _ j=>0<j) fun i j=>.int (i % j)
 | .FloorDiv=>rI sx' fun i j=>.int (i / j)
 | .Pow=>rI vx' fun i j=>.int (i ^ j.toNat)
 | .LShift=>rI xS' fun i j=>.int (i*2 ^ j.toNat)
 | .RShift=>rI (fun _ j=>0<=j) fun i j=>.int (i / 2 ^ j.toNat)
 | .BitAnd=>rI (fun i j=>0<=i/\j=1) fun i _=>.int (i % 2)
 |_=>fun _ _ _ _=>False
def bE':CmpOp->R2
 | .Eq=>fun x y H Q=>match x,y with
  | .ref a,.ref b=>u7' K false (.ref a) (.ref b) H Q\/vd' false (.ref a) (.ref b) H Q
  |x,y=>rEq x y H Q
 | .NotEq=>fun x y H Q=>match x,y with
  | .ref a,.ref b=>u7' K true (.ref a) (.ref b) H Q\/vd' true (.ref a) (.ref b) H Q
  |x,y=>rNe x y H Q
 | .Lt=>rI0 fun i j=>.bl (decide (i<j))
 | .LtE=>rI0 fun i j=>.bl (decide (i<=j))
 | .Gt=>fun x y H Q=>match x with
  | .str a=>xK' (.str a) y H Q
  |x=>rI0 (fun i j=>.bl (decide (j<i))) x y H Q
 | .GtE=>rI0 fun i j=>.bl (decide (j<=i))
 | .Is=>fun x y H Q=>match y with
  | .bl b=>u8' false x (.bl b) H Q
  |y=>y=.non/\Q (.bl (decide (x=.non))) H
 | .IsNot=>fun x y H Q=>match y with
  | .bl b=>u8' true x (.bl b) H Q
  |y=>y=.non/\Q (.bl (!decide (x=.non))) H
 | .In=>fun x y H Q=>match y with
  | .str b=>u9' false x (.str b) H Q
  |y=>rIn K false x y H Q
 | .NotIn=>fun x y H Q=>match y with
  | .str b=>u9' true x (.str b) H Q
  |y=>rIn K true x y H Q
def cY':Bf->List V->Hp->VK->Prop
 | .len=>fun xs H Q=>∃x n,xs=[x]/\xy' K x H n/\Q (.int n) H
 | .abs=>fun xs H Q=>∃i,xs=[.int i]/\Q (.int (if i<0 then -i else i)) H
 | .int=>fun xs H Q=>match xs with
  | [.int i]=>Q (.int i) H
  | [.bl k]=>Q (.int (if k then 1 else 0)) H
  | [.str x]=>∃n,PySem.intText? x=some n/\x.length<=640/\Q (.int n) H
  | [.str x,.int j]=>j=2/\∃n,B2 x n/\Q (.int n) H
  |_=>False
 | .isinstance=>fun xs H Q=>xD' xs H Q\/False
 | .all=>xE' K false
 | .min=>fun xs H Q=>match xs with
  | [.int i,.int j]=>Q (.int (if j<i then j else i)) H
  |xs=>rQ' K false xs H Q
 | .list=>fun xs H Q=>(∃p ys,xs=[.ref p]/\(SqL K H p ys\/SqT K H p ys)/\∀l,H l=none->Q (.ref l) (upd H l (.lst ys)))\/xG' xs H Q
 | .range=>xF'
 | .tuple=>fun xs H Q=>∃p ys,xs=[.ref p]/\((SqL K H p ys/\∀l,H l=none->Q (.ref l) (upd H l (.tup ys)))\/(SqT K H p ys/\Q (.ref p) H))
def mh':Mf->V->List V->Hp->VK->Prop
 | .append=>i3'
 | .join=>rO' K
 | .insert=>jl'
def fP':Mf->String
 | .join=>"str"
 |_=>"list"
def j6':Mf->Str
 | .append=>"append"
 | .join=>"join"
 | .insert=>"insert"
def d0':Bf->Str
 | .len=>"len"
 | .abs=>"abs"
 | .int=>"int"
 | .isinstance=>"isinstance"
 | .all=>"all"
 | .min=>"min"
 | .list=>"list"
 | .tuple=>"tuple"
 | .range=>"range"
def nR':R2:=fun x y H Q=>match x,y with
 | .str z,.int i=>z.length<=sizeLine/\∃c,atI z.cps.toList i=some c/\Q (.str ⟨#[c]⟩) H
 |x,y=>iD' K x y H Q\/i1' K x y H Q
def rSl:V->Option Int->Option Int->Hp->VK->Prop:=fun x lo hi H Q=>match x with
 | .str a=>a.length<=sizeLine/\Q (.str (Txt.slice a lo hi)) H
 |x=>qQ' K x lo hi H Q\/qP' K x lo hi H Q\/qR' K x lo hi H Q
end
def xT':Xf->CmpOp
 | .notInR=>.NotIn
def rXf (K:W.Frag):Xf->R2
 | .notInR=>xO' true
def xU':Zf->CmpOp
 | .neT=>.NotEq
def rZf:Zf->R2
 | .neT=>xM'
def sz':Yf->Str
 | .strd=>"str"
 | .dct=>"dict"
def rYf:Yf->List V->Hp->VK->Prop
 | .strd=>sh'
 | .dct=>sj'
structure Rc where
 N:List Str
 B:List Str
 K:W.Frag
 fs:Str->Option Sp
 xk:L2.St->XK:=fun _=>E0
 cl:Str->Option Addr:=fun _=>none
def mi' (neg:Bool) (ty td:TE):TE:=vR' neg ty td
def mj':Cts->Nat
 | .nil=>0
 | .cons _ r=>mj' r+1
mutual
def tE (C:Rc):Ce->TE
 | .var i=>u1' i
 | .int n=>tC (.int n)
 | .bl b=>tC (.bl b)
 | .non=>tC .non
 | .str x=>tC (.str x)
 | .ty n=>tC (.ty n)
 | .bin op a b=>tOp (eJ' C.K op) (tE C a) (tE C b)
 | .neg a=>tUn (rU fun i=>.int (-i)) (tE C a)
 | .not a=>or' (tE C a)
 | .and a b=>lj' (tE C a) (tE C b)
 | .or a b=>u2' (tE C a) (tE C b)
 | .cmp op a b=>tOp (bE' C.K op) (tE C a) (tE C b)
 | .chn op op' a b c=>da' (bE' C.K op) (bE' C.K op') (tE C a) (tE C b) (tE C c)
 | .ife q a b=>tIf (tQ C q) (tE C a) (tE C b)
 | .tup es=>vE' (tA C es)
 | .lst es=>vF' (tA C es)
 | .idx a b=>tOp (nR' C.K) (tE C a) (tE C b)
 | .cut a lo hi=>tSl (rSl C.K) (tE C a) (tO C lo) (tO C hi)
 | .call f es=>fun σ H Q=>match C.fs f with
  |some sp=>lx' sp [] (C.xk σ) (tA C es) σ H Q
  |none=>False
 | .blt f es=>tCB (cY' C.K f) (tA C es)
 | .met m o es=>tBM C.K (fP' m) (mh' C.K m) (tE C o) (tA C es)
 | .dst a b=>vT' (tE C a) (tE C b)
 | .din neg a b=>mi' neg (tE C a) (tE C b)
 | .trv a=>vU' C.K (tE C a)
 | .cal f a=>tCB (rYf f) (cB' (tE C a) iC')
 | .rvt a=>vW' C.K (tE C a)
 | .comp elt own t it q r=>jb' own (tI C it) (tG C t) (tQo C q) (tR C r (eX' (tE C elt)))
def tA (C:Rc):Ces->TA
 | .nil=>iC'
 | .cons e r=>cB' (tE C e) (tA C r)
def tQ (C:Rc):Cq->TT
 | .val e=>fun σ H Q=>tE C e σ H fun x H'=>∃k,rn' C.K x H' k/\Q k H'
 | .not q=>vl' (tQ C q)
 | .and a b=>q3' (tQ C a) (tQ C b)
 | .or a b=>tOr (tQ C a) (tQ C b)
 | .cmp op a b=>dl' (tOp (bE' C.K op) (tE C a) (tE C b))
 | .chn op op' a b c=>dl' (da' (bE' C.K op) (bE' C.K op') (tE C a) (tE C b) (tE C c))
 | .din neg a b=>dl' (mi' neg (tE C a) (tE C b))
 | .cmx k a b=>dl' (tOp (rXf C.K k) (tE C a) (tE C b))
 | .cmw k a b=>dl' (tOp (rZf k) (tE C a) (tE C b))
def tQo (C:Rc):Cqo->TT
 | .none=>fun _ H Q=>Q true H
 | .some q=>tQ C q
def tO (C:Rc):Co->TO
 | .none=>gi'
 | .some e=>lA' (tE C e)
def tI (C:Rc):Ci->TI
 | .val e=>vK' C.K (tE C e)
 | .range1 a=>oA' (cB' (tE C a) iC')
 | .zip a b=>vL' C.K (cB' (tE C a) (cB' (tE C b) iC'))
 | .enum a=>oZ' C.K (tE C a)
 | .dk e=>v5' (tE C e)
def tG (C:Rc):Ct->TG
 | .name i=>ei' i
 | .tup ts=>v6' C.K (mj' ts) (tGs C ts)
 | .sub o i=>vs' (tE C o) (tE C i) dm'
def tGs (C:Rc):Cts->TGs
 | .nil=>vr'
 | .cons t r=>oy' (tG C t) (tGs C r)
def tR (C:Rc):Cc->TL (List V)->TL (List V)
 | .nil,em=>em
 | .cons ws t it q r,em=>oU' (tI C it) (bj' ws (tG C t) (tQo C q) (tR C r em))
end
mutual
def tS (C:Rc):Cs->TS
 | .expr e=>ov' (tE C e)
 | .ret e=>vn' (tE C e)
 | .asg t e=>nC' (tE C e) (tG C t)
 | .ite q a b=>vo' (tQ C q) (tSs C a) (tSs C b)
 | .whl q b=>iK' (tQ C q) (tSs C b)
 | .for_ t it b=>vt' (tI C it) (tG C t) (tSs C b)
 | .dput o i e=>jA' (tE C o) (tE C i) (tE C e)
 | .dctd i k v own t it q=>nC' (r6' own (tI C it) (tG C t) (tQo C q) (tE C k) (tE C v)) (ei' i)
def tSs (C:Rc):Css->TS
 | .nil=>ot'
 | .cons s r=>vm' (tS C s) (tSs C r)
end
def vis (sc:Scope) (x:Str):Bool:=match sc.names.lookup x with
 |some .local=>true
 |some .cell=>true
 |some .free=>true
 |_=>false
def locb (sc:Scope) (x:Str):Bool:=match sc.names.lookup x with
 |some .local=>true
 |some .cell=>true
 |_=>false
def glb (sc:Scope) (x:Str):Bool:=decide (sc.names.lookup x=some .globalImplicit)
def hh' (N:List Str) (i:Nat) (x:Str):Bool:=decide (N[i]?=some x)&&!(x == ("__debug__":Str))&&!(x == ("__classdict__":Str))
def aY':Expr->Bool
 | .Starred ..=>false
 |_=>true
def bx':Expr->Bool
 | .Set ..=>false
 |_=>true
def cJ':Expr->Bool
 | .Slice ..=>false
 |_=>true
def nS':Expr->Bool
 | .Call _ [] _ _=>false
 |_=>true
def nT':Expr->Bool
 | .UnaryOp .Not _ _=>false
 | .BoolOp ..=>false
 | .IfExp ..=>false
 | .Compare ..=>false
 |_=>true
def fQ':List String:=["list","tuple","str","bool","int","dict","ValueError"]
def pi' (N:List Str) (sc scope:Scope) (own:List Nat):Bool:=
 decide (scope.kind=.function)&&
 scope.names.all (fun x=>(decide (x.2≠.local) || decide (scope.names.lookup x.1=some .local))&&(decide (x.2≠.cell) || decide (scope.names.lookup x.1=some .cell))&&
  (decide (x.2≠.free) || decide (sc.names.lookup x.1=some .cell) || decide (sc.names.lookup x.1=some .free)))&&
 (bf N.length).all (fun i=>match N[i]? with
  |some x=>(decide (scope.names.lookup x≠some .local)&&decide (scope.names.lookup x≠some .cell)) || decide (i∈own)
  |none=>true)
def sA':Ci->Expr->Bool
 | .zip _ _,.Tuple ..=>true
 | .zip _ _,_=>false
 | .enum _,.Tuple ..=>true
 | .enum _,_=>false
 |_,_=>true
mutual
def pj' (own:List Nat):Ct->Bool
 | .name i=>decide (i∈own)
 | .tup ts=>j7' own ts
 | .sub _ _=>false
def j7' (own:List Nat):Cts->Bool
 | .nil=>true
 | .cons t r=>pj' own t&&j7' own r
end
def tld (B:List Str):Bool:=decide (("~":Str)∈B)
def hat (B:List Str):Bool:=decide (("^":Str)∈B)
def pct (B:List Str):Bool:=decide (("%":Str)∈B)
def qT' (x:Str):Str:=⟨#[33]++x.cps⟩
theorem an' {P:Prop} (h:false=true):P:=(al h).elim
theorem gb' {a b:Bool} (h:(a&&b)=true):a=true/\b=true:=by
 cases a with
 |true=>exact⟨rfl,h⟩
 |false=>exact an' h
def v7' (e:Expr) (f:Expr->Expr->Bool):Bool:=match e with
 | .BoolOp .And [x,y] _=>f x y
 | .BoolOp .And (x :: y :: z :: r) pos=>f x (.BoolOp .And (y :: z :: r) pos)
 |_=>false
theorem j8' {e:Expr} {f:Expr->Expr->Bool} (h:v7' e f=true):(∃x y pos,e=.BoolOp .And [x,y] pos/\f x y=true)\/∃x y z r pos,e=.BoolOp .And (x :: y :: z :: r) pos/\f x (.BoolOp .And (y :: z :: r) pos)=true:=by
 cases e with
 |BoolOp o vs pos=>
  cases o with
  |And=>
   cases vs with
   |nil=>exact an' h
   |cons x r=>
    cases r with
    |nil=>exact an' h
    |cons y r=>
     cases r with
     |nil=>exact .inl ⟨x,y,pos,rfl,h⟩
     |cons z r=>exact .inr ⟨x,y,z,r,pos,rfl,h⟩
  |_=>exact an' h
 |_=>exact an' h
def vOr (e:Expr) (f:Expr->Expr->Bool):Bool:=match e with
 | .BoolOp .Or [x,y] _=>f x y
 | .BoolOp .Or (x :: y :: z :: r) pos=>f x (.BoolOp .Or (y :: z :: r) pos)
 |_=>false
theorem nU' {e:Expr} {f:Expr->Expr->Bool} (h:vOr e f=true):(∃x y pos,e=.BoolOp .Or [x,y] pos/\f x y=true)\/∃x y z r pos,e=.BoolOp .Or (x :: y :: z :: r) pos/\f x (.BoolOp .Or (y :: z :: r) pos)=true:=by
 cases e with
 |BoolOp o vs pos=>
  cases o with
  |Or=>
   cases vs with
   |nil=>exact an' h
   |cons x r=>
    cases r with
    |nil=>exact an' h
    |cons y r=>
     cases r with
     |nil=>exact .inl ⟨x,y,pos,rfl,h⟩
     |cons z r=>exact .inr ⟨x,y,z,r,pos,rfl,h⟩
  |_=>exact an' h
 |_=>exact an' h
def bc' {α:Type} (z:List α) (f:Bool):Bool:=match z with
 | []=>f
 |_=>false
theorem am' {α:Type} {z:List α} {f:Bool} (h:bc' z f=true):z=[]/\f=true:=by
 cases z with
 |nil=>exact⟨rfl,h⟩
 |_=>exact an' h
def aO' {α:Type} (z:List α) (f:α->List α->Bool):Bool:=match z with
 |x :: r=>f x r
 |_=>false
theorem ak' {α:Type} {z:List α} {f:α->List α->Bool} (h:aO' z f=true):∃x r,z=x :: r/\f x r=true:=by
 cases z with
 |cons x r=>exact⟨x,r,rfl,h⟩
 |_=>exact an' h
def fR' {α:Type} (z:Option α) (f:Bool):Bool:=match z with
 |none=>f
 |_=>false
theorem cK' {α:Type} {z:Option α} {f:Bool} (h:fR' z f=true):z=none/\f=true:=by
 cases z with
 |none=>exact⟨rfl,h⟩
 |_=>exact an' h
def fS' {α:Type} (z:Option α) (f:α->Bool):Bool:=match z with
 |some x=>f x
 |_=>false
theorem cL' {α:Type} {z:Option α} {f:α->Bool} (h:fS' z f=true):∃x,z=some x/\f x=true:=by
 cases z with
 |some x=>exact⟨x,rfl,h⟩
 |_=>exact an' h
def pk' (z:Comprehension) (f:Expr->Expr->List Expr->Int->Bool):Bool:=f z.target z.iter z.ifs z.is_async
theorem ht' {z:Comprehension} {f:Expr->Expr->List Expr->Int->Bool} (h:pk' z f=true):∃a b c d,z=⟨a,b,c,d⟩/\f a b c d=true:=by
 cases z
 exact⟨_,_,_,_,rfl,h⟩
def b8' (z:Expr) (f:Str->Pos->Bool):Bool:=match z with
 | .Name x0 x1=>f x0 x1
 |_=>false
theorem bd' {z f} (h:b8' z f=true):∃x0 x1,z=.Name x0 x1/\f x0 x1=true:=by
 cases z with
 |Name x0 x1=>exact⟨x0,x1,rfl,h⟩
 |_=>exact an' h
def be' (z:Expr) (f:Const->Nat->Pos->Bool):Bool:=match z with
 | .Constant x0 x1 x2=>f x0 x1 x2
 |_=>false
theorem aU' {z f} (h:be' z f=true):∃x0 x1 x2,z=.Constant x0 x1 x2/\f x0 x1 x2=true:=by
 cases z with
 |Constant x0 x1 x2=>exact⟨x0,x1,x2,rfl,h⟩
 |_=>exact an' h
def j9' (z:Const) (f:Int->Bool):Bool:=match z with
 | .int x0=>f x0
 |_=>false
theorem fT' {z f} (h:j9' z f=true):∃x0,z=.int x0/\f x0=true:=by
 cases z with
 |int x0=>exact⟨x0,rfl,h⟩
 |_=>exact an' h
def ka' (z:Const) (f:Bool->Bool):Bool:=match z with
 | .bool x0=>f x0
 |_=>false
theorem ik' {z f} (h:ka' z f=true):∃x0,z=.bool x0/\f x0=true:=by
 cases z with
 |bool x0=>exact⟨x0,rfl,h⟩
 |_=>exact an' h
def kb' (z:Const) (f:Bool):Bool:=match z with
 | .none=>f
 |_=>false
theorem il' {z f} (h:kb' z f=true):z=.none/\f=true:=by
 cases z with
 |none=>exact⟨rfl,h⟩
 |_=>exact an' h
def nV' (z:Const) (f:Str->Bool):Bool:=match z with
 | .str x0=>f x0
 |_=>false
theorem kc' {z f} (h:nV' z f=true):∃x0,z=.str x0/\f x0=true:=by
 cases z with
 |str x0=>exact⟨x0,rfl,h⟩
 |_=>exact an' h
def hv' (z:Expr) (f:Expr->Operator->Expr->Pos->Bool):Bool:=match z with
 | .BinOp x0 x1 x2 x3=>f x0 x1 x2 x3
 |_=>false
theorem gz' {z f} (h:hv' z f=true):∃x0 x1 x2 x3,z=.BinOp x0 x1 x2 x3/\f x0 x1 x2 x3=true:=by
 cases z with
 |BinOp x0 x1 x2 x3=>exact⟨x0,x1,x2,x3,rfl,h⟩
 |_=>exact an' h
def ci' (z:Expr) (f:UnaryOp->Expr->Pos->Bool):Bool:=match z with
 | .UnaryOp x0 x1 x2=>f x0 x1 x2
 |_=>false
theorem bS' {z f} (h:ci' z f=true):∃x0 x1 x2,z=.UnaryOp x0 x1 x2/\f x0 x1 x2=true:=by
 cases z with
 |UnaryOp x0 x1 x2=>exact⟨x0,x1,x2,rfl,h⟩
 |_=>exact an' h
def gA' (z:UnaryOp) (f:Bool):Bool:=match z with
 | .USub=>f
 |_=>false
theorem eK' {z f} (h:gA' z f=true):z=.USub/\f=true:=by
 cases z with
 |USub=>exact⟨rfl,h⟩
 |_=>exact an' h
def nW' (z:UnaryOp) (f:Bool):Bool:=match z with
 | .Not=>f
 |_=>false
theorem kd' {z f} (h:nW' z f=true):z=.Not/\f=true:=by
 cases z with
 |Not=>exact⟨rfl,h⟩
 |_=>exact an' h
def c4' (z:Expr) (f:Expr->List CmpOp->List Expr->Pos->Bool):Bool:=match z with
 | .Compare x0 x1 x2 x3=>f x0 x1 x2 x3
 |_=>false
theorem cM' {z f} (h:c4' z f=true):∃x0 x1 x2 x3,z=.Compare x0 x1 x2 x3/\f x0 x1 x2 x3=true:=by
 cases z with
 |Compare x0 x1 x2 x3=>exact⟨x0,x1,x2,x3,rfl,h⟩
 |_=>exact an' h
def hw' (z:Expr) (f:Expr->Expr->Expr->Pos->Bool):Bool:=match z with
 | .IfExp x0 x1 x2 x3=>f x0 x1 x2 x3
 |_=>false
theorem gB' {z f} (h:hw' z f=true):∃x0 x1 x2 x3,z=.IfExp x0 x1 x2 x3/\f x0 x1 x2 x3=true:=by
 cases z with
 |IfExp x0 x1 x2 x3=>exact⟨x0,x1,x2,x3,rfl,h⟩
 |_=>exact an' h
def hy' (z:Expr) (f:List Expr->Nat->Pos->Bool):Bool:=match z with
 | .Tuple x0 x1 x2=>f x0 x1 x2
 |_=>false
theorem gC' {z f} (h:hy' z f=true):∃x0 x1 x2,z=.Tuple x0 x1 x2/\f x0 x1 x2=true:=by
 cases z with
 |Tuple x0 x1 x2=>exact⟨x0,x1,x2,rfl,h⟩
 |_=>exact an' h
def ke' (z:Expr) (f:List Expr->Pos->Bool):Bool:=match z with
 | .List x0 x1=>f x0 x1
 |_=>false
theorem im' {z f} (h:ke' z f=true):∃x0 x1,z=.List x0 x1/\f x0 x1=true:=by
 cases z with
 |List x0 x1=>exact⟨x0,x1,rfl,h⟩
 |_=>exact an' h
def bi' (z:Expr) (f:Expr->Expr->Pos->Bool):Bool:=match z with
 | .Subscript x0 x1 x2=>f x0 x1 x2
 |_=>false
theorem a4' {z f} (h:bi' z f=true):∃x0 x1 x2,z=.Subscript x0 x1 x2/\f x0 x1 x2=true:=by
 cases z with
 |Subscript x0 x1 x2=>exact⟨x0,x1,x2,rfl,h⟩
 |_=>exact an' h
def fb' (z:Expr) (f:Option Expr->Option Expr->Option Expr->Pos->Bool):Bool:=match z with
 | .Slice x0 x1 x2 x3=>f x0 x1 x2 x3
 |_=>false
theorem d1' {z f} (h:fb' z f=true):∃x0 x1 x2 x3,z=.Slice x0 x1 x2 x3/\f x0 x1 x2 x3=true:=by
 cases z with
 |Slice x0 x1 x2 x3=>exact⟨x0,x1,x2,x3,rfl,h⟩
 |_=>exact an' h
def ct' (z:Expr) (f:Expr->List Expr->List Keyword->Pos->Bool):Bool:=match z with
 | .Call x0 x1 x2 x3=>f x0 x1 x2 x3
 |_=>false
theorem bu' {z f} (h:ct' z f=true):∃x0 x1 x2 x3,z=.Call x0 x1 x2 x3/\f x0 x1 x2 x3=true:=by
 cases z with
 |Call x0 x1 x2 x3=>exact⟨x0,x1,x2,x3,rfl,h⟩
 |_=>exact an' h
def de' (z:Expr) (f:Expr->Str->Pos->Bool):Bool:=match z with
 | .Attribute x0 x1 x2=>f x0 x1 x2
 |_=>false
theorem d2' {z f} (h:de' z f=true):∃x0 x1 x2,z=.Attribute x0 x1 x2/\f x0 x1 x2=true:=by
 cases z with
 |Attribute x0 x1 x2=>exact⟨x0,x1,x2,rfl,h⟩
 |_=>exact an' h
def kf' (z:Expr) (f:List (Option Expr)->List Expr->Pos->Bool):Bool:=match z with
 | .Dict x0 x1 x2=>f x0 x1 x2
 |_=>false
theorem in' {z f} (h:kf' z f=true):∃x0 x1 x2,z=.Dict x0 x1 x2/\f x0 x1 x2=true:=by
 cases z with
 |Dict x0 x1 x2=>exact⟨x0,x1,x2,rfl,h⟩
 |_=>exact an' h
def d3' (z:Expr) (f:Expr->Expr->List Comprehension->Scope->Pos->Bool):Bool:=match z with
 | .DictComp x0 x1 x2 x3 x4=>f x0 x1 x2 x3 x4
 |_=>false
theorem ey' {z f} (h:d3' z f=true):∃x0 x1 x2 x3 x4,z=.DictComp x0 x1 x2 x3 x4/\f x0 x1 x2 x3 x4=true:=by
 cases z with
 |DictComp x0 x1 x2 x3 x4=>exact⟨x0,x1,x2,x3,x4,rfl,h⟩
 |_=>exact an' h
def d4' (z:Expr) (f:Expr->List Comprehension->Scope->Pos->Bool):Bool:=match z with
 | .ListComp x0 x1 x2 x3=>f x0 x1 x2 x3
 |_=>false
theorem ez' {z f} (h:d4' z f=true):∃x0 x1 x2 x3,z=.ListComp x0 x1 x2 x3/\f x0 x1 x2 x3=true:=by
 cases z with
 |ListComp x0 x1 x2 x3=>exact⟨x0,x1,x2,x3,rfl,h⟩
 |_=>exact an' h
def kg' (z:Stmt) (f:Expr->Pos->Bool):Bool:=match z with
 | .Expr x0 x1=>f x0 x1
 |_=>false
theorem io' {z f} (h:kg' z f=true):∃x0 x1,z=.Expr x0 x1/\f x0 x1=true:=by
 cases z with
 |Expr x0 x1=>exact⟨x0,x1,rfl,h⟩
 |_=>exact an' h
def fU' (z:Stmt) (f:Option Expr->Pos->Bool):Bool:=match z with
 | .Return x0 x1=>f x0 x1
 |_=>false
theorem fV' {z f} (h:fU' z f=true):∃x0 x1,z=.Return x0 x1/\f x0 x1=true:=by
 cases z with
 |Return x0 x1=>exact⟨x0,x1,rfl,h⟩
 |_=>exact an' h
def cN' (z:Stmt) (f:List Expr->Expr->Pos->Bool):Bool:=match z with
 | .Assign x0 x1 x2=>f x0 x1 x2
 |_=>false
theorem b9' {z f} (h:cN' z f=true):∃x0 x1 x2,z=.Assign x0 x1 x2/\f x0 x1 x2=true:=by
 cases z with
 |Assign x0 x1 x2=>exact⟨x0,x1,x2,rfl,h⟩
 |_=>exact an' h
def sB' (z:Stmt) (f:Expr->List Stmt->List Stmt->Pos->Bool):Bool:=match z with
 | .If x0 x1 x2 x3=>f x0 x1 x2 x3
 |_=>false
theorem ml' {z f} (h:sB' z f=true):∃x0 x1 x2 x3,z=.If x0 x1 x2 x3/\f x0 x1 x2 x3=true:=by
 cases z with
 |If x0 x1 x2 x3=>exact⟨x0,x1,x2,x3,rfl,h⟩
 |_=>exact an' h
def hA' (z:Stmt) (f:Expr->List Stmt->List Stmt->Pos->Bool):Bool:=match z with
 | .While x0 x1 x2 x3=>f x0 x1 x2 x3
 |_=>false
theorem gD' {z f} (h:hA' z f=true):∃x0 x1 x2 x3,z=.While x0 x1 x2 x3/\f x0 x1 x2 x3=true:=by
 cases z with
 |While x0 x1 x2 x3=>exact⟨x0,x1,x2,x3,rfl,h⟩
 |_=>exact an' h
def nX' (z:Stmt) (f:Expr->Expr->List Stmt->List Stmt->Pos->Bool):Bool:=match z with
 | .For x0 x1 x2 x3 x4=>f x0 x1 x2 x3 x4
 |_=>false
theorem kh' {z f} (h:nX' z f=true):∃x0 x1 x2 x3 x4,z=.For x0 x1 x2 x3 x4/\f x0 x1 x2 x3 x4=true:=by
 cases z with
 |For x0 x1 x2 x3 x4=>exact⟨x0,x1,x2,x3,x4,rfl,h⟩
 |_=>exact an' h
def v1 (zz:Expr) (f:Str->Bool):Bool:=b8' zz fun y1 y2=>f y1
theorem v8' {zz f} {P:Prop} (h:v1 zz f=true) (k:∀x w1,zz=.Name x w1->f x=true->P):P:=by
 obtain⟨y1,y2,e0,h⟩:=bd' h
 exact k y1 y2 (by rw[e0]) h
def v2 (zz:Expr) (f:Int->Bool):Bool:=be' zz fun y1 y2 y3=>j9' y1 fun y4=>f y4
theorem yF' {zz f} {P:Prop} (h:v2 zz f=true) (k:∀m w1 w2,zz=.Constant (.int m) w1 w2->f m=true->P):P:=by
 obtain⟨y1,y2,y3,e0,h⟩:=aU' h
 obtain⟨y4,e1,h⟩:=fT' h
 exact k y4 y2 y3 (by rw[e0,e1]) h
def v3 (zz:Expr) (f:Bool->Bool):Bool:=be' zz fun y1 y2 y3=>ka' y1 fun y4=>f y4
theorem yG' {zz f} {P:Prop} (h:v3 zz f=true) (k:∀c w1 w2,zz=.Constant (.bool c) w1 w2->f c=true->P):P:=by
 obtain⟨y1,y2,y3,e0,h⟩:=aU' h
 obtain⟨y4,e1,h⟩:=ik' h
 exact k y4 y2 y3 (by rw[e0,e1]) h
def v4 (zz:Expr) (f:Bool):Bool:=be' zz fun y1 y2 y3=>kb' y1 (f)
theorem yH' {zz f} {P:Prop} (h:v4 zz f=true) (k:∀w1 w2,zz=.Constant .none w1 w2->f=true->P):P:=by
 obtain⟨y1,y2,y3,e0,h⟩:=aU' h
 obtain⟨e1,h⟩:=il' h
 exact k y2 y3 (by rw[e0,e1]) h
def v5 (zz:Expr) (f:Str->Bool):Bool:=be' zz fun y1 y2 y3=>nV' y1 fun y4=>f y4
theorem yI' {zz f} {P:Prop} (h:v5 zz f=true) (k:∀y w1 w2,zz=.Constant (.str y) w1 w2->f y=true->P):P:=by
 obtain⟨y1,y2,y3,e0,h⟩:=aU' h
 obtain⟨y4,e1,h⟩:=kc' h
 exact k y4 y2 y3 (by rw[e0,e1]) h
def v6 (zz:Expr) (f:Expr->Operator->Expr->Bool):Bool:=hv' zz fun y1 y2 y3 y4=>f y1 y2 y3
theorem yJ' {zz f} {P:Prop} (h:v6 zz f=true) (k:∀ea op' eb w1,zz=.BinOp ea op' eb w1->f ea op' eb=true->P):P:=by
 obtain⟨y1,y2,y3,y4,e0,h⟩:=gz' h
 exact k y1 y2 y3 y4 (by rw[e0]) h
def v7 (zz:Expr) (f:Expr->Bool):Bool:=ci' zz fun y1 y2 y3=>gA' y1 (f y2)
theorem yK' {zz f} {P:Prop} (h:v7 zz f=true) (k:∀ea w1,zz=.UnaryOp .USub ea w1->f ea=true->P):P:=by
 obtain⟨y1,y2,y3,e0,h⟩:=bS' h
 obtain⟨e1,h⟩:=eK' h
 exact k y2 y3 (by rw[e0,e1]) h
def v8 (zz:Expr) (f:Expr->Bool):Bool:=ci' zz fun y1 y2 y3=>nW' y1 (f y2)
theorem xV' {zz f} {P:Prop} (h:v8 zz f=true) (k:∀ea w1,zz=.UnaryOp .Not ea w1->f ea=true->P):P:=by
 obtain⟨y1,y2,y3,e0,h⟩:=bS' h
 obtain⟨e1,h⟩:=kd' h
 exact k y2 y3 (by rw[e0,e1]) h
def v9 (zz:Expr) (f:Expr->CmpOp->Expr->Bool):Bool:=c4' zz fun y1 y2 y3 y4=>aO' y2 fun y5 y6=>bc' y6 (aO' y3 fun y7 y8=>bc' y8 (f y1 y5 y7))
theorem qU' {zz f} {P:Prop} (h:v9 zz f=true) (k:∀ea op' eb w1,zz=.Compare ea (op' :: []) (eb :: []) w1->f ea op' eb=true->P):P:=by
 obtain⟨y1,y2,y3,y4,e0,h⟩:=cM' h
 obtain⟨y5,y6,e1,h⟩:=ak' h
 obtain⟨e2,h⟩:=am' h
 obtain⟨y7,y8,e3,h⟩:=ak' h
 obtain⟨e4,h⟩:=am' h
 exact k y1 y5 y7 y4 (by rw[e0,e1,e2,e3,e4]) h
def v10 (zz:Expr) (f:Expr->CmpOp->CmpOp->Expr->Expr->Bool):Bool:=c4' zz fun y1 y2 y3 y4=>aO' y2 fun y5 y6=>aO' y6 fun y7 y8=>bc' y8 (aO' y3 fun y9 y10=>aO' y10 fun y11 y12=>bc' y12 (f y1 y5 y7 y9 y11))
theorem sC' {zz f} {P:Prop} (h:v10 zz f=true) (k:∀ea o1 o2 eb ec w1,zz=.Compare ea (o1 :: (o2 :: [])) (eb :: (ec :: [])) w1->f ea o1 o2 eb ec=true->P):P:=by
 obtain⟨y1,y2,y3,y4,e0,h⟩:=cM' h
 obtain⟨y5,y6,e1,h⟩:=ak' h
 obtain⟨y7,y8,e2,h⟩:=ak' h
 obtain⟨e3,h⟩:=am' h
 obtain⟨y9,y10,e4,h⟩:=ak' h
 obtain⟨y11,y12,e5,h⟩:=ak' h
 obtain⟨e6,h⟩:=am' h
 exact k y1 y5 y7 y9 y11 y4 (by rw[e0,e1,e2,e3,e4,e5,e6]) h
def v11 (zz:Expr) (f:Expr->Expr->Expr->Bool):Bool:=hw' zz fun y1 y2 y3 y4=>f y1 y2 y3
theorem v9' {zz f} {P:Prop} (h:v11 zz f=true) (k:∀eq ea eb w1,zz=.IfExp eq ea eb w1->f eq ea eb=true->P):P:=by
 obtain⟨y1,y2,y3,y4,e0,h⟩:=gB' h
 exact k y1 y2 y3 y4 (by rw[e0]) h
def v12 (zz:Expr) (f:List Expr->Bool):Bool:=hy' zz fun y1 y2 y3=>f y1
theorem sD' {zz f} {P:Prop} (h:v12 zz f=true) (k:∀xs w1 w2,zz=.Tuple xs w1 w2->f xs=true->P):P:=by
 obtain⟨y1,y2,y3,e0,h⟩:=gC' h
 exact k y1 y2 y3 (by rw[e0]) h
def v13 (zz:Expr) (f:List Expr->Bool):Bool:=ke' zz fun y1 y2=>f y1
theorem wa' {zz f} {P:Prop} (h:v13 zz f=true) (k:∀xs w1,zz=.List xs w1->f xs=true->P):P:=by
 obtain⟨y1,y2,e0,h⟩:=im' h
 exact k y1 y2 (by rw[e0]) h
def v14 (zz:Expr) (f:Expr->Expr->Bool):Bool:=bi' zz fun y1 y2 y3=>f y1 y2
theorem sE' {zz f} {P:Prop} (h:v14 zz f=true) (k:∀ea eb w1,zz=.Subscript ea eb w1->f ea eb=true->P):P:=by
 obtain⟨y1,y2,y3,e0,h⟩:=a4' h
 exact k y1 y2 y3 (by rw[e0]) h
def v15 (zz:Expr) (f:Expr->Option Expr->Option Expr->Bool):Bool:=bi' zz fun y1 y2 y3=>fb' y2 fun y4 y5 y6 y7=>fR' y6 (f y1 y4 y5)
theorem wb' {zz f} {P:Prop} (h:v15 zz f=true) (k:∀ea l h w1 w2,zz=.Subscript ea (.Slice l h none w1) w2->f ea l h=true->P):P:=by
 obtain⟨y1,y2,y3,e0,h⟩:=a4' h
 obtain⟨y4,y5,y6,y7,e1,h⟩:=d1' h
 obtain⟨e2,h⟩:=cK' h
 exact k y1 y4 y5 y7 y3 (by rw[e0,e1,e2]) h
def v16 (zz:Expr) (f:Str->Expr->List Expr->Bool):Bool:=ct' zz fun y1 y2 y3 y4=>b8' y1 fun y5 y6=>aO' y2 fun y7 y8=>bc' y3 (f y5 y7 y8)
theorem sF' {zz f} {P:Prop} (h:v16 zz f=true) (k:∀x w1 e r w2,zz=.Call (.Name x w1) (e :: r) [] w2->f x e r=true->P):P:=by
 obtain⟨y1,y2,y3,y4,e0,h⟩:=bu' h
 obtain⟨y5,y6,e1,h⟩:=bd' h
 obtain⟨y7,y8,e2,h⟩:=ak' h
 obtain⟨e3,h⟩:=am' h
 exact k y5 y6 y7 y8 y4 (by rw[e0,e1,e2,e3]) h
def v17 (zz:Expr) (f:Expr->Str->Pos->List Expr->Pos->Bool):Bool:=ct' zz fun y1 y2 y3 y4=>de' y1 fun y5 y6 y7=>bc' y3 (f y5 y6 y7 y2 y4)
theorem wc' {zz f} {P:Prop} (h:v17 zz f=true) (k:∀eo nm apos args pos,zz=.Call (.Attribute eo nm apos) args [] pos->f eo nm apos args pos=true->P):P:=by
 obtain⟨y1,y2,y3,y4,e0,h⟩:=bu' h
 obtain⟨y5,y6,y7,e1,h⟩:=d2' h
 obtain⟨e2,h⟩:=am' h
 exact k y5 y6 y7 y2 y4 (by rw[e0,e1,e2]) h
def v22 (zz:Expr) (f:Str->Str->Expr->Bool):Bool:=ct' zz fun y1 y2 y3 y4=>b8' y1 fun y5 y6=>aO' y2 fun y7 y8=>ct' y7 fun y9 y10 y11 y12=>b8' y9 fun y13 y14=>aO' y10 fun y15 y16=>bc' y16 (bc' y11 (bc' y8 (bc' y3 (f y5 y13 y15))))
theorem wd' {zz f} {P:Prop} (h:v22 zz f=true) (k:∀n1 w1 n2 w2 y w3 w4,zz=.Call (.Name n1 w1) ((.Call (.Name n2 w2) (y :: []) [] w3) :: []) [] w4->f n1 n2 y=true->P):P:=by
 obtain⟨y1,y2,y3,y4,e0,h⟩:=bu' h
 obtain⟨y5,y6,e1,h⟩:=bd' h
 obtain⟨y7,y8,e2,h⟩:=ak' h
 obtain⟨y9,y10,y11,y12,e3,h⟩:=bu' h
 obtain⟨y13,y14,e4,h⟩:=bd' h
 obtain⟨y15,y16,e5,h⟩:=ak' h
 obtain⟨e6,h⟩:=am' h
 obtain⟨e7,h⟩:=am' h
 obtain⟨e8,h⟩:=am' h
 obtain⟨e9,h⟩:=am' h
 exact k y5 y6 y13 y14 y15 y12 y4 (by rw[e0,e1,e2,e3,e4,e5,e6,e7,e8,e9]) h
def v73 (zz:Expr) (f:Expr->Expr->Bool):Bool:=kf' zz fun y1 y2 y3=>aO' y1 fun y4 y5=>fS' y4 fun y6=>bc' y5 (aO' y2 fun y10 y11=>bc' y11 (f y6 y10))
theorem we' {zz f} {P:Prop} (h:v73 zz f=true) (k:∀a b w1,zz=.Dict ((some a) :: []) (b :: []) w1->f a b=true->P):P:=by
 obtain⟨y1,y2,y3,e0,h⟩:=in' h
 obtain⟨y4,y5,e1,h⟩:=ak' h
 obtain⟨y6,e2,h⟩:=cL' h
 obtain⟨e5,h⟩:=am' h
 obtain⟨y10,y11,e6,h⟩:=ak' h
 obtain⟨e9,h⟩:=am' h
 exact k y6 y10 y3 (by rw[e0,e1,e2,e5,e6,e9]) h
def v23 (zz:Expr) (f:Str->Expr->Bool):Bool:=ct' zz fun y1 y2 y3 y4=>b8' y1 fun y5 y6=>aO' y2 fun y7 y8=>bc' y8 (bc' y3 (f y5 y7))
theorem pl' {zz f} {P:Prop} (h:v23 zz f=true) (k:∀x w1 y w2,zz=.Call (.Name x w1) (y :: []) [] w2->f x y=true->P):P:=by
 obtain⟨y1,y2,y3,y4,e0,h⟩:=bu' h
 obtain⟨y5,y6,e1,h⟩:=bd' h
 obtain⟨y7,y8,e2,h⟩:=ak' h
 obtain⟨e3,h⟩:=am' h
 obtain⟨e4,h⟩:=am' h
 exact k y5 y6 y7 y4 (by rw[e0,e1,e2,e3,e4]) h
def v24 (zz:Expr) (f:Expr->Int->Bool):Bool:=bi' zz fun y1 y2 y3=>fb' y2 fun y4 y5 y6 y7=>fR' y4 (fR' y5 (fS' y6 fun y8=>ci' y8 fun y9 y10 y11=>gA' y9 (be' y10 fun y12 y13 y14=>j9' y12 fun y15=>f y1 y15)))
theorem wf' {zz f} {P:Prop} (h:v24 zz f=true) (k:∀ea m w1 w2 w3 w4 w5,zz=.Subscript ea (.Slice none none (some (.UnaryOp .USub (.Constant (.int m) w1 w2) w3)) w4) w5->f ea m=true->P):P:=by
 obtain⟨y1,y2,y3,e0,h⟩:=a4' h
 obtain⟨y4,y5,y6,y7,e1,h⟩:=d1' h
 obtain⟨e2,h⟩:=cK' h
 obtain⟨e3,h⟩:=cK' h
 obtain⟨y8,e4,h⟩:=cL' h
 obtain⟨y9,y10,y11,e5,h⟩:=bS' h
 obtain⟨e6,h⟩:=eK' h
 obtain⟨y12,y13,y14,e7,h⟩:=aU' h
 obtain⟨y15,e8,h⟩:=fT' h
 exact k y1 y15 y13 y14 y11 y7 y3 (by rw[e0,e1,e2,e3,e4,e5,e6,e7,e8]) h
def v26 (zz:Expr) (f:Expr->Expr->Expr->List Expr->Int->Scope->Bool):Bool:=d4' zz fun y1 y2 y3 y4=>aO' y2 fun y5 y6=>pk' y5 fun y7 y8 y9 y10=>bc' y6 (f y1 y7 y8 y9 y10 y3)
theorem wg' {zz f} {P:Prop} (h:v26 zz f=true) (k:∀ee tg iter ifs a scope w1,zz=.ListComp ee (⟨tg,iter,ifs,a⟩ :: []) scope w1->f ee tg iter ifs a scope=true->P):P:=by
 obtain⟨y1,y2,y3,y4,e0,h⟩:=ez' h
 obtain⟨y5,y6,e1,h⟩:=ak' h
 obtain⟨y7,y8,y9,y10,e2,h⟩:=ht' h
 obtain⟨e3,h⟩:=am' h
 exact k y1 y7 y8 y9 y10 y3 y4 (by rw[e0,e1,e2,e3]) h
def v29 (zz:List Expr) (f:Bool):Bool:=bc' zz (f)
theorem ki' {zz f} {P:Prop} (h:v29 zz f=true) (k:zz=[]->f=true->P):P:=by
 obtain⟨e0,h⟩:=am' h
 exact k (by rw[e0]) h
def v30 (zz:List Expr) (f:Expr->List Expr->Bool):Bool:=aO' zz fun y1 y2=>f y1 y2
theorem mm' {zz f} {P:Prop} (h:v30 zz f=true) (k:∀x xs,zz=(x :: xs)->f x xs=true->P):P:=by
 obtain⟨y1,y2,e0,h⟩:=ak' h
 exact k y1 y2 (by rw[e0]) h
def v31 (zz:List Expr) (f:Expr->Bool):Bool:=aO' zz fun y1 y2=>bc' y2 (f y1)
theorem wh' {zz f} {P:Prop} (h:v31 zz f=true) (k:∀e,zz=(e :: [])->f e=true->P):P:=by
 obtain⟨y1,y2,e0,h⟩:=ak' h
 obtain⟨e1,h⟩:=am' h
 exact k y1 (by rw[e0,e1]) h
def v32 (zz:Option Expr) (f:Bool):Bool:=fR' zz (f)
theorem wi' {zz f} {P:Prop} (h:v32 zz f=true) (k:zz=none->f=true->P):P:=by
 obtain⟨e0,h⟩:=cK' h
 exact k (by rw[e0]) h
def v33 (zz:Option Expr) (f:Expr->Bool):Bool:=fS' zz fun y1=>f y1
theorem wj' {zz f} {P:Prop} (h:v33 zz f=true) (k:∀y,zz=(some y)->f y=true->P):P:=by
 obtain⟨y1,e0,h⟩:=cL' h
 exact k y1 (by rw[e0]) h
def v34 (zz:Expr) (f:Str->Expr->Expr->Bool):Bool:=ct' zz fun y1 y2 y3 y4=>b8' y1 fun y5 y6=>aO' y2 fun y7 y8=>aO' y8 fun y9 y10=>bc' y10 (bc' y3 (f y5 y7 y9))
theorem wk' {zz f} {P:Prop} (h:v34 zz f=true) (k:∀n w1 y z w2,zz=.Call (.Name n w1) (y :: (z :: [])) [] w2->f n y z=true->P):P:=by
 obtain⟨y1,y2,y3,y4,e0,h⟩:=bu' h
 obtain⟨y5,y6,e1,h⟩:=bd' h
 obtain⟨y7,y8,e2,h⟩:=ak' h
 obtain⟨y9,y10,e3,h⟩:=ak' h
 obtain⟨e4,h⟩:=am' h
 obtain⟨e5,h⟩:=am' h
 exact k y5 y6 y7 y9 y4 (by rw[e0,e1,e2,e3,e4,e5]) h
def v36 (zz:Stmt) (f:Expr->Bool):Bool:=kg' zz fun y1 y2=>f y1
theorem wl' {zz f} {P:Prop} (h:v36 zz f=true) (k:∀x w1,zz=.Expr x w1->f x=true->P):P:=by
 obtain⟨y1,y2,e0,h⟩:=io' h
 exact k y1 y2 (by rw[e0]) h
def v37 (zz:Stmt) (f:Expr->Bool):Bool:=fU' zz fun y1 y2=>fS' y1 fun y3=>f y3
theorem wm' {zz f} {P:Prop} (h:v37 zz f=true) (k:∀x w1,zz=.Return (some x) w1->f x=true->P):P:=by
 obtain⟨y1,y2,e0,h⟩:=fV' h
 obtain⟨y3,e1,h⟩:=cL' h
 exact k y3 y2 (by rw[e0,e1]) h
def v39 (zz:Stmt) (f:Expr->Expr->Bool):Bool:=cN' zz fun y1 y2 y3=>aO' y1 fun y4 y5=>bc' y5 (f y4 y2)
theorem wn' {zz f} {P:Prop} (h:v39 zz f=true) (k:∀tg x w1,zz=.Assign (tg :: []) x w1->f tg x=true->P):P:=by
 obtain⟨y1,y2,y3,e0,h⟩:=b9' h
 obtain⟨y4,y5,e1,h⟩:=ak' h
 obtain⟨e2,h⟩:=am' h
 exact k y4 y2 y3 (by rw[e0,e1,e2]) h
def v42 (zz:Stmt) (f:Str->Pos->Expr->Expr->Expr->Expr->List Expr->Int->Scope->Bool):Bool:=cN' zz fun y1 y2 y3=>aO' y1 fun y4 y5=>b8' y4 fun y6 y7=>bc' y5 (d3' y2 fun y8 y9 y10 y11 y12=>aO' y10 fun y13 y14=>pk' y13 fun y15 y16 y17 y18=>bc' y14 (f y6 y7 y8 y9 y15 y16 y17 y18 y11))
theorem wo' {zz f} {P:Prop} (h:v42 zz f=true) (k:∀y py ke ve tg iter ifs a scope w1 w2,zz=.Assign ((.Name y py) :: []) (.DictComp ke ve (⟨tg,iter,ifs,a⟩ :: []) scope w1) w2->f y py ke ve tg iter ifs a scope=true->P):P:=by
 obtain⟨y1,y2,y3,e0,h⟩:=b9' h
 obtain⟨y4,y5,e1,h⟩:=ak' h
 obtain⟨y6,y7,e2,h⟩:=bd' h
 obtain⟨e3,h⟩:=am' h
 obtain⟨y8,y9,y10,y11,y12,e4,h⟩:=ey' h
 obtain⟨y13,y14,e5,h⟩:=ak' h
 obtain⟨y15,y16,y17,y18,e6,h⟩:=ht' h
 obtain⟨e7,h⟩:=am' h
 exact k y6 y7 y8 y9 y15 y16 y17 y18 y11 y12 y3 (by rw[e0,e1,e2,e3,e4,e5,e6,e7]) h
def v48 (zz:Stmt) (f:Expr->Expr->Expr->Bool):Bool:=cN' zz fun y1 y2 y3=>aO' y1 fun y4 y5=>bi' y4 fun y6 y7 y8=>bc' y5 (f y6 y7 y2)
theorem wp' {zz f} {P:Prop} (h:v48 zz f=true) (k:∀eo ei w1 ee w2,zz=.Assign ((.Subscript eo ei w1) :: []) ee w2->f eo ei ee=true->P):P:=by
 obtain⟨y1,y2,y3,e0,h⟩:=b9' h
 obtain⟨y4,y5,e1,h⟩:=ak' h
 obtain⟨y6,y7,y8,e2,h⟩:=a4' h
 obtain⟨e3,h⟩:=am' h
 exact k y6 y7 y8 y2 y3 (by rw[e0,e1,e2,e3]) h
def v50 (zz:Stmt) (f:Expr->List Stmt->List Stmt->Bool):Bool:=sB' zz fun y1 y2 y3 y4=>f y1 y2 y3
theorem wq' {zz f} {P:Prop} (h:v50 zz f=true) (k:∀x ss rs w1,zz=.If x ss rs w1->f x ss rs=true->P):P:=by
 obtain⟨y1,y2,y3,y4,e0,h⟩:=ml' h
 exact k y1 y2 y3 y4 (by rw[e0]) h
def v51 (zz:Stmt) (f:Expr->List Stmt->Bool):Bool:=hA' zz fun y1 y2 y3 y4=>bc' y3 (f y1 y2)
theorem wr' {zz f} {P:Prop} (h:v51 zz f=true) (k:∀x ss w1,zz=.While x ss [] w1->f x ss=true->P):P:=by
 obtain⟨y1,y2,y3,y4,e0,h⟩:=gD' h
 obtain⟨e1,h⟩:=am' h
 exact k y1 y2 y4 (by rw[e0,e1]) h
def v52 (zz:Stmt) (f:Expr->Expr->List Stmt->Bool):Bool:=nX' zz fun y1 y2 y3 y4 y5=>bc' y4 (f y1 y2 y3)
theorem wt' {zz f} {P:Prop} (h:v52 zz f=true) (k:∀tg iter ss w1,zz=.For tg iter ss [] w1->f tg iter ss=true->P):P:=by
 obtain⟨y1,y2,y3,y4,y5,e0,h⟩:=kh' h
 obtain⟨e1,h⟩:=am' h
 exact k y1 y2 y3 y5 (by rw[e0,e1]) h
def v56 (zz:List Stmt) (f:Bool):Bool:=bc' zz (f)
theorem wu' {zz f} {P:Prop} (h:v56 zz f=true) (k:zz=[]->f=true->P):P:=by
 obtain⟨e0,h⟩:=am' h
 exact k (by rw[e0]) h
def v57 (zz:List Stmt) (f:Stmt->List Stmt->Bool):Bool:=aO' zz fun y1 y2=>f y1 y2
theorem wv' {zz f} {P:Prop} (h:v57 zz f=true) (k:∀x xs,zz=(x :: xs)->f x xs=true->P):P:=by
 obtain⟨y1,y2,e0,h⟩:=ak' h
 exact k y1 y2 (by rw[e0]) h
mutual
def mE (N B:List Str) (sc:Scope):Ce->Expr->Bool
 | .var i,e=>v1 e fun x=>hh' N i x&&vis sc x
 | .int n,e=>v2 e fun m=>decide (n=m)
 | .bl b,e=>v3 e fun c=>decide (b=c)
 | .non,e=>v4 e (true)
 | .str x,e=>v5 e fun y=>decide (x=y)
 | .ty n,e=>v1 e fun x=>decide (x=Str.ofString n)&&glb sc x&&fQ'.contains n&&decide (x∈B)
 | .bin op a b,e=>v6 e fun ea op' eb=>decide (op=op')&&mE N B sc a ea&&mE N B sc b eb
 | .neg a,e=>v7 e fun ea=>mE N B sc a ea
 | .not a,e=>v8 e fun ea=>mE N B sc a ea
 | .and a b,e=>v7' e fun x y=>mE N B sc a x&&mE N B sc b y
 | .or a b,e=>vOr e fun x y=>mE N B sc a x&&mE N B sc b y
 | .cmp op a b,e=>v9 e fun ea op' eb=>decide (op=op')&&mE N B sc a ea&&mE N B sc b eb&&bx' eb
 | .chn op1 op2 a b c,e=>v10 e fun ea o1 o2 eb ec=>decide (op1=o1)&&decide (op2=o2)&&mE N B sc a ea&&mE N B sc b eb&&mE N B sc c ec&&bx' ec
 | .ife q a b,e=>v11 e fun eq ea eb=>mQ N B sc q eq&&mE N B sc a ea&&mE N B sc b eb
 | .tup es,e=>v12 e fun xs=>mA N B sc es xs
 | .lst es,e=>v13 e fun xs=>mA N B sc es xs
 | .idx a b,e=>v14 e fun ea eb=>mE N B sc a ea&&mE N B sc b eb&&cJ' eb
 | .cut a lo hi,e=>v15 e fun ea l h=>mE N B sc a ea&&mO N B sc lo l&&mO N B sc hi h
 | .call f es,e=>v16 e fun x e r=>decide (x=f)&&glb sc x&&mA N B sc es (e :: r)&&!(x == ("__debug__":Str))&&!(hat B)&&!(tld B&&decide (qT' x∈B))
 | .blt f es,e=>v16 e fun x e r=>decide (x=d0' f)&&glb sc x&&mA N B sc es (e :: r)&&decide (x∈B)&&(!(hat B) || decide (f=.isinstance))
 | .met m o es,e=>v17 e fun eo nm apos args pos=>decide (nm=j6' m)&&mE N B sc o eo&&nS' eo&&(apos.endLine == pos.line)&&mA N B sc es args&&decide (args.length<28)
 | .dst a b,e=>v73 e fun x y=>mE N B sc a x&&mE N B sc b y
 | .din neg a b,e=>v9 e fun ea op' eb=>decide (op'=if neg then .NotIn else .In)&&mE N B sc a ea&&mE N B sc b eb&&bx' eb
 | .trv a,e=>v22 e fun n1 n2 y=>decide (n1="tuple")&&decide (n2="reversed")&&glb sc n1&&decide (n1∈B)&&glb sc n2&&decide (n2∈B)&&mE N B sc a y&&aY' y&&!(hat B)
 | .cal f a,e=>v23 e fun x y=>decide (x=sz' f)&&glb sc x&&decide (x∈B)&&mE N B sc a y&&aY' y&&!(hat B)
 | .rvt a,e=>v24 e fun ea m=>decide (m=1)&&mE N B sc a ea
 | .comp elt own t it q .nil,e=>v26 e fun ee tg iter ifs a scope=>!(hat B)&&pi' N sc scope own&&mE N ("~" :: B) scope elt ee&&pj' own t&&decide (a=0)&&mI N B sc it iter&&sA' it tg&&bx' iter&&mT N ("~" :: B) scope t tg&&mQo N ("~" :: B) scope q ifs
 | .comp _ _ _ _ _ (.cons _ _ _ _ _),_=>false
def mA (N B:List Str) (sc:Scope):Ces->List Expr->Bool
 | .nil,es=>v29 es (true)
 | .cons e r,es=>v30 es fun x xs=>mE N B sc e x&&aY' x&&mA N B sc r xs
def mQ (N B:List Str) (sc:Scope):Cq->Expr->Bool
 | .val e,x=>mE N B sc e x&&nT' x
 | .not q,x=>v8 x fun y=>mQ N B sc q y
 | .and a b,e=>v7' e fun x y=>mQ N B sc a x&&mQ N B sc b y
 | .or a b,e=>vOr e fun x y=>mQ N B sc a x&&mQ N B sc b y
 | .cmp op a b,e=>v9 e fun ea op' eb=>decide (op=op')&&mE N B sc a ea&&mE N B sc b eb&&bx' eb
 | .chn op1 op2 a b c,e=>v10 e fun ea o1 o2 eb ec=>decide (op1=o1)&&decide (op2=o2)&&mE N B sc a ea&&mE N B sc b eb&&mE N B sc c ec&&bx' ec
 | .din neg a b,e=>v9 e fun ea op' eb=>decide (op'=if neg then .NotIn else .In)&&mE N B sc a ea&&mE N B sc b eb&&bx' eb
 | .cmw k a b,e=>v9 e fun ea op' eb=>decide (op'=xU' k)&&mE N B sc a ea&&mE N B sc b eb&&bx' eb
 | .cmx k a b,e=>v9 e fun ea op' eb=>decide (op'=xT' k)&&mE N B sc a ea&&mE N B sc b eb&&bx' eb
def mQo (N B:List Str) (sc:Scope):Cqo->List Expr->Bool
 | .none,es=>v29 es (true)
 | .some q,es=>v31 es fun e=>mQ N B sc q e
def mO (N B:List Str) (sc:Scope):Co->Option Expr->Bool
 | .none,x=>v32 x (true)
 | .some e,x=>v33 x fun y=>mE N B sc e y
def mI (N B:List Str) (sc:Scope):Ci->Expr->Bool
 | .val e,x=>mE N B sc e x
 | .range1 a,x=>v23 x fun n y=>decide (n="range")&&glb sc n&&decide (n∈B)&&mE N B sc a y&&aY' y
 | .zip a b,x=>v34 x fun n y z=>decide (n="zip")&&glb sc n&&decide (n∈B)&&mE N B sc a y&&aY' y&&mE N B sc b z&&aY' z
 | .enum a,x=>v23 x fun n y=>decide (n="enumerate")&&glb sc n&&decide (n∈B)&&mE N B sc a y&&aY' y
 | .dk e,x=>mE N B sc e x
def mT (N B:List Str) (sc:Scope):Ct->Expr->Bool
 | .name i,e=>v1 e fun x=>hh' N i x&&locb sc x
 | .tup ts,e=>v12 e fun es=>mTs N B sc ts es&&!(hat B)
 | .sub o i,e=>v14 e fun eo ei=>mE N B sc o eo&&mE N B sc i ei&&cJ' ei
def mTs (N B:List Str) (sc:Scope):Cts->List Expr->Bool
 | .nil,es=>v29 es (true)
 | .cons t r,es=>v30 es fun x xs=>mT N B sc t x&&aY' x&&mTs N B sc r xs
end
def gE':Ce->Bool
 |_=>false
mutual
def mS (N B:List Str) (sc:Scope):Cs->Stmt->Bool
 | .expr e,s=>v36 s fun x=>mE N B sc e x&&(match e with | .comp ..=>false|_=>true)&&!gE' e
 | .ret e,s=>v37 s fun x=>mE N B sc e x
 | .asg t e,s=>v39 s fun tg x=>mE N B sc e x&&!gE' e&&mT N B sc t tg&&aY' tg&&(match tg,x with
   | .Tuple ..,.Tuple vs _ _=>vs.all (foldedForSure 8)
   | .Tuple ..,.ListComp ..=>false
   |_,_=>true)
 | .dctd i k v own t it q,s=>v42 s fun y py ke ve tg iter ifs a scope=>!(hat B)&&mT N B sc (.name i) (.Name y py)&&pi' N sc scope own&&mE N ("~" :: B) scope k ke&&mE N ("~" :: B) scope v ve&&pj' own t&&decide (a=0)&&mI N B sc it iter&&sA' it tg&&bx' iter&&mT N ("~" :: B) scope t tg&&mQo N ("~" :: B) scope q ifs
 | .dput o i e,s=>v48 s fun eo ei ee=>mE N B sc o eo&&mE N B sc i ei&&cJ' ei&&mE N B sc e ee&&(match ee with
   | .ListComp ..=>false
   | .SetComp ..=>false
   | .DictComp ..=>false
   |_=>true)
 | .ite q a b,s=>v50 s fun x ss rs=>mQ N B sc q x&&mSs N B sc a ss&&mSs N B sc b rs
 | .whl q b,s=>v51 s fun x ss=>mQ N B sc q x&&mSs N B sc b ss
 | .for_ t it b,s=>v52 s fun tg iter ss=>mI N B sc it iter&&sA' it tg&&bx' iter&&mT N B sc t tg&&mSs N B sc b ss&&!(hat B)
def mSs (N B:List Str) (sc:Scope):Css->List Stmt->Bool
 | .nil,ss=>v56 ss (true)
 | .cons s r,ss=>v57 ss fun x xs=>mS N B sc s x&&mSs N B sc r xs
end
def pm' (CX:CXT) (X:Cx) (xk:L2.St->XK):Prop:=∀(pins:List (Addr×Obj)) (σ:L2.St) (H:Hp) (s:Shared) (e:Value) (s':Shared),Inv X pins σ H s->CX X.stack H s (xk σ) e s'->X.xe e s'
theorem nY' {X:Cx} {xk:L2.St->XK}:pm' CX0 X xk:=fun _ _ _ _ _ _ _ h=>h.elim
structure Rok (C:Rc) (B:List Str) (X:Cx) (sc:Scope):Prop where
 hN:X.N=C.N
 nd:C.N.Nodup
 hK:X.K=C.K
 own:PassesOwn (model X.prog X.w) X.A X.env X.xe
 calm:hat B=false->X.calm=true
 hu:X.A.units+64<cLine
 gd:X.A.guards=some []
 loc:∀x,sc.names.lookup x=some .local->X.env.scope.names.lookup x=some .local
 cel:∀x,sc.names.lookup x=some .cell->X.env.scope.names.lookup x=some .cell/\X.fn x=true
 fre:∀x,sc.names.lookup x=some .free->X.env.scope.names.lookup x=some .cell\/X.env.scope.names.lookup x=some .free
 glo:∀x,sc.names.lookup x=some .globalImplicit->X.env.kindOf x=some .globalImplicit
 fn:∀x sp,C.fs x=some sp->hat B=false->(tld B=true->qT' x∉B)->∃f fd ps k CX,FnOk X.prog X.w X.K X.mg X.base CX k f fd ps sp/\Room k X.A/\X.mg x=some (.ref f)/\W.keepIn X.K (.ref f)=true/\ek' X.K fd ps []/\(CX=CX0\/CX=CX1 X.prog X.w X.mg/\qT' x∈B)/\pm' CX X C.xk
 blt:∀x∈B,X.mg x=none
 mrk:X.mg "~"=none/\X.mg "^"=none/\X.mg "%"=none
 cls:∀c Ca,C.cl c=some Ca->X.mg c=some (.ref Ca)/\W.nsIn X.K mainGlobals c=some (some (.ref Ca))
 fx:tld B=false->FnCx X
 nohat:tld B=false->hat B=false
 xr:tld B=false->pct B=false->∀nm Ca pins σ H s e t,C.cl nm=some Ca->Inv X pins σ H s->H e=none->X.s₀.heap.get? e=none->(∀p∈X.pn++pins,p.1≠e)->s.heap.get? e=some { cls:=.ref Ca,data:=.fields #[.ref t,.none,.none,.none,.bool false,.none] }->C.xk σ (.str nm 0) none H->X.xe (.ref e) s
theorem Rok.hu1 {C:Rc} {B:List Str} {X:Cx} {sc:Scope} (R:Rok C B X sc):X.A.units+1<cLine:=by have:=R.hu;omega
section
variable {C:Rc} {B:List Str} {X:Cx} {sc:Scope}
set_option tactic.hygienic true in
theorem Rok.vis (R:Rok C B X sc) {x:Str} (h:R3.vis sc x=true):Vis X.env.scope x:=by
 unfold R3.vis at h
 split at h
 .rename_i e;exact .inl (R.loc x e)
 .rename_i e;exact .inr (.inl (R.cel x e).1)
 .rename_i e
  rcases R.fre x e with q|q
  .exact .inr (.inl q)
  .exact .inr (.inr q)
 .cases h
set_option tactic.hygienic true in
theorem Rok.locb (R:Rok C B X sc) {x:Str} (h:R3.locb sc x=true):Loc X.env.scope x/\(X.fn x=true\/X.env.scope.names.lookup x=some .local):=by
 unfold R3.locb at h
 split at h
 .rename_i e;exact⟨.inl (R.loc x e),.inr (R.loc x e)⟩
 .rename_i e;exact⟨.inr (R.cel x e).1,.inl (R.cel x e).2⟩
 .cases h
theorem Rok.glb (R:Rok C B X sc) {x:Str} (h:R3.glb sc x=true):Gl X x:=R.glo x (of_decide_eq_true h)
theorem cO' {N:List Str} {i:Nat} {x:Str} (h:hh' N i x=true):N[i]?=some x/\(x == ("__debug__":Str))=false/\(x == ("__classdict__":Str))=false:=by
 unfold hh' at h
 simp only[af,decide_eq_true_eq,bw]at h
 exact⟨h.1.1,h.1.2,h.2⟩
theorem ar' {e:Expr} {es:List Expr} {env:Env} (h:aY' e=true):starEach (e :: es) env=(false,eval e env) :: starEach es env:=by
 cases e<;>first|rfl|cases h
theorem fc' {N B:List Str} {sc:Scope} {env:Env} {pos:Pos}:∀{es:Ces} {xs:List Expr},mA N B sc es xs=true->(backTo pos (starEach xs env)).any (·.1)=false
 | .nil,xs,h=>by
  refine ki' h fun e0 g=>?_
  clear h
  subst e0
  revert g
  intro h
  rfl
 | .cons e r,xs,h=>by
  refine mm' h fun x xs e0 g=>?_
  clear h
  subst e0
  revert g
  intro h
  simp only[af]at h
  rw[ar' h.1.2]
  have ih:=fc' (env:=env) (pos:=pos) (es:=r) h.2
  exact ih
theorem d5' {e:Expr} {env:Env} (h:bx' e=true) (x:Value):foldedSetIterable e env x=pure x:=by
 cases e<;>first|rfl|cases h
theorem bm' {op:CmpOp} {e:Expr} (h:bx' e=true):behindInMarks op e=false:=by
 cases e<;>first|rfl|cases h
theorem kj' {o1 o2:CmpOp} {a e:Expr} (h:bx' e=true):lastMarks [o1,o2] [a,e]=false:=by
 show behindInMarks o2 e=false
 exact bm' h
theorem mn' {e:Expr} (h:cJ' e=true):i0' e:=by
 intro o i
 cases e<;>first|rfl|cases h
theorem kk' {e:Expr} {f:Str} {env:Env} {w:Sem Value} (h:nS' e=true):attributeBase e f env w=w:=by
 cases e with
 |Call g args kw pos=>
  cases args with
  |nil=>cases h
  |cons a r=>cases g<;>rfl
 |_=>rfl
theorem kl' {e:Expr} {env:Env} (h:nT' e=true) (w:Sem Value):isTrue e env w=(do let v <- w;standAt e.pos;holding [v] (truthy v)):=by
 cases e with
 |UnaryOp op a p=>cases op<;>first|rfl|cases h
 |_=>first|rfl|cases h
theorem OpR.imp {f:Value->Value->Sem Value} {r r':R2} (h:OpR X f r) (i:∀x y H Q,r' x y H Q->r x y H Q):OpR X f r':=fun pins s σ H x y v u Q I rx ry q=>h pins s σ H x y v u Q I rx ry (i _ _ _ _ q)
theorem aT'.imp {f:Value} {r r':List V->Hp->VK->Prop} (h:aT' X f r) (i:∀xs H Q,r' xs H Q->r xs H Q):aT' X f r':=fun pins s σ H xs us Q I rv q=>h pins s σ H xs us Q I rv (i _ _ _ q)
theorem ixM:IxR X (nR' X.K):=by
 intro value slice pins s σ H x y v u Q I rx ry q hp
 refine rx' value slice pins s σ H x y v u Q I rx ry ?_ hp
 unfold nR' at q
 split at q
 .obtain⟨z,c,hc,q⟩:=q
  exact .inr (.inr ⟨_,_,c,rfl,rfl,z,hc,q⟩)
 .rcases q with q|q
  .exact .inl q
  .exact .inr (.inl q)
theorem sG' {CX:CXT} {k:Nat} {f:Addr} {fd:FuncData} {ps:List Str} {sp:Sp} {dvs:List V} {ds:List Value} {E:XK} {pins:List (Addr×Obj)} {σ:L2.St} {H:Hp} {s:Shared} {Q:VK} {us:List Value} {vs:List V} (F:FnOk X.prog X.w X.K X.mg X.base CX k f fd ps sp) (hr:Room k X.A) (hb:ek' X.K fd ps ds) (hd:aA' dvs ds)
  (hx:∀e s',CX X.stack H s E e s'->X.xe e s') (I:Inv X pins σ H s) (r:aA' vs us) (h:sp (vs++dvs) H Q E):wpAny (model X.prog X.w) X.A (call (.ref f) us) (EP X pins σ Q) X.xe s:=by
 have r2:=r.append hd
 have hl:(us++ds).length=ps.length:=r2.length ▸ F.len _ _ _ _ h
 have go:=F.run X.A X.stack s H ⟨us,[]⟩ (us++ds) (vs++dvs) Q E hr I.env0 (hb s us I.kIn hl) r2 h
 refine wpAny_call (codeAny_mono go fun r s' hq=>?_)
 match r,hq with
 | .error e,hq=>exact hx e s' hq
 | .ok (.ret u),hq=>exact I.after hq
theorem mo' {CX:CXT} {k:Nat} {f:Addr} {fd:FuncData} {ps:List Str} {sp:Sp} {dvs:List V} {ds:List Value} {xk:L2.St->XK} {x:Str} {p pos:Pos} {e:Expr} {es:List Expr} {t:TA} (F:FnOk X.prog X.w X.K X.mg X.base CX k f fd ps sp) (hr:Room k X.A) (hg:Gl X x) (hm:X.mg x=some (.ref f)) (hk:W.keepIn X.K (.ref f)=true) (hb:ek' X.K fd ps ds) (hd:aA' dvs ds) (hx:pm' CX X xk)
  (ha:PA X (e :: es) t) (hdb:(x == ("__debug__":Str))=false) (he:starEach (e :: es) X.env=(false,eval e X.env) :: starEach es X.env) (hpl:(backTo pos (starEach es X.env)).any (·.1)=false):
  PE X (.Call (.Name x p) (e :: es) [] pos) (fun σ H Q=>lx' sp dvs (xk σ) t σ H Q):=by
 intro pins s σ H Q I h
 refine cI (on' I hg hm ?_ hdb)
 exact W.callWith_K (h₀:=X.base) I.ok.mod.kin hk (thn (ha pos pins s σ H _ I h) fun us s1 ⟨vs,H1,I1,r,q⟩=>⟨I1.kIn,sG' F hr hb hd (fun e s' c=>hx pins σ H1 s1 e s' I1 c) I1 r q⟩) he hpl
theorem pn' {a:Int} (h:a.natAbs<2 ^ 250*2 ^ 250*2 ^ 250):(Builtin.Int.intBits a:Int)<=750:=by
 rw[<- Nat.pow_add,<- Nat.pow_add]at h
 unfold Builtin.Int.intBits
 by_cases h0:a.natAbs=0
 .rw[if_pos (by simpa using h0)];decide
 .rw[if_neg (by simpa using h0)]
  have:=(Nat.log2_lt h0).mpr h
  omega
theorem po' {X:Cx}:OpR X (binaryOp .LShift) (rI xS' fun i j=>.int (i*2 ^ j.toNat)):=opI fun _ _ _ _ _ _ _ hc q=>lshift_int hc.1 (by have:=pn' hc.2.2;have:=hc.2.1;omega) q
theorem sH' (op:Operator):OpR X (binaryOp op) (eJ' X.K op):=by
 cases op with
 |Add=>
  refine OpR.imp ((rg'.or h0').or (rA'.or (oI'.or lX'))) fun x y H Q q=>?_
  unfold eJ' at q
  dsimp only at q
  split at q
  .exact .inl (.inl ⟨_,_,rfl,rfl,q⟩)
  .exact .inl (.inr ⟨_,_,rfl,rfl,q.1,q.2⟩)
  .exact .inr q
 |Sub=>exact rh'
 |Mult=>
  refine OpR.imp (o2'.or (ia'.or rB')) fun x y H Q q=>?_
  unfold eJ' at q
  dsimp only at q
  split at q
  .refine .inl ⟨_,_,rfl,rfl,?_,q.2⟩
   rcases q.1 with h|h|h
   .exact u4'.ok (.inl h)
   .exact u4'.ok (.inr h)
   .exact h
  .exact .inr (.inl ⟨_,_,rfl,rfl,q.1,q.2.1,q.2.2.1,q.2.2.2⟩)
  .exact .inr (.inr q)
 |Mod=>exact ri'
 |FloorDiv=>
  refine OpR.imp (oC'.or lP') fun x y H Q q=>?_
  obtain⟨i,j,h1,h2,⟨h3,h4⟩,q⟩:=q
  rcases h4 with h4|h4
  .exact .inl ⟨i,j,h1,h2,⟨h3,h4⟩,q⟩
  .exact .inr ⟨i,j,h1,h2,⟨h3,h4⟩,q⟩
 |Pow=>exact rj'
 |LShift=>exact po'
 |RShift=>exact rk'
 |MatMult=>exact fun _ _ _ _ _ _ _ _ _ _ _ _ h=>h.elim
 |Div=>exact fun _ _ _ _ _ _ _ _ _ _ _ _ h=>h.elim
 |BitOr=>exact fun _ _ _ _ _ _ _ _ _ _ _ _ h=>h.elim
 |BitXor=>exact fun _ _ _ _ _ _ _ _ _ _ _ _ h=>h.elim
 |BitAnd=>exact o4'
theorem eL' (hu':X.A.units+64<cLine) (op:CmpOp):OpR X (compareOp op) (bE' X.K op):=by
 cases op with
 |Eq=>
  refine OpR.imp (vy'.or ((rR' (by omega)).or (sc' hu'))) fun x y H Q q=>?_
  unfold bE' at q
  dsimp only at q
  split at q
  .exact .inr q
  .exact .inl q
 |NotEq=>
  refine OpR.imp (vz'.or ((rS' (by omega)).or (sd' hu'))) fun x y H Q q=>?_
  unfold bE' at q
  dsimp only at q
  split at q
  .exact .inr q
  .exact .inl q
 |Lt=>exact vA'
 |LtE=>exact vB'
 |Gt=>
  refine OpR.imp (vC'.or r8') fun x y H Q q=>?_
  unfold bE' at q
  dsimp only at q
  split at q
  .exact .inr q
  .exact .inl q
 |GtE=>exact vD'
 |Is=>
  refine OpR.imp (rm'.or rU') fun x y H Q q=>?_
  unfold bE' at q
  dsimp only at q
  split at q
  .exact .inr q
  .exact .inl q
 |IsNot=>
  refine OpR.imp (oD'.or jn') fun x y H Q q=>?_
  unfold bE' at q
  dsimp only at q
  split at q
  .exact .inr q
  .exact .inl q
 |In=>
  refine OpR.imp (rV'.or i2') fun x y H Q q=>?_
  unfold bE' at q
  dsimp only at q
  split at q
  .exact .inl q
  .exact .inr q
 |NotIn=>
  refine OpR.imp (jo'.or fw') fun x y H Q q=>?_
  unfold bE' at q
  dsimp only at q
  split at q
  .exact .inl q
  .exact .inr q
theorem ww' (hu':X.A.units+64<cLine) (k:Xf):OpR X (compareOp (xT' k)) (rXf X.K k):=by
 cases k with
 |notInR=>exact jM'
theorem wx' (hu':X.A.units+64<cLine) (k:Zf):OpR X (compareOp (xU' k)) (rZf k):=by
 cases k with
 |neT=>exact se' hu'
theorem wy':SlR X (rSl X.K):=by
 intro pins s σ H x v vl vu lo hi sl Q I rx hs pl pu q
 refine(oK'.or (rs'.or (l5'.or rP'))) pins s σ H x v vl vu lo hi sl Q I rx hs pl pu ?_
 unfold rSl at q
 split at q
 .exact .inr (.inr (.inr ⟨_,rfl,q.1,q.2⟩))
 .rcases q with q|q|q
  .exact .inl q
  .exact .inr (.inl q)
  .exact .inr (.inr (.inl q))
inductive BltIs:Bf->Prop where
 |fn (f:Bf) (id:String) (hv:bootBuiltins (d0' f)=some (.builtin id)) (h:∀X:Cx,(X.calm=true\/f=.isinstance)->aT' X (.builtin id) (cY' X.K f)):BltIs f
 |ty (f:Bf) (T:String) (hv:bootBuiltins (d0' f)=some (.type T)) (h:∀X:Cx,(X.calm=true\/f=.isinstance)->aT' X (.type T) (cY' X.K f)):BltIs f
theorem sI' (f:Bf):BltIs f:=by
 cases f with
 |len=>exact .fn _ "len" (by decide +kernel) fun X _=>lw'
 |abs=>exact .fn _ "abs" (by decide +kernel) fun X _=>lv'
 |int=>
  refine .ty _ "int" (by decide +kernel) fun X _=>aT'.imp jD' fun xs H Q q=>?_
  unfold cY' at q
  dsimp only at q
  split at q
  .exact .inl (.inl (.inl ⟨_,rfl,q⟩))
  .exact .inl (.inl (.inr ⟨_,rfl,q⟩))
  .obtain⟨n,h1,h2,q⟩:=q
   exact .inl (.inr ⟨_,n,rfl,h1,h2,q⟩)
  .obtain⟨rfl,n,h1,q⟩:=q
   exact .inr ⟨_,n,rfl,h1,q⟩
  .exact q.elim
 |isinstance=>exact .fn _ "isinstance" (by decide +kernel) fun X _=>aT'.imp lM' fun _ _ _ q=>q.resolve_right id
 |all=>exact .fn _ "all" (by decide +kernel) fun X c0=>have c:X.calm=true:=c0.resolve_right (fun z=>by cases z);jj' c
 |min=>
  refine .fn _ "min" (by decide +kernel) fun X c0=>have c:X.calm=true:=c0.resolve_right (fun z=>by cases z);aT'.imp ((iS' c).or (jk' c)) fun xs H Q q=>?_
  unfold cY' at q
  dsimp only at q
  split at q
  .exact .inl ⟨_,_,rfl,q⟩
  .exact .inr q
 |list=>exact .ty _ "list" (by decide +kernel) fun X c0=>have c:X.calm=true:=c0.resolve_right (fun z=>by cases z);fx'.or (lO' c)
 |range=>exact .ty _ "range" (by decide +kernel) fun X _=>lN'
 |tuple=>exact .ty _ "tuple" (by decide +kernel) fun X _=>eW'
structure MetIs (m:Mf) (id:String):Prop where
 pa:PlainAttrs (fP' m)
 slot:Slot (fP' m) (j6' m) id
 ty:typeOf (.builtin id)=pure (.type "method_descriptor")
 h:∀X:Cx,MtR X id (mh' X.K m)
theorem sJ' (m:Mf):∃id,MetIs m id:=by
 cases m with
 |append=>exact⟨_,F.plainAttrs_list,F.slot_list_append,F.type_list_append,fun _=>i4'⟩
 |join=>exact⟨_,F.plainAttrs_str,F.slot_str_join,F.type_str_join,fun _=>o1'⟩
 |insert=>exact⟨_,F.plainAttrs_list,F.slot_list_insert,F.type_list_insert,fun _=>jm'⟩
end
theorem gF' {N:List Str} {sc scope:Scope} {own:List Nat} (h:pi' N sc scope own=true):scope.kind=.function/\(∀x∈scope.names,x.2=.local->scope.names.lookup x.1=some .local)/\(∀n,(n,NameKind.cell)∈scope.names->scope.names.lookup n=some .cell)/\
  (∀n,(n,NameKind.free)∈scope.names->sc.names.lookup n=some .cell\/sc.names.lookup n=some .free)/\∀(i:Nat) (x:Str),N[i]?=some x->(scope.names.lookup x=some .local\/scope.names.lookup x=some .cell)->i∈own:=by
 unfold pi' at h
 simp only[af,decide_eq_true_eq,bh,Bool.or_eq_true]at h
 obtain⟨⟨hk,hn⟩,ho⟩:=h
 refine⟨hk,fun x hx e=>?_,fun n hn'=>?_,fun n hn'=>?_,fun i x e hx=>?_⟩
 .exact(hn x hx).1.1.resolve_left fun q=>q e
 .exact(hn _ hn').1.2.resolve_left fun q=>q rfl
 .rcases(hn _ hn').2 with(q|q)|q
  .exact absurd rfl q
  .exact .inl q
  .exact .inr q
 .have:=ho i (bi.mpr (aM.mp e).1)
  rw[e]at this
  simp only[Bool.or_eq_true,af,decide_eq_true_eq]at this
  rcases this with⟨q1,q2⟩|q
  .rcases hx with z|z
   .exact absurd z q1
   .exact absurd z q2
  .exact q
theorem Rok.compSc {C:Rc} {B:List Str} {X:Cx} {sc scope:Scope} {own:List Nat} (R:Rok C B X sc) (h:pi' C.N sc scope own=true):CompSc X scope:=by
 obtain⟨h1,h2,h3,h4,h5⟩:=gF' h
 refine⟨h1,h2,h3,fun n hn=>?_⟩
 rcases h4 n hn with q|q
 .exact .inl (R.cel n q).1
 .exact R.fre n q
theorem cP' {B:List Str}:tld ("~" :: B)=true:=decide_eq_true (au)
theorem Rok.comp {C:Rc} {B:List Str} {X:Cx} {sc scope:Scope} {own:List Nat} (R:Rok C B X sc) (hh:hat B=false) (h:pi' C.N sc scope own=true) (s0:Shared) (H0:Hp) (ex:List Addr):Rok C ("~" :: B) (X.comp scope s0 H0 ex) scope:=by
 refine⟨R.hN,R.nd,R.hK,PassesOwn.never,fun _=>R.calm hh,R.hu,R.gd,fun x e=>lookup_relabel_local e,fun x e=>⟨?_,?_⟩,fun x e=>?_,fun x e=>?_,fun x sp e _ ht=>?_,fun x hx=>?_,R.mrk,R.cls,(fun z=>by rw[cP']at z;cases z),(fun z=>by rw[cP']at z;cases z),(fun z=>by rw[cP']at z;cases z)⟩
 .obtain⟨k',e1,e2⟩:=a2' (env:=X.env) e
  rcases e2 with rfl|⟨q,_⟩
  .exact e1
  .cases q
 .exact W.cellsFrom_some _ _ _ (.inl e)
 .obtain⟨k',e1,e2⟩:=a2' (env:=X.env) e
  rcases e2 with rfl|⟨_,rfl⟩
  .exact .inr e1
  .exact .inl e1
 .obtain⟨k',e1,e2⟩:=a2' (env:=X.env) e
  rcases e2 with rfl|⟨q,_⟩
  .exact e1
  .cases q
 .have hb:qT' x∉B:=fun z=>ht cP' (ao _ z)
  obtain⟨f,fd,ps,k,CX,h1,h2,h3,h4,h5,h6,_⟩:=R.fn x sp e hh fun _=>hb
  rcases h6 with rfl|⟨_,z⟩
  .exact⟨f,fd,ps,k,CX0,h1,h2,h3,h4,h5,.inl rfl,nY'⟩
  .exact absurd z hb
 .rcases am.mp hx with rfl|hx
  .exact R.mrk.1
  .exact R.blt x hx
mutual
theorem hB' (C:Rc) (own:List Nat):∀(t:Ct),pj' own t=true->∀(x:V) (σ:L2.St) (H:Hp) (Q Q':L2.St->Hp->Prop),tG C t x σ H Q->(∀σ2 H2,Q σ2 H2->Ext own σ σ2->Q' σ2 H2)->tG C t x σ H Q'
 | .name i,h,x,σ,H,Q,Q',q,m=>by
  obtain⟨q1,q2⟩:=ja' (of_decide_eq_true (show decide (i∈own)=true from h)) x σ H Q q
  exact m _ _ q1 q2
 | .tup ts,h,x,σ,H,Q,Q',q,m=>by
  replace h:j7' own ts=true:=h
  obtain⟨a,xs,e,hs,hl,q⟩:=q
  exact⟨a,xs,e,hs,hl,fW' C own ts h xs σ H Q Q' q m⟩
 | .sub _ _,h,_,_,_,_,_,_,_=>an' h
theorem fW' (C:Rc) (own:List Nat):∀(ts:Cts),j7' own ts=true->∀(xs:List V) (σ:L2.St) (H:Hp) (Q Q':L2.St->Hp->Prop),tGs C ts xs σ H Q->(∀σ2 H2,Q σ2 H2->Ext own σ σ2->Q' σ2 H2)->tGs C ts xs σ H Q'
 | .nil,h,xs,σ,H,Q,Q',q,m=>by
  replace q:xs=[]/\Q σ H:=q
  exact And.intro q.1 (m _ _ q.2 Ext.refl)
 | .cons t r,h,xs,σ,H,Q,Q',q,m=>by
  replace h:=gb' (show(pj' own t&&j7' own r)=true from h)
  replace q:∃v vr,xs=v :: vr/\tG C t v σ H fun σ' H'=>tGs C r vr σ' H' Q:=q
  obtain⟨v,vr,e,q⟩:=q
  show ∃v vr,xs=v :: vr/\tG C t v σ H fun σ' H'=>tGs C r vr σ' H' Q'
  exact⟨v,vr,e,hB' C own t h.1 v σ H _ _ q fun σ2 H2 q2 x2=>fW' C own r h.2 vr σ2 H2 _ _ q2 fun σ3 H3 q3 x3=>m _ _ q3 (x2.trans x3)⟩
end
theorem km' {C:Rc} {own:List Nat} {t:Ct} (h:pj' own t=true):rJ' own (tG C t):=fun x σ H Q q=>hB' C own t h x σ H Q _ q fun _ _ q x=>⟨q,x⟩
theorem cu':∀{ts:Cts} {es:List Expr} {N B:List Str} {sc:Scope} {env:Env},mTs N B sc ts es=true->(assignEach es env).length=mj' ts/\(assignEach es env).findIdx? (·.1)=none
 | .nil,es,N,B,sc,env,h=>by
  refine ki' h fun e0 g=>?_
  clear h
  subst e0
  revert g
  intro h
  exact⟨rfl,rfl⟩
 | .cons t r,es,N,B,sc,env,h=>by
  refine mm' h fun x xs e0 g=>?_
  clear h
  subst e0
  revert g
  intro h
  simp only[af]at h
  obtain⟨h1,h2⟩:=cu' (env:=env) h.2
  have e:assignEach (x :: xs) env=(false,assign x env) :: assignEach xs env:=by
   have hs:=h.1.2
   cases x<;>first|rfl|cases hs
  rw[e]
  refine⟨by rw[bo,h1];rfl,?_⟩
  rw[List.findIdx?_cons,h2]
  rfl
theorem gG' {x:Expr} {xs:List Expr} {env:Env} (hs:aY' x=true):(assignEach (x :: xs) env).map (·.2)=assign x env :: (assignEach xs env).map (·.2):=by
 cases x<;>first|rfl|cases hs
theorem pp' {o i:Expr} {pos:Pos} {env:Env} (h:cJ' i=true) (v:Value):assign (.Subscript o i pos) env v=(do
   let ov <- holding [v] (eval o env)
   let iv <- holding [v,ov] (eval i env)
   standAt pos
   holding [v,ov,iv] (setItem ov iv v)
   release [v,ov,iv] []):=by
 cases i<;>first|rfl|cases h
def sK' (C:Rc) (X:Cx) (e:Expr):Ce->Prop
 | .comp elt own t it q r=>∃tg iter ifs nx scope pos,CompIn X e scope tg iter ifs nx (tG C t) (tQo C q) (tR C r (eX' (tE C elt))) own/\PI X tg iter (tI C it)/\
   eval e X.env=comprehension e scope X.env pos (newList []) false (eval iter X.env)/\(∀u,evalThenUse e X.env u=(do let _ <- comprehension e scope X.env pos (newList []) false (eval iter X.env) (some u)))/\
   ∀y py line,∃b,swapsWith e (some (.Name y py)) line X.env=pure b
 |_=>True
def wz' (ke ve:Expr) (D:Addr) (env:Env):Sem Unit:=do
 let kv <- eval ke env
 let vv <- holding [kv] (eval ve env)
 match Value.ref D with
 | .ref d=>do
  standAt { ke.pos with endLine:=ve.pos.endLine,endCol:=ve.pos.endCol }
  holding [kv,vv] (dictSet d kv vv)
 |_=>unsupported "internal:dictcomp"
theorem yL' {N B:List Str} {sc:Scope} {elt:Ce} {own:List Nat} {t:Ct} {it:Ci} {q:Cqo} {e:Expr} (h:mE N B sc (.comp elt own t it q .nil) e=true):∃ee tg iter ifs scope pos,e=.ListComp ee [⟨tg,iter,ifs,0⟩] scope pos/\
  hat B=false/\pi' N sc scope own=true/\mE N ("~" :: B) scope elt ee=true/\pj' own t=true/\mI N B sc it iter=true/\sA' it tg=true/\bx' iter=true/\mT N ("~" :: B) scope t tg=true/\mQo N ("~" :: B) scope q ifs=true:=by
 refine wg' h fun ee tg iter ifs a scope w1 e0 g=>?_
 clear h
 subst e0
 revert g
 intro h
 simp only[af,decide_eq_true_eq,bw]at h
 obtain⟨⟨⟨⟨⟨⟨⟨⟨⟨hh,hsc⟩,helt⟩,hown⟩,rfl⟩,h1⟩,h2⟩,h3⟩,h4⟩,h5⟩:=h
 exact⟨_,_,_,_,_,_,rfl,hh,hsc,helt,hown,h1,h2,h3,h4,h5⟩
theorem yM' {N B:List Str} {sc:Scope} {elt:Ce} {own:List Nat} {t:Ct} {it:Ci} {q:Cqo} {ws:List Nat} {t2:Ct} {it2:Ci} {q2:Cqo} {r4:Cc} {e:Expr} (h:mE N B sc (.comp elt own t it q (.cons ws t2 it2 q2 r4)) e=true):False:=by
 exact an' h
set_option maxHeartbeats 4000000
mutual
theorem sE0 {C:Rc}:∀(c:Ce) {B:List Str} {X:Cx} {sc:Scope} {e:Expr},Rok C B X sc->mE C.N B sc c e=true->PE X e (tE C c)/\sK' C X e c
 | .var i,B,X,sc,e,R,h=>by
  refine⟨?_,trivial⟩
  refine v8' h fun x w1 e0 g=>?_
  clear h
  subst e0
  revert g
  intro h
  simp only[af]at h
  obtain⟨h1,h2,h3⟩:=cO' h.1
  rw[show tE C (.var i)=(u1' i) from rfl]
  exact nv' (by rw[R.hN];exact h1) (R.vis h.2) h2 h3
 | .int n,B,X,sc,e,R,h=>by
  refine⟨?_,trivial⟩
  refine yF' h fun m w1 w2 e0 g=>?_
  clear h
  subst e0
  revert g
  intro h
  cases of_decide_eq_true h
  rw[show tE C (.int n)=(tC (.int n)) from rfl]
  exact nw'
 | .bl n,B,X,sc,e,R,h=>by
  refine⟨?_,trivial⟩
  refine yG' h fun c w1 w2 e0 g=>?_
  clear h
  subst e0
  revert g
  intro h
  cases of_decide_eq_true h
  rw[show tE C (.bl n)=(tC (.bl n)) from rfl]
  exact vk'
 | .non,B,X,sc,e,R,h=>by
  refine⟨?_,trivial⟩
  refine yH' h fun w1 w2 e0 g=>?_
  clear h
  subst e0
  revert g
  intro h
  rw[show tE C .non=(tC .non) from rfl]
  exact q1'
 | .str n,B,X,sc,e,R,h=>by
  refine⟨?_,trivial⟩
  refine yI' h fun y w1 w2 e0 g=>?_
  clear h
  subst e0
  revert g
  intro h
  cases of_decide_eq_true h
  rw[show tE C (.str n)=(tC (.str n)) from rfl]
  exact q2'
 | .ty n,B,X,sc,e,R,h=>by
  refine⟨?_,trivial⟩
  refine v8' h fun x w1 e0 g=>?_
  clear h
  subst e0
  revert g
  intro h
  simp only[af,decide_eq_true_eq]at h
  obtain⟨⟨⟨rfl,h2⟩,h3⟩,h4⟩:=h
  rw[show tE C (.ty n)=(tC (.ty n)) from rfl]
  have hb:bootBuiltins (Str.ofString n)=some (.type n)/\Str.ofString n≠"__name__"/\(Str.ofString n == ("__debug__":Str))=false:=by
   simp only[fQ',List.contains_iff_mem,am,aB,or_false]at h3
   rcases h3 with rfl|rfl|rfl|rfl|rfl|rfl|rfl<;>decide +kernel
  exact oo' (v:=.ty n) (R.glb h2) (R.blt _ h4) hb.1 rfl hb.2.1 hb.2.2
 | .bin op a b,B,X,sc,e,R,h=>by
  refine⟨?_,trivial⟩
  refine yJ' h fun ea op' eb w1 e0 g=>?_
  clear h
  subst e0
  revert g
  intro h
  simp only[af,decide_eq_true_eq]at h
  obtain⟨⟨rfl,h1⟩,h2⟩:=h
  rw[show tE C (.bin op a b)=(tOp (eJ' C.K op) (tE C a) (tE C b)) from rfl]
  rw[<- R.hK]
  exact vv' (sH' _) ((sE0 a R h1).1) ((sE0 b R h2).1)
 | .neg a,B,X,sc,e,R,h=>by
  refine⟨?_,trivial⟩
  refine yK' h fun ea w1 e0 g=>?_
  clear h
  subst e0
  revert g
  intro h
  rw[show tE C (.neg a)=(tUn (rU fun i=>.int (-i)) (tE C a)) from rfl]
  exact rf' nD' ((sE0 a R h).1)
 | .not a,B,X,sc,e,R,h=>by
  refine⟨?_,trivial⟩
  refine xV' h fun ea w1 e0 g=>?_
  clear h
  subst e0
  revert g
  intro h
  rw[show tE C (.not a)=(or' (tE C a)) from rfl]
  exact q9' ((sE0 a R h).1)
 | .and a b,B,X,sc,e,R,h=>by
  refine⟨?_,trivial⟩
  replace h:=j8' h
  rcases h with⟨x,y,pos,rfl,h⟩|⟨x,y,z,r,pos,rfl,h⟩
  .simp only[af]at h
   rw[show tE C (.and a b)=(lj' (tE C a) (tE C b)) from rfl]
   exact nB' ((sE0 a R h.1).1) (nA' ((sE0 b R h.2).1))
  .simp only[af]at h
   rw[show tE C (.and a b)=(lj' (tE C a) (tE C b)) from rfl]
   exact nB' ((sE0 a R h.1).1) ((sE0 b R h.2).1)
 | .or a b,B,X,sc,e,R,h=>by
  refine⟨?_,trivial⟩
  replace h:=nU' h
  rcases h with⟨x,y,pos,rfl,h⟩|⟨x,y,z,r,pos,rfl,h⟩
  .simp only[af]at h
   rw[show tE C (.or a b)=(u2' (tE C a) (tE C b)) from rfl]
   exact q8' ((sE0 a R h.1).1) (nA' ((sE0 b R h.2).1))
  .simp only[af]at h
   rw[show tE C (.or a b)=(u2' (tE C a) (tE C b)) from rfl]
   exact q8' ((sE0 a R h.1).1) ((sE0 b R h.2).1)
 | .dst a b,B,X,sc,e,R,h=>by
  refine⟨?_,trivial⟩
  refine we' h fun x y w1 e0 g=>?_
  clear h
  subst e0
  revert g
  intro h
  simp only[af]at h
  rw[show tE C (.dst a b)=(vT' (tE C a) (tE C b)) from rfl]
  exact r7' R.hu1 ((sE0 a R h.1).1) ((sE0 b R h.2).1)
 | .cmp op a b,B,X,sc,e,R,h=>by
  refine⟨?_,trivial⟩
  refine qU' h fun ea op' eb w1 e0 g=>?_
  clear h
  subst e0
  revert g
  intro h
  simp only[af,decide_eq_true_eq]at h
  obtain⟨⟨⟨rfl,h1⟩,h2⟩,h3⟩:=h
  rw[show tE C (.cmp op a b)=(tOp (bE' C.K op) (tE C a) (tE C b)) from rfl]
  rw[<- R.hK]
  exact oE' (eL' R.hu _) ((sE0 a R h1).1) ((sE0 b R h2).1) (bm' h3)
 | .chn op1 op2 a b c,B,X,sc,e,R,h=>by
  refine⟨?_,trivial⟩
  refine sC' h fun ea o1 o2 eb ec w1 e0 g=>?_
  clear h
  subst e0
  revert g
  intro h
  simp only[af,decide_eq_true_eq]at h
  obtain⟨⟨⟨⟨⟨rfl,rfl⟩,h1⟩,h2⟩,h3⟩,h4⟩:=h
  rw[show tE C (.chn op1 op2 a b c)=(da' (bE' C.K op1) (bE' C.K op2) (tE C a) (tE C b) (tE C c)) from rfl]
  rw[<- R.hK]
  exact lq' (eL' R.hu _) (eL' R.hu _) ((sE0 a R h1).1) ((sE0 b R h2).1) ((sE0 c R h3).1) (kj' h4)
 | .ife q a b,B,X,sc,e,R,h=>by
  refine⟨?_,trivial⟩
  refine v9' h fun eq ea eb w1 e0 g=>?_
  clear h
  subst e0
  revert g
  intro h
  simp only[af]at h
  rw[show tE C (.ife q a b)=(tIf (tQ C q) (tE C a) (tE C b)) from rfl]
  exact lk' (sQ q R h.1.1).1 ((sE0 a R h.1.2).1) ((sE0 b R h.2).1)
 | .tup es,B,X,sc,e,R,h=>by
  refine⟨?_,trivial⟩
  refine sD' h fun xs w1 w2 e0 g=>?_
  clear h
  subst e0
  revert g
  intro h
  rw[show tE C (.tup es)=(vE' (tA C es)) from rfl]
  exact rp' (sA es R h)
 | .lst es,B,X,sc,e,R,h=>by
  refine⟨?_,trivial⟩
  refine wa' h fun xs w1 e0 g=>?_
  clear h
  subst e0
  revert g
  intro h
  rw[show tE C (.lst es)=(vF' (tA C es)) from rfl]
  exact rq' (sA es R h)
 | .idx a b,B,X,sc,e,R,h=>by
  refine⟨?_,trivial⟩
  refine sE' h fun ea eb w1 e0 g=>?_
  clear h
  subst e0
  revert g
  intro h
  simp only[af]at h
  rw[show tE C (.idx a b)=(tOp (nR' C.K) (tE C a) (tE C b)) from rfl]
  rw[<- R.hK]
  exact vH' ixM ((sE0 a R h.1.1).1) ((sE0 b R h.1.2).1) (mn' h.2)
 | .cut a lo hi,B,X,sc,e,R,h=>by
  refine⟨?_,trivial⟩
  refine wb' h fun ea l h_ w1 w2 e0 g=>?_
  clear h
  subst e0
  revert g
  intro h
  simp only[af]at h
  rw[show tE C (.cut a lo hi)=(tSl (rSl C.K) (tE C a) (tO C lo) (tO C hi)) from rfl]
  rw[<- R.hK]
  exact lB' wy' ((sE0 a R h.1.1).1) (sO lo R h.1.2) (sO hi R h.2)
 | .call f es,B,X,sc,e,R,h=>by
  refine⟨?_,trivial⟩
  refine sF' h fun x w1 e r pos e0 g=>?_
  clear h
  subst e0
  revert g
  intro h
  simp only[af,decide_eq_true_eq,bw]at h
  obtain⟨⟨⟨⟨⟨rfl,h1⟩,h2⟩,h3⟩,hh⟩,h6⟩:=h
  rw[show tE C (.call x es)=(fun σ H Q=>match C.fs x with|some sp=>lx' sp [] (C.xk σ) (tA C es) σ H Q|none=>False) from rfl]
  have ht:tld B=true->qT' x∉B:=fun t m=>by rw[t,decide_eq_true m]at h6;cases h6
  cases hf:C.fs x with
  |none=>exact fun _ _ _ _ _ _ q=>q.elim
  |some sp=>
   obtain⟨f,fd,ps,k,CX,F,hr,hm,hk,hb,_,hx⟩:=R.fn x sp hf hh ht
   have hs:aY' e=true:=by
    cases es with
    |nil=>exact an' h2
    |cons c r=>exact(gb' (gb' h2).1).2
   have hp:(backTo pos (starEach r X.env)).any (·.1)=false:=by
    have q:=fc' (env:=X.env) (pos:=pos) h2
    rw[ar' hs]at q
    exact q
   exact mo' F hr (R.glb h1) hm hk hb .nil hx (sA es R h2) h3 (ar' hs) hp
 | .blt f es,B,X,sc,e,R,h=>by
  refine⟨?_,trivial⟩
  refine sF' h fun x w1 e r pos e0 g=>?_
  clear h
  subst e0
  revert g
  intro h
  simp only[af,decide_eq_true_eq,Bool.or_eq_true,bw]at h
  obtain⟨⟨⟨⟨rfl,h1⟩,h2⟩,h4⟩,h5⟩:=h
  have hcc:X.calm=true\/f=.isinstance:=h5.imp R.calm id
  rw[show tE C (.blt f es)=(tCB (cY' C.K f) (tA C es)) from rfl]
  have hs:aY' e=true:=by
   cases es with
   |nil=>exact an' h2
   |cons c r=>exact(gb' (gb' h2).1).2
  have hp:(backTo pos (starEach r X.env)).any (·.1)=false:=by
   have q:=fc' (env:=X.env) (pos:=pos) h2
   rw[ar' hs]at q
   exact q
  rw[<- R.hK]
  have hn:d0' f≠"__name__"/\(d0' f == ("__debug__":Str))=false:=by cases f<;>decide +kernel
  cases sI' f with
  |fn id hv hc=>exact ly' (hc X hcc) (R.glb h1) (R.blt _ h4) hv (sA es R h2) hn.1 hn.2 (ar' hs) hp
  |ty T hv hc=>exact dB' (hc X hcc) (R.glb h1) (R.blt _ h4) hv (sA es R h2) hn.1 hn.2 (ar' hs) hp
 | .din neg a b,B,X,sc,e,R,h=>by
  refine⟨?_,trivial⟩
  refine qU' h fun ea op' eb w1 e0 g=>?_
  clear h
  subst e0
  revert g
  intro h
  simp only[af,decide_eq_true_eq]at h
  obtain⟨⟨⟨rfl,h1⟩,h2⟩,h3⟩:=h
  rw[show tE C (.din neg a b)=(mi' neg (tE C a) (tE C b)) from rfl]
  cases neg with
  |true=>exact nx' (fJ' R.hu1 (sE0 a R h1).1 (sE0 b R h2).1) (bm' h3)
  |false=>exact nx' (nN' R.hu1 (sE0 a R h1).1 (sE0 b R h2).1) (bm' h3)
 | .met m o es,B,X,sc,e,R,h=>by
  refine⟨?_,trivial⟩
  refine wc' h fun eo nm apos args pos e0 g=>?_
  clear h
  subst e0
  revert g
  intro h
  simp only[af,decide_eq_true_eq]at h
  obtain⟨⟨⟨⟨⟨rfl,h1⟩,h2⟩,h3⟩,h4⟩,h5⟩:=h
  rw[show tE C (.met m o es)=(tBM C.K (fP' m) (mh' C.K m) (tE C o) (tA C es)) from rfl]
  rw[<- R.hK]
  obtain⟨id,M⟩:=sJ' m
  cases args with
  |nil=>
   cases es with
   |cons c r=>exact an' h4
   |nil=>
    exact rz' M.pa M.slot M.ty (M.h X) ((sE0 o R h1).1) (kk' h2) h3
  |cons a r=>
   have hs:aY' a=true:=by
    cases es with
    |nil=>exact an' h4
    |cons c r=>exact(gb' (gb' h4).1).2
   have hq:=fc' (env:=X.env) (pos:=pos) h4
   have hp:(backTo pos (starEach r X.env)).any (·.1)=false:=by
    rw[ar' hs]at hq
    exact hq
   refine vI' M.pa M.slot M.ty (M.h X) ((sE0 o R h1).1) (sA es R h4) (kk' h2) ?_ h3 (ar' hs) hp
   have e1:(backTo pos (starEach (a :: r) X.env)).all (fun x=>!x.1)=true:=by
    rw[bh]
    intro x hx
    rw[List.any_eq_false]at hq
    simpa using hq x hx
   rw[e1]
   show(true&&true&&decide ((a :: r).length+0+0<30))=true
   simp only[cj,decide_eq_true_eq]
   omega
 | .trv a,B,X,sc,e,R,h=>by
  refine⟨?_,trivial⟩
  refine wd' h fun n1 w1 n2 w2 y w3 w4 e0 g=>?_
  clear h
  subst e0
  revert g
  intro h
  simp only[af,decide_eq_true_eq,bw]at h
  obtain⟨⟨⟨⟨⟨⟨⟨⟨rfl,rfl⟩,h1⟩,h2⟩,h3⟩,h4⟩,h5⟩,h6⟩,h7⟩:=h
  rw[show tE C (.trv a)=(vU' C.K (tE C a)) from rfl]
  rw[<- R.hK]
  exact sg' (R.calm h7) (R.glb h1) (R.blt _ h2) (R.glb h3) (R.blt _ h4) (sE0 a R h5).1 (ar' (es:=[]) h6)
 | .cal f a,B,X,sc,e,R,h=>by
  refine⟨?_,trivial⟩
  refine pl' h fun x w1 y w2 e0 g=>?_
  clear h
  subst e0
  revert g
  intro h
  simp only[af,decide_eq_true_eq,bw]at h
  obtain⟨⟨⟨⟨⟨rfl,h1⟩,h2⟩,h3⟩,h4⟩,h5⟩:=h
  rw[show tE C (.cal f a)=(tCB (rYf f) (cB' (tE C a) iC')) from rfl]
  have e2:=ar' (env:=X.env) (es:=[]) h4
  cases f with
  |strd=>exact dB' (jK' R.gd R.hu) (R.glb h1) (R.blt _ h2) (by decide +kernel) (cq' (sE0 a R h3).1 eD' e2) (by decide) (by decide) e2
  |dct=>exact dB' (jR' (R.calm h5) R.hu) (R.glb h1) (R.blt _ h2) (by decide +kernel) (cq' (sE0 a R h3).1 eD' e2) (by decide) (by decide) e2
 | .rvt a,B,X,sc,e,R,h=>by
  refine⟨?_,trivial⟩
  refine wf' h fun ea m w1 w2 w3 w4 w5 e0 g=>?_
  clear h
  subst e0
  revert g
  intro h
  simp only[af,decide_eq_true_eq]at h
  obtain⟨rfl,h1⟩:=h
  rw[show tE C (.rvt a)=(vW' C.K (tE C a)) from rfl]
  rw[<- R.hK]
  exact si' (sE0 a R h1).1 (iY' (rf' nD' nw'))
 | .comp elt own t it q .nil,B,X,sc,e,R,h=>by
  have D:sK' C X e (.comp elt own t it q .nil):=by
   obtain⟨ee,tg,iter,ifs,scope,pos,rfl,hh,hsc,helt,hown,h1,h2,h3,h4,h5⟩:=yL' h
   refine⟨tg,iter,ifs,fun D env=>do let _ <- call (.builtin "list.append") [.ref D,<- eval ee env],scope,_,⟨R.compSc hsc,?_,⟨[],rfl⟩,d5' h3,R.calm hh,fun _ _ _=>⟨rfl,rfl⟩,fun _ _ _ _=>⟨rfl,rfl⟩,fun _ _ _ _ _=>rfl,fun _ _ _ _ _=>rfl,km' hown,?_⟩,sI it R h1 h2,rfl,fun _=>rfl,fun _ _ _=>⟨_,rfl⟩⟩
   .rw[R.hN];exact(gF' hsc).2.2.2.2
   .intro s0 H0 ex D
    have R':=R.comp hh hsc s0 H0 ex
    refine⟨sG t R' h4,sQo q R' h5,[],by simp,?_⟩
    exact lJ' rfl (sE0 elt R' helt).1
  refine⟨?_,D⟩
  obtain⟨tg,iter,ifs,nx,scope,pos,D,hi,he,_⟩:=D
  rw[show tE C (.comp elt own t it q .nil)=(jb' own (tI C it) (tG C t) (tQo C q) (tR C .nil (eX' (tE C elt)))) from rfl]
  exact oV' D hi he
 | .comp elt own t it q (.cons _ _ _ _ _),B,X,sc,e,R,h=>(yM' h).elim
termination_by structural c=>c
theorem sA {C:Rc}:∀(es:Ces) {B:List Str} {X:Cx} {sc:Scope} {xs:List Expr},Rok C B X sc->mA C.N B sc es xs=true->PA X xs (tA C es)
 | .nil,B,X,sc,xs,R,h=>by
  refine ki' h fun e0 g=>?_
  clear h
  subst e0
  revert g
  intro h
  rw[show tA C .nil=(iC') from rfl]
  exact eD'
 | .cons e r,B,X,sc,xs,R,h=>by
  refine mm' h fun x xs e0 g=>?_
  clear h
  subst e0
  revert g
  intro h
  simp only[af]at h
  rw[show tA C (.cons e r)=(cB' (tE C e) (tA C r)) from rfl]
  exact cq' ((sE0 e R h.1.1).1) (sA r R h.2) (ar' h.1.2)
termination_by structural c=>c
theorem sQ {C:Rc}:∀(q:Cq) {B:List Str} {X:Cx} {sc:Scope} {e:Expr},Rok C B X sc->mQ C.N B sc q e=true->PT X e (tQ C q)/\((∃op vs pos,e=.BoolOp op vs pos)->PW X e (tQ C q))
 | .val c,B,X,sc,e,R,h=>by
  replace h:=gb' h
  refine⟨?_,fun⟨op,vs,pos,z⟩=>?_⟩
  .rw[show tQ C (.val c)=(fun σ H Q=>tE C c σ H fun x H'=>∃k,rn' C.K x H' k/\Q k H') from rfl]
   rw[<- R.hK]
   exact ls' (sE0 c R h.1).1 (kl' h.2)
  .subst z;exact an' h.2
 | .din neg a b,B,X,sc,e,R,h=>by
  refine qU' h fun ea op' eb w1 e0 g=>?_
  clear h
  subst e0
  revert g
  intro h
  simp only[af,decide_eq_true_eq]at h
  obtain⟨⟨⟨rfl,h1⟩,h2⟩,h3⟩:=h
  rw[show tQ C (.din neg a b)=(dl' (mi' neg (tE C a) (tE C b))) from rfl]
  cases neg with
  |true=>exact⟨ny' (fJ' R.hu1 (sE0 a R h1).1 (sE0 b R h2).1) (bm' h3),fun⟨op,vs,pos,z⟩=>by cases z⟩
  |false=>exact⟨ny' (nN' R.hu1 (sE0 a R h1).1 (sE0 b R h2).1) (bm' h3),fun⟨op,vs,pos,z⟩=>by cases z⟩
 | .cmw k a b,B,X,sc,e,R,h=>by
  refine qU' h fun ea op' eb w1 e0 g=>?_
  clear h
  subst e0
  revert g
  intro h
  simp only[af,decide_eq_true_eq]at h
  obtain⟨⟨⟨rfl,h1⟩,h2⟩,h3⟩:=h
  rw[show tQ C (.cmw k a b)=(dl' (tOp (rZf k) (tE C a) (tE C b))) from rfl]
  exact⟨gh' (wx' R.hu _) (sE0 a R h1).1 (sE0 b R h2).1 (bm' h3),fun⟨op,vs,pos,z⟩=>by cases z⟩
 | .cmx k a b,B,X,sc,e,R,h=>by
  refine qU' h fun ea op' eb w1 e0 g=>?_
  clear h
  subst e0
  revert g
  intro h
  simp only[af,decide_eq_true_eq]at h
  obtain⟨⟨⟨rfl,h1⟩,h2⟩,h3⟩:=h
  rw[show tQ C (.cmx k a b)=(dl' (tOp (rXf C.K k) (tE C a) (tE C b))) from rfl]
  rw[<- R.hK]
  exact⟨gh' (ww' R.hu _) (sE0 a R h1).1 (sE0 b R h2).1 (bm' h3),fun⟨op,vs,pos,z⟩=>by cases z⟩
 | .not q,B,X,sc,e,R,h=>by
  refine xV' h fun y w1 e0 g=>?_
  clear h
  subst e0
  revert g
  intro h
  rw[show tQ C (.not q)=(vl' (tQ C q)) from rfl]
  exact⟨q6' (sQ q R h).1,fun⟨op,vs,pos,z⟩=>by cases z⟩
 | .and a b,B,X,sc,e,R,h=>by
  replace h:=j8' h
  rcases h with⟨x,y,pos,rfl,h⟩|⟨x,y,z,r,pos,rfl,h⟩
  .simp only[af]at h
   rw[show tQ C (.and a b)=(q3' (tQ C a) (tQ C b)) from rfl]
   have w:PW X (.BoolOp .And [x,y] pos) (q3' (tQ C a) (tQ C b)):=nz' (sQ a R h.1).1 (oq' (sQ b R h.2).1)
   exact⟨w.pt,fun _=>w⟩
  .simp only[af]at h
   rw[show tQ C (.and a b)=(q3' (tQ C a) (tQ C b)) from rfl]
   have w:=nz' (sQ a R h.1).1 ((sQ b R h.2).2 ⟨_,_,_,rfl⟩)
   exact⟨w.pt,fun _=>w⟩
 | .or a b,B,X,sc,e,R,h=>by
  replace h:=nU' h
  rcases h with⟨x,y,pos,rfl,h⟩|⟨x,y,z,r,pos,rfl,h⟩
  .simp only[af]at h
   rw[show tQ C (.or a b)=(tOr (tQ C a) (tQ C b)) from rfl]
   have w:PW X (.BoolOp .Or [x,y] pos) (tOr (tQ C a) (tQ C b)):=q5' (sQ a R h.1).1 (q4' (sQ b R h.2).1)
   exact⟨w.pt,fun _=>w⟩
  .simp only[af]at h
   rw[show tQ C (.or a b)=(tOr (tQ C a) (tQ C b)) from rfl]
   have w:=q5' (sQ a R h.1).1 ((sQ b R h.2).2 ⟨_,_,_,rfl⟩)
   exact⟨w.pt,fun _=>w⟩
 | .cmp op a b,B,X,sc,e,R,h=>by
  refine qU' h fun ea op' eb w1 e0 g=>?_
  clear h
  subst e0
  revert g
  intro h
  simp only[af,decide_eq_true_eq]at h
  obtain⟨⟨⟨rfl,h1⟩,h2⟩,h3⟩:=h
  rw[show tQ C (.cmp op a b)=(dl' (tOp (bE' C.K op) (tE C a) (tE C b))) from rfl]
  rw[<- R.hK]
  exact⟨gh' (eL' R.hu _) (sE0 a R h1).1 (sE0 b R h2).1 (bm' h3),fun⟨op,vs,pos,z⟩=>by cases z⟩
 | .chn op1 op2 a b c,B,X,sc,e,R,h=>by
  refine sC' h fun ea o1 o2 eb ec w1 e0 g=>?_
  clear h
  subst e0
  revert g
  intro h
  simp only[af,decide_eq_true_eq]at h
  obtain⟨⟨⟨⟨⟨rfl,rfl⟩,h1⟩,h2⟩,h3⟩,h4⟩:=h
  rw[show tQ C (.chn op1 op2 a b c)=(dl' (da' (bE' C.K op1) (bE' C.K op2) (tE C a) (tE C b) (tE C c))) from rfl]
  rw[<- R.hK]
  exact⟨lr' (eL' R.hu _) (eL' R.hu _) (sE0 a R h1).1 (sE0 b R h2).1 (sE0 c R h3).1 (kj' h4),fun⟨op,vs,pos,z⟩=>by cases z⟩
termination_by structural c=>c
theorem sQo {C:Rc}:∀(q:Cqo) {B:List Str} {X:Cx} {sc:Scope} {es:List Expr},Rok C B X sc->mQo C.N B sc q es=true->PTs X es (tQo C q)
 | .none,B,X,sc,es,R,h=>by
  refine ki' h fun e0 g=>?_
  clear h
  subst e0
  revert g
  intro h
  rw[show tQo C .none=(fun _ H Q=>Q true H) from rfl];exact oS'
 | .some q,B,X,sc,es,R,h=>by
  refine wh' h fun e e0 g=>?_
  clear h
  subst e0
  revert g
  intro h
  rw[show tQo C (.some q)=(tQ C q) from rfl];exact oT' (sQ q R h).1
termination_by structural c=>c
theorem sO {C:Rc}:∀(o:Co) {B:List Str} {X:Cx} {sc:Scope} {e:Option Expr},Rok C B X sc->mO C.N B sc o e=true->PO X e (tO C o)
 | .none,B,X,sc,e,R,h=>by
  refine wi' h fun e0 g=>?_
  clear h
  subst e0
  revert g
  intro h
  rw[show tO C .none=(gi') from rfl];exact oH'
 | .some c,B,X,sc,e,R,h=>by
  refine wj' h fun y e0 g=>?_
  clear h
  subst e0
  revert g
  intro h
  rw[show tO C (.some c)=(lA' (tE C c)) from rfl];exact iY' (sE0 c R h).1
termination_by structural c=>c
theorem sI {C:Rc}:∀(i:Ci) {B:List Str} {X:Cx} {sc:Scope} {x tg:Expr},Rok C B X sc->mI C.N B sc i x=true->sA' i tg=true->PI X tg x (tI C i)
 | .val c,B,X,sc,x,tg,R,h,_=>by
  rw[show tI C (.val c)=(vK' C.K (tE C c)) from rfl]
  rw[<- R.hK]
  exact rK' (sE0 c R h).1
 | .range1 a,B,X,sc,x,tg,R,h,_=>by
  refine pl' h fun n w1 y w2 e0 g=>?_
  clear h
  subst e0
  revert g
  intro h
  simp only[af,decide_eq_true_eq]at h
  obtain⟨⟨⟨⟨rfl,h1⟩,h2⟩,h3⟩,h4⟩:=h
  rw[show tI C (.range1 a)=(oA' (cB' (tE C a) iC')) from rfl]
  exact iN' (R.glb h1) (R.blt _ h2) (cq' (sE0 a R h3).1 eD' (ar' h4)) (ar' h4)
 | .zip a b,B,X,sc,x,tg,R,h,hz=>by
  refine wk' h fun n w1 y z w2 e0 g=>?_
  clear h
  subst e0
  revert g
  intro h
  simp only[af,decide_eq_true_eq]at h
  obtain⟨⟨⟨⟨⟨⟨rfl,h1⟩,h2⟩,h3⟩,h4⟩,h5⟩,h6⟩:=h
  rw[show tI C (.zip a b)=(vL' C.K (cB' (tE C a) (cB' (tE C b) iC'))) from rfl]
  rw[<- R.hK]
  have e2:starEach [_] X.env=[(false,eval _ X.env)]:=ar' (es:=[]) h6
  cases tg with
  |Tuple es k p=>exact rL' (R.glb h1) (R.blt _ h2) (cq' (sE0 a R h3).1 (cq' (sE0 b R h5).1 eD' (ar' h6)) (ar' h4)) (by rw[ar' h4,e2]) e2
  |_=>cases hz
 | .enum a,B,X,sc,x,tg,R,h,hz=>by
  refine pl' h fun n w1 y w2 e0 g=>?_
  clear h
  subst e0
  revert g
  intro h
  simp only[af,decide_eq_true_eq]at h
  obtain⟨⟨⟨⟨rfl,h1⟩,h2⟩,h3⟩,h4⟩:=h
  rw[show tI C (.enum a)=(oZ' C.K (tE C a)) from rfl]
  rw[<- R.hK]
  cases tg with
  |Tuple es k p=>exact o0' (R.glb h1) (R.blt _ h2) (cq' (sE0 a R h3).1 eD' (ar' h4)) (ar' h4)
  |_=>cases hz
 | .dk c,B,X,sc,x,tg,R,h,_=>by
  rw[show tI C (.dk c)=(v5' (tE C c)) from rfl]
  exact sv' (sE0 c R h).1
termination_by structural c=>c
theorem sG {C:Rc}:∀(t:Ct) {B:List Str} {X:Cx} {sc:Scope} {e:Expr},Rok C B X sc->mT C.N B sc t e=true->PG X e (tG C t)
 | .name i,B,X,sc,e,R,h=>by
  refine v8' h fun x w1 e0 g=>?_
  clear h
  subst e0
  revert g
  intro h
  simp only[af]at h
  obtain⟨h1,h2,h3⟩:=cO' h.1
  obtain⟨h4,h5⟩:=R.locb h.2
  rw[show tG C (.name i)=(ei' i) from rfl]
  exact ox' (by rw[R.hN];exact R.nd) (by rw[R.hN];exact h1) h4 h5
 | .tup ts,B,X,sc,e,R,h=>by
  refine sD' h fun es w1 w2 e0 g=>?_
  clear h
  subst e0
  revert g
  intro h
  rw[show tG C (.tup ts)=(v6' C.K (mj' ts) (tGs C ts)) from rfl]
  rw[<- R.hK]
  simp only[af,bw]at h
  exact sw' (R.calm h.2) (sGs ts R h.1) (cu' h.1).1 (cu' h.1).2
 | .sub o i,B,X,sc,e,R,h=>by
  refine sE' h fun eo ei w1 e0 g=>?_
  clear h
  subst e0
  revert g
  intro h
  simp only[af]at h
  rw[show tG C (.sub o i)=(vs' (tE C o) (tE C i) dm') from rfl]
  exact rc' (sE0 o R h.1.1).1 (sE0 i R h.1.2).1 lC' (pp' h.2)
termination_by structural c=>c
theorem sGs {C:Rc}:∀(ts:Cts) {B:List Str} {X:Cx} {sc:Scope} {es:List Expr},Rok C B X sc->mTs C.N B sc ts es=true->PGs X es (tGs C ts)
 | .nil,B,X,sc,es,R,h=>by
  refine ki' h fun e0 g=>?_
  clear h
  subst e0
  revert g
  intro h
  rw[show tGs C .nil=(vr') from rfl];exact oz'
 | .cons t r,B,X,sc,es,R,h=>by
  refine mm' h fun x xs e0 g=>?_
  clear h
  subst e0
  revert g
  intro h
  simp only[af]at h
  rw[show tGs C (.cons t r)=(oy' (tG C t) (tGs C r)) from rfl]
  exact lm' (sG t R h.1.1) (sGs r R h.2) (gG' h.1.2)
termination_by structural c=>c
end
theorem sE {C:Rc} {B:List Str} (c:Ce) {X:Cx} {sc:Scope} {e:Expr} (R:Rok C B X sc) (h:mE C.N B sc c e=true):PE X e (tE C c):=(sE0 c R h).1
end R3
set_option maxHeartbeats 4000000
namespace R3
open PySem PySem.Spec PyProof.Rows L2
def d6':Expr->Bool
 | .ListComp ..=>false
 | .SetComp ..=>false
 | .DictComp ..=>false
 |_=>true
theorem mp' {x tg:Expr} {l:Nat} {env:Env} (h:d6' x=true):swapsWithSole [tg] x l env=pure false:=by
 cases x<;>first|rfl|cases h
theorem ip' {x:Expr} {l:Nat} {env:Env} (h:d6' x=true):swapsWith x none l env=pure false:=by
 cases x<;>first|rfl|cases h
set_option tactic.hygienic true in
theorem kn' {N B:List Str} {sc:Scope} {c:Ce} {x:Expr} (h:mE N B sc c x=true) (hd:gE' c=false) (hx:d6' x=false):∃elt own t it q r,c=.comp elt own t it q r/\∃ee gens scope pos,x=.ListComp ee gens scope pos:=by
 cases x<;>first|(cases hx;done)|skip
 .cases c<;>first|(exact an' h)|(cases hd;done)|exact⟨_,_,_,_,_,_,rfl,_,_,_,_,rfl⟩
 .cases c<;>first|(exact an' h)|(cases hd;done)|(rename_i r;cases r<;>first|(exact an' h)|(cases hd;done)|(rename_i r;cases r<;>first|(exact an' h)|(cases hd;done)|(rename_i r;cases r<;>exact an' h)))
 .cases c<;>first|(exact an' h)|(cases hd;done)|(rename_i r;cases r<;>first|(exact an' h)|(cases hd;done)|(rename_i r;cases r<;>first|(exact an' h)|(cases hd;done)|(rename_i r;cases r<;>exact an' h)))
theorem c5' {tg:Expr} {env:Env} (h:aY' tg=true):(assignEach [tg] env).map (·.2)=[assign tg env]:=by
 cases tg<;>first|rfl|cases h
def pq':Expr->Expr->Bool
 | .Tuple ..,.Tuple ..=>false
 | .List ..,.Tuple ..=>false
 |_,_=>true
theorem eM' {tg x:Expr} {env:Env} (h:pq' tg x=true):swappedStores [tg] x env=pure none:=by
 cases tg<;>first|rfl|(cases x<;>first|rfl|cases h)
theorem fX' {tg:Expr} {vs:List Expr} {k:Nat} {pos:Pos} {env:Env} (h:vs.all (foldedForSure 8)=true):swappedStores [tg] (.Tuple vs k pos) env=pure none:=by
 have key:∀ts:List Expr,swappedStores [.Tuple ts 0 pos] (.Tuple vs k pos) env=pure none:=by
  intro ts
  unfold swappedStores
  dsimp only
  split
  .rfl
  .split
   .rfl
   .split
    .rfl
    .rfl
 cases tg<;>first|rfl|exact key _
theorem pt' {N B:List Str} {sc:Scope} {t:Ct} {a:List Expr} {p:Pos} (h:mT N B sc t (.List a p)=true):False:=by
 cases t<;>exact an' h
section
variable {C:Rc} {B:List Str} {X:Cx} {sc:Scope}
theorem Rok.suite (R:Rok C B X sc) (e:Addr):Rok { C with xk:=fun _=>E0 } ("~" :: "^" :: B) (X.inX e) sc:=by
 have t1:tld ("~" :: "^" :: B)=true:=cP'
 have t2:hat ("~" :: "^" :: B)=true:=decide_eq_true (ao _ au)
 refine⟨R.hN,R.nd,R.hK,PassesOwn.never,(fun z=>by rw[t2]at z;cases z),R.hu,R.gd,R.loc,R.cel,R.fre,R.glo,(fun _ _ _ z=>by rw[t2]at z;cases z),fun x hx=>?_,R.mrk,R.cls,(fun z=>by rw[t1]at z;cases z),(fun z=>by rw[t1]at z;cases z),(fun z=>by rw[t1]at z;cases z)⟩
 rcases am.mp hx with rfl|hx
 .exact R.mrk.1
 .rcases am.mp hx with rfl|hx
  .exact R.mrk.2.1
  .exact R.blt x hx
end
set_option maxHeartbeats 4000000
mutual
theorem sS:∀(c:Cs) {C:Rc} {B:List Str} {X:Cx} {sc:Scope} {s:Stmt},Rok C B X sc->X.env.scope.kind=.function->mS C.N B sc c s=true->PS X s (tS C c)
 | .expr e,C,B,X,sc,s,R,hk,h=>by
  refine wl' h fun x w1 e0 g=>?_
  clear h
  subst e0
  revert g
  intro h
  obtain⟨hc,hd⟩:=gb' h
  clear h
  obtain⟨hc,hm⟩:=gb' hc
  replace hd:gE' e=false:=by cases z:gE' e with
   |false=>rfl
   |true=>rw[z]at hd;exact an' hd
  rw[show tS C (.expr e)=(ov' (tE C e)) from rfl]
  refine ow' (sE e R hc) (ip' ?_)
  cases hx:d6' x with
  |true=>rfl
  |false=>
   obtain⟨elt,own,t,it,q,r,rfl,_⟩:=kn' hc hd hx
   exact an' hm
 | .ret e,C,B,X,sc,s,R,hk,h=>by
  refine wm' h fun x w1 e0 g=>?_
  clear h
  subst e0
  revert g
  intro h
  rw[show tS C (.ret e)=(vn' (tE C e)) from rfl]
  exact ra' (sE e R h)
 | .asg t e,C,B,X,sc,s,R,hk,h=>by
  refine wn' h fun tg x pos e0 g=>?_
  clear h
  subst e0
  revert g
  intro h
  obtain⟨h,h4⟩:=gb' h
  obtain⟨h,h3⟩:=gb' h
  obtain⟨h,h2⟩:=gb' h
  obtain⟨h1,h0⟩:=gb' h
  replace h0:gE' e=false:=by cases z:gE' e with
   |false=>rfl
   |true=>rw[z]at h0;exact an' h0
  rw[show tS C (.asg t e)=(nC' (tE C e) (tG C t)) from rfl]
  have hw:swappedStores [tg] x X.env=pure none:=by
   cases tg with
   |Tuple a b c=>cases x<;>first|exact eM' rfl|exact fX' h4|exact an' h4
   |List a b=>exact(pt' h2).elim
   |_=>exact eM' rfl
  cases hx:d6' x with
  |true=>exact gT' (sE e R h1) (sG t R h2) (mp' hx) hw (c5' h3)
  |false=>
   obtain⟨elt,own,t',it,q,r,rfl,ee,gens,scope,p2,rfl⟩:=kn' h1 h0 hx
   have D:=(sE0 _ R h1).2
   obtain⟨tg',iter,ifs,nx,scope',pos',D,hi,he,hu,hsw⟩:=D
   cases t with
   |name i=>
    cases tg with
    |Name y py=>
     obtain⟨b,hb⟩:=hsw y py pos.line
     cases b with
     |true=>
      replace h2:=gb' h2
      obtain⟨g1,g2,g3⟩:=cO' h2.1
      obtain⟨g4,g5⟩:=R.locb h2.2
      exact h9' D hi (by rw[R.hN];exact R.nd) (by rw[R.hN];exact g1) g4 g5 (hu _) hb
     |false=>exact gT' (sE _ R h1) (sG _ R h2) hb hw (c5' h3)
    |_=>exact an' h2
   |tup ts=>
    cases tg with
    |Tuple a b c=>exact an' h4
    |_=>exact an' h2
   |sub o i=>
    cases tg with
    |Subscript a b c=>exact gT' (sE _ R h1) (sG _ R h2) rfl hw (c5' h3)
    |_=>exact an' h2
 | .dctd i k v own t it q,C,B,X,sc,s,R,hk,h=>by
  refine wo' h fun y py ke ve tg iter ifs a scope p2 pos e0 g=>?_
  clear h
  subst e0
  revert g
  intro h
  simp only[af,decide_eq_true_eq,bw]at h
  obtain⟨⟨⟨⟨⟨⟨⟨⟨⟨⟨⟨hh,hnm⟩,hsc⟩,hke⟩,hve⟩,hown⟩,rfl⟩,h1⟩,h2⟩,h3⟩,h4⟩,h5⟩:=h
  have hnm':=hnm
  replace hnm:=gb' hnm
  obtain⟨g1,g2,g3⟩:=cO' hnm.1
  obtain⟨g4,g5⟩:=R.locb hnm.2
  rw[show tS C (.dctd i k v own t it q)=(nC' (r6' own (tI C it) (tG C t) (tQo C q) (tE C k) (tE C v)) (ei' i)) from rfl]
  refine vS' (Is:=r1' X.prog X.w) (nx:=fun D env=>wz' ke ve D env) lS' (fun _=>rfl) jr' fI' r2' ⟨R.compSc hsc,?_,⟨[],rfl⟩,d5' h3,R.calm hh,fun _ _ _=>⟨rfl,rfl⟩,fun _ _ _ _=>⟨rfl,rfl⟩,fun _ _ _ _ _=>rfl,fun _ _ _ _ _=>rfl,km' hown,?_⟩ (sI it R h1 h2) (by rw[R.hN];exact R.nd) (by rw[R.hN];exact g1) g4 g5 (sG (.name i) R hnm') rfl rfl ⟨_,rfl⟩
  .rw[R.hN];exact(gF' hsc).2.2.2.2
  .intro s0 H0 ex D
   have R':=R.comp hh hsc s0 H0 ex
   exact⟨sG t R' h4,sQo q R' h5,[],by simp,jB' R'.hu1 rfl (sE k R' hke) (sE v R' hve)⟩
 | .dput o i e,C,B,X,sc,s,R,hk,h=>by
  refine wp' h fun eo ei w1 ee w2 e0 g=>?_
  clear h
  subst e0
  revert g
  intro h
  simp only[af]at h
  obtain⟨⟨⟨⟨h1,h2⟩,h3⟩,h4⟩,h5⟩:=h
  rw[show tS C (.dput o i e)=(jA' (tE C o) (tE C i) (tE C e)) from rfl]
  refine lV' R.hu1 (sE o R h1) (sE i R h2) (sE e R h4) ?_
  cases ee<;>first|rfl|cases h5
 | .ite q a b,C,B,X,sc,s,R,hk,h=>by
  refine wq' h fun x ss rs w1 e0 g=>?_
  clear h
  subst e0
  revert g
  intro h
  simp only[af]at h
  rw[show tS C (.ite q a b)=(vo' (tQ C q) (tSs C a) (tSs C b)) from rfl]
  exact vp' (sQ q R h.1.1).1 (sSs a R hk h.1.2) (sSs b R hk h.2)
 | .whl q b,C,B,X,sc,s,R,hk,h=>by
  refine wr' h fun x ss w1 e0 g=>?_
  clear h
  subst e0
  revert g
  intro h
  simp only[af]at h
  rw[show tS C (.whl q b)=(iK' (tQ C q) (tSs C b)) from rfl]
  exact ln' R.own (sQ q R h.1).1 (sSs b R hk h.2)
 | .for_ t it b,C,B,X,sc,s,R,hk,h=>by
  refine wt' h fun tg iter ss w1 e0 g=>?_
  clear h
  subst e0
  revert g
  intro h
  simp only[af,bw]at h
  obtain⟨⟨⟨⟨⟨h1,h2⟩,h3⟩,h4⟩,h5⟩,hh⟩:=h
  rw[show tS C (.for_ t it b)=(vt' (tI C it) (tG C t) (tSs C b)) from rfl]
  exact re' R.own (R.calm hh) (sI it R h1 h2) (sG t R h4) (sSs b R hk h5) (d5' h3)
theorem sSs:∀(c:Css) {C:Rc} {B:List Str} {X:Cx} {sc:Scope} {ss:List Stmt},Rok C B X sc->X.env.scope.kind=.function->mSs C.N B sc c ss=true->PSs X ss (tSs C c)
 | .nil,C,B,X,sc,ss,R,hk,h=>by
  refine wu' h fun e0 g=>?_
  clear h
  subst e0
  revert g
  intro h
  rw[show tSs C .nil=(ot') from rfl];exact ou'
 | .cons c r,C,B,X,sc,ss,R,hk,h=>by
  refine wv' h fun x xs e0 g=>?_
  clear h
  subst e0
  revert g
  intro h
  simp only[af]at h
  rw[show tSs C (.cons c r)=(vm' (tS C c) (tSs C r)) from rfl]
  exact ll' (sS c R hk h.1) (sSs r R hk h.2)
end
section
variable {P:Program} {w:World} {K:W.Frag} {mg:Str->Option Value} {base:Heap}
structure Ask (P:Program) (w:World) (K:W.Frag) (mg:Str->Option Value) (base:Heap) (k:Nat) (C:Rc):Prop where
 fs:∀y sp',C.fs y=some sp'->∃f' fd' ps',(FnOk P w K mg base CX0 k f' fd' ps' sp'\/FnOk P w K mg base (CX1 P w mg) k f' fd' ps' sp'/\qT' y∈C.B)/\mg y=some (.ref f')/\W.keepIn K (.ref f')=true/\ek' K fd' ps' []
 B:∀y∈C.B,mg y=none
 mrk:mg "~"=none/\mg "^"=none/\mg "%"=none
 cl:∀c Ca,C.cl c=some Ca->mg c=some (.ref Ca)/\W.nsIn K mainGlobals c=some (some (.ref Ca))
 nt:tld C.B=false
 nh:hat C.B=false
theorem pu' {x qual:Str} {st:Stmt} {f:Addr} {fd:FuncData} {ps:List Str} {k:Nat} {sp:Sp} (F:Fun K x qual st f fd) (C:Rc) (S:FnScope C.N ps (ac' st)) (hK:C.K=K) (code:Css) (hm:mSs C.N C.B (ac' st) code (aj' st)=true)
  (len:∀vs H Q E,sp vs H Q E->vs.length=ps.length) (ask:Ask P w K mg base k C) (hxk:C.xk=fun _=>E0)
  (hbody:∀vs H Q E,sp vs H Q E->tSs C code { nx:=fun _ H'=>Q .non H',rt:=Q } (aK' C.N vs) H):FnOk P w K mg base CX0 (k+1) f fd ps sp:=by
 obtain⟨oc,od,kV,doc,pm,an,cdv,ct,osl,rfl,lk,hcd⟩:=F.ex
 refine vG' lk hcd S len fun A outer s H vs Q E hr h=>⟨_,(show PSs (qO' CX0 P w K mg base C.N qual (ac' st) f cdv A outer s H E).nox (aj' st) (tSs C code) from sSs code (sc:=ac' st) (B:=C.B) ?_ S.kind hm).nox,hbody vs H Q E h⟩
 refine⟨rfl,S.nd,hK.symm,PassesOwn.never,fun _=>rfl,hr.units,hr.gd,fun _ e=>e,fun _ e=>⟨e,rfl⟩,fun _ e=>.inr e,fun _ e=>e,fun y sp' e _ _=>?_,ask.B,ask.mrk,ask.cl,fun _=>⟨rfl,fun _=>rfl,rfl,rfl,rW' hcd⟩,fun _=>ask.nh,fun _ _ nm Ca pins σ H s e t _ _ _ _ _ _ z=>?_⟩
 .obtain⟨f',fd',ps',h1,h2,h3,h4⟩:=ask.fs y sp' e
  rcases h1 with h1|⟨h1,hb⟩
  .exact⟨f',fd',ps',k,CX0,h1,hr,h2,h3,h4,.inl rfl,nY'⟩
  .refine⟨f',fd',ps',k,_,h1,hr,h2,h3,h4,.inr ⟨rfl,hb⟩,?_⟩
   rintro pins σ H s e s' I ⟨ea,T,Ca,nm,H',_,_,_,_,_,_,_,_,_,_,_,z⟩
   rw[hxk]at z
   exact z.elim
 .rw[hxk]at z
  exact z.elim
end
def mq' (a:Addr) (k:Nat) (h:Heap):Prop:=∃(x y z:Int) (t1 t2 t3:Tok) (n:Nat),h.get? a=some { cls:=.type "list",data:=.seq #[.int x t1,.int y t2,.int z t3] n }/\0<=x/\0<=y/\y<2 ^ 62/\0<=z/\z<=k
def df' (a:Addr) (k:Nat):HO:=.ext (mq' a k)
def fY' (x y z:Int):HO:=.lst [.int x,.int y,.int z]
theorem sL' {a:Addr} {n k:Nat} (e:df' a n=df' a k):n<=k:=by
 have e1:mq' a n=mq' a k:=HO.ext.inj e
 let o:Obj:={ cls:=.type "list",data:=.seq #[.int 0 0,.int 0 0,.int n 0] 0 }
 let h0:Heap:={ (default:Heap)with objs:=Array.replicate a default }
 have hs:h0.objs.size=a:=Array.size_replicate
 have g:(h0.push o).get? a=some o:=by
  have:=ai h0 (o:=o) rfl
  rw[hs]at this
  exact this
 have q:mq' a n (h0.push o):=⟨0,0,n,0,0,0,0,g,by omega,by omega,by decide,by omega,by omega⟩
 rw[e1]at q
 obtain⟨x,y,z,t1,t2,t3,m,g2,_,_,_,_,hz⟩:=q
 rw[g]at g2
 have g3:=Option.some.inj g2
 have g4:(#[.int 0 0,.int 0 0,.int n 0]:Array Value)=#[.int x t1,.int y t2,.int z t3]:=by
  have:o.data=_:=congrArg Obj.data g3
  injection this
 have g6:=congrArg Array.toList g4
 simp only[List.cons.injEq,Value.int.injEq]at g6
 have g5:(n:Int)=z:=g6.2.2.1.1
 omega
theorem ko' {P:Program} {w:World} {H:Hp} {h:Heap} {b:Addr} {x y z:Int} {k:Nat} (hok:HOk P w H h) (e:H b=some (fY' x y z)) (hx:0<=x) (hy:0<=y) (hy2:y<2 ^ 62) (hz:0<=z) (hk:z<=k):HOk P w (upd H b (df' b k)) h:=by
 intro c o ec
 by_cases hc:c=b
 .subst hc
  rw[ab']at ec
  cases ec
  obtain⟨_,its,n,rv,g⟩:=(show as' P w H h c (.lst _) from hok c _ e)
  cases rv with
  |cons r1 r=>
   cases r with
   |cons r2 r=>
    cases r with
    |cons r3 r=>
     cases r
     obtain⟨t1,rfl⟩:=r1
     obtain⟨t2,rfl⟩:=r2
     obtain⟨t3,rfl⟩:=r3
     refine⟨⟨x,y,z,t1,t2,t3,n,g,hx,hy,hy2,hz,hk⟩,⟨_,g⟩,fun h1 h2 q kk=>?_⟩
     obtain⟨x,y,z,t1,t2,t3,n,g,r⟩:=q
     exact⟨x,y,z,t1,t2,t3,n,kk _ g,r⟩
 .rw[ad' hc]at ec
  have ne:∀d u,H d=some u->(∀xs,u≠.lst xs)->d≠b:=fun d u q nu z=>by subst z;rw[e]at q;cases q;exact nu _ rfl
  exact(hok c o ec).stay (fun _ _ _ q=>q) (fun d q=>by rw[ad' (ne d _ q fun _ z=>by cases z)];exact q) fun d xs q=>by rw[ad' (ne d _ q fun _ z=>by cases z)];exact q
theorem mr' {P:Program} {w:World} {H:Hp} {h:Heap} {b:Addr} {k:Nat} (hok:HOk P w H h) (e:H b=some (df' b k)):∃x y z:Int,0<=x/\0<=y/\y<2 ^ 62/\0<=z/\z<=k/\HOk P w (upd H b (fY' x y z)) h:=by
 obtain⟨⟨x,y,z,t1,t2,t3,n,g,hx,hy,hy2,hz,hk⟩,_,_⟩:=(show as' P w H h b (.ext _) from hok b _ e)
 refine⟨x,y,z,hx,hy,hy2,hz,hk,fun c o ec=>?_⟩
 by_cases hc:c=b
 .subst hc
  rw[ab']at ec
  cases ec
  exact⟨by show 3<=sizeLine;decide,[.int x t1,.int y t2,.int z t3],n,.cons ⟨_,rfl⟩ (.cons ⟨_,rfl⟩ (.cons ⟨_,rfl⟩ .nil)),g⟩
 .rw[ad' hc]at ec
  have ne:∀d u,H d=some u->(∀φ,u≠.ext φ)->d≠b:=fun d u q nu z=>by subst z;rw[e]at q;cases q;exact nu _ rfl
  exact(hok c o ec).stay (fun _ _ _ q=>q) (fun d q=>by rw[ad' (ne d _ q fun _ z=>by cases z)];exact q) fun d xs q=>by rw[ad' (ne d _ q fun _ z=>by cases z)];exact q
theorem mt' {fs ex:List Addr} {H H':Hp} {h h':Heap} {b:Addr} {xs:List V} {o:HO} (u:Un fs ex H H' h h') (e:H' b=some (.lst xs)):Un fs ex H (upd H' b o) h h' where
 keep:=u.keep
 slot:=u.slot
 free:=fun c ob q n hx=>by
  have z:=u.free c ob q n hx
  rw[ad' (fun z2=>by subst z2;rw[e]at z;cases z)]
  exact z
 there:=u.there
 tups:=fun c ys q=>by
  have z:=u.tups c ys q
  rw[ad' (fun z2=>by subst z2;rw[e]at z;cases z)]
  exact z
 frzs:=fun c ob ys q=>by
  have z:=u.frzs c ob ys q
  rw[ad' (fun z2=>by subst z2;rw[e]at z;cases z)]
  exact z
 tbls:=fun c ps q=>by
  obtain⟨m,z⟩:=u.tbls c ps q
  exact⟨m,by rw[ad' (fun z2=>by subst z2;rw[e]at z;cases z)];exact z⟩
theorem pv' {fs ex:List Addr} {H H':Hp} {h h':Heap} {b:Addr} {φ:Heap->Prop} {o:HO} (u:Un fs ex (upd H b o) H' h h') (e:H b=some (.ext φ)):Un fs ex H H' h h':=by
 have ne:∀c,H c=none->c≠b:=fun c n z=>by subst z;rw[e]at n;cases n
 have ne2:∀c v,H c=some v->(∀ψ,v≠.ext ψ)->c≠b:=fun c v q nv z=>by subst z;rw[e]at q;cases q;exact nv _ rfl
 exact⟨fun c ob q n=>u.keep c ob q (by rw[ad' (ne c n)];exact n),fun c ob q n=>u.slot c ob q (by rw[ad' (ne c n)];exact n),fun c ob q n=>u.free c ob q (by rw[ad' (ne c n)];exact n),u.there,
  fun c ys q=>u.tups c ys (by rw[ad' (ne2 c _ q fun _ z=>by cases z)];exact q),fun c ob ys q=>u.frzs c ob ys (by rw[ad' (ne2 c _ q fun _ z=>by cases z)];exact q),fun c ps q=>u.tbls c ps (by rw[ad' (ne2 c _ q fun _ z=>by cases z)];exact q)⟩
section
variable {P:Program} {w:World} {K:W.Frag} {mg:Str->Option Value} {base:Heap} {k:Nat} {f:Addr} {fd:FuncData} {ps:List Str} {sp sp':Sp}
def xW' (Q:VK) (v:V) (H:Hp):Prop:=∃b x y z m,H b=some (fY' x y z)/\0<=x/\0<=y/\y<2 ^ 62/\0<=z/\z<=((m:Nat):Int)/\Q v (upd H b (df' b m))
theorem kp' (F:FnOk P w K mg base CX0 k f fd ps sp) (h:∀vs H Q E,sp' vs H Q E->sp vs H (xW' Q) E):FnOk P w K mg base CX0 k f fd ps sp':=by
 refine⟨fun vs H Q E q=>F.len vs H _ E (h _ _ _ _ q),fun A outer s H args us vs Q E hr e0 hb hv hs=>?_⟩
 refine codeAny_mono (F.run A outer s H args us vs _ E hr e0 hb hv (h _ _ _ _ hs)) fun r s' hq=>?_
 cases r with
 |error e=>exact hq
 |ok fl=>
  cases fl with
  |next=>exact hq
  |brk=>exact hq
  |cont=>exact hq
  |ret u=>
   obtain⟨v,H',os,bare,un,hok,rv,b,x,y,z,m,eb,hx,hy,hy2,hz,hm,q⟩:=hq
   exact⟨v,_,os,bare,mt' un eb,ko' hok eb hx hy hy2 hz hm,rv,q⟩
theorem pw' (F:FnOk P w K mg base CX0 k f fd ps sp) (h:∀vs H Q E,sp' vs H Q E->∃b n,H b=some (df' b n)/\∀x y z,0<=x->0<=y->y<2 ^ 62->0<=z->z<=((n:Nat):Int)->sp vs (upd H b (fY' x y z)) Q E) (len:∀vs H Q E,sp' vs H Q E->vs.length=ps.length):FnOk P w K mg base CX0 k f fd ps sp':=by
 refine⟨len,fun A outer s H args us vs Q E hr e0 hb hv hs=>?_⟩
 obtain⟨b,n,eb,hsp⟩:=h _ _ _ _ hs
 obtain⟨x,y,z,hx,hy,hy2,hz,hn,hok⟩:=mr' e0.hok eb
 have ne:∀c,H c=none->c≠b:=fun c n z=>by subst z;rw[eb]at n;cases n
 have e1:Env0 P w K mg base A outer s (upd H b (fY' x y z)):=⟨e0.frames,e0.mod,fun c o e=>⟨(e0.bs c o e).1,by rw[ad' (ne c (e0.bs c o e).2)];exact(e0.bs c o e).2⟩,e0.bsz,e0.funs,fun c hc=>by rw[ad' (ne c (e0.frf c hc))];exact e0.frf c hc,hok,e0.bare⟩
 refine codeAny_mono (F.run A outer s _ args us vs Q E hr e1 hb hv (hsp x y z hx hy hy2 hz hn)) fun r s' hq=>?_
 cases r with
 |error e=>exact hq
 |ok fl=>
  cases fl with
  |next=>exact hq
  |brk=>exact hq
  |cont=>exact hq
  |ret u=>
   obtain⟨v,H',os,bare,un,hok,rv,q⟩:=hq
   exact⟨v,H',os,bare,pv' un eb,hok,rv,q⟩
end
structure Go (c:Nat) (H H':Hp):Prop where
 box:∀a n,H a=some (df' a n)->∃m,m<=n+c/\H' a=some (df' a m)
 oth:∀a o,H a=some o->(∀φ,o≠.ext φ)->H' a=some o
 free:∀a,H' a=none->H a=none
theorem Go.of_same {c:Nat} {H H':Hp} (h:aH' H H'):Go c H H':=⟨fun a n e=>⟨n,by omega,h a _ e⟩,fun a o e _=>h a o e,fun a e=>h.free e⟩
theorem Go.refl {c:Nat} {H:Hp}:Go c H H:=.of_same (aH'.refl H)
theorem Go.trans {c d:Nat} {H H1 H2:Hp} (a:Go c H H1) (b:Go d H1 H2):Go (c+d) H H2:=⟨fun p n e=>by
  obtain⟨m,hm,e1⟩:=a.box p n e
  obtain⟨m',hm',e2⟩:=b.box p m e1
  exact⟨m',by omega,e2⟩,fun p o e no=>b.oth p o (a.oth p o e no) no,fun p e=>a.free p (b.free p e)⟩
theorem Go.mono {c d:Nat} {H H1:Hp} (a:Go c H H1) (h:c<=d):Go d H H1:=⟨fun p n e=>by
  obtain⟨m,hm,e1⟩:=a.box p n e
  exact⟨m,by omega,e1⟩,a.oth,a.free⟩
theorem Go.lst {c:Nat} {H H1:Hp} (a:Go c H H1) {p:Addr} {xs:List V} (e:H p=some (.lst xs)):H1 p=some (.lst xs):=a.oth p _ e fun _ z=>by cases z
theorem Go.tup {c:Nat} {H H1:Hp} (a:Go c H H1) {p:Addr} {xs:List V} (e:H p=some (.tup xs)):H1 p=some (.tup xs):=a.oth p _ e fun _ z=>by cases z
theorem Go.seq {c:Nat} {K:W.Frag} {H H1:Hp} (g:Go c H H1) {a:Addr} {xs:List V} (h:SqL K H a xs):SqL K H1 a xs:=by
 rcases h with(h|⟨o,h⟩)|h
 .exact .inl (.inl (g.lst h))
 .exact .inl (.inr ⟨o,g.oth _ _ h fun _ z=>by cases z⟩)
 .exact .inr h
theorem Go.new {c:Nat} {H:Hp} {p:Addr} (h:H p=none) (o:HO):Go c H (upd H p o):=.of_same fun b u q=>by rw[ad' (af' q h)];exact q
theorem Go.draw {H:Hp} {b:Addr} {n m:Nat} (e:H b=some (df' b n)) (h:m<=n+1) (o:HO):Go 1 H (upd (upd H b o) b (df' b m)):=by
 rw[gf']
 refine⟨fun p k q=>?_,fun p u q no=>?_,fun p q=>?_⟩
 .by_cases hp:p=b
  .subst hp
   rw[e]at q
   have:=sL' (Option.some.inj q)
   exact⟨m,by omega,ab'⟩
  .exact⟨k,by omega,by rw[ad' hp];exact q⟩
 .rw[ad']
  .exact q
  .intro z
   subst z
   rw[e]at q
   cases q
   exact no _ rfl
 .by_cases hp:p=b
  .subst hp
   rw[ab']at q
   cases q
  .rw[ad' hp]at q
   exact q
section
variable {C:Rc} {σ:L2.St} {H:Hp} {Q:VK} {D:Ends} {Qb:Bool->Hp->Prop}
def kV (o:Option (Option V)) (H:Hp) (Q:VK):Prop:=∃v,o=some (some v)/\Q v H
theorem px' {v:V}:kV (some (some v)) H Q=Q v H:=propext ⟨fun⟨u,e,q⟩=>by cases e;exact q,fun q=>⟨v,rfl,q⟩⟩
theorem sM' {i:Nat}:tE C (.var i) σ H Q=kV σ[i]? H Q:=rfl
theorem sN' {n:Int}:tE C (.int n) σ H Q=Q (.int n) H:=rfl
theorem wA' {b:Bool}:tE C (.bl b) σ H Q=Q (.bl b) H:=rfl
theorem sO':tE C .non σ H Q=Q .non H:=rfl
theorem sP' {x:Str}:tE C (.str x) σ H Q=Q (.str x) H:=rfl
theorem wB' {x:String}:tE C (.ty x) σ H Q=Q (.ty x) H:=rfl
def kB1 (C:Rc) (σ:L2.St) (op:Operator) (b:Ce) (Q:VK):VK:=fun x H=>tE C b σ H fun y H2=>eJ' C.K op x y H2 Q
def kB2 (C:Rc) (op:Operator) (x:V) (Q:VK):VK:=fun y H=>eJ' C.K op x y H Q
theorem sQ' {op:Operator} {a b:Ce}:tE C (.bin op a b) σ H Q=tE C a σ H (kB1 C σ op b Q):=rfl
theorem sR' {op:Operator} {b:Ce} {x:V}:kB1 C σ op b Q x H=tE C b σ H (kB2 C op x Q):=rfl
theorem sS' {op:Operator} {x y:V}:kB2 C op x Q y H=eJ' C.K op x y H Q:=rfl
def kC1 (C:Rc) (σ:L2.St) (op:CmpOp) (b:Ce) (Q:VK):VK:=fun x H=>tE C b σ H fun y H2=>bE' C.K op x y H2 Q
def kC2 (C:Rc) (op:CmpOp) (x:V) (Q:VK):VK:=fun y H=>bE' C.K op x y H Q
theorem sT' {op:CmpOp} {a b:Ce}:tE C (.cmp op a b) σ H Q=tE C a σ H (kC1 C σ op b Q):=rfl
theorem sU' {op:CmpOp} {b:Ce} {x:V}:kC1 C σ op b Q x H=tE C b σ H (kC2 C op x Q):=rfl
theorem sV' {op:CmpOp} {x y:V}:kC2 C op x Q y H=bE' C.K op x y H Q:=rfl
def kI1 (C:Rc) (σ:L2.St) (b:Ce) (Q:VK):VK:=fun x H=>tE C b σ H fun y H2=>nR' C.K x y H2 Q
def kI2 (C:Rc) (x:V) (Q:VK):VK:=fun y H=>nR' C.K x y H Q
theorem sW' {a b:Ce}:tE C (.idx a b) σ H Q=tE C a σ H (kI1 C σ b Q):=rfl
theorem sX' {b:Ce} {x:V}:kI1 C σ b Q x H=tE C b σ H (kI2 C x Q):=rfl
theorem sY' {x y:V}:kI2 C x Q y H=nR' C.K x y H Q:=rfl
def xX' (Q:VK):VK:=fun x H=>rU (fun i=>.int (-i)) x H Q
theorem sZ' {a:Ce}:tE C (.neg a) σ H Q=tE C a σ H (xX' Q):=rfl
theorem mu' {i:Int}:xX' Q (.int i) H=Q (.int (-i)) H:=propext ⟨fun⟨u,e,q⟩=>by cases e;exact q,fun q=>⟨i,rfl,q⟩⟩
def kT (Qb:Bool->Hp->Prop):VK:=fun x H=>∃k,x=.bl k/\Qb k H
theorem wC' {k:Bool}:kT Qb (.bl k) H=Qb k H:=propext ⟨fun⟨u,e,q⟩=>by cases e;exact q,fun q=>⟨k,rfl,q⟩⟩
theorem s0' {op:CmpOp} {a b:Ce}:tQ C (.cmp op a b) σ H Qb=tE C a σ H (kC1 C σ op b (kT Qb)):=rfl
def s1' (Qb:Bool->Hp->Prop):Bool->Hp->Prop:=fun c H=>Qb (!c) H
theorem s2' {q:Cq}:tQ C (.not q) σ H Qb=tQ C q σ H (s1' Qb):=rfl
theorem mv' {c:Bool}:s1' Qb c H=Qb (!c) H:=rfl
def py' (C:Rc) (σ:L2.St) (b:Cq) (Qb:Bool->Hp->Prop):Bool->Hp->Prop:=fun c H=>if c=true then tQ C b σ H Qb else Qb false H
def wD' (C:Rc) (σ:L2.St) (b:Cq) (Qb:Bool->Hp->Prop):Bool->Hp->Prop:=fun c H=>if c=true then Qb true H else tQ C b σ H Qb
theorem s3' {a b:Cq}:tQ C (.and a b) σ H Qb=tQ C a σ H (py' C σ b Qb):=rfl
theorem wE' {a b:Cq}:tQ C (.or a b) σ H Qb=tQ C a σ H (wD' C σ b Qb):=rfl
theorem pz' {b:Cq}:py' C σ b Qb true H=tQ C b σ H Qb:=rfl
theorem pA' {b:Cq}:py' C σ b Qb false H=Qb false H:=rfl
theorem s4' {b:Cq}:wD' C σ b Qb true H=Qb true H:=rfl
theorem s5' {b:Cq}:wD' C σ b Qb false H=tQ C b σ H Qb:=rfl
variable {K:W.Frag} {i j:Int} {x y:Str}
theorem wF':eJ' K .Add (.int i) (.int j) H Q=Q (.int (i+j)) H:=rfl
theorem wG':eJ' K .Sub (.int i) (.int j) H Q=Q (.int (i-j)) H:=propext ⟨fun⟨_,_,e,e',q⟩=>by cases e;cases e';exact q,fun q=>⟨_,_,rfl,rfl,q⟩⟩
theorem wH':eJ' K .Mult (.int i) (.int j) H Q=(sy' i j/\Q (.int (i*j)) H):=rfl
theorem s6':eJ' K .Mult (.str x) (.int j) H Q=(-1000000<=j/\j<=1000000/\x.length*j.toNat<=1000000/\Q (.str (Txt.mul x j)) H):=rfl
theorem wI':eJ' K .Mod (.int i) (.int j) H Q=(0<j/\Q (.int (i % j)) H):=propext ⟨fun⟨_,_,e,e',c,q⟩=>by cases e;cases e';exact⟨c,q⟩,fun q=>⟨_,_,rfl,rfl,q.1,q.2⟩⟩
theorem wJ':eJ' K .FloorDiv (.int i) (.int j) H Q=(sx' i j/\Q (.int (i / j)) H):=propext ⟨fun⟨_,_,e,e',c,q⟩=>by cases e;cases e';exact⟨c,q⟩,fun q=>⟨_,_,rfl,rfl,q.1,q.2⟩⟩
theorem wK':eJ' K .Pow (.int i) (.int j) H Q=(vx' i j/\Q (.int (i ^ j.toNat)) H):=propext ⟨fun⟨_,_,e,e',c,q⟩=>by cases e;cases e';exact⟨c,q⟩,fun q=>⟨_,_,rfl,rfl,q.1,q.2⟩⟩
theorem yN':bE' K .Lt (.int i) (.int j) H Q=Q (.bl (decide (i<j))) H:=propext ⟨fun⟨_,_,e,e',q⟩=>by cases e;cases e';exact q,fun q=>⟨_,_,rfl,rfl,q⟩⟩
theorem yO':bE' K .Gt (.int i) (.int j) H Q=Q (.bl (decide (j<i))) H:=propext ⟨fun⟨_,_,e,e',q⟩=>by cases e;cases e';exact q,fun q=>⟨_,_,rfl,rfl,q⟩⟩
theorem yP':bE' K .GtE (.int i) (.int j) H Q=Q (.bl (decide (j<=i))) H:=propext ⟨fun⟨_,_,e,e',q⟩=>by cases e;cases e';exact q,fun q=>⟨_,_,rfl,rfl,q⟩⟩
theorem yQ':bE' K .Eq (.int i) (.int j) H Q=Q (.bl (decide (i=j))) H:=by
 have e:decide (V.int i=V.int j)=decide (i=j):=by simp
 exact propext ⟨fun q=>e ▸ q.2,fun q=>⟨rfl,e.symm ▸ q⟩⟩
theorem s7' {a:Addr}:nR' K (.ref a) (.int i) H Q=(iD' K (.ref a) (.int i) H Q\/i1' K (.ref a) (.int i) H Q):=rfl
def s8' (C:Rc) (r:Css) (D:Ends):Ends:={ D with nx:=tSs C r D }
theorem s9':tSs C .nil D σ H=D.nx σ H:=rfl
theorem pB' {s:Cs} {r:Css}:tSs C (.cons s r) D σ H=tS C s (s8' C r D) σ H:=rfl
theorem nZ' {r:Css}:(s8' C r D).nx σ H=tSs C r D σ H:=rfl
theorem ta' {r:Css}:(s8' C r D).rt=D.rt:=rfl
theorem tb' {r:Css}:(s8' C r D).bk=D.bk:=rfl
theorem tc' {r:Css}:(s8' C r D).ct=D.ct:=rfl
theorem wL' {e:Ce}:tS C (.ret e) D σ H=tE C e σ H D.rt:=rfl
def td' (D:Ends) (σ:L2.St):VK:=fun _ H=>D.nx σ H
theorem te' {e:Ce}:tS C (.expr e) D σ H=tE C e σ H (td' D σ):=rfl
theorem mw' {v:V}:td' D σ v H=D.nx σ H:=rfl
def xY' (i:Nat) (D:Ends) (σ:L2.St):VK:=fun x H=>D.nx (σ.set i (some x)) H
theorem wM' {i:Nat} {e:Ce}:tS C (.asg (.name i) e) D σ H=tE C e σ H (xY' i D σ):=rfl
theorem pC' {i:Nat} {v:V}:xY' i D σ v H=D.nx (σ.set i (some v)) H:=rfl
def tf' (C:Rc) (o i:Ce) (D:Ends) (σ:L2.St):VK:=fun v H=>tE C o σ H fun p H1=>tE C i σ H1 fun k H2=>dm' p k v H2 fun H3=>D.nx σ H3
def th' (C:Rc) (i:Ce) (v:V) (D:Ends) (σ:L2.St):VK:=fun p H1=>tE C i σ H1 fun k H2=>dm' p k v H2 fun H3=>D.nx σ H3
def ti' (p v:V) (D:Ends) (σ:L2.St):VK:=fun k H2=>dm' p k v H2 fun H3=>D.nx σ H3
theorem wN' {o i e:Ce}:tS C (.asg (.sub o i) e) D σ H=tE C e σ H (tf' C o i D σ):=rfl
theorem mx' {o i:Ce} {v:V}:tf' C o i D σ v H=tE C o σ H (th' C i v D σ):=rfl
theorem my' {i:Ce} {v p:V}:th' C i v D σ p H=tE C i σ H (ti' p v D σ):=rfl
theorem mz' {v p k:V}:ti' p v D σ k H=dm' p k v H (D.nx σ):=rfl
def kIf (C:Rc) (a b:Css) (D:Ends) (σ:L2.St):Bool->Hp->Prop:=fun c H=>if c=true then tSs C a D σ H else tSs C b D σ H
theorem yR' {q:Cq} {a b:Css}:tS C (.ite q a b) D σ H=tQ C q σ H (kIf C a b D σ):=rfl
theorem wO' {a b:Css}:kIf C a b D σ true H=tSs C a D σ H:=rfl
theorem wP' {a b:Css}:kIf C a b D σ false H=tSs C b D σ H:=rfl
theorem bl' {p:Prop} [Decidable p] {F:Bool->Hp->Prop} (h1:p->F true H) (h2:¬p->F false H):F (decide p) H:=by
 by_cases h:p
 .rw[decide_eq_true h];exact h1 h
 .rw[decide_eq_false h];exact h2 h
end
section
variable {C:Rc} {σ:L2.St} {H:Hp} {Q:VK} {D:Ends} {Qb:Bool->Hp->Prop} {Qs:List V->Hp->Prop}
def kA1 (C:Rc) (σ:L2.St) (r:Ces) (Qs:List V->Hp->Prop):VK:=fun x H=>tA C r σ H fun xs H2=>Qs (x :: xs) H2
def kA2 (x:V) (Qs:List V->Hp->Prop):List V->Hp->Prop:=fun xs H=>Qs (x :: xs) H
theorem wQ':tA C .nil σ H Qs=Qs [] H:=rfl
theorem tj' {e:Ce} {r:Ces}:tA C (.cons e r) σ H Qs=tE C e σ H (kA1 C σ r Qs):=rfl
theorem tl' {r:Ces} {x:V}:kA1 C σ r Qs x H=tA C r σ H (kA2 x Qs):=rfl
theorem tm' {x:V} {xs:List V}:kA2 x Qs xs H=Qs (x :: xs) H:=rfl
def xZ' (Q:VK):List V->Hp->Prop:=fun xs H=>xs.length<=sizeLine/\∀p,H p=none->Q (.ref p) (upd H p (.tup xs))
def x0' (Q:VK):List V->Hp->Prop:=fun xs H=>xs.length<=sizeLine/\∀p,H p=none->Q (.ref p) (upd H p (.lst xs))
theorem tn' {es:Ces}:tE C (.tup es) σ H Q=tA C es σ H (xZ' Q):=rfl
theorem to' {es:Ces}:tE C (.lst es) σ H Q=tA C es σ H (x0' Q):=rfl
theorem pD' {xs:List V}:xZ' Q xs H=(xs.length<=sizeLine/\∀p,H p=none->Q (.ref p) (upd H p (.tup xs))):=rfl
theorem pE' {xs:List V}:x0' Q xs H=(xs.length<=sizeLine/\∀p,H p=none->Q (.ref p) (upd H p (.lst xs))):=rfl
def pF' (o:Option Sp) (E:XK) (Q:VK):List V->Hp->Prop:=fun vs H=>match o with
 |some sp=>sp (vs++[]) H Q E
 |none=>False
theorem pG' {f:Str} {es:Ces} {sp:Sp} (h:C.fs f=some sp):tE C (.call f es) σ H Q=tA C es σ H (pF' (some sp) (C.xk σ) Q):=by
 show(match C.fs f with|some sp=>lx' sp [] (C.xk σ) (tA C es) σ H Q|none=>False)=_
 rw[h]
 rfl
theorem mA' {sp:Sp} {E:XK} {vs:List V}:pF' (some sp) E Q vs H=sp vs H Q E:=by
 show sp (vs++[]) H Q E=_
 rw[List.append_nil]
def x1' (C:Rc) (f:Bf) (Q:VK):List V->Hp->Prop:=fun vs H=>cY' C.K f vs H Q
theorem tp' {f:Bf} {es:Ces}:tE C (.blt f es) σ H Q=tA C es σ H (x1' C f Q):=rfl
theorem pH' {f:Bf} {vs:List V}:x1' C f Q vs H=cY' C.K f vs H Q:=rfl
def tq' (C:Rc) (σ:L2.St) (m:Mf) (es:Ces) (Q:VK):VK:=fun x H=>tyV C.K (fP' m) x H/\tA C es σ H fun xs H2=>mh' C.K m x xs H2 Q
def tr' (C:Rc) (m:Mf) (x:V) (Q:VK):List V->Hp->Prop:=fun xs H=>mh' C.K m x xs H Q
theorem ts' {m:Mf} {o:Ce} {es:Ces}:tE C (.met m o es) σ H Q=tE C o σ H (tq' C σ m es Q):=rfl
theorem mB' {m:Mf} {es:Ces} {x:V}:tq' C σ m es Q x H=(tyV C.K (fP' m) x H/\tA C es σ H (tr' C m x Q)):=rfl
theorem mC' {m:Mf} {x:V} {xs:List V}:tr' C m x Q xs H=mh' C.K m x xs H Q:=rfl
def wR' (C:Rc) (σ:L2.St) (a b:Ce) (Q:VK):Bool->Hp->Prop:=fun c H=>if c=true then tE C a σ H Q else tE C b σ H Q
theorem tt' {q:Cq} {a b:Ce}:tE C (.ife q a b) σ H Q=tQ C q σ H (wR' C σ a b Q):=rfl
theorem tu' {a b:Ce}:wR' C σ a b Q true H=tE C a σ H Q:=rfl
theorem tv' {a b:Ce}:wR' C σ a b Q false H=tE C b σ H Q:=rfl
def tw' (Q:VK):VK:=fun x H=>∃c,x=.bl c/\Q (.bl (!c)) H
theorem tx' {a:Ce}:tE C (.not a) σ H Q=tE C a σ H (tw' Q):=rfl
theorem mD' {c:Bool}:tw' Q (.bl c) H=Q (.bl (!c)) H:=propext ⟨fun⟨u,e,q⟩=>by cases e;exact q,fun q=>⟨c,rfl,q⟩⟩
def pI' (C:Rc) (σ:L2.St) (b:Ce) (Q:VK):VK:=fun x H=>∃c,x=.bl c/\if c=true then tE C b σ H Q else Q (.bl false) H
def wS' (C:Rc) (σ:L2.St) (b:Ce) (Q:VK):VK:=fun x H=>∃c,x=.bl c/\if c=true then Q (.bl true) H else tE C b σ H Q
theorem ty' {a b:Ce}:tE C (.and a b) σ H Q=tE C a σ H (pI' C σ b Q):=rfl
theorem wT' {a b:Ce}:tE C (.or a b) σ H Q=tE C a σ H (wS' C σ b Q):=rfl
theorem pJ' {b:Ce}:pI' C σ b Q (.bl true) H=tE C b σ H Q:=propext ⟨fun⟨u,e,q⟩=>by cases e;exact q,fun q=>⟨_,rfl,q⟩⟩
theorem pK' {b:Ce}:pI' C σ b Q (.bl false) H=Q (.bl false) H:=propext ⟨fun⟨u,e,q⟩=>by cases e;exact q,fun q=>⟨_,rfl,q⟩⟩
theorem tz' {b:Ce}:wS' C σ b Q (.bl true) H=Q (.bl true) H:=propext ⟨fun⟨u,e,q⟩=>by cases e;exact q,fun q=>⟨_,rfl,q⟩⟩
theorem tA' {b:Ce}:wS' C σ b Q (.bl false) H=tE C b σ H Q:=propext ⟨fun⟨u,e,q⟩=>by cases e;exact q,fun q=>⟨_,rfl,q⟩⟩
def x2' (C:Rc) (Qb:Bool->Hp->Prop):VK:=fun x H=>∃k,rn' C.K x H k/\Qb k H
theorem tC' {e:Ce}:tQ C (.val e) σ H Qb=tE C e σ H (x2' C Qb):=rfl
theorem pL' {b:Bool}:x2' C Qb (.bl b) H=Qb b H:=propext ⟨fun⟨u,e,q⟩=>by
  have e:u=b:=e
  subst e
  exact q,fun q=>⟨b,rfl,q⟩⟩
def tD' (C:Rc) (σ:L2.St) (lo hi:Co) (Q:VK):VK:=fun x H=>tO C lo σ H fun l H2=>tO C hi σ H2 fun u H3=>rSl C.K x l u H3 Q
def tE' (C:Rc) (σ:L2.St) (hi:Co) (x:V) (Q:VK):Option Int->Hp->Prop:=fun l H=>tO C hi σ H fun u H3=>rSl C.K x l u H3 Q
def tF' (C:Rc) (x:V) (l:Option Int) (Q:VK):Option Int->Hp->Prop:=fun u H=>rSl C.K x l u H Q
theorem tG' {a:Ce} {lo hi:Co}:tE C (.cut a lo hi) σ H Q=tE C a σ H (tD' C σ lo hi Q):=rfl
theorem mE' {lo hi:Co} {x:V}:tD' C σ lo hi Q x H=tO C lo σ H (tE' C σ hi x Q):=rfl
theorem mF' {hi:Co} {x:V} {l:Option Int}:tE' C σ hi x Q l H=tO C hi σ H (tF' C x l Q):=rfl
theorem mG' {x:V} {l u:Option Int}:tF' C x l Q u H=rSl C.K x l u H Q:=rfl
variable {Qo:Option Int->Hp->Prop}
def mH' (Qo:Option Int->Hp->Prop):VK:=fun x H=>∃i,x=.int i/\Qo (some i) H
theorem tH':tO C .none σ H Qo=Qo none H:=rfl
theorem tI' {e:Ce}:tO C (.some e) σ H Qo=tE C e σ H (mH' Qo):=rfl
theorem kq' {i:Int}:mH' Qo (.int i) H=Qo (some i) H:=propext ⟨fun⟨u,e,q⟩=>by cases e;exact q,fun q=>⟨i,rfl,q⟩⟩
theorem tJ' {K:W.Frag} {a:Addr} {l u:Option Int}:rSl K (.ref a) l u H Q=(qQ' K (.ref a) l u H Q\/qP' K (.ref a) l u H Q\/qR' K (.ref a) l u H Q):=rfl
def wU' (C:Rc) (σ:L2.St) (i j:Nat) (b:Ce) (D:Ends):VK:=fun v H=>tE C b σ H fun w H1=>D.nx ((σ.set i (some v)).set j (some w)) H1
def tK' (σ:L2.St) (i j:Nat) (v:V) (D:Ends):VK:=fun w H=>D.nx ((σ.set i (some v)).set j (some w)) H
theorem mI' {i j:Nat} {b:Ce} {v:V}:wU' C σ i j b D v H=tE C b σ H (tK' σ i j v D):=rfl
theorem mJ' {i j:Nat} {v w:V}:tK' σ i j v D w H=D.nx ((σ.set i (some v)).set j (some w)) H:=rfl
end
def cb (b:Bool):Nat:=if b then 49 else 48
def tx (l:List Bool):Str:=⟨(l.map cb).toArray⟩
theorem yS':(PySem.Str.ofString "0")=tx [false]:=by decide +kernel
theorem n0' {α:Type} {xs:List α} {i:Int} (h0:0<=i) (h1:i<xs.length):∃v,xs[i.toNat]?=some v/\atI xs i=some v:=by
 obtain⟨j,rfl⟩:=aF h0
 have hk:j<xs.length:=by omega
 exact⟨xs[j],by simp,a1' (by rw[ae hk])⟩
theorem ao' {N:List Str} {vs:List V} {n:Nat} (h:N.length=n):L2.aK' N vs=vs.map some++aO (n-vs.length) none:=by subst h;rfl
section
variable {C:Rc} {σ:L2.St} {H:Hp} {Q:VK} {D:Ends} {Qb:Bool->Hp->Prop}
theorem tL' {i:Nat} {v:V} {R:L2.St->Hp->Prop}:tG C (.name i) v σ H R=R (σ.set i (some v)) H:=rfl
theorem dg' {i j:Nat} {a:Addr} {x y:V} {R:L2.St->Hp->Prop} (h:SqT C.K H a [x,y]) (q:R ((σ.set i (some x)).set j (some y)) H):tG C (.tup (.cons (.name i) (.cons (.name j) .nil))) (.ref a) σ H R:=
 ⟨a,[x,y],rfl,.inl h,rfl,_,_,rfl,_,_,rfl,rfl,q⟩
def pM' (C:Rc) (t:Ct) (b:Css) (D:Ends) (σ:L2.St) (J:It) (H1:Hp):Prop:=∃W:Nat->Nat->L2.St->Hp->Prop,(∃m,W 0 m σ H1)/\∀i m σ H,W i m σ H->
 (J.stop i H/\D.nx σ H)\/(J.go i H/\∃N:L2.St->Hp->Prop,(∀σ' H',N σ' H'->∃m',m'<m/\W (i+1) m' σ' H')/\∀x H',J.yld i H x H'->tG C t x σ H' fun σ2 H2=>tSs C b { D with nx:=N,ct:=N,bk:=D.nx } σ2 H2)
theorem wV' {t:Ct} {it:Ci} {b:Css}:tS C (.for_ t it b) D σ H=tI C it σ H (pM' C t b D σ):=rfl
def kIv (C:Rc) (R:It->Hp->Prop):VK:=fun x H1=>
 (∃a,x=.ref a/\(∃xs,SqL C.K H1 a xs)/\R (Itl C.K a) H1)\/(∃a,x=.ref a/\(∃xs,SqT C.K H1 a xs)/\R (Itt C.K a) H1)\/∃z,x=.str z/\R (Its z) H1
theorem wW' {e:Ce} {R:It->Hp->Prop}:tI C (.val e) σ H R=tE C e σ H (kIv C R):=rfl
def kR1 (R:It->Hp->Prop):VK:=fun x H1=>∃j:Int,x=.int j/\-(2 ^ 62)<=j/\j<2 ^ 62/\R (Itr 0 j.toNat) H1
theorem mK' {e:Ce} {R:It->Hp->Prop}:tI C (.range1 e) σ H R=tE C e σ H fun x H1=>∃j:Int,[x]=[.int j]/\-(2 ^ 62)<=j/\j<2 ^ 62/\R (Itr 0 j.toNat) H1:=rfl
theorem kr' {e:Ce} {R:It->Hp->Prop}:tI C (.range1 e) σ H R=tE C e σ H (kR1 R):=by
 rw[mK']
 congr 1
 funext x H1
 unfold kR1
 simp only[List.cons.injEq,and_true]
def x4' (R:It->Hp->Prop) (x:V):VK:=fun y H1=>∃i j:Int,x=.int i/\y=.int j/\(-(2 ^ 62)<=i/\i<2 ^ 62/\-(2 ^ 62)<=j/\j<2 ^ 62)/\R (Itr i (j-i).toNat) H1
def yT' (C:Rc) (σ:L2.St) (e:Ce) (R:It->Hp->Prop):VK:=fun x H1=>tE C e σ H1 (x4' R x)
theorem pN' {e:Ce} {R:It->Hp->Prop} {x:V}:yT' C σ e R x H=tE C e σ H (x4' R x):=rfl
def kZ2 (C:Rc) (R:It->Hp->Prop) (x:V):VK:=fun y H1=>∃(k j:Bool) (a b:Addr),x=.ref a/\y=.ref b/\(∃xs,Sq k C.K H1 a xs)/\(∃ys,Sq j C.K H1 b ys)/\R (oX' k j C.K a b) H1
def kZ1 (C:Rc) (σ:L2.St) (e:Ce) (R:It->Hp->Prop):VK:=fun x H1=>tE C e σ H1 (kZ2 C R x)
theorem wX' {a b:Ce} {R:It->Hp->Prop}:tI C (.zip a b) σ H R=tE C a σ H (kZ1 C σ b R):=by
 show(tE C a σ H fun x H1=>tE C b σ H1 fun y H2=>∃(k j:Bool) (p q:Addr),[x,y]=[.ref p,.ref q]/\(∃xs,Sq k C.K H2 p xs)/\(∃ys,Sq j C.K H2 q ys)/\R (oX' k j C.K p q) H2)=_
 congr 1
 funext x H1
 unfold kZ1
 congr 1
 funext y H2
 unfold kZ2
 simp only[List.cons.injEq,and_true,and_assoc]
theorem tM' {e:Ce} {R:It->Hp->Prop} {x:V}:kZ1 C σ e R x H=tE C e σ H (kZ2 C R x):=rfl
def kEn (C:Rc) (R:It->Hp->Prop):VK:=fun x H1=>(∃a,x=.ref a/\(∃xs,SqL C.K H1 a xs)/\R (Ite C.K a) H1)\/(∃z,x=.str z/\R (u5' z) H1)\/∃a,x=.ref a/\(∃xs,SqT C.K H1 a xs)/\R (u6' C.K a) H1
theorem tN' {a:Ce} {R:It->Hp->Prop}:tI C (.enum a) σ H R=tE C a σ H (kEn C R):=by
 show(tE C a σ H fun x H1=>∃y,[x]=[y]/\((∃a,y=.ref a/\(∃xs,SqL C.K H1 a xs)/\R (Ite C.K a) H1)\/(∃z,y=.str z/\R (u5' z) H1)\/∃a,y=.ref a/\(∃xs,SqT C.K H1 a xs)/\R (u6' C.K a) H1))=_
 congr 1
 funext x H1
 unfold kEn
 exact propext ⟨fun⟨y,e,q⟩=>by cases e;exact q,fun q=>⟨x,rfl,q⟩⟩
theorem n1' {R:It->Hp->Prop} {a:Addr} {xs:List V} (h:SqL C.K H a xs) (q:R (Ite C.K a) H):kEn C R (.ref a) H:=.inl ⟨a,rfl,⟨xs,h⟩,q⟩
theorem ca' {R:It->Hp->Prop} {a:Addr} {xs:List V} (h:SqL C.K H a xs) (q:R (Itl C.K a) H):kIv C R (.ref a) H:=.inl ⟨a,rfl,⟨xs,h⟩,q⟩
theorem cb' {R:It->Hp->Prop} {a:Addr} {xs:List V} (h:SqT C.K H a xs) (q:R (Itt C.K a) H):kIv C R (.ref a) H:=.inr (.inl ⟨a,rfl,⟨xs,h⟩,q⟩)
theorem gH' {R:It->Hp->Prop} {j:Int} (h0:-(2 ^ 62)<=j) (h1:j<2 ^ 62) (q:R (Itr 0 j.toNat) H):kR1 R (.int j) H:=⟨j,rfl,h0,h1,q⟩
theorem ks' {R:It->Hp->Prop} {a b:Addr} {xs ys:List V} (h:SqT C.K H a xs) (h2:SqT C.K H b ys) (q:R (Itz true C.K a b) H):kZ2 C R (.ref a) (.ref b) H:=⟨true,true,a,b,rfl,rfl,⟨xs,h⟩,⟨ys,h2⟩,q⟩
theorem pO' {R:It->Hp->Prop} {k j:Bool} {a b:Addr} {xs ys:List V} (h:Sq k C.K H a xs) (h2:Sq j C.K H b ys) (q:R (oX' k j C.K a b) H):kZ2 C R (.ref a) (.ref b) H:=⟨k,j,a,b,rfl,rfl,⟨xs,h⟩,⟨ys,h2⟩,q⟩
theorem tO' {a:Addr} {xs:List V} {t:Ct} {b:Css} (Pv:Nat->L2.St->Hp->Prop) (h0:Pv 0 σ H) (hl:∀i σ H,i<=xs.length->Pv i σ H->SqL C.K H a xs)
  (hs:∀i x σ H,xs[i]?=some x->Pv i σ H->tG C t x σ H (tSs C b { D with nx:=Pv (i+1),ct:=Pv (i+1),bk:=D.nx })) (hd:∀σ H,Pv xs.length σ H->D.nx σ H):pM' C t b D σ (Itl C.K a) H:=lp' Pv h0 hl hs hd
theorem tP' {a:Addr} {xs:List V} {t:Ct} {b:Css} (Pv:Nat->L2.St->Hp->Prop) (h0:Pv 0 σ H) (hl:∀i σ H,i<=xs.length->Pv i σ H->SqT C.K H a xs)
  (hs:∀i x σ H,xs[i]?=some x->Pv i σ H->tG C t x σ H (tSs C b { D with nx:=Pv (i+1),ct:=Pv (i+1),bk:=D.nx })) (hd:∀σ H,Pv xs.length σ H->D.nx σ H):pM' C t b D σ (Itt C.K a) H:=oB' Pv h0 hl hs hd
theorem gI' {lo:Int} {n:Nat} {t:Ct} {b:Css} (Pv:Nat->L2.St->Hp->Prop) (h0:Pv 0 σ H)
  (hs:∀i σ H,i<n->Pv i σ H->tG C t (.int (lo+i)) σ H (tSs C b { D with nx:=Pv (i+1),ct:=Pv (i+1),bk:=D.nx })) (hd:∀σ H,Pv n σ H->D.nx σ H):pM' C t b D σ (Itr lo n) H:=iO' Pv h0 hs hd
theorem wY' {a:Addr} {xs:List V} {t:Ct} {b:Css} (Pv:Nat->L2.St->Hp->Prop) (h0:Pv 0 σ H) (hl:∀i σ H,i<=xs.length->Pv i σ H->SqL C.K H a xs)
  (hs:∀i x σ H p,xs[i]?=some x->H p=none->Pv i σ H->tG C t (.ref p) σ (upd H p (.tup [.int i,x])) (tSs C b { D with nx:=Pv (i+1),ct:=Pv (i+1),bk:=D.nx })) (hd:∀σ H,Pv xs.length σ H->D.nx σ H):pM' C t b D σ (Ite C.K a) H:=by
 refine⟨fun i m σ H=>m=xs.length-i/\i<=xs.length/\Pv i σ H,⟨xs.length,by simp,aT _,h0⟩,?_⟩
 rintro i m σ H ⟨rfl,hi,p⟩
 have q:=hl i σ H hi p
 by_cases hlt:i<xs.length
 .refine .inr ⟨⟨xs,xs[i],q,by simp[hlt]⟩,Pv (i+1),fun σ' H' p'=>⟨xs.length-(i+1),by omega,rfl,hlt,p'⟩,fun x H' y=>?_⟩
  obtain⟨ad,v,rfl,hn,y,rfl⟩:=y
  exact hs i v σ _ ad (y xs q) hn p
 .have e:i=xs.length:=by omega
  subst e
  exact .inl ⟨⟨xs,q,rfl⟩,hd σ H p⟩
def vg' (C:Rc) (b:Css) (D:Ends) (N:L2.St->Hp->Prop) (σ:L2.St):Bool->Hp->Prop:=fun c H1=>if c=true then ∃N':L2.St->Hp->Prop,(∀σ' H',N' σ' H'->N σ' H')/\tSs C b { D with nx:=N',ct:=N',bk:=D.nx } σ H1 else D.nx σ H1
theorem tQ' {q:Cq} {b:Css} (Pv:Nat->L2.St->Hp->Prop) (m:Nat) (h0:Pv m σ H) (hs:∀m σ H,Pv m σ H->tQ C q σ H (vg' C b D (fun σ' H'=>∃m',m'<m/\Pv m' σ' H') σ)):tS C (.whl q b) D σ H:=⟨Pv,⟨m,h0⟩,hs⟩
theorem tR' {b:Css} {N:L2.St->Hp->Prop} (h:tSs C b { D with nx:=N,ct:=N,bk:=D.nx } σ H):vg' C b D N σ true H:=⟨N,fun _ _ q=>q,h⟩
theorem tS' {b:Css} {N:L2.St->Hp->Prop} (h:D.nx σ H):vg' C b D N σ false H:=by unfold vg';rw[if_neg (by decide)];exact h
def kt' (xs:List V) (P:List V->Hp->Prop):VK:=fun v H=>xs.length<sizeLine/\P (xs++[v]) H
def kCT (C:Rc) (elt:Ce) (xs:List V) (P:List V->Hp->Prop) (σ:L2.St):Bool->Hp->Prop:=fun ok H=>if ok=true then tE C elt σ H (kt' xs P)else P xs H
def kCG (C:Rc) (elt:Ce) (q:Cqo) (xs:List V) (P:List V->Hp->Prop):L2.St->Hp->Prop:=fun σ H=>tQo C q σ H (kCT C elt xs P σ)
theorem wZ' {elt:Ce} {xs:List V} {P:List V->Hp->Prop}:kCG C elt .none xs P σ H=tE C elt σ H (kt' xs P):=rfl
theorem w0' {elt:Ce} {q:Cq} {xs:List V} {P:List V->Hp->Prop}:kCG C elt (.some q) xs P σ H=tQ C q σ H (kCT C elt xs P σ):=rfl
theorem w1' {elt:Ce} {xs:List V} {P:List V->Hp->Prop}:kCT C elt xs P σ true H=tE C elt σ H (kt' xs P):=rfl
theorem w2' {elt:Ce} {xs:List V} {P:List V->Hp->Prop}:kCT C elt xs P σ false H=P xs H:=rfl
theorem mL' {xs:List V} {P:List V->Hp->Prop} {v:V}:kt' xs P v H=(xs.length<sizeLine/\P (xs++[v]) H):=rfl
def mM' (Q:VK) (xs:List V) (H2:Hp):Prop:=∀p,H2 p=none->Q (.ref p) (upd H2 p (.lst xs))
def gJ' (C:Rc) (elt:Ce) (own:List Nat) (t:Ct) (q:Cqo) (σ:L2.St) (Q:VK) (J:It) (H1:Hp):Prop:=bj' own (tG C t) (tQo C q) (eX' (tE C elt)) J σ [] H1 (mM' Q)
theorem pP' {elt:Ce} {own:List Nat} {t:Ct} {it:Ci} {q:Cqo}:tE C (.comp elt own t it q .nil) σ H Q=tI C it σ H (gJ' C elt own t q σ Q):=rfl
theorem fe' {elt:Ce} {own:List Nat} {t:Ct} {q:Cqo} {J:It} {n:Nat} (Pv:Nat->List V->Hp->Prop) (h0:Pv 0 [] H) (hgo:∀i xs H,i<n->Pv i xs H->J.go i H) (hstop:∀xs H,Pv n xs H->J.stop n H)
  (hs:∀i xs H x H' (R:List V->Hp->Prop),i<n->Pv i xs H->J.yld i H x H'->(∀ys H2,Pv (i+1) ys H2->R ys H2)->tG C t x (clr own σ) H' (kCG C elt q xs R)) (hd:∀xs H,Pv n xs H->mM' Q xs H):gJ' C elt own t q σ Q J H:=by
 refine⟨fun i m xs H=>m=n-i/\i<=n/\Pv i xs H,⟨n,by simp,aT _,h0⟩,?_⟩
 rintro i m xs H ⟨rfl,hi,p⟩
 by_cases hlt:i<n
 .refine .inr ⟨hgo i xs H hlt p,fun x H' y=>?_⟩
  exact hs i xs H x H' (fun c H4=>∃m',m'<n-i/\(m'=n-(i+1)/\i+1<=n/\Pv (i+1) c H4)) hlt p y fun ys H2 p2=>⟨n-(i+1),by omega,rfl,hlt,p2⟩
 .have e:i=n:=by omega
  subst e
  exact .inl ⟨hstop xs H p,hd xs H p⟩
theorem n2' {elt:Ce} {own:List Nat} {t:Ct} {q:Cqo} {a:Addr} {vs:List V} (Pv:Nat->List V->Hp->Prop) (h0:Pv 0 [] H) (hl:∀i xs H,Pv i xs H->SqL C.K H a vs)
  (hs:∀i xs H x (R:List V->Hp->Prop),vs[i]?=some x->Pv i xs H->(∀ys H2,Pv (i+1) ys H2->R ys H2)->tG C t x (clr own σ) H (kCG C elt q xs R)) (hd:∀xs H,Pv vs.length xs H->mM' Q xs H):gJ' C elt own t q σ Q (Itl C.K a) H:=
 fe' (n:=vs.length) Pv h0 (fun i xs H hi p=>⟨vs,vs[i],hl i xs H p,by simp[hi]⟩) (fun xs H p=>⟨vs,hl _ xs H p,ag _⟩) (fun i xs H x H' R hi p y k=>by
  obtain⟨e,y⟩:=y
  subst e
  exact hs i xs H' x R (y vs (hl i xs H' p)) p k) hd
theorem n3' {elt:Ce} {own:List Nat} {t:Ct} {q:Cqo} {a:Addr} {vs:List V} (Pv:Nat->List V->Hp->Prop) (h0:Pv 0 [] H) (hl:∀i xs H,Pv i xs H->SqT C.K H a vs)
  (hs:∀i xs H x (R:List V->Hp->Prop),vs[i]?=some x->Pv i xs H->(∀ys H2,Pv (i+1) ys H2->R ys H2)->tG C t x (clr own σ) H (kCG C elt q xs R)) (hd:∀xs H,Pv vs.length xs H->mM' Q xs H):gJ' C elt own t q σ Q (Itt C.K a) H:=
 fe' (n:=vs.length) Pv h0 (fun i xs H hi p=>⟨vs,vs[i],hl i xs H p,by simp[hi]⟩) (fun xs H p=>⟨vs,hl _ xs H p,ag _⟩) (fun i xs H x H' R hi p y k=>by
  obtain⟨e,y⟩:=y
  subst e
  exact hs i xs H' x R (y vs (hl i xs H' p)) p k) hd
theorem tT' {elt:Ce} {own:List Nat} {t:Ct} {q:Cqo} {a:Addr} {vs:List V} (Pv:Nat->List V->Hp->Prop) (h0:Pv 0 [] H) (hl:∀i xs H,Pv i xs H->SqL C.K H a vs)
  (hs:∀i xs H x p (R:List V->Hp->Prop),vs[i]?=some x->H p=none->Pv i xs H->(∀ys H2,Pv (i+1) ys H2->R ys H2)->tG C t (.ref p) (clr own σ) (upd H p (.tup [.int i,x])) (kCG C elt q xs R)) (hd:∀xs H,Pv vs.length xs H->mM' Q xs H):gJ' C elt own t q σ Q (Ite C.K a) H:=
 fe' (n:=vs.length) Pv h0 (fun i xs H hi p=>⟨vs,vs[i],hl i xs H p,by simp[hi]⟩) (fun xs H p=>⟨vs,hl _ xs H p,rfl⟩) (fun i xs H x H' R hi p y k=>by
  obtain⟨ad,v,rfl,hn,y,rfl⟩:=y
  exact hs i xs H v ad R (y vs (hl i xs H p)) hn p k) hd
end
section
variable {C:Rc} {K:W.Frag} {σ:L2.St} {H:Hp} {Q:VK} {D:Ends} {Qb:Bool->Hp->Prop}
theorem ag' {f:Str} {es:Ces} {sp:Sp} (h:C.fs f=some sp) (q:tA C es σ H (pF' (some sp) (C.xk σ) Q)):tE C (.call f es) σ H Q:=by
 rw[pG' h]
 exact q
theorem d7' {a:Addr} {xs:List V} (h:SqL K H a xs) (q:Q (.int xs.length) H):cY' K .len [.ref a] H Q:=⟨_,_,rfl,.inl ⟨xs,h,rfl⟩,q⟩
theorem aR' {a:Addr} {xs:List V} (h:SqT K H a xs) (q:Q (.int xs.length) H):cY' K .len [.ref a] H Q:=⟨_,_,rfl,.inr ⟨xs,h,rfl⟩,q⟩
theorem tU' {i:Int}:cY' K .abs [.int i] H Q=Q (.int (if i<0 then -i else i)) H:=propext ⟨fun⟨u,e,q⟩=>by cases e;exact q,fun q=>⟨_,rfl,q⟩⟩
theorem iq' {i:Int}:cY' K .int [.int i] H Q=Q (.int i) H:=rfl
theorem ku' {k:Bool}:cY' K .int [.bl k] H Q=Q (.int (if k then 1 else 0)) H:=rfl
theorem pQ' {i j:Int}:cY' K .min [.int i,.int j] H Q=Q (.int (if j<i then j else i)) H:=rfl
theorem hC' {a:Addr} {bs:List Bool} (h:SqL K H a (bs.map V.bl)) (q:Q (.bl (bs.all id)) H):cY' K .all [.ref a] H Q:=⟨a,bs,rfl,h,q⟩
theorem tV' {x:V} {T c:String} (h:bk' H x=some T) (hT:T∈bR') (hc:c∈["bool","int","str","list","tuple","dict"]) (q:Q (.bl (isT T c)) H):cY' K .isinstance [x,.ty c] H Q:=.inl (.inl ⟨x,T,c,rfl,h,hT,hc,q⟩)
theorem pR' {x:V} {T c d:String} {p:Addr} (h:bk' H x=some T) (hT:T∈bR') (hp:H p=some (.tup [.ty c,.ty d])) (hc:c∈["bool","int","str","list","tuple","dict"]) (hd:d∈["bool","int","str","list","tuple","dict"]) (q:Q (.bl (isT T c || isT T d)) H):cY' K .isinstance [x,.ref p] H Q:=
 .inl <| .inr ⟨x,T,p,[c,d],rfl,h,hT,hp,fun e he=>by
  simp only[am,aB,or_false]at he
  rcases he with rfl|rfl
  .exact hc
  .exact hd,by simpa using q⟩
theorem bF' {a:Addr} {xs:List V} {i:Int} {v:V} (h:SqL K H a xs) (e:atI xs i=some v) (q:Q v H):iD' K (.ref a) (.int i) H Q\/i1' K (.ref a) (.int i) H Q:=.inl ⟨a,xs,i,v,rfl,rfl,h,e,q⟩
theorem a0' {a:Addr} {xs:List V} {i:Int} {v:V} (h:SqT K H a xs) (e:atI xs i=some v) (q:Q v H):iD' K (.ref a) (.int i) H Q\/i1' K (.ref a) (.int i) H Q:=.inr ⟨a,xs,i,v,rfl,rfl,h,e,q⟩
theorem n4' {a:Addr} {u v:V} {k:Bool} (h:SqL K H a [u,v]) (q:Q (if k then v else u) H):iD' K (.ref a) (.int (if k then 1 else 0)) H Q\/i1' K (.ref a) (.int (if k then 1 else 0)) H Q:=by
 refine bF' h ?_ q
 cases k<;>rfl
theorem w3' {x y:V} (h:iP' x y=true):bE' K .Eq x y H Q=Q (.bl (decide (x=y))) H:=by
 have e:bE' K .Eq x y H Q=rEq x y H Q:=by
  unfold bE'
  dsimp only
  split
  .cases h
  .rfl
 rw[e]
 exact propext ⟨fun⟨_,q⟩=>q,fun q=>⟨h,q⟩⟩
theorem pS' {x y:V} (h:iP' x y=true):bE' K .NotEq x y H Q=Q (.bl (!decide (x=y))) H:=by
 have e:bE' K .NotEq x y H Q=rNe x y H Q:=by
  unfold bE'
  dsimp only
  split
  .cases h
  .rfl
 rw[e]
 exact propext ⟨fun⟨_,q⟩=>q,fun q=>⟨h,q⟩⟩
theorem tW' {a b:Addr} {xs ys:List V} (h:SqL K H a xs) (h2:SqL K H b ys) (he:xs.length=ys.length->LEq xs ys) (q:Q (.bl (!decide (xs=ys))) H):bE' K .NotEq (.ref a) (.ref b) H Q:=.inl ⟨a,b,xs,ys,rfl,rfl,h,h2,he,q⟩
theorem pT' {xs:List V}:xs.length=([]:List V).length->LEq xs []:=fun _ i x y _ h=>by cases h
theorem n5' {a:Addr} {xs:List V} {y:V} {i:Nat} (h:H a=some (.lst xs)) (hz:xs.length<sizeLine) (hi:i<=xs.length) (q:Q .non (upd H a (.lst (xs.take i++y :: xs.drop i)))):mh' K .insert (.ref a) [.int i,y] H Q:=⟨a,xs,y,i,rfl,rfl,h,hz,hi,q⟩
theorem kv' {i j:Int} (q:∀p,H p=none->Q (.ref p) (upd H p (.rng i j))):cY' K .range [.int i,.int j] H Q:=⟨i,j,.inl rfl,q⟩
theorem kw' {j:Int} (q:∀p,H p=none->Q (.ref p) (upd H p (.rng 0 j))):cY' K .range [.int j] H Q:=⟨0,j,.inr ⟨rfl,rfl⟩,q⟩
theorem mN' {r:Addr} {i j:Int} (h:H r=some (.rng i j)) (h1:-(2 ^ 62)<=i) (h2:i<2 ^ 62) (h3:-(2 ^ 62)<=j) (h4:j<2 ^ 62) (hz:(j-i).toNat<=sizeLine) (q:∀p,H p=none->Q (.ref p) (upd H p (.lst (rgs i (j-i).toNat)))):cY' K .list [.ref r] H Q:=.inr ⟨r,i,j,rfl,h,⟨h1,h2,h3,h4⟩,hz,q⟩
theorem mO' {a:Addr} {xs:List V} (h:SqT K H a xs) (q:∀p,H p=none->Q (.ref p) (upd H p (.lst xs))):cY' K .list [.ref a] H Q:=.inl ⟨a,xs,rfl,.inr h,q⟩
theorem cv' {a:Addr} {xs:List V} (h:SqL K H a xs) (q:∀p,H p=none->Q (.ref p) (upd H p (.tup xs))):cY' K .tuple [.ref a] H Q:=⟨a,xs,rfl,.inl ⟨h,q⟩⟩
theorem w4' {x y:Bool}:bE' K .NotEq (.bl x) (.bl y) H Q=Q (.bl (x != y)) H:=by
 have e:bE' K .NotEq (.bl x) (.bl y) H Q=Q (.bl (!decide (V.bl x=V.bl y))) H:=propext ⟨fun⟨_,q⟩=>q,fun q=>⟨rfl,q⟩⟩
 rw[e]
 cases x<;>cases y<;>rfl
theorem w5' {x y:Int}:bE' K .NotEq (.int x) (.int y) H Q=Q (.bl (!decide (x=y))) H:=by
 have e:bE' K .NotEq (.int x) (.int y) H Q=Q (.bl (!decide (V.int x=V.int y))) H:=propext ⟨fun⟨_,q⟩=>q,fun q=>⟨rfl,q⟩⟩
 rw[e]
 congr 3
 simp only[V.int.injEq]
theorem yU' {x:V}:bE' K .Is x .non H Q=Q (.bl (decide (x=.non))) H:=propext ⟨fun⟨_,q⟩=>q,fun q=>⟨rfl,q⟩⟩
theorem pU' {x:V}:bE' K .IsNot x .non H Q=Q (.bl (!decide (x=.non))) H:=propext ⟨fun⟨_,q⟩=>q,fun q=>⟨rfl,q⟩⟩
def kG (C:Rc) (t:Ct) (D:Ends) (σ:L2.St):VK:=fun v H=>tG C t v σ H D.nx
theorem tX' {t:Ct} {e:Ce}:tS C (.asg t e) D σ H=tE C e σ H (kG C t D σ):=rfl
theorem pV' {i j:Nat} {a:Addr} {x y:V} (h:SqT C.K H a [x,y]) (q:D.nx ((σ.set i (some x)).set j (some y)) H):kG C (.tup (.cons (.name i) (.cons (.name j) .nil))) D σ (.ref a) H:=dg' h q
theorem mP' {xs:List V} {n:Nat}:gj' xs (some (n:Int)) none=xs.drop n:=by
 unfold gj'
 rw[HT.eU',HT.gU']
 rcases Nat.le_total n xs.length with h|h
 .rw[Nat.min_eq_left h,ce (by simp)]
 .rw[Nat.min_eq_right h,List.drop_of_length_le h];simp
theorem n6' {xs:List V} {n:Nat}:gj' xs none (some (n:Int))=xs.take n:=by
 unfold gj'
 rw[HT.eU',HT.gU']
 rcases Nat.le_total n xs.length with h|h
 .rw[Nat.min_eq_left h];simp
 .rw[Nat.min_eq_right h];simp[ce h]
theorem kx' {a:Addr} {xs:List V} {lo hi:Option Int} (h:SqT K H a xs) (hn:¬(HT.sIx xs.length 0 lo=0/\HT.sIx xs.length xs.length hi=xs.length)) (q:∀p,H p=none->Q (.ref p) (upd H p (.tup (gj' xs lo hi)))):qQ' K (.ref a) lo hi H Q\/qP' K (.ref a) lo hi H Q\/qR' K (.ref a) lo hi H Q:=.inr (.inl ⟨a,xs,rfl,h,hn,q⟩)
theorem pW' {a b:Addr} {xs ys:List V} (h:SqT K H a xs) (h2:SqT K H b ys) (hz:xs.length+ys.length<=sizeLine) (q0:xs=[]->Q (.ref b) H) (q1:xs≠[]->ys=[]->Q (.ref a) H) (q2:xs≠[]->ys≠[]->∀p,H p=none->Q (.ref p) (upd H p (.tup (xs++ys)))):eJ' K .Add (.ref a) (.ref b) H Q:=by
 by_cases e:xs=[]
 .subst e
  exact .inr (.inr ⟨a,b,ys,rfl,rfl,h,h2,q0 rfl⟩)
 .exact .inr (.inl ⟨a,b,xs,ys,rfl,rfl,h,h2,e,hz,q1 e,q2 e⟩)
theorem ky' {a:Addr} {xs:List V} {lo hi:Option Int} (h:SqL K H a xs) (q:∀p,H p=none->Q (.ref p) (upd H p (.lst (gj' xs lo hi)))):qQ' K (.ref a) lo hi H Q\/qP' K (.ref a) lo hi H Q\/qR' K (.ref a) lo hi H Q:=.inl ⟨a,xs,rfl,h,q⟩
def x5' (C:Rc) (Q:VK):VK:=fun x H1=>∃a xs,x=.ref a/\SqT C.K H1 a xs/\xs≠[]/\∀p,H1 p=none->Q (.ref p) (upd H1 p (.tup xs.reverse))
theorem tY' {a:Ce}:tE C (.trv a) σ H Q=tE C a σ H (x5' C Q):=rfl
theorem tZ' {a:Addr} {xs:List V} (h:SqT C.K H a xs) (hn:xs≠[]) (q:∀p,H p=none->Q (.ref p) (upd H p (.tup xs.reverse))):x5' C Q (.ref a) H:=⟨a,xs,rfl,h,hn,q⟩
theorem fZ' {a:Addr} {xs:List V} {y:V} (h:H a=some (.lst xs)) (hz:xs.length<sizeLine) (q:Q .non (upd H a (.lst (xs++[y])))):mh' K .append (.ref a) [y] H Q:=⟨a,xs,y,rfl,rfl,h,hz,q⟩
theorem tyL {a:Addr} {xs:List V} {m:Mf} (h:H a=some (.lst xs)) (hm:fP' m="list"):tyV K (fP' m) (.ref a) H:=.inl ⟨hm,xs,SqL.of h⟩
theorem f0' {a b:Addr} {xs zs:List V} (h:H a=some (.lst xs)) (h2:H b=some (.lst zs)) (hz:xs.length+zs.length<=sizeLine) (q:∀p,H p=none->Q (.ref p) (upd H p (.lst (xs++zs)))):eJ' K .Add (.ref a) (.ref b) H Q:=.inl ⟨a,b,xs,zs,rfl,rfl,h,h2,hz,q⟩
theorem ah' {H:Hp} {p:Addr} (h:H p=none) (o:HO):aH' H (upd H p o):=fun b u q=>by rw[ad' (af' q h)];exact q
theorem snw {H:Hp} {p:Addr} (h:H p=none) (o:HO):aH' H (upd H p o)/\upd H p o p=some o:=⟨ah' h o,ab'⟩
theorem gnw {H:Hp} {p:Addr} (h:H p=none) (o:HO):Go 0 H (upd H p o)/\upd H p o p=some o:=⟨Go.new h o,ab'⟩
theorem ay' {α:Type} {l:List α} {i:Nat} {c:α} (hc:l[i]?=some c):i<l.length:=by
 rcases cO i l.length with h|h
 .exact h
 .rw[bq.mpr h]at hc;cases hc
def pX' (d:Addr) (x:V) (Q:VK):VK:=fun y H2=>∃(b:Addr) (ks:List Key),x=.ref b/\H2 b=some (.tup (ks.map L2.kV))/\H2 d=some (.dT [])/\Q (.ref d) (upd H2 d (.dT [(ks,y)]))
def t0' (C:Rc) (σ:L2.St) (b:Ce) (d:Addr) (Q:VK):VK:=fun x H1=>tE C b σ H1 (pX' d x Q)
theorem t1' {a b:Ce}:tE C (.dst a b) σ H Q=(∀d,H d=none->tE C a σ (upd H d (.dT [])) (t0' C σ b d Q)):=rfl
theorem mQ' {b:Ce} {d:Addr} {x:V}:t0' C σ b d Q x H=tE C b σ H (pX' d x Q):=rfl
theorem t2' {d b:Addr} {ks:List Key} {y:V} (h:H b=some (.tup (ks.map L2.kV))) (h2:H d=some (.dT [])) (q:Q (.ref d) (upd H d (.dT [(ks,y)]))):pX' d (.ref b) Q y H:=⟨b,ks,rfl,h,h2,q⟩
def x6' (x:V) (Q:VK):VK:=fun y H=>∃a v,x=.ref a/\nH' H a y (some v)/\Q v H
def yV' (C:Rc) (σ:L2.St) (b:Ce) (Q:VK):VK:=fun x H=>tE C b σ H (x6' x Q)
theorem pY' {b:Ce} {x:V}:yV' C σ b Q x H=tE C b σ H (x6' x Q):=rfl
end
end R3
namespace R3
open PySem PySem.Spec PyProof.Rows L2 PySem.Builtin PySem.Builtin.Str
section
variable {K:W.Frag} {H:Hp} {Q:VK}
end
section
variable {C:Rc} {K:W.Frag} {σ:L2.St} {H:Hp} {Q:VK} {D:Ends} {Qb:Bool->Hp->Prop} {i j:Int}
def x7' (R:It->Hp->Prop) (x y:V):VK:=fun z H1=>∃i j c:Int,x=.int i/\y=.int j/\z=.int c/\(-(2 ^ 60)<=i/\i<2 ^ 60/\-(2 ^ 60)<=j/\j<2 ^ 60/\(0<c/\c<2 ^ 29\/c=-1))/\R (Itc i c (vO' i j c)) H1
def w6' (C:Rc) (σ:L2.St) (e:Ce) (R:It->Hp->Prop) (x:V):VK:=fun y H1=>tE C e σ H1 (x7' R x y)
def yW' (C:Rc) (σ:L2.St) (e e':Ce) (R:It->Hp->Prop):VK:=fun x H1=>tE C e σ H1 (w6' C σ e' R x)
theorem pZ' {e e':Ce} {R:It->Hp->Prop} {x:V}:yW' C σ e e' R x H=tE C e σ H (w6' C σ e' R x):=rfl
theorem p0' {e:Ce} {R:It->Hp->Prop} {x y:V}:w6' C σ e R x y H=tE C e σ H (x7' R x y):=rfl
def kDk (R:It->Hp->Prop):VK:=fun x H1=>DkV x H1 R\/DtV x H1 R\/DnV x H1 R
theorem yX' {e:Ce} {R:It->Hp->Prop}:tI C (.dk e) σ H R=tE C e σ H (kDk R):=rfl
theorem t3' {R:It->Hp->Prop} {d:Addr} {kvs:List (List Key×V)} (h:Rd H d (.dT kvs)) (q:∀o (as:List Addr),as.length=kvs.length->(∀(i:Nat) a kv,as[i]?=some a->kvs[i]?=some kv->H a=some (.tup (kv.1.map L2.kV)))->R (nQ' d o (as.map V.ref)) (upd H d (.frz o (.dT kvs)))):kDk R (.ref d) H:=.inr (.inl ⟨d,kvs,rfl,h,fun o as h1 h2 _=>q o as h1 h2⟩)
theorem t4' {d:Addr} {o:Obj} {ks:List V} {t:Ct} {b:Css} (Pv:Nat->L2.St->Hp->Prop) (h0:Pv 0 σ H) (hl:∀i σ H,Pv i σ H->Fz H d o)
  (hs:∀i x σ H,ks[i]?=some x->Pv i σ H->tG C t x σ H (tSs C b { D with nx:=Pv (i+1),ct:=Pv (i+1),bk:=D.nx })) (hd:∀σ H,Pv ks.length σ H->D.nx σ H):pM' C t b D σ (nQ' d o ks) H:=by
 refine⟨fun i m σ H=>m=ks.length-i/\i<=ks.length/\Pv i σ H,⟨ks.length,by simp,aT _,h0⟩,?_⟩
 rintro i m σ H ⟨rfl,hi,p⟩
 by_cases hlt:i<ks.length
 .refine .inr ⟨⟨hlt,hl i σ H p⟩,Pv (i+1),fun σ' H' p'=>⟨ks.length-(i+1),by omega,rfl,hlt,p'⟩,fun x H' y=>?_⟩
  obtain⟨e,y⟩:=y
  subst e
  exact hs i x σ _ y p
 .have e:i=ks.length:=by omega
  exact .inl ⟨⟨by omega,hl i σ H p⟩,hd σ H (e ▸ p)⟩
theorem p1' {elt:Ce} {own:List Nat} {t:Ct} {q:Cqo} {d:Addr} {o:Obj} {ks:List V} (Pv:Nat->List V->Hp->Prop) (h0:Pv 0 [] H) (hl:∀i xs H,Pv i xs H->Fz H d o)
  (hs:∀i xs H x (R:List V->Hp->Prop),ks[i]?=some x->Pv i xs H->(∀ys H2,Pv (i+1) ys H2->R ys H2)->tG C t x (clr own σ) H (kCG C elt q xs R)) (hd:∀xs H,Pv ks.length xs H->mM' Q xs H):gJ' C elt own t q σ Q (nQ' d o ks) H:=
 fe' (n:=ks.length) Pv h0 (fun i xs H hi p=>⟨hi,hl i xs H p⟩) (fun xs H p=>⟨ag _,hl _ xs H p⟩) (fun i xs H x H' R hi p y k=>by
  obtain⟨e,y⟩:=y
  subst e
  exact hs i xs H' x R y p k) hd
def w7' (C:Rc) (elt:Ce) (ws:List Nat) (t2:Ct) (q2:Cqo) (xs:List V) (P:List V->Hp->Prop) (σ:L2.St) (J:It) (H1:Hp):Prop:=bj' ws (tG C t2) (tQo C q2) (eX' (tE C elt)) J σ xs H1 P
def vh' (C:Rc) (elt:Ce) (ws:List Nat) (t2:Ct) (it2:Ci) (q2:Cqo) (xs:List V) (P:List V->Hp->Prop) (σ:L2.St):Bool->Hp->Prop:=fun ok H=>if ok=true then tI C it2 σ H (w7' C elt ws t2 q2 xs P σ)else P xs H
def x9' (C:Rc) (elt:Ce) (q:Cqo) (ws:List Nat) (t2:Ct) (it2:Ci) (q2:Cqo) (xs:List V) (P:List V->Hp->Prop):L2.St->Hp->Prop:=fun σ H=>tQo C q σ H (vh' C elt ws t2 it2 q2 xs P σ)
theorem t5' {elt:Ce} {ws:List Nat} {t2:Ct} {it2:Ci} {q2:Cqo} {xs:List V} {P:List V->Hp->Prop}:x9' C elt .none ws t2 it2 q2 xs P σ H=tI C it2 σ H (w7' C elt ws t2 q2 xs P σ):=rfl
theorem t6' {elt:Ce} {q:Cq} {ws:List Nat} {t2:Ct} {it2:Ci} {q2:Cqo} {xs:List V} {P:List V->Hp->Prop}:x9' C elt (.some q) ws t2 it2 q2 xs P σ H=tQ C q σ H (vh' C elt ws t2 it2 q2 xs P σ):=rfl
theorem t7' {elt:Ce} {ws:List Nat} {t2:Ct} {it2:Ci} {q2:Cqo} {xs:List V} {P:List V->Hp->Prop}:vh' C elt ws t2 it2 q2 xs P σ true H=tI C it2 σ H (w7' C elt ws t2 q2 xs P σ):=rfl
theorem t8' {elt:Ce} {ws:List Nat} {t2:Ct} {it2:Ci} {q2:Cqo} {xs:List V} {P:List V->Hp->Prop}:vh' C elt ws t2 it2 q2 xs P σ false H=P xs H:=rfl
def t9' (C:Rc) (elt:Ce) (own:List Nat) (t:Ct) (q:Cqo) (ws:List Nat) (t2:Ct) (it2:Ci) (q2:Cqo) (σ:L2.St) (Q:VK) (J:It) (H1:Hp):Prop:=bj' own (tG C t) (tQo C q) (oU' (tI C it2) (bj' ws (tG C t2) (tQo C q2) (eX' (tE C elt)))) J σ [] H1 (mM' Q)
theorem mR' {elt:Ce} {own:List Nat} {t:Ct} {it:Ci} {q:Cqo} {ws:List Nat} {t2:Ct} {it2:Ci} {q2:Cqo}:tE C (.comp elt own t it q (.cons ws t2 it2 q2 .nil)) σ H Q=tI C it σ H (t9' C elt own t q ws t2 it2 q2 σ Q):=rfl
end
section
variable {C:Rc} {σ:L2.St} {H:Hp} {Q:VK} {D:Ends}
structure ClsG (C:Rc) (r:Str) (Cr:Addr) (L:List Str):Prop where
 own:C.cl r=some Cr
 e:∃Ce,C.cl "RunError"=some Ce/\W.exmOne C.K (.ref Cr) (.ref Ce)=some true
 ex:W.excIn C.K Cr bmV "ValueError.__new__"=true
 x:XCls C.K Cr
 kv:W.kitOne C.K (.ref Cr) (.type "ValueError")=some true
 k:∀c∈L,∃Cc,C.cl c=some Cc/\W.kitOne C.K (.ref Cr) (.ref Cc)=some (decide (c=r))
end
def aP' (l:List (Str×Sp)) (y:Str):Option Sp:=l.lookup y
theorem ae' {x:Str} {s:Sp} {l:List (Str×Sp)}:aP' ((x,s) :: l) x=some s:=by unfold aP';simp
theorem aa' {x y:Str} {s:Sp} {l:List (Str×Sp)} (h:(y == x)=false):aP' ((x,s) :: l) y=aP' l y:=by
 unfold aP'
 rw[bp,h]
theorem eN' {y:Str} {s:Sp}:∀{l:List (Str×Sp)},aP' l y=some s->(y,s)∈l
 | [],h=>by cases h
 |(x,t) :: l,h=>by
  unfold aP' at h
  rw[bp]at h
  cases e:y == x with
  |true=>
   rw[e]at h
   cases h
   rw[eq_of_beq e]
   exact au ..
  |false=>
   rw[e]at h
   exact ao _ (eN' h)
theorem aI' {P:Program} {w:World} {K:W.Frag} {mg:Str->Option Value} {base:Heap} {k:Nat} {l:List (Str×Sp)} (h:∀p∈l,∃f' fd' ps',FnOk P w K mg base CX0 k f' fd' ps' p.2/\mg p.1=some (.ref f')/\W.keepIn K (.ref f')=true/\ek' K fd' ps' []):
  ∀y sp',aP' l y=some sp'->∃f' fd' ps',FnOk P w K mg base CX0 k f' fd' ps' sp'/\mg y=some (.ref f')/\W.keepIn K (.ref f')=true/\ek' K fd' ps' []:=fun y sp' e=>h (y,sp') (eN' e)
theorem ap' {P:Program} {w:World} {K:W.Frag} {mg:Str->Option Value} {base:Heap} {x qual:Str} {st:Stmt} {f:Addr} {fd:FuncData} {ps:List Str} {k:Nat} {sp:Sp} (F:Fun K x qual st f fd) (C:Rc) (S:FnScope C.N ps (ac' st)) (hK:C.K=K) (code:Css) (hm:mSs C.N C.B (ac' st) code (aj' st)=true)
  (len:∀vs H Q E,sp vs H Q E->vs.length=ps.length)
  (hfs:∀y sp',C.fs y=some sp'->∃f' fd' ps',FnOk P w K mg base CX0 k f' fd' ps' sp'/\mg y=some (.ref f')/\W.keepIn K (.ref f')=true/\ek' K fd' ps' []) (hB:∀y∈C.B,mg y=none) (hmk:mg "~"=none/\mg "^"=none/\mg "%"=none) (nt:tld C.B=false) (nh:hat C.B=false) (hxk:C.xk=fun _=>E0) (hcl:C.cl=fun _=>none)
  (hbody:∀vs H Q E,sp vs H Q E->tSs C code { nx:=fun _ H'=>Q .non H',rt:=Q } (aK' C.N vs) H):FnOk P w K mg base CX0 (k+1) f fd ps sp:=
 pu' F C S hK code hm len ⟨fun y sp' e=>by
  obtain⟨f',fd',ps',h1,h2⟩:=hfs y sp' e
  exact⟨f',fd',ps',.inl h1,h2⟩,hB,hmk,(fun c Ca e=>by rw[hcl]at e;cases e),nt,nh⟩ hxk hbody
theorem mC {α:Type} {P:α->Prop} {a:α} {l:List α} (h:P a/\∀x∈l,P x):∀x∈a :: l,P x:=aN.mpr h
theorem mN {α:Type} {P:α->Prop}:∀x∈([]:List α),P x:=fun y hy=>absurd hy aB
theorem n7' {α:Type} {P:List α->Prop} (h:∀x0,P [x0]):∀us:List α,us.length=1->P us
 | [x0],_=>h x0
theorem iF' {α:Type} {P:List α->Prop} (h:∀x0 x1,P [x0,x1]):∀us:List α,us.length=2->P us
 | [x0,x1],_=>h x0 x1
theorem w8' {α:Type} {P:List α->Prop} (h:∀x0 x1 x2,P [x0,x1,x2]):∀us:List α,us.length=3->P us
 | [x0,x1,x2],_=>h x0 x1 x2
theorem vi' {α:Type} {P:List α->Prop} (h:∀x0 x1 x2 x3,P [x0,x1,x2,x3]):∀us:List α,us.length=4->P us
 | [x0,x1,x2,x3],_=>h x0 x1 x2 x3
theorem ya' {α:Type} {P:List α->Prop} (h:∀x0 x1 x2 x3 x4,P [x0,x1,x2,x3,x4]):∀us:List α,us.length=5->P us
 | [x0,x1,x2,x3,x4],_=>h x0 x1 x2 x3 x4
def dh' {α β:Type} (R:α->β->Prop):List α->List β->Prop
 | [],[]=>True
 |a :: as,b :: bs=>R a b/\dh' R as bs
 |_,_=>False
section
variable {α β:Type} {R S:α->β->Prop}
theorem dh'.mono (h:∀a b,R a b->S a b):∀{as:List α} {bs:List β},dh' R as bs->dh' S as bs
 | [],[],_=>trivial
 |_ :: _,_ :: _,q=>⟨h _ _ q.1,dh'.mono h q.2⟩
 | [],_ :: _,q=>q.elim
 |_ :: _,[],q=>q.elim
theorem dh'.len:∀{as:List α} {bs:List β},dh' R as bs->as.length=bs.length
 | [],[],_=>rfl
 |_ :: _,_ :: _,q=>by simp[dh'.len q.2]
 | [],_ :: _,q=>q.elim
 |_ :: _,[],q=>q.elim
theorem dh'.app:∀{as cs:List α} {bs ds:List β},dh' R as bs->dh' R cs ds->dh' R (as++cs) (bs++ds)
 | [],_,[],_,_,q=>q
 |_ :: _,_,_ :: _,_,p,q=>⟨p.1,dh'.app p.2 q⟩
 | [],_,_ :: _,_,p,_=>p.elim
 |_ :: _,_,[],_,p,_=>p.elim
theorem dh'.snoc {a:α} {b:β} {as:List α} {bs:List β} (h:dh' R as bs) (r:R a b):dh' R (as++[a]) (bs++[b]):=h.app ⟨r,trivial⟩
theorem dh'.getL:∀{as:List α} {bs:List β} {i:Nat} {a:α},dh' R as bs->as[i]?=some a->∃b,bs[i]?=some b/\R a b
 | [],[],_,_,_,e=>by cases e
 |_ :: _,b :: _,0,_,q,e=>by cases e;exact⟨b,rfl,q.1⟩
 |_ :: as,_ :: bs,i+1,a,q,e=>by
  obtain⟨b,h1,h2⟩:=dh'.getL (i:=i) (a:=a) q.2 (by simpa using e)
  exact⟨b,by simpa using h1,h2⟩
 | [],_ :: _,_,_,q,_=>q.elim
 |_ :: _,[],_,_,q,_=>q.elim
end
def hE' {α:Type} (aw':TL α) (b:α) (P:α->Hp->Prop) (σ:L2.St):Bool->Hp->Prop:=fun ok H=>if ok=true then aw' σ b H P else P b H
def ir' {α:Type} (tc:TT) (aw':TL α) (b:α) (P:α->Hp->Prop):L2.St->Hp->Prop:=fun σ H=>tc σ H (hE' aw' b P σ)
def kCl {α:Type} (own:List Nat) (g:TG) (tc:TT) (aw':TL α) (σ:L2.St) (a:α) (N:α->Hp->Prop) (J:It) (H:Hp):Prop:=bj' own g tc aw' J σ a H N
section
variable {C:Rc} {σ:L2.St} {H:Hp} {Q:VK} {D:Ends} {α:Type}
theorem p2' {aw':TL α} {b:α} {P:α->Hp->Prop}:ir' (tQo C .none) aw' b P σ H=aw' σ b H P:=rfl
theorem p3' {q:Cq} {aw':TL α} {b:α} {P:α->Hp->Prop}:ir' (tQo C (.some q)) aw' b P σ H=tQ C q σ H (hE' aw' b P σ):=rfl
theorem mS' {aw':TL α} {b:α} {P:α->Hp->Prop}:hE' aw' b P σ true H=aw' σ b H P:=rfl
theorem mT' {aw':TL α} {b:α} {P:α->Hp->Prop}:hE' aw' b P σ false H=P b H:=rfl
theorem ua' {own:List Nat} {g:TG} {tc:TT} {aw':TL α} {J:It} {a:α} {N:α->Hp->Prop} {n:Nat} (Pv:Nat->α->Hp->Prop) (h0:Pv 0 a H) (hgo:∀i b H,i<n->Pv i b H->J.go i H) (hstop:∀b H,Pv n b H->J.stop n H)
  (hs:∀i b H x H' (R:α->Hp->Prop),i<n->Pv i b H->J.yld i H x H'->(∀c H2,Pv (i+1) c H2->R c H2)->g x (clr own σ) H' (ir' tc aw' b R)) (hd:∀b H,Pv n b H->N b H):kCl own g tc aw' σ a N J H:=by
 refine⟨fun i m b H=>m=n-i/\i<=n/\Pv i b H,⟨n,by simp,aT _,h0⟩,?_⟩
 rintro i m b H ⟨rfl,hi,p⟩
 by_cases hlt:i<n
 .refine .inr ⟨hgo i b H hlt p,fun x H' y=>?_⟩
  exact hs i b H x H' (fun c H4=>∃m',m'<n-i/\(m'=n-(i+1)/\i+1<=n/\Pv (i+1) c H4)) hlt p y fun ys H2 p2=>⟨n-(i+1),by omega,rfl,hlt,p2⟩
 .have e:i=n:=by omega
  subst e
  exact .inl ⟨hstop b H p,hd b H p⟩
theorem yY' {own:List Nat} {g:TG} {tc:TT} {aw':TL α} {b0:α} {N:α->Hp->Prop} {a:Addr} {vs:List V} (Pv:Nat->α->Hp->Prop) (h0:Pv 0 b0 H) (hl:∀i b H,Pv i b H->SqL C.K H a vs)
  (hs:∀i b H x (R:α->Hp->Prop),vs[i]?=some x->Pv i b H->(∀c H2,Pv (i+1) c H2->R c H2)->g x (clr own σ) H (ir' tc aw' b R)) (hd:∀b H,Pv vs.length b H->N b H):kCl own g tc aw' σ b0 N (Itl C.K a) H:=
 ua' (n:=vs.length) Pv h0 (fun i xs H hi p=>⟨vs,vs[i],hl i xs H p,by simp[hi]⟩) (fun xs H p=>⟨vs,hl _ xs H p,ag _⟩) (fun i xs H x H' R hi p y k=>by
  obtain⟨e,y⟩:=y
  subst e
  exact hs i xs H' x R (y vs (hl i xs H' p)) p k) hd
theorem yZ' {own:List Nat} {g:TG} {tc:TT} {aw':TL α} {b0:α} {N:α->Hp->Prop} {a:Addr} {vs:List V} (Pv:Nat->α->Hp->Prop) (h0:Pv 0 b0 H) (hl:∀i b H,Pv i b H->SqT C.K H a vs)
  (hs:∀i b H x (R:α->Hp->Prop),vs[i]?=some x->Pv i b H->(∀c H2,Pv (i+1) c H2->R c H2)->g x (clr own σ) H (ir' tc aw' b R)) (hd:∀b H,Pv vs.length b H->N b H):kCl own g tc aw' σ b0 N (Itt C.K a) H:=
 ua' (n:=vs.length) Pv h0 (fun i xs H hi p=>⟨vs,vs[i],hl i xs H p,by simp[hi]⟩) (fun xs H p=>⟨vs,hl _ xs H p,ag _⟩) (fun i xs H x H' R hi p y k=>by
  obtain⟨e,y⟩:=y
  subst e
  exact hs i xs H' x R (y vs (hl i xs H' p)) p k) hd
theorem mU' {elt:Ce} {own:List Nat} {t:Ct} {it:Ci} {q:Cqo} {ws:List Nat} {t2:Ct} {it2:Ci} {q2:Cqo} {r:Cc}:tE C (.comp elt own t it q (.cons ws t2 it2 q2 r)) σ H Q=tI C it σ H (kCl own (tG C t) (tQo C q) (tR C (.cons ws t2 it2 q2 r) (eX' (tE C elt))) σ [] (mM' Q)):=rfl
theorem p4' {ws:List Nat} {t:Ct} {it:Ci} {q:Cqo} {r:Cc} {em:TL (List V)} {b:List V} {P:List V->Hp->Prop}:tR C (.cons ws t it q r) em σ b H P=tI C it σ H (kCl ws (tG C t) (tQo C q) (tR C r em) σ b P):=rfl
theorem ub' {em:TL (List V)} {b:List V} {P:List V->Hp->Prop}:tR C .nil em σ b H P=em σ b H P:=rfl
theorem p5' {elt:Ce} {b:List V} {P:List V->Hp->Prop}:eX' (tE C elt) σ b H P=tE C elt σ H (kt' b P):=rfl
def w9' (b:(Option Int->Bool)×Nat) (P:(Option Int->Bool)×Nat->Hp->Prop):VK:=fun v H=>∃k,v=kO k/\b.2<4000/\P (fun j=>b.1 j || decide (j=k),b.2+1) H
theorem mV' {elt:Ce} {b:(Option Int->Bool)×Nat} {P:(Option Int->Bool)×Nat->Hp->Prop}:rZ' (tE C elt) σ b H P=tE C elt σ H (w9' b P):=rfl
theorem p6' {it:Ci} {own:List Nat} {g:TG} {tc:TT} {aw':TL α} {b:α} {P:α->Hp->Prop}:oU' (tI C it) (bj' own g tc aw') σ b H P=tI C it σ H (kCl own g tc aw' σ b P):=rfl
def xa' (i:Nat) (D:Ends) (σ:L2.St):KTL->Hp->Prop:=fun a H2=>okT a H2/\∀p,H2 p=none->D.nx (σ.set i (some (.ref p))) (upd H2 p (.dT (plT a)))
theorem uc' {i:Nat} {k v:Ce} {own:List Nat} {t:Ct} {it:Ci} {q:Cqo}:tS C (.dctd i k v own t it q) D σ H=tI C it σ H (kCl own (tG C t) (tQo C q) (g4' (tE C k) (tE C v)) σ [] (xa' i D σ)):=rfl
def yb' (a:KTL) (P:KTL->Hp->Prop) (y:V):VK:=fun v H2=>∃(k:List Key) (b:Addr),y=.ref b/\H2 b=some (.tup (k.map L2.kV))/\okT a H2/\a.length<sizeLine/\P (ld' a k b v) H2
def yc' (C:Rc) (σ:L2.St) (v:Ce) (a:KTL) (P:KTL->Hp->Prop):VK:=fun y H1=>tE C v σ H1 (yb' a P y)
theorem mW' {k v:Ce} {a:KTL} {P:KTL->Hp->Prop}:g4' (tE C k) (tE C v) σ a H P=tE C k σ H (yc' C σ v a P):=rfl
theorem p7' {v:Ce} {a:KTL} {P:KTL->Hp->Prop} {y:V}:yc' C σ v a P y H=tE C v σ H (yb' a P y):=rfl
def yd' (a:List (Key×V)) (P:List (Key×V)->Hp->Prop) (y:V):VK:=fun v H2=>∃k,y=L2.kV k/\a.length<sizeLine/\P (dn' a k v) H2
def ye' (C:Rc) (σ:L2.St) (v:Ce) (a:List (Key×V)) (P:List (Key×V)->Hp->Prop):VK:=fun y H1=>tE C v σ H1 (yd' a P y)
theorem mX' {k v:Ce} {a:List (Key×V)} {P:List (Key×V)->Hp->Prop}:r0' (tE C k) (tE C v) σ a H P=tE C k σ H (ye' C σ v a P):=rfl
theorem p8' {v:Ce} {a:List (Key×V)} {P:List (Key×V)->Hp->Prop} {y:V}:ye' C σ v a P y H=tE C v σ H (yd' a P y):=rfl
def yf' (a:KTL) (P:KTL->Hp->Prop) (y:V):VK:=fun v H2=>∃(k:List Key) (b:Addr),y=.ref b/\H2 b=some (.tup (k.map L2.kV))/\okT a H2/\(∀x∈a,x.1≠k)/\a.length<sizeLine/\P (a++[(k,b,v)]) H2
def yg' (C:Rc) (σ:L2.St) (v:Ce) (a:KTL) (P:KTL->Hp->Prop):VK:=fun y H1=>tE C v σ H1 (yf' a P y)
theorem mY' {k v:Ce} {a:KTL} {P:KTL->Hp->Prop}:r3' (tE C k) (tE C v) σ a H P=tE C k σ H (yg' C σ v a P):=rfl
theorem p9' {v:Ce} {a:KTL} {P:KTL->Hp->Prop} {y:V}:yg' C σ v a P y H=tE C v σ H (yf' a P y):=rfl
def xb' (b:List (List Int×Addr)) (P:List (List Int×Addr)->Hp->Prop):VK:=fun v H'=>∃(k:List Int) (p:Addr),v=.ref p/\H' p=some (.tup (k.map V.int))/\Trk H' b/\b.length<4000/\P (xQ' b k p) H'
theorem mZ' {elt:Ce} {b:List (List Int×Addr)} {P:List (List Int×Addr)->Hp->Prop}:su' (tE C elt) σ b H P=tE C elt σ H (xb' b P):=rfl
def gK' (neg:Bool) (y:V) (Q:VK):VK:=fun x H2=>(∃a o,x=.ref a/\nH' H2 a y o/\Q (.bl (if neg then !o.isSome else o.isSome)) H2)\/va' neg y x H2 Q\/vc' neg y x H2 Q
def qa' (C:Rc) (σ:L2.St) (neg:Bool) (b:Ce) (Q:VK):VK:=fun y H1=>tE C b σ H1 (gK' neg y Q)
theorem ud' {neg:Bool} {a b:Ce}:tE C (.din neg a b) σ H Q=tE C a σ H (qa' C σ neg b Q):=rfl
theorem ue' {neg:Bool} {a b:Ce} {Qb:Bool->Hp->Prop}:tQ C (.din neg a b) σ H Qb=tE C a σ H (qa' C σ neg b (kT Qb)):=rfl
theorem m0' {neg:Bool} {b:Ce} {y:V}:qa' C σ neg b Q y H=tE C b σ H (gK' neg y Q):=rfl
theorem f1' {neg:Bool} {y:V} {p:Addr} {o:Option V} (h:nH' H p y o) (q:Q (.bl (if neg then !o.isSome else o.isSome)) H):gK' neg y Q (.ref p) H:=.inl ⟨p,o,rfl,h,q⟩
def n8' (a:Addr) (y:V) (Q:VK):VK:=fun z H3=>∃o,nH' H3 a y o/\Q (o.getD z) H3
def uf' (C:Rc) (σ:L2.St) (c:Ce) (a:Addr) (Q:VK):VK:=fun y H2=>tE C c σ H2 (n8' a y Q)
theorem kz' {c:Ce} {a:Addr} {y:V}:uf' C σ c a Q y H=tE C c σ H (n8' a y Q):=rfl
end
section
variable {C:Rc} {σ:L2.St} {H:Hp} {Q:VK} {Qb:Bool->Hp->Prop}
def kX1 (C:Rc) (σ:L2.St) (k:Xf) (b:Ce) (Q:VK):VK:=fun x H=>tE C b σ H fun y H'=>rXf C.K k x y H' Q
def kX2 (C:Rc) (k:Xf) (x:V) (Q:VK):VK:=fun y H=>rXf C.K k x y H Q
theorem ug' {k:Xf} {a b:Ce}:tQ C (.cmx k a b) σ H Qb=tE C a σ H (kX1 C σ k b (kT Qb)):=rfl
theorem uh' {k:Xf} {b:Ce} {x:V}:kX1 C σ k b Q x H=tE C b σ H (kX2 C k x Q):=rfl
theorem qb' {i lo hi:Int} {p:Addr} (h:H p=some (.rng lo hi)) (q:Q (.bl (!(decide (lo<=i)&&decide (i<hi)))) H):kX2 C .notInR (.int i) Q (.ref p) H:=⟨i,lo,hi,p,rfl,rfl,h,q⟩
def kW1 (C:Rc) (σ:L2.St) (k:Zf) (b:Ce) (Q:VK):VK:=fun x H=>tE C b σ H fun y H'=>rZf k x y H' Q
def kW2 (k:Zf) (x:V) (Q:VK):VK:=fun y H=>rZf k x y H Q
theorem ui' {k:Zf} {a b:Ce}:tQ C (.cmw k a b) σ H Qb=tE C a σ H (kW1 C σ k b (kT Qb)):=rfl
theorem uj' {k:Zf} {b:Ce} {x:V}:kW1 C σ k b Q x H=tE C b σ H (kW2 k x Q):=rfl
section
variable {D:Ends}
def y0' (x y z:V) (sub:Bool) (D:Ends) (σ:L2.St):VK:=fun w H4=>ipI (fun i j=>if sub then i-j else i+j) z w H4 fun u H5=>dm' x y u H5 fun H6=>D.nx σ H6
def yh' (C:Rc) (e:Ce) (sub:Bool) (x:V) (D:Ends) (σ:L2.St):VK:=fun y H2=>iD' C.K x y H2 fun z H3=>tE C e σ H3 (y0' x y z sub D σ)
def y1' (C:Rc) (i:Ce) (sub:Bool) (e:Ce) (D:Ends) (σ:L2.St):VK:=fun x H1=>tE C i σ H1 (yh' C e sub x D σ)
theorem qc' {i e:Ce} {sub:Bool} {x:V}:y1' C i sub e D σ x H=tE C i σ H (yh' C e sub x D σ):=rfl
def xc' (x v:V) (D:Ends) (σ:L2.St):VK:=fun y H3=>(∃a H4,x=.ref a/\oO' H3 a y v H4/\D.nx σ H4)\/∃(a:Addr) (L:List NK) (q:NK),x=.ref a/\v=.bl true/\H3 a=some (gq' a L)/\o8' H3 L/\L.length<4000/\vQ' H3 y q/\D.nx σ (upd H3 a (gq' a (iE' L q)))
theorem m1' {a b:Addr} {kvs:List (List Key×V)} {ks:List Key} {v:V} (h:H a=some (.dT kvs)) (hb:H b=some (.tup (ks.map L2.kV))) (hz:kvs.length<sizeLine) (k:D.nx σ (upd H a (.dT (dn' kvs ks v)))):xc' (.ref a) v D σ (.ref b) H:=.inl ⟨a,_,rfl,oO'.t h hb hz,k⟩
def xd' (C:Rc) (i:Ce) (v:V) (D:Ends) (σ:L2.St):VK:=fun x H2=>tE C i σ H2 (xc' x v D σ)
def yi' (C:Rc) (o i:Ce) (D:Ends) (σ:L2.St):VK:=fun v H1=>tE C o σ H1 (xd' C i v D σ)
theorem uk' {o i e:Ce}:tS C (.dput o i e) D σ H=tE C e σ H (yi' C o i D σ):=rfl
theorem qd' {o i:Ce} {v:V}:yi' C o i D σ v H=tE C o σ H (xd' C i v D σ):=rfl
theorem qe' {i:Ce} {v x:V}:xd' C i v D σ x H=tE C i σ H (xc' x v D σ):=rfl
end
def xe' (f:Yf) (Q:VK):VK:=fun x H=>rYf f [x] H Q
theorem n9' {f:Yf} {a:Ce}:tE C (.cal f a) σ H Q=tE C a σ H (xe' f Q):=rfl
theorem kA' {x:V} {n:Nat} {d:PyData} (h:RdV H n x d) (h1:d.showable=true) (h2:d.hasDict=false) (h3:d.depth<=50) (h4:d.shown.length<=sizeLine) (q:Q (.str (xN' d)) H):xe' .strd Q x H:=⟨x,n,d,rfl,h,h1,h2,h3,h4,q⟩
def yj' (C:Rc) (Q:VK):VK:=fun x H1=>(∃a xs,x=.ref a/\SqT C.K H1 a xs/\∀p,H1 p=none->Q (.ref p) (upd H1 p (.tup xs.reverse)))\/(∃a,x=.str a/\a.length<=sizeLine/\Q (.str (vV' a)) H1)\/∃a xs,x=.ref a/\SqL C.K H1 a xs/\∀p,H1 p=none->Q (.ref p) (upd H1 p (.lst xs.reverse))
theorem oa' {a:Ce}:tE C (.rvt a) σ H Q=tE C a σ H (yj' C Q):=rfl
def yk' (C:Rc) (Q:VK) (x:V):VK:=fun y H1=>∃(k j:Bool) (a b:Addr) (xs ys:List V),[x,y]=[.ref a,.ref b]/\Sq k C.K H1 a xs/\Sq j C.K H1 b ys/\xs.length=ys.length/\
 ∀(l:Addr) (as:List Addr) (H':Hp),H1 l=none->(∀b u,H1 b=some u->H' b=some u)->(∀p∈as,H1 p=none)->H' l=some (.lst (as.map V.ref))->as.length=xs.length->(∀(i:Nat) p x y,as[i]?=some p->xs[i]?=some x->ys[i]?=some y->H' p=some (.tup [x,y]))->Q (.ref l) H'
def y2' (C:Rc) (σ:L2.St) (b:Ce) (Q:VK):VK:=fun x H1=>tE C b σ H1 (yk' C Q x)
theorem qf' {b:Ce} {x:V}:y2' C σ b Q x H=tE C b σ H (yk' C Q x):=rfl
def xf' (C:Rc) (σ:L2.St) (b:Ce) (Q:VK):VK:=fun x H1=>tE C b σ H1 (mH' fun l H2=>∃(a:Addr) (xs:List V) (n:Nat),x=.ref a/\l=some (n:Int)/\0<n/\SqL C.K H2 a xs/\∀p,H2 p=none->Q (.ref p) (upd H2 p (.lst (xR' xs n))))
theorem m2' {b:Ce} {x:V}:xf' C σ b Q x H=tE C b σ H (mH' fun l H2=>∃(a:Addr) (xs:List V) (n:Nat),x=.ref a/\l=some (n:Int)/\0<n/\SqL C.K H2 a xs/\∀p,H2 p=none->Q (.ref p) (upd H2 p (.lst (xR' xs n)))):=rfl
theorem qg' {a:Addr} {xs:List V} (h:SqL C.K H a xs) (q:∀p,H p=none->Q (.ref p) (upd H p (.lst xs.reverse))):yj' C Q (.ref a) H:=.inr (.inr ⟨a,xs,rfl,h,q⟩)
def yl' (C:Rc) (Q:VK) (x:V):VK:=fun y H1=>∃(k j:Bool) (a b:Addr) (ps:List (Str×Str)),[x,y]=[.ref a,.ref b]/\Sq k C.K H1 a (ps.map fun q=>V.str q.1)/\Sq j C.K H1 b (ps.map fun q=>V.str q.2)/\ps.length<64/\
 ∀(l:Addr) (as:List (Addr×Str×Str)) (H':Hp),H1 l=none->(∀b u,H1 b=some u->H' b=some u)->H' l=some (.lst (as.map fun q=>V.ref q.1))->(as.map fun q=>q.2).Perm ps->(as.Pairwise fun x y=>ss' [.inr y.2.1,.inr y.2.2] [.inr x.2.1,.inr x.2.2]=false)->(∀q∈as,H' q.1=some (.tup [.str q.2.1,.str q.2.2]))->Q (.ref l) H'
def y3' (C:Rc) (σ:L2.St) (b:Ce) (Q:VK):VK:=fun x H1=>tE C b σ H1 (yl' C Q x)
theorem qh' {b:Ce} {x:V}:y3' C σ b Q x H=tE C b σ H (yl' C Q x):=rfl
theorem ul' {a b:Addr} {xs ys:List V} (h:H a=some (.tup xs)) (h2:H b=some (.tup ys)) (hl:xs.length=ys.length) (he:LEq xs ys) (q:Q (.bl (!decide (xs=ys))) H):kW2 .neT (.ref a) Q (.ref b) H:=⟨a,b,xs,ys,rfl,rfl,h,h2,hl,he,q⟩
def ym' (a:Addr) (y:V) (Q:VK):VK:=fun z H3=>∃o,nH' H3 a y o/\(∀v,o=some v->Q v H3)/\(o=none->∃H4,oO' H3 a y z H4/\Q z H4)
def y4' (C:Rc) (σ:L2.St) (c:Ce) (a:Addr) (Q:VK):VK:=fun y H2=>tE C c σ H2 (ym' a y Q)
theorem qi' {c:Ce} {a:Addr} {y:V}:y4' C σ c a Q y H=tE C c σ H (ym' a y Q):=rfl
end
end R3
namespace L2
open PySem PySem.Spec PyProof.Rows
theorem kB' (k:Nat):∀(ts:List Str) (i:Nat) (acc:Str),(∀t∈ts,t.length<=k)->(textFrom i acc ts).length<=acc.length+ts.length*(k+2)
 | [],i,acc,_=>by show acc.length<=_;omega
 |t :: ts,i,acc,h=>by
  have ih:=kB' k ts (i+1) (acc++(if i > 0 then ", " else "":String)++t) fun x hx=>h x (ao _ hx)
  have h1:=h t au
  have e:(acc++(if i > 0 then ", " else "":String)++t).length=acc.length+(if i > 0 then 2 else 0)+t.length:=by
   rw[strLen_append,strLen_append]
   split<;>rfl
  have e2:(if i > 0 then 2 else 0:Nat)<=2:=by split<;>omega
  rw[e]at ih
  show(textFrom (i+1) _ ts).length<=_
  rw[bo,Nat.add_mul]
  omega
theorem kC' (k:Nat):∀ts:List Str,(∀t∈ts,t.length<=k)->(Str.join ", " ts).length<=ts.length*(k+2)
 | [],_=>by show 0<=_;omega
 | [x],h=>by show x.length<=_;have:=h x au;simp;omega
 |x :: y :: r,h=>by
  have ih:=kC' k (y :: r) fun t ht=>h t (ao _ ht)
  have h1:=h x au
  show(x++", "++Str.join ", " (y :: r)).length<=_
  have e2:((", ":String):Str).length=2:=rfl
  rw[strLen_append,strLen_append,e2,bo,Nat.add_mul]
  omega
theorem aG':∀ds:List PyData,PyData.shownAll ds=ds.map PyData.shown
 | []=>by simp only[PyData.shownAll,List.map_nil]
 |d :: ds=>by simp only[PyData.shownAll,aQ,aG' ds]
theorem bJ':∀{ds:List PyData},(∀d∈ds,d.showable=true)->PyData.showableAll ds=true
 | [],_=>by simp only[PyData.showableAll]
 |d :: ds,h=>by simp only[PyData.showableAll,h d au,bJ' fun x hx=>h x (ao _ hx),Bool.and_self]
theorem bT':∀{ds:List PyData},(∀d∈ds,d.hasDict=false)->PyData.hasDictAll ds=false
 | [],_=>by simp only[PyData.hasDictAll]
 |d :: ds,h=>by simp only[PyData.hasDictAll,h d au,bT' fun x hx=>h x (ao _ hx),Bool.or_self]
theorem cw' {p:Nat}:∀{ds:List PyData},(∀d∈ds,d.depth<=p)->PyData.depthAll ds<=p
 | [],_=>by simp only[PyData.depthAll];omega
 |d :: ds,h=>by
  have h1:=h d au
  have h2:=cw' fun x hx=>h x (ao _ hx)
  simp only[PyData.depthAll]
  omega
structure OkD (p k:Nat) (d:PyData):Prop where
 sh:d.showable=true
 nd:d.hasDict=false
 dp:d.depth<=p
 ln:d.shown.length<=k
theorem OkD.mono {p k p' k':Nat} {d:PyData} (h:OkD p k d) (hp:p<=p') (hk:k<=k'):OkD p' k' d:=⟨h.sh,h.nd,aG h.dp hp,aG h.ln hk⟩
theorem OkD.list {p k m:Nat} {ds:List PyData} (h:∀d∈ds,OkD p k d) (hm:ds.length<=m):OkD (p+1) (3+m*(k+2)) (.list ds):=by
 refine⟨by simp only[PyData.showable];exact bJ' fun d hd=>(h d hd).sh,by simp only[PyData.hasDict];exact bT' fun d hd=>(h d hd).nd,by simp only[PyData.depth];exact Nat.succ_le_succ (cw' fun d hd=>(h d hd).dp),?_⟩
 simp only[PyData.shown]
 unfold listText
 have:=kB' k (PyData.shownAll ds) 0 "[" (by
  rw[aG']
  intro t ht
  obtain⟨d,hd,rfl⟩:=aZ.mp ht
  exact(h d hd).ln)
 rw[strLen_append]
 have e1:((("[":String):Str)).length=1:=rfl
 have e2:((("]":String):Str)).length=1:=rfl
 rw[e1,aG',ah]at this
 rw[e2,aG']
 have:=Nat.mul_le_mul_right (k+2) hm
 omega
theorem OkD.tuple {p k m:Nat} {ds:List PyData} (h:∀d∈ds,OkD p k d) (hm:ds.length<=m):OkD (p+1) (3+m*(k+2)) (.tuple ds):=by
 refine⟨by simp only[PyData.showable];exact bJ' fun d hd=>(h d hd).sh,by simp only[PyData.hasDict];exact bT' fun d hd=>(h d hd).nd,by simp only[PyData.depth];exact Nat.succ_le_succ (cw' fun d hd=>(h d hd).dp),?_⟩
 simp only[PyData.shown]
 unfold tupleText
 have:=kC' k (PyData.shownAll ds) (by
  rw[aG']
  intro t ht
  obtain⟨d,hd,rfl⟩:=aZ.mp ht
  exact(h d hd).ln)
 rw[strLen_append,strLen_append]
 have e1:((("(":String):Str)).length=1:=rfl
 have e2:(((if(PyData.shownAll ds).length == 1 then ",)" else ")":String):Str)).length<=2:=by split<;>decide
 rw[aG',ah]at this
 rw[e1]
 rw[aG']at e2 ⊢
 have:=Nat.mul_le_mul_right (k+2) hm
 omega
theorem OkD.none {p:Nat}:OkD p 20 .none:=⟨by simp only[PyData.showable],by simp only[PyData.hasDict],by simp only[PyData.depth];omega,by simp only[PyData.shown];decide⟩
theorem OkD.bool {p:Nat} {b:Bool}:OkD p 20 (.bool b):=⟨by simp only[PyData.showable],by simp only[PyData.hasDict],by simp only[PyData.depth];omega,by simp only[PyData.shown];cases b<;>decide⟩
theorem gL':∀n:Fin 512,(PySem.Str.ofString (toString (n.val:Int))).length<=20/\(reprText (PySem.Str.ofString (toString (n.val:Int)))).length<=20:=by decide +kernel
theorem OkD.nat {p n:Nat} (h:n<512):OkD p 20 (.int n):=⟨by simp only[PyData.showable];exact decide_eq_true (by
 have:((n:Int).natAbs).log2<=n:=by
  rw[Int.natAbs_natCast]
  exact Nat.log2_le_self n
 omega),by simp only[PyData.hasDict],by simp only[PyData.depth];omega,by simp only[PyData.shown];exact(gL' ⟨n,h⟩).1⟩
theorem OkD.neg1 {p:Nat}:OkD p 20 (.int (-1)):=⟨by simp only[PyData.showable];decide +kernel,by simp only[PyData.hasDict],by simp only[PyData.depth];omega,by simp only[PyData.shown];decide +kernel⟩
theorem RdA.len {r:V->PyData->Prop}:∀{xs:List V} {ds:List PyData},RdA r xs ds->xs.length=ds.length
 | [],[],_=>rfl
 |_ :: _,_ :: _,h=>congrArg (·+1) (RdA.len h.2)
 | [],_ :: _,h=>h.elim
 |_ :: _,[],h=>h.elim
theorem RdA.get {r:V->PyData->Prop}:∀{xs:List V} {ds:List PyData} {i:Nat} {x:V},RdA r xs ds->xs[i]?=some x->∃d,ds[i]?=some d/\r x d
 | [],[],_,_,_,h=>by simp at h
 |_ :: _,d :: _,0,_,h,e=>by simp at e;subst e;exact⟨d,rfl,h.1⟩
 |_ :: _,_ :: _,i+1,_,h,e=>by
  obtain⟨d,e1,e2⟩:=RdA.get (i:=i) h.2 (by simpa using e)
  exact⟨d,by simpa using e1,e2⟩
 | [],_ :: _,_,_,h,_=>h.elim
 |_ :: _,[],_,_,h,_=>h.elim
theorem RdA.imp {r r':V->PyData->Prop} (i:∀x d,r x d->r' x d):∀{xs:List V} {ds:List PyData},RdA r xs ds->RdA r' xs ds
 | [],[],_=>trivial
 |_ :: _,_ :: _,h=>⟨i _ _ h.1,RdA.imp i h.2⟩
 | [],_ :: _,h=>h.elim
 |_ :: _,[],h=>h.elim
theorem RdV.stay {H H':Hp} (s:∀a xs,(H a=some (.lst xs)->H' a=some (.lst xs))/\(H a=some (.tup xs)->H' a=some (.tup xs))):∀(n:Nat) (v:V) (d:PyData),RdV H n v d->RdV H' n v d:=by
 intro n
 induction n with
 |zero=>
  intro v d h
  cases v with
  |non=>exact h
  |bl=>exact h
  |int=>exact h
  |str=>exact h
  |_=>exact h.elim
 |succ n ih=>
  intro v d h
  cases v with
  |non=>exact h
  |bl=>exact h
  |int=>exact h
  |str=>exact h
  |ref a=>
   rcases(show(∃xs ds,H a=some (.lst xs)/\d=.list ds/\RdA (RdV H n) xs ds)\/∃xs ds,H a=some (.tup xs)/\d=.tuple ds/\RdA (RdV H n) xs ds from h)with⟨xs,ds,ha,rfl,hx⟩|⟨xs,ds,ha,rfl,hx⟩
   .exact .inl ⟨xs,ds,(s a xs).1 ha,rfl,hx.imp (ih)⟩
   .exact .inr ⟨xs,ds,(s a xs).2 ha,rfl,hx.imp (ih)⟩
  |_=>exact h.elim
theorem RdV.up {H:Hp}:∀(n:Nat) (v:V) (d:PyData),RdV H n v d->RdV H (n+1) v d:=by
 intro n
 induction n with
 |zero=>
  intro v d h
  cases v with
  |non=>exact h
  |bl=>exact h
  |int=>exact h
  |str=>exact h
  |_=>exact h.elim
 |succ n ih=>
  intro v d h
  cases v with
  |non=>exact h
  |bl=>exact h
  |int=>exact h
  |str=>exact h
  |ref a=>
   rcases(show(∃xs ds,H a=some (.lst xs)/\d=.list ds/\RdA (RdV H n) xs ds)\/∃xs ds,H a=some (.tup xs)/\d=.tuple ds/\RdA (RdV H n) xs ds from h)with⟨xs,ds,ha,rfl,hx⟩|⟨xs,ds,ha,rfl,hx⟩
   .exact .inl ⟨xs,ds,ha,rfl,hx.imp ih⟩
   .exact .inr ⟨xs,ds,ha,rfl,hx.imp ih⟩
  |_=>exact h.elim
end L2
section
open PySem PySem.Spec PyProof.Rows L2 R3
local macro_rules | `(tactic| walk_at "y") => `(tactic| try walk_at "sy")
set_option hygiene false in
local macro_rules | `(tactic| walk_at "sy") => `(tactic| simp only [ug', uh', n9', oa', yX', qf', qh', qi', m2', ui', uj', uk', qd', qe', qc', t1', mQ', mU', p4', ub', p5', ud', ue', m0', kz', uc', mW', p7', mV', mZ', p6', mX', p8', mY', p9', p2', p3', mS', mT', sM', sN', wA', sO', sP', wB', sQ', sR', sS', sT', sU', sV', sW', sX', sY', sZ', mu', wC', s0', s2', mv', s3', wE', pz', pA', s4', s5', pZ', p0', t5', t6', t7', t8', mR', wF', wG', wH', s6', wI', wJ', wK', yN', yO', yP', yQ', w4', w5', pY', yU', pU', s7', s9', pB', nZ', ta', tb', tc', wL', te', mw', wM', pC', wN', mx', my', mz', yR', wO', wP', px', tl', tm', wQ', tj', tn', to', pD', pE', mA', tp', pH', ts', mB', mC', tt', tu', tv', tx', mD', ty', wT', pJ', pK', tz', tA', tC', pL', tG', mE', mF', mG', tH', tI', kq', tJ', mI', mJ', tU', iq', ku', pQ', yS', wV', wW', kr', pN', wX', tM', tN', tL', pP', wZ', w0', w1', w2', mL', clr, cM, List.foldl_nil, L2.aK', aQ, List.map_nil, bo, List.length_nil, List.cons_append, List.nil_append, aO, Nat.reduceSub, Nat.reduceAdd, List.set_cons_zero, List.set_cons_succ, List.getElem?_cons_zero, List.getElem?_cons_succ, reduceCtorEq, decide_true, decide_false, eq_self, Bool.not_true, Bool.not_false, bne_self_eq_false, BEq.rfl])
namespace LW
open PySem PySem.Spec PyProof.Rows L2 R3
def cQ':Css:=(.cons (.ite (.cmp .Lt (.var 1) (.blt .len (.cons (.var 0) .nil))) (.cons (.ret (.idx (.var 0) (.var 1)))
  .nil) .nil)
  (.cons (.ret (.int 0))
  .nil))
def m3':Css:=(.cons (.asg (.name 2) (.call "_law_cell_at" (.cons (.var 0) (.cons (.var 1) .nil))))
  (.cons (.ret (.lst (.cons (.bin .Mult (.blt .abs (.cons (.var 2) .nil)) (.blt .int (.cons (.cmp .GtE (.blt .abs (.cons (.var 2) .nil)) (.bin .Pow (.int 10) (.int 18))) .nil))) (.cons (.bin .Add (.bin .Add (.bin .Mod (.var 2) (.int 2305843009213693951)) (.bin .Mult (.int 39373) (.var 1))) (.int 17)) (.cons (.int 0) .nil)))))
  .nil))
def hF':Css:=(.cons (.ite (.cmp .Gt (.idx (.var 0) (.int 0)) (.int 0)) (.cons (.asg (.name 2) (.bin .Mod (.idx (.var 0) (.int 0)) (.var 1)))
  (.cons (.asg (.sub (.var 0) (.int 0)) (.bin .FloorDiv (.idx (.var 0) (.int 0)) (.var 1)))
  (.cons (.ret (.var 2))
  .nil))) .nil)
  (.cons (.asg (.sub (.var 0) (.int 2)) (.bin .Add (.idx (.var 0) (.int 2)) (.int 1)))
  (.cons (.asg (.name 3) (.bin .Mod (.bin .Mult (.bin .Add (.idx (.var 0) (.int 1)) (.bin .Mult (.int 48271) (.idx (.var 0) (.int 2)))) (.bin .Add (.int 39373) (.idx (.var 0) (.int 2)))) (.int 2147483647)))
  (.cons (.asg (.name 4) (.bin .Mod (.bin .Mult (.bin .Add (.var 3) (.idx (.var 0) (.int 2))) (.bin .Add (.bin .Mod (.var 3) (.int 40009)) (.int 7))) (.int 2147483629)))
  (.cons (.ret (.bin .Mod (.bin .FloorDiv (.bin .Mod (.bin .Add (.bin .Mult (.var 4) (.int 48271)) (.var 3)) (.int 2147483587)) (.int 64)) (.var 1)))
  .nil)))))
def eO' (K:W.Frag):Sp:=fun vs H Q _=>∃(a:Addr) (ns:List Int) (k:Int),vs=[.ref a,.int k]/\SqL K H a (ns.map V.int)/\0<=k/\∀c:Int,Q (.int c) H
theorem m4' {ns:List Int} {k:Int} (h0:0<=k) (h1:k<ns.length):∃c:Int,atI (ns.map V.int) k=some (.int c):=by
 obtain⟨j,rfl⟩:=aF h0
 have hk:j<ns.length:=by omega
 exact⟨ns[j],a1' (by rw[aC,ae hk];rfl)⟩
theorem kD' {C:Rc} (hN:C.N.length=2):∀vs H Q E,eO' C.K vs H Q E->tSs C cQ' { nx:=fun _ H'=>Q .non H',rt:=Q } (L2.aK' C.N vs) H:=by
 intro vs H Q E h
 obtain⟨a,ns,k,rfl,hs,hk,q⟩:=h
 rw[ao' hN]
 unfold cQ'
 walk_at "y"
 refine d7' hs ?_
 rw[ah]
 walk_at "y"
 refine bl' (fun c=>?_) fun _=>?_
 .obtain⟨v,hv⟩:=m4' hk c
  walk_at "y"
  exact bF' hs hv (q v)
 .walk_at "y"
  exact q 0
def kE' (K:W.Frag):Sp:=fun vs H Q _=>∃(a:Addr) (ns:List Int) (k:Int),vs=[.ref a,.int k]/\SqL K H a (ns.map V.int)/\0<=k/\k<=1000/\∀(p:Addr) (x y:Int),H p=none->0<=x->0<=y->y<2 ^ 62->Q (.ref p) (upd H p (fY' x y 0))
theorem m5' {C:Rc} (hN:C.N.length=3) (hf:C.fs "_law_cell_at"=some (eO' C.K)):∀vs H Q E,kE' C.K vs H Q E->tSs C m3' { nx:=fun _ H'=>Q .non H',rt:=Q } (L2.aK' C.N vs) H:=by
 intro vs H Q E h
 obtain⟨a,ns,k,rfl,hs,hk,hk2,q⟩:=h
 rw[ao' hN]
 unfold m3'
 walk_at "y"
 refine ag' hf ?_
 walk_at "y"
 refine⟨a,ns,k,rfl,hs,hk,fun c=>?_⟩
 walk_at "y"
 have hm0:0<=c % 2305843009213693951:=Int.emod_nonneg _ (by decide)
 have hm1:c % 2305843009213693951<2305843009213693951:=cK _ (by decide)
 refine⟨⟨by decide,by decide,by decide⟩,?_,by decide,.inl ⟨by decide,by decide⟩,by decide,fun p hp=>q p _ _ hp ?_ ?_ ?_⟩
 .refine .inr (.inl ⟨?_,?_⟩)<;>split<;>split<;>decide
 .split<;>split<;>omega
 .omega
 .omega
section
variable {K:W.Frag} {H:Hp} {b:Addr} {x y z:Int} {Q:VK}
theorem ix0 (h:H b=some (fY' x y z)) (q:Q (.int x) H):iD' K (.ref b) (.int 0) H Q\/i1' K (.ref b) (.int 0) H Q:=.inl ⟨b,_,0,_,rfl,rfl,SqL.of h,rfl,q⟩
theorem ix1 (h:H b=some (fY' x y z)) (q:Q (.int y) H):iD' K (.ref b) (.int 1) H Q\/i1' K (.ref b) (.int 1) H Q:=.inl ⟨b,_,1,_,rfl,rfl,SqL.of h,rfl,q⟩
theorem ix2 (h:H b=some (fY' x y z)) (q:Q (.int z) H):iD' K (.ref b) (.int 2) H Q\/i1' K (.ref b) (.int 2) H Q:=.inl ⟨b,_,2,_,rfl,rfl,SqL.of h,rfl,q⟩
theorem st0 {u:Int} {Q:Hp->Prop} (h:H b=some (fY' x y z)) (q:Q (upd H b (fY' u y z))):dm' (.ref b) (.int 0) (.int u) H Q:=⟨b,_,0,0,rfl,rfl,h,rfl,q⟩
theorem st2 {u:Int} {Q:Hp->Prop} (h:H b=some (fY' x y z)) (q:Q (upd H b (fY' x y u))):dm' (.ref b) (.int 2) (.int u) H Q:=⟨b,_,2,2,rfl,rfl,h,rfl,q⟩
end
def ff':Sp:=fun vs H Q _=>∃(b:Addr) (x y z m:Int),vs=[.ref b,.int m]/\H b=some (fY' x y z)/\0<=x/\0<=y/\y<2 ^ 62/\0<=z/\z<=2 ^ 40/\0<m/\m<4611686018427387904/\
 ∀(r x' z':Int),0<=r->r<m->0<=x'->0<=z'->z'<=z+1->Q (.int r) (upd H b (fY' x' y z'))
theorem kF' {C:Rc} (hN:C.N.length=5):∀vs H Q E,ff' vs H Q E->tSs C hF' { nx:=fun _ H'=>Q .non H',rt:=Q } (L2.aK' C.N vs) H:=by
 intro vs H Q E h
 obtain⟨b,x,y,z,m,rfl,hb,hx,hy,hy2,hz,hz2,hm,hm2,q⟩:=h
 rw[ao' hN]
 unfold hF'
 walk_at "sy"
 refine ix0 hb ?_
 walk_at "sy"
 refine bl' (fun c=>?_) fun _=>?_
 .walk_at "sy"
  refine ix0 hb ?_
  walk_at "sy"
  refine⟨hm,?_⟩
  refine ix0 hb ?_
  walk_at "sy"
  refine⟨⟨hm,.inr (ak ((Nat.log2_lt (by omega)).mpr (show m.natAbs<2 ^ 62 by omega)) (by decide))⟩,st0 hb ?_⟩
  walk_at "sy"
  exact q _ _ _ (Int.emod_nonneg _ (by omega)) (cK _ hm) (Int.ediv_nonneg hx (by omega)) hz (by omega)
 .walk_at "sy"
  refine ix2 hb ?_
  walk_at "sy"
  refine st2 hb ?_
  have hb':upd H b (fY' x y (z+1)) b=some (fY' x y (z+1)):=ab'
  walk_at "sy"
  refine ix1 hb' ?_
  walk_at "sy"
  refine ix2 hb' ?_
  walk_at "sy"
  refine⟨.inl ⟨by decide,by decide⟩,?_⟩
  refine ix2 hb' ?_
  walk_at "sy"
  refine⟨.inr (.inl ⟨by omega,by omega⟩),by decide,?_⟩
  refine ix2 hb' ?_
  walk_at "sy"
  generalize (y+48271*(z+1))*(39373+(z+1)) % 2147483647=once
  have ho0:0<=once % 40009:=Int.emod_nonneg _ (by decide)
  have ho1:once % 40009<40009:=cK _ (by decide)
  refine⟨by decide,.inr (.inl ⟨by omega,by omega⟩),by decide,.inr (.inl ⟨by decide,by decide⟩),by decide,⟨by decide,by decide⟩,hm,?_⟩
  exact q _ _ _ (Int.emod_nonneg _ (by omega)) (cK _ hm) hx (by omega) (by omega)
def az':Sp:=fun vs H Q _=>∃(b:Addr) (n:Nat) (m:Int),vs=[.ref b,.int m]/\H b=some (df' b n)/\n<=2 ^ 40/\0<m/\m<4611686018427387904/\∀(r:Int) (H':Hp),0<=r->r<m->Go 1 H H'->Q (.int r) H'
theorem qj' {P:Program} {w:World} {K:W.Frag} {mg:Str->Option Value} {base:Heap} {k:Nat} {f:Addr} {fd:FuncData} {ps:List Str} (hp:ps.length=2) (F:FnOk P w K mg base CX0 k f fd ps ff'):FnOk P w K mg base CX0 k f fd ps az':=by
 refine pw' (kp' (sp':=fun vs H Q E=>ff' vs H (xW' Q) E) F fun _ _ _ _ h=>h) (fun vs H Q E h=>?_) fun vs H Q E h=>?_
 .obtain⟨b,n,m,rfl,hb,hn,hm,hm2,q⟩:=h
  refine⟨b,n,hb,fun x y z hx hy hy2 hz hzn=>⟨b,x,y,z,m,rfl,ab',hx,hy,hy2,hz,by omega,hm,hm2,fun r x' z' h1 h2 h3 h4 h5=>?_⟩⟩
  refine⟨b,x',y,z',n+1,ab',h3,hy,hy2,h4,by omega,?_⟩
  refine q r _ h1 h2 ?_
  rw[gf']
  exact Go.draw hb (ag _) _
 .obtain⟨b,n,m,rfl,_⟩:=h
  rw[hp]
  rfl
def kG' (K:W.Frag):Sp:=fun vs H Q _=>∃(a:Addr) (ns:List Int) (k:Int),vs=[.ref a,.int k]/\SqL K H a (ns.map V.int)/\0<=k/\k<=1000/\∀(p:Addr),H p=none->Q (.ref p) (upd H p (df' p 0))
theorem um' {P:Program} {w:World} {K:W.Frag} {mg:Str->Option Value} {base:Heap} {k:Nat} {f:Addr} {fd:FuncData} {ps:List Str} (F:FnOk P w K mg base CX0 k f fd ps (kE' K)):FnOk P w K mg base CX0 k f fd ps (kG' K):=by
 refine kp' F fun vs H Q E h=>?_
 obtain⟨a,ns,k,rfl,hs,h0,h1,q⟩:=h
 refine⟨a,ns,k,rfl,hs,h0,h1,fun p x y hp hx hy hy2=>⟨p,x,y,0,0,ab',hx,hy,hy2,by omega,by omega,?_⟩⟩
 rw[gf']
 exact q p hp
theorem _root_.R3.Go.boxed {c n:Nat} {H H':Hp} {b:Addr} (g:Go c H H') (h:H b=some (df' b n)) (hn:n+c<=2 ^ 40):∃m,H' b=some (df' b m)/\m<=n+c/\m<=2 ^ 40:=by
 obtain⟨m,hm,e⟩:=g.box b n h
 exact⟨m,e,hm,by omega⟩
section
variable {K:W.Frag} {H:Hp} {Q:VK}
theorem fg' {x:V} {T c:String} {k:Bool} (h:bk' H x=some T) (hk:isT T c=k) (hT:T∈bR') (hc:c∈["bool","int","str","list","tuple","dict"]) (q:Q (.bl k) H):cY' K .isinstance [x,.ty c] H Q:=tV' h hT hc (by rw[hk];exact q)
theorem qV' {x:V} {T c d:String} {p:Addr} {k:Bool} (h:bk' H x=some T) (hp:H p=some (.tup [.ty c,.ty d])) (hk:(isT T c || isT T d)=k) (hT:T∈bR') (hc:c∈["bool","int","str","list","tuple","dict"]) (hd:d∈["bool","int","str","list","tuple","dict"]) (q:Q (.bl k) H):cY' K .isinstance [x,.ref p] H Q:=pR' h hT hp hc hd (by rw[hk];exact q)
end
end LW
namespace LW
open PySem PySem.Spec PyProof.Rows L2 R3
def hG':Css:=(.cons (.ite (.cmp .Eq (.call "_law_take" (.cons (.var 0) (.cons (.int 8) .nil))) (.int 0)) (.cons (.ret (.bin .Add (.int 7) (.call "_law_take" (.cons (.var 0) (.cons (.bin .Sub (.var 3) (.int 6)) .nil)))))
  .nil) .nil)
  (.cons (.ret (.bin .Add (.var 1) (.call "_law_take" (.cons (.var 0) (.cons (.bin .Add (.bin .Sub (.var 2) (.var 1)) (.int 1)) .nil)))))
  .nil))
def cR':Css:=(.cons (.asg (.name 2) (.bin .Add (.int 2) (.call "_law_take" (.cons (.var 0) (.cons (.int 4) .nil)))))
  (.cons (.asg (.name 3) (.lst .nil))
  (.cons (.for_ (.name 4) (.range1 (.var 1)) (.cons (.asg (.name 5) (.lst .nil))
  (.cons (.for_ (.name 6) (.range1 (.int 2)) (.cons (.asg (.name 7) (.call "_law_take" (.cons (.var 0) (.cons (.var 1) .nil))))
  (.cons (.expr (.met .append (.var 5) (.cons (.idx (.lst (.cons (.var 7) (.cons .non .nil))) (.blt .int (.cons (.cmp .Eq (.call "_law_take" (.cons (.var 0) (.cons (.var 2) .nil))) (.int 0)) .nil))) .nil)))
  .nil)))
  (.cons (.expr (.met .append (.var 3) (.cons (.blt .tuple (.cons (.var 5) .nil)) .nil)))
  .nil))))
  (.cons (.ret (.blt .tuple (.cons (.var 3) .nil)))
  .nil))))
def aV':Css:=(.cons (.asg (.name 2) (.lst .nil))
  (.cons (.for_ (.name 3) (.range1 (.var 1)) (.cons (.expr (.met .insert (.var 2) (.cons (.call "_law_take" (.cons (.var 0) (.cons (.bin .Add (.var 3) (.int 1)) .nil))) (.cons (.var 3) .nil))))
  .nil))
  (.cons (.asg (.name 4) (.bin .Mult (.lst (.cons .non .nil)) (.var 1)))
  (.cons (.for_ (.tup (.cons (.name 5) (.cons (.name 6) .nil))) (.enum (.var 2)) (.cons (.asg (.name 7) (.idx (.bin .Add (.var 2) (.cut (.var 2) .none (.some (.int 1)))) (.bin .Add (.var 5) (.int 1))))
  (.cons (.asg (.name 8) (.idx (.lst (.cons (.call "_law_take" (.cons (.var 0) (.cons (.var 1) .nil))) (.cons .non .nil))) (.blt .int (.cons (.cmp .Eq (.call "_law_take" (.cons (.var 0) (.cons (.int 3) .nil))) (.int 0)) .nil))))
  (.cons (.asg (.sub (.var 4) (.var 6)) (.idx (.lst (.cons (.tup (.cons (.var 7) (.cons (.var 8) .nil))) (.cons (.tup (.cons (.var 8) (.cons (.var 7) .nil))) .nil))) (.call "_law_take" (.cons (.var 0) (.cons (.int 2) .nil)))))
  .nil))))
  (.cons (.ret (.blt .tuple (.cons (.var 4) .nil)))
  .nil)))))
def dv':Css:=(.cons (.asg (.name 2) (.lst .nil))
  (.cons (.for_ (.name 3) (.range1 (.blt .len (.cons (.var 1) .nil))) (.cons (.for_ (.name 4) (.range1 (.bin .Add (.int 1) (.call "_law_take" (.cons (.var 0) (.cons (.int 3) .nil))))) (.cons (.expr (.met .insert (.var 2) (.cons (.call "_law_take" (.cons (.var 0) (.cons (.bin .Add (.blt .len (.cons (.var 2) .nil)) (.int 1)) .nil))) (.cons (.var 3) .nil))))
  .nil))
  .nil))
  (.cons (.asg (.name 5) (.lst .nil))
  (.cons (.for_ (.name 3) (.val (.var 2)) (.cons (.asg (.name 6) (.lst .nil))
  (.cons (.for_ (.name 7) (.val (.idx (.var 1) (.var 3))) (.cons (.asg (.name 8) (.comp (.var 9) [9,10] (.tup (.cons (.name 9) (.cons (.name 10) .nil))) (.enum (.var 2)) (.some (.cmp .Eq (.var 10) (.var 7))) .nil))
  (.cons (.expr (.met .append (.var 6) (.cons (.ife (.cmp .NotEq (.var 8) (.lst .nil)) (.idx (.var 8) (.call "_law_take" (.cons (.var 0) (.cons (.blt .len (.cons (.var 8) .nil)) .nil)))) .non) .nil)))
  .nil)))
  (.cons (.expr (.met .append (.var 5) (.cons (.blt .tuple (.cons (.var 6) .nil)) .nil)))
  .nil))))
  (.cons (.ret (.tup (.cons (.blt .tuple (.cons (.var 5) .nil)) (.cons (.var 2) .nil))))
  .nil)))))
def hH':Css:=(.cons (.asg (.name 2) (.call "_law_take" (.cons (.var 0) (.cons (.int 2) .nil))))
  (.cons (.asg (.name 3) (.idx (.lst (.cons .non (.cons (.call "_law_take" (.cons (.var 0) (.cons (.var 1) .nil))) .nil))) (.call "_law_take" (.cons (.var 0) (.cons (.int 2) .nil)))))
  (.cons (.asg (.name 4) (.bin .Add (.blt .list (.cons (.blt .range (.cons (.int 1) (.cons (.var 1) .nil))) .nil)) (.lst (.cons (.var 3) .nil))))
  (.cons (.ret (.blt .tuple (.cons (.comp (.idx (.lst (.cons (.tup (.cons (.var 5) (.cons .non .nil))) (.cons (.tup (.cons .non (.cons (.var 5) .nil))) .nil))) (.var 2)) [5] (.name 5) (.val (.var 4)) .none .nil) .nil)))
  .nil))))
def m6':Css:=(.cons (.asg (.name 1) (.call "_law_take" (.cons (.var 0) (.cons (.int 6) .nil))))
  (.cons (.ite (.cmp .Eq (.var 1) (.int 0)) (.cons (.ret (.call "_law_line" (.cons (.var 0) (.cons (.call "_law_many" (.cons (.var 0) (.cons (.int 2) (.cons (.int 6) (.cons (.int 60) .nil))))) .nil))))
  .nil) .nil)
  (.cons (.ite (.cmp .Eq (.var 1) (.int 1)) (.cons (.ret (.idx (.call "_law_copied" (.cons (.var 0) (.cons (.call "_law_machine" (.cons (.var 0) (.cons (.call "_law_many" (.cons (.var 0) (.cons (.int 1) (.cons (.int 4) (.cons (.int 12) .nil))))) .nil))) .nil))) (.int 0)))
  .nil) .nil)
  (.cons (.ite (.cmp .Lt (.var 1) (.int 4)) (.cons (.ret (.call "_law_ring_machine" (.cons (.var 0) (.cons (.call "_law_many" (.cons (.var 0) (.cons (.int 1) (.cons (.int 6) (.cons (.int 12) .nil))))) .nil))))
  .nil) .nil)
  (.cons (.ret (.call "_law_machine" (.cons (.var 0) (.cons (.call "_law_many" (.cons (.var 0) (.cons (.int 1) (.cons (.int 6) (.cons (.int 12) .nil))))) .nil))))
  .nil)))))
abbrev Rm:=Option Nat×Option Nat
def oV:Option Nat->V
 |none=>.non
 |some n=>.int n
def Tp (H H':Hp):Prop:=∀a xs,H a=some (.tup xs)->H' a=some (.tup xs)
theorem Tp.refl {H:Hp}:Tp H H:=fun _ _ h=>h
theorem Tp.trans {H H1 H2:Hp} (a:Tp H H1) (b:Tp H1 H2):Tp H H2:=fun c x h=>b c x (a c x h)
theorem _root_.R3.Go.tp {c:Nat} {H H':Hp} (g:Go c H H'):Tp H H':=fun a xs h=>g.tup h
theorem ai' {H H':Hp} (s:aH' H H'):Tp H H':=fun a xs h=>s _ _ h
theorem d8' {H:Hp} {p:Addr} (h:H p=none) (o:HO):Tp H (upd H p o):=ai' (ah' h o)
theorem eP' {H:Hp} {p:Addr} {xs:List V} (h:H p=some (.lst xs)) (o:HO):Tp H (upd H p o):=fun a ys e=>by
 rw[ad' (fun z=>by subst z;rw[h]at e;cases e)]
 exact e
theorem _root_.R3.Go.upd {c:Nat} {H H':Hp} {l:Addr} {o:HO} (g:Go c H H') (h:H l=none):Go c H (L2.upd H' l o):=by
 refine⟨fun a n e=>?_,fun a u e no=>?_,fun a e=>?_⟩
 .obtain⟨m,hm,e1⟩:=g.box a n e
  exact⟨m,hm,by rw[ad' (af' e h)];exact e1⟩
 .rw[ad' (af' e h)]
  exact g.oth a u e no
 .by_cases hl:a=l
  .subst hl
   exact h
  .rw[ad' hl]at e
   exact g.free a e
theorem aq' {Q:VK} {m:Int} {H0 H:Hp} {b:Addr} {n0 c:Nat} (hb:H0 b=some (df' b n0)) (g:Go c H0 H) (hn:n0+c<=2 ^ 40) (hm:0<m) (hm2:m<4611686018427387904) (q:∀r H',0<=r->r<m->Go 1 H H'->Go (c+1) H0 H'->Q (.int r) H'):az' [.ref b,.int m] H Q E0:=by
 obtain⟨n,hb1,_,hn1⟩:=g.boxed hb hn
 exact⟨b,n,m,rfl,hb1,hn1,hm,hm2,fun r H' h0 h1 g1=>q r H' h0 h1 g1 (g.trans g1)⟩
def f2':Sp:=fun vs H Q _=>∃(b:Addr) (n:Nat) (x y z:Int),vs=[.ref b,.int x,.int y,.int z]/\H b=some (df' b n)/\n<=2 ^ 39/\0<=x/\x<=y/\y<=1000/\7<=z/\z<=1000/\∀(r:Int) (H':Hp),(x<=r/\r<=y\/7<=r/\r<=z)->Go 2 H H'->Q (.int r) H'
theorem kH' {C:Rc} (hN:C.N.length=4) (hT:C.fs "_law_take"=some az'):∀vs H Q E,f2' vs H Q E->tSs C hG' { nx:=fun _ H'=>Q .non H',rt:=Q } (L2.aK' C.N vs) H:=by
 intro vs H Q E h
 obtain⟨b,n,x,y,z,rfl,hb,hn,hx,hxy,hy,hz,hz2,q⟩:=h
 rw[ao' hN]
 unfold hG'
 walk_at "sy"
 refine ag' hT ?_
 walk_at "sy"
 refine aq' hb (Go.refl (c:=0)) (by omega) (by decide) (by decide) fun r1 H1 h0 h1 g1 g01=>?_
 walk_at "sy"
 refine bl' (fun hc=>?_) fun hc=>?_
 .walk_at "sy"
  refine ag' hT ?_
  walk_at "sy"
  refine aq' hb g01 (by omega) (by omega) (by omega) fun r2 H2 h20 h21 g2 g02=>?_
  walk_at "sy"
  exact q _ _ (.inr ⟨by omega,by omega⟩) g02
 .walk_at "sy"
  refine ag' hT ?_
  walk_at "sy"
  refine aq' hb g01 (by omega) (by omega) (by omega) fun r2 H2 h20 h21 g2 g02=>?_
  walk_at "sy"
  exact q _ _ (.inl ⟨by omega,by omega⟩) g02
def di' (H:Hp) (v:V) (r:Rm):Prop:=∃p,v=.ref p/\H p=some (.tup [oV r.1,oV r.2])
theorem di'.mono {H H':Hp} {v:V} {r:Rm} (t:Tp H H') (h:di' H v r):di' H' v r:=by
 obtain⟨p,e,h⟩:=h
 exact⟨p,e,t _ _ h⟩
def a8' (H:Hp):List V->List Rm->Prop
 | [],[]=>True
 |v :: vs,r :: rs=>di' H v r/\a8' H vs rs
 |_,_=>False
theorem a8'.mono {H H':Hp} (t:Tp H H'):∀{vs:List V} {M:List Rm},a8' H vs M->a8' H' vs M
 | [],[],_=>trivial
 |v :: vs,r :: rs,h=>⟨h.1.mono t,a8'.mono t h.2⟩
 | [],_ :: _,h=>h.elim
 |_ :: _,[],h=>h.elim
theorem a8'.len {H:Hp}:∀{vs:List V} {M:List Rm},a8' H vs M->vs.length=M.length
 | [],[],_=>rfl
 |v :: vs,r :: rs,h=>by simp[a8'.len h.2]
 | [],_ :: _,h=>h.elim
 |_ :: _,[],h=>h.elim
theorem a8'.snoc {H:Hp} {v:V} {r:Rm} (hr:di' H v r):∀{vs:List V} {M:List Rm},a8' H vs M->a8' H (vs++[v]) (M++[r])
 | [],[],_=>⟨hr,trivial⟩
 |v :: vs,r :: rs,h=>⟨h.1,a8'.snoc hr h.2⟩
 | [],_ :: _,h=>h.elim
 |_ :: _,[],h=>h.elim
theorem a8'.get {H:Hp}:∀{vs:List V} {M:List Rm} {i:Nat} {r:Rm},a8' H vs M->M[i]?=some r->∃p,vs[i]?=some (.ref p)/\H p=some (.tup [oV r.1,oV r.2])
 | [],[],i,r,_,e=>by cases e
 |v :: vs,r :: rs,0,r',h,e=>by
  cases e
  obtain⟨p,rfl,hp⟩:=h.1
  exact⟨p,rfl,hp⟩
 |v :: vs,r :: rs,i+1,r',h,e=>a8'.get (i:=i) h.2 (by simpa using e)
 | [],_ :: _,_,_,h,_=>h.elim
 |_ :: _,[],_,_,h,_=>h.elim
def IsM (H:Hp) (a:Addr) (M:List Rm):Prop:=∃vs,H a=some (.tup vs)/\a8' H vs M
theorem IsM.mono {H H':Hp} {a:Addr} {M:List Rm} (t:Tp H H') (h:IsM H a M):IsM H' a M:=by
 obtain⟨vs,h1,h2⟩:=h
 exact⟨vs,t _ _ h1,h2.mono t⟩
def OkR (N:Nat) (r:Rm):Prop:=(∀n,r.1=some n->n<N)/\∀n,r.2=some n->n<N
def OkM (M:List Rm):Prop:=∀r∈M,OkR M.length r
def by' (N0 N1 c:Nat):Sp:=fun vs H Q _=>∃(b:Addr) (n N:Nat),vs=[.ref b,.int N]/\H b=some (df' b n)/\n<=2 ^ 39/\N0<=N/\N<=N1/\∀(a:Addr) (M:List Rm) (H':Hp),Go c H H'->IsM H' a M->OkM M->M.length=N->Q (.ref a) H'
theorem f3' {C:Rc} (hN:C.N.length=8) (hT:C.fs "_law_take"=some az'):∀vs H Q E,by' 1 60 400 vs H Q E->tSs C cR' { nx:=fun _ H'=>Q .non H',rt:=Q } (L2.aK' C.N vs) H:=by
 intro vs H Q E h
 obtain⟨b,n,N,rfl,hb,hn,hN0,hN1,q⟩:=h
 rw[ao' hN]
 unfold cR'
 walk_at "sy"
 refine ag' hT ?_
 walk_at "sy"
 refine aq' hb (Go.refl (c:=0)) (by omega) (by decide) (by decide) fun r1 H1 h0 h1 g1 g01=>?_
 walk_at "sy"
 refine⟨by decide,fun l hl=>?_⟩
 have hl0:=g01.free _ hl
 refine gH' (by omega) (by omega) (gI' (fun i σ H'=>(∃x4 x5 x6 x7,σ=[some (.ref b),some (.int N),some (.int (2+r1)),some (.ref l),x4,x5,x6,x7])/\Go (1+4*i) H H'/\∃vs M,H' l=some (.lst vs)/\a8' H' vs M/\vs.length=i/\∀r∈M,OkR N r) ⟨⟨_,_,_,_,rfl⟩,(g01.upd hl0).mono (by omega),[],[],ab',trivial,rfl,fun r hr=>by cases hr⟩ ?_ ?_)
 .rintro i σ H2 hi ⟨⟨x4,x5,x6,x7,rfl⟩,g2,vs,M,hl2,hr2,hlen,hok⟩
  walk_at "sy"
  refine⟨by decide,fun d hd=>?_⟩
  have hd0:=g2.free _ hd
  have hdl:l≠d:=af' hl2 hd
  refine gH' (by omega) (by omega) (gI' (fun j σ H'=>(∃x6 x7,σ=[some (.ref b),some (.int N),some (.int (2+r1)),some (.ref l),some (.int (0+i)),some (.ref d),x6,x7])/\Go (1+4*i+2*j) H H'/\Tp H2 H'/\H' l=some (.lst vs)/\∃ds:List (Option Nat),H' d=some (.lst (ds.map oV))/\ds.length=j/\∀m,some m∈ds->m<N) ⟨⟨_,_,rfl⟩,g2.upd hd0,d8' hd _,by rw[ad' hdl];exact hl2,[],ab',rfl,fun m hm=>by cases hm⟩ ?_ ?_)
  .rintro j σ H3 hj ⟨⟨x6,x7,rfl⟩,g3,t3,hl3,ds,hd3,hdn,hdo⟩
   walk_at "sy"
   refine ag' hT ?_
   walk_at "sy"
   refine aq' hb g3 (by omega) (by omega) (by omega) fun r4 H4 h40 h41 g34 g4=>?_
   have hd4:=g34.lst hd3
   walk_at "sy"
   refine⟨tyL hd4 rfl,⟨by decide,fun p hp=>?_⟩⟩
   have hp0:=g4.free _ hp
   refine ag' hT ?_
   walk_at "sy"
   refine aq' hb (g4.upd hp0) (by omega) (by omega) (by omega) fun r5 H5 h50 h51 g45 g5=>?_
   have hp5:H5 p=some (.lst [.int r4,.non]):=g45.lst ab'
   have hd5:H5 d=some (.lst (ds.map oV)):=g45.lst (by rw[ad' (af' hd4 hp)];exact hd4)
   have hl5:H5 l=some (.lst vs):=g45.lst (by rw[ad' (af' (g34.lst hl3) hp)];exact g34.lst hl3)
   walk_at "sy"
   refine n4' (SqL.of hp5) ?_
   obtain⟨o,eo,hoo⟩:∃o:Option Nat,(if decide (r5=0)=true then V.non else V.int r4)=oV o/\∀m,o=some m->m<N:=by
    split
    .exact⟨none,rfl,fun m hm=>by cases hm⟩
    .exact⟨some r4.toNat,by show _=V.int _;congr 1;omega,fun m hm=>by cases hm;omega⟩
   rw[eo]
   walk_at "sy"
   refine fZ' hd5 (by rw[ah];exact ax' (by omega)) ?_
   walk_at "sy"
   refine⟨⟨_,_,rfl⟩,(g5.upd hd0).mono (by omega),?_,by rw[ad' hdl];exact hl5,ds++[o],by rw[ab',aL];rfl,by simp[hdn],fun m hm=>?_⟩
   .exact((t3.trans g34.tp).trans ((d8' hp _).trans g45.tp)).trans (eP' hd5 _)
   .rcases aw.mp hm with hm|hm
    .exact hdo m hm
    .exact hoo m (aU.mp hm).symm
  .rintro σ H3 ⟨⟨x6,x7,rfl⟩,g3,t3,hl3,ds,hd3,hdn,hdo⟩
   walk_at "sy"
   refine⟨tyL hl3 rfl,?_⟩
   refine cv' (SqL.of hd3) fun p hp=>?_
   walk_at "sy"
   have hpl:upd H3 p (.tup (ds.map oV)) l=some (.lst vs):=by rw[ad' (af' hl3 hp)];exact hl3
   refine fZ' hpl (ax' (by omega)) ?_
   walk_at "sy"
   obtain⟨x,y,rfl⟩:∃x y,ds=[x,y]:=by
    match ds,hdn with
    | [x,y],_=>exact⟨x,y,rfl⟩
   have tp1:Tp H2 (upd (upd H3 p (.tup ([x,y].map oV))) l (.lst (vs++[.ref p]))):=(t3.trans (d8' hp _)).trans (eP' hpl _)
   refine⟨⟨_,_,_,_,rfl⟩,((g3.upd (g3.free _ hp)).upd hl0).mono (by omega),vs++[.ref p],M++[(x,y)],ab',(hr2.mono tp1).snoc ⟨p,rfl,?_⟩,by simp[hlen],fun r hr=>?_⟩
   .rw[ad' (fun z=>by subst z;rw[hl3]at hp;cases hp)]
    exact ab'
   .rcases aw.mp hr with hr|hr
    .exact hok r hr
    .have e:r=(x,y):=by simpa using hr
     subst e
     exact⟨fun m hm=>hdo m (by simp[<- hm]),fun m hm=>hdo m (by simp[<- hm])⟩
 .rintro σ H2 ⟨⟨x4,x5,x6,x7,rfl⟩,g2,vs,M,hl2,hr2,hlen,hok⟩
  walk_at "sy"
  refine cv' (SqL.of hl2) fun p hp=>?_
  have hlM:=hr2.len
  have e:M.length=N:=by omega
  exact q p M _ ((g2.upd (g2.free _ hp)).mono (by omega)) ⟨vs,ab',hr2.mono (d8' hp _)⟩ (fun r hr=>by rw[e];exact hok r hr) e
theorem un' {K:W.Frag} {H:Hp} {Q:VK} {a:Addr} {xs:List V} {k:Nat} (h:H a=some (.lst xs)) (hk:k<=1000) (hz:xs.length*k<=sizeLine) (q:∀p,H p=none->Q (.ref p) (upd H p (.lst (aO k xs).flatten))):eJ' K .Mult (.ref a) (.int k) H Q:=by
 refine⟨a,k,xs,rfl,rfl,h,by omega,by omega,by simpa using hz,fun p hp=>?_⟩
 rw[ba]
 exact q p hp
theorem qk' {H:Hp} {R:Hp->Prop} {a:Addr} {xs:List V} {k:Nat} {v:V} (h:H a=some (.lst xs)) (hk:k<xs.length) (q:R (upd H a (.lst (xs.set k v)))):dm' (.ref a) (.int k) v H R:=by
 refine⟨a,xs,k,k,rfl,rfl,h,?_,q⟩
 unfold ixN
 rw[if_pos (by omega),if_pos (by omega)]
 simp
def nV (n:Nat):V:=.int n
theorem hI' {H:Hp} {P:Rm->Prop}:∀{vs:List V},(∀m,m<vs.length->∃r v,P r/\vs[m]?=some v/\di' H v r)->∃M,a8' H vs M/\∀r∈M,P r
 | [],_=>⟨[],trivial,fun r hr=>by cases hr⟩
 |v :: vs,h=>by
  obtain⟨r,v',ho,e,hr⟩:=h 0 (by simp)
  cases e
  obtain⟨M,h1,h2⟩:=hI' (vs:=vs) fun m hm=>by
   obtain⟨r,v,h1,h2,h3⟩:=h (m+1) (by simpa using hm)
   exact⟨r,v,h1,by simpa using h2,h3⟩
  exact⟨r :: M,⟨hr,h1⟩,fun x hx=>by
   rcases am.mp hx with rfl|hx
   .exact ho
   .exact h2 x hx⟩
def OkD (N:Nat) (r:Rm):Prop:=OkR N r/\(r.1=none->r.2≠none)
def uo':Sp:=fun vs H Q _=>∃(b:Addr) (n N:Nat),vs=[.ref b,.int N]/\H b=some (df' b n)/\n<=2 ^ 39/\1<=N/\N<=60/\∀(a:Addr) (M:List Rm) (H':Hp),Go 400 H H'->IsM H' a M->OkM M->M.length=N->(∀r∈M,r.1=none->r.2≠none)->Q (.ref a) H'
theorem iu' {C:Rc} (hN:C.N.length=9) (hT:C.fs "_law_take"=some az'):∀vs H Q E,uo' vs H Q E->tSs C aV' { nx:=fun _ H'=>Q .non H',rt:=Q } (L2.aK' C.N vs) H:=by
 intro vs H Q E h
 obtain⟨b,n,N,rfl,hb,hn,hN0,hN1,q⟩:=h
 rw[ao' hN]
 unfold aV'
 walk_at "sy"
 refine⟨by decide,fun l hl=>?_⟩
 refine gH' (by omega) (by omega) (gI' (fun i σ H'=>(∃x3 x4 x5 x6 x7 x8,σ=[some (.ref b),some (.int N),some (.ref l),x3,x4,x5,x6,x7,x8])/\Go i H H'/\∃os:List Nat,H' l=some (.lst (os.map nV))/\os.length=i/\(∀m∈os,m<N)/\∀m,m<i->m∈os) ⟨⟨_,_,_,_,_,_,rfl⟩,(Go.refl (c:=0)).upd hl,[],ab',rfl,(fun m hm=>by cases hm),fun m hm=>by omega⟩ ?_ ?_)
 .rintro i σ H1 hi ⟨⟨x3,x4,x5,x6,x7,x8,rfl⟩,g1,os,hl1,hlen,hlt,hall⟩
  walk_at "sy"
  refine⟨tyL hl1 rfl,ag' hT ?_⟩
  walk_at "sy"
  refine aq' hb g1 (by omega) (by omega) (by omega) fun r2 H2 h20 h21 g12 g2=>?_
  have hl2:=g12.lst hl1
  walk_at "sy"
  obtain⟨j,rfl⟩:=aF h20
  refine n5' hl2 (by rw[ah];exact ax' (by omega)) (by rw[ah];omega) ?_
  walk_at "sy"
  refine⟨⟨_,_,_,_,_,_,rfl⟩,g2.upd hl,os.take j++i :: os.drop j,?_,?_,?_,?_⟩
  .rw[ab',aL,aQ,List.map_take,List.map_drop]
   simp[nV]
  .simp;omega
  .intro m hm
   rcases aw.mp hm with hm|hm
   .exact hlt m (cn hm)
   .rcases am.mp hm with rfl|hm
    .omega
    .exact hlt m (bR hm)
  .intro m hm
   by_cases e:m=i
   .subst e;simp
   .have:=hall m (by omega)
    rw[<- bv j os]at this
    rcases aw.mp this with h|h
    .exact aw.mpr (.inl h)
    .exact aw.mpr (.inr (ao _ h))
 rintro σ H1 ⟨⟨x3,x4,x5,x6,x7,x8,rfl⟩,g1,os,hl1,hlen,hlt,hall⟩
 rw[ba]at g1 hlen hall
 walk_at "sy"
 refine⟨by decide,fun p hp=>?_⟩
 have hpl:l≠p:=af' hl1 hp
 refine un' ab' (by omega) (bJ (ax' (by simp;omega))) fun w hw=>?_
 have gw:=(g1.upd (o:=.lst [.non]) (g1.free _ hp)).upd (o:=.lst (aO N [V.non]).flatten) ((g1.upd (o:=.lst [.non]) (g1.free _ hp)).free _ hw)
 have hlw:upd (upd H1 p (.lst [.non])) w (.lst (aO N [V.non]).flatten) l=some (.lst (os.map nV)):=ah' hw _ _ _ (ah' hp _ _ _ hl1)
 have hww:upd (upd H1 p (.lst [.non])) w (.lst (aO N [V.non]).flatten) w=some (.lst (aO N V.non)):=by
  rw[ab'];simp
 have hw0:H w=none:=(g1.upd (o:=.lst [.non]) (g1.free _ hp)).free _ hw
 have hwl:l≠w:=af' (ah' hp (.lst [.non]) _ _ hl1) hw
 generalize upd (upd H1 p (.lst [.non])) w (.lst (aO N [V.non]).flatten)=H2 at gw hlw hww
 walk_at "sy"
 refine n1' (SqL.of hlw) (wY' (xs:=os.map nV) (fun t σ H'=>(∃x3 x5 x6 x7 x8,σ=[some (.ref b),some (.int N),some (.ref l),x3,some (.ref w),x5,x6,x7,x8])/\Go (N+3*t) H H'/\H' l=some (.lst (os.map nV))/\∃ws,H' w=some (.lst ws)/\ws.length=N/\∀m∈os.take t,∃r v,OkD N r/\ws[m]?=some v/\di' H' v r) ⟨⟨_,_,_,_,_,rfl⟩,gw.mono (by omega),hlw,_,hww,by simp,fun m hm=>by cases hm⟩ (fun t σ H' _ pv=>SqL.of pv.2.2.1) ?_ ?_)
 .rintro t x σ H3 e hx he ⟨⟨x3,x5,x6,x7,x8,rfl⟩,g3,hl3,ws,hw3,hwn,hws⟩
  rw[aC]at hx
  cases eo:os[t]? with
  |none=>rw[eo]at hx;cases hx
  |some room=>
   rw[eo]at hx
   cases hx
   have ht:=ay' eo
   refine dg' (SqT.of ab') ?_
   have s4:=ah' he (.tup [.int t,nV room])
   have g4:=g3.upd (o:=.tup [.int t,nV room]) (g3.free _ he)
   generalize upd H3 e (.tup [.int t,nV room])=H4 at s4 g4
   have hl4:=s4 _ _ hl3
   walk_at "sy"
   refine ky' (SqL.of hl4) fun c hc=>?_
   rw[show(1:Int)=((1:Nat):Int) from rfl,n6']
   have s5:=ah' hc (.lst ((os.map nV).take 1))
   have g5:=g4.upd (o:=.lst ((os.map nV).take 1)) (g4.free _ hc)
   have hc5:upd H4 c (.lst ((os.map nV).take 1)) c=some (.lst ((os.map nV).take 1)):=ab'
   generalize upd H4 c (.lst ((os.map nV).take 1))=H5 at s5 g5 hc5
   walk_at "sy"
   refine f0' (s5 _ _ hl4) hc5 (bJ (ax' (by simp;omega))) fun d hd=>?_
   have s6:=ah' hd (.lst (os.map nV++(os.map nV).take 1))
   have g6:=g5.upd (o:=.lst (os.map nV++(os.map nV).take 1)) (g5.free _ hd)
   have hd6:upd H5 d (.lst (os.map nV++(os.map nV).take 1)) d=some (.lst ((os++os.take 1).map nV)):=by rw[ab',aL,List.map_take]
   generalize upd H5 d (.lst (os.map nV++(os.map nV).take 1))=H6 at s6 g6 hd6
   obtain⟨on,eon,hon⟩:∃on,(os++os.take 1)[t+1]?=some on/\on<N:=by
    have hl:t+1<(os++os.take 1).length:=by simp;omega
    refine⟨_,ae hl,?_⟩
    rcases aw.mp (cg hl)with h|h
    .exact hlt _ h
    .exact hlt _ (cn h)
   walk_at "sy"
   refine bF' (SqL.of hd6) (v:=nV on) (a1' (j:=t+1) (by rw[aC,eon];rfl)) ?_
   walk_at "sy"
   refine ag' hT ?_
   walk_at "sy"
   refine aq' hb g6 (by omega) (by omega) (by omega) fun r7 H7 h70 h71 g67 g7=>?_
   walk_at "sy"
   refine⟨by decide,fun f hf=>?_⟩
   refine ag' hT ?_
   walk_at "sy"
   refine aq' hb (g7.upd (o:=.lst [.int r7,.non]) (g7.free _ hf)) (by omega) (by omega) (by omega) fun r8 H8 h80 h81 g78 g8=>?_
   have hf8:H8 f=some (.lst [.int r7,.non]):=g78.lst ab'
   have keep8:∀a xs,H3 a=some (.lst xs)->H8 a=some (.lst xs):=fun a xs h=>g78.lst (ah' hf _ _ _ (g67.lst (s6 _ _ (s5 _ _ (s4 _ _ h)))))
   have tp8:Tp H3 H8:=(((ai' s4).trans (ai' s5)).trans (ai' s6)).trans (g67.tp.trans ((d8' hf _).trans g78.tp))
   walk_at "sy"
   refine n4' (SqL.of hf8) ?_
   obtain⟨o,eo2,hoo⟩:∃o:Option Nat,(if decide (r8=0)=true then V.non else V.int r7)=oV o/\∀m,o=some m->m<N:=by
    split
    .exact⟨none,rfl,fun m hm=>by cases hm⟩
    .exact⟨some r7.toNat,by show _=V.int _;congr 1;omega,fun m hm=>by cases hm;omega⟩
   rw[eo2]
   walk_at "sy"
   refine⟨by decide,fun p1 hp1=>?_⟩
   have s9:=ah' hp1 (.tup [nV on,oV o])
   have g9:=g8.upd (o:=.tup [nV on,oV o]) (g8.free _ hp1)
   have h9:upd H8 p1 (.tup [nV on,oV o]) p1=some (.tup [nV on,oV o]):=ab'
   generalize upd H8 p1 (.tup [nV on,oV o])=H9 at s9 g9 h9
   refine⟨by decide,fun p2 hp2=>?_⟩
   have s10:=ah' hp2 (.tup [oV o,nV on])
   have g10:=g9.upd (o:=.tup [oV o,nV on]) (g9.free _ hp2)
   have h10:upd H9 p2 (.tup [oV o,nV on]) p2=some (.tup [oV o,nV on]):=ab'
   generalize upd H9 p2 (.tup [oV o,nV on])=H10 at s10 g10 h10
   refine⟨by decide,fun p3 hp3=>?_⟩
   have s11:=ah' hp3 (.lst [.ref p1,.ref p2])
   have g11:=g10.upd (o:=.lst [.ref p1,.ref p2]) (g10.free _ hp3)
   have h11:upd H10 p3 (.lst [.ref p1,.ref p2]) p3=some (.lst [.ref p1,.ref p2]):=ab'
   generalize upd H10 p3 (.lst [.ref p1,.ref p2])=H11 at s11 g11 h11
   refine ag' hT ?_
   walk_at "sy"
   refine aq' hb g11 (by omega) (by omega) (by omega) fun r12 H12 h120 h121 g1112 g12=>?_
   have tpx:Tp H3 H12:=(((tp8.trans (ai' s9)).trans (ai' s10)).trans (ai' s11)).trans g1112.tp
   have hl12:H12 l=some (.lst (os.map nV)):=g1112.lst (s11 _ _ (s10 _ _ (s9 _ _ (keep8 _ _ hl3))))
   have hw12:H12 w=some (.lst ws):=g1112.lst (s11 _ _ (s10 _ _ (s9 _ _ (keep8 _ _ hw3))))
   have h1:H12 p1=some (.tup [nV on,oV o]):=g1112.tup (s11 _ _ (s10 _ _ h9))
   have h2:H12 p2=some (.tup [oV o,nV on]):=g1112.tup (s11 _ _ h10)
   walk_at "sy"
   have hroom:room<N:=hlt room (az eo)
   have fin:∀(pz:Addr) (rz:Rm),OkD N rz->H12 pz=some (.tup [oV rz.1,oV rz.2])->dm' (.ref w) (nV room) (.ref pz) H12 (fun H'=>(∃x3' x5 x6 x7 x8,[some (V.ref b),some (V.int N),some (V.ref l),x3,some (V.ref w),some (V.int t),some (nV room),some (nV on),some (oV o)]=[some (.ref b),some (.int N),some (.ref l),x3',some (.ref w),x5,x6,x7,x8])/\Go (N+3*(t+1)) H H'/\H' l=some (.lst (os.map nV))/\∃ws,H' w=some (.lst ws)/\ws.length=N/\∀m∈os.take (t+1),∃r v,OkD N r/\ws[m]?=some v/\di' H' v r):=by
    intro pz rz hrz hpz
    refine qk' hw12 (by omega) ⟨⟨_,_,_,_,_,rfl⟩,(g12.upd hw0).mono (by omega),by rw[ad' hwl];exact hl12,_,ab',by rw[List.length_set];exact hwn,fun m hm=>?_⟩
    by_cases em:m=room
    .subst em
     exact⟨rz,.ref pz,hrz,by rw[List.getElem?_set_self (by omega)],pz,rfl,eP' hw12 _ _ _ hpz⟩
    .rw[List.take_succ,eo]at hm
     rcases aw.mp hm with hm|hm
     .obtain⟨r,v,q1,q2,q3⟩:=hws m hm
      exact⟨r,v,q1,by rw[bP (Ne.symm em)];exact q2,q3.mono (tpx.trans (eP' hw12 _))⟩
     .exact absurd (by simpa using hm) em
   have h121':r12=0\/r12=1:=by omega
   rcases h121' with rfl|rfl
   .refine bF' (SqL.of (g1112.lst h11)) (v:=.ref p1) rfl ?_
    walk_at "sy"
    exact fin p1 (some on,o) ⟨⟨fun m hm=>by cases hm;exact hon,hoo⟩,fun z=>by cases z⟩ h1
   .refine bF' (SqL.of (g1112.lst h11)) (v:=.ref p2) rfl ?_
    walk_at "sy"
    exact fin p2 (o,some on) ⟨⟨hoo,fun m hm=>by cases hm;exact hon⟩,fun _ z=>by cases z⟩ h2
 .rintro σ H3 ⟨⟨x3,x5,x6,x7,x8,rfl⟩,g3,hl3,ws,hw3,hwn,hws⟩
  walk_at "sy"
  refine cv' (SqL.of hw3) fun p hp=>?_
  rw[ah,<- ah (f:=nV),ah,bN]at hws
  rw[ah]at g3
  obtain⟨M,hM,hO⟩:=hI' (P:=OkD N) (vs:=ws) (H:=H3) fun m hm=>hws m (hall m (by omega))
  have e:M.length=N:=by rw[<- hM.len];exact hwn
  exact q p M _ ((g3.upd (g3.free _ hp)).mono (by omega)) ⟨ws,ab',hM.mono (d8' hp _)⟩ (fun r hr=>by rw[e];exact(hO r hr).1) e fun r hr=>(hO r hr).2
theorem kI' {C:Rc} (hN:C.N.length=9) (hT:C.fs "_law_take"=some az'):∀vs H Q E,by' 1 60 400 vs H Q E->tSs C aV' { nx:=fun _ H'=>Q .non H',rt:=Q } (L2.aK' C.N vs) H:=fun vs H Q E ⟨b,n,N,h1,h2,h3,h4,h5,q⟩=>iu' hN hT vs H Q E ⟨b,n,N,h1,h2,h3,h4,h5,fun a M H' g i o l _=>q a M H' g i o l⟩
def bG':Sp:=fun vs H Q _=>∃(b a:Addr) (n:Nat) (M:List Rm),vs=[.ref b,.ref a]/\H b=some (df' b n)/\n<=2 ^ 39/\IsM H a M/\OkM M/\1<=M.length/\M.length<=20/\
 ∀(p a' l:Addr) (M':List Rm) (ms:List Nat) (H':Hp),Go 500 H H'->H' p=some (.tup [.ref a',.ref l])->H' l=some (.lst (ms.map nV))->ms.length=M'.length->(∀m∈ms,m<M.length)->IsM H' a' M'->OkM M'->1<=M'.length->M'.length<=60->Q (.ref p) H'
theorem gM' {C:Rc} (hN:C.N.length=11) (hT:C.fs "_law_take"=some az'):∀vs H Q E,bG' vs H Q E->tSs C dv' { nx:=fun _ H'=>Q .non H',rt:=Q } (L2.aK' C.N vs) H:=by
 intro vs H Q E h
 obtain⟨b,a,n,M,rfl,hb,hn,⟨rv,ha,hrv⟩,hM,hM1,hM2,q⟩:=h
 have hrl:=hrv.len
 rw[ao' hN]
 unfold dv'
 walk_at "sy"
 refine⟨by decide,fun l hl=>?_⟩
 have hal:a≠l:=af' ha hl
 refine aR' (SqT.of (by rw[ad' hal];exact ha)) ?_
 rw[hrl]
 refine gH' (by omega) (by omega) (gI' (fun i σ H'=>(∃x3 x4 x5 x6 x7 x8 x9 x10,σ=[some (.ref b),some (.ref a),some (.ref l),x3,x4,x5,x6,x7,x8,x9,x10])/\Go (4*i) H H'/\∃ms:List Nat,H' l=some (.lst (ms.map nV))/\i<=ms.length/\ms.length<=3*i/\(∀m∈ms,m<M.length)) ⟨⟨_,_,_,_,_,_,_,_,rfl⟩,(Go.refl (c:=0)).upd hl,[],ab',by simp,by simp,fun m hm=>by cases hm⟩ ?_ ?_)
 .rintro i σ H1 hi ⟨⟨x3,x4,x5,x6,x7,x8,x9,x10,rfl⟩,g1,ms,hl1,hm1,hm2,hm3⟩
  walk_at "sy"
  refine ag' hT ?_
  walk_at "sy"
  refine aq' hb g1 (by omega) (by omega) (by omega) fun r2 H2 h20 h21 g12 g2=>?_
  have hl2:=g12.lst hl1
  walk_at "sy"
  refine gH' (by omega) (by omega) (gI' (fun j σ H'=>(∃x4,σ=[some (.ref b),some (.ref a),some (.ref l),some (.int (0+i)),x4,x5,x6,x7,x8,x9,x10])/\Go (4*i+1+j) H H'/\∃ms':List Nat,H' l=some (.lst (ms'.map nV))/\ms'.length=ms.length+j/\(∀m∈ms',m<M.length)) ⟨⟨_,rfl⟩,g2,ms,hl2,rfl,hm3⟩ ?_ ?_)
  .rintro j σ H3 hj ⟨⟨x4,rfl⟩,g3,ms',hl3,hml,hmm⟩
   walk_at "sy"
   refine⟨tyL hl3 rfl,ag' hT ?_⟩
   walk_at "sy"
   refine d7' (SqL.of hl3) ?_
   rw[ah]
   walk_at "sy"
   refine aq' hb g3 (by omega) (by omega) (by omega) fun r4 H4 h40 h41 g34 g4=>?_
   obtain⟨k,rfl⟩:=aF h40
   walk_at "sy"
   refine n5' (g34.lst hl3) (by rw[ah];exact ax' (by omega)) (by rw[ah];omega) ?_
   walk_at "sy"
   refine⟨⟨_,rfl⟩,(g4.upd hl).mono (by omega),ms'.take k++i :: ms'.drop k,?_,by simp;omega,fun m hm=>?_⟩
   .rw[ab',aL,aQ,List.map_take,List.map_drop]
    simp[nV]
   .rcases aw.mp hm with hm|hm
    .exact hmm m (cn hm)
    .rcases am.mp hm with rfl|hm
     .omega
     .exact hmm m (bR hm)
  .rintro σ H3 ⟨⟨x4,rfl⟩,g3,ms',hl3,hml,hmm⟩
   walk_at "sy"
   exact⟨⟨_,_,_,_,_,_,_,_,rfl⟩,g3.mono (by omega),ms',hl3,by omega,by omega,hmm⟩
 rintro σ H1 ⟨⟨x3,x4,x5,x6,x7,x8,x9,x10,rfl⟩,g1,ms,hl1,hm1,hm2,hm3⟩
 rw[ba]at g1 hm1 hm2
 have hml:ms.length<=60:=by omega
 walk_at "sy"
 refine⟨by decide,fun w hw=>?_⟩
 have hw0:=g1.free _ hw
 have hlw:l≠w:=af' hl1 hw
 refine ca' (SqL.of (xs:=ms.map nV) (by rw[ad' hlw];exact hl1)) (tO' (xs:=ms.map nV) (fun i σ H'=>(∃x3 x4 x6 x7 x8 x9 x10,σ=[some (.ref b),some (.ref a),some (.ref l),x3,x4,some (.ref w),x6,x7,x8,x9,x10])/\Go (80+2*i) H H'/\H' l=some (.lst (ms.map nV))/\∃vs R,H' w=some (.lst vs)/\a8' H' vs R/\vs.length=i/\∀r∈R,OkR ms.length r) ⟨⟨_,_,_,_,_,_,_,rfl⟩,(g1.upd hw0).mono (by omega),by rw[ad' hlw];exact hl1,[],[],ab',trivial,rfl,fun r hr=>by cases hr⟩ (fun i σ H' _ pv=>SqL.of pv.2.2.1) ?_ ?_)
 .rintro i x σ H2 hx ⟨⟨x3,x4,x6,x7,x8,x9,x10,rfl⟩,g2,hl2,vs,R,hw2,hR,hlen,hok⟩
  rw[aC]at hx
  cases em:ms[i]? with
  |none=>rw[em]at hx;cases hx
  |some m=>
   rw[em]at hx
   cases hx
   have hi:=ay' em
   have hmM:m<M.length:=hm3 m (az em)
   obtain⟨pr,hpr,hprt⟩:=hrv.get (ae hmM)
   walk_at "sy"
   refine⟨by decide,fun d hd=>?_⟩
   have hd0:=g2.free _ hd
   have gd:=g2.upd (o:=.lst []) hd0
   have sd:=ah' hd (.lst [])
   have hdd:upd H2 d (.lst []) d=some (.lst []):=ab'
   have hdl:l≠d:=af' hl2 hd
   have hdw:w≠d:=af' hw2 hd
   generalize upd H2 d (.lst [])=H3 at gd sd hdd
   have ha3:H3 a=some (.tup rv):=gd.tup ha
   refine a0' (SqT.of ha3) (v:=.ref pr) (a1' hpr) ?_
   have hp3:H3 pr=some (.tup [oV M[m].1,oV M[m].2]):=gd.tup hprt
   refine cb' (SqT.of hp3) (tP' (xs:=[oV M[m].1,oV M[m].2]) (fun j σ H'=>(∃x7 x8 x9 x10,σ=[some (.ref b),some (.ref a),some (.ref l),some (nV m),x4,some (.ref w),some (.ref d),x7,x8,x9,x10])/\Go (80+2*i+j) H H'/\Tp H2 H'/\H' l=some (.lst (ms.map nV))/\H' w=some (.lst vs)/\∃ds:List (Option Nat),H' d=some (.lst (ds.map oV))/\ds.length=j/\∀k,some k∈ds->k<ms.length) ⟨⟨_,_,_,_,rfl⟩,gd,ai' sd,sd _ _ hl2,sd _ _ hw2,[],hdd,rfl,fun k hk=>by cases hk⟩ (fun j σ H' _ pv=>SqT.of (pv.2.1.tup hprt)) ?_ ?_)
   .rintro j x σ H4 hx ⟨⟨x7,x8,x9,x10,rfl⟩,g4,t4,hl4,hw4,ds,hd4,hdn,hdo⟩
    obtain⟨o,rfl⟩:∃o,x=oV o:=by
     match j,hx with
     |0,hx=>cases hx;exact⟨_,rfl⟩
     |1,hx=>cases hx;exact⟨_,rfl⟩
    have hj:j<2:=ay' hx
    walk_at "sy"
    refine n1' (SqL.of hl4) (tT' (vs:=ms.map nV) (fun i xs H'=>(∃ks:List Nat,xs=ks.map nV/\(∀k∈ks,k<i)/\ks.length<=i)/\aH' H4 H') ⟨⟨[],rfl,(fun k hk=>by cases hk),by simp⟩,aH'.refl _⟩ (fun i xs H' pv=>SqL.of (pv.2 _ _ hl4)) ?_ ?_)
    .rintro i2 xs H5 x p R2 hx2 hp ⟨⟨ks,rfl,hk1,hk2⟩,s5⟩ hR2
     rw[aC]at hx2
     cases em2:ms[i2]? with
     |none=>rw[em2]at hx2;cases hx2
     |some m2=>
      rw[em2]at hx2
      cases hx2
      have hi2:=ay' em2
      refine dg' (SqT.of ab') ?_
      walk_at "sy"
      have sc:iP' (nV m2) (oV o)=true:=by cases o<;>rfl
      rw[w3' sc]
      walk_at "sy"
      refine bl' (fun hc=>?_) fun hc=>?_
      .walk_at "sy"
       refine⟨by rw[ah];exact ax' (by omega),hR2 _ _ ⟨⟨ks++[i2],by rw[aL];rfl,fun k hk=>?_,by simp;omega⟩,s5.trans (ah' hp _)⟩⟩
       rcases aw.mp hk with hk|hk
       .have:=hk1 k hk;omega
       .have e:k=i2:=by simpa using hk
        omega
      .walk_at "sy"
       exact hR2 _ _ ⟨⟨ks,rfl,fun k hk=>by have:=hk1 k hk;omega,by omega⟩,s5.trans (ah' hp _)⟩
    rintro xs H5 ⟨⟨ks,rfl,hk1,hk2⟩,s5⟩ e he
    rw[ah]at hk1 hk2
    have s6:=s5.trans (ah' he (.lst (ks.map nV)))
    have g6:=(g4.trans (Go.of_same (c:=0) s6))
    have he6:upd H5 e (.lst (ks.map nV)) e=some (.lst (ks.map nV)):=ab'
    generalize upd H5 e (.lst (ks.map nV))=H6 at s6 g6 he6
    walk_at "sy"
    refine⟨tyL (s6 _ _ hd4) rfl,⟨by decide,fun f hf=>?_⟩⟩
    have s7:=ah' hf (.lst [])
    have hf7:upd H6 f (.lst []) f=some (.lst []):=ab'
    generalize upd H6 f (.lst [])=H7 at s7 hf7
    have g7:Go (80+2*i+j) H H7:=(g6.trans (Go.of_same (c:=0) s7)).mono (by omega)
    refine tW' (SqL.of (s7 _ _ he6)) (SqL.of hf7) pT' ?_
    have fin:∀(o':Option Nat) (H8:Hp) (Qk:VK),(∀k,o'=some k->k<ms.length)->Go (80+2*i+(j+1)) H H8->Tp H7 H8->(∀x xs,H7 x=some (.lst xs)->H8 x=some (.lst xs))->
      (∀H',Go (80+2*i+(j+1)) H H'->Tp H2 H'->H' l=some (.lst (ms.map nV))->H' w=some (.lst vs)->(∃ds:List (Option Nat),H' d=some (.lst (ds.map oV))/\ds.length=j+1/\∀k,some k∈ds->k<ms.length)->Qk .non H')->mh' C.K .append (.ref d) [oV o'] H8 Qk:=by
     intro o' H8 Qk ho g8 t8 k8 hq
     have hd8:=k8 _ _ (s7 _ _ (s6 _ _ hd4))
     refine fZ' hd8 (by rw[ah];exact ax' (by omega)) ?_
     refine hq _ (g8.upd hd0) (((t4.trans (ai' s6)).trans (ai' s7)).trans (t8.trans (eP' hd8 _))) (by rw[ad' hdl];exact k8 _ _ (s7 _ _ (s6 _ _ hl4))) (by rw[ad' hdw];exact k8 _ _ (s7 _ _ (s6 _ _ hw4))) ⟨ds++[o'],by rw[ab',aL];rfl,by simp[hdn],fun k hk=>?_⟩
     rcases aw.mp hk with hk|hk
     .exact hdo k hk
     .exact ho k (aU.mp hk).symm
    cases ks with
    |nil=>
     walk_at "sy"
     exact fin none H7 _ (fun k hk=>by cases hk) (g7.mono (by omega)) Tp.refl (fun _ _ h=>h) fun H' q1 q2 q3 q4 q5=>⟨⟨_,_,_,_,rfl⟩,q1,q2,q3,q4,q5⟩
    |cons k0 kr=>
     rw[show(!decide (List.map nV (k0 :: kr)=[]))=true by simp]
     walk_at "sy"
     refine ag' hT ?_
     walk_at "sy"
     refine d7' (SqL.of (s7 _ _ he6)) ?_
     walk_at "sy"
     have hz:(nV k0 :: List.map nV kr).length=(k0 :: kr).length:=by simp
     refine aq' hb g7 (by omega) (by simp) (by simp at hk2 ⊢;omega) fun r8 H8 h80 h81 g78 g8=>?_
     walk_at "sy"
     obtain⟨v,ev,ei⟩:=n0' (xs:=List.map nV (k0 :: kr)) h80 (by simpa using h81)
     rw[aC]at ev
     cases ek:(k0 :: kr)[r8.toNat]? with
     |none=>rw[ek]at ev;cases ev
     |some k=>
      rw[ek]at ev
      cases ev
      refine bF' (SqL.of (g78.lst (s7 _ _ he6))) ei ?_
      walk_at "sy"
      exact fin (some k) H8 _ (fun k' hk'=>by cases hk';have:=hk1 k (az ek);omega) g8 g78.tp (fun _ _ h=>g78.lst h) fun H' q1 q2 q3 q4 q5=>⟨⟨_,_,_,_,rfl⟩,q1,q2,q3,q4,q5⟩
   .rintro σ H4 ⟨⟨x7,x8,x9,x10,rfl⟩,g4,t4,hl4,hw4,ds,hd4,hdn,hdo⟩
    walk_at "sy"
    refine⟨tyL hw4 rfl,cv' (SqL.of hd4) fun p hp=>?_⟩
    walk_at "sy"
    have hpw:upd H4 p (.tup (ds.map oV)) w=some (.lst vs):=by rw[ad' (af' hw4 hp)];exact hw4
    refine fZ' hpw (ax' (by omega)) ?_
    walk_at "sy"
    obtain⟨x,y,rfl⟩:∃x y,ds=[x,y]:=by
     match ds,hdn with
     | [x,y],_=>exact⟨x,y,rfl⟩
    have tp1:Tp H2 (upd (upd H4 p (.tup ([x,y].map oV))) w (.lst (vs++[.ref p]))):=(t4.trans (d8' hp _)).trans (eP' hpw _)
    refine⟨⟨_,_,_,_,_,_,_,rfl⟩,((g4.upd (g4.free _ hp)).upd hw0).mono (by simp;omega),?_,vs++[.ref p],R++[(x,y)],ab',(hR.mono tp1).snoc ⟨p,rfl,?_⟩,by simp[hlen],fun r hr=>?_⟩
    .rw[ad' hlw,ad' (af' hl4 hp)]
     exact hl4
    .rw[ad' (fun z=>by subst z;rw[hw4]at hp;cases hp)]
     exact ab'
    .rcases aw.mp hr with hr|hr
     .exact hok r hr
     .have e:r=(x,y):=by simpa using hr
      subst e
      exact⟨fun k hk=>hdo k (by simp[<- hk]),fun k hk=>hdo k (by simp[<- hk])⟩
 .rintro σ H2 ⟨⟨x3,x4,x6,x7,x8,x9,x10,rfl⟩,g2,hl2,vs,R,hw2,hR,hlen,hok⟩
  rw[ah]at g2 hlen
  walk_at "sy"
  refine cv' (SqL.of hw2) fun p hp=>?_
  walk_at "sy"
  refine⟨by decide,fun p2 hp2=>?_⟩
  have hRl:=hR.len
  have e:R.length=ms.length:=by omega
  have sA:=ah' hp (.tup vs)
  have sB:=ah' hp2 (.tup [.ref p,.ref l])
  refine q p2 p l R ms _ (((g2.upd (g2.free _ hp)).upd ((g2.upd (o:=.tup vs) (g2.free _ hp)).free _ hp2)).mono (by omega)) ab' (sB _ _ (sA _ _ hl2)) e.symm hm3 ⟨vs,sB _ _ ab',hR.mono ((ai' sA).trans (ai' sB))⟩ (fun r hr=>by rw[e];exact hok r hr) (by omega) (by omega)
theorem ql' {i:Int} {n k:Nat} (h:k<n):(rgs i n)[k]?=some (.int (i+k)):=by
 unfold rgs
 rw[aC,List.getElem?_range h]
 rfl
theorem d9' {i:Int} {n:Nat}:(rgs i n).length=n:=by unfold rgs;simp
theorem kJ' {C:Rc} (hN:C.N.length=6) (hT:C.fs "_law_take"=some az'):∀vs H Q E,by' 1 60 400 vs H Q E->tSs C hH' { nx:=fun _ H'=>Q .non H',rt:=Q } (L2.aK' C.N vs) H:=by
 intro vs H Q E h
 obtain⟨b,n,N,rfl,hb,hn,hN0,hN1,q⟩:=h
 rw[ao' hN]
 unfold hH'
 walk_at "sy"
 refine ag' hT ?_
 walk_at "sy"
 refine aq' hb (Go.refl (c:=0)) (by omega) (by decide) (by decide) fun bit H1 hb0 hb1 g1 g01=>?_
 walk_at "sy"
 refine ag' hT ?_
 walk_at "sy"
 refine aq' hb g01 (by omega) (by omega) (by omega) fun r2 H2 h20 h21 g12 g2=>?_
 walk_at "sy"
 refine⟨by decide,fun p hp=>?_⟩
 refine ag' hT ?_
 walk_at "sy"
 refine aq' hb (g2.upd (o:=.lst [.non,.int r2]) (g2.free _ hp)) (by omega) (by omega) (by omega) fun r3 H3 h30 h31 g23 g3=>?_
 have hp3:H3 p=some (.lst [.non,.int r2]):=g23.lst ab'
 obtain⟨o,eo,hoo⟩:∃o:Option Nat,atI [V.non,V.int r2] r3=some (oV o)/\∀m,o=some m->m<N:=by
  have:r3=0\/r3=1:=by omega
  rcases this with rfl|rfl
  .exact⟨none,rfl,fun m hm=>by cases hm⟩
  .refine⟨some r2.toNat,?_,fun m hm=>by cases hm;omega⟩
   show some (V.int r2)=some (V.int _)
   congr 2
   omega
 walk_at "sy"
 refine bF' (SqL.of hp3) eo ?_
 walk_at "sy"
 refine kv' fun rg hrg=>?_
 walk_at "sy"
 refine mN' ab' (by omega) (by omega) (by omega) (by omega) (bJ (ax' (by omega))) fun u hu=>?_
 rw[show((N:Int)-1).toNat=N-1 by omega]
 have g4:=(g3.upd (o:=.rng 1 N) (g3.free _ hrg)).upd (o:=.lst (rgs 1 (N-1))) ((g3.upd (o:=.rng 1 N) (g3.free _ hrg)).free _ hu)
 have hu4:upd (upd H3 rg (.rng 1 N)) u (.lst (rgs 1 (N-1))) u=some (.lst (rgs 1 (N-1))):=ab'
 generalize upd (upd H3 rg (.rng 1 N)) u (.lst (rgs 1 (N-1)))=H4 at g4 hu4
 walk_at "sy"
 refine⟨by decide,fun u2 hu2=>?_⟩
 have g5:=g4.upd (o:=.lst [oV o]) (g4.free _ hu2)
 have hu5:=ah' hu2 (.lst [oV o]) _ _ hu4
 have hv5:upd H4 u2 (.lst [oV o]) u2=some (.lst [oV o]):=ab'
 generalize upd H4 u2 (.lst [oV o])=H5 at g5 hu5 hv5
 refine f0' hu5 hv5 (bJ (ax' (by rw[d9'];simp;omega))) fun e he=>?_
 have g6:=g5.upd (o:=.lst (rgs 1 (N-1)++[oV o])) (g5.free _ he)
 have he6:upd H5 e (.lst (rgs 1 (N-1)++[oV o])) e=some (.lst (rgs 1 (N-1)++[oV o])):=ab'
 generalize upd H5 e (.lst (rgs 1 (N-1)++[oV o]))=H6 at g6 he6
 have hall:∀(i:Nat) x,(rgs 1 (N-1)++[oV o])[i]?=some x->∃o',x=oV o'/\∀m,o'=some m->m<N:=by
  intro i x hx
  rcases cO i (N-1)with h|h
  .rw[List.getElem?_append_left (by rw[d9'];exact h),ql' h]at hx
   cases hx
   exact⟨some (1+i),by show _=V.int _;congr 1,fun m hm=>by cases hm;omega⟩
  .rw[List.getElem?_append_right (by rw[d9'];exact h),d9']at hx
   have e0:i-(N-1)=0:=by
    have:=ay' hx
    simp at this
    omega
   rw[e0]at hx
   cases hx
   exact⟨o,rfl,hoo⟩
 have hel:(rgs 1 (N-1)++[oV o]).length=N:=by rw[aD,d9'];simp;omega
 walk_at "sy"
 refine ca' (SqL.of he6) (n2' (vs:=rgs 1 (N-1)++[oV o]) (fun i xs H'=>aH' H6 H'/\∃M,a8' H' xs M/\xs.length=i/\∀r∈M,OkR N r) ⟨aH'.refl _,[],trivial,rfl,fun r hr=>by cases hr⟩ (fun i xs H' pv=>SqL.of (pv.1 _ _ he6)) ?_ ?_)
 .rintro i xs H7 x R hx ⟨s7,M,hM,hl,hO⟩ hR
  obtain⟨o',rfl,ho'⟩:=hall i x hx
  have hi:=ay' hx
  walk_at "sy"
  refine⟨by decide,fun p1 hp1=>?_⟩
  have s8:=ah' hp1 (.tup [oV o',.non])
  have h8:upd H7 p1 (.tup [oV o',.non]) p1=some (.tup [oV o',.non]):=ab'
  generalize upd H7 p1 (.tup [oV o',.non])=H8 at s8 h8
  refine⟨by decide,fun p2 hp2=>?_⟩
  have s9:=ah' hp2 (.tup [.non,oV o'])
  have h9:upd H8 p2 (.tup [.non,oV o']) p2=some (.tup [.non,oV o']):=ab'
  generalize upd H8 p2 (.tup [.non,oV o'])=H9 at s9 h9
  refine⟨by decide,fun p3 hp3=>?_⟩
  have s10:=ah' hp3 (.lst [.ref p1,.ref p2])
  have h10:upd H9 p3 (.lst [.ref p1,.ref p2]) p3=some (.lst [.ref p1,.ref p2]):=ab'
  generalize upd H9 p3 (.lst [.ref p1,.ref p2])=H10 at s10 h10
  have tp:=((ai' s8).trans (ai' s9)).trans (ai' s10)
  have hbit:bit=0\/bit=1:=by omega
  rcases hbit with rfl|rfl
  .refine bF' (SqL.of h10) (v:=.ref p1) rfl ?_
   walk_at "sy"
   exact⟨ax' (by omega),hR _ _ ⟨((s7.trans s8).trans s9).trans s10,M++[(o',none)],(hM.mono tp).snoc (r:=(o',none)) ⟨p1,rfl,s10 _ _ (s9 _ _ h8)⟩,by simp[hl],fun r hr=>by
    rcases aw.mp hr with hr|hr
    .exact hO r hr
    .have e:r=(o',none):=by simpa using hr
     subst e
     exact⟨ho',fun m hm=>by cases hm⟩⟩⟩
  .refine bF' (SqL.of h10) (v:=.ref p2) rfl ?_
   walk_at "sy"
   exact⟨ax' (by omega),hR _ _ ⟨((s7.trans s8).trans s9).trans s10,M++[(none,o')],(hM.mono tp).snoc (r:=(none,o')) ⟨p2,rfl,s10 _ _ h9⟩,by simp[hl],fun r hr=>by
    rcases aw.mp hr with hr|hr
    .exact hO r hr
    .have e:r=(none,o'):=by simpa using hr
     subst e
     exact⟨(fun m hm=>by cases hm),ho'⟩⟩⟩
 .rintro xs H7 ⟨s7,M,hM,hl,hO⟩ f hf
  walk_at "sy"
  have s8:=ah' hf (.lst xs)
  have h8:upd H7 f (.lst xs) f=some (.lst xs):=ab'
  generalize upd H7 f (.lst xs)=H8 at s8 h8
  refine cv' (SqL.of h8) fun t ht=>?_
  have s9:=ah' ht (.tup xs)
  have e:M.length=N:=by rw[<- hM.len,hl,hel]
  refine q t M _ ((g6.trans (Go.of_same (c:=0) ((s7.trans s8).trans s9))).mono (by omega)) ⟨xs,ab',hM.mono ((ai' s8).trans (ai' s9))⟩ (fun r hr=>by rw[e];exact hO r hr) e
def kK':Sp:=fun vs H Q _=>∃(b:Addr) (n:Nat),vs=[.ref b]/\H b=some (df' b n)/\n<=2 ^ 38/\∀(a:Addr) (M:List Rm) (H':Hp),Go 1000 H H'->IsM H' a M->OkM M->1<=M.length->M.length<=60->Q (.ref a) H'
theorem m7' {C:Rc} (hN:C.N.length=2) (hT:C.fs "_law_take"=some az') (hMy:C.fs "_law_many"=some f2') (hL:C.fs "_law_line"=some (by' 1 60 400)) (hCp:C.fs "_law_copied"=some bG') (hMa:C.fs "_law_machine"=some (by' 1 60 400)) (hRi:C.fs "_law_ring_machine"=some (by' 1 60 400)):
  ∀vs H Q E,kK' vs H Q E->tSs C m6' { nx:=fun _ H'=>Q .non H',rt:=Q } (L2.aK' C.N vs) H:=by
 intro vs H Q E h
 obtain⟨b,n,rfl,hb,hn,q⟩:=h
 rw[ao' hN]
 unfold m6'
 walk_at "sy"
 refine ag' hT ?_
 walk_at "sy"
 refine aq' hb (Go.refl (c:=0)) (by omega) (by decide) (by decide) fun way H1 hb0 hb1 g1 g01=>?_
 obtain⟨n1,hn1,hn1',_⟩:=g01.boxed hb (by omega)
 walk_at "sy"
 refine bl' (fun hc=>?_) fun hc=>?_
 .walk_at "sy"
  refine ag' hL ?_
  walk_at "sy"
  refine ag' hMy ?_
  walk_at "sy"
  refine⟨b,n1,2,6,60,rfl,hn1,by omega,by omega,by omega,by omega,by omega,by omega,fun r H2 hr g2=>?_⟩
  obtain⟨n2,hn2,hn2',_⟩:=g2.boxed hn1 (by omega)
  obtain⟨N,rfl⟩:=aF (show 0<=r by omega)
  walk_at "sy"
  exact⟨b,n2,N,rfl,hn2,by omega,by omega,by omega,fun a M H3 g3 h1 h2 h3=>q a M H3 ((g01.trans g2).trans g3 |>.mono (by omega)) h1 h2 (by omega) (by omega)⟩
 walk_at "sy"
 refine bl' (fun hc=>?_) fun hc=>?_
 .walk_at "sy"
  refine ag' hCp ?_
  walk_at "sy"
  refine ag' hMa ?_
  walk_at "sy"
  refine ag' hMy ?_
  walk_at "sy"
  refine⟨b,n1,1,4,12,rfl,hn1,by omega,by omega,by omega,by omega,by omega,by omega,fun r H2 hr g2=>?_⟩
  obtain⟨n2,hn2,hn2',_⟩:=g2.boxed hn1 (by omega)
  obtain⟨N,rfl⟩:=aF (show 0<=r by omega)
  walk_at "sy"
  refine⟨b,n2,N,rfl,hn2,by omega,by omega,by omega,fun a M H3 g3 h1 h2 h3=>?_⟩
  obtain⟨n3,hn3,hn3',_⟩:=g3.boxed hn2 (by omega)
  walk_at "sy"
  refine⟨b,a,n3,M,rfl,hn3,by omega,h1,h2,by omega,by omega,fun p a' l M' ms H4 g4 hp hl hlen hms hM' hO' hM1 hM2=>?_⟩
  walk_at "sy"
  refine a0' (SqT.of hp) (v:=.ref a') rfl ?_
  exact q a' M' H4 ((((g01.trans g2).trans g3).trans g4).mono (by omega)) hM' hO' hM1 hM2
 walk_at "sy"
 refine bl' (fun hc=>?_) fun hc=>?_
 .walk_at "sy"
  refine ag' hRi ?_
  walk_at "sy"
  refine ag' hMy ?_
  walk_at "sy"
  refine⟨b,n1,1,6,12,rfl,hn1,by omega,by omega,by omega,by omega,by omega,by omega,fun r H2 hr g2=>?_⟩
  obtain⟨n2,hn2,hn2',_⟩:=g2.boxed hn1 (by omega)
  obtain⟨N,rfl⟩:=aF (show 0<=r by omega)
  walk_at "sy"
  exact⟨b,n2,N,rfl,hn2,by omega,by omega,by omega,fun a M H3 g3 h1 h2 h3=>q a M H3 ((g01.trans g2).trans g3 |>.mono (by omega)) h1 h2 (by omega) (by omega)⟩
 .walk_at "sy"
  refine ag' hMa ?_
  walk_at "sy"
  refine ag' hMy ?_
  walk_at "sy"
  refine⟨b,n1,1,6,12,rfl,hn1,by omega,by omega,by omega,by omega,by omega,by omega,fun r H2 hr g2=>?_⟩
  obtain⟨n2,hn2,hn2',_⟩:=g2.boxed hn1 (by omega)
  obtain⟨N,rfl⟩:=aF (show 0<=r by omega)
  walk_at "sy"
  exact⟨b,n2,N,rfl,hn2,by omega,by omega,by omega,fun a M H3 g3 h1 h2 h3=>q a M H3 ((g01.trans g2).trans g3 |>.mono (by omega)) h1 h2 (by omega) (by omega)⟩
end LW
namespace SR
open PySem PySem.Spec PyProof.Rows L2 R3 LW
section
variable {K:W.Frag} {H:Hp} {Q:VK}
end
end SR
namespace K08
open PySem PySem.Spec PyProof.Rows L2 R3 LW
def bn':Css:=(.cons (.ret (.and (.blt .isinstance (.cons (.var 0) (.cons (.ty "int") .nil))) (.not (.blt .isinstance (.cons (.var 0) (.cons (.ty "bool") .nil))))))
  .nil)
def bo':Css:=(.cons (.ret (.and (.call "is_number" (.cons (.var 0) .nil)) (.chn .LtE .LtE (.var 1) (.var 0) (.var 2))))
  .nil)
def bU':Css:=(.cons (.ret (.and (.blt .isinstance (.cons (.var 0) (.cons (.ty "tuple") .nil))) (.cmp .Eq (.blt .len (.cons (.var 0) .nil)) (.int 2))))
  .nil)
def bV':Css:=(.cons (.ret (.or (.cmp .Is (.var 0) .non) (.call "is_within" (.cons (.var 0) (.cons (.int 0) (.cons (.bin .Sub (.var 1) (.int 1)) .nil))))))
  .nil)
def bW':Css:=(.cons (.ret (.and (.call "is_pair" (.cons (.var 0) .nil)) (.and (.call "is_lead" (.cons (.idx (.var 0) (.int 0)) (.cons (.var 1) .nil))) (.call "is_lead" (.cons (.idx (.var 0) (.int 1)) (.cons (.var 1) .nil))))))
  .nil)
def bf':Css:=(.cons (.ite (.not (.val (.blt .isinstance (.cons (.var 0) (.cons (.ty "tuple") .nil))))) (.cons (.ret (.bl false))
  .nil) .nil)
  (.cons (.ret (.blt .all (.cons (.comp (.call "is_room" (.cons (.var 1) (.cons (.blt .len (.cons (.var 0) .nil)) .nil))) [1] (.name 1) (.val (.var 0)) .none .nil) .nil)))
  .nil))
open SR
def qW':PyData->Bool
 | .int _=>true
 |_=>false
def f4':PyData->Int
 | .int i=>i
 |_=>0
def iI:PyData->Bool
 | .int _=>true
 | .bool _=>true
 |_=>false
def iB:PyData->Bool
 | .bool _=>true
 |_=>false
def iT:PyData->Bool
 | .tuple _=>true
 |_=>false
def iN:PyData->Bool
 | .none=>true
 |_=>false
theorem bp' {H:Hp} {n:Nat} {v:V} {d:PyData} (h:RdV H n v d):(v=.non/\d=.none)\/(∃b,v=.bl b/\d=.bool b)\/(∃i,v=.int i/\d=.int i)\/(∃x,v=.str x/\d=.str x)\/(∃a xs ds m,n=m+1/\v=.ref a/\H a=some (.lst xs)/\d=.list ds/\RdA (RdV H m) xs ds)\/∃a xs ds m,n=m+1/\v=.ref a/\H a=some (.tup xs)/\d=.tuple ds/\RdA (RdV H m) xs ds:=by
 cases n with
 |zero=>
  cases v with
  |non=>exact .inl ⟨rfl,h⟩
  |bl b=>exact .inr (.inl ⟨b,rfl,h⟩)
  |int i=>exact .inr (.inr (.inl ⟨i,rfl,h⟩))
  |str x=>exact .inr (.inr (.inr (.inl ⟨x,rfl,h⟩)))
  |_=>exact h.elim
 |succ n=>
  cases v with
  |non=>exact .inl ⟨rfl,h⟩
  |bl b=>exact .inr (.inl ⟨b,rfl,h⟩)
  |int i=>exact .inr (.inr (.inl ⟨i,rfl,h⟩))
  |str x=>exact .inr (.inr (.inr (.inl ⟨x,rfl,h⟩)))
  |ref a=>
   rcases(show(∃xs ds,H a=some (.lst xs)/\d=.list ds/\RdA (RdV H n) xs ds)\/∃xs ds,H a=some (.tup xs)/\d=.tuple ds/\RdA (RdV H n) xs ds from h)with⟨xs,ds,h1,h2,h3⟩|⟨xs,ds,h1,h2,h3⟩
   .exact .inr (.inr (.inr (.inr (.inl ⟨a,xs,ds,n,rfl,rfl,h1,h2,h3⟩))))
   .exact .inr (.inr (.inr (.inr (.inr ⟨a,xs,ds,n,rfl,rfl,h1,h2,h3⟩))))
  |_=>exact h.elim
section
variable {K:W.Frag} {H:Hp} {Q:VK} {n:Nat} {v:V} {d:PyData}
theorem yn' (h:RdV H n v d) (q:Q (.bl (iI d)) H):cY' K .isinstance [v,.ty "int"] H Q:=by
 rcases bp' h with⟨rfl,rfl⟩|⟨b,rfl,rfl⟩|⟨i,rfl,rfl⟩|⟨x,rfl,rfl⟩|⟨a,xs,ds,m,rfl,rfl,h1,rfl,h2⟩|⟨a,xs,ds,m,rfl,rfl,h1,rfl,h2⟩
 .exact fg' (T:="NoneType") rfl (k:=false) rfl (by decide) (by decide) q
 .exact fg' (T:="bool") rfl (k:=true) rfl (by decide) (by decide) q
 .exact fg' (T:="int") rfl (k:=true) rfl (by decide) (by decide) q
 .exact fg' (T:="str") rfl (k:=false) rfl (by decide) (by decide) q
 .exact fg' (T:="list") (by simp only[bk',h1]) (k:=false) rfl (by decide) (by decide) q
 .exact fg' (T:="tuple") (by simp only[bk',h1]) (k:=false) rfl (by decide) (by decide) q
theorem yo' (h:RdV H n v d) (q:Q (.bl (iB d)) H):cY' K .isinstance [v,.ty "bool"] H Q:=by
 rcases bp' h with⟨rfl,rfl⟩|⟨b,rfl,rfl⟩|⟨i,rfl,rfl⟩|⟨x,rfl,rfl⟩|⟨a,xs,ds,m,rfl,rfl,h1,rfl,h2⟩|⟨a,xs,ds,m,rfl,rfl,h1,rfl,h2⟩
 .exact fg' (T:="NoneType") rfl (k:=false) rfl (by decide) (by decide) q
 .exact fg' (T:="bool") rfl (k:=true) rfl (by decide) (by decide) q
 .exact fg' (T:="int") rfl (k:=false) rfl (by decide) (by decide) q
 .exact fg' (T:="str") rfl (k:=false) rfl (by decide) (by decide) q
 .exact fg' (T:="list") (by simp only[bk',h1]) (k:=false) rfl (by decide) (by decide) q
 .exact fg' (T:="tuple") (by simp only[bk',h1]) (k:=false) rfl (by decide) (by decide) q
theorem xg' (h:RdV H n v d) (q:Q (.bl (iT d)) H):cY' K .isinstance [v,.ty "tuple"] H Q:=by
 rcases bp' h with⟨rfl,rfl⟩|⟨b,rfl,rfl⟩|⟨i,rfl,rfl⟩|⟨x,rfl,rfl⟩|⟨a,xs,ds,m,rfl,rfl,h1,rfl,h2⟩|⟨a,xs,ds,m,rfl,rfl,h1,rfl,h2⟩
 .exact fg' (T:="NoneType") rfl (k:=false) rfl (by decide) (by decide) q
 .exact fg' (T:="bool") rfl (k:=false) rfl (by decide) (by decide) q
 .exact fg' (T:="int") rfl (k:=false) rfl (by decide) (by decide) q
 .exact fg' (T:="str") rfl (k:=false) rfl (by decide) (by decide) q
 .exact fg' (T:="list") (by simp only[bk',h1]) (k:=false) rfl (by decide) (by decide) q
 .exact fg' (T:="tuple") (by simp only[bk',h1]) (k:=true) rfl (by decide) (by decide) q
theorem eQ' (h:RdV H n v d) (e:iT d=true):∃a xs ds m,n=m+1/\v=.ref a/\H a=some (.tup xs)/\d=.tuple ds/\RdA (RdV H m) xs ds:=by
 rcases bp' h with⟨rfl,rfl⟩|⟨b,rfl,rfl⟩|⟨i,rfl,rfl⟩|⟨x,rfl,rfl⟩|⟨a,xs,ds,m,rfl,rfl,h1,rfl,h2⟩|⟨a,xs,ds,m,rfl,rfl,h1,rfl,h2⟩
 .cases e
 .cases e
 .cases e
 .cases e
 .cases e
 .exact⟨a,xs,ds,m,rfl,rfl,h1,rfl,h2⟩
theorem hJ' (h:RdV H n v d) (e:qW' d=true):v=.int (f4' d):=by
 rcases bp' h with⟨rfl,rfl⟩|⟨b,rfl,rfl⟩|⟨i,rfl,rfl⟩|⟨x,rfl,rfl⟩|⟨a,xs,ds,m,rfl,rfl,h1,rfl,h2⟩|⟨a,xs,ds,m,rfl,rfl,h1,rfl,h2⟩
 .cases e
 .cases e
 .rfl
 .cases e
 .cases e
 .cases e
theorem up' (h:RdV H n v d):decide (v=.non)=iN d:=by
 rcases bp' h with⟨rfl,rfl⟩|⟨b,rfl,rfl⟩|⟨i,rfl,rfl⟩|⟨x,rfl,rfl⟩|⟨a,xs,ds,m,rfl,rfl,h1,rfl,h2⟩|⟨a,xs,ds,m,rfl,rfl,h1,rfl,h2⟩<;>rfl
theorem gN':qW' d=(iI d&&!iB d):=by cases d<;>rfl
theorem c6' {c:Nat} {H':Hp} (g:Go c H H') (h:RdV H n v d):RdV H' n v d:=RdV.stay (fun a xs=>⟨g.lst,g.tup⟩) n v d h
end
def inD (d:PyData) (lo hi:Int):Bool:=qW' d&&decide (lo<=f4' d)&&decide (f4' d<=hi)
def fh':PyData->Bool
 | .tuple [_,_]=>true
 |_=>false
theorem f5' {ds:List PyData}:fh' (.tuple ds)=decide (ds.length=2):=by
 match ds with
 | []=>rfl
 | [_]=>rfl
 | [_,_]=>rfl
 |_ :: _ :: _ :: _=>rfl
def ldD (N:Int) (d:PyData):Bool:=iN d || inD d 0 (N-1)
def rmD (N:Int):PyData->Bool
 | .tuple [a,b]=>ldD N a&&ldD N b
 |_=>false
def mcD:PyData->Bool
 | .tuple ds=>ds.all (rmD ds.length)
 |_=>false
def ea':Sp:=fun vs H Q _=>∃v n d,vs=[v]/\RdV H n v d/\Q (.bl (qW' d)) H
theorem iv' {C:Rc} (hN:C.N.length=1):∀vs H Q E,ea' vs H Q E->tSs C bn' { nx:=fun _ H'=>Q .non H',rt:=Q } (L2.aK' C.N vs) H:=by
 intro vs H Q E h
 obtain⟨v,n,d,rfl,hv,q⟩:=h
 rw[ao' hN]
 unfold bn'
 walk_at "y"
 refine yn' hv ?_
 rw[gN']at q
 cases e:iI d with
 |false=>
  rw[e,bj]at q
  walk_at "y"
  exact q
 |true=>
  rw[e,cj]at q
  walk_at "y"
  refine yo' hv ?_
  walk_at "y"
  exact q
theorem qm' {C:Rc} {σ:L2.St} {H:Hp} {Q:VK} {c1 c2 c3:Ce} {a n m:Int} (h1:∀Q,Q (V.int a) H->tE C c1 σ H Q) (h2:∀Q,Q (V.int n) H->tE C c2 σ H Q) (h3:∀Q,Q (V.int m) H->tE C c3 σ H Q) (q:Q (.bl (decide (a<=n)&&decide (n<=m))) H):tE C (.chn .LtE .LtE c1 c2 c3) σ H Q:=by
 show da' (bE' C.K .LtE) (bE' C.K .LtE) (tE C c1) (tE C c2) (tE C c3) σ H Q
 unfold da'
 refine h1 _ (h2 _ ⟨a,n,rfl,rfl,decide (a<=n),rfl,?_⟩)
 by_cases ha:a<=n
 .rw[decide_eq_true ha]at q ⊢
  rw[if_pos rfl]
  exact h3 _ ⟨n,m,rfl,rfl,q⟩
 .rw[decide_eq_false ha]at q ⊢
  rw[if_neg al]
  exact q
def bH':Sp:=fun vs H Q _=>∃(v:V) (n:Nat) (d:PyData) (lo hi:Int),vs=[v,.int lo,.int hi]/\RdV H n v d/\Q (.bl (inD d lo hi)) H
theorem gO' {C:Rc} (hN:C.N.length=3) (hI:C.fs "is_number"=some ea'):∀vs H Q E,bH' vs H Q E->tSs C bo' { nx:=fun _ H'=>Q .non H',rt:=Q } (L2.aK' C.N vs) H:=by
 intro vs H Q E h
 obtain⟨v,n,d,lo,hi,rfl,hv,q⟩:=h
 rw[ao' hN]
 unfold bo'
 walk_at "y"
 refine ag' hI ?_
 walk_at "y"
 refine⟨_,n,d,rfl,hv,?_⟩
 unfold inD at q
 cases hn:qW' d with
 |true=>
  rw[hn,cj]at q
  obtain rfl:=hJ' hv hn
  walk_at "y"
  exact qm' (a:=lo) (n:=f4' d) (m:=hi) (fun Q q=>by walk_at "y";exact q) (fun Q q=>by walk_at "y";exact q) (fun Q q=>by walk_at "y";exact q) q
 |false=>
  rw[hn,bj,bj]at q
  walk_at "y"
  exact q
def dj':Sp:=fun vs H Q _=>∃v n d,vs=[v]/\RdV H n v d/\Q (.bl (fh' d)) H
theorem kL' {C:Rc} (hN:C.N.length=1):∀vs H Q E,dj' vs H Q E->tSs C bU' { nx:=fun _ H'=>Q .non H',rt:=Q } (L2.aK' C.N vs) H:=by
 intro vs H Q E h
 obtain⟨v,n,d,rfl,hv,q⟩:=h
 rw[ao' hN]
 unfold bU'
 walk_at "y"
 refine xg' hv ?_
 cases e:iT d with
 |false=>
  have e2:fh' d=false:=by cases d<;>first|rfl|cases e
  rw[e2]at q
  walk_at "y"
  exact q
 |true=>
  obtain⟨a,xs,ds,m,rfl,rfl,h1,rfl,h2⟩:=eQ' hv e
  walk_at "y"
  refine aR' (SqT.of h1) ?_
  walk_at "y"
  rw[f5',<- h2.len]at q
  rw[show decide ((xs.length:Int)=2)=decide (xs.length=2) from decide_eq_decide.mpr (by omega)]
  exact q
def f6':Sp:=fun vs H Q _=>∃(v:V) (n:Nat) (d:PyData) (N:Int),vs=[v,.int N]/\RdV H n v d/\Q (.bl (ldD N d)) H
theorem kM' {C:Rc} (hN:C.N.length=2) (hW:C.fs "is_within"=some bH'):∀vs H Q E,f6' vs H Q E->tSs C bV' { nx:=fun _ H'=>Q .non H',rt:=Q } (L2.aK' C.N vs) H:=by
 intro vs H Q E h
 obtain⟨v,n,d,N,rfl,hv,q⟩:=h
 rw[ao' hN]
 unfold bV'
 walk_at "y"
 rw[up' hv]
 unfold ldD at q
 cases e:iN d with
 |true=>
  rw[e,Bool.true_or]at q
  walk_at "y"
  exact q
 |false=>
  rw[e,Bool.false_or]at q
  walk_at "y"
  refine ag' hW ?_
  walk_at "y"
  exact⟨v,n,d,0,N-1,rfl,hv,q⟩
theorem kN' {d:PyData} (e:fh' d=true):∃a b,d=.tuple [a,b]:=by
 unfold fh' at e
 split at e
 .exact⟨_,_,rfl⟩
 .cases e
theorem uq' {N:Int} {d:PyData} (e:fh' d=false):rmD N d=false:=by
 unfold rmD
 split
 .cases e
 .rfl
theorem hK' {r:V->PyData->Prop} {xs:List V} {a b:PyData} (h:RdA r xs [a,b]):∃x y,xs=[x,y]/\r x a/\r y b:=by
 match xs,h with
 | [x,y],h=>exact⟨x,y,rfl,h.1,h.2.1⟩
def eb':Sp:=fun vs H Q _=>∃(v:V) (n:Nat) (d:PyData) (N:Int),vs=[v,.int N]/\RdV H n v d/\Q (.bl (rmD N d)) H
theorem iw' {C:Rc} (hN:C.N.length=2) (hP:C.fs "is_pair"=some dj') (hL:C.fs "is_lead"=some f6'):∀vs H Q E,eb' vs H Q E->tSs C bW' { nx:=fun _ H'=>Q .non H',rt:=Q } (L2.aK' C.N vs) H:=by
 intro vs H Q E h
 obtain⟨v,n,d,N,rfl,hv,q⟩:=h
 rw[ao' hN]
 unfold bW'
 walk_at "y"
 refine ag' hP ?_
 walk_at "y"
 refine⟨v,n,d,rfl,hv,?_⟩
 cases e:fh' d with
 |false=>
  rw[uq' e]at q
  walk_at "y"
  exact q
 |true=>
  obtain⟨d0,d1,rfl⟩:=kN' e
  obtain⟨a,xs,ds,m,rfl,rfl,h1,e2,h2⟩:=eQ' hv rfl
  cases e2
  obtain⟨x,y,rfl,hx,hy⟩:=hK' h2
  have q:Q (.bl (ldD N d0&&ldD N d1)) H:=q
  walk_at "y"
  refine ag' hL ?_
  walk_at "y"
  refine a0' (SqT.of h1) (v:=x) rfl ?_
  walk_at "y"
  refine⟨x,m,d0,N,rfl,hx,?_⟩
  cases e0:ldD N d0 with
  |false=>
   rw[e0,bj]at q
   walk_at "y"
   exact q
  |true=>
   rw[e0,cj]at q
   walk_at "y"
   refine ag' hL ?_
   walk_at "y"
   refine a0' (SqT.of h1) (v:=y) rfl ?_
   walk_at "y"
   exact⟨y,m,d1,N,rfl,hy,q⟩
theorem bK' {n:Nat} (h:n<=40000):n<sizeLine:=cJ h (by decide)
def kO':Sp:=fun vs H Q _=>∃v n d,vs=[v]/\RdV H n v d/\(∀ds,d=.tuple ds->ds.length<=40000)/\∀H',aH' H H'->Q (.bl (mcD d)) H'
theorem m8' {C:Rc} (hN:C.N.length=2) (hR:C.fs "is_room"=some eb'):∀vs H Q E,kO' vs H Q E->tSs C bf' { nx:=fun _ H'=>Q .non H',rt:=Q } (L2.aK' C.N vs) H:=by
 intro vs H Q E h
 obtain⟨v,n,d,rfl,hv,hz,q⟩:=h
 rw[ao' hN]
 unfold bf'
 walk_at "y"
 refine xg' hv ?_
 cases e:iT d with
 |false=>
  have e2:mcD d=false:=by cases d<;>first|rfl|cases e
  rw[e2]at q
  walk_at "y"
  exact q H (aH'.refl _)
 |true=>
  obtain⟨a,xs,ds,m,rfl,rfl,h1,rfl,h2⟩:=eQ' hv e
  have hz:=hz ds rfl
  have hl:=h2.len
  walk_at "y"
  refine cb' (SqT.of h1) (n3' (vs:=xs) (fun i ys H'=>ys=((ds.take i).map (rmD ds.length)).map V.bl/\H'=H) ⟨rfl,rfl⟩ (fun i ys H' pv=>by rw[pv.2];exact SqT.of h1) ?_ ?_)
  .rintro i ys H2 x R hx ⟨rfl,rfl⟩ hR'
   obtain⟨dx,ed,hd⟩:=h2.get hx
   have hi:=ay' hx
   walk_at "y"
   refine ag' hR ?_
   walk_at "y"
   refine aR' (SqT.of h1) ?_
   walk_at "y"
   refine⟨x,m,dx,ds.length,by rw[hl],hd,?_⟩
   walk_at "y"
   refine⟨bK' (by simp;omega),hR' _ _ ⟨?_,rfl⟩⟩
   rw[List.take_succ,ed,aL,aL]
   rfl
  .rintro ys H2 ⟨rfl,rfl⟩ g hg
   have s2:=ah' hg (.lst (((ds.take xs.length).map (rmD ds.length)).map V.bl))
   have hg2:upd H2 g (.lst (((ds.take xs.length).map (rmD ds.length)).map V.bl)) g=some (.lst (((ds.take xs.length).map (rmD ds.length)).map V.bl)):=ab'
   generalize upd H2 g (.lst (((ds.take xs.length).map (rmD ds.length)).map V.bl))=H3 at s2 hg2 ⊢
   walk_at "y"
   refine hC' (SqL.of hg2) ?_
   have e3:(((ds.take xs.length).map (rmD ds.length)).all id)=mcD (.tuple ds):=by
    rw[hl,bN,List.all_map]
    rfl
   rw[e3]
   exact q H3 s2
def oD:Option Nat->PyData
 |none=>.none
 |some n=>.int n
def dR (r:Rm):PyData:=.tuple [oD r.1,oD r.2]
def dM (M:List Rm):PyData:=.tuple (M.map dR)
theorem yp' {H:Hp} {n:Nat} {o:Option Nat}:RdV H n (oV o) (oD o):=by
 cases n<;>cases o<;>rfl
theorem hL' {H:Hp} {n:Nat}:∀{vs:List V} {M:List Rm},a8' H vs M->RdA (RdV H (n+1)) vs (M.map dR)
 | [],[],_=>trivial
 |v :: vs,r :: rs,h=>by
  obtain⟨⟨p,rfl,hp⟩,h2⟩:=h
  exact⟨.inr ⟨_,_,hp,rfl,yp',yp',trivial⟩,hL' h2⟩
 | [],_ :: _,h=>h.elim
 |_ :: _,[],h=>h.elim
theorem yq' {H:Hp} {n:Nat} {a:Addr} {M:List Rm} (h:IsM H a M):RdV H (n+2) (.ref a) (dM M):=by
 obtain⟨vs,h1,h2⟩:=h
 exact .inr ⟨vs,_,h1,rfl,hL' h2⟩
theorem yr' {N:Nat} {o:Option Nat} (h:∀n,o=some n->n<N):ldD N (oD o)=true:=by
 cases o with
 |none=>rfl
 |some n=>
  have:=h n rfl
  show(false || (true&&decide ((0:Int)<=n)&&decide ((n:Int)<=N-1)))=true
  simp
  omega
theorem ur' {M:List Rm} (h:OkM M):mcD (dM M)=true:=by
 show(M.map dR).all (rmD (M.map dR).length)=true
 rw[ah,List.all_map,bh]
 intro r hr
 show(ldD M.length (oD r.1)&&ldD M.length (oD r.2))=true
 rw[yr' (h r hr).1,yr' (h r hr).2]
 rfl
def Th (H:Hp) (p k:Nat) (v:V):Prop:=∃d,RdV H p v d/\OkD p k d
theorem Th.go {c p k:Nat} {H H':Hp} {v:V} (g:Go c H H') (h:Th H p k v):Th H' p k v:=by
 obtain⟨d,h1,h2⟩:=h
 exact⟨d,c6' g h1,h2⟩
theorem ut' {H:Hp} {v:V} {d:PyData} {n m:Nat} (h:RdV H n v d) (hm:n<=m):RdV H m v d:=by
 induction hm with
 |refl=>exact h
 |step _ ih=>exact RdV.up _ _ _ ih
theorem Th.mono {p k p' k':Nat} {H:Hp} {v:V} (h:Th H p k v) (hp:p<=p') (hk:k<=k'):Th H p' k' v:=by
 obtain⟨d,h1,h2⟩:=h
 exact⟨d,ut' h1 hp,h2.mono hp hk⟩
theorem f7' {H:Hp} {p k:Nat}:∀{xs:List V},(∀x∈xs,Th H p k x)->∃ds,RdA (RdV H p) xs ds/\(∀d∈ds,OkD p k d)/\ds.length=xs.length
 | [],_=>⟨[],trivial,(fun _ h=>nomatch h),rfl⟩
 |x :: xs,h=>by
  obtain⟨d,h1,h2⟩:=h x au
  obtain⟨ds,h3,h4,h5⟩:=f7' fun y hy=>h y (ao _ hy)
  exact⟨d :: ds,⟨h1,h3⟩,fun e he=>(am.mp he).elim (fun z=>z ▸ h2) (h4 e),by simp[h5]⟩
theorem cc' {H:Hp} {a:Addr} {xs:List V} {p k m:Nat} (h:H a=some (.tup xs)) (hx:∀x∈xs,Th H p k x) (hm:xs.length<=m):Th H (p+1) (3+m*(k+2)) (.ref a):=by
 obtain⟨ds,h1,h2,h3⟩:=f7' hx
 exact⟨.tuple ds,.inr ⟨xs,ds,h,rfl,h1⟩,OkD.tuple h2 (by omega)⟩
theorem kP' {H:Hp} {a:Addr} {xs:List V} {p k m:Nat} (h:H a=some (.lst xs)) (hx:∀x∈xs,Th H p k x) (hm:xs.length<=m):Th H (p+1) (3+m*(k+2)) (.ref a):=by
 obtain⟨ds,h1,h2,h3⟩:=f7' hx
 exact⟨.list ds,.inl ⟨xs,ds,h,rfl,h1⟩,OkD.list h2 (by omega)⟩
theorem ec' {H:Hp} {p:Nat}:(RdV H p .non .none)/\(∀b,RdV H p (.bl b) (.bool b))/\(∀i,RdV H p (.int i) (.int i))/\∀x,RdV H p (.str x) (.str x):=by
 cases p<;>exact⟨rfl,fun _=>rfl,fun _=>rfl,fun _=>rfl⟩
theorem uu' {H:Hp} {p:Nat}:Th H p 20 .non:=⟨_,ec'.1,OkD.none⟩
theorem uv' {H:Hp} {p:Nat} {b:Bool}:Th H p 20 (.bl b):=⟨_,ec'.2.1 b,OkD.bool⟩
theorem cp' {H:Hp} {p n:Nat} (h:n<512):Th H p 20 (.int n):=⟨_,ec'.2.2.1 _,OkD.nat h⟩
theorem ob' {H:Hp} {p:Nat} {i:Int} (h0:0<=i) (h:i<512):Th H p 20 (.int i):=by
 obtain⟨n,rfl⟩:=aF h0
 exact cp' (by omega)
theorem uw' {H:Hp} {p:Nat}:Th H p 20 (.int (-1)):=⟨_,ec'.2.2.1 _,OkD.neg1⟩
theorem oc' {H:Hp} {p k:Nat} {x:Str} (h:(reprText x).length<=k):Th H p k (.str x):=⟨_,ec'.2.2.2 _,⟨by simp only[PyData.showable],by simp only[PyData.hasDict],by simp only[PyData.depth];omega,by simp only[PyData.shown];exact h⟩⟩
theorem qn' {xs:List V} {lo hi:Option Int} {x:V} (h:x∈gj' xs lo hi):x∈xs:=by
 unfold gj' at h
 exact bR (cn h)
theorem ix' {K:W.Frag} {H:Hp} {Q:VK} {x:Str} (q:Q (.bl false) H):bE' K .NotEq (.str x) (.str x) H Q:=by
 have e:bE' K .NotEq (.str x) (.str x) H Q=rNe (.str x) (.str x) H Q:=rfl
 rw[e]
 exact⟨rfl,by rw[decide_eq_true rfl];exact q⟩
theorem ux' {k:Nat}:∀{ds:List PyData},(PyData.tuple ds).shown.length<=k->ds.length<=k+1:=by
 intro ds h
 simp only[PyData.shown]at h
 have:=piled_le_tupleText (PyData.shownAll ds)
 rw[aG']at this h
 have h2:∀l:List PyData,2*l.length<=piled (l.map PyData.shown):=by
  intro l
  induction l with
  |nil=>exact aT _
  |cons d l ih=>rw[aQ,piled_cons,bo];omega
 have:=h2 ds
 omega
end K08
namespace LW
open PySem PySem.Spec PyProof.Rows L2 R3
def stp (M:List Rm) (r:Nat) (c:Bool):Option Nat:=match M[r]? with
 |some rm=>if c then rm.2 else rm.1
 |none=>none
end LW
namespace LW
open PySem PySem.Spec PyProof.Rows L2 R3
def ow (f:Nat->Nat):Option Nat->Nat
 |none=>0
 |some m=>f m
end LW
namespace LW
open PySem PySem.Spec PyProof.Rows L2 R3
end LW
namespace K13
open PySem PySem.Spec PyProof.Rows L2 R3 LW
def m9':Css:=(.cons (.asg (.name 1) (.call "_law_any" (.cons (.var 0) .nil)))
  (.cons (.asg (.name 2) (.call "_law_take" (.cons (.var 0) (.cons (.int 5) .nil))))
  (.cons (.asg (.name 3) (.var 1))
  (.cons (.ite (.and (.cmp .Eq (.var 2) (.int 1)) (.cmp .Lt (.blt .len (.cons (.var 1) .nil)) (.int 13))) (.cons (.asg (.name 3) (.idx (.call "_law_copied" (.cons (.var 0) (.cons (.var 1) .nil))) (.int 0)))
  .nil) .nil)
  (.cons (.ite (.cmp .Eq (.var 2) (.int 2)) (.cons (.asg (.name 4) (.call "_law_take" (.cons (.var 0) (.cons (.blt .len (.cons (.var 1) .nil)) .nil))))
  (.cons (.asg (.name 5) (.idx (.lst (.cons (.tup (.cons .non (.cons (.idx (.idx (.var 1) (.var 4)) (.int 1)) .nil))) (.cons (.tup (.cons (.idx (.idx (.var 1) (.var 4)) (.int 0)) (.cons .non .nil))) .nil))) (.call "_law_take" (.cons (.var 0) (.cons (.int 2) .nil)))))
  (.cons (.asg (.name 3) (.bin .Add (.bin .Add (.cut (.var 1) .none (.some (.var 4))) (.tup (.cons (.var 5) .nil))) (.cut (.var 1) (.some (.bin .Add (.var 4) (.int 1))) .none)))
  .nil))) .nil)
  (.cons (.ite (.cmp .Gt (.var 2) (.int 2)) (.cons (.asg (.name 3) (.call "_law_any" (.cons (.var 0) .nil)))
  .nil) .nil)
  (.cons (.ret (.tup (.cons (.var 1) (.cons (.var 3) .nil))))
  .nil)))))))
def dr (M:List Rm) (x:Nat):Rm:=M.getD x (none,none)
theorem od':∀(n:Nat) (l:List Nat),l.Nodup->(∀x∈l,x<n)->l.length<=n
 |0,l,_,h=>by
  cases l with
  |nil=>exact ag _
  |cons a r=>exact absurd (h a au) (by omega)
 |n+1,l,hn,h=>by
  have h1:=od' n (l.erase n) (hn.erase n) fun x hx=>by
   have h2:=h x (List.mem_of_mem_erase hx)
   have h3:x≠n:=fun e=>by subst e;exact hn.not_mem_erase hx
   omega
  have h2:=List.length_erase_le (a:=n) (l:=l)
  have h3:l.length<=(l.erase n).length+1:=by
   rw[List.length_erase];split<;>omega
  omega
theorem fi' {S:List (Nat×Nat)} (hn:S.Nodup) (h:∀p∈S,p.1<60/\p.2<60):S.length<=3600:=by
 have h1:(S.map fun p=>p.1*60+p.2).Nodup:=by
  rw[List.Nodup,List.pairwise_map]
  refine List.Pairwise.imp_of_mem (fun {x y} hx hy hne e=>hne ?_) hn
  have h1:=h x hx
  have h2:=h y hy
  have e:x.1*60+x.2=y.1*60+y.2:=e
  exact Prod.ext (by omega) (by omega)
 have:=od' 3600 _ h1 fun z hz=>by
  obtain⟨p,hp,rfl⟩:=aZ.mp hz
  have:=h p hp
  omega
 rwa [ah]at this
theorem bX' {K:W.Frag} {H:Hp} {Q:VK} {a:Addr} {M:List Rm} {x:Nat} (hM:IsM H a M) (hx:x<M.length) (q:∀p,H p=some (.tup [oV (dr M x).1,oV (dr M x).2])->Q (.ref p) H):iD' K (.ref a) (.int x) H Q\/i1' K (.ref a) (.int x) H Q:=by
 obtain⟨vs,ha,hv⟩:=hM
 obtain⟨p,hp,hpt⟩:=hv.get (ae hx)
 refine a0' (SqT.of ha) (v:=.ref p) (a1' hp) (q p ?_)
 have e:dr M x=M[x]:=by unfold dr;rw[bE,ae hx];rfl
 rw[e]
 exact hpt
theorem kQ' {H:Hp} {D:Addr} {o:HO} (hD:∀xs,H D≠some (.tup xs)):Tp H (upd H D o):=fun b xs h=>by
 rw[ad' (fun z=>by rw[z]at h;exact hD xs h)]
 exact h
open Classical in
open Classical in
theorem ed' {H:Hp}:∀{vs:List V} {M:List Rm} {us:List V} {N:List Rm},a8' H vs M->a8' H us N->a8' H (vs++us) (M++N)
 | [],[],_,_,_,g=>g
 |v :: vs,r :: rs,us,N,h,g=>⟨h.1,ed' h.2 g⟩
 | [],_ :: _,_,_,h,_=>h.elim
 |_ :: _,[],_,_,h,_=>h.elim
theorem xh' {B:List Rm} (hO:OkM B) {i:Nat} (h:i<B.length):OkR B.length (dr B i):=by
 have:dr B i=B[i]:=by unfold dr;rw[bE,ae h];rfl
 rw[this]
 exact hO _ (cg h)
theorem kR' {K:W.Frag} {H:Hp} {Q:VK} {a b:Addr} {xs ys:List V} (h:H a=some (.tup xs)) (h2:H b=some (.tup ys)) (hz:xs.length+ys.length<=sizeLine) (q:∀p H',aH' H H'->H' p=some (.tup (xs++ys))->Q (.ref p) H'):eJ' K .Add (.ref a) (.ref b) H Q:=
 pW' (SqT.of h) (SqT.of h2) hz (fun e=>q b H (aH'.refl _) (by rw[e];exact h2)) (fun _ e=>q a H (aH'.refl _) (by rw[e,List.append_nil];exact h)) fun _ _ p hp=>q p _ (ah' hp _) ab'
theorem eR' {H:Hp}:∀{vs:List V} {M:List Rm} (k:Nat),a8' H vs M->a8' H (vs.take k) (M.take k)
 |_,_,0,_=>trivial
 | [],[],k+1,_=>trivial
 |v :: vs,r :: rs,k+1,h=>⟨h.1,eR' k h.2⟩
 | [],_ :: _,k+1,h=>h.elim
 |_ :: _,[],k+1,h=>h.elim
theorem eS' {H:Hp}:∀{vs:List V} {M:List Rm} (k:Nat),a8' H vs M->a8' H (vs.drop k) (M.drop k)
 |_,_,0,h=>h
 | [],[],k+1,_=>trivial
 |v :: vs,r :: rs,k+1,h=>eS' k h.2
 | [],_ :: _,k+1,h=>h.elim
 |_ :: _,[],k+1,h=>h.elim
def iy':Sp:=fun vs H Q _=>∃(b:Addr) (n:Nat),vs=[.ref b]/\H b=some (df' b n)/\n<=2 ^ 37/\∀(t o p:Addr) (M N:List Rm) (H':Hp),Go 4000 H H'->H' t=some (.tup [.ref o,.ref p])->IsM H' o M->OkM M->1<=M.length->M.length<=60->IsM H' p N->OkM N->1<=N.length->N.length<=60->Q (.ref t) H'
theorem na' {C:Rc} (hN:C.N.length=6) (hA:C.fs "_law_any"=some kK') (hT:C.fs "_law_take"=some az') (hCp:C.fs "_law_copied"=some bG'):∀vs H Q E,iy' vs H Q E->tSs C m9' { nx:=fun _ H'=>Q .non H',rt:=Q } (L2.aK' C.N vs) H:=by
 intro vs H Q E h
 obtain⟨b,n,rfl,hb,hn,q⟩:=h
 rw[ao' hN]
 unfold m9'
 have fin:∀(o p:Addr) (M N:List Rm) (H1:Hp),Go 3900 H H1->IsM H1 o M->OkM M->1<=M.length->M.length<=60->IsM H1 p N->OkM N->1<=N.length->N.length<=60->∀t,H1 t=none->Q (.ref t) (upd H1 t (.tup [.ref o,.ref p])):=fun o p M N H1 g hM hO h1 h2 hM' hO' h1' h2' t ht=>by
  obtain⟨g',h'⟩:=gnw ht (.tup [.ref o,.ref p])
  exact q t o p M N _ ((g.trans g').mono (by omega)) h' (hM.mono g'.tp) hO h1 h2 (hM'.mono g'.tp) hO' h1' h2'
 walk_at "y"
 refine ag' hA ?_
 walk_at "y"
 refine⟨b,n,rfl,hb,by omega,fun o M H1 g1 hM1 hO hMl hMu=>?_⟩
 obtain⟨n1,hn1,hn1',_⟩:=g1.boxed hb (by omega)
 walk_at "y"
 refine ag' hT ?_
 walk_at "y"
 refine aq' hn1 (Go.refl (c:=0)) (by omega) (by decide) (by decide) fun w H2 hw0 hw5 g2 g02=>?_
 obtain⟨n2,hn2,hn2',_⟩:=g02.boxed hn1 (by omega)
 have g12:=g1.trans g02
 have hM2:=hM1.mono g2.tp
 obtain⟨mv,hmv,hmr⟩:=id hM2
 have hml:=hmr.len
 walk_at "y"
 refine bl' (fun hc=>?_) fun hc=>?_
 .walk_at "y"
  refine aR' (SqT.of hmv) ?_
  walk_at "y"
  refine bl' (fun hc2=>?_) fun hc2=>?_
  .walk_at "y"
   refine ag' hCp ?_
   walk_at "y"
   refine⟨b,o,n2,M,rfl,hn2,by omega,hM2,hO,hMl,by omega,fun p a' l M' ms H4 g4 hp hl hlen hms hM' hO' hM1' hM2'=>?_⟩
   walk_at "y"
   refine a0' (SqT.of hp) (v:=.ref a') rfl ?_
   walk_at "y"
   refine bl' (fun hc3=>absurd hc3 (by omega)) fun _=>?_
   walk_at "y"
   refine bl' (fun hc3=>absurd hc3 (by omega)) fun _=>?_
   walk_at "y"
   exact⟨by decide,fin _ _ M M' _ ((g12.trans g4).mono (by omega)) (hM2.mono g4.tp) hO hMl hMu hM' hO' hM1' hM2'⟩
  .walk_at "y"
   refine bl' (fun hc3=>absurd hc3 (by omega)) fun _=>?_
   walk_at "y"
   refine bl' (fun hc3=>absurd hc3 (by omega)) fun _=>?_
   walk_at "y"
   exact⟨by decide,fin _ _ M M _ (g12.mono (by omega)) hM2 hO hMl hMu hM2 hO hMl hMu⟩
 .walk_at "y"
  refine bl' (fun hc2=>?_) fun hc2=>?_
  .walk_at "y"
   refine ag' hT ?_
   walk_at "y"
   refine aR' (SqT.of hmv) ?_
   rw[hml]
   walk_at "y"
   refine aq' hn2 (Go.refl (c:=0)) (by omega) (by omega) (by omega) fun r H3 hr0 hrl g3 g03=>?_
   obtain⟨r,rfl⟩:=aF hr0
   obtain⟨n3,hn3,hn3',_⟩:=g03.boxed hn2 (by omega)
   have hr:r<M.length:=by omega
   have hM3:=hM2.mono g3.tp
   obtain⟨ok1,ok2⟩:=xh' hO hr
   walk_at "y"
   refine bX' hM3 hr fun pr hpr=>?_
   walk_at "y"
   refine a0' (SqT.of hpr) (v:=oV (dr M r).2) rfl ?_
   walk_at "y"
   refine⟨by decide,fun t1 ht1=>?_⟩
   obtain⟨s4,h4⟩:=snw ht1 (.tup [.non,oV (dr M r).2])
   generalize upd H3 t1 _=H4 at s4 h4 ⊢
   refine bX' (hM3.mono (ai' s4)) hr fun pr' hpr'=>?_
   walk_at "y"
   refine a0' (SqT.of hpr') (v:=oV (dr M r).1) rfl ?_
   walk_at "y"
   refine⟨by decide,fun t2 ht2=>?_⟩
   obtain⟨s5,h5⟩:=snw ht2 (.tup [oV (dr M r).1,.non])
   generalize upd H4 t2 _=H5 at s5 h5 ⊢
   walk_at "y"
   refine⟨by decide,fun l hl=>?_⟩
   obtain⟨s6,h6⟩:=snw hl (.lst [.ref t1,.ref t2])
   generalize upd H5 l _=H6 at s6 h6 ⊢
   have s36:=s4.trans (s5.trans s6)
   refine ag' hT ?_
   walk_at "y"
   refine aq' (s36 _ _ hn3) (Go.refl (c:=0)) (by omega) (by decide) (by decide) fun z H7 hz0 hz2 g7 g07=>?_
   have t47:=g7.tp
   have t37:=(ai' s36).trans g7.tp
   obtain⟨e,he,u,hu,hok⟩:∃e:Addr,atI [V.ref t1,V.ref t2] z=some (.ref e)/\∃u:Rm,H7 e=some (.tup [oV u.1,oV u.2])/\OkR M.length u:=by
    rcases(by omega:z=0\/z=1)with rfl|rfl
    .exact⟨t1,rfl,(none,(dr M r).2),t47 _ _ ((s5.trans s6) _ _ h4),⟨(fun _ e=>by cases e),ok2⟩⟩
    .exact⟨t2,rfl,((dr M r).1,none),t47 _ _ (s6 _ _ h5),⟨ok1,(fun _ e=>by cases e)⟩⟩
   walk_at "y"
   refine bF' (SqL.of (g7.lst h6)) he ?_
   walk_at "y"
   have hmv7:=t37 _ _ (g3.tp _ _ hmv)
   have hM7:=hM3.mono t37
   refine kx' (SqT.of hmv7) (fun z=>by rw[HT.eU']at z;have:=z.2;omega) fun c1 hc1=>?_
   rw[n6']
   obtain⟨s8,h8⟩:=snw hc1 (.tup (mv.take r))
   generalize upd H7 c1 _=H8 at s8 h8 ⊢
   walk_at "y"
   refine⟨by decide,fun c2 hc2'=>?_⟩
   obtain⟨s9,h9⟩:=snw hc2' (.tup [.ref e])
   generalize upd H8 c2 _=H9 at s9 h9 ⊢
   refine kR' (s9 _ _ h8) h9 (by rw[aP];exact bJ (ax' (by simp;omega))) fun c3 H10 s10 h10=>?_
   walk_at "y"
   rw[show((r:Int)+1)=((r+1:Nat):Int) by omega]
   have s70:=s8.trans (s9.trans s10)
   refine kx' (SqT.of (s70 _ _ hmv7)) (fun z=>by rw[HT.eU']at z;have:=z.1;omega) fun c4 hc4=>?_
   rw[mP']
   obtain⟨s11,h11⟩:=snw hc4 (.tup (mv.drop (r+1)))
   generalize upd H10 c4 _=H11 at s11 h11 ⊢
   refine kR' (s11 _ _ h10) h11 (by rw[aD,aP,cf];exact bJ (ax' (by simp;omega))) fun c5 H12 s12 h12=>?_
   have s712:=s70.trans (s11.trans s12)
   walk_at "y"
   refine bl' (fun hc3=>absurd hc3 (by omega)) fun _=>?_
   walk_at "y"
   have hlen:(M.take r++[u]++M.drop (r+1)).length=M.length:=by
    rw[aD,aD,aP,cf]
    show min r M.length+1+_=_
    omega
   have hmr12:=hmr.mono (g3.tp.trans (t37.trans (ai' s712)))
   refine⟨by decide,fin _ _ M (M.take r++[u]++M.drop (r+1)) _ ?_ (hM7.mono (ai' s712)) hO hMl hMu ⟨_,h12,ed' (ed' (eR' r hmr12) ⟨⟨e,rfl,s712 _ _ hu⟩,trivial⟩) (eS' (r+1) hmr12)⟩ ?_ (by rw[hlen];exact hMl) (by rw[hlen];exact hMu)⟩
   .exact((g12.trans (g3.trans ((Go.of_same (c:=0) s36).trans (g7.trans (Go.of_same (c:=0) s712))))).mono (by omega))
   .intro x hx
    rw[hlen]
    rcases aw.mp hx with hx|hx
    .rcases aw.mp hx with hx|hx
     .exact hO x (cn hx)
     .cases aU.mp hx
      exact hok
    .exact hO x (bR hx)
  .walk_at "y"
   refine bl' (fun hc3=>?_) fun hc3=>?_
   .walk_at "y"
    refine ag' hA ?_
    walk_at "y"
    refine⟨b,n2,rfl,hn2,by omega,fun p M' H3 g3 hM3 hO' hM1' hM2'=>?_⟩
    walk_at "y"
    exact⟨by decide,fin _ _ M M' _ ((g12.trans g3).mono (by omega)) (hM2.mono g3.tp) hO hMl hMu hM3 hO' hM1' hM2'⟩
   .walk_at "y"
    exact⟨by decide,fin _ _ M M _ (g12.mono (by omega)) hM2 hO hMl hMu hM2 hO hMl hMu⟩
end K13
namespace CK
open PySem PySem.Spec PyProof.Rows L2 R3 LW SR
def Lt (H:Hp) (a:Addr) (vs:List V):Prop:=H a=some (.lst vs)\/H a=some (.tup vs)
theorem Lt.mono {H H':Hp} (s:aH' H H') {a:Addr} {vs:List V} (h:Lt H a vs):Lt H' a vs:=by
 rcases h with h|h
 .exact .inl (s _ _ h)
 .exact .inr (s _ _ h)
theorem kS' {C:Rc} {elt:Ce} {own:List Nat} {t:Ct} {q:Cqo} {σ:L2.St} {H:Hp} {Q:VK} {a:Addr} {vs:List V} (hk:Lt H a vs) (Pv:Nat->List V->Hp->Prop) (h0:Pv 0 [] H) (hl:∀i xs H',Pv i xs H'->aH' H H')
  (hs:∀i xs H x (R:List V->Hp->Prop),vs[i]?=some x->Pv i xs H->(∀ys H2,Pv (i+1) ys H2->R ys H2)->tG C t x (clr own σ) H (kCG C elt q xs R)) (hd:∀xs H,Pv vs.length xs H->mM' Q xs H):kIv C (gJ' C elt own t q σ Q) (.ref a) H:=by
 rcases hk with hk|hk
 .exact ca' (SqL.of hk) (n2' Pv h0 (fun i xs H' p=>SqL.of (hl i xs H' p _ _ hk)) hs hd)
 .exact cb' (SqT.of hk) (n3' Pv h0 (fun i xs H' p=>SqT.of (hl i xs H' p _ _ hk)) hs hd)
end CK
namespace K14
open PySem PySem.Spec PyProof.Rows L2 R3 LW
def bY':List Str:=["thing"]
def bq':List Str:=["bool","int","isinstance"]
def bZ':List Str:=["thing","low","high"]
def br':List Str:=[]
def cx':List Str:=["thing"]
def b0':List Str:=["isinstance","len","tuple"]
def b1':List Str:=["thing"]
def bs':List Str:=["isinstance","list","tuple"]
def bt':Css:=(.cons (.ret (.blt .isinstance (.cons (.var 0) (.cons (.tup (.cons (.ty "list") (.cons (.ty "tuple") .nil))) .nil))))
  .nil)
def cy':List Str:=["thing","many"]
def b2':List Str:=[]
def cz':List Str:=["thing","many"]
def b3':List Str:=[]
def bL':List Str:=["thing","room"]
def bg':List Str:=["all","isinstance","len","tuple"]
def aS':List Str:=["thing","one","other"]
def aC':List Str:=["len"]
def aD':Css:=(.cons (.ret (.and (.call "is_pair" (.cons (.var 0) .nil)) (.and (.call "is_within" (.cons (.idx (.var 0) (.int 0)) (.cons (.int 0) (.cons (.bin .Sub (.blt .len (.cons (.var 1) .nil)) (.int 1)) .nil)))) (.call "is_within" (.cons (.idx (.var 0) (.int 1)) (.cons (.int 0) (.cons (.bin .Sub (.blt .len (.cons (.var 2) .nil)) (.int 1)) .nil)))))))
  .nil)
def a5':List Str:=["one","other","pair","found","bit","ahead"]
def aM':List Str:=[]
def aN':Css:=(.cons (.for_ (.name 4) (.val (.tup (.cons (.int 0) (.cons (.int 1) .nil)))) (.cons (.asg (.name 5) (.tup (.cons (.idx (.idx (.var 0) (.idx (.var 2) (.int 0))) (.var 4)) (.cons (.idx (.idx (.var 1) (.idx (.var 2) (.int 1))) (.var 4)) .nil))))
  (.cons (.ite (.and (.cmw .neT (.var 5) (.tup (.cons .non (.cons .non .nil)))) (.din true (.var 5) (.var 3))) (.cons (.ret (.bl false))
  .nil) .nil)
  .nil)))
  (.cons (.ret (.bl true))
  .nil))
def bz':List Str:=["one","a","other","b","pairs","pair","found"]
def a6':List Str:=["all"]
def a7':Css:=(.cons (.ite (.not (.and (.val (.call "is_machine" (.cons (.var 0) .nil))) (.and (.val (.call "is_machine" (.cons (.var 2) .nil))) (.val (.call "is_pair_of_rooms" (.cons (.tup (.cons (.var 1) (.cons (.var 3) .nil))) (.cons (.var 0) (.cons (.var 2) .nil)))))))) (.cons (.ret (.bl false))
  .nil) .nil)
  (.cons (.ite (.not (.and (.val (.call "is_listed" (.cons (.var 4) .nil))) (.val (.blt .all (.cons (.comp (.call "is_pair_of_rooms" (.cons (.var 5) (.cons (.var 0) (.cons (.var 2) .nil)))) [5] (.name 5) (.val (.var 4)) .none .nil) .nil))))) (.cons (.ret (.bl false))
  .nil) .nil)
  (.cons (.dctd 6 (.var 5) (.bl true) [5] (.name 5) (.val (.var 4)) .none)
  (.cons (.ret (.and (.din false (.tup (.cons (.var 1) (.cons (.var 3) .nil))) (.var 6)) (.blt .all (.cons (.comp (.call "leads_to_pairs" (.cons (.var 0) (.cons (.var 2) (.cons (.var 5) (.cons (.var 6) .nil))))) [5] (.name 5) (.dk (.var 6)) .none .nil) .nil))))
  .nil))))
def cS':List Str:=["_law_script","_law_k"]
def cd':List Str:=["len"]
def nb':List Str:=["_law_script","_law_k","_law_cell"]
def kT':List Str:=["abs","int"]
def kU':List Str:=["_law_box_here","_law_many_here","_law_found","_law_once","_law_twice"]
def hP':List Str:=[]
def kV':List Str:=["_law_box_here","_law_least","_law_few","_law_most"]
def hQ':List Str:=[]
def ee':List Str:=["_law_box_here","_law_many_here","_law_often","_law_rooms","_law_k","_law_doors","_law_bit","_law_to"]
def cT':List Str:=["int","range","tuple"]
def bM':List Str:=["_law_box_here","_law_many_here","_law_order","_law_k","_law_rooms","_law_at","_law_room","_law_on","_law_other"]
def bh':List Str:=["enumerate","int","range","tuple"]
def fj':List Str:=["_law_box_here","_law_machine_here","_law_mixed","_law_room","_law_turn","_law_rooms","_law_ends","_law_end","_law_some","_law_k","_law_one"]
def dw':List Str:=["enumerate","len","range","tuple"]
def kW':List Str:=["_law_box_here","_law_many_here","_law_bit","_law_last","_law_ends","_law_end"]
def hT':List Str:=["list","range","tuple"]
def qo':List Str:=["_law_box_here","_law_way"]
def nc':List Str:=[]
def qp':List Str:=["_law_box_here","_law_one","_law_way","_law_other","_law_at","_law_ends"]
def nd':List Str:=["len"]
def gP':List Str:=["_law_one","_law_a","_law_other","_law_b","_law_pairs","_law_known","_law_at","_law_left","_law_right","_law_end","_law_beside"]
def fk':List Str:=["len","zip"]
def fl':Css:=(.cons (.asg (.name 4) (.lst (.cons (.tup (.cons (.var 1) (.cons (.var 3) .nil))) .nil)))
  (.cons (.asg (.name 5) (.dst (.tup (.cons (.var 1) (.cons (.var 3) .nil))) (.bl true)))
  (.cons (.asg (.name 6) (.int 0))
  (.cons (.whl (.cmp .Lt (.var 6) (.blt .len (.cons (.var 4) .nil))) (.cons (.asg (.tup (.cons (.name 7) (.cons (.name 8) .nil))) (.idx (.var 4) (.var 6)))
  (.cons (.asg (.name 6) (.bin .Add (.var 6) (.int 1)))
  (.cons (.for_ (.tup (.cons (.name 9) (.cons (.name 10) .nil))) (.zip (.idx (.var 0) (.var 7)) (.idx (.var 2) (.var 8))) (.cons (.ite (.and (.cmp .IsNot (.var 9) .non) (.and (.cmp .IsNot (.var 10) .non) (.din true (.tup (.cons (.var 9) (.cons (.var 10) .nil))) (.var 5)))) (.cons (.dput (.var 5) (.tup (.cons (.var 9) (.cons (.var 10) .nil))) (.bl true))
  (.cons (.expr (.met .append (.var 4) (.cons (.tup (.cons (.var 9) (.cons (.var 10) .nil))) .nil)))
  .nil)) .nil)
  .nil))
  .nil))))
  (.cons (.ret (.var 4))
  .nil)))))
def ef':List Str:=["_law_thing","_law_one","_law_other","_law_room","_law_many_here"]
def cU':List Str:=["bool","int","isinstance","len","range","tuple","zip"]
def cV':Css:=(.cons (.ite (.or (.not (.val (.blt .isinstance (.cons (.var 0) (.cons (.ty "tuple") .nil))))) (.cmp .NotEq (.blt .len (.cons (.var 0) .nil)) (.int 2))) (.cons (.ret (.bl false))
  .nil) .nil)
  (.cons (.for_ (.tup (.cons (.name 3) (.cons (.name 4) .nil))) (.zip (.var 0) (.lst (.cons (.blt .len (.cons (.var 1) .nil)) (.cons (.blt .len (.cons (.var 2) .nil)) .nil)))) (.cons (.ite (.or (.not (.val (.blt .isinstance (.cons (.var 3) (.cons (.ty "int") .nil))))) (.or (.val (.blt .isinstance (.cons (.var 3) (.cons (.ty "bool") .nil)))) (.cmx .notInR (.var 3) (.blt .range (.cons (.var 4) .nil))))) (.cons (.ret (.bl false))
  .nil) .nil)
  .nil))
  (.cons (.ret (.bl true))
  .nil)))
def qq':List Str:=["_law_one","_law_a","_law_other","_law_b","_law_thing","_law_pair","_law_known","_law_left","_law_right","_law_end","_law_beside"]
def ne':List Str:=["all","dict","isinstance","list","tuple","zip"]
def nf':Css:=(.cons (.ite (.or (.not (.val (.blt .isinstance (.cons (.var 4) (.cons (.tup (.cons (.ty "list") (.cons (.ty "tuple") .nil))) .nil))))) (.not (.val (.blt .all (.cons (.comp (.call "_law_is_pair" (.cons (.var 5) (.cons (.var 0) (.cons (.var 2) .nil)))) [5] (.name 5) (.val (.var 4)) .none .nil) .nil))))) (.cons (.ret (.bl false))
  .nil) .nil)
  (.cons (.asg (.name 6) (.cal .dct (.comp (.tup (.cons (.var 5) (.cons (.bl true) .nil))) [5] (.name 5) (.val (.var 4)) .none .nil)))
  (.cons (.for_ (.tup (.cons (.name 7) (.cons (.name 8) .nil))) (.dk (.var 6)) (.cons (.for_ (.tup (.cons (.name 9) (.cons (.name 10) .nil))) (.zip (.idx (.var 0) (.var 7)) (.idx (.var 2) (.var 8))) (.cons (.ite (.and (.or (.cmp .Is (.var 9) .non) (.cmp .Is (.var 10) .non)) (.cmp .NotEq (.var 9) (.var 10))) (.cons (.ret (.bl false))
  .nil) .nil)
  (.cons (.ite (.and (.cmp .IsNot (.var 9) .non) (.din true (.tup (.cons (.var 9) (.cons (.var 10) .nil))) (.var 6))) (.cons (.ret (.bl false))
  .nil) .nil)
  .nil)))
  .nil))
  (.cons (.ret (.din false (.tup (.cons (.var 1) (.cons (.var 3) .nil))) (.var 6)))
  .nil))))
def fm':List Str:=["_law_box_here","_law_one","_law_other","_law_pairs","_law_at","_law_pair","_law_odd","_law_some"]
def dx':List Str:=["len","list","reversed","tuple"]
def dy':Css:=(.cons (.asg (.name 4) (.call "_law_take" (.cons (.var 0) (.cons (.blt .len (.cons (.var 3) .nil)) .nil))))
  (.cons (.asg (.name 5) (.tup (.cons (.call "_law_take" (.cons (.var 0) (.cons (.blt .len (.cons (.var 1) .nil)) .nil))) (.cons (.call "_law_take" (.cons (.var 0) (.cons (.blt .len (.cons (.var 2) .nil)) .nil))) .nil))))
  (.cons (.asg (.name 6) (.lst (.cons .non (.cons (.bl true) (.cons (.int 0) (.cons (.str "0") (.cons (.tup .nil) (.cons (.lst .nil) (.cons (.tup (.cons (.int 0) .nil)) (.cons (.lst (.cons (.int 0) (.cons (.int 0) .nil))) (.cons (.tup (.cons (.int 0) (.cons (.neg (.int 1)) .nil))) (.cons (.tup (.cons (.bl true) (.cons (.int 0) .nil))) (.cons (.tup (.cons (.int 0) (.cons (.blt .len (.cons (.var 2) .nil)) .nil))) (.cons (.tup (.cons (.int 0) (.cons (.str "0") .nil))) (.cons (.tup (.cons (.var 5) .nil)) .nil)))))))))))))))
  (.cons (.asg (.name 6) (.idx (.var 6) (.call "_law_take" (.cons (.var 0) (.cons (.int 13) .nil)))))
  (.cons (.asg (.name 7) (.lst (.cons (.var 3) (.cons (.blt .tuple (.cons (.var 3) .nil)) (.cons (.rvt (.var 3)) (.cons (.bin .Add (.var 3) (.cut (.var 3) (.some (.var 4)) .none)) (.cons (.bin .Add (.cut (.var 3) .none (.some (.var 4))) (.cut (.var 3) (.some (.bin .Add (.var 4) (.int 1))) .none)) (.cons (.bin .Add (.var 3) (.lst (.cons (.var 5) .nil))) .nil))))))))
  (.cons (.asg (.name 7) (.bin .Add (.var 7) (.lst (.cons (.bin .Add (.bin .Add (.cut (.var 3) .none (.some (.var 4))) (.lst (.cons (.var 5) .nil))) (.cut (.var 3) (.some (.bin .Add (.var 4) (.int 1))) .none)) (.cons (.bin .Add (.bin .Add (.cut (.var 3) .none (.some (.var 4))) (.lst (.cons (.blt .list (.cons (.idx (.var 3) (.var 4)) .nil)) .nil))) (.cut (.var 3) (.some (.bin .Add (.var 4) (.int 1))) .none)) (.cons (.var 6) .nil))))))
  (.cons (.ret (.bin .Add (.var 7) (.lst (.cons (.bin .Add (.var 3) (.lst (.cons (.var 6) .nil))) (.cons (.bin .Add (.bin .Add (.cut (.var 3) .none (.some (.var 4))) (.lst (.cons (.var 6) .nil))) (.cut (.var 3) (.some (.bin .Add (.var 4) (.int 1))) .none)) (.cons (.comp (.trv (.var 5)) [5] (.name 5) (.val (.var 3)) .none .nil) .nil))))))
  .nil)))))))
def ng':List Str:=["_law_script","_law_k","_law_box_here","_law_one","_law_other","_law_turn","_law_a","_law_b","_law_thing","_law_text","_law_found"]
def kX':List Str:=["bool","isinstance","len","min","range","str"]
def nh':Css:=(.cons (.for_ (.name 1) (.range1 (.int 6)) (.cons (.asg (.name 2) (.call "_law_box" (.cons (.var 0) (.cons (.var 1) .nil))))
  (.cons (.asg (.tup (.cons (.name 3) (.cons (.name 4) .nil))) (.call "_law_two" (.cons (.var 2) .nil)))
  (.cons (.for_ (.name 5) (.range1 (.int 2)) (.cons (.asg (.name 6) (.call "_law_take" (.cons (.var 2) (.cons (.blt .len (.cons (.var 3) .nil)) .nil))))
  (.cons (.asg (.name 7) (.idx (.lst (.cons (.blt .min (.cons (.var 6) (.cons (.bin .Sub (.blt .len (.cons (.var 4) .nil)) (.int 1)) .nil))) (.cons (.call "_law_take" (.cons (.var 2) (.cons (.blt .len (.cons (.var 4) .nil)) .nil))) .nil))) (.var 5)))
  (.cons (.for_ (.name 8) (.val (.call "_law_things" (.cons (.var 2) (.cons (.var 3) (.cons (.var 4) (.cons (.call "_law_paper" (.cons (.var 3) (.cons (.var 6) (.cons (.var 4) (.cons (.var 7) .nil))))) .nil)))))) (.cons (.asg (.name 9) (.cal .strd (.var 8)))
  (.cons (.asg (.name 10) (.call "shows_alike" (.cons (.var 3) (.cons (.var 6) (.cons (.var 4) (.cons (.var 7) (.cons (.var 8) .nil)))))))
  (.cons (.ite (.or (.not (.val (.blt .isinstance (.cons (.var 10) (.cons (.ty "bool") .nil))))) (.or (.cmp .NotEq (.var 10) (.call "_law_due" (.cons (.var 3) (.cons (.var 6) (.cons (.var 4) (.cons (.var 7) (.cons (.var 8) .nil))))))) (.cmp .NotEq (.cal .strd (.var 8)) (.var 9)))) (.cons (.ret (.bl false))
  .nil) .nil)
  .nil))))
  .nil))))
  .nil))))
  (.cons (.ret (.bl true))
  .nil))
open K08
open CK (Lt kS')
def pD (m n:Nat):PyData->Option (Nat×Nat)
 | .tuple [x,y]=>if inD x 0 ((m:Int)-1)&&inD y 0 ((n:Int)-1)then some ((f4' x).toNat,(f4' y).toNat)else none
 |_=>none
theorem kY' {m n:Nat} {d:PyData} (e:fh' d=false):pD m n d=none:=by
 unfold pD
 split
 .cases e
 .rfl
theorem fn' {d:PyData} {m:Nat} (h:inD d 0 ((m:Int)-1)=true):qW' d=true/\0<=f4' d/\(f4' d).toNat<m:=by
 unfold inD at h
 rw[af,af,decide_eq_true_eq,decide_eq_true_eq]at h
 exact⟨h.1.1,h.1.2,by have:=h.2;have:=h.1.2;omega⟩
set_option tactic.hygienic true in
theorem xi' {m n:Nat} {d:PyData} {q:Nat×Nat} (h:pD m n d=some q):q.1<m/\q.2<n:=by
 unfold pD at h
 split at h
 .rename_i x y
  by_cases c:(inD x 0 ((m:Int)-1)&&inD y 0 ((n:Int)-1))=true
  .rw[if_pos c]at h
   cases h
   rw[af]at c
   exact⟨(fn' c.1).2.2,(fn' c.2).2.2⟩
  .rw[if_neg c]at h
   cases h
 .cases h
set_option tactic.hygienic true in
theorem uy' {H:Hp} {k m n:Nat} {v:V} {d:PyData} {q:Nat×Nat} (hr:RdV H k v d) (h:pD m n d=some q):∃p,v=.ref p/\H p=some (.tup [nV q.1,nV q.2]):=by
 unfold pD at h
 split at h
 .rename_i x y
  by_cases c:(inD x 0 ((m:Int)-1)&&inD y 0 ((n:Int)-1))=true
  .rw[if_pos c]at h
   cases h
   rw[af]at c
   obtain⟨a,xs,ds,k',rfl,rfl,ha,e,hx⟩:=eQ' hr rfl
   cases e
   obtain⟨v1,v2,rfl,r1,r2⟩:=hK' hx
   obtain⟨n1,z1,_⟩:=fn' c.1
   obtain⟨n2,z2,_⟩:=fn' c.2
   refine⟨a,rfl,?_⟩
   rw[hJ' r1 n1,hJ' r2 n2]at ha
   rw[ha]
   show some (HO.tup [V.int (f4' x),V.int (f4' y)])=some (HO.tup [V.int ((f4' x).toNat:Int),V.int ((f4' y).toNat:Int)])
   rw[Int.toNat_of_nonneg z1,Int.toNat_of_nonneg z2]
  .rw[if_neg c]at h
   cases h
 .cases h
def uz':Sp:=fun vs H Q _=>∃(v:V) (k:Nat) (d:PyData) (p q:Addr) (M N:List Rm),vs=[v,.ref p,.ref q]/\RdV H k v d/\IsM H p M/\IsM H q N/\Q (.bl (pD M.length N.length d).isSome) H
theorem qr' {C:Rc} (hN:C.N.length=3) (hP:C.fs "is_pair"=some dj') (hW:C.fs "is_within"=some bH'):∀vs H Q E,uz' vs H Q E->tSs C aD' { nx:=fun _ H'=>Q .non H',rt:=Q } (L2.aK' C.N vs) H:=by
 intro vs H Q E h
 obtain⟨v,k,d,p,q0,M,N,rfl,hr,hM,hN',q⟩:=h
 rw[ao' hN]
 unfold aD'
 walk_at "y"
 refine ag' hP ?_
 walk_at "y"
 refine⟨v,k,d,rfl,hr,?_⟩
 cases hp:fh' d with
 |false=>
  rw[kY' hp]at q
  walk_at "y"
  exact q
 |true=>
  obtain⟨x,y,rfl⟩:=kN' hp
  obtain⟨a,xs,ds,k',rfl,rfl,ha,e,hx⟩:=eQ' hr rfl
  cases e
  obtain⟨v1,v2,rfl,r1,r2⟩:=hK' hx
  have rr:(pD M.length N.length (.tuple [x,y])).isSome=(inD x 0 ((M.length:Int)-1)&&inD y 0 ((N.length:Int)-1)):=by
   show(if(inD x 0 ((M.length:Int)-1)&&inD y 0 ((N.length:Int)-1))=true then some _ else none).isSome=_
   cases(inD x 0 ((M.length:Int)-1)&&inD y 0 ((N.length:Int)-1))<;>rfl
  rw[rr]at q
  obtain⟨mv,hmv,hmr⟩:=id hM
  obtain⟨nv,hnv,hnr⟩:=id hN'
  walk_at "y"
  refine ag' hW ?_
  walk_at "y"
  refine a0' (SqT.of ha) (v:=v1) rfl ?_
  walk_at "y"
  refine aR' (SqT.of hmv) ?_
  rw[hmr.len]
  walk_at "y"
  refine⟨v1,_,x,_,_,rfl,r1,?_⟩
  cases h1:inD x 0 ((M.length:Int)-1)with
  |false=>
   rw[h1]at q
   walk_at "y"
   exact q
  |true=>
   rw[h1,cj]at q
   walk_at "y"
   refine ag' hW ?_
   walk_at "y"
   refine a0' (SqT.of ha) (v:=v2) rfl ?_
   walk_at "y"
   refine aR' (SqT.of hnv) ?_
   rw[hnr.len]
   walk_at "y"
   exact⟨v2,_,y,_,_,rfl,r2,q⟩
def kP (q:Nat×Nat):List Key:=[.inl (q.1:Int),.inl (q.2:Int)]
theorem uA' {a b:Nat×Nat} (h:kP a=kP b):a=b:=by
 obtain⟨a1,a2⟩:=a
 obtain⟨b1,b2⟩:=b
 unfold kP at h
 simp only[List.cons.injEq,and_true]at h
 obtain⟨h1,h2⟩:=h
 have h1:(a1:Int)=b1:=by injection h1
 have h2:(a2:Int)=b2:=by injection h2
 rw[Prod.mk.injEq]
 omega
def dQ (ps:List (Nat×Nat)):List (List Key×V):=ps.map fun q=>(kP q,V.bl true)
def ad (l:List (Nat×Nat)) (q:Nat×Nat):List (Nat×Nat):=if q∈l then l else l++[q]
def dd (ps:List (Nat×Nat)):List (Nat×Nat):=ps.foldl ad []
theorem qs' {ps:List (Nat×Nat)} {q:Nat×Nat}:dd (ps++[q])=ad (dd ps) q:=by unfold dd;rw[List.foldl_append];rfl
theorem uB' {l:List (Nat×Nat)} {q x:Nat×Nat}:x∈ad l q↔x∈l\/x=q:=by
 unfold ad
 by_cases h:q∈l
 .rw[if_pos h]
  exact⟨.inl,fun z=>z.elim id fun e=>e ▸ h⟩
 .rw[if_neg h,aw,aU]
theorem ni' {ps:List (Nat×Nat)} {x:Nat×Nat}:∀{l:List (Nat×Nat)},x∈ps.foldl ad l↔x∈l\/x∈ps:=by
 induction ps with
 |nil=>intro l;simp
 |cons q ps ih=>
  intro l
  rw[cM,ih,uB',am,or_assoc]
theorem cW' {ps:List (Nat×Nat)} {x:Nat×Nat}:x∈dd ps↔x∈ps:=by
 unfold dd
 rw[ni']
 simp
theorem uC' {l:List (Nat×Nat)} {q:Nat×Nat}:(ad l q).length<=l.length+1:=by
 unfold ad
 split
 .omega
 .rw[aD];exact ag _
theorem nj' {ps:List (Nat×Nat)}:∀{l:List (Nat×Nat)},(ps.foldl ad l).length<=l.length+ps.length:=by
 induction ps with
 |nil=>intro l;exact ag _
 |cons q ps ih=>
  intro l
  have h1:=ih (l:=ad l q)
  have h2:=uC' (l:=l) (q:=q)
  rw[cM,bo]
  omega
theorem uD' {ps:List (Nat×Nat)}:(dd ps).length<=ps.length:=by
 have:=nj' (ps:=ps) (l:=[])
 rwa [List.length_nil,Nat.zero_add]at this
theorem dk' {q:Nat×Nat}:∀{ps:List (Nat×Nat)},ga' (dQ ps) (kP q)=if q∈ps then some (.bl true)else none
 | []=>by simp[dQ,ga']
 |a :: ps=>by
  by_cases h:a=q
  .subst h
   rw[show dQ (a :: ps)=(kP a,V.bl true) :: dQ ps from rfl,dp' rfl]
   simp
  .rw[show dQ (a :: ps)=(kP a,V.bl true) :: dQ ps from rfl,cD' (fun z=>h (uA' z)),dk']
   have hx:¬q=a:=fun z=>h z.symm
   simp only[am,hx,false_or]
theorem kZ' {ps:List (Nat×Nat)} {q:Nat×Nat}:dn' (dQ ps) (kP q) (.bl true)=dQ (ad ps q):=by
 unfold ad
 by_cases h:q∈ps
 .rw[if_pos h]
  unfold dn'
  rw[dq',dk',if_pos h,if_pos (show(some (V.bl true)).isSome=true from rfl)]
  unfold dQ
  rw[bU]
  apply cB
  intro x _
  show(if kP x=kP q then(kP x,V.bl true)else(kP x,V.bl true))=_
  split<;>rfl
 .rw[if_neg h,lF' _ (by rw[dk',if_neg h])]
  unfold dQ
  rw[aL]
  rfl
theorem xj' {q:Nat×Nat}:(kP q).map L2.kV=[nV q.1,nV q.2]:=rfl
theorem k0' {k:List Key} {ps:List (Nat×Nat)} (h:∀q,k≠kP q):ga' (dQ ps) k=none:=by
 induction ps with
 |nil=>rfl
 |cons a ps ih=>rw[show dQ (a :: ps)=(kP a,V.bl true) :: dQ ps from rfl,cD' (fun z=>h a z.symm),ih]
def kO (o:Option Nat):Key:=match o with
 |none=>.non
 |some n=>.inl (n:Int)
theorem uE' {o:Option Nat}:L2.kV (K14.kO o)=oV o:=by cases o<;>rfl
def inO (ps:List (Nat×Nat)):Option Nat->Option Nat->Bool
 |some x,some y=>decide ((x,y)∈ps)
 |_,_=>false
theorem qt' {ps:List (Nat×Nat)} {o u:Option Nat}:(ga' (dQ ps) [K14.kO o,K14.kO u]).isSome=inO ps o u:=by
 cases o with
 |none=>rw[k0' fun q z=>by unfold kP at z;simp[K14.kO]at z];rfl
 |some x=>
  cases u with
  |none=>rw[k0' fun q z=>by unfold kP at z;simp[K14.kO]at z];rfl
  |some y=>
   show(ga' (dQ ps) (kP (x,y))).isSome=decide ((x,y)∈ps)
   rw[dk']
   by_cases h:(x,y)∈ps
   .rw[if_pos h,decide_eq_true h];rfl
   .rw[if_neg h,decide_eq_false h];rfl
def bt (r:Rm) (c:Nat):Option Nat:=if c=1 then r.2 else r.1
def okb (ps:List (Nat×Nat)) (o u:Option Nat):Bool:=(decide (o=none)&&decide (u=none)) || inO ps o u
def rmA (M:List Rm) (i:Nat):Rm:=M[i]?.getD (none,none)
def okq (M N:List Rm) (ps:List (Nat×Nat)) (q:Nat×Nat):Bool:=okb ps (rmA M q.1).1 (rmA N q.2).1&&okb ps (rmA M q.1).2 (rmA N q.2).2
set_option tactic.hygienic true in
theorem oe' {o u:Option Nat}:oV o=oV u↔o=u:=by
 constructor
 .intro h
  cases o<;>cases u
  .rfl
  .cases h
  .cases h
  .rename_i a b
   have h:V.int (a:Int)=V.int (b:Int):=h
   injection h with h
   rw[show a=b by omega]
 .rintro rfl;rfl
theorem xk' {o u o' u':Option Nat}:LEq [oV o,oV u] [oV o',oV u']:=by
 intro i x y h1 h2
 have key:∀a b:Option Nat,iP' (oV a) (oV b)=true/\(∀z,oV a≠.byt z):=fun a b=>by cases a<;>cases b<;>exact⟨rfl,fun z e=>by cases e⟩
 match i,h1,h2 with
 |0,h1,h2=>cases h1;cases h2;exact .inl (key _ _)
 |1,h1,h2=>cases h1;cases h2;exact .inl (key _ _)
 |i+2,h1,h2=>cases h1
def k1':Sp:=fun vs H Q _=>∃(p q a D:Addr) (M N:List Rm) (x:Nat×Nat) (ps:List (Nat×Nat)),vs=[.ref p,.ref q,.ref a,.ref D]/\IsM H p M/\IsM H q N/\H a=some (.tup [nV x.1,nV x.2])/\x.1<M.length/\x.2<N.length/\Rd H D (.dT (dQ ps))/\∀H',aH' H H'->Q (.bl (okq M N ps x)) H'
theorem k2' {H H':Hp} {a:Addr} {o:HO} (s:aH' H H') (h:Rd H a o):Rd H' a o:=by
 rcases h with h|⟨z,h⟩
 .exact .inl (s _ _ h)
 .exact .inr ⟨z,s _ _ h⟩
theorem bX' {H:Hp} {p:Addr} {M:List Rm} {i:Nat} (h:IsM H p M) (hi:i<M.length):∃mv pr,H p=some (.tup mv)/\mv[i]?=some (.ref pr)/\H pr=some (.tup [oV (rmA M i).1,oV (rmA M i).2]):=by
 obtain⟨mv,hmv,hmr⟩:=h
 obtain⟨pr,e,hp⟩:=hmr.get (ae hi)
 refine⟨mv,pr,hmv,e,?_⟩
 unfold rmA
 rw[ae hi]
 exact hp
theorem nk' {C:Rc} (hN:C.N.length=6):∀vs H Q E,k1' vs H Q E->tSs C aN' { nx:=fun _ H'=>Q .non H',rt:=Q } (L2.aK' C.N vs) H:=by
 intro vs H Q E h
 obtain⟨p,q0,a,D,M,N,x,ps,rfl,hM,hN',ha,h1,h2,hD,q⟩:=h
 rw[ao' hN]
 unfold aN'
 walk_at "y"
 refine⟨by decide,fun pt hpt=>?_⟩
 obtain⟨s0,e0⟩:=snw hpt (.tup [.int 0,.int 1])
 generalize upd H pt _=H0 at s0 e0 ⊢
 refine cb' (SqT.of e0) (tP' (xs:=[.int 0,.int 1]) (fun i σ H'=>(∃x4 x5,σ=[some (.ref p),some (.ref q0),some (.ref a),some (.ref D),x4,x5])/\aH' H0 H'/\(1<=i->okb ps (rmA M x.1).1 (rmA N x.2).1=true)/\(2<=i->okb ps (rmA M x.1).2 (rmA N x.2).2=true)) ⟨⟨_,_,rfl⟩,aH'.refl _,fun z=>by omega,fun z=>by omega⟩ (fun i σ H' _ pv=>SqT.of (pv.2.1 _ _ e0)) ?_ ?_)
 .rintro i v σ H1 hv ⟨⟨x4,x5,rfl⟩,s1,g1,g2⟩
  obtain⟨hi,rfl⟩:i<2/\v=.int i:=by
   match i,hv with
   |0,hv=>cases hv;exact⟨by decide,rfl⟩
   |1,hv=>cases hv;exact⟨by decide,rfl⟩
   |i+2,hv=>cases hv
  have s01:=s0.trans s1
  have ha1:=s01 _ _ ha
  obtain⟨mv,pr,hmv,hpr,hr⟩:=bX' (hM.mono (ai' s01)) h1
  obtain⟨nv,pr2,hnv,hpr2,hr2⟩:=bX' (hN'.mono (ai' s01)) h2
  have pick:∀r:Rm,atI [oV r.1,oV r.2] (i:Int)=some (oV (if i=1 then r.2 else r.1)):=fun r=>by
   rcases(by omega:i=0\/i=1)with rfl|rfl<;>rfl
  walk_at "y"
  refine a0' (SqT.of ha1) (v:=nV x.1) rfl ?_
  simp only[nV]
  refine a0' (SqT.of hmv) (a1' hpr) ?_
  walk_at "y"
  refine a0' (SqT.of hr) (pick _) ?_
  walk_at "y"
  refine a0' (SqT.of ha1) (v:=nV x.2) rfl ?_
  simp only[nV]
  refine a0' (SqT.of hnv) (a1' hpr2) ?_
  walk_at "y"
  refine a0' (SqT.of hr2) (pick _) ?_
  generalize ho:(if i=1 then(rmA M x.1).2 else(rmA M x.1).1)=o
  generalize hu:(if i=1 then(rmA N x.2).2 else(rmA N x.2).1)=u
  walk_at "y"
  refine⟨by show 2<=sizeLine;decide,fun p2 hp2=>?_⟩
  obtain⟨s2,e2⟩:=snw hp2 (.tup [oV o,oV u])
  have s12:=s1.trans s2
  have s02:=s01.trans s2
  generalize upd H1 p2 _=H2 at s2 e2 s12 s02 ⊢
  refine⟨by decide,fun p3 hp3=>?_⟩
  obtain⟨s3,e3⟩:=snw hp3 (.tup [oV none,oV none])
  have e23:=s3 _ _ e2
  have s13:=s12.trans s3
  have s03:=s02.trans s3
  show kW2 .neT (.ref p2) _ (.ref p3) (upd H2 p3 (.tup [oV none,oV none]))
  generalize upd H2 p3 _=H3 at s3 e3 e23 s13 s03 ⊢
  refine ul' e23 e3 rfl xk' ?_
  have ee:(!decide ([oV o,oV u]=[oV none,oV none]))=!(decide (o=none)&&decide (u=none)):=by
   congr 1
   rw[bK,decide_eq_true_eq,af,decide_eq_true_eq,decide_eq_true_eq]
   constructor
   .intro z
    simp only[List.cons.injEq,and_true]at z
    exact⟨oe'.mp z.1,oe'.mp z.2⟩
   .rintro⟨rfl,rfl⟩;rfl
  rw[ee]
  have nextI:okb ps o u=true->(1<=i+1->okb ps (rmA M x.1).1 (rmA N x.2).1=true)/\(2<=i+1->okb ps (rmA M x.1).2 (rmA N x.2).2=true):=fun z=>by
   rcases(by omega:i=0\/i=1)with rfl|rfl
   .rw[if_neg (by decide)]at ho hu
    rw[ho,hu]
    exact⟨fun _=>z,fun k=>by omega⟩
   .rw[if_pos rfl]at ho hu
    rw[ho,hu]
    exact⟨fun _=>g1 (ag 1),fun _=>z⟩
  have notI:okb ps o u=false->okq M N ps x=false:=fun z=>by
   unfold okq
   rcases(by omega:i=0\/i=1)with rfl|rfl
   .rw[if_neg (by decide)]at ho hu
    rw[ho,hu,z]
    rfl
   .rw[if_pos rfl]at ho hu
    rw[ho,hu,z,cT]
  cases hn:(decide (o=none)&&decide (u=none))with
  |true=>
   walk_at "y"
   exact⟨⟨_,_,rfl⟩,s13,nextI (by unfold okb;rw[hn];rfl)⟩
  |false=>
   walk_at "y"
   refine f1' (.inr ⟨_,[K14.kO o,K14.kO u],p2,k2' s03 hD,rfl,?_,rfl⟩) ?_
   .rw[e23,aQ,aQ,List.map_nil,uE',uE']
   .rw[if_pos rfl,qt']
    have eo:okb ps o u=inO ps o u:=by unfold okb;rw[hn];rfl
    cases hin:inO ps o u with
    |true=>
     walk_at "y"
     exact⟨⟨_,_,rfl⟩,s13,nextI (by rw[eo,hin])⟩
    |false=>
     walk_at "y"
     have:=q H3 s03
     rw[notI (by rw[eo,hin])]at this
     exact this
 .rintro σ H1 ⟨⟨x4,x5,rfl⟩,s1,g1,g2⟩
  walk_at "y"
  have:=q H1 (s0.trans s1)
  unfold okq at this
  rw[g1 (by show 1<=2;decide),g2 (by show 2<=2;decide)]at this
  exact this
def le':PyData->Option (List PyData)
 | .list ds=>some ds
 | .tuple ds=>some ds
 |_=>none
def prs (m n:Nat) (ds:List PyData):List (Nat×Nat):=ds.filterMap (pD m n)
def nl' (m n:Nat) (ds:List PyData):Bool:=ds.all fun d=>(pD m n d).isSome
def shD (M N:List Rm) (a b:Nat) (d:PyData):Bool:=match le' d with
 |none=>false
 |some ds=>nl' M.length N.length ds&&(decide ((a,b)∈prs M.length N.length ds)&&(prs M.length N.length ds).all (okq M N (prs M.length N.length ds)))
theorem qu' {M N:List Rm} {ps qs:List (Nat×Nat)} (h:∀x,x∈ps↔x∈qs):okq M N ps=okq M N qs:=by
 funext x
 have key:∀o u,okb ps o u=okb qs o u:=fun o u=>by
  unfold okb
  congr 1
  cases o with
  |none=>rfl
  |some x=>
   cases u with
   |none=>rfl
   |some y=>
    show decide ((x,y)∈ps)=decide ((x,y)∈qs)
    rw[bK,decide_eq_true_eq,decide_eq_true_eq,h]
 unfold okq
 rw[key,key]
theorem k3' {M N:List Rm} {ps:List (Nat×Nat)}:(dd ps).all (okq M N (dd ps))=ps.all (okq M N ps):=by
 rw[qu' fun x=>cW',bK,bh,bh]
 exact⟨fun z x hx=>z x (cW'.mpr hx),fun z x hx=>z x (cW'.mp hx)⟩
theorem fi' {m n:Nat} {ds:List PyData}:(prs m n ds).length<=ds.length:=List.length_filterMap_le _ _
theorem hU' {m n:Nat} {ds:List PyData} {d:PyData} {q:Nat×Nat} (h:pD m n d=some q):prs m n (ds++[d])=prs m n ds++[q]:=by
 unfold prs
 rw[List.filterMap_append]
 congr 1
 exact List.filterMap_cons_some h
theorem of' {m n:Nat} {ds:List PyData} {q:Nat×Nat} (h:q∈prs m n ds):q.1<m/\q.2<n:=by
 obtain⟨d,_,e⟩:=cH.mp h
 exact xi' e
theorem og' {H:Hp} {k:Nat} {v:V} {d:PyData} {ds:List PyData} (h:RdV H k v d) (e:le' d=some ds):∃a xs k',v=.ref a/\Lt H a xs/\RdA (RdV H k') xs ds:=by
 cases d<;>simp only[le',Option.some.injEq,reduceCtorEq]at e
 .subst e
  rcases bp' h with⟨_,z⟩|⟨_,_,z⟩|⟨_,_,z⟩|⟨_,_,z⟩|⟨a,xs,ds',k',rfl,rfl,ha,z,hx⟩|⟨a,xs,ds',k',rfl,rfl,ha,z,hx⟩<;>cases z
  exact⟨a,xs,k',rfl,.inl ha,hx⟩
 .subst e
  rcases bp' h with⟨_,z⟩|⟨_,_,z⟩|⟨_,_,z⟩|⟨_,_,z⟩|⟨a,xs,ds',k',rfl,rfl,ha,z,hx⟩|⟨a,xs,ds',k',rfl,rfl,ha,z,hx⟩<;>cases z
  exact⟨a,xs,k',rfl,.inr ha,hx⟩
theorem fo' {r:V->PyData->Prop}:∀{xs:List V} {ds:List PyData},RdA r xs ds->xs.length=ds.length
 | [],[],_=>rfl
 |_ :: _,_ :: _,h=>congrArg (·+1) (fo' h.2)
 | [],_ :: _,h=>h.elim
 |_ :: _,[],h=>h.elim
theorem eg' {r:V->PyData->Prop}:∀{xs:List V} {ds:List PyData} {i:Nat} {x:V},RdA r xs ds->xs[i]?=some x->∃d,ds[i]?=some d/\r x d
 |x :: xs,d :: ds,0,_,h,e=>by cases e;exact⟨d,rfl,h.1⟩
 |x :: xs,d :: ds,i+1,_,h,e=>eg' (i:=i) h.2 e
 | [],[],_,_,_,e=>by cases e
 | [],_ :: _,_,_,h,_=>h.elim
 |_ :: _,[],_,_,h,_=>h.elim
def iLT (d:PyData):Bool:=(le' d).isSome
theorem uF' {K:W.Frag} {H:Hp} {Q:VK} {k:Nat} {v:V} {d:PyData} {p:Addr} (h:RdV H k v d) (hp:H p=some (.tup [.ty "list",.ty "tuple"])) (q:Q (.bl (iLT d)) H):cY' K .isinstance [v,.ref p] H Q:=by
 rcases bp' h with⟨rfl,rfl⟩|⟨b,rfl,rfl⟩|⟨i,rfl,rfl⟩|⟨x,rfl,rfl⟩|⟨a,xs,ds',k',rfl,rfl,ha,rfl,hx⟩|⟨a,xs,ds',k',rfl,rfl,ha,rfl,hx⟩
 .exact qV' (T:="NoneType") rfl hp rfl (by decide) (by decide) (by decide) q
 .exact qV' (T:="bool") rfl hp rfl (by decide) (by decide) (by decide) q
 .exact qV' (T:="int") rfl hp rfl (by decide) (by decide) (by decide) q
 .exact qV' (T:="str") rfl hp rfl (by decide) (by decide) (by decide) q
 .exact qV' (T:="list") (by simp only[bk',ha]) hp rfl (by decide) (by decide) (by decide) q
 .exact qV' (T:="tuple") (by simp only[bk',ha]) hp rfl (by decide) (by decide) (by decide) q
def uG':Sp:=fun vs H Q _=>∃(v:V) (k:Nat) (d:PyData),vs=[v]/\RdV H k v d/\∀H',aH' H H'->Q (.bl (iLT d)) H'
theorem qv' {C:Rc} (hN:C.N.length=1):∀vs H Q E,uG' vs H Q E->tSs C bt' { nx:=fun _ H'=>Q .non H',rt:=Q } (L2.aK' C.N vs) H:=by
 intro vs H Q E h
 obtain⟨v,k,d,rfl,hr,q⟩:=h
 rw[ao' hN]
 unfold bt'
 walk_at "y"
 refine⟨by decide,fun p hp=>?_⟩
 obtain⟨s1,e1⟩:=snw hp (.tup [.ty "list",.ty "tuple"])
 have hr1:=c6' (Go.of_same (c:=0) s1) hr
 generalize upd H p _=H1 at s1 e1 hr1 ⊢
 exact uF' hr1 e1 (q H1 s1)
theorem qw' {a:KTL} {k:List Key} {b:Addr} {v:V}:plT (ld' a k b v)=dn' (plT a) k v:=by
 have e:((plT a).any fun kv=>decide (kv.1=k))=a.any fun x=>decide (x.1=k):=by
  unfold plT
  rw[List.any_map]
  rfl
 unfold ld' dn'
 rw[e]
 by_cases h:(a.any fun x=>decide (x.1=k))=true
 .rw[if_pos h,if_pos h]
  unfold plT
  rw[bU,bU]
  apply cB
  intro x _
  show(fun x:List Key×Addr×V=>(x.1,x.2.2)) (if x.1=k then(x.1,x.2.1,v)else x)=if x.1=k then(x.1,v)else(x.1,x.2.2)
  by_cases z:x.1=k
  .rw[if_pos z,if_pos z]
  .rw[if_neg z,if_neg z]
 .rw[if_neg h,if_neg h]
  unfold plT
  rw[aL]
  rfl
theorem qx' {a:KTL} {H:Hp} {k:List Key} {b:Addr} {v:V} (h:okT a H) (hb:H b=some (.tup (k.map L2.kV))):okT (ld' a k b v) H:=by
 unfold ld'
 split
 .intro x hx
  obtain⟨y,hy,rfl⟩:=aZ.mp hx
  by_cases z:y.1=k
  .rw[if_pos z];exact h y hy
  .rw[if_neg z];exact h y hy
 .intro x hx
  rcases aw.mp hx with hx|hx
  .exact h x hx
  .rw[aU.mp hx];exact hb
theorem xl' {C:Rc} {σ:L2.St} {H:Hp} {own:List Nat} {g:TG} {tc:TT} {α:Type} {aw':TL α} {b0:α} {N:α->Hp->Prop} {a:Addr} {vs:List V} (hk:Lt H a vs) (Pv:Nat->α->Hp->Prop) (h0:Pv 0 b0 H) (hl:∀i b H',Pv i b H'->aH' H H')
  (hs:∀i b H x (R:α->Hp->Prop),vs[i]?=some x->Pv i b H->(∀c H2,Pv (i+1) c H2->R c H2)->g x (clr own σ) H (ir' tc aw' b R)) (hd:∀b H,Pv vs.length b H->N b H):kIv C (kCl own g tc aw' σ b0 N) (.ref a) H:=by
 rcases hk with hk|hk
 .exact ca' (SqL.of hk) (yY' Pv h0 (fun i xs H' p=>SqL.of (hl i xs H' p _ _ hk)) hs hd)
 .exact cb' (SqT.of hk) (yZ' Pv h0 (fun i xs H' p=>SqT.of (hl i xs H' p _ _ hk)) hs hd)
theorem uH' {H H':Hp} {p:Addr} {o:HO} (h:H p=none) (s:aH' H H'):aH' H (upd H' p o):=fun b u q=>by rw[ad' (af' q h)];exact s _ _ q
theorem hV' {ps:List (Nat×Nat)}:(dQ ps).length=ps.length:=by unfold dQ;rw[ah]
theorem oh' {ps:List (Nat×Nat)} {as:List Addr} {i:Nat} {v:V} (hl:as.length=(dQ ps).length) (h:(as.map V.ref)[i]?=some v):∃q p,ps[i]?=some q/\v=.ref p/\as[i]?=some p:=by
 rw[aC]at h
 cases e:as[i]? with
 |none=>rw[e]at h;cases h
 |some p=>
  rw[e]at h
  cases h
  have hi:=ay' e
  rw[hl,hV']at hi
  exact⟨ps[i],p,ae hi,rfl,rfl⟩
theorem uI' {ps:List (Nat×Nat)} {i:Nat} {q:Nat×Nat} (h:ps[i]?=some q):(dQ ps)[i]?=some (kP q,V.bl true):=by unfold dQ;rw[aC,h];rfl
theorem oi' {H:Hp} {D:Addr} {o:HO} {o':HO} (h:H D=some o) (ho:∀xs,o≠.tup xs):Tp H (upd H D o'):=fun a xs e=>by
 rw[ad']
 .exact e
 .rintro rfl
  rw[h]at e
  exact ho xs (Option.some.inj e)
theorem bP' {α:Type} {l:List α} {i:Nat} {a:α} (h:l[i]?=some a):l.take (i+1)=l.take i++[a]:=by rw[List.take_succ,h];rfl
def c7':Sp:=fun vs H Q _=>∃(p q:Addr) (a b:Nat) (v:V) (k:Nat) (d:PyData) (M N:List Rm),vs=[.ref p,.int a,.ref q,.int b,v]/\IsM H p M/\OkM M/\IsM H q N/\OkM N/\a<M.length/\b<N.length/\M.length<=60/\N.length<=60/\RdV H k v d/\(∀ds,le' d=some ds->ds.length<=40000)/\∀H',aH' H H'->Q (.bl (shD M N a b d)) H'
theorem iz' {C:Rc} (hN:C.N.length=7) (hI:C.fs "is_machine"=some kO') (hP:C.fs "is_pair_of_rooms"=some uz') (hL:C.fs "is_listed"=some uG') (hT:C.fs "leads_to_pairs"=some k1'):∀vs H Q E,c7' vs H Q E->tSs C a7' { nx:=fun _ H'=>Q .non H',rt:=Q } (L2.aK' C.N vs) H:=by
 intro vs H Q E h
 obtain⟨p,q0,a,b,v,k,d,M,N,rfl,hM,hO,hN',hO',ha,hb,hM60,hN60,hr,hz,q⟩:=h
 rw[ao' hN]
 unfold a7'
 walk_at "y"
 refine ag' hI ?_
 walk_at "y"
 refine⟨.ref p,_,dM M,rfl,yq' (n:=0) hM,fun ds e=>by cases e;rw[ah];omega,fun H1 s1=>?_⟩
 rw[ur' hO]
 walk_at "y"
 refine ag' hI ?_
 walk_at "y"
 refine⟨.ref q0,_,dM N,rfl,yq' (n:=0) (hN'.mono (ai' s1)),fun ds e=>by cases e;rw[ah];omega,fun H2 s2=>?_⟩
 rw[ur' hO']
 have s12:=s1.trans s2
 walk_at "y"
 refine ag' hP ?_
 walk_at "y"
 refine⟨by show 2<=sizeLine;decide,fun p3 hp3=>?_⟩
 obtain⟨s3,e3⟩:=snw hp3 (.tup [.int a,.int b])
 have s13:=s12.trans s3
 generalize upd H2 p3 _=H3 at s3 e3 s13 ⊢
 refine⟨.ref p3,1,.tuple [.int a,.int b],p,q0,M,N,rfl,.inr ⟨_,_,e3,rfl,rfl,rfl,trivial⟩,hM.mono (ai' s13),hN'.mono (ai' s13),?_⟩
 have hab:pD M.length N.length (.tuple [.int a,.int b])=some (a,b):=by
  have e1:inD (.int a) 0 ((M.length:Int)-1)=true:=by
   unfold inD
   rw[af,af,decide_eq_true_eq,decide_eq_true_eq]
   exact⟨⟨rfl,by show(0:Int)<=a;omega⟩,by show(a:Int)<=M.length-1;omega⟩
  have e2:inD (.int b) 0 ((N.length:Int)-1)=true:=by
   unfold inD
   rw[af,af,decide_eq_true_eq,decide_eq_true_eq]
   exact⟨⟨rfl,by show(0:Int)<=b;omega⟩,by show(b:Int)<=N.length-1;omega⟩
  show(if(inD (.int a) 0 ((M.length:Int)-1)&&inD (.int b) 0 ((N.length:Int)-1))=true then some ((a:Int).toNat,(b:Int).toNat)else none)=_
  rw[e1,e2]
  rfl
 rw[hab]
 simp only[cY]
 walk_at "y"
 have hr3:=c6' (Go.of_same (c:=0) s13) hr
 refine ag' hL ?_
 walk_at "y"
 refine⟨v,k,d,rfl,hr3,fun H4 s4=>?_⟩
 have s14:=s13.trans s4
 have hr4:=c6' (Go.of_same (c:=0) s4) hr3
 cases hd:le' d with
 |none=>
  have q':=q H4 s14
  unfold shD at q'
  rw[hd]at q'
  rw[show iLT d=false by unfold iLT;rw[hd];rfl]
  walk_at "y"
  exact q'
 |some ds=>
  have hdz:=hz ds hd
  obtain⟨av,xs,k',rfl,hx,hxs⟩:=og' hr4 hd
  have hxl:=fo' hxs
  rw[show iLT d=true by unfold iLT;rw[hd];rfl]
  have qq:∀H',aH' H H'->Q (.bl (nl' M.length N.length ds&&(decide ((a,b)∈prs M.length N.length ds)&&(prs M.length N.length ds).all (okq M N (prs M.length N.length ds))))) H':=fun H' s=>by
   have:=q H' s
   unfold shD at this
   rw[hd]at this
   exact this
  walk_at "y"
  refine kS' hx (fun i ys H'=>aH' H4 H'/\ys=((ds.take i).map fun d=>(pD M.length N.length d).isSome).map V.bl) ⟨aH'.refl _,rfl⟩ (fun i ys H' pv=>pv.1) ?_ ?_
  .rintro i ys H5 x R hxi ⟨s5,rfl⟩ hR
   obtain⟨d',hd',rd'⟩:=eg' hxs hxi
   have hi:=ay' hd'
   walk_at "y"
   refine ag' hP ?_
   walk_at "y"
   refine⟨x,k',d',p,q0,M,N,rfl,c6' (Go.of_same (c:=0) s5) rd',hM.mono (ai' (s14.trans s5)),hN'.mono (ai' (s14.trans s5)),?_⟩
   refine⟨by rw[ah,ah,aP];exact bK' (by omega),hR _ _ ⟨s5,?_⟩⟩
   rw[bP' hd',aL,aL]
   rfl
  .rintro ys H5 ⟨s5,rfl⟩ p6 hp6
   rw[hxl,bN]
   obtain⟨s6,e6⟩:=snw hp6 (.lst ((ds.map fun d=>(pD M.length N.length d).isSome).map V.bl))
   have s16:=s14.trans (s5.trans s6)
   have s46:=s5.trans s6
   generalize upd H5 p6 _=H6 at s6 e6 s16 s46 ⊢
   walk_at "y"
   refine hC' (SqL.of e6) ?_
   rw[show(ds.map fun d=>(pD M.length N.length d).isSome).all id=nl' M.length N.length ds by unfold nl';rw[List.all_map];rfl]
   cases hall:nl' M.length N.length ds with
   |false=>
    have q':=qq H6 s16
    rw[hall,bj]at q'
    walk_at "y"
    exact q'
   |true=>
    rw[hall]at qq
    have hpd:∀i d',ds[i]?=some d'->∃x,pD M.length N.length d'=some x:=fun i d' e=>Option.isSome_iff_exists.mp (bh.mp hall d' (az e))
    walk_at "y"
    walk_at "y"
    refine xl' (hx.mono s46) (fun i bb H'=>H'=H6/\i<=ds.length/\plT bb=dQ (dd (prs M.length N.length (ds.take i)))/\okT bb H6/\bb.length<=i) ⟨rfl,aT _,rfl,(fun x hx=>absurd hx aB),ag _⟩ (fun i bb H' pv=>by rw[pv.1];exact aH'.refl _) ?_ ?_
    .rintro i bb H7 x R hxi ⟨rfl,_,hpl,hok,hbl⟩ hR
     obtain⟨d',hd',rd'⟩:=eg' hxs hxi
     have hi:=ay' hd'
     obtain⟨x',hx'⟩:=hpd i d' hd'
     obtain⟨pk,rfl,hpk⟩:=uy' (c6' (Go.of_same (c:=0) s46) rd') hx'
     walk_at "y"
     walk_at "y"
     refine⟨kP x',pk,rfl,hpk,hok,bK' (by omega),hR _ _ ⟨rfl,hi,?_,qx' hok hpk,aG g3' (by omega)⟩⟩
     rw[qw',hpl,kZ',bP' hd',hU' hx',qs']
    .rintro bb H7 ⟨rfl,_,hpl,hok,hbl⟩
     rw[hxl,bN]at hpl
     refine⟨hok,fun D hD=>?_⟩
     rw[hpl]
     obtain⟨s8,e8⟩:=snw hD (.dT (dQ (dd (prs M.length N.length ds))))
     have hDn:=s16.free hD
     have s18:=s16.trans s8
     generalize upd H7 D _=H8 at s8 e8 s18 ⊢
     walk_at "y"
     refine⟨by show 2<=sizeLine;decide,fun p9 hp9=>?_⟩
     obtain⟨s9,e9⟩:=snw hp9 (.tup [nV a,nV b])
     have s19:=s18.trans s9
     have e89:=s9 _ _ e8
     show gK' false (.ref p9) _ (.ref D) (upd H8 p9 (.tup [nV a,nV b]))
     generalize upd H8 p9 _=H9 at s9 e9 s19 e89 ⊢
     refine f1' (.inr ⟨_,kP (a,b),p9,.inl e89,rfl,e9,rfl⟩) ?_
     rw[dk']
     by_cases hin:(a,b)∈prs M.length N.length ds
     .rw[if_pos (cW'.mpr hin)]
      rw[decide_eq_true hin]at qq
      simp only[cY,bc,if_false]
      walk_at "y"
      refine t3' (.inl e89) fun o as hal has=>?_
      have sF:aH' H (upd H9 D (.frz o (.dT (dQ (dd (prs M.length N.length ds)))))):=uH' hDn s19
      have tF:Tp H9 (upd H9 D (.frz o (.dT (dQ (dd (prs M.length N.length ds)))))):=oi' e89 fun xs z=>by cases z
      have eF:upd H9 D (.frz o (.dT (dQ (dd (prs M.length N.length ds))))) D=some (.frz o (.dT (dQ (dd (prs M.length N.length ds))))):=ab'
      generalize upd H9 D _=HF at sF tF eF ⊢
      refine p1' (ks:=as.map V.ref) (fun i ys H'=>aH' HF H'/\i<=(dd (prs M.length N.length ds)).length/\ys=(((dd (prs M.length N.length ds)).take i).map (okq M N (dd (prs M.length N.length ds)))).map V.bl) ⟨aH'.refl _,aT _,rfl⟩ (fun i ys H' pv=>⟨_,pv.1 _ _ eF⟩) ?_ ?_
      .rintro i ys H10 x R hxi ⟨s10,_,rfl⟩ hR
       obtain⟨x',pk,hx',rfl,hpk⟩:=oh' hal hxi
       have hi:=ay' hx'
       have hlt:=of' (cW'.mp (az hx'))
       have hdl:(dd (prs M.length N.length ds)).length<=40000:=aG uD' (aG fi' hdz)
       walk_at "y"
       refine ag' hT ?_
       walk_at "y"
       refine⟨p,q0,pk,D,M,N,x',dd (prs M.length N.length ds),rfl,(hM.mono (ai' sF)).mono (ai' s10),(hN'.mono (ai' sF)).mono (ai' s10),s10 _ _ (tF _ _ (has i pk _ hpk (uI' hx'))),hlt.1,hlt.2,.inr ⟨o,s10 _ _ eF⟩,fun H11 s11=>?_⟩
       refine⟨by rw[ah,ah,aP];exact bK' (by omega),hR _ _ ⟨s10.trans s11,hi,?_⟩⟩
       rw[bP' hx',aL,aL]
       rfl
      .rintro ys H10 ⟨s10,_,rfl⟩ p11 hp11
       rw[ah,hal,hV',bN]
       obtain⟨s11,e11⟩:=snw hp11 (.lst (((dd (prs M.length N.length ds)).map (okq M N (dd (prs M.length N.length ds)))).map V.bl))
       have sE:=sF.trans (s10.trans s11)
       generalize upd H10 p11 _=H11 at s11 e11 sE ⊢
       walk_at "y"
       refine hC' (SqL.of e11) ?_
       rw[show((dd (prs M.length N.length ds)).map (okq M N (dd (prs M.length N.length ds)))).all id=(dd (prs M.length N.length ds)).all (okq M N (dd (prs M.length N.length ds))) by rw[List.all_map];rfl,k3']
       have:=qq H11 sE
       rw[cj,cj]at this
       exact this
     .rw[if_neg fun z=>hin (cW'.mp z)]
      rw[decide_eq_false hin]at qq
      simp only[cY,bc,if_false]
      walk_at "y"
      have:=qq H9 s19
      rw[cj,bj]at this
      exact this
theorem qy' {C:Rc} {σ:L2.St} {H:Hp} {D:Ends} {k j:Bool} {a b:Addr} {xs ys:List V} {t:Ct} {bd:Css} (hw:xs.length=ys.length) (Pv:Nat->L2.St->Hp->Prop) (h0:Pv 0 σ H) (hl:∀i σ H,i<=xs.length->Pv i σ H->Sq k C.K H a xs/\Sq j C.K H b ys)
  (hs:∀i x y σ H p,xs[i]?=some x->ys[i]?=some y->H p=none->Pv i σ H->tG C t (.ref p) σ (upd H p (.tup [x,y])) (tSs C bd { D with nx:=Pv (i+1),ct:=Pv (i+1),bk:=D.nx })) (hd:∀σ H,Pv xs.length σ H->D.nx σ H):pM' C t bd D σ (oX' k j C.K a b) H:=by
 refine⟨fun i m σ H=>m=xs.length-i/\i<=xs.length/\Pv i σ H,⟨xs.length,by simp,aT _,h0⟩,?_⟩
 rintro i m σ H ⟨rfl,hi,p⟩
 obtain⟨q1,q2⟩:=hl i σ H hi p
 by_cases hlt:i<xs.length
 .refine .inr ⟨⟨xs,ys,xs[i],ys[i]'(hw ▸ hlt),q1,q2,ae _,ae _⟩,Pv (i+1),fun σ' H' p'=>⟨xs.length-(i+1),by omega,rfl,hlt,p'⟩,fun x H' y=>?_⟩
  obtain⟨ad,u,v,rfl,hn,y1,y2,rfl⟩:=y
  exact hs i u v σ H ad (y1 xs q1) (y2 ys q2) hn p
 .have e:i=xs.length:=by omega
  subst e
  exact .inl ⟨⟨xs,ys,q1,q2,.inl (ag _)⟩,hd σ H p⟩
def f8':Sp:=fun vs H Q _=>∃(v:V) (k:Nat) (d:PyData) (p q:Addr) (M N:List Rm),vs=[v,.ref p,.ref q]/\RdV H k v d/\IsM H p M/\IsM H q N/\∀H',aH' H H'->Q (.bl (pD M.length N.length d).isSome) H'
theorem oj' {m n:Nat} {x y:PyData}:(pD m n (.tuple [x,y])).isSome=(inD x 0 ((m:Int)-1)&&inD y 0 ((n:Int)-1)):=by
 show(if(inD x 0 ((m:Int)-1)&&inD y 0 ((n:Int)-1))=true then some _ else none).isSome=_
 cases(inD x 0 ((m:Int)-1)&&inD y 0 ((n:Int)-1))<;>rfl
theorem k4' {C:Rc} (hN:C.N.length=5):∀vs H Q E,f8' vs H Q E->tSs C cV' { nx:=fun _ H'=>Q .non H',rt:=Q } (L2.aK' C.N vs) H:=by
 intro vs H Q E h
 obtain⟨v,k,d,p,q0,M,N,rfl,hr,hM,hN',q⟩:=h
 rw[ao' hN]
 unfold cV'
 have q0':=q H (aH'.refl _)
 walk_at "y"
 refine xg' hr ?_
 cases ht:iT d with
 |false=>
  have e:pD M.length N.length d=none:=kY' (by cases d<;>first|rfl|cases ht)
  rw[e]at q0'
  walk_at "y"
  exact q0'
 |true=>
  obtain⟨av,xs,ds,k',rfl,rfl,hav,rfl,hxs⟩:=eQ' hr ht
  have hxl:=fo' hxs
  walk_at "y"
  refine aR' (SqT.of hav) ?_
  rw[hxl]
  walk_at "y"
  by_cases h2:ds.length=2
  .rw[show(!decide (((ds.length:Nat):Int)=2))=false by rw[decide_eq_true (by omega)];rfl]
   obtain⟨dx,dy,rfl⟩:∃x y,ds=[x,y]:=by
    match ds,h2 with
    | [x,y],_=>exact⟨x,y,rfl⟩
   obtain⟨vx,vy,rfl,rx,ry⟩:=hK' hxs
   rw[oj']at q0'
   have qq:∀H',aH' H H'->Q (.bl (inD dx 0 ((M.length:Int)-1)&&inD dy 0 ((N.length:Int)-1))) H':=fun H' s=>by have:=q H' s;rw[oj']at this;exact this
   obtain⟨mv,hmv,hmr⟩:=id hM
   obtain⟨nv,hnv,hnr⟩:=id hN'
   walk_at "y"
   refine aR' (SqT.of hmv) ?_
   rw[hmr.len]
   walk_at "y"
   refine aR' (SqT.of hnv) ?_
   rw[hnr.len]
   walk_at "y"
   refine⟨by show 2<=sizeLine;decide,fun pl hpl=>?_⟩
   obtain⟨s1,e1⟩:=snw hpl (.lst [.int M.length,.int N.length])
   generalize upd H pl _=H1 at s1 e1 ⊢
   refine pO' (k:=true) (j:=false) (xs:=[vx,vy]) (ys:=[.int M.length,.int N.length]) (SqT.of (s1 _ _ hav)) (SqL.of e1) ?_
   refine qy' (xs:=[vx,vy]) (ys:=[.int M.length,.int N.length]) rfl (fun i σ H'=>(∃x3 x4,σ=[some (.ref av),some (.ref p),some (.ref q0),x3,x4])/\aH' H1 H'/\(1<=i->inD dx 0 ((M.length:Int)-1)=true)/\(2<=i->inD dy 0 ((N.length:Int)-1)=true)) ⟨⟨_,_,rfl⟩,aH'.refl _,fun z=>by omega,fun z=>by omega⟩ (fun i σ H' _ pv=>⟨SqT.of (pv.2.1 _ _ (s1 _ _ hav)),SqL.of (pv.2.1 _ _ e1)⟩) ?_ ?_
   .rintro i x y σ H2 pp hx hy hpp ⟨⟨x3,x4,rfl⟩,s2,g1,g2⟩
    obtain⟨dd',m,rfl,rd',hi,hdm⟩:∃(dd':PyData) (m:Nat),y=.int m/\RdV H k' x dd'/\i<2/\((i=0/\dd'=dx/\m=M.length)\/(i=1/\dd'=dy/\m=N.length)):=by
     match i,hx,hy with
     |0,hx,hy=>cases hx;cases hy;exact⟨dx,_,rfl,rx,by decide,.inl ⟨rfl,rfl,rfl⟩⟩
     |1,hx,hy=>cases hx;cases hy;exact⟨dy,_,rfl,ry,by decide,.inr ⟨rfl,rfl,rfl⟩⟩
     |i+2,hx,hy=>cases hx
    refine dg' (SqT.of ab') ?_
    have s3:=s2.trans (ah' hpp (.tup [x,.int m]))
    have s03:=s1.trans s3
    generalize upd H2 pp (.tup [x,.int m])=H3 at s3 s03 ⊢
    have rd3:=c6' (Go.of_same (c:=0) s03) rd'
    have good:∀H4,aH' H1 H4->inD dd' 0 ((m:Int)-1)=true->(aH' H1 H4/\(1<=i+1->inD dx 0 ((M.length:Int)-1)=true)/\(2<=i+1->inD dy 0 ((N.length:Int)-1)=true)):=fun H4 s hin=>by
     rcases hdm with⟨rfl,rfl,rfl⟩|⟨rfl,rfl,rfl⟩
     .exact⟨s,fun _=>hin,fun z=>by omega⟩
     .exact⟨s,fun _=>g1 (ag 1),fun _=>hin⟩
    have bad:∀H4,aH' H H4->inD dd' 0 ((m:Int)-1)=false->Q (.bl false) H4:=fun H4 s hin=>by
     have:=qq H4 s
     rcases hdm with⟨rfl,rfl,rfl⟩|⟨rfl,rfl,rfl⟩
     .rw[hin,bj]at this;exact this
     .rw[hin,cT]at this;exact this
    have inE:inD dd' 0 ((m:Int)-1)=(iI dd'&&!iB dd'&&(decide (0<=f4' dd')&&decide (f4' dd'<m))):=by
     unfold inD
     rw[gN',Bool.and_assoc]
     congr 2
     rw[bK,decide_eq_true_eq,decide_eq_true_eq]
     omega
    walk_at "y"
    refine yn' rd3 ?_
    cases hi1:iI dd' with
    |false=>
     rw[hi1,bj,bj]at inE
     walk_at "y"
     exact bad H3 s03 inE
    |true=>
     walk_at "y"
     refine yo' rd3 ?_
     cases hb1:iB dd' with
     |true=>
      rw[hb1,Bool.not_true,cT,bj]at inE
      walk_at "y"
      exact bad H3 s03 inE
     |false=>
      have hx:x=.int (f4' dd'):=hJ' rd3 (by rw[gN',hi1,hb1];rfl)
      rw[hi1,hb1,Bool.not_false,Bool.and_true,cj]at inE
      subst hx
      walk_at "y"
      walk_at "y"
      refine kw' fun pr hpr=>?_
      obtain⟨s4,e4⟩:=snw hpr (.rng 0 (m:Int))
      have s34:=s3.trans s4
      have s04:=s03.trans s4
      generalize upd H3 pr _=H4 at s4 e4 s34 s04 ⊢
      refine qb' e4 ?_
      cases hd2:(decide (0<=f4' dd')&&decide (f4' dd'<(m:Int)))with
      |false=>
       rw[hd2]at inE
       walk_at "y"
       exact bad H4 s04 inE
      |true=>
       rw[hd2]at inE
       walk_at "y"
       exact⟨⟨_,_,rfl⟩,good H4 s34 inE⟩
   .rintro σ H2 ⟨⟨x3,x4,rfl⟩,s2,g1,g2⟩
    have:=qq H2 (s1.trans s2)
    rw[g1 (by show 1<=2;decide),g2 (by show 2<=2;decide)]at this
    walk_at "y"
    exact this
  .rw[show(!decide (((ds.length:Nat):Int)=2))=true by rw[decide_eq_false (by omega)];rfl]
   have e:pD M.length N.length (.tuple ds)=none:=kY' (by rw[f5',decide_eq_false h2])
   rw[e]at q0'
   walk_at "y"
   exact q0'
def PrQ (H:Hp) (x:Addr×List Key×Addr×V) (q:Nat×Nat):Prop:=H x.1=some (.tup [.ref x.2.2.1,.bl true])/\x.2.1=kP q/\x.2.2.2=.bl true/\H x.2.2.1=some (.tup [nV q.1,nV q.2])
theorem PrQ.mono {H H':Hp} (s:aH' H H') {x:Addr×List Key×Addr×V} {q:Nat×Nat} (h:PrQ H x q):PrQ H' x q:=⟨s _ _ h.1,h.2.1,h.2.2.1,s _ _ h.2.2.2⟩
theorem f9' {H:Hp}:∀{L:PL} {ps l:List (Nat×Nat)},dh' (PrQ H) L ps->L.foldl (fun kvs x=>dn' kvs x.2.1 x.2.2.2) (dQ l)=dQ (ps.foldl ad l)
 | [],[],l,_=>rfl
 |x :: L,q :: ps,l,h=>by
  rw[cM,cM,h.1.2.1,h.1.2.2.1,kZ']
  exact f9' h.2
 | [],_ :: _,_,h=>h.elim
 |_ :: _,[],_,h=>h.elim
theorem qz' {H:Hp} {Q:VK} {p:Addr} {L:PL} {ps:List (Nat×Nat)} (h:dh' (PrQ H) L ps) (hp:H p=some (.lst (L.map fun x=>V.ref x.1))) (q:∀d,H d=none->Q (.ref d) (upd H d (.dT (dQ (dd ps))))):xe' .dct Q (.ref p) H:=by
 refine⟨p,L,rfl,hp,fun x hx=>?_,fun d hd=>?_⟩
 .obtain⟨i,e⟩:=bQ hx
  obtain⟨q',_,hq⟩:=h.getL e
  exact⟨by rw[hq.2.2.1];exact hq.1,by rw[hq.2.1,xj'];exact hq.2.2.2⟩
 .have e:l7' L=dQ (dd ps):=f9' (l:=[]) h
  rw[e]
  exact q d hd
def qX':Sp:=fun vs H Q _=>∃(p q:Addr) (a b:Nat) (v:V) (k:Nat) (d:PyData) (M N:List Rm),vs=[.ref p,.int a,.ref q,.int b,v]/\IsM H p M/\IsM H q N/\RdV H k v d/\(∀ds,le' d=some ds->ds.length<=40000)/\∀H',aH' H H'->Q (.bl (shD M N a b d)) H'
theorem qA' {C:Rc} (hN:C.N.length=11) (hP:C.fs "_law_is_pair"=some f8'):∀vs H Q E,qX' vs H Q E->tSs C nf' { nx:=fun _ H'=>Q .non H',rt:=Q } (L2.aK' C.N vs) H:=by
 intro vs H Q E h
 obtain⟨p,q0,a,b,v,k,d,M,N,rfl,hM,hN',hr,hz,q⟩:=h
 rw[ao' hN]
 unfold nf'
 walk_at "y"
 refine⟨by decide,fun pt hpt=>?_⟩
 obtain⟨s1,e1⟩:=snw hpt (.tup [.ty "list",.ty "tuple"])
 have hr1:=c6' (Go.of_same (c:=0) s1) hr
 generalize upd H pt _=H1 at s1 e1 hr1 ⊢
 refine uF' hr1 e1 ?_
 cases hd:le' d with
 |none=>
  have q':=q H1 s1
  unfold shD at q'
  rw[hd]at q'
  rw[show iLT d=false by unfold iLT;rw[hd];rfl]
  walk_at "y"
  exact q'
 |some ds=>
  have hdz:=hz ds hd
  obtain⟨av,xs,k',rfl,hx,hxs⟩:=og' hr1 hd
  have hxl:=fo' hxs
  rw[show iLT d=true by unfold iLT;rw[hd];rfl]
  have qq:∀H',aH' H H'->Q (.bl (nl' M.length N.length ds&&(decide ((a,b)∈prs M.length N.length ds)&&(prs M.length N.length ds).all (okq M N (prs M.length N.length ds))))) H':=fun H' s=>by
   have:=q H' s
   unfold shD at this
   rw[hd]at this
   exact this
  walk_at "y"
  refine kS' hx (fun i ys H'=>aH' H1 H'/\ys=((ds.take i).map fun d=>(pD M.length N.length d).isSome).map V.bl) ⟨aH'.refl _,rfl⟩ (fun i ys H' pv=>pv.1) ?_ ?_
  .rintro i ys H5 x R hxi ⟨s5,rfl⟩ hR
   obtain⟨d',hd',rd'⟩:=eg' hxs hxi
   have hi:=ay' hd'
   walk_at "y"
   refine ag' hP ?_
   walk_at "y"
   refine⟨x,k',d',p,q0,M,N,rfl,c6' (Go.of_same (c:=0) s5) rd',hM.mono (ai' (s1.trans s5)),hN'.mono (ai' (s1.trans s5)),fun H6 s6=>?_⟩
   refine⟨by rw[ah,ah,aP];exact bK' (by omega),hR _ _ ⟨s5.trans s6,?_⟩⟩
   rw[bP' hd',aL,aL]
   rfl
  .rintro ys H5 ⟨s5,rfl⟩ p6 hp6
   rw[hxl,bN]
   obtain⟨s6,e6⟩:=snw hp6 (.lst ((ds.map fun d=>(pD M.length N.length d).isSome).map V.bl))
   have s16:=s1.trans (s5.trans s6)
   have s46:=s5.trans s6
   generalize upd H5 p6 _=H6 at s6 e6 s16 s46 ⊢
   walk_at "y"
   refine hC' (SqL.of e6) ?_
   rw[show(ds.map fun d=>(pD M.length N.length d).isSome).all id=nl' M.length N.length ds by unfold nl';rw[List.all_map];rfl]
   cases hall:nl' M.length N.length ds with
   |false=>
    have q':=qq H6 s16
    rw[hall,bj]at q'
    walk_at "y"
    exact q'
   |true=>
    rw[hall]at qq
    have hpd:∀i d',ds[i]?=some d'->∃x,pD M.length N.length d'=some x:=fun i d' e=>Option.isSome_iff_exists.mp (bh.mp hall d' (az e))
    have hx6:=hx.mono s46
    walk_at "y"
    (try rw[n9'])
    walk_at "y"
    refine kS' hx6 (fun i ys H'=>aH' H6 H'/\i<=ds.length/\∃L:PL,ys=(L.map fun x=>V.ref x.1)/\dh' (PrQ H') L (prs M.length N.length (ds.take i))) ⟨aH'.refl _,aT _,[],rfl,trivial⟩ (fun i ys H' pv=>pv.1) ?_ ?_
    .rintro i ys H7 x R hxi ⟨s7,_,L,rfl,hP7⟩ hR
     obtain⟨d',hd',rd'⟩:=eg' hxs hxi
     have hi:=ay' hd'
     obtain⟨x',hx'⟩:=hpd i d' hd'
     obtain⟨pk,rfl,hpk⟩:=uy' (c6' (Go.of_same (c:=0) (s46.trans s7)) rd') hx'
     have hll:L.length<=i:=by
      rw[hP7.len]
      exact aG fi' (by rw[aP];exact Nat.min_le_left _ _)
     walk_at "y"
     refine⟨by show 2<=sizeLine;decide,fun p8 hp8=>?_⟩
     obtain⟨s8,e8⟩:=snw hp8 (.tup [.ref pk,.bl true])
     have hpk8:=s8 _ _ hpk
     have hP8:=hP7.mono fun _ _ z=>PrQ.mono s8 z
     generalize upd H7 p8 _=H8 at s8 e8 hpk8 hP8 ⊢
     refine⟨by rw[ah];exact bK' (by omega),hR _ _ ⟨s7.trans s8,hi,L++[(p8,kP x',pk,.bl true)],by rw[aL];rfl,?_⟩⟩
     rw[bP' hd',hU' hx']
     exact hP8.snoc ⟨e8,rfl,rfl,hpk8⟩
    .rintro ys H7 ⟨s7,_,L,rfl,hP7⟩ p8 hp8
     rw[hxl,bN]at hP7
     obtain⟨s8,e8⟩:=snw hp8 (.lst (L.map fun x=>V.ref x.1))
     have hP8:=hP7.mono fun _ _ z=>PrQ.mono s8 z
     have s18:=s16.trans (s7.trans s8)
     generalize upd H7 p8 _=H8 at s8 e8 hP8 s18 ⊢
     refine qz' hP8 e8 fun D hD=>?_
     obtain⟨s9,e9⟩:=snw hD (.dT (dQ (dd (prs M.length N.length ds))))
     have hDn:=s18.free hD
     have s19:=s18.trans s9
     generalize upd H8 D _=H9 at s9 e9 s19 ⊢
     walk_at "y"
     refine t3' (.inl e9) fun o as hal has=>?_
     have sF:aH' H (upd H9 D (.frz o (.dT (dQ (dd (prs M.length N.length ds)))))):=uH' hDn s19
     have tF:Tp H9 (upd H9 D (.frz o (.dT (dQ (dd (prs M.length N.length ds)))))):=oi' e9 fun xs z=>by cases z
     have eF:upd H9 D (.frz o (.dT (dQ (dd (prs M.length N.length ds))))) D=some (.frz o (.dT (dQ (dd (prs M.length N.length ds))))):=ab'
     generalize upd H9 D _=HF at sF tF eF ⊢
     refine t4' (ks:=as.map V.ref) (fun i σ H'=>(∃x7 x8 x9 x10,σ=[some (.ref p),some (.int a),some (.ref q0),some (.int b),some (.ref av),none,some (.ref D),x7,x8,x9,x10])/\aH' HF H'/\∀j x,j<i->(dd (prs M.length N.length ds))[j]?=some x->okq M N (dd (prs M.length N.length ds)) x=true) ⟨⟨_,_,_,_,rfl⟩,aH'.refl _,fun j x z=>by omega⟩ (fun i σ H' pv=>⟨_,pv.2.1 _ _ eF⟩) ?_ ?_
     .rintro i x σ H10 hxi ⟨⟨x7,x8,x9,x10,rfl⟩,s10,hok⟩
      obtain⟨x',pk,hx',rfl,hpk⟩:=oh' hal hxi
      have hlt:=of' (cW'.mp (az hx'))
      have hpk10:H10 pk=some (.tup [nV x'.1,nV x'.2]):=s10 _ _ (tF _ _ (has i pk _ hpk (uI' hx')))
      refine dg' (SqT.of hpk10) ?_
      have sF10:=sF.trans s10
      obtain⟨mv,pr,hmv,hpr,hr⟩:=bX' (hM.mono (ai' sF10)) hlt.1
      obtain⟨nv,pr2,hnv,hpr2,hr2⟩:=bX' (hN'.mono (ai' sF10)) hlt.2
      simp only[nV]
      walk_at "y"
      refine a0' (SqT.of hmv) (a1' hpr) ?_
      walk_at "y"
      refine a0' (SqT.of hnv) (a1' hpr2) ?_
      walk_at "y"
      refine ks' (SqT.of hr) (SqT.of hr2) ?_
      have nbad:okq M N (dd (prs M.length N.length ds)) x'=false->∀H',aH' H H'->Q (.bl false) H':=fun z H' s=>by
       have h1:=qq H' s
       have h2:(prs M.length N.length ds).all (okq M N (prs M.length N.length ds))=false:=by
        rw[<- k3',List.all_eq_false]
        exact⟨x',az hx',by rw[z];exact al⟩
       rw[h2,cT,cT]at h1
       exact h1
      refine qy' (xs:=[oV (rmA M x'.1).1,oV (rmA M x'.1).2]) (ys:=[oV (rmA N x'.2).1,oV (rmA N x'.2).2]) rfl (fun j σ H'=>(∃x9 x10,σ=[some (.ref p),some (.int a),some (.ref q0),some (.int b),some (.ref av),none,some (.ref D),some (.int x'.1),some (.int x'.2),x9,x10])/\aH' H10 H'/\(1<=j->okb (dd (prs M.length N.length ds)) (rmA M x'.1).1 (rmA N x'.2).1=true)/\(2<=j->okb (dd (prs M.length N.length ds)) (rmA M x'.1).2 (rmA N x'.2).2=true)) ⟨⟨_,_,rfl⟩,aH'.refl _,fun z=>by omega,fun z=>by omega⟩ (fun j σ H' _ pv=>⟨SqT.of (pv.2.1 _ _ hr),SqT.of (pv.2.1 _ _ hr2)⟩) ?_ ?_
      .rintro j vx vy σ H11 pp hvx hvy hpp ⟨⟨x9,x10,rfl⟩,s11,g1,g2⟩
       obtain⟨o1,u1,rfl,rfl,hj⟩:∃o1 u1:Option Nat,vx=oV o1/\vy=oV u1/\((j=0/\o1=(rmA M x'.1).1/\u1=(rmA N x'.2).1)\/(j=1/\o1=(rmA M x'.1).2/\u1=(rmA N x'.2).2)):=by
        match j,hvx,hvy with
        |0,h1,h2=>cases h1;cases h2;exact⟨_,_,rfl,rfl,.inl ⟨rfl,rfl,rfl⟩⟩
        |1,h1,h2=>cases h1;cases h2;exact⟨_,_,rfl,rfl,.inr ⟨rfl,rfl,rfl⟩⟩
        |j+2,h1,h2=>cases h1
       refine dg' (SqT.of ab') ?_
       have s12:=s11.trans (ah' hpp (.tup [oV o1,oV u1]))
       generalize upd H11 pp (.tup [oV o1,oV u1])=H12 at s12 ⊢
       have sF12:=sF10.trans s12
       have good:∀H',aH' H10 H'->okb (dd (prs M.length N.length ds)) o1 u1=true->(aH' H10 H'/\(1<=j+1->okb (dd (prs M.length N.length ds)) (rmA M x'.1).1 (rmA N x'.2).1=true)/\(2<=j+1->okb (dd (prs M.length N.length ds)) (rmA M x'.1).2 (rmA N x'.2).2=true)):=fun H' s z=>by
        rcases hj with⟨rfl,rfl,rfl⟩|⟨rfl,rfl,rfl⟩
        .exact⟨s,fun _=>z,fun y=>by omega⟩
        .exact⟨s,fun _=>g1 (ag 1),fun _=>z⟩
       have bad:∀H',aH' H H'->okb (dd (prs M.length N.length ds)) o1 u1=false->Q (.bl false) H':=fun H' s z=>by
        refine nbad ?_ H' s
        unfold okq
        rcases hj with⟨rfl,rfl,rfl⟩|⟨rfl,rfl,rfl⟩
        .rw[z,bj]
        .rw[z,cT]
       cases o1 with
       |none=>
        cases u1 with
        |none=>
         simp only[oV]
         walk_at "y"
         rw[pS' (show iP' V.non V.non=true from rfl)]
         walk_at "y"
         exact⟨⟨_,_,rfl⟩,good H12 s12 rfl⟩
        |some y=>
         simp only[oV]
         walk_at "y"
         rw[pS' (show iP' V.non (V.int y)=true from rfl),show(!decide (V.non=V.int (y:Int)))=true from rfl]
         walk_at "y"
         exact bad H12 sF12 rfl
       |some x=>
        cases u1 with
        |none=>
         simp only[oV]
         walk_at "y"
         rw[pS' (show iP' (V.int x) V.non=true from rfl),show(!decide (V.int (x:Int)=V.non))=true from rfl]
         walk_at "y"
         exact bad H12 sF12 rfl
        |some y=>
         simp only[oV]
         walk_at "y"
         refine⟨by show 2<=sizeLine;decide,fun p13 hp13=>?_⟩
         obtain⟨s13,e13⟩:=snw hp13 (.tup [.int x,.int y])
         have s113:=s12.trans s13
         have eF13:=s113 _ _ (s10 _ _ eF)
         have sF13:=sF10.trans s113
         show gK' true (.ref p13) _ (.ref D) (upd H12 p13 (.tup [.int x,.int y]))
         generalize upd H12 p13 _=H13 at s13 e13 s113 eF13 sF13 ⊢
         refine f1' (.inr ⟨_,kP (x,y),p13,.inr ⟨o,eF13⟩,rfl,e13,rfl⟩) ?_
         rw[dk']
         by_cases hin:(x,y)∈dd (prs M.length N.length ds)
         .rw[if_pos hin]
          simp only[cY]
          walk_at "y"
          exact⟨⟨_,_,rfl⟩,good H13 s113 (by show(false || decide ((x,y)∈_))=true;rw[decide_eq_true hin];rfl)⟩
         .rw[if_neg hin]
          simp only[cY]
          walk_at "y"
          exact bad H13 sF13 (by show(false || decide ((x,y)∈_))=false;rw[decide_eq_false hin];rfl)
      .rintro σ H11 ⟨⟨x9,x10,rfl⟩,s11,g1,g2⟩
       refine⟨⟨_,_,_,_,rfl⟩,s10.trans s11,fun j y hj hy=>?_⟩
       by_cases e:j=i
       .subst e
        cases hx'.symm.trans hy
        unfold okq
        rw[g1 (by show 1<=2;decide),g2 (by show 2<=2;decide)]
        rfl
       .exact hok j y (by omega) hy
     .rintro σ H10 ⟨⟨x7,x8,x9,x10,rfl⟩,s10,hok⟩
      rw[ah,hal,hV']at hok
      have hgood:(prs M.length N.length ds).all (okq M N (prs M.length N.length ds))=true:=by
       rw[<- k3',bh]
       intro x hx
       obtain⟨i,e⟩:=bQ hx
       exact hok i x (ay' e) e
      rw[hgood]at qq
      have sF10:=sF.trans s10
      walk_at "y"
      refine⟨by show 2<=sizeLine;decide,fun p11 hp11=>?_⟩
      obtain⟨s11,e11⟩:=snw hp11 (.tup [nV a,nV b])
      have eF11:=s11 _ _ (s10 _ _ eF)
      have sF11:=sF10.trans s11
      show gK' false (.ref p11) _ (.ref D) (upd H10 p11 (.tup [nV a,nV b]))
      generalize upd H10 p11 _=H11 at s11 e11 eF11 sF11 ⊢
      refine f1' (.inr ⟨_,kP (a,b),p11,.inr ⟨o,eF11⟩,rfl,e11,rfl⟩) ?_
      rw[dk']
      by_cases hin:(a,b)∈prs M.length N.length ds
      .rw[if_pos (cW'.mpr hin)]
       rw[decide_eq_true hin]at qq
       exact qq H11 sF11
      .rw[if_neg fun z=>hin (cW'.mp z)]
       rw[decide_eq_false hin]at qq
       exact qq H11 sF11
def iG' (H:Hp) (v:V) (x:Nat×Nat):Prop:=∃p,v=.ref p/\H p=some (.tup [nV x.1,nV x.2])
theorem iG'.mono {H H':Hp} (s:Tp H H') {v:V} {x:Nat×Nat} (h:iG' H v x):iG' H' v x:=by
 obtain⟨p,e,h⟩:=h
 exact⟨p,e,s _ _ h⟩
structure Pap (H H':Hp) (L D:Addr) (m n:Nat) (us:List V) (S:List (Nat×Nat)):Prop where
 s:aH' H H'
 l0:H L=none
 d0:H D=none
 ld:L≠D
 l:H' L=some (.lst us)
 d:H' D=some (.dT (dQ S))
 p:dh' (iG' H') us S
 nd:S.Nodup
 lt:∀x∈S,x.1<m/\x.2<n
theorem Pap.mono {H H' H2:Hp} {L D:Addr} {m n:Nat} {us:List V} {S:List (Nat×Nat)} (h:Pap H H' L D m n us S) (s:aH' H' H2):Pap H H2 L D m n us S:=⟨h.s.trans s,h.l0,h.d0,h.ld,s _ _ h.l,s _ _ h.d,h.p.mono fun _ _ z=>z.mono (ai' s),h.nd,h.lt⟩
theorem Pap.len {H H':Hp} {L D:Addr} {m n:Nat} {us:List V} {S:List (Nat×Nat)} (h:Pap H H' L D m n us S) (hm:m<=60) (hn:n<=60):S.length<=3600:=K13.fi' h.nd fun z hz=>by
 have:=h.lt z hz
 omega
def c8':Sp:=fun vs H Q _=>∃(p q:Addr) (a b:Nat) (M N:List Rm),vs=[.ref p,.int a,.ref q,.int b]/\IsM H p M/\IsM H q N/\OkM M/\OkM N/\a<M.length/\b<N.length/\M.length<=60/\N.length<=60/\∀(L:Addr) (us:List V) (S:List (Nat×Nat)) (H':Hp),aH' H H'->H' L=some (.lst us)->dh' (iG' H') us S->(∀x∈S,x.1<M.length/\x.2<N.length)->1<=S.length->S.length<=3600->Q (.ref L) H'
theorem ok' {M:List Rm} {i:Nat} (h:OkM M) (hi:i<M.length):OkR M.length (rmA M i):=by
 unfold rmA
 rw[ae hi]
 exact h _ (cg hi)
theorem iA' {C:Rc} (hN:C.N.length=11):∀vs H Q E,c8' vs H Q E->tSs C fl' { nx:=fun _ H'=>Q .non H',rt:=Q } (L2.aK' C.N vs) H:=by
 intro vs H Q E h
 obtain⟨p,q0,a,b,M,N,rfl,hM,hN',hO,hO',ha,hb,hM6,hN6,q⟩:=h
 rw[ao' hN]
 unfold fl'
 walk_at "y"
 refine⟨by show 2<=sizeLine;decide,fun p1 hp1=>?_⟩
 obtain⟨s1,e1⟩:=snw hp1 (.tup [.int a,.int b])
 generalize upd H p1 _=H1 at s1 e1 ⊢
 refine⟨by show 1<=sizeLine;decide,fun L hL=>?_⟩
 have hL0:=s1.free hL
 obtain⟨s2,e2⟩:=snw hL (.lst [.ref p1])
 generalize upd H1 L _=H2 at s2 e2 ⊢
 walk_at "y"
 intro D hD
 have hD0:=(s1.trans s2).free hD
 obtain⟨s3,e3⟩:=snw hD (.dT [])
 have hLD:L≠D:=af' e2 hD
 have s03:=s1.trans (s2.trans s3)
 have e23:=s3 _ _ e2
 have e13:=s3 _ _ (s2 _ _ e1)
 generalize upd H2 D _=H3 at s3 e3 s03 e23 e13 ⊢
 refine⟨by show 2<=sizeLine;decide,fun p4 hp4=>?_⟩
 obtain⟨s4,e4⟩:=snw hp4 (.tup [.int a,.int b])
 generalize upd H3 p4 _=H4 at s4 e4 ⊢
 have hD4:=s4 _ _ e3
 refine t2' (ks:=kP (a,b)) e4 hD4 ?_
 have tp5:Tp H4 (upd H4 D (.dT [(kP (a,b),.bl true)])):=K13.kQ' fun xs z=>by rw[hD4]at z;cases z
 have pap0:Pap H (upd H4 D (.dT [(kP (a,b),.bl true)])) L D M.length N.length [.ref p1] [(a,b)]:=⟨uH' hD0 (s03.trans s4),hL0,hD0,hLD,by rw[ad' hLD];exact s4 _ _ e23,ab',⟨⟨p1,rfl,tp5 _ _ (s4 _ _ e13)⟩,trivial⟩,by simp,fun x hx=>by
  have:x=(a,b):=by simpa using hx
  subst this
  exact⟨ha,hb⟩⟩
 generalize upd H4 D _=H5 at pap0 ⊢
 walk_at "y"
 refine tQ' (fun m σ H'=>∃(k:Nat) (z:Int) (us:List V) (S:List (Nat×Nat)) (x7 x8 x9 x10:Option V),σ=[some (.ref p),some (.int a),some (.ref q0),some (.int b),some (.ref L),some (.ref D),some (.int z),x7,x8,x9,x10]/\z=(k:Int)/\Pap H H' L D M.length N.length us S/\k<=S.length/\1<=S.length/\m=3600-k) 3600 ⟨0,0,_,[(a,b)],_,_,_,_,rfl,rfl,pap0,aT _,ag _,rfl⟩ ?_
 rintro m σ H6 ⟨k,z,us,S,x7,x8,x9,x10,rfl,hz,pap,hkS,hS1,rfl⟩
 subst hz
 have hul:=pap.p.len
 have hS36:=pap.len hM6 hN6
 walk_at "y"
 refine d7' (SqL.of pap.l) ?_
 walk_at "y"
 by_cases hk:k<S.length
 .rw[decide_eq_true (show(k:Int)<us.length by omega)]
  refine tR' ?_
  walk_at "y"
  obtain⟨vk,hvk⟩:∃v,us[k]?=some v:=⟨_,ae (by omega)⟩
  obtain⟨x,hx,pk,rfl,hpk⟩:=pap.p.getL hvk
  have hlt:=pap.lt x (az hx)
  rw[tX']
  walk_at "y"
  refine bF' (SqL.of pap.l) (v:=.ref pk) (by rw[a1'];exact hvk) ?_
  refine dg' (SqT.of hpk) ?_
  walk_at "y"
  obtain⟨mv,pr,hmv,hpr,hr⟩:=bX' hM hlt.1
  obtain⟨nv,pr2,hnv,hpr2,hr2⟩:=bX' hN' hlt.2
  have ok1:=ok' hO hlt.1
  have ok2:=ok' hO' hlt.2
  simp only[nV]
  walk_at "y"
  refine a0' (SqT.of (pap.s _ _ hmv)) (a1' hpr) ?_
  walk_at "y"
  refine a0' (SqT.of (pap.s _ _ hnv)) (a1' hpr2) ?_
  walk_at "y"
  refine ks' (SqT.of (pap.s _ _ hr)) (SqT.of (pap.s _ _ hr2)) ?_
  refine qy' (xs:=[oV (rmA M x.1).1,oV (rmA M x.1).2]) (ys:=[oV (rmA N x.2).1,oV (rmA N x.2).2]) rfl (fun j σ H'=>∃x9 x10 us' S',σ=[some (.ref p),some (.int a),some (.ref q0),some (.int b),some (.ref L),some (.ref D),some (.int (k+1)),some (.int x.1),some (.int x.2),x9,x10]/\Pap H H' L D M.length N.length us' S'/\S.length<=S'.length) ⟨_,_,us,S,rfl,pap,ag _⟩ (fun j σ H' _ pv=>by
   obtain⟨_,_,_,_,_,pp,_⟩:=pv
   exact⟨SqT.of (pp.s _ _ hr),SqT.of (pp.s _ _ hr2)⟩) ?_ ?_
  .rintro j vx vy σ H7 pp hvx hvy hpp ⟨x9,x10,us',S',rfl,pap7,hSS⟩
   obtain⟨o1,u1,rfl,rfl,hb1,hb2⟩:∃o1 u1:Option Nat,vx=oV o1/\vy=oV u1/\(∀n,o1=some n->n<M.length)/\∀n,u1=some n->n<N.length:=by
    match j,hvx,hvy with
    |0,h1,h2=>cases h1;cases h2;exact⟨_,_,rfl,rfl,ok1.1,ok2.1⟩
    |1,h1,h2=>cases h1;cases h2;exact⟨_,_,rfl,rfl,ok1.2,ok2.2⟩
    |j+2,h1,h2=>cases h1
   refine dg' (SqT.of ab') ?_
   have pap8:=pap7.mono (ah' hpp (.tup [oV o1,oV u1]))
   generalize upd H7 pp (.tup [oV o1,oV u1])=H8 at pap8 ⊢
   cases o1 with
   |none=>
    simp only[oV]
    walk_at "y"
    exact⟨_,_,_,_,rfl,pap8,hSS⟩
   |some y=>
    cases u1 with
    |none=>
     simp only[oV]
     walk_at "y"
     exact⟨_,_,_,_,rfl,pap8,hSS⟩
    |some w=>
     simp only[oV]
     walk_at "y"
     refine⟨by show 2<=sizeLine;decide,fun p9 hp9=>?_⟩
     obtain⟨s9,e9⟩:=snw hp9 (.tup [.int y,.int w])
     have pap9:=pap8.mono s9
     show gK' true (.ref p9) _ (.ref D) (upd H8 p9 (.tup [.int y,.int w]))
     generalize upd H8 p9 _=H9 at s9 e9 pap9 ⊢
     refine f1' (.inr ⟨_,kP (y,w),p9,.inl pap9.d,rfl,e9,rfl⟩) ?_
     rw[dk']
     by_cases hin:(y,w)∈S'
     .rw[if_pos hin]
      simp only[cY]
      walk_at "y"
      exact⟨_,_,_,_,rfl,pap9,hSS⟩
     .rw[if_neg hin]
      rw[show(if true=true then !(none:Option V).isSome else(none:Option V).isSome)=true from rfl]
      walk_at "y"
      have hnd:(S'++[(y,w)]).Nodup:=List.nodup_append.mpr ⟨pap9.nd,by simp,fun u hu v hv e=>by
       have:v=(y,w):=by simpa using hv
       rw[e,this]at hu
       exact hin hu⟩
      have hlt':∀z∈S'++[(y,w)],z.1<M.length/\z.2<N.length:=fun z hz=>by
       rcases aw.mp hz with hz|hz
       .exact pap9.lt z hz
       .have:z=(y,w):=by simpa using hz
        subst this
        exact⟨hb1 _ rfl,hb2 _ rfl⟩
      have hS36':=pap9.len hM6 hN6
      have had:ad S' (y,w)=S'++[(y,w)]:=by unfold ad;rw[if_neg hin]
      refine⟨by show 2<=sizeLine;decide,fun p10 hp10=>?_⟩
      obtain⟨s10,e10⟩:=snw hp10 (.tup [.int y,.int w])
      have pap10:=pap9.mono s10
      generalize upd H9 p10 _=H10 at s10 e10 pap10 ⊢
      refine m1' (ks:=kP (y,w)) pap10.d e10 (by rw[hV'];exact bK' (by omega)) ?_
      rw[kZ',had]
      have tp11:Tp H10 (upd H10 D (.dT (dQ (S'++[(y,w)])))):=K13.kQ' fun xs z=>by rw[pap10.d]at z;cases z
      have l11:upd H10 D (.dT (dQ (S'++[(y,w)]))) L=some (.lst us'):=by rw[ad' pap10.ld];exact pap10.l
      have d11:upd H10 D (.dT (dQ (S'++[(y,w)]))) D=some (.dT (dQ (S'++[(y,w)]))):=ab'
      have s11:aH' H (upd H10 D (.dT (dQ (S'++[(y,w)])))):=uH' pap10.d0 pap10.s
      have p11:=pap10.p.mono fun _ _ z=>iG'.mono tp11 z
      generalize upd H10 D _=H11 at tp11 l11 d11 s11 p11 ⊢
      walk_at "y"
      refine⟨tyL l11 rfl,by show 2<=sizeLine;decide,fun p12 hp12=>?_⟩
      obtain⟨s12,e12⟩:=snw hp12 (.tup [.int y,.int w])
      have l12:=s12 _ _ l11
      have d12:=s12 _ _ d11
      have s012:=s11.trans s12
      have a12:=p11.mono fun _ _ z=>iG'.mono (ai' s12) z
      generalize upd H11 p12 _=H12 at s12 e12 l12 d12 s012 a12 ⊢
      have hul':=a12.len
      refine fZ' l12 (by rw[hul'];exact bK' (by omega)) ?_
      have tp13:Tp H12 (upd H12 L (.lst (us'++[.ref p12]))):=K13.kQ' fun xs z=>by rw[l12]at z;cases z
      walk_at "y"
      refine⟨_,_,_,S'++[(y,w)],rfl,⟨uH' pap10.l0 s012,pap10.l0,pap10.d0,pap10.ld,ab',by rw[ad' pap10.ld.symm];exact d12,?_,hnd,hlt'⟩,by rw[aD];omega⟩
      exact(a12.mono fun _ _ z=>iG'.mono tp13 z).snoc ⟨_,rfl,tp13 _ _ e12⟩
  .rintro σ H7 ⟨x9,x10,us',S',rfl,pap7,hSS⟩
   exact⟨_,by omega,k+1,_,us',S',_,_,_,_,rfl,by omega,pap7,by omega,by omega,rfl⟩
 .rw[decide_eq_false (show ¬(k:Int)<us.length by omega)]
  refine tS' ?_
  walk_at "y"
  exact q L us S H6 pap.s pap.l pap.p pap.lt hS1 hS36
theorem qB' {p k:Nat} {d:PyData} {ds:List PyData} (h:OkD p k d) (e:le' d=some ds):ds.length<=k+1:=by
 cases d with
 |tuple xs=>cases e;exact ux' h.ln
 |list xs=>
  cases e
  have h:=h.ln
  simp only[PyData.shown]at h
  have:=piled_le_listText (PyData.shownAll ds)
  rw[aG']at this h
  have h2:∀l:List PyData,2*l.length<=piled (l.map PyData.shown):=by
   intro l
   induction l with
   |nil=>exact aT _
   |cons d l ih=>rw[aQ,piled_cons,bo];omega
  have:=h2 ds
  omega
 |_=>cases e
def gQ' (H:Hp) (v:V):Prop:=∃d,RdV H 3 v d/\OkD 3 1500000 d/\∀ds,le' d=some ds->ds.length<=40000
theorem gQ'.go {c:Nat} {H H':Hp} {v:V} (g:Go c H H') (h:gQ' H v):gQ' H' v:=by
 obtain⟨d,h1,h2⟩:=h
 exact⟨d,c6' g h1,h2⟩
theorem nm' {H:Hp} {v:V} (h:Th H 2 200 v):gQ' H v:=by
 obtain⟨d,h1,h2⟩:=h
 exact⟨d,ut' h1 (by decide),h2.mono (by omega) (by omega),fun ds e=>by have:=qB' h2 e;omega⟩
structure Els (H:Hp) (xs:List V) (n:Nat):Prop where
 th:∀x∈xs,Th H 2 200 x
 ln:xs.length<=n
theorem Els.go {c n:Nat} {H H':Hp} {xs:List V} (g:Go c H H') (h:Els H xs n):Els H' xs n:=⟨fun x hx=>(h.th x hx).go g,h.ln⟩
theorem Els.same {n:Nat} {H H':Hp} {xs:List V} (s:aH' H H') (h:Els H xs n):Els H' xs n:=h.go (Go.of_same (c:=0) s)
theorem aW' {H:Hp} {a:Addr} {xs:List V} {n:Nat} (h:H a=some (.lst xs)) (e:Els H xs n) (hn:n<=7300):gQ' H (.ref a):=by
 obtain⟨ds,h1,h2,h3⟩:=f7' e.th
 have:=e.ln
 exact⟨.list ds,.inl ⟨xs,ds,h,rfl,h1⟩,(OkD.list (m:=7300) h2 (by omega)).mono (by omega) (by omega),fun ds' z=>by cases z;omega⟩
theorem k5' {H:Hp} {a:Addr} {xs:List V} {n:Nat} (h:H a=some (.tup xs)) (e:Els H xs n) (hn:n<=7300):gQ' H (.ref a):=by
 obtain⟨ds,h1,h2,h3⟩:=f7' e.th
 have:=e.ln
 exact⟨.tuple ds,.inr ⟨xs,ds,h,rfl,h1⟩,(OkD.tuple (m:=7300) h2 (by omega)).mono (by omega) (by omega),fun ds' z=>by cases z;omega⟩
theorem xm' {H:Hp} {v:V} {x:Nat×Nat} (h:iG' H v x) (hx:x.1<60/\x.2<60):Th H 1 47 v:=by
 obtain⟨p,rfl,hp⟩:=h
 exact cc' (p:=0) (k:=20) (m:=2) hp (by
  simp only[aN]
  exact⟨cp' (by omega),cp' (by omega),fun _ h=>nomatch h⟩) (by simp)
theorem b4' {K:W.Frag} {H:Hp} {Q:VK} {a:Addr} {xs:List V} {lo hi:Option Int} {n:Nat} (h:H a=some (.lst xs)) (e:Els H xs n) (q:∀r zs H',aH' H H'->H' r=some (.lst zs)->Els H' zs n->Q (.ref r) H'):qQ' K (.ref a) lo hi H Q\/qP' K (.ref a) lo hi H Q\/qR' K (.ref a) lo hi H Q:=
 ky' (SqL.of h) fun p hp=>by
  have s:=ah' hp (.lst (gj' xs lo hi))
  exact q p _ _ s ab' ⟨fun x hx=>((e.same s).th x (qn' hx)),aG (cr' ..) e.ln⟩
theorem bN' {K:W.Frag} {H:Hp} {Q:VK} {a b:Addr} {xs ys:List V} {n m:Nat} (h:H a=some (.lst xs)) (h2:H b=some (.lst ys)) (e:Els H xs n) (e2:Els H ys m) (hz:n+m<=8000) (q:∀r zs H',aH' H H'->H' r=some (.lst zs)->Els H' zs (n+m)->Q (.ref r) H'):eJ' K .Add (.ref a) (.ref b) H Q:=by
 have l1:=e.ln
 have l2:=e2.ln
 refine f0' h h2 (bJ (bK' (by omega))) fun p hp=>?_
 have s:=ah' hp (.lst (xs++ys))
 exact q p _ _ s ab' ⟨fun x hx=>(aw.mp hx).elim ((e.same s).th x) ((e2.same s).th x),by rw[aD];omega⟩
theorem eh' {H:Hp} {x:V} (h:Th H 2 200 x):Els H [x] 1:=⟨fun y hy=>by rw[aU.mp hy];exact h,ag _⟩
theorem qC' {H:Hp} {us:List V} {S:List (Nat×Nat)} (h:dh' (iG' H) us S) (hS:∀x∈S,x.1<60/\x.2<60) (hl:S.length<=3600):Els H us 3600:=⟨fun v hv=>by
 obtain⟨i,e⟩:=bQ hv
 obtain⟨x,hx,hp⟩:=h.getL e
 exact(xm' hp (hS x (az hx))).mono (by omega) (by omega),by rw[h.len];exact hl⟩
def cj':Sp:=fun vs H Q _=>∃(b p q L:Addr) (n:Nat) (M N:List Rm) (us:List V) (S:List (Nat×Nat)),vs=[.ref b,.ref p,.ref q,.ref L]/\H b=some (df' b n)/\n<=2 ^ 38/\IsM H p M/\IsM H q N/\1<=M.length/\M.length<=60/\1<=N.length/\N.length<=60/\H L=some (.lst us)/\dh' (iG' H) us S/\(∀x∈S,x.1<60/\x.2<60)/\1<=S.length/\S.length<=3600/\∀(R:Addr) (ts:List V) (H':Hp),Go 4 H H'->H' R=some (.lst ts)->(∀t∈ts,gQ' H' t)->Q (.ref R) H'
theorem gR' {C:Rc} (hN:C.N.length=8) (hT:C.fs "_law_take"=some az'):∀vs H Q E,cj' vs H Q E->tSs C dy' { nx:=fun _ H'=>Q .non H',rt:=Q } (L2.aK' C.N vs) H:=by
 intro vs H Q E h
 obtain⟨b,p,q0,L,n,M,N,us,S,rfl,hb,hn,hM,hN',hM1,hM6,hN1,hN6,hL,hP,hS,hS1,hS36,q⟩:=h
 have hul:=hP.len
 have n7':∀{H':Hp} {c:Nat},Go c H H'->∃mv,H' p=some (.tup mv)/\mv.length=M.length:=fun g=>by
  obtain⟨mv,e1,e2⟩:=hM.mono g.tp
  exact⟨mv,e1,e2.len⟩
 have iF':∀{H':Hp} {c:Nat},Go c H H'->∃nv,H' q0=some (.tup nv)/\nv.length=N.length:=fun g=>by
  obtain⟨mv,e1,e2⟩:=hN'.mono g.tp
  exact⟨mv,e1,e2.len⟩
 have hEl:=qC' hP hS hS36
 rw[ao' hN]
 unfold dy'
 walk_at "y"
 refine ag' hT ?_
 walk_at "y"
 refine d7' (SqL.of hL) ?_
 walk_at "y"
 refine aq' hb (Go.refl (c:=0)) (by omega) (by omega) (by omega) fun at0 H1 ha0 ha1 _ g1=>?_
 obtain⟨at',rfl⟩:=aF ha0
 have hat:at'<us.length:=by omega
 obtain⟨mv1,hmv1,hml1⟩:=n7' g1
 walk_at "y"
 refine ag' hT ?_
 walk_at "y"
 refine aR' (SqT.of hmv1) ?_
 rw[hml1]
 walk_at "y"
 refine aq' hb g1 (by omega) (by omega) (by omega) fun x0 H2 hx0 hx1 _ g2=>?_
 obtain⟨x,rfl⟩:=aF hx0
 obtain⟨nv2,hnv2,hnl2⟩:=iF' g2
 walk_at "y"
 refine ag' hT ?_
 walk_at "y"
 refine aR' (SqT.of hnv2) ?_
 rw[hnl2]
 walk_at "y"
 refine aq' hb g2 (by omega) (by omega) (by omega) fun y0 H3 hy0 hy1 _ g3=>?_
 obtain⟨y,rfl⟩:=aF hy0
 walk_at "y"
 refine⟨by show 2<=sizeLine;decide,fun p0 hp0=>?_⟩
 obtain⟨t0,e0⟩:=snw hp0 (.tup [.int x,.int y])
 generalize upd H3 p0 _=J0 at t0 e0 ⊢
 walk_at "y"
 refine⟨by show 0<=sizeLine;decide,fun p1 hp1=>?_⟩
 obtain⟨t1,e1⟩:=snw hp1 (.tup [])
 generalize upd J0 p1 _=J1 at t1 e1 ⊢
 refine⟨by show 0<=sizeLine;decide,fun p2 hp2=>?_⟩
 obtain⟨t2,e2⟩:=snw hp2 (.lst [])
 generalize upd J1 p2 _=J2 at t2 e2 ⊢
 refine⟨by show 1<=sizeLine;decide,fun p3 hp3=>?_⟩
 obtain⟨t3,e3⟩:=snw hp3 (.tup [.int 0])
 generalize upd J2 p3 _=J3 at t3 e3 ⊢
 refine⟨by show 2<=sizeLine;decide,fun p4 hp4=>?_⟩
 obtain⟨t4,e4⟩:=snw hp4 (.lst [.int 0,.int 0])
 generalize upd J3 p4 _=J4 at t4 e4 ⊢
 refine⟨by show 2<=sizeLine;decide,fun p5 hp5=>?_⟩
 obtain⟨t5,e5⟩:=snw hp5 (.tup [.int 0,.int (-1)])
 generalize upd J4 p5 _=J5 at t5 e5 ⊢
 refine⟨by show 2<=sizeLine;decide,fun p6 hp6=>?_⟩
 obtain⟨t6,e6⟩:=snw hp6 (.tup [.bl true,.int 0])
 generalize upd J5 p6 _=J6 at t6 e6 ⊢
 have s36:=t0.trans (t1.trans (t2.trans (t3.trans (t4.trans (t5.trans t6)))))
 obtain⟨nv7,hnv7,hnl7⟩:=iF' (g3.trans (Go.of_same (c:=0) s36))
 refine aR' (SqT.of hnv7) ?_
 rw[hnl7]
 walk_at "y"
 refine⟨by show 2<=sizeLine;decide,fun p7 hp7=>?_⟩
 obtain⟨t7,e7⟩:=snw hp7 (.tup [.int 0,.int N.length])
 generalize upd J6 p7 _=J7 at t7 e7 ⊢
 refine⟨by show 2<=sizeLine;decide,fun p8 hp8=>?_⟩
 obtain⟨t8,e8⟩:=snw hp8 (.tup [.int 0,.str (tx [false])])
 generalize upd J7 p8 _=J8 at t8 e8 ⊢
 refine⟨by show 1<=sizeLine;decide,fun p9 hp9=>?_⟩
 obtain⟨t9,e9⟩:=snw hp9 (.tup [.ref p0])
 generalize upd J8 p9 _=J9 at t9 e9 ⊢
 refine⟨by show 13<=sizeLine;decide,fun pA hpA=>?_⟩
 generalize hOL:([V.non,V.bl true,V.int 0,V.str (tx [false]),V.ref p1,V.ref p2,V.ref p3,V.ref p4,V.ref p5,V.ref p6,V.ref p7,V.ref p8,V.ref p9]:List V)=OL
 have hOl:OL.length=13:=by rw[<- hOL];rfl
 obtain⟨tA,eA⟩:=snw hpA (.lst OL)
 generalize upd J9 pA _=JA at tA eA ⊢
 have u8:=t9.trans tA
 have u7:=t8.trans u8
 have u6:=t7.trans u7
 have u5:=t6.trans u6
 have u4:=t5.trans u5
 have u3:=t4.trans u4
 have u2:=t3.trans u3
 have u1:=t2.trans u2
 have u0:=t1.trans u1
 have gA:=g3.trans (Go.of_same (c:=0) (t0.trans u0))
 walk_at "y"
 refine ag' hT ?_
 walk_at "y"
 refine aq' hb gA (by omega) (by omega) (by omega) fun k HB hk0 hk1 gAB gB=>?_
 walk_at "y"
 obtain⟨v,hv,ev⟩:=n0' (xs:=OL) hk0 (by rw[hOl];exact hk1)
 refine bF' (SqL.of (gAB.lst eA)) ev ?_
 have key:∀v∈OL,Th HB 2 200 v:=by
  rw[<- hOL]
  simp only[aN]
  have z1:∀p,Th HB p 20 (.int 0):=fun p=>ob' (by omega) (by omega)
  have tp0:=cc' (p:=0) (k:=20) (m:=2) (gAB.tup (u0 _ _ e0)) (by simp only[aN];exact⟨cp' (by omega),cp' (by omega),fun _ h=>nomatch h⟩) (by simp)
  refine⟨uu'.mono (ag _) (by omega),uv'.mono (ag _) (by omega),(z1 _).mono (ag _) (by omega),oc' (by decide +kernel),?_,?_,?_,?_,?_,?_,?_,?_,?_,fun _ h=>nomatch h⟩
  .exact(cc' (p:=0) (k:=20) (m:=0) (gAB.tup (u1 _ _ e1)) (fun _ h=>nomatch h) (by simp)).mono (by omega) (by omega)
  .exact(kP' (p:=0) (k:=20) (m:=0) (gAB.lst (u2 _ _ e2)) (fun _ h=>nomatch h) (by simp)).mono (by omega) (by omega)
  .exact(cc' (p:=0) (k:=20) (m:=1) (gAB.tup (u3 _ _ e3)) (by simp only[aN];exact⟨z1 _,fun _ h=>nomatch h⟩) (by simp)).mono (by omega) (by omega)
  .exact(kP' (p:=0) (k:=20) (m:=2) (gAB.lst (u4 _ _ e4)) (by simp only[aN];exact⟨z1 _,z1 _,fun _ h=>nomatch h⟩) (by simp)).mono (by omega) (by omega)
  .exact(cc' (p:=0) (k:=20) (m:=2) (gAB.tup (u5 _ _ e5)) (by simp only[aN];exact⟨z1 _,uw',fun _ h=>nomatch h⟩) (by simp)).mono (by omega) (by omega)
  .exact(cc' (p:=0) (k:=20) (m:=2) (gAB.tup (u6 _ _ e6)) (by simp only[aN];exact⟨uv',z1 _,fun _ h=>nomatch h⟩) (by simp)).mono (by omega) (by omega)
  .exact(cc' (p:=0) (k:=20) (m:=2) (gAB.tup (u7 _ _ e7)) (by simp only[aN];exact⟨z1 _,ob' (by omega) (by omega),fun _ h=>nomatch h⟩) (by simp)).mono (by omega) (by omega)
  .exact(cc' (p:=0) (k:=20) (m:=2) (gAB.tup (u8 _ _ e8)) (by simp only[aN];exact⟨z1 _,oc' (by decide +kernel),fun _ h=>nomatch h⟩) (by simp)).mono (by omega) (by omega)
  .exact(cc' (m:=1) (gAB.tup (tA _ _ e9)) (by simp only[aN];exact⟨tp0,fun _ h=>nomatch h⟩) (by simp)).mono (by omega) (by omega)
 have thp:Th HB 2 200 (.ref p0):=(cc' (p:=0) (k:=20) (m:=2) (gAB.tup (u0 _ _ e0)) (by simp only[aN];exact⟨cp' (by omega),cp' (by omega),fun _ h=>nomatch h⟩) (by simp)).mono (by omega) (by omega)
 have thv:=key v (az hv)
 have hLB:=gB.lst hL
 have hEB:=hEl.go gB
 have hPB:=hP.mono fun _ _ z=>iG'.mono gB.tp z
 clear key tA eA t0 t1 t2 t3 t4 t5 t6 t7 t8 t9 e0 e1 e2 e3 e4 e5 e6 e7 e8 e9 u0 u1 u2 u3 u4 u5 u6 u7 u8 s36 hnv7 hmv1 hnv2 gA gAB g1 g2 g3 hL hP hEl ev hv hOL
 obtain⟨vk,hvk⟩:∃v,us[at']?=some v:=⟨_,ae hat⟩
 obtain⟨xk,hxk,pk,rfl,hpk⟩:=hPB.getL hvk
 have hlk:=hS xk (az hxk)
 walk_at "y"
 refine cv' (SqL.of hLB) fun a1 h1=>?_
 obtain⟨w1,f1⟩:=snw h1 (.tup us)
 generalize upd HB a1 _=J1 at w1 f1 ⊢
 have c1:=w1
 walk_at "y"
 try rw[oa']
 walk_at "y"
 refine qg' (SqL.of (c1 _ _ hLB)) fun a2 h2=>?_
 obtain⟨w2,f2⟩:=snw h2 (.lst us.reverse)
 generalize upd J1 a2 _=J2 at w2 f2 ⊢
 have c2:=c1.trans w2
 walk_at "y"
 refine b4' (c2 _ _ hLB) (hEB.same c2) fun a3 z3 J3 w3 f3 E3=>?_
 have c3:=c2.trans w3
 walk_at "y"
 refine bN' (c3 _ _ hLB) f3 (hEB.same c3) E3 (by decide) fun a4 z4 J4 w4 f4 E4=>?_
 have c4:=c3.trans w4
 walk_at "y"
 refine b4' (c4 _ _ hLB) (hEB.same c4) fun a5 z5 J5 w5 f5 E5=>?_
 have c5:=c4.trans w5
 walk_at "y"
 refine b4' (c5 _ _ hLB) (hEB.same c5) fun a6 z6 J6 w6 f6 E6=>?_
 have c6:=c5.trans w6
 walk_at "y"
 refine bN' (w6 _ _ f5) f6 (E5.same w6) E6 (by decide) fun a7 z7 J7 w7 f7 E7=>?_
 have c7:=c6.trans w7
 walk_at "y"
 refine⟨by show 1<=sizeLine;decide,fun a8 h8=>?_⟩
 obtain⟨w8,f8⟩:=snw h8 (.lst [.ref p0])
 generalize upd J7 a8 _=J8 at w8 f8 ⊢
 have c8:=c7.trans w8
 have E8:=eh' (thp.go (Go.of_same (c:=0) c8))
 refine bN' (c8 _ _ hLB) f8 (hEB.same c8) E8 (by decide) fun a9 z9 J9 w9 f9 E9=>?_
 have c9:=c8.trans w9
 walk_at "y"
 refine⟨by show 6<=sizeLine;decide,fun a10 h10=>?_⟩
 obtain⟨w10,f10⟩:=snw h10 (.lst [.ref L,.ref a1,.ref a2,.ref a4,.ref a7,.ref a9])
 generalize upd J9 a10 _=J10 at w10 f10 ⊢
 have c10:=c9.trans w10
 walk_at "y"
 refine b4' (c10 _ _ hLB) (hEB.same c10) fun a11 z11 J11 w11 f11 E11=>?_
 have c11:=c10.trans w11
 walk_at "y"
 refine⟨by show 1<=sizeLine;decide,fun a12 h12=>?_⟩
 obtain⟨w12,f12⟩:=snw h12 (.lst [.ref p0])
 generalize upd J11 a12 _=J12 at w12 f12 ⊢
 have c12:=c11.trans w12
 have E12:=eh' (thp.go (Go.of_same (c:=0) c12))
 refine bN' (w12 _ _ f11) f12 (E11.same w12) E12 (by decide) fun a13 z13 J13 w13 f13 E13=>?_
 have c13:=c12.trans w13
 walk_at "y"
 refine b4' (c13 _ _ hLB) (hEB.same c13) fun a14 z14 J14 w14 f14 E14=>?_
 have c14:=c13.trans w14
 walk_at "y"
 refine bN' (w14 _ _ f13) f14 (E13.same w14) E14 (by decide) fun a15 z15 J15 w15 f15 E15=>?_
 have c15:=c14.trans w15
 walk_at "y"
 refine b4' (c15 _ _ hLB) (hEB.same c15) fun a16 z16 J16 w16 f16 E16=>?_
 have c16:=c15.trans w16
 walk_at "y"
 refine bF' (SqL.of (c16 _ _ hLB)) (v:=.ref pk) (by rw[a1'];exact hvk) ?_
 walk_at "y"
 refine mO' (SqT.of (c16 _ _ hpk)) fun a17 h17=>?_
 obtain⟨w17,f17⟩:=snw h17 (.lst [nV xk.1,nV xk.2])
 generalize upd J16 a17 _=J17 at w17 f17 ⊢
 have c17:=c16.trans w17
 walk_at "y"
 have thk:Th J17 2 200 (.ref a17):=(kP' (p:=0) (k:=20) (m:=2) f17 (by simp only[aN];exact⟨cp' (by omega),cp' (by omega),fun _ h=>nomatch h⟩) (by simp)).mono (by omega) (by omega)
 refine⟨by show 1<=sizeLine;decide,fun a18 h18=>?_⟩
 obtain⟨w18,f18⟩:=snw h18 (.lst [.ref a17])
 generalize upd J17 a18 _=J18 at w18 f18 ⊢
 have c18:=c17.trans w18
 have E18:=eh' (thk.go (Go.of_same (c:=0) w18))
 refine bN' ((w17.trans w18) _ _ f16) f18 (E16.same (w17.trans w18)) E18 (by decide) fun a19 z19 J19 w19 f19 E19=>?_
 have c19:=c18.trans w19
 walk_at "y"
 refine b4' (c19 _ _ hLB) (hEB.same c19) fun a20 z20 J20 w20 f20 E20=>?_
 have c20:=c19.trans w20
 walk_at "y"
 refine bN' (w20 _ _ f19) f20 (E19.same w20) E20 (by decide) fun a21 z21 J21 w21 f21 E21=>?_
 have c21:=c20.trans w21
 walk_at "y"
 refine⟨by show 3<=sizeLine;decide,fun a22 h22=>?_⟩
 obtain⟨w22,f22⟩:=snw h22 (.lst [.ref a15,.ref a21,v])
 generalize upd J21 a22 _=J22 at w22 f22 ⊢
 have c22:=c21.trans w22
 refine f0' ((w11.trans (w12.trans (w13.trans (w14.trans (w15.trans (w16.trans (w17.trans (w18.trans (w19.trans (w20.trans (w21.trans w22))))))))))) _ _ f10) f22 (by show 9<=sizeLine;decide) fun a23 h23=>?_
 obtain⟨w23,f23⟩:=snw h23 (.lst ([.ref L,.ref a1,.ref a2,.ref a4,.ref a7,.ref a9]++[.ref a15,.ref a21,v]))
 generalize upd J22 a23 _=J23 at w23 f23 ⊢
 have c23:=c22.trans w23
 walk_at "y"
 refine⟨by show 1<=sizeLine;decide,fun a24 h24=>?_⟩
 obtain⟨w24,f24⟩:=snw h24 (.lst [v])
 generalize upd J23 a24 _=J24 at w24 f24 ⊢
 have c24:=c23.trans w24
 have E24:=eh' (thv.go (Go.of_same (c:=0) c24))
 refine bN' (c24 _ _ hLB) f24 (hEB.same c24) E24 (by decide) fun a25 z25 J25 w25 f25 E25=>?_
 have c25:=c24.trans w25
 walk_at "y"
 refine b4' (c25 _ _ hLB) (hEB.same c25) fun a26 z26 J26 w26 f26 E26=>?_
 have c26:=c25.trans w26
 walk_at "y"
 refine⟨by show 1<=sizeLine;decide,fun a27 h27=>?_⟩
 obtain⟨w27,f27⟩:=snw h27 (.lst [v])
 generalize upd J26 a27 _=J27 at w27 f27 ⊢
 have c27:=c26.trans w27
 have E27:=eh' (thv.go (Go.of_same (c:=0) c27))
 refine bN' (w27 _ _ f26) f27 (E26.same w27) E27 (by decide) fun a28 z28 J28 w28 f28 E28=>?_
 have c28:=c27.trans w28
 walk_at "y"
 refine b4' (c28 _ _ hLB) (hEB.same c28) fun a29 z29 J29 w29 f29 E29=>?_
 have c29:=c28.trans w29
 walk_at "y"
 refine bN' (w29 _ _ f28) f29 (E28.same w29) E29 (by decide) fun a30 z30 J30 w30 f30 E30=>?_
 have c30:=c29.trans w30
 walk_at "y"
 refine kS' (vs:=us) (.inl (c30 _ _ hLB)) (fun i ys H'=>aH' J30 H'/\ys.length=i/\∀y∈ys,Th H' 2 200 y) ⟨aH'.refl _,rfl,fun _ h=>nomatch h⟩ (fun i ys H' pv=>pv.1) ?_ ?_
 .rintro i ys K5 xv R hxi ⟨s5,hl5,hy5⟩ hR
  obtain⟨xx,hxx,px,rfl,hpx⟩:=hPB.getL hxi
  have hi:=ay' hxi
  have hlx:=hS xx (az hxx)
  walk_at "y"
  (try rw[tY'])
  walk_at "y"
  refine tZ' (SqT.of (s5 _ _ (c30 _ _ hpx))) (by simp) fun p6 hp6=>?_
  obtain⟨s6,e6⟩:=snw hp6 (.tup [nV xx.1,nV xx.2].reverse)
  generalize upd K5 p6 _=K6 at s6 e6 ⊢
  refine⟨bK' (by omega),hR _ _ ⟨s5.trans s6,by rw[aD,hl5];rfl,fun y hy=>?_⟩⟩
  rcases aw.mp hy with hy|hy
  .exact(hy5 y hy).go (Go.of_same (c:=0) s6)
  .rw[aU.mp hy]
   exact(cc' (p:=0) (k:=20) (m:=2) e6 (fun y hy=>by
    have hy:=List.mem_reverse.mp hy
    simp only[am,aB,or_false]at hy
    rcases hy with rfl|rfl<;>exact cp' (by omega)) (by simp)).mono (by omega) (by omega)
 rintro ys J31 ⟨w31,hl5,hy5⟩
 have c31:=c30.trans w31
 have E31:Els J31 ys 3600:=⟨hy5,by omega⟩
 intro a32 h32
 obtain⟨w32,f32⟩:=snw h32 (.lst ys)
 generalize upd J31 a32 _=J32 at w32 f32 ⊢
 have c32:=c31.trans w32
 have E32:=E31.same w32
 walk_at "y"
 refine⟨by show 3<=sizeLine;decide,fun a33 h33=>?_⟩
 obtain⟨w33,f33⟩:=snw h33 (.lst [.ref a25,.ref a30,.ref a32])
 generalize upd J32 a33 _=J33 at w33 f33 ⊢
 have c33:=c32.trans w33
 refine f0' ((w24.trans (w25.trans (w26.trans (w27.trans (w28.trans (w29.trans (w30.trans (w31.trans (w32.trans w33))))))))) _ _ f23) f33 (by show 12<=sizeLine;decide) fun a34 h34=>?_
 obtain⟨w34,f34⟩:=snw h34 (.lst ([.ref L,.ref a1,.ref a2,.ref a4,.ref a7,.ref a9]++[.ref a15,.ref a21,v]++[.ref a25,.ref a30,.ref a32]))
 generalize upd J33 a34 _=J34 at w34 f34 ⊢
 have c34:=c33.trans w34
 have d33:=w34
 have d32:=w33.trans d33
 have d31:=w32.trans d32
 have d30:=w31.trans d31
 have d29:=w30.trans d30
 have d28:=w29.trans d29
 have d27:=w28.trans d28
 have d26:=w27.trans d27
 have d25:=w26.trans d26
 have d24:=w25.trans d25
 have d23:=w24.trans d24
 have d22:=w23.trans d23
 have d21:=w22.trans d22
 have d20:=w21.trans d21
 have d19:=w20.trans d20
 have d18:=w19.trans d19
 have d17:=w18.trans d18
 have d16:=w17.trans d17
 have d15:=w16.trans d16
 have d14:=w15.trans d15
 have d13:=w14.trans d14
 have d12:=w13.trans d13
 have d11:=w12.trans d12
 have d10:=w11.trans d11
 have d9:=w10.trans d10
 have d8:=w9.trans d9
 have d7:=w8.trans d8
 have d6:=w7.trans d7
 have d5:=w6.trans d6
 have d4:=w5.trans d5
 have d3:=w4.trans d4
 have d2:=w3.trans d3
 have d1:=w2.trans d2
 refine q _ _ J34 ((gB.trans (Go.of_same (c:=0) c34)).mono (by omega)) f34 ?_
 simp only[List.cons_append,List.nil_append,aN]
 refine⟨aW' (c34 _ _ hLB) (hEB.same c34) (by decide),k5' (d1 _ _ f1) (hEB.same c34) (by decide),aW' (n:=3600) (d2 _ _ f2) ⟨fun x hx=>(hEB.same c34).th x (List.mem_reverse.mp hx),by rw[bG];exact hEB.ln⟩ (by decide),aW' (d4 _ _ f4) (E4.same d4) (by decide),aW' (d7 _ _ f7) (E7.same d7) (by decide),aW' (d9 _ _ f9) (E9.same d9) (by decide),aW' (d15 _ _ f15) (E15.same d15) (by decide),aW' (d21 _ _ f21) (E21.same d21) (by decide),nm' (thv.go (Go.of_same (c:=0) c34)),aW' (d25 _ _ f25) (E25.same d25) (by decide),aW' (d30 _ _ f30) (E30.same d30) (by decide),aW' (d32 _ _ f32) (E32.same d32) (by decide),fun _ h=>nomatch h⟩
def k6' (K:W.Frag):Sp:=fun vs H Q _=>∃(a:Addr) (ns:List Int),vs=[.ref a]/\SqL K H a (ns.map V.int)/\ns.length<=63/\∀H',Q (.bl true) H'
structure FsLaw (C:Rc):Prop where
 box:C.fs "_law_box"=some (kG' C.K)
 two:C.fs "_law_two"=some K13.iy'
 take:C.fs "_law_take"=some az'
 paper:C.fs "_law_paper"=some c8'
 things:C.fs "_law_things"=some cj'
 shows:C.fs "shows_alike"=some c7'
 due:C.fs "_law_due"=some qX'
theorem nn' {C:Rc} (hN:C.N.length=11) (F:FsLaw C):∀vs H Q E,k6' C.K vs H Q E->tSs C nh' { nx:=fun _ H'=>Q .non H',rt:=Q } (L2.aK' C.N vs) H:=by
 intro vs H Q E h
 obtain⟨a,ns,rfl,hs,h63,q⟩:=h
 rw[ao' hN]
 unfold nh'
 walk_at "y"
 refine gH' (by omega) (by omega) (gI' (fun i σ H'=>(∃x1 x2 x3 x4 x5 x6 x7 x8 x9 x10,σ=[some (.ref a),x1,x2,x3,x4,x5,x6,x7,x8,x9,x10])/\SqL C.K H' a (ns.map V.int)) ⟨⟨none,none,none,none,none,none,none,none,none,none,rfl⟩,hs⟩ ?_ ?_)
 .rintro i σ H0 hi ⟨⟨x1,x2,x3,x4,x5,x6,x7,x8,x9,x10,rfl⟩,hs0⟩
  have hi:i<6:=hi
  walk_at "y"
  refine ag' F.box ?_
  walk_at "y"
  refine⟨a,ns,_,rfl,hs0,by omega,by omega,fun b hb=>?_⟩
  have hs1:=(ah' hb (df' b 0)).seq hs0
  have hb1:upd H0 b (df' b 0) b=some (df' b 0):=ab'
  generalize upd H0 b (df' b 0)=H1 at hs1 hb1 ⊢
  walk_at "y"
  rw[tX']
  refine ag' F.two ?_
  walk_at "y"
  refine⟨b,0,rfl,hb1,by decide,fun t o p M N H2 g2 ht hM2 hO hM1 hMu hN2 hO' hN1 hNu=>?_⟩
  obtain⟨n2,hn2,hn2',_⟩:=g2.boxed hb1 (by omega)
  have hs2:=g2.seq hs1
  refine pV' (SqT.of ht) ?_
  simp only[nZ',List.set_cons_zero,List.set_cons_succ]
  walk_at "y"
  refine gH' (by omega) (by omega) (gI' (fun j σ H'=>(∃x5 x6 x7 x8 x9 x10,σ=[some (.ref a),some (.int (0+i)),some (.ref b),some (.ref o),some (.ref p),x5,x6,x7,x8,x9,x10])/\Go (10*j) H2 H') ⟨⟨_,_,_,_,_,_,rfl⟩,Go.refl⟩ ?_ ?_)
  .rintro j σ H3 hj ⟨⟨x5,x6,x7,x8,x9,x10,rfl⟩,g3⟩
   have hj:j<2:=hj
   obtain⟨n3,hn3,hn3',_⟩:=g3.boxed hn2 (by omega)
   have len:∀{H':Hp} {c:Nat},Go c H3 H'->(∃mv,H' o=some (.tup mv)/\mv.length=M.length)/\∃nv,H' p=some (.tup nv)/\nv.length=N.length:=fun g=>by
    obtain⟨mv,e1,e2⟩:=(hM2.mono g3.tp).mono g.tp
    obtain⟨nv,e3,e4⟩:=(hN2.mono g3.tp).mono g.tp
    exact⟨⟨mv,e1,e2.len⟩,nv,e3,e4.len⟩
   obtain⟨⟨mv3,hm3,hml3⟩,_⟩:=len (Go.refl (c:=0))
   walk_at "y"
   refine ag' F.take ?_
   walk_at "y"
   refine aR' (SqT.of hm3) ?_
   rw[hml3]
   walk_at "y"
   refine aq' hn3 (Go.refl (c:=0)) (by omega) (by omega) (by omega) fun x H4 hx0 hx1 g4 g34=>?_
   obtain⟨x,rfl⟩:=aF hx0
   obtain⟨_,nv4,hp4,hpl4⟩:=len g34
   walk_at "y"
   refine aR' (SqT.of hp4) ?_
   rw[hpl4]
   walk_at "y"
   refine ag' F.take ?_
   walk_at "y"
   refine aR' (SqT.of hp4) ?_
   rw[hpl4]
   walk_at "y"
   refine aq' hn3 g34 (by omega) (by omega) (by omega) fun y H5 hy0 hy1 g5 g35=>?_
   obtain⟨y,rfl⟩:=aF hy0
   walk_at "y"
   obtain⟨z,hz,hzl⟩:∃z:Nat,(if(N.length:Int)-1<(x:Int)then(N.length:Int)-1 else(x:Int))=(z:Int)/\z<N.length:=by
    split
    .exact⟨N.length-1,by omega,by omega⟩
    .exact⟨x,rfl,by omega⟩
   rw[hz]
   refine⟨by show 2<=sizeLine;decide,fun p6 hp6=>?_⟩
   obtain⟨s6,e6⟩:=snw hp6 (.lst [.int z,.int y])
   generalize upd H5 p6 _=H6 at s6 e6 ⊢
   have g36:=g35.trans (Go.of_same (c:=0) s6)
   obtain⟨w,hw,hwl⟩:∃w:Nat,[V.int z,V.int y][j]?=some (.int w)/\w<N.length:=by
    match j,hj with
    |0,_=>exact⟨z,rfl,hzl⟩
    |1,_=>exact⟨y,rfl,by omega⟩
   walk_at "y"
   refine bF' (SqL.of e6) (v:=.int w) (by rw[show(0:Int)+(j:Int)=((j:Nat):Int) by omega,a1'];exact hw) ?_
   walk_at "y"
   refine ag' F.things ?_
   walk_at "y"
   refine ag' F.paper ?_
   walk_at "y"
   have g26:=g3.trans g36
   refine⟨o,p,x,w,M,N,rfl,hM2.mono g26.tp,hN2.mono g26.tp,hO,hO',by omega,hwl,hMu,hNu,fun L us S H7 s7 hL hP hS hS1 hS36=>?_⟩
   have g37:=g36.trans (Go.of_same (c:=0) s7)
   have g27:=g3.trans g37
   obtain⟨n7,hn7,hn7',_⟩:=g37.boxed hn3 (by omega)
   walk_at "y"
   refine⟨b,o,p,L,n7,M,N,us,S,rfl,hn7,by omega,hM2.mono g27.tp,hN2.mono g27.tp,hM1,hMu,hN1,hNu,hL,hP,fun q hq=>by have:=hS q hq;omega,hS1,hS36,fun R ts H8 g8 hR hts=>?_⟩
   have g28:=g27.trans g8
   walk_at "y"
   refine ca' (SqL.of hR) (tO' (xs:=ts) (fun k σ H'=>(∃x8 x9 x10,σ=[some (.ref a),some (.int (0+i)),some (.ref b),some (.ref o),some (.ref p),some (.int (0+j)),some (.int x),some (.int w),x8,x9,x10])/\aH' H8 H') ⟨⟨_,_,_,rfl⟩,aH'.refl _⟩ (fun k σ H' _ pv=>SqL.of (pv.2 _ _ hR)) ?_ ?_)
   .rintro k t σ H9 hk ⟨⟨x8,x9,x10,rfl⟩,s9⟩
    obtain⟨d,hd,hdk,hdl⟩:=(hts t (az hk)).go (Go.of_same (c:=0) s9)
    have g29:=g28.trans (Go.of_same (c:=0) s9)
    walk_at "y"
    refine kA' hd hdk.sh hdk.nd (aG hdk.dp (by decide)) (aG hdk.ln (by decide)) ?_
    walk_at "y"
    refine ag' F.shows ?_
    walk_at "y"
    refine⟨o,p,x,w,t,3,d,M,N,rfl,hM2.mono g29.tp,hO,hN2.mono g29.tp,hO',by omega,hwl,hMu,hNu,hd,hdl,fun H10 s10=>?_⟩
    walk_at "y"
    refine fg' (T:="bool") (k:=true) rfl rfl (by decide) (by decide) ?_
    walk_at "y"
    refine ag' F.due ?_
    walk_at "y"
    have g210:=g29.trans (Go.of_same (c:=0) s10)
    refine⟨o,p,x,w,t,3,d,M,N,rfl,hM2.mono g210.tp,hN2.mono g210.tp,c6' (Go.of_same (c:=0) s10) hd,hdl,fun H11 s11=>?_⟩
    walk_at "y"
    refine kA' (c6' (Go.of_same (c:=0) (s10.trans s11)) hd) hdk.sh hdk.nd (aG hdk.dp (by decide)) (aG hdk.ln (by decide)) ?_
    walk_at "y"
    refine ix' ?_
    walk_at "y"
    exact⟨⟨_,_,_,rfl⟩,s9.trans (s10.trans s11)⟩
   .rintro σ H9 ⟨⟨x8,x9,x10,rfl⟩,s9⟩
    exact⟨⟨_,_,_,_,_,_,rfl⟩,(g28.trans (Go.of_same (c:=0) s9)).mono (by omega)⟩
  .rintro σ H3 ⟨⟨x5,x6,x7,x8,x9,x10,rfl⟩,g3⟩
   exact⟨⟨_,_,_,_,_,_,_,_,_,_,rfl⟩,g3.seq hs2⟩
 .rintro σ H0 ⟨⟨x1,x2,x3,x4,x5,x6,x7,x8,x9,x10,rfl⟩,hs0⟩
  walk_at "y"
  exact q _
end K14
namespace K14
open PySem PySem.Spec PyProof.Rows L2 R3 LW K08
def top (i:Nat):Stmt:=PySem.Challenge.pw_runbound_k14_alike_shown.main.body.getD i (.Pass ⟨0,0,0,0⟩)
theorem qD':mSs bY' bq' (ac' (top 1)) K08.bn' (aj' (top 1))=true:=by decide +kernel
theorem no':FnScope bY' ["thing"] (ac' (top 1)):=⟨rfl,rfl,rfl,by decide +kernel,rfl,by decide +kernel,by decide +kernel⟩
theorem np':mSs bZ' br' (ac' (top 2)) K08.bo' (aj' (top 2))=true:=by decide +kernel
theorem k7':FnScope bZ' ["thing","low","high"] (ac' (top 2)):=⟨rfl,rfl,rfl,by decide +kernel,rfl,by decide +kernel,by decide +kernel⟩
theorem uJ':mSs cx' b0' (ac' (top 3)) K08.bU' (aj' (top 3))=true:=by decide +kernel
theorem qE':FnScope cx' ["thing"] (ac' (top 3)):=⟨rfl,rfl,rfl,by decide +kernel,rfl,by decide +kernel,by decide +kernel⟩
theorem uK':mSs cy' b2' (ac' (top 6)) K08.bV' (aj' (top 6))=true:=by decide +kernel
theorem qF':FnScope cy' ["thing","many"] (ac' (top 6)):=⟨rfl,rfl,rfl,by decide +kernel,rfl,by decide +kernel,by decide +kernel⟩
theorem uL':mSs cz' b3' (ac' (top 7)) K08.bW' (aj' (top 7))=true:=by decide +kernel
theorem qG':FnScope cz' ["thing","many"] (ac' (top 7)):=⟨rfl,rfl,rfl,by decide +kernel,rfl,by decide +kernel,by decide +kernel⟩
theorem xn':mSs bL' bg' (ac' (top 8)) K08.bf' (aj' (top 8))=true:=by decide +kernel
theorem uM':FnScope bL' ["thing"] (ac' (top 8)):=⟨rfl,rfl,rfl,by decide +kernel,rfl,by decide +kernel,by decide +kernel⟩
theorem nq':mSs b1' bs' (ac' (top 4)) bt' (aj' (top 4))=true:=by decide +kernel
theorem k8':FnScope b1' ["thing"] (ac' (top 4)):=⟨rfl,rfl,rfl,by decide +kernel,rfl,by decide +kernel,by decide +kernel⟩
theorem xo':mSs aS' aC' (ac' (top 10)) aD' (aj' (top 10))=true:=by decide +kernel
theorem uN':FnScope aS' ["thing","one","other"] (ac' (top 10)):=⟨rfl,rfl,rfl,by decide +kernel,rfl,by decide +kernel,by decide +kernel⟩
theorem xp':mSs a5' aM' (ac' (top 11)) aN' (aj' (top 11))=true:=by decide +kernel
theorem uO':FnScope a5' ["one","other","pair","found"] (ac' (top 11)):=⟨rfl,rfl,rfl,by decide +kernel,rfl,by decide +kernel,by decide +kernel⟩
theorem qH':mSs bz' a6' (ac' (top 12)) a7' (aj' (top 12))=true:=by decide +kernel
theorem nr':FnScope bz' ["one","a","other","b","pairs"] (ac' (top 12)):=⟨rfl,rfl,rfl,by decide +kernel,rfl,by decide +kernel,by decide +kernel⟩
theorem uP':mSs cS' cd' (ac' (top 14)) cQ' (aj' (top 14))=true:=by decide +kernel
theorem qI':FnScope cS' ["_law_script","_law_k"] (ac' (top 14)):=⟨rfl,rfl,rfl,by decide +kernel,rfl,by decide +kernel,by decide +kernel⟩
theorem xq':mSs nb' kT' (ac' (top 15)) m3' (aj' (top 15))=true:=by decide +kernel
theorem uQ':FnScope nb' ["_law_script","_law_k"] (ac' (top 15)):=⟨rfl,rfl,rfl,by decide +kernel,rfl,by decide +kernel,by decide +kernel⟩
theorem uR':mSs kU' hP' (ac' (top 16)) hF' (aj' (top 16))=true:=by decide +kernel
theorem qJ':FnScope kU' ["_law_box_here","_law_many_here"] (ac' (top 16)):=⟨rfl,rfl,rfl,by decide +kernel,rfl,by decide +kernel,by decide +kernel⟩
theorem uS':mSs kV' hQ' (ac' (top 17)) hG' (aj' (top 17))=true:=by decide +kernel
theorem qK':FnScope kV' ["_law_box_here","_law_least","_law_few","_law_most"] (ac' (top 17)):=⟨rfl,rfl,rfl,by decide +kernel,rfl,by decide +kernel,by decide +kernel⟩
theorem k9':mSs ee' cT' (ac' (top 18)) cR' (aj' (top 18))=true:=by decide +kernel
theorem iB':FnScope ee' ["_law_box_here","_law_many_here"] (ac' (top 18)):=⟨rfl,rfl,rfl,by decide +kernel,rfl,by decide +kernel,by decide +kernel⟩
theorem uT':mSs bM' bh' (ac' (top 19)) aV' (aj' (top 19))=true:=by decide +kernel
theorem qL':FnScope bM' ["_law_box_here","_law_many_here"] (ac' (top 19)):=⟨rfl,rfl,rfl,by decide +kernel,rfl,by decide +kernel,by decide +kernel⟩
theorem ns':mSs fj' dw' (ac' (top 20)) dv' (aj' (top 20))=true:=by decide +kernel
theorem la':FnScope fj' ["_law_box_here","_law_machine_here"] (ac' (top 20)):=⟨rfl,rfl,rfl,by decide +kernel,rfl,by decide +kernel,by decide +kernel⟩
theorem uU':mSs kW' hT' (ac' (top 21)) hH' (aj' (top 21))=true:=by decide +kernel
theorem qM':FnScope kW' ["_law_box_here","_law_many_here"] (ac' (top 21)):=⟨rfl,rfl,rfl,by decide +kernel,rfl,by decide +kernel,by decide +kernel⟩
theorem xr':mSs qo' nc' (ac' (top 22)) m6' (aj' (top 22))=true:=by decide +kernel
theorem uV':FnScope qo' ["_law_box_here"] (ac' (top 22)):=⟨rfl,rfl,rfl,by decide +kernel,rfl,by decide +kernel,by decide +kernel⟩
theorem xt':mSs qp' nd' (ac' (top 23)) K13.m9' (aj' (top 23))=true:=by decide +kernel
theorem uW':FnScope qp' ["_law_box_here"] (ac' (top 23)):=⟨rfl,rfl,rfl,by decide +kernel,rfl,by decide +kernel,by decide +kernel⟩
theorem qN':mSs gP' fk' (ac' (top 24)) fl' (aj' (top 24))=true:=by decide +kernel
theorem nt':FnScope gP' ["_law_one","_law_a","_law_other","_law_b"] (ac' (top 24)):=⟨rfl,rfl,rfl,by decide +kernel,rfl,by decide +kernel,by decide +kernel⟩
theorem xu':mSs ef' cU' (ac' (top 25)) cV' (aj' (top 25))=true:=by decide +kernel
theorem uX':FnScope ef' ["_law_thing","_law_one","_law_other"] (ac' (top 25)):=⟨rfl,rfl,rfl,by decide +kernel,rfl,by decide +kernel,by decide +kernel⟩
theorem xv':mSs qq' ne' (ac' (top 26)) nf' (aj' (top 26))=true:=by decide +kernel
theorem uY':FnScope qq' ["_law_one","_law_a","_law_other","_law_b","_law_thing"] (ac' (top 26)):=⟨rfl,rfl,rfl,by decide +kernel,rfl,by decide +kernel,by decide +kernel⟩
theorem nu':mSs fm' dx' (ac' (top 27)) dy' (aj' (top 27))=true:=by decide +kernel
theorem lb':FnScope fm' ["_law_box_here","_law_one","_law_other","_law_pairs"] (ac' (top 27)):=⟨rfl,rfl,rfl,by decide +kernel,rfl,by decide +kernel,by decide +kernel⟩
theorem xw':mSs ng' kX' (ac' (top 28)) nh' (aj' (top 28))=true:=by decide +kernel
theorem uZ':FnScope ng' ["_law_script"] (ac' (top 28)):=⟨rfl,rfl,rfl,by decide +kernel,rfl,by decide +kernel,by decide +kernel⟩
set_option hygiene false in
local macro_rules | `(tactic| walk_at "o") => `(tactic| (intro vs H Q E h; repeat (first | (obtain ⟨rfl, _⟩ := h; rfl) | (obtain ⟨_, h⟩ := h))))
def FnD (K:W.Frag) (x:Str) (st:Stmt):Prop:=∃(f:Addr) (fd:FuncData),W.nsIn K mainGlobals x=some (some (.ref f))/\Fun K x x st f fd
theorem aJ' {K:W.Frag} {x:Str} {st:Stmt} {f:Addr} {oc:Value} {od an:Option Addr} {osl:Array (Option Value)} {kV doc pm cdv ct:Value} (a:W.nsIn K mainGlobals x=some (some (.ref f))) (l:K.lookup f=some ⟨oc,od,.func (W.fnOf x x (c0' st) (aj' st) (ac' st) .none kV doc pm an cdv ct),osl⟩) (c:W.codeIn K cdv x=true) (k:W.keepIn K (.ref f)=true):FnD K x st:=⟨f,_,a,rC' l c k⟩
theorem u0' {l:W.OpenLaw} {w:World} {K:W.Frag} {h:Heap} {mg:Str->Option Value} {fa:Addr} (X:K.In h) (G:h.Ns mainGlobals mg) (hfa:mg "law"=some (.ref fa))
  (p1:FnD K "is_number" (top 1))
  (p2:FnD K "is_within" (top 2))
  (p3:FnD K "is_pair" (top 3))
  (p4:FnD K "is_lead" (top 6))
  (p5:FnD K "is_room" (top 7))
  (p6:FnD K "is_machine" (top 8))
  (p7:FnD K "is_listed" (top 4))
  (p8:FnD K "is_pair_of_rooms" (top 10))
  (p9:FnD K "leads_to_pairs" (top 11))
  (p10:FnD K "shows_alike" (top 12))
  (p11:FnD K "_law_cell_at" (top 14))
  (p12:FnD K "_law_box" (top 15))
  (p13:FnD K "_law_take" (top 16))
  (p14:FnD K "_law_many" (top 17))
  (p15:FnD K "_law_machine" (top 18))
  (p16:FnD K "_law_ring_machine" (top 19))
  (p17:FnD K "_law_copied" (top 20))
  (p18:FnD K "_law_line" (top 21))
  (p19:FnD K "_law_any" (top 22))
  (p20:FnD K "_law_two" (top 23))
  (p21:FnD K "_law_paper" (top 24))
  (p22:FnD K "_law_is_pair" (top 25))
  (p23:FnD K "_law_due" (top 26))
  (p24:FnD K "_law_things" (top 27))
  (p25:FnD K "law" (top 28))
  (z1:W.nsIn K mainGlobals "~"=some none)
  (z2:W.nsIn K mainGlobals "^"=some none)
  (z3:W.nsIn K mainGlobals "%"=some none)
  (z4:W.nsIn K mainGlobals "bool"=some none)
  (z5:W.nsIn K mainGlobals "int"=some none)
  (z6:W.nsIn K mainGlobals "isinstance"=some none)
  (z7:W.nsIn K mainGlobals "len"=some none)
  (z8:W.nsIn K mainGlobals "tuple"=some none)
  (z9:W.nsIn K mainGlobals "all"=some none)
  (z10:W.nsIn K mainGlobals "list"=some none)
  (z11:W.nsIn K mainGlobals "abs"=some none)
  (z12:W.nsIn K mainGlobals "range"=some none)
  (z13:W.nsIn K mainGlobals "enumerate"=some none)
  (z14:W.nsIn K mainGlobals "zip"=some none)
  (z15:W.nsIn K mainGlobals "dict"=some none)
  (z16:W.nsIn K mainGlobals "reversed"=some none)
  (z17:W.nsIn K mainGlobals "min"=some none)
  (z18:W.nsIn K mainGlobals "str"=some none):
  ∃fd:FuncData,(∀(s:Shared) (v:Value),BindsTo s fd ⟨[v],[]⟩ [("_law_script",v)])/\∀base:Heap,K.In base->base.Ns mainGlobals mg->FnOk l.prog w K mg base CX0 60 fa fd ["_law_script"] (k6' K):=by
 obtain⟨f1,g1,a1,F1⟩:=p1
 obtain⟨f2,g2,a2,F2⟩:=p2
 obtain⟨f3,g3,a3,F3⟩:=p3
 obtain⟨f4,g4,a4,F4⟩:=p4
 obtain⟨f5,g5,a5,F5⟩:=p5
 obtain⟨f6,g6,a6,F6⟩:=p6
 obtain⟨f7,g7,a7,F7⟩:=p7
 obtain⟨f8,g8,a8,F8⟩:=p8
 obtain⟨f9,g9,a9,F9⟩:=p9
 obtain⟨f10,g10,a10,F10⟩:=p10
 obtain⟨f11,g11,a11,F11⟩:=p11
 obtain⟨f12,g12,a12,F12⟩:=p12
 obtain⟨f13,g13,a13,F13⟩:=p13
 obtain⟨f14,g14,a14,F14⟩:=p14
 obtain⟨f15,g15,a15,F15⟩:=p15
 obtain⟨f16,g16,a16,F16⟩:=p16
 obtain⟨f17,g17,a17,F17⟩:=p17
 obtain⟨f18,g18,a18,F18⟩:=p18
 obtain⟨f19,g19,a19,F19⟩:=p19
 obtain⟨f20,g20,a20,F20⟩:=p20
 obtain⟨f21,g21,a21,F21⟩:=p21
 obtain⟨f22,g22,a22,F22⟩:=p22
 obtain⟨f23,g23,a23,F23⟩:=p23
 obtain⟨f24,g24,a24,F24⟩:=p24
 obtain⟨f25,g25,a25,F25⟩:=p25
 obtain⟨oc25,od25,kV25,dc25,pm25,an25,cd25,ct25,sl25,rfl,l25,c25⟩:=F25.ex
 have e:=hfa.symm.trans (W.mg_of X G a25)
 cases e
 have b1:=F1.binds (ps:=["thing"]) fun _ _ _ _ _ _ us hl=>n7' (P:=fun us=>bindArgs _ ({ pos:=us }:Args)=pure (bC _ us)) (fun _=>rfl) us hl
 have m1:=W.mg_of X G a1
 have b2:=F2.binds (ps:=["thing","low","high"]) fun _ _ _ _ _ _ us hl=>w8' (P:=fun us=>bindArgs _ ({ pos:=us }:Args)=pure (bC _ us)) (fun _ _ _=>rfl) us hl
 have m2:=W.mg_of X G a2
 have b3:=F3.binds (ps:=["thing"]) fun _ _ _ _ _ _ us hl=>n7' (P:=fun us=>bindArgs _ ({ pos:=us }:Args)=pure (bC _ us)) (fun _=>rfl) us hl
 have m3:=W.mg_of X G a3
 have b4:=F4.binds (ps:=["thing","many"]) fun _ _ _ _ _ _ us hl=>iF' (P:=fun us=>bindArgs _ ({ pos:=us }:Args)=pure (bC _ us)) (fun _ _=>rfl) us hl
 have m4:=W.mg_of X G a4
 have b5:=F5.binds (ps:=["thing","many"]) fun _ _ _ _ _ _ us hl=>iF' (P:=fun us=>bindArgs _ ({ pos:=us }:Args)=pure (bC _ us)) (fun _ _=>rfl) us hl
 have m5:=W.mg_of X G a5
 have b6:=F6.binds (ps:=["thing"]) fun _ _ _ _ _ _ us hl=>n7' (P:=fun us=>bindArgs _ ({ pos:=us }:Args)=pure (bC _ us)) (fun _=>rfl) us hl
 have m6:=W.mg_of X G a6
 have b7:=F7.binds (ps:=["thing"]) fun _ _ _ _ _ _ us hl=>n7' (P:=fun us=>bindArgs _ ({ pos:=us }:Args)=pure (bC _ us)) (fun _=>rfl) us hl
 have m7:=W.mg_of X G a7
 have b8:=F8.binds (ps:=["thing","one","other"]) fun _ _ _ _ _ _ us hl=>w8' (P:=fun us=>bindArgs _ ({ pos:=us }:Args)=pure (bC _ us)) (fun _ _ _=>rfl) us hl
 have m8:=W.mg_of X G a8
 have b9:=F9.binds (ps:=["one","other","pair","found"]) fun _ _ _ _ _ _ us hl=>vi' (P:=fun us=>bindArgs _ ({ pos:=us }:Args)=pure (bC _ us)) (fun _ _ _ _=>rfl) us hl
 have m9:=W.mg_of X G a9
 have b10:=F10.binds (ps:=["one","a","other","b","pairs"]) fun _ _ _ _ _ _ us hl=>ya' (P:=fun us=>bindArgs _ ({ pos:=us }:Args)=pure (bC _ us)) (fun _ _ _ _ _=>rfl) us hl
 have m10:=W.mg_of X G a10
 have b11:=F11.binds (ps:=["_law_script","_law_k"]) fun _ _ _ _ _ _ us hl=>iF' (P:=fun us=>bindArgs _ ({ pos:=us }:Args)=pure (bC _ us)) (fun _ _=>rfl) us hl
 have m11:=W.mg_of X G a11
 have b12:=F12.binds (ps:=["_law_script","_law_k"]) fun _ _ _ _ _ _ us hl=>iF' (P:=fun us=>bindArgs _ ({ pos:=us }:Args)=pure (bC _ us)) (fun _ _=>rfl) us hl
 have m12:=W.mg_of X G a12
 have b13:=F13.binds (ps:=["_law_box_here","_law_many_here"]) fun _ _ _ _ _ _ us hl=>iF' (P:=fun us=>bindArgs _ ({ pos:=us }:Args)=pure (bC _ us)) (fun _ _=>rfl) us hl
 have m13:=W.mg_of X G a13
 have b14:=F14.binds (ps:=["_law_box_here","_law_least","_law_few","_law_most"]) fun _ _ _ _ _ _ us hl=>vi' (P:=fun us=>bindArgs _ ({ pos:=us }:Args)=pure (bC _ us)) (fun _ _ _ _=>rfl) us hl
 have m14:=W.mg_of X G a14
 have b15:=F15.binds (ps:=["_law_box_here","_law_many_here"]) fun _ _ _ _ _ _ us hl=>iF' (P:=fun us=>bindArgs _ ({ pos:=us }:Args)=pure (bC _ us)) (fun _ _=>rfl) us hl
 have m15:=W.mg_of X G a15
 have b16:=F16.binds (ps:=["_law_box_here","_law_many_here"]) fun _ _ _ _ _ _ us hl=>iF' (P:=fun us=>bindArgs _ ({ pos:=us }:Args)=pure (bC _ us)) (fun _ _=>rfl) us hl
 have m16:=W.mg_of X G a16
 have b17:=F17.binds (ps:=["_law_box_here","_law_machine_here"]) fun _ _ _ _ _ _ us hl=>iF' (P:=fun us=>bindArgs _ ({ pos:=us }:Args)=pure (bC _ us)) (fun _ _=>rfl) us hl
 have m17:=W.mg_of X G a17
 have b18:=F18.binds (ps:=["_law_box_here","_law_many_here"]) fun _ _ _ _ _ _ us hl=>iF' (P:=fun us=>bindArgs _ ({ pos:=us }:Args)=pure (bC _ us)) (fun _ _=>rfl) us hl
 have m18:=W.mg_of X G a18
 have b19:=F19.binds (ps:=["_law_box_here"]) fun _ _ _ _ _ _ us hl=>n7' (P:=fun us=>bindArgs _ ({ pos:=us }:Args)=pure (bC _ us)) (fun _=>rfl) us hl
 have m19:=W.mg_of X G a19
 have b20:=F20.binds (ps:=["_law_box_here"]) fun _ _ _ _ _ _ us hl=>n7' (P:=fun us=>bindArgs _ ({ pos:=us }:Args)=pure (bC _ us)) (fun _=>rfl) us hl
 have m20:=W.mg_of X G a20
 have b21:=F21.binds (ps:=["_law_one","_law_a","_law_other","_law_b"]) fun _ _ _ _ _ _ us hl=>vi' (P:=fun us=>bindArgs _ ({ pos:=us }:Args)=pure (bC _ us)) (fun _ _ _ _=>rfl) us hl
 have m21:=W.mg_of X G a21
 have b22:=F22.binds (ps:=["_law_thing","_law_one","_law_other"]) fun _ _ _ _ _ _ us hl=>w8' (P:=fun us=>bindArgs _ ({ pos:=us }:Args)=pure (bC _ us)) (fun _ _ _=>rfl) us hl
 have m22:=W.mg_of X G a22
 have b23:=F23.binds (ps:=["_law_one","_law_a","_law_other","_law_b","_law_thing"]) fun _ _ _ _ _ _ us hl=>ya' (P:=fun us=>bindArgs _ ({ pos:=us }:Args)=pure (bC _ us)) (fun _ _ _ _ _=>rfl) us hl
 have m23:=W.mg_of X G a23
 have b24:=F24.binds (ps:=["_law_box_here","_law_one","_law_other","_law_pairs"]) fun _ _ _ _ _ _ us hl=>vi' (P:=fun us=>bindArgs _ ({ pos:=us }:Args)=pure (bC _ us)) (fun _ _ _ _=>rfl) us hl
 have m24:=W.mg_of X G a24
 have m25:=W.mg_of X G a25
 have n1:=W.mg_none_of X G z1
 have n2:=W.mg_none_of X G z2
 have n3:=W.mg_none_of X G z3
 have n4:=W.mg_none_of X G z4
 have n5:=W.mg_none_of X G z5
 have n6:=W.mg_none_of X G z6
 have n7:=W.mg_none_of X G z7
 have n8:=W.mg_none_of X G z8
 have n9:=W.mg_none_of X G z9
 have n10:=W.mg_none_of X G z10
 have n11:=W.mg_none_of X G z11
 have n12:=W.mg_none_of X G z12
 have n13:=W.mg_none_of X G z13
 have n14:=W.mg_none_of X G z14
 have n15:=W.mg_none_of X G z15
 have n16:=W.mg_none_of X G z16
 have n17:=W.mg_none_of X G z17
 have n18:=W.mg_none_of X G z18
 refine⟨W.fnOf "law" "law" (c0' (top 28)) (aj' (top 28)) (ac' (top 28)) .none kV25 dc25 pm25 an25 cd25 ct25,fun s v=>.of_eq rfl,fun base _ _=>?_⟩
 have O1:=ap' (P:=l.prog) (w:=w) (mg:=mg) (base:=base) (k:=0) F1 { N:=bY',B:=bq',K:=K,fs:=aP' [] } no' rfl K08.bn' qD' (sp:=K08.ea') (by walk_at "o") (aI' mN) (mC ⟨n4,(mC ⟨n5,(mC ⟨n6,mN⟩)⟩)⟩) ⟨n1,n2,n3⟩ (show tld bq'=false by decide +kernel) (show hat bq'=false by decide +kernel) rfl rfl (K08.iv' rfl  )
 have O2:=ap' (P:=l.prog) (w:=w) (mg:=mg) (base:=base) (k:=1) F2 { N:=bZ',B:=br',K:=K,fs:=aP' [("is_number",K08.ea')] } k7' rfl K08.bo' np' (sp:=K08.bH') (by walk_at "o") (aI' (mC ⟨⟨_,_,_,(O1).mono (by omega),m1,F1.kp,b1⟩,mN⟩)) mN ⟨n1,n2,n3⟩ (show tld br'=false by decide +kernel) (show hat br'=false by decide +kernel) rfl rfl (K08.gO' rfl (show aP' _ "is_number"=some (K08.ea') from ae') )
 have O3:=ap' (P:=l.prog) (w:=w) (mg:=mg) (base:=base) (k:=0) F3 { N:=cx',B:=b0',K:=K,fs:=aP' [] } qE' rfl K08.bU' uJ' (sp:=K08.dj') (by walk_at "o") (aI' mN) (mC ⟨n6,(mC ⟨n7,(mC ⟨n8,mN⟩)⟩)⟩) ⟨n1,n2,n3⟩ (show tld b0'=false by decide +kernel) (show hat b0'=false by decide +kernel) rfl rfl (K08.kL' rfl  )
 have O4:=ap' (P:=l.prog) (w:=w) (mg:=mg) (base:=base) (k:=2) F4 { N:=cy',B:=b2',K:=K,fs:=aP' [("is_within",K08.bH')] } qF' rfl K08.bV' uK' (sp:=K08.f6') (by walk_at "o") (aI' (mC ⟨⟨_,_,_,(O2).mono (by omega),m2,F2.kp,b2⟩,mN⟩)) mN ⟨n1,n2,n3⟩ (show tld b2'=false by decide +kernel) (show hat b2'=false by decide +kernel) rfl rfl (K08.kM' rfl (show aP' _ "is_within"=some (K08.bH') from ae') )
 have O5:=ap' (P:=l.prog) (w:=w) (mg:=mg) (base:=base) (k:=3) F5 { N:=cz',B:=b3',K:=K,fs:=aP' [("is_pair",K08.dj'),("is_lead",K08.f6')] } qG' rfl K08.bW' uL' (sp:=K08.eb') (by walk_at "o") (aI' (mC ⟨⟨_,_,_,(O3).mono (by omega),m3,F3.kp,b3⟩,(mC ⟨⟨_,_,_,(O4).mono (by omega),m4,F4.kp,b4⟩,mN⟩)⟩)) mN ⟨n1,n2,n3⟩ (show tld b3'=false by decide +kernel) (show hat b3'=false by decide +kernel) rfl rfl (K08.iw' rfl (show aP' _ "is_pair"=some (K08.dj') from ae') (show aP' _ "is_lead"=some (K08.f6') from((aa' (by decide +kernel)).trans ae')) )
 have O6:=ap' (P:=l.prog) (w:=w) (mg:=mg) (base:=base) (k:=4) F6 { N:=bL',B:=bg',K:=K,fs:=aP' [("is_room",K08.eb')] } uM' rfl K08.bf' xn' (sp:=K08.kO') (by walk_at "o") (aI' (mC ⟨⟨_,_,_,(O5).mono (by omega),m5,F5.kp,b5⟩,mN⟩)) (mC ⟨n9,(mC ⟨n6,(mC ⟨n7,(mC ⟨n8,mN⟩)⟩)⟩)⟩) ⟨n1,n2,n3⟩ (show tld bg'=false by decide +kernel) (show hat bg'=false by decide +kernel) rfl rfl (K08.m8' rfl (show aP' _ "is_room"=some (K08.eb') from ae') )
 have O7:=ap' (P:=l.prog) (w:=w) (mg:=mg) (base:=base) (k:=0) F7 { N:=b1',B:=bs',K:=K,fs:=aP' [] } k8' rfl bt' nq' (sp:=uG') (by walk_at "o") (aI' mN) (mC ⟨n6,(mC ⟨n10,(mC ⟨n8,mN⟩)⟩)⟩) ⟨n1,n2,n3⟩ (show tld bs'=false by decide +kernel) (show hat bs'=false by decide +kernel) rfl rfl (qv' rfl  )
 have O8:=ap' (P:=l.prog) (w:=w) (mg:=mg) (base:=base) (k:=2) F8 { N:=aS',B:=aC',K:=K,fs:=aP' [("is_pair",K08.dj'),("is_within",K08.bH')] } uN' rfl aD' xo' (sp:=uz') (by walk_at "o") (aI' (mC ⟨⟨_,_,_,(O3).mono (by omega),m3,F3.kp,b3⟩,(mC ⟨⟨_,_,_,(O2).mono (by omega),m2,F2.kp,b2⟩,mN⟩)⟩)) (mC ⟨n7,mN⟩) ⟨n1,n2,n3⟩ (show tld aC'=false by decide +kernel) (show hat aC'=false by decide +kernel) rfl rfl (qr' rfl (show aP' _ "is_pair"=some (K08.dj') from ae') (show aP' _ "is_within"=some (K08.bH') from((aa' (by decide +kernel)).trans ae')) )
 have O9:=ap' (P:=l.prog) (w:=w) (mg:=mg) (base:=base) (k:=0) F9 { N:=a5',B:=aM',K:=K,fs:=aP' [] } uO' rfl aN' xp' (sp:=k1') (by walk_at "o") (aI' mN) mN ⟨n1,n2,n3⟩ (show tld aM'=false by decide +kernel) (show hat aM'=false by decide +kernel) rfl rfl (nk' rfl  )
 have O10:=ap' (P:=l.prog) (w:=w) (mg:=mg) (base:=base) (k:=5) F10 { N:=bz',B:=a6',K:=K,fs:=aP' [("is_machine",K08.kO'),("is_pair_of_rooms",uz'),("is_listed",uG'),("leads_to_pairs",k1')] } nr' rfl a7' qH' (sp:=c7') (by walk_at "o") (aI' (mC ⟨⟨_,_,_,(O6).mono (by omega),m6,F6.kp,b6⟩,(mC ⟨⟨_,_,_,(O8).mono (by omega),m8,F8.kp,b8⟩,(mC ⟨⟨_,_,_,(O7).mono (by omega),m7,F7.kp,b7⟩,(mC ⟨⟨_,_,_,(O9).mono (by omega),m9,F9.kp,b9⟩,mN⟩)⟩)⟩)⟩)) (mC ⟨n9,mN⟩) ⟨n1,n2,n3⟩ (show tld a6'=false by decide +kernel) (show hat a6'=false by decide +kernel) rfl rfl (iz' rfl (show aP' _ "is_machine"=some (K08.kO') from ae') (show aP' _ "is_pair_of_rooms"=some (uz') from((aa' (by decide +kernel)).trans ae')) (show aP' _ "is_listed"=some (uG') from((aa' (by decide +kernel)).trans ((aa' (by decide +kernel)).trans ae'))) (show aP' _ "leads_to_pairs"=some (k1') from((aa' (by decide +kernel)).trans ((aa' (by decide +kernel)).trans ((aa' (by decide +kernel)).trans ae')))) )
 have O11:=ap' (P:=l.prog) (w:=w) (mg:=mg) (base:=base) (k:=0) F11 { N:=cS',B:=cd',K:=K,fs:=aP' [] } qI' rfl cQ' uP' (sp:=eO' K) (by walk_at "o") (aI' mN) (mC ⟨n7,mN⟩) ⟨n1,n2,n3⟩ (show tld cd'=false by decide +kernel) (show hat cd'=false by decide +kernel) rfl rfl (kD' (C:={ N:=cS',B:=cd',K:=K,fs:=aP' [] }) rfl  )
 have O12:=um' (ap' (P:=l.prog) (w:=w) (mg:=mg) (base:=base) (k:=1) F12 { N:=nb',B:=kT',K:=K,fs:=aP' [("_law_cell_at",eO' K)] } uQ' rfl m3' xq' (sp:=kE' K) (by walk_at "o") (aI' (mC ⟨⟨_,_,_,(O11).mono (by omega),m11,F11.kp,b11⟩,mN⟩)) (mC ⟨n11,(mC ⟨n5,mN⟩)⟩) ⟨n1,n2,n3⟩ (show tld kT'=false by decide +kernel) (show hat kT'=false by decide +kernel) rfl rfl (m5' (C:={ N:=nb',B:=kT',K:=K,fs:=aP' [("_law_cell_at",eO' K)] }) rfl (show aP' _ "_law_cell_at"=some (eO' K) from ae') ))
 have O13:=qj' rfl (ap' (P:=l.prog) (w:=w) (mg:=mg) (base:=base) (k:=0) F13 { N:=kU',B:=hP',K:=K,fs:=aP' [] } qJ' rfl hF' uR' (sp:=ff') (by walk_at "o") (aI' mN) mN ⟨n1,n2,n3⟩ (show tld hP'=false by decide +kernel) (show hat hP'=false by decide +kernel) rfl rfl (kF' rfl  ))
 have O14:=ap' (P:=l.prog) (w:=w) (mg:=mg) (base:=base) (k:=1) F14 { N:=kV',B:=hQ',K:=K,fs:=aP' [("_law_take",az')] } qK' rfl hG' uS' (sp:=f2') (by walk_at "o") (aI' (mC ⟨⟨_,_,_,(O13).mono (by omega),m13,F13.kp,b13⟩,mN⟩)) mN ⟨n1,n2,n3⟩ (show tld hQ'=false by decide +kernel) (show hat hQ'=false by decide +kernel) rfl rfl (kH' rfl (show aP' _ "_law_take"=some (az') from ae') )
 have O15:=ap' (P:=l.prog) (w:=w) (mg:=mg) (base:=base) (k:=1) F15 { N:=ee',B:=cT',K:=K,fs:=aP' [("_law_take",az')] } iB' rfl cR' k9' (sp:=by' 1 60 400) (by walk_at "o") (aI' (mC ⟨⟨_,_,_,(O13).mono (by omega),m13,F13.kp,b13⟩,mN⟩)) (mC ⟨n5,(mC ⟨n12,(mC ⟨n8,mN⟩)⟩)⟩) ⟨n1,n2,n3⟩ (show tld cT'=false by decide +kernel) (show hat cT'=false by decide +kernel) rfl rfl (f3' rfl (show aP' _ "_law_take"=some (az') from ae') )
 have O16:=ap' (P:=l.prog) (w:=w) (mg:=mg) (base:=base) (k:=1) F16 { N:=bM',B:=bh',K:=K,fs:=aP' [("_law_take",az')] } qL' rfl aV' uT' (sp:=by' 1 60 400) (by walk_at "o") (aI' (mC ⟨⟨_,_,_,(O13).mono (by omega),m13,F13.kp,b13⟩,mN⟩)) (mC ⟨n13,(mC ⟨n5,(mC ⟨n12,(mC ⟨n8,mN⟩)⟩)⟩)⟩) ⟨n1,n2,n3⟩ (show tld bh'=false by decide +kernel) (show hat bh'=false by decide +kernel) rfl rfl (kI' rfl (show aP' _ "_law_take"=some (az') from ae') )
 have O17:=ap' (P:=l.prog) (w:=w) (mg:=mg) (base:=base) (k:=1) F17 { N:=fj',B:=dw',K:=K,fs:=aP' [("_law_take",az')] } la' rfl dv' ns' (sp:=bG') (by walk_at "o") (aI' (mC ⟨⟨_,_,_,(O13).mono (by omega),m13,F13.kp,b13⟩,mN⟩)) (mC ⟨n13,(mC ⟨n7,(mC ⟨n12,(mC ⟨n8,mN⟩)⟩)⟩)⟩) ⟨n1,n2,n3⟩ (show tld dw'=false by decide +kernel) (show hat dw'=false by decide +kernel) rfl rfl (gM' rfl (show aP' _ "_law_take"=some (az') from ae') )
 have O18:=ap' (P:=l.prog) (w:=w) (mg:=mg) (base:=base) (k:=1) F18 { N:=kW',B:=hT',K:=K,fs:=aP' [("_law_take",az')] } qM' rfl hH' uU' (sp:=by' 1 60 400) (by walk_at "o") (aI' (mC ⟨⟨_,_,_,(O13).mono (by omega),m13,F13.kp,b13⟩,mN⟩)) (mC ⟨n10,(mC ⟨n12,(mC ⟨n8,mN⟩)⟩)⟩) ⟨n1,n2,n3⟩ (show tld hT'=false by decide +kernel) (show hat hT'=false by decide +kernel) rfl rfl (kJ' rfl (show aP' _ "_law_take"=some (az') from ae') )
 have O19:=ap' (P:=l.prog) (w:=w) (mg:=mg) (base:=base) (k:=2) F19 { N:=qo',B:=nc',K:=K,fs:=aP' [("_law_take",az'),("_law_many",f2'),("_law_line",by' 1 60 400),("_law_copied",bG'),("_law_machine",by' 1 60 400),("_law_ring_machine",by' 1 60 400)] } uV' rfl m6' xr' (sp:=kK') (by walk_at "o") (aI' (mC ⟨⟨_,_,_,(O13).mono (by omega),m13,F13.kp,b13⟩,(mC ⟨⟨_,_,_,(O14).mono (by omega),m14,F14.kp,b14⟩,(mC ⟨⟨_,_,_,(O18).mono (by omega),m18,F18.kp,b18⟩,(mC ⟨⟨_,_,_,(O17).mono (by omega),m17,F17.kp,b17⟩,(mC ⟨⟨_,_,_,(O15).mono (by omega),m15,F15.kp,b15⟩,(mC ⟨⟨_,_,_,(O16).mono (by omega),m16,F16.kp,b16⟩,mN⟩)⟩)⟩)⟩)⟩)⟩)) mN ⟨n1,n2,n3⟩ (show tld nc'=false by decide +kernel) (show hat nc'=false by decide +kernel) rfl rfl (m7' rfl (show aP' _ "_law_take"=some (az') from ae') (show aP' _ "_law_many"=some (f2') from((aa' (by decide +kernel)).trans ae')) (show aP' _ "_law_line"=some (by' 1 60 400) from((aa' (by decide +kernel)).trans ((aa' (by decide +kernel)).trans ae'))) (show aP' _ "_law_copied"=some (bG') from((aa' (by decide +kernel)).trans ((aa' (by decide +kernel)).trans ((aa' (by decide +kernel)).trans ae')))) (show aP' _ "_law_machine"=some (by' 1 60 400) from((aa' (by decide +kernel)).trans ((aa' (by decide +kernel)).trans ((aa' (by decide +kernel)).trans ((aa' (by decide +kernel)).trans ae'))))) (show aP' _ "_law_ring_machine"=some (by' 1 60 400) from((aa' (by decide +kernel)).trans ((aa' (by decide +kernel)).trans ((aa' (by decide +kernel)).trans ((aa' (by decide +kernel)).trans ((aa' (by decide +kernel)).trans ae')))))) )
 have O20:=ap' (P:=l.prog) (w:=w) (mg:=mg) (base:=base) (k:=3) F20 { N:=qp',B:=nd',K:=K,fs:=aP' [("_law_any",kK'),("_law_take",az'),("_law_copied",bG')] } uW' rfl K13.m9' xt' (sp:=K13.iy') (by walk_at "o") (aI' (mC ⟨⟨_,_,_,(O19).mono (by omega),m19,F19.kp,b19⟩,(mC ⟨⟨_,_,_,(O13).mono (by omega),m13,F13.kp,b13⟩,(mC ⟨⟨_,_,_,(O17).mono (by omega),m17,F17.kp,b17⟩,mN⟩)⟩)⟩)) (mC ⟨n7,mN⟩) ⟨n1,n2,n3⟩ (show tld nd'=false by decide +kernel) (show hat nd'=false by decide +kernel) rfl rfl (K13.na' rfl (show aP' _ "_law_any"=some (kK') from ae') (show aP' _ "_law_take"=some (az') from((aa' (by decide +kernel)).trans ae')) (show aP' _ "_law_copied"=some (bG') from((aa' (by decide +kernel)).trans ((aa' (by decide +kernel)).trans ae'))) )
 have O21:=ap' (P:=l.prog) (w:=w) (mg:=mg) (base:=base) (k:=0) F21 { N:=gP',B:=fk',K:=K,fs:=aP' [] } nt' rfl fl' qN' (sp:=c8') (by walk_at "o") (aI' mN) (mC ⟨n7,(mC ⟨n14,mN⟩)⟩) ⟨n1,n2,n3⟩ (show tld fk'=false by decide +kernel) (show hat fk'=false by decide +kernel) rfl rfl (iA' rfl  )
 have O22:=ap' (P:=l.prog) (w:=w) (mg:=mg) (base:=base) (k:=0) F22 { N:=ef',B:=cU',K:=K,fs:=aP' [] } uX' rfl cV' xu' (sp:=f8') (by walk_at "o") (aI' mN) (mC ⟨n4,(mC ⟨n5,(mC ⟨n6,(mC ⟨n7,(mC ⟨n12,(mC ⟨n8,(mC ⟨n14,mN⟩)⟩)⟩)⟩)⟩)⟩)⟩) ⟨n1,n2,n3⟩ (show tld cU'=false by decide +kernel) (show hat cU'=false by decide +kernel) rfl rfl (k4' rfl  )
 have O23:=ap' (P:=l.prog) (w:=w) (mg:=mg) (base:=base) (k:=1) F23 { N:=qq',B:=ne',K:=K,fs:=aP' [("_law_is_pair",f8')] } uY' rfl nf' xv' (sp:=qX') (by walk_at "o") (aI' (mC ⟨⟨_,_,_,(O22).mono (by omega),m22,F22.kp,b22⟩,mN⟩)) (mC ⟨n9,(mC ⟨n15,(mC ⟨n6,(mC ⟨n10,(mC ⟨n8,(mC ⟨n14,mN⟩)⟩)⟩)⟩)⟩)⟩) ⟨n1,n2,n3⟩ (show tld ne'=false by decide +kernel) (show hat ne'=false by decide +kernel) rfl rfl (qA' rfl (show aP' _ "_law_is_pair"=some (f8') from ae') )
 have O24:=ap' (P:=l.prog) (w:=w) (mg:=mg) (base:=base) (k:=1) F24 { N:=fm',B:=dx',K:=K,fs:=aP' [("_law_take",az')] } lb' rfl dy' nu' (sp:=cj') (by walk_at "o") (aI' (mC ⟨⟨_,_,_,(O13).mono (by omega),m13,F13.kp,b13⟩,mN⟩)) (mC ⟨n7,(mC ⟨n10,(mC ⟨n16,(mC ⟨n8,mN⟩)⟩)⟩)⟩) ⟨n1,n2,n3⟩ (show tld dx'=false by decide +kernel) (show hat dx'=false by decide +kernel) rfl rfl (gR' rfl (show aP' _ "_law_take"=some (az') from ae') )
 exact ap' (P:=l.prog) (w:=w) (mg:=mg) (base:=base) (k:=59) F25 { N:=ng',B:=kX',K:=K,fs:=aP' [("_law_box",kG' K),("_law_two",K13.iy'),("_law_take",az'),("_law_paper",c8'),("_law_things",cj'),("shows_alike",c7'),("_law_due",qX')] } uZ' rfl nh' xw' (sp:=k6' K) (by walk_at "o") (aI' (mC ⟨⟨_,_,_,(O12).mono (by omega),m12,F12.kp,b12⟩,(mC ⟨⟨_,_,_,(O20).mono (by omega),m20,F20.kp,b20⟩,(mC ⟨⟨_,_,_,(O13).mono (by omega),m13,F13.kp,b13⟩,(mC ⟨⟨_,_,_,(O21).mono (by omega),m21,F21.kp,b21⟩,(mC ⟨⟨_,_,_,(O24).mono (by omega),m24,F24.kp,b24⟩,(mC ⟨⟨_,_,_,(O10).mono (by omega),m10,F10.kp,b10⟩,(mC ⟨⟨_,_,_,(O23).mono (by omega),m23,F23.kp,b23⟩,mN⟩)⟩)⟩)⟩)⟩)⟩)⟩)) (mC ⟨n4,(mC ⟨n6,(mC ⟨n7,(mC ⟨n17,(mC ⟨n12,(mC ⟨n18,mN⟩)⟩)⟩)⟩)⟩)⟩) ⟨n1,n2,n3⟩ (show tld kX'=false by decide +kernel) (show hat kX'=false by decide +kernel) rfl rfl (nn' (C:={ N:=ng',B:=kX',K:=K,fs:=aP' [("_law_box",kG' K),("_law_two",K13.iy'),("_law_take",az'),("_law_paper",c8'),("_law_things",cj'),("shows_alike",c7'),("_law_due",qX')] }) rfl ⟨(show aP' _ "_law_box"=some (kG' K) from ae'),(show aP' _ "_law_two"=some (K13.iy') from((aa' (by decide +kernel)).trans ae')),(show aP' _ "_law_take"=some (az') from((aa' (by decide +kernel)).trans ((aa' (by decide +kernel)).trans ae'))),(show aP' _ "_law_paper"=some (c8') from((aa' (by decide +kernel)).trans ((aa' (by decide +kernel)).trans ((aa' (by decide +kernel)).trans ae')))),(show aP' _ "_law_things"=some (cj') from((aa' (by decide +kernel)).trans ((aa' (by decide +kernel)).trans ((aa' (by decide +kernel)).trans ((aa' (by decide +kernel)).trans ae'))))),(show aP' _ "shows_alike"=some (c7') from((aa' (by decide +kernel)).trans ((aa' (by decide +kernel)).trans ((aa' (by decide +kernel)).trans ((aa' (by decide +kernel)).trans ((aa' (by decide +kernel)).trans ae')))))),(show aP' _ "_law_due"=some (qX') from((aa' (by decide +kernel)).trans ((aa' (by decide +kernel)).trans ((aa' (by decide +kernel)).trans ((aa' (by decide +kernel)).trans ((aa' (by decide +kernel)).trans ((aa' (by decide +kernel)).trans ae')))))))⟩ )
theorem y5' {l:W.OpenLaw} {q:Program} {loose:List Str} {XP:(Str->Option Value)->Heap->Prop} {d:DefRec} {K:Params->W.Frag} {bs:List Addr} {m t:Nat} (hn:l.most=some 63) (hdf:d.params.defaults=[]) (e:∀P,bs=(K P).map (·.1))
  (F:∀(w:World) (mg:Str->Option Value) (fa:Addr) (h:Heap),(K w.params).In h->h.Ns mainGlobals mg->mg d.name=some (.ref fa)->
   ∃fd:FuncData,(∀(s:Shared) (u:Value),BindsTo s fd ⟨[u],[]⟩ [("_law_script",u)])/\∀base:Heap,(K w.params).In base->base.Ns mainGlobals mg->FnOk l.prog w (K w.params) mg base CX0 60 fa fd ["_law_script"] (k6' (K w.params))):
  W.WalkX q loose XP (W.X.obsZ bs) (W.X.valZ K m t) l.row.toRowW d [] (fun f vs=>PySem.call f vs):=
 fun w s₀ s₁ mg mb G y a o pm cd doc dV kV h1 h2 h3 h4 h5 h6 args vals cs La=>L2.oM' (YP:=fun w h=>(K w.params).In h) (n:=63) (k:=60) (x:="_law_script") (CX:=fun _=>CX0) (sp:=fun w=>k6' (K w.params)) hn (by decide) hdf ⟨rfl,by decide,by decide,rfl⟩ (fun _ _ Y=>Y) F (fun _ _ a ns hl _ hS=>⟨a,ns,rfl,hS,hl,fun _=>rfl⟩) (fun _ _ _ _ _ z=>z) w s₀ s₁ mg mb G (W.InK.keeps w _ _ (W.X.z_facts e y).2.1 La.keeps) a o pm cd doc dV kV h1 h2 h3 h4 h5 h6 args vals cs
end K14
end
open PySem PySem.W PyProof.Rows
noncomputable def PySem.W.Fast.tw11812067993624056599:Nat:=0
noncomputable def PySem.W.Fast.tw9382435754912027995:Nat:=0
noncomputable def PySem.W.Fast.tw9987956268236472461:Nat:=0
noncomputable def PySem.W.Fast.tw12768677595504442218:Nat:=0
noncomputable def PySem.W.Fast.tw249011970798194499:Nat:=0
noncomputable def PySem.W.Fast.tw5546927834027719203:Nat:=0
noncomputable def PySem.W.Fast.tw16499535906943314728:Nat:=0
noncomputable def PySem.W.Fast.tw5269494703231326943:Nat:=0
noncomputable def PySem.W.Fast.tw8188174543159560695:Nat:=0
noncomputable def PySem.W.Fast.tw4484757643246556143:Nat:=0
noncomputable def PySem.W.Fast.tw106492161290631827:Nat:=0
noncomputable def PySem.W.Fast.tw5742704583384423105:Nat:=0
noncomputable def PySem.W.Fast.tw9250564138968936184:Nat:=0
noncomputable def PySem.W.Fast.tw14461583531696027476:Nat:=0
noncomputable def PySem.W.Fast.tw16985275711061746634:Nat:=0
noncomputable def PySem.W.Fast.tw2040487551849786148:Nat:=0
noncomputable def PySem.W.Fast.tw11000264367282969893:Nat:=0
noncomputable def PySem.W.Fast.tw12799159806007744411:Nat:=0
noncomputable def PySem.W.Fast.tw4857949476850782954:Nat:=0
noncomputable def PySem.W.Fast.tw8726849479804019531:Nat:=0
noncomputable def PySem.W.Fast.tw6213464972139188257:Nat:=0
noncomputable def PySem.W.Fast.tw11153849110044813742:Nat:=0
noncomputable def PySem.W.Fast.tw15259597013850691498:Nat:=0
noncomputable def PySem.W.Fast.tw13720455287635597711:Nat:=0
noncomputable def PySem.W.Fast.tw16256869036393056721:Nat:=0
noncomputable def PySem.W.Fast.tw6687834033623643309:Nat:=0
noncomputable def PySem.W.Fast.tw5493497429983800913:Nat:=0
noncomputable def PySem.W.Fast.tw8349311661914950659:Nat:=0
noncomputable def PySem.W.Fast.tw2112522784958934130:Nat:=0
noncomputable def PySem.W.Fast.tw4549560234740484559:Nat:=0
noncomputable def PySem.W.Fast.tw615279855196955876:Nat:=0
noncomputable def PySem.W.Fast.tw10280113232611477710:Nat:=0
noncomputable def PySem.W.Fast.tw3427197159938603549:Nat:=0
noncomputable def PySem.W.Fast.tw1485463425446092685:Nat:=0
noncomputable def PySem.W.Fast.tw2585074787642574274:Nat:=0
noncomputable def PySem.W.Fast.tw15359038381357348370:Nat:=0
noncomputable def PySem.W.Fast.tw9529652399024914519:Nat:=0
set_option maxRecDepth 100000 in
set_option maxHeartbeats 0 in
theorem PySem.Challenge.cw_runbound_k14_alike_shown_holds : PySem.Challenge.rw_runbound_k14_alike_shown.Holds := by
 w_on; o_law; z_head; (case hw => w_witness2)
 k_fill
 refine K14.y5' (l := PySem.Challenge.rw_runbound_k14_alike_shown) rfl rfl (fun _ => rfl) ?F
 case F =>
  intro w mg fa h KX G hmg
  refine' K14.u0' KX G hmg (K14.aJ' ?a1 ?l1 ?c1 ?k1) (K14.aJ' ?a2 ?l2 ?c2 ?k2) (K14.aJ' ?a3 ?l3 ?c3 ?k3) (K14.aJ' ?a4 ?l4 ?c4 ?k4) (K14.aJ' ?a5 ?l5 ?c5 ?k5) (K14.aJ' ?a6 ?l6 ?c6 ?k6) (K14.aJ' ?a7 ?l7 ?c7 ?k7) (K14.aJ' ?a8 ?l8 ?c8 ?k8) (K14.aJ' ?a9 ?l9 ?c9 ?k9) (K14.aJ' ?a10 ?l10 ?c10 ?k10) (K14.aJ' ?a11 ?l11 ?c11 ?k11) (K14.aJ' ?a12 ?l12 ?c12 ?k12) (K14.aJ' ?a13 ?l13 ?c13 ?k13) (K14.aJ' ?a14 ?l14 ?c14 ?k14) (K14.aJ' ?a15 ?l15 ?c15 ?k15) (K14.aJ' ?a16 ?l16 ?c16 ?k16) (K14.aJ' ?a17 ?l17 ?c17 ?k17) (K14.aJ' ?a18 ?l18 ?c18 ?k18) (K14.aJ' ?a19 ?l19 ?c19 ?k19) (K14.aJ' ?a20 ?l20 ?c20 ?k20) (K14.aJ' ?a21 ?l21 ?c21 ?k21) (K14.aJ' ?a22 ?l22 ?c22 ?k22) (K14.aJ' ?a23 ?l23 ?c23 ?k23) (K14.aJ' ?a24 ?l24 ?c24 ?k24) (K14.aJ' ?a25 ?l25 ?c25 ?k25) ?z1 ?z2 ?z3 ?z4 ?z5 ?z6 ?z7 ?z8 ?z9 ?z10 ?z11 ?z12 ?z13 ?z14 ?z15 ?z16 ?z17 ?z18 
  (case a1 => k_is); (case l1 => k_is); (case c1 => k_is); (case k1 => k_is)
  (case a2 => k_is); (case l2 => k_is); (case c2 => k_is); (case k2 => k_is)
  (case a3 => k_is); (case l3 => k_is); (case c3 => k_is); (case k3 => k_is)
  (case a4 => k_is); (case l4 => k_is); (case c4 => k_is); (case k4 => k_is)
  (case a5 => k_is); (case l5 => k_is); (case c5 => k_is); (case k5 => k_is)
  (case a6 => k_is); (case l6 => k_is); (case c6 => k_is); (case k6 => k_is)
  (case a7 => k_is); (case l7 => k_is); (case c7 => k_is); (case k7 => k_is)
  (case a8 => k_is); (case l8 => k_is); (case c8 => k_is); (case k8 => k_is)
  (case a9 => k_is); (case l9 => k_is); (case c9 => k_is); (case k9 => k_is)
  (case a10 => k_is); (case l10 => k_is); (case c10 => k_is); (case k10 => k_is)
  (case a11 => k_is); (case l11 => k_is); (case c11 => k_is); (case k11 => k_is)
  (case a12 => k_is); (case l12 => k_is); (case c12 => k_is); (case k12 => k_is)
  (case a13 => k_is); (case l13 => k_is); (case c13 => k_is); (case k13 => k_is)
  (case a14 => k_is); (case l14 => k_is); (case c14 => k_is); (case k14 => k_is)
  (case a15 => k_is); (case l15 => k_is); (case c15 => k_is); (case k15 => k_is)
  (case a16 => k_is); (case l16 => k_is); (case c16 => k_is); (case k16 => k_is)
  (case a17 => k_is); (case l17 => k_is); (case c17 => k_is); (case k17 => k_is)
  (case a18 => k_is); (case l18 => k_is); (case c18 => k_is); (case k18 => k_is)
  (case a19 => k_is); (case l19 => k_is); (case c19 => k_is); (case k19 => k_is)
  (case a20 => k_is); (case l20 => k_is); (case c20 => k_is); (case k20 => k_is)
  (case a21 => k_is); (case l21 => k_is); (case c21 => k_is); (case k21 => k_is)
  (case a22 => k_is); (case l22 => k_is); (case c22 => k_is); (case k22 => k_is)
  (case a23 => k_is); (case l23 => k_is); (case c23 => k_is); (case k23 => k_is)
  (case a24 => k_is); (case l24 => k_is); (case c24 => k_is); (case k24 => k_is)
  (case a25 => k_is); (case l25 => k_is); (case c25 => k_is); (case k25 => k_is)
  (case z1 => k_is)
  (case z2 => k_is)
  (case z3 => k_is)
  (case z4 => k_is)
  (case z5 => k_is)
  (case z6 => k_is)
  (case z7 => k_is)
  (case z8 => k_is)
  (case z9 => k_is)
  (case z10 => k_is)
  (case z11 => k_is)
  (case z12 => k_is)
  (case z13 => k_is)
  (case z14 => k_is)
  (case z15 => k_is)
  (case z16 => k_is)
  (case z17 => k_is)
  (case z18 => k_is)