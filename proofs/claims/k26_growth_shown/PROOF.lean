import PyProof.Rows.All
import Wide.All
import OpenK.AllK
import Wide.FinOn
import Lean
import PyProof.EqAt
import PyProof.EqKinds
import PyProof.TupleCall
import PyProof.Rows.TupAdd
import PyProof.Rows.SortStr
import PyProof.Rows.SortWalk
import PyProof.CollectIter
import PyProof.Rows.Tup
import PyProof.TupleOfSeq
import PyProof.ReprRoads
import PyProof.CallStr
import PyProof.SeqRoads2
import KE.KDictList
import KE.KSortTup
import PyProof.SetRoads
import PyProof.Rows.SetFrom
import PyProof.TupleKey
import PyProof.IsRules
import PyProof.Rows.SortShell
import KE.KUnpack
import PyProof.IsiH_list
import PyProof.FactsAll.dict_1
import PyProof.DictFindH
import PySem.Challenge.RW_runbound_k26_growth_shown
open PySem renaming wpAny_bind → aa,wpAny_pure → ap,wpAny_field → aY,wpAny_callSpecial?_slot → bc,wpAny_truthy_bool → bx,wpAny_seqItems → bB,wpAny_pyIter_tuple → bC,wpAny_call_entry → bG,wpAny_newObj_type → bI,wpAny_setField_rec → bL,wpAny_holding → bM,wpAny_passesOwn → ce,wpAny_pyIter_list → cC,wpAny_standAt → cI
open PySem.Heap renaming get?_push_of_some → ab,lt_size → ao,get?_push_size → av,size_push → aZ,get?_update_self → bK,SameBut → bW
open List renaming getElem?_eq_getElem → ac,length_map → ah,mem_cons → ai,size_toArray → aj,not_mem_nil → al,mem_append_right → ax,mem_cons_of_mem → az,getElem?_map → aD,range → aE,map_append → aG,mem_append → aH,getD_eq_getElem?_getD → aI,mem_cons_self → aJ,replicate → aK,length_append → aN,getElem?_eq_some_iff → aO,mem_map → aP,getElem?_eq_none_iff → aV,mem_of_getElem? → aX,zip → bb,map_cons → bg,all_eq_true → bj,mem_singleton → bm,getElem?_eq_none → bo,mem_range → bp,length_take → bq,lookup_cons → br,getElem?_range → bu,take_append_drop → bA,mem_append_left → bE,getElem?_set_ne → bF,filterMap_cons → bH,flatten_cons → bN,append_assoc → bO,ext_getElem? → bP,length_range → bQ,range_succ → bT,getElem?_set_self → bU,take_of_length_le → bV,all_cons → bX,any_cons → bY,pairwise_append → cc,replicate_succ → cg,length_drop → ck,length_cons → cn,nodup_cons → cu,map_map → cx,find?_cons → cy,getElem_drop → cD,mem_iff_getElem → cF,mem_of_mem_drop → cG
open Bool renaming and_eq_true → af,false_ne_true → aq,true_and → aM,false_and → aS,not_eq_true' → bJ
open Nat renaming lt_of_lt_of_le → ag,le_refl → ak,le_trans → au,ne_of_lt → aw,mul_right_comm → ay,zero_le → aC,le_add_right → aF,le_of_mul_le_mul_right → aQ,mul_le_mul_right → aR,lt_irrefl → aU,gcd → aW,ne_of_gt → bn,mul_assoc → bD,le_of_lt_succ → bR,lt_of_le_of_lt → bZ,pow_succ → cf,mul_div_cancel_left → cj,le_of_lt → cr,mul_comm → cv,lt_or_ge → cw,not_lt_zero → cz,div_le_self → cA,lt_succ_of_lt → cB,mod_eq_of_lt → cH
open Int renaming eq_ofNat_of_zero_le → aA,toNat_natCast → aT,emod_lt_of_pos → cq
open Array renaming length_toList → aB,getElem?_eq_getElem → aL,toList_append → bi,toList_push → cE
open Option renaming isSome → ci
set_option genSizeOf false
set_option Elab.async false
set_option compiler.extract_closed false
set_option linter.all false
set_option maxRecDepth 100000
set_option tactic.hygienic false
namespace L2
open PySem PySem.Spec PyProof.Rows
section
variable {prog:Program} {w:World} {A:Around} {E:Value->Shared->Prop} {s:Shared}
theorem bQ' (s:Shared):s.TypeIs .none "NoneType":=rfl
theorem eY' {Q:Int->Shared->Prop} (h:Q 0xFCA86420 { s with toks:=s.toks+1 }):wpAny (model prog w) A (pyHash .none) Q E s:=by
 unfold pyHash
 have hv:[Value.none].any Value.onHeap=false:=rfl
 refine aa ?_
 rw[cRoomFor,if_neg (by rw[hv];exact aq)];refine ap ?_
 refine aa (wpAny_specialOf (bQ' s) F.slot_NoneType_hash.lookup ?_)
 show wpAny _ _ (if(some (Value.builtin "NoneType.__hash__") == some Value.none)=true then _ else _) Q E s
 rw[if_neg (by rw[beq_builtin_none];exact aq)]
 refine aa (wpAny_specialOf (bQ' s) F.slot_NoneType_hash.lookup ?_)
 show wpAny _ _ (callSpecialIfBoundUnlessNone? (.none) "__hash__" _ >>= _) Q E s
 refine aa (wpAny_callSpecialIfBoundUnlessNone?_slot (bQ' s) F.slot_NoneType_hash
  (bG F.slot_NoneType_hash (bQ' s) F.entry_NoneType_hash
   (show wpAny _ _ (do ret (<- mkInt 0xFCA86420)) _ _ s from wpAny_ret_mkInt ?_) (F.args_NoneType_hash_1 _)))
 exact ap h
end
inductive Key where
 |inl (i:Int)|inr (x:Str)|non
 deriving DecidableEq
def g0':Key->Value->Bool
 | .inl k,v=>Value.isInt k v
 | .inr x,v=>Value.isStrOf x v
 | .non,.none=>true
 | .non,_=>false
def wd' (w:World):Key->Int
 | .inl k=>hashInt k
 | .inr x=>hashStr w x
 | .non=>0xFCA86420
theorem aC':∀{k:Key} {v:Value},g0' k v=true->(∃i t,k=Key.inl i/\v=Value.int i t)\/(∃x t,k=Key.inr x/\v=Value.str x t)\/(k=Key.non/\v=Value.none)
 | .inl i,v,h=>by
  obtain⟨t,e⟩:=Value.isInt_shape (k:=i) (v:=v) h
  exact .inl ⟨i,t,rfl,e⟩
 | .inr x,v,h=>by
  obtain⟨t,e⟩:=Value.isStrOf_shape (x:=x) (v:=v) h
  exact .inr (.inl ⟨x,t,rfl,e⟩)
 | .non,v,h=>by cases v<;>first|exact .inr (.inr ⟨rfl,rfl⟩)|cases h
theorem h7' (i:Int) (t:Tok):g0' (.inl i) (.int i t)=true:=by simp[g0',Value.isInt]
theorem h8' (x:Str) (t:Tok):g0' (.inr x) (.str x t)=true:=by simp[g0',Value.isStrOf]
theorem pG' (a b:Int):decide ((Key.inl a:Key)=Key.inl b)=(a == b):=by
 by_cases e:a=b
 .rw[e,decide_eq_true rfl,beq_self_eq_true]
 .rw[decide_eq_false (fun q=>e (Key.inl.inj q)),beq_eq_false_iff_ne.mpr e]
theorem pH' (a b:Str):decide ((Key.inr a:Key)=Key.inr b)=decide (a=b):=by
 by_cases e:a=b
 .rw[e,decide_eq_true rfl,decide_eq_true rfl]
 .rw[decide_eq_false (fun q=>e (Key.inr.inj q)),decide_eq_false e]
theorem d5' {a b:Key} (h:a≠b):decide (a=b)=false:=decide_eq_false h
def aD' (prog:Program) (w:World):PySem.KeyKind prog w Key where
 is:=g0'
 hash:=wd' w
 inj:=fun v a b ha hb=>by
  rcases aC' ha with⟨i,t,rfl,rfl⟩|⟨x,t,rfl,rfl⟩|⟨rfl,rfl⟩<;>rcases aC' hb with⟨j,u,rfl,e⟩|⟨y,u,rfl,e⟩|⟨rfl,e⟩<;>
   first|rfl|(injection e with e1 _;rw[e1])|exact nomatch e
 byValue:=fun k v h=>by
  rcases aC' h with⟨i,t,rfl,rfl⟩|⟨x,t,rfl,rfl⟩|⟨rfl,rfl⟩<;>rfl
 pyHash:=fun hv h=>by
  rcases aC' hv with⟨i,t,rfl,rfl⟩|⟨x,t,rfl,rfl⟩|⟨rfl,rfl⟩
  .exact wpAny_pyHash_int h
  .exact wpAny_pyHash_str h
  .exact eY' h
 eqBool:=fun {A E s a b u v Q} hu hv h=>by
  rcases aC' hu with⟨i,t,rfl,rfl⟩|⟨x,t,rfl,rfl⟩|⟨rfl,rfl⟩
  .rcases aC' hv with⟨j,u,rfl,rfl⟩|⟨y,u,rfl,rfl⟩|⟨rfl,rfl⟩
   .rw[pG']at h;exact wpAny_eqBool_int h
   .rw[d5' (a:=Key.inl i) (b:=Key.inr y) (fun q=>nomatch q)]at h;exact SeqAt.EqAt.int_str i t y u _ _ _ _ h
   .rw[d5' (a:=Key.inl i) (b:=Key.non) (fun q=>nomatch q)]at h;exact SeqAt.EqAt.int_none i t _ _ _ _ h
  .rcases aC' hv with⟨j,u,rfl,rfl⟩|⟨y,u,rfl,rfl⟩|⟨rfl,rfl⟩
   .rw[d5' (a:=Key.inr x) (b:=Key.inl j) (fun q=>nomatch q)]at h;exact SeqAt.EqAt.str_int x t j u _ _ _ _ h
   .rw[pH']at h;exact wpAny_eqBool_str h
   .rw[d5' (a:=Key.inr x) (b:=Key.non) (fun q=>nomatch q)]at h;exact SeqAt.EqAt.str_none x t _ _ _ _ h
  .rcases aC' hv with⟨j,u,rfl,rfl⟩|⟨y,u,rfl,rfl⟩|⟨rfl,rfl⟩
   .rw[d5' (a:=Key.non) (b:=Key.inl j) (fun q=>nomatch q)]at h;exact SeqAt.EqAt.none_int j u _ _ _ _ h
   .rw[d5' (a:=Key.non) (b:=Key.inr y) (fun q=>nomatch q)]at h;exact SeqAt.EqAt.none_str y u _ _ _ _ h
   .rw[decide_eq_true rfl]at h;exact SeqAt.EqAt.same .none _ _ _ _ h
 «strs»:=fun k x t v h=>by
  rcases aC' h with⟨i,u,rfl,e⟩|⟨y,u,rfl,e⟩|⟨rfl,e⟩
  .exact nomatch e
  .injection e with e1 _
   subst e1
   cases v<;>rfl
  .exact nomatch e
theorem fN' (prog:Program) (w:World) (i:Int) (t:Tok):(aD' prog w).is (.inl i) (.int i t)=true:=h7' i t
theorem fO' (prog:Program) (w:World) (x:Str) (t:Tok):(aD' prog w).is (.inr x) (.str x t)=true:=h8' x t
inductive V where
 |non|bl (b:Bool)|int (i:Int)|str (x:Str)|byt (b:Array UInt8)|flt (b:UInt64)|ref (a:Addr)|ty (n:String)
 deriving DecidableEq
def aH':V->Value->Prop
 | .non,u=>u=Value.none
 | .bl b,u=>u=Value.bool b
 | .int i,u=>∃t,u=Value.int i t
 | .str x,u=>∃t,u=Value.str x t
 | .byt b,u=>∃t,u=Value.bytes b t
 | .flt b,u=>∃t,u=Value.float b t
 | .ref a,u=>u=Value.ref a
 | .ty n,u=>u=Value.type n
abbrev ay':List V->List Value->Prop:=Paired aH'
theorem ay'.length {xs:List V} {us:List Value} (r:ay' xs us):xs.length=us.length:=Paired.length r
theorem ay'.get:∀{xs:List V} {us:List Value} {i:Nat} {x:V},ay' xs us->xs[i]?=some x->∃u,us[i]?=some u/\aH' x u
 |_,_,_,_,.nil,e=>by simp at e
 |_,_,0,_,.cons r _,e=>by simp at e;subst e;exact⟨_,rfl,r⟩
 |_,_,i+1,x,.cons _ t,e=>by
  obtain⟨u,h1,h2⟩:=ay'.get (i:=i) (x:=x) t (by simpa using e)
  exact⟨u,by simpa using h1,h2⟩
theorem ay'.set {x:V} {u:Value} (r:aH' x u):∀{xs:List V} {us:List Value} (i:Nat),ay' xs us->ay' (xs.set i x) (us.set i u)
 |_,_,_,.nil=>.nil
 |_,_,0,.cons _ t=>.cons r t
 |_,_,i+1,.cons q t=>.cons q (ay'.set r i t)
theorem ay'.append:∀{xs ys:List V} {us ws:List Value},ay' xs us->ay' ys ws->ay' (xs++ys) (us++ws)
 |_,_,_,_,.nil,s=>s
 |_,_,_,_,.cons r t,s=>.cons r (ay'.append t s)
theorem ay'.take:∀{xs:List V} {us:List Value} (n:Nat),ay' xs us->ay' (xs.take n) (us.take n)
 |_,_,0,_=>.nil
 |_,_,_+1,.nil=>.nil
 |_,_,n+1,.cons r t=>.cons r (ay'.take n t)
theorem ay'.drop:∀{xs:List V} {us:List Value} (n:Nat),ay' xs us->ay' (xs.drop n) (us.drop n)
 |_,_,0,r=>r
 |_,_,_+1,.nil=>.nil
 |_,_,n+1,.cons _ t=>ay'.drop n t
def kv':Option V->Option Value->Prop
 |some v,some u=>aH' v u
 |none,none=>True
 |_,_=>False
def KV {κ:Type}:List (κ×V)->List (κ×Value)->Prop:=Paired fun(p:κ×V) (q:κ×Value)=>p.1=q.1/\aH' p.2 q.2
def kV:Key->V
 | .inl i=>.int i
 | .inr x=>.str x
 | .non=>.non
inductive HO where
 |lst (xs:List V)
 |tup (xs:List V)
 |dK (kvs:List (Key×V))|dT (kvs:List (List Key×V))
 |set (S:Int->Bool) (n:Nat)
 |ins (C dx:Addr) (fs:List (Str×V))
 |own (x:Addr)
 |xd (fs:List (Str×V))
 |met (f x:Addr)
 |rng (lo hi:Int)
 |frz (o:Obj) (u:HO)
 |tbl (ps:Array Value)
 |ext (φ:Heap->Prop)
abbrev Hp:=Addr->Option HO
def upd (H:Hp) (a:Addr) (o:HO):Hp:=fun b=>if b=a then some o else H b
theorem aa' {H:Hp} {a:Addr} {o:HO}:upd H a o a=some o:=by unfold upd;rw[if_pos rfl]
theorem ae' {H:Hp} {a b:Addr} {o:HO} (h:b≠a):upd H a o b=H b:=by unfold upd;rw[if_neg h]
theorem dD' {H:Hp} {a:Addr} {o u:HO}:upd (upd H a o) a u=upd H a u:=by
 funext b;unfold upd;split<;>rfl
theorem af' {H:Hp} {a b:Addr} {o:HO} (h:H a=some o) (h':H b=none):a≠b:=by
 intro e;subst e;rw[h]at h';cases h'
def mt' (h:Heap) (a:Addr) (items:Array Value):Prop:=∃o,h.get? a=some o/\o.cls=.type "tuple"/\(∃n,o.data=.seq items n)/\o.dict=none
theorem mt'.tup {h:Heap} {a:Addr} {items:Array Value} (x:mt' h a items):IsTup h a items:=let⟨o,e,c,⟨n,d⟩,_⟩:=x;⟨o,e,c,n,d⟩
theorem mt'.new (h:Heap) (items:Array Value):mt' (h.push { cls:=.type "tuple",data:=.seq items }) h.objs.size items:=⟨_,av _ rfl,rfl,⟨_,rfl⟩,rfl⟩
section
variable (P:Program) (w:World)
def aJ' (H:Hp) (h:Heap) (a:Addr):HO->Prop
 | .lst xs=>xs.length<=sizeLine/\∃(its:List Value) (n:Nat),ay' xs its/\h.get? a=some { cls:=.type "list",data:=.seq its.toArray n }
 | .tup xs=>xs.length<=sizeLine/\∃its:List Value,ay' xs its/\mt' h a its.toArray
 | .dK kvs=>kvs.length<=sizeLine/\(a == sysModules)=false/\∃vs,KV kvs vs/\h.DictOf (aD' P w) a vs
 | .dT kvs=>kvs.length<=sizeLine/\(a == sysModules)=false/\∃xs:List (List Key×Addr×Value),
   Paired (fun(p:List Key×V) (q:List Key×Addr×Value)=>p.1=q.1/\H q.2.1=some (.tup (p.1.map kV))/\aH' p.2 q.2.2) kvs xs/\
   ∃o es ep,h.get? a=some o/\o.ExactDict/\o.data=.dict es ep/\es.toList=xs.map (entryOfKey (tupleKind (aD' P w)))/\(xs.map (·.1)).Nodup
 | .set S n=>h.SetOf (intKind P w) a S n
 | .ins C dx fs=>H dx=some (.own a)/\fs.length<=1000/\dx≠a/\h.get? a=some (W.instObj C dx)/\
   ∃mA,h.Ns1 dx mA/\(∀f,kv' (fs.lookup f) (mA f))/\PySem.Within mA (fs.map (·.1))
 | .own _=>∃o,h.get? a=some o
 | .xd fs=>∃mA,h.Ns1 a mA/\∀f,kv' (fs.lookup f) (mA f)
 | .rng lo hi=>∃t u v,h.get? a=some { cls:=.type "range",data:=.fields #[.int lo t,.int hi u,.int 1 v] }
 | .frz o u=>h.get? a=some o/\aJ' H h a u
 | .tbl ps=>h.get? a=some { cls:=.none,data:=.fields ps }
 | .met f x=>h.get? a=some (W.methodObj (.ref f) (.ref x))
 | .ext φ=>φ h/\(∃o,h.get? a=some o)/\∀h1 h2:Heap,φ h1->(∀o,h1.get? a=some o->h2.get? a=some o)->φ h2
def HOk (H:Hp) (h:Heap):Prop:=∀a o,H a=some o->aJ' P w H h a o
end
section
variable {P:Program} {w:World} {H H':Hp} {h h':Heap} {a:Addr} {o:HO}
theorem aJ'.lt (x:aJ' P w H h a o):a<h.objs.size:=by
 cases o with
 |lst xs=>obtain⟨_,_,_,_,e⟩:=x;exact ao e
 |tup xs=>obtain⟨_,_,_,p⟩:=x;exact p.tup.lt
 |dK kvs=>obtain⟨_,_,_,_,o,_,_,e,_⟩:=x;exact ao e
 |dT kvs=>obtain⟨_,_,_,_,o,_,_,e,_⟩:=x;exact ao e
 |set S n=>obtain⟨o,_,_,_,e,_⟩:=x;exact ao e
 |ins C dx fs=>obtain⟨_,_,_,e,_⟩:=x;exact ao e
 |own y=>obtain⟨_,e⟩:=x;exact ao e
 |xd fs=>obtain⟨_,⟨_,_,_,e,_⟩,_⟩:=x;exact ao e
 |rng lo hi=>obtain⟨_,_,_,e⟩:=x;exact ao e
 |frz ob u=>obtain⟨e,_⟩:=x;exact ao e
 |tbl ps=>exact ao (show h.get? a=some _ from x)
 |met f y=>exact ao (show h.get? a=some _ from x)
 |ext φ=>obtain⟨_,⟨_,e⟩,_⟩:=x;exact ao e
theorem Paired.mapP {α β:Type} {F G:α->β->Prop}:∀{l₁:List α} {l₂:List β},Paired F l₁ l₂->(∀a b,F a b->G a b)->Paired G l₁ l₂
 |_,_,.nil,_=>.nil
 |_,_,.cons r t,f=>.cons (f _ _ r) (Paired.mapP t f)
theorem aJ'.stay (x:aJ' P w H h a o) (k:∀b u,(b=a\/H b=some (.own a))->h.get? b=some u->h'.get? b=some u)
  (ho:∀b,H b=some (.own a)->H' b=some (.own a)) (ht:∀b xs,H b=some (.tup xs)->H' b=some (.tup xs)):aJ' P w H' h' a o:=by
 induction o with
 |lst xs=>obtain⟨z,its,n,r,e⟩:=x;exact⟨z,its,n,r,k _ _ (.inl rfl) e⟩
 |tup xs=>obtain⟨z,its,r,ob,e,c⟩:=x;exact⟨z,its,r,ob,k _ _ (.inl rfl) e,c⟩
 |dK kvs=>obtain⟨z,y,vs,r,ob,es,ep,e,c⟩:=x;exact⟨z,y,vs,r,ob,es,ep,k _ _ (.inl rfl) e,c⟩
 |dT kvs=>
  obtain⟨z,y,xs,r,ob,es,ep,e,c⟩:=x
  exact⟨z,y,xs,Paired.mapP r fun p q z=>⟨z.1,ht _ _ z.2.1,z.2.2⟩,ob,es,ep,k _ _ (.inl rfl) e,c⟩
 |set S n=>obtain⟨ob,es,ep,t,e,c⟩:=x;exact⟨ob,es,ep,t,k _ _ (.inl rfl) e,c⟩
 |ins C dx fs=>
  obtain⟨d,z,ne,e,mA,⟨od,es,ep,e2,c⟩,r⟩:=x
  exact⟨ho _ d,z,ne,k _ _ (.inl rfl) e,mA,⟨od,es,ep,k _ _ (.inr d) e2,c⟩,r⟩
 |own y=>obtain⟨ob,e⟩:=x;exact⟨ob,k _ _ (.inl rfl) e⟩
 |xd fs=>obtain⟨mA,⟨od,es,ep,e,c⟩,r⟩:=x;exact⟨mA,⟨od,es,ep,k _ _ (.inl rfl) e,c⟩,r⟩
 |rng lo hi=>obtain⟨t,u,v,e⟩:=x;exact⟨t,u,v,k _ _ (.inl rfl) e⟩
 |frz ob u ih=>obtain⟨e,q⟩:=x;exact⟨k _ _ (.inl rfl) e,ih q⟩
 |tbl ps=>
  have e:h.get? a=some { cls:=.none,data:=.fields ps }:=x
  show h'.get? a=some { cls:=.none,data:=.fields ps }
  exact k a _ (.inl rfl) e
 |met f y=>
  have e:h.get? a=some (W.methodObj (.ref f) (.ref y)):=x
  show h'.get? a=some (W.methodObj (.ref f) (.ref y))
  exact k a _ (.inl rfl) e
 |ext φ=>obtain⟨p,⟨o,e⟩,st⟩:=x;exact⟨st _ _ p fun o q=>k _ _ (.inl rfl) q,⟨o,k _ _ (.inl rfl) e⟩,st⟩
theorem HOk.lt (x:HOk P w H h) (e:H a=some o):a<h.objs.size:=(x a o e).lt
theorem HOk.fresh (x:HOk P w H h) (e:h.objs.size<=a):H a=none:=by
 cases q:H a with
 |none=>rfl
 |some u=>exact absurd (ag (x.lt q) e) (aU _)
theorem HOk.kept (x:HOk P w H h) (k:∀b u,h.get? b=some u->h'.get? b=some u):HOk P w H h':=fun a o e=>
 (x a o e).stay (fun b u _ q=>k b u q) (fun _ q=>q) fun _ _ q=>q
theorem HOk.laid (x:HOk P w H h) (k:∀b u,h.get? b=some u->h'.get? b=some u) (hp:h.objs.size<=a) (new:aJ' P w (upd H a o) h' a o):HOk P w (upd H a o) h':=fun b u e=>by
 have hn:=x.fresh hp
 by_cases hb:b=a
 .subst hb;rw[aa']at e;cases e;exact new
 .rw[ae' hb]at e
  exact(x b u e).stay (fun c v _ q=>k c v q) (fun c q=>by rw[ae' (af' q hn)];exact q) fun c xs q=>by rw[ae' (af' q hn)];exact q
end
def Rd (H:Hp) (a:Addr) (u:HO):Prop:=H a=some u\/∃o,H a=some (.frz o u)
theorem Rd.ok {P:Program} {w:World} {H:Hp} {h:Heap} {a:Addr} {u:HO} (r:Rd H a u) (x:HOk P w H h):aJ' P w H h a u:=by
 rcases r with r|⟨o,r⟩
 .exact x a u r
 .obtain⟨_,q⟩:=x a _ r
  exact q
def Mut:Option HO->Prop
 |some (.lst _)=>True
 |some (.dK _)=>True
 |some (.dT _)=>True
 |some (.set _ _)=>True
 |some (.ins _ _ _)=>True
 |some (.ext _)=>True
 |_=>False
section
variable {P:Program} {w:World} {H:Hp} {h h':Heap} {x e:Addr} {o':HO}
theorem HOk.write (ok:HOk P w H h) (mu:Mut (H x)) (he:e=x\/H e=some (.own x)) (k:∀b u,b≠e->h.get? b=some u->h'.get? b=some u) (heo:∃u,h'.get? e=some u)
  (new:aJ' P w (upd H x o') h' x o'):HOk P w (upd H x o') h':=fun b u q=>by
 have nown:∀c y,H c=some (.own y)->c≠x:=fun c y r z=>by subst z;rw[r]at mu;exact mu
 have ntup:∀c xs,H c=some (.tup xs)->c≠x:=fun c xs r z=>by subst z;rw[r]at mu;exact mu
 by_cases hb:b=x
 .subst hb;rw[aa']at q;cases q;exact new
 .rw[ae' hb]at q
  by_cases hbe:b=e
  .have q':H b=some (.own x):=by
    rcases he with z|z
    .exact absurd (hbe.trans z) hb
    .rw[hbe];exact z
   rw[q]at q';cases q'
   obtain⟨v,hv⟩:=heo
   exact⟨v,by rw[hbe];exact hv⟩
  .refine(ok b u q).stay (fun c v hc r=>k c v ?_ r) (fun c r=>by rw[ae' (nown c b r)];exact r) fun c xs r=>by rw[ae' (ntup c xs r)];exact r
   rcases hc with rfl|hc
   .exact hbe
   .rintro rfl
    rcases he with z|z
    .exact nown c b hc z
    .rw[hc]at z;cases z;exact hb rfl
end
structure Un (fs ex:List Addr) (H H':Hp) (h h':Heap):Prop where
 keep:∀b o,h.get? b=some o->H b=none->b∉fs->b∉ex->h'.get? b=some o
 slot:∀b o,h.get? b=some o->H b=none->b∈fs->b∉ex->∃sl,h'.get? b=some { o with slots:=sl }
 free:∀b o,h.get? b=some o->H b=none->b∉ex->H' b=none
 there:∀b o,h.get? b=some o->b∉ex->∃o',h'.get? b=some o'
 tups:∀b xs,H b=some (.tup xs)->H' b=some (.tup xs)
 frzs:∀b o u,H b=some (.frz o u)->H' b=some (.frz o u)
 tbls:∀b ps,H b=some (.tbl ps)->∃more,H' b=some (.tbl (ps++more))
section
variable {fs fs' ex ex':List Addr} {H H1 H2:Hp} {h h1 h2 h':Heap} {a x e:Addr} {o:HO}
theorem Un.any (u:Un fs ex H H1 h h1) {b:Addr} {ob:Obj} (q:h.get? b=some ob) (n:H b=none) (hx:b∉ex):∃sl,h1.get? b=some { ob with slots:=sl }:=by
 by_cases hb:b∈fs
 .exact u.slot b ob q n hb hx
 .exact⟨ob.slots,u.keep b ob q n hb hx⟩
theorem Un.kept (k:∀b u,h.get? b=some u->h'.get? b=some u):Un fs ex H H h h':=
 ⟨fun b ob q _ _ _=>k b ob q,fun b ob q _ _ _=>⟨ob.slots,k b ob q⟩,fun _ _ _ n _=>n,fun b ob q _=>⟨ob,k b ob q⟩,fun _ _ q=>q,fun _ _ _ q=>q,fun _ ps q=>⟨#[],by rw[q];simp⟩⟩
theorem Un.refl:Un fs ex H H h h:=Un.kept fun _ _ q=>q
theorem Un.laid (k:∀b u,h.get? b=some u->h'.get? b=some u) (hp:h.objs.size<=a) (hn:H a=none):Un fs ex H (upd H a o) h h' where
 keep:=fun b u q _ _ _=>k b u q
 slot:=fun b u q _ _ _=>⟨u.slots,k b u q⟩
 free:=fun b u q n _=>by rw[ae' (aw (ag (ao q) hp))];exact n
 there:=fun b u q _=>⟨u,k b u q⟩
 tups:=fun b xs q=>by rw[ae' (af' q hn)];exact q
 frzs:=fun b u xs q=>by rw[ae' (af' q hn)];exact q
 tbls:=fun b ps q=>⟨#[],by rw[ae' (af' q hn),q];simp⟩
theorem Un.write (mu:Mut (H x)) (he:e=x\/H e=some (.own x)) (k:∀b u,b≠e->h.get? b=some u->h'.get? b=some u) (heo:∃u,h'.get? e=some u):Un fs ex H (upd H x o) h h':=by
 have hx:∀b,H b=none->b≠x:=fun b n z=>by subst z;rw[n]at mu;exact mu
 have hb:∀b,H b=none->b≠e:=fun b n z=>by
  subst z
  rcases he with r|r
  .exact hx b n r
  .rw[n]at r;cases r
 have hm:∀b u,H b=some u->¬Mut (some u)->b≠x:=fun b u q nm z=>by subst z;rw[q]at mu;exact nm mu
 refine⟨fun b u q n _ _=>k b u (hb b n) q,fun b u q n _ _=>⟨u.slots,k b u (hb b n) q⟩,fun b u q n _=>by rw[ae' (hx b n)];exact n,fun b u q _=>?_,
  fun b xs q=>by rw[ae' (hm b _ q fun z=>z)];exact q,fun b u xs q=>by rw[ae' (hm b _ q fun z=>z)];exact q,fun b ps q=>⟨#[],by rw[ae' (hm b _ q fun z=>z),q];simp⟩⟩
 by_cases hbe:b=e
 .subst hbe;exact heo
 .exact⟨u,k b u hbe q⟩
end
def trk (h:Heap) (H:Hp):List Addr:=(aE h.objs.size).filter fun a=>(H a).isSome
def kw' (h:Heap) (H:Hp):Heap:=W.hideAll h (trk h H)
theorem h9' (h:Heap) (H:Hp):(kw' h H).objs.size=h.objs.size:=W.hideAll_size _ _
theorem kx' {h:Heap} {H:Hp} {b:Addr} {o:Obj} (e:h.get? b=some o) (n:H b=none):(kw' h H).get? b=some o:=
 W.hideAll_get _ e fun hm=>by
  have q:(H b).isSome=true:=(List.mem_filter.mp hm).2
  rw[n]at q;simp at q
theorem nl' {h:Heap} {H:Hp} {b:Addr} {o:Obj} (e:(kw' h H).get? b=some o):h.get? b=some o/\H b=none:=by
 have e':h.get? b=some o:=W.of_hideAll (trk h H) e
 refine⟨e',?_⟩
 cases q:H b with
 |none=>rfl
 |some x=>
  have hm:b∈trk h H:=List.mem_filter.mpr ⟨bp.mpr (ao e'),by simp[q]⟩
  have z:(kw' h H).get? b=none:=W.hideAll_none (trk h H) hm
  rw[z]at e;cases e
def nm' (g h:Heap) (L:Addr):List (Addr×Obj):=(aE h.objs.size).filterMap fun a=>if a=L\/(g.get? a).isSome=true then none else(h.get? a).map fun o=>(a,o)
def a9' (g h:Heap) (L d:Addr):List (Addr×Obj):=(nm' g h L).filter fun p=>decide (p.1≠d)
structure Mod (K:W.Frag) (mg:Str->Option Value) (base:Heap):Prop where
 kin:K.In base
 glob:base.Ns mainGlobals mg
 blt:∃mb,base.Ns builtinsNs mb/\∀x:Str,x≠"__name__"->mb x=bootBuiltins x
 nolimit:base.NoLimit
set_option genInjectivity false
structure Cx where
 prog:Program
 w:World
 K:W.Frag
 mg:Str->Option Value
 base:Heap
 A:Around
 N:List Str
 s₀:Shared
 H₀:Hp
 env:Env
 outer:List Env
 stack:List Env
 ex:List Addr
 fn:Str->Bool
 calm:Bool
 pn:List (Addr×Obj)
 xe:Value->Shared->Prop
set_option genInjectivity true
def frs (l:List Env):List Addr:=l.filterMap (·.frame)
abbrev Cx.fs (X:Cx):List Addr:=frs X.outer
def Vis (sc:Scope) (x:Str):Prop:=sc.names.lookup x=some .local\/sc.names.lookup x=some .cell\/sc.names.lookup x=some .free
def Loc (sc:Scope) (x:Str):Prop:=sc.names.lookup x=some .local\/sc.names.lookup x=some .cell
def we' (env:Env) (h:Heap) (m:Str->Option Value) (x:Str) (u:Value):Prop:=
 (env.kindOf x=some .local/\m x=some u)\/((env.kindOf x=some .cell\/env.kindOf x=some .free)/\∃c,env.cells.lookup x=some c/\h.IsCell c (some u))
structure Cx.Ok (X:Cx):Prop where
 mod:Mod X.K X.mg X.base
 kind:X.env.scope.kind=.function
 glob:X.env.globals=mainGlobals
 blt:X.env.builtins=builtinsNs
 above:X.s₀.heap.objs.size<=X.env.locals
 inj:∀x y c,X.env.cells.lookup x=some c->X.env.cells.lookup y=some c->x=y
 has:∀x,(X.env.kindOf x=some .cell\/X.env.kindOf x=some .free)->∃c,X.env.cells.lookup x=some c
 cab:∀x c,X.fn x=true->X.env.cells.lookup x=some c->X.s₀.heap.objs.size<=c
 hd:X.calm=true->X.A.handled=none
 frames:X.A.frames=some X.stack
 stk:X.stack=X.outer\/(X.stack=X.env :: X.outer/\X.env.frame=some X.env.locals)
 exf:∀b∈X.ex,b≠X.env.locals/\∀x c,X.env.cells.lookup x=some c->c≠b
 bs:∀b o,X.base.get? b=some o->X.s₀.heap.get? b=some o/\X.H₀ b=none
 bsz:X.base.objs.size<=X.s₀.heap.objs.size
 noex:∀b o,X.base.get? b=some o->b∉X.ex
 exfs:∀b∈X.ex,b∉X.fs
 funs:X.s₀.heap.FunFrames X.base X.outer
 frf:∀b∈X.fs,X.H₀ b=none
structure Inv (X:Cx) (pins:List (Addr×Obj)) (σ:List (Option V)) (H:Hp) (s:Shared):Prop where
 ok:X.Ok
 os:s.os=X.s₀.os
 bare:AllBare s.gens
 base:Un X.fs X.ex X.H₀ H X.s₀.heap s.heap
 loc:∃m,s.heap.Ns X.env.locals m/\∀(i:Nat) (x:Str) (v:V),X.N[i]?=some x->σ[i]?=some (some v)->Vis X.env.scope x->∃u,aH' v u/\we' X.env s.heap m x u
 cell:∀x c,X.env.cells.lookup x=some c->∃v,s.heap.IsCell c v
 free:H X.env.locals=none
 freeC:∀x c,X.env.cells.lookup x=some c->H c=none
 pin:∀p∈X.pn++pins,s.heap.get? p.1=some p.2/\H p.1=none/\p.1≠X.env.locals/\p.1∉X.fs/\∀v,p.2.data≠.cell v
 hok:HOk X.prog X.w H s.heap
 len:σ.length=X.N.length
section
variable {X:Cx} {pins:List (Addr×Obj)} {σ:List (Option V)} {H H':Hp} {s:Shared} {h':Heap}
theorem Cx.Ok.nofr (ok:X.Ok) {b:Addr} {o:Obj} (e:X.base.get? b=some o):b∉X.fs:=fun hb=>by
 have:=(ok.funs.mem hb).1
 rw[e]at this;cases this
theorem Inv.bs (I:Inv X pins σ H s):∀b o,X.base.get? b=some o->s.heap.get? b=some o/\H b=none:=fun b o e=>
 ⟨I.base.keep b o (I.ok.bs b o e).1 (I.ok.bs b o e).2 (I.ok.nofr e) (I.ok.noex b o e),I.base.free b o (I.ok.bs b o e).1 (I.ok.bs b o e).2 (I.ok.noex b o e)⟩
theorem Inv.bk (I:Inv X pins σ H s):∀b o,X.base.get? b=some o->s.heap.get? b=some o:=fun b o e=>(I.bs b o e).1
theorem Inv.mod (I:Inv X pins σ H s):Mod X.K X.mg X.base:=I.ok.mod
theorem Inv.kIn (I:Inv X pins σ H s):X.K.In s.heap:=I.ok.mod.kin.keeps I.bk
theorem Inv.fr (I:Inv X pins σ H s):∃m,Fr X.base X.env.locals s.heap m:=
 let⟨m,hn,_⟩:=I.loc
 ⟨m,hn,I.bk,au I.ok.bsz I.ok.above⟩
theorem Inv.lt (I:Inv X pins σ H s):X.env.locals<s.heap.objs.size:=let⟨_,hn,_⟩:=I.loc;hn.lt
theorem Inv.sz (I:Inv X pins σ H s):X.s₀.heap.objs.size<=s.heap.objs.size:=au I.ok.above (cr I.lt)
theorem Inv.nofs (I:Inv X pins σ H s) {a:Addr} (h:s.heap.objs.size<=a):a∉X.fs:=fun hb=>by
 obtain⟨_,o,ho,_⟩:=I.ok.funs.mem hb
 exact absurd (ag (ao ho) (au I.sz h)) (aU _)
theorem Inv.cne (I:Inv X pins σ H s):∀x c,X.env.cells.lookup x=some c->c≠X.env.locals:=fun x c e z=>by
 obtain⟨v,o,ho,hd⟩:=I.cell x c e
 obtain⟨m,⟨o',es,ep,ho',hd',_⟩,_⟩:=I.loc
 rw[z,ho']at ho;cases ho;rw[hd']at hd;cases hd
theorem Inv.funs (I:Inv X pins σ H s):s.heap.FunFrames X.base X.outer:=by
 have all:∀(l:List Env),(∀b∈frs l,b∈X.fs)->X.s₀.heap.FunFrames X.base l->s.heap.FunFrames X.base l:=by
  intro l
  induction l with
  |nil=>intro _ _;trivial
  |cons env r ih=>
   intro hs hl
   obtain⟨hk,⟨L,o,hf,hn,ho,hd⟩,hr⟩:=hl
   have hL:L∈X.fs:=hs L (by unfold frs;rw[bH,hf];exact aJ)
   obtain⟨sl,e⟩:=I.base.slot L o ho (I.ok.frf L hL) hL fun z=>I.ok.exfs L z hL
   exact⟨hk,⟨L,_,hf,hn,e,hd⟩,ih (fun b hb=>hs b (by unfold frs;rw[bH,hf];exact az _ hb)) hr⟩
 exact all X.outer (fun _ hb=>hb) I.ok.funs
theorem Inv.stack (I:Inv X pins σ H s):s.heap.FunFrames X.base X.stack:=by
 rcases I.ok.stk with e|⟨e,hf⟩
 .rw[e];exact I.funs
 .rw[e]
  obtain⟨m,hn,_⟩:=I.loc
  refine .cons (by rw[I.ok.kind];decide) hf hn ?_ I.funs
  exact Heap.get?_none_of_le (au I.ok.bsz I.ok.above)
theorem Inv.stkSub (I:Inv X pins σ H s):∀b∈frs X.stack,b∈X.env.locals :: X.fs:=fun b hb=>by
 rcases I.ok.stk with e|⟨e,hf⟩
 .rw[e]at hb;exact az _ hb
 .rw[e]at hb
  unfold frs at hb
  rw[bH,hf]at hb
  exact hb
theorem Inv.stkFree (I:Inv X pins σ H s):∀b∈frs X.stack,H b=none:=fun b hb=>by
 rcases ai.mp (I.stkSub b hb)with e|hb
 .rw[e];exact I.free
 .obtain⟨_,o,ho,_⟩:=I.ok.funs.mem hb
  exact I.base.free b o ho (I.ok.frf b hb) fun z=>I.ok.exfs b z hb
theorem Inv.step {g':Array GenState} {t':Nat} {d':Drawn} {ch:List Addr} (I:Inv X pins σ H s)
  (hch:∀b∈ch,(b∈X.ex\/X.s₀.heap.objs.size<=b)/\b≠X.env.locals/\(∀x c,X.env.cells.lookup x=some c->c≠b)/\∀p∈X.pn++pins,p.1≠b)
  (keep:∀b o,b≠X.env.locals->b∉X.fs->b∉ch->s.heap.get? b=some o->H b=none->h'.get? b=some o)
  (slot:∀b o,b≠X.env.locals->b∈X.fs->b∉ch->s.heap.get? b=some o->H b=none->∃sl,h'.get? b=some { o with slots:=sl }) (free:∀b o,b∉ch->s.heap.get? b=some o->H b=none->H' b=none)
  (there:∀b o,b∉ch->s.heap.get? b=some o->∃o',h'.get? b=some o')
  (tups:∀b xs,H b=some (.tup xs)->H' b=some (.tup xs)) (frzs:∀b o u,H b=some (.frz o u)->H' b=some (.frz o u)) (tbls:∀b ps,H b=some (.tbl ps)->∃more,H' b=some (.tbl (ps++more)))
  (ns:∀m,s.heap.Ns X.env.locals m->h'.Ns X.env.locals m) (hok:HOk X.prog X.w H' h') (hg:AllBare g'):
  Inv X pins σ H' { s with heap:=h',gens:=g',drawn:=d',toks:=t' }:=by
 have neL:∀b o,X.s₀.heap.get? b=some o->b≠X.env.locals:=fun b o e=>aw (ag (ao e) I.ok.above)
 have neC:∀b o,X.s₀.heap.get? b=some o->b∉X.ex->b∉ch:=fun b o e hx hb=>by
  rcases(hch b hb).1 with z|z
  .exact hx z
  .exact absurd (ag (ao e) z) (aU _)
 have cellK:∀x c,X.env.cells.lookup x=some c->∀v,s.heap.IsCell c v->h'.IsCell c v:=fun x c e v ⟨o,ho,hd⟩=>by
  have nch:c∉ch:=fun z=>(hch c z).2.2.1 x c e rfl
  by_cases hc:c∈X.fs
  .obtain⟨sl,q⟩:=slot c o (I.cne x c e) hc nch ho (I.freeC x c e)
   exact⟨_,q,hd⟩
  .exact⟨o,keep c o (I.cne x c e) hc nch ho (I.freeC x c e),hd⟩
 refine⟨I.ok,I.os,hg,⟨fun b o e n hb hx=>?_,fun b o e n hb hx=>?_,fun b o e n hx=>?_,fun b o e hx=>?_,fun b xs e=>tups b xs (I.base.tups b xs e),fun b o xs e=>frzs b o xs (I.base.frzs b o xs e),fun b ps e=>?_⟩,?_,fun x c e=>?_,?_,fun x c e=>?_,fun p hp=>?_,hok,I.len⟩
 .exact keep b o (neL b o e) hb (neC b o e hx) (I.base.keep b o e n hb hx) (I.base.free b o e n hx)
 .obtain⟨sl,e1⟩:=I.base.slot b o e n hb hx
  obtain⟨sl',e2⟩:=slot b _ (neL b o e) hb (neC b o e hx) e1 (I.base.free b o e n hx)
  exact⟨sl',e2⟩
 .obtain⟨o',e1⟩:=I.base.there b o e hx
  exact free b o' (neC b o e hx) e1 (I.base.free b o e n hx)
 .obtain⟨o',e1⟩:=I.base.there b o e hx
  exact there b o' (neC b o e hx) e1
 .obtain⟨m1,e1⟩:=I.base.tbls b ps e
  obtain⟨m2,e2⟩:=tbls b _ e1
  exact⟨m1++m2,by rw[e2,Array.append_assoc]⟩
 .obtain⟨m,hn,hl⟩:=I.loc
  refine⟨m,ns m hn,fun i x v e1 e2 e3=>?_⟩
  obtain⟨u,r,l⟩:=hl i x v e1 e2 e3
  refine⟨u,r,?_⟩
  rcases l with l|⟨k,c,e,z⟩
  .exact .inl l
  .exact .inr ⟨k,c,e,cellK x c e _ z⟩
 .obtain⟨v,z⟩:=I.cell x c e
  exact⟨v,cellK x c e v z⟩
 .obtain⟨m,⟨o,_,_,ho,_⟩,_⟩:=I.loc
  exact free _ o (fun z=>(hch _ z).2.1 rfl) ho I.free
 .obtain⟨v,o,ho,hd⟩:=I.cell x c e
  exact free c o (fun z=>(hch c z).2.2.1 x c e rfl) ho (I.freeC x c e)
 .obtain⟨e,n,ne,nf,d⟩:=I.pin p hp
  have nch:p.1∉ch:=fun z=>(hch p.1 z).2.2.2 p hp rfl
  exact⟨keep p.1 p.2 ne nf nch e n,free p.1 p.2 nch e n,ne,nf,d⟩
theorem Inv.un {t':Nat} (I:Inv X pins σ H s) (u:Un X.fs [] H H' s.heap h') (hok:HOk X.prog X.w H' h'):Inv X pins σ H' { s with heap:=h',toks:=t' }:=by
 obtain⟨m,⟨o,es,ep,ho,r⟩,_⟩:=id I.loc
 obtain⟨sl,hL⟩:=u.any ho I.free (by simp)
 exact I.step (g':=s.gens) (d':=s.drawn) (ch:=[]) (fun _ z=>nomatch z) (fun b o _ hb _ e n=>u.keep b o e n hb (by simp)) (fun b o _ hb _ e n=>u.slot b o e n hb (by simp)) (fun b o _ e n=>u.free b o e n (by simp)) (fun b o _ e=>u.there b o e (by simp)) u.tups u.frzs u.tbls (fun m' hm=>by
  obtain⟨o',es',ep',ho',r'⟩:=hm
  rw[ho]at ho';cases ho'
  exact⟨_,es',ep',hL,r'⟩) hok I.bare
theorem Inv.call {g':Array GenState} {t':Nat} {d':Drawn} {ch:List Addr} (I:Inv X pins σ H s) (u:Un (frs X.stack) ch H H' s.heap h') (hok:HOk X.prog X.w H' h') (hg:AllBare g')
  (hch:∀b∈ch,(b∈X.ex\/X.s₀.heap.objs.size<=b)/\b≠X.env.locals/\(∀x c,X.env.cells.lookup x=some c->c≠b)/\∀p∈X.pn++pins,p.1≠b):
  Inv X pins σ H' { s with heap:=h',gens:=g',drawn:=d',toks:=t' }:=by
 obtain⟨m,⟨o,es,ep,ho,r⟩,_⟩:=id I.loc
 obtain⟨sl,hL⟩:=u.any ho I.free fun z=>(hch _ z).2.1 rfl
 exact I.step (ch:=ch) hch (fun b o hL hb hc e n=>u.keep b o e n (fun z=>(ai.mp (I.stkSub b z)).elim hL hb) hc) (fun b o _ _ hc e n=>u.any e n hc) (fun b o hc e n=>u.free b o e n hc) (fun b o hc e=>u.there b o e hc) u.tups u.frzs u.tbls (fun m' hm=>by
  obtain⟨o',es',ep',ho',r'⟩:=hm
  rw[ho]at ho';cases ho'
  exact⟨_,es',ep',hL,r'⟩) hok hg
theorem Inv.turned {t':Nat} {it:Addr} (I:Inv X pins σ H s) (k:∀b o,b≠it->s.heap.get? b=some o->h'.get? b=some o) (hn:H it=none) (hL:it≠X.env.locals)
  (h1:it∈X.ex\/X.s₀.heap.objs.size<=it) (h2:∀x c,X.env.cells.lookup x=some c->c≠it) (h3:∀p∈X.pn++pins,p.1≠it):Inv X pins σ H { s with heap:=h',toks:=t' }:=by
 have nit:∀b u,H b=some u->b≠it:=fun b u e z=>by rw[z,hn]at e;cases e
 refine I.step (g':=s.gens) (d':=s.drawn) (ch:=[it]) (fun b hb=>?_) (fun b o _ _ hc e _=>k b o (fun z=>hc (by simp[z])) e) (fun b o _ _ hc e _=>⟨o.slots,k b o (fun z=>hc (by simp[z])) e⟩) (fun _ _ _ _ n=>n)
  (fun b o hc e=>⟨o,k b o (fun z=>hc (by simp[z])) e⟩) (fun _ _ e=>e) (fun _ _ _ e=>e) (fun b ps e=>⟨#[],by rw[e];simp⟩) (fun m hm=>?_) (fun b u e=>?_) I.bare
 .have e:b=it:=by simpa using hb
  subst e
  exact⟨h1,hL,h2,h3⟩
 .obtain⟨o,es,ep,ho,r⟩:=hm
  exact⟨o,es,ep,k _ o (Ne.symm hL) ho,r⟩
 .refine(I.hok b u e).stay (fun c v hc q=>k c v ?_ q) (fun _ q=>q) fun _ _ q=>q
  rcases hc with z|z
  .rw[z];exact nit b u e
  .exact nit c _ z
theorem Inv.tok (I:Inv X pins σ H s) (t:Nat):Inv X pins σ H { s with toks:=t }:=I.un (h':=s.heap) (t':=t) Un.refl I.hok
theorem Inv.kept {t':Nat} (I:Inv X pins σ H s) (k:∀b u,s.heap.get? b=some u->h'.get? b=some u):Inv X pins σ H { s with heap:=h',toks:=t' }:=I.un (Un.kept k) (I.hok.kept k)
theorem Inv.laid {a:Addr} {o:HO} {t':Nat} (I:Inv X pins σ H s) (k:∀b u,s.heap.get? b=some u->h'.get? b=some u) (hp:s.heap.objs.size<=a) (new:aJ' X.prog X.w (upd H a o) h' a o):
  Inv X pins σ (upd H a o) { s with heap:=h',toks:=t' }:=I.un (Un.laid k hp (I.hok.fresh hp)) (I.hok.laid k hp new)
theorem Inv.write {x e:Addr} {o:HO} {t':Nat} (I:Inv X pins σ H s) (mu:Mut (H x)) (he:e=x\/H e=some (.own x)) (k:∀b u,b≠e->s.heap.get? b=some u->h'.get? b=some u) (heo:∃u,h'.get? e=some u)
  (new:aJ' X.prog X.w (upd H x o) h' x o):Inv X pins σ (upd H x o) { s with heap:=h',toks:=t' }:=I.un (Un.write mu he k heo) (I.hok.write mu he k heo new)
theorem Inv.weak {σ':List (Option V)} (I:Inv X pins σ H s) (hl:σ'.length=σ.length) (w:∀(i:Nat) v,σ'[i]?=some (some v)->σ[i]?=some (some v)):Inv X pins σ' H s:=
 ⟨I.ok,I.os,I.bare,I.base,let⟨m,hn,hl'⟩:=I.loc;⟨m,hn,fun i x v e1 e2 e3=>hl' i x v e1 (w i v e2) e3⟩,I.cell,I.free,I.freeC,I.pin,I.hok,hl.trans I.len⟩
theorem Inv.pins_of {pins':List (Addr×Obj)} (I:Inv X pins σ H s) (h:∀p∈pins',s.heap.get? p.1=some p.2/\H p.1=none/\p.1≠X.env.locals/\p.1∉X.fs/\∀v,p.2.data≠.cell v):Inv X pins' σ H s:=
 ⟨I.ok,I.os,I.bare,I.base,I.loc,I.cell,I.free,I.freeC,fun p hp=>(aH.mp hp).elim (fun z=>I.pin p (bE _ z)) (h p),I.hok,I.len⟩
theorem eq' {N:List Str} (hN:N.Nodup) {i j:Nat} {x:Str} (a:N[i]?=some x) (b:N[j]?=some x):i=j:=by
 obtain⟨h1,e1⟩:=aO.mp a
 obtain⟨h2,e2⟩:=aO.mp b
 exact(List.getElem_inj hN).mp (e1.trans e2.symm)
theorem eZ' {M:Model} {A:Around} {E:Value->Shared->Prop} {i:Nat} {x:Str} {v:V} {u:Value} {Q:Unit->Shared->Prop} (I:Inv X pins σ H s) (hN:X.N.Nodup) (hi:X.N[i]?=some x) (hx:Loc X.env.scope x) (r:aH' v u)
  (h:∀s',Inv X pins (σ.set i (some v)) H s'->(∃a,bW a s.heap s'.heap/\(a=X.env.locals\/X.env.cells.lookup x=some a))->Q () s') (hf:X.fn x=true\/X.env.scope.names.lookup x=some .local:=by first|exact .inl rfl|exact .inr rfl|assumption):wpAny M A (storeName X.env x u) Q E s:=by
 obtain⟨m,hn,hl⟩:=id I.loc
 have hcls:(X.env.scope.kind == .class || (X.env.scope.kind == .module&&X.env.locals != X.env.globals))=false:=by rw[I.ok.kind];rfl
 have hiσ:i<σ.length:=by rw[I.len];exact(aO.mp hi).1
 have cne:=I.cne
 have tracked:∀{a:Addr} {h':Heap},(∃o,s.heap.get? a=some o/\H a=none)->bW a s.heap h'->HOk X.prog X.w H h':=fun {a h'} ha hs b ob e=>by
  obtain⟨_,_,hfree⟩:=ha
  refine(I.hok b ob e).stay (fun c w' hc q=>(hs.2 c ?_).trans q) (fun _ q=>q) fun _ _ q=>q
  rintro rfl
  rcases hc with rfl|hc
  .rw[hfree]at e;cases e
  .rw[hfree]at hc;cases hc
 rcases hx with hk|hk
 .refine wpAny_storeName_local hk hn (fun h' hn' hs=>?_) hcls
  obtain⟨oL,_,_,hoL,_⟩:=id hn
  refine h _ ⟨I.ok,I.os,I.bare,⟨fun b o e n hb hx=>?_,fun b o e n hb hx=>?_,I.base.free,fun b o e hx=>?_,I.base.tups,I.base.frzs,I.base.tbls⟩,⟨_,hn',fun j y v' e1 e2 e3=>?_⟩,fun y c e=>?_,I.free,I.freeC,fun p hp=>?_,tracked ⟨oL,hoL,I.free⟩ hs,by simpa using I.len⟩ ⟨_,hs,.inl rfl⟩
  .exact(hs.2 b (aw (ag (ao e) I.ok.above))).trans (I.base.keep b o e n hb hx)
  .obtain⟨sl,e1⟩:=I.base.slot b o e n hb hx
   exact⟨sl,(hs.2 b (aw (ag (ao e) I.ok.above))).trans e1⟩
  .obtain⟨o',e1⟩:=I.base.there b o e hx
   exact⟨o',(hs.2 b (aw (ag (ao e) I.ok.above))).trans e1⟩
  .by_cases hj:j=i
   .subst hj
    rw[hi]at e1;cases e1
    rw[bU hiσ]at e2
    cases e2
    exact⟨u,r,.inl ⟨hk,by simp⟩⟩
   .rw[bF (Ne.symm hj)]at e2
    obtain⟨u',r',q⟩:=hl j y v' e1 e2 e3
    refine⟨u',r',?_⟩
    rcases q with⟨k,e⟩|⟨k,c,e,z⟩
    .refine .inl ⟨k,?_⟩
     have:y≠x:=fun e=>hj (eq' hN e1 (e ▸ hi))
     simp[this,e]
    .exact .inr ⟨k,c,e,z.sameBut hs (cne y c e)⟩
  .obtain⟨w',z⟩:=I.cell y c e
   exact⟨w',z.sameBut hs (cne y c e)⟩
  .obtain⟨e,n,ne,nf,d⟩:=I.pin p hp
   exact⟨(hs.2 p.1 ne).trans e,n,ne,nf,d⟩
 .have hfn:X.fn x=true:=by
   rcases hf with z|z
   .exact z
   .rw[z]at hk;cases hk
  obtain⟨c,hc⟩:=I.ok.has x (.inl hk)
  obtain⟨w',z⟩:=I.cell x c hc
  refine wpAny_storeName_cell I.ok.kind hk hc z (fun h' hc' hs=>?_)
  obtain⟨oc,hoc,hocd⟩:=id z
  refine h { s with heap:=h' } ⟨I.ok,I.os,I.bare,⟨fun b o e n hb hx=>?_,fun b o e n hb hx=>?_,I.base.free,fun b o e hx=>?_,I.base.tups,I.base.frzs,I.base.tbls⟩,⟨m,hn.sameBut hs (Ne.symm (cne x c hc)),fun j y v' e1 e2 e3=>?_⟩,fun y c' e=>?_,I.free,I.freeC,fun p hp=>?_,tracked ⟨oc,hoc,I.freeC x c hc⟩ hs,by simpa using I.len⟩ ⟨c,hs,.inr hc⟩
  .exact(hs.2 b (aw (ag (ao e) (I.ok.cab x c hfn hc)))).trans (I.base.keep b o e n hb hx)
  .obtain⟨sl,e1⟩:=I.base.slot b o e n hb hx
   exact⟨sl,(hs.2 b (aw (ag (ao e) (I.ok.cab x c hfn hc)))).trans e1⟩
  .obtain⟨o',e1⟩:=I.base.there b o e hx
   exact⟨o',(hs.2 b (aw (ag (ao e) (I.ok.cab x c hfn hc)))).trans e1⟩
  .by_cases hj:j=i
   .subst hj
    rw[hi]at e1;cases e1
    rw[bU hiσ]at e2
    cases e2
    exact⟨u,r,.inr ⟨.inl hk,c,hc,hc'⟩⟩
   .rw[bF (Ne.symm hj)]at e2
    obtain⟨u',r',q⟩:=hl j y v' e1 e2 e3
    refine⟨u',r',?_⟩
    rcases q with q|⟨k,c',e,z'⟩
    .exact .inl q
    .refine .inr ⟨k,c',e,z'.sameBut hs ?_⟩
     rintro rfl
     exact hj (eq' hN e1 (I.ok.inj _ _ _ e hc ▸ hi))
  .by_cases hcc:c'=c
   .subst hcc;exact⟨_,hc'⟩
   .obtain⟨w2,z2⟩:=I.cell y c' e
    exact⟨w2,z2.sameBut hs hcc⟩
  .obtain⟨e,n,ne,nf,d⟩:=I.pin p hp
   refine⟨(hs.2 p.1 ?_).trans e,n,ne,nf,d⟩
   intro q
   rw[q,hoc]at e
   have q':oc=p.2:=Option.some.inj e
   exact d w' (by rw[<- q'];exact hocd)
theorem er' {M:Model} {A:Around} {E:Value->Shared->Prop} {i:Nat} {x:Str} {v:V} {u:Value} {Q:Unit->Shared->Prop} (I:Inv X pins σ H s) (hN:X.N.Nodup) (hi:X.N[i]?=some x) (hx:Loc X.env.scope x) (r:aH' v u)
  (h:∀s',Inv X pins (σ.set i (some v)) H s'->Q () s') (hf:X.fn x=true\/X.env.scope.names.lookup x=some .local:=by first|exact .inl rfl|exact .inr rfl|assumption):wpAny M A (storeName X.env x u) Q E s:=
 eZ' I hN hi hx r (fun s' I' _=>h s' I') hf
theorem Inv.call' {s':Shared} {ch:List Addr} (I:Inv X pins σ H s) (ho:s'.os=s.os) (u:Un (frs X.stack) ch H H' s.heap s'.heap) (hok:HOk X.prog X.w H' s'.heap) (hg:AllBare s'.gens)
  (hch:∀b∈ch,(b∈X.ex\/X.s₀.heap.objs.size<=b)/\b≠X.env.locals/\(∀x c,X.env.cells.lookup x=some c->c≠b)/\∀p∈X.pn++pins,p.1≠b):Inv X pins σ H' s':=by
 obtain⟨h',g',d',t',o'⟩:=s'
 have e:o'=s.os:=ho
 subst e
 exact I.call (g':=g') (t':=t') (d':=d') u hok hg hch
end
abbrev XK:=Value->Option Addr->Hp->Prop
abbrev St:=List (Option V)
abbrev VK:=V->Hp->Prop
abbrev TE:=St->Hp->VK->Prop
abbrev TT:=St->Hp->(Bool->Hp->Prop)->Prop
abbrev TA:=St->Hp->(List V->Hp->Prop)->Prop
structure Ends where
 nx:St->Hp->Prop
 rt:VK
 bk:St->Hp->Prop:=fun _ _=>False
 ct:St->Hp->Prop:=fun _ _=>False
abbrev TS:=Ends->St->Hp->Prop
def EP (X:Cx) (pins:List (Addr×Obj)) (σ:St) (Q:VK) (u:Value) (s':Shared):Prop:=∃v H',Inv X pins σ H' s'/\aH' v u/\Q v H'
def TP (X:Cx) (pins:List (Addr×Obj)) (σ:St) (Q:Bool->Hp->Prop) (b:Bool) (s':Shared):Prop:=∃H',Inv X pins σ H' s'/\Q b H'
def AP (X:Cx) (pins:List (Addr×Obj)) (σ:St) (Q:List V->Hp->Prop) (us:List Value) (s':Shared):Prop:=∃vs H',Inv X pins σ H' s'/\ay' vs us/\Q vs H'
def SP (X:Cx) (pins:List (Addr×Obj)) (D:Ends) (f:Flow) (s':Shared):Prop:=
 match f with
 | .next=>∃σ' H',Inv X pins σ' H' s'/\D.nx σ' H'
 | .brk=>∃σ' H',Inv X pins σ' H' s'/\D.bk σ' H'
 | .cont=>∃σ' H',Inv X pins σ' H' s'/\D.ct σ' H'
 | .ret u=>∃v σ' H',Inv X pins σ' H' s'/\aH' v u/\D.rt v H'
def PE (X:Cx) (e:Expr) (t:TE):Prop:=
 ∀(pins:List (Addr×Obj)) (s:Shared) (σ:St) (H:Hp) (Q:VK),Inv X pins σ H s->t σ H Q->wpAny (model X.prog X.w) X.A (eval e X.env) (EP X pins σ Q) X.xe s
def PT (X:Cx) (e:Expr) (t:TT):Prop:=
 ∀(pins:List (Addr×Obj)) (s:Shared) (σ:St) (H:Hp) (Q:Bool->Hp->Prop),Inv X pins σ H s->t σ H Q->wpAny (model X.prog X.w) X.A (isTrue e X.env (eval e X.env)) (TP X pins σ Q) X.xe s
def PW (X:Cx) (e:Expr) (t:TT):Prop:=
 ∀(whole:Sem Value) (pins:List (Addr×Obj)) (s:Shared) (σ:St) (H:Hp) (Q:Bool->Hp->Prop),Inv X pins σ H s->t σ H Q->wpAny (model X.prog X.w) X.A (isTrue e X.env whole) (TP X pins σ Q) X.xe s
theorem PW.pt {X:Cx} {e:Expr} {t:TT} (h:PW X e t):PT X e t:=h _
def PA (X:Cx) (es:List Expr) (t:TA):Prop:=
 ∀(pos:Pos) (pins:List (Addr×Obj)) (s:Shared) (σ:St) (H:Hp) (Q:List V->Hp->Prop),Inv X pins σ H s->t σ H Q->wpAny (model X.prog X.w) X.A (spliced (backTo pos (starEach es X.env))) (AP X pins σ Q) X.xe s
def PS (X:Cx) (st:Stmt) (t:TS):Prop:=
 ∀(pins:List (Addr×Obj)) (s:Shared) (σ:St) (H:Hp) (D:Ends),Inv X pins σ H s->t D σ H->wpAny (model X.prog X.w) X.A (exec st X.env) (SP X pins D) X.xe s
def PSs (X:Cx) (st:List Stmt) (t:TS):Prop:=
 ∀(pins:List (Addr×Obj)) (s:Shared) (σ:St) (H:Hp) (D:Ends),Inv X pins σ H s->t D σ H->wpAny (model X.prog X.w) X.A (execs st X.env) (SP X pins D) X.xe s
theorem thn {α:Type} {t:Sem α} {Q Q':α->Shared->Prop} {M:Model} {A:Around} {E:Value->Shared->Prop} {s:Shared} (h:wpAny M A t Q E s) (hQ:∀a s,Q a s->Q' a s):wpAny M A t Q' E s:=wpAny_mono h hQ fun _ _ x=>x
section
variable {X:Cx}
theorem bin {a b:Expr} {ta tb:TE} (ha:PE X a ta) (hb:PE X b tb) {pins:List (Addr×Obj)} {s:Shared} {σ:St} {H:Hp} {R:V->V->Hp->Prop} (I:Inv X pins σ H s) (h:ta σ H fun x H1=>tb σ H1 fun y H2=>R x y H2)
  {α:Type} {Q:α->Shared->Prop} {f:Value->Value->Sem α}
  (hf:∀v u s2 x y H2,Inv X pins σ H2 s2->aH' x v->aH' y u->R x y H2->wpAny (model X.prog X.w) X.A (f v u) Q X.xe s2):
  wpAny (model X.prog X.w) X.A (eval a X.env) (fun v s₁=>wpAny (model X.prog X.w) X.A (eval b X.env) (fun u s₂=>wpAny (model X.prog X.w) X.A (f v u) Q X.xe s₂) X.xe s₁) X.xe s:=by
 refine thn (ha pins s σ H _ I h) fun v s1 ⟨x,H1,I1,r1,q1⟩=>?_
 refine thn (hb pins s1 σ H1 _ I1 q1) fun u s2 ⟨y,H2,I2,r2,q2⟩=>?_
 exact hf v u s2 x y H2 I2 r1 r2 q2
def th' (i:Nat):TE:=fun σ H Q=>∃v,σ[i]?=some (some v)/\Q v H
def tC (v:V):TE:=fun _ H Q=>Q v H
theorem mu' {i:Nat} {x:Str} {pos:Pos} (hN:X.N[i]?=some x) (hv:Vis X.env.scope x) (hd:(x == ("__debug__":Str))=false:=by decide) (hcd:(x == ("__classdict__":Str))=false:=by decide):PE X (.Name x pos) (th' i):=by
 intro pins s σ H Q I h
 obtain⟨v,e,h⟩:=h
 obtain⟨m,hn,hl⟩:=I.loc
 obtain⟨u,r,l⟩:=hl i x v hN e hv
 have fin:EP X pins σ Q u s:=⟨v,H,I,r,h⟩
 rcases l with⟨hk,hm⟩|⟨hk,c,hc,hcell⟩
 .exact wpAny_Name (wpAny_loadName_local I.ok.kind hk hn hm fin) hd
 .rcases hk with hk|hk
  .exact wpAny_Name (wpAny_loadName_cell I.ok.kind hk hc hcell fin) hd
  .exact wpAny_Name (wpAny_loadName_free I.ok.kind hk hc hcell fin hcd) hd
theorem pI' {i j pos}:PE X (.Constant (.int i) j pos) (tC (.int i)):=fun _ _ _ H _ I h=>wpAny_Constant_int ⟨.int i,H,I.tok _,⟨_,rfl⟩,h⟩
theorem tE' {b j pos}:PE X (.Constant (.bool b) j pos) (tC (.bl b)):=fun _ _ _ H _ I h=>Constant_bool ⟨.bl b,H,I,rfl,h⟩
theorem pJ' {j pos}:PE X (.Constant .none j pos) (tC .non):=fun _ _ _ H _ I h=>Constant_none ⟨.non,H,I,rfl,h⟩
theorem pK' {x j pos}:PE X (.Constant (.str x) j pos) (tC (.str x)):=fun _ _ _ H _ I h=>Calls.Constant_str ⟨.str x,H,I.tok _,⟨_,rfl⟩,h⟩
def Gl (X:Cx) (x:Str):Prop:=X.env.kindOf x=some .globalImplicit
theorem nn' {E:Value->Shared->Prop} {pins:List (Addr×Obj)} {s:Shared} {σ:St} {H:Hp} {x:Str} {u:Value} {pos:Pos} {Q:Value->Shared->Prop} (I:Inv X pins σ H s) (hg:Gl X x) (hm:X.mg x=some u) (h:Q u s)
  (hd:(x == ("__debug__":Str))=false:=by decide):wpAny (model X.prog X.w) X.A (eval (.Name x pos) X.env) Q E s:=
 Calls.Name_function_global I.ok.kind hg (Calls.loadGlobal_global (by rw[I.ok.glob];exact I.mod.glob.keeps I.bk) hm h) hd
theorem dn' {E:Value->Shared->Prop} {pins:List (Addr×Obj)} {s:Shared} {σ:St} {H:Hp} {x:Str} {u:Value} {pos:Pos} {Q:Value->Shared->Prop} (I:Inv X pins σ H s) (hg:Gl X x) (hm:X.mg x=none) (hv:bootBuiltins x=some u) (h:Q u s)
  (hn:x≠"__name__":=by decide) (hd:(x == ("__debug__":Str))=false:=by decide):wpAny (model X.prog X.w) X.A (eval (.Name x pos) X.env) Q E s:=by
 obtain⟨mb,h1,h2⟩:=I.mod.blt
 exact Calls.Name_function_global I.ok.kind hg (Calls.loadGlobal_builtin (by rw[I.ok.glob];exact I.mod.glob.keeps I.bk) hm (by rw[I.ok.blt];exact h1.keeps I.bk) ((h2 x hn).trans hv) h) hd
theorem no' {x:Str} {v:V} {u:Value} {pos:Pos} (hg:Gl X x) (hm:X.mg x=none) (hv:bootBuiltins x=some u) (r:aH' v u) (hn:x≠"__name__":=by decide) (hd:(x == ("__debug__":Str))=false:=by decide):PE X (.Name x pos) (tC v):=
 fun _ _ _ H _ I h=>dn' I hg hm hv ⟨v,H,I,r,h⟩ hn hd
variable {a b:Expr} {ta tb:TE} {pos:Pos}
variable {tA tB':TT} {a9':List Expr}
def pL' (t u:TT):TT:=fun σ H Q=>t σ H fun c H1=>if c=true then u σ H1 Q else Q false H1
def tOr (t u:TT):TT:=fun σ H Q=>t σ H fun c H1=>if c=true then Q true H1 else u σ H1 Q
def tF' (t:TT):TT:=fun σ H Q=>t σ H fun c H1=>Q (!c) H1
theorem np' (ha:PT X a tA):PW X (.BoolOp .And [a] pos) tA:=by
 intro wh pins s σ H Q I h
 refine isTrue_and (thn (ha pins s σ H Q I h) fun c s1 e=>?_)
 cases c with
 |true=>exact isTrue_and_nil e
 |false=>exact e
theorem pM' (ha:PT X a tA):PW X (.BoolOp .Or [a] pos) tA:=by
 intro wh pins s σ H Q I h
 refine isTrue_or (thn (ha pins s σ H Q I h) fun c s1 e=>?_)
 cases c with
 |false=>exact isTrue_or_nil e
 |true=>exact e
theorem mv' (ha:PT X a tA) (hb:PW X (.BoolOp .And (b :: a9') pos) tB'):PW X (.BoolOp .And (a :: b :: a9') pos) (pL' tA tB'):=by
 intro wh pins s σ H Q I h
 refine isTrue_and (thn (ha pins s σ H _ I h) fun c s1 ⟨H1,I1,q1⟩=>?_)
 cases c with
 |true=>exact hb wh pins s1 σ H1 Q I1 q1
 |false=>exact⟨H1,I1,q1⟩
theorem pN' (ha:PT X a tA) (hb:PW X (.BoolOp .Or (b :: a9') pos) tB'):PW X (.BoolOp .Or (a :: b :: a9') pos) (tOr tA tB'):=by
 intro wh pins s σ H Q I h
 refine isTrue_or (thn (ha pins s σ H _ I h) fun c s1 ⟨H1,I1,q1⟩=>?_)
 cases c with
 |true=>exact⟨H1,I1,q1⟩
 |false=>exact hb wh pins s1 σ H1 Q I1 q1
theorem pO' (ha:PT X a tA):PT X (.UnaryOp .Not a pos) (tF' tA):=by
 intro pins s σ H Q I h
 exact isTrue_not (ha pins s σ H (fun c H1=>Q (!c) H1) I h)
def ky' (ta tb:TE):TE:=fun σ H Q=>ta σ H fun x H1=>∃c,x=.bl c/\if c=true then tb σ H1 Q else Q (.bl false) H1
def ti' (ta tb:TE):TE:=fun σ H Q=>ta σ H fun x H1=>∃c,x=.bl c/\if c=true then Q (.bl true) H1 else tb σ H1 Q
def nq' (ta:TE):TE:=fun σ H Q=>ta σ H fun x H1=>∃c,x=.bl c/\Q (.bl (!c)) H1
theorem mw' {op} {t:TE} (h:PE X a t):PE X (.BoolOp op [a] pos) t:=fun pins s σ H Q I hw=>BoolOp_one (h pins s σ H Q I hw)
theorem mx' (ha:PE X a ta) (hb:PE X (.BoolOp .And (b :: a9') pos) tb):PE X (.BoolOp .And (a :: b :: a9') pos) (ky' ta tb):=by
 intro pins s σ H Q I h
 refine BoolOp_and (thn (ha pins s σ H _ I h) fun v s1 ⟨x,H1,I1,r1,q1⟩=>?_)
 obtain⟨c,rfl,q1⟩:=q1
 cases r1
 refine bx ?_
 cases c with
 |true=>exact hb pins s1 σ H1 Q I1 q1
 |false=>exact⟨.bl false,H1,I1,rfl,q1⟩
theorem pP' (ha:PE X a ta) (hb:PE X (.BoolOp .Or (b :: a9') pos) tb):PE X (.BoolOp .Or (a :: b :: a9') pos) (ti' ta tb):=by
 intro pins s σ H Q I h
 refine BoolOp_or (thn (ha pins s σ H _ I h) fun v s1 ⟨x,H1,I1,r1,q1⟩=>?_)
 obtain⟨c,rfl,q1⟩:=q1
 cases r1
 refine bx ?_
 cases c with
 |false=>exact hb pins s1 σ H1 Q I1 q1
 |true=>exact⟨.bl true,H1,I1,rfl,q1⟩
theorem pQ' (ha:PE X a ta):PE X (.UnaryOp .Not a pos) (nq' ta):=by
 intro pins s σ H Q I h
 refine UnaryOp_ (thn (ha pins s σ H _ I h) fun v s1 ⟨x,H1,I1,r1,q1⟩=>?_)
 obtain⟨c,rfl,q1⟩:=q1
 cases r1
 exact not_of (bx ⟨.bl (!c),H1,I1,rfl,q1⟩)
def tIf (t:TT) (ta tb:TE):TE:=fun σ H Q=>t σ H fun c H1=>if c=true then ta σ H1 Q else tb σ H1 Q
theorem kz' {c:Expr} (hc:PT X c tA) (ha:PE X a ta) (hb:PE X b tb):PE X (.IfExp c a b pos) (tIf tA ta tb):=by
 intro pins s σ H Q I h
 refine wpAny_IfExp (thn (hc pins s σ H _ I h) fun d s1 ⟨H1,I1,q1⟩=>?_)
 cases d with
 |true=>exact ha pins s1 σ H1 Q I1 q1
 |false=>exact hb pins s1 σ H1 Q I1 q1
end
def SqL (K:W.Frag) (H:Hp) (a:Addr) (xs:List V):Prop:=
 Rd H a (.lst xs)\/
  ∃(o:Obj) (its:Array Value) (n:Nat),K.lookup a=some o/\o.cls=.type "list"/\o.dict=none/\o.data=.seq its n/\its.size<=sizeLine/\ay' xs its.toList
def SqT (K:W.Frag) (H:Hp) (a:Addr) (xs:List V):Prop:=
 Rd H a (.tup xs)\/
  ∃(o:Obj) (its:Array Value) (n:Nat),K.lookup a=some o/\o.cls=.type "tuple"/\o.data=.seq its n/\its.size<=sizeLine/\ay' xs its.toList
def wf':Value->Option V
 | .none=>some .non
 | .bool b=>some (.bl b)
 | .int i _=>some (.int i)
 | .str x _=>some (.str x)
 | .bytes b _=>some (.byt b)
 | .float b _=>some (.flt b)
 | .ref a=>some (.ref a)
 | .type n=>some (.ty n)
 |_=>none
theorem aH'.abs {x:V} {u:Value} (r:aH' x u):wf' u=some x:=by
 cases x with
 |non=>cases r;rfl
 |bl _=>cases r;rfl
 |int _=>obtain⟨t,rfl⟩:=r;rfl
 |str _=>obtain⟨t,rfl⟩:=r;rfl
 |byt _=>obtain⟨t,rfl⟩:=r;rfl
 |flt _=>obtain⟨t,rfl⟩:=r;rfl
 |ref _=>cases r;rfl
 |ty _=>cases r;rfl
theorem aH'.inj {x y:V} {u:Value} (r:aH' x u) (q:aH' y u):x=y:=Option.some.inj (r.abs.symm.trans q.abs)
theorem ay'.inj:∀{xs ys:List V} {us:List Value},ay' xs us->ay' ys us->xs=ys
 |_,_,_,.nil,.nil=>rfl
 |_,_,_,.cons r t,.cons r' t'=>by rw[r.inj r',ay'.inj t t']
section
variable {X:Cx} {pins:List (Addr×Obj)} {σ:St} {H:Hp} {s:Shared} {a:Addr} {xs ys:List V}
theorem SqL.of {K:W.Frag} (h:H a=some (.lst xs)):SqL K H a xs:=.inl (.inl h)
theorem SqT.of {K:W.Frag} (h:H a=some (.tup xs)):SqT K H a xs:=.inl (.inl h)
theorem Inv.list (I:Inv X pins σ H s) (h:SqL X.K H a xs):∃its:List Value,ay' xs its/\PlainL s.heap a its.toArray/\xs.length<=sizeLine:=by
 rcases h with h|⟨o,its,n,hk,hc,hd,hs,hz,r⟩
 .obtain⟨z,its,n,r,e⟩:=h.ok I.hok
  exact⟨its,r,⟨_,n,e,rfl,rfl,rfl⟩,z⟩
 .refine⟨its.toList,r,⟨o,n,I.kIn a o hk,hc,hd,by simpa using hs⟩,?_⟩
  have e:=r.length
  simp only[aB]at e
  omega
theorem Inv.tuple (I:Inv X pins σ H s) (h:SqT X.K H a xs):∃its:List Value,ay' xs its/\IsTup s.heap a its.toArray/\xs.length<=sizeLine:=by
 rcases h with h|⟨o,its,n,hk,hc,hs,hz,r⟩
 .obtain⟨z,its,r,p⟩:=h.ok I.hok
  exact⟨its,r,p.tup,z⟩
 .refine⟨its.toList,r,⟨o,I.kIn a o hk,hc,n,by simpa using hs⟩,?_⟩
  have e:=r.length
  simp only[aB]at e
  omega
theorem Inv.list_inj (I:Inv X pins σ H s) (h:SqL X.K H a xs) (h':SqL X.K H a ys):xs=ys:=by
 obtain⟨its,r,⟨o,n,e,_,_,d⟩,_⟩:=I.list h
 obtain⟨its',r',⟨o',n',e',_,_,d'⟩,_⟩:=I.list h'
 rw[e]at e';cases e'
 rw[d]at d'
 injection d' with d1 _
 have:its=its':=by simpa using congrArg Array.toList d1
 subst this
 exact r.inj r'
theorem Inv.tuple_inj (I:Inv X pins σ H s) (h:SqT X.K H a xs) (h':SqT X.K H a ys):xs=ys:=by
 obtain⟨its,r,⟨o,e,_,n,d⟩,_⟩:=I.tuple h
 obtain⟨its',r',⟨o',e',_,n',d'⟩,_⟩:=I.tuple h'
 rw[e]at e';cases e'
 rw[d]at d'
 injection d' with d1 _
 have:its=its':=by simpa using congrArg Array.toList d1
 subst this
 exact r.inj r'
end
abbrev Cx.wish (X:Cx) (E:Value->Shared->Prop):Cx:={ X with xe:=E }
abbrev Cx.nox (X:Cx):Cx:=X.wish fun _ _=>False
theorem Cx.Ok.wish {X:Cx} (ok:X.Ok) (E:Value->Shared->Prop):(X.wish E).Ok:=
 ⟨ok.mod,ok.kind,ok.glob,ok.blt,ok.above,ok.inj,ok.has,ok.cab,ok.hd,ok.frames,ok.stk,ok.exf,ok.bs,ok.bsz,ok.noex,ok.exfs,ok.funs,ok.frf⟩
theorem Cx.Ok.unwish {X:Cx} {E:Value->Shared->Prop} (ok:(X.wish E).Ok):X.Ok:=
 ⟨ok.mod,ok.kind,ok.glob,ok.blt,ok.above,ok.inj,ok.has,ok.cab,ok.hd,ok.frames,ok.stk,ok.exf,ok.bs,ok.bsz,ok.noex,ok.exfs,ok.funs,ok.frf⟩
section
variable {X:Cx} {pins:List (Addr×Obj)} {σ:St} {H:Hp} {s:Shared} {E:Value->Shared->Prop}
theorem Inv.wish (I:Inv X pins σ H s) (E:Value->Shared->Prop):Inv (X.wish E) pins σ H s:=⟨I.ok.wish E,I.os,I.bare,I.base,I.loc,I.cell,I.free,I.freeC,I.pin,I.hok,I.len⟩
theorem Inv.unwish (I:Inv (X.wish E) pins σ H s):Inv X pins σ H s:=⟨I.ok.unwish,I.os,I.bare,I.base,I.loc,I.cell,I.free,I.freeC,I.pin,I.hok,I.len⟩
theorem SP.unwish {D:Ends} {f:Flow} {s':Shared} (h:SP (X.wish E) pins D f s'):SP X pins D f s':=by
 cases f with
 |next=>obtain⟨σ',H',I,q⟩:=h;exact⟨σ',H',I.unwish,q⟩
 |brk=>obtain⟨σ',H',I,q⟩:=h;exact⟨σ',H',I.unwish,q⟩
 |cont=>obtain⟨σ',H',I,q⟩:=h;exact⟨σ',H',I.unwish,q⟩
 |ret u=>obtain⟨v,σ',H',I,r,q⟩:=h;exact⟨v,σ',H',I.unwish,r,q⟩
theorem PSs.nox {st:List Stmt} {t:TS} (h:PSs X.nox st t):PSs X st t:=fun pins s σ H D I hw=>
 wpAny_mono (h pins s σ H D (I.wish _) hw) (fun _ _ q=>q.unwish) fun _ _ z=>False.elim z
end
section
variable {X:Cx} {st:Stmt} {a9':List Stmt} {t u:TS} {e:Expr} {te:TE} {pos:Pos}
def nr':TS:=fun D σ H=>D.nx σ H
def tG' (t u:TS):TS:=fun D σ H=>t { D with nx:=u D } σ H
theorem ns':PSs X [] nr':=fun _ _ σ H _ I h=>wpAny_execs_nil ⟨σ,H,I,h⟩
theorem kA' (h1:PS X st t) (h2:PSs X a9' u):PSs X (st :: a9') (tG' t u):=by
 intro pins s σ H D I h
 refine wpAny_execs_cons (thn (h1 pins s σ H { D with nx:=u D } I h) fun f s1 q=>?_)
 cases f with
 |next=>
  obtain⟨σ',H',I',q⟩:=q
  exact h2 pins s1 σ' H' D I' q
 |ret v=>exact q
 |brk=>exact q
 |cont=>exact q
theorem Inv.quiet {pins:List (Addr×Obj)} {σ:St} {H:Hp} {s:Shared} (I:Inv X pins σ H s):interactive X.env=false:=by simp[interactive,I.ok.kind]
def nt' (te:TE):TS:=fun D σ H=>te σ H fun _ H1=>D.nx σ H1
theorem nu' (he:PE X e te) (hs:swapsWith e none pos.line X.env=pure false:=by rfl):PS X (.Expr e pos) (nt' te):=by
 intro pins s σ H D I h
 exact wpAny_Expr_any (thn (he pins s σ H _ I h) fun v s1 ⟨x,H1,I1,r1,q1⟩=>⟨σ,H1,I1,q1⟩) I.quiet hs
def tH' (te:TE):TS:=fun D σ H=>te σ H D.rt
theorem pR' (he:PE X e te):PS X (.Return (some e) pos) (tH' te):=by
 intro pins s σ H D I h
 exact wpAny_Return_some (thn (he pins s σ H _ I h) fun v s1 ⟨x,H1,I1,r1,q1⟩=>⟨x,σ,H1,I1,r1,q1⟩)
def tI' (c:TT) (t u:TS):TS:=fun D σ H=>c σ H fun b H1=>if b=true then t D σ H1 else u D σ H1
theorem tJ' {c:Expr} {a b:List Stmt} {tc:TT} (hc:PT X c tc) (ha:PSs X a t) (hb:PSs X b u):PS X (.If c a b pos) (tI' tc t u):=by
 intro pins s σ H D I h
 refine wpAny_If (thn (hc pins s σ H _ I h) fun d s1 ⟨H1,I1,q1⟩=>?_)
 cases d with
 |true=>exact ha pins s1 σ H1 D I1 q1
 |false=>exact hb pins s1 σ H1 D I1 q1
end
abbrev TG:=V->St->Hp->(St->Hp->Prop)->Prop
abbrev TGs:=List V->St->Hp->(St->Hp->Prop)->Prop
def PG (X:Cx) (target:Expr) (t:TG):Prop:=
 ∀(pins:List (Addr×Obj)) (s:Shared) (σ:St) (H:Hp) (v:V) (u:Value) (Q:St->Hp->Prop),Inv X pins σ H s->aH' v u->t v σ H Q->
  wpAny (model X.prog X.w) X.A (assign target X.env u) (fun _ s'=>∃σ' H',Inv X pins σ' H' s'/\Q σ' H') X.xe s
def PGs (X:Cx) (ts:List Expr) (t:TGs):Prop:=
 ∀(pins:List (Addr×Obj)) (s:Shared) (σ:St) (H:Hp) (vs:List V) (us:List Value) (Q:St->Hp->Prop),Inv X pins σ H s->ay' vs us->t vs σ H Q->
  wpAny (model X.prog X.w) X.A (assignInOrder ((assignEach ts X.env).map (·.2)) us) (fun _ s'=>∃σ' H',Inv X pins σ' H' s'/\Q σ' H') X.xe s
abbrev tK':=V->V->V->Hp->(Hp->Prop)->Prop
def vB' (X:Cx) (t:tK'):Prop:=
 ∀(pins:List (Addr×Obj)) (s:Shared) (σ:St) (H:Hp) (o i v:V) (ov iv u:Value) (Q:Hp->Prop),Inv X pins σ H s->aH' o ov->aH' i iv->aH' v u->t o i v H Q->
  wpAny (model X.prog X.w) X.A (setItem ov iv u) (fun _ s'=>∃H',Inv X pins σ H' s'/\Q H') X.xe s
abbrev TIp:=V->V->Hp->VK->Prop
section
variable {X:Cx} {pos:Pos}
def fP' (i:Nat):TG:=fun v σ H Q=>Q (σ.set i (some v)) H
theorem fQ' {i:Nat} {x:Str} (hN:X.N.Nodup) (hi:X.N[i]?=some x) (hx:Loc X.env.scope x) (hf:X.fn x=true\/X.env.scope.names.lookup x=some .local:=by first|exact .inl rfl|exact .inr rfl|assumption):PG X (.Name x pos) (fP' i):=by
 intro pins s σ H v u Q I r h
 exact wpAny_assign_Name (er' I hN hi hx r (fun s' I'=>⟨_,H,I',h⟩) hf)
def tL':TGs:=fun vs σ H Q=>vs=[]/\Q σ H
def nv' (t:TG) (u:TGs):TGs:=fun vs σ H Q=>∃v r,vs=v :: r/\t v σ H fun σ' H'=>u r σ' H' Q
theorem nw':PGs X [] tL':=by
 intro pins s σ H vs us Q I r h
 obtain⟨e,h⟩:=h
 subst e
 cases r
 exact assignInOrder_nil ⟨σ,H,I,h⟩
theorem kB' {e:Expr} {es:List Expr} {t:TG} {u:TGs} (h1:PG X e t) (h2:PGs X es u)
  (hs:(assignEach (e :: es) X.env).map (·.2)=assign e X.env :: (assignEach es X.env).map (·.2):=by rfl):PGs X (e :: es) (nv' t u):=by
 intro pins s σ H vs us Q I r h
 obtain⟨v,vr,e1,h⟩:=h
 subst e1
 cases r with
 |cons r rr=>
  rw[hs]
  refine assignInOrder_cons (thn (h1 pins s σ H _ _ _ I r h) fun _ s1 ⟨σ1,H1,I1,q1⟩=>?_)
  exact h2 pins s1 σ1 H1 _ _ Q I1 rr q1
def wg' (K:W.Frag) (n:Nat) (t:TGs):TG:=fun v σ H Q=>∃a xs,v=.ref a/\SqT K H a xs/\xs.length=n/\t xs σ H Q
theorem pS' {es:List Expr} {k:Nat} {t:TGs} {n:Nat} (hc:X.calm=true) (h:PGs X es t)
  (hn:(assignEach es X.env).length=n:=by rfl) (hst:(assignEach es X.env).findIdx? (·.1)=none:=by rfl):PG X (.Tuple es k pos) (wg' X.K n t):=by
 intro pins s σ H v u Q I r hw
 obtain⟨a,xs,e1,hq,hl,hw⟩:=hw
 subst e1
 cases r
 obtain⟨its,rv,ht,hz⟩:=I.tuple hq
 refine assign_Tuple_tuple (I.ok.hd hc) ht (by simp[hn,<- hl,rv.length]) hst fun h' hx=>?_
 have I1:Inv X pins σ H { s with heap:=h' }:=I.kept (t':=s.toks) fun b o e=>hx b o (aw (ao e)) e
 exact h pins _ σ H xs _ Q I1 (by simpa using rv) hw
def tM' (to ti:TE) (t:tK'):TG:=fun v σ H Q=>to σ H fun o H1=>ti σ H1 fun i H2=>t o i v H2 fun H3=>Q σ H3
theorem pT' {o i:Expr} {to ti:TE} {t:tK'} (ho:PE X o to) (hi:PE X i ti) (hs:vB' X t)
  (ha:∀v,assign (.Subscript o i pos) X.env v=(do
   let ov <- holding [v] (eval o X.env)
   let iv <- holding [v,ov] (eval i X.env)
   standAt pos
   holding [v,ov,iv] (setItem ov iv v)
   release [v,ov,iv] []):=by intro _;rfl):PG X (.Subscript o i pos) (tM' to ti t):=by
 intro pins s σ H v u Q I r h
 rw[ha]
 refine aa (bM (thn (ho pins s σ H _ I h) fun ov s1 ⟨x,H1,I1,r1,q1⟩=>?_))
 refine aa (bM (thn (hi pins s1 σ H1 _ I1 q1) fun iv s2 ⟨y,H2,I2,r2,q2⟩=>?_))
 refine aa (cI (aa (bM (thn (hs pins s2 σ H2 x y v ov iv u _ I2 r1 r2 r q2) fun _ s3 ⟨H3,I3,q3⟩=>?_))))
 exact wpAny_release ⟨σ,H3,I3,q3⟩
def tj' (te:TE) (g:TG):TS:=fun D σ H=>te σ H fun x H1=>g x σ H1 D.nx
theorem ia' {tg e:Expr} {te:TE} {g:TG} (he:PE X e te) (hg:PG X tg g) (hs:swapsWithSole [tg] e pos.line X.env=pure false:=by rfl) (hw:swappedStores [tg] e X.env=pure none:=by rfl)
  (h1:(assignEach [tg] X.env).map (·.2)=[assign tg X.env]:=by rfl):PS X (.Assign [tg] e pos) (tj' te g):=by
 intro pins s σ H D I h
 refine wpAny_Assign_stores (thn (he pins s σ H _ I h) fun v s1 ⟨x,H1,I1,r1,q1⟩=>?_) hs hw
 rw[h1]
 exact thn (hg pins s1 σ H1 x v _ I1 r1 q1) fun _ s2 q=>q
def tN' (i j:Nat) (ta:TA):TS:=fun D σ H=>ta σ H fun vs H1=>∃v w,vs=[v,w]/\D.nx ((σ.set i (some v)).set j (some w)) H1
theorem pU' {i j:Nat} {x y:Str} {a b:Expr} {ta:TA} {px py pt:Pos} {kt k2 pt2} (hc:X.calm=true) (hN:X.N.Nodup) (hi:X.N[i]?=some x) (hj:X.N[j]?=some y) (hij:i≠j)
  (hx:X.env.scope.names.lookup x=some .local) (hy:X.env.scope.names.lookup y=some .local) (ha:PA X [a,b] ta)
  (hw:swappedStores [.Tuple [.Name x px,.Name y py] kt pt] (.Tuple [a,b] k2 pt2) X.env=pure (some [x,y]))
  (hs:swapsWithSole [.Tuple [.Name x px,.Name y py] kt pt] (.Tuple [a,b] k2 pt2) pos.line X.env=pure false:=by rfl):
  PS X (.Assign [.Tuple [.Name x px,.Name y py] kt pt] (.Tuple [a,b] k2 pt2) pos) (tN' i j ta):=by
 intro pins s σ H D I h
 rw[exec_Assign_arm]
 refine aa (cI ?_)
 rw[hs]
 refine aa (ap ?_)
 rw[if_neg (by decide)]
 refine aa (Tuple_ (thn (ha _ pins s σ H _ I h) fun us s1 ⟨vs,H1,I1,r1,q1⟩=>?_))
 obtain⟨v,w,e1,q1⟩:=q1
 subst e1
 obtain⟨u1,u2,rfl,rv,rw'⟩:∃u1 u2,us=[u1,u2]/\aH' v u1/\aH' w u2:=by
  cases r1 with
  |cons p q=>
   cases q with
   |cons p' q'=>
    cases q'
    exact⟨_,_,rfl,p,p'⟩
 refine bI ?_ (by show 2<=sizeLine;decide)
 have I2:Inv X pins σ H1 { s1 with heap:=s1.heap.push { cls:=.type "tuple",data:=.seq [u1,u2].toArray } }:=I1.kept (t':=s1.toks) fun b o e=>ab _ e
 rw[hw]
 refine aa (ap ?_)
 show wpAny (model X.prog X.w) X.A (do rule "assign.swapped-stores";let items <- unpackItems (.ref s1.heap.objs.size) 2 none;assignInOrder [fun v=>bindName X.env y v,fun v=>bindName X.env x v] items.reverse;pure Flow.next) _ _ _
 refine aa (wpAny_rule (aa (unpackItems_tuple (items:=#[u1,u2]) (I.ok.hd hc) (IsTup.new s1.heap _) fun h' hx'=>?_)))
 have I3:=I2.kept (h':=h') (t':=s1.toks) fun b o e=>hx' b o (aw (ao e)) e
 show wpAny _ _ (assignInOrder [fun v=>bindName X.env y v,fun v=>bindName X.env x v] [u2,u1] >>= fun _=>pure Flow.next) _ _ _
 refine aa (assignInOrder_cons (wpAny_bindName (er' I3 hN hj (.inl hy) rw' (fun s2 I4=>?_) (.inr hy))))
 refine assignInOrder_cons (wpAny_bindName (er' I4 hN hi (.inl hx) rv (fun s3 I5=>assignInOrder_nil (ap ?_)) (.inr hx)))
 rw[List.set_comm _ _ (Ne.symm hij)]at I5
 exact⟨_,H1,I5,q1⟩
def ipI (f:Int->Int->Int):TIp:=fun x y H Q=>∃i j,x=.int i/\y=.int j/\Q (.int (f i j)) H
end
section
variable {X:Cx} {pos:Pos}
def ib' (c:TT) (tb:TS):TS:=fun D σ H=>∃W:Nat->St->Hp->Prop,(∃m,W m σ H)/\∀m σ H,W m σ H->
 c σ H fun b H1=>if b=true then ∃N:St->Hp->Prop,(∀σ' H',N σ' H'->∃m',m'<m/\W m' σ' H')/\tb { D with nx:=N,ct:=N,bk:=D.nx } σ H1 else D.nx σ H1
theorem kC' {c:Expr} {body:List Stmt} {tc:TT} {tb:TS} (hp:PassesOwn (model X.prog X.w) X.A X.env X.xe) (hc:PT X c tc) (hb:PSs X body tb):PS X (.While c body [] pos) (ib' tc tb):=by
 intro pins s σ H D I h
 obtain⟨W,⟨m0,w0⟩,turn⟩:=h
 refine wpAny_While (codeAny_whileLoop (fun n s'=>∃σ' H',Inv X pins σ' H' s'/\W n σ' H') ?_ m0 ⟨σ,H,I,w0⟩)
 rintro n s1 ⟨σ1,H1,I1,w1⟩
 refine ce hp (thn (hc pins s1 σ1 H1 _ I1 (turn n σ1 H1 w1)) fun b s2 ⟨H2,I2,q2⟩=>?_)
 cases b with
 |true=>
  obtain⟨N,hN,q2⟩:=q2
  rw[if_pos rfl]
  refine ce hp (thn (hb pins s2 σ1 H2 _ I2 q2) fun f s3 q3=>?_)
  cases f with
  |next=>
   obtain⟨σ3,H3,I3,n3⟩:=q3
   obtain⟨m',hm,w3⟩:=hN σ3 H3 n3
   exact⟨m',hm,σ3,H3,I3,w3⟩
  |cont=>
   obtain⟨σ3,H3,I3,n3⟩:=q3
   obtain⟨m',hm,w3⟩:=hN σ3 H3 n3
   exact⟨m',hm,σ3,H3,I3,w3⟩
  |brk=>exact q3
  |ret v=>exact q3
 |false=>
  rw[if_neg aq]
  exact wpAny_execs_nil ⟨σ1,H2,I2,q2⟩
end
structure It where
 go:Nat->Hp->Prop
 yld:Nat->Hp->V->Hp->Prop
 stop:Nat->Hp->Prop
def dY' (X:Cx) (pins:List (Addr×Obj)) (H:Hp) (b:Addr):Prop:=
 H b=none/\b≠X.env.locals/\b∉X.fs/\(b∈X.ex\/X.s₀.heap.objs.size<=b)/\(∀x c,X.env.cells.lookup x=some c->c≠b)/\∀p∈X.pn++pins,p.1≠b
theorem Inv.fpOk {X:Cx} {pins:List (Addr×Obj)} {σ:St} {H H':Hp} {s:Shared} {b:Addr} (I:Inv X pins σ H s) (hb:s.heap.objs.size<=b) (hn:H' b=none):dY' X pins H' b:=by
 refine⟨hn,bn (ag I.lt hb),I.nofs hb,.inr (au I.sz hb),fun x c e z=>?_,fun p hp z=>?_⟩
 .obtain⟨v,q⟩:=I.cell x c e
  exact absurd (ag q.lt (by rw[z];exact hb)) (aU _)
 .exact absurd (ag (ao (I.pin p hp).1) (by rw[z];exact hb)) (aU _)
structure Turn (P:Program) (w:World) (K:W.Frag) (tg:Expr) (J:It) (fp:List Addr) (it:Addr) (tn:Nat->Heap->Prop):Prop where
 mem:it∈fp
 obj:∀i h,tn i h->∀b∈fp,∃o,h.get? b=some o/\∀v,o.data≠.cell v
 keep:∀i h h',tn i h->(∀b∈fp,∀o,h.get? b=some o->h'.get? b=some o)->tn i h'
 item:∀(X:Cx),X.prog=P->X.w=w->X.K=K->X.calm=true->∀(i:Nat) (pins:List (Addr×Obj)) (s:Shared) (σ:St) (H:Hp) (E:Value->Shared->Prop),Inv X pins σ H s->(∀b∈fp,dY' X pins H b)->tn i s.heap->J.go i H->
  wpAny (model P w) X.A (pyNext (.ref it)) (fun r s1=>∃u,r=some u/\
   wpAny (model P w) X.A (letOwnedTupleGo tg (.ref it) u) (fun _ s2=>∃x H',Inv X pins σ H' s2/\aH' x u/\J.yld i H x H'/\tn (i+1) s2.heap/\∀b∈fp,H' b=none) E s1) E s
 done:∀(X:Cx),X.prog=P->X.w=w->X.K=K->X.calm=true->∀(i:Nat) (pins:List (Addr×Obj)) (s:Shared) (σ:St) (H:Hp) (E:Value->Shared->Prop),Inv X pins σ H s->(∀b∈fp,dY' X pins H b)->tn i s.heap->J.stop i H->
  wpAny (model P w) X.A (pyNext (.ref it)) (fun r s1=>r=none/\Inv X pins σ H s1) E s
 self:∀(A:Around) (i:Nat) (s:Shared) (Q:Value->Shared->Prop) (E:Value->Shared->Prop),tn i s.heap->Q (.ref it) s->wpAny (model P w) A (pyIter (.ref it)) Q E s
abbrev TI:=St->Hp->(It->Hp->Prop)->Prop
def PIE (X:Cx) (pins:List (Addr×Obj)) (σ:St) (tg:Expr) (R:It->Hp->Prop) (itv:Value) (s2:Shared):Prop:=
 ∃(it:Addr) (fp:List Addr) (tn:Nat->Heap->Prop) (J:It) (H':Hp),itv=.ref it/\Inv X pins σ H' s2/\Turn X.prog X.w X.K tg J fp it tn/\tn 0 s2.heap/\(∀b∈fp,dY' X pins H' b)/\R J H'
def PI (X:Cx) (tg iter:Expr) (wi:TI):Prop:=
 ∀(pins:List (Addr×Obj)) (s:Shared) (σ:St) (H:Hp) (R:It->Hp->Prop),Inv X pins σ H s->wi σ H R->
  wpAny (model X.prog X.w) X.A (eval iter X.env) (fun v s1=>wpAny (model X.prog X.w) X.A (pyIter v) (PIE X pins σ tg R) X.xe s1) X.xe s
theorem kD' {M:Model} {A:Around} {E:Value->Shared->Prop} {s:Shared} {tg:Expr} {it:Addr} {u:Value} {o:Obj} {n:String} {vs:Array Value} {Q:Unit->Shared->Prop} (ho:s.heap.get? it=some o) (hc:o.cls=.type n) (hd:o.data=.fields vs)
  (hn:["enumerate","zip","dict_itemiterator","dict_reverseitemiterator","odict_iterator","itertools.zip_longest","itertools.pairwise"].contains n=false) (hQ:Q () s):wpAny M A (letOwnedTupleGo tg (.ref it) u) Q E s:=by
 unfold letOwnedTupleGo
 cases tg<;>first
  |exact ap hQ
  |(cases u<;>first
    |exact ap hQ
    |(refine aa (wpAny_load ho ?_)
      rw[hc,hd]
      show wpAny M A (if(["enumerate","zip","dict_itemiterator","dict_reverseitemiterator","odict_iterator","itertools.zip_longest","itertools.pairwise"].contains n&&vs[0]? == some (rawInt _))=true then _ else _) Q E s
      rw[if_neg (by intro h;rw[hn,aS]at h;cases h)]
      exact ap hQ))
def Itl (K:W.Frag) (a:Addr):It:=
 ⟨fun i H=>∃xs x,SqL K H a xs/\xs[i]?=some x,fun i H x H'=>H'=H/\∀xs,SqL K H a xs->xs[i]?=some x,fun i H=>∃xs,SqL K H a xs/\xs.length<=i⟩
def Itt (K:W.Frag) (a:Addr):It:=
 ⟨fun i H=>∃xs x,SqT K H a xs/\xs[i]?=some x,fun i H x H'=>H'=H/\∀xs,SqT K H a xs->xs[i]?=some x,fun i H=>∃xs,SqT K H a xs/\xs.length<=i⟩
def Itr (lo:Int) (n:Nat):It:=⟨fun i _=>i<n,fun i H x H'=>H'=H/\x=.int (lo+i),fun i _=>n<=i⟩
theorem ic' {P:Program} {w:World} {K:W.Frag} {tg:Expr} (a it:Addr):Turn P w K tg (Itl K a) [it] it (fun i h=>h.IsListIter it a i) where
 mem:=by simp
 obj:=fun i h st b hb=>by
  have e:b=it:=by simpa using hb
  subst e
  obtain⟨o,e,c,d⟩:=st
  exact⟨o,e,fun v z=>by rw[d]at z;cases z⟩
 keep:=fun i h h' st k=>st.at fun o e=>k it (by simp) o e
 item:=by
  intro X hP hw hK hc i pins s σ H E I hf st hg
  subst hP hw hK
  obtain⟨xs,x,hq,hx⟩:=hg
  obtain⟨its,rv,p,hz⟩:=I.list hq
  obtain⟨u,hu,ru⟩:=rv.get hx
  obtain⟨f0,f1,f2,f3,f4,f5⟩:=hf it (by simp)
  refine wpAny_pyNext_list_item st p.isList (x:=u) (by simpa using hu) fun h' st' sb=>?_
  have I1:Inv X pins σ H { s with heap:=h' }:=I.turned (t':=s.toks) (fun b o hb e=>(sb.2 b hb).trans e) f0 f1 f3 f4 f5
  obtain⟨o,e,c,d⟩:=id st'
  exact⟨u,rfl,kD' (s:={ s with heap:=h' }) e c d (by decide) ⟨x,H,I1,ru,⟨rfl,fun ys hy=>by rw[I.list_inj hy hq];exact hx⟩,st',fun b hb=>(hf b hb).1⟩⟩
 done:=by
  intro X hP hw hK hc i pins s σ H E I hf st hg
  subst hP hw hK
  obtain⟨xs,hq,hx⟩:=hg
  obtain⟨its,rv,p,hz⟩:=I.list hq
  obtain⟨f0,f1,f2,f3,f4,f5⟩:=hf it (by simp)
  have hl:=rv.length
  exact wpAny_pyNext_list_end (I.ok.hd hc) st p.isList (by simp;omega) fun h' eb=>⟨rfl,I.turned (t':=s.toks) (fun b o hb e=>eb b o hb e) f0 f1 f3 f4 f5⟩
 self:=fun _ _ _ _ _ st h=>wpAny_pyIter_listiter st h
theorem g2' {P:Program} {w:World} {K:W.Frag} {tg:Expr} (a it:Addr):Turn P w K tg (Itt K a) [it] it (fun i h=>h.IsTupleIter it a i) where
 mem:=by simp
 obj:=fun i h st b hb=>by
  have e:b=it:=by simpa using hb
  subst e
  obtain⟨o,e,c,d⟩:=st
  exact⟨o,e,fun v z=>by rw[d]at z;cases z⟩
 keep:=fun i h h' st k=>st.at fun o e=>k it (by simp) o e
 item:=by
  intro X hP hw hK hc i pins s σ H E I hf st hg
  subst hP hw hK
  obtain⟨xs,x,hq,hx⟩:=hg
  obtain⟨its,rv,p,hz⟩:=I.tuple hq
  obtain⟨u,hu,ru⟩:=rv.get hx
  obtain⟨f0,f1,f2,f3,f4,f5⟩:=hf it (by simp)
  refine wpAny_pyNext_tuple_item st (show s.heap.IsTuple a its.toArray from p) (x:=u) (by simpa using hu) fun h' st' sb=>?_
  have I1:Inv X pins σ H { s with heap:=h' }:=I.turned (t':=s.toks) (fun b o hb e=>(sb.2 b hb).trans e) f0 f1 f3 f4 f5
  obtain⟨o,e,c,d⟩:=id st'
  exact⟨u,rfl,kD' (s:={ s with heap:=h' }) e c d (by decide) ⟨x,H,I1,ru,⟨rfl,fun ys hy=>by rw[I.tuple_inj hy hq];exact hx⟩,st',fun b hb=>(hf b hb).1⟩⟩
 done:=by
  intro X hP hw hK hc i pins s σ H E I hf st hg
  subst hP hw hK
  obtain⟨xs,hq,hx⟩:=hg
  obtain⟨its,rv,p,hz⟩:=I.tuple hq
  obtain⟨f0,f1,f2,f3,f4,f5⟩:=hf it (by simp)
  have hl:=rv.length
  exact wpAny_pyNext_tuple_end (I.ok.hd hc) st (show s.heap.IsTuple a its.toArray from p) (by simp;omega) fun h' eb=>⟨rfl,I.turned (t':=s.toks) (fun b o hb e=>eb b o hb e) f0 f1 f3 f4 f5⟩
 self:=fun _ _ _ _ _ st h=>wpAny_pyIter_tupleiter st h
theorem g3' {P:Program} {w:World} {K:W.Frag} {tg:Expr} (it:Addr) (lo:Int) (n:Nat):Turn P w K tg (Itr lo n) [it] it (fun i h=>IsRangeIter h it (lo+(i:Nat)*1) ((n:Int)-(i:Nat)) 1) where
 mem:=by simp
 obj:=fun i h st b hb=>by
  have e:b=it:=by simpa using hb
  subst e
  exact⟨_,st,fun v z=>by
   have z':Data.fields _=Data.cell v:=z
   cases z'⟩
 keep:=fun i h h' st k=>k it (by simp) _ st
 item:=by
  intro X hP hw hK hc i pins s σ H E I hf st hg
  subst hP hw hK
  obtain⟨f0,f1,f2,f3,f4,f5⟩:=hf it (by simp)
  have W:=Walks.range (prog:=X.prog) (w:=X.w) (I.ok.hd hc) it lo 1 n
  refine W.item i s _ _ hg st fun v h' tk hv st' kk=>?_
  obtain⟨t,rfl⟩:=hv
  have I1:Inv X pins σ H { s with heap:=h',toks:=tk }:=I.turned (fun b o hb e=>kk b o (by simpa using hb) e) f0 f1 f3 f4 f5
  refine⟨_,rfl,kD' (s:={ s with heap:=h',toks:=tk }) (n:="range_iterator") st' rfl rfl (by decide) ⟨.int (lo+i),H,I1,⟨t,?_⟩,⟨rfl,rfl⟩,st',fun b hb=>(hf b hb).1⟩⟩
  rw[Int.mul_one]
 done:=by
  intro X hP hw hK hc i pins s σ H E I hf st hg
  subst hP hw hK
  obtain⟨f0,f1,f2,f3,f4,f5⟩:=hf it (by simp)
  exact wpAny_pyNext_range_end (I.ok.hd hc) st (by have:n<=i:=hg;omega) fun h' eb=>⟨rfl,I.turned (t':=s.toks) (fun b o hb e=>eb b o hb e) f0 f1 f3 f4 f5⟩
 self:=fun _ _ _ _ _ st h=>wpAny_pyIter_rangeiter st h
section
variable {X:Cx} {tg:Expr}
theorem kE' {pins:List (Addr×Obj)} {σ:St} {H:Hp} {s:Shared} {R:It->Hp->Prop} {E:Value->Shared->Prop} {lo hi:Int} {t u v:Tok} {tk:Nat} (I:Inv X pins σ H s) (h1:-(2 ^ 62)<=lo) (h2:lo<2 ^ 62) (h3:-(2 ^ 62)<=hi) (h4:hi<2 ^ 62)
  (q:R (Itr lo (hi-lo).toNat) H):wpAny (model X.prog X.w) X.A (pyIter (.ref s.heap.objs.size)) (PIE X pins σ tg R) E { s with heap:=s.heap.push { cls:=.type "range",data:=.fields #[.int lo t,.int hi u,.int 1 v] },toks:=tk }:=by
 refine wpAny_pyIter_range (IsRange.new ..) (small_one h1 h2 h3 h4) ?_
 have I1:Inv X pins σ H { s with heap:=s.heap.push { cls:=.type "range",data:=.fields #[.int lo t,.int hi u,.int 1 v] },toks:=tk }:=I.kept fun b o e=>ab _ e
 refine⟨(s.heap.push { cls:=.type "range",data:=.fields #[.int lo t,.int hi u,.int 1 v] }).objs.size,[(s.heap.push { cls:=.type "range",data:=.fields #[.int lo t,.int hi u,.int 1 v] }).objs.size],_,_,H,rfl,
  I1.kept (t':=tk) fun b o e=>ab _ e,g3' _ lo (hi-lo).toNat,?_,fun b hb=>?_,q⟩
 .have e1:lo+((0:Nat):Int)*1=lo:=by simp
  have e2:(((hi-lo).toNat:Nat):Int)-((0:Nat):Int)=Builtin.Range.rangeSize lo hi 1:=by rw[rangeSize_one];split<;>omega
  show IsRangeIter _ _ (lo+((0:Nat):Int)*1) ((((hi-lo).toNat:Nat):Int)-((0:Nat):Int)) 1
  rw[e1,e2]
  exact av _ rfl
 .have e:b=(s.heap.push { cls:=.type "range",data:=.fields #[.int lo t,.int hi u,.int 1 v] }).objs.size:=by simpa using hb
  subst e
  exact I1.fpOk (ak _) (I1.hok.fresh (ak _))
def nx' (ta:TA):TI:=fun σ H R=>ta σ H fun vs H1=>∃j:Int,vs=[.int j]/\-(2 ^ 62)<=j/\j<2 ^ 62/\R (Itr 0 j.toNat) H1
theorem id' {a:Expr} {ta:TA} {p pos:Pos} (hg:Gl X "range") (hm:X.mg "range"=none) (ha:PA X [a] ta) (hs:starEach [a] X.env=[(false,eval a X.env)]:=by rfl):PI X tg (.Call (.Name "range" p) [a] [] pos) (nx' ta):=by
 intro pins s σ H R I h
 refine Call_ (dn' I hg hm boot_range (PyProof.Rows.callWith_type1 (thn (ha pos pins s σ H _ I h) fun us s1 ⟨vs,H1,I1,r1,q1⟩=>?_) hs rfl))
 obtain⟨j,e,q1,q2,q⟩:=q1
 subst e
 cases r1 with
 |cons r rr=>
  cases rr
  obtain⟨t,rfl⟩:=r
  exact call_range_1 (kE' I1 (by omega) (by omega) q1 q2 (by simpa using q))
def tO' (wi:TI) (g:TG) (tb:TS):TS:=fun D σ H=>wi σ H fun J H1=>∃W:Nat->Nat->St->Hp->Prop,(∃m,W 0 m σ H1)/\∀i m σ H,W i m σ H->
 (J.stop i H/\D.nx σ H)\/(J.go i H/\∃N:St->Hp->Prop,(∀σ' H',N σ' H'->∃m',m'<m/\W (i+1) m' σ' H')/\∀x H',J.yld i H x H'->g x σ H' fun σ2 H2=>tb { D with nx:=N,ct:=N,bk:=D.nx } σ2 H2)
def cY' (fp:List Addr) (h:Heap):List (Addr×Obj):=fp.filterMap fun b=>(h.get? b).map fun o=>(b,o)
theorem bz' {fp:List Addr} {h:Heap} {b:Addr} {o:Obj} (hb:b∈fp) (e:h.get? b=some o):(b,o)∈cY' fp h:=List.mem_filterMap.mpr ⟨b,hb,by rw[e];rfl⟩
theorem dE' {fp:List Addr} {h:Heap} {p:Addr×Obj} (hp:p∈cY' fp h):p.1∈fp/\h.get? p.1=some p.2:=by
 obtain⟨b,hb,e⟩:=List.mem_filterMap.mp hp
 cases q:h.get? b with
 |none=>rw[q]at e;cases e
 |some o=>
  rw[q]at e
  have e':(b,o)=p:=Option.some.inj e
  subst e'
  exact⟨hb,q⟩
theorem Inv.pinned {pins:List (Addr×Obj)} {σ:St} {H:Hp} {s:Shared} {fp:List Addr} (I:Inv X pins σ H s) (hf:∀b∈fp,dY' X pins H b) (ho:∀b∈fp,∃o,s.heap.get? b=some o/\∀v,o.data≠.cell v):Inv X (pins++cY' fp s.heap) σ H s:=
 I.pins_of fun p hp=>(aH.mp hp).elim (fun z=>I.pin p (ax _ z)) fun z=>by
  obtain⟨hb,e⟩:=dE' z
  obtain⟨f0,f1,f2,_⟩:=hf p.1 hb
  obtain⟨o,e',d⟩:=ho p.1 hb
  rw[e]at e';cases e'
  exact⟨e,f0,f1,f2,d⟩
theorem Inv.unpinned {pins pl:List (Addr×Obj)} {σ:St} {H:Hp} {s:Shared} (I:Inv X (pins++pl) σ H s):Inv X pins σ H s:=I.pins_of fun p hp=>I.pin p (ax _ (bE _ hp))
theorem pV' {iter:Expr} {body:List Stmt} {wi:TI} {g:TG} {tb:TS} {pos:Pos} (hp:PassesOwn (model X.prog X.w) X.A X.env X.xe) (hc:X.calm=true) (hi:PI X tg iter wi) (hg:PG X tg g) (hb:PSs X body tb)
  (hs:∀x,foldedSetIterable iter X.env x=pure x:=by intro _;rfl):PS X (.For tg iter body [] pos) (tO' wi g tb):=by
 intro pins s σ H D I h
 refine wpAny_For (thn (hi pins s σ H _ I h) fun v s1 h1=>thn h1 fun itv s2 h2=>?_) hs
 obtain⟨it,fp,tn,J,H2,e,I2,T,st2,f2,W,⟨m0,w0⟩,turn⟩:=h2
 subst e
 have stat:∀{H':Hp},(∀b∈fp,H' b=none)->∀b∈fp,dY' X pins H' b:=fun hn b hb=>⟨hn b hb,(f2 b hb).2⟩
 refine codeAny_forLoop_any (fun n s'=>∃i σ' H',Inv X pins σ' H' s'/\tn i s'.heap/\(∀b∈fp,H' b=none)/\W i n σ' H') ?_ m0 ⟨0,σ,H2,I2,st2,fun b hb=>(f2 b hb).1,w0⟩
 rintro n s3 ⟨i,σ3,H3,I3,st3,fr3,w3⟩
 rcases turn i n σ3 H3 w3 with⟨stop,qn⟩|⟨go,N,hN,step⟩
 .refine ce hp (thn (T.done X rfl rfl rfl hc i pins s3 σ3 H3 X.xe I3 (stat fr3) st3 stop) fun r s4 ⟨hr,I4⟩=>?_)
  subst hr
  exact wpAny_execs_nil ⟨σ3,H3,I4,qn⟩
 .refine ce hp (thn (T.item X rfl rfl rfl hc i pins s3 σ3 H3 X.xe I3 (stat fr3) st3 go) fun r s4 ⟨u,hr,h4⟩=>?_)
  subst hr
  refine ce hp (thn h4 fun _ s5 ⟨x,H5,I5,r5,y5,st5,fr5⟩=>?_)
  have I5':=I5.pinned (stat fr5) (T.obj _ _ st5)
  refine ce hp (thn (hg _ s5 σ3 H5 x u _ I5' r5 (step x H5 y5)) fun _ s6 ⟨σ6,H6,I6,q6⟩=>?_)
  refine ce hp (thn (hb _ s6 σ6 H6 _ I6 q6) fun f s7 q7=>?_)
  have again:∀{σ7:St} {H7:Hp},Inv X (pins++cY' fp s5.heap) σ7 H7 s7->N σ7 H7->∃m,m<n/\∃i σ' H',Inv X pins σ' H' s7/\tn i s7.heap/\(∀b∈fp,H' b=none)/\W i m σ' H':=fun {σ7 H7} I7 n7=>by
   obtain⟨m',hm,w7⟩:=hN σ7 H7 n7
   refine⟨m',hm,i+1,σ7,H7,I7.unpinned,T.keep _ _ _ st5 fun b hb o e=>(I7.pin (b,o) (ax _ (ax _ (bz' hb e)))).1,fun b hb=>?_,w7⟩
   obtain⟨o,e,d⟩:=T.obj _ _ st5 b hb
   exact(I7.pin (b,o) (ax _ (ax _ (bz' hb e)))).2.1
  cases f with
  |next=>obtain⟨σ7,H7,I7,n7⟩:=q7;exact again I7 n7
  |cont=>obtain⟨σ7,H7,I7,n7⟩:=q7;exact again I7 n7
  |brk=>obtain⟨σ7,H7,I7,q7⟩:=q7;exact⟨σ7,H7,I7.unpinned,q7⟩
  |ret v=>obtain⟨x7,σ7,H7,I7,r7,q7⟩:=q7;exact⟨x7,σ7,H7,I7.unpinned,r7,q7⟩
end
theorem kF' {K:W.Frag} {a:Addr} {xs:List V} {g:TG} {tb:TS} {D:Ends} {σ:St} {H:Hp} (Pv:Nat->St->Hp->Prop) (h0:Pv 0 σ H) (hl:∀i σ H,i<=xs.length->Pv i σ H->SqL K H a xs)
  (hs:∀i x σ H,xs[i]?=some x->Pv i σ H->g x σ H fun σ2 H2=>tb { D with nx:=Pv (i+1),ct:=Pv (i+1),bk:=D.nx } σ2 H2) (hd:∀σ H,Pv xs.length σ H->D.nx σ H):
  ∃W:Nat->Nat->St->Hp->Prop,(∃m,W 0 m σ H)/\∀i m σ H,W i m σ H->
   ((Itl K a).stop i H/\D.nx σ H)\/((Itl K a).go i H/\∃N:St->Hp->Prop,(∀σ' H',N σ' H'->∃m',m'<m/\W (i+1) m' σ' H')/\∀x H',(Itl K a).yld i H x H'->g x σ H' fun σ2 H2=>tb { D with nx:=N,ct:=N,bk:=D.nx } σ2 H2):=by
 refine⟨fun i m σ H=>m=xs.length-i/\i<=xs.length/\Pv i σ H,⟨xs.length,by simp,aC _,h0⟩,?_⟩
 rintro i m σ H ⟨rfl,hi,p⟩
 have q:=hl i σ H hi p
 by_cases hlt:i<xs.length
 .refine .inr ⟨⟨xs,xs[i],q,by simp[hlt]⟩,Pv (i+1),fun σ' H' p'=>⟨xs.length-(i+1),by omega,rfl,hlt,p'⟩,fun x H' y=>?_⟩
  obtain⟨e,y⟩:=y
  subst e
  exact hs i x σ _ (y xs q) p
 .have e:i=xs.length:=by omega
  subst e
  exact .inl ⟨⟨xs,q,ak _⟩,hd σ H p⟩
theorem ny' {K:W.Frag} {a:Addr} {xs:List V} {g:TG} {tb:TS} {D:Ends} {σ:St} {H:Hp} (Pv:Nat->St->Hp->Prop) (h0:Pv 0 σ H) (hl:∀i σ H,i<=xs.length->Pv i σ H->SqT K H a xs)
  (hs:∀i x σ H,xs[i]?=some x->Pv i σ H->g x σ H fun σ2 H2=>tb { D with nx:=Pv (i+1),ct:=Pv (i+1),bk:=D.nx } σ2 H2) (hd:∀σ H,Pv xs.length σ H->D.nx σ H):
  ∃W:Nat->Nat->St->Hp->Prop,(∃m,W 0 m σ H)/\∀i m σ H,W i m σ H->
   ((Itt K a).stop i H/\D.nx σ H)\/((Itt K a).go i H/\∃N:St->Hp->Prop,(∀σ' H',N σ' H'->∃m',m'<m/\W (i+1) m' σ' H')/\∀x H',(Itt K a).yld i H x H'->g x σ H' fun σ2 H2=>tb { D with nx:=N,ct:=N,bk:=D.nx } σ2 H2):=by
 refine⟨fun i m σ H=>m=xs.length-i/\i<=xs.length/\Pv i σ H,⟨xs.length,by simp,aC _,h0⟩,?_⟩
 rintro i m σ H ⟨rfl,hi,p⟩
 have q:=hl i σ H hi p
 by_cases hlt:i<xs.length
 .refine .inr ⟨⟨xs,xs[i],q,by simp[hlt]⟩,Pv (i+1),fun σ' H' p'=>⟨xs.length-(i+1),by omega,rfl,hlt,p'⟩,fun x H' y=>?_⟩
  obtain⟨e,y⟩:=y
  subst e
  exact hs i x σ _ (y xs q) p
 .have e:i=xs.length:=by omega
  subst e
  exact .inl ⟨⟨xs,q,ak _⟩,hd σ H p⟩
theorem ie' {lo:Int} {n:Nat} {g:TG} {tb:TS} {D:Ends} {σ:St} {H:Hp} (Pv:Nat->St->Hp->Prop) (h0:Pv 0 σ H)
  (hs:∀i σ H,i<n->Pv i σ H->g (.int (lo+i)) σ H fun σ2 H2=>tb { D with nx:=Pv (i+1),ct:=Pv (i+1),bk:=D.nx } σ2 H2) (hd:∀σ H,Pv n σ H->D.nx σ H):
  ∃W:Nat->Nat->St->Hp->Prop,(∃m,W 0 m σ H)/\∀i m σ H,W i m σ H->
   ((Itr lo n).stop i H/\D.nx σ H)\/((Itr lo n).go i H/\∃N:St->Hp->Prop,(∀σ' H',N σ' H'->∃m',m'<m/\W (i+1) m' σ' H')/\∀x H',(Itr lo n).yld i H x H'->g x σ H' fun σ2 H2=>tb { D with nx:=N,ct:=N,bk:=D.nx } σ2 H2):=by
 refine⟨fun i m σ H=>m=n-i/\i<=n/\Pv i σ H,⟨n,by simp,aC _,h0⟩,?_⟩
 rintro i m σ H ⟨rfl,hi,p⟩
 by_cases hlt:i<n
 .refine .inr ⟨hlt,Pv (i+1),fun σ' H' p'=>⟨n-(i+1),by omega,rfl,hlt,p'⟩,fun x H' y=>?_⟩
  obtain⟨e,y⟩:=y
  subst e y
  exact hs i σ _ hlt p
 .have e:i=n:=by omega
  subst e
  exact .inl ⟨ak _,hd σ H p⟩
abbrev R2:=V->V->Hp->VK->Prop
def OpR (X:Cx) (f:Value->Value->Sem Value) (r:R2):Prop:=
 ∀(pins:List (Addr×Obj)) (s:Shared) (σ:St) (H:Hp) (x y:V) (v u:Value) (Q:VK),Inv X pins σ H s->aH' x v->aH' y u->r x y H Q->
  wpAny (model X.prog X.w) X.A (f v u) (EP X pins σ Q) X.xe s
def UnR (X:Cx) (f:Value->Sem Value) (r:V->Hp->VK->Prop):Prop:=
 ∀(pins:List (Addr×Obj)) (s:Shared) (σ:St) (H:Hp) (x:V) (v:Value) (Q:VK),Inv X pins σ H s->aH' x v->r x H Q->
  wpAny (model X.prog X.w) X.A (f v) (EP X pins σ Q) X.xe s
def aN' (X:Cx) (f:Value) (r:List V->Hp->VK->Prop):Prop:=
 ∀(pins:List (Addr×Obj)) (s:Shared) (σ:St) (H:Hp) (xs:List V) (us:List Value) (Q:VK),Inv X pins σ H s->ay' xs us->r xs H Q->
  wpAny (model X.prog X.w) X.A (call f us) (EP X pins σ Q) X.xe s
def wh' (X:Cx) (r:V->Hp->(Bool->Hp->Prop)->Prop):Prop:=
 ∀(pins:List (Addr×Obj)) (s:Shared) (σ:St) (H:Hp) (x:V) (v:Value) (Q:Bool->Hp->Prop),Inv X pins σ H s->aH' x v->r x H Q->
  wpAny (model X.prog X.w) X.A (truthy v) (TP X pins σ Q) X.xe s
def tOp (r:R2) (ta tb:TE):TE:=fun σ H Q=>ta σ H fun x H1=>tb σ H1 fun y H2=>r x y H2 Q
def tUn (r:V->Hp->VK->Prop) (ta:TE):TE:=fun σ H Q=>ta σ H fun x H1=>r x H1 Q
def rI (C:Int->Int->Prop) (g:Int->Int->V):R2:=fun x y H Q=>∃i j,x=.int i/\y=.int j/\C i j/\Q (g i j) H
def rI0 (g:Int->Int->V):R2:=fun x y H Q=>∃i j,x=.int i/\y=.int j/\Q (g i j) H
def rU (g:Int->V):V->Hp->VK->Prop:=fun x H Q=>∃i,x=.int i/\Q (g i) H
section
variable {X:Cx} {a b c:Expr} {ta tb tc:TE} {pos:Pos}
theorem tP' (ha:PE X a ta) (hb:PE X b tb) {pins:List (Addr×Obj)} {s:Shared} {σ:St} {H:Hp} {R:V->V->Hp->Prop} (I:Inv X pins σ H s)
  (h:ta σ H fun x H1=>tb σ H1 fun y H2=>R x y H2) {Q:Value->Shared->Prop} {f:Value->Value->Sem Value}
  (hf:∀v u s2 x y H2,Inv X pins σ H2 s2->aH' x v->aH' y u->R x y H2->wpAny (model X.prog X.w) X.A (f v u) Q X.xe s2):
  wpAny (model X.prog X.w) X.A (eval a X.env) (fun v s₁=>wpAny (model X.prog X.w) X.A (eval b X.env) (fun u s₂=>wpAny (model X.prog X.w) X.A (f v u) Q X.xe s₂) X.xe s₁) X.xe s:=by
 refine thn (ha pins s σ H _ I h) fun v s1 ⟨x,H1,I1,r1,q1⟩=>?_
 refine thn (hb pins s1 σ H1 _ I1 q1) fun u s2 ⟨y,H2,I2,r2,q2⟩=>?_
 exact hf v u s2 x y H2 I2 r1 r2 q2
theorem tQ' {op:Operator} {r:R2} (ho:OpR X (binaryOp op) r) (ha:PE X a ta) (hb:PE X b tb):PE X (.BinOp a op b pos) (tOp r ta tb):=by
 intro pins s σ H Q I h
 exact wpAny_BinOp (tP' ha hb I h fun v u s2 x y H2 I2 rx ry q=>ho pins s2 σ H2 x y v u Q I2 rx ry q)
theorem tR' {op:UnaryOp} {r:V->Hp->VK->Prop} (ho:UnR X (unaryOp op) r) (ha:PE X a ta):PE X (.UnaryOp op a pos) (tUn r ta):=by
 intro pins s σ H Q I h
 exact UnaryOp_ (thn (ha pins s σ H _ I h) fun v s1 ⟨x,H1,I1,r1,q1⟩=>ho pins s1 σ H1 x v Q I1 r1 q1)
theorem opI {f:Value->Value->Sem Value} {C:Int->Int->Prop} {g:Int->Int->Int}
  (rule:∀(i j:Int) (t u:Tok) (s:Shared) (Q:Value->Shared->Prop) (E:Value->Shared->Prop),C i j->Q (.int (g i j) s.toks) { s with toks:=s.toks+1 }->wpAny (model X.prog X.w) X.A (f (.int i t) (.int j u)) Q E s):
  OpR X f (rI C fun i j=>.int (g i j)):=by
 intro pins s σ H x y v u Q I rx ry h
 obtain⟨i,j,rfl,rfl,hc,q⟩:=h
 obtain⟨t,rfl⟩:=rx
 obtain⟨t',rfl⟩:=ry
 exact rule i j t t' s _ _ hc ⟨.int (g i j),H,I.tok _,⟨_,rfl⟩,q⟩
theorem tS' {f:Value->Value->Sem Value} {g:Int->Int->Int}
  (rule:∀(i j:Int) (t u:Tok) (s:Shared) (Q:Value->Shared->Prop) (E:Value->Shared->Prop),Q (.int (g i j) s.toks) { s with toks:=s.toks+1 }->wpAny (model X.prog X.w) X.A (f (.int i t) (.int j u)) Q E s):
  OpR X f (rI0 fun i j=>.int (g i j)):=by
 intro pins s σ H x y v u Q I rx ry h
 obtain⟨i,j,rfl,rfl,q⟩:=h
 obtain⟨t,rfl⟩:=rx
 obtain⟨t',rfl⟩:=ry
 exact rule i j t t' s _ _ ⟨.int (g i j),H,I.tok _,⟨_,rfl⟩,q⟩
theorem tl' {f:Value->Value->Sem Value} {g:Int->Int->Bool}
  (rule:∀(i j:Int) (t u:Tok) (s:Shared) (Q:Value->Shared->Prop) (E:Value->Shared->Prop),Q (.bool (g i j)) s->wpAny (model X.prog X.w) X.A (f (.int i t) (.int j u)) Q E s):
  OpR X f (rI0 fun i j=>.bl (g i j)):=by
 intro pins s σ H x y v u Q I rx ry h
 obtain⟨i,j,rfl,rfl,q⟩:=h
 obtain⟨t,rfl⟩:=rx
 obtain⟨t',rfl⟩:=ry
 exact rule i j t t' s _ _ ⟨.bl (g i j),H,I,rfl,q⟩
def wi' (i j:Int):Prop:=0<j/\j<1073741824
def tT' (i j:Int):Prop:=0<=j/\j<=1000000/\i.natAbs<2 ^ 64
def tm' (i j:Int):Prop:=(-(2 ^ 64)<i/\i<2 ^ 64)\/(-(2 ^ 64)<j/\j<2 ^ 64)
theorem tm'.ok {i j:Int} (h:tm' i j):IntMulOk i j:=by
 rcases h with⟨h1,h2⟩|⟨h1,h2⟩
 .exact .of_left (intBits_le_64 h1 h2)
 .exact .of_right (intBits_le_64 h1 h2)
theorem g4' (k:Nat):(0:Int)<=2 ^ k:=by
 rw[two_pow_cast]
 exact Int.natCast_nonneg _
theorem pW':OpR X (binaryOp .Add) (rI0 fun i j=>.int (i+j)):=tS' fun _ _ _ _ _ _ _ q=>add_int q
theorem pX':OpR X (binaryOp .Sub) (rI0 fun i j=>.int (i-j)):=tS' fun _ _ _ _ _ _ _ q=>sub_int q
theorem nz':OpR X (binaryOp .FloorDiv) (rI wi' fun i j=>.int (i / j)):=opI fun i j _ _ _ _ _ hc q=>by
 have h1:(0:Int)<j:=hc.1
 have h2:j<1073741824:=hc.2
 exact floordiv_int (by omega) (by rw[Int.fdiv_eq_ediv_of_nonneg i (by omega)];exact q) (.inl (PyProof.noPylong_small (by omega)))
theorem pY':OpR X (binaryOp .Mod) (rI (fun _ j=>0<j) fun i j=>.int (i % j)):=opI fun i j _ _ _ _ _ hc q=>by
 have h1:(0:Int)<j:=hc
 exact mod_int' (by omega) (by rw[Int.fmod_eq_emod_of_nonneg i (by omega)];exact q)
theorem pZ':OpR X (binaryOp .Pow) (rI tT' fun i j=>.int (i ^ j.toNat)):=opI fun _ _ _ _ _ _ _ hc q=>pow_int_small hc.1 hc.2.1 hc.2.2 q
theorem p0':OpR X (binaryOp .RShift) (rI (fun _ j=>0<=j) fun i j=>.int (i / 2 ^ j.toNat)):=opI fun i j _ _ _ _ _ hc q=>
 rshift_int hc (by rw[Int.fdiv_eq_ediv_of_nonneg i (g4' _)];exact q)
theorem p1':OpR X (binaryOp .BitAnd) (rI0 fun i j=>.int (Builtin.bitAnd i j)):=tS' fun _ _ _ _ _ _ _ q=>and_int q
theorem unI {f:Value->Sem Value} {g:Int->Int}
  (rule:∀(i:Int) (t:Tok) (s:Shared) (Q:Value->Shared->Prop) (E:Value->Shared->Prop),Q (.int (g i) s.toks) { s with toks:=s.toks+1 }->wpAny (model X.prog X.w) X.A (f (.int i t)) Q E s):
  UnR X f (rU fun i=>.int (g i)):=by
 intro pins s σ H x v Q I rx h
 obtain⟨i,rfl,q⟩:=h
 obtain⟨t,rfl⟩:=rx
 exact rule i t s _ _ ⟨.int (g i),H,I.tok _,⟨_,rfl⟩,q⟩
theorem p2':UnR X (unaryOp .USub) (rU fun i=>.int (-i)):=unI fun _ _ _ _ _ q=>neg_int q
end
def tn':V->V->Bool
 | .non,.non=>true | .non,.int _=>true | .int _,.non=>true | .non,.bl _=>true | .bl _,.non=>true | .non,.str _=>true | .str _,.non=>true
 | .int _,.int _=>true | .bl _,.bl _=>true | .str _,.str _=>true | .byt _,.byt _=>true
 | .int _,.str _=>true | .str _,.int _=>true | .bl _,.str _=>true | .str _,.bl _=>true
 |_,_=>false
def rEq:R2:=fun x y H Q=>tn' x y=true/\Q (.bl (decide (x=y))) H
def rNe:R2:=fun x y H Q=>tn' x y=true/\Q (.bl (!decide (x=y))) H
theorem fR' {i j:Int}:decide (V.int i=V.int j)=(i == j):=by
 rw[Bool.eq_iff_iff]
 simp
theorem my' {i j:Bool}:decide (V.bl i=V.bl j)=(i == j):=by
 rw[Bool.eq_iff_iff]
 simp
theorem if' {i j:Str}:decide (V.str i=V.str j)=(i == j):=by
 rw[Bool.eq_iff_iff]
 simp
theorem ig' {i j:Array UInt8}:decide (V.byt i=V.byt j)=(i.toList == j.toList):=by
 rw[Bool.eq_iff_iff]
 cases i
 cases j
 simp
section
variable {X:Cx} {a b c:Expr} {ta tb tc:TE} {pos:Pos}
theorem av' {pins:List (Addr×Obj)} {σ:St} {H:Hp} {s:Shared} {Q:VK} {k k':Bool} (I:Inv X pins σ H s) (q:Q (.bl k) H) (e:k=k'):EP X pins σ Q (.bool k') s:=by
 subst e
 exact⟨.bl k,H,I,rfl,q⟩
theorem tU':OpR X (compareOp .Eq) rEq:=by
 intro pins s σ H x y v u Q I rx ry h
 obtain⟨hs,q⟩:=h
 cases x with
 |non=>
  cases rx
  cases y with
  |non=>cases ry;exact PySem.EqNone.eq_none_none (av' I q (by simp))
  |bl j=>cases ry;exact PySem.EqNone.eq_none_bool (av' I q (by simp))
  |int j=>obtain⟨t',rfl⟩:=ry;exact PySem.EqNone.eq_none_int (av' I q (by simp))
  |str j=>obtain⟨t',rfl⟩:=ry;exact PySem.EqNone.eq_none_str (av' I q (by simp))
  |_=>exact absurd (show false=true from hs) aq
 |bl i=>
  cases rx
  cases y with
  |non=>cases ry;exact PySem.EqNone.eq_bool_none (av' I q (by simp))
  |bl j=>cases ry;exact eq_bool (av' I q my')
  |str j=>obtain⟨t',rfl⟩:=ry;exact PySem.EqMixed.eq_bool_str (av' I q (by simp))
  |_=>exact absurd (show false=true from hs) aq
 |int i=>
  obtain⟨t,rfl⟩:=rx
  cases y with
  |non=>cases ry;exact PySem.EqNone.eq_int_none (av' I q (by simp))
  |int j=>obtain⟨t',rfl⟩:=ry;exact eq_int (av' I q fR')
  |str j=>obtain⟨t',rfl⟩:=ry;exact PySem.EqMixed.eq_int_str (av' I q (by simp))
  |_=>exact absurd (show false=true from hs) aq
 |str i=>
  obtain⟨t,rfl⟩:=rx
  cases y with
  |non=>cases ry;exact PySem.EqNone.eq_str_none (av' I q (by simp))
  |bl j=>cases ry;exact PySem.EqMixed.eq_str_bool (av' I q (by simp))
  |int j=>obtain⟨t',rfl⟩:=ry;exact PySem.EqMixed.eq_str_int (av' I q (by simp))
  |str j=>obtain⟨t',rfl⟩:=ry;exact eq_str (av' I q if')
  |_=>exact absurd (show false=true from hs) aq
 |byt i=>
  obtain⟨t,rfl⟩:=rx
  cases y with
  |byt j=>obtain⟨t',rfl⟩:=ry;exact W.eq_bytes (av' I q ig')
  |_=>exact absurd (show false=true from hs) aq
 |_=>cases y<;>exact absurd (show false=true from hs) aq
theorem tV':OpR X (compareOp .NotEq) rNe:=by
 intro pins s σ H x y v u Q I rx ry h
 obtain⟨hs,q⟩:=h
 cases x with
 |non=>
  cases rx
  cases y with
  |non=>cases ry;exact PySem.EqNone.ne_none_none (av' I q (by simp))
  |bl j=>cases ry;exact PySem.EqNone.ne_none_bool (av' I q (by simp))
  |int j=>obtain⟨t',rfl⟩:=ry;exact PySem.EqNone.ne_none_int (av' I q (by simp))
  |str j=>obtain⟨t',rfl⟩:=ry;exact PySem.EqNone.ne_none_str (av' I q (by simp))
  |_=>exact absurd (show false=true from hs) aq
 |bl i=>
  cases rx
  cases y with
  |non=>cases ry;exact PySem.EqNone.ne_bool_none (av' I q (by simp))
  |bl j=>cases ry;exact ne_bool (av' I q (congrArg not my'))
  |str j=>obtain⟨t',rfl⟩:=ry;exact PySem.EqMixed.ne_bool_str (av' I q (by simp))
  |_=>exact absurd (show false=true from hs) aq
 |int i=>
  obtain⟨t,rfl⟩:=rx
  cases y with
  |non=>cases ry;exact PySem.EqNone.ne_int_none (av' I q (by simp))
  |int j=>obtain⟨t',rfl⟩:=ry;exact ne_int (av' I q (congrArg not fR'))
  |str j=>obtain⟨t',rfl⟩:=ry;exact PySem.EqMixed.ne_int_str (av' I q (by simp))
  |_=>exact absurd (show false=true from hs) aq
 |str i=>
  obtain⟨t,rfl⟩:=rx
  cases y with
  |non=>cases ry;exact PySem.EqNone.ne_str_none (av' I q (by simp))
  |bl j=>cases ry;exact PySem.EqMixed.ne_str_bool (av' I q (by simp))
  |int j=>obtain⟨t',rfl⟩:=ry;exact PySem.EqMixed.ne_str_int (av' I q (by simp))
  |str j=>obtain⟨t',rfl⟩:=ry;exact ne_str (av' I q (congrArg not if'))
  |_=>exact absurd (show false=true from hs) aq
 |byt i=>
  obtain⟨t,rfl⟩:=rx
  cases y with
  |byt j=>obtain⟨t',rfl⟩:=ry;exact W.ne_bytes (av' I q (congrArg not ig'))
  |_=>exact absurd (show false=true from hs) aq
 |_=>cases y<;>exact absurd (show false=true from hs) aq
theorem tW':OpR X (compareOp .Lt) (rI0 fun i j=>.bl (decide (i<j))):=tl' fun _ _ _ _ _ _ _ q=>lt_int q
theorem tX':OpR X (compareOp .LtE) (rI0 fun i j=>.bl (decide (i<=j))):=tl' fun _ _ _ _ _ _ _ q=>le_int q
theorem tY':OpR X (compareOp .Gt) (rI0 fun i j=>.bl (decide (j<i))):=tl' fun _ _ _ _ _ _ _ q=>gt_int q
theorem tZ':OpR X (compareOp .GtE) (rI0 fun i j=>.bl (decide (j<=i))):=tl' fun _ _ _ _ _ _ _ q=>ge_int q
theorem p3':OpR X (compareOp .Is) (fun x y H Q=>y=.non/\Q (.bl (decide (x=.non))) H):=by
 intro pins s σ H x y v u Q I rx ry h
 obtain⟨rfl,q⟩:=h
 cases ry
 refine is_none_gen (av' I q ?_)
 cases x<;>first
  |(cases rx;rfl)
  |(obtain⟨t,rfl⟩:=rx;rfl)
theorem nA':OpR X (compareOp .IsNot) (fun x y H Q=>y=.non/\Q (.bl (!decide (x=.non))) H):=by
 intro pins s σ H x y v u Q I rx ry h
 obtain⟨rfl,q⟩:=h
 cases ry
 refine isnot_none_gen (av' I q ?_)
 cases x<;>first
  |(cases rx;rfl)
  |(obtain⟨t,rfl⟩:=rx;rfl)
theorem OpR.or {f:Value->Value->Sem Value} {r r':R2} (h:OpR X f r) (h':OpR X f r'):OpR X f (fun x y H Q=>r x y H Q\/r' x y H Q):=by
 intro pins s σ H x y v u Q I rx ry q
 rcases q with q|q
 .exact h pins s σ H x y v u Q I rx ry q
 .exact h' pins s σ H x y v u Q I rx ry q
theorem nB' {op:CmpOp} {r:R2} (ho:OpR X (compareOp op) r) (ha:PE X a ta) (hb:PE X b tb) (hm:behindInMarks op b=false):PE X (.Compare a [op] [b] pos) (tOp r ta tb):=by
 intro pins s σ H Q I h
 exact wpAny_Compare1 (tP' ha hb I h fun v u s2 x y H2 I2 rx ry q=>ho pins s2 σ H2 x y v u Q I2 rx ry q) hm
def g5' (t:TE):TT:=fun σ H Q=>t σ H fun x H'=>∃k,x=.bl k/\Q k H'
theorem nC' {op:CmpOp} {r:R2} (ho:OpR X (compareOp op) r) (ha:PE X a ta) (hb:PE X b tb) (hm:behindInMarks op b=false):PT X (.Compare a [op] [b] pos) (g5' (tOp r ta tb)):=by
 intro pins s σ H Q I h
 refine wpAny_isTrue_Compare1 (thn (ha pins s σ H _ I h) fun v s1 ⟨x,H1,I1,r1,q1⟩=>thn (hb pins s1 σ H1 _ I1 q1) fun u s2 ⟨y,H2,I2,r2,q2⟩=>
  thn (ho pins s2 σ H2 x y v u _ I2 r1 r2 q2) fun c s3 ⟨z,H3,I3,r3,k,e,q3⟩=>?_) hm
 subst e
 cases r3
 exact bx ⟨H3,I3,q3⟩
def do' (r r':R2) (ta tb tc:TE):TE:=fun σ H Q=>ta σ H fun x H1=>tb σ H1 fun y H2=>r x y H2 fun z H3=>∃k,z=.bl k/\
 (if k=true then tc σ H3 fun w' H4=>r' y w' H4 Q else Q (.bl false) H3)
theorem kG' {op op':CmpOp} {r r':R2} (ho:OpR X (compareOp op) r) (ho':OpR X (compareOp op') r') (ha:PE X a ta) (hb:PE X b tb) (hc:PE X c tc)
  (hm:lastMarks [op,op'] [b,c]=false:=by with_unfolding_all rfl):PE X (.Compare a [op,op'] [b,c] pos) (do' r r' ta tb tc):=by
 intro pins s σ H Q I h
 refine Compare_chain (thn (ha pins s σ H _ I h) fun v s1 ⟨x,H1,I1,r1,q1⟩=>chain_link (thn (hb pins s1 σ H1 _ I1 q1) fun u s2 ⟨y,H2,I2,r2,q2⟩=>
  thn (ho pins s2 σ H2 x y v u _ I2 r1 r2 q2) fun d s3 ⟨z,H3,I3,r3,k,e,q3⟩=>?_)) hm
 subst e
 cases r3
 refine bx ?_
 cases k with
 |false=>exact ite_ff ⟨.bl false,H3,I3,rfl,q3⟩
 |true=>exact ite_tt (chain_last (thn (hc pins s3 σ H3 _ I3 q3) fun w' s4 ⟨z',H4,I4,r4,q4⟩=>ho' pins s4 σ H4 y z' u w' Q I4 r2 r4 q4))
theorem kH' {op op':CmpOp} {r r':R2} (ho:OpR X (compareOp op) r) (ho':OpR X (compareOp op') r') (ha:PE X a ta) (hb:PE X b tb) (hc:PE X c tc)
  (hm:lastMarks [op,op'] [b,c]=false:=by with_unfolding_all rfl):PT X (.Compare a [op,op'] [b,c] pos) (g5' (do' r r' ta tb tc)):=by
 intro pins s σ H Q I h
 refine isTrue_chain (thn (ha pins s σ H _ I h) fun v s1 ⟨x,H1,I1,r1,q1⟩=>test_link (thn (hb pins s1 σ H1 _ I1 q1) fun u s2 ⟨y,H2,I2,r2,q2⟩=>
  thn (ho pins s2 σ H2 x y v u _ I2 r1 r2 q2) fun d s3 ⟨z,H3,I3,r3,k,e,q3⟩=>?_)) hm
 subst e
 cases r3
 refine bx ?_
 cases k with
 |false=>
  obtain⟨k',e',q'⟩:=q3
  cases e'
  exact ite_ff ⟨H3,I3,q'⟩
 |true=>
  refine ite_tt (test_last (thn (hc pins s3 σ H3 _ I3 q3) fun w' s4 ⟨z',H4,I4,r4,q4⟩=>thn (ho' pins s4 σ H4 y z' u w' _ I4 r2 r4 q4) fun d' s5 ⟨z2,H5,I5,r5,k2,e2,q5⟩=>?_))
  subst e2
  cases r5
  exact bx ⟨H5,I5,q5⟩
def p4' (K:W.Frag) (x:V) (H:Hp) (k:Bool):Prop:=
 match x with
 | .non=>k=false
 | .bl b=>k=b
 | .int i=>k=(i != 0)
 | .str y=>y.length<=sizeLine/\k=((y.length:Int) != 0)
 | .byt y=>y.size<=sizeLine/\k=((y.size:Int) != 0)
 | .ref p=>(∃xs,SqL K H p xs/\k=!xs.isEmpty)\/(∃xs,SqT K H p xs/\k=!xs.isEmpty)\/∃kvs,H p=some (.dK kvs)/\k=!kvs.isEmpty
 |_=>False
theorem g6' {κ:Type} {kvs:List (κ×V)} {vs:List (κ×Value)} (r:KV kvs vs):(!vs.isEmpty)=!kvs.isEmpty:=by
 cases r<;>rfl
theorem d6' {xs:List V} {its:List Value} (r:ay' xs its):(!its.toArray.isEmpty)=!xs.isEmpty:=by
 cases r<;>simp
theorem d7':(sizeLine:Nat)<2 ^ 63:=by rw[sizeLine_eq];decide
theorem p5':wh' X (fun x H Q=>∃k,p4' X.K x H k/\Q k H):=by
 intro pins s σ H x v Q I rx h
 obtain⟨k,e,q⟩:=h
 have hl:=d7'
 have hs:sizeLine=16777216:=sizeLine_eq
 cases x with
 |non=>
  cases rx
  have e':k=false:=e
  subst e'
  exact truthy_none ⟨H,I,q⟩
 |bl b=>
  cases rx
  have e':k=b:=e
  subst e'
  exact bx ⟨H,I,q⟩
 |int i=>
  obtain⟨t,rfl⟩:=rx
  have e':k=(i != 0):=e
  subst e'
  exact PySem.P.truthy_int ⟨H,I,q⟩
 |str y=>
  obtain⟨t,rfl⟩:=rx
  obtain⟨hy,e'⟩:y.length<=sizeLine/\k=((y.length:Int) != 0):=e
  subst e'
  exact PySem.P.truthy_str (by omega) ⟨H,I.tok _,q⟩
 |byt y=>
  obtain⟨t,rfl⟩:=rx
  obtain⟨hy,e'⟩:y.size<=sizeLine/\k=((y.size:Int) != 0):=e
  subst e'
  exact W.truthy_bytes (by omega) ⟨H,I.tok _,q⟩
 |ref p=>
  cases rx
  have e':(∃xs,SqL X.K H p xs/\k=!xs.isEmpty)\/(∃xs,SqT X.K H p xs/\k=!xs.isEmpty)\/∃kvs,H p=some (.dK kvs)/\k=!kvs.isEmpty:=e
  rcases e' with⟨xs,hx,e'⟩|⟨xs,hx,e'⟩|⟨kvs,hx,e'⟩
  .subst e'
   obtain⟨its,r,pl,hz⟩:=I.list hx
   have hlen:=r.length
   exact wpAny_truthy_list pl.isList (by simp only[aj];omega) ⟨H,I.tok _,by rw[d6' r];exact q⟩
  .subst e'
   obtain⟨its,r,pl,hz⟩:=I.tuple hx
   have hlen:=r.length
   exact truthy_tuple pl (by simp only[aj];omega) ⟨H,I.tok _,by rw[d6' r];exact q⟩
  .subst e'
   obtain⟨hz,hS,vs,r,m⟩:kvs.length<=sizeLine/\(p == sysModules)=false/\∃vs,KV kvs vs/\s.heap.DictOf (aD' X.prog X.w) p vs:=I.hok p _ hx
   have hlen:kvs.length=vs.length:=Paired.length r
   exact wpAny_truthy_dict hS m (by omega) ⟨H,I.tok _,by rw[g6' r];exact q⟩
 |_=>exact(show False from e).elim
theorem kI' (ha:PE X a ta) (he:∀whole,isTrue a X.env whole=(do let v <- whole;standAt a.pos;holding [v] (truthy v))):
  PT X a (fun σ H Q=>ta σ H fun x H'=>∃k,p4' X.K x H' k/\Q k H'):=by
 intro pins s σ H Q I h
 exact isTrue_plain (thn (ha pins s σ H _ I h) fun v s1 ⟨x,H1,I1,r1,q1⟩=>p5' pins s1 σ H1 x v Q I1 r1 q1) (he _)
theorem g7':OpR X (binaryOp .Add) (fun x y H Q=>∃i j,x=.str i/\y=.str j/\i.length+j.length<=sizeLine/\Q (.str (i++j)) H):=by
 intro pins s σ H x y v u Q I rx ry h
 obtain⟨i,j,rfl,rfl,hz,q⟩:=h
 obtain⟨t,rfl⟩:=rx
 obtain⟨t',rfl⟩:=ry
 exact add_str (fun t' tk=>⟨.str (i++j),H,I.tok _,⟨_,rfl⟩,q⟩) hz
theorem dw' {x:V} {us:List Value} (r:ay' [x] us):∃u,us=[u]/\aH' x u:=by
 cases r with
 |cons r1 r2=>cases r2;exact⟨_,rfl,r1⟩
theorem ii' {x y:V} {us:List Value} (r:ay' [x,y] us):∃u w',us=[u,w']/\aH' x u/\aH' y w':=by
 cases r with
 |cons r1 r2=>
  cases r2 with
  |cons r3 r4=>cases r4;exact⟨_,_,rfl,r1,r3⟩
theorem kJ':aN' X (.builtin "abs") (fun xs H Q=>∃i,xs=[.int i]/\Q (.int (if i<0 then -i else i)) H):=by
 intro pins s σ H xs us Q I r h
 obtain⟨i,rfl,q⟩:=h
 obtain⟨u,rfl,t,rfl⟩:=dw' r
 exact call_abs_int fun u tk=>⟨.int (if i<0 then -i else i),H,I.tok _,⟨_,rfl⟩,q⟩
theorem ij' (hc:X.calm=true):aN' X (.builtin "max") (fun xs H Q=>∃i j,xs=[.int i,.int j]/\Q (.int (if j > i then j else i)) H):=by
 intro pins s σ H xs us Q I r h
 obtain⟨i,j,rfl,q⟩:=h
 obtain⟨u,w',rfl,⟨t,rfl⟩,⟨t',rfl⟩⟩:=ii' r
 refine max_two_ints (I.ok.hd hc) fun h' tk k=>⟨_,H,I.kept k,?_,q⟩
 by_cases hj:j > i
 .rw[if_pos hj,if_pos hj];exact⟨_,rfl⟩
 .rw[if_neg hj,if_neg hj];exact⟨_,rfl⟩
theorem ik' (hc:X.calm=true):aN' X (.builtin "min") (fun xs H Q=>∃i j,xs=[.int i,.int j]/\Q (.int (if j<i then j else i)) H):=by
 intro pins s σ H xs us Q I r h
 obtain⟨i,j,rfl,q⟩:=h
 obtain⟨u,w',rfl,⟨t,rfl⟩,⟨t',rfl⟩⟩:=ii' r
 refine min_two_ints (I.ok.hd hc) fun h' tk k=>⟨_,H,I.kept k,?_,q⟩
 by_cases hj:j<i
 .rw[if_pos hj,if_pos hj];exact⟨_,rfl⟩
 .rw[if_neg hj,if_neg hj];exact⟨_,rfl⟩
theorem il':aN' X (.type "int") (fun xs H Q=>(∃i,xs=[.int i]/\Q (.int i) H)\/∃k,xs=[.bl k]/\Q (.int (if k then 1 else 0)) H):=by
 intro pins s σ H xs us Q I r h
 rcases h with⟨i,rfl,q⟩|⟨k,rfl,q⟩
 .obtain⟨u,rfl,t,rfl⟩:=dw' r
  exact call_int_int ⟨.int i,H,I,⟨_,rfl⟩,q⟩
 .obtain⟨u,rfl,r1⟩:=dw' r
  cases r1
  exact call_int_bool ⟨.int (if k then 1 else 0),H,I.tok _,⟨_,rfl⟩,q⟩
theorem e0':aN' X (.type "str") (fun xs H Q=>∃i,xs=[.int i]/\i.natAbs.log2<1920/\Q (.str (toString i)) H):=by
 intro pins s σ H xs us Q I r h
 obtain⟨i,rfl,hz,q⟩:=h
 obtain⟨u,rfl,t,rfl⟩:=dw' r
 exact PySem.P.str_of_int hz ⟨.str _,H,I.tok _,⟨_,rfl⟩,q⟩
def vC' (K:W.Frag) (x:V) (H:Hp) (n:Nat):Prop:=
 match x with
 | .str y=>y.length<=sizeLine/\n=y.length
 | .byt y=>y.size<=sizeLine/\n=y.size
 | .ref p=>(∃xs,SqL K H p xs/\n=xs.length)\/∃xs,SqT K H p xs/\n=xs.length
 |_=>False
theorem kK':aN' X (.builtin "len") (fun xs H Q=>∃x n,xs=[x]/\vC' X.K x H n/\Q (.int n) H):=by
 intro pins s σ H xs us Q I r h
 obtain⟨x,n,rfl,e,q⟩:=h
 obtain⟨u,rfl,rx⟩:=dw' r
 have hl:=d7'
 have hs:sizeLine=16777216:=sizeLine_eq
 cases x with
 |str y=>
  obtain⟨t,rfl⟩:=rx
  obtain⟨hy,e'⟩:y.length<=sizeLine/\n=y.length:=e
  subst e'
  exact len_str (by omega) ⟨.int _,H,I.tok _,⟨_,rfl⟩,q⟩
 |byt y=>
  obtain⟨t,rfl⟩:=rx
  obtain⟨hy,e'⟩:y.size<=sizeLine/\n=y.size:=e
  subst e'
  exact W.len_bytes (by omega) ⟨.int _,H,I.tok _,⟨_,rfl⟩,q⟩
 |ref p=>
  cases rx
  have e':(∃xs,SqL X.K H p xs/\n=xs.length)\/∃xs,SqT X.K H p xs/\n=xs.length:=e
  rcases e' with⟨xs,hx,e'⟩|⟨xs,hx,e'⟩
  .subst e'
   obtain⟨its,r',pl,hz⟩:=I.list hx
   have hlen:=r'.length
   exact Calls.call_len_list pl.isList (by simp only[aj];omega) ⟨.int xs.length,H,I.tok _,⟨_,by simp only[aj];rw[hlen]⟩,q⟩
  .subst e'
   obtain⟨its,r',pl,hz⟩:=I.tuple hx
   have hlen:=r'.length
   exact len_tuple pl (by simp only[aj];omega) ⟨.int xs.length,H,I.tok _,⟨_,by simp only[aj];rw[hlen]⟩,q⟩
 |_=>exact(show False from e).elim
end
structure ObjM (h:Heap) (x dx C:Addr) (mA:Str->Option Value):Prop where
 obj:h.get? x=some (W.instObj C dx)
 ns:h.Ns1 dx mA
 ne:dx≠x
set_option tactic.hygienic true in
theorem im' {h:Heap} {dx:Addr} {mA:Str->Option Value} (n:h.Ns1 dx mA):∃od,h.get? dx=some od/\∀name,W.lookIn name od=some (mA name):=by
 obtain⟨o,es,ep,ho,hd,hk,_,hm⟩:=n
 refine⟨o,ho,fun name=>?_⟩
 have e:=hm name
 unfold nsFind findBy at e
 rw[<- Array.find?_toList]at e
 unfold W.lookIn
 rw[hd]
 dsimp only
 split
 .rename_i y q
  rw[q]at e
  exact congrArg some e
 .rename_i q
  rw[q]at e
  have a:es.toList.any (·.refKey)=false:=by
   rw[List.any_eq_false]
   intro y hy
   obtain⟨z,t,hkey⟩:=hk y (Array.mem_toList_iff.mp hy)
   simp[DictEntry.refKey,hkey]
  have a':¬es.toList.any (·.refKey)=true:=by rw[a];exact aq
  rw[if_neg a']
  exact congrArg some e
theorem ObjM.look {h:Heap} {x dx C:Addr} {mA:Str->Option Value} (I:ObjM h x dx C mA):∃od,W.InstAt h x (W.instObj C dx) C (some od)/\∀name,W.lookIn name od=some (mA name):=
 let⟨od,ho,hl⟩:=im' I.ns
 ⟨od,⟨I.obj,rfl,rfl,ho⟩,hl⟩
section
variable {prog:Program} {w:World} {A:Around} {E:Value->Shared->Prop} {s:Shared} {K:W.Frag} {x dx C f:Addr} {mA:Str->Option Value} {name:Str} {v:Value}
end
section
variable {P:Program} {w:World} {H H':Hp} {h h':Heap} {a C dx:Addr} {fs fs':List (Str×V)}
theorem nD' (hok:HOk P w H h) (e:H a=some (.ins C dx fs)):∃mA,ObjM h a dx C mA/\(∀f,kv' (fs.lookup f) (mA f))/\PySem.Within mA (fs.map (·.1))/\fs.length<=1000/\H dx=some (.own a):=by
 obtain⟨d,z,ne,ob,mA,n,r,q⟩:=(show aJ' P w H h a (.ins C dx fs) from hok a _ e)
 exact⟨mA,⟨ob,n,ne⟩,r,q,z,d⟩
end
structure Cls (K:W.Frag) (C:Addr):Prop where
 pg:W.plainGet K C Str.empty=true
 hd:W.hasDictIn K C=true
 po:W.plainOver K C=true
 sa:W.findIn K (.ref C) "__setattr__"=some (some (.builtin "object.__setattr__"))
theorem Cls.get {K:W.Frag} {C:Addr} (c:Cls K C) (f:Str):W.plainGet K C f=true:=c.pg
structure Con (K:W.Frag) (C:Addr) (f:Str) (v:V) (u:Value):Prop where
 at_:W.findIn K (.ref C) f=some (some u)
 rel:aH' v u
 get:W.specialIn K u "__get__"=some none
 cp:W.copiedNames.contains f=false
structure Meth (K:W.Frag) (C:Addr) (m:Str) (f:Addr):Prop where
 at_:W.findIn K (.ref C) m=some (some (.ref f))
 fn:W.isFn K (.ref f)=true
 kp:W.keepIn K (.ref f)=true
section
variable {X:Cx} {pins:List (Addr×Obj)} {σ:St} {H:Hp} {s:Shared} {a C dx:Addr} {fs:List (Str×V)} {f:Str} {v:V} {A:Around} {E:Value->Shared->Prop}
end
section
variable {X:Cx} {o e value:Expr} {f:Str} {pos pos' tpos:Pos} {ta tv:TE}
end
section
variable {X:Cx} {pins:List (Addr×Obj)} {σ:St} {H:Hp} {s:Shared} {A:Around} {E:Value->Shared->Prop} {Q:Value->Shared->Prop} {c:Value} {b:Bool}
inductive TyOf (K:W.Frag) (H:Hp):V->Value->Prop where
 |non:TyOf K H .non (.type "NoneType")
 |bl (x:Bool):TyOf K H (.bl x) (.type "bool")
 |int (i:Int):TyOf K H (.int i) (.type "int")
 |str (x:Str):TyOf K H (.str x) (.type "str")
 |flt (x:UInt64):TyOf K H (.flt x) (.type "float")
 |lst {a:Addr} {xs:List V} (e:H a=some (.lst xs)):TyOf K H (.ref a) (.type "list")
 |frz {a:Addr} {o:Obj} {xs:List V} (e:H a=some (.frz o (.lst xs))):TyOf K H (.ref a) (.type "list")
 |tup {a:Addr} {xs:List V} (e:H a=some (.tup xs)):TyOf K H (.ref a) (.type "tuple")
 |dK {a:Addr} {kvs:List (Key×V)} (e:H a=some (.dK kvs)):TyOf K H (.ref a) (.type "dict")
 |dT {a:Addr} {kvs:List (List Key×V)} (e:H a=some (.dT kvs)):TyOf K H (.ref a) (.type "dict")
 |ins {a C dx:Addr} {fs:List (Str×V)} (e:H a=some (.ins C dx fs)) (cl:Cls K C) (ha:W.findIn K (.ref C) "__class__"=some (some (.builtin "object.__class__")))
   (hn:W.specialIn K (.builtin "object.__class__") "__get__"=some (some (.builtin "getset_descriptor.__get__"))) (htk:W.takesIn K (.builtin "object.__class__")=some true)
   (hm:W.mroIn K C (.type "object")=some true):TyOf K H (.ref a) (.ref C)
theorem in' {x:V} {u t:Value} (I:Inv X pins σ H s) (rx:aH' x u) (ty:TyOf X.K H x t) (e:W.kitOne X.K t c=some b) (h:∀tk,Q (.bool b) { s with toks:=tk }):
  wpAny (model X.prog X.w) A (call (.builtin "isinstance") [u,c]) Q E s:=by
 cases ty with
 |non=>cases(show u=Value.none from rx);exact W.kia_one W.kitx_none I.kIn True.intro e (fun z=>nomatch z) h
 |bl y=>cases(show u=Value.bool y from rx);exact W.kia_one W.kitx_bool I.kIn True.intro e (fun z=>nomatch z) h
 |int i=>obtain⟨t,q⟩:=(show ∃t,u=Value.int i t from rx);cases q;exact W.kia_one W.kitx_int I.kIn True.intro e (fun z=>nomatch z) h
 |str y=>obtain⟨t,q⟩:=(show ∃t,u=Value.str y t from rx);cases q;exact W.kia_one W.kitx_str I.kIn True.intro e (fun z=>nomatch z) h
 |flt y=>obtain⟨t,q⟩:=(show ∃t,u=Value.float y t from rx);cases q;exact W.kia_one W.kitx_float I.kIn True.intro e (fun z=>nomatch z) h
 | @lst a xs ea=>
  cases(show u=Value.ref a from rx)
  obtain⟨_,_,n,_,h1⟩:=(show aJ' X.prog X.w H s.heap a (.lst xs) from I.hok a _ ea)
  exact W.kia_one W.kitx_list I.kIn ⟨_,h1,rfl⟩ e (fun z=>nomatch z) h
 | @frz a ob xs ea=>
  cases(show u=Value.ref a from rx)
  obtain⟨_,_,_,n,_,h1⟩:=(show aJ' X.prog X.w H s.heap a (.frz ob (.lst xs)) from I.hok a _ ea)
  exact W.kia_one W.kitx_list I.kIn ⟨_,h1,rfl⟩ e (fun z=>nomatch z) h
 | @tup a xs ea=>
  cases(show u=Value.ref a from rx)
  obtain⟨_,_,_,p⟩:=(show aJ' X.prog X.w H s.heap a (.tup xs) from I.hok a _ ea)
  obtain⟨o,h1,h2,_⟩:=p
  exact W.kia_one W.kitx_tuple I.kIn ⟨o,h1,h2⟩ e (fun z=>nomatch z) h
 | @dK a kvs ea=>
  cases(show u=Value.ref a from rx)
  obtain⟨_,_,vs,_,p⟩:=(show aJ' X.prog X.w H s.heap a (.dK kvs) from I.hok a _ ea)
  obtain⟨o,es,ep,h1,h2,_⟩:=p
  exact W.kia_one W.kitx_dict I.kIn ⟨o,h1,h2.1⟩ e (fun z=>nomatch z) h
 | @dT a kvs ea=>
  cases(show u=Value.ref a from rx)
  obtain⟨_,_,xs,_,o,es,ep,h1,h2,_⟩:=(show aJ' X.prog X.w H s.heap a (.dT kvs) from I.hok a _ ea)
  exact W.kia_one W.kitx_dict I.kIn ⟨o,h1,h2.1⟩ e (fun z=>nomatch z) h
 | @ins a C dx fs ea cl ha hn htk hm=>
  cases(show u=Value.ref a from rx)
  obtain⟨mA,O,_⟩:=nD' I.hok ea
  obtain⟨od,J,_⟩:=O.look
  exact W.kia_one (W.kitx_own (cl.get _) cl.hd ha hn htk hm) I.kIn J e (fun z=>nomatch z) h
end
structure Room (k:Nat) (A:Around):Prop where
 hd:A.handled=none
 dp:A.depth+3*k+5<recursionLimit
 un:A.units+16*k+200<cLine
 gd:A.guards=some []
theorem Room.mono {j k:Nat} {A:Around} (r:Room k A) (h:j<=k):Room j A:=⟨r.hd,by have:=r.dp;omega,by have:=r.un;omega,r.gd⟩
theorem Room.deeper {k:Nat} {A:Around} (r:Room (k+1) A) (env:Env):Room k (A.deeper env):=
 ⟨r.hd,by have:=r.dp;show A.depth+1+3*k+5<_;omega,by have:=r.un;show A.units+3+16*k+200<_;omega,r.gd⟩
theorem Room.depth {k:Nat} {A:Around} (r:Room k A):A.depth<recursionLimit:=by have:=r.dp;omega
theorem Room.units {k:Nat} {A:Around} (r:Room k A):A.units+64<cLine:=by have:=r.un;omega
def gp':TA:=fun _ H Q=>Q [] H
def b3' (ta:TE) (tr:TA):TA:=fun σ H Q=>ta σ H fun x H1=>tr σ H1 fun xs H2=>Q (x :: xs) H2
section
variable {X:Cx} {e:Expr} {es:List Expr} {te:TE} {t:TA} {pos:Pos}
theorem d8':PA X [] gp':=fun _ _ _ _ H Q I h=>Calls.spliced_nil ⟨[],H,I,.nil,h⟩
theorem b7' (ha:PE X e te) (hr:PA X es t) (hs:starEach (e :: es) X.env=(false,eval e X.env) :: starEach es X.env:=by rfl):PA X (e :: es) (b3' te t):=by
 intro pos pins s σ H Q I h
 rw[hs]
 show wpAny _ _ (spliced ((false,eval e X.env) :: backTo pos (starEach es X.env))) _ _ s
 refine Calls.spliced_cons (thn (ha pins s σ H _ I h) fun u s1 ⟨x,H1,I1,r1,q1⟩=>?_)
 exact thn (hr pos pins s1 σ H1 _ I1 q1) fun us s2 ⟨xs,H2,I2,r2,q2⟩=>⟨x :: xs,H2,I2,.cons r1 r2,q2⟩
def t0' (t:TA):TE:=fun σ H Q=>t σ H fun xs H1=>xs.length<=sizeLine/\∀p,H1 p=none->Q (.ref p) (upd H1 p (.tup xs))
def t1' (t:TA):TE:=fun σ H Q=>t σ H fun xs H1=>xs.length<=sizeLine/\∀p,H1 p=none->Q (.ref p) (upd H1 p (.lst xs))
theorem p6' {x1} (h:PA X es t):PE X (.Tuple es x1 pos) (t0' t):=by
 intro pins s σ H Q I hq
 refine wpAny_Tuple_spliced (thn (h pos pins s σ H _ I hq) fun us s1 ⟨xs,H1,I1,r,z,q⟩=>⟨by rw[<- r.length];exact z,?_⟩)
 have hf:H1 s1.heap.objs.size=none:=I1.hok.fresh (ak _)
 refine⟨.ref s1.heap.objs.size,upd H1 s1.heap.objs.size (.tup xs),I1.laid (t':=s1.toks) (fun b u e=>ab _ e) (ak _) ?_,rfl,q _ hf⟩
 exact⟨z,us,r,⟨_,av _ rfl,rfl,⟨_,rfl⟩,rfl⟩⟩
theorem p7' (h:PA X es t):PE X (.List es pos) (t1' t):=by
 intro pins s σ H Q I hq
 refine wpAny_List_spliced (thn (h pos pins s σ H _ I hq) fun us s1 ⟨xs,H1,I1,r,z,q⟩=>⟨by rw[<- r.length];exact z,?_⟩)
 have hf:H1 s1.heap.objs.size=none:=I1.hok.fresh (ak _)
 refine⟨.ref s1.heap.objs.size,upd H1 s1.heap.objs.size (.lst xs),I1.laid (t':=s1.toks) (fun b u e=>ab _ e) (ak _) ?_,rfl,q _ hf⟩
 exact⟨z,us,0,r,av _ rfl⟩
end
abbrev Sp:=List V->Hp->VK->XK->Prop
abbrev CXT:=List Env->Hp->Shared->XK->Value->Shared->Prop
structure Env0 (P:Program) (w:World) (K:W.Frag) (mg:Str->Option Value) (base:Heap) (A:Around) (outer:List Env) (s:Shared) (H:Hp):Prop where
 frames:A.frames=some outer
 mod:Mod K mg base
 bs:∀b o,base.get? b=some o->s.heap.get? b=some o/\H b=none
 bsz:base.objs.size<=s.heap.objs.size
 funs:s.heap.FunFrames base outer
 frf:∀b∈frs outer,H b=none
 hok:HOk P w H s.heap
 bare:AllBare s.gens
def CE (outer:List Env) (P:Program) (w:World) (H:Hp) (s:Shared) (Q:VK) (u:Value) (s':Shared):Prop:=
 ∃v H',s'.os=s.os/\AllBare s'.gens/\Un (frs outer) [] H H' s.heap s'.heap/\HOk P w H' s'.heap/\aH' v u/\Q v H'
def CR (CX:CXT) (outer:List Env) (P:Program) (w:World) (H:Hp) (s:Shared) (Q:VK) (E:XK) (r:Result) (s':Shared):Prop:=
 match r with
 | .ok (.ret u)=>CE outer P w H s Q u s'
 | .ok _=>False
 | .error e=>CX outer H s E e s'
structure FnOk (P:Program) (w:World) (K:W.Frag) (mg:Str->Option Value) (base:Heap) (CX:CXT) (k:Nat) (f:Addr) (fd:FuncData) (ps:List Str) (sp:Sp):Prop where
 len:∀vs H Q E,sp vs H Q E->vs.length=ps.length
 run:∀(A:Around) (outer:List Env) (s:Shared) (H:Hp) (args:Args) (us:List Value) (vs:List V) (Q:VK) (E:XK),Room k A->Env0 P w K mg base A outer s H->BindsTo s fd args (ps.zip us)->ay' vs us->sp vs H Q E->
  codeAny (model P w) A (.call (.ref f) args) (CR CX outer P w H s Q E) s
theorem FnOk.mono {P:Program} {w:World} {K:W.Frag} {mg:Str->Option Value} {base:Heap} {CX:CXT} {j k:Nat} {f:Addr} {fd:FuncData} {ps:List Str} {sp:Sp} (F:FnOk P w K mg base CX j f fd ps sp) (h:j<=k):
  FnOk P w K mg base CX k f fd ps sp:=⟨F.len,fun A outer s H args us vs Q E hr=>F.run A outer s H args us vs Q E (hr.mono h)⟩
section
variable {X:Cx} {pins:List (Addr×Obj)} {σ:St} {H:Hp} {s s':Shared}
theorem Inv.env0 (I:Inv X pins σ H s):Env0 X.prog X.w X.K X.mg X.base X.A X.stack s H:=
 ⟨I.ok.frames,I.ok.mod,I.bs,au I.ok.bsz I.sz,I.stack,I.stkFree,I.hok,I.bare⟩
theorem Inv.after {Q:VK} {u:Value} (I:Inv X pins σ H s) (h:CE X.stack X.prog X.w H s Q u s'):EP X pins σ Q u s':=by
 obtain⟨v,H',os,bare,un,hok,r,q⟩:=h
 obtain⟨hh,g,d,t,os'⟩:=s'
 obtain rfl:os'=s.os:=os
 exact⟨v,H',I.call (h':=hh) (g':=g) (d':=d) (t':=t) (ch:=[]) un hok bare (fun b z=>absurd z (by simp)),r,q⟩
end
def kL' (sp:Sp) (dvs:List V) (E:XK) (t:TA):TE:=fun σ H Q=>t σ H fun vs H1=>sp (vs++dvs) H1 Q E
def dZ' (K:W.Frag) (fd:FuncData) (ps:List Str) (ds:List Value):Prop:=
 ∀(s:Shared) (us:List Value),K.In s.heap->(us++ds).length=ps.length->BindsTo s fd ⟨us,[]⟩ (ps.zip (us++ds))
theorem dZ'.all {K:W.Frag} {fd:FuncData} {ps:List Str} (h:∀us:List Value,us.length=ps.length->bindArgs fd ⟨us,[]⟩=pure (ps.zip us)):dZ' K fd ps []:=fun s us _ hl=>by
 rw[List.append_nil]at hl ⊢
 exact .of_eq (h us hl)
section
variable {X:Cx} {CX:CXT} {k:Nat} {f C:Addr} {fd:FuncData} {ps:List Str} {sp:Sp} {dvs:List V} {ds:List Value} {E:XK} {x m:Str} {p pos apos:Pos} {e o:Expr} {es:List Expr} {ta:TE} {t:TA}
structure Mk (K:W.Frag) (C f:Addr):Prop where
 makes:W.makesIn K C=true
 init:W.findIn K (.ref C) "__init__"=some (some (.ref f))
 fn:W.isFn K (.ref f)=true
 kp:W.keepIn K (.ref C)=true
end
section
variable {X:Cx} {CX:CXT} {k:Nat} {f C:Addr} {fd:FuncData} {ps ks:List Str} {sp:Sp} {E:XK} {x m:Str} {p pos apos kpos:Pos} {e o:Expr} {es:List Expr} {kws:List Keyword} {te ta:TE} {t tk:TA} {nm:Option Str}
structure KBinds (K:W.Frag) (fd:FuncData) (ps ks:List Str) (g:List Value->List Value->List Value) (gV:List V->List V->List V):Prop where
 to:∀(s:Shared) (us ws:List Value),K.In s.heap->(g us ws).length=ps.length->BindsTo s fd ⟨us,ks.zip ws⟩ (ps.zip (g us ws))
 rel:∀{vs:List V} {us:List Value} {zs:List V} {ws:List Value},ay' vs us->ay' zs ws->ay' (gV vs zs) (g us ws)
variable {g:List Value->List Value->List Value} {gV:List V->List V->List V}
end
structure FnScope (N P:List Str) (sc:Scope):Prop where
 kind:sc.kind=.function
 co:sc.isCoroutine=false
 gen:sc.isGenerator=false
 nd:N.Nodup
 pre:N.take P.length=P
 par:∀x∈P,sc.names.lookup x=some .local\/sc.names.lookup x=some .cell
 nofree:∀y∈sc.names,y.2≠.free
theorem e1' {kindOf:Str->Option NameKind} {x:Str}:∀{binds:List (Str×Value)} {m:Str->Option Value},(∀v,(x,v)∉binds)->bindL kindOf binds m x=m x
 | [],_,_=>rfl
 |(n,v) :: r,m,h=>by
  unfold bindL
  rw[e1' fun w hw=>h w (az _ hw)]
  split
  .have:x≠n:=by rintro rfl;exact h v aJ
   simp[this]
  .rfl
theorem e3' {kindOf:Str->Option NameKind} {x:Str}:∀{binds:List (Str×Value)} {m:Str->Option Value},(∀v,(x,v)∉binds)->bindC kindOf binds m x=m x
 | [],_,_=>rfl
 |(n,v) :: r,m,h=>by
  unfold bindC
  rw[e3' fun w hw=>h w (az _ hw)]
  split
  .rfl
  .have:x≠n:=by rintro rfl;exact h v aJ
   simp[this]
theorem e4' {kindOf:Str->Option NameKind} {x:Str} {v:Value}:∀{P:List Str} {vs:List Value} {i:Nat} {m:Str->Option Value},P.Nodup->P[i]?=some x->vs[i]?=some v->kindOf x=some .local->
  bindL kindOf (P.zip vs) m x=some v
 | [],_,_,_,_,h,_,_=>by simp at h
 |_ :: _,[],_,_,_,_,h,_=>by simp at h
 |p :: P,w :: vs,0,m,nd,h1,h2,hk=>by
  simp at h1 h2;subst h1;subst h2
  show bindL kindOf ((p,w) :: P.zip vs) m p=_
  unfold bindL
  rw[e1' fun v hv=>(cu.mp nd).1 (List.of_mem_zip hv).1,if_pos hk]
  simp
 |p :: P,w :: vs,i+1,m,nd,h1,h2,hk=>by
  show bindL kindOf ((p,w) :: P.zip vs) m x=_
  unfold bindL
  exact e4' (i:=i) (cu.mp nd).2 (by simpa using h1) (by simpa using h2) hk
theorem e5' {kindOf:Str->Option NameKind} {x:Str} {v:Value}:∀{P:List Str} {vs:List Value} {i:Nat} {m:Str->Option Value},P.Nodup->P[i]?=some x->vs[i]?=some v->kindOf x≠some .local->
  bindC kindOf (P.zip vs) m x=some v
 | [],_,_,_,_,h,_,_=>by simp at h
 |_ :: _,[],_,_,_,_,h,_=>by simp at h
 |p :: P,w :: vs,0,m,nd,h1,h2,hk=>by
  simp at h1 h2;subst h1;subst h2
  show bindC kindOf ((p,w) :: P.zip vs) m p=_
  unfold bindC
  rw[e3' fun v hv=>(cu.mp nd).1 (List.of_mem_zip hv).1,if_neg hk]
  simp
 |p :: P,w :: vs,i+1,m,nd,h1,h2,hk=>by
  show bindC kindOf ((p,w) :: P.zip vs) m x=_
  unfold bindC
  exact e5' (i:=i) (cu.mp nd).2 (by simpa using h1) (by simpa using h2) hk
def ax' (N:List Str) (vs:List V):St:=vs.map some++aK (N.length-vs.length) none
def pA' (CX:CXT) (P:Program) (w:World) (K:W.Frag) (mg:Str->Option Value) (base:Heap) (N:List Str) (qual:Str) (scope:Scope) (f:Addr) (cd:Value) (A:Around) (outer:List Env) (s:Shared) (H:Hp) (E:XK):Cx where
 prog:=P
 w:=w
 K:=K
 mg:=mg
 base:=base
 A:=A.deeper (envOfC qual scope s.heap.objs.size f cd)
 N:=N
 s₀:=s
 H₀:=H
 env:=envOfC qual scope s.heap.objs.size f cd
 outer:=outer
 stack:=envOfC qual scope s.heap.objs.size f cd :: outer
 ex:=[]
 calm:=true
 fn:=fun _=>true
 pn:=[]
 xe:=fun e s'=>wpAny (model P w) (A.deeper (envOfC qual scope s.heap.objs.size f cd)) (leaving (envOfC qual scope s.heap.objs.size f cd) e) (fun _ s''=>CX outer H s E e s'') (fun e' s''=>CX outer H s E e' s'') s'
theorem et' {sc:Scope} {n:Nat} {x:Str} (h:sc.names.lookup x=some .cell):∃c,(cellsFrom n sc.names []).lookup x=some c:=by
 have q:=W.cellsFrom_some sc.names n [] (.inl h)
 exact Option.isSome_iff_exists.mp q
theorem io' {CX:CXT} {P:Program} {w:World} {K:W.Frag} {mg:Str->Option Value} {base:Heap} {N ps:List Str} {qual:Str} {scope:Scope} {f:Addr} {cd:Value} {A:Around} {outer:List Env} {s s1:Shared} {H:Hp} {E:XK} {us:List Value} {vs:List V}
  (S:FnScope N ps scope) (hd:A.handled=none) (e0:Env0 P w K mg base A outer s H) (hl:vs.length=ps.length) (r:ay' vs us)
  (x:InCallC s s.heap.objs.size (bindL (envOfC qual scope s.heap.objs.size f cd).kindOf (ps.zip us) fun _=>none) (cellsFrom (s.heap.objs.size+1) scope.names []) (bindC (envOfC qual scope s.heap.objs.size f cd).kindOf (ps.zip us) fun _=>none) s1):
  Inv (pA' CX P w K mg base N qual scope f cd A outer s H E) [] (ax' N vs) H s1:=by
 have hpl:ps.length<=N.length:=by have:=congrArg List.length S.pre;rw[bq]at this;omega
 obtain⟨h1,tk,rfl,hk⟩:=x.done
 have noA:∀b:Addr,b∉(pA' CX P w K mg base N qual scope f cd A outer s H E).ex:=fun b z=>absurd (show b∈([]:List Addr) from z) (by simp)
 refine⟨⟨e0.mod,S.kind,rfl,rfl,ak _,fun y z c h1 h2=>?_,fun y hy=>?_,fun y c _ h=>?_,fun _=>hd,Around.frames_deeper e0.frames,.inr ⟨rfl,rfl⟩,fun b z=>absurd z (noA b),e0.bs,e0.bsz,fun b _ _=>noA b,fun b z=>absurd z (noA b),e0.funs,e0.frf⟩,
  rfl,e0.bare,Un.kept hk,⟨_,x.toInCall.ns,fun i y v h1 h2 h3=>?_⟩,fun y c h=>⟨_,x.cell y c h⟩,e0.hok.fresh (ak _),fun y c h=>?_,fun p hp=>absurd (show p∈([]:List (Addr×Obj)) from hp) (by simp),e0.hok.kept hk,?_⟩
 .exact name_of_addr x.apart (PySem.mem_of_lookup h1) (PySem.mem_of_lookup h2)
 .have hy:scope.names.lookup y=some .cell\/scope.names.lookup y=some .free:=hy
  rcases hy with hy|hy
  .exact et' hy
  .exact absurd rfl (S.nofree _ (PySem.mem_of_lookup hy))
 .exact cr (x.above y c (PySem.mem_of_lookup h))
 .have hi:i<vs.length:=by
   unfold ax' at h2
   by_cases hi:i<vs.length
   .exact hi
   .rw[List.getElem?_append_right (by simpa using hi)]at h2
    rw[List.getElem?_replicate]at h2
    split at h2<;>cases h2
  have ha:vs[i]?=some v:=by
   unfold ax' at h2
   rw[List.getElem?_append_left (by simpa using hi),aD]at h2
   cases e:vs[i]? with
   |none=>rw[e]at h2;cases h2
   |some a=>rw[e]at h2;cases h2;rfl
  obtain⟨u,hu,rv⟩:=r.get ha
  have hp:ps[i]?=some y:=by
   rw[<- S.pre,List.getElem?_take_of_lt (by omega)];exact h1
  have ndP:ps.Nodup:=by rw[<- S.pre];exact S.nd.sublist (List.take_sublist _ _)
  refine⟨u,rv,?_⟩
  rcases S.par y (aX hp)with k|k
  .exact .inl ⟨k,e4' ndP hp hu k⟩
  .obtain⟨c,e⟩:=et' (n:=s.heap.objs.size+1) k
   refine .inr ⟨.inl k,c,e,?_⟩
   have q:=x.cell y c e
   rw[e5' ndP hp hu (by show scope.names.lookup y≠_;rw[k];decide)]at q
   exact q
 .exact e0.hok.fresh (cr (x.above y c (PySem.mem_of_lookup h)))
 .unfold ax'
  show _=N.length
  rw[aN,ah,List.length_replicate]
  omega
theorem t2' {CX:CXT} {P:Program} {w:World} {K:W.Frag} {mg:Str->Option Value} {base:Heap} {k:Nat} {f:Addr} {name qual:Str} {params:Arguments} {body:List Stmt} {scope:Scope} {dV kV doc pm cdv ct oc:Value} {an od:Option Addr}
  {osl:Array (Option Value)} {N ps:List Str} {sp:Sp} (lk:K.lookup f=some ⟨oc,od,.func (W.fnOf name qual params body scope dV kV doc pm an cdv ct),osl⟩) (hcd:W.codeIn K cdv qual=true) (S:FnScope N ps scope)
  (len:∀vs H Q E,sp vs H Q E->vs.length=ps.length)
  (hbody:∀(A:Around) (outer:List Env) (s:Shared) (H:Hp) (vs:List V) (Q:VK) (E:XK),Room k (A.deeper (envOfC qual scope s.heap.objs.size f cdv))->sp vs H Q E->
   ∃t,PSs (pA' CX P w K mg base N qual scope f cdv A outer s H E) body t/\t { nx:=fun _ H'=>Q .non H',rt:=Q } (ax' N vs) H):
  FnOk P w K mg base CX (k+1) f (W.fnOf name qual params body scope dV kV doc pm an cdv ct) ps sp:=by
 refine⟨len,fun A outer s H args us vs Q E hr e0 hb r hsp=>?_⟩
 have hl:=len _ _ _ _ hsp
 have KX:K.In s.heap:=e0.mod.kin.keeps fun b o e=>(e0.bs b o e).1
 have lim:s.heap.NoLimit:=e0.mod.nolimit.keeps fun b o e=>(e0.bs b o e).1
 have hkind:∀y∈ps.zip us,scope.names.lookup y.1=some .local\/(scope.names.lookup y.1=some .cell/\((cellsFrom (s.heap.objs.size+1) scope.names []).lookup y.1).isSome=true):=fun⟨n,v⟩ hy=>by
  rcases S.par n (List.of_mem_zip hy).1 with q|q
  .exact .inl q
  .exact .inr ⟨q,W.cellsFrom_some _ _ _ (.inl q)⟩
 refine codeAny_call_function hr.depth (KX _ _ lk) rfl S.co S.gen rfl (W.codeRec_of KX hcd) (hb _ _ _ _ ?_)
 refine wpAny_newFunctionEnv_cells S.kind hkind fun env he s1 x=>?_
 subst he
 refine⟨lim.keeps x.toInCall.keep,codeAny_func ?_⟩
 obtain⟨t,ht,hq⟩:=hbody A outer s H vs Q E (hr.deeper _) hsp
 have I:Inv (pA' CX P w K mg base N qual scope f cdv A outer s H E) [] (ax' N vs) H s1:=io' S hr.hd e0 hl r x
 refine wpAny_mono (ht [] s1 (ax' N vs) H _ I hq) (fun fl s' hs=>?_) fun e s' hs=>hs
 have fin:∀{σ':St} {H':Hp} {v:V} {u:Value},Inv (pA' CX P w K mg base N qual scope f cdv A outer s H E) [] σ' H' s'->aH' v u->Q v H'->CE outer P w H s Q u s':=
  fun {σ' H' v u} J rv q=>⟨v,H',J.os,J.bare,J.base,J.hok,rv,q⟩
 cases fl with
 |ret u=>
  obtain⟨v,σ',H',J,rv,q⟩:=hs
  exact fin J rv q
 |next=>
  obtain⟨σ',H',J,q⟩:=hs
  exact fin (v:=V.non) (u:=Value.none) J rfl q
 |brk=>
  obtain⟨_,_,_,q⟩:=hs
  exact False.elim q
 |cont=>
  obtain⟨_,_,_,q⟩:=hs
  exact False.elim q
section
variable {X:Cx} {x:Str} {p pos:Pos} {e:Expr} {es:List Expr} {t:TA} {id T:String} {r:List V->Hp->VK->Prop}
def tCB (r:List V->Hp->VK->Prop) (t:TA):TE:=fun σ H Q=>t σ H fun vs H1=>r vs H1 Q
theorem kM' (hc:aN' X (.builtin id) r) (hg:Gl X x) (hm:X.mg x=none) (hv:bootBuiltins x=some (.builtin id)) (ha:PA X (e :: es) t) (hn:x≠"__name__":=by decide) (hdb:(x == ("__debug__":Str))=false:=by decide)
  (he:starEach (e :: es) X.env=(false,eval e X.env) :: starEach es X.env:=by rfl) (hpl:(backTo pos (starEach es X.env)).any (·.1)=false:=by rfl):PE X (.Call (.Name x p) (e :: es) [] pos) (tCB r t):=by
 intro pins s σ H Q I h
 refine wpAny_Call_Name_kw (dn' I hg hm hv ?_ hn hdb)
 exact PyProof.Rows.callWith_builtin1 (thn (ha pos pins s σ H _ I h) fun us s1 ⟨vs,H1,I1,r1,q1⟩=>hc pins s1 σ H1 vs us Q I1 r1 q1) he hpl
theorem ip' (hc:aN' X (.type T) r) (hg:Gl X x) (hm:X.mg x=none) (hv:bootBuiltins x=some (.type T)) (ha:PA X (e :: es) t) (hn:x≠"__name__":=by decide) (hdb:(x == ("__debug__":Str))=false:=by decide)
  (he:starEach (e :: es) X.env=(false,eval e X.env) :: starEach es X.env:=by rfl) (hpl:(backTo pos (starEach es X.env)).any (·.1)=false:=by rfl):PE X (.Call (.Name x p) (e :: es) [] pos) (tCB r t):=by
 intro pins s σ H Q I h
 refine wpAny_Call_Name_kw (dn' I hg hm hv ?_ hn hdb)
 exact PyProof.Rows.callWith_type1 (thn (ha pos pins s σ H _ I h) fun us s1 ⟨vs,H1,I1,r1,q1⟩=>hc pins s1 σ H1 vs us Q I1 r1 q1) he hpl
end
end L2
namespace HT
open PySem PyProof.Rows
section
open PySem.SeqAt
open PySem.AutoSeq1 (wpAny_loadPart')
open PySem.MeetsSeq PySem.MeetsSeq2 PySem.MeetsSeq3
end
section
variable {prog:Program} {w:World} {A:Around} {E:Value->Shared->Prop} {s:Shared}
theorem nE' {t b:Addr} {vs ws:List Value} {Q:Value->Shared->Prop} (ht:IsTup s.heap t vs.toArray) (hb:IsTup s.heap b ws.toArray) (hv:vs≠[])
  (h1:ws=[]->Q (.ref t) s) (h2:ws≠[]->Q (.ref s.heap.objs.size) { s with heap:=s.heap.push { cls:=.type "tuple",data:=.seq (vs++ws).toArray } })
  (hsz:vs.length+ws.length<=sizeLine):wpAny (model prog w) A (binaryOp .Add (.ref t) (.ref b)) Q E s:=by
 obtain⟨⟨cls,dd,data,sl⟩,ho,hc,n,hd⟩:=id ht
 obtain⟨⟨cls2,dd2,data2,sl2⟩,ho2,hc2,n2,hd2⟩:=id hb
 simp only at hc hd hc2 hd2
 subst hc hd hc2 hd2
 have e:vs.toArray++ws.toArray=(vs++ws).toArray:=by simp
 by_cases hw:ws=[]
 .exact concat_meets ⟨_,ho,rfl⟩ ⟨_,ho2,rfl⟩ noFill_tuple_add seq_tuple_add PySem.F.slot_tuple_add PySem.F.entry_tuple_add (PySem.F.args_tuple_add_2 _ _)
   (tuple_addW1 t b vs.toArray ws.toArray n n2 dd dd2 sl sl2 (by simpa using hv) (by simp[hw])) ⟨ho,ho2,h1 hw⟩
 .refine concat_meets ⟨_,ho,rfl⟩ ⟨_,ho2,rfl⟩ noFill_tuple_add seq_tuple_add PySem.F.slot_tuple_add PySem.F.entry_tuple_add (PySem.F.args_tuple_add_2 _ _)
   (tuple_addW2 t b vs.toArray ws.toArray n n2 dd dd2 sl sl2 (by simpa using hv) (by simpa using hw) (by rw[aj,aj];exact hsz)) ⟨ho,ho2,?_⟩
  rw[e]
  exact h2 hw
def sIx (n d:Nat):Option Int->Nat
 |none=>d
 |some v=>if v<0 then(v+(n:Int)).toNat else min v.toNat n
theorem gq' (n d:Nat):sIx n d none=d:=rfl
theorem iq' (n d k:Nat):sIx n d (some (k:Int))=min k n:=by
 show(if(k:Int)<0 then((k:Int)+(n:Int)).toNat else min (k:Int).toNat n)=min k n
 rw[if_neg (by omega),aT]
theorem p8' (n d:Nat) (hd:d<=n) (o:Option Int):sIx n d o<=n:=by
 cases o with
 |none=>exact hd
 |some v=>
  show(if v<0 then(v+(n:Int)).toNat else min v.toNat n)<=n
  by_cases hv:v<0
  .rw[if_pos hv];omega
  .rw[if_neg hv];exact Nat.min_le_right _ _
theorem ir' (v:Int) (n d:Nat):(if v<0 then max (v+(n:Int)) 0 else min v (n:Int))=((sIx n d (some v):Nat):Int):=by
 show(if v<0 then max (v+(n:Int)) 0 else min v (n:Int))=(((if v<0 then(v+(n:Int)).toNat else min v.toNat n):Nat):Int)
 by_cases hv:v<0
 .simp only[if_pos hv];omega
 .simp only[if_neg hv];omega
theorem g8' (lo hi:Option Int) (n:Nat):Builtin.Slice.sliceAdjust lo hi 1 (n:Int)=(((sIx n 0 lo:Nat):Int),((sIx n n hi:Nat):Int)):=by
 have h1:¬((1:Int)<0):=by omega
 unfold Builtin.Slice.sliceAdjust
 simp only[h1,if_false]
 refine Prod.ext ?_ ?_
 .cases lo with
  |none=>rfl
  |some v=>exact ir' v n 0
 .cases hi with
  |none=>rfl
  |some v=>exact ir' v n n
theorem g9' (i j:Nat):Builtin.Slice.slicePlaces (i:Int) (j:Int) 1=j-i:=by
 unfold Builtin.Slice.slicePlaces
 have h1:(1:Int) > 0:=by omega
 simp only[h1,if_true,Int.ediv_one]
 split<;>omega
theorem d9' {v:Value} {o:Option Int} {Q:Option Int->Shared->Prop} (p:IsPart v o) (h:Q o s):wpAny (model prog w) A (Builtin.Slice.slicePartIndex v) Q E s:=by
 cases p with
 |none=>exact slicePart_none h
 |int i t=>exact slicePart_int h
theorem cm' {sl:Addr} {vl vu:Value} {lo hi:Option Int} {n:Nat} {Q:Int×Int×Nat->Shared->Prop} (hs:s.heap.IsSliceOf sl vl vu .none) (pl:IsPart vl lo) (pu:IsPart vu hi)
  (h:Q (((sIx n 0 lo:Nat):Int),1,sIx n n hi-sIx n 0 lo) s):wpAny (model prog w) A (Builtin.Slice.sliceApplied (.ref sl) (pure (n:Int))) Q E s:=by
 obtain⟨os,hos,hcs,hds⟩:=id hs
 unfold Builtin.Slice.sliceApplied Builtin.Slice.sliceFields
 refine aa (aa (aY hos hds (x:=vl) rfl (aa (aY hos hds (x:=vu) rfl (aa (aY hos hds (x:=.none) rfl (ap ?_)))))))
 refine aa (slicePart_none ?_)
 show wpAny _ _ (if((1:Int) == 0)=true then _ else _) _ _ s
 rw[if_neg (by decide)]
 refine aa (d9' pl (aa (d9' pu (aa (ap ?_)))))
 show wpAny _ _ (match Builtin.Slice.sliceAdjust lo hi 1 (n:Int)with|(lo,hi)=>pure (lo,(1:Int),Builtin.Slice.slicePlaces lo hi 1)) _ _ s
 rw[g8' lo hi n]
 show wpAny _ _ (pure (((sIx n 0 lo:Nat):Int),(1:Int),Builtin.Slice.slicePlaces ((sIx n 0 lo:Nat):Int) ((sIx n n hi:Nat):Int) 1)) _ _ s
 rw[g9']
 exact ap h
theorem kN' (xs:Array Value) (i k:Nat):((aE k).filterMap fun(m:Nat)=>xs[((i:Int)+(m:Int)*1).toNat]?).toArray=((xs.toList.drop i).take k).toArray:=by
 have e:(fun(m:Nat)=>xs[((i:Int)+(m:Int)*1).toNat]?)=fun m=>xs[i+m]?:=by
  funext m
  have:((i:Int)+(m:Int)*1).toNat=i+m:=by omega
  rw[this]
 rw[e]
 have:=pick_run xs i k
 rw[List.filterMap_map]at this
 have e2:((fun x=>xs[x]?)∘fun x=>i+x)=fun m=>xs[i+m]?:=rfl
 rw[e2]at this
 rw[this]
theorem db' {t sl:Addr} {items:Array Value} {vl vu:Value} {lo hi:Option Int} {Q:Value->Shared->Prop} (ht:IsTup s.heap t items) (hs:s.heap.IsSliceOf sl vl vu .none) (pl:IsPart vl lo) (pu:IsPart vu hi)
  (hw:¬(sIx items.size 0 lo=0/\sIx items.size items.size hi=items.size))
  (h:Q (.ref s.heap.objs.size) { s with heap:=s.heap.push { cls:=.type "tuple",data:=.seq ((items.toList.drop (sIx items.size 0 lo)).take (sIx items.size items.size hi-sIx items.size 0 lo)).toArray } })
  (hsz:items.size<=sizeLine):wpAny (model prog w) A (getItem (.ref t) (.ref sl)) Q E s:=by
 have htake:sizeOk (.seq ((items.toList.drop (sIx items.size 0 lo)).take (sIx items.size items.size hi-sIx items.size 0 lo)).toArray):=by
  show((items.toList.drop (sIx items.size 0 lo)).take (sIx items.size items.size hi-sIx items.size 0 lo)).toArray.size<=sizeLine
  rw[aj,bq,ck,aB]
  omega
 have hj:sIx items.size items.size hi<=items.size:=p8' _ _ (ak _) hi
 obtain⟨os,hos,hcs,hds⟩:=id hs
 have hTs:s.TypeIs (.ref sl) "slice":=⟨os,hos,hcs⟩
 unfold getItem
 try with_reducible refine bM ?_
 first|refine aa (ap ?_)|skip
 refine aa (wpAny_sequenceKey ht.typeIs (by decide) ?_)
 refine aa (bc (name:=Str.ofString "__getitem__") ht.typeIs PyProof.Rows.slot_tuple_getitem
  (bG PyProof.Rows.slot_tuple_getitem ht.typeIs entry_tuple_getitem ?_ (args_tuple_getitem _ _)))
 show wpAny _ _ (Builtin.Tuple.tupleItemsOf (.ref t) >>= _) _ _ s
 refine aa (tupleItemsOf_ ht ?_)
 refine aa (wpAny_typeOf hTs ?_)
 rw[if_pos (by decide)]
 refine aa (cm' hs pl pu ?_)
 have hno:¬((((sIx items.size 0 lo:Nat):Int) == 0&&(1:Int) == 1&&(sIx items.size items.size hi-sIx items.size 0 lo) == items.size)=true):=by
  intro q
  rw[af,af]at q
  have q1:((sIx items.size 0 lo:Nat):Int)=0:=eq_of_beq q.1.1
  have q2:sIx items.size items.size hi-sIx items.size 0 lo=items.size:=eq_of_beq q.2
  exact hw ⟨by omega,by omega⟩
 show wpAny _ _ (if(((sIx items.size 0 lo:Nat):Int) == 0&&(1:Int) == 1&&(sIx items.size items.size hi-sIx items.size 0 lo) == items.size)=true then _ else _) _ _ s
 rw[if_neg hno,kN']
 first
  |exact aa (m:=Builtin.Tuple.tupleExact _) (bI (ap ⟨_,rfl,ap h⟩) htake)
  |exact aa (m:=Builtin.Tuple.tupleExact _) (bI (aa (ap (ap ⟨_,rfl,ap h⟩))) htake)
  |exact aa (aa (m:=Builtin.Tuple.tupleExact _) (bI (ap (ap ⟨_,rfl,ap h⟩)) htake))
  |exact aa (aa (m:=Builtin.Tuple.tupleExact _) (bI (ap ⟨_,rfl,ap h⟩) htake))
end
end HT
namespace L2
open PySem PySem.Spec PyProof.Rows
abbrev TO:=St->Hp->(Option Int->Hp->Prop)->Prop
def PO (X:Cx) (e:Option Expr) (t:TO):Prop:=
 ∀(pins:List (Addr×Obj)) (s:Shared) (σ:St) (H:Hp) (Q:Option Int->Hp->Prop),Inv X pins σ H s->t σ H Q->
  wpAny (model X.prog X.w) X.A (evalPart e X.env) (fun u s'=>∃o H',Inv X pins σ H' s'/\IsPart u o/\Q o H') X.xe s
def fS':TO:=fun _ H Q=>Q none H
def nF' (t:TE):TO:=fun σ H Q=>t σ H fun x H1=>∃i,x=.int i/\Q (some i) H1
theorem ea' {ns:List Int}:∀{us:List Value},ay' (ns.map V.int) us->IntsAre us ns:=by
 induction ns with
 |nil=>intro us r;rw[List.map_nil]at r;cases r;exact .nil
 |cons n ns ih=>
  intro us r
  rw[bg]at r
  cases r with
  |cons r1 r2=>
   obtain⟨t,e⟩:=r1
   subst e
   exact .cons n t (ih r2)
section
variable {X:Cx} {e:Expr} {te:TE} {lo hi:Option Expr} {tl th:TO} {pos p2:Pos}
theorem nG':PO X none fS':=by
 intro pins s σ H Q I h
 rw[evalPart_none]
 exact ap ⟨none,H,I,.none,h⟩
theorem nH' (h:PE X e te):PO X (some e) (nF' te):=by
 intro pins s σ H Q I hw
 rw[evalPart_some]
 refine thn (h pins s σ H _ I hw) fun u s1 ⟨x,H1,I1,r1,q1⟩=>?_
 obtain⟨i,rfl,q⟩:=q1
 obtain⟨t,rfl⟩:=r1
 exact⟨some i,H1,I1,.int i t,q⟩
def SlR (X:Cx) (r:V->Option Int->Option Int->Hp->VK->Prop):Prop:=
 ∀(pins:List (Addr×Obj)) (s:Shared) (σ:St) (H:Hp) (x:V) (v vl vu:Value) (lo hi:Option Int) (sl:Addr) (Q:VK),Inv X pins σ H s->aH' x v->s.heap.IsSliceOf sl vl vu .none->IsPart vl lo->IsPart vu hi->r x lo hi H Q->
  ∃T id,typeLookup (.type T) "__getitem__"=pure (some (.builtin id))/\s.TypeIs v T/\wpAny (model X.prog X.w) X.A (getItem v (.ref sl)) (EP X pins σ Q) X.xe s
theorem SlR.or {r r':V->Option Int->Option Int->Hp->VK->Prop} (h:SlR X r) (h':SlR X r'):SlR X (fun x lo hi H Q=>r x lo hi H Q\/r' x lo hi H Q):=by
 intro pins s σ H x v vl vu lo hi sl Q I rx hs pl pu q
 rcases q with q|q
 .exact h pins s σ H x v vl vu lo hi sl Q I rx hs pl pu q
 .exact h' pins s σ H x v vl vu lo hi sl Q I rx hs pl pu q
def tSl (r:V->Option Int->Option Int->Hp->VK->Prop) (te:TE) (tl th:TO):TE:=fun σ H Q=>te σ H fun x H1=>tl σ H1 fun l H2=>th σ H2 fun u H3=>r x l u H3 Q
theorem kO' {r:V->Option Int->Option Int->Hp->VK->Prop} (hr:SlR X r) (he:PE X e te) (hl:PO X lo tl) (hu:PO X hi th):PE X (.Subscript e (.Slice lo hi none p2) pos) (tSl r te tl th):=by
 intro pins s σ H Q I h
 refine Subscript_ (thn (he pins s σ H _ I h) fun v s1 ⟨x,H1,I1,r1,q1⟩=>?_)
 refine wpAny_Slice (thn (hl pins s1 σ H1 _ I1 q1) fun vl s2 ⟨l,H2,I2,pl,q2⟩=>thn (hu pins s2 σ H2 _ I2 q2) fun vu s3 ⟨u,H3,I3,pu,q3⟩=>?_)
 rw[evalPart_none]
 refine ap ?_
 have I4:Inv X pins σ H3 { s3 with heap:=s3.heap.push { cls:=.type "slice",data:=.fields #[vl,vu,.none] } }:=I3.kept (t':=s3.toks) fun b ob q=>ab _ q
 obtain⟨T,id,hT,ht,hg⟩:=hr pins { s3 with heap:=s3.heap.push { cls:=.type "slice",data:=.fields #[vl,vu,.none] } } σ H3 x v vl vu l u s3.heap.objs.size Q I4 r1 (Heap.IsSliceOf.new ..) pl pu q3
 show wpAny (model X.prog X.w) X.A (subscriptTail e (.Slice lo hi none p2) v (.ref s3.heap.objs.size)) (EP X pins σ Q) X.xe { s3 with heap:=s3.heap.push { cls:=.type "slice",data:=.fields #[vl,vu,.none] } }
 exact tail_any (ops:=[.ref s3.heap.objs.size,v]) ht hT hg (by with_unfolding_all rfl)
def h6' (xs:List V) (lo hi:Option Int):List V:=(xs.drop (HT.sIx xs.length 0 lo)).take (HT.sIx xs.length xs.length hi-HT.sIx xs.length 0 lo)
theorem dF' (xs:List V) (lo hi:Option Int):(h6' xs lo hi).length<=xs.length:=by
 unfold h6'
 rw[bq,ck]
 omega
def to' (K:W.Frag):V->Option Int->Option Int->Hp->VK->Prop:=fun x lo hi H Q=>∃a xs,x=.ref a/\SqT K H a xs/\
 ¬(HT.sIx xs.length 0 lo=0/\HT.sIx xs.length xs.length hi=xs.length)/\∀p,H p=none->Q (.ref p) (upd H p (.tup (h6' xs lo hi)))
theorem p9':SlR X (to' X.K):=by
 intro pins s σ H x v vl vu lo hi sl Q I rx hs pl pu h
 obtain⟨a,xs,rfl,hx,hw,q⟩:=h
 cases rx
 obtain⟨its,r,ht,hz⟩:=I.tuple hx
 have hlen:its.toArray.size=xs.length:=by rw[aj];exact r.length.symm
 refine⟨"tuple",_,PyProof.Rows.slot_tuple_getitem.lookup,ht.typeIs,?_⟩
 refine HT.db' ht hs pl pu (by rw[hlen];exact hw) ?_ (by rw[hlen];exact hz)
 rw[hlen]
 refine⟨.ref s.heap.objs.size,_,I.laid (t':=s.toks) (o:=.tup (h6' xs lo hi)) (fun b ob q=>ab _ q) (ak _) ?_,rfl,q _ (I.hok.fresh (ak _))⟩
 exact⟨au (dF' xs lo hi) hz,_,(r.drop (HT.sIx xs.length 0 lo)).take (HT.sIx xs.length xs.length hi-HT.sIx xs.length 0 lo),mt'.new _ _⟩
def qa' (K:W.Frag):R2:=fun x y H Q=>∃a b xs ys,x=.ref a/\y=.ref b/\SqT K H a xs/\SqT K H b ys/\xs≠[]/\xs.length+ys.length<=sizeLine/\
 (ys=[]->Q (.ref a) H)/\(ys≠[]->∀p,H p=none->Q (.ref p) (upd H p (.tup (xs++ys))))
theorem ay'.nil_iff {xs:List V} {us:List Value} (r:ay' xs us):us=[]↔xs=[]:=by
 cases r with
 |nil=>simp
 |cons _ _=>simp
theorem nI':OpR X (binaryOp .Add) (qa' X.K):=by
 intro pins s σ H x y v u Q I rx ry h
 obtain⟨a,b,xs,ys,rfl,rfl,ha,hb,hx,hz,q1,q2⟩:=h
 cases rx
 cases ry
 obtain⟨its,r1,p1,_⟩:=I.tuple ha
 obtain⟨its2,r2,p2,_⟩:=I.tuple hb
 refine HT.nE' p1 p2 (fun z=>hx (r1.nil_iff.mp z)) (fun z=>⟨.ref a,H,I,rfl,q1 (r2.nil_iff.mp z)⟩) (fun z=>?_) (by rw[<- r1.length,<- r2.length];exact hz)
 refine⟨.ref s.heap.objs.size,_,I.laid (t':=s.toks) (o:=.tup (xs++ys)) (fun b ob q=>ab _ q) (ak _) ?_,rfl,q2 (fun w=>z (r2.nil_iff.mpr w)) _ (I.hok.fresh (ak _))⟩
 exact⟨by rw[aN];exact hz,_,r1.append r2,mt'.new _ _⟩
end
def ixN (n:Nat) (i:Int):Option Nat:=if 0<=i then(if i<n then some i.toNat else none)else if -(n:Int)<=i then some (i+n).toNat else none
def atI {α:Type} (xs:List α) (i:Int):Option α:=(ixN xs.length i).bind fun j=>xs[j]?
theorem iu' {n:Nat} {i:Int} {j:Nat} (h:ixN n i=some j):seqIndex? i n=some j/\j<n/\-(n:Int)<=i/\i<n:=by
 unfold ixN at h
 by_cases h0:0<=i
 .rw[if_pos h0]at h
  by_cases h1:i<n
  .rw[if_pos h1]at h
   have e:i.toNat=j:=Option.some.inj h
   exact⟨by rw[seqIndex_of h0 h1,e],by omega,by omega,h1⟩
  .rw[if_neg h1]at h;cases h
 .rw[if_neg h0]at h
  by_cases h1:-(n:Int)<=i
  .rw[if_pos h1]at h
   have e:(i+n).toNat=j:=Option.some.inj h
   exact⟨by rw[seqIndex_neg (by omega) h1,e],by omega,h1,by omega⟩
  .rw[if_neg h1]at h;cases h
theorem fT' {α:Type} {xs:List α} {i:Int} {v:α} (h:atI xs i=some v):∃j,seqIndex? i xs.length=some j/\xs[j]?=some v/\j<xs.length/\-(xs.length:Int)<=i/\i<xs.length:=by
 unfold atI at h
 cases e:ixN xs.length i with
 |none=>rw[e]at h;cases h
 |some j=>
  rw[e]at h
  obtain⟨h1,h2,h3,h4⟩:=iu' e
  exact⟨j,h1,h,h2,h3,h4⟩
theorem cN' {α:Type} {xs:List α} {j:Nat} {v:α} (h:xs[j]?=some v):atI xs (j:Int)=some v:=by
 have hj:j<xs.length:=(aO.mp h).1
 have e:ixN xs.length (j:Int)=some j:=by
  unfold ixN
  rw[if_pos (by omega),if_pos (by omega)];simp
 unfold atI;rw[e];exact h
def iv' (b:Expr):Prop:=∀o i,subscripted b false o i=operate [o,i] (getItem o i)
def IxR (X:Cx) (r:R2):Prop:=
 ∀(value slice:Expr) (pins:List (Addr×Obj)) (s:Shared) (σ:St) (H:Hp) (x y:V) (v u:Value) (Q:VK),Inv X pins σ H s->aH' x v->aH' y u->r x y H Q->
  subscripted slice false v u=operate [v,u] (getItem v u)->wpAny (model X.prog X.w) X.A (subscriptTail value slice v u) (EP X pins σ Q) X.xe s
def MtR (X:Cx) (id:String) (r:V->List V->Hp->VK->Prop):Prop:=
 ∀(pins:List (Addr×Obj)) (s:Shared) (σ:St) (H:Hp) (x:V) (xs:List V) (v:Value) (us:List Value) (Q:VK),Inv X pins σ H s->aH' x v->ay' xs us->r x xs H Q->
  wpAny (model X.prog X.w) X.A (call (.builtin id) (v :: us)) (EP X pins σ Q) X.xe s
section
variable {X:Cx} {a b:Expr} {ta tb:TE} {pos:Pos}
theorem IxR.or {r r':R2} (h:IxR X r) (h':IxR X r'):IxR X (fun x y H Q=>r x y H Q\/r' x y H Q):=by
 intro value slice pins s σ H x y v u Q I rx ry q hs
 rcases q with q|q
 .exact h value slice pins s σ H x y v u Q I rx ry q hs
 .exact h' value slice pins s σ H x y v u Q I rx ry q hs
theorem t3' {r:R2} (hr:IxR X r) (ha:PE X a ta) (hb:PE X b tb) (hs:iv' b):PE X (.Subscript a b pos) (tOp r ta tb):=by
 intro pins s σ H Q I h
 exact Subscript_ (tP' ha hb I h fun v u s2 x y H2 I2 rx ry q=>hr a b pins s2 σ H2 x y v u Q I2 rx ry q (hs _ _))
def fM' (K:W.Frag):R2:=fun x y H Q=>∃p xs i v,x=.ref p/\y=.int i/\SqL K H p xs/\atI xs i=some v/\Q v H
def fU' (K:W.Frag):R2:=fun x y H Q=>∃p xs i v,x=.ref p/\y=.int i/\SqT K H p xs/\atI xs i=some v/\Q v H
def vD':R2:=fun x y H Q=>∃z i c,x=.str z/\y=.int i/\z.length<=sizeLine/\atI z.cps.toList i=some c/\Q (.str ⟨#[c]⟩) H
theorem nJ':IxR X (fM' X.K):=by
 intro value slice pins s σ H x y v u Q I rx ry h hs
 obtain⟨p,xs,i,z,rfl,rfl,hq,he,q⟩:=h
 cases rx
 obtain⟨t,rfl⟩:=ry
 obtain⟨its,r,pl,hz⟩:=I.list hq
 obtain⟨j,h1,h2,h3,h4,h5⟩:=fT' he
 obtain⟨w,ew,rw'⟩:=r.get h2
 have hl:=r.length
 have hn:=d7'
 have fin:EP X pins σ Q w s:=⟨z,H,I,rw',q⟩
 by_cases h0:0<=i
 .have hj:i.toNat=j:=by
   rw[seqIndex_of h0 h5]at h1
   exact Option.some.inj h1
  exact item_listR pl.isList h0 (by omega) (by rw[hj];simpa using ew) fin hs
 .have hj:(i+(its.toArray.size:Int)).toNat=j:=by
   rw[seqIndex_neg (by omega) h4]at h1
   rw[aj,<- hl]
   exact Option.some.inj h1
  exact subscriptTail_builtinR (x:=w) pl.isList.typeIs slot_list_getitem.lookup
   (wpAny_getItem_list_neg (Q:=fun r s'=>r=w/\EP X pins σ Q r s') pl.isList (by omega) (by rw[aj]<;>omega) (by omega) (by rw[hj];simpa using ew) ⟨rfl,fin⟩) hs
theorem qb':IxR X (fU' X.K):=by
 intro value slice pins s σ H x y v u Q I rx ry h hs
 obtain⟨p,xs,i,z,rfl,rfl,hq,he,q⟩:=h
 cases rx
 obtain⟨t,rfl⟩:=ry
 obtain⟨its,r,pl,hz⟩:=I.tuple hq
 obtain⟨j,h1,h2,h3,h4,h5⟩:=fT' he
 obtain⟨w,ew,rw'⟩:=r.get h2
 have hl:=r.length
 have hn:=d7'
 have fin:EP X pins σ Q w s:=⟨z,H,I,rw',q⟩
 exact subscriptTail_builtinR (x:=w) pl.typeIs slot_tuple_getitem.lookup
  (getItem_tuple (j:=j) (Q:=fun r s'=>r=w/\EP X pins σ Q r s') pl (by omega) (by omega) (by rw[aj,<- hl];exact h1) (by simpa using ew) ⟨rfl,fin⟩) hs
theorem qc':IxR X vD':=by
 intro value slice pins s σ H x y v u Q I rx ry h hs
 obtain⟨z,i,c,rfl,rfl,hz,he,q⟩:=h
 obtain⟨t,rfl⟩:=rx
 obtain⟨t',rfl⟩:=ry
 obtain⟨j,h1,h2,h3,h4,h5⟩:=fT' he
 have hl:z.cps.toList.length=z.length:=by simp[Str.length]
 rw[hl]at h1 h4 h5
 have hn:=d7'
 exact tail_any (typeIs_str s z t) slot_str_getitem.lookup (getItem_str (c:=c) (by
  have e1:decide (i < -(2 ^ 63:Int))=false:=decide_eq_false (by omega)
  have e2:decide (i ≥ 2 ^ 63)=false:=decide_eq_false (by omega)
  rw[e1,e2,Bool.or_false]) (by rw[h1];simpa using h2) ⟨.str ⟨#[c]⟩,H,I.tok _,⟨_,rfl⟩,q⟩) hs
def rIx (K:W.Frag):R2:=fun x y H Q=>fM' K x y H Q\/fU' K x y H Q\/vD' x y H Q
theorem qd':IxR X (rIx X.K):=nJ'.or (qb'.or qc')
theorem ha' (its:List Value) (n j:Nat) (u:Value):Obj.mapSeq (·.setIfInBounds j u) { cls:=.type "list",data:=.seq its.toArray n }={ cls:=.type "list",data:=.seq (its.set j u).toArray n }:=by
 simp[Obj.mapSeq]
theorem Inv.lst {pins:List (Addr×Obj)} {σ:St} {H:Hp} {s:Shared} {p:Addr} {xs:List V} (I:Inv X pins σ H s) (h:H p=some (.lst xs)):
  ∃(its:List Value) (n:Nat),ay' xs its/\s.heap.get? p=some { cls:=.type "list",data:=.seq its.toArray n }/\xs.length<=sizeLine:=by
 obtain⟨z,its,n,r,e⟩:=I.hok p _ h
 exact⟨its,n,r,e,z⟩
theorem Inv.lstUpd {pins:List (Addr×Obj)} {σ:St} {H:Hp} {s:Shared} {p:Addr} {xs ys:List V} {its its':List Value} {n n':Nat} {f:Obj->Obj} (I:Inv X pins σ H s) (h:H p=some (.lst xs))
  (ho:s.heap.get? p=some { cls:=.type "list",data:=.seq its.toArray n }) (hf:f { cls:=.type "list",data:=.seq its.toArray n }={ cls:=.type "list",data:=.seq its'.toArray n' }) (r:ay' ys its') (hz:ys.length<=sizeLine) (t:Nat):
  Inv X pins σ (upd H p (.lst ys)) { s with heap:=s.heap.update p f,toks:=t }:=by
 have e:(s.heap.update p f).get? p=some { cls:=.type "list",data:=.seq its'.toArray n' }:=by
  rw[bK f ho (by rw[hf]<;>rfl),hf]
 refine I.write (x:=p) (e:=p) (by rw[h];trivial) (.inl rfl) (fun b u hb q=>(Heap.get?_update_other _ _ (Ne.symm hb)).trans q) ⟨_,e⟩ ?_
 exact⟨hz,its',n',r,e⟩
def dx':V->V->V->Hp->(Hp->Prop)->Prop:=fun o i v H Q=>∃p xs k j,o=.ref p/\i=.int k/\H p=some (.lst xs)/\ixN xs.length k=some j/\Q (upd H p (.lst (xs.set j v)))
theorem kP':vB' X dx':=by
 intro pins s σ H o i v ov iv u Q I ro ri rv h
 obtain⟨p,xs,k,j,rfl,rfl,hp,hj,q⟩:=h
 cases ro
 obtain⟨t,rfl⟩:=ri
 obtain⟨its,n,r,ho,hz⟩:=I.lst hp
 obtain⟨h1,h2,h3,h4⟩:=iu' hj
 have hl:=r.length
 have hn:=d7'
 have I':Inv X pins σ (upd H p (.lst (xs.set j v))) { s with heap:=s.heap.update p (Obj.mapSeq (·.setIfInBounds j u)) }:=
  I.lstUpd hp ho (ha' its n j u) (r.set rv j) (by rw[List.length_set];exact hz) s.toks
 by_cases h0:0<=k
 .have hk:k.toNat=j:=by
   rw[seqIndex_of h0 h4]at h1
   exact Option.some.inj h1
  exact W.ki_setAt ho h0 (by omega) (by rw[aj,<- hl];exact h4) (by rw[hk];exact⟨_,I',q⟩)
 .have hk:(k+(its.toArray.size:Int)).toNat=j:=by
   rw[seqIndex_neg (by omega) h3]at h1
   rw[aj,<- hl]
   exact Option.some.inj h1
  exact W.ki_setBack ho (by omega) (by rw[aj,<- hl];exact h3) (by omega) (by rw[hk];exact⟨_,I',q⟩)
theorem e6' (lo hi:Option Int) (n:Nat):(sliceBounds lo hi none n).1=((HT.sIx n 0 lo:Nat):Int)/\(sliceBounds lo hi none n).2.1=((HT.sIx n n hi:Nat):Int)/\(sliceBounds lo hi none n).2.2=1:=by
 refine⟨?_,?_,rfl⟩
 .cases lo with
  |none=>simp[sliceBounds,HT.sIx]
  |some i=>
   simp only[sliceBounds,HT.sIx,Option.getD_none,show(1:Int) > 0 by decide,if_true]
   by_cases h:i<0
   .simp only[h,if_true]<;>omega
   .simp only[h,if_false]<;>omega
 .cases hi with
  |none=>simp[sliceBounds,HT.sIx]
  |some i=>
   simp only[sliceBounds,HT.sIx,Option.getD_none,show(1:Int) > 0 by decide,if_true]
   by_cases h:i<0
   .simp only[h,if_true]<;>omega
   .simp only[h,if_false]<;>omega
theorem ew' (its:List Value) (lo hi:Option Int):slicePick its.toArray lo hi none=((its.drop (HT.sIx its.length 0 lo)).take (HT.sIx its.length its.length hi-HT.sIx its.length 0 lo)).toArray:=by
 obtain⟨h1,h2,h3⟩:=e6' lo hi its.toArray.size
 unfold slicePick
 rw[h1,h2,h3]
 simp only[sliceRange_one,pick_run,aj]<;>rfl
def tp' (K:W.Frag):V->Option Int->Option Int->Hp->VK->Prop:=fun x lo hi H Q=>∃a xs,x=.ref a/\SqL K H a xs/\∀p,H p=none->Q (.ref p) (upd H p (.lst (h6' xs lo hi)))
theorem nK':SlR X (tp' X.K):=by
 intro pins s σ H x v vl vu lo hi sl Q I rx hs pl pu h
 obtain⟨a,xs,rfl,hx,q⟩:=h
 cases rx
 obtain⟨its,r,ht,hz⟩:=I.list hx
 have hlen:=r.length
 refine⟨"list",_,slot_list_getitem.lookup,ht.isList.typeIs,?_⟩
 refine wpAny_getItem_list_slice ht.isList hs pl pu .none (by simp) ?_ (by rw[aj]<;>omega)
 rw[ew',<- hlen]
 refine⟨.ref s.heap.objs.size,_,I.laid (t':=s.toks) (o:=.lst (h6' xs lo hi)) (fun b ob q=>ab _ q) (ak _) ?_,rfl,q _ (I.hok.fresh (ak _))⟩
 exact⟨au (dF' xs lo hi) hz,_,0,(r.drop (HT.sIx xs.length 0 lo)).take (HT.sIx xs.length xs.length hi-HT.sIx xs.length 0 lo),av _ rfl⟩
def e7':V->Bool
 | .non=>true
 | .bl _=>true
 | .int _=>true
 | .str _=>true
 |_=>false
def eqV:V->V->Bool
 | .non,.non=>true
 | .bl a,.bl b=>a == b
 | .bl a,.int b=>(if a then 1 else 0) == b
 | .int a,.bl b=>a == (if b then 1 else 0)
 | .int a,.int b=>a == b
 | .str a,.str b=>a == b
 |_,_=>false
theorem qe' {A:Around} {s:Shared} {y x:V} {u v:Value} (ry:aH' y u) (rx:aH' x v) (fy:e7' y=true) (fx:e7' x=true):SeqAt.EqAt A s u v (eqV y x):=by
 cases y with
 |non=>
  cases ry
  cases x with
  |non=>cases rx;exact SeqAt.EqAt.same _
  |bl b=>cases rx;exact SeqAt.EqAt.none_bool b
  |int b=>obtain⟨t,rfl⟩:=rx;exact SeqAt.EqAt.none_int b t
  |str b=>obtain⟨t,rfl⟩:=rx;exact SeqAt.EqAt.none_str b t
  |_=>exact absurd (show false=true from fx) aq
 |bl a=>
  cases ry
  cases x with
  |non=>cases rx;exact SeqAt.EqAt.bool_none a
  |bl b=>cases rx;exact SeqAt.EqAt.bool_bool a b
  |int b=>obtain⟨t,rfl⟩:=rx;exact SeqAt.EqAt.bool_int a b t
  |str b=>obtain⟨t,rfl⟩:=rx;exact SeqAt.EqAt.bool_str a b t
  |_=>exact absurd (show false=true from fx) aq
 |int a=>
  obtain⟨t',rfl⟩:=ry
  cases x with
  |non=>cases rx;exact SeqAt.EqAt.int_none a t'
  |bl b=>cases rx;exact SeqAt.EqAt.int_bool a t' b
  |int b=>obtain⟨t,rfl⟩:=rx;exact SeqAt.EqAt.int_int a t' b t
  |str b=>obtain⟨t,rfl⟩:=rx;exact SeqAt.EqAt.int_str a t' b t
  |_=>exact absurd (show false=true from fx) aq
 |str a=>
  obtain⟨t',rfl⟩:=ry
  cases x with
  |non=>cases rx;exact SeqAt.EqAt.str_none a t'
  |bl b=>cases rx;exact SeqAt.EqAt.str_bool a t' b
  |int b=>obtain⟨t,rfl⟩:=rx;exact SeqAt.EqAt.str_int a t' b t
  |str b=>obtain⟨t,rfl⟩:=rx;exact SeqAt.EqAt.str_str a t' b t
  |_=>exact absurd (show false=true from fx) aq
 |_=>exact absurd (show false=true from fy) aq
def eqU (x:V) (u:Value):Bool:=match u with
 | .none=>eqV .non x
 | .bool b=>eqV (.bl b) x
 | .int i _=>eqV (.int i) x
 | .str z _=>eqV (.str z) x
 |_=>false
theorem mz' {x y:V} {u:Value} (r:aH' y u) (f:e7' y=true):eqU x u=eqV y x:=by
 cases y with
 |non=>cases r;rfl
 |bl b=>cases r;rfl
 |int i=>obtain⟨t,rfl⟩:=r;rfl
 |str z=>obtain⟨t,rfl⟩:=r;rfl
 |_=>exact absurd (show false=true from f) aq
theorem dG' {x:V}:∀{xs:List V} {us:List Value},ay' xs us->xs.all e7'=true->us.any (eqU x)=xs.any fun y=>eqV y x
 |_,_,.nil,_=>rfl
 |y :: xs,u :: us,.cons r t,f=>by
  rw[bX,af]at f
  rw[bY,bY,mz' r f.1,dG' t f.2]
theorem cZ' {A:Around} {s:Shared} {x:V} {v:Value} (rx:aH' x v) (fx:e7' x=true):∀{xs:List V} {us:List Value},ay' xs us->xs.all e7'=true->∀u∈us,SeqAt.EqAt A s u v (eqU x u)
 |_,_,.nil,_=>fun u hu=>by cases hu
 |y :: xs,u :: us,.cons r t,f=>fun u' hu=>by
  rw[bX,af]at f
  rcases ai.mp hu with rfl|hu
  .rw[mz' r f.1];exact qe' r rx f.1 fx
  .exact cZ' rx fx t f.2 u' hu
def inV (x:V) (xs:List V):Bool:=xs.any fun y=>eqV y x
def rIn (K:W.Frag) (neg:Bool):R2:=fun x y H Q=>∃p xs,y=.ref p/\(SqL K H p xs\/SqT K H p xs)/\e7' x=true/\xs.all e7'=true/\Q (.bl (if neg then !inV x xs else inV x xs)) H
theorem iw':OpR X (compareOp .In) (rIn X.K false):=by
 intro pins s σ H x y v u Q I rx ry h
 obtain⟨p,xs,rfl,hq,fx,fs,q⟩:=h
 cases ry
 rcases hq with hq|hq
 .obtain⟨its,r,pl,hz⟩:=I.list hq
  refine SeqAt.in_listAt (eqU x) pl.isList (fun w hw=>cZ' rx fx r fs w (by simpa using hw)) ⟨.bl _,H,I,rfl,?_⟩
  rw[show its.toArray.any (eqU x)=its.any (eqU x) by simp,dG' r fs]
  exact q
 .obtain⟨its,r,pl,hz⟩:=I.tuple hq
  refine SeqAt.in_tupleAt (eqU x) pl (fun w hw=>cZ' rx fx r fs w (by simpa using hw)) ⟨.bl _,H,I,rfl,?_⟩
  rw[show its.toArray.any (eqU x)=its.any (eqU x) by simp,dG' r fs]
  exact q
theorem e8':OpR X (compareOp .NotIn) (rIn X.K true):=by
 intro pins s σ H x y v u Q I rx ry h
 obtain⟨p,xs,rfl,hq,fx,fs,q⟩:=h
 cases ry
 rcases hq with hq|hq
 .obtain⟨its,r,pl,hz⟩:=I.list hq
  refine SeqAt.notIn_listAt (eqU x) pl.isList (fun w hw=>cZ' rx fx r fs w (by simpa using hw)) ⟨.bl _,H,I,rfl,?_⟩
  rw[show its.toArray.any (eqU x)=its.any (eqU x) by simp,dG' r fs]
  exact q
 .obtain⟨its,r,pl,hz⟩:=I.tuple hq
  refine SeqAt.notIn_tupleAt (eqU x) pl (fun w hw=>cZ' rx fx r fs w (by simpa using hw)) ⟨.bl _,H,I,rfl,?_⟩
  rw[show its.toArray.any (eqU x)=its.any (eqU x) by simp,dG' r fs]
  exact q
theorem aN'.or {f:Value} {r r':List V->Hp->VK->Prop} (h:aN' X f r) (h':aN' X f r'):aN' X f (fun xs H Q=>r xs H Q\/r' xs H Q):=by
 intro pins s σ H xs us Q I rs q
 rcases q with q|q
 .exact h pins s σ H xs us Q I rs q
 .exact h' pins s σ H xs us Q I rs q
theorem e9':aN' X (.type "list") (fun xs H Q=>∃p ys,xs=[.ref p]/\(SqL X.K H p ys\/SqT X.K H p ys)/\∀l,H l=none->Q (.ref l) (upd H l (.lst ys))):=by
 intro pins s σ H xs us Q I r h
 obtain⟨p,ys,rfl,hq,q⟩:=h
 obtain⟨u,rfl,rx⟩:=dw' r
 cases rx
 have fin:∀(its:List Value),ay' ys its->ys.length<=sizeLine->∀(h':Heap) (c':Nat),(∀b o',s.heap.get? b=some o'->h'.get? b=some o')->
   h'.get? s.heap.objs.size=some { cls:=.type "list",dict:=none,data:=.seq its.toArray c',slots:=#[] }->EP X pins σ Q (.ref s.heap.objs.size) { s with heap:=h' }:=fun its r' hz h' c' kp e=>
  ⟨.ref s.heap.objs.size,_,I.laid (t':=s.toks) kp (ak _) (show aJ' X.prog X.w _ h' _ (.lst ys) from⟨hz,its,c',r',e⟩),rfl,q _ (I.hok.fresh (ak _))⟩
 rcases hq with hq|hq
 .obtain⟨its,r',pl,hz⟩:=I.list hq
  have hlen:=r'.length
  obtain⟨o,ho,hc,n,hd⟩:=pl.isList
  exact call_list_seq p (.inl rfl) ho hc hd (fun h' c' kp e=>fin its r' hz h' c' kp e) (by simp only[aj]<;>omega)
 .obtain⟨its,r',pl,hz⟩:=I.tuple hq
  have hlen:=r'.length
  obtain⟨o,ho,hc,n,hd⟩:=pl
  exact call_list_seq p (.inr rfl) ho hc hd (fun h' c' kp e=>fin its r' hz h' c' kp e) (by simp only[aj]<;>omega)
theorem ey':aN' X (.type "tuple") (fun xs H Q=>∃p ys,xs=[.ref p]/\((SqL X.K H p ys/\∀l,H l=none->Q (.ref l) (upd H l (.tup ys)))\/(SqT X.K H p ys/\Q (.ref p) H))):=by
 intro pins s σ H xs us Q I r h
 obtain⟨p,ys,rfl,h⟩:=h
 obtain⟨u,rfl,rx⟩:=dw' r
 cases rx
 rcases h with⟨hq,q⟩|⟨hq,q⟩
 .obtain⟨its,r',pl,hz⟩:=I.list hq
  have hlen:=r'.length
  refine call_tuple_list pl.isList (fun h' kp=>?_) (by simp only[aj]<;>omega)
  have I1:Inv X pins σ H { s with heap:=h' }:=I.kept (t':=s.toks) kp
  have I2:Inv X pins σ (upd H h'.objs.size (.tup ys)) { s with heap:=h'.push { cls:=.type "tuple",data:=.seq its.toArray } }:=
   I1.laid (t':=s.toks) (fun b o e=>ab _ e) (ak _) (show aJ' X.prog X.w _ _ _ (.tup ys) from⟨hz,its,r',mt'.new _ _⟩)
  exact⟨.ref h'.objs.size,_,I2,rfl,q _ (I1.hok.fresh (ak _))⟩
 .obtain⟨its,r',pl,hz⟩:=I.tuple hq
  exact call_tuple_same pl ⟨.ref p,H,I,rfl,q⟩
def tyV (K:W.Frag) (T:String) (x:V) (H:Hp):Prop:=match x with
 | .str _=>T="str"
 | .int _=>T="int"
 | .ref p=>(T="list"/\∃xs,SqL K H p xs)\/(T="tuple"/\((∃o,K.lookup p=some o/\o.cls=.type "tuple"/\o.dict=none)\/∃xs,H p=some (.tup xs)))\/
   (T="dict"/\((∃kvs,H p=some (.dK kvs))\/∃kvs,H p=some (.dT kvs)))\/(T="set"/\∃S n,H p=some (.set S n))
 |_=>False
theorem mA' {pins:List (Addr×Obj)} {σ:St} {H:Hp} {s:Shared} {T:String} {x:V} {v:Value} (I:Inv X pins σ H s) (r:aH' x v) (ty:tyV X.K T x H):
  s.TypeIs v T/\∀a,v=.ref a->∃ob,s.heap.get? a=some ob/\ob.dict=none:=by
 cases x with
 |str z=>
  obtain⟨t,rfl⟩:=r
  cases(show T="str" from ty)
  exact⟨typeIs_str s z t,fun _ e=>nomatch e⟩
 |int i=>
  obtain⟨t,rfl⟩:=r
  cases(show T="int" from ty)
  exact⟨typeIs_int s i t,fun _ e=>nomatch e⟩
 |ref p=>
  cases r
  rcases ty with⟨rfl,xs,hq⟩|⟨rfl,⟨o,hk,hc,hd⟩|⟨xs,hk⟩⟩|⟨rfl,hk⟩|⟨rfl,S,n,hk⟩
  .obtain⟨its,_,pl,_⟩:=I.list hq
   refine⟨pl.isList.typeIs,fun a e=>?_⟩
   cases e
   obtain⟨o,n,e,c,hd,_⟩:=pl
   exact⟨o,e,hd⟩
  .refine⟨⟨o,I.kIn p o hk,hc⟩,fun a e=>?_⟩
   cases e
   exact⟨o,I.kIn _ o hk,hd⟩
  .obtain⟨_,_,_,o,e,c,_,hd⟩:=I.hok p _ hk
   refine⟨⟨o,e,c⟩,fun a e2=>?_⟩
   cases e2
   exact⟨o,e,hd⟩
  .have z:∃o,s.heap.get? p=some o/\o.ExactDict:=by
    rcases hk with⟨kvs,hk⟩|⟨kvs,hk⟩
    .obtain⟨_,_,_,_,o,_,_,e,ex,_⟩:=I.hok p _ hk
     exact⟨o,e,ex⟩
    .obtain⟨_,_,_,_,o,_,_,e,ex,_⟩:=I.hok p _ hk
     exact⟨o,e,ex⟩
   obtain⟨o,e,ex⟩:=z
   refine⟨⟨o,e,ex.1⟩,fun a e2=>?_⟩
   cases e2
   exact⟨o,e,ex.2.1⟩
  .obtain⟨o,_,_,_,e,ex,_⟩:=I.hok p _ hk
   refine⟨⟨o,e,ex.1⟩,fun a e2=>?_⟩
   cases e2
   exact⟨o,e,ex.2.1⟩
 |_=>exact False.elim ty
def wj' (K:W.Frag) (T:String) (r:V->List V->Hp->VK->Prop) (to:TE):TE:=fun σ H Q=>to σ H fun x H1=>tyV K T x H1/\r x [] H1 Q
def tBM (K:W.Frag) (T:String) (r:V->List V->Hp->VK->Prop) (to:TE) (t:TA):TE:=fun σ H Q=>to σ H fun x H1=>tyV K T x H1/\t σ H1 fun xs H2=>r x xs H2 Q
variable {o e:Expr} {es:List Expr} {to:TE} {t:TA} {name:Str} {apos cpos:Pos} {T id:String} {r:V->List V->Hp->VK->Prop}
theorem qf' (pa:PlainAttrs T) (slot:Slot T name id) (hty:typeOf (.builtin id)=pure (.type "method_descriptor")) (hm:MtR X id r) (ho:PE X o to)
  (hbase:attributeBase o name X.env (eval o X.env)=eval o X.env:=by rfl) (hline:(apos.endLine == cpos.line)=true:=by rfl):PE X (.Call (.Attribute o name apos) [] [] cpos) (wj' X.K T r to):=by
 intro pins s σ H Q I h
 refine wpAny_Call_method0_late hbase hline (thn (ho pins s σ H _ I h) fun v s1 ⟨x,H1,I1,r1,ty,q1⟩=>?_)
 obtain⟨h1,h2⟩:=mA' I1 r1 ty
 exact⟨T,id,pa,slot,hty,h1,h2,Calls.callWith_builtin rfl (PySem.evalArgs_none (hm pins s1 σ H1 x [] v [] Q I1 r1 .nil q1))⟩
theorem t4' (pa:PlainAttrs T) (slot:Slot T name id) (hty:typeOf (.builtin id)=pure (.type "method_descriptor")) (hm:MtR X id r) (ho:PE X o to) (ha:PA X (e :: es) t)
  (hbase:attributeBase o name X.env (eval o X.env)=eval o X.env:=by rfl)
  (hfew:((backTo cpos (starEach (e :: es) X.env)).all (fun x=>!x.1)&&(backToKw cpos (keywordEach [] X.env)).all (fun x=>x.1.isSome)
   && decide ((e :: es).length+([]:List Keyword).length+(if([]:List Keyword).isEmpty then 0 else 1)<30))=true:=by rfl)
  (hline:(apos.endLine == cpos.line)=true:=by rfl) (hs:starEach (e :: es) X.env=(false,eval e X.env) :: starEach es X.env:=by rfl) (hplain:(backTo cpos (starEach es X.env)).any (·.1)=false:=by rfl):
  PE X (.Call (.Attribute o name apos) (e :: es) [] cpos) (tBM X.K T r to t):=by
 intro pins s σ H Q I h
 refine wpAny_Call_method_late hbase hfew hline rfl (thn (ho pins s σ H _ I h) fun v s1 ⟨x,H1,I1,r1,ty,q1⟩=>?_)
 obtain⟨h1,h2⟩:=mA' I1 r1 ty
 refine⟨T,id,pa,slot,hty,h1,h2,?_⟩
 have hA:=ha cpos pins s1 σ H1 _ I1 q1
 rw[hs]at hA ⊢
 refine Calls.callWith_builtin (by show(false || (backTo cpos (starEach es X.env)).any (·.1))=false;rw[hplain]<;>rfl) (Calls.evalArgs_plain ?_)
 exact thn hA fun us s2 ⟨vs,H2,I2,r2,q2⟩=>hm pins s2 σ H2 x vs v us Q I2 r1 r2 q2
end
def MtM (X:Cx) (id:String) (r:V->List V->Hp->VK->Prop):Prop:=
 ∀(pins:List (Addr×Obj)) (s:Shared) (σ:St) (H:Hp) (x:V) (xs:List V) (v:Value) (us:List Value) (Q:VK),Inv X pins σ H s->aH' x v->ay' xs us->r x xs H Q->
  wpAny (model X.prog X.w) X.A (call (.builtin id) (v :: us)) (EP X pins σ Q) X.xe s
theorem ay'.one:∀{x:V} {us:List Value},ay' [x] us->∃u,us=[u]/\aH' x u
 |_,_,.cons r .nil=>⟨_,rfl,r⟩
theorem ay'.zero:∀{us:List Value},ay' [] us->us=[]
 |_,.nil=>rfl
theorem ay'.reverse {xs:List V} {us:List Value} (h:ay' xs us):ay' xs.reverse us.reverse:=by
 induction h with
 |nil=>exact .nil
 |cons r t ih=>rw[List.reverse_cons,List.reverse_cons];exact ay'.append ih (.cons r .nil)
theorem ay'.rep {xs:List V} {us:List Value} (h:ay' xs us):∀k:Nat,ay' (aK k xs).flatten (aK k us).flatten
 |0=>.nil
 |k+1=>by
  rw[cg,cg,bN,bN]
  exact ay'.append h (ay'.rep h k)
theorem fa' (its:List Value):∀(k:Nat) (acc:List Value),
  List.foldl (fun x1 x2=>x1++x2) acc.toArray (aK k its.toArray)=(acc++(aK k its).flatten).toArray
 |0,acc=>by simp
 |k+1,acc=>by
  have e:acc.toArray++its.toArray=(acc++its).toArray:=by simp
  have e2:(acc++its)++(aK k its).flatten=acc++(aK (k+1) its).flatten:=by
   rw[cg,bN,bO]
  rw[<- e2,<- fa' its k (acc++its),<- e,cg,List.foldl_cons]
section
variable {X:Cx} {pins:List (Addr×Obj)} {σ:St} {H:Hp} {s:Shared} {l b:Addr} {xs ys zs:List V}
theorem Inv.lset {its its':List Value} {n:Nat} {f:Array Value->Array Value} {t':Nat} (I:Inv X pins σ H s) (hH:H l=some (.lst xs))
  (e:s.heap.get? l=some { cls:=.type "list",data:=.seq its.toArray n }) (hf:f its.toArray=its'.toArray) (hv:ay' ys its') (hz:ys.length<=sizeLine):
  Inv X pins σ (upd H l (.lst ys)) { s with heap:=s.heap.update l (Obj.mapSeq f),toks:=t' }:=by
 have q:=PySem.IsL.update e f
 rw[hf]at q
 refine I.write (x:=l) (e:=l) (by rw[hH];exact trivial) (.inl rfl) (fun b' u hb hu=>(Heap.get?_update_other s.heap (Obj.mapSeq f) (Ne.symm hb)).trans hu) ⟨_,q⟩ ?_
 exact⟨hz,its',_,hv,q⟩
theorem Inv.lnew {its:List Value} {t':Nat} (I:Inv X pins σ H s) (hv:ay' ys its) (hz:ys.length<=sizeLine):
  Inv X pins σ (upd H s.heap.objs.size (.lst ys)) { s with heap:=s.heap.push { cls:=.type "list",data:=.seq its.toArray },toks:=t' }:=
 I.laid (fun _ _ q=>ab _ q) (ak _) ⟨hz,its,0,hv,av _ rfl⟩
theorem Inv.fresh (I:Inv X pins σ H s):H s.heap.objs.size=none:=I.hok.fresh (ak _)
theorem Inv.lstM (I:Inv X pins σ H s) (hH:H l=some (.lst xs)):xs.length<=sizeLine/\∃(its:List Value) (n:Nat),ay' xs its/\xs.length=its.length/\s.heap.get? l=some { cls:=.type "list",data:=.seq its.toArray n }:=by
 obtain⟨z,its,n,r,e⟩:=I.hok l _ hH
 exact⟨z,its,n,r,r.length,e⟩
theorem kQ' {n:Nat} (h:n<=sizeLine):Builtin.List.listTooLong n=false:=by
 unfold Builtin.List.listTooLong
 exact decide_eq_false (by omega)
end
section
variable {X:Cx}
def ix':V->List V->Hp->VK->Prop:=fun x vs H Q=>∃l xs y,x=.ref l/\vs=[y]/\H l=some (.lst xs)/\xs.length<sizeLine/\Q .non (upd H l (.lst (xs++[y])))
theorem iy':MtM X "list.append" ix':=by
 intro pins s σ H x vs v us Q I rx rv h
 obtain⟨l,xs,y,rfl,rfl,hH,hz,q⟩:=h
 cases rx
 obtain⟨u,rfl,ru⟩:=rv.one
 obtain⟨z,its,n,r,hl,e⟩:=I.lstM hH
 refine call_meets F.slot_list_append ⟨_,e,rfl⟩ F.entry_list_append (F.args_list_append_2 _ _) (PySem.list_append l its.toArray n u (by rw[aj];omega)) ⟨e,?_⟩
 refine⟨.non,_,I.lset (its':=its++[u]) hH e (by simp) (r.append (.cons ru .nil)) ?_,rfl,q⟩
 rw[aN,List.length_singleton]
 omega
def vE':R2:=fun x y H Q=>∃l b xs zs,x=.ref l/\y=.ref b/\H l=some (.lst xs)/\H b=some (.lst zs)/\xs.length+zs.length<=sizeLine/\∀p,H p=none->Q (.ref p) (upd H p (.lst (xs++zs)))
theorem qg':OpR X (binaryOp .Add) vE':=by
 intro pins s σ H x y v u Q I rx ry h
 obtain⟨l,b,xs,zs,rfl,rfl,hH,hB,hz,q⟩:=h
 cases rx
 cases ry
 obtain⟨z,its,n,r,hl,e⟩:=I.lstM hH
 obtain⟨z2,its2,n2,r2,hl2,e2⟩:=I.lstM hB
 refine PySem.P.add_list e e2 ?_ (by rw[aj,aj];omega)
 have ea:its.toArray++its2.toArray=(its++its2).toArray:=by simp
 rw[ea]
 exact⟨.ref _,_,I.lnew (t':=s.toks) (r.append r2) (by rw[aN];omega),rfl,q _ I.fresh⟩
def vF':R2:=fun x y H Q=>∃l k xs,x=.ref l/\y=.int k/\H l=some (.lst xs)/\-(2 ^ 63)<=k/\k<2 ^ 63/\xs.length*k.toNat<=sizeLine/\
 ∀p,H p=none->Q (.ref p) (upd H p (.lst (aK k.toNat xs).flatten))
theorem nL' {α:Type} (xs:List α) (k:Nat):(aK k xs).flatten.length=k*xs.length:=by
 induction k with
 |zero=>simp
 |succ k ih=>rw[cg,bN,aN,ih,Nat.succ_mul,Nat.add_comm]
theorem qh':OpR X (binaryOp .Mult) vF':=by
 intro pins s σ H x y v u Q I rx ry h
 obtain⟨l,k,xs,rfl,rfl,hH,h1,h2,hz,q⟩:=h
 cases rx
 obtain⟨t,rfl⟩:=ry
 obtain⟨z,its,n,r,hl,e⟩:=I.lstM hH
 have hlen:its.toArray.size*k.toNat<=sizeLine:=by rw[aj,<- hl];exact hz
 have hcap:¬its.toArray.size*k.toNat > (2 ^ 63-1) / 8:=by
  have:(sizeLine:Nat)<=(2 ^ 63-1) / 8:=by decide
  omega
 have hfit:¬(!Builtin.List.listFitsIndex k)=true:=by
  rw[fitsIndex_both h1 h2]
  exact aq
 have hlong:¬Builtin.List.listTooLong (its.toArray.size*k.toNat)=true:=by
  rw[kQ' hlen]
  exact aq
 have hnew:List.foldl (fun x1 x2=>x1++x2) #[] (aK (if its.toArray.isEmpty=true then 0 else k.toNat) its.toArray)=(aK k.toNat its).flatten.toArray:=by
  have f0:∀m:Nat,List.foldl (fun x1 x2=>x1++x2) #[] (aK m its.toArray)=(aK m its).flatten.toArray:=fun m=>by
   have:=fa' its m []
   rw[List.nil_append]at this
   exact this
  rw[f0]
  cases its with
  |nil=>simp
  |cons a r'=>rw[if_neg (by simp)]
 refine wpAny_binaryOp_repeat_ref (T:="list") (U:="int") (by decide) ⟨_,e,rfl⟩ (fun s'=>typeIs_int s' k t) noFill_list_mul F.fills_int_mul F.slot_int_rmul repeat_list F.slot_int_index.lookup
  (call_meets F.slot_int_rmul (typeIs_int s k t) F.entry_int_rmul (F.args_int_rmul_2 _ _) (int___rmul___int_list k t l its.toArray n)
   ⟨e,rfl,⟨_,e,rfl⟩,call_meets F.slot_list_mul ⟨_,e,rfl⟩ F.entry_list_mul (F.args_list_mul_2 _ _) (AutoListH.list___mul___list_int_3 l its.toArray n k t hfit hcap hlong) ⟨e,?_⟩⟩)
 rw[hnew]
 exact⟨.ref _,_,I.lnew (t':=s.toks) (r.rep k.toNat) (by rw[nL',cv];exact hz),rfl,q _ I.fresh⟩
end
section
variable {prog:Program} {w:World} {A:Around} {E:Value->Shared->Prop} {s:Shared}
end
section
variable {X:Cx}
end
end L2
namespace Att
open PySem PySem.W PySem.Calls PyProof.Rows
theorem dH' {P:Params} {h:Heap}:∀(ns:List Int) (vs:List Value),WellAll P h vs (ns.map WData.int)->IntsAre vs ns:=by
 intro ns
 induction ns with
 |nil=>
  intro vs w
  rw[List.map_nil]at w
  cases w
  exact .nil
 |cons n ns ih=>
  intro vs w
  rw[bg]at w
  cases w with
  |cons a b=>
   cases a
   exact .cons _ _ (ih _ b)
theorem iz' {l:OpenLaw} {n:Nat} (hn:l.most=some n) {P:Params} {h:Heap} {args:List WData} {vals:List Value}
  (hpre:l.row.toRowW.claim.pre args=true) (hwl:WellAll P h vals args):
  ∃a vs ns,vals=[Value.ref a]/\args=[WData.list (ns.map WData.int)]/\h.get? a=some { cls:=.type "list",data:=.seq vs.toArray }/\IntsAre vs ns/\ns.length<=n:=by
 have hsh:WShape.hasAll [] args [.list .int]=true:=(pre_splitW hpre).1
 have hc:l.pre.holds [] { args:=args }=true:=(pre_splitW hpre).2
 obtain⟨d,r,rfl,h1,h2⟩:=hasAllW_cons hsh
 obtain rfl:=hasAllW_nil h2
 obtain⟨xs,rfl,h3⟩:=hasW_list h1
 obtain⟨ns,rfl⟩:=items_int h3
 have hlen:ns.length<=n:=by
  unfold OpenLaw.pre at hc
  have h4:(WTm.not (.lt (.lit (.int (n:Int))) (.len (.arg 0)))).holds [] { args:=[.list (ns.map .int)] }=true:=by
   have h4:=(holds_andW hc).1
   rw[hn]at h4
   exact h4
  have h5:=condW_of h4 (w_not (w_lt w_lit (w_len_list (w_arg rfl))))
  rw[ah]at h5
  refine Nat.le_of_not_lt fun q=>?_
  have q':(n:Int)<((ns.length:Nat):Int):=by omega
  first
   |(rw[decide_eq_true q']at h5;exact absurd h5 (by decide))
   |(simp at h5;omega)
 cases hwl with
 |cons w1 w2=>
  cases w2
  cases w1 with
  |list ho hall=>exact⟨_,_,ns,rfl,rfl,ho,dH' ns _ hall,hlen⟩
theorem iA' (l:OpenLaw) (args:List WData):l.row.toRowW.claim.post args (.bool true) args=true:=
 postW_of (r:=l.row.toRowW) (X:=(true == true))
  (show WShape.has [] (.bool true) .bool=true by first|rfl|decide|simp[WShape.has,WShape.arms,WShape.armsAll])
  (show(WTm.eq .res (.lit (.bool true))).value [] { args:=args,res:=some (.bool true),after:=args }=some (.bool (true == true)) from w_eq_bool (w_res rfl) w_lit) rfl
theorem fV' {l:OpenLaw} {n:Nat} {q:Program} {loose:List Str} {XP:(Str->Option Value)->Heap->Prop} {YP:World->Heap->Prop} {d:DefRec}
  (hn:l.most=some n) (hdf:d.params.defaults=[])
  (call:∀(w:World) (s₀ s₁:Shared) (mg mb:Str->Option Value) (fa:Addr) (o:Obj) (pm cd doc:Value) (a:Addr) (vs:List Value) (ns:List Int),
   Ground q loose [] XP w s₀ mg mb s₁.heap->YP w s₁.heap->
   s₁.heap.get? fa=some o->o.data=.func (docDef d.name d.params d.body d.scope pm cd doc)->s₁.heap.CodeRec cd d.name->mg d.name=some (.ref fa)->
   s₁.heap.get? a=some { cls:=.type "list",data:=.seq vs.toArray }->IntsAre vs ns->ns.length<=n->s₁.gens=#[]->
   codeAny (model l.prog w) callerA (.call (.ref fa) ⟨[.ref a],[]⟩) (fun r s'=>r=.ok (.ret (.bool true))/\OldK s₁.heap s'.heap/\s'.os=s₁.os/\AllBare s'.gens) s₁):
  WalkO q loose XP YP l.row.toRowW d [] (fun f vs=>PySem.call f vs):=by
 intro w s₀ s₁ mg mb G Y fa o pm cd doc dV kV ho hd hcd hD hmg hg args vals as hpre hlay hrd hwl hlo
 obtain rfl:dV=.none:=Dflts.none hD hdf
 obtain rfl:kV=.none:=Dflts.noKw hD
 obtain⟨a,vs,ns,rfl,rfl,hobj,hints,hlen⟩:=iz' hn hpre hwl
 refine enter_call (codeAny_mono (call w s₀ s₁ mg mb fa o pm cd doc a vs ns G Y ho (fd_plain hd) hcd hmg hobj hints hlen hg) fun r s' hq=>?_)
 obtain⟨rfl,h2,h3,h4⟩:=hq
 exact⟨.inl ⟨.bool true,.bool true,[],rfl,fun _=>rfl,.bool true,iA' l _,fun _=>⟨List.Pairwise.nil,fun _ hm=>(nomatch hm)⟩⟩,h2,h3,h4⟩
section
variable {prog:Program} {w:World} {A:Around} {E:Value->Shared->Prop} {s:Shared} {K:Frag}
end
end Att
namespace L2
open PySem PySem.Spec PyProof.Rows
theorem fb':∀{vs:List Value} {ns:List Int},IntsAre vs ns->ay' (ns.map V.int) vs
 |_,_,.nil=>.nil
 |_,_,.cons n t h=>.cons ⟨t,rfl⟩ (fb' h)
def t5' (H:Hp):Prop:=∀b,H b=none\/∃o xs,H b=some (.frz o (.lst xs))
theorem kR' {P:Program} {w:World} {K:W.Frag} {mg mb:Str->Option Value} {CX:CXT} {k:Nat} {fa a:Addr} {fd:FuncData} {x:Str} {sp:Sp} {s₁:Shared} {vs:List Value} {ns:List Int}
  (KX:K.In s₁.heap) (hns:s₁.heap.Ns mainGlobals mg) (hb:s₁.heap.Ns builtinsNs mb) (hbb:∀x:Str,x≠"__name__"->mb x=bootBuiltins x) (hlim:s₁.heap.NoLimit) (hg:s₁.gens=#[])
  (ha:s₁.heap.get? a=some { cls:=.type "list",data:=.seq vs.toArray }) (hi:IntsAre vs ns) (hl:ns.length<=sizeLine) (hr:Room k callerA)
  (F:∀base:Heap,K.In base->base.Ns mainGlobals mg->FnOk P w K mg base CX k fa fd [x] sp) (hbind:∀(s:Shared) (u:Value),BindsTo s fd ⟨[u],[]⟩ [(x,u)])
  (hsp:∀H:Hp,t5' H->SqL K H a (ns.map V.int)->sp [.ref a] H (fun v _=>v=.bl true) fun _ _ _=>False)
  (hCX:∀H e s',CX [] H s₁ (fun _ _ _=>False) e s'->False):
  codeAny (model P w) callerA (.call (.ref fa) ⟨[.ref a],[]⟩) (fun r s'=>r=.ok (.ret (.bool true))/\OldK s₁.heap s'.heap/\s'.os=s₁.os/\AllBare s'.gens) s₁:=by
 have rv:=fb' hi
 have lenV:=hi.length
 have core:∀H:Hp,t5' H->SqL K H a (ns.map V.int)->HOk P w H s₁.heap->(∀b,H b≠none->b=a)->(H a≠none->K.lookup a=none)->
   codeAny (model P w) callerA (.call (.ref fa) ⟨[.ref a],[]⟩) (fun r s'=>r=.ok (.ret (.bool true))/\OldK s₁.heap s'.heap/\s'.os=s₁.os/\AllBare s'.gens) s₁:=by
  intro H hO hS hok hA hK
  have base_of:∀{b:Addr} {o:Obj},s₁.heap.get? b=some o->H b=none->(kw' s₁.heap H).get? b=some o:=fun e n=>kx' e n
  have noA:∀{b:Addr} {o:Obj} {es:Array DictEntry} {ep:Nat},s₁.heap.get? b=some o->o.data=.dict es ep->H b=none:=fun {b o es ep} e d=>by
   cases q:H b with
   |none=>rfl
   |some u=>
    have e':b=a:=hA b (by rw[q];simp)
    subst e'
    rw[ha]at e;cases e
    have d':Data.seq vs.toArray _=Data.dict es ep:=d
    cases d'
  have nsK:∀{b:Addr} {m:Str->Option Value},s₁.heap.Ns b m->(kw' s₁.heap H).Ns b m:=fun {b m} ⟨o,es,ep,e,d,r⟩=>⟨o,es,ep,base_of e (noA e d),d,r⟩
  have hKb:K.In (kw' s₁.heap H):=fun b o e=>base_of (KX b o e) (by
   cases q:H b with
   |none=>rfl
   |some u=>
    have e':b=a:=hA b (by rw[q];simp)
    subst e'
    rw[hK (by rw[q];simp)]at e;cases e)
  have hM:Mod K mg (kw' s₁.heap H):=⟨hKb,nsK hns,⟨mb,nsK hb,hbb⟩,let⟨mc,h1,h2⟩:=hlim;⟨mc,nsK h1,h2⟩⟩
  have e0:Env0 P w K mg (kw' s₁.heap H) callerA [] s₁ H:=⟨rfl,hM,fun b o e=>nl' e,Nat.le_of_eq (h9' _ _),trivial,fun b hb=>absurd (show b∈([]:List Addr) from hb) (by simp),hok,.of_eq hg⟩
  refine codeAny_mono ((F _ hKb (nsK hns)).run callerA [] s₁ H ⟨[.ref a],[]⟩ [.ref a] [.ref a] _ _ hr e0 (hbind s₁ (.ref a)) (.cons rfl .nil) (hsp H hO hS)) fun r s' h=>?_
  cases r with
  |error e=>exact(hCX H e s' h).elim
  |ok fl=>
   cases fl with
   |next=>exact False.elim h
   |brk=>exact False.elim h
   |cont=>exact False.elim h
   |ret u=>
    obtain⟨v,H',os,bare,un,hok',r',q⟩:=h
    have q':v=.bl true:=q
    subst q'
    obtain rfl:u=Value.bool true:=r'
    refine⟨rfl,OldK.of_keep fun b o e=>?_,os,bare⟩
    cases q:H b with
    |none=>exact un.keep b o e q (by intro z;exact absurd (show b∈([]:List Addr) from z) (by simp)) (by simp)
    |some u=>
     rcases hO b with z|⟨ob,xs,z⟩
     .rw[q]at z;cases z
     .have z2:=un.frzs b ob _ z
      obtain⟨e1,_⟩:=hok b _ z
      obtain⟨e2,_⟩:=hok' b _ z2
      rw[e]at e1;cases e1
      exact e2
 cases hk:K.lookup a with
 |some o=>
  have e:=KX a o hk
  rw[ha]at e
  cases e
  refine core (fun _=>none) (fun _=>.inl rfl) (.inr ⟨_,vs.toArray,_,hk,rfl,rfl,rfl,by rw[aj,lenV];exact hl,by simpa using rv⟩) (fun b u z=>by have z':(none:Option HO)=some u:=z;cases z') (fun b z=>absurd rfl z) fun z=>absurd rfl z
 |none=>
  refine core (fun b=>if b=a then some (.frz { cls:=.type "list",data:=.seq vs.toArray } (.lst (ns.map V.int)))else none) (fun b=>?_) (.inl (.inr ⟨{ cls:=.type "list",data:=.seq vs.toArray },if_pos rfl⟩)) (fun b u z=>?_) (fun b z=>?_) fun _=>hk
  .by_cases hb:b=a
   .exact .inr ⟨_,_,if_pos hb⟩
   .exact .inl (if_neg hb)
  .by_cases hb:b=a
   .have z':=(if_pos hb).symm.trans z
    cases z'
    subst hb
    exact⟨ha,by rw[ah];exact hl,vs,_,rv,ha⟩
   .have z':=(if_neg hb).symm.trans z
    cases z'
  .by_cases hb:b=a
   .exact hb
   .exact absurd (if_neg hb) z
theorem nM' {l:W.OpenLaw} {n k:Nat} {q:Program} {loose:List Str} {XP:(Str->Option Value)->Heap->Prop} {YP:World->Heap->Prop} {d:DefRec} {K:Params->W.Frag} {CX:World->CXT} {sp:World->Sp} {x:Str}
  (hn:l.most=some n) (hn2:n<=sizeLine) (hdf:d.params.defaults=[]) (hr:Room k callerA)
  (hY:∀(w:World) (h:Heap),YP w h->(K w.params).In h)
  (F:∀(w:World) (mg:Str->Option Value) (fa:Addr) (h:Heap),(K w.params).In h->h.Ns mainGlobals mg->mg d.name=some (.ref fa)->
   ∃fd:FuncData,(∀(s:Shared) (u:Value),BindsTo s fd ⟨[u],[]⟩ [(x,u)])/\
    ∀base:Heap,(K w.params).In base->base.Ns mainGlobals mg->FnOk l.prog w (K w.params) mg base (CX w) k fa fd [x] (sp w))
  (hsp:∀(w:World) (H:Hp) (a:Addr) (ns:List Int),ns.length<=n->t5' H->SqL (K w.params) H a (ns.map V.int)->sp w [.ref a] H (fun v _=>v=.bl true) fun _ _ _=>False)
  (hCX:∀(w:World) (H:Hp) (s:Shared) (e:Value) (s':Shared),CX w [] H s (fun _ _ _=>False) e s'->False):
  W.WalkO q loose XP YP l.row.toRowW d [] (fun f vs=>PySem.call f vs):=by
 refine Att.fV' hn hdf fun w s₀ s₁ mg mb fa o pm cd doc a vs ns G Y ho hd hcd hmg hobj hints hlen hg=>?_
 have KX:=hY w _ Y
 obtain⟨fd,hb,hF⟩:=F w mg fa _ KX G.T.g hmg
 exact kR' KX G.T.g G.T.b G.T.builtins G.T.nolimit hg hobj hints (au hlen hn2) hr hF hb (fun H hO hS=>hsp w H a ns hlen hO hS) fun H e s'=>hCX w H s₁ e s'
def dc' (s:Stmt):Arguments:=match s with
 | .FunctionDef _ a _ _ _ _ _ _ _ _=>a
 |_=>{ posonlyargs:=[],args:=[],vararg:=none,kwonlyargs:=[],kw_defaults:=[],kwarg:=none,defaults:=[] }
def ai' (s:Stmt):List Stmt:=match s with
 | .FunctionDef _ _ b _ _ _ _ _ _ _=>b
 |_=>[]
def ac' (s:Stmt):Scope:=match s with
 | .FunctionDef _ _ _ _ _ _ sc _ _ _=>sc
 |_=>{ kind:=.function,names:=[],isGenerator:=false,isCoroutine:=false }
abbrev CX0:CXT:=fun _ _ _ _ _ _=>False
abbrev E0:XK:=fun _ _ _=>False
structure Fun (K:W.Frag) (x qual:Str) (st:Stmt) (f:Addr) (fd:FuncData):Prop where
 ex:∃(oc:Value) (od:Option Addr) (kV doc pm:Value) (an:Option Addr) (cdv ct:Value) (osl:Array (Option Value)),
  fd=W.fnOf x qual (dc' st) (ai' st) (ac' st) .none kV doc pm an cdv ct/\K.lookup f=some ⟨oc,od,.func fd,osl⟩/\W.codeIn K cdv qual=true
 kp:W.keepIn K (.ref f)=true
section
variable {P:Program} {w:World} {K:W.Frag} {mg:Str->Option Value} {base:Heap}
theorem Fun.ok {x qual:Str} {st:Stmt} {f:Addr} {fd:FuncData} {N ps:List Str} {k:Nat} {sp:Sp} (F:Fun K x qual st f fd) (S:FnScope N ps (ac' st)) (len:∀vs H Q E,sp vs H Q E->vs.length=ps.length)
  (hbody:∀(cdv:Value) (A:Around) (outer:List Env) (s:Shared) (H:Hp) (vs:List V) (Q:VK) (E:XK),Room k (A.deeper (envOfC qual (ac' st) s.heap.objs.size f cdv))->sp vs H Q E->
   ∃t,PSs (pA' CX0 P w K mg base N qual (ac' st) f cdv A outer s H E).nox (ai' st) t/\t { nx:=fun _ H'=>Q .non H',rt:=Q } (ax' N vs) H):FnOk P w K mg base CX0 (k+1) f fd ps sp:=by
 obtain⟨oc,od,kV,doc,pm,an,cdv,ct,osl,rfl,lk,hcd⟩:=F.ex
 refine t2' lk hcd S len fun A outer s H vs Q E hr hsp=>?_
 obtain⟨t,h,q⟩:=hbody cdv A outer s H vs Q E hr hsp
 exact⟨t,h.nox,q⟩
theorem Fun.binds {x qual:Str} {st:Stmt} {f:Addr} {fd:FuncData} {ps:List Str} (F:Fun K x qual st f fd)
  (h:∀(kV doc pm:Value) (an:Option Addr) (cdv ct:Value) (us:List Value),us.length=ps.length->bindArgs (W.fnOf x qual (dc' st) (ai' st) (ac' st) .none kV doc pm an cdv ct) ⟨us,[]⟩=pure (ps.zip us)):dZ' K fd ps []:=by
 obtain⟨oc,od,kV,doc,pm,an,cdv,ct,osl,rfl,lk,hcd⟩:=F.ex
 exact .all (h kV doc pm an cdv ct)
theorem qi' {x qual:Str} {st:Stmt} {f:Addr} {oc:Value} {od an:Option Addr} {osl:Array (Option Value)} {kV doc pm cdv ct:Value} (l:K.lookup f=some ⟨oc,od,.func (W.fnOf x qual (dc' st) (ai' st) (ac' st) .none kV doc pm an cdv ct),osl⟩)
  (c:W.codeIn K cdv qual=true) (k:W.keepIn K (.ref f)=true):Fun K x qual st f (W.fnOf x qual (dc' st) (ai' st) (ac' st) .none kV doc pm an cdv ct):=⟨⟨oc,od,kV,doc,pm,an,cdv,ct,osl,rfl,l,c⟩,k⟩
end
theorem an' {n:Nat} (h:n<=1000):n<sizeLine:=bZ h (by decide)
section
variable {X:Cx}
theorem pv (i:Nat) {x:Str} {pos:Pos} (hN:X.N[i]?=some x:=by rfl) (hv:Vis X.env.scope x:=by first|exact Or.inl rfl|exact Or.inr (Or.inl rfl)|exact Or.inr (Or.inr rfl)) (hd:(x == ("__debug__":Str))=false:=by decide)
  (hcd:(x == ("__classdict__":Str))=false:=by decide):PE X (.Name x pos) (th' i):=mu' hN hv hd hcd
end
def aG' (H H':Hp):Prop:=∀b o,H b=some o->H' b=some o
theorem aG'.refl (H:Hp):aG' H H:=fun _ _ h=>h
theorem aG'.trans {H H1 H2:Hp} (a:aG' H H1) (b:aG' H1 H2):aG' H H2:=fun c o h=>b c o (a c o h)
theorem aG'.free {H H':Hp} (e:aG' H H') {l:Addr} (h:H' l=Option.none):H l=Option.none:=by
 cases q:H l with
 |none=>rfl
 |some o=>
  rw[e l o q]at h
  cases h
theorem aG'.seq {K:W.Frag} {H H':Hp} {a:Addr} {xs:List V} (e:aG' H H') (h:SqL K H a xs):SqL K H' a xs:=by
 rcases h with(h|⟨o,h⟩)|h
 .exact .inl (.inl (e _ _ h))
 .exact .inl (.inr ⟨o,e _ _ h⟩)
 .exact .inr h
def b4' (cells:List (Str×Addr)):List (Str×NameKind)->List (Str×Addr)->List (Str×Addr)
 | [],acc=>acc
 |(n,k) :: r,acc=>if k == .free then b4' cells r ((n,(cells.lookup n).getD 0) :: acc)else b4' cells r acc
def fc' (env:Env) (x:Str×NameKind) (r:List (Str×Addr)):Sem (ForInStep (List (Str×Addr))):=
 match x with|(name,kind)=>if(kind == .free)=true then(do let a <- cellOf env name;pure (ForInStep.yield ((name,a) :: r)))else pure (ForInStep.yield r)
theorem qj' {env:Env}:∀(names:List (Str×NameKind)) (acc:List (Str×Addr)),(∀n,(n,NameKind.free)∈names->∃c,env.cells.lookup n=some c)->
   forIn names acc (fc' env)=(pure (b4' env.cells names acc):Sem _):=by
  intro names
  induction names with
  |nil=>intro acc _;rfl
  |cons x r ih=>
   intro acc hh
   obtain⟨n,k⟩:=x
   rw[List.forIn_cons]
   have hr:=fun m hm=>hh m (az _ hm)
   by_cases hk:k=.free
   .subst hk
    obtain⟨c,hc⟩:=hh n aJ
    have e1:cellOf env n=(pure c:Sem Addr):=by unfold cellOf;rw[hc]
    have e2:fc' env (n,NameKind.free) acc=pure (ForInStep.yield ((n,c) :: acc)):=by
     unfold fc'
     dsimp only
     rw[if_pos (by rfl),e1]
     rfl
    rw[e2]
    have e3:=ih ((n,c) :: acc) hr
    have e4:b4' env.cells ((n,NameKind.free) :: r) acc=b4' env.cells r ((n,c) :: acc):=by
     show(if(NameKind.free == NameKind.free)=true then _ else _)=_
     rw[if_pos (by rfl),hc]
     rfl
    rw[e4,<- e3]
    rfl
   .have hb:(k == NameKind.free)=false:=by simpa using hk
    have e2:fc' env (n,k) acc=pure (ForInStep.yield acc):=by
     unfold fc'
     dsimp only
     rw[if_neg (by rw[hb];exact aq)]
    rw[e2]
    have e4:b4' env.cells ((n,k) :: r) acc=b4' env.cells r acc:=by
     show(if(k == NameKind.free)=true then _ else _)=_
     rw[if_neg (by rw[hb];exact aq)]
    rw[e4,<- ih acc hr]
    rfl
theorem nN' {env:Env} {scope:Scope} (h:∀n,(n,NameKind.free)∈scope.names->∃c,env.cells.lookup n=some c):closureFor scope env=pure (b4' env.cells scope.names []):=by
 have e:=qj' (env:=env) scope.names [] h
 unfold closureFor
 have q:∀f:Str×NameKind->List (Str×Addr)->Sem (ForInStep (List (Str×Addr))),(∀x r,f x r=fc' env x r)->(forIn scope.names ([]:List (Str×Addr)) f >>= fun r=>pure r)=(pure (b4' env.cells scope.names []):Sem _):=by
  intro f hf
  have:f=fc' env:=funext fun x=>funext fun r=>hf x r
  rw[this,e]
  rfl
 refine q _ fun x r=>?_
 obtain⟨n,k⟩:=x
 unfold fc'
 first|done|(dsimp only;done)|(dsimp only;cases hk:k == NameKind.free<;>simp[hk])
set_option tactic.hygienic true in
theorem dI' {cells:List (Str×Addr)}:∀{names:List (Str×NameKind)} {acc:List (Str×Addr)} {n:Str} {c:Addr},(n,c)∈b4' cells names acc->(n,c)∈acc\/((n,NameKind.free)∈names/\c=(cells.lookup n).getD 0)
 | [],_,_,_,h=>.inl h
 |(m,k) :: r,acc,n,c,h=>by
  unfold b4' at h
  split at h
  .rename_i hk
   have hk':k=.free:=by simpa using hk
   subst hk'
   rcases dI' h with q|⟨q,e⟩
   .rcases ai.mp q with q|q
    .cases q;exact .inr ⟨aJ,rfl⟩
    .exact .inl q
   .exact .inr ⟨az _ q,e⟩
  .rcases dI' h with q|⟨q,e⟩
   .exact .inl q
   .exact .inr ⟨az _ q,e⟩
set_option tactic.hygienic true in
theorem dJ' {cells:List (Str×Addr)}:∀{names:List (Str×NameKind)} {acc:List (Str×Addr)} {n:Str},((n,NameKind.free)∈names\/∃c,(n,c)∈acc)->∃c,(n,c)∈b4' cells names acc
 | [],_,_,h=>by
  rcases h with h|h
  .simp at h
  .exact h
 |(m,k) :: r,acc,n,h=>by
  unfold b4'
  split
  .rename_i hk
   refine dJ' ?_
   rcases h with h|⟨c,h⟩
   .rcases ai.mp h with h|h
    .cases h;exact .inr ⟨_,aJ⟩
    .exact .inl h
   .exact .inr ⟨c,az _ h⟩
  .rename_i hk
   refine dJ' ?_
   rcases h with h|h
   .rcases ai.mp h with h|h
    .cases h;exact absurd rfl hk
    .exact .inl h
   .exact .inr h
theorem aE':∀(names:List (Str×NameKind)) (n:Nat) (acc:List (Str×Addr)),cellsFrom n names acc=cellsFrom n names []++acc
 | [],_,_=>rfl
 |(x,k) :: r,n,acc=>by
  unfold cellsFrom
  split
  .rw[aE' r (n+1) ((x,n) :: acc),aE' r (n+1) [(x,n)],bO]
   rfl
  .exact aE' r n acc
theorem bR' {α:Type}:∀{l:List (Str×α)} {n:Str} {c:α},(n,c)∈l->∃c',l.lookup n=some c'
 |(k,v) :: r,n,c,h=>by
  rw[br]
  cases hb:n == k with
  |true=>exact⟨v,rfl⟩
  |false=>
   rcases ai.mp h with e|h
   .cases e;simp at hb
   .exact bR' h
theorem bX' {env:Env}:∀{names:List (Str×NameKind)} {x:Str} {k':NameKind},
  (names.map fun(n,k)=>if(k == NameKind.free&&env.scope.kind == .function&&env.kindOf n == some .cell)then(n,NameKind.cell)else(n,k)).lookup x=some k'->∃k,names.lookup x=some k/\(k'=k\/(k=.free/\k'=.cell))
 | [],_,_,h=>by simp at h
 |(n,k) :: r,x,k',h=>by
  have ih:=@bX' env r x k'
  rw[bg]at h
  by_cases hc:(k == NameKind.free&&env.scope.kind == .function&&env.kindOf n == some .cell)=true
  .have e1:(match ((n,k):Str×NameKind)with|(n,k)=>if(k == NameKind.free&&env.scope.kind == .function&&env.kindOf n == some .cell)=true then(n,NameKind.cell)else(n,k))=(n,NameKind.cell):=if_pos hc
   rw[e1,br]at h
   rw[br]
   cases hx:x == n with
   |true=>
    rw[hx]at h
    cases h
    refine⟨k,rfl,.inr ⟨?_,rfl⟩⟩
    simp only[af]at hc
    exact beq_iff_eq.mp hc.1.1
   |false=>rw[hx]at h;exact ih h
  .have e1:(match ((n,k):Str×NameKind)with|(n,k)=>if(k == NameKind.free&&env.scope.kind == .function&&env.kindOf n == some .cell)=true then(n,NameKind.cell)else(n,k))=(n,k):=if_neg hc
   rw[e1,br]at h
   rw[br]
   cases hx:x == n with
   |true=>rw[hx]at h;cases h;exact⟨k,rfl,.inl rfl⟩
   |false=>rw[hx]at h;exact ih h
theorem aX' {env:Env}:∀{names:List (Str×NameKind)} {x:Str} {k:NameKind},names.lookup x=some k ->
  ∃k',(names.map fun(n,k)=>if(k == NameKind.free&&env.scope.kind == .function&&env.kindOf n == some .cell)then(n,NameKind.cell)else(n,k)).lookup x=some k'/\(k'=k\/(k=.free/\k'=.cell))
 | [],_,_,h=>by simp at h
 |(n,k0) :: r,x,k,h=>by
  have ih:=@aX' env r x k
  rw[bg]
  by_cases hc:(k0 == NameKind.free&&env.scope.kind == .function&&env.kindOf n == some .cell)=true
  .have e1:(match ((n,k0):Str×NameKind)with|(n,k)=>if(k == NameKind.free&&env.scope.kind == .function&&env.kindOf n == some .cell)=true then(n,NameKind.cell)else(n,k))=(n,NameKind.cell):=if_pos hc
   rw[e1,br]
   rw[br]at h
   cases hx:x == n with
   |true=>
    rw[hx]at h
    cases h
    refine⟨_,rfl,.inr ⟨?_,rfl⟩⟩
    simp only[af]at hc
    exact beq_iff_eq.mp hc.1.1
   |false=>rw[hx]at h;exact ih h
  .have e1:(match ((n,k0):Str×NameKind)with|(n,k)=>if(k == NameKind.free&&env.scope.kind == .function&&env.kindOf n == some .cell)=true then(n,NameKind.cell)else(n,k))=(n,k0):=if_neg hc
   rw[e1,br]
   rw[br]at h
   cases hx:x == n with
   |true=>rw[hx]at h;cases h;exact⟨_,rfl,.inl rfl⟩
   |false=>rw[hx]at h;exact ih h
section
variable {M:Model} {A:Around} {E:Value->Shared->Prop} {s:Shared}
abbrev bq' (h:Heap) (names:List (Str×NameKind)):Heap:=pushCells (h.push { cls:=.type "dict",data:=.dict #[] }) names
theorem ez' {scope:Scope} {globals:Addr} {cl:List (Str×Addr)} {qual:Str} {env:Env} {Q:Env->Shared->Prop}
  (h:Q (newEnv scope s.heap.objs.size globals (cellsFrom (s.heap.objs.size+1) scope.names cl) qual none .none (some env) builtinsNs) { s with heap:=bq' s.heap scope.names }):
  wpAny M A (newFunctionEnv scope globals cl [] qual none .none (some env)) Q E s:=by
 simp only[newFunctionEnv,Option.isSome_some,if_true]
 refine aa (wpAny_alloc ?_)
 refine aa (wpAny_layCells _ (fun name kind cells=>by cases hkc:kind == NameKind.cell<;>simp[hkc]) _ _ _ _ ?_)
 rw[show({ s with heap:=s.heap.push { cls:=.type "dict",data:=.dict #[] } }:Shared).heap.objs.size=s.heap.objs.size+1 from aZ ..]
 exact aa (ap (ap h))
end
def Cx.comp (X:Cx) (scope:Scope) (s₀:Shared) (H₀:Hp) (ex:List Addr):Cx:=
 { X with
  s₀:=s₀,H₀:=H₀
  env:={ newEnv scope s₀.heap.objs.size X.env.globals (cellsFrom (s₀.heap.objs.size+1) scope.names (b4' X.env.cells scope.names [])) X.env.qual none .none (some X.env) builtinsNs with scope:=relabel scope X.env }
  outer:=X.stack,ex:=ex,fn:=fun x=>((cellsFrom (s₀.heap.objs.size+1) scope.names []).lookup x).isSome,pn:=[],xe:=fun _ _=>False }
structure CompSc (X:Cx) (scope:Scope):Prop where
 kind:scope.kind=.function
 names:∀x∈scope.names,x.2=.local->scope.names.lookup x.1=some .local
 one:∀n,(n,NameKind.cell)∈scope.names->scope.names.lookup n=some .cell
 free:∀n,(n,NameKind.free)∈scope.names->X.env.kindOf n=some .cell\/X.env.kindOf n=some .free
set_option tactic.hygienic true in
theorem b8':∀{names:List (Str×NameKind)} {n:Nat} {x:Str} {c:Addr},(x,c)∈cellsFrom n names []->(x,NameKind.cell)∈names
 | [],_,_,_,h=>by simp[cellsFrom]at h
 |(y,k) :: r,n,x,c,h=>by
  unfold cellsFrom at h
  split at h
  .rename_i hk
   have hk':k=.cell:=by simpa using hk
   subst hk'
   rw[aE']at h
   rcases aH.mp h with h|h
   .exact az _ (b8' h)
   .have h':(x,c)=(y,n):=by simpa using h
    cases h'
    exact aJ
  .exact az _ (b8' h)
def clr (own:List Nat) (σ:St):St:=own.foldl (fun σ i=>σ.set i none) σ
theorem dK':∀(own:List Nat) (σ:St),(clr own σ).length=σ.length
 | [],_=>rfl
 |i :: r,σ=>by
  show(clr r (σ.set i none)).length=_
  rw[dK' r,List.length_set]
theorem dL':∀{own:List Nat} {σ:St} {i:Nat} {v:V},(clr own σ)[i]?=some (some v)->σ[i]?=some (some v)/\i∉own
 | [],_,_,_,h=>⟨h,by simp⟩
 |j :: r,σ,i,v,h=>by
  obtain⟨h1,h2⟩:=dL' (own:=r) (σ:=σ.set j none) h
  by_cases e:j=i
  .subst e
   rw[List.getElem?_set]at h1
   simp at h1
  .rw[bF e]at h1
   exact⟨h1,by simp;exact⟨fun z=>e z.symm,h2⟩⟩
theorem fW':∀{own:List Nat} {σ:St} {i:Nat},i∉own->(clr own σ)[i]?=σ[i]?
 | [],_,_,_=>rfl
 |j :: r,σ,i,h=>by
  have h1:i≠j:=fun z=>h (by simp[z])
  have h2:i∉r:=fun z=>h (by simp[z])
  show(clr r (σ.set j none))[i]?=_
  rw[fW' h2,bF (Ne.symm h1)]
section
variable {X:Cx} {pins:List (Addr×Obj)} {σ:St} {H H':Hp} {s s':Shared} {scope:Scope} {ex:List Addr} {own:List Nat}
theorem he' (I:Inv X pins σ H s) (S:CompSc X scope):
  (∀x c,(b4' X.env.cells scope.names []).lookup x=some c->X.env.cells.lookup x=some c)/\
  (∀x,(x,NameKind.free)∈scope.names->∃c,(b4' X.env.cells scope.names []).lookup x=some c)/\
  CellsOk (bq' s.heap scope.names) (s.heap.objs.size+1) (cellsFrom (s.heap.objs.size+1) scope.names []):=by
 have hc:∀x c,(x,c)∈b4' X.env.cells scope.names []->X.env.cells.lookup x=some c:=fun x c h=>by
  rcases dI' h with z|⟨z,e⟩
  .simp at z
  .obtain⟨c',e'⟩:=I.ok.has x (S.free x z)
   rw[e',Option.getD_some]at e
   rw[e',e]
 refine⟨fun x c h=>hc x c (PySem.mem_of_lookup h),fun x h=>?_,?_⟩
 .obtain⟨c,q⟩:=dJ' (cells:=X.env.cells) (acc:=[]) (.inl h)
  exact bR' q
 .have q:=cellsFrom_ok scope.names (s.heap.push { cls:=.type "dict",data:=.dict #[] }) (s.heap.objs.size+1) [] ⟨fun _ _ hm=>(nomatch hm),List.Pairwise.nil⟩ (by rw[aZ];exact ak _)
  rw[aZ]at q
  exact q
theorem hp' (I:Inv X pins σ H s) (hex:∀b∈ex,dY' X pins H b) (hlt:∀b∈ex,b<s.heap.objs.size) (S:CompSc X scope)
  (hown:∀i x,X.N[i]?=some x->(scope.names.lookup x=some .local\/scope.names.lookup x=some .cell)->i∈own):
  Inv (X.comp scope s H ex) [] (clr own σ) H { s with heap:=bq' s.heap scope.names }:=by
 obtain⟨hcl,hcf,ok⟩:=he' I S
 have lk:∀x c,(X.comp scope s H ex).env.cells.lookup x=some c->(cellsFrom (s.heap.objs.size+1) scope.names []).lookup x=some c\/((cellsFrom (s.heap.objs.size+1) scope.names []).lookup x=none/\X.env.cells.lookup x=some c):=fun x c h=>by
  have h':(cellsFrom (s.heap.objs.size+1) scope.names (b4' X.env.cells scope.names [])).lookup x=some c:=h
  rw[aE',List.lookup_append]at h'
  cases q:(cellsFrom (s.heap.objs.size+1) scope.names []).lookup x with
  |some d=>rw[q]at h';exact .inl h'
  |none=>rw[q]at h';exact .inr ⟨rfl,hcl x c h'⟩
 have newC:∀x c,(cellsFrom (s.heap.objs.size+1) scope.names []).lookup x=some c->(bq' s.heap scope.names).IsCell c none/\s.heap.objs.size+1<=c:=fun x c h=>ok.empty x c (PySem.mem_of_lookup h)
 have oldC:∀x c,X.env.cells.lookup x=some c->c<s.heap.objs.size:=fun x c h=>let⟨_,q⟩:=I.cell x c h;q.lt
 have keep:∀b o,s.heap.get? b=some o->(bq' s.heap scope.names).get? b=some o:=fun b o e=>pushCells_keeps _ _ b o (ab _ e)
 have fresh:∀b,s.heap.objs.size<=b->H b=none:=fun b hb=>I.hok.fresh hb
 have loc0:(X.comp scope s H ex).env.locals=s.heap.objs.size:=rfl
 refine⟨⟨I.ok.mod,S.kind,I.ok.glob,?_,ak _,fun x y c h1 h2=>?_,fun x hx=>?_,fun x c hf h=>?_,I.ok.hd,I.ok.frames,.inl rfl,fun b hb=>?_,I.bs,au I.ok.bsz I.sz,fun b o e hb=>?_,fun b hb=>?_,I.stack,I.stkFree⟩,
  rfl,I.bare,Un.kept keep,⟨fun _=>none,?_,fun i x v h1 h2 h3=>?_⟩,fun x c h=>?_,fresh _ (ak _),fun x c h=>?_,fun p hp=>absurd (show p∈([]:List (Addr×Obj)) from hp) (by simp),I.hok.kept keep,?_⟩
 .show X.env.builtins=_
  exact I.ok.blt
 .rcases lk x c h1 with q1|⟨_,q1⟩<;>rcases lk y c h2 with q2|⟨_,q2⟩
  .exact name_of_addr ok.apart (PySem.mem_of_lookup q1) (PySem.mem_of_lookup q2)
  .exact absurd (ag (oldC y c q2) (au (Nat.le_succ _) (newC x c q1).2)) (aU _)
  .exact absurd (ag (oldC x c q1) (au (Nat.le_succ _) (newC y c q2).2)) (aU _)
  .exact I.ok.inj x y c q1 q2
 .have hx':(relabel scope X.env).names.lookup x=some .cell\/(relabel scope X.env).names.lookup x=some .free:=hx
  have fin:∀k,scope.names.lookup x=some k->(k=.cell\/k=.free)->∃c,(cellsFrom (s.heap.objs.size+1) scope.names (b4' X.env.cells scope.names [])).lookup x=some c:=fun k hk hkk=>by
   rw[aE',List.lookup_append]
   rcases hkk with rfl|rfl
   .obtain⟨c,q⟩:=et' (n:=s.heap.objs.size+1) hk
    exact⟨c,by rw[q];rfl⟩
   .obtain⟨c,q⟩:=hcf x (PySem.mem_of_lookup hk)
    cases z:(cellsFrom (s.heap.objs.size+1) scope.names []).lookup x with
    |some d=>exact⟨d,rfl⟩
    |none=>exact⟨c,by rw[q];rfl⟩
  rcases hx' with hx'|hx'<;>obtain⟨k,hk,e⟩:=bX' hx'
  .rcases e with e|⟨e,_⟩
   .exact fin k hk (.inl e.symm)
   .exact fin k hk (.inr e)
  .rcases e with e|⟨e,_⟩
   .exact fin k hk (.inr e.symm)
   .exact fin k hk (.inr e)
 .rcases lk x c h with q|⟨q,_⟩
  .have:=(newC x c q).2
   show s.heap.objs.size<=c
   omega
  .have hf':((cellsFrom (s.heap.objs.size+1) scope.names []).lookup x).isSome=true:=hf
   rw[q]at hf'
   cases hf'
 .refine⟨?_,fun x c h=>?_⟩
  .show b≠s.heap.objs.size
   exact aw (hlt b hb)
  .rcases lk x c h with q|⟨_,q⟩
   .intro e
    rw[e]at q
    exact absurd (ag (hlt b hb) (au (Nat.le_succ _) (newC x b q).2)) (aU _)
   .exact(hex b hb).2.2.2.2.1 x c q
 .rcases(hex b hb).2.2.2.1 with z|z
  .exact I.ok.noex b o e z
  .exact absurd (ag (ao e) (au I.ok.bsz z)) (aU _)
 .intro z
  rcases ai.mp (I.stkSub b z)with e|e
  .exact(hex b hb).2.1 e
  .exact(hex b hb).2.2.1 e
 .show(bq' s.heap scope.names).Ns s.heap.objs.size _
  exact(Heap.Ns.new s.heap (.type "dict")).keeps (pushCells_keeps _ _)
 .obtain⟨h2,hno⟩:=dL' h2
  have h3':(relabel scope X.env).names.lookup x=some .local\/(relabel scope X.env).names.lookup x=some .cell\/(relabel scope X.env).names.lookup x=some .free:=h3
  have h3k:∃k',(relabel scope X.env).names.lookup x=some k'/\(k'=.local\/k'=.cell\/k'=.free):=by
   rcases h3' with z|z|z
   .exact⟨_,z,.inl rfl⟩
   .exact⟨_,z,.inr (.inl rfl)⟩
   .exact⟨_,z,.inr (.inr rfl)⟩
  obtain⟨k',hk',hkk⟩:=h3k
  obtain⟨k,hk,e⟩:=bX' hk'
  have hfree:k=.free:=by
   rcases e with e|⟨e,_⟩
   .subst e
    rcases hkk with z|z|z
    .subst z;exact absurd (hown i x h1 (.inl hk)) hno
    .subst z;exact absurd (hown i x h1 (.inr hk)) hno
    .exact z
   .exact e
  subst hfree
  have hm:=PySem.mem_of_lookup hk
  have hv:Vis X.env.scope x:=by
   rcases S.free x hm with z|z
   .exact .inr (.inl z)
   .exact .inr (.inr z)
  obtain⟨m,hn,hl⟩:=I.loc
  obtain⟨u,r,l⟩:=hl i x v h1 h2 hv
  refine⟨u,r,?_⟩
  have hkind:(X.comp scope s H ex).env.kindOf x=some .cell\/(X.comp scope s H ex).env.kindOf x=some .free:=by
   show(relabel scope X.env).names.lookup x=some .cell\/(relabel scope X.env).names.lookup x=some .free
   rcases e with e|⟨_,e⟩
   .subst e;exact .inr hk'
   .subst e;exact .inl hk'
  have hcc:∃c,X.env.cells.lookup x=some c/\s.heap.IsCell c (some u):=by
   rcases l with⟨kk,_⟩|⟨_,c,e1,e2⟩
   .rcases S.free x hm with z|z
    .rw[z]at kk;cases kk
    .rw[z]at kk;cases kk
   .exact⟨c,e1,e2⟩
  obtain⟨c,e1,e2⟩:=hcc
  refine .inr ⟨hkind,c,?_,e2.keeps keep⟩
  show(cellsFrom (s.heap.objs.size+1) scope.names (b4' X.env.cells scope.names [])).lookup x=some c
  rw[aE',List.lookup_append]
  have hnone:(cellsFrom (s.heap.objs.size+1) scope.names []).lookup x=none:=by
   cases z:(cellsFrom (s.heap.objs.size+1) scope.names []).lookup x with
   |none=>rfl
   |some d=>
    exfalso
    have q1:=S.one x (b8' (PySem.mem_of_lookup z))
    rw[hk]at q1
    cases q1
  obtain⟨c',q⟩:=hcf x hm
  have q':=hcl x c' q
  rw[e1]at q'
  cases q'
  rw[hnone,q]
  rfl
 .rcases lk x c h with q|⟨_,q⟩
  .exact⟨_,(newC x c q).1⟩
  .obtain⟨v,z⟩:=I.cell x c q
   exact⟨v,z.keeps keep⟩
 .rcases lk x c h with q|⟨_,q⟩
  .have:=(newC x c q).2
   exact fresh c (by omega)
  .exact I.freeC x c q
 .rw[dK']
  exact I.len
end
section
variable {X:Cx} {pins:List (Addr×Obj)} {σ:St} {H H':Hp} {s s':Shared} {scope:Scope} {ex:List Addr} {own:List Nat}
theorem nO' {P:Program} {w:World} {h h':Heap} {a:Addr} (x:HOk P w H h) (hn:H a=none) (hs:∀b o,b≠a->h.get? b=some o->h'.get? b=some o):HOk P w H h':=fun b ob e=>
 (x b ob e).stay (fun c w' hc q=>hs c w' (by
  rintro rfl
  rcases hc with rfl|hc
  .rw[hn]at e;cases e
  .rw[hn]at hc;cases hc) q) (fun _ q=>q) fun _ _ q=>q
theorem gr' {σ':St} {pins':List (Addr×Obj)} {h':Heap} (I:Inv X pins σ H s) (hex:∀b∈ex,dY' X pins H b) (J:Inv (X.comp scope s H ex) pins' σ' H' s') (hs:bW s.heap.objs.size s'.heap h'):
  Inv X pins σ H' { s' with heap:=h' }:=by
 have ne:∀b o,s.heap.get? b=some o->b≠s.heap.objs.size:=fun b o e=>aw (ao e)
 have u:Un (frs X.stack) ex H H' s.heap s'.heap:=J.base
 have hf:H' s.heap.objs.size=none:=J.free
 refine I.call' (s':={ s' with heap:=h' }) (ch:=ex) J.os ⟨fun b o e n hb hx=>?_,fun b o e n hb hx=>?_,u.free,fun b o e hx=>?_,u.tups,u.frzs,u.tbls⟩ (nO' J.hok hf fun b o hb e=>(hs.2 b hb).trans e) J.bare fun b hb=>?_
 .exact(hs.2 b (ne b o e)).trans (u.keep b o e n hb hx)
 .obtain⟨sl,q⟩:=u.slot b o e n hb hx
  exact⟨sl,(hs.2 b (ne b o e)).trans q⟩
 .obtain⟨o',q⟩:=u.there b o e hx
  exact⟨o',(hs.2 b (ne b o e)).trans q⟩
 .obtain⟨f0,f1,f2,f3,f4,f5⟩:=hex b hb
  exact⟨f3,f1,f4,f5⟩
end
def PTs (X:Cx) (ifs:List Expr) (t:TT):Prop:=∀(pins:List (Addr×Obj)) (s:Shared) (σ:St) (H:Hp) (Q:Bool->Hp->Prop),Inv X pins σ H s->t σ H Q->
 wpAny (model X.prog X.w) X.A (forIn ifs true fun c r=>if r=true then do let ok <- isTrue c X.env (eval c X.env);pure (ForInStep.yield ok)else pure (ForInStep.yield r)) (TP X pins σ Q) X.xe s
theorem nP' {X:Cx}:PTs X [] (fun _ H Q=>Q true H):=fun pins s σ H Q I h=>wpAny_tests_nil ⟨H,I,h⟩
theorem nQ' {X:Cx} {c:Expr} {t:TT} (hc:PT X c t):PTs X [c] t:=fun pins s σ H Q I h=>wpAny_tests_one (hc pins s σ H Q I h)
def Ext (ws:List Nat) (σ σ':St):Prop:=σ'.length=σ.length/\∀j,j∉ws->σ'[j]?=σ[j]?
theorem Ext.refl {ws:List Nat} {σ:St}:Ext ws σ σ:=⟨rfl,fun _ _=>rfl⟩
theorem Ext.trans {ws:List Nat} {σ σ1 σ2:St} (a:Ext ws σ σ1) (b:Ext ws σ1 σ2):Ext ws σ σ2:=⟨b.1.trans a.1,fun j hj=>(b.2 j hj).trans (a.2 j hj)⟩
theorem Ext.mono {ws ws':List Nat} {σ σ1:St} (a:Ext ws σ σ1) (h:∀j∈ws,j∈ws'):Ext ws' σ σ1:=⟨a.1,fun j hj=>a.2 j fun z=>hj (h j z)⟩
theorem Ext.clr {ws:List Nat} {σ:St}:Ext ws σ (clr ws σ):=⟨dK' _ _,fun j hj=>fW' hj⟩
theorem Ext.back {ws:List Nat} {σ σ':St} (a:Ext ws (L2.clr ws σ) σ') (i:Nat) (v:V) (h:(L2.clr ws σ)[i]?=some (some v)):σ'[i]?=some (some v):=by
 obtain⟨_,q⟩:=dL' h
 rw[a.2 i q]
 exact h
def qk' (ws:List Nat) (g:TG):Prop:=∀(x:V) (σ:St) (H:Hp) (Q:St->Hp->Prop),g x σ H Q->g x σ H fun σ2 H2=>Q σ2 H2/\Ext ws σ σ2
theorem iB' {i:Nat} {ws:List Nat} (h:i∈ws):qk' ws (fP' i):=fun x σ H Q q=>⟨q,by simp,fun j hj=>by
 have:i≠j:=fun z=>hj (z ▸ h)
 rw[bF this]⟩
def dz' (e:Expr) (d:Nat) (tg iter:Expr) (ifs:List Expr) (nx:Sem Unit) (it acc:Value) (env:Env):Sem Fin:=do
 standAt iter.pos
 match <- pyNext it with
 |none=>pure (.done .next)
 |some v=>
  letOwnedTupleGo tg it v
  assign tg env v
  let mut ok:=true
  for c in ifs do
   if ok then ok <- isTrue c env (eval c env)
  if ok then nx
  again (.compLoop e d it acc env)
abbrev TL (α:Type):=St->α->Hp->(α->Hp->Prop)->Prop
def eA' {α:Type} (X:Cx) (D:Addr) (Is:α->Obj->Prop) (ws:List Nat) (code:Sem Unit) (t:TL α):Prop:=
 ∀(pins:List (Addr×Obj)) (s:Shared) (σ:St) (H:Hp) (a:α) (o:Obj) (N:α->Hp->Prop),Inv X pins σ H s->dY' X pins H D->s.heap.get? D=some o->Is a o->t σ a H N->
  wpAny (model X.prog X.w) X.A code (fun _ s'=>∃σ' a' o' H',Inv X pins σ' H' s'/\Ext ws σ σ'/\s'.heap.get? D=some o'/\Is a' o'/\H' D=none/\N a' H') (fun _ _=>False) s
def bY' {α:Type} (ws:List Nat) (g:TG) (tc:TT) (a9':TL α) (J:It):TL α:=fun σ a H1 N=>
 ∃W:Nat->Nat->α->Hp->Prop,(∃m,W 0 m a H1)/\∀i m b H,W i m b H->
  (J.stop i H/\N b H)\/(J.go i H/\∀x H',J.yld i H x H'->g x (clr ws σ) H' fun σ2 H2=>tc σ2 H2 fun ok H3=>
   if ok=true then a9' σ2 b H3 (fun c H4=>∃m',m'<m/\W (i+1) m' c H4)else ∃m',m'<m/\W (i+1) m' b H3)
theorem iC' {α:Type} {Is:α->Obj->Prop} {X:Cx} {e:Expr} {d:Nat} {tg iter:Expr} {ifs:List Expr} {nx:Sem Unit} {it D:Addr} {fp:List Addr} {tn:Nat->Heap->Prop} {J:It} {g:TG} {tc:TT} {a9':TL α} {ws ws':List Nat}
  (hxe:X.xe=fun _ _=>False) (hcalm:X.calm=true)
  (hq:(Code.compLoop e d (.ref it) (.ref D) X.env).quiet=true) (hu:X.A.under (Code.compLoop e d (.ref it) (.ref D) X.env)=X.A)
  (hT:(model X.prog X.w).den (.compLoop e d (.ref it) (.ref D) X.env)=(dz' e d tg iter ifs nx (.ref it) (.ref D) X.env).onRaise (fun x=>do noteFrame x X.env;theTreesLotGoes x))
  (T:Turn X.prog X.w X.K tg J fp it tn) (hg:PG X tg g) (hge:qk' ws g) (ht:PTs X ifs tc) (hn:eA' X D Is ws' nx a9') (hws:∀j∈ws',j∈ws) (hIs:∀a o,Is a o->∀v,o.data≠.cell v) (hDf:D∉fp)
  {pins:List (Addr×Obj)} {s:Shared} {σ:St} {H:Hp} {a:α} {o:Obj} {N:α->Hp->Prop} (I:Inv X pins σ H s) (hf:∀b∈fp,dY' X pins H b) (hD:dY' X pins H D) (ho:s.heap.get? D=some o) (ha:Is a o) (h0:tn 0 s.heap)
  (hw:bY' ws g tc a9' J σ a H N):
  codeAny (model X.prog X.w) X.A (.compLoop e d (.ref it) (.ref D) X.env) (fun r s'=>r=.ok .next/\∃a' o' H',Inv X pins (clr ws σ) H' s'/\s'.heap.get? D=some o'/\Is a' o'/\H' D=none/\N a' H') s:=by
 obtain⟨W,⟨m0,w0⟩,turn⟩:=hw
 have stat:∀{H':Hp} {pl:List (Addr×Obj)},(∀b∈D :: fp,H' b=none)->(∀b∈D :: fp,dY' X pins H' b):=fun {H' pl} hn b hb=>by
  rcases ai.mp hb with rfl|hb'
  .exact⟨hn _ aJ,hD.2⟩
  .exact⟨hn b hb,(hf b hb').2⟩
 refine codeAny_loop hq (fun n s'=>∃i b ob H',Inv X pins (clr ws σ) H' s'/\tn i s'.heap/\(∀b∈D :: fp,H' b=none)/\s'.heap.get? D=some ob/\Is b ob/\W i n b H') ?_ m0
  ⟨0,a,o,H,I.weak (dK' _ _) (fun i v q=>(dL' q).1),h0,fun b hb=>by
   rcases ai.mp hb with rfl|hb'
   .exact hD.1
   .exact(hf b hb').1,ho,ha,w0⟩
 rintro n s3 ⟨i,b,ob,H3,I3,st3,fr3,o3,is3,w3⟩
 rw[hu,hT]
 refine wpAny_noted ?_
 have hE:∀{β:Type} {c:Sem β} {Q:β->Shared->Prop} {s:Shared} {E:Value->Shared->Prop},wpAny (model X.prog X.w) X.A c Q (fun _ _=>False) s->wpAny (model X.prog X.w) X.A c Q E s:=fun h=>wpAny_mono h (fun _ _ q=>q) fun _ _ q=>q.elim
 refine hE ?_
 unfold dz'
 refine aa (cI (aa ?_))
 have hxeE:∀{β:Type} {c:Sem β} {Q:β->Shared->Prop} {s:Shared},wpAny (model X.prog X.w) X.A c Q X.xe s->wpAny (model X.prog X.w) X.A c Q (fun _ _=>False) s:=fun h=>by rw[hxe]at h;exact h
 have pD:Inv X (pins++cY' [D] s3.heap) (clr ws σ) H3 s3:=I3.pinned (fun b hb=>by
  have e:b=D:=by simpa using hb
  subst e
  exact stat (pl:=[]) fr3 b aJ) (fun b hb=>by
  have e:b=D:=by simpa using hb
  subst e
  exact⟨ob,o3,hIs _ _ is3⟩)
 have mD:(D,ob)∈cY' [D] s3.heap:=bz' (by simp) o3
 have fpD:∀{H':Hp},(∀b∈fp,H' b=none)->∀b∈fp,dY' X (pins++cY' [D] s3.heap) H' b:=fun {H'} hn b hb=>by
  obtain⟨_,f1,f2,f3,f4,f5⟩:=hf b hb
  refine⟨hn b hb,f1,f2,f3,f4,fun p hp=>?_⟩
  rcases aH.mp hp with q|q
  .exact f5 p (bE _ q)
  .rcases aH.mp q with q|q
   .exact f5 p (ax _ q)
   .have e:p.1=D:=by simpa using(dE' q).1
    rw[e]
    rintro rfl
    exact hDf hb
 have fr3':∀b∈fp,H3 b=none:=fun b hb=>fr3 b (az _ hb)
 rcases turn i n b H3 w3 with⟨stop,qn⟩|⟨go,step⟩
 .refine thn (T.done X rfl rfl rfl hcalm i _ s3 _ H3 _ pD (fpD fr3') st3 stop) fun r s4 ⟨hr,I4⟩=>?_
  subst hr
  have q4:=I4.pin (D,ob) (ax _ (ax _ mD))
  exact ap ⟨rfl,b,ob,H3,I4.unpinned,q4.1,is3,q4.2.1,qn⟩
 .refine thn (T.item X rfl rfl rfl hcalm i _ s3 _ H3 _ pD (fpD fr3') st3 go) fun r s4 ⟨u,hr,h4⟩=>?_
  subst hr
  refine aa (thn h4 fun _ s5 ⟨x,H5,I5,r5,y5,st5,fr5⟩=>?_)
  have I5':=I5.pinned (fpD fr5) (T.obj _ _ st5)
  refine aa (thn (hxeE (hg _ s5 _ H5 x u _ I5' r5 (hge x _ H5 _ (step x H5 y5)))) fun _ s6 ⟨σ6,H6,I6,q6,x6⟩=>?_)
  refine aa (thn (hxeE (ht _ s6 σ6 H6 _ I6 q6)) fun ok s7 ⟨H7,I7,q7⟩=>?_)
  have q7D:=I7.pin (D,ob) (ax _ (bE _ (ax _ mD)))
  have q7f:∀b∈fp,∀o,s5.heap.get? b=some o->s7.heap.get? b=some o/\H7 b=none:=fun b hb o e =>
   let q:=I7.pin (b,o) (ax _ (ax _ (bz' hb e)))
   ⟨q.1,q.2.1⟩
  have st7:tn (i+1) s7.heap:=T.keep _ _ _ st5 fun b hb o e=>(q7f b hb o e).1
  have fr7:∀b∈fp,H7 b=none:=fun b hb=>by
   obtain⟨o,e,_⟩:=T.obj _ _ st5 b hb
   exact(q7f b hb o e).2
  have I7':Inv X pins σ6 H7 s7:=I7.unpinned.unpinned
  cases ok with
  |false=>
   have q7':∃m',m'<n/\W (i+1) m' b H7:=q7
   obtain⟨m',hm,w7⟩:=q7'
   refine ap ⟨rfl,m',hm,i+1,b,ob,H7,I7'.weak ?_ x6.back,st7,fun c hc=>?_,q7D.1,is3,w7⟩
   .rw[x6.1]
   .rcases ai.mp hc with rfl|hc'
    .exact q7D.2.1
    .exact fr7 c hc'
  |true=>
   have I7p:=I7'.pinned (fun b hb=>stat (pl:=[]) (fun c hc=>by
    rcases ai.mp hc with rfl|hc'
    .exact q7D.2.1
    .exact fr7 c hc') b (az _ hb)) (T.obj _ _ st7)
   have fD:dY' X (pins++cY' fp s7.heap) H7 D:=by
    obtain⟨_,f1,f2,f3,f4,f5⟩:=hD
    refine⟨q7D.2.1,f1,f2,f3,f4,fun p hp=>?_⟩
    rcases aH.mp hp with q|q
    .exact f5 p (bE _ q)
    .rcases aH.mp q with q|q
     .exact f5 p (ax _ q)
     .intro z
      exact hDf (z ▸ (dE' q).1)
   refine aa (thn (hn _ s7 σ6 H7 b ob _ I7p fD q7D.1 is3 q7) fun _ s8 ⟨σ8,b8,o8,H8,I8,x8,e8,is8,n8,m',hm,w8⟩=>?_)
   have q8f:∀b∈fp,∀o,s7.heap.get? b=some o->s8.heap.get? b=some o/\H8 b=none:=fun b hb o e =>
    let q:=I8.pin (b,o) (ax _ (ax _ (bz' hb e)))
    ⟨q.1,q.2.1⟩
   have x8':Ext ws (clr ws σ) σ8:=x6.trans (x8.mono hws)
   refine ap ⟨rfl,m',hm,i+1,b8,o8,H8,I8.unpinned.weak (by rw[x8'.1]) x8'.back,T.keep _ _ _ st7 fun b hb o e=>(q8f b hb o e).1,fun c hc=>?_,e8,is8,w8⟩
   rcases ai.mp hc with rfl|hc'
   .exact n8
   .obtain⟨o,e,_⟩:=T.obj _ _ st7 c hc'
    exact(q8f c hc' o e).2
def IsL (xs:List V) (o:Obj):Prop:=xs.length<=sizeLine/\∃(its:List Value) (n:Nat),ay' xs its/\o={ cls:=.type "list",data:=.seq its.toArray n }
theorem gs' (xs:List V) (o:Obj) (h:IsL xs o) (v:Option Value):o.data≠.cell v:=by
 obtain⟨_,its,n,_,rfl⟩:=h
 intro z
 cases z
def eB' (te:TE):TL (List V):=fun σ xs H N=>te σ H fun v H'=>xs.length<sizeLine/\N (xs++[v]) H'
theorem kS' {X:Cx} {D:Addr} {elt:Expr} {te:TE} (hxe:X.xe=fun _ _=>False) (he:PE X elt te):eA' X D IsL [] (do let _ <- call (.builtin "list.append") [.ref D,<- eval elt X.env]) (eB' te):=by
 intro pins s σ H xs o N I hD ho hi hq
 have I1:Inv X (pins++cY' [D] s.heap) σ H s:=I.pinned (fun b hb=>by
  have e:b=D:=by simpa using hb
  subst e
  exact hD) (fun b hb=>by
  have e:b=D:=by simpa using hb
  subst e
  exact⟨o,ho,gs' _ _ hi⟩)
 have h1:=he _ s σ H _ I1 hq
 rw[hxe]at h1
 refine aa (thn h1 fun u s1 ⟨v,H1,J1,r1,z1,n1⟩=>?_)
 have q1:=J1.pin (D,o) (ax _ (ax _ (bz' (by simp) ho)))
 obtain⟨zx,its,n,rv,rfl⟩:=hi
 have hl:=rv.length
 refine aa (wpAny_list_append_plain (items:=its.toArray) ⟨n,q1.1⟩ (fun h' hp hs=>?_) (by rw[aj,<- hl];exact zx))
 obtain⟨_,f1,f2,f3,f4,f5⟩:=hD
 have J2:Inv X pins σ H1 { s1 with heap:=h' }:=J1.unpinned.turned (it:=D) (t':=s1.toks) (fun b o hb e=>(hs.2 b hb).trans e) q1.2.1 f1 f3 f4 f5
 obtain⟨n',hp⟩:=hp
 refine ap ⟨σ,xs++[v],_,H1,J2,Ext.refl,hp,⟨?_,its++[u],n',rv.append (.cons r1 .nil),?_⟩,q1.2.1,n1⟩
 .rw[aN];exact z1
 .simp
theorem kT' {M:Model} {A:Around} {e:Expr} {d:Nat} {it acc:Value} {env:Env} {R:Result->Shared->Prop} {s:Shared}
  (hq:(Code.compStart e d it acc env).quiet=true) (hu:A.under (Code.compStart e d it acc env)=A) (hql:∀it',(Code.compLoop e d it' acc env).quiet=true)
  (hden:M.den (.compStart e d it acc env)=(compStart e d it acc env).onRaise (fun x=>do noteFrame x env;standAt theWindowsPlace)) (hg:∃g,(clausesOf e)[d]?=some g/\g.is_async=0)
  (h0:codeAny M A (.compLoop e d it acc env) R s) (h1:∀E,wpAny M A (pyIter it) (fun it' s'=>it'=it/\s'=s) E s):codeAny M A (.compStart e d it acc env) R s:=by
 refine codeAny_of_tree ?_
 rw[hu,hden]
 refine wpAny_notedAt ?_
 obtain⟨g,eg,ea⟩:=hg
 unfold compStart
 rw[eg]
 have e1:((some g:Option Comprehension).elim false (fun x=>x.is_async != 0))=false:=by
  show(g.is_async != 0)=false
  rw[ea];rfl
 rw[e1]
 show wpAny _ _ (ask >>= _) _ _ s
 refine aa (wpAny_askSetting (wpAny_ite ?_))
 have fin:wpAny M A (again (.compLoop e d it acc env)) (fun fin s'=>match fin with | .done f=>R (.ok f) s' | .again c=>c.quiet=true/\codeAny M A c R s') (notedBy M A env fun x s'=>R (.error x) s') s:=ap ⟨hql it,h0⟩
 split
 .first
   |exact fin
   |exact aa fin
   |exact aa (ap fin)
 .refine aa (wpAny_rule ?_)
  refine aa (cI ?_)
  refine aa (wpAny_mono (h1 _) (fun it' s' q=>?_) fun _ _ q=>q)
  obtain⟨rfl,rfl⟩:=q
  exact fin
theorem kU' (own:List Nat) (σ:St):clr own (clr own σ)=clr own σ:=by
 apply bP
 intro i
 by_cases h:i∈own
 .have z:∀τ:St,(clr own τ)[i]?=none\/(clr own τ)[i]?=some none:=fun τ=>by
   cases q:(clr own τ)[i]? with
   |none=>exact .inl rfl
   |some o=>
    cases o with
    |none=>exact .inr rfl
    |some v=>exact absurd h (dL' q).2
  have hl:(clr own (clr own σ)).length=(clr own σ).length:=dK' _ _
  rcases z (clr own σ)with a|a<;>rcases z σ with b|b<;>rw[a,b]
  .have q1:=aV.mp a
   have q2:=(aO.mp b).1
   omega
  .have q1:=aV.mp b
   have q2:=(aO.mp a).1
   omega
 .rw[fW' h]
def nR' {α:Type} (wi:TI) (c:It->TL α):TL α:=fun σ a H N=>wi σ H fun J H1=>c J σ a H1 N
def iD' (own:List Nat) (wi:TI) (g:TG) (tc:TT) (a9':TL (List V)):TE:=fun σ H Q=>wi σ H fun J H1=>bY' own g tc a9' J σ [] H1 fun xs H2=>∀p,H2 p=none->Q (.ref p) (upd H2 p (.lst xs))
structure CompIn (X:Cx) (e:Expr) (scope:Scope) (tg:Expr) (iter:Expr) (ifs:List Expr) (nx:Addr->Env->Sem Unit) (g:TG) (tc:TT) (a9':TL (List V)) (own:List Nat):Prop where
 sc:CompSc X scope
 ow:∀i x,X.N[i]?=some x->(scope.names.lookup x=some .local\/scope.names.lookup x=some .cell)->i∈own
 cl:∃gs,clausesOf e=⟨tg,iter,ifs,0⟩ :: gs
 fs:∀x,foldedSetIterable iter X.env x=pure x
 calm:X.calm=true
 q:∀it D env,(Code.compLoop e 0 it (.ref D) env).quiet=true/\(Code.compStart e 0 it (.ref D) env).quiet=true
 u:∀A it D env,Around.under A (Code.compLoop e 0 it (.ref D) env)=A/\Around.under A (Code.compStart e 0 it (.ref D) env)=A
 T:∀P w it D env,(model P w).den (.compLoop e 0 it (.ref D) env)=(dz' e 0 tg iter ifs (nx D env) it (.ref D) env).onRaise (fun x=>do noteFrame x env;theTreesLotGoes x)
 S:∀P w it D env,(model P w).den (.compStart e 0 it (.ref D) env)=(compStart e 0 it (.ref D) env).onRaise (fun x=>do noteFrame x env;standAt theWindowsPlace)
 ge:qk' own g
 inn:∀s0 H0 ex D,PG (X.comp scope s0 H0 ex) tg g/\PTs (X.comp scope s0 H0 ex) ifs tc/\∃ws',(∀j∈ws',j∈own)/\eA' (X.comp scope s0 H0 ex) D IsL ws' (nx D (X.comp scope s0 H0 ex).env) a9'
section
variable {X:Cx} {e:Expr} {scope:Scope} {tg iter:Expr} {ifs:List Expr} {nx:Addr->Env->Sem Unit} {g:TG} {tc:TT} {a9':TL (List V)} {own:List Nat} {wi:TI}
theorem gt' (C:CompIn X e scope tg iter ifs nx g tc a9' own) (hi:PI X tg iter wi) {pins:List (Addr×Obj)} {s:Shared} {σ:St} {H:Hp} {R:V->Hp->Prop} (I:Inv X pins σ H s) (hw:iD' own wi g tc a9' σ H R)
  {use:Option (Value->Sem Unit)} {Q:Value->Shared->Prop} {pos:Pos}
  (fin:∀(s3 s':Shared) (H0 H':Hp) (ex:List Addr) (D:Addr) (xs:List V) (o:Obj) (σ':St),Inv X pins σ H0 s3->(∀b∈ex,dY' X pins H0 b)->Inv (X.comp scope s3 H0 ex) [] σ' H' s'->s'.heap.get? D=some o->D<s3.heap.objs.size->X.s₀.heap.objs.size<=D->dY' X pins H0 D->IsL xs o->H' D=none->R (.ref D) (upd H' D (.lst xs))->
   compPost (model X.prog X.w) X.A X.xe use Q (.ref D) s3.heap.objs.size (.ok .next) s'):
  wpAny (model X.prog X.w) X.A (comprehension e scope X.env pos (newList []) false (eval iter X.env) use) Q X.xe s:=by
 obtain⟨gs,hcl⟩:=C.cl
 refine wpAny_comprehension_free hcl C.fs (nN' fun n hn=>I.ok.has n (C.sc.free n hn)) C.sc.kind C.sc.names ?_
 refine thn (hi pins s σ H _ I hw) fun v s1 h1=>thn h1 fun itv s2 h2=>?_
 obtain⟨it,fp,tn,J,H2,rfl,I2,T,st2,f2,hc⟩:=h2
 refine bI (ez' ?_)
 have keep:∀b o,s2.heap.get? b=some o->(s2.heap.push { cls:=.type "list",dict:=none,data:=.seq ([]:List Value).toArray }).get? b=some o:=fun b o e=>ab _ e
 have I3:Inv X pins σ H2 { s2 with heap:=s2.heap.push { cls:=.type "list",dict:=none,data:=.seq ([]:List Value).toArray } }:=I2.kept (t':=s2.toks) keep
 have hsz:(s2.heap.push { cls:=.type "list",dict:=none,data:=.seq ([]:List Value).toArray }).objs.size=s2.heap.objs.size+1:=aZ ..
 have fD:dY' X pins H2 s2.heap.objs.size:=I2.fpOk (ak _) (I2.hok.fresh (ak _))
 have hlt:∀b∈fp,b<s2.heap.objs.size:=fun b hb=>by
  obtain⟨o,e,_⟩:=T.obj _ _ st2 b hb
  exact ao e
 have hDf:s2.heap.objs.size∉fp:=fun z=>aU _ (hlt _ z)
 have hex:∀b∈s2.heap.objs.size :: fp,dY' X pins H2 b:=fun b hb=>by
  rcases ai.mp hb with rfl|hb
  .exact fD
  .exact f2 b hb
 generalize hs3:({ s2 with heap:=s2.heap.push { cls:=.type "list",dict:=none,data:=.seq ([]:List Value).toArray } }:Shared)=s3 at *
 have hs3s:s3.heap.objs.size=s2.heap.objs.size+1:=by rw[<- hs3];exact hsz
 have hlt3:∀b∈s2.heap.objs.size :: fp,b<s3.heap.objs.size:=fun b hb=>by
  rw[hs3s]
  rcases ai.mp hb with rfl|hb
  .exact Nat.lt_succ_self _
  .exact cB (hlt b hb)
 have J0:=hp' (own:=own) I3 hex hlt3 C.sc C.ow
 obtain⟨c1,c2,ws',c4,c5⟩:=C.inn s3 H2 (s2.heap.objs.size :: fp) s2.heap.objs.size
 have kp:∀b o,s2.heap.get? b=some o->(bq' s3.heap scope.names).get? b=some o:=fun b o e=>pushCells_keeps _ _ b o (ab _ (by rw[<- hs3];exact keep b o e))
 have oD:(bq' s3.heap scope.names).get? s2.heap.objs.size=some { cls:=.type "list",dict:=none,data:=.seq ([]:List Value).toArray }:=pushCells_keeps _ _ _ _ (ab _ (by rw[<- hs3];exact av _ rfl))
 have stat:∀b∈s2.heap.objs.size :: fp,dY' (X.comp scope s3 H2 (s2.heap.objs.size :: fp)) [] H2 b:=fun b hb=>
  ⟨(hex b hb).1,(J0.ok.exf b hb).1,J0.ok.exfs b hb,.inl hb,(J0.ok.exf b hb).2,fun p hp=>absurd (show p∈([]:List (Addr×Obj)) from hp) (by simp)⟩
 have T':Turn (X.comp scope s3 H2 (s2.heap.objs.size :: fp)).prog (X.comp scope s3 H2 (s2.heap.objs.size :: fp)).w (X.comp scope s3 H2 (s2.heap.objs.size :: fp)).K tg J fp it tn:=T
 have hc':bY' own g tc a9' J (clr own σ) [] H2 (fun xs H2=>∀p,H2 p=none->R (.ref p) (upd H2 p (.lst xs))):=by
  obtain⟨W,w0,turn⟩:=hc
  refine⟨W,w0,?_⟩
  rw[kU']
  exact turn
 have st3:tn 0 ({ s3 with heap:=bq' s3.heap scope.names }:Shared).heap:=T.keep _ _ _ st2 fun b hb o e=>kp b o e
 have L:=iC' (X:=X.comp scope s3 H2 (s2.heap.objs.size :: fp)) (Is:=IsL) (D:=s2.heap.objs.size) rfl C.calm (C.q _ _ _).1 (C.u _ _ _ _).1 (C.T _ _ _ _ _) T' c1 C.ge c2 c5 c4 gs' hDf J0
  (fun b hb=>stat b (az _ hb)) (stat _ aJ) oD ⟨aC _,[],0,.nil,rfl⟩ st3 hc'
 have L2:=kT' (C.q _ _ _).2 (C.u _ _ _ _).2 (fun it'=>(C.q it' _ _).1) (C.S _ _ _ _ _) ⟨_,by rw[hcl];rfl,rfl⟩ L (fun E=>T.self _ 0 _ _ E st3 ⟨rfl,rfl⟩)
 refine codeAny_mono L2 fun r s' h=>?_
 obtain⟨rfl,xs,o',H',J',e',is',n',hN⟩:=h
 exact fin s3 s' H2 H' _ _ xs o' _ I3 hex J' e' (hlt3 _ aJ) I2.sz fD is' n' (hN _ n')
end
section
variable {X:Cx} {pins:List (Addr×Obj)} {σ:St} {H H':Hp} {s s':Shared} {D:Addr} {o:HO}
theorem Inv.track (I:Inv X pins σ H s) (f:dY' X pins H D) (h0:X.s₀.heap.objs.size<=D) (new:aJ' X.prog X.w (upd H D o) s.heap D o):Inv X pins σ (upd H D o) s:=by
 obtain⟨f0,f1,f2,f3,f4,f5⟩:=f
 have ne:∀b ob,X.s₀.heap.get? b=some ob->b≠D:=fun b ob e=>aw (ag (ao e) h0)
 have neT:∀b u,H b=some u->b≠D:=fun b u e z=>by rw[z,f0]at e;cases e
 refine⟨I.ok,I.os,I.bare,⟨I.base.keep,I.base.slot,fun b ob e n hx=>by rw[ae' (ne b ob e)];exact I.base.free b ob e n hx,I.base.there,fun b xs e=>?_,fun b ob u e=>?_,fun b ps e=>?_⟩,I.loc,I.cell,?_,fun x c e=>?_,fun p hp=>?_,fun b u e=>?_,I.len⟩
 .have q:=I.base.tups b xs e
  rw[ae' (neT b _ q)];exact q
 .have q:=I.base.frzs b ob u e
  rw[ae' (neT b _ q)];exact q
 .obtain⟨m,q⟩:=I.base.tbls b ps e
  exact⟨m,by rw[ae' (neT b _ q)];exact q⟩
 .rw[ae' (Ne.symm f1)];exact I.free
 .rw[ae' (f4 x c e)];exact I.freeC x c e
 .obtain⟨e,n,r⟩:=I.pin p hp
  refine⟨e,?_,r⟩
  rw[ae' (f5 p hp)];exact n
 .by_cases hb:b=D
  .subst hb
   rw[aa']at e;cases e
   exact new
  .rw[ae' hb]at e
   exact(I.hok b u e).stay (fun _ _ _ q=>q) (fun c q=>by rw[ae' (neT c _ q)];exact q) fun c xs q=>by rw[ae' (neT c _ q)];exact q
end
section
variable {X:Cx} {e:Expr} {scope:Scope} {tg iter:Expr} {ifs:List Expr} {nx:Addr->Env->Sem Unit} {g:TG} {tc:TT} {a9':TL (List V)} {own:List Nat} {wi:TI}
theorem nS' (C:CompIn X e scope tg iter ifs nx g tc a9' own) (hi:PI X tg iter wi) {pos:Pos} (he:eval e X.env=comprehension e scope X.env pos (newList []) false (eval iter X.env)):PE X e (iD' own wi g tc a9'):=by
 intro pins s σ H Q I hw
 rw[he]
 refine gt' C hi I hw fun s3 s' H0 H' ex D xs o σ' I3 hex J e' hlt h0 fD is' n' hR=>?_
 obtain⟨m,hn,_⟩:=J.loc
 refine⟨m,hn,fun h' hs=>?_⟩
 have J2:=gr' I3 hex J hs
 obtain⟨z,its,n,rv,rfl⟩:=is'
 have neC:D≠s3.heap.objs.size:=aw hlt
 refine⟨.ref D,upd H' D (.lst xs),J2.track (o:=.lst xs) ⟨n',fD.2⟩ h0 ⟨z,its,n,rv,(hs.2 D neC).trans e'⟩,rfl,hR⟩
theorem hv' (C:CompIn X e scope tg iter ifs nx g tc a9' own) (hi:PI X tg iter wi) {i:Nat} {y:Str} {py pos pos2:Pos} (hN:X.N.Nodup) (hy:X.N[i]?=some y) (hx:Loc X.env.scope y) (hf:X.fn y=true\/X.env.scope.names.lookup y=some .local)
  (he:evalThenUse e X.env (assign (.Name y py) X.env)=(do let _ <- comprehension e scope X.env pos2 (newList []) false (eval iter X.env) (some (assign (.Name y py) X.env))))
  (hsw:swapsWith e (some (.Name y py)) pos.line X.env=pure true):PS X (.Assign [.Name y py] e pos) (tj' (iD' own wi g tc a9') (fP' i)):=by
 intro pins s σ H D I hw
 rw[exec_Assign_Name_used _ _ _ _ hsw]
 refine aa (cI (aa ?_))
 rw[he]
 refine aa (thn (Q:=fun _ s'=>SP X pins D .next s') (gt' C hi I hw fun s3 s' H0 H' ex D' xs o σ' I3 hex J e' hlt h0 fD is' n' hR=>?_) fun _ s' q=>ap (ap q))
 obtain⟨m,hn,_⟩:=J.loc
 have J2:Inv X pins σ H' s':=gr' I3 hex J (Heap.SameBut.refl ..)
 obtain⟨z,its,n,rv,rfl⟩:=is'
 have neC:D'≠s3.heap.objs.size:=aw hlt
 have J3:Inv X pins σ (upd H' D' (.lst xs)) s':=J2.track ⟨n',fD.2⟩ h0 ⟨z,its,n,rv,e'⟩
 have fC:dY' X pins H0 s3.heap.objs.size:=I3.fpOk (ak _) (I3.hok.fresh (ak _))
 refine wpAny_assign_Name (eZ' J3 hN hy hx (v:=.ref D') rfl (fun s'' J4 hs=>?_) hf)
 obtain⟨a,hsa,ha⟩:=hs
 have haC:s3.heap.objs.size≠a:=by
  rcases ha with rfl|ha
  .exact fC.2.1
  .exact fun q=>fC.2.2.2.2.1 _ _ ha q.symm
 have hn':s'.heap.Ns s3.heap.objs.size m:=hn
 refine⟨m,hn'.sameBut hsa haC,fun h' hs'=>?_⟩
 have J5:Inv X pins (σ.set i (some (.ref D'))) (upd H' D' (.lst xs)) { s'' with heap:=h' }:=J4.turned (it:=s3.heap.objs.size) (t':=s''.toks) (fun b ob hb q=>(hs'.2 b hb).trans q) (by rw[ae' (Ne.symm neC)];exact J.free) fC.2.1 fC.2.2.2.1 fC.2.2.2.2.1 fC.2.2.2.2.2
 exact⟨_,_,J5,hR⟩
end
def cq':Bool->Heap->Addr->Addr->Nat->Prop
 |true,h,it,a,i=>h.IsTupleIter it a i
 |false,h,it,a,i=>h.IsListIter it a i
def dy':Bool->Heap->Addr->Array Value->Prop
 |true,h,a,xs=>h.IsTuple a xs
 |false,h,a,xs=>h.IsList a xs
def iE':Bool->String
 |true=>"tuple_iterator"
 |false=>"list_iterator"
theorem cq'.obj {k:Bool} {h:Heap} {it a:Addr} {i:Nat} (x:cq' k h it a i):∃o,h.get? it=some o/\o.data=.fields #[.ref a,.int i 0]:=by
 cases k
 .obtain⟨o,e,_,d⟩:=x;exact⟨o,e,d⟩
 .obtain⟨o,e,_,d⟩:=x;exact⟨o,e,d⟩
theorem cq'.at {k:Bool} {h h':Heap} {it a:Addr} {i:Nat} (x:cq' k h it a i) (hk:∀o,h.get? it=some o->h'.get? it=some o):cq' k h' it a i:=by
 cases k
 .obtain⟨o,e,r⟩:=x;exact⟨o,hk o e,r⟩
 .obtain⟨o,e,r⟩:=x;exact⟨o,hk o e,r⟩
theorem dy'.at {k:Bool} {h h':Heap} {a:Addr} {xs:Array Value} (x:dy' k h a xs) (hk:∀o,h.get? a=some o->h'.get? a=some o):dy' k h' a xs:=by
 cases k
 .obtain⟨o,e,r⟩:=x;exact⟨o,hk o e,r⟩
 .obtain⟨o,e,r⟩:=x;exact⟨o,hk o e,r⟩
theorem dy'.lt {k:Bool} {h:Heap} {a:Addr} {xs:Array Value} (x:dy' k h a xs):a<h.objs.size:=by
 cases k
 .obtain⟨o,e,r⟩:=x;exact ao e
 .obtain⟨o,e,r⟩:=x;exact ao e
section
variable {prog:Program} {w:World} {A:Around} {E:Value->Shared->Prop} {s:Shared}
theorem ba' {k:Bool} {it l:Addr} {i:Nat} {items:Array Value} {x:Value} {Q:Value->Shared->Prop} (hit:cq' k s.heap it l i) (hl:dy' k s.heap l items) (hx:items[i]?=some x)
  (hQ:∀h',cq' k h' it l (i+1)->bW it s.heap h'->Q x { s with heap:=h' }):wpAny (model prog w) A (Builtin.SmallTypes.nextOf (.ref it)) Q E s:=by
 cases k
 .exact wpAny_nextOf_list_item hit hl hx hQ
 .have hit:s.heap.IsTupleIter it l i:=hit
  have hl:s.heap.IsTuple l items:=hl
  obtain⟨o,ho,hc,hd⟩:=id hit
  obtain⟨ol,hol,_,nl,hdl⟩:=hl
  unfold Builtin.SmallTypes.nextOf
  refine aa (bc (name:=Str.ofString "__next__") hit.typeIs F.slot_tuple_iterator_next
   (bG F.slot_tuple_iterator_next hit.typeIs F.entry_tuple_iterator_next ?_ (F.args_tuple_iterator_next_1 _)))
  show wpAny _ _ (field (.ref it) 0 >>= _) _ _ s
  refine aa (aY ho hd (x:=.ref l) rfl ?_)
  show wpAny _ _ (if(Value.ref l == Value.none)=true then _ else _) _ _ s
  rw[if_neg (show ¬((Value.ref l == Value.none)=true) from aq)]
  show wpAny _ _ (field (.ref it) 1 >>= _) _ _ s
  refine aa (aY ho hd (x:=.int i 0) rfl ?_)
  show wpAny _ _ (seqItems? (.ref l) >>= _) _ _ s
  refine aa (bB hol hdl ?_)
  simp only[aT,hx]
  refine aa (wpAny_setField ho hd (by simp) (ap ⟨x,rfl,ap (hQ _ ?_ (Heap.SameBut.update ..))⟩))
  exact⟨_,bK _ ho (Obj.isFreed_of_fields (Obj.data_mapFields hd _)),(Obj.cls_mapFields ..).trans hc,by
   rw[Obj.data_mapFields hd];simp[rawInt]⟩
theorem cC' {k:Bool} {it l:Addr} {i:Nat} {items:Array Value} {Q:Value->Shared->Prop} (hh:A.handled=none) (hit:cq' k s.heap it l i) (hl:dy' k s.heap l items) (hx:items[i]?=none)
  (hE:∀h' e,Heap.ExtBut it s.heap h'->(∃o,h'.get? e=some o/\o.cls=.type "StopIteration")->E (.ref e) { s with heap:=h' }):wpAny (model prog w) A (Builtin.SmallTypes.nextOf (.ref it)) Q E s:=by
 cases k
 .exact wpAny_nextOf_list_end hh hit hl hx hE
 .have hit:s.heap.IsTupleIter it l i:=hit
  have hl:s.heap.IsTuple l items:=hl
  obtain⟨o,ho,hc,hd⟩:=id hit
  obtain⟨ol,hol,_,nl,hdl⟩:=hl
  unfold Builtin.SmallTypes.nextOf
  refine aa (bc (name:=Str.ofString "__next__") hit.typeIs F.slot_tuple_iterator_next
   (bG F.slot_tuple_iterator_next hit.typeIs F.entry_tuple_iterator_next ?_ (F.args_tuple_iterator_next_1 _)))
  show wpAny _ _ (field (.ref it) 0 >>= _) _ _ s
  refine aa (aY ho hd (x:=.ref l) rfl ?_)
  show wpAny _ _ (if(Value.ref l == Value.none)=true then _ else _) _ _ s
  rw[if_neg (show ¬((Value.ref l == Value.none)=true) from aq)]
  show wpAny _ _ (field (.ref it) 1 >>= _) _ _ s
  refine aa (aY ho hd (x:=.int i 0) rfl ?_)
  show wpAny _ _ (seqItems? (.ref l) >>= _) _ _ s
  refine aa (bB hol hdl ?_)
  simp only[aT,hx]
  refine aa (wpAny_rule (aa (wpAny_setField ho hd (by simp) ?_)))
  show wpAny _ _ (newExc (.type "StopIteration") [] >>= _) _ _ _
  refine aa ?_
  simp only[newExc,newTuple]
  refine aa (bI ?_ (by size_fits))
  refine aa (m:=firstArgMember _ _) (wpAny_of_eq (a:=Value.none) (by first|rfl|(simp only[firstArgMember];rfl)) ?_)
  refine bI ?_ (by size_fits)
  simp only[raiseNew]
  refine aa (wpAny_handled ?_)
  first|rw[show A.in1.handled=none from hh]|rw[hh]
  refine aa (ap (wpAny_throw ?_))
  exact hE _ _ (((Heap.SameBut.update ..).extBut.push _).push _) ⟨_,av _ rfl,rfl⟩
end
abbrev zH1 (k:Bool) (h:Heap) (l1:Addr):Heap:=h.push { cls:=.type (iE' k),data:=.fields #[.ref l1,.int 0 0] }
abbrev zH2 (k j:Bool) (h:Heap) (l1 l2:Addr):Heap:=(zH1 k h l1).push { cls:=.type (iE' j),data:=.fields #[.ref l2,.int 0 0] }
abbrev zH3 (k j:Bool) (h:Heap) (l1 l2:Addr):Heap:=(zH2 k j h l1 l2).push { cls:=.type "tuple",data:=.seq #[.ref h.objs.size,.ref (zH1 k h l1).objs.size] }
abbrev zH4 (k j:Bool) (h:Heap) (l1 l2:Addr):Heap:=(zH3 k j h l1 l2).push { cls:=.type "tuple",data:=.seq #[.none,.none] }
abbrev zH5 (k j:Bool) (h:Heap) (l1 l2:Addr):Heap:=(zH4 k j h l1 l2).push { cls:=.type "zip",data:=.fields #[.none,.bool false,.bool false,.ref (zH2 k j h l1 l2).objs.size,.ref (zH3 k j h l1 l2).objs.size] }
set_option maxHeartbeats 4000000 in
theorem iF' (k j:Bool) (l1 l2:Addr) (xs ys:Array Value):
  Meets (Builtin.«zip.__new__» ⟨[.type "zip",.ref l1,.ref l2],[]⟩) (fun _ R s=>dy' k s.heap l1 xs/\dy' j s.heap l2 ys/\
   R (.ok (.ret (.ref (zH4 k j s.heap l1 l2).objs.size))) { s with heap:=zH5 k j s.heap l1 l2 }):=by
 cases k<;>cases j
 .exact meets_zip_new l1 l2 xs ys
 .exact .of_wp fun prog w A R s h=>by
   obtain⟨hp,g,d,tk,os⟩:=s;obtain⟨hl1,hl2,h⟩:=h
   have hsub:=sub_zip
   have hL1:Heap.IsList (Shared.heap ⟨hp,g,d,tk,os⟩) l1 xs:=hl1
   have hL2:Heap.IsTuple (Shared.heap ⟨hp.push { cls:=.type "list_iterator",data:=.fields #[.ref l1,.int 0 0] },g,d,tk,os⟩) l2 ys:=Heap.IsTuple.push hl2 _
   wp_walk using cC hL1,bC hL2
   exact⟨_,rfl,h⟩
 .exact .of_wp fun prog w A R s h=>by
   obtain⟨hp,g,d,tk,os⟩:=s;obtain⟨hl1,hl2,h⟩:=h
   have hsub:=sub_zip
   have hL1:Heap.IsTuple (Shared.heap ⟨hp,g,d,tk,os⟩) l1 xs:=hl1
   have hL2:Heap.IsList (Shared.heap ⟨hp.push { cls:=.type "tuple_iterator",data:=.fields #[.ref l1,.int 0 0] },g,d,tk,os⟩) l2 ys:=Heap.IsList.push hl2 _
   wp_walk using bC hL1,cC hL2
   exact⟨_,rfl,h⟩
 .exact .of_wp fun prog w A R s h=>by
   obtain⟨hp,g,d,tk,os⟩:=s;obtain⟨hl1,hl2,h⟩:=h
   have hsub:=sub_zip
   have hL1:Heap.IsTuple (Shared.heap ⟨hp,g,d,tk,os⟩) l1 xs:=hl1
   have hL2:Heap.IsTuple (Shared.heap ⟨hp.push { cls:=.type "tuple_iterator",data:=.fields #[.ref l1,.int 0 0] },g,d,tk,os⟩) l2 ys:=Heap.IsTuple.push hl2 _
   wp_walk using bC hL1,bC hL2
   exact⟨_,rfl,h⟩
section
variable {prog:Program} {w:World} {A:Around} {E:Value->Shared->Prop} {s:Shared}
theorem iG' {k j:Bool} {l1 l2:Addr} {xs ys:Array Value} {Q:Value->Shared->Prop} (hl1:dy' k s.heap l1 xs) (hl2:dy' j s.heap l2 ys)
  (h:∀h',IsZip h' (s.heap.objs.size+4) (s.heap.objs.size+2) (s.heap.objs.size+3) .none->IsPair h' (s.heap.objs.size+2) (.ref s.heap.objs.size) (.ref (s.heap.objs.size+1))->
   IsPair h' (s.heap.objs.size+3) .none .none->cq' k h' s.heap.objs.size l1 0->cq' j h' (s.heap.objs.size+1) l2 0->h'.objs.size=s.heap.objs.size+5->
   (∀c o,s.heap.get? c=some o->h'.get? c=some o)->Q (.ref (s.heap.objs.size+4)) { s with heap:=h' }):
  wpAny (model prog w) A (call (.type "zip") [.ref l1,.ref l2]) Q E s:=by
 refine callType_new F.called_zip (by decide) (F.typeCall_zip_2 _ _) (F.newCall_zip_2 _ _) (fun obj=>F.args_object_init_3 obj _ _) F.entry_zip_new
  (iF' k j l1 l2 xs ys) ⟨hl1,hl2,?_⟩
 have z1:(zH1 k s.heap l1).objs.size=s.heap.objs.size+1:=aZ ..
 have z2:(zH2 k j s.heap l1 l2).objs.size=s.heap.objs.size+2:=by rw[aZ,z1]
 have z3:(zH3 k j s.heap l1 l2).objs.size=s.heap.objs.size+3:=by rw[aZ,z2]
 have z4:(zH4 k j s.heap l1 l2).objs.size=s.heap.objs.size+4:=by rw[aZ,z3]
 have z5:(zH5 k j s.heap l1 l2).objs.size=s.heap.objs.size+5:=by rw[aZ,z4]
 have g5:(zH5 k j s.heap l1 l2).get? (zH4 k j s.heap l1 l2).objs.size=some _:=av _ rfl
 have g4:(zH5 k j s.heap l1 l2).get? (zH3 k j s.heap l1 l2).objs.size=some _:=ab _ (av _ rfl)
 have g3:(zH5 k j s.heap l1 l2).get? (zH2 k j s.heap l1 l2).objs.size=some _:=ab _ (ab _ (av _ rfl))
 have g2:(zH5 k j s.heap l1 l2).get? (zH1 k s.heap l1).objs.size=some { cls:=.type (iE' j),data:=.fields #[.ref l2,.int 0 0] }:=ab _ (ab _ (ab _ (av _ rfl)))
 have g1:(zH5 k j s.heap l1 l2).get? s.heap.objs.size=some { cls:=.type (iE' k),data:=.fields #[.ref l1,.int 0 0] }:=ab _ (ab _ (ab _ (ab _ (av _ rfl))))
 have gk:∀c o,s.heap.get? c=some o->(zH5 k j s.heap l1 l2).get? c=some o:=fun c o e=>ab _ (ab _ (ab _ (ab _ (ab _ e))))
 have mk:∀(c:Bool) (it l:Addr),(zH5 k j s.heap l1 l2).get? it=some { cls:=.type (iE' c),data:=.fields #[.ref l,.int 0 0] }->cq' c (zH5 k j s.heap l1 l2) it l 0:=fun c it l e=>by
  cases c
  .exact⟨_,e,rfl,rfl⟩
  .exact⟨_,e,rfl,rfl⟩
 show _/\_
 rw[z2,z3,z4]at g5
 rw[z1,z2]at g3
 rw[z3]at g4
 rw[z1]at g2
 rw[z4]
 exact⟨⟨_,g5,rfl⟩,h _ g5 g3 g4 (mk k _ _ g1) (mk j _ _ g2) z5 gk⟩
theorem gu' {k j:Bool} {z TI TO i1 i2 l1 l2:Addr} {k1 k2:Nat} {xs ys:Array Value} {x y a b:Value} {Q:Option Value->Shared->Prop} (D:ZipApart z TI TO i1 i2 l1 l2)
  (hz:IsZip s.heap z TI TO .none) (hTI:IsPair s.heap TI (.ref i1) (.ref i2)) (hTO:IsPair s.heap TO a b)
  (h1:cq' k s.heap i1 l1 k1) (h2:cq' j s.heap i2 l2 k2) (hl1:dy' k s.heap l1 xs) (hl2:dy' j s.heap l2 ys) (hx:xs[k1]?=some x) (hy:ys[k2]?=some y)
  (hQ:∀h',IsZip h' z TI TO (rawInt s.heap.objs.size)->IsPair h' TO x y->cq' k h' i1 l1 (k1+1)->cq' j h' i2 l2 (k2+1)->IsPair h' s.heap.objs.size x y->h'.objs.size=s.heap.objs.size+1->
   (∀c o,c≠z->c≠TO->c≠i1->c≠i2->s.heap.get? c=some o->h'.get? c=some o)->Q (some (.ref s.heap.objs.size)) { s with heap:=h' }):
  wpAny (model prog w) A (pyNext (.ref z)) Q E s:=by
 have hT:s.TypeIs (.ref z) "zip":=⟨_,hz,rfl⟩
 unfold pyNext
 refine aa (wpAny_attempt (bc (name:=Str.ofString "__next__") hT F.slot_zip_next
  (bG F.slot_zip_next hT F.entry_zip_next ?_ (F.args_zip_next_1 _))))
 show wpAny _ _ (field (.ref z) 2 >>= _) _ _ _
 refine aa (aY hz rfl (x:=.bool false) rfl ?_)
 show wpAny _ _ (field (.ref z) 3 >>= _) _ _ _
 refine aa (aY hz rfl (x:=.ref TI) rfl ?_)
 refine aa (bB hTI rfl ?_)
 show wpAny _ _ (Builtin.SmallTypes.ownedTupleIsFree (.ref z) >>= _) _ _ _
 refine aa ?_
 unfold Builtin.SmallTypes.ownedTupleIsFree
 refine aa (aY hz rfl (x:=.none) rfl (ap ?_))
 simp only[if_true]
 refine aa (wpAny_rule ?_)
 refine aa (aY hz rfl (x:=.ref TO) rfl ?_)
 refine aa (bL hz (by simp) fun h₁ hz₁ hs₁=>?_)
 replace hz₁:IsZip h₁ z TI TO .ellipsis:=hz₁
 refine aa ?_
 simp only[List.zipIdx_cons,List.zipIdx_nil,List.forIn_cons,List.forIn_nil]
 refine aa (aa (wpAny_onRaise ?_))
 show wpAny _ _ (Builtin.SmallTypes.nextOf (.ref i1) >>= _) _ _ _
 refine aa (ba' (h1.at fun o e=>hs₁.extBut _ _ D.i1z e) (hl1.at fun o e=>hs₁.extBut _ _ D.l1z e) hx fun h₂ h1₂ hs₂=>ap ?_)
 have hTO₂:IsPair h₂ TO a b:=hs₂.extBut _ _ D.TOi1 (hs₁.extBut _ _ D.TOz hTO)
 refine aa (bB hTO₂ rfl ?_)
 refine aa (wpAny_updateSeq_pair hTO₂ fun h₃ hTO₃ hs₃=>?_)
 replace hTO₃:IsPair h₃ TO x b:=hTO₃
 refine aa (wpAny_letGo (ap ?_))
 refine aa (aa (wpAny_onRaise ?_))
 show wpAny _ _ (Builtin.SmallTypes.nextOf (.ref i2) >>= _) _ _ _
 refine aa (ba' (h2.at fun o e=>hs₃.extBut _ _ D.TOi2.symm (hs₂.extBut _ _ D.i12.symm (hs₁.extBut _ _ D.i2z e)))
  (hl2.at fun o e=>hs₃.extBut _ _ D.l2TO (hs₂.extBut _ _ D.l2i1 (hs₁.extBut _ _ D.l2z e))) hy fun h₄ h2₄ hs₄=>ap ?_)
 have hTO₄:IsPair h₄ TO x b:=hs₄.extBut _ _ D.TOi2 hTO₃
 refine aa (bB hTO₄ rfl ?_)
 refine aa (wpAny_updateSeq_pair hTO₄ fun h₅ hTO₅ hs₅=>?_)
 replace hTO₅:IsPair h₅ TO x y:=hTO₅
 refine aa (wpAny_letGo (ap (ap ?_)))
 refine aa (bB hTO₅ rfl ?_)
 refine aa (wpAny_newTuple ?_)
 have hsz:h₅.objs.size=s.heap.objs.size:=by rw[hs₅.1,hs₄.1,hs₃.1,hs₂.1,hs₁.1]
 have hz₅:IsZip h₅ z TI TO .ellipsis:=hs₅.extBut _ _ D.TOz.symm (hs₄.extBut _ _ D.i2z.symm (hs₃.extBut _ _ D.TOz.symm (hs₂.extBut _ _ D.i1z.symm hz₁)))
 have hk₅:∀c o,c≠z->c≠TO->c≠i1->c≠i2->s.heap.get? c=some o->h₅.get? c=some o:=fun c o c1 c2 c3 c4 e=>
  hs₅.extBut _ _ c2 (hs₄.extBut _ _ c4 (hs₃.extBut _ _ c2 (hs₂.extBut _ _ c3 (hs₁.extBut _ _ c1 e))))
 have h1₅:cq' k h₅ i1 l1 (k1+1):=h1₂.at fun o e=>hs₅.extBut _ _ D.TOi1.symm (hs₄.extBut _ _ D.i12 (hs₃.extBut _ _ D.TOi1.symm e))
 have h2₅:cq' j h₅ i2 l2 (k2+1):=h2₄.at fun o e=>hs₅.extBut _ _ D.TOi2.symm e
 have hzlt:z<h₅.objs.size:=ao hz₅
 show wpAny _ _ (Builtin.SmallTypes.ownedTupleHandOut (.ref z) (.ref h₅.objs.size) >>= _) _ _ _
 refine aa ?_
 unfold Builtin.SmallTypes.ownedTupleHandOut
 have hz₆:IsZip (h₅.push { cls:=.type "tuple",data:=.seq #[x,y] }) z TI TO .ellipsis:=ab _ hz₅
 refine aa (bL hz₆ (by simp) fun h₇ hz₇ hs₇=>?_)
 replace hz₇:IsZip h₇ z TI TO (rawInt h₅.objs.size):=hz₇
 refine bL hz₇ (by simp) fun h₈ hz₈ hs₈=>?_
 replace hz₈:IsZip h₈ z TI TO (rawInt h₅.objs.size):=hz₈
 have up:∀c o,c≠z->h₅.get? c=some o->h₈.get? c=some o:=fun c o c1 e=>hs₈.extBut _ _ c1 (hs₇.extBut _ _ c1 (ab _ e))
 have hT₈:IsPair h₈ h₅.objs.size x y:=hs₈.extBut _ _ (bn hzlt) (hs₇.extBut _ _ (bn hzlt) (av _ rfl))
 have hz8:h₈.objs.size=h₅.objs.size+1:=by rw[hs₈.1,hs₇.1,aZ]
 rw[hsz]at hz₈ hT₈ hz8
 refine ap ⟨_,rfl,ap ?_⟩
 show Q (some (.ref h₅.objs.size)) _
 rw[hsz]
 exact hQ h₈ hz₈ (up _ _ D.TOz hTO₅) (h1₅.at fun o e=>up _ o D.i1z e) (h2₅.at fun o e=>up _ o D.i2z e) hT₈ hz8 fun c o c1 c2 c3 c4 e=>up c o c1 (hk₅ c o c1 c2 c3 c4 e)
theorem iH' {k j:Bool} {z TI TO i1 i2 l1 l2:Addr} {k1 k2:Nat} {xs ys:Array Value} {a b:Value} {Q:Option Value->Shared->Prop} (hh:A.handled=none) (D:ZipApart z TI TO i1 i2 l1 l2)
  (hz:IsZip s.heap z TI TO .none) (hTI:IsPair s.heap TI (.ref i1) (.ref i2)) (hTO:IsPair s.heap TO a b)
  (h1:cq' k s.heap i1 l1 k1) (h2:cq' j s.heap i2 l2 k2) (hl1:dy' k s.heap l1 xs) (hl2:dy' j s.heap l2 ys) (hend:xs[k1]?=none\/ys[k2]?=none)
  (hQ:∀h',(∀c o,c≠z->c≠TO->c≠i1->c≠i2->s.heap.get? c=some o->h'.get? c=some o)->Q none { s with heap:=h' }):wpAny (model prog w) A (pyNext (.ref z)) Q E s:=by
 have hT:s.TypeIs (.ref z) "zip":=⟨_,hz,rfl⟩
 unfold pyNext
 refine aa (wpAny_attempt (bc (name:=Str.ofString "__next__") hT F.slot_zip_next
  (bG F.slot_zip_next hT F.entry_zip_next ?_ (F.args_zip_next_1 _))))
 have fin:∀(h':Heap) (e:Addr),(∀c o,c≠z->c≠TO->c≠i1->c≠i2->s.heap.get? c=some o->h'.get? c=some o)->(∃o,h'.get? e=some o/\o.cls=.type "StopIteration")->
   wpAny (model prog w) A (do if <- isInstance (.ref e) (.type "StopIteration")then pure none else throw (.ref e)) Q E { s with heap:=h' }:=fun h' e hk ⟨o,ho,hc⟩=>
  aa (wpAny_isInstance (T:="StopIteration") (b:=true) ⟨o,ho,hc⟩ isSubtype_stop (ap (hQ _ hk)))
 show wpAny _ _ (field (.ref z) 2 >>= _) _ _ _
 refine aa (aY hz rfl (x:=.bool false) rfl ?_)
 show wpAny _ _ (field (.ref z) 3 >>= _) _ _ _
 refine aa (aY hz rfl (x:=.ref TI) rfl ?_)
 refine aa (bB hTI rfl ?_)
 show wpAny _ _ (Builtin.SmallTypes.ownedTupleIsFree (.ref z) >>= _) _ _ _
 refine aa ?_
 unfold Builtin.SmallTypes.ownedTupleIsFree
 refine aa (aY hz rfl (x:=.none) rfl (ap ?_))
 simp only[if_true]
 refine aa (wpAny_rule ?_)
 refine aa (aY hz rfl (x:=.ref TO) rfl ?_)
 refine aa (bL hz (by simp) fun h₁ hz₁ hs₁=>?_)
 replace hz₁:IsZip h₁ z TI TO .ellipsis:=hz₁
 refine aa ?_
 simp only[List.zipIdx_cons,List.zipIdx_nil,List.forIn_cons,List.forIn_nil]
 refine aa (aa (wpAny_onRaise ?_))
 show wpAny _ _ (Builtin.SmallTypes.nextOf (.ref i1) >>= _) _ _ _
 have a1:=h1.at (h':=h₁) fun o e=>hs₁.extBut _ _ D.i1z e
 have b1:=hl1.at (h':=h₁) fun o e=>hs₁.extBut _ _ D.l1z e
 cases hx:xs[k1]? with
 |none=>
  refine aa (cC' (by first|exact hh|rfl) a1 b1 hx fun h₂ e hs₂ he=>?_)
  obtain⟨oe,hoe,hce⟩:=he
  have hz₂:IsZip h₂ z TI TO .ellipsis:=hs₂ _ _ D.i1z.symm hz₁
  have hez:e≠z:=fun x=>by subst x;rw[hz₂]at hoe;cases hoe;simp at hce
  refine bL hz₂ (by simp) fun h₃ _ hs₃=>fin h₃ e (fun c o c1 _ c3 _ x=>hs₃.extBut _ _ c1 (hs₂ _ _ c3 (hs₁.extBut _ _ c1 x))) ⟨oe,hs₃.extBut _ _ hez hoe,hce⟩
 |some x=>
  have hy:ys[k2]?=none:=by rcases hend with h|h;rw[hx]at h;cases h;exact h
  refine aa (ba' a1 b1 hx fun h₂ h1₂ hs₂=>ap ?_)
  have hTO₂:IsPair h₂ TO a b:=hs₂.extBut _ _ D.TOi1 (hs₁.extBut _ _ D.TOz hTO)
  refine aa (bB hTO₂ rfl ?_)
  refine aa (wpAny_updateSeq_pair hTO₂ fun h₃ hTO₃ hs₃=>?_)
  refine aa (wpAny_letGo (ap ?_))
  refine aa (aa (wpAny_onRaise ?_))
  show wpAny _ _ (Builtin.SmallTypes.nextOf (.ref i2) >>= _) _ _ _
  refine aa (cC' (by first|exact hh|rfl) (h2.at fun o e=>hs₃.extBut _ _ D.TOi2.symm (hs₂.extBut _ _ D.i12.symm (hs₁.extBut _ _ D.i2z e)))
   (hl2.at fun o e=>hs₃.extBut _ _ D.l2TO (hs₂.extBut _ _ D.l2i1 (hs₁.extBut _ _ D.l2z e))) hy fun h₄ e hs₄ he=>?_)
  obtain⟨oe,hoe,hce⟩:=he
  have hz₄:IsZip h₄ z TI TO .ellipsis:=hs₄ _ _ D.i2z.symm (hs₃.extBut _ _ D.TOz.symm (hs₂.extBut _ _ D.i1z.symm hz₁))
  have hez:e≠z:=fun x=>by subst x;rw[hz₄]at hoe;cases hoe;simp at hce
  refine bL hz₄ (by simp) fun h₅ _ hs₅=>fin h₅ e (fun c o c1 c2 c3 c4 x=>hs₅.extBut _ _ c1 (hs₄ _ _ c4 (hs₃.extBut _ _ c2 (hs₂.extBut _ _ c3 (hs₁.extBut _ _ c1 x))))) ⟨oe,hs₅.extBut _ _ hez hoe,hce⟩
end
def Its (x:Str):It:=⟨fun i _=>i<x.cps.size,fun i H v H'=>H'=H/\∃c,x.cps[i]?=some c/\v=.str ⟨#[c]⟩,fun i _=>x.cps.size<=i⟩
theorem kV' {P:Program} {w:World} {K:W.Frag} {tg:Expr} (it:Addr) (x:Str) (ty:String) (t:Tok) (hty:ty="str_ascii_iterator"\/ty="str_iterator"):
  Turn P w K tg (Its x) [it] it (fun i h=>h.IsStrIter it ty x t i) where
 mem:=by simp
 obj:=fun i h st b hb=>by
  have e:b=it:=by simpa using hb
  subst e
  obtain⟨o,e,c,d⟩:=st
  exact⟨o,e,fun v z=>by rw[d]at z;cases z⟩
 keep:=fun i h h' st k=>by
  obtain⟨o,e,r⟩:=st
  exact⟨o,k it (by simp) o e,r⟩
 item:=by
  intro X hP hw hK hc i pins s σ H E I hf st hg
  subst hP hw hK
  obtain⟨f0,f1,f2,f3,f4,f5⟩:=hf it (by simp)
  have hg':i<x.cps.size:=hg
  have hx:x.cps[i]?=some x.cps[i]:=by simp[hg']
  have fin:∀h',h'.IsStrIter it ty x t (i+1)->bW it s.heap h'->∃u,some (Value.str ⟨#[x.cps[i]]⟩ s.toks)=some u/\
    wpAny (model X.prog X.w) X.A (letOwnedTupleGo tg (.ref it) u) (fun _ s2=>∃y H',Inv X pins σ H' s2/\aH' y u/\(Its x).yld i H y H'/\s2.heap.IsStrIter it ty x t (i+1)/\∀b∈[it],H' b=none) E { s with heap:=h',toks:=s.toks+1 }:=fun h' st' sb=>by
   have I1:Inv X pins σ H { s with heap:=h',toks:=s.toks+1 }:=I.turned (fun b o hb e=>(sb.2 b hb).trans e) f0 f1 f3 f4 f5
   obtain⟨o,e,c,d⟩:=id st'
   refine⟨_,rfl,kD' (s:={ s with heap:=h',toks:=s.toks+1 }) e c d ?_ ⟨.str ⟨#[x.cps[i]]⟩,H,I1,⟨_,rfl⟩,⟨rfl,_,hx,rfl⟩,st',fun b hb=>(hf b hb).1⟩⟩
   rcases hty with rfl|rfl<;>decide
  rcases hty with rfl|rfl
  .exact wpAny_pyNext_ascii_item st hx fin
  .exact wpAny_pyNext_wide_item st hx fin
 done:=by
  intro X hP hw hK hc i pins s σ H E I hf st hg
  subst hP hw hK
  obtain⟨f0,f1,f2,f3,f4,f5⟩:=hf it (by simp)
  have hg':x.cps.size<=i:=hg
  have hx:x.cps[i]?=none:=by simp[hg']
  have fin:∀h',Heap.ExtBut it s.heap h'->(none:Option Value)=none/\Inv X pins σ H { s with heap:=h' }:=fun h' eb=>⟨rfl,I.turned (t':=s.toks) (fun b o hb e=>eb b o hb e) f0 f1 f3 f4 f5⟩
  rcases hty with rfl|rfl
  .exact wpAny_pyNext_ascii_end (I.ok.hd hc) st hx fin
  .exact wpAny_pyNext_wide_end (I.ok.hd hc) st hx fin
 self:=fun _ _ _ _ _ st h=>by
  rcases hty with rfl|rfl
  .exact wpAny_pyIter_striter_ascii st h
  .exact wpAny_pyIter_striter_wide st h
def Sq (k:Bool) (K:W.Frag) (H:Hp) (a:Addr) (xs:List V):Prop:=match k with
 |true=>SqT K H a xs
 |false=>SqL K H a xs
theorem Inv.sq {X:Cx} {pins:List (Addr×Obj)} {σ:St} {H:Hp} {s:Shared} {k:Bool} {a:Addr} {xs:List V} (I:Inv X pins σ H s) (h:Sq k X.K H a xs):∃its:List Value,ay' xs its/\dy' k s.heap a its.toArray/\xs.length<=sizeLine:=by
 cases k
 .obtain⟨its,r,p,z⟩:=I.list h
  exact⟨its,r,p.isList,z⟩
 .obtain⟨its,r,p,z⟩:=I.tuple h
  exact⟨its,r,p,z⟩
theorem Inv.sq_inj {X:Cx} {pins:List (Addr×Obj)} {σ:St} {H:Hp} {s:Shared} {k:Bool} {a:Addr} {xs ys:List V} (I:Inv X pins σ H s) (h:Sq k X.K H a xs) (h':Sq k X.K H a ys):xs=ys:=by
 cases k
 .exact I.list_inj h h'
 .exact I.tuple_inj h h'
def mB' (k j:Bool) (K:W.Frag) (a b:Addr):It:=
 ⟨fun i H=>∃xs ys x y,Sq k K H a xs/\Sq j K H b ys/\xs[i]?=some x/\ys[i]?=some y,
  fun i H v H'=>∃p x y,v=.ref p/\H p=none/\(∀xs,Sq k K H a xs->xs[i]?=some x)/\(∀ys,Sq j K H b ys->ys[i]?=some y)/\H'=upd H p (.tup [x,y]),
  fun i H=>∃xs ys,Sq k K H a xs/\Sq j K H b ys/\(xs.length<=i\/ys.length<=i)⟩
abbrev Itz (k:Bool) (K:W.Frag) (a b:Addr):It:=mB' k k K a b
def zTn (k j:Bool) (z TI TO i1 i2 l1 l2:Addr) (i:Nat) (h:Heap):Prop:=
 IsZip h z TI TO .none/\IsPair h TI (.ref i1) (.ref i2)/\(∃a b,IsPair h TO a b)/\cq' k h i1 l1 i/\cq' j h i2 l2 i
theorem kW' {P:Program} {w:World} {K:W.Frag} {elts:List Expr} {kt:Nat} {pt:Pos} {k j:Bool} {z TI TO i1 i2 l1 l2:Addr} (D:ZipApart z TI TO i1 i2 l1 l2):
  Turn P w K (.Tuple elts kt pt) (mB' k j K l1 l2) [z,TI,TO,i1,i2] z (zTn k j z TI TO i1 i2 l1 l2) where
 mem:=by simp
 obj:=fun i h st b hb=>by
  obtain⟨hz,hTI,⟨_,_,hTO⟩,h1,h2⟩:=st
  simp only[ai,al,or_false]at hb
  rcases hb with rfl|rfl|rfl|rfl|rfl
  .exact⟨_,hz,fun v=>(nomatch ·)⟩
  .exact⟨_,hTI,fun v=>(nomatch ·)⟩
  .exact⟨_,hTO,fun v=>(nomatch ·)⟩
  .obtain⟨o,e,d⟩:=h1.obj
   exact⟨o,e,fun v q=>by rw[d]at q;cases q⟩
  .obtain⟨o,e,d⟩:=h2.obj
   exact⟨o,e,fun v q=>by rw[d]at q;cases q⟩
 keep:=fun i h h' st kk=>by
  obtain⟨hz,hTI,⟨a,b,hTO⟩,h1,h2⟩:=st
  exact⟨kk z (by simp) _ hz,kk TI (by simp) _ hTI,⟨a,b,kk TO (by simp) _ hTO⟩,h1.at fun o e=>kk i1 (by simp) o e,h2.at fun o e=>kk i2 (by simp) o e⟩
 item:=by
  intro X hP hw hK hc i pins s σ H E I hf st hg
  subst hP hw hK
  obtain⟨xs,ys,x,y,hxs,hys,hx,hy⟩:=hg
  obtain⟨hz,hTI,⟨a,b,hTO⟩,h1,h2⟩:=st
  obtain⟨us,rus,ous,_⟩:=I.sq hxs
  obtain⟨vs,rvs,ovs,_⟩:=I.sq hys
  obtain⟨u,hu,ru⟩:=rus.get hx
  obtain⟨v,hv,rv⟩:=rvs.get hy
  refine gu' D hz hTI hTO h1 h2 ous ovs (x:=u) (y:=v) (by simpa using hu) (by simpa using hv) fun h' hz' hTO' h1' h2' hT hsz hk=>?_
  refine⟨_,rfl,wpAny_letOwnedTupleGo_zip (s:={ s with heap:=h' }) hz' fun h'' hz'' hs=>?_⟩
  have hs':bW z h' h'':=hs
  have zlt:z<s.heap.objs.size:=ao hz
  have neT:s.heap.objs.size≠z:=bn zlt
  have hkk:∀c o,c∉[z,TO,i1,i2]->s.heap.get? c=some o->h''.get? c=some o:=fun c o hc e=>by
   simp only[ai,al,or_false,not_or]at hc
   exact(hs'.2 c hc.1).trans (hk c o hc.1 hc.2.1 hc.2.2.1 hc.2.2.2 e)
  have sub:∀c∈[z,TO,i1,i2],c∈[z,TI,TO,i1,i2]:=fun c hc=>by
   simp only[ai,al,or_false]at hc ⊢
   rcases hc with h|h|h|h
   .exact .inl h
   .exact .inr (.inr (.inl h))
   .exact .inr (.inr (.inr (.inl h)))
   .exact .inr (.inr (.inr (.inr h)))
  have hTn:H s.heap.objs.size=none:=I.hok.fresh (ak _)
  have trk:∀c o,H c=some o->c∉[z,TO,i1,i2]:=fun c o e hc=>by rw[(hf c (sub c hc)).1]at e;cases e
  have I1:Inv X pins σ (upd H s.heap.objs.size (.tup [x,y])) { s with heap:=h'' }:=by
   refine I.step (g':=s.gens) (d':=s.drawn) (t':=s.toks) (ch:=[z,TO,i1,i2]) (fun c hc=>?_) (fun c o _ _ hc e _=>hkk c o hc e) (fun c o _ _ hc e _=>⟨o.slots,hkk c o hc e⟩)
    (fun c o _ e n=>by rw[ae' (aw (ao e))];exact n) (fun c o hc e=>⟨o,hkk c o hc e⟩) (fun c ps e=>by rw[ae' (af' e hTn)];exact e) (fun c o p e=>by rw[ae' (af' e hTn)];exact e)
    (fun c ps e=>⟨#[],by rw[ae' (af' e hTn),e];simp⟩) (fun m hm=>?_) (fun c o e=>?_) I.bare
   .obtain⟨f0,f1,f2,f3,f4,f5⟩:=hf c (sub c hc)
    exact⟨f3,f1,f4,f5⟩
   .obtain⟨oo,es,ep,ho,r⟩:=hm
    exact⟨oo,es,ep,hkk _ oo (fun hc=>(hf _ (sub _ hc)).2.1 rfl) ho,r⟩
   .by_cases hb:c=s.heap.objs.size
    .subst hb
     rw[aa']at e;cases e
     exact⟨by show 2<=sizeLine;decide,[u,v],.cons ru (.cons rv .nil),⟨_,(hs'.2 _ neT).trans hT,rfl,⟨_,rfl⟩,rfl⟩⟩
    .rw[ae' hb]at e
     refine(I.hok c o e).stay (fun d q hd eq=>hkk d q ?_ eq) (fun d q=>by rw[ae' (af' q hTn)];exact q) fun d qs q=>by rw[ae' (af' q hTn)];exact q
     rcases hd with rfl|hd
     .exact trk _ _ e
     .exact trk _ _ hd
  refine⟨.ref s.heap.objs.size,_,I1,rfl,⟨s.heap.objs.size,x,y,rfl,hTn,fun xs' h'=>by rw[I.sq_inj h' hxs];exact hx,fun ys' h'=>by rw[I.sq_inj h' hys];exact hy,rfl⟩,⟨hz'',?_,⟨u,v,?_⟩,?_,?_⟩,fun c hc=>?_⟩
  .exact(hs'.2 TI D.TIz).trans (hk TI _ D.TIz D.TITO D.TIi1 D.TIi2 hTI)
  .exact(hs'.2 TO D.TOz).trans hTO'
  .exact h1'.at fun o e=>(hs'.2 i1 D.i1z).trans e
  .exact h2'.at fun o e=>(hs'.2 i2 D.i2z).trans e
  .rw[ae']
   .exact(hf c hc).1
   .intro q
    subst q
    simp only[ai,al,or_false]at hc
    rcases hc with q|q|q|q|q
    .exact neT q
    .exact aU _ (q ▸ ao hTI)
    .exact aU _ (q ▸ ao hTO)
    .obtain⟨o,e,_⟩:=h1.obj
     exact aU _ (q ▸ ao e)
    .obtain⟨o,e,_⟩:=h2.obj
     exact aU _ (q ▸ ao e)
 done:=by
  intro X hP hw hK hc i pins s σ H E I hf st hg
  subst hP hw hK
  obtain⟨xs,ys,hxs,hys,hend⟩:=hg
  obtain⟨hz,hTI,⟨a,b,hTO⟩,h1,h2⟩:=st
  obtain⟨us,rus,ous,_⟩:=I.sq hxs
  obtain⟨vs,rvs,ovs,_⟩:=I.sq hys
  have l1':=rus.length
  have l2':=rvs.length
  refine iH' (I.ok.hd hc) D hz hTI hTO h1 h2 ous ovs ?_ fun h' hk=>⟨rfl,?_⟩
  .rcases hend with q|q
   .exact .inl (by simp;omega)
   .exact .inr (by simp;omega)
  have sub:∀c∈[z,TO,i1,i2],c∈[z,TI,TO,i1,i2]:=fun c hc=>by
   simp only[ai,al,or_false]at hc ⊢
   rcases hc with h|h|h|h
   .exact .inl h
   .exact .inr (.inr (.inl h))
   .exact .inr (.inr (.inr (.inl h)))
   .exact .inr (.inr (.inr (.inr h)))
  have hkk:∀c o,c∉[z,TO,i1,i2]->s.heap.get? c=some o->h'.get? c=some o:=fun c o hc e=>by
   simp only[ai,al,or_false,not_or]at hc
   exact hk c o hc.1 hc.2.1 hc.2.2.1 hc.2.2.2 e
  have trk:∀c o,H c=some o->c∉[z,TO,i1,i2]:=fun c o e hc=>by rw[(hf c (sub c hc)).1]at e;cases e
  refine I.step (g':=s.gens) (d':=s.drawn) (t':=s.toks) (ch:=[z,TO,i1,i2]) (fun c hc=>?_) (fun c o _ _ hc e _=>hkk c o hc e) (fun c o _ _ hc e _=>⟨o.slots,hkk c o hc e⟩)
    (fun c o _ e n=>n) (fun c o hc e=>⟨o,hkk c o hc e⟩) (fun c ps e=>e) (fun c o p e=>e) (fun c ps e=>⟨#[],by rw[e];simp⟩) (fun m hm=>?_) (fun c o e=>?_) I.bare
  .obtain⟨f0,f1,f2,f3,f4,f5⟩:=hf c (sub c hc)
   exact⟨f3,f1,f4,f5⟩
  .obtain⟨oo,es,ep,ho,r⟩:=hm
   exact⟨oo,es,ep,hkk _ oo (fun hc=>(hf _ (sub _ hc)).2.1 rfl) ho,r⟩
  .refine(I.hok c o e).stay (fun d q hd eq=>hkk d q ?_ eq) (fun d q=>q) fun d qs q=>q
   rcases hd with rfl|hd
   .exact trk _ _ e
   .exact trk _ _ hd
 self:=fun _ _ _ _ _ st h=>wpAny_pyIter_zip st.1 h
section
variable {X:Cx} {tg:Expr}
def t6' (K:W.Frag) (tl:TE):TI:=fun σ H R=>tl σ H fun x H1=>
 (∃a,x=.ref a/\(∃xs,SqL K H1 a xs)/\R (Itl K a) H1)\/(∃a,x=.ref a/\(∃xs,SqT K H1 a xs)/\R (Itt K a) H1)\/∃z,x=.str z/\R (Its z) H1
theorem ql' {l:Expr} {tl:TE} (hl:PE X l tl):PI X tg l (t6' X.K tl):=by
 intro pins s σ H R I h
 refine thn (hl pins s σ H _ I h) fun v s1 ⟨x,H1,I1,r1,q1⟩=>?_
 rcases q1 with⟨a,e,⟨xs,hq⟩,q⟩|⟨a,e,⟨xs,hq⟩,q⟩|⟨z,e,q⟩
 .subst e
  cases r1
  obtain⟨its,rv,p,hz⟩:=I1.list hq
  refine cC p.isList ?_
  refine⟨s1.heap.objs.size,[s1.heap.objs.size],_,_,H1,rfl,I1.kept (t':=s1.toks) fun b o e=>ab _ e,ic' a _,⟨_,av _ rfl,rfl,rfl⟩,fun b hb=>?_,q⟩
  have e:b=s1.heap.objs.size:=by simpa using hb
  subst e
  exact I1.fpOk (ak _) (I1.hok.fresh (ak _))
 .subst e
  cases r1
  obtain⟨its,rv,p,hz⟩:=I1.tuple hq
  refine bC (show s1.heap.IsTuple a its.toArray from p) ?_
  refine⟨s1.heap.objs.size,[s1.heap.objs.size],_,_,H1,rfl,I1.kept (t':=s1.toks) fun b o e=>ab _ e,g2' a _,⟨_,av _ rfl,rfl,rfl⟩,fun b hb=>?_,q⟩
  have e:b=s1.heap.objs.size:=by simpa using hb
  subst e
  exact I1.fpOk (ak _) (I1.hok.fresh (ak _))
 .subst e
  obtain⟨t,rfl⟩:=r1
  have fin:∀(ty:String),(ty="str_ascii_iterator"\/ty="str_iterator")->PIE X pins σ tg R (.ref s1.heap.objs.size) { s1 with heap:=s1.heap.push { cls:=.type ty,data:=.fields #[.str z t,.int 0 0] } }:=fun ty hty=>by
   refine⟨s1.heap.objs.size,[s1.heap.objs.size],_,_,H1,rfl,I1.kept (t':=s1.toks) fun b o e=>ab _ e,kV' _ z ty t hty,⟨_,av _ rfl,rfl,rfl⟩,fun b hb=>?_,q⟩
   have e:b=s1.heap.objs.size:=by simpa using hb
   subst e
   exact I1.fpOk (ak _) (I1.hok.fresh (ak _))
  cases ha:z.cps.all (· < 128)
  .exact wpAny_pyIter_wide ha (fin _ (.inr rfl))
  .exact wpAny_pyIter_ascii ha (fin _ (.inl rfl))
def t7' (K:W.Frag) (ta:TA):TI:=fun σ H R=>ta σ H fun vs H1=>∃(k j:Bool) (a b:Addr),vs=[.ref a,.ref b]/\(∃xs,Sq k K H1 a xs)/\(∃ys,Sq j K H1 b ys)/\R (mB' k j K a b) H1
theorem qm' {a b:Expr} {ta:TA} {p pos:Pos} {elts:List Expr} {kt:Nat} {pt:Pos} (hg:Gl X "zip") (hm:X.mg "zip"=none) (ha:PA X [a,b] ta) (hs:starEach [a,b] X.env=[(false,eval a X.env),(false,eval b X.env)]) (hs2:starEach [b] X.env=[(false,eval b X.env)]):
  PI X (.Tuple elts kt pt) (.Call (.Name "zip" p) [a,b] [] pos) (t7' X.K ta):=by
 intro pins s σ H R I h
 refine Call_ (dn' I hg hm boot_zip (PyProof.Rows.callWith_type1 (thn (ha pos pins s σ H _ I h) fun us s1 ⟨vs,H1,I1,r1,q1⟩=>?_) (by rw[hs,hs2]) (by rw[hs2];rfl)))
 obtain⟨k,j,a,b,e,⟨xs,hxs⟩,⟨ys,hys⟩,q⟩:=q1
 subst e
 cases r1 with
 |cons r rr=>
  cases rr with
  |cons r' rr=>
   cases rr
   cases r
   cases r'
   obtain⟨us,rus,ous,_⟩:=I1.sq hxs
   obtain⟨vs,rvs,ovs,_⟩:=I1.sq hys
   refine iG' ous ovs fun h' hz hTI hTO h1 h2 hsz hk=>wpAny_pyIter_zip hz ?_
   refine⟨s1.heap.objs.size+4,[s1.heap.objs.size+4,s1.heap.objs.size+2,s1.heap.objs.size+3,s1.heap.objs.size,s1.heap.objs.size+1],_,_,H1,rfl,I1.kept (t':=s1.toks) hk,kW' (k:=k) (j:=j) (PyProof.Rows.zipApart_new ous.lt ovs.lt),⟨hz,hTI,⟨_,_,hTO⟩,h1,h2⟩,fun c hc=>?_,q⟩
   have hle:s1.heap.objs.size<=c:=by
    simp only[ai,al,or_false]at hc
    rcases hc with rfl|rfl|rfl|rfl|rfl
    .exact aF _ _
    .exact aF _ _
    .exact aF _ _
    .exact ak _
    .exact aF _ _
   exact I1.fpOk hle (I1.hok.fresh hle)
end
def Itd (go:Nat->Hp->Prop) (val:Nat->Hp->V->Prop) (stop:Nat->Hp->Prop):It:=
 ⟨go,fun i H v H'=>∃p x,v=.ref p/\H p=none/\val i H x/\H'=upd H p (.tup [.int i,x]),stop⟩
structure EnSrc (P:Program) (w:World) (K:W.Frag) (e it:Addr) (Sx:Nat->Heap->Prop) (go:Nat->Hp->Prop) (val:Nat->Hp->V->Prop) (stop:Nat->Hp->Prop):Prop where
 ne:e≠it
 obj:∀i h,Sx i h->∃o,h.get? it=some o/\∀v,o.data≠.cell v
 keep:∀i h h',Sx i h->(∀o,h.get? it=some o->h'.get? it=some o)->Sx i h'
 item:∀(X:Cx),X.prog=P->X.w=w->X.K=K->X.calm=true->∀(i:Nat) (pins:List (Addr×Obj)) (s:Shared) (σ:St) (H:Hp),Inv X pins σ H s->H e=none->H it=none->e<s.heap.objs.size->(∃old,IsEnum s.heap e it i old)->Sx i s.heap->go i H->
  ∃n Pd Sd fp,Draws P w X.A.in1 it fp n Pd Sd/\e∉fp/\i<n/\Sd i s.heap/\(∀j h,Sd j h->Sx j h)/\∀u,Pd i u->∃x,aH' x u/\val i H x
 done:∀(X:Cx),X.prog=P->X.w=w->X.K=K->X.calm=true->∀(i:Nat) (pins:List (Addr×Obj)) (s:Shared) (σ:St) (H:Hp),Inv X pins σ H s->H e=none->H it=none->(∃old,IsEnum s.heap e it i old)->Sx i s.heap->stop i H->
  ∃Pd Sd fp,Draws P w X.A.in1 it fp i Pd Sd/\Sd i s.heap
theorem dM' {P:Program} {w:World} {K:W.Frag} {elts:List Expr} {kt:Nat} {pt:Pos} {e it:Addr} {Sx:Nat->Heap->Prop} {go:Nat->Hp->Prop} {val:Nat->Hp->V->Prop} {stop:Nat->Hp->Prop} (S:EnSrc P w K e it Sx go val stop):
  Turn P w K (.Tuple elts kt pt) (Itd go val stop) [e,it] e (fun i h=>(∃old,IsEnum h e it i old)/\Sx i h) where
 mem:=by simp
 obj:=fun i h st b hb=>by
  obtain⟨⟨old,he⟩,hs⟩:=st
  simp only[ai,al,or_false]at hb
  rcases hb with rfl|rfl
  .exact⟨_,he,fun v=>(nomatch ·)⟩
  .exact S.obj i h hs
 keep:=fun i h h' st kk=>by
  obtain⟨⟨old,he⟩,hs⟩:=st
  exact⟨⟨old,kk e (by simp) _ he⟩,S.keep i h h' hs fun o q=>kk it (by simp) o q⟩
 item:=by
  intro X hP hw hK hc i pins s σ H E I hf st hg
  have hfe:=hf e (by simp)
  have hfi:=hf it (by simp)
  obtain⟨n,Pd,Sd,fp,D,hefp,hin,hsd,hsub,hval⟩:=S.item X hP hw hK hc i pins s σ H I hfe.1 hfi.1 (ao st.1.choose_spec) st.1 st.2 hg
  obtain⟨⟨old,he⟩,hs⟩:=st
  subst hP hw hK
  refine wpAny_pyNext_enum_itemD D he hsd hin S.ne hefp fun u h' tk hPu ho hs' hT hsz hk=>?_
  obtain⟨x,rx,vx⟩:=hval u hPu
  refine⟨_,rfl,wpAny_letOwnedTupleGo_enum (s:={ s with heap:=h',toks:=tk+1 }) ho fun h'' he'' hb=>?_⟩
  have hb':bW e h' h'':=hb
  have elt:e<s.heap.objs.size:=ao he
  have neT:s.heap.objs.size≠e:=bn elt
  have hTn:H s.heap.objs.size=none:=I.hok.fresh (ak _)
  have hkk:∀c o,c∉[e,it]->s.heap.get? c=some o->h''.get? c=some o:=fun c o hc q=>by
   simp only[ai,al,or_false,not_or]at hc
   exact(hb'.2 c hc.1).trans (hk c o hc.1 hc.2 q)
  have trk:∀c o,H c=some o->c∉[e,it]:=fun c o q hc=>by rw[(hf c hc).1]at q;cases q
  have I1:Inv X pins σ (upd H s.heap.objs.size (.tup [.int i,x])) { s with heap:=h'',toks:=tk+1 }:=by
   refine I.step (g':=s.gens) (d':=s.drawn) (t':=tk+1) (ch:=[e,it]) (fun c hc=>?_) (fun c o _ _ hc q _=>hkk c o hc q) (fun c o _ _ hc q _=>⟨o.slots,hkk c o hc q⟩)
    (fun c o _ q n=>by rw[ae' (aw (ao q))];exact n) (fun c o hc q=>⟨o,hkk c o hc q⟩) (fun c ps q=>by rw[ae' (af' q hTn)];exact q) (fun c o p q=>by rw[ae' (af' q hTn)];exact q)
    (fun c ps q=>⟨#[],by rw[ae' (af' q hTn),q];simp⟩) (fun m hm=>?_) (fun c o q=>?_) I.bare
   .obtain⟨f0,f1,f2,f3,f4,f5⟩:=hf c hc
    exact⟨f3,f1,f4,f5⟩
   .obtain⟨oo,es,ep,ho,r⟩:=hm
    exact⟨oo,es,ep,hkk _ oo (fun hc=>(hf _ hc).2.1 rfl) ho,r⟩
   .by_cases hb:c=s.heap.objs.size
    .subst hb
     rw[aa']at q;cases q
     exact⟨by show 2<=sizeLine;decide,[.int i tk,u],.cons ⟨_,rfl⟩ (.cons rx .nil),⟨_,(hb'.2 _ neT).trans hT,rfl,⟨_,rfl⟩,rfl⟩⟩
    .rw[ae' hb]at q
     refine(I.hok c o q).stay (fun d q hd eq=>hkk d q ?_ eq) (fun d q=>by rw[ae' (af' q hTn)];exact q) fun d qs q=>by rw[ae' (af' q hTn)];exact q
     rcases hd with rfl|hd
     .exact trk _ _ (by assumption)
     .exact trk _ _ hd
  refine⟨.ref s.heap.objs.size,_,I1,rfl,⟨s.heap.objs.size,x,rfl,hTn,vx,rfl⟩,⟨⟨_,he''⟩,S.keep _ _ _ (hsub _ _ hs') fun o q=>(hb'.2 it (Ne.symm S.ne)).trans q⟩,fun c hc=>?_⟩
  rw[ae']
  .exact(hf c hc).1
  .intro q
   subst q
   simp only[ai,al,or_false]at hc
   rcases hc with q|q
   .exact neT q
   .obtain⟨o,e1,_⟩:=S.obj _ _ hs
    exact aU _ (q ▸ ao e1)
 done:=by
  intro X hP hw hK hc i pins s σ H E I hf st hg
  have hfe:=hf e (by simp)
  have hfi:=hf it (by simp)
  obtain⟨Pd,Sd,fp,D,hsd⟩:=S.done X hP hw hK hc i pins s σ H I hfe.1 hfi.1 st.1 st.2 hg
  obtain⟨⟨old,he⟩,hs⟩:=st
  subst hP hw hK
  refine wpAny_pyNext_enum_endD D he hsd fun h' hx=>⟨rfl,?_⟩
  obtain⟨f0,f1,f2,f3,f4,f5⟩:=hfi
  exact I.turned (t':=s.toks) (fun b o hb q=>hx b o hb q) f0 f1 f3 f4 f5
 self:=fun _ _ _ _ _ st h=>by
  obtain⟨⟨old,he⟩,_⟩:=st
  exact wpAny_pyIter_enum he h
def Ite (K:W.Frag) (a:Addr):It:=Itd (fun i H=>∃xs x,SqL K H a xs/\xs[i]?=some x) (fun i H x=>∀xs,SqL K H a xs->xs[i]?=some x) (fun i H=>∃xs,SqL K H a xs/\xs.length=i)
theorem nT' {P:Program} {w:World} {K:W.Frag} {e it a:Addr} (ne:e≠it) (na:a≠e) (nai:a≠it):EnSrc P w K e it (fun i h=>h.IsListIter it a i) (fun i H=>∃xs x,SqL K H a xs/\xs[i]?=some x) (fun i H x=>∀xs,SqL K H a xs->xs[i]?=some x) (fun i H=>∃xs,SqL K H a xs/\xs.length=i) where
 ne:=ne
 obj:=fun i h st=>by
  obtain⟨o,q,c,d⟩:=st
  exact⟨o,q,fun v z=>by rw[d]at z;cases z⟩
 keep:=fun i h h' st k=>st.at k
 item:=by
  intro X hP hw hK hc i pins s σ H I _ _ _ _ st hg
  obtain⟨xs,x,hxs,hx⟩:=hg
  subst hP hw hK
  obtain⟨its,rv,p,hz⟩:=I.list hxs
  have hl:=rv.length
  obtain⟨u,hu,ru⟩:=rv.get hx
  refine⟨_,_,_,_,Draws.list (show X.A.in1.handled=none from I.ok.hd hc) it a nai its.toArray,?_,?_,⟨st,p.isList⟩,fun j h q=>q.1,fun u' hu'=>⟨x,?_,fun ys hys=>by rw[I.list_inj hys hxs];exact hx⟩⟩
  .simp only[ai,al,or_false,not_or]
   exact⟨ne,Ne.symm na⟩
  .have:=(aO.mp hx).1
   simp;omega
  .have e2:its[i]?=some u':=by simpa using hu'
   rw[hu]at e2
   cases e2
   exact ru
 done:=by
  intro X hP hw hK hc i pins s σ H I _ _ _ st hg
  obtain⟨xs,hxs,hx⟩:=hg
  subst hP hw hK
  obtain⟨its,rv,p,hz⟩:=I.list hxs
  have hl:=rv.length
  have e:i=its.toArray.size:=by simp;omega
  subst e
  exact⟨_,_,_,Draws.list (show X.A.in1.handled=none from I.ok.hd hc) it a nai its.toArray,st,p.isList⟩
def tq' (z:Str):It:=Itd (fun i _=>i<z.cps.size) (fun i _ v=>∃c,z.cps[i]?=some c/\v=.str ⟨#[c]⟩) (fun i _=>z.cps.size=i)
theorem qn' {P:Program} {w:World} {K:W.Frag} {e it:Addr} {z:Str} {t:Tok} {ty:String} (hty:ty="str_ascii_iterator"\/ty="str_iterator") (ne:e≠it):EnSrc P w K e it (fun i h=>h.IsStrIter it ty z t i) (fun i _=>i<z.cps.size) (fun i _ v=>∃c,z.cps[i]?=some c/\v=.str ⟨#[c]⟩) (fun i _=>z.cps.size=i) where
 ne:=ne
 obj:=fun i h st=>by
  obtain⟨o,q,c,d⟩:=st
  exact⟨o,q,fun v z=>by rw[d]at z;cases z⟩
 keep:=fun i h h' st k=>by
  obtain⟨o,q,r⟩:=st
  exact⟨o,k o q,r⟩
 item:=by
  intro X hP hw hK hc i pins s σ H I _ _ _ _ st hg
  subst hP hw hK
  have hh:X.A.in1.handled=none:=I.ok.hd hc
  rcases hty with rfl|rfl
  .refine⟨_,_,_,_,Draws.strAscii hh it z t,by simpa using ne,hg,st,fun j h q=>q,fun u hu=>?_⟩
   obtain⟨c,t',hc',rfl⟩:=hu
   exact⟨.str ⟨#[c]⟩,⟨_,rfl⟩,c,hc',rfl⟩
  .refine⟨_,_,_,_,Draws.strWide hh it z t,by simpa using ne,hg,st,fun j h q=>q,fun u hu=>?_⟩
   obtain⟨c,t',hc',rfl⟩:=hu
   exact⟨.str ⟨#[c]⟩,⟨_,rfl⟩,c,hc',rfl⟩
 done:=by
  intro X hP hw hK hc i pins s σ H I _ _ _ st hg
  subst hP hw hK
  have hh:X.A.in1.handled=none:=I.ok.hd hc
  have hg':z.cps.size=i:=hg
  subst hg'
  rcases hty with rfl|rfl
  .exact⟨_,_,_,Draws.strAscii hh it z t,st⟩
  .exact⟨_,_,_,Draws.strWide hh it z t,st⟩
theorem fe' {prog:Program} {w:World} {A:Around} (hh:A.handled=none) (it l:Addr) (hne:l≠it) (items:Array Value):
  Draws prog w A it [it,l] items.size (fun i v=>items[i]?=some v) (fun i h=>cq' true h it l i/\dy' true h l items) where
 live:=fun _ _ st=>let⟨o,ho,_⟩:=st.1.obj;⟨o,ho⟩
 frame:=fun _ _ _ st hk=>⟨st.1.at fun o e=>hk it (by simp) o e,st.2.at fun o e=>hk l (by simp) o e⟩
 item:=fun i s Q E hi st hQ=>by
  refine ba' st.1 st.2 (x:=items[i]) (by simp[hi]) fun h' hit' hs'=>?_
  exact hQ _ h' s.toks (by simp[hi]) ⟨hit',st.2.at fun o e=>hs'.extBut l o hne e⟩ hs'
 done:=fun s Q E st hE=>cC' hh st.1 st.2 (by simp) hE
set_option tactic.hygienic true in
open AutoSeq1 (wpAny_loadPart') in
theorem cJ' (l:Addr) (items:Array Value) (n:Nat) (dct:Option Addr) (sl:Array (Option Value)):
  Meets (Builtin.«enumerate.__new__» ⟨[.type "enumerate",.ref l],[]⟩) (fun _ R s=>s.heap.get? l=some { cls:=.type "tuple",dict:=dct,data:=.seq items n,slots:=sl }/\
   R (.ok (.ret (.ref (s.heap.push { cls:=.type "tuple_iterator",data:=.fields #[.ref l,.int 0 0] }).objs.size)))
    { s with heap:=(s.heap.push { cls:=.type "tuple_iterator",data:=.fields #[.ref l,.int 0 0] }).push { cls:=.type "enumerate",data:=.fields #[.none,.bool false,.ref s.heap.objs.size,rawInt 0,.none,.none] } }):=
 .of_wp fun prog w A R s h=>by
  obtain⟨hp,g,d,tk,os⟩:=s;obtain⟨hl,h⟩:=h
  have hsub:=sub_enumerate
  have hL:Heap.IsTuple (Shared.heap ⟨hp,g,d,tk,os⟩) l items:=⟨_,hl,rfl,n,rfl⟩
  wp_walk using wpAny_loadPart' hl
  refine wpAny_stack_any fun st=>ap ?_
  split
  .rename_i c _ _ _ _ _
   cases(c == Value.type "enumerate")
   .wp_walk using wpAny_loadPart' hl,bC hL
    exact⟨_,rfl,h⟩
   .wp_walk using wpAny_loadPart' hl,bC hL
    exact⟨_,rfl,h⟩
  .wp_walk using wpAny_loadPart' hl,bC hL
   exact⟨_,rfl,h⟩
theorem cK' {prog:Program} {w:World} {A:Around} {E:Value->Shared->Prop} {s:Shared} {l:Addr} {items:Array Value} {Q:Value->Shared->Prop} (hL:s.heap.IsTuple l items)
  (h:∀h',IsEnum h' (s.heap.objs.size+1) s.heap.objs.size 0 .none->cq' true h' s.heap.objs.size l 0->h'.objs.size=s.heap.objs.size+2->
   (∀b o,s.heap.get? b=some o->h'.get? b=some o)->Q (.ref (s.heap.objs.size+1)) { s with heap:=h' }):
  wpAny (model prog w) A (call (.type "enumerate") [.ref l]) Q E s:=by
 obtain⟨⟨c,dct,dt,sl⟩,hl,hc,n,hd⟩:=hL
 replace hc:c=.type "tuple":=hc
 replace hd:dt=.seq items n:=hd
 subst hc hd
 refine callType_new F.called_enumerate (by decide) (F.typeCall_enumerate_1 _) (F.newCall_enumerate_1 _) (fun obj=>F.args_object_init_2 obj _) F.entry_enumerate_new
  (cJ' l items n dct sl) ⟨hl,?_⟩
 have hz:(s.heap.push { cls:=.type "tuple_iterator",data:=.fields #[.ref l,.int 0 0] }).objs.size=s.heap.objs.size+1:=aZ ..
 show _/\_
 rw[hz]
 have he:IsEnum ((s.heap.push { cls:=.type "tuple_iterator",data:=.fields #[.ref l,.int 0 0] }).push
   { cls:=.type "enumerate",data:=.fields #[.none,.bool false,.ref s.heap.objs.size,rawInt 0,.none,.none] }) (s.heap.objs.size+1) s.heap.objs.size 0 .none:=by
  have:=av (s.heap.push { cls:=.type "tuple_iterator",data:=.fields #[.ref l,.int 0 0] })
   (o:={ cls:=.type "enumerate",data:=.fields #[.none,.bool false,.ref s.heap.objs.size,rawInt 0,.none,.none] }) rfl
  rw[hz]at this;exact this
 refine⟨⟨_,he,rfl⟩,h _ he ⟨_,ab _ (av _ rfl),rfl,rfl⟩ (by rw[aZ,hz]) fun b o x=>ab _ (ab _ x)⟩
def tr' (K:W.Frag) (a:Addr):It:=Itd (fun i H=>∃xs x,SqT K H a xs/\xs[i]?=some x) (fun i H x=>∀xs,SqT K H a xs->xs[i]?=some x) (fun i H=>∃xs,SqT K H a xs/\xs.length=i)
theorem qo' {P:Program} {w:World} {K:W.Frag} {e it a:Addr} (ne:e≠it) (na:a≠e) (nai:a≠it):EnSrc P w K e it (fun i h=>cq' true h it a i) (fun i H=>∃xs x,SqT K H a xs/\xs[i]?=some x) (fun i H x=>∀xs,SqT K H a xs->xs[i]?=some x) (fun i H=>∃xs,SqT K H a xs/\xs.length=i) where
 ne:=ne
 obj:=fun i h st=>by
  obtain⟨o,q,d⟩:=st.obj
  exact⟨o,q,fun v z=>by rw[d]at z;cases z⟩
 keep:=fun i h h' st k=>st.at k
 item:=by
  intro X hP hw hK hc i pins s σ H I _ _ _ _ st hg
  obtain⟨xs,x,hxs,hx⟩:=hg
  subst hP hw hK
  obtain⟨its,rv,p,hz⟩:=I.tuple hxs
  have hl:=rv.length
  obtain⟨u,hu,ru⟩:=rv.get hx
  refine⟨_,_,_,_,fe' (show X.A.in1.handled=none from I.ok.hd hc) it a nai its.toArray,?_,?_,⟨st,p⟩,fun j h q=>q.1,fun u' hu'=>⟨x,?_,fun ys hys=>by rw[I.tuple_inj hys hxs];exact hx⟩⟩
  .simp only[ai,al,or_false,not_or]
   exact⟨ne,Ne.symm na⟩
  .have:=(aO.mp hx).1
   simp;omega
  .have e2:its[i]?=some u':=by simpa using hu'
   rw[hu]at e2
   cases e2
   exact ru
 done:=by
  intro X hP hw hK hc i pins s σ H I _ _ _ st hg
  obtain⟨xs,hxs,hx⟩:=hg
  subst hP hw hK
  obtain⟨its,rv,p,hz⟩:=I.tuple hxs
  have hl:=rv.length
  have e:i=its.toArray.size:=by simp;omega
  subst e
  exact⟨_,_,_,fe' (show X.A.in1.handled=none from I.ok.hd hc) it a nai its.toArray,st,p⟩
section
variable {X:Cx}
def nU' (K:W.Frag) (tl:TE):TI:=fun σ H R=>b3' tl gp' σ H fun vs H1=>∃x,vs=[x]/\
 ((∃a,x=.ref a/\(∃xs,SqL K H1 a xs)/\R (Ite K a) H1)\/(∃z,x=.str z/\R (tq' z) H1)\/∃a,x=.ref a/\(∃xs,SqT K H1 a xs)/\R (tr' K a) H1)
theorem d0':bootBuiltins "enumerate"=some (.type "enumerate"):=by decide +kernel
theorem nV' {a:Expr} {tl:TE} {p pos:Pos} {elts:List Expr} {kt:Nat} {pt:Pos} (hg:Gl X "enumerate") (hm:X.mg "enumerate"=none) (ha:PA X [a] (b3' tl gp')) (hs:starEach [a] X.env=[(false,eval a X.env)]):
  PI X (.Tuple elts kt pt) (.Call (.Name "enumerate" p) [a] [] pos) (nU' X.K tl):=by
 intro pins s σ H R I h
 have h':b3' tl gp' σ H (fun vs H1=>∃x,vs=[x]/\((∃a,x=.ref a/\(∃xs,SqL X.K H1 a xs)/\R (Ite X.K a) H1)\/(∃z,x=.str z/\R (tq' z) H1)\/∃a,x=.ref a/\(∃xs,SqT X.K H1 a xs)/\R (tr' X.K a) H1)):=h
 refine Call_ (dn' I hg hm d0' (PyProof.Rows.callWith_type1 (thn (ha pos pins s σ H _ I h') fun us s1 ⟨vs,H1,I1,r1,q1⟩=>?_) (by rw[hs];rfl) (by rfl)))
 obtain⟨x,e,q1⟩:=q1
 subst e
 cases r1 with
 |cons r rr=>
  cases rr
  rcases q1 with⟨a,rfl,⟨xs,hxs⟩,q⟩|⟨z,rfl,q⟩|⟨a,rfl,⟨xs,hxs⟩,q⟩
  .cases r
   obtain⟨its,rv,pl,hz⟩:=I1.list hxs
   refine call_enumerate_list pl.isList fun h' he hit hsz hk=>wpAny_pyIter_enum he ?_
   have la:a<s1.heap.objs.size:=by
    obtain⟨o,q,_⟩:=pl.isList
    exact ao q
   refine⟨s1.heap.objs.size+1,[s1.heap.objs.size+1,s1.heap.objs.size],_,_,H1,rfl,I1.kept (t':=s1.toks) hk,dM' (nT' (Nat.succ_ne_self _) (aw (cB la)) (aw la)),⟨⟨_,he⟩,hit⟩,fun c hc=>?_,q⟩
   have hle:s1.heap.objs.size<=c:=by
    simp only[ai,al,or_false]at hc
    rcases hc with rfl|rfl<;>omega
   exact I1.fpOk hle (I1.hok.fresh hle)
  .obtain⟨t,rfl⟩:=r
   refine call_enumerate_str fun h' he hit hsz hk=>wpAny_pyIter_enum he ?_
   have hty:strIterType z="str_ascii_iterator"\/strIterType z="str_iterator":=by
    unfold strIterType
    split
    .exact .inl rfl
    .exact .inr rfl
   refine⟨s1.heap.objs.size+1,[s1.heap.objs.size+1,s1.heap.objs.size],_,_,H1,rfl,I1.kept (t':=s1.toks) hk,dM' (qn' hty (Nat.succ_ne_self _)),⟨⟨_,he⟩,hit⟩,fun c hc=>?_,q⟩
   have hle:s1.heap.objs.size<=c:=by
    simp only[ai,al,or_false]at hc
    rcases hc with rfl|rfl<;>omega
   exact I1.fpOk hle (I1.hok.fresh hle)
  .cases r
   obtain⟨its,rv,pl,hz⟩:=I1.tuple hxs
   refine cK' (show s1.heap.IsTuple a its.toArray from pl) fun h' he hit hsz hk=>wpAny_pyIter_enum he ?_
   have la:a<s1.heap.objs.size:=by
    obtain⟨o,q,_⟩:=pl
    exact ao q
   refine⟨s1.heap.objs.size+1,[s1.heap.objs.size+1,s1.heap.objs.size],_,_,H1,rfl,I1.kept (t':=s1.toks) hk,dM' (qo' (Nat.succ_ne_self _) (aw (cB la)) (aw la)),⟨⟨_,he⟩,hit⟩,fun c hc=>?_,q⟩
   have hle:s1.heap.objs.size<=c:=by
    simp only[ai,al,or_false]at hc
    rcases hc with rfl|rfl<;>omega
   exact I1.fpOk hle (I1.hok.fresh hle)
end
section
variable {X:Cx}
theorem eC':aN' X (.type "int") (fun xs H Q=>∃x n,xs=[.str x]/\PySem.intText? x=some n/\x.length<=640/\Q (.int n) H):=by
 intro pins s σ H xs us Q I r h
 obtain⟨x,n,rfl,hn,hl,q⟩:=h
 obtain⟨u,rfl,t,rfl⟩:=dw' r
 exact W.KIN.call_text hn hl ⟨.int n,H,I.tok _,⟨_,rfl⟩,q⟩
def vG':List V->Hp->VK->Prop:=fun xs H Q=>((∃i,xs=[.int i]/\Q (.int i) H)\/∃k,xs=[.bl k]/\Q (.int (if k then 1 else 0)) H)\/∃x n,xs=[.str x]/\PySem.intText? x=some n/\x.length<=640/\Q (.int n) H
theorem iI':aN' X (.type "int") vG':=il'.or eC'
def t8':R2:=fun x y H Q=>∃a n,x=.str a/\y=.int n/\-1000000<=n/\n<=1000000/\a.length*n.toNat<=1000000/\Q (.str (Txt.mul a n)) H
theorem hA':OpR X (binaryOp .Mult) t8':=by
 intro pins s σ H x y v u Q I rx ry h
 obtain⟨a,n,rfl,rfl,h1,h2,h3,q⟩:=h
 obtain⟨t,rfl⟩:=rx
 obtain⟨t',rfl⟩:=ry
 refine SB.mul ⟨?_,fun hn hc=>?_,fun hn hc=>?_⟩ fun t' k=>⟨.str (Txt.mul a n),H,I.tok _,⟨_,rfl⟩,q⟩
 .have e1:¬n < -(2 ^ 63:Int):=by omega
  have e2:¬n ≥ 2 ^ 63:=by omega
  simp[e1,e2]
  omega
 .have hn0:0<n:=by omega
  intro hgt
  have h4:(a.length:Int)*n<=1000000:=by
   have:((a.length*n.toNat:Nat):Int)<=1000000:=by omega
   rw[Int.natCast_mul,Int.toNat_of_nonneg (by omega)]at this
   exact this
  have h5:=(Int.ediv_lt_iff_lt_mul hn0).mp hgt
  omega
 .have e:Builtin.Str.tooLong (a.length*n.toNat)=false:=by
   unfold Builtin.Str.tooLong
   have:sizeLine=16777216:=sizeLine_eq
   simp
   omega
  exact e
def qp' (K:W.Frag):V->List V->Hp->VK->Prop:=fun x xs H Q=>∃(sep:Str) (p:Addr) (ys:List Str),x=.str sep/\xs=[.ref p]/\(SqL K H p (ys.map V.str)\/SqT K H p (ys.map V.str))/\(ys.map (·.length)).sum+ys.length*sep.length<=16777216/\Q (.str (Txt.join sep ys)) H
theorem dd':∀{ys:List Str} {us:List Value},ay' (ys.map V.str) us->StrsAre us ys
 | [],us,h=>by
  have e:=h.zero
  subst e
  exact .nil
 |y :: ys,_,.cons r t=>by
  obtain⟨k,rfl⟩:=r
  exact .cons y k (dd' t)
theorem nW':MtR X "str.join" (qp' X.K):=by
 intro pins s σ H x xs v us Q I rx rv h
 obtain⟨sep,p,ys,rfl,rfl,hs,hz,q⟩:=h
 obtain⟨t,rfl⟩:=rx
 obtain⟨u,rfl,ru⟩:=rv.one
 cases ru
 rcases hs with hs|hs
 .obtain⟨its,r,pl,_⟩:=I.list hs
  exact join_list pl.isList (dd' r) hz fun t' k=>⟨.str _,H,I.tok _,⟨_,rfl⟩,q⟩
 .obtain⟨its,r,pl,_⟩:=I.tuple hs
  exact join_tuple pl (dd' r) hz fun t' k=>⟨.str _,H,I.tok _,⟨_,rfl⟩,q⟩
def wk':V->Option Int->Option Int->Hp->VK->Prop:=fun x lo hi H Q=>∃a,x=.str a/\a.length<=sizeLine/\Q (.str (Txt.slice a lo hi)) H
theorem qq':SlR X wk':=by
 intro pins s σ H x v vl vu lo hi sl Q I rx hs pl pu h
 obtain⟨a,rfl,hz,q⟩:=h
 obtain⟨t,rfl⟩:=rx
 have fin:∀(l u:Option (Int×Tok)),l.map (·.1)=lo->u.map (·.1)=hi->s.heap.IsSlice sl l u none->wpAny (model X.prog X.w) X.A (getItem (.str a t) (.ref sl)) (EP X pins σ Q) X.xe s:=by
  intro l u e1 e2 hsl
  refine wpAny_getItem_str_slice (l:=l) (u:=u) (st:=none) hsl rfl ?_
  refine post_val_or_str ?_
  subst e1 e2
  exact⟨au (Txt.slice_le a _ _) hz,fun t' k=>⟨.str _,H,I.tok _,⟨_,rfl⟩,q⟩⟩
 refine⟨"str",_,F.slot_str_getitem.lookup,typeIs_str _ _ _,?_⟩
 cases pl with
 |none=>
  cases pu with
  |none=>exact fin none none rfl rfl hs
  |int j u=>exact fin none (some (j,u)) rfl rfl hs
 |int i t1=>
  cases pu with
  |none=>exact fin (some (i,t1)) none rfl rfl hs
  |int j u=>exact fin (some (i,t1)) (some (j,u)) rfl rfl hs
def aT' (H:Hp):V->Option String
 | .non=>some "NoneType"
 | .bl _=>some "bool"
 | .int _=>some "int"
 | .str _=>some "str"
 | .ref a=>match H a with
  |some (.lst _)=>some "list"
  |some (.tup _)=>some "tuple"
  |some (.dK _)=>some "dict"
  |some (.dT _)=>some "dict"
  |some (.frz _ (.lst _))=>some "list"
  |_=>none
 |_=>none
set_option tactic.hygienic true in
theorem iJ' {K:W.Frag} {H:Hp} {x:V} {T:String} (h:aT' H x=some T):TyOf K H x (.type T):=by
 cases x with
 |non=>cases h;exact .non
 |bl b=>cases h;exact .bl b
 |int i=>cases h;exact .int i
 |str y=>cases h;exact .str y
 |byt _=>cases h
 |flt _=>cases h
 |ty _=>cases h
 |ref a=>
  have h:(match H a with
   |some (.lst _)=>some "list"
   |some (.tup _)=>some "tuple"
   |some (.dK _)=>some "dict"
   |some (.dT _)=>some "dict"
   |some (.frz _ (.lst _))=>some "list"
   |_=>none)=some T:=h
  split at h
  .rename_i e;cases h;exact .lst e
  .rename_i e;cases h;exact .tup e
  .rename_i e;cases h;exact .dK e
  .rename_i e;cases h;exact .dT e
  .rename_i e;cases h;exact .frz e
  .cases h
def isT (T c:String):Bool:=T == c || (T == "bool"&&c == "int")
def b9':List String:=["NoneType","bool","int","str","list","tuple","dict"]
theorem dp' (K:W.Frag):∀T∈b9',∀c∈["bool","int","str","list","tuple","dict"],W.kitOne K (.type T) (.type c)=some (isT T c):=by
 intro T hT c hc
 simp only[b9',ai,al,or_false]at hT hc
 rcases hT with rfl|rfl|rfl|rfl|rfl|rfl|rfl<;>rcases hc with rfl|rfl|rfl|rfl|rfl|rfl<;>rfl
def vH':List V->Hp->VK->Prop:=fun xs H Q=>
 (∃x T c,xs=[x,.ty c]/\aT' H x=some T/\T∈b9'/\c∈["bool","int","str","list","tuple","dict"]/\Q (.bl (isT T c)) H)\/
 (∃(x:V) (T:String) (p:Addr) (cs:List String),xs=[x,.ref p]/\aT' H x=some T/\T∈b9'/\H p=some (.tup (cs.map V.ty))/\(∀c∈cs,c∈["bool","int","str","list","tuple","dict"])/\Q (.bl (cs.any (isT T))) H)
theorem iK':∀{cs:List String} {us:List Value},ay' (cs.map V.ty) us->us=cs.map Value.type
 | [],us,h=>h.zero
 |c :: cs,_,.cons r t=>by
  have r':_=Value.type c:=r
  rw[r',iK' t]
  rfl
theorem dq' (K:W.Frag) {T:String} (hT:T∈b9'):∀{cs:List String},(∀c∈cs,c∈["bool","int","str","list","tuple","dict"])->W.kitAny K (.type T) (cs.map Value.type)=some (cs.any (isT T))
 | [],_=>rfl
 |c :: cs,h=>by
  have h1:=dp' K T hT c (h c aJ)
  have h2:=dq' K hT (cs:=cs) fun c' hc'=>h c' (az _ hc')
  show(match W.kitOne K (.type T) (.type c)with|some true=>some true|some false=>W.kitAny K (.type T) (cs.map Value.type)|none=>none)=_
  rw[h1]
  cases hb:isT T c
  .rw[bY,hb]
   exact h2
  .rw[bY,hb]
   rfl
set_option tactic.hygienic true in
theorem hB' {pins:List (Addr×Obj)} {σ:St} {H:Hp} {s:Shared} {Q:Value->Shared->Prop} {E:Value->Shared->Prop} {b:Bool} {x:V} {u:Value} {T:String} {p:Addr} {dd:Option Addr} {its:List Value} {n:Nat} {sl:Array (Option Value)} (I:Inv X pins σ H s) (rx:aH' x u) (ty:aT' H x=some T)
  (hp:s.heap.get? p=some ⟨.type "tuple",dd,.seq its.toArray n,sl⟩) (e:W.kitAny X.K (.type T) its=some b) (h:∀tk,Q (.bool b) { s with toks:=tk }):
  wpAny (model X.prog X.w) X.A (call (.builtin "isinstance") [u,.ref p]) Q E s:=by
 cases x with
 |non=>cases ty;cases(show u=Value.none from rx);exact W.kia_tup W.kitx_none I.kIn True.intro hp e (fun z=>nomatch z) h
 |bl y=>cases ty;cases(show u=Value.bool y from rx);exact W.kia_tup W.kitx_bool I.kIn True.intro hp e (fun z=>nomatch z) h
 |int i=>cases ty;obtain⟨t,q⟩:=(show ∃t,u=Value.int i t from rx);cases q;exact W.kia_tup W.kitx_int I.kIn True.intro hp e (fun z=>nomatch z) h
 |str y=>cases ty;obtain⟨t,q⟩:=(show ∃t,u=Value.str y t from rx);cases q;exact W.kia_tup W.kitx_str I.kIn True.intro hp e (fun z=>nomatch z) h
 |byt _=>cases ty
 |flt _=>cases ty
 |ty _=>cases ty
 |ref a=>
  cases(show u=Value.ref a from rx)
  have ty:(match H a with
   |some (.lst _)=>some "list"
   |some (.tup _)=>some "tuple"
   |some (.dK _)=>some "dict"
   |some (.dT _)=>some "dict"
   |some (.frz _ (.lst _))=>some "list"
   |_=>none)=some T:=ty
  split at ty
  .rename_i xs ea
   cases ty
   obtain⟨_,_,n,_,h1⟩:=(show aJ' X.prog X.w H s.heap a (.lst xs) from I.hok a _ ea)
   exact W.kia_tup W.kitx_list I.kIn ⟨_,h1,rfl⟩ hp e (fun z=>nomatch z) h
  .rename_i xs ea
   cases ty
   obtain⟨_,_,_,o,h1,h2,_⟩:=(show aJ' X.prog X.w H s.heap a (.tup xs) from I.hok a _ ea)
   exact W.kia_tup W.kitx_tuple I.kIn ⟨o,h1,h2⟩ hp e (fun z=>nomatch z) h
  .rename_i kvs ea
   cases ty
   obtain⟨_,_,vs,_,o,es,ep,h1,h2,_⟩:=(show aJ' X.prog X.w H s.heap a (.dK kvs) from I.hok a _ ea)
   exact W.kia_tup W.kitx_dict I.kIn ⟨o,h1,h2.1⟩ hp e (fun z=>nomatch z) h
  .rename_i kvs ea
   cases ty
   obtain⟨_,_,xs,_,o,es,ep,h1,h2,_⟩:=(show aJ' X.prog X.w H s.heap a (.dT kvs) from I.hok a _ ea)
   exact W.kia_tup W.kitx_dict I.kIn ⟨o,h1,h2.1⟩ hp e (fun z=>nomatch z) h
  .rename_i ob xs ea
   cases ty
   obtain⟨_,_,_,n,_,h1⟩:=(show aJ' X.prog X.w H s.heap a (.frz ob (.lst xs)) from I.hok a _ ea)
   exact W.kia_tup W.kitx_list I.kIn ⟨_,h1,rfl⟩ hp e (fun z=>nomatch z) h
  .cases ty
theorem kX':aN' X (.builtin "isinstance") vH':=by
 intro pins s σ H xs us Q I r h
 rcases h with⟨x,T,c,rfl,hT,hk,hc,q⟩|⟨x,T,p,cs,rfl,hT,hk,hp,hc,q⟩
 .obtain⟨u,w',rfl,r1,r2⟩:=ii' r
  have r2:w'=Value.type c:=r2
  subst r2
  exact in' I r1 (iJ' hT) (dp' X.K T hk c hc) fun tk=>⟨.bl _,H,I.tok _,rfl,q⟩
 .obtain⟨u,w',rfl,r1,r2⟩:=ii' r
  have r2:w'=Value.ref p:=r2
  subst r2
  obtain⟨_,its,rv,o,h1,h2,⟨n,h3⟩,_⟩:=(show aJ' X.prog X.w H s.heap p (.tup (cs.map V.ty)) from I.hok p _ hp)
  have e:=iK' rv
  subst e
  obtain⟨oc,od,dat,osl⟩:=o
  have h2:oc=_:=h2
  have h3:dat=_:=h3
  subst h2 h3
  exact hB' I r1 hT h1 (dq' X.K hk hc) fun tk=>⟨.bl _,H,I.tok _,rfl,q⟩
def vI' (K:W.Frag) (any:Bool):List V->Hp->VK->Prop:=fun xs H Q=>∃(p:Addr) (bs:List Bool),xs=[.ref p]/\SqL K H p (bs.map V.bl)/\Q (.bl (if any then bs.any id else bs.all id)) H
theorem ff':∀{bs:List Bool} {us:List Value} {i:Nat} {v:Value},ay' (bs.map V.bl) us->us[i]?=some v->∃b,bs[i]?=some b/\v=.bool b
 | [],us,i,v,h,e=>by rw[h.zero]at e;simp at e
 |b :: bs,_,0,v,.cons r t,e=>by
  have r:_=Value.bool b:=r
  simp at e
  exact⟨b,rfl,by rw[<- e];exact r⟩
 |b :: bs,_,i+1,v,.cons r t,e=>by
  obtain⟨b',h1,h2⟩:=ff' (i:=i) t (by simpa using e)
  exact⟨b',by simpa using h1,h2⟩
theorem iL' (bs:List Bool):(aE bs.length).all (fun i=>bs.getD i false)=bs.all id:=by
 rw[Bool.eq_iff_iff,bj,bj]
 constructor
 .intro h b hb
  obtain⟨i,hi,rfl⟩:=cF.mp hb
  have:=h i (bp.mpr hi)
  simpa[aI,hi]using this
 .intro h i hi
  have hi:=bp.mp hi
  have:=h bs[i] (List.getElem_mem hi)
  simpa[aI,hi]using this
theorem iM' (hc:X.calm=true):aN' X (.builtin "all") (vI' X.K false):=by
 intro pins s σ H xs us Q I r h
 obtain⟨p,bs,rfl,hs,q⟩:=h
 obtain⟨u,rfl,ru⟩:=dw' r
 cases ru
 obtain⟨its,rv,pl,hz⟩:=I.list hs
 have hlen:its.toArray.size=bs.length:=by
  have:=rv.length
  rw[ah]at this
  rw[aj,this]
 refine call_all_walk (cC pl.isList ?_)
 have hlt:p<s.heap.objs.size:=by obtain⟨o,n,e,_⟩:=pl;exact ao e
 refine⟨s.heap.objs.size,_,_,_,_,_,fun i=>bs.getD i false,rfl,Walks.list (A:=X.A.in1) (I.ok.hd hc) _ p (aw hlt) its.toArray,⟨⟨_,av _ rfl,rfl,rfl⟩,Heap.IsList.push pl.isList _⟩,?_,fun h' tk hk=>?_⟩
 .intro i v s' Q' E' hv hq
  obtain⟨b,hb,rfl⟩:=ff' rv (i:=i) (by simpa using hv)
  refine bx ?_
  have e:bs.getD i false=b:=by rw[aI,hb];rfl
  have hq':Q' (bs.getD i false) s':=hq
  rw[e]at hq'
  exact hq'
 .rw[hlen,iL']
  exact⟨.bl _,H,I.kept fun b o e=>hk b o (by simp;exact aw (ao e)) (ab _ e),rfl,q⟩
def kY' (K:W.Frag) (mx:Bool):List V->Hp->VK->Prop:=fun xs H Q=>∃(p:Addr) (ns:List Int),xs=[.ref p]/\SqL K H p (ns.map V.int)/\ns≠[]/\∀M,M∈ns->(∀a∈ns,if mx then a<=M else M<=a)->Q (.int M) H
theorem iN' (hc:X.calm=true):aN' X (.builtin "max") (kY' X.K true):=by
 intro pins s σ H xs us Q I r h
 obtain⟨p,ns,rfl,hs,hne,q⟩:=h
 obtain⟨u,rfl,ru⟩:=dw' r
 cases ru
 obtain⟨its,rv,pl,hz⟩:=I.list hs
 have hi:=ea' rv
 obtain⟨xs,e⟩:=hi.allInts.items
 have hns:ns=xs.toList.map (·.1):=by
  rw[<- hi.numsOf,<- nums_intItems,<- e]
 have hsz:0<xs.size:=by
  have h3:=List.length_pos_iff.mpr hne
  rw[hns,ah,aB]at h3
  exact h3
 have hl:=pl.isList
 rw[e]at hl
 refine max_intList (I.ok.hd hc) hl hsz fun v h' tk hv hk=>?_
 obtain⟨t,rfl⟩:=intItems_at hv
 obtain⟨h1,h2⟩:=argBest_gt (numAt xs) (xs.size-1)
 refine⟨.int _,H,I.kept hk,⟨t,rfl⟩,q _ ?_ fun a ha=>?_⟩
 .rw[hns,numAt_eq];exact getD_mem (by rw[ah,aB];omega)
 .rw[hns]at ha
  obtain⟨j,hj,rfl⟩:=mem_getD ha
  rw[ah,aB]at hj
  rw[if_pos rfl,<- numAt_eq];exact h2 j (by omega)
theorem iO' (hc:X.calm=true):aN' X (.builtin "min") (kY' X.K false):=by
 intro pins s σ H xs us Q I r h
 obtain⟨p,ns,rfl,hs,hne,q⟩:=h
 obtain⟨u,rfl,ru⟩:=dw' r
 cases ru
 obtain⟨its,rv,pl,hz⟩:=I.list hs
 have hi:=ea' rv
 obtain⟨xs,e⟩:=hi.allInts.items
 have hns:ns=xs.toList.map (·.1):=by
  rw[<- hi.numsOf,<- nums_intItems,<- e]
 have hsz:0<xs.size:=by
  have h3:=List.length_pos_iff.mpr hne
  rw[hns,ah,aB]at h3
  exact h3
 have hl:=pl.isList
 rw[e]at hl
 refine min_intList (I.ok.hd hc) hl hsz fun v h' tk hv hk=>?_
 obtain⟨t,rfl⟩:=intItems_at hv
 obtain⟨h1,h2⟩:=argBest_lt (numAt xs) (xs.size-1)
 refine⟨.int _,H,I.kept hk,⟨t,rfl⟩,q _ ?_ fun a ha=>?_⟩
 .rw[hns,numAt_eq];exact getD_mem (by rw[ah,aB];omega)
 .rw[hns]at ha
  obtain⟨j,hj,rfl⟩:=mem_getD ha
  rw[ah,aB]at hj
  rw[if_neg (by decide),<- numAt_eq];exact h2 j (by omega)
end
section
variable {X:Cx}
def iP':V->List V->Hp->VK->Prop:=fun x vs H Q=>∃l xs y,∃i:Nat,x=.ref l/\vs=[.int i,y]/\H l=some (.lst xs)/\xs.length<sizeLine/\i<=xs.length/\Q .non (upd H l (.lst (xs.take i++y :: xs.drop i)))
set_option tactic.hygienic true in
theorem iQ':MtM X "list.insert" iP':=by
 intro pins s σ H x vs v us Q I rx rv h
 obtain⟨l,xs,y,i,rfl,rfl,hH,hz,hi,q⟩:=h
 cases rx
 cases rv with
 |cons r1 rv=>
  cases rv with
  |cons r2 rv=>
   cases rv
   obtain⟨t,rfl⟩:=r1
   rename_i u
   obtain⟨z,its,n,r,hl,e⟩:=I.lstM hH
   have hb:i<2 ^ 62:=bZ hi (bZ z (show 2 ^ 24<2 ^ 62 from Nat.pow_lt_pow_right (by decide) (by decide)))
   have hfit:¬(!Builtin.List.listFitsIndex (i:Int))=true:=by
    unfold Builtin.List.listFitsIndex
    simp
    omega
   have hsz:its.toArray.size<=sizeLine:=by rw[aj];exact hl ▸ z
   generalize hj:(i:Int)=j at hfit
   have M:=AutoListH.list_insert_list_int_val_1 l its.toArray n j t u hfit hsz
   refine call_meets F.slot_list_insert ⟨_,e,rfl⟩ F.entry_list_insert (F.args_list_insert_3 _ _ _) M ⟨e,?_⟩
   subst hj
   refine⟨.non,_,I.lset (its':=its.take i++u :: its.drop i) hH e ?_ ((r.take i).append (.cons r2 (r.drop i))) ?_,rfl,q⟩
   .have hn:¬((i:Int)<0):=by omega
    simp only[hn,if_false,aT,aj]
    rw[Nat.min_eq_left (by omega)]
    simp
    exact bV (by simp)
   .simp
    omega
open PySem.SeqAt in
theorem eD' {A:Around} {s:Shared} {x y:V} {u v:Value} (rx:aH' x u) (ry:aH' y v) (h:tn' x y=true/\(∀b,x≠.byt b)\/x=y/\∃a,x=.ref a):EqAt A s u v (decide (x=y)):=by
 rcases h with⟨h,hb⟩|⟨rfl,a,rfl⟩
 .cases x with
  |non=>cases y with
   |non=>cases rx;cases ry;exact EqAt.same _
   |bl b=>cases rx;cases ry;exact EqAt.none_bool _
   |int b=>cases rx;obtain⟨t,rfl⟩:=ry;exact EqAt.none_int _ _
   |str b=>cases rx;obtain⟨t,rfl⟩:=ry;exact EqAt.none_str _ _
   |_=>cases h
  |bl a=>cases y with
   |non=>cases rx;cases ry;exact EqAt.bool_none _
   |bl b=>cases rx;cases ry;have:=EqAt.bool_bool (A:=A) (s:=s) a b;cases a<;>cases b<;>exact this
   |str b=>cases rx;obtain⟨t,rfl⟩:=ry;exact EqAt.bool_str _ _ _
   |_=>cases h
  |int a=>cases y with
   |non=>obtain⟨t,rfl⟩:=rx;cases ry;exact EqAt.int_none _ _
   |int b=>obtain⟨t,rfl⟩:=rx;obtain⟨t',rfl⟩:=ry;rw[fR'];exact EqAt.int_int _ _ _ _
   |str b=>obtain⟨t,rfl⟩:=rx;obtain⟨t',rfl⟩:=ry;exact EqAt.int_str _ _ _ _
   |_=>cases h
  |str a=>cases y with
   |non=>obtain⟨t,rfl⟩:=rx;cases ry;exact EqAt.str_none _ _
   |bl b=>obtain⟨t,rfl⟩:=rx;cases ry;exact EqAt.str_bool _ _ _
   |int b=>obtain⟨t,rfl⟩:=rx;obtain⟨t',rfl⟩:=ry;exact EqAt.str_int _ _ _ _
   |str b=>
    obtain⟨t,rfl⟩:=rx
    obtain⟨t',rfl⟩:=ry
    have e:decide (V.str a=V.str b)=(a == b):=by
     by_cases hab:a=b
     .subst hab;simp
     .rw[decide_eq_false (by intro z;cases z;exact hab rfl)];simp[hab]
    rw[e]
    exact EqAt.str_str _ _ _ _
   |_=>cases h
  |byt b=>exact absurd rfl (hb b)
  |_=>cases y<;>cases h
 .cases rx
  cases ry
  rw[decide_eq_true rfl]
  exact EqAt.same _
def LEq (xs ys:List V):Prop:=∀(i:Nat) x y,xs[i]?=some x->ys[i]?=some y->tn' x y=true/\(∀b,x≠.byt b)\/x=y/\∃a,x=.ref a
def ts' (K:W.Frag) (neg:Bool):V->V->Hp->VK->Prop:=fun x y H Q=>∃p q xs ys,x=.ref p/\y=.ref q/\SqL K H p xs/\SqL K H q ys/\(xs.length=ys.length->LEq xs ys)/\Q (.bl (if neg then !decide (xs=ys)else decide (xs=ys))) H
theorem iR' {xs ys:List V} (h:xs.length=ys.length):(aE xs.length).all (fun i=>decide (xs[i]?=ys[i]?))=decide (xs=ys):=by
 by_cases e:xs=ys
 .subst e
  simp
 .rw[decide_eq_false e,Bool.eq_false_iff]
  intro q
  rw[bj]at q
  apply e
  apply bP
  intro i
  rcases cw i xs.length with hi|hi
  .exact of_decide_eq_true (q i (bp.mpr hi))
  .rw[aV.mpr hi,aV.mpr (by omega)]
open PySem.SeqAt in
theorem qr' (hu:X.A.units<cLine):OpR X (compareOp .Eq) (ts' X.K false):=by
 intro pins s σ H x y v u Q I rx ry h
 obtain⟨p,q,xs,ys,rfl,rfl,hp,hq,he,k⟩:=h
 cases rx
 cases ry
 obtain⟨its,r1,pl1,_⟩:=I.list hp
 obtain⟨its2,r2,pl2,_⟩:=I.list hq
 have l1:=r1.length
 have l2:=r2.length
 by_cases hl:xs.length=ys.length
 .refine eq_listAt (e:=fun i=>decide (xs[i]?=ys[i]?)) pl1.isList pl2.isList (by simp;omega) hu (fun j h1 h2=>?_) ?_
  .have j1:j<xs.length:=by simp at h1;omega
   have j2:j<ys.length:=by omega
   have g1:xs[j]?=some xs[j]:=ac j1
   have g2:ys[j]?=some ys[j]:=ac j2
   obtain⟨u1,e1,ru1⟩:=r1.get g1
   obtain⟨u2,e2,ru2⟩:=r2.get g2
   have f1:its.toArray[j]=u1:=by simp at h1 ⊢;rw[ac h1]at e1;exact Option.some.inj e1
   have f2:its2.toArray[j]=u2:=by simp at h2 ⊢;rw[ac h2]at e2;exact Option.some.inj e2
   rw[f1,f2,g1,g2]
   have e3:decide (some xs[j]=some ys[j])=decide (xs[j]=ys[j]):=by simp
   rw[e3]
   exact eD' ru1 ru2 (he hl j _ _ g1 g2)
  .have e4:(aE its.toArray.size).all (fun i=>decide (xs[i]?=ys[i]?))=decide (xs=ys):=by
    rw[aj,<- l1];exact iR' hl
   rw[e4]
   exact⟨.bl _,H,I,rfl,k⟩
 .refine eq_list_lengthsAt pl1.isList pl2.isList (by simp;omega) hu ?_
  rw[decide_eq_false (fun z=>hl (by rw[z]))]at k
  exact⟨.bl false,H,I,rfl,k⟩
open PySem.SeqAt in
theorem qs' (hu:X.A.units<cLine):OpR X (compareOp .NotEq) (ts' X.K true):=by
 intro pins s σ H x y v u Q I rx ry h
 obtain⟨p,q,xs,ys,rfl,rfl,hp,hq,he,k⟩:=h
 cases rx
 cases ry
 obtain⟨its,r1,pl1,_⟩:=I.list hp
 obtain⟨its2,r2,pl2,_⟩:=I.list hq
 have l1:=r1.length
 have l2:=r2.length
 obtain⟨⟨cls,dd,data,sl⟩,ho,hc,n,hd⟩:=pl1.isList
 obtain⟨⟨cls2,dd2,data2,sl2⟩,ho2,hc2,n2,hd2⟩:=pl2.isList
 simp only at hc hd hc2 hd2
 subst hc hd hc2 hd2
 by_cases hl:xs.length=ys.length
 .refine richCompare_meets_room (op:=.NotEq) ⟨_,ho,rfl⟩ ⟨_,ho2,rfl⟩ F.slot_list_ne F.entry_list_ne (F.args_list_ne_2 _ _) (list_neAt p q its.toArray its2.toArray n n2 dd dd2 sl sl2 (by simp;omega) (fun i=>decide (xs[i]?=ys[i]?))) ⟨ho,ho2,fun j h1 h2=>?_,?_⟩ hu
  .have j1:j<xs.length:=by simp at h1;omega
   have j2:j<ys.length:=by omega
   have g1:xs[j]?=some xs[j]:=ac j1
   have g2:ys[j]?=some ys[j]:=ac j2
   obtain⟨u1,e1,ru1⟩:=r1.get g1
   obtain⟨u2,e2,ru2⟩:=r2.get g2
   have f1:its.toArray[j]=u1:=by simp at h1 ⊢;rw[ac h1]at e1;exact Option.some.inj e1
   have f2:its2.toArray[j]=u2:=by simp at h2 ⊢;rw[ac h2]at e2;exact Option.some.inj e2
   rw[f1,f2,g1,g2]
   have e3:decide (some xs[j]=some ys[j])=decide (xs[j]=ys[j]):=by simp
   rw[e3]
   exact eD' ru1 ru2 (he hl j _ _ g1 g2)
  .have e4:(aE its.toArray.size).all (fun i=>decide (xs[i]?=ys[i]?))=decide (xs=ys):=by
    rw[aj,<- l1];exact iR' hl
   rw[e4]
   exact(show Value.bool (!decide (xs=ys))≠Value.notImplemented/\EP X pins σ Q (Value.bool (!decide (xs=ys))) s from⟨(fun x=>nomatch x),⟨.bl _,H,I,rfl,k⟩⟩)
 .refine richCompare_meets_room (op:=.NotEq) ⟨_,ho,rfl⟩ ⟨_,ho2,rfl⟩ F.slot_list_ne F.entry_list_ne (F.args_list_ne_2 _ _) (list_ne_lengthsAt p q its.toArray its2.toArray n n2 dd dd2 sl sl2 (by simp;omega)) ⟨ho,ho2,?_⟩ hu
  rw[decide_eq_false (fun z=>hl (by rw[z]))]at k
  exact(show Value.bool true≠Value.notImplemented/\EP X pins σ Q (Value.bool true) s from⟨(fun x=>nomatch x),⟨.bl true,H,I,rfl,k⟩⟩)
def rgs (i:Int) (n:Nat):List V:=(aE n).map fun(k:Nat)=>V.int (i+(k:Int))
def vJ':List V->Hp->VK->Prop:=fun xs H Q=>∃r i j,xs=[.ref r]/\H r=some (.rng i j)/\(-(2 ^ 62)<=i/\i<2 ^ 62/\-(2 ^ 62)<=j/\j<2 ^ 62)/\(j-i).toNat<=sizeLine/\∀p,H p=none->Q (.ref p) (upd H p (.lst (rgs i (j-i).toNat)))
theorem kZ' (hc:X.calm=true):aN' X (.type "list") vJ':=by
 intro pins s σ H xs us Q I rv h
 obtain⟨r,i,j,rfl,hr,⟨h1,h2,h3,h4⟩,hz,q⟩:=h
 cases rv with
 |cons r1 rv=>
  cases rv
  cases r1
  obtain⟨t,u,v,e⟩:=(show aJ' X.prog X.w H s.heap r (.rng i j) from I.hok r _ hr)
  refine call_list_range (n:=(j-i).toNat) (I.ok.hd hc) e (small_one h1 h2 h3 h4) (by rw[rangeSize_one];split<;>omega) hz fun h' tk' acc' c' hk hS hit=>?_
  obtain⟨hsz,hv⟩:=hit
  have hn:H s.heap.objs.size=none:=I.hok.fresh (ak _)
  have key:∀(n:Nat) (l:List Value) (f:Nat->Int),l.length=n->(∀k v,l[k]?=some v->∃t,v=Value.int (f k) t)->ay' ((aE n).map fun k=>V.int (f k)) l:=by
   intro n
   induction n with
   |zero=>intro l f hl hv;have:l=[]:=List.length_eq_zero_iff.mp hl;subst this;exact .nil
   |succ n ih=>
    intro l f hl hv
    cases l with
    |nil=>cases hl
    |cons x r=>
     rw[List.range_succ_eq_map,bg,cx]
     refine .cons (hv 0 x rfl) ?_
     exact ih r (fun k=>f (k+1)) (by simpa using hl) fun k v hk=>hv (k+1) v (by simpa using hk)
  refine⟨.ref s.heap.objs.size,_,I.laid (t':=tk') hk (ak _) (o:=.lst (rgs i (j-i).toNat)) ⟨by unfold rgs;rw[ah,bQ];exact hz,acc'.toList,c',?_,hS⟩,rfl,q _ hn⟩
  refine key _ _ (fun k=>i+(k:Int)) (by rw[aB];exact hsz) fun k v hk=>?_
  obtain⟨t,e⟩:=hv k v (by simpa using hk)
  exact⟨t,by rw[e];simp⟩
end
section
variable {X:Cx}
theorem gv':∀{ns:List Int} {us:List Value} {i:Nat} {v:Value},ay' (ns.map V.int) us->us[i]?=some v->∃t,v=.int (ns.getD i 0) t
 | [],us,i,v,h,e=>by rw[h.zero]at e;simp at e
 |b :: bs,_,0,v,.cons r t,e=>by
  obtain⟨t,r⟩:=r
  simp at e
  exact⟨t,by rw[<- e,r];rfl⟩
 |b :: bs,_,i+1,v,.cons r t,e=>by
  obtain⟨t',h⟩:=gv' (i:=i) t (by simpa using e)
  exact⟨t',by rw[h];simp⟩
theorem fX':∀(ns:List Int),preSum (fun i=>ns.getD i 0) ns.length=ns.sum:=by
 have key:∀(f:Nat->Int) (n:Nat),preSum f n=((aE n).map f).sum:=by
  intro f n
  induction n with
  |zero=>rfl
  |succ n ih=>
   rw[bT,aG,List.sum_append,<- ih]
   simp[preSum]
 intro ns
 rw[key]
 congr 1
 apply bP
 intro i
 rw[aD]
 rcases cw i ns.length with h|h
 .rw[bu h,ac h]
  simp[aI,h]
 .rw[aV.mpr h,aV.mpr (by simpa using h)]
  rfl
def vK' (K:W.Frag):List V->Hp->VK->Prop:=fun xs H Q=>∃(p:Addr) (ns:List Int),xs=[.ref p]/\SqL K H p (ns.map V.int)/\Q (.int ns.sum) H
theorem iS' (hc:X.calm=true):aN' X (.builtin "sum") (vK' X.K):=by
 intro pins s σ H xs us Q I r h
 obtain⟨p,ns,rfl,hs,q⟩:=h
 obtain⟨u,rfl,ru⟩:=dw' r
 cases ru
 obtain⟨its,rv,pl,hz⟩:=I.list hs
 have hlen:its.toArray.size=ns.length:=by
  have:=rv.length
  rw[ah]at this
  rw[aj];exact this.symm
 have hlt:p<s.heap.objs.size:=by
  obtain⟨o,e,_⟩:=pl.isList
  exact ao e
 refine call_sum_walkG (cC pl.isList ?_)
 have hp1:(s.heap.push { cls:=.type "list_iterator",data:=.fields #[.ref p,.int 0 0] }).get? s.heap.objs.size=some { cls:=.type "list_iterator",data:=.fields #[.ref p,.int 0 0] }:=av _ rfl
 refine⟨s.heap.objs.size,_,_,_,_,_,fun i=>ns.getD i 0,rfl,Walks.list (A:=X.A.in1) (show X.A.in1.handled=none from I.ok.hd hc) s.heap.objs.size p (aw hlt) its.toArray,⟨⟨_,hp1,rfl,rfl⟩,?_⟩,?_,fun i v hv=>?_,fun h' tk t' hk=>?_⟩
 .obtain⟨o,e,r⟩:=pl.isList
  exact⟨o,ab _ e,r⟩
 .intro b hb
  show b<(s.heap.push _).objs.size
  rw[aZ]
  simp only[ai,al,or_false]at hb
  rcases hb with rfl|rfl
  .exact Nat.lt_succ_self _
  .exact cB hlt
 .exact gv' rv (by simpa using hv)
 .rw[hlen,fX']
  refine⟨.int _,H,I.kept (t':=tk) fun b o e=>hk b o ?_ (ab _ e),⟨_,rfl⟩,q⟩
  simp only[ai,al,or_false]
  exact aw (ao e)
theorem nX':OpR X (binaryOp .Mult) (rI IntMulOk fun i j=>.int (i*j)):=opI fun _ _ _ _ _ _ _ hc q=>mul_int q hc
def vL':V->Bool
 | .ty _=>false
 | .byt _=>false
 | .flt _=>false
 |_=>true
def tt' (neg:Bool):R2:=fun x y H Q=>∃b,y=.bl b/\vL' x=true/\Q (.bl (if neg then !decide (x=.bl b)else decide (x=.bl b))) H
theorem qt' {x:V} {v:Value} {b:Bool} (r:aH' x v) (h:vL' x=true):plainIs v (.bool b)=true/\(v == Value.bool b)=decide (x=.bl b):=by
 cases x with
 |non=>cases r;exact⟨rfl,rfl⟩
 |bl a=>cases r;refine⟨rfl,?_⟩;cases a<;>cases b<;>rfl
 |int i=>obtain⟨t,rfl⟩:=r;exact⟨rfl,rfl⟩
 |str i=>obtain⟨t,rfl⟩:=r;exact⟨rfl,rfl⟩
 |ref a=>cases r;exact⟨rfl,rfl⟩
 |_=>cases h
theorem qu':OpR X (compareOp .Is) (tt' false):=by
 intro pins s σ H x y v u Q I rx ry h
 obtain⟨b,rfl,hp,q⟩:=h
 cases ry
 obtain⟨h1,h2⟩:=qt' (b:=b) rx hp
 exact wpAny_is_plain h1 ⟨.bl _,H,I,by rw[h2];rfl,q⟩
theorem iT':OpR X (compareOp .IsNot) (tt' true):=by
 intro pins s σ H x y v u Q I rx ry h
 obtain⟨b,rfl,hp,q⟩:=h
 cases ry
 obtain⟨h1,h2⟩:=qt' (b:=b) rx hp
 exact wpAny_isNot_plain h1 ⟨.bl _,H,I,by rw[h2];rfl,q⟩
theorem k0':OpR X (binaryOp .FloorDiv) (rI (fun _ j=>0<j/\j.natAbs.log2<9000) fun i j=>.int (i / j)):=opI fun i j _ _ _ _ _ hc q=>by
 refine floordiv_int (by omega) ?_ (.inl (PyProof.noPylong_of_log2 hc.2))
 rw[Int.fdiv_eq_ediv_of_nonneg i (by omega)]
 exact q
def nY' (i j:Nat) (te:TE):TS:=fun D σ H=>te σ H fun v H1=>D.nx ((σ.set i (some v)).set j (some v)) H1
theorem nZ' {i j:Nat} {x y:Expr} {e:Expr} {te:TE} {pos:Pos} (he:PE X e te) (hx:PG X x (fP' i)) (hy:PG X y (fP' j))
  (ha:(assignEach [x,y] X.env).map (·.2)=[assign x X.env,assign y X.env]) (hw:swappedStores [x,y] e X.env=pure none):PS X (.Assign [x,y] e pos) (nY' i j te):=by
 intro pins s σ H D I h
 refine wpAny_Assign_two (thn (he pins s σ H _ I h) fun v s1 ⟨u,H1,I1,r1,q1⟩=>?_) ha hw
 refine thn (hx pins s1 σ H1 u v (fun σ2 H2=>D.nx (σ2.set j (some u)) H2) I1 r1 q1) fun _ s2 hq=>?_
 obtain⟨σ2,H2,I2,q2⟩:=hq
 exact thn (hy pins s2 σ2 H2 u v D.nx I2 r1 q2) fun _ s3 ⟨σ3,H3,I3,q3⟩=>⟨σ3,H3,I3,q3⟩
end
section
variable {κ:Type} [DecidableEq κ]
def ks' (kvs:List (κ×V)) (k:κ):Option V:=(kvs.find? fun kv=>decide (kv.1=k)).map (·.2)
def kt' (kvs:List (κ×V)) (k:κ) (v:V):List (κ×V):=
 if(kvs.any fun kv=>decide (kv.1=k))=true then kvs.map (fun kv=>if kv.1=k then(kv.1,v)else kv)else kvs++[(k,v)]
theorem eE' {p:κ×V} {r:List (κ×V)} {k:κ} (e:p.1=k):ks' (p :: r) k=some p.2:=by simp[ks',cy,e]
theorem eF' {p:κ×V} {r:List (κ×V)} {k:κ} (e:¬p.1=k):ks' (p :: r) k=ks' r k:=by simp[ks',cy,e]
theorem gw' (k:κ):∀kvs:List (κ×V),(kvs.any fun kv=>decide (kv.1=k))=(ks' kvs k).isSome
 | []=>rfl
 |p :: r=>by
  rw[bY]
  by_cases e:p.1=k
  .simp only[eE' e,decide_eq_true e,Bool.true_or,Option.isSome_some]
  .rw[eF' e,decide_eq_false e,Bool.false_or];exact gw' k r
theorem kv'.isSome_eq {o:Option V} {u:Option Value} (r:kv' o u):o.isSome=u.isSome:=by
 cases o with
 |none=>cases u with
  |none=>rfl
  |some _=>exact(show False from r).elim
 |some _=>cases u with
  |none=>exact(show False from r).elim
  |some _=>rfl
theorem kv'.getD {o:Option V} {u:Option Value} {d:V} {d':Value} (r:kv' o u) (rd:aH' d d'):aH' (o.getD d) (u.getD d'):=by
 cases o with
 |none=>cases u with
  |none=>exact rd
  |some _=>exact(show False from r).elim
 |some _=>cases u with
  |none=>exact(show False from r).elim
  |some _=>exact r
theorem KV.val {kvs:List (κ×V)} {vs:List (κ×Value)} (r:KV kvs vs) (k:κ):kv' (ks' kvs k) (valueAt vs k):=by
 unfold KV at r
 induction r with
 |nil=>exact True.intro
 | @cons p q ps qs h t ih=>
  obtain⟨h1,h2⟩:=h
  by_cases e:p.1=k
  .have e':q.1=k:=h1.symm.trans e
   have b:valueAt (q :: qs) k=some q.2:=by simp[valueAt,cy,e']
   rw[eE' e,b];exact h2
  .have e':¬q.1=k:=fun z=>e (h1.trans z)
   have b:valueAt (q :: qs) k=valueAt qs k:=by simp[valueAt,cy,e']
   rw[eF' e,b];exact ih
theorem KV.any {kvs:List (κ×V)} {vs:List (κ×Value)} (r:KV kvs vs) (k:κ):(kvs.any fun kv=>decide (kv.1=k))=vs.any fun kv=>decide (kv.1=k):=by
 unfold KV at r
 induction r with
 |nil=>rfl
 |cons h t ih=>rw[bY,bY,ih,h.1]
theorem KV.repl {kvs:List (κ×V)} {vs:List (κ×Value)} (r:KV kvs vs) (k:κ) {y:V} {u:Value} (ry:aH' y u):
  KV (kvs.map fun kv=>if kv.1=k then(kv.1,y)else kv) (vs.map fun kv=>if kv.1=k then(kv.1,u)else kv):=by
 unfold KV at r ⊢
 induction r with
 |nil=>exact .nil
 | @cons p q ps qs h t ih=>
  rw[bg,bg]
  refine .cons ?_ ih
  obtain⟨h1,h2⟩:=h
  by_cases e:p.1=k
  .rw[if_pos e,if_pos (h1.symm.trans e)];exact⟨h1,ry⟩
  .rw[if_neg e,if_neg (fun z=>e (h1.trans z))];exact⟨h1,h2⟩
theorem KV.put {kvs:List (κ×V)} {vs:List (κ×Value)} (r:KV kvs vs) (k:κ) {y:V} {u:Value} (ry:aH' y u):KV (kt' kvs k y) (stored vs k u):=by
 unfold kt' stored
 rw[r.any k]
 by_cases e:(vs.any fun kv=>decide (kv.1=k))=true
 .rw[if_pos e,if_pos e];exact r.repl k ry
 .rw[if_neg e,if_neg e];exact Paired.snoc r ⟨rfl,ry⟩
theorem KV.keys {kvs:List (κ×V)} {vs:List (κ×Value)} (r:KV kvs vs):kvs.map (·.1)=vs.map (·.1):=by
 unfold KV at r
 induction r with
 |nil=>rfl
 |cons h t ih=>rw[bg,bg,ih,h.1]
theorem KV.length {kvs:List (κ×V)} {vs:List (κ×Value)} (r:KV kvs vs):kvs.length=vs.length:=Paired.length r
end
theorem t9' {P:Program} {w:World} {k:Key} {u:Value} (r:aH' (kV k) u):(aD' P w).is k u=true:=by
 cases k with
 |inl i=>obtain⟨t,e⟩:=(show ∃t,u=Value.int i t from r);subst e;exact fN' P w i t
 |inr x=>obtain⟨t,e⟩:=(show ∃t,u=Value.str x t from r);subst e;exact fO' P w x t
 |non=>obtain rfl:u=Value.none:=r;rfl
theorem fg' {P:Program} {w:World}:∀{ks:List Key} {us:List Value},ay' (ks.map kV) us->ItemsAre (aD' P w) ks us
 | [],_,r=>by rw[List.map_nil]at r;cases r;exact .nil
 |k :: ks,_,r=>by
  rw[bg]at r
  cases r with
  |cons h t=>exact .cons (t9' h) (fg' t)
abbrev KT (H:Hp):List (List Key×V)->List (List Key×Addr×Value)->Prop:=Paired fun p q=>p.1=q.1/\H q.2.1=some (.tup (p.1.map kV))/\aH' p.2 q.2.2
theorem KT.val {H:Hp} {kvs:List (List Key×V)} {xs:List (List Key×Addr×Value)} (r:KT H kvs xs) (k:List Key):kv' (ks' kvs k) ((atKey xs k).map (·.2)):=by
 induction r with
 |nil=>exact True.intro
 | @cons p q ps qs h t ih=>
  obtain⟨h1,_,h2⟩:=h
  by_cases e:p.1=k
  .have e':q.1=k:=h1.symm.trans e
   have b:atKey (q :: qs) k=some q.2:=by simp[atKey,cy,e']
   rw[eE' e,b];exact h2
  .have e':¬q.1=k:=fun z=>e (h1.trans z)
   have b:atKey (q :: qs) k=atKey qs k:=by simp[atKey,cy,e']
   rw[eF' e,b];exact ih
theorem KT.repl {H:Hp} {kvs:List (List Key×V)} {xs:List (List Key×Addr×Value)} (r:KT H kvs xs) (k:List Key) {y:V} {u:Value} (ry:aH' y u):
  KT H (kvs.map fun kv=>if kv.1=k then(kv.1,y)else kv) (xs.map (putAt k u)):=by
 induction r with
 |nil=>exact .nil
 | @cons p q ps qs h t ih=>
  rw[bg,bg]
  refine .cons ?_ ih
  obtain⟨h1,h2,h3⟩:=h
  unfold putAt
  by_cases e:p.1=k
  .rw[if_pos e,if_pos (h1.symm.trans e)];exact⟨h1,h2,ry⟩
  .rw[if_neg e,if_neg (fun z=>e (h1.trans z))];exact⟨h1,h2,h3⟩
theorem KT.put {H:Hp} {kvs:List (List Key×V)} {xs:List (List Key×Addr×Value)} (r:KT H kvs xs) (k:List Key) {b:Addr} {y:V} {u:Value} (hb:H b=some (.tup (k.map kV))) (ry:aH' y u):
  KT H (kt' kvs k y) (storedH xs k b u):=by
 have e:(kvs.any fun kv=>decide (kv.1=k))=(atKey xs k).isSome:=by
  rw[gw',(r.val k).isSome_eq,Option.isSome_map]
 unfold kt' storedH
 rw[e]
 by_cases q:(atKey xs k).isSome=true
 .rw[if_pos q,if_pos q];exact r.repl k ry
 .rw[if_neg q,if_neg q];exact Paired.snoc r ⟨rfl,hb,ry⟩
theorem KT.keeps {H H':Hp} {kvs:List (List Key×V)} {xs:List (List Key×Addr×Value)} (r:KT H kvs xs) (ht:∀b ys,H b=some (.tup ys)->H' b=some (.tup ys)):KT H' kvs xs:=
 Paired.mapP r fun _ _ z=>⟨z.1,ht _ _ z.2.1,z.2.2⟩
section
variable {P:Program} {w:World} {H:Hp} {h:Heap} {a:Addr}
theorem qv' {u:HO} (ok:HOk P w H h) (e:Rd H a u):aJ' P w H h a u:=e.ok ok
theorem ua' {kvs:List (Key×V)} (ok:HOk P w H h) (e:Rd H a (.dK kvs)):kvs.length<=sizeLine/\(a == sysModules)=false/\∃vs,KV kvs vs/\h.DictOf (aD' P w) a vs:=
 show aJ' P w H h a (.dK kvs) from qv' ok e
theorem ub' {kvs:List (Key×V)} (ok:HOk P w H h) (e:H a=some (.dK kvs)):kvs.length<=sizeLine/\(a == sysModules)=false/\∃vs,KV kvs vs/\h.DictOf (aD' P w) a vs:=ua' ok (.inl e)
theorem qw' {ks:List Key} (ok:HOk P w H h) (e:H a=some (.tup (ks.map kV))):(tupleKind (aD' P w)).is h ks a:=by
 obtain⟨_,its,r,o,h1,h2,⟨n,h3⟩,_⟩:=(show aJ' P w H h a (.tup (ks.map kV)) from ok a _ e)
 exact⟨o,its.toArray,n,h1,h2,h3,by simpa using fg' r⟩
theorem uc' {kvs:List (List Key×V)} (ok:HOk P w H h) (e:Rd H a (.dT kvs)):kvs.length<=sizeLine/\(a == sysModules)=false/\
  ∃xs,KT H kvs xs/\h.DictOfH (tupleKind (aD' P w)) a xs:=by
 obtain⟨z,y,xs,r,o,es,ep,h1,h2,h3,h4,h5⟩:=(show aJ' P w H h a (.dT kvs) from qv' ok e)
 refine⟨z,y,xs,r,o,es,ep,h1,h2,h3,h4,fun x hx=>?_,h5⟩
 have all:∀{l:List (List Key×V)} {m:List (List Key×Addr×Value)},KT H l m->∀x∈m,(tupleKind (aD' P w)).is h x.1 x.2.1:=by
  intro l m q
  induction q with
  |nil=>intro x hx;exact nomatch hx
  | @cons p q ps qs hq t ih=>
   intro x hx
   rcases ai.mp hx with e|hx
   .subst e
    exact qw' ok (by rw[<- hq.1];exact hq.2.1)
   .exact ih x hx
 exact all r x hx
theorem ud' {kvs:List (List Key×V)} (ok:HOk P w H h) (e:H a=some (.dT kvs)):kvs.length<=sizeLine/\(a == sysModules)=false/\
  ∃xs,KT H kvs xs/\h.DictOfH (tupleKind (aD' P w)) a xs:=uc' ok (.inl e)
end
def ue' (H:Hp) (a:Addr) (y:V) (r:Option V):Prop:=
 (∃kvs k,Rd H a (.dK kvs)/\y=kV k/\r=ks' kvs k)\/∃kvs k b,Rd H a (.dT kvs)/\y=.ref b/\H b=some (.tup (k.map kV))/\r=ks' kvs k
def wl' (H:Hp) (a:Addr) (y v:V) (H':Hp):Prop:=
 (∃kvs k,H a=some (.dK kvs)/\y=kV k/\kvs.length<sizeLine/\H'=upd H a (.dK (kt' kvs k v)))\/
 ∃kvs k b,H a=some (.dT kvs)/\y=.ref b/\H b=some (.tup (k.map kV))/\kvs.length<sizeLine/\H'=upd H a (.dT (kt' kvs k v))
section
variable {X:Cx} {pins:List (Addr×Obj)} {σ:St} {H:Hp} {s:Shared} {a:Addr} {y v:V} {u r:Value} {o:Option V} {A:Around} {E:Value->Shared->Prop}
end
section
variable {X:Cx} {pins:List (Addr×Obj)} {σ:St} {H:Hp} {s:Shared} {a:Addr} {kvs:List (Key×V)} {k:Key} {u:Value} {A:Around} {E:Value->Shared->Prop}
end
section
variable {X:Cx} {o i e value:Expr} {pos pos' tpos:Pos} {td ty tv:TE}
end
section
variable {X:Cx} {pos:Pos}
end
def qx' (kvs more:List (Key×V)):List (Key×V):=more.foldl (fun acc kv=>kt' acc kv.1 kv.2) kvs
theorem KV.merge:∀{more:List (Key×V)} {rs:List (Key×Value)} {kvs:List (Key×V)} {vs:List (Key×Value)},KV more rs->KV kvs vs->KV (qx' kvs more) (merged vs rs):=by
 intro more rs kvs vs r
 unfold KV at r
 induction r generalizing kvs vs with
 |nil=>intro q;exact q
 | @cons p q ps qs h t ih=>
  intro r0
  have e:KV (kt' kvs p.1 p.2) (stored vs q.1 q.2):=by
   have:=r0.put p.1 h.2
   rw[<- h.1];exact this
  exact ih e
structure M1 (X:Cx) (o:Expr) (m:Str) (apos:Pos) (e:Expr) (cpos:Pos):Prop where
 base:attributeBase o m X.env (eval o X.env)=eval o X.env
 few:((backTo cpos (starEach [e] X.env)).all (fun x=>!x.1)&&(backToKw cpos (keywordEach [] X.env)).all (fun x=>x.1.isSome)
  && decide (([e]:List Expr).length+([]:List Keyword).length+(if([]:List Keyword).isEmpty then 0 else 1)<30))=true
 line:(apos.endLine == cpos.line)=true
 trees:backTo cpos (starEach [e] X.env)=[(false,eval e X.env)]
structure M2 (X:Cx) (o:Expr) (m:Str) (apos:Pos) (e f:Expr) (cpos:Pos):Prop where
 base:attributeBase o m X.env (eval o X.env)=eval o X.env
 few:((backTo cpos (starEach [e,f] X.env)).all (fun x=>!x.1)&&(backToKw cpos (keywordEach [] X.env)).all (fun x=>x.1.isSome)
  && decide (([e,f]:List Expr).length+([]:List Keyword).length+(if([]:List Keyword).isEmpty then 0 else 1)<30))=true
 line:(apos.endLine == cpos.line)=true
 trees:backTo cpos (starEach [e,f] X.env)=[(false,eval e X.env),(false,eval f X.env)]
section
variable {X:Cx} {pins:List (Addr×Obj)} {σ:St} {H:Hp} {s:Shared} {a:Addr} {y d:V} {u r:Value} {o:Option V} {A:Around} {E:Value->Shared->Prop}
end
section
variable {X:Cx} {o e f:Expr} {apos cpos:Pos} {td ty tx:TE}
end
section
variable {X:Cx} {pins:List (Addr×Obj)} {σ:St} {H:Hp} {s:Shared} {a:Addr} {kvs:List (Key×V)} {A:Around} {E:Value->Shared->Prop}
end
section
variable {X:Cx} {pins:List (Addr×Obj)} {σ:St} {H:Hp} {s:Shared} {a:Addr} {y:V} {u:Value} {A:Around} {E:Value->Shared->Prop}
end
section
variable {X:Cx}
end
section
variable {κ:Type} [DecidableEq κ]
end
def Itc (lo c:Int) (n:Nat):It:=⟨fun i _=>i<n,fun i H x H'=>H'=H/\x=.int (lo+i*c),fun i _=>n<=i⟩
section
variable {prog:Program} {w:World} {A:Around} {E:Value->Shared->Prop} {s:Shared}
end
section
variable {X:Cx} {tg:Expr}
def uf' (i j c:Int):Nat:=if i<j then((j-i-1) / c+1).toNat else 0
def ug' (i j c:Int):Nat:=if c=-1 then(i-j).toNat else uf' i j c
end
section
variable {X:Cx}
theorem n0' {i:Int} (h:0<=i):Builtin.bitAnd i 1=i % 2:=by
 rw[PyProof.Rows.bitAnd_pp h (by decide)]
 have e:(1:Int).toNat=1:=rfl
 rw[e,Nat.and_one_is_mod]
 omega
theorem n1':OpR X (binaryOp .BitAnd) (rI (fun i j=>0<=i/\j=1) fun i _=>.int (i % 2)):=by
 intro pins s σ H x y v u Q I rx ry h
 obtain⟨i,j,rfl,rfl,⟨h0,rfl⟩,q⟩:=h
 refine p1' pins s σ H _ _ v u Q I rx ry ⟨i,1,rfl,rfl,?_⟩
 have q':Q (.int (i % 2)) H:=q
 rw[<- n0' h0]at q'
 exact q'
def inT (x y:Str):Bool:=!(Builtin.Str.occurrences x y 0 x.length 1).isEmpty
def tu' (neg:Bool):R2:=fun x y H Q=>∃a b,x=.str a/\y=.str b/\Q (.bl (if neg then !inT b a else inT b a)) H
theorem qy':OpR X (compareOp .In) (tu' false):=by
 intro pins s σ H x y v u Q I rx ry h
 obtain⟨a,b,rfl,rfl,q⟩:=h
 obtain⟨t,rfl⟩:=rx
 obtain⟨t',rfl⟩:=ry
 exact in_str ⟨.bl _,H,I,rfl,q⟩
theorem iU':OpR X (compareOp .NotIn) (tu' true):=by
 intro pins s σ H x y v u Q I rx ry h
 obtain⟨a,b,rfl,rfl,q⟩:=h
 obtain⟨t,rfl⟩:=rx
 obtain⟨t',rfl⟩:=ry
 have q':Q (.bl (!inT b a)) H:=q
 refine notIn_str ⟨.bl (!inT b a),H,I,?_,q'⟩
 show Value.bool _=Value.bool _
 simp[inT]
end
section
variable {X:Cx}
def wm' (x y:Str):Bool:=decide (y.cps.toList<x.cps.toList)
def vM':R2:=fun x y H Q=>∃a b,x=.str a/\y=.str b/\Q (.bl (wm' a b)) H
theorem qz':OpR X (compareOp .Gt) vM':=by
 intro pins s σ H x y v u Q I rx ry h
 obtain⟨a,b,rfl,rfl,k⟩:=h
 obtain⟨t,rfl⟩:=rx
 obtain⟨t',rfl⟩:=ry
 exact PySem.P.gt_str ⟨.bl _,H,I,rfl,k⟩
def dSc:V->Bool
 | .int _=>true
 | .str _=>true
 | .bl _=>true
 | .non=>true
 |_=>false
def Dq (H:Hp):Nat->V->V->Prop
 |0,v,w=>v=w/\dSc v=true
 |n+1,v,w=>(v=w/\dSc v=true)\/∃a b xs ys,v=.ref a/\w=.ref b/\((H a=some (.lst xs)/\H b=some (.lst ys))\/(H a=some (.tup xs)/\H b=some (.tup ys)))/\xs.length=ys.length/\∀(i:Nat) x y,xs[i]?=some x->ys[i]?=some y->Dq H n x y
open PySem.SeqAt in
theorem qA' {A:Around} {s:Shared} {x:V} {u v:Value} (h:dSc x=true) (r1:aH' x u) (r2:aH' x v):EqAt A s u v true:=by
 have:=eD' (A:=A) (s:=s) r1 r2 (.inl (by cases x<;>first|(cases h;done)|exact⟨rfl,fun b=>by intro z;cases z⟩))
 rw[decide_eq_true rfl]at this
 exact this
theorem cD' {n:Nat}:(aE n).all (fun _=>true)=true:=by simp
theorem gx' {its:List Value} {j:Nat} {u:Value} (e:its[j]?=some u) (h:j<its.toArray.size):its.toArray[j]=u:=by
 simp at h ⊢
 rw[ac h]at e
 exact Option.some.inj e
open PySem.SeqAt in
theorem cE' {n:Nat} {H:Hp} {A:Around} {s:Shared} {xs ys:List V} {its its2:List Value} (ih:∀x y u v,Dq H n x y->aH' x u->aH' y v->EqAt A.in1 s u v true) (hl:xs.length=ys.length) (r1:ay' xs its) (r2:ay' ys its2)
  (he:∀(i:Nat) x y,xs[i]?=some x->ys[i]?=some y->Dq H n x y):∀j (h1:j<its.toArray.size) (h2:j<its2.toArray.size),EqAt A.in1 s its.toArray[j] its2.toArray[j] ((fun _=>true) j):=by
 intro j h1 h2
 have l1:=r1.length
 have j1:j<xs.length:=by simp at h1;omega
 have j2:j<ys.length:=by omega
 have g1:xs[j]?=some xs[j]:=ac j1
 have g2:ys[j]?=some ys[j]:=ac j2
 obtain⟨u1,e1,ru1⟩:=r1.get g1
 obtain⟨u2,e2,ru2⟩:=r2.get g2
 rw[gx' e1 h1,gx' e2 h2]
 exact ih _ _ _ _ (he j _ _ g1 g2) ru1 ru2
open PySem.SeqAt in
theorem qB' {pins:List (Addr×Obj)} {σ:L2.St} {H:Hp} {s:Shared} (I:Inv X pins σ H s):∀(n:Nat) (A:Around) (x y:V) (u v:Value),A.units+n<cLine->Dq H n x y->aH' x u->aH' y v->EqAt A s u v true:=by
 intro n
 induction n with
 |zero=>
  rintro A x y u v hu ⟨rfl,hs⟩ r1 r2
  exact qA' hs r1 r2
 |succ n ih=>
  rintro A x y u v hu h rx ry
  rcases h with⟨rfl,hs⟩|⟨a,b,xs,ys,rfl,rfl,hab,hl,he⟩
  .exact qA' hs rx ry
  cases rx
  cases ry
  by_cases hne:a=b
  .subst hne;exact EqAt.same _
  have ih':∀x y u v,Dq H n x y->aH' x u->aH' y v->EqAt A.in1 s u v true:=fun x y u v=>ih A.in1 x y u v (by show A.units+1+n<cLine;omega)
  rcases hab with⟨h1,h2⟩|⟨h1,h2⟩
  .obtain⟨its,r1,pl1,_⟩:=I.list (SqL.of h1)
   obtain⟨its2,r2,pl2,_⟩:=I.list (SqL.of h2)
   have l1:=r1.length
   have l2:=r2.length
   have:=RcAt.lists pl1.isList pl2.isList (by simp;omega) (by omega) (cE' ih' hl r1 r2 he)
   rw[cD']at this
   exact EqAt.of_refs hne this
  .obtain⟨its,r1,pl1,_⟩:=I.tuple (SqT.of h1)
   obtain⟨its2,r2,pl2,_⟩:=I.tuple (SqT.of h2)
   have l1:=r1.length
   have l2:=r2.length
   have:=RcAt.tuples pl1 pl2 (by omega) (cE' ih' hl r1 r2 he)
   rw[cD']at this
   have e:(true&&its.toArray.size == its2.toArray.size)=true:=by simp;omega
   rw[e]at this
   exact EqAt.of_refs hne this
def vN':R2:=fun x y H Q=>∃a b xs ys,x=.ref a/\y=.ref b/\H a=some (.tup xs)/\H b=some (.tup ys)/\xs.length=ys.length/\LEq xs ys/\Q (.bl (decide (xs=ys))) H
open PySem.SeqAt in
theorem qC' (hu:X.A.units+64<cLine):OpR X (compareOp .Eq) vN':=by
 intro pins s σ H x y v u Q I rx ry h
 obtain⟨p,q,xs,ys,rfl,rfl,hp,hq,hl,he,k⟩:=h
 cases rx
 cases ry
 obtain⟨its,r1,pl1,_⟩:=I.tuple (SqT.of hp)
 obtain⟨its2,r2,pl2,_⟩:=I.tuple (SqT.of hq)
 have l1:=r1.length
 have l2:=r2.length
 refine eq_tupleAt (e:=fun i=>decide (xs[i]?=ys[i]?)) pl1 pl2 (by omega) (fun j h1 h2=>?_) ?_
 .have j1:j<xs.length:=by simp at h1;omega
  have j2:j<ys.length:=by omega
  have g1:xs[j]?=some xs[j]:=ac j1
  have g2:ys[j]?=some ys[j]:=ac j2
  obtain⟨u1,e1,ru1⟩:=r1.get g1
  obtain⟨u2,e2,ru2⟩:=r2.get g2
  rw[gx' e1 h1,gx' e2 h2,g1,g2]
  have e3:decide (some xs[j]=some ys[j])=decide (xs[j]=ys[j]):=by simp
  rw[e3]
  exact eD' ru1 ru2 (he j _ _ g1 g2)
 .have e4:(aE (min its.toArray.size its2.toArray.size)).all (fun i=>decide (xs[i]?=ys[i]?))=decide (xs=ys):=by
   rw[aj,aj,<- l1,<- l2,<- hl,Nat.min_self];exact iR' hl
  have e5:(its.toArray.size == its2.toArray.size)=true:=by simp;omega
  rw[e4,e5,Bool.and_true]
  exact⟨.bl _,H,I,rfl,k⟩
def tv' (neg:Bool):R2:=fun x y H Q=>(∃n,n<=8/\Dq H n x y/\(∃a b,x=.ref a/\y=.ref b)/\Q (.bl (!neg)) H)\/(neg=false/\vN' x y H Q)
theorem Dq.open {H:Hp} {n:Nat} {a b:Addr} (h:Dq H n (.ref a) (.ref b)):∃m xs ys,n=m+1/\((H a=some (.lst xs)/\H b=some (.lst ys))\/(H a=some (.tup xs)/\H b=some (.tup ys)))/\xs.length=ys.length/\∀(i:Nat) x y,xs[i]?=some x->ys[i]?=some y->Dq H m x y:=by
 cases n with
 |zero=>exact(aq h.2).elim
 |succ m=>
  rcases h with⟨_,hs⟩|⟨a',b',xs,ys,e1,e2,hab,hl,he⟩
  .cases hs
  .cases e1;cases e2;exact⟨m,xs,ys,rfl,hab,hl,he⟩
open PySem.SeqAt in
theorem qD' (hu:X.A.units+64<cLine):OpR X (compareOp .Eq) (tv' false):=by
 intro pins s σ H x y v u Q I rx ry h
 rcases h with h|⟨_,h⟩
 case inr=>exact qC' hu pins s σ H x y v u Q I rx ry h
 obtain⟨n,hn,hd,⟨a,b,rfl,rfl⟩,k⟩:=h
 cases rx
 cases ry
 obtain⟨m,xs,ys,rfl,hab,hl,he⟩:=hd.open
 have ih':∀x y u v,Dq H m x y->aH' x u->aH' y v->EqAt X.A.in1 s u v true:=fun x y u v=>qB' I m X.A.in1 x y u v (by show X.A.units+1+m<cLine;omega)
 rcases hab with⟨h1,h2⟩|⟨h1,h2⟩
 .obtain⟨its,r1,pl1,_⟩:=I.list (SqL.of h1)
  obtain⟨its2,r2,pl2,_⟩:=I.list (SqL.of h2)
  have l1:=r1.length
  have l2:=r2.length
  refine eq_listAt pl1.isList pl2.isList (by simp;omega) (by omega) (cE' ih' hl r1 r2 he) ?_
  rw[cD']
  exact⟨.bl true,H,I,rfl,k⟩
 .obtain⟨its,r1,pl1,_⟩:=I.tuple (SqT.of h1)
  obtain⟨its2,r2,pl2,_⟩:=I.tuple (SqT.of h2)
  have l1:=r1.length
  have l2:=r2.length
  refine eq_tupleAt pl1 pl2 (by omega) (cE' ih' hl r1 r2 he) ?_
  have e:(true&&its.toArray.size == its2.toArray.size)=true:=by simp;omega
  rw[cD',e]
  exact⟨.bl true,H,I,rfl,k⟩
open PySem.SeqAt in
theorem qE' (hu:X.A.units+64<cLine):OpR X (compareOp .NotEq) (tv' true):=by
 intro pins s σ H x y v u Q I rx ry h
 rcases h with h|⟨hf,_⟩
 case inr=>cases hf
 obtain⟨n,hn,hd,⟨a,b,rfl,rfl⟩,k⟩:=h
 cases rx
 cases ry
 obtain⟨m,xs,ys,rfl,hab,hl,he⟩:=hd.open
 have ih':∀x y u v,Dq H m x y->aH' x u->aH' y v->EqAt X.A.in1 s u v true:=fun x y u v=>qB' I m X.A.in1 x y u v (by show X.A.units+1+m<cLine;omega)
 have hend:EP X pins σ Q (Value.bool false) s:=⟨.bl false,H,I,rfl,k⟩
 rcases hab with⟨h1,h2⟩|⟨h1,h2⟩
 .obtain⟨its,r1,pl1,_⟩:=I.list (SqL.of h1)
  obtain⟨its2,r2,pl2,_⟩:=I.list (SqL.of h2)
  have l1:=r1.length
  have l2:=r2.length
  obtain⟨⟨cls,dd,data,sl⟩,ho,hc,n1,hd1⟩:=pl1.isList
  obtain⟨⟨cls2,dd2,data2,sl2⟩,ho2,hc2,n2,hd2⟩:=pl2.isList
  simp only at hc hd1 hc2 hd2
  subst hc hd1 hc2 hd2
  refine richCompare_meets_room (op:=.NotEq) ⟨_,ho,rfl⟩ ⟨_,ho2,rfl⟩ F.slot_list_ne F.entry_list_ne (F.args_list_ne_2 _ _) (list_neAt a b its.toArray its2.toArray n1 n2 dd dd2 sl sl2 (by simp;omega) (fun _=>true)) ⟨ho,ho2,cE' ih' hl r1 r2 he,?_⟩ (by omega)
  rw[cD']
  exact(show Value.bool false≠Value.notImplemented/\EP X pins σ Q (Value.bool false) s from⟨(fun x=>nomatch x),hend⟩)
 .obtain⟨its,r1,pl1,_⟩:=I.tuple (SqT.of h1)
  obtain⟨its2,r2,pl2,_⟩:=I.tuple (SqT.of h2)
  have l1:=r1.length
  have l2:=r2.length
  obtain⟨⟨cls,dd,data,sl⟩,ho,hc,n1,hd1⟩:=id pl1
  obtain⟨⟨cls2,dd2,data2,sl2⟩,ho2,hc2,n2,hd2⟩:=id pl2
  simp only at hc hd1 hc2 hd2
  subst hc hd1 hc2 hd2
  refine richCompare_meets_room (op:=.NotEq) ⟨_,ho,rfl⟩ ⟨_,ho2,rfl⟩ F.slot_tuple_ne F.entry_tuple_ne (F.args_tuple_ne_2 _ _) (tuple_neAt a b its.toArray its2.toArray n1 n2 dd dd2 sl sl2 (fun _=>true)) ⟨ho,ho2,cE' ih' hl r1 r2 he,?_⟩ (by omega)
  have e:(true&&its.toArray.size == its2.toArray.size)=true:=by simp;omega
  rw[cD',e]
  exact(show Value.bool false≠Value.notImplemented/\EP X pins σ Q (Value.bool false) s from⟨(fun x=>nomatch x),hend⟩)
end
end L2
namespace HT
open PySem PyProof.Rows
open PySem.SeqAt
open PySem.MeetsSeq PySem.MeetsSeq2 PySem.MeetsSeq3
section
variable {prog:Program} {w:World} {A:Around} {E:Value->Shared->Prop} {s:Shared}
theorem k1' {t b:Addr} {ws:List Value} {Q:Value->Shared->Prop} (ht:IsTup s.heap t #[]) (hb:IsTup s.heap b ws.toArray) (h0:Q (.ref b) s):wpAny (model prog w) A (binaryOp .Add (.ref t) (.ref b)) Q E s:=by
 obtain⟨⟨cls,dd,data,sl⟩,ho,hc,n,hd⟩:=id ht
 obtain⟨⟨cls2,dd2,data2,sl2⟩,ho2,hc2,n2,hd2⟩:=id hb
 simp only at hc hd hc2 hd2
 subst hc hd hc2 hd2
 exact concat_meets ⟨_,ho,rfl⟩ ⟨_,ho2,rfl⟩ noFill_tuple_add seq_tuple_add PySem.F.slot_tuple_add PySem.F.entry_tuple_add (PySem.F.args_tuple_add_2 _ _)
  (tuple_addW0 t b #[] ws.toArray n n2 dd dd2 sl sl2 rfl) ⟨ho,ho2,h0⟩
end
end HT
namespace L2
open PySem PySem.Spec PyProof.Rows
section
variable {X:Cx}
def mC' (K:W.Frag):R2:=fun x y H Q=>∃a b ys,x=.ref a/\y=.ref b/\SqT K H a []/\SqT K H b ys/\Q (.ref b) H
theorem k2':OpR X (binaryOp .Add) (mC' X.K):=by
 intro pins s σ H x y v u Q I rx ry h
 obtain⟨a,b,ys,rfl,rfl,ha,hb,q⟩:=h
 cases rx
 cases ry
 obtain⟨its,r1,p1,_⟩:=I.tuple ha
 obtain⟨its2,r2,p2,_⟩:=I.tuple hb
 have e:its=[]:=r1.nil_iff.mpr rfl
 subst e
 exact HT.k1' p1 p2 ⟨.ref b,H,I,rfl,q⟩
end
end L2
namespace L2
open PySem PySem.Spec PyProof.Rows PySem.Calls PySem.NumText
def B2 (x:PySem.Str) (n:Int):Prop:=(x.cps.all (· < 128))=true/\(x.cps.toList.takeWhile (· != 0)).length<=640/\(int_private% "readNumeral") 0 2 (x.cps.toList.takeWhile (· != 0))=(int_private% "Numeral.value") n/\((x.cps.toList.takeWhile (· != 0)).length == x.cps.toList.length)=true
theorem k3' {M:Model} {A:Around} {E:Value->Shared->Prop} {s:Shared} {Q:Value->Shared->Prop} {v:Value} {text:List Nat} {n:Int}
  (hs:(text.takeWhile (· != 0)).length<=640) (hr:(int_private% "readNumeral") 0 2 (text.takeWhile (· != 0))=(int_private% "Numeral.value") n)
  (ha:((text.takeWhile (· != 0)).length == text.length)=true) (h:Q (.int n s.toks) { s with toks:=s.toks+1 }):
  wpAny M A ((int_private% "intFromText") v text 2) Q E s:=by
 obtain⟨hp,g,d,tk,os⟩:=s
 repeat (any_goals (first
  |assumption
  |(with_reducible refine wpAny_ite_true (decide_eq_true hs) ?_)
  |(with_reducible refine wpAny_ite_true (decide_eq_true ha) ?_)
  |wp_step))
 all_goals (try rw[hr])
 all_goals (try dsimp only)
 repeat (any_goals (first
  |assumption
  |(with_reducible refine wpAny_ite_true (decide_eq_true hs) ?_)
  |(with_reducible refine wpAny_ite_true (decide_eq_true ha) ?_)
  |wp_step))
set_option maxHeartbeats 4000000 in
theorem fY' {x:PySem.Str} {u v:Tok} {n:Int} (hb:B2 x n):Gives (Builtin.«int.__new__» ⟨[.type "int",.str x u,.int 2 v],[]⟩) (.int n):=
 .of_wp fun M A E s Q h=>by
  obtain⟨hp,g,d,tk,os⟩:=s
  have f1:=F.conv_sub_int
  have f2:=F.madeHere_int
  have f6:typeOf (.str x u)=pure (.type "str"):=rfl
  have hk:=W.KIN.Hid.mk hb
  clear hb
  repeat (any_goals (first
   |assumption
   |((with_reducible show wpAny _ _ ((int_private% "intFromText") _ _ _) _ _ _);rw[if_pos hk.out.1];refine k3' hk.out.2.1 hk.out.2.2.1 hk.out.2.2.2 ?_)
   |wp_step))
  all_goals first|exact⟨_,rfl,h⟩|skip
theorem d1' (a b:Value):checkTypeCall "int" ⟨[a,b],[]⟩=pure ():=by kernel_rfl
theorem eG' (a b:Value):checkBuiltinCall "int.__new__" ⟨[.type "int",a,b],[]⟩=pure ():=by kernel_rfl
section
variable {X:Cx}
def qF':List V->Hp->VK->Prop:=fun xs H Q=>∃x n,xs=[.str x,.int 2]/\B2 x n/\Q (.int n) H
theorem iV':aN' X (.type "int") qF':=by
 intro pins s σ H xs us Q I r h
 obtain⟨x,n,rfl,hb,q⟩:=h
 obtain⟨u,v,rfl,⟨t,rfl⟩,⟨t',rfl⟩⟩:=ii' r
 exact callType_new F.called_int F.newNe_int (d1' _ _) (eG' _ _) (fun obj=>F.args_object_init_3 obj _ _) F.entry_int_new (fY' hb).meets (show(Made.int n).post _ s from⟨rfl,⟨.int n,H,I.tok _,⟨_,rfl⟩,q⟩⟩)
theorem iW':aN' X (.type "int") (fun xs H Q=>vG' xs H Q\/qF' xs H Q):=iI'.or iV'
end
section
variable {X:Cx}
end
end L2
namespace PySem
open PyProof.Rows
def Heap.IsRvd (h:Heap) (a t:Addr) (i:Int):Prop:=∃o,h.get? a=some o/\o.cls=.type "reversed"/\o.data=.fields #[.ref t,rawInt i]
theorem Heap.IsRvd.at {h h':Heap} {a t:Addr} {i:Int} (x:h.IsRvd a t i) (e:∀o,h.get? a=some o->h'.get? a=some o):h'.IsRvd a t i:=let⟨o,ho,r⟩:=x;⟨o,e _ ho,r⟩
section
variable {prog:Program} {w:World} {A:Around} {E:Value->Shared->Prop} {s:Shared}
theorem Heap.IsRvd.typeIs {a t:Addr} {i:Int} (x:s.heap.IsRvd a t i):s.TypeIs (.ref a) "reversed":=let⟨o,ho,hc,_⟩:=x;⟨o,ho,hc⟩
end
section
variable {prog:Program} {w:World} {A:Around} {E:Value->Shared->Prop} {s:Shared}
end
section
variable {prog:Program} {w:World} {A:Around} {E:Value->Shared->Prop} {s:Shared}
end
end PySem
namespace L2
open PySem PySem.Spec PyProof.Rows
section
variable {X:Cx}
end
end L2
namespace HT
open PySem PyProof.Rows
section
variable {prog:Program} {w:World} {A:Around} {E:Value->Shared->Prop} {s:Shared}
theorem cO' {t sl:Addr} {items:Array Value} {vl vu:Value} {lo hi:Option Int} {Q:Value->Shared->Prop} (ht:IsTup s.heap t items) (hs:s.heap.IsSliceOf sl vl vu .none) (pl:IsPart vl lo) (pu:IsPart vu hi)
  (hw:sIx items.size 0 lo=0/\sIx items.size items.size hi=items.size)
  (h:Q (.ref t) s):wpAny (model prog w) A (getItem (.ref t) (.ref sl)) Q E s:=by
 obtain⟨os,hos,hcs,hds⟩:=id hs
 have hTs:s.TypeIs (.ref sl) "slice":=⟨os,hos,hcs⟩
 unfold getItem
 try with_reducible refine bM ?_
 first|refine aa (ap ?_)|skip
 refine aa (wpAny_sequenceKey ht.typeIs (by decide) ?_)
 refine aa (bc (name:=Str.ofString "__getitem__") ht.typeIs PyProof.Rows.slot_tuple_getitem
  (bG PyProof.Rows.slot_tuple_getitem ht.typeIs entry_tuple_getitem ?_ (args_tuple_getitem _ _)))
 show wpAny _ _ (Builtin.Tuple.tupleItemsOf (.ref t) >>= _) _ _ s
 refine aa (tupleItemsOf_ ht ?_)
 refine aa (wpAny_typeOf hTs ?_)
 rw[if_pos (by decide)]
 refine aa (cm' hs pl pu ?_)
 have hyes:(((sIx items.size 0 lo:Nat):Int) == 0&&(1:Int) == 1&&(sIx items.size items.size hi-sIx items.size 0 lo) == items.size)=true:=by
  rw[hw.1,hw.2]
  simp
 show wpAny _ _ (if(((sIx items.size 0 lo:Nat):Int) == 0&&(1:Int) == 1&&(sIx items.size items.size hi-sIx items.size 0 lo) == items.size)=true then _ else _) _ _ s
 rw[if_pos hyes]
 obtain⟨ot,hot,hct,nt,hdt⟩:=id ht
 refine aa (wpAny_mono (Q:=fun b s'=>b=true/\s'=s) (E:=E) ?_ ?_ (fun _ _ z=>z))
 .unfold Builtin.Tuple.tupleIsExact
  exact aa (wpAny_typeOf ht.typeIs (ap ⟨rfl,rfl⟩))
 .rintro b s' ⟨rfl,rfl⟩
  rw[if_pos rfl]
  exact aa (wpAny_rule (ap ⟨_,rfl,ap h⟩))
end
end HT
namespace L2
open PySem PySem.Spec PyProof.Rows
section
variable {X:Cx}
def tw' (K:W.Frag):V->Option Int->Option Int->Hp->VK->Prop:=fun x lo hi H Q=>∃a xs,x=.ref a/\SqT K H a xs/\(HT.sIx xs.length 0 lo=0/\HT.sIx xs.length xs.length hi=xs.length)/\Q (.ref a) H
theorem k4':SlR X (tw' X.K):=by
 intro pins s σ H x v vl vu lo hi sl Q I rx hs pl pu h
 obtain⟨a,xs,rfl,hx,hw,q⟩:=h
 cases rx
 obtain⟨its,r,ht,hz⟩:=I.tuple hx
 have hlen:its.toArray.size=xs.length:=by rw[aj];exact r.length.symm
 refine⟨"tuple",_,PyProof.Rows.slot_tuple_getitem.lookup,ht.typeIs,?_⟩
 exact HT.cO' ht hs pl pu (by rw[hlen];exact hw) ⟨.ref a,H,I,rfl,q⟩
end
section
variable {X:Cx} {pins:List (Addr×Obj)} {σ:St} {H:Hp} {s:Shared}
variable {X:Cx}
end
end L2
namespace HT
open PySem PyProof.Rows
section
variable {prog:Program} {w:World} {A:Around} {E:Value->Shared->Prop} {s:Shared}
end
end HT
namespace L2
open PySem PySem.Spec PyProof.Rows
section
variable {X:Cx} {e st:Expr} {te:TE} {p2 pos:Pos}
end
section
variable {prog:Program} {w:World} {A:Around} {E:Value->Shared->Prop} {s:Shared} {b0:Array Keyed} {κ:PyProof.Rows.KeyKind}
def wn' (b0:Array Keyed) (st:SortSt):Prop:=arrOf st=b0/\failedOf st=none/\pendingOf st=#[(0,b0.size,0)]
end
section
variable {X:Cx}
end
end L2
namespace L2
open PySem PySem.Spec PyProof.Rows PySem.SeqAt
def Ls1 (H:Hp) (v:V) (ns:List Int):Prop:=∃p,v=.ref p/\H p=some (.lst (ns.map V.int))
def LL (H:Hp) (a:Addr) (L:List (List Int)):Prop:=∃vs,H a=some (.lst vs)/\vs.length=L.length/\∀(i:Nat) v ns,vs[i]?=some v->L[i]?=some ns->Ls1 H v ns
theorem dN':∀{a b:List Int},a.map V.int=b.map V.int->a=b
 | [],[],_=>rfl
 | [],_ :: _,h=>by cases h
 |_ :: _,[],h=>by cases h
 |x :: a,y :: b,h=>by
  rw[bg,bg]at h
  injection h with h1 h2
  injection h1 with h1
  rw[h1,dN' h2]
section
variable {X:Cx} {pins:List (Addr×Obj)} {σ:L2.St} {H:Hp} {s:Shared}
def wo' (neg:Bool):R2:=fun x y H Q=>∃a b L M,x=.ref a/\y=.ref b/\LL H a L/\LL H b M/\Q (.bl (decide (L=M))) H
def uh':R2:=fun x y H Q=>∃b L ns,Ls1 H x ns/\y=.ref b/\LL H b L/\Q (.bl (!decide (ns∈L))) H
end
section
variable {X:Cx}
end
def SqE (K:W.Frag) (H:Hp) (p:Addr) (xs:List V):Prop:=∃k:Bool,Sq k K H p xs
section
variable {X:Cx} {env:Env}
def Fr {α:Type} (t:Sem α):Prop:=∀(M:Model) (Γ:PySem.Ctx) (Q:α->Pos->Shared->Prop) (E:Value->Pos->Shared->Prop) (p:Pos) (s:Shared),Sem.wp M Γ t Q E p s->Sem.wp M Γ t (fun a p' s'=>1<=s'.toks/\Q a p' s') E p s
theorem Fr.bindL {α β:Type} {m:Sem α} {f:α->Sem β} (h:Fr m):Fr (m >>= f):=by
 intro M Γ Q E p s q
 rw[Sem.wp_bind']at q ⊢
 refine Sem.wp_mono M Γ m (fun a p' s' z=>?_) (fun _ _ _ z=>z) p s (h M Γ _ E p s q)
 exact Sem.wp_mono M Γ (f a) (fun _ _ _ z=>z) (fun _ _ _ z=>z.2) p' s' (Sem.wp_toks M Γ 1 (f a) Q E p' s' z.1 z.2)
theorem Fr.any {α:Type} {M:Model} {A:Around} {t:Sem α} {Q:α->Shared->Prop} {E:Value->Shared->Prop} {s:Shared} (h:Fr t) (q:wpAny M A t Q E s):wpAny M A t (fun a s'=>1<=s'.toks/\Q a s') E s:=fun Γ p hΓ=>h M Γ _ _ p s (q Γ p hΓ)
end
section
variable {X:Cx}
end
section
variable {prog:Program} {w:World} {A:Around} {E:Value->Shared->Prop} {s:Shared} {b0:Array Keyed} {κ:SortKind}
end
section
variable {X:Cx}
end
end L2
namespace So
open PySem PySem.Spec PyProof.Rows
def iX':Bool->Keyed->Array Keyed->Nat->Nat->Nat->StateT SortSt Sem (Option Nat):=sortPriv% PySem.Builtin.gallop
section
variable {M:Model} {A:Around} {E:Value->Shared->Prop} {s:Shared} {O:KeyOrd} {ky:Keyed->O.α} {P:Keyed->Prop} {kd:SortKind}
structure Cmp (M:Model) (A:Around) (E:Value->Shared->Prop) (s:Shared) (O:KeyOrd) (ky:Keyed->O.α) (P:Keyed->Prop) (kd:SortKind):Prop where
 lt:∀{x y:Keyed} {st:SortSt} {Q:Option Bool->SortSt->Prop},P x->P y->kindOf st=kd->Q (some (O.blt (ky x) (ky y))) st->wpS M A E s (lt' x y) Q st
theorem gy' {a:Array Keyed} {i:Nat} {x:Keyed} {Q:Keyed->SortSt->Prop} {st:SortSt} (e:a[i]?=some x) (h:Q x st):wpS M A E s (elem' a i) Q st:=by
 rw[elem'_eq,e];exact wpS_pure h
end
end So
namespace So
open PySem PySem.Spec PyProof.Rows
structure Mg (R:Keyed->Keyed->Prop) (T o ra rb:List Keyed):Prop where
 pm:(o++(ra++rb)).Perm T
 so:o.Pairwise R
 sa:ra.Pairwise R
 sb:rb.Pairwise R
 oa:∀x∈o,∀y∈ra,R x y
 ob:∀x∈o,∀y∈rb,R x y
section
variable {R:Keyed->Keyed->Prop} {T o ra rb:List Keyed}
theorem Mg.swap (m:Mg R T o ra rb):Mg R T o rb ra:=⟨(List.Perm.append_left o List.perm_append_comm).trans m.pm,m.so,m.sb,m.sa,m.ob,m.oa⟩
theorem Mg.put {u:List Keyed} (m:Mg R T o (u++ra) rb) (h:∀y∈u,∀z∈rb,R y z):Mg R T (o++u) ra rb:=by
 have⟨s1,s2,s3⟩:=cc.mp m.sa
 refine⟨?_,cc.mpr ⟨m.so,s1,fun x hx y hy=>m.oa x hx y (bE _ hy)⟩,s2,m.sb,?_,?_⟩
 .have:=m.pm;simpa[bO]using this
 .intro x hx y hy
  rcases aH.mp hx with hx|hx
  .exact m.oa x hx y (ax _ hy)
  .exact s3 x hx y hy
 .intro x hx y hy
  rcases aH.mp hx with hx|hx
  .exact m.ob x hx y hy
  .exact h x hx y hy
theorem Mg.put1 {u:Keyed} (m:Mg R T o (u :: ra) rb) (h:∀z∈rb,R u z):Mg R T (o++[u]) ra rb:=
 Mg.put (u:=[u]) m fun y hy=>by rw[bm]at hy;subst hy;exact h
theorem Mg.putB {u:List Keyed} (m:Mg R T o ra (u++rb)) (h:∀y∈u,∀z∈ra,R y z):Mg R T (o++u) ra rb:=(m.swap.put h).swap
theorem Mg.putB1 {u:Keyed} (m:Mg R T o ra (u :: rb)) (h:∀z∈ra,R u z):Mg R T (o++[u]) ra rb:=(m.swap.put1 h).swap
theorem Mg.fin (m:Mg R T o ra rb) (h:∀y∈ra,∀z∈rb,R y z):(o++(ra++rb)).Perm T/\(o++(ra++rb)).Pairwise R:=by
 refine⟨m.pm,cc.mpr ⟨m.so,cc.mpr ⟨m.sa,m.sb,h⟩,fun x hx y hy=>?_⟩⟩
 rcases aH.mp hy with hy|hy
 .exact m.oa x hx y hy
 .exact m.ob x hx y hy
end
end So
namespace So
open PySem PySem.Spec PyProof.Rows
section
variable {M:Model} {A:Around} {E:Value->Shared->Prop} {s:Shared} {O:KeyOrd} {ky:Keyed->O.α} {P:Keyed->Prop} {kd:SortKind}
def fh' (st st':SortSt):Prop:=kindOf st'=kindOf st/\arrOf st'=arrOf st/\pendingOf st'=pendingOf st/\failedOf st'=failedOf st
theorem fh'.rfl' (st:SortSt):fh' st st:=⟨rfl,rfl,rfl,rfl⟩
theorem fh'.trans {a b c:SortSt} (h:fh' a b) (g:fh' b c):fh' a c:=⟨g.1.trans h.1,g.2.1.trans h.2.1,g.2.2.1.trans h.2.2.1,g.2.2.2.trans h.2.2.2⟩
theorem fh'.set (st:SortSt) (m:Nat):fh' st (SortSt.mk' (kindOf st) (arrOf st) (pendingOf st) m (failedOf st)):=⟨rfl,rfl,rfl,rfl⟩
def Rk (O:KeyOrd) (ky:Keyed->O.α) (p q:Keyed):Prop:=O.kle (ky p) (ky q)
theorem iY' {a:Array Keyed} {i:Nat} (h:i<a.size):∃p,a[i]?=some p/\p∈a.toList:=⟨a[i],by simp,by simp⟩
theorem iZ' {a:Array Keyed} {i:Nat} {p:Keyed} (e:a[i]?=some p):a.toList.drop i=p :: a.toList.drop (i+1):=by
 have hi:i<a.size:=by
  rcases cw i a.size with h|h
  .exact h
  .rw[Array.getElem?_eq_none h]at e;cases e
 have:a[i]=p:=by rw[aL hi]at e;exact Option.some.inj e
 rw[List.drop_eq_getElem_cons (by simpa using hi)]
 simp[this]
theorem aU' (a:Array Keyed) (i j:Nat):(a.extract i j).toList=(a.toList.drop i).take (j-i):=by
 simp[Array.toList_extract,List.extract_eq_take_drop]
theorem c0' (a:Array Keyed) (i:Nat):(a.extract i a.size).toList=a.toList.drop i:=by
 rw[aU',bV];simp
theorem i0' (l:List Keyed) (i k:Nat):l.drop i=(l.drop i).take k++l.drop (i+k):=by
 rw[<- List.drop_drop,bA]
theorem bC' {a:Array Keyed} {i k:Nat} {p:Keyed} (h:p∈(a.toList.drop i).take k):∃n,n<k/\a[i+n]?=some p:=by
 obtain⟨n,hn,e⟩:=List.getElem_of_mem h
 have hl:n<k:=by simp at hn;omega
 refine⟨n,hl,?_⟩
 rw[List.getElem_take,cD]at e
 simp at hn
 rw[aL (by omega)]
 simpa using e
theorem bD' {a:Array Keyed} {i:Nat} {p:Keyed} (h:p∈a.toList.drop i):∃n,i<=n/\a[n]?=some p:=by
 obtain⟨n,hn,e⟩:=List.getElem_of_mem h
 refine⟨i+n,by omega,?_⟩
 rw[cD]at e
 simp at hn
 rw[aL (by omega)]
 simpa using e
theorem ui' {R:Keyed->Keyed->Prop} {a:Array Keyed} (h:a.toList.Pairwise R) {i j:Nat} {p q:Keyed} (hij:i<j) (e:a[i]?=some p) (e2:a[j]?=some q):R p q:=by
 have hj:j<a.size:=by
  rcases cw j a.size with h|h
  .exact h
  .rw[Array.getElem?_eq_none h]at e2;cases e2
 have h1:a[i]=p:=by rw[aL (by omega)]at e;exact Option.some.inj e
 have h2:a[j]=q:=by rw[aL hj]at e2;exact Option.some.inj e2
 have:=List.pairwise_iff_getElem.mp h i j (by simp;omega) (by simp;omega) hij
 simpa[h1,h2]using this
theorem k5' {a:Array Keyed} (h:a.toList.Pairwise (Rk O ky)) {i j:Nat} {p q:Keyed} (hij:i<=j) (e:a[i]?=some p) (e2:a[j]?=some q):O.kle (ky p) (ky q):=by
 by_cases g:i=j
 .subst g;rw[e]at e2;cases e2;exact KeyOrd.kle_refl _
 .exact ui' h (by omega) e e2
end
end So
namespace So
open PySem PySem.Spec PyProof.Rows
section
variable {M:Model} {A:Around} {E:Value->Shared->Prop} {s:Shared} {O:KeyOrd} {ky:Keyed->O.α} {P:Keyed->Prop} {kd:SortKind} {x y:Array Keyed}
def pB' (O:KeyOrd) (ky:Keyed->O.α) (x y r:Array Keyed):Prop:=r.toList.Perm (x.toList++y.toList)/\r.toList.Pairwise (Rk O ky)
def Wk (O:KeyOrd) (ky:Keyed->O.α) (x y o:Array Keyed) (i j:Nat):Prop:=Mg (Rk O ky) (x.toList++y.toList) o.toList (x.toList.drop i) (y.toList.drop j)/\i<=x.size/\j<=y.size
theorem Wk.dn {o:Array Keyed} {i j:Nat} (w:Wk O ky x y o i j) (e:j=y.size):pB' O ky x y (o++x.extract i x.size++y.extract j y.size):=by
 subst e
 have:=w.1.fin (fun p _ q hq=>by rw[List.drop_eq_nil_of_le (by simp)]at hq;cases hq)
 unfold pB'
 rw[bi,bi,c0',c0',bO]
 exact this
theorem Wk.la {o:Array Keyed} {i j:Nat} (w:Wk O ky x y o i j) (e:i+1=x.size) (hl:∀p q,x[x.size-1]?=some p->q∈y.toList->O.klt (ky q) (ky p)):pB' O ky x y (o++y.extract j y.size++x.extract i x.size):=by
 have:=w.1.swap.fin (fun q hq p hp=>by
  obtain⟨n,hn,e2⟩:=bD' hp
  have:n<x.size:=by
   rcases cw n x.size with h|h
   .exact h
   .rw[Array.getElem?_eq_none h]at e2;cases e2
  have:n=x.size-1:=by omega
  subst this
  exact KeyOrd.kle_of_klt (hl p q e2 (cG hq)))
 unfold pB'
 rw[bi,bi,c0',c0',bO]
 exact this
theorem Wk.putB {o:Array Keyed} {i j:Nat} {p q:Keyed} (w:Wk O ky x y o i j) (e1:x[i]?=some p) (e2:y[j]?=some q) (h:O.kle (ky q) (ky p)) (hj:j<y.size) (sx:x.toList.Pairwise (Rk O ky)):Wk O ky x y (o.push q) i (j+1):=by
 refine⟨?_,w.2.1,hj⟩
 have m:=w.1
 rw[iZ' e2]at m
 rw[cE]
 refine m.putB1 fun z hz=>?_
 obtain⟨n,hn,e3⟩:=bD' hz
 exact KeyOrd.kle_trans h (k5' sx hn e1 e3)
theorem Wk.putA {o:Array Keyed} {i j:Nat} {p q:Keyed} (w:Wk O ky x y o i j) (e1:x[i]?=some p) (e2:y[j]?=some q) (h:O.kle (ky p) (ky q)) (hi:i<x.size) (sy:y.toList.Pairwise (Rk O ky)):Wk O ky x y (o.push p) (i+1) j:=by
 refine⟨?_,hi,w.2.2⟩
 have m:=w.1
 rw[iZ' e1]at m
 rw[cE]
 refine m.put1 fun z hz=>?_
 obtain⟨n,hn,e3⟩:=bD' hz
 exact KeyOrd.kle_trans h (k5' sy hn e2 e3)
theorem Wk.manyA {o:Array Keyed} {i j k:Nat} {q:Keyed} (w:Wk O ky x y o i j) (e2:y[j]?=some q) (h:∀n p,n<k->x[i+n]?=some p->O.kle (ky p) (ky q)) (hi:i+k<=x.size) (sy:y.toList.Pairwise (Rk O ky)):
  Wk O ky x y (o++x.extract i (i+k)) (i+k) j:=by
 refine⟨?_,hi,w.2.2⟩
 have m:=w.1
 rw[i0' _ i k]at m
 rw[bi,aU',Nat.add_sub_cancel_left]
 refine m.put fun p hp z hz=>?_
 obtain⟨n,hn,e3⟩:=bC' hp
 obtain⟨n2,hn2,e4⟩:=bD' hz
 exact KeyOrd.kle_trans (h n p hn e3) (k5' sy hn2 e2 e4)
theorem Wk.manyB {o:Array Keyed} {i j k:Nat} {p:Keyed} (w:Wk O ky x y o i j) (e1:x[i]?=some p) (h:∀n q,n<k->y[j+n]?=some q->O.klt (ky q) (ky p)) (hj:j+k<=y.size) (sx:x.toList.Pairwise (Rk O ky)):
  Wk O ky x y (o++y.extract j (j+k)) i (j+k):=by
 refine⟨?_,w.2.1,hj⟩
 have m:=w.1
 rw[i0' _ j k]at m
 rw[bi,aU',Nat.add_sub_cancel_left]
 refine m.putB fun q hq z hz=>?_
 obtain⟨n,hn,e3⟩:=bC' hq
 obtain⟨n2,hn2,e4⟩:=bD' hz
 exact KeyOrd.kle_trans (KeyOrd.kle_of_klt (h n q hn e3)) (k5' sx hn2 e1 e4)
end
end So
namespace So
open PySem PySem.Spec PyProof.Rows
def dnH (x y o:Array Keyed) (i j:Nat):Array Keyed:=x.extract 0 i++y.extract 0 j++o.reverse
def fbH (x y o:Array Keyed) (i j:Nat):Array Keyed:=y.extract 0 j++x.extract 0 i++o.reverse
abbrev TG:Type:=Option (Array Keyed)×Nat×Nat×Array Keyed×Nat×Nat×Nat
abbrev TI:Type:=Option (Array Keyed)×Nat×Nat×Array Keyed×Nat×Nat
abbrev TO:Type:=Option (Array Keyed)×Nat×Nat×Array Keyed×Nat
def hi3 (x y:Array Keyed) (i j:Nat) (o:Array Keyed) (mg ca cb:Nat):StateT SortSt Sem (ForInStep TG):=do
 let p <- elem' x (i-1)
 if(i-1 == 0)=true then pure (.done (some (dnH x y (o.push p) (i-1) j),i-1,j,o.push p,mg,ca,cb))
 else if(decide (ca<7)&&decide (cb<7))=true then pure (.done (none,i-1,j,o.push p,mg,ca,cb))else pure (.yield (none,i-1,j,o.push p,mg,ca,cb))
def hi2 (x y:Array Keyed) (i j:Nat) (o:Array Keyed) (mg ca cb:Nat):StateT SortSt Sem (ForInStep TG):=do
 let q <- elem' y (j-1)
 if(j-1 == 1)=true then pure (.done (some (fbH x y (o.push q) i (j-1)),i,j-1,o.push q,mg,ca,cb))
 else do
  let p <- elem' x (i-1)
  let r <- iX' true p y 0 (j-1) (j-1-1)
  match r with
  |some z=>
   if j-1-z > 0 then
    if(z == 1)=true then pure (.done (some (fbH x y (o.push q++(y.extract z (j-1)).reverse) i z),i,z,o.push q++(y.extract z (j-1)).reverse,mg,ca,j-1-z))
    else if(z == 0)=true then pure (.done (some (dnH x y (o.push q++(y.extract z (j-1)).reverse) i z),i,z,o.push q++(y.extract z (j-1)).reverse,mg,ca,j-1-z))
    else hi3 x y i z (o.push q++(y.extract z (j-1)).reverse) mg ca (j-1-z)
   else hi3 x y i (j-1) (o.push q) mg ca (j-1-z)
  |_=>pure (.done (some (dnH x y (o.push q) i (j-1)),i,j-1,o.push q,mg,ca,cb))
def hi1 (x y:Array Keyed) (i j:Nat) (o:Array Keyed) (mg ca cb:Nat):StateT SortSt Sem (ForInStep TG):=do
 modify fun st=>SortSt.mk' (kindOf st) (arrOf st) (pendingOf st) mg (failedOf st)
 let q <- elem' y (j-1)
 let r <- iX' false q x 0 i (i-1)
 match r with
 |some z=>
  if i-z > 0 then
   if(z == 0)=true then pure (.done (some (dnH x y (o++(x.extract z i).reverse) z j),z,j,o++(x.extract z i).reverse,mg,i-z,cb))
   else hi2 x y z j (o++(x.extract z i).reverse) mg (i-z) cb
  else hi2 x y i j o mg (i-z) cb
 |_=>pure (.done (some (dnH x y o i j),i,j,o,mg,ca,cb))
section
variable {M:Model} {A:Around} {E:Value->Shared->Prop} {s:Shared} {O:KeyOrd} {ky:Keyed->O.α} {P:Keyed->Prop} {kd:SortKind} {x y:Array Keyed}
theorem bb' {a:Array Keyed} {i:Nat} {p:Keyed} (e:a[i]?=some p):(a.toList.take (i+1)).reverse=p :: (a.toList.take i).reverse:=by
 have:a.toList[i]?=some p:=by simpa using e
 rw[List.take_add_one,this];simp
theorem eb' (a:Array Keyed) (i:Nat):(a.extract 0 i).toList=a.toList.take i:=by rw[aU'];simp
theorem mD' (l:List Keyed) {z i:Nat} (h:z<=i):(l.take i).reverse=((l.drop z).take (i-z)).reverse++(l.take z).reverse:=by
 rw[<- List.reverse_append]
 congr 1
 rw[<- bA z (l.take i),List.take_take,List.drop_take]
 congr 2
 omega
theorem bS' {a:Array Keyed} {i:Nat} {p:Keyed} (h:p∈(a.toList.take i).reverse):∃n,n<i/\a[n]?=some p:=by
 obtain⟨n,hn,e⟩:=bC' (a:=a) (i:=0) (k:=i) (p:=p) (by simpa using h)
 exact⟨n,hn,by simpa using e⟩
def Wh (O:KeyOrd) (ky:Keyed->O.α) (x y o:Array Keyed) (i j:Nat):Prop:=Mg (fun p q=>Rk O ky q p) (x.toList++y.toList) o.toList (x.toList.take i).reverse (y.toList.take j).reverse/\i<=x.size/\j<=y.size
theorem Wh.dn {o:Array Keyed} {i j:Nat} (w:Wh O ky x y o i j) (e:i=0):pB' O ky x y (x.extract 0 i++y.extract 0 j++o.reverse):=by
 subst e
 have⟨h1,h2⟩:=w.1.swap.fin (fun q _ p hp=>by simp at hp)
 unfold pB'
 have e:(x.extract 0 0++y.extract 0 j++o.reverse).toList=(o.toList++((y.toList.take j).reverse++(x.toList.take 0).reverse)).reverse:=by
  rw[bi,bi,eb',eb'];simp
 rw[e]
 exact⟨(List.reverse_perm _).trans h1,List.pairwise_reverse.mpr h2⟩
theorem Wh.putA {o:Array Keyed} {i j:Nat} {p:Keyed} (w:Wh O ky x y o (i+1) j) (e1:x[i]?=some p) (h:∀n q,n<j->y[n]?=some q->O.kle (ky q) (ky p)):Wh O ky x y (o.push p) i j:=by
 refine⟨?_,by have:=w.2.1;omega,w.2.2⟩
 have m:=w.1
 rw[bb' e1]at m
 rw[cE]
 refine m.put1 fun z hz=>?_
 obtain⟨n,hn,e3⟩:=bS' hz
 exact h n z hn e3
theorem Wh.putB {o:Array Keyed} {i j:Nat} {q:Keyed} (w:Wh O ky x y o i (j+1)) (e2:y[j]?=some q) (h:∀n p,n<i->x[n]?=some p->O.kle (ky p) (ky q)):Wh O ky x y (o.push q) i j:=by
 refine⟨?_,w.2.1,by have:=w.2.2;omega⟩
 have m:=w.1
 rw[bb' e2]at m
 rw[cE]
 refine m.putB1 fun z hz=>?_
 obtain⟨n,hn,e3⟩:=bS' hz
 exact h n z hn e3
theorem Wh.manyA {o:Array Keyed} {i j z:Nat} (w:Wh O ky x y o i j) (hz:z<=i) (h:∀n p m q,z<=n->n<i->x[n]?=some p->m<j->y[m]?=some q->O.kle (ky q) (ky p)):Wh O ky x y (o++(x.extract z i).reverse) z j:=by
 refine⟨?_,by have:=w.2.1;omega,w.2.2⟩
 have m:=w.1
 rw[mD' _ hz]at m
 rw[bi,Array.toList_reverse,aU']
 refine m.put fun p hp q hq=>?_
 obtain⟨n,hn,e3⟩:=bC' (List.mem_reverse.mp hp)
 obtain⟨n2,hn2,e4⟩:=bS' hq
 exact h _ p n2 q (by omega) (by omega) e3 hn2 e4
theorem Wh.manyB {o:Array Keyed} {i j z:Nat} (w:Wh O ky x y o i j) (hz:z<=j) (h:∀n q m p,z<=n->n<j->y[n]?=some q->m<i->x[m]?=some p->O.kle (ky p) (ky q)):Wh O ky x y (o++(y.extract z j).reverse) i z:=by
 refine⟨?_,w.2.1,by have:=w.2.2;omega⟩
 have m:=w.1
 rw[mD' _ hz]at m
 rw[bi,Array.toList_reverse,aU']
 refine m.putB fun q hq p hp=>?_
 obtain⟨n,hn,e3⟩:=bC' (List.mem_reverse.mp hq)
 obtain⟨n2,hn2,e4⟩:=bS' hp
 exact h _ q n2 p (by omega) (by omega) e3 hn2 e4
end
end So
namespace So
open PySem PySem.Spec PyProof.Rows
section
variable {M:Model} {A:Around} {E:Value->Shared->Prop} {s:Shared} {O:KeyOrd} {ky:Keyed->O.α} {P:Keyed->Prop} {kd:SortKind}
end
end So
namespace So
open PySem PySem.Spec PyProof.Rows
section
variable {M:Model} {A:Around} {E:Value->Shared->Prop} {s:Shared} {O:KeyOrd} {ky:Keyed->O.α} {P:Keyed->Prop} {kd:SortKind} {st0:SortSt} {lo nrem:Nat}
def ke (ky:Keyed->O.α) (a:Array Keyed) (i:Nat):O.α:=ky ((a[i]?).getD (Value.none,Value.none))
theorem k6' {a:Array Keyed} {i:Nat} {p:Keyed} (h:a[i]?=some p):ke ky a i=ky p:=by unfold ke;rw[h];rfl
structure Sb (st0:SortSt) (lo:Nat) (st:SortSt):Prop where
 perm:(arrOf st).Perm (arrOf st0)
 same:∀i,i<lo->(arrOf st)[i]?=(arrOf st0)[i]?
 kind:kindOf st=kindOf st0
 fail:failedOf st=failedOf st0
 pend:pendingOf st=pendingOf st0
theorem Sb.rfl' (st0:SortSt) (lo:Nat):Sb st0 lo st0:=⟨Array.Perm.refl _,fun _ _=>rfl,rfl,rfl,rfl⟩
theorem Sb.size {st:SortSt} (B:Sb st0 lo st):(arrOf st).size=(arrOf st0).size:=B.perm.size_eq
theorem Sb.lt (C:Cmp M A E s O ky P kd) {st:SortSt} {i j:Nat} {Q:Option Bool->SortSt->Prop} (kst:kindOf st0=kd) (pa:∀p∈(arrOf st0).toList,P p) (B:Sb st0 lo st) (hi:i<(arrOf st0).size) (hj:j<(arrOf st0).size)
  (h:Q (some (O.blt (ke ky (arrOf st) i) (ke ky (arrOf st) j))) st):wpS M A E s (ltAt' i j) Q st:=by
 obtain⟨p,ep,mp⟩:=iY' (a:=arrOf st) (i:=i) (by rw[B.size];exact hi)
 obtain⟨q,eq,mq⟩:=iY' (a:=arrOf st) (i:=j) (by rw[B.size];exact hj)
 have pm:=Array.perm_iff_toList_perm.mp B.perm
 rw[ltAt'_eq]
 refine wpS_bind (wpS_get ?_)
 refine wpS_bind (gy' ep (wpS_bind (gy' eq (C.lt (pa p (pm.mem_iff.mp mp)) (pa q (pm.mem_iff.mp mq)) (B.kind.trans kst) ?_))))
 rw[k6' ep,k6' eq]at h
 exact h
def Si (ky:Keyed->O.α) (lo:Nat) (a:Array Keyed) (n:Nat):Prop:=∀i j,i<=j->j<n->O.kle (ke ky a (lo+i)) (ke ky a (lo+j))
def Ni (ky:Keyed->O.α) (lo:Nat) (a:Array Keyed) (n:Nat):Prop:=∀i j,i<=j->j<n->O.kle (ke ky a (lo+j)) (ke ky a (lo+i))
theorem Si.more {a:Array Keyed} {n:Nat} (h:Si ky lo a n) (h1:1<=n) (g:O.kle (ke ky a (lo+(n-1))) (ke ky a (lo+n))):Si ky lo a (n+1):=by
 intro i j hij hj
 by_cases c:j<n
 .exact h i j hij c
 .have e:j=n:=by omega
  subst e
  by_cases c2:i=j
  .subst c2;exact KeyOrd.kle_refl _
  .exact KeyOrd.kle_trans (h i (j-1) (by omega) (by omega)) g
theorem Ni.more {a:Array Keyed} {n:Nat} (h:Ni ky lo a n) (h1:1<=n) (g:O.kle (ke ky a (lo+n)) (ke ky a (lo+(n-1)))):Ni ky lo a (n+1):=by
 intro i j hij hj
 by_cases c:j<n
 .exact h i j hij c
 .have e:j=n:=by omega
  subst e
  by_cases c2:i=j
  .subst c2;exact KeyOrd.kle_refl _
  .exact KeyOrd.kle_trans g (h i (j-1) (by omega) (by omega))
end
end So
namespace So
open PySem PySem.Spec PyProof.Rows
section
variable {M:Model} {A:Around} {E:Value->Shared->Prop} {s:Shared} {O:KeyOrd} {ky:Keyed->O.α} {P:Keyed->Prop} {kd:SortKind} {st0:SortSt} {lo nrem:Nat}
end
end So
namespace So
open PySem PySem.Spec PyProof.Rows
section
variable {M:Model} {A:Around} {E:Value->Shared->Prop} {s:Shared} {O:KeyOrd} {ky:Keyed->O.α} {P:Keyed->Prop} {kd:SortKind} {st0:SortSt} {lo nrem:Nat}
inductive Rn (R:Keyed->Keyed->Prop):List (Nat×Nat×Nat)->List (List Keyed)->Nat->Prop
 |nil (a:Nat):Rn R [] [] a
 |cons {a:Nat} (w:Nat) {l:List Keyed} {p:List (Nat×Nat×Nat)} {L:List (List Keyed)}:0<l.length->l.Pairwise R->Rn R p L (a+l.length)->Rn R ((a,l.length,w) :: p) (l :: L) a
theorem Rn.len {R:Keyed->Keyed->Prop}:∀{p:List (Nat×Nat×Nat)} {L:List (List Keyed)} {a:Nat},Rn R p L a->p.length=L.length/\L.length<=L.flatten.length
 |_,_,_,.nil _=>⟨rfl,ak _⟩
 |_,_,_,.cons w h0 hs r=>by
  have⟨h1,h2⟩:=r.len
  refine⟨by simp[h1],?_⟩
  simp only[cn,bN,aN];omega
theorem Rn.push {R:Keyed->Keyed->Prop} {l:List Keyed} (h0:0<l.length) (hs:l.Pairwise R):∀{p:List (Nat×Nat×Nat)} {L:List (List Keyed)} {a:Nat},Rn R p L a->∀b,b=a+L.flatten.length->Rn R (p++[(b,l.length,0)]) (L++[l]) a
 |_,_,a,.nil _,b,e=>by
  have:b=a:=by simpa using e
  subst this
  exact .cons 0 h0 hs (.nil _)
 |_,_,a,.cons w g0 gs r,b,e=>.cons w g0 gs (r.push h0 hs b (by rw[e,bN,aN];omega))
theorem Rn.merge {R:Keyed->Keyed->Prop} {su nu pw sv nv pv:Nat}:∀{p:List (Nat×Nat×Nat)} {L:List (List Keyed)} {a i:Nat},Rn R p L a->p[i]?=some (su,nu,pw)->p[i+1]?=some (sv,nv,pv)->
  ∃L1 l1 l2 L2,L=L1++l1 :: l2 :: L2/\su=a+L1.flatten.length/\nu=l1.length/\sv=su+nu/\nv=l2.length/\0<nu/\0<nv/\l1.Pairwise R/\l2.Pairwise R/\
   ∀m,m.length=nu+nv->m.Pairwise R->Rn R ((p.set i (su,nu+nv,pw)).eraseIdx (i+1)) (L1++m :: L2) a
 |_,_,a,i,.nil _,e,_=>by simp at e
 |_,_,a,0,@Rn.cons _ _ w l p L h0 hs r,e,e2=>by
  have e':(a,l.length,w)=(su,nu,pw):=by simpa using e
  have e2':p[0]?=some (sv,nv,pv):=by simpa using e2
  obtain⟨rfl,rfl,rfl⟩:a=su/\l.length=nu/\w=pw:=by simpa using e'
  cases r with
  |nil _=>simp at e2'
  | @cons _ w2 l2 p2 L2 g0 gs r2=>
   obtain⟨rfl,rfl,rfl⟩:a+l.length=sv/\l2.length=nv/\w2=pv:=by simpa using e2'
   refine⟨[],l,l2,L2,rfl,by simp,rfl,rfl,rfl,h0,g0,hs,gs,fun m hm hsm=>?_⟩
   show Rn R ((a,l.length+l2.length,w) :: p2) (m :: L2) a
   rw[<- hm]
   refine .cons w (by omega) hsm ?_
   rw[hm,<- Nat.add_assoc];exact r2
 |_,_,a,i+1,@Rn.cons _ _ w l p L h0 hs r,e,e2=>by
  have e':p[i]?=some (su,nu,pw):=by simpa using e
  have e2':p[i+1]?=some (sv,nv,pv):=by simpa using e2
  obtain⟨L1,l1,l2,L2,rfl,a1,a2,a3,a4,a5,a6,a7,a8,a9⟩:=r.merge e' e2'
  refine⟨l :: L1,l1,l2,L2,rfl,by rw[a1,bN,aN];omega,a2,a3,a4,a5,a6,a7,a8,fun m hm hsm=>?_⟩
  have:=a9 m hm hsm
  exact .cons w h0 hs this
structure Wt (O:KeyOrd) (ky:Keyed->O.α) (kd:SortKind) (a0:Array Keyed) (st:SortSt) (L:List (List Keyed)) (T:List Keyed):Prop where
 ar:(arrOf st).toList=L.flatten++T
 rn:Rn (Rk O ky) (pendingOf st).toList L 0
 pm:(arrOf st).toList.Perm a0.toList
 kd:kindOf st=kd
 fl:failedOf st=none
theorem Wt.size {a0:Array Keyed} {st:SortSt} {L:List (List Keyed)} {T:List Keyed} (w:Wt O ky kd a0 st L T):(arrOf st).size=a0.size:=by
 have:=w.pm.length_eq;simpa using this
theorem Wt.pa {a0:Array Keyed} {st:SortSt} {L:List (List Keyed)} {T:List Keyed} (w:Wt O ky kd a0 st L T) (pa:∀p∈a0.toList,P p):∀p∈(arrOf st).toList,P p:=fun p hp=>pa p (w.pm.mem_iff.mp hp)
theorem Sb.split {U T:List Keyed} {st:SortSt} {n:Nat} (B:Sb st0 lo st) (e:(arrOf st0).toList=U++T) (hl:U.length=lo) (hn:lo+n<=(arrOf st0).size) (S:Si ky lo (arrOf st) n):
  ∃l T',(arrOf st).toList=U++(l++T')/\l.length=n/\l.Pairwise (Rk O ky):=by
 have hz:(arrOf st).toList.length=(arrOf st0).size:=by rw[aB];exact B.size
 have eU:(arrOf st).toList.take lo=U:=by
  apply bP
  intro i
  by_cases hi:i<lo
  .rw[List.getElem?_take_of_lt hi]
   have h1:=B.same i hi
   have h2:(arrOf st0).toList[i]?=U[i]?:=by rw[e,List.getElem?_append_left (by omega)]
   rw[<- h2];simpa using h1
  .rw[bo (by rw[bq];omega),bo (by omega)]
 refine⟨((arrOf st).toList.drop lo).take n,(arrOf st).toList.drop (lo+n),?_,by rw[bq,ck];omega,?_⟩
 .rw[<- eU,<- i0',bA]
 .rw[List.pairwise_iff_getElem]
  intro i j hi hj hij
  have hj':j<n:=by rw[bq]at hj;omega
  have:=S i j (by omega) hj'
  have a1:(arrOf st)[lo+i]?=some (((arrOf st).toList.drop lo).take n)[i]:=by
   rw[List.getElem_take,cD,aL (by simp at hz;omega)];simp
  have a2:(arrOf st)[lo+j]?=some (((arrOf st).toList.drop lo).take n)[j]:=by
   rw[List.getElem_take,cD,aL (by simp at hz;omega)];simp
  rw[k6' a1,k6' a2]at this
  exact this
end
end So
namespace L2
open PySem PySem.Spec PyProof.Rows So
section
variable {prog:Program} {w:World} {A:Around} {E:Value->Shared->Prop} {s:Shared}
end
section
variable {X:Cx}
end
abbrev Itm:Type:=Int ⊕ PySem.Str
def wp':Itm->Value->Prop
 | .inl i,v=>∃t,v=.int i t
 | .inr x,v=>∃t,v=.str x t
inductive ItsAre:List Value->List Itm->Prop
 |nil:ItsAre [] []
 |cons {v:Value} {a:Itm} {vs:List Value} {l:List Itm}:wp' a v->ItsAre vs l->ItsAre (v :: vs) (a :: l)
theorem ItsAre.len:∀{vs:List Value} {l:List Itm},ItsAre vs l->vs.length=l.length
 |_,_,.nil=>rfl
 |_,_,.cons _ r=>by simp[r.len]
section
variable {prog:Program} {w:World} {A:Around} {E:Value->Shared->Prop} {s:Shared}
end
section
variable {X:Cx}
end
end L2
namespace PySem
def Rsn (xs:Array Nat):Prop:=xs.toList.Pairwise (· < ·)
theorem i1' {xs:Array Nat} (hr:Rsn xs) {i j:Nat} (hij:i<j) (hj:j<xs.size):xs[i]'(by omega)<xs[j]:=by
 have:=List.pairwise_iff_getElem.mp hr i j (by rw[aB];omega) (by rw[aB];omega) hij
 simpa using this
theorem eH' {xs:Array Nat} (hr:Rsn xs) (j:Nat):∀(f lo hi:Nat),lo<=hi->hi<=xs.size->hi-lo<=f->(∀i (h:i<xs.size),i<lo->xs[i]<j)->(∀i (h:i<xs.size),hi<=i->j<=xs[i])->
  SetTable.below.go xs j f lo hi<=xs.size/\(∀i (h:i<xs.size),i<SetTable.below.go xs j f lo hi->xs[i]<j)/\(∀i (h:i<xs.size),SetTable.below.go xs j f lo hi<=i->j<=xs[i])
 |0,lo,hi,h1,h2,h3,a,b=>by
  have e:lo=hi:=by omega
  subst e
  exact⟨h2,a,b⟩
 |f+1,lo,hi,h1,h2,h3,a,b=>by
  unfold SetTable.below.go
  by_cases hl:lo<hi
  .rw[if_pos hl]
   dsimp only
   have hm:(lo+hi) / 2<xs.size:=by omega
   have eg:xs.getD ((lo+hi) / 2) j=xs[(lo+hi) / 2]:=by simp[Array.getD,hm]
   rw[eg]
   by_cases hx:xs[(lo+hi) / 2]<j
   .rw[if_pos hx]
    refine eH' hr j f _ _ (by omega) h2 (by omega) (fun i h hi'=>?_) b
    by_cases e:i=(lo+hi) / 2
    .subst e;exact hx
    .exact Nat.lt_trans (i1' hr (by omega) hm) hx
   .rw[if_neg hx]
    refine eH' hr j f _ _ (by omega) (by omega) (by omega) a fun i h hi'=>?_
    by_cases e:i=(lo+hi) / 2
    .subst e;omega
    .have:=i1' hr (i:=(lo+hi) / 2) (j:=i) (by omega) h
     omega
  .rw[if_neg hl]
   have e:lo=hi:=by omega
   subst e
   exact⟨h2,a,b⟩
theorem eI' {xs:Array Nat} (hr:Rsn xs) (j:Nat):SetTable.below xs j<=xs.size/\(∀i (h:i<xs.size),i<SetTable.below xs j->xs[i]<j)/\(∀i (h:i<xs.size),SetTable.below xs j<=i->j<=xs[i]):=
 eH' hr j _ _ _ (aC _) (ak _) (ak _) (fun _ _ z=>absurd z (cz _)) fun i h z=>absurd h (by omega)
theorem k7' {xs:Array Nat} (hr:Rsn xs) {j:Nat} (h:xs[SetTable.below xs j]?≠some j):j∉xs.toList:=by
 intro hm
 obtain⟨i,hi,e⟩:=cF.mp hm
 rw[aB]at hi
 rw[Array.getElem_toList]at e
 obtain⟨h1,h2,h3⟩:=eI' hr j
 have hle:SetTable.below xs j<=i:=Nat.le_of_not_lt fun z=>by have:=h2 i hi z;omega
 by_cases hq:SetTable.below xs j=i
 .rw[hq]at h
  exact h (by rw[aL hi,e])
 .have:=i1' hr (i:=SetTable.below xs j) (j:=i) (by omega) hi
  have:=h3 _ (by omega) (ak (SetTable.below xs j))
  omega
theorem hC' {xs:Array Nat} (hr:Rsn xs) {j:Nat} (h:xs[SetTable.below xs j]?≠some j):Rsn (SetTable.insertAt xs (SetTable.below xs j) j):=by
 obtain⟨h1,h2,h3⟩:=eI' hr j
 have hn:=k7' hr h
 unfold Rsn
 rw[SetTable.toList_insertAt]
 first
 |rw[bO,List.singleton_append]
 |skip
 rw[cc,List.pairwise_cons]
 have hT:∀a∈xs.toList.take (SetTable.below xs j),a<j:=by
  intro a ha
  obtain⟨i,hi,e⟩:=cF.mp ha
  rw[bq,aB]at hi
  rw[List.getElem_take,Array.getElem_toList]at e
  have:=h2 i (by omega) (by omega)
  omega
 have hD:∀b∈xs.toList.drop (SetTable.below xs j),j<b:=by
  intro b hb
  obtain⟨i,hi,e⟩:=cF.mp hb
  rw[ck,aB]at hi
  rw[cD,Array.getElem_toList]at e
  have:=h3 (SetTable.below xs j+i) (by omega) (by omega)
  have hne:b≠j:=fun z=>hn (z ▸ cG hb)
  omega
 refine⟨hr.sublist (List.take_sublist _ _),⟨hD,hr.sublist (List.drop_sublist _ _)⟩,fun a ha b hb=>?_⟩
 rcases ai.mp hb with rfl|hb
 .exact hT a ha
 .exact Nat.lt_trans (hT a ha) (hD b hb)
end PySem
namespace PySem
namespace Ts
open SetTable
def u (x:Nat):Nat->Nat
 |0=>x
 |n+1=>5*u x n+1
theorem n2' (x a:Nat):∀b,u x (a+b)=u (u x a) b
 |0=>rfl
 |b+1=>by show 5*u x (a+b)+1=5*u (u x a) b+1;rw[n2' x a b]
theorem n3' (x:Nat):∀n,u x n=5 ^ n*x+u 0 n
 |0=>by simp[u]
 |n+1=>by
  show 5*u x n+1=5 ^ (n+1)*x+(5*u 0 n+1)
  rw[n3' x n,cf]
  have:5 ^ n*5*x=5*(5 ^ n*x):=by rw[cv (5 ^ n) 5,bD]
  omega
theorem i2':∀n,4*u 0 n+1=5 ^ n
 |0=>rfl
 |n+1=>by
  have:=i2' n
  rw[cf]
  show 4*(5*u 0 n+1)+1=_
  omega
theorem uj' (k:Nat):∃c,u 0 (2 ^ k)=2 ^ k*(2*c+1):=by
 induction k with
 |zero=>exact⟨0,rfl⟩
 |succ k ih=>
  obtain⟨c,hc⟩:=ih
  have h1:u 0 (2 ^ (k+1))=5 ^ (2 ^ k)*u 0 (2 ^ k)+u 0 (2 ^ k):=by
   rw[cf,Nat.mul_two,n2',n3' (u 0 (2 ^ k))]
  have h2:=i2' (2 ^ k)
  rw[<- h2]at h1
  generalize hs:u 0 (2 ^ k)=S at h1 hc
  rw[h1,cf]
  generalize 2 ^ k=p at hc
  refine⟨(2*c+1)*S+c,?_⟩
  have e1:p*((2*c+1)*S)=S*S:=by rw[<- bD,<- hc]
  have e2:(4*S+1)*S=4*(S*S)+S:=by rw[Nat.add_mul,Nat.one_mul,bD]
  have e3:p*2*(2*((2*c+1)*S+c)+1)=4*(p*((2*c+1)*S))+2*(p*(2*c+1)):=by
   rw[show 2*((2*c+1)*S+c)+1=2*((2*c+1)*S)+(2*c+1) by omega,Nat.mul_add,cv p 2]
   generalize (2*c+1)*S=q
   rw[bD 2 p (2*q),Nat.mul_left_comm p 2 q,bD 2 p (2*c+1)]
   omega
  rw[e2,e3,e1,<- hc]
  omega
theorem qG' (z k:Nat):u z (2 ^ k) % 2 ^ (k+1)=(z+2 ^ k) % 2 ^ (k+1):=by
 obtain⟨c,hc⟩:=uj' k
 have h2:=i2' (2 ^ k)
 rw[n3',<- h2,hc,cf]
 generalize 2 ^ k=p
 have e:(4*(p*(2*c+1))+1)*z+p*(2*c+1)=z+p+p*2*(2*(2*c+1)*z+c):=by
  rw[Nat.add_mul,Nat.one_mul,Nat.mul_add (p*2)]
  have e1:4*(p*(2*c+1))*z=p*2*(2*(2*c+1)*z):=by
   rw[bD p 2,<- bD 2 (2*(2*c+1)) z,<- bD 2 2,Nat.mul_left_comm 4 p,bD p]
  have e2:p*(2*c)=p*2*c:=by rw[bD]
  have e3:p*(2*c+1)=p*(2*c)+p:=by rw[Nat.mul_add,Nat.mul_one]
  rw[e1,e3]
  omega
 rw[e,Nat.add_mul_mod_self_left]
theorem cyc:∀(k x y:Nat),∃n,n<2 ^ k/\u x n % 2 ^ k=y % 2 ^ k
 |0,x,y=>⟨0,by decide,by rw[Nat.pow_zero,Nat.mod_one,Nat.mod_one]⟩
 |k+1,x,y=>by
  obtain⟨n,hn,e⟩:=cyc k x y
  have hp:0<2 ^ k:=Nat.pow_pos (by decide)
  have h2:2 ^ (k+1)=2*2 ^ k:=by rw[cf,cv]
  by_cases h:u x n % 2 ^ (k+1)=y % 2 ^ (k+1)
  .exact⟨n,by omega,h⟩
  .refine⟨n+2 ^ k,by omega,?_⟩
   rw[n2',qG']
   generalize u x n=z at e h ⊢
   rw[h2]at h ⊢
   generalize 2 ^ k=p at e h hp ⊢
   have a1:z % (2*p)=z % p\/z % (2*p)=z % p+p:=by
    have:=Nat.mod_two_eq_zero_or_one (z / p)
    rw[cv 2 p,Nat.mod_mul]
    rcases this with q|q<;>rw[q]<;>simp
   have a2:y % (2*p)=y % p\/y % (2*p)=y % p+p:=by
    have:=Nat.mod_two_eq_zero_or_one (y / p)
    rw[cv 2 p,Nat.mod_mul]
    rcases this with q|q<;>rw[q]<;>simp
   rw[Nat.add_mod,cH (show p<2*p by omega)]
   have b1:=Nat.mod_lt z hp
   rcases a1 with q1|q1<;>rcases a2 with q2|q2
   .omega
   .rw[q1,q2,e,cH (by omega)]
   .rw[q1,q2,e,show y % p+p+p=y % p+2*p by omega,Nat.add_mod_right,cH (by omega)]
   .omega
end Ts
end PySem
namespace PySem
namespace Ts
open SetTable
def nxt (m:Nat) (p:Probe):Probe:=if p.more > 0 then { p with j:=p.j+1,more:=p.more-1 } else
 { p with j:=(leap m p.i p.perturb).1,more:=runEnd m (leap m p.i p.perturb).1-(leap m p.i p.perturb).1,i:=(leap m p.i p.perturb).1,perturb:=(leap m p.i p.perturb).2 }
def Pj (m:Nat) (h:Int):Nat->Probe
 |0=>{ j:=bits h % (m+1),more:=runEnd m (bits h % (m+1))-bits h % (m+1),i:=bits h % (m+1),perturb:=bits h,dummy:=none }
 |n+1=>nxt m (Pj m h n)
def Lp (m:Nat) (h:Int):Nat->Nat×Nat
 |0=>(bits h % (m+1),bits h)
 |l+1=>leap m (Lp m h l).1 (Lp m h l).2
def mo (m i:Nat):Nat:=runEnd m i-i
theorem uk' {m i:Nat}:mo m i<=9:=by unfold mo runEnd;split<;>omega
theorem qH' {m i k:Nat} (hi:i<=m) (hk:k<=mo m i):i+k<=m:=by
 unfold mo runEnd at hk
 split at hk<;>omega
def sg (m:Nat) (h:Int):Nat->Nat
 |0=>0
 |l+1=>sg m h l+mo m (Lp m h l).1+1
theorem qI' (m:Nat) (h:Int):∀l,sg m h l<=10*l
 |0=>ak _
 |l+1=>by
  have:=qI' m h l
  have:=@uk' m (Lp m h l).1
  show sg m h l+mo m (Lp m h l).1+1<=_
  omega
theorem fZ' {m:Nat} {h:Int} {l b:Nat} (e:Pj m h b={ j:=(Lp m h l).1,more:=mo m (Lp m h l).1,i:=(Lp m h l).1,perturb:=(Lp m h l).2,dummy:=none }):∀k,k<=mo m (Lp m h l).1->Pj m h (b+k)={ j:=(Lp m h l).1+k,more:=mo m (Lp m h l).1-k,i:=(Lp m h l).1,perturb:=(Lp m h l).2,dummy:=none }
 |0,_=>by rw[Nat.add_zero,e];rfl
 |k+1,hk=>by
  have ih:=fZ' e k (by omega)
  show nxt m (Pj m h (b+k))=_
  rw[ih]
  unfold nxt
  rw[if_pos (by show mo m _-k > 0;omega)]
  rfl
theorem i3' (m:Nat) (h:Int):∀l,Pj m h (sg m h l)={ j:=(Lp m h l).1,more:=mo m (Lp m h l).1,i:=(Lp m h l).1,perturb:=(Lp m h l).2,dummy:=none }
 |0=>rfl
 |l+1=>by
  have e:=fZ' (i3' m h l) _ (ak _)
  show nxt m (Pj m h (sg m h l+mo m (Lp m h l).1))=_
  rw[e]
  unfold nxt
  rw[if_neg (by show ¬(_-_ > 0);omega)]
  rfl
theorem fi' {m:Nat} {h:Int} {l k:Nat} (hk:k<=mo m (Lp m h l).1):Pj m h (sg m h l+k)={ j:=(Lp m h l).1+k,more:=mo m (Lp m h l).1-k,i:=(Lp m h l).1,perturb:=(Lp m h l).2,dummy:=none }:=fZ' (i3' m h l) k hk
theorem gz' {m:Nat} {h:Int}:∀{l n:Nat},n<sg m h l->∃l' k',l'<l/\k'<=mo m (Lp m h l').1/\n=sg m h l'+k'
 |0,n,hn=>absurd hn (cz _)
 |l+1,n,hn=>by
  have hn:n<sg m h l+mo m (Lp m h l).1+1:=hn
  by_cases q:n<sg m h l
  .obtain⟨l',k',h1,h2,h3⟩:=gz' q
   exact⟨l',k',by omega,h2,h3⟩
  .exact⟨l,n-sg m h l,by omega,by omega,by omega⟩
theorem k8' {m:Nat} {h:Int} (n:Nat):∃l k,k<=mo m (Lp m h l).1/\n=sg m h l+k:=by
 have hle:∀l,l<=sg m h l:=fun l=>by
  induction l with
  |zero=>exact ak _
  |succ l ih=>show l+1<=sg m h l+mo m (Lp m h l).1+1;omega
 obtain⟨l',k',_,h2,h3⟩:=gz' (m:=m) (h:=h) (l:=n+1) (n:=n) (ag (Nat.lt_succ_self n) (hle (n+1)))
 exact⟨l',k',h2,h3⟩
theorem n4' {m:Nat} {h:Int}:∀{l:Nat},(Lp m h l).1<=m
 |0=>bR (Nat.mod_lt _ (Nat.succ_pos _))
 |l+1=>bR (Nat.mod_lt _ (Nat.succ_pos _))
theorem ul' {m:Nat} {h:Int} {n:Nat}:(Pj m h n).j<=m:=by
 obtain⟨l,k,hk,rfl⟩:=k8' (m:=m) (h:=h) n
 rw[fi' hk]
 exact qH' n4' hk
theorem i4' {m:Nat} {h:Int}:∀{l:Nat},(Lp m h l).2=bits h / 32 ^ l
 |0=>by show bits h=_;simp
 |l+1=>by
  show(Lp m h l).2 / 32=_
  rw[i4',Nat.div_div_eq_div_mul,cf]
theorem n5' (h:Int):bits h<2 ^ 64:=by
 unfold bits
 have:=cq h (show(0:Int)<2 ^ 64 by decide)
 have:=Int.emod_nonneg h (show(2 ^ 64:Int)≠0 by decide)
 omega
theorem n6' {m:Nat} {h:Int} {l:Nat} (hl:13<=l):(Lp m h l).2=0:=by
 rw[i4']
 refine Nat.div_eq_of_lt (ag (n5' h) ?_)
 exact au (show 2 ^ 64<=32 ^ 13 by decide) (Nat.pow_le_pow_right (by decide) hl)
theorem vO' {m:Nat} {h:Int}:∀{n:Nat},(Lp m h (13+n)).1=u (Lp m h 13).1 n % (m+1)
 |0=>(cH (Nat.lt_succ_of_le n4')).symm
 |n+1=>by
  show((Lp m h (13+n)).1*5+1+(Lp m h (13+n)).2 / 32) % (m+1)=(5*u _ n+1) % (m+1)
  rw[n6' (by omega),vO' (n:=n),Nat.zero_div,Nat.add_zero,cv]
  rw[Nat.add_mod,Nat.mul_mod,Nat.mod_mod,<- Nat.mul_mod,<- Nat.add_mod]
theorem qJ' {m k:Nat} (hk:m+1=2 ^ k) (h:Int) {y:Nat} (hy:y<=m):∃l,l<m+14/\(Lp m h l).1=y:=by
 obtain⟨n,hn,e⟩:=cyc k (Lp m h 13).1 y
 refine⟨13+n,by omega,?_⟩
 rw[vO',hk,e,<- hk,cH (by omega)]
theorem qK' {m k:Nat} (hk:m+1=2 ^ k) (h:Int) {y:Nat} (hy:y<=m):∃n,n<10*(m+14)/\(Pj m h n).j=y:=by
 obtain⟨l,hl,e⟩:=qJ' hk h hy
 have:=qI' m h l
 exact⟨sg m h l,by omega,by rw[i3'];exact e⟩
theorem um' {P:Nat->Prop} {n:Nat} (h:P n):∃m,m<=n/\P m/\∀i,i<m->¬P i:=by
 induction n using Nat.strongRecOn with
 |ind n ih=>
  by_cases q:∃i,i<n/\P i
  .obtain⟨i,hi,pi⟩:=q
   obtain⟨m,h1,h2,h3⟩:=ih i hi pi
   exact⟨m,by omega,h2,h3⟩
  .exact⟨n,ak _,h,fun i hi pi=>q ⟨i,hi,pi⟩⟩
theorem i5':∀{l b:List Nat},l.Nodup->(∀i∈l,i∈b)->l.length<=b.length
 | [],_,_,_=>aC _
 |a :: l,b,h,hs=>by
  have ha:a∈b:=hs a (by simp)
  have:=i5' (l:=l) (b:=b.erase a) (cu.mp h).2 fun i hi=>by
   have hne:i≠a:=fun e=>(cu.mp h).1 (by rw[<- e];exact hi)
   exact(List.mem_erase_of_ne hne).mpr (hs i (by simp[hi]))
  rw[List.length_erase_of_mem ha]at this
  have:=List.length_pos_of_mem ha
  rw[cn]
  omega
theorem i6' {m:Nat} {l:List Nat} (h:l.length<=m):∃y,y<=m/\y∉l:=Classical.byContradiction fun z=>by
 have:=i5' (l:=aE (m+1)) (b:=l) List.nodup_range fun i hi=>Classical.byContradiction fun q=>z ⟨i,bR (bp.mp hi),q⟩
 rw[bQ]at this
 omega
structure TabOk (t:SetTable) (es:Array (Int×Value)):Prop where
 rise:Rsn t.place
 le:∀p∈t.place.toList,p<=t.mask
 size:t.place.size=es.size
 dum:t.dummies=#[]
 pow:∃k,t.mask+1=2 ^ k
 room:t.place.size<=t.mask
 met:∀q∈t.place.toList.zip es.toList,∃n,(Pj t.mask q.2.1 n).j=q.1/\∀n',n'<n->(Pj t.mask q.2.1 n').j∈t.place.toList
theorem TabOk.end {t:SetTable} {es:Array (Int×Value)} (T:TabOk t es) (h:Int):∃N,N<10*(t.mask+14)/\(Pj t.mask h N).j∉t.place.toList/\∀n,n<N->(Pj t.mask h n).j∈t.place.toList:=by
 obtain⟨y,hy,hn⟩:=i6' (m:=t.mask) (l:=t.place.toList) (by rw[aB];exact T.room)
 obtain⟨k,hk⟩:=T.pow
 obtain⟨n,h1,h2⟩:=qK' hk h hy
 obtain⟨N,g1,g2,g3⟩:=um' (P:=fun n=>(Pj t.mask h n).j∉t.place.toList) (n:=n) (by rw[h2];exact hn)
 exact⟨N,by omega,g2,fun i hi=>Classical.byContradiction (g3 i hi)⟩
end Ts
end PySem
namespace PySem
namespace Ts
open SetTable
theorem n7' (j:Nat):has #[] j=false:=by
 unfold has
 rfl
theorem TabOk.put {t:SetTable} {es:Array (Int×Value)} (T:TabOk t es) {h:Int} {x:Value} {N:Nat} (hN:(Pj t.mask h N).j∉t.place.toList) (hB:∀n,n<N->(Pj t.mask h n).j∈t.place.toList) (hroom:es.size+1<=t.mask):
  TabOk (t.put (Pj t.mask h N).j).1 (insertAt es (t.put (Pj t.mask h N).j).2 (h,x)):=by
 have hb:=eI' T.rise (Pj t.mask h N).j
 have hne:t.place[below t.place (Pj t.mask h N).j]?≠some (Pj t.mask h N).j:=fun z=>hN (by rw[Array.mem_toList_iff];exact Array.mem_of_getElem? z)
 have hp:(t.put (Pj t.mask h N).j).1={ t with place:=insertAt t.place (below t.place (Pj t.mask h N).j) (Pj t.mask h N).j }:=by
  unfold SetTable.put
  rw[T.dum,n7']
  have hd:=T.dum
  cases t
  cases hd
  rfl
 have hp2:(t.put (Pj t.mask h N).j).2=below t.place (Pj t.mask h N).j:=rfl
 rw[hp,hp2]
 generalize hj:(Pj t.mask h N).j=j at *
 generalize hq:below t.place j=p at *
 have hl:(List.take p t.place.toList).length=(List.take p es.toList).length:=by
  rw[bq,bq,aB,aB,T.size]
 have hmem:∀y,y∈(insertAt t.place p j).toList↔y=j\/y∈t.place.toList:=by
  intro y
  rw[toList_insertAt]
  conv=>rhs;rw[<- bA p t.place.toList]
  simp only[aH,ai]
  constructor
  .rintro(a|a|a)
   .exact .inr (.inl a)
   .exact .inl a
   .exact .inr (.inr a)
  .rintro(a|a|a)
   .exact .inr (.inl a)
   .exact .inl a
   .exact .inr (.inr a)
 have hsz:∀{α:Type} (xs:Array α) (y:α),(insertAt xs p y).size=xs.size+1:=fun xs y=>by
  rw[<- aB,toList_insertAt]
  simp only[aN,cn,bq,ck,aB]
  omega
 refine⟨?_,?_,?_,T.dum,T.pow,?_,?_⟩
 .have:=hC' T.rise (j:=j) (by rw[hq];exact hne)
  rw[hq]at this
  exact this
 .intro y hy
  rcases(hmem y).mp hy with rfl|hy
  .rw[<- hj];exact ul'
  .exact T.le y hy
 .show(insertAt t.place p j).size=_
  rw[hsz,hsz,T.size]
 .show(insertAt t.place p j).size<=t.mask
  rw[hsz,T.size]
  exact hroom
 .show ∀q∈(insertAt t.place p j).toList.zip (insertAt es p (h,x)).toList,∃n,(Pj t.mask q.2.1 n).j=q.1/\∀n',n'<n->_∈(insertAt t.place p j).toList
  rw[toList_insertAt t.place,toList_insertAt es,List.zip_append hl,List.zip_cons_cons,<- toList_insertAt t.place]
  have old:∀q∈t.place.toList.zip es.toList,∃n,(Pj t.mask q.2.1 n).j=q.1/\∀n',n'<n->(Pj t.mask q.2.1 n').j∈(insertAt t.place p j).toList:=fun q hq=>by
   obtain⟨n,h1,h2⟩:=T.met q hq
   exact⟨n,h1,fun n' hn'=>(hmem _).mpr (.inr (h2 n' hn'))⟩
  rw[<- bA p t.place.toList,<- bA p es.toList,List.zip_append hl]at old
  intro q hq
  rcases aH.mp hq with hq|hq
  .exact old q (bE _ hq)
  .rcases ai.mp hq with rfl|hq
   .exact⟨N,hj,fun n' hn'=>(hmem _).mpr (.inr (hB n' hn'))⟩
   .exact old q (ax _ hq)
structure OwnOk (m:Nat) (hs:List Int) (k:Nat) (ow:Array (Option Nat)):Prop where
 size:ow.size=m+1
 met:∀j i:Nat,ow[j]?=some (some i)->i<k/\∃h n,hs[i]?=some h/\(Pj m h n).j=j/\∀n',n'<n->∃z,ow[(Pj m h n').j]?=some (some z)
 all:∀i,i<k->∃j:Nat,ow[j]?=some (some i)
 uniq:∀i j j':Nat,ow[j]?=some (some i)->ow[j']?=some (some i)->j=j'
theorem OwnOk.free {m:Nat} {hs:List Int} {k:Nat} {ow:Array (Option Nat)} (O:OwnOk m hs k ow) (hk:k<=m):∃y,y<=m/\ow[y]?=some none:=Classical.byContradiction fun z=>by
 have tx':∀y,y<=m->∃i,ow[y]?=some (some i):=fun y hy=>by
  have e:ow[y]?=some (ow[y]'(by have:=O.size;omega)):=aL _
  cases hv:ow[y]'(by have:=O.size;omega)with
  |none=>rw[hv]at e;exact absurd ⟨y,hy,e⟩ z
  |some i=>rw[hv]at e;exact⟨i,e⟩
 have:=i5' (l:=(aE (m+1)).map fun y=>(ow.getD y none).getD 0) (b:=aE k) ?_ ?_
 .rw[ah,bQ,bQ]at this
  omega
 .rw[List.Nodup,List.pairwise_map]
  refine List.Pairwise.imp_of_mem (fun {a b} ha hb hab=>?_) List.pairwise_lt_range
  obtain⟨i,hi⟩:=tx' a (bR (bp.mp ha))
  obtain⟨i',hi'⟩:=tx' b (bR (bp.mp hb))
  rw[Array.getD_eq_getD_getElem?,Array.getD_eq_getD_getElem?,hi,hi']
  intro q
  have q:i=i':=q
  subst q
  exact absurd (O.uniq i a b hi hi') (by omega)
 .intro i hi
  obtain⟨y,hy,rfl⟩:=aP.mp hi
  obtain⟨i,hi⟩:=tx' y (bR (bp.mp hy))
  rw[Array.getD_eq_getD_getElem?,hi]
  exact bp.mpr (O.met y i hi).1
theorem i7' {m:Nat} {ow:Array (Option Nat)} (hs:ow.size=m+1) (h:Int) {L:Nat} (hL:ow[(Lp m h L).1]?=some none):∀(f l:Nat),l<=L->L-l<f->(∀n,n<sg m h l->∃z,ow[(Pj m h n).j]?=some (some z))->
  ∃n,layClean.free m ow f (Lp m h l).1 (Lp m h l).2=some (Pj m h n).j/\ow[(Pj m h n).j]?=some none/\∀n',n'<n->∃z,ow[(Pj m h n').j]?=some (some z)
 |0,l,_,hf,_=>absurd hf (cz _)
 |f+1,l,hl,hf,hB=>by
  unfold layClean.free
  have e1:runEnd m (Lp m h l).1+1-(Lp m h l).1=mo m (Lp m h l).1+1:=by
   unfold mo runEnd
   split<;>omega
  rw[e1]
  have val:∀k,k<=mo m (Lp m h l).1->∃o,ow[(Lp m h l).1+k]?=some o/\ow.getD ((Lp m h l).1+k) (some 0)=o:=fun k hk=>by
   have hlt:(Lp m h l).1+k<ow.size:=by rw[hs];exact Nat.lt_succ_of_le (qH' n4' hk)
   exact⟨_,aL hlt,by simp[Array.getD,hlt]⟩
  cases hq:(aE (mo m (Lp m h l).1+1)).find? fun k=>(ow.getD ((Lp m h l).1+k) (some 0)).isNone with
  |some k=>
   obtain⟨h1,h2,h3⟩:=List.find?_range_eq_some.mp hq
   have hk:k<=mo m (Lp m h l).1:=bR (bp.mp h2)
   refine⟨sg m h l+k,?_,?_,fun n' hn'=>?_⟩
   .dsimp only
    rw[fi' hk]
   .obtain⟨o,q1,q2⟩:=val k hk
    rw[q2]at h1
    rw[fi' hk,q1]
    cases o with
    |none=>rfl
    |some _=>cases h1
   .by_cases q:n'<sg m h l
    .exact hB n' q
    .obtain⟨d,rfl⟩:∃d,n'=sg m h l+d:=⟨n'-sg m h l,by omega⟩
     have hd:d<k:=by omega
     obtain⟨o,q1,q2⟩:=val d (by omega)
     have:=h3 d hd
     rw[q2]at this
     rw[fi' (by omega),q1]
     cases o with
     |none=>cases this
     |some z=>exact⟨z,rfl⟩
  |none=>
   have h3:=List.find?_range_eq_none.mp hq
   have hw:∀d,d<=mo m (Lp m h l).1->∃z,ow[(Lp m h l).1+d]?=some (some z):=fun d hd=>by
    obtain⟨o,q1,q2⟩:=val d hd
    have:=h3 d (by omega)
    rw[q2]at this
    cases o with
    |none=>cases this
    |some z=>exact⟨z,q1⟩
   have hne:l≠L:=fun e=>by
    obtain⟨z,hz⟩:=hw 0 (aC _)
    rw[Nat.add_zero,e,hL]at hz
    cases hz
   refine i7' hs h hL f (l+1) (by omega) (by omega) fun n hn=>?_
   by_cases q:n<sg m h l
   .exact hB n q
   .have hn:n<sg m h l+mo m (Lp m h l).1+1:=hn
    obtain⟨d,rfl⟩:∃d,n=sg m h l+d:=⟨n-sg m h l,by omega⟩
    rw[fi' (by omega)]
    exact hw d (by omega)
theorem OwnOk.step {m k:Nat} {hs:List Int} {ow:Array (Option Nat)} (O:OwnOk m hs k ow) (hk:k<=m) (hp:∃b,m+1=2 ^ b) {h:Int} (hh:hs[k]?=some h):∃j,layClean.free m ow (turns m) (bits h % (m+1)) (bits h)=some j/\OwnOk m hs (k+1) (ow.setIfInBounds j (some k)):=by
 obtain⟨y,hy,hye⟩:=O.free hk
 obtain⟨b,hb⟩:=hp
 obtain⟨L,hL,e⟩:=qJ' hb h hy
 obtain⟨n,h1,h2,h3⟩:=i7' O.size h (L:=L) (by rw[e];exact hye) (turns m) 0 (aC _) (by unfold turns;omega) fun n hn=>absurd hn (cz _)
 refine⟨_,h1,?_⟩
 generalize hj:(Pj m h n).j=j at h2 ⊢
 have hlt:j<ow.size:=(Array.getElem?_eq_some_iff.mp h2).1
 have g:∀y,(ow.setIfInBounds j (some k))[y]?=if j=y then some (some k)else ow[y]?:=fun y=>by
  rw[Array.getElem?_setIfInBounds]
  by_cases q:j=y
  .rw[if_pos q,if_pos q,if_pos hlt]
  .rw[if_neg q,if_neg q]
 have mono:∀y z:Nat,ow[y]?=some (some z)->∃z,(ow.setIfInBounds j (some k))[y]?=some (some z):=fun y z e=>by
  rw[g]
  by_cases q:j=y
  .exact⟨k,by rw[if_pos q]⟩
  .exact⟨z,by rw[if_neg q];exact e⟩
 refine⟨by rw[Array.size_setIfInBounds];exact O.size,fun y i e=>?_,fun i hi=>?_,fun i y y' e e'=>?_⟩
 .rw[g]at e
  by_cases q:j=y
  .rw[if_pos q]at e
   injection e with e
   injection e with e
   subst e
   exact⟨Nat.lt_succ_self _,h,n,hh,by rw[hj,q],fun n' hn'=>by obtain⟨z,hz⟩:=h3 n' hn';exact mono _ z hz⟩
  .rw[if_neg q]at e
   obtain⟨a1,h',n',a2,a3,a4⟩:=O.met y i e
   exact⟨cB a1,h',n',a2,a3,fun n'' hn=>by obtain⟨z,hz⟩:=a4 n'' hn;exact mono _ z hz⟩
 .rcases cw i k with z|z
  .obtain⟨y,hy⟩:=O.all i z
   refine⟨y,?_⟩
   rw[g,if_neg (fun q=>by rw[<- q,h2]at hy;cases hy)]
   exact hy
  .exact⟨j,by rw[g,if_pos rfl,show i=k by omega]⟩
 .rw[g]at e e'
  by_cases q:j=y<;>by_cases q':j=y'
  .omega
  .rw[if_pos q]at e
   rw[if_neg q']at e'
   injection e with e
   injection e with e
   subst e
   exact absurd (O.met y' _ e').1 (aU _)
  .rw[if_neg q]at e
   rw[if_pos q']at e'
   injection e' with e'
   injection e' with e'
   subst e'
   exact absurd (O.met y _ e).1 (aU _)
  .rw[if_neg q]at e
   rw[if_neg q']at e'
   exact O.uniq i y y' e e'
end Ts
end PySem
namespace PySem
section
variable {prog:Program} {w:World} {K:Type} [DecidableEq K] (knd:KeyKind prog w K)
variable {knd}
variable {A:Around} {E:Value->Shared->Prop} {s:Shared}
end
end PySem
namespace PySem
namespace Ts
open SetTable
section
variable {prog:Program} {w:World}
def elm (prog:Program) (w:World) (q:List Int×Addr):Int×Value:=(tupleKeyHash (intKind prog w) q.1,.ref q.2)
def Tup (prog:Program) (w:World) (h:Heap) (q:List Int×Addr):Prop:=IsTupleKey (intKind prog w) h q.1 q.2
structure MaskOk (t:SetTable):Prop where
 mask:t.mask∈[7,31,127,511,2047,8191]
 few:t.place.size*5<t.mask*3
theorem MaskOk.le {t:SetTable} (m:MaskOk t):7<=t.mask/\t.mask<=8191/\t.mask % 2=1:=by
 have:=m.mask
 simp only[ai,al,or_false]at this
 omega
variable {A:Around} {E:Value->Shared->Prop} {s:Shared}
structure Elms (prog:Program) (w:World) (h:Heap) (es:Array (Int×Value)) (t:SetTable) (L:List (List Int×Addr)):Prop where
 its:es.toList=L.map (elm prog w)
 tup:∀q∈L,Tup prog w h q
 nd:(L.map (·.1)).Nodup
 tab:TabOk t es
 mask:MaskOk t
end
end Ts
end PySem
namespace PySem
namespace Ts
open SetTable
section
variable {prog:Program} {w:World} {A:Around} {E:Value->Shared->Prop} {s:Shared}
theorem Tup.kept {h h':Heap} {a:Addr} {o:Obj} {es:Array (Int×Value)} {ep:Nat} {t:SetTable} {q:List Int×Addr} (hq:Tup prog w h q) (ho:h.get? a=some o) (hd:o.data=.set es ep t) (hs:bW a h h'):Tup prog w h' q:=by
 obtain⟨o',items,n,ho',hc,hd',hi⟩:=hq
 have hne:q.2≠a:=by
  intro e
  rw[e,ho]at ho'
  cases ho'
  rw[hd]at hd';exact nomatch hd'
 exact⟨o',items,n,(hs.2 q.2 hne).trans ho',hc,hd',hi⟩
theorem TabOk.plain {t:SetTable} {es:Array (Int×Value)} (T:TabOk t es) (b:Bool):TabOk { t with plain:=b } es:=⟨T.rise,T.le,T.size,T.dum,T.pow,T.room,T.met⟩
end
end Ts
end PySem
namespace PySem
namespace Ts
open SetTable
section
variable {prog:Program} {w:World} {A:Around} {E:Value->Shared->Prop} {s:Shared}
end
end Ts
end PySem
namespace L2
open PySem PySem.Spec PyProof.Rows
def un' (h:Heap) (a:Addr):Heap:=h.update a fun o=>{ o with data:=.freed }
def w4' (h:Heap) (S:List Addr):Heap:=S.foldl un' h
def vP' (h:Heap) (e:Addr) (cls:Value) (T:Addr):Prop:=∃oe vs oT ts a0,h.get? e=some oe/\(oe.cls=cls/\vs[0]?=some a0)/\oe.data=.fields vs/\vs[1]?=some (.ref T)/\T≠e/\h.get? T=some oT/\oT.data=.fields ts/\ts[3]?=some .none
structure LeftX (F S:List Addr) (e:Addr) (cls:Value) (h h':Heap):Prop where
 keep:∀b o,b∉F->b∉S->h.get? b=some o->h'.get? b=some o
 slot:∀b o,b∈F->h.get? b=some o->∃sl,h'.get? b=some { o with slots:=sl }
 there:∀b o,b∉S->h.get? b=some o->∃o',h'.get? b=some o'
 exc:∃T,(h.get? T=none\/T∈S)/\vP' h' e cls T
section
variable {M:Model} {A:Around} {E:Value->Shared->Prop} {s:Shared}
end
structure FnCx (X:Cx):Prop where
 ex:X.ex=[]
 fn:∀x,X.fn x=true
 stk:X.stack=X.env :: X.outer
 fr:X.env.frame=some X.env.locals
theorem FnCx.frs {X:Cx} (F:FnCx X):L2.frs X.stack=X.env.locals :: X.fs:=by
 rw[F.stk]
 show List.filterMap _ _=_
 rw[bH,F.fr]
 rfl
section
variable {X:Cx} {pins:List (Addr×Obj)} {σ:St} {H:Hp} {s:Shared}
theorem Inv.left {S:List Addr} {e:Addr} {cls:Value} {h2:Heap} (I:Inv X pins σ H s) (F:FnCx X) (L:LeftX (frs X.stack) S e cls s.heap h2)
  (hS:∀b∈S,H b=none/\X.s₀.heap.get? b=none/\(∀p∈X.pn++pins,p.1≠b)/\∃o vs,s.heap.get? b=some o/\o.data=.fields vs):Inv X pins σ H { s with heap:=h2 }:=by
 have hF:=F.frs
 have nfs:∀{b:Addr},b≠X.env.locals->b∉X.fs->b∉frs X.stack:=fun {b} h1 h2 hb=>by
  rw[hF]at hb
  rcases ai.mp hb with z|z
  .exact h1 z
  .exact h2 z
 have cell_ok:∀x c oc v,X.env.cells.lookup x=some c->s.heap.get? c=some oc->oc.data=.cell v->h2.get? c=some oc:=fun x c oc v hx ho hd=>by
  refine L.keep c oc (nfs (I.cne x c hx) fun hb=>?_) (fun hb=>?_) ho
  .obtain⟨_,o,eo,_⟩:=I.ok.funs.mem hb
   exact aU _ (ag (ao eo) (I.ok.cab x c (F.fn x) hx))
  .obtain⟨_,_,_,o,vs,eo,ed⟩:=hS c hb
   rw[ho]at eo;cases eo
   rw[hd]at ed;cases ed
 refine⟨I.ok,I.os,I.bare,⟨fun b o e0 n hb hx=>?_,fun b o e0 n hb hx=>?_,I.base.free,fun b o e0 hx=>?_,I.base.tups,I.base.frzs,I.base.tbls⟩,?_,fun x c hx=>?_,I.free,I.freeC,fun p hp=>?_,fun b u e=>?_,I.len⟩
 .have e1:=I.base.keep b o e0 n hb hx
  refine L.keep b o (nfs (aw (ag (ao e0) I.ok.above)) hb) (fun z=>?_) e1
  rw[(hS b z).2.1]at e0;cases e0
 .obtain⟨sl,e1⟩:=I.base.slot b o e0 n hb hx
  obtain⟨sl2,e2⟩:=L.slot b _ (by rw[hF];exact az _ hb) e1
  exact⟨sl2,e2⟩
 .obtain⟨o',e1⟩:=I.base.there b o e0 hx
  exact L.there b o' (fun z=>by rw[(hS b z).2.1]at e0;cases e0) e1
 .obtain⟨m,⟨o,es,ep,ho,hd,r⟩,hl⟩:=I.loc
  obtain⟨sl,e2⟩:=L.slot X.env.locals o (by rw[hF];exact aJ) ho
  refine⟨m,⟨_,es,ep,e2,hd,r⟩,fun i x v h1 h2 h3=>?_⟩
  obtain⟨u,ru,q⟩:=hl i x v h1 h2 h3
  refine⟨u,ru,?_⟩
  rcases q with q|⟨k,c,hc,oc,ho,hd⟩
  .exact .inl q
  .exact .inr ⟨k,c,hc,oc,cell_ok x c oc _ hc ho hd,hd⟩
 .obtain⟨v,oc,ho,hd⟩:=I.cell x c hx
  exact⟨v,oc,cell_ok x c oc v hx ho hd,hd⟩
 .obtain⟨e,n,ne,nf,d⟩:=I.pin p hp
  exact⟨L.keep p.1 p.2 (nfs ne nf) (fun z=>(hS p.1 z).2.2.1 p hp rfl) e,n,ne,nf,d⟩
 .refine(I.hok b u e).stay (fun c v hc q=>?_) (fun _ q=>q) fun _ _ q=>q
  have tr:∃u',H c=some u':=by
   rcases hc with z|z
   .exact⟨u,by rw[z];exact e⟩
   .exact⟨_,z⟩
  obtain⟨u',hu⟩:=tr
  refine L.keep c v (fun hb=>?_) (fun hb=>?_) q
  .rw[I.stkFree c hb]at hu;cases hu
  .rw[(hS c hb).1]at hu;cases hu
def CX1 (P:Program) (w:World) (mg:Str->Option Value):CXT:=fun outer H s E e s'=>∃(ea T Ca:Addr) (nm:Str) (H':Hp),e=.ref ea/\mg nm=some (.ref Ca)/\s'.os=s.os/\AllBare s'.gens/\Un (frs outer) [] H H' s.heap s'.heap/\HOk P w H' s'.heap/\
 vP' s'.heap ea (.ref Ca) T/\H' ea=none/\H' T=none/\s.heap.get? ea=none/\s.heap.get? T=none/\E (.str nm 0) none H'
end
def bmV:List Value:=[.type "ValueError",.type "Exception",.type "BaseException",.type "object"]
section
variable {X:Cx}
end
section
variable {X:Cx} {pins:List (Addr×Obj)} {σ:St} {H:Hp} {s:Shared} {D:Ends} {hs:List ExceptHandler}
def Cx.inX (X:Cx) (e:Addr):Cx:={ X with A:=X.A.mark (some (.ref e)),calm:=false,xe:=fun _ _=>False }
def qL' (e Ca:Addr) (h:Heap):Prop:=∃o vs,h.get? e=some o/\o.cls=.ref Ca/\o.data=.fields vs
def w5' (e Ca:Addr):HO:=.ext (qL' e Ca)
end
end L2
namespace L2
open PySem PySem.Spec PyProof.Rows PySem.W
structure XCls (K:Frag) (C:Addr):Prop where
 ga:findIn K (.ref C) "__getattribute__"=some (some (.builtin "BaseException.__getattribute__"))
 gt:findIn K (.ref C) "__getattr__"=some none
 cl:findIn K (.ref C) "__class__"=some (some (.builtin "object.__class__"))
 be:subIn K (.ref C) (.type "BaseException")=some true
 ob:subIn K (.ref C) (.type "object")=some true
 is:(clsIn K C).isSome=true
section
variable {prog:Program} {w:World} {A:Around} {E:Value->Shared->Prop} {K:Frag} {h:Heap} {g:Array GenState} {d:Drawn} {t:Nat} {os:OsState} {a C:Addr} {o:Obj}
end
end L2
namespace L2
open PySem PySem.Spec PyProof.Rows PySem.W
section
variable {X:Cx}
end
def vQ':Option Int->Value->Bool
 |some k,v=>Value.isInt k v
 |none,.none=>true
 |none,_=>false
theorem aM':∀{k:Option Int} {v:Value},vQ' k v=true->(∃i t,k=some i/\v=Value.int i t)\/(k=none/\v=Value.none)
 |some i,v,h=>by
  obtain⟨t,e⟩:=Value.isInt_shape (k:=i) (v:=v) h
  exact .inl ⟨i,t,rfl,e⟩
 |none,v,h=>by cases v<;>first|exact .inr ⟨rfl,rfl⟩|cases h
def okH:Option Int->Int
 |some k=>hashInt k
 |none=>0xFCA86420
def uo' (prog:Program) (w:World):PySem.KeyKind prog w (Option Int) where
 is:=vQ'
 hash:=okH
 inj:=fun v a b ha hb=>by
  rcases aM' ha with⟨i,t,rfl,rfl⟩|⟨rfl,rfl⟩
  .rcases aM' hb with⟨j,u,rfl,e⟩|⟨rfl,e⟩
   .injection e with e1 _;rw[e1]
   .exact nomatch e
  .rcases aM' hb with⟨j,u,rfl,e⟩|⟨rfl,e⟩
   .exact nomatch e
   .rfl
 byValue:=fun k v h=>by
  rcases aM' h with⟨i,t,rfl,rfl⟩|⟨rfl,rfl⟩<;>rfl
 pyHash:=fun hv h=>by
  rcases aM' hv with⟨i,t,rfl,rfl⟩|⟨rfl,rfl⟩
  .exact wpAny_pyHash_int h
  .exact eY' h
 eqBool:=fun {A E s a b u v Q} hu hv h=>by
  rcases aM' hu with⟨i,t,rfl,rfl⟩|⟨rfl,rfl⟩
  .rcases aM' hv with⟨j,u,rfl,rfl⟩|⟨rfl,rfl⟩
   .have e:decide ((some i:Option Int)=some j)=(i == j):=by
     by_cases q:i=j
     .subst q;simp
     .rw[decide_eq_false (fun z=>q (Option.some.inj z)),(beq_eq_false_iff_ne.mpr q)]
    rw[e]at h
    exact wpAny_eqBool_int h
   .exact SeqAt.EqAt.int_none i t _ _ _ _ h
  .rcases aM' hv with⟨j,u,rfl,rfl⟩|⟨rfl,rfl⟩
   .exact SeqAt.EqAt.none_int j u _ _ _ _ h
   .exact SeqAt.EqAt.same .none _ _ _ _ h
 «strs»:=fun k x t v h=>by
  rcases aM' h with⟨i,u,rfl,e⟩|⟨rfl,e⟩<;>exact nomatch e
end L2
namespace PySem
open PyProof.Rows
section
variable {prog:Program} {w:World} {K:Type} [DecidableEq K] {knd:KeyKind prog w K}
variable {A:Around} {R:Result->Shared->Prop} {I:Addr} {fp wr:List Addr} {G:Array GenState->Array GenState->Prop} {n:Nat} {P:Nat->Value->Prop} {St:Nat->Shared->Prop}
end
section
variable {prog:Program} {w:World} {K:Type} [DecidableEq K] {knd:KeyKind prog w K} {A:Around} {E:Value->Shared->Prop} {s:Shared}
end
end PySem
namespace PySem
open PyProof.Rows
def Heap.IsSti (h:Heap) (a d:Addr) (f:Value) (i n ep:Nat):Prop:=∃o,h.get? a=some o/\o.cls=.type "set_iterator"/\o.data=.fields #[f,rawInt i,.ref d,rawInt n,rawInt ep]
theorem Heap.IsSti.at {h h':Heap} {a d:Addr} {f:Value} {i n ep:Nat} (x:h.IsSti a d f i n ep) (e:∀o,h.get? a=some o->h'.get? a=some o):h'.IsSti a d f i n ep:=let⟨o,ho,r⟩:=x;⟨o,e _ ho,r⟩
def Ord (bt:Bool) (w:World) (d ep:Nat) (es:Array (Int×Value)) (t:SetTable) (xs:Array Value) (h:Heap) (f:Value) (i:Nat):Prop:=
 (bt=true/\f=rawInt 0/\xs=(pickOrder (w.params.setOrder d ep) es).map (·.2))\/
 (bt=false/\(!t.plain&&decide (es.size > 1))=false/\Rsn t.place/\f=rawInt (if i=0 then 0 else((t.place.getD (i-1) 0+1:Nat):Int))/\xs=es.map (·.2))\/
 (bt=false/\∃(T:Addr) (pl:Array Nat),f=.ref T/\IsTup h T (pl.map fun(j:Nat)=>rawInt j)/\xs.size=pl.size/\∀(j p:Nat),pl[j]?=some p->∃x:Int×Value,es[p]?=some x/\xs[j]?=some x.2)
section
variable {prog:Program} {w:World} {A:Around} {E:Value->Shared->Prop} {s:Shared}
theorem Heap.IsSti.typeIs {a d:Addr} {f:Value} {i n ep:Nat} (x:s.heap.IsSti a d f i n ep):s.TypeIs (.ref a) "set_iterator":=let⟨o,ho,hc,_⟩:=x;⟨o,ho,hc⟩
theorem gA' {α:Type}:∀(l:List α) (i:Nat) (h:i<l.length),(l[i] :: l.eraseIdx i).Perm l
 |a :: l,0,h=>List.Perm.refl _
 |a :: l,i+1,h=>by
  rw[List.eraseIdx_cons_succ,List.getElem_cons_succ]
  exact(List.Perm.swap a _ _).trans ((gA' l i (by simpa using h)).cons a)
theorem i8' {α:Type} (f:Nat->Nat):∀(n k:Nat) (l:List α) (out:Array α),n=l.length->(pickOrder.go f n k l out).toList.Perm (out.toList++l)
 |0,k,l,out,e=>by
  have:l=[]:=List.length_eq_zero_iff.mp e.symm
  subst this
  unfold pickOrder.go
  simp
 |n+1,k,l,out,e=>by
  unfold pickOrder.go
  have hl:f k % l.length<l.length:=Nat.mod_lt _ (by omega)
  rw[ac hl]
  dsimp only
  refine(i8' f n (k+1) _ _ (by rw[List.length_eraseIdx_of_lt hl];omega)).trans ?_
  rw[cE,bO]
  refine List.Perm.append_left _ ?_
  rw[List.singleton_append]
  exact gA' l _ hl
theorem qM' {α:Type} (f:Nat->Nat) (xs:Array α):(pickOrder f xs).toList.Perm xs.toList:=by
 have:=i8' f xs.size 0 xs.toList #[] (by simp)
 simpa[pickOrder]using this
end
end PySem
namespace PySem
open PyProof.Rows
section
variable {prog:Program} {w:World} {A:Around} {E:Value->Shared->Prop} {s:Shared}
end
end PySem
namespace PySem
open PyProof.Rows
section
variable {prog:Program} {w:World}
variable {A:Around} {E:Value->Shared->Prop} {s:Shared}
end
end PySem
namespace L2
open PySem PySem.Spec PyProof.Rows
structure CompInG {α:Type} (Is:α->Obj->Prop) (X:Cx) (e:Expr) (scope:Scope) (tg:Expr) (iter:Expr) (ifs:List Expr) (nx:Addr->Env->Sem Unit) (g:TG) (tc:TT) (a9':TL α) (own:List Nat):Prop where
 sc:CompSc X scope
 ow:∀i x,X.N[i]?=some x->(scope.names.lookup x=some .local\/scope.names.lookup x=some .cell)->i∈own
 cl:∃gs,clausesOf e=⟨tg,iter,ifs,0⟩ :: gs
 fs:∀x,foldedSetIterable iter X.env x=pure x
 calm:X.calm=true
 q:∀it D env,(Code.compLoop e 0 it (.ref D) env).quiet=true/\(Code.compStart e 0 it (.ref D) env).quiet=true
 u:∀A it D env,Around.under A (Code.compLoop e 0 it (.ref D) env)=A/\Around.under A (Code.compStart e 0 it (.ref D) env)=A
 T:∀P w it D env,(model P w).den (.compLoop e 0 it (.ref D) env)=(dz' e 0 tg iter ifs (nx D env) it (.ref D) env).onRaise (fun x=>do noteFrame x env;theTreesLotGoes x)
 S:∀P w it D env,(model P w).den (.compStart e 0 it (.ref D) env)=(compStart e 0 it (.ref D) env).onRaise (fun x=>do noteFrame x env;standAt theWindowsPlace)
 ge:qk' own g
 inn:∀s0 H0 ex D,PG (X.comp scope s0 H0 ex) tg g/\PTs (X.comp scope s0 H0 ex) ifs tc/\∃ws',(∀j∈ws',j∈own)/\eA' (X.comp scope s0 H0 ex) D Is ws' (nx D (X.comp scope s0 H0 ex).env) a9'
section
variable {X:Cx} {e:Expr} {scope:Scope} {tg iter:Expr} {ifs:List Expr} {nx:Addr->Env->Sem Unit} {g:TG} {tc:TT} {α:Type} {Is:α->Obj->Prop} {a9':TL α} {own:List Nat} {wi:TI} {a0:α} {o0:Bool->Obj} {newAcc:Sem Value} {ho:Addr->α->HO} {ok:α->Hp->Prop}
end
section
variable {X:Cx} {e:Expr} {scope:Scope} {tg iter:Expr} {ifs:List Expr} {nx:Addr->Env->Sem Unit} {g:TG} {tc:TT} {α:Type} {Is:α->Obj->Prop} {a9':TL α} {own:List Nat} {wi:TI} {a0:α} {o0:Bool->Obj} {newAcc:Sem Value} {ho:Addr->α->HO} {ok:α->Hp->Prop}
end
def kO:Option Int->V
 |some i=>.int i
 |none=>.non
def IsS (a:(Option Int->Bool)×Nat) (o:Obj):Prop:=a.2<=4000/\(∃es ep t,o.data=.set es ep t)/\∃m,m<=a.2/\∀(P:Program) (w:World),o.SetObjOf (uo' P w) a.1 m
def wq' (D:Addr) (S:Option Int->Bool) (n:Nat):HO:=.ext fun h=>∃o,h.get? D=some o/\IsS (S,n) o
section
variable {X:Cx}
def wr' (neg:Bool):R2:=fun x y H Q=>∃k D S n,x=kO k/\y=.ref D/\H D=some (wq' D S n)/\Q (.bl (if neg then !(S k)else S k)) H
def qN' (te:TE):TL ((Option Int->Bool)×Nat):=fun σ a H N=>te σ H fun v H'=>∃k,v=kO k/\a.2<4000/\N (fun j=>a.1 j || decide (j=k),a.2+1) H'
end
abbrev NH:Int:=0xFCA86420
section
variable {prog:Program} {w:World} {A:Around} {E:Value->Shared->Prop} {s:Shared}
end
theorem fj' {P:Program} {w:World} {k:Key}:∀{es:List DictEntry} {vs:List (Key×Value)} {en:DictEntry},Pairs (aD' P w) es vs->en∈es->(aD' P w).is k en.key=true->k∈vs.map (·.1)
 |_,_,_,.nil,h,_=>by cases h
 |_,_,en,.cons (e:=e) (kv:=kv) h1 h2 r,h,hk=>by
  rcases ai.mp h with rfl|h
  .rw[(aD' P w).inj _ _ _ hk h1]
   exact aJ
  .exact az _ (fj' r h hk)
theorem dr' {α β:Type} {F:α->β->Prop}:∀{xs:List α} {ys:List β} {y:β},Paired F xs ys->y∈ys->∃x∈xs,F x y
 |_,_,_,.nil,h=>by cases h
 |_,_,y,.cons h1 r,h=>by
  rcases ai.mp h with rfl|h
  .exact⟨_,aJ,h1⟩
  .obtain⟨x,hx,hf⟩:=dr' r h
   exact⟨x,az _ hx,hf⟩
def NoN (H:Hp) (a:Addr):Prop:=(∃kvs,H a=some (.dK kvs)/\∀kv∈kvs,∃i:Int,kv.1=.inl i/\hashInt i≠NH)\/
 ∃kvs,H a=some (.dT kvs)/\∀kv∈kvs,∃is:List Int,kv.1=is.map Key.inl/\reduceHash (Builtin.Tuple.tupleHashOf (is.map hashInt))≠NH
theorem NoN.at {X:Cx} {pins:List (Addr×Obj)} {σ:St} {H:Hp} {s:Shared} {a:Addr} (I:Inv X pins σ H s) (h:NoN H a):(a == sysModules)=false/\s.TypeIs (.ref a) "dict"/\∃o es ep,s.heap.get? a=some o/\o.data=.dict es ep/\∀e∈es.toList,e.hash≠NH:=by
 rcases h with⟨kvs,e,hk⟩|⟨kvs,e,hk⟩
 .obtain⟨z,hd,vs,rel,dd⟩:=ub' I.hok e
  refine⟨hd,dd.typeIs,?_⟩
  obtain⟨o,es,ep,h1,_,h3,h4,h5,_⟩:=dd
  refine⟨o,es,ep,h1,h3,fun en hen=>?_⟩
  obtain⟨k,hk1,hk2⟩:=h4 en (Array.mem_toList_iff.mp hen)
  have hin:k∈kvs.map (·.1):=by
   rw[rel.keys]
   exact fj' h5 hen hk1
  obtain⟨kv,hkv,rfl⟩:=aP.mp hin
  obtain⟨i,ei,hi⟩:=hk kv hkv
  rw[hk2,ei]
  exact hi
 .obtain⟨z,hd,xs,rel,dd⟩:=ud' I.hok e
  refine⟨hd,dd.typeIs,?_⟩
  obtain⟨o,es,ep,h1,_,h3,h4,_⟩:=dd
  refine⟨o,es,ep,h1,h3,fun en hen=>?_⟩
  rw[h4]at hen
  obtain⟨x,hx,rfl⟩:=aP.mp hen
  obtain⟨kv,hkv,hp⟩:=dr' rel hx
  obtain⟨is,ei,hi⟩:=hk kv hkv
  show(tupleKind (aD' X.prog X.w)).hash x.1≠NH
  rw[<- hp.1,ei]
  show reduceHash (Builtin.Tuple.tupleHashOf ((is.map Key.inl).map (aD' X.prog X.w).hash))≠NH
  rw[cx]
  exact hi
section
variable {X:Cx}
def qO' (tk tv:TE):TL (List (Key×V)):=fun σ a H N=>tk σ H fun y H1=>tv σ H1 fun v H2=>∃k,y=kV k/\a.length<sizeLine/\N (kt' a k v) H2
end
abbrev KTL:=List (List Key×Addr×V)
def okT (a:KTL) (H:Hp):Prop:=∀x∈a,H x.2.1=some (.tup (x.1.map kV))
def plT (a:KTL):List (List Key×V):=a.map fun x=>(x.1,x.2.2)
section
variable {X:Cx}
def qP' (tk tv:TE):TL KTL:=fun σ a H N=>tk σ H fun y H1=>tv σ H1 fun v H2=>∃(k:List Key) (b:Addr),y=.ref b/\H2 b=some (.tup (k.map kV))/\okT a H2/\(∀x∈a,x.1≠k)/\a.length<sizeLine/\N (a++[(k,b,v)]) H2
end
section
variable {X:Cx} {o e f i:Expr} {apos cpos:Pos} {td ty tx:TE}
end
section
variable {X:Cx} {e:Expr} {scope:Scope} {tg iter:Expr} {ifs:List Expr} {nx:Addr->Env->Sem Unit} {g:TG} {tc:TT} {own:List Nat} {wi:TI}
end
section
variable {prog:Program} {w:World} {A:Around} {E:Value->Shared->Prop} {s:Shared}
end
section
variable {X:Cx}
theorem Inv.other {pins:List (Addr×Obj)} {σ:List (Option V)} {H:Hp} {s s':Shared} (I:Inv X pins σ H s) (h1:s'.heap=s.heap) (h2:s'.gens=s.gens) (h3:s'.os=s.os):Inv X pins σ H s':=by
 obtain⟨hp,g,d,t,os⟩:=s'
 cases h1;cases h2;cases h3
 exact⟨I.ok,I.os,I.bare,I.base,I.loc,I.cell,I.free,I.freeC,I.pin,I.hok,I.len⟩
variable {e:Expr} {scope:Scope} {tg iter:Expr} {ifs:List Expr} {nx:Addr->Env->Sem Unit} {g:TG} {tc:TT} {a9':TL ((Option Int->Bool)×Nat)} {own:List Nat} {wi:TI}
end
end L2
namespace L2
open PySem PySem.Spec PyProof.Rows PySem.Ts
section
variable {X:Cx}
def kI (k:List Int):List Itm:=k.map Sum.inl
variable {e:Expr} {scope:Scope} {tg iter:Expr} {ifs:List Expr} {nx:Addr->Env->Sem Unit} {g:TG} {tc:TT} {a9':TL (List (List Int×Addr))} {own:List Nat} {wi:TI}
end
section
variable {prog:Program} {w:World} {A:Around} {E:Value->Shared->Prop} {s:Shared}
end
def Fz (H:Hp) (d:Addr) (o:Obj):Prop:=∃u,H d=some (.frz o u)
theorem Fz.at {P:Program} {w:World} {H:Hp} {h:Heap} {d:Addr} {o:Obj} (f:Fz H d o) (x:HOk P w H h):h.get? d=some o:=let⟨u,e⟩:=f;(x d _ e).1
section
variable {X:Cx} {tg:Expr}
theorem HOk.freeze {P:Program} {w:World} {H:Hp} {h:Heap} {d:Addr} {u:HO} {o:Obj} (x:HOk P w H h) (e:H d=some u) (hu:Mut (some u)) (ho:h.get? d=some o):HOk P w (upd H d (.frz o u)) h:=fun b v q=>by
 have ntup:∀c xs,H c=some (.tup xs)->c≠d:=fun c xs r z=>by subst z;rw[r]at e;cases e;exact hu
 have nown:∀c y,H c=some (.own y)->c≠d:=fun c y r z=>by subst z;rw[r]at e;cases e;exact hu
 have st:∀a v,aJ' P w H h a v->aJ' P w (upd H d (.frz o u)) h a v:=fun a v y=>y.stay (fun _ _ _ q=>q) (fun c r=>by rw[ae' (nown c a r)];exact r) fun c xs r=>by rw[ae' (ntup c xs r)];exact r
 by_cases hb:b=d
 .subst hb;rw[aa']at q;cases q;exact⟨ho,st _ _ (x _ _ e)⟩
 .rw[ae' hb]at q;exact st _ _ (x b v q)
theorem Inv.freeze {pins:List (Addr×Obj)} {σ:St} {H:Hp} {s:Shared} {d:Addr} {u:HO} {o:Obj} (I:Inv X pins σ H s) (e:H d=some u) (hu:Mut (some u)) (ho:s.heap.get? d=some o):Inv X pins σ (upd H d (.frz o u)) s:=by
 have:=I.step (h':=s.heap) (g':=s.gens) (d':=s.drawn) (t':=s.toks) (ch:=[]) (H':=upd H d (.frz o u)) (fun _ z=>nomatch z) (fun b o _ _ _ q _=>q) (fun b o _ _ _ q _=>⟨o.slots,q⟩)
  (fun b o _ _ n=>by rw[ae' (fun z=>by subst z;rw[n]at e;cases e)];exact n) (fun b o _ q=>⟨o,q⟩)
  (fun b xs q=>by rw[ae' (fun z=>by subst z;rw[q]at e;cases e;exact hu)];exact q)
  (fun b o v q=>by rw[ae' (fun z=>by subst z;rw[q]at e;cases e;exact hu)];exact q)
  (fun b ps q=>⟨#[],by rw[ae' (fun z=>by subst z;rw[q]at e;cases e;exact hu),Array.append_empty];exact q⟩)
  (fun m n=>n) (I.hok.freeze e hu ho) I.bare
 exact this
set_option tactic.hygienic true in
theorem k9' {H:Hp} {d:Addr} {u:HO} (e:H d=some u):upd H d u=H:=by
 funext b;unfold upd;split
 .rename_i z;rw[z,e]
 .rfl
end
section
variable {X:Cx} {pos:Pos}
def up' (K:W.Frag) (n:Nat) (t:TGs):TG:=fun v σ H Q=>∃a xs,v=.ref a/\(SqT K H a xs\/SqL K H a xs)/\xs.length=n/\t xs σ H Q
theorem qQ' {es:List Expr} {k:Nat} {t:TGs} {n:Nat} (hc:X.calm=true) (h:PGs X es t)
  (hn:(assignEach es X.env).length=n:=by rfl) (hst:(assignEach es X.env).findIdx? (·.1)=none:=by rfl):PG X (.Tuple es k pos) (up' X.K n t):=by
 intro pins s σ H v u Q I r hw
 obtain⟨a,xs,e1,hq,hl,hw⟩:=hw
 rcases hq with hq|hq
 .exact pS' hc h hn hst pins s σ H v u Q I r ⟨a,xs,e1,hq,hl,hw⟩
 .subst e1
  cases r
  obtain⟨its,rv,pl,hz⟩:=I.list hq
  rw[assign_Tuple]
  refine aa (cI ?_)
  unfold unpack
  rw[hn,hst]
  have e:n=its.toArray.size:=by simp[<- hl,rv.length]
  rw[e]
  refine aa (bM (W.kun_itemsOf (I.ok.hd hc) pl.isList fun h' hx=>?_))
  have I1:Inv X pins σ H { s with heap:=h' }:=I.kept (t':=s.toks) fun b o e=>hx b o (aw (ao e)) e
  exact h pins _ σ H xs _ Q I1 (by simpa using rv) hw
end
section
variable {prog:Program} {w:World} {A:Around} {E:Value->Shared->Prop} {s:Shared} {K:Type} [DecidableEq K] {knd:HeapKind prog w K} {d:Addr}
end
section
variable {X:Cx}
end
end L2
namespace L2
open PySem PySem.Spec PyProof.Rows PySem.SeqAt
section
variable {prog:Program} {w:World} {d:Addr} {o:Obj} {es:Array DictEntry} {ep:Nat}
end
section
variable {X:Cx}
end
def Pw {α:Type} (R:V->α->Prop) (vs:List V) (as:List α):Prop:=vs.length=as.length/\∀(i:Nat) v a,vs[i]?=some v->as[i]?=some a->R v a
def LsR (H:Hp) {α:Type} (R:V->α->Prop) (v:V) (as:List α):Prop:=∃p vs,v=.ref p/\H p=some (.lst vs)/\Pw R vs as
def TpI (H:Hp) (v:V) (ns:List Int):Prop:=∃p,v=.ref p/\H p=some (.tup (ns.map V.int))
def ty' {α:Type} (R:V->α->Prop):Prop:=∀x a b,R x a->R x b->a=b
theorem Pw.fun1 {α:Type} {R:V->α->Prop} (hR:ty' R) {vs:List V} {as bs:List α} (h1:Pw R vs as) (h2:Pw R vs bs):as=bs:=by
 apply bP
 intro i
 by_cases hi:i<vs.length
 .have g:=ac hi
  have g1:=ac (show i<as.length by rw[<- h1.1];exact hi)
  have g2:=ac (show i<bs.length by rw[<- h2.1];exact hi)
  rw[g1,g2,hR _ _ _ (h1.2 i _ _ g g1) (h2.2 i _ _ g g2)]
 .rw[bo (by rw[<- h1.1];omega),bo (by rw[<- h2.1];omega)]
theorem LsR.fun1 {H:Hp} {α:Type} {R:V->α->Prop} (hR:ty' R):ty' (LsR H R):=by
 rintro x a b ⟨p,vs,rfl,e,h⟩ ⟨q,ws,z,e',h'⟩
 cases z
 rw[e]at e'
 cases e'
 exact h.fun1 hR h'
theorem TpI.fun1 {H:Hp}:ty' (TpI H):=by
 rintro x a b ⟨p,rfl,e⟩ ⟨q,z,e'⟩
 cases z
 rw[e]at e'
 exact dN' (by injection e' with e';injection e' with e')
section
variable {X:Cx} {pins:List (Addr×Obj)} {σ:L2.St} {H:Hp} {s:Shared}
def wt':R2:=fun x y H Q=>∃(k:List (List Int)) (L:List (List (List Int))),LsR H (TpI H) x k/\LsR H (LsR H (TpI H)) y L/\Q (.bl (decide (k∈L))) H
end
section
variable {X:Cx} {e st:Expr} {te:TE} {ts:TO} {p2 pos:Pos}
def vR' {α:Type} (xs:List α) (n:Nat):List α:=(aE ((xs.length+n-1) / n)).filterMap fun k=>xs[k*n]?
theorem ay'.pick {xs:List V} {its:List Value} (r:ay' xs its) (f:Nat->Nat):∀l:List Nat,ay' (l.filterMap fun k=>xs[f k]?) (l.filterMap fun k=>its[f k]?)
 | []=>.nil
 |k :: l=>by
  rw[bH,bH]
  have hl:=r.length
  cases hx:xs[f k]? with
  |none=>
   have:its[f k]?=none:=by
    rw[aV]at hx ⊢
    omega
   rw[this]
   exact ay'.pick r f l
  |some x=>
   obtain⟨u,hu,ru⟩:=r.get hx
   rw[hu]
   exact .cons ru (ay'.pick r f l)
end
section
variable {prog:Program} {w:World} {A:Around} {E:Value->Shared->Prop} {s:Shared}
theorem de' {M:Model} {a:Addr} {Q:Option Obj->Shared->Prop} (h:Q (s.heap.get? a) s):wpAny M A (loadIfAlive a) Q E s:=fun Γ p _=>by
 show Sem.wp M Γ (Sem.loadIfAlive a Sem.pure) _ _ p s
 rw[Sem.wp_loadIfAlive]
 exact h
def n8' (h:Heap) (z TI TO:Addr) (f0 f1:Value):Prop:=h.get? z=some { cls:=.type "zip",data:=.fields #[f0,f1,.bool false,.ref TI,.ref TO] }
theorem gB' {b1:Bool} {z TI TO T:Addr} {oT:Obj} {Q:Bool->Shared->Prop} (hz:n8' s.heap z TI TO (rawInt T) (.bool b1)) (hT:s.heap.get? T=some oT)
  (hQ:∀h',n8' h' z TI TO (rawInt T) (.bool true)->bW z s.heap h'->Q false { s with heap:=h' }):wpAny (model prog w) A (Builtin.SmallTypes.ownedTupleIsFree (.ref z)) Q E s:=by
 unfold Builtin.SmallTypes.ownedTupleIsFree
 refine aa (aY hz rfl (x:=rawInt T) rfl ?_)
 have eT:((T:Int)).toNat=T:=aT T
 simp only[rawInt]
 rw[eT]
 refine aa (de' ?_)
 rw[hT]
 simp only[Option.isNone_some,Bool.false_eq_true,if_false]
 refine aa (aY hz rfl (x:=.bool b1) rfl ?_)
 cases b1 with
 |true=>
  rw[if_neg (by decide)]
  exact ap (hQ s.heap hz ⟨rfl,fun _ _=>rfl⟩)
 |false=>
  rw[if_pos (by decide)]
  refine aa (bL hz (by simp) fun h' hz' hs'=>ap (hQ h' hz' hs'))
theorem i9' {k j b1:Bool} {z TI TO i1 i2 l1 l2 T:Addr} {k1 k2:Nat} {xs ys:Array Value} {x y:Value} {oT:Obj} {Q:Option Value->Shared->Prop} (D:ZipApart z TI TO i1 i2 l1 l2)
  (hz:n8' s.heap z TI TO (rawInt T) (.bool b1)) (hT:s.heap.get? T=some oT) (hTI:IsPair s.heap TI (.ref i1) (.ref i2))
  (h1:cq' k s.heap i1 l1 k1) (h2:cq' j s.heap i2 l2 k2) (hl1:dy' k s.heap l1 xs) (hl2:dy' j s.heap l2 ys) (hx:xs[k1]?=some x) (hy:ys[k2]?=some y)
  (hQ:∀h',n8' h' z TI TO (rawInt T) (.bool true)->cq' k h' i1 l1 (k1+1)->cq' j h' i2 l2 (k2+1)->IsPair h' s.heap.objs.size x y->h'.objs.size=s.heap.objs.size+1->
   (∀c o,c≠z->c≠i1->c≠i2->s.heap.get? c=some o->h'.get? c=some o)->Q (some (.ref s.heap.objs.size)) { s with heap:=h' }):
  wpAny (model prog w) A (pyNext (.ref z)) Q E s:=by
 have hTz:s.TypeIs (.ref z) "zip":=⟨_,hz,rfl⟩
 unfold pyNext
 refine aa (wpAny_attempt (bc (name:=Str.ofString "__next__") hTz F.slot_zip_next
  (bG F.slot_zip_next hTz F.entry_zip_next ?_ (F.args_zip_next_1 _))))
 show wpAny _ _ (field (.ref z) 2 >>= _) _ _ _
 refine aa (aY hz rfl (x:=.bool false) rfl ?_)
 show wpAny _ _ (field (.ref z) 3 >>= _) _ _ _
 refine aa (aY hz rfl (x:=.ref TI) rfl ?_)
 refine aa (bB hTI rfl ?_)
 show wpAny _ _ (Builtin.SmallTypes.ownedTupleIsFree (.ref z) >>= _) _ _ _
 refine aa (gB' hz hT fun h₁ hz₁ hs₁=>?_)
 simp only[Bool.false_eq_true,if_false]
 rw[<- Array.forIn_toList]
 simp only[List.forIn_cons,List.forIn_nil]
 have hTI₁:IsPair h₁ TI (.ref i1) (.ref i2):=hs₁.extBut _ _ D.TIz hTI
 refine aa (aa (aa (bM ?_)))
 show wpAny _ _ (Builtin.SmallTypes.nextOf (.ref i1) >>= _) _ _ _
 refine aa (ba' (s:={ s with heap:=h₁ }) (h1.at fun o e=>hs₁.extBut _ _ D.i1z e) (hl1.at fun o e=>hs₁.extBut _ _ D.l1z e) hx fun h₂ h1₂ hs₂=>ap ?_)
 refine ap ?_
 dsimp only
 refine aa (aa (bM ?_))
 show wpAny _ _ (Builtin.SmallTypes.nextOf (.ref i2) >>= _) _ _ _
 refine aa (ba' (s:={ s with heap:=h₂ }) (h2.at fun o e=>hs₂.extBut _ _ D.i12.symm (hs₁.extBut _ _ D.i2z e)) (hl2.at fun o e=>hs₂.extBut _ _ D.l2i1 (hs₁.extBut _ _ D.l2z e)) hy fun h₃ h2₃ hs₃=>ap ?_)
 refine ap ?_
 dsimp only
 refine ap ?_
 dsimp only
 refine aa (wpAny_newTuple (hsz:=by show 2<=sizeLine;decide) ?_)
 have hsz:h₃.objs.size=s.heap.objs.size:=by rw[hs₃.1,hs₂.1,hs₁.1]
 refine ap ⟨_,rfl,ap ?_⟩
 show Q (some (.ref h₃.objs.size)) _
 rw[hsz]
 have up:∀c o,h₃.get? c=some o->(h₃.push { cls:=.type "tuple",data:=.seq #[x,y] }).get? c=some o:=fun c o e=>ab _ e
 refine hQ _ (up _ _ (hs₃.extBut _ _ D.i2z.symm (hs₂.extBut _ _ D.i1z.symm hz₁))) (h1₂.at fun o e=>up _ _ (hs₃.extBut _ _ D.i12 e)) (h2₃.at fun o e=>up _ _ e) ?_ (by rw[aZ,hsz]) fun c o c1 c2 c3 e=>up _ _ (hs₃.extBut _ _ c3 (hs₂.extBut _ _ c2 (hs₁.extBut _ _ c1 e)))
 have:=av h₃ (o:={ cls:=.type "tuple",data:=.seq #[x,y] }) rfl
 rw[hsz]at this
 exact this
theorem la' {k j b1:Bool} {z TI TO i1 i2 l1 l2 T:Addr} {k1 k2:Nat} {xs ys:Array Value} {oT:Obj} {Q:Option Value->Shared->Prop} (hh:A.handled=none) (D:ZipApart z TI TO i1 i2 l1 l2)
  (hz:n8' s.heap z TI TO (rawInt T) (.bool b1)) (hT:s.heap.get? T=some oT) (hTI:IsPair s.heap TI (.ref i1) (.ref i2))
  (h1:cq' k s.heap i1 l1 k1) (h2:cq' j s.heap i2 l2 k2) (hl1:dy' k s.heap l1 xs) (hl2:dy' j s.heap l2 ys) (hend:xs[k1]?=none)
  (hQ:∀h',(∀c o,c≠z->c≠i1->c≠i2->s.heap.get? c=some o->h'.get? c=some o)->Q none { s with heap:=h' }):wpAny (model prog w) A (pyNext (.ref z)) Q E s:=by
 have hTz:s.TypeIs (.ref z) "zip":=⟨_,hz,rfl⟩
 unfold pyNext
 refine aa (wpAny_attempt (bc (name:=Str.ofString "__next__") hTz F.slot_zip_next
  (bG F.slot_zip_next hTz F.entry_zip_next ?_ (F.args_zip_next_1 _))))
 show wpAny _ _ (field (.ref z) 2 >>= _) _ _ _
 refine aa (aY hz rfl (x:=.bool false) rfl ?_)
 show wpAny _ _ (field (.ref z) 3 >>= _) _ _ _
 refine aa (aY hz rfl (x:=.ref TI) rfl ?_)
 refine aa (bB hTI rfl ?_)
 show wpAny _ _ (Builtin.SmallTypes.ownedTupleIsFree (.ref z) >>= _) _ _ _
 refine aa (gB' hz hT fun h₁ hz₁ hs₁=>?_)
 simp only[Bool.false_eq_true,if_false]
 rw[<- Array.forIn_toList]
 simp only[List.forIn_cons,List.forIn_nil]
 refine aa (aa (aa (bM ?_)))
 show wpAny _ _ (Builtin.SmallTypes.nextOf (.ref i1) >>= _) _ _ _
 refine aa (cC' (s:={ s with heap:=h₁ }) (by first|exact hh|rfl) (h1.at fun o e=>hs₁.extBut _ _ D.i1z e) (hl1.at fun o e=>hs₁.extBut _ _ D.l1z e) hend fun h₂ e hs₂ he=>?_)
 obtain⟨oe,hoe,hce⟩:=he
 refine aa (wpAny_isInstance (T:="StopIteration") (b:=true) ⟨oe,hoe,hce⟩ isSubtype_stop (ap (hQ _ ?_)))
 exact fun c o c1 c2 c3 x=>hs₂ _ _ c2 (hs₁.extBut _ _ c1 x)
structure Zst (h0:Heap) (B:Nat) (k j:Bool) (z TI TO i1 i2 l1 l2 S:Addr) (xs ys:Array Value) (i:Nat) (h:Heap):Prop where
 zs:(i=0/\IsZip h z TI TO .none/\∃a b,IsPair h TO a b)\/(0<i/\∃b1,n8' h z TI TO (rawInt B) (.bool b1))
 ti:IsPair h TI (.ref i1) (.ref i2)
 h1:cq' k h i1 l1 i
 h2:cq' j h i2 l2 i
 o1:dy' k h l1 xs
 o2:dy' j h l2 ys
 sz:h.objs.size=B+i
 pr:∀m,m<i->∃x y,xs[m]?=some x/\ys[m]?=some y/\IsPair h (B+m) x y
 kp:∀c o,h0.get? c=some o->h.get? c=some o
structure Zap (h0:Heap) (B:Nat) (z TI TO i1 i2 l1 l2 S:Addr):Prop where
 D:ZipApart z TI TO i1 i2 l1 l2
 bz:z<B
 bTO:TO<B
 b1:i1<B
 b2:i2<B
 bS:S<B
 Sz:S≠z
 STI:S≠TI
 STO:S≠TO
 S1:S≠i1
 S2:S≠i2
 Sl1:S≠l1
 Sl2:S≠l2
 nz:h0.objs.size<=z
 nTO:h0.objs.size<=TO
 n1:h0.objs.size<=i1
 n2:h0.objs.size<=i2
 nS:h0.objs.size<=S
def hD' (B i:Nat):Array Value:=((aE i).map fun m=>Value.ref (B+m)).toArray
theorem ja' {B i:Nat}:(hD' B i).push (.ref (B+i))=hD' B (i+1):=by unfold hD';rw[bT,aG];simp
theorem Zst.drawn {h0:Heap} {B:Nat} {k j:Bool} {z TI TO i1 i2 l1 l2 S:Addr} {xs ys:Array Value} {i:Nat} {Q:Option Value->Shared->Prop} (P:Zap h0 B z TI TO i1 i2 l1 l2 S) (Z:Zst h0 B k j z TI TO i1 i2 l1 l2 S xs ys i s.heap) (hi:i<xs.size) (hij:i<ys.size)
  (hQ:∀h',Zst h0 B k j z TI TO i1 i2 l1 l2 S xs ys (i+1) h'->(∀o,s.heap.get? S=some o->h'.get? S=some o)->Q (some (.ref (B+i))) { s with heap:=h' }):wpAny (model prog w) A (pyNext (.ref z)) Q E s:=by
 obtain⟨zs,ti,h1,h2,o1,o2,sz,pr,kp⟩:=Z
 have hx:xs[i]?=some xs[i]:=aL hi
 have hy:ys[i]?=some ys[i]:=aL hij
 have fin:∀h' b1,n8' h' z TI TO (rawInt B) (.bool b1)->cq' k h' i1 l1 (i+1)->cq' j h' i2 l2 (i+1)->IsPair h' s.heap.objs.size xs[i] ys[i]->h'.objs.size=s.heap.objs.size+1->(∀c o,c≠z->c≠TO->c≠i1->c≠i2->s.heap.get? c=some o->h'.get? c=some o)->Q (some (.ref s.heap.objs.size)) { s with heap:=h' }:=by
  intro h' b1 q1 q2 q3 q4 q5 q6
  rw[sz]at q4 q5 ⊢
  refine hQ h' ⟨.inr ⟨by omega,b1,q1⟩,q6 _ _ P.D.TIz P.D.TITO P.D.TIi1 P.D.TIi2 ti,q2,q3,o1.at fun o e=>q6 _ _ P.D.l1z P.D.l1TO P.D.l1i1 P.D.l1i2 e,o2.at fun o e=>q6 _ _ P.D.l2z P.D.l2TO P.D.l2i1 P.D.l2i2 e,by rw[q5,Nat.add_assoc],fun m hm=>?_,fun c o e=>?_⟩ fun o e=>q6 _ _ P.Sz P.STO P.S1 P.S2 e
  .by_cases hmi:m=i
   .subst hmi
    exact⟨_,_,hx,hy,q4⟩
   .obtain⟨x,y,e1,e2,e3⟩:=pr m (by omega)
    exact⟨x,y,e1,e2,q6 _ _ (bn (ag P.bz (aF _ _))) (bn (ag P.bTO (aF _ _))) (bn (ag P.b1 (aF _ _))) (bn (ag P.b2 (aF _ _))) e3⟩
  .have hc:=ao e
   exact q6 _ _ (aw (ag hc P.nz)) (aw (ag hc P.nTO)) (aw (ag hc P.n1)) (aw (ag hc P.n2)) (kp _ _ e)
 rcases zs with⟨e0,hz,a,b,hTO⟩|⟨e0,b1,hz⟩
 .refine gu' P.D hz ti hTO h1 h2 o1 o2 hx hy fun h' q1 _ q2 q3 q4 q5 q6=>fin h' false ?_ q2 q3 q4 q5 q6
  rw[show B=s.heap.objs.size by omega]
  exact q1
 .obtain⟨x0,y0,_,_,hT⟩:=pr 0 e0
  exact i9' P.D hz hT ti h1 h2 o1 o2 hx hy fun h' q1 q2 q3 q4 q5 q6=>fin h' true q1 q2 q3 q4 q5 fun c o c1 _ c3 c4 e=>q6 c o c1 c3 c4 e
theorem Zst.over {h0:Heap} {B:Nat} {k j:Bool} {z TI TO i1 i2 l1 l2 S:Addr} {xs ys:Array Value} {i:Nat} {Q:Option Value->Shared->Prop} (hh:A.handled=none) (P:Zap h0 B z TI TO i1 i2 l1 l2 S) (Z:Zst h0 B k j z TI TO i1 i2 l1 l2 S xs ys i s.heap) (hi:xs.size=i)
  (hQ:∀h',(∀m,m<i->∃x y,xs[m]?=some x/\ys[m]?=some y/\IsPair h' (B+m) x y)->(∀c o,h0.get? c=some o->h'.get? c=some o)->(∀o,s.heap.get? S=some o->h'.get? S=some o)->Q none { s with heap:=h' }):wpAny (model prog w) A (pyNext (.ref z)) Q E s:=by
 obtain⟨zs,ti,h1,h2,o1,o2,sz,pr,kp⟩:=Z
 have hx:xs[i]?=none:=by rw[Array.getElem?_eq_none_iff];omega
 have fin:∀h',(∀c o,c≠z->c≠TO->c≠i1->c≠i2->s.heap.get? c=some o->h'.get? c=some o)->Q none { s with heap:=h' }:=by
  intro h' q6
  refine hQ h' (fun m hm=>?_) (fun c o e=>?_) fun o e=>q6 _ _ P.Sz P.STO P.S1 P.S2 e
  .obtain⟨x,y,e1,e2,e3⟩:=pr m hm
   exact⟨x,y,e1,e2,q6 _ _ (bn (ag P.bz (aF _ _))) (bn (ag P.bTO (aF _ _))) (bn (ag P.b1 (aF _ _))) (bn (ag P.b2 (aF _ _))) e3⟩
  .have hc:=ao e
   exact q6 _ _ (aw (ag hc P.nz)) (aw (ag hc P.nTO)) (aw (ag hc P.n1)) (aw (ag hc P.n2)) (kp _ _ e)
 rcases zs with⟨e0,hz,a,b,hTO⟩|⟨e0,b1,hz⟩
 .exact iH' hh P.D hz ti hTO h1 h2 o1 o2 (.inl hx) fun h' q=>fin h' q
 .obtain⟨x0,y0,_,_,hT⟩:=pr 0 e0
  exact la' hh P.D hz hT ti h1 h2 o1 o2 hx fun h' q=>fin h' fun c o c1 _ c3 c4 e=>q c o c1 c3 c4 e
theorem Zst.keepS {h0:Heap} {B:Nat} {k j:Bool} {z TI TO i1 i2 l1 l2 S:Addr} {xs ys:Array Value} {i:Nat} {h h':Heap} (P:Zap h0 B z TI TO i1 i2 l1 l2 S) (Z:Zst h0 B k j z TI TO i1 i2 l1 l2 S xs ys i h) (hs:bW S h h'):Zst h0 B k j z TI TO i1 i2 l1 l2 S xs ys i h':=by
 obtain⟨zs,ti,h1,h2,o1,o2,sz,pr,kp⟩:=Z
 have q:∀c o,c≠S->h.get? c=some o->h'.get? c=some o:=fun c o hc e=>(hs.2 c hc).trans e
 refine⟨?_,q _ _ P.STI.symm ti,h1.at fun o e=>q _ _ P.S1.symm e,h2.at fun o e=>q _ _ P.S2.symm e,o1.at fun o e=>q _ _ P.Sl1.symm e,o2.at fun o e=>q _ _ P.Sl2.symm e,by rw[hs.1];exact sz,fun m hm=>?_,fun c o e=>?_⟩
 .rcases zs with⟨e0,hz,a,b,hTO⟩|⟨e0,b1,hz⟩
  .exact .inl ⟨e0,q _ _ P.Sz.symm hz,a,b,q _ _ P.STO.symm hTO⟩
  .exact .inr ⟨e0,b1,q _ _ P.Sz.symm hz⟩
 .obtain⟨x,y,e1,e2,e3⟩:=pr m hm
  exact⟨x,y,e1,e2,q _ _ (bn (ag P.bS (aF _ _))) e3⟩
 .exact q _ _ (aw (ag (ao e) P.nS)) (kp _ _ e)
theorem lb' {R:Result->Shared->Prop} {h0:Heap} {B:Nat} {k j:Bool} {z TI TO i1 i2 l1 l2 S:Addr} {xs ys:Array Value} {n:Nat} {res:Value} (hh:A.in1.handled=none) (P:Zap h0 B z TI TO i1 i2 l1 l2 S) (hxs:xs.size=n) (hys:ys.size=n) (hn:n<=sizeLine):
  ∀(m i:Nat) (s:Shared) (c:Nat),n-i=m->i<=n->Zst h0 B k j z TI TO i1 i2 l1 l2 S xs ys i s.heap->s.heap.get? S=some { cls:=.type "list",dict:=none,data:=.seq (hD' B i) c,slots:=#[] }->
   (∀h' c',(∀m,m<n->∃x y,xs[m]?=some x/\ys[m]?=some y/\IsPair h' (B+m) x y)->(∀c o,h0.get? c=some o->h'.get? c=some o)->h'.get? S=some { cls:=.type "list",dict:=none,data:=.seq (hD' B n) c',slots:=#[] }->R (.ok (.ret res)) { s with heap:=h' })->
   codeAny (model prog w) A (.builtin "list.extend.loop" ⟨[.ref S,.ref z,res],[]⟩) R s:=by
 intro m
 induction m with
 |zero=>
  intro i s c hk hi Z hS hR
  have hin:i=n:=by omega
  subst hin
  refine codeAny_builtin PySem.F.entry_extend_loop ?_
  rw[Around.under_plainId PySem.F.plain_extend_loop _]
  show wpAny _ A.in1 (pyNext (.ref z) >>= _) _ _ s
  refine aa (Z.over hh P hxs fun h' q1 q2 q3=>?_)
  exact ap (hR h' c q1 q2 (q3 _ hS))
 |succ m ih=>
  intro i s c hk hi Z hS hR
  refine codeAny_builtin PySem.F.entry_extend_loop ?_
  rw[Around.under_plainId PySem.F.plain_extend_loop _]
  show wpAny _ A.in1 (pyNext (.ref z) >>= _) _ _ s
  refine aa (Z.drawn P (by omega) (by omega) fun h' Z' q3=>?_)
  have hS':=q3 _ hS
  have hasz:(hD' B i).size=i:=by unfold hD';simp
  show wpAny _ A.in1 (updateSeq S (·.push (.ref (B+i))) >>= _) _ _ _
  have hS2:=bK (Obj.mapSeq (·.push (Value.ref (B+i)))) hS' rfl
  obtain⟨c',hS3⟩:∃c',(h'.update S (Obj.mapSeq (·.push (Value.ref (B+i))))).get? S=some { cls:=.type "list",dict:=none,data:=.seq (hD' B (i+1)) c',slots:=#[] }:=⟨_,by rw[<- ja'];exact hS2⟩
  refine aa (wpAny_updateSeq (s:={ s with heap:=h' }) hS' rfl (ap ⟨plainId_quiet PySem.F.plain_extend_loop _,ih (i+1) _ c' (by omega) (by omega) (Z'.keepS P (Heap.SameBut.update ..)) hS3 fun h'' c'' q1 q2 q3=>hR h'' c'' q1 q2 q3⟩) (by rw[hasz];omega) (by show((hD' B i).push _).size<=sizeLine+1;rw[Array.size_push,hasz];omega))
end
section
variable {prog:Program} {w:World} {A:Around} {E:Value->Shared->Prop} {s:Shared}
theorem jb':typeLookup (.type "zip") "__len__"=pure none:=by rw[typeLookup_type,builtinLookup_eq_fast];kernel_rfl
theorem hE':typeLookup (.type "zip") "__length_hint__"=pure none:=by rw[typeLookup_type,builtinLookup_eq_fast];kernel_rfl
theorem lc' {r:Addr} {Q:Bool->Shared->Prop} (hT:s.TypeIs (.ref r) "zip") (h:Q true s):wpAny (model prog w) A (Builtin.List.listLengthHint (.ref r)) Q E s:=by
 unfold Builtin.List.listLengthHint
 refine aa (wpAny_specialOf hT jb' ?_)
 dsimp only
 rw[if_neg (by decide),if_neg (by decide)]
 refine aa (wpAny_specialOf hT hE' ?_)
 exact ap h
theorem hF' {R:Result->Shared->Prop} {h0:Heap} {B:Nat} {k j:Bool} {z TI TO i1 i2 l1 l2 S:Addr} {xs ys:Array Value} {n c₀:Nat} {res:Value} (hh:A.in1.handled=none) (P:Zap h0 B z TI TO i1 i2 l1 l2 S) (hxs:xs.size=n) (hys:ys.size=n) (hn:n<=sizeLine)
  (Z:Zst h0 B k j z TI TO i1 i2 l1 l2 S xs ys 0 s.heap) (hS:s.heap.get? S=some { cls:=.type "list",data:=.seq #[] c₀ })
  (hR:∀h' c',(∀m,m<n->∃x y,xs[m]?=some x/\ys[m]?=some y/\IsPair h' (B+m) x y)->(∀c o,h0.get? c=some o->h'.get? c=some o)->h'.get? S=some { cls:=.type "list",dict:=none,data:=.seq (hD' B n) c',slots:=#[] }->R (.ok (.ret res)) { s with heap:=h' }):
  wpAny (model prog w) A.in1 (Builtin.List.listExtendWith (.ref S) (.ref z) res)
   (fun fin s'=>match fin with | .done f=>R (.ok f) s' | .again c'=>c'.quiet=true/\codeAny (model prog w) A c' R s') (fun e s'=>R (.error e) s') s:=by
 have hz:IsZip s.heap z TI TO .none:=by
  rcases Z.zs with⟨_,hz,_⟩|⟨e0,_⟩
  .exact hz
  .omega
 have hT:s.TypeIs (.ref z) "zip":=⟨_,hz,rfl⟩
 unfold Builtin.List.listExtendWith
 refine aa (wpAny_typeOf (T:="zip") hT ?_)
 have h1:Builtin.List.listSameRef (.ref S) (.ref z)=false:=by simp[Builtin.List.listSameRef,P.Sz]
 simp only[h1,show(Value.type "zip" == Value.type "list")=false by decide,show(Value.type "zip" == Value.type "tuple")=false by decide,Bool.or_false,Bool.false_eq_true,if_false]
 refine aa (wpAny_pyIter_zip hz ?_)
 refine aa (bM (lc' hT ?_))
 rw[if_pos (by rfl)]
 refine aa (wpAny_rule ?_)
 refine aa ?_
 show wpAny _ _ (updateSeq S (·.push .none) >>= fun _=>updateSeq S (·.pop)) _ _ _
 refine aa (wpAny_updateSeq hS rfl ?_)
 have hS₂:=bK (Obj.mapSeq (·.push Value.none)) hS rfl
 refine wpAny_updateSeq (hz:=by seq_fits) hS₂ rfl ?_
 have hS₃:=bK (Obj.mapSeq (·.pop)) hS₂ rfl
 have Z2:=(Z.keepS P (Heap.SameBut.update ..)).keepS P (Heap.SameBut.update (s.heap.update S (Obj.mapSeq (·.push Value.none))) S (Obj.mapSeq (·.pop)))
 exact ap ⟨plainId_quiet PySem.F.plain_extend_loop _,lb' hh P hxs hys hn n 0 _ _ (by omega) (aC _) Z2 hS₃ fun h' c' q1 q2 q3=>hR h' c' q1 q2 q3⟩
theorem eJ' {h0:Heap} {k j:Bool} {l1 l2:Addr} {xs ys:Array Value} {n:Nat} {Q:Value->Shared->Prop} (hh:A.handled=none) (hxs:xs.size=n) (hys:ys.size=n) (hn:n<=sizeLine)
  (o1:dy' k h0 l1 xs) (o2:dy' j h0 l2 ys)
  (hz:IsZip s.heap (h0.objs.size+4) (h0.objs.size+2) (h0.objs.size+3) .none) (hTI:IsPair s.heap (h0.objs.size+2) (.ref h0.objs.size) (.ref (h0.objs.size+1))) (hTO:IsPair s.heap (h0.objs.size+3) .none .none)
  (h1:cq' k s.heap h0.objs.size l1 0) (h2:cq' j s.heap (h0.objs.size+1) l2 0) (hsz:s.heap.objs.size=h0.objs.size+5) (hk:∀c o,h0.get? c=some o->s.heap.get? c=some o)
  (hQ:∀h' c',(∀m,m<n->∃x y,xs[m]?=some x/\ys[m]?=some y/\IsPair h' (h0.objs.size+6+m) x y)->(∀c o,h0.get? c=some o->h'.get? c=some o)->h'.get? (h0.objs.size+5)=some { cls:=.type "list",dict:=none,data:=.seq (hD' (h0.objs.size+6) n) c',slots:=#[] }->Q (.ref (h0.objs.size+5)) { s with heap:=h' }):
  wpAny (model prog w) A (call (.type "list") [.ref (h0.objs.size+4)]) Q E s:=by
 refine callType_codes (Q₁:=fun obj s₁=>obj=.ref s.heap.objs.size/\s₁={ s with heap:=s.heap.push { cls:=.type "list",data:=.seq #[] } }) PySem.F.called_list (PySem.F.typeCall_list_1 _) PySem.F.entry_list_init
  (code_list_new _ ⟨rfl,rfl⟩) fun obj s₁ h₁=>?_
 obtain⟨rfl,rfl⟩:=h₁
 have hS:(s.heap.push { cls:=.type "list",data:=.seq #[] }).get? s.heap.objs.size=some { cls:=.type "list",data:=.seq #[] }:=av _ rfl
 refine⟨⟨_,hS,rfl⟩,PySem.F.args_list_init_2 _ _,?_⟩
 have lt1:l1<h0.objs.size:=o1.lt
 have lt2:l2<h0.objs.size:=o2.lt
 rw[hsz]at hS ⊢
 have P:Zap h0 (h0.objs.size+6) (h0.objs.size+4) (h0.objs.size+2) (h0.objs.size+3) h0.objs.size (h0.objs.size+1) l1 l2 (h0.objs.size+5):=by
  have e:∀a b:Nat,a≠b->(show Addr from a)≠(show Addr from b):=fun a b h=>h
  have lt1':(l1:Nat)<h0.objs.size:=lt1
  have lt2':(l2:Nat)<h0.objs.size:=lt2
  refine⟨⟨?_,?_,?_,?_,?_,?_,?_,?_,?_,?_,?_,?_,?_,?_,?_,?_,?_,?_⟩,?_,?_,?_,?_,?_,?_,?_,?_,?_,?_,?_,?_,?_,?_,?_,?_,?_⟩<;>first|(apply e;omega;done)|exact aw lt1|exact aw lt2|exact aw (ag lt1 (aF _ _))|exact aw (ag lt2 (aF _ _))|exact bn (ag lt1 (aF _ _))|exact bn (ag lt2 (aF _ _))|(show(_:Nat)<_;omega)|(show(_:Nat)<=_;omega)
 have Z0:Zst h0 (h0.objs.size+6) k j (h0.objs.size+4) (h0.objs.size+2) (h0.objs.size+3) h0.objs.size (h0.objs.size+1) l1 l2 (h0.objs.size+5) xs ys 0 (s.heap.push { cls:=.type "list",data:=.seq #[] }):=by
  have up:∀c o,s.heap.get? c=some o->(s.heap.push { cls:=.type "list",data:=.seq #[] }).get? c=some o:=fun c o e=>ab _ e
  exact⟨.inl ⟨rfl,up _ _ hz,_,_,up _ _ hTO⟩,up _ _ hTI,h1.at fun o e=>up _ _ e,h2.at fun o e=>up _ _ e,o1.at fun o e=>up _ _ (hk _ _ e),o2.at fun o e=>up _ _ (hk _ _ e),by rw[aZ,hsz],fun m hm=>absurd hm (cz _),fun c o e=>up _ _ (hk _ _ e)⟩
 show wpAny _ _ (do let old <- Builtin.List.listItems (.ref (h0.objs.size+5));Builtin.List.listUpdate (.ref (h0.objs.size+5)) (fun _=>#[]);letGo old.toList.reverse;Builtin.List.listExtendWith (.ref (h0.objs.size+5)) (.ref (h0.objs.size+4)) .none) _ _ _
 refine aa ?_
 unfold Builtin.List.listItems
 refine aa (bB hS rfl (ap ?_))
 show wpAny _ _ (updateSeq (h0.objs.size+5) (fun _=>#[]) >>= fun _=>letGo (#[]:Array Value).toList.reverse >>= fun _=>Builtin.List.listExtendWith (.ref (h0.objs.size+5)) (.ref (h0.objs.size+4)) .none) _ _ _
 refine aa (wpAny_updateSeq hS rfl ?_)
 have hS₂:=bK (Obj.mapSeq (fun _=>(#[]:Array Value))) hS rfl
 refine aa (wpAny_letGo ?_)
 refine hF' (by simp[hh]) P hxs hys hn (Z0.keepS P (Heap.SameBut.update ..)) hS₂ fun h' c' q1 q2 q3=>?_
 exact⟨rfl,hQ h' c' q1 q2 q3⟩
end
section
variable {X:Cx} {pins:List (Addr×Obj)} {σ:St} {H H':Hp} {s:Shared} {h':Heap}
theorem Inv.laidN {t':Nat} (I:Inv X pins σ H s) (k:∀b u,s.heap.get? b=some u->h'.get? b=some u) (sub:∀b u,H b=some u->H' b=some u) (fr:∀b,H b=none->b<s.heap.objs.size->H' b=none)
  (new:∀b u,H' b=some u->H b=some u\/aJ' X.prog X.w H' h' b u):Inv X pins σ H' { s with heap:=h',toks:=t' }:=by
 refine I.step (g':=s.gens) (d':=s.drawn) (t':=t') (ch:=[]) (fun c hc=>absurd hc al) (fun c o _ _ _ e _=>k c o e) (fun c o _ _ _ e _=>⟨o.slots,k c o e⟩)
  (fun c o _ e n=>fr c n (ao e)) (fun c o _ e=>⟨o,k c o e⟩) (fun c ps e=>sub _ _ e) (fun c o p e=>sub _ _ e) (fun c ps e=>⟨#[],by rw[sub _ _ e];simp⟩) (fun m hm=>?_) (fun c o e=>?_) I.bare
 .obtain⟨oo,es,ep,ho,r⟩:=hm
  exact⟨oo,es,ep,k _ oo ho,r⟩
 .rcases new c o e with e0|h
  .exact(I.hok c o e0).stay (fun d q hd eq=>k d q eq) (fun d q=>sub _ _ q) fun d qs q=>sub _ _ q
  .exact h
end
section
variable {X:Cx}
def uq' (K:W.Frag) (ta:TA):TE:=fun σ H Q=>ta σ H fun vs H1=>∃(k j:Bool) (a b:Addr) (xs ys:List V),vs=[.ref a,.ref b]/\Sq k K H1 a xs/\Sq j K H1 b ys/\xs.length=ys.length/\
 ∀(l:Addr) (as:List Addr) (H':Hp),H1 l=none->(∀b u,H1 b=some u->H' b=some u)->(∀p∈as,H1 p=none)->H' l=some (.lst (as.map V.ref))->as.length=xs.length->(∀(i:Nat) p x y,as[i]?=some p->xs[i]?=some x->ys[i]?=some y->H' p=some (.tup [x,y]))->Q (.ref l) H'
theorem ec':∀(l:List Addr),ay' (l.map V.ref) (l.map Value.ref)
 | []=>.nil
 |a :: l=>.cons rfl (ec' l)
theorem qR' {a b:Expr} {ta:TA} {p p2 pos pos2:Pos} (hc:X.calm=true) (hg1:Gl X "list") (hm1:X.mg "list"=none) (hg2:Gl X "zip") (hm2:X.mg "zip"=none) (ha:PA X [a,b] ta) (hs:starEach [a,b] X.env=[(false,eval a X.env),(false,eval b X.env)]) (hs2:starEach [b] X.env=[(false,eval b X.env)]):
  PE X (.Call (.Name "list" p) [.Call (.Name "zip" p2) [a,b] [] pos2] [] pos) (uq' X.K ta):=by
 intro pins s σ H Q I h
 refine wpAny_Call_Name_kw (dn' I hg1 hm1 boot_list ?_)
 refine PyProof.Rows.callWith_type1 ?_
 show wpAny _ _ (spliced [(false,eval (.Call (.Name "zip" p2) [a,b] [] pos2) X.env)]) _ _ s
 refine Calls.spliced_cons ?_
 refine Call_ (dn' I hg2 hm2 boot_zip (PyProof.Rows.callWith_type1 (thn (ha pos2 pins s σ H _ I h) fun us s1 ⟨vs,H1,I1,r1,k,j,l1,l2,xs,ys,e,hxs,hys,hlen,q⟩=>?_) (by rw[hs,hs2]) (by rw[hs2];rfl)))
 subst e
 cases r1 with
 |cons r rr=>
  cases rr with
  |cons r' rr=>
   cases rr
   cases r
   cases r'
   obtain⟨us,rus,ous,hz1⟩:=I1.sq hxs
   obtain⟨ws,rws,ows,hz2⟩:=I1.sq hys
   have e1:=rus.length
   have e2:=rws.length
   refine iG' ous ows fun h' hz hTI hTO h1 h2 hsz hk=>Calls.spliced_nil ?_
   refine eJ' (n:=xs.length) (h0:=s1.heap) (s:={ s1 with heap:=h' }) (I.ok.hd hc) (by rw[aj,<- e1]) (by rw[aj,<- e2];exact hlen.symm) hz1 ous ows hz hTI hTO h1 h2 hsz hk fun h'' c' q1 q2 q3=>?_
   have hB:∀b u,H1 b=some u->b<s1.heap.objs.size:=fun b u e=>by
    rcases cw b s1.heap.objs.size with z|z
    .exact z
    .rw[I1.hok.fresh z]at e;cases e
   let B:=s1.heap.objs.size+6
   let as:List Addr:=(aE xs.length).map fun m=>B+m
   let H':Hp:=fun b=>if b=s1.heap.objs.size+5 then some (.lst (as.map V.ref))else if B<=b/\b<B+xs.length then some (.tup [(xs[b-B]?).getD .non,(ys[b-B]?).getD .non])else H1 b
   have old:∀b,b<s1.heap.objs.size->H' b=H1 b:=fun b hb=>by
    show(if b=s1.heap.objs.size+5 then _ else if B<=b/\b<B+xs.length then _ else H1 b)=_
    rw[if_neg (fun z=>?_),if_neg (fun z=>?_)]
    .exact absurd hb (Nat.not_lt.mpr (au (aF _ _) z.1))
    .rw[z]at hb;exact absurd hb (Nat.not_lt.mpr (aF _ _))
   have sub:∀b u,H1 b=some u->H' b=some u:=fun b u e=>by rw[old b (hB b u e)];exact e
   have tupP:∀m,m<xs.length->H' (B+m)=some (.tup [(xs[m]?).getD .non,(ys[m]?).getD .non]):=fun m hm=>by
    show(if B+m=s1.heap.objs.size+5 then _ else if B<=B+m/\B+m<B+xs.length then _ else H1 (B+m))=_
    rw[if_neg (show ¬(s1.heap.objs.size+6)+m=s1.heap.objs.size+5 by omega),if_pos ⟨aF _ _,Nat.add_lt_add_left hm _⟩,Nat.add_sub_cancel_left]
   have lstP:H' (s1.heap.objs.size+5)=some (.lst (as.map V.ref)):=if_pos rfl
   have hal:as.length=xs.length:=by show((aE xs.length).map _).length=_;rw[ah,bQ]
   refine⟨.ref (s1.heap.objs.size+5),H',I1.laidN (t':=s1.toks) q2 sub (fun b e hb=>by rw[old b hb];exact e) fun b u e=>?_,rfl,q _ as H' (I1.hok.fresh (aF _ _)) sub (fun p hp=>?_) lstP hal fun i p x y hp hx hy=>?_⟩
   .by_cases hb:b<s1.heap.objs.size
    .rw[old b hb]at e;exact .inl e
    .right
     by_cases hl:b=s1.heap.objs.size+5
     .subst hl
      rw[lstP]at e
      cases e
      refine⟨by rw[ah,hal];exact hz1,as.map Value.ref,c',ec' as,?_⟩
      rw[q3]
      congr 3
      show hD' (s1.heap.objs.size+6) xs.length=(List.map Value.ref ((aE xs.length).map fun m=>s1.heap.objs.size+6+m)).toArray
      unfold hD'
      rw[cx]
      rfl
     .by_cases hr:B<=b/\b<B+xs.length
      .obtain⟨m,rfl⟩:∃m,b=B+m:=⟨b-B,(Nat.add_sub_cancel' hr.1).symm⟩
       have hm:m<xs.length:=Nat.lt_of_add_lt_add_left hr.2
       have hmy:m<ys.length:=hlen ▸ hm
       rw[tupP m hm]at e
       cases e
       obtain⟨u,v,eu,ev,hp⟩:=q1 m hm
       obtain⟨u',eu',ru⟩:=rus.get (i:=m) (x:=xs[m]) (ac hm)
       obtain⟨v',ev',rv⟩:=rws.get (i:=m) (x:=ys[m]) (ac hmy)
       have eu2:us[m]?=some u:=by simpa using eu
       have ev2:ws[m]?=some v:=by simpa using ev
       rw[eu2]at eu'
       rw[ev2]at ev'
       cases eu'
       cases ev'
       rw[ac hm,ac hmy]
       exact⟨by show 2<=sizeLine;decide,[u,v],.cons ru (.cons rv .nil),⟨_,hp,rfl,⟨_,rfl⟩,rfl⟩⟩
      .exfalso
       have:H' b=H1 b:=by
        show(if b=s1.heap.objs.size+5 then _ else if B<=b/\b<B+xs.length then _ else H1 b)=_
        rw[if_neg hl,if_neg hr]
       rw[this,I1.hok.fresh (Nat.not_lt.mp hb)]at e
       cases e
   .obtain⟨m,_,rfl⟩:=aP.mp hp
    exact I1.hok.fresh (au (aF _ _) (aF _ _))
   .have hi:i<xs.length:=(aO.mp hx).1
    have:as[i]?=some (B+i):=by
     show((aE xs.length).map fun m=>B+m)[i]?=_
     rw[aD,bu hi]
     rfl
    rw[this]at hp
    cases hp
    rw[tupP i hi,hx,hy]
    rfl
end
end L2
namespace PySem
open Sem (wp)
section
variable {prog:Program} {w:World} {A:Around} {h:Heap} {g:Array GenState} {d:Drawn} {t:Nat} {os:OsState} {a:Addr}
end
end PySem
namespace L2
open PySem PySem.Spec PyProof.Rows
section
variable {prog:Program} {w:World} {A:Around} {R:Result->Shared->Prop} {I:Addr} {fp wr:List Addr} {G:Array GenState->Array GenState->Prop} {n:Nat} {St:Nat->Shared->Prop}
abbrev kT (prog:Program) (w:World):=tupleKind (aD' prog w)
def OkP (prog:Program) (w:World) (n:Nat) (ps:Nat->Addr) (key:Nat->List Key) (ka:Nat->Addr) (xv:Nat->Value) (h:Heap):Prop:=
 ∀i,i<n->IsTup h (ps i) #[.ref (ka i),xv i]/\(kT prog w).is h (key i) (ka i)
theorem OkP.at {ps:Nat->Addr} {key:Nat->List Key} {ka:Nat->Addr} {xv:Nat->Value} {h h':Heap} (x:OkP prog w n ps key ka xv h) (k:∀i,i<n->∀b,b=ps i\/b=ka i->∀o,h.get? b=some o->h'.get? b=some o):OkP prog w n ps key ka xv h':=fun i hi=>by
 obtain⟨⟨o,e,c,m,z⟩,⟨o2,its,m2,e2,r⟩⟩:=x i hi
 exact⟨⟨o,k i hi _ (.inl rfl) o e,c,m,z⟩,⟨o2,its,m2,k i hi _ (.inr rfl) o2 e2,r⟩⟩
end
section
variable {prog:Program} {w:World} {A:Around} {E:Value->Shared->Prop} {s:Shared}
set_option maxRecDepth 100000 in
set_option maxHeartbeats 3200000 in
end
section
variable {X:Cx}
end
section
variable {prog:Program} {w:World} {A:Around} {E:Value->Shared->Prop} {s:Shared}
end
section
variable {X:Cx}
end
section
variable {prog:Program} {w:World} {A:Around} {E:Value->Shared->Prop} {s:Shared}
end
section
variable {X:Cx}
end
end L2
namespace R3
open PySem PySem.Spec PyProof.Rows L2
inductive Bf where
 |len|abs|int|str|isinstance|all|max|min|list|tuple|sum
 deriving DecidableEq
inductive Mf where
 |append|join|insert
 deriving DecidableEq
inductive Xf where
 |eqT|inR|notInR
 deriving DecidableEq
inductive Zf where
 |eqB|ninB|ltS|inP
 deriving DecidableEq
inductive Yf where
 |strd|ltx|dct
 deriving DecidableEq
set_option genInjectivity false
mutual
inductive Ce where
 |var (i:Nat)|int (n:Int)|bl (b:Bool)|non|str (x:Str)|ty (n:String)
 |bin (op:Operator) (a b:Ce)
 |neg (a:Ce)|not (a:Ce)
 |and (a b:Ce)|or (a b:Ce)
 |cmp (op:CmpOp) (a b:Ce)
 |chn (op op':CmpOp) (a b c:Ce)
 |ife (q:Cq) (a b:Ce)
 |tup (es:Ces)|lst (es:Ces)
 |idx (a b:Ce)
 |cut (a:Ce) (lo hi:Co)
 |call (f:Str) (es:Ces)
 |blt (f:Bf) (es:Ces)
 |met (m:Mf) (o:Ce) (es:Ces)
 |comp (elt:Ce) (own:List Nat) (t:Ct) (it:Ci) (q:Cqo) (r:Cc)
 |lzp (a b:Ce)
inductive Ces where
 |nil|cons (e:Ce) (r:Ces)
inductive Cq where
 |val (e:Ce)|not (q:Cq)|and (a b:Cq)|or (a b:Cq)|cmp (op:CmpOp) (a b:Ce)|chn (op op':CmpOp) (a b c:Ce)
inductive Cqo where
 |none|some (q:Cq)
inductive Co where
 |none|some (e:Ce)
inductive Ci where
 |val (e:Ce)|range1 (a:Ce)|zip (a b:Ce)|enum (a:Ce)
inductive Ct where
 |name (i:Nat)|tup (ts:Cts)|sub (o i:Ce)
inductive Cts where
 |nil|cons (t:Ct) (r:Cts)
inductive Cc where
 |nil|cons (ws:List Nat) (t:Ct) (it:Ci) (q:Cqo) (r:Cc)
end
mutual
inductive Cs where
 |expr (e:Ce)|ret (e:Ce)|asg (t:Ct) (e:Ce)|par (i j:Nat) (a b:Ce)
 |ite (q:Cq) (a b:Css)|whl (q:Cq) (b:Css)|for_ (t:Ct) (it:Ci) (b:Css)|asgc (i j:Nat) (e:Ce)
inductive Css where
 |nil|cons (s:Cs) (r:Css)
end
set_option genInjectivity true
def ur' (i j:Int):Prop:=0<=j/\j<=1000000/\i.natAbs<2 ^ 250*2 ^ 250*2 ^ 250
def n9' (_ j:Int):Prop:=0<j/\(j<1073741824\/j.natAbs.log2<9000)
def hG' (i j:Int):Prop:=(-(2 ^ 64)<i/\i<2 ^ 64)\/(-(2 ^ 64)<j/\j<2 ^ 64)\/IntMulOk i j
section
variable (K:W.Frag)
def ed':Operator->R2
 | .Add=>fun x y H Q=>match x,y with
  | .int i,.int j=>Q (.int (i+j)) H
  | .str i,.str j=>i.length+j.length<=sizeLine/\Q (.str (i++j)) H
  |x,y=>vE' x y H Q\/qa' K x y H Q\/mC' K x y H Q
 | .Sub=>rI0 fun i j=>.int (i-j)
 | .Mult=>fun x y H Q=>match x,y with
  | .int i,.int j=>hG' i j/\Q (.int (i*j)) H
  | .str a,.int n=>-1000000<=n/\n<=1000000/\a.length*n.toNat<=1000000/\Q (.str (Txt.mul a n)) H
  |x,y=>vF' x y H Q
 | .Mod=>rI (fun _ j=>0<j) fun i j=>.int (i % j)
 | .FloorDiv=>rI n9' fun i j=>.int (i / j)
 | .Pow=>rI tT' fun i j=>.int (i ^ j.toNat)
 | .LShift=>rI ur' fun i j=>.int (i*2 ^ j.toNat)
 | .RShift=>rI (fun _ j=>0<=j) fun i j=>.int (i / 2 ^ j.toNat)
 | .BitAnd=>rI (fun i j=>0<=i/\j=1) fun i _=>.int (i % 2)
 |_=>fun _ _ _ _=>False
def co':CmpOp->R2
 | .Eq=>fun x y H Q=>match x,y with
  | .ref a,.ref b=>ts' K false (.ref a) (.ref b) H Q\/tv' false (.ref a) (.ref b) H Q
  |x,y=>rEq x y H Q
 | .NotEq=>fun x y H Q=>match x,y with
  | .ref a,.ref b=>ts' K true (.ref a) (.ref b) H Q\/tv' true (.ref a) (.ref b) H Q
  |x,y=>rNe x y H Q
 | .Lt=>rI0 fun i j=>.bl (decide (i<j))
 | .LtE=>rI0 fun i j=>.bl (decide (i<=j))
 | .Gt=>fun x y H Q=>match x with
  | .str a=>vM' (.str a) y H Q
  |x=>rI0 (fun i j=>.bl (decide (j<i))) x y H Q
 | .GtE=>rI0 fun i j=>.bl (decide (j<=i))
 | .Is=>fun x y H Q=>match y with
  | .bl b=>tt' false x (.bl b) H Q
  |y=>y=.non/\Q (.bl (decide (x=.non))) H
 | .IsNot=>fun x y H Q=>match y with
  | .bl b=>tt' true x (.bl b) H Q
  |y=>y=.non/\Q (.bl (!decide (x=.non))) H
 | .In=>fun x y H Q=>match y with
  | .str b=>tu' false x (.str b) H Q
  |y=>rIn K false x y H Q
 | .NotIn=>fun x y H Q=>match y with
  | .str b=>tu' true x (.str b) H Q
  |y=>rIn K true x y H Q
def df':Bf->List V->Hp->VK->Prop
 | .len=>fun xs H Q=>∃x n,xs=[x]/\vC' K x H n/\Q (.int n) H
 | .abs=>fun xs H Q=>∃i,xs=[.int i]/\Q (.int (if i<0 then -i else i)) H
 | .int=>fun xs H Q=>match xs with
  | [.int i]=>Q (.int i) H
  | [.bl k]=>Q (.int (if k then 1 else 0)) H
  | [.str x]=>∃n,PySem.intText? x=some n/\x.length<=640/\Q (.int n) H
  | [.str x,.int j]=>j=2/\∃n,B2 x n/\Q (.int n) H
  |_=>False
 | .str=>fun xs H Q=>∃i,xs=[.int i]/\i.natAbs.log2<1920/\Q (.str (toString i)) H
 | .isinstance=>fun xs H Q=>vH' xs H Q\/False
 | .all=>vI' K false
 | .max=>fun xs H Q=>match xs with
  | [.int i,.int j]=>Q (.int (if j > i then j else i)) H
  |xs=>kY' K true xs H Q
 | .min=>fun xs H Q=>match xs with
  | [.int i,.int j]=>Q (.int (if j<i then j else i)) H
  |xs=>kY' K false xs H Q
 | .list=>fun xs H Q=>(∃p ys,xs=[.ref p]/\(SqL K H p ys\/SqT K H p ys)/\∀l,H l=none->Q (.ref l) (upd H l (.lst ys)))\/vJ' xs H Q
 | .sum=>vK' K
 | .tuple=>fun xs H Q=>∃p ys,xs=[.ref p]/\((SqL K H p ys/\∀l,H l=none->Q (.ref l) (upd H l (.tup ys)))\/(SqT K H p ys/\Q (.ref p) H))
def mE':Mf->V->List V->Hp->VK->Prop
 | .append=>ix'
 | .join=>qp' K
 | .insert=>iP'
def fk':Mf->String
 | .join=>"str"
 |_=>"list"
def jc':Mf->Str
 | .append=>"append"
 | .join=>"join"
 | .insert=>"insert"
def dO':Bf->Str
 | .len=>"len"
 | .abs=>"abs"
 | .int=>"int"
 | .str=>"str"
 | .isinstance=>"isinstance"
 | .all=>"all"
 | .max=>"max"
 | .min=>"min"
 | .list=>"list"
 | .tuple=>"tuple"
 | .sum=>"sum"
def mF':R2:=fun x y H Q=>match x,y with
 | .str z,.int i=>z.length<=sizeLine/\∃c,atI z.cps.toList i=some c/\Q (.str ⟨#[c]⟩) H
 |x,y=>fM' K x y H Q\/fU' K x y H Q
def rSl:V->Option Int->Option Int->Hp->VK->Prop:=fun x lo hi H Q=>match x with
 | .str a=>a.length<=sizeLine/\Q (.str (Txt.slice a lo hi)) H
 |x=>tp' K x lo hi H Q\/to' K x lo hi H Q\/tw' K x lo hi H Q
end
def rZf:Zf->R2
 | .eqB=>wo' false
 | .ninB=>uh'
 | .ltS=>fun x y H Q=>∃i j,x=.str i/\y=.str j/\Q (.bl (decide (i.cps.toList<j.cps.toList))) H
 | .inP=>wt'
structure Rc where
 N:List Str
 B:List Str
 K:W.Frag
 fs:Str->Option Sp
 xk:L2.St->XK:=fun _=>E0
 cl:Str->Option Addr:=fun _=>none
def ld':Cts->Nat
 | .nil=>0
 | .cons _ r=>ld' r+1
mutual
def tE (C:Rc):Ce->TE
 | .var i=>th' i
 | .int n=>tC (.int n)
 | .bl b=>tC (.bl b)
 | .non=>tC .non
 | .str x=>tC (.str x)
 | .ty n=>tC (.ty n)
 | .bin op a b=>tOp (ed' C.K op) (tE C a) (tE C b)
 | .neg a=>tUn (rU fun i=>.int (-i)) (tE C a)
 | .not a=>nq' (tE C a)
 | .and a b=>ky' (tE C a) (tE C b)
 | .or a b=>ti' (tE C a) (tE C b)
 | .cmp op a b=>tOp (co' C.K op) (tE C a) (tE C b)
 | .chn op op' a b c=>do' (co' C.K op) (co' C.K op') (tE C a) (tE C b) (tE C c)
 | .ife q a b=>tIf (tQ C q) (tE C a) (tE C b)
 | .tup es=>t0' (tA C es)
 | .lst es=>t1' (tA C es)
 | .idx a b=>tOp (mF' C.K) (tE C a) (tE C b)
 | .cut a lo hi=>tSl (rSl C.K) (tE C a) (tO C lo) (tO C hi)
 | .call f es=>fun σ H Q=>match C.fs f with
  |some sp=>kL' sp [] (C.xk σ) (tA C es) σ H Q
  |none=>False
 | .blt f es=>tCB (df' C.K f) (tA C es)
 | .met m o es=>tBM C.K (fk' m) (mE' C.K m) (tE C o) (tA C es)
 | .lzp a b=>uq' C.K (b3' (tE C a) (b3' (tE C b) gp'))
 | .comp elt own t it q r=>iD' own (tI C it) (tG C t) (tQo C q) (tR C r (eB' (tE C elt)))
def tA (C:Rc):Ces->TA
 | .nil=>gp'
 | .cons e r=>b3' (tE C e) (tA C r)
def tQ (C:Rc):Cq->TT
 | .val e=>fun σ H Q=>tE C e σ H fun x H'=>∃k,p4' C.K x H' k/\Q k H'
 | .not q=>tF' (tQ C q)
 | .and a b=>pL' (tQ C a) (tQ C b)
 | .or a b=>tOr (tQ C a) (tQ C b)
 | .cmp op a b=>g5' (tOp (co' C.K op) (tE C a) (tE C b))
 | .chn op op' a b c=>g5' (do' (co' C.K op) (co' C.K op') (tE C a) (tE C b) (tE C c))
def tQo (C:Rc):Cqo->TT
 | .none=>fun _ H Q=>Q true H
 | .some q=>tQ C q
def tO (C:Rc):Co->TO
 | .none=>fS'
 | .some e=>nF' (tE C e)
def tI (C:Rc):Ci->TI
 | .val e=>t6' C.K (tE C e)
 | .range1 a=>nx' (b3' (tE C a) gp')
 | .zip a b=>t7' C.K (b3' (tE C a) (b3' (tE C b) gp'))
 | .enum a=>nU' C.K (tE C a)
def tG (C:Rc):Ct->TG
 | .name i=>fP' i
 | .tup ts=>up' C.K (ld' ts) (tGs C ts)
 | .sub o i=>tM' (tE C o) (tE C i) dx'
def tGs (C:Rc):Cts->TGs
 | .nil=>tL'
 | .cons t r=>nv' (tG C t) (tGs C r)
def tR (C:Rc):Cc->TL (List V)->TL (List V)
 | .nil,em=>em
 | .cons ws t it q r,em=>nR' (tI C it) (bY' ws (tG C t) (tQo C q) (tR C r em))
end
mutual
def tS (C:Rc):Cs->TS
 | .expr e=>nt' (tE C e)
 | .ret e=>tH' (tE C e)
 | .asg t e=>tj' (tE C e) (tG C t)
 | .par i j a b=>tN' i j (b3' (tE C a) (b3' (tE C b) gp'))
 | .ite q a b=>tI' (tQ C q) (tSs C a) (tSs C b)
 | .whl q b=>ib' (tQ C q) (tSs C b)
 | .for_ t it b=>tO' (tI C it) (tG C t) (tSs C b)
 | .asgc i j e=>nY' i j (tE C e)
def tSs (C:Rc):Css->TS
 | .nil=>nr'
 | .cons s r=>tG' (tS C s) (tSs C r)
end
def vis (sc:Scope) (x:Str):Bool:=match sc.names.lookup x with
 |some .local=>true
 |some .cell=>true
 |some .free=>true
 |_=>false
def locb (sc:Scope) (x:Str):Bool:=match sc.names.lookup x with
 |some .local=>true
 |some .cell=>true
 |_=>false
def glb (sc:Scope) (x:Str):Bool:=decide (sc.names.lookup x=some .globalImplicit)
def ds' (N:List Str) (i:Nat) (x:Str):Bool:=decide (N[i]?=some x)&&!(x == ("__debug__":Str))&&!(x == ("__classdict__":Str))
def aA':Expr->Bool
 | .Starred ..=>false
 |_=>true
def cL':Expr->Bool
 | .Set ..=>false
 |_=>true
def dA':Expr->Bool
 | .Slice ..=>false
 |_=>true
def mG':Expr->Bool
 | .Call _ [] _ _=>false
 |_=>true
def mH':Expr->Bool
 | .UnaryOp .Not _ _=>false
 | .BoolOp ..=>false
 | .IfExp ..=>false
 | .Compare ..=>false
 |_=>true
def fl':List String:=["list","tuple","str","bool","int","dict","ValueError"]
def pC' (N:List Str) (sc scope:Scope) (own:List Nat):Bool:=
 decide (scope.kind=.function)&&
 scope.names.all (fun x=>(decide (x.2≠.local) || decide (scope.names.lookup x.1=some .local))&&(decide (x.2≠.cell) || decide (scope.names.lookup x.1=some .cell))&&
  (decide (x.2≠.free) || decide (sc.names.lookup x.1=some .cell) || decide (sc.names.lookup x.1=some .free)))&&
 (aE N.length).all (fun i=>match N[i]? with
  |some x=>(decide (scope.names.lookup x≠some .local)&&decide (scope.names.lookup x≠some .cell)) || decide (i∈own)
  |none=>true)
def tz':Ci->Expr->Bool
 | .zip _ _,.Tuple ..=>true
 | .zip _ _,_=>false
 | .enum _,.Tuple ..=>true
 | .enum _,_=>false
 |_,_=>true
mutual
def pD' (own:List Nat):Ct->Bool
 | .name i=>decide (i∈own)
 | .tup ts=>jd' own ts
 | .sub _ _=>false
def jd' (own:List Nat):Cts->Bool
 | .nil=>true
 | .cons t r=>pD' own t&&jd' own r
end
def tld (B:List Str):Bool:=decide (("~":Str)∈B)
def hat (B:List Str):Bool:=decide (("^":Str)∈B)
def pct (B:List Str):Bool:=decide (("%":Str)∈B)
def pE' (x:Str):Str:=⟨#[33]++x.cps⟩
theorem ap' {P:Prop} (h:false=true):P:=(aq h).elim
theorem f0' {a b:Bool} (h:(a&&b)=true):a=true/\b=true:=by
 cases a with
 |true=>exact⟨rfl,h⟩
 |false=>exact ap' h
def us' (e:Expr) (f:Expr->Expr->Bool):Bool:=match e with
 | .BoolOp .And [x,y] _=>f x y
 | .BoolOp .And (x :: y :: z :: r) pos=>f x (.BoolOp .And (y :: z :: r) pos)
 |_=>false
theorem je' {e:Expr} {f:Expr->Expr->Bool} (h:us' e f=true):(∃x y pos,e=.BoolOp .And [x,y] pos/\f x y=true)\/∃x y z r pos,e=.BoolOp .And (x :: y :: z :: r) pos/\f x (.BoolOp .And (y :: z :: r) pos)=true:=by
 cases e with
 |BoolOp o vs pos=>
  cases o with
  |And=>
   cases vs with
   |nil=>exact ap' h
   |cons x r=>
    cases r with
    |nil=>exact ap' h
    |cons y r=>
     cases r with
     |nil=>exact .inl ⟨x,y,pos,rfl,h⟩
     |cons z r=>exact .inr ⟨x,y,z,r,pos,rfl,h⟩
  |_=>exact ap' h
 |_=>exact ap' h
def vOr (e:Expr) (f:Expr->Expr->Bool):Bool:=match e with
 | .BoolOp .Or [x,y] _=>f x y
 | .BoolOp .Or (x :: y :: z :: r) pos=>f x (.BoolOp .Or (y :: z :: r) pos)
 |_=>false
theorem mI' {e:Expr} {f:Expr->Expr->Bool} (h:vOr e f=true):(∃x y pos,e=.BoolOp .Or [x,y] pos/\f x y=true)\/∃x y z r pos,e=.BoolOp .Or (x :: y :: z :: r) pos/\f x (.BoolOp .Or (y :: z :: r) pos)=true:=by
 cases e with
 |BoolOp o vs pos=>
  cases o with
  |Or=>
   cases vs with
   |nil=>exact ap' h
   |cons x r=>
    cases r with
    |nil=>exact ap' h
    |cons y r=>
     cases r with
     |nil=>exact .inl ⟨x,y,pos,rfl,h⟩
     |cons z r=>exact .inr ⟨x,y,z,r,pos,rfl,h⟩
  |_=>exact ap' h
 |_=>exact ap' h
def bm' {α:Type} (z:List α) (f:Bool):Bool:=match z with
 | []=>f
 |_=>false
theorem ao' {α:Type} {z:List α} {f:Bool} (h:bm' z f=true):z=[]/\f=true:=by
 cases z with
 |nil=>exact⟨rfl,h⟩
 |_=>exact ap' h
def aB' {α:Type} (z:List α) (f:α->List α->Bool):Bool:=match z with
 |x :: r=>f x r
 |_=>false
theorem al' {α:Type} {z:List α} {f:α->List α->Bool} (h:aB' z f=true):∃x r,z=x :: r/\f x r=true:=by
 cases z with
 |cons x r=>exact⟨x,r,rfl,h⟩
 |_=>exact ap' h
def jf' {α:Type} (z:Option α) (f:Bool):Bool:=match z with
 |none=>f
 |_=>false
theorem fm' {α:Type} {z:Option α} {f:Bool} (h:jf' z f=true):z=none/\f=true:=by
 cases z with
 |none=>exact⟨rfl,h⟩
 |_=>exact ap' h
def jg' {α:Type} (z:Option α) (f:α->Bool):Bool:=match z with
 |some x=>f x
 |_=>false
theorem fn' {α:Type} {z:Option α} {f:α->Bool} (h:jg' z f=true):∃x,z=some x/\f x=true:=by
 cases z with
 |some x=>exact⟨x,rfl,h⟩
 |_=>exact ap' h
def qS' (z:Comprehension) (f:Expr->Expr->List Expr->Int->Bool):Bool:=f z.target z.iter z.ifs z.is_async
theorem le' {z:Comprehension} {f:Expr->Expr->List Expr->Int->Bool} (h:qS' z f=true):∃a b c d,z=⟨a,b,c,d⟩/\f a b c d=true:=by
 cases z
 exact⟨_,_,_,_,rfl,h⟩
def bE' (z:Expr) (f:Str->Pos->Bool):Bool:=match z with
 | .Name x0 x1=>f x0 x1
 |_=>false
theorem aI' {z f} (h:bE' z f=true):∃x0 x1,z=.Name x0 x1/\f x0 x1=true:=by
 cases z with
 |Name x0 x1=>exact⟨x0,x1,rfl,h⟩
 |_=>exact ap' h
def bF' (z:Expr) (f:Const->Nat->Pos->Bool):Bool:=match z with
 | .Constant x0 x1 x2=>f x0 x1 x2
 |_=>false
theorem bc' {z f} (h:bF' z f=true):∃x0 x1 x2,z=.Constant x0 x1 x2/\f x0 x1 x2=true:=by
 cases z with
 |Constant x0 x1 x2=>exact⟨x0,x1,x2,rfl,h⟩
 |_=>exact ap' h
def mJ' (z:Const) (f:Int->Bool):Bool:=match z with
 | .int x0=>f x0
 |_=>false
theorem jh' {z f} (h:mJ' z f=true):∃x0,z=.int x0/\f x0=true:=by
 cases z with
 |int x0=>exact⟨x0,rfl,h⟩
 |_=>exact ap' h
def ji' (z:Const) (f:Bool->Bool):Bool:=match z with
 | .bool x0=>f x0
 |_=>false
theorem hH' {z f} (h:ji' z f=true):∃x0,z=.bool x0/\f x0=true:=by
 cases z with
 |bool x0=>exact⟨x0,rfl,h⟩
 |_=>exact ap' h
def jj' (z:Const) (f:Bool):Bool:=match z with
 | .none=>f
 |_=>false
theorem hI' {z f} (h:jj' z f=true):z=.none/\f=true:=by
 cases z with
 |none=>exact⟨rfl,h⟩
 |_=>exact ap' h
def mK' (z:Const) (f:Str->Bool):Bool:=match z with
 | .str x0=>f x0
 |_=>false
theorem jk' {z f} (h:mK' z f=true):∃x0,z=.str x0/\f x0=true:=by
 cases z with
 |str x0=>exact⟨x0,rfl,h⟩
 |_=>exact ap' h
def gC' (z:Expr) (f:Expr->Operator->Expr->Pos->Bool):Bool:=match z with
 | .BinOp x0 x1 x2 x3=>f x0 x1 x2 x3
 |_=>false
theorem f1' {z f} (h:gC' z f=true):∃x0 x1 x2 x3,z=.BinOp x0 x1 x2 x3/\f x0 x1 x2 x3=true:=by
 cases z with
 |BinOp x0 x1 x2 x3=>exact⟨x0,x1,x2,x3,rfl,h⟩
 |_=>exact ap' h
def dg' (z:Expr) (f:UnaryOp->Expr->Pos->Bool):Bool:=match z with
 | .UnaryOp x0 x1 x2=>f x0 x1 x2
 |_=>false
theorem c1' {z f} (h:dg' z f=true):∃x0 x1 x2,z=.UnaryOp x0 x1 x2/\f x0 x1 x2=true:=by
 cases z with
 |UnaryOp x0 x1 x2=>exact⟨x0,x1,x2,rfl,h⟩
 |_=>exact ap' h
def jl' (z:UnaryOp) (f:Bool):Bool:=match z with
 | .USub=>f
 |_=>false
theorem hJ' {z f} (h:jl' z f=true):z=.USub/\f=true:=by
 cases z with
 |USub=>exact⟨rfl,h⟩
 |_=>exact ap' h
def mL' (z:UnaryOp) (f:Bool):Bool:=match z with
 | .Not=>f
 |_=>false
theorem jm' {z f} (h:mL' z f=true):z=.Not/\f=true:=by
 cases z with
 |Not=>exact⟨rfl,h⟩
 |_=>exact ap' h
def dh' (z:Expr) (f:Expr->List CmpOp->List Expr->Pos->Bool):Bool:=match z with
 | .Compare x0 x1 x2 x3=>f x0 x1 x2 x3
 |_=>false
theorem c2' {z f} (h:dh' z f=true):∃x0 x1 x2 x3,z=.Compare x0 x1 x2 x3/\f x0 x1 x2 x3=true:=by
 cases z with
 |Compare x0 x1 x2 x3=>exact⟨x0,x1,x2,x3,rfl,h⟩
 |_=>exact ap' h
def gD' (z:Expr) (f:Expr->Expr->Expr->Pos->Bool):Bool:=match z with
 | .IfExp x0 x1 x2 x3=>f x0 x1 x2 x3
 |_=>false
theorem f2' {z f} (h:gD' z f=true):∃x0 x1 x2 x3,z=.IfExp x0 x1 x2 x3/\f x0 x1 x2 x3=true:=by
 cases z with
 |IfExp x0 x1 x2 x3=>exact⟨x0,x1,x2,x3,rfl,h⟩
 |_=>exact ap' h
def dB' (z:Expr) (f:List Expr->Nat->Pos->Bool):Bool:=match z with
 | .Tuple x0 x1 x2=>f x0 x1 x2
 |_=>false
theorem cP' {z f} (h:dB' z f=true):∃x0 x1 x2,z=.Tuple x0 x1 x2/\f x0 x1 x2=true:=by
 cases z with
 |Tuple x0 x1 x2=>exact⟨x0,x1,x2,rfl,h⟩
 |_=>exact ap' h
def jn' (z:Expr) (f:List Expr->Pos->Bool):Bool:=match z with
 | .List x0 x1=>f x0 x1
 |_=>false
theorem hK' {z f} (h:jn' z f=true):∃x0 x1,z=.List x0 x1/\f x0 x1=true:=by
 cases z with
 |List x0 x1=>exact⟨x0,x1,rfl,h⟩
 |_=>exact ap' h
def cr' (z:Expr) (f:Expr->Expr->Pos->Bool):Bool:=match z with
 | .Subscript x0 x1 x2=>f x0 x1 x2
 |_=>false
theorem cs' {z f} (h:cr' z f=true):∃x0 x1 x2,z=.Subscript x0 x1 x2/\f x0 x1 x2=true:=by
 cases z with
 |Subscript x0 x1 x2=>exact⟨x0,x1,x2,rfl,h⟩
 |_=>exact ap' h
def gE' (z:Expr) (f:Option Expr->Option Expr->Option Expr->Pos->Bool):Bool:=match z with
 | .Slice x0 x1 x2 x3=>f x0 x1 x2 x3
 |_=>false
theorem f3' {z f} (h:gE' z f=true):∃x0 x1 x2 x3,z=.Slice x0 x1 x2 x3/\f x0 x1 x2 x3=true:=by
 cases z with
 |Slice x0 x1 x2 x3=>exact⟨x0,x1,x2,x3,rfl,h⟩
 |_=>exact ap' h
def cQ' (z:Expr) (f:Expr->List Expr->List Keyword->Pos->Bool):Bool:=match z with
 | .Call x0 x1 x2 x3=>f x0 x1 x2 x3
 |_=>false
theorem bA' {z f} (h:cQ' z f=true):∃x0 x1 x2 x3,z=.Call x0 x1 x2 x3/\f x0 x1 x2 x3=true:=by
 cases z with
 |Call x0 x1 x2 x3=>exact⟨x0,x1,x2,x3,rfl,h⟩
 |_=>exact ap' h
def dt' (z:Expr) (f:Expr->Str->Pos->Bool):Bool:=match z with
 | .Attribute x0 x1 x2=>f x0 x1 x2
 |_=>false
theorem dP' {z f} (h:dt' z f=true):∃x0 x1 x2,z=.Attribute x0 x1 x2/\f x0 x1 x2=true:=by
 cases z with
 |Attribute x0 x1 x2=>exact⟨x0,x1,x2,rfl,h⟩
 |_=>exact ap' h
def dQ' (z:Expr) (f:Expr->List Comprehension->Scope->Pos->Bool):Bool:=match z with
 | .ListComp x0 x1 x2 x3=>f x0 x1 x2 x3
 |_=>false
theorem d2' {z f} (h:dQ' z f=true):∃x0 x1 x2 x3,z=.ListComp x0 x1 x2 x3/\f x0 x1 x2 x3=true:=by
 cases z with
 |ListComp x0 x1 x2 x3=>exact⟨x0,x1,x2,x3,rfl,h⟩
 |_=>exact ap' h
def jo' (z:Stmt) (f:Expr->Pos->Bool):Bool:=match z with
 | .Expr x0 x1=>f x0 x1
 |_=>false
theorem hL' {z f} (h:jo' z f=true):∃x0 x1,z=.Expr x0 x1/\f x0 x1=true:=by
 cases z with
 |Expr x0 x1=>exact⟨x0,x1,rfl,h⟩
 |_=>exact ap' h
def fo' (z:Stmt) (f:Option Expr->Pos->Bool):Bool:=match z with
 | .Return x0 x1=>f x0 x1
 |_=>false
theorem fp' {z f} (h:fo' z f=true):∃x0 x1,z=.Return x0 x1/\f x0 x1=true:=by
 cases z with
 |Return x0 x1=>exact⟨x0,x1,rfl,h⟩
 |_=>exact ap' h
def c3' (z:Stmt) (f:List Expr->Expr->Pos->Bool):Bool:=match z with
 | .Assign x0 x1 x2=>f x0 x1 x2
 |_=>false
theorem ct' {z f} (h:c3' z f=true):∃x0 x1 x2,z=.Assign x0 x1 x2/\f x0 x1 x2=true:=by
 cases z with
 |Assign x0 x1 x2=>exact⟨x0,x1,x2,rfl,h⟩
 |_=>exact ap' h
def qT' (z:Stmt) (f:Expr->List Stmt->List Stmt->Pos->Bool):Bool:=match z with
 | .If x0 x1 x2 x3=>f x0 x1 x2 x3
 |_=>false
theorem lf' {z f} (h:qT' z f=true):∃x0 x1 x2 x3,z=.If x0 x1 x2 x3/\f x0 x1 x2 x3=true:=by
 cases z with
 |If x0 x1 x2 x3=>exact⟨x0,x1,x2,x3,rfl,h⟩
 |_=>exact ap' h
def gF' (z:Stmt) (f:Expr->List Stmt->List Stmt->Pos->Bool):Bool:=match z with
 | .While x0 x1 x2 x3=>f x0 x1 x2 x3
 |_=>false
theorem f4' {z f} (h:gF' z f=true):∃x0 x1 x2 x3,z=.While x0 x1 x2 x3/\f x0 x1 x2 x3=true:=by
 cases z with
 |While x0 x1 x2 x3=>exact⟨x0,x1,x2,x3,rfl,h⟩
 |_=>exact ap' h
def mM' (z:Stmt) (f:Expr->Expr->List Stmt->List Stmt->Pos->Bool):Bool:=match z with
 | .For x0 x1 x2 x3 x4=>f x0 x1 x2 x3 x4
 |_=>false
theorem jp' {z f} (h:mM' z f=true):∃x0 x1 x2 x3 x4,z=.For x0 x1 x2 x3 x4/\f x0 x1 x2 x3 x4=true:=by
 cases z with
 |For x0 x1 x2 x3 x4=>exact⟨x0,x1,x2,x3,x4,rfl,h⟩
 |_=>exact ap' h
def v1 (zz:Expr) (f:Str->Bool):Bool:=bE' zz fun y1 y2=>f y1
theorem ut' {zz f} {P:Prop} (h:v1 zz f=true) (k:∀x w1,zz=.Name x w1->f x=true->P):P:=by
 obtain⟨y1,y2,e0,h⟩:=aI' h
 exact k y1 y2 (by rw[e0]) h
def v2 (zz:Expr) (f:Int->Bool):Bool:=bF' zz fun y1 y2 y3=>mJ' y1 fun y4=>f y4
theorem wu' {zz f} {P:Prop} (h:v2 zz f=true) (k:∀m w1 w2,zz=.Constant (.int m) w1 w2->f m=true->P):P:=by
 obtain⟨y1,y2,y3,e0,h⟩:=bc' h
 obtain⟨y4,e1,h⟩:=jh' h
 exact k y4 y2 y3 (by rw[e0,e1]) h
def v3 (zz:Expr) (f:Bool->Bool):Bool:=bF' zz fun y1 y2 y3=>ji' y1 fun y4=>f y4
theorem wv' {zz f} {P:Prop} (h:v3 zz f=true) (k:∀c w1 w2,zz=.Constant (.bool c) w1 w2->f c=true->P):P:=by
 obtain⟨y1,y2,y3,e0,h⟩:=bc' h
 obtain⟨y4,e1,h⟩:=hH' h
 exact k y4 y2 y3 (by rw[e0,e1]) h
def v4 (zz:Expr) (f:Bool):Bool:=bF' zz fun y1 y2 y3=>jj' y1 (f)
theorem ww' {zz f} {P:Prop} (h:v4 zz f=true) (k:∀w1 w2,zz=.Constant .none w1 w2->f=true->P):P:=by
 obtain⟨y1,y2,y3,e0,h⟩:=bc' h
 obtain⟨e1,h⟩:=hI' h
 exact k y2 y3 (by rw[e0,e1]) h
def v5 (zz:Expr) (f:Str->Bool):Bool:=bF' zz fun y1 y2 y3=>mK' y1 fun y4=>f y4
theorem wx' {zz f} {P:Prop} (h:v5 zz f=true) (k:∀y w1 w2,zz=.Constant (.str y) w1 w2->f y=true->P):P:=by
 obtain⟨y1,y2,y3,e0,h⟩:=bc' h
 obtain⟨y4,e1,h⟩:=jk' h
 exact k y4 y2 y3 (by rw[e0,e1]) h
def v6 (zz:Expr) (f:Expr->Operator->Expr->Bool):Bool:=gC' zz fun y1 y2 y3 y4=>f y1 y2 y3
theorem wy' {zz f} {P:Prop} (h:v6 zz f=true) (k:∀ea op' eb w1,zz=.BinOp ea op' eb w1->f ea op' eb=true->P):P:=by
 obtain⟨y1,y2,y3,y4,e0,h⟩:=f1' h
 exact k y1 y2 y3 y4 (by rw[e0]) h
def v7 (zz:Expr) (f:Expr->Bool):Bool:=dg' zz fun y1 y2 y3=>jl' y1 (f y2)
theorem wz' {zz f} {P:Prop} (h:v7 zz f=true) (k:∀ea w1,zz=.UnaryOp .USub ea w1->f ea=true->P):P:=by
 obtain⟨y1,y2,y3,e0,h⟩:=c1' h
 obtain⟨e1,h⟩:=hJ' h
 exact k y2 y3 (by rw[e0,e1]) h
def v8 (zz:Expr) (f:Expr->Bool):Bool:=dg' zz fun y1 y2 y3=>mL' y1 (f y2)
theorem vS' {zz f} {P:Prop} (h:v8 zz f=true) (k:∀ea w1,zz=.UnaryOp .Not ea w1->f ea=true->P):P:=by
 obtain⟨y1,y2,y3,e0,h⟩:=c1' h
 obtain⟨e1,h⟩:=jm' h
 exact k y2 y3 (by rw[e0,e1]) h
def v9 (zz:Expr) (f:Expr->CmpOp->Expr->Bool):Bool:=dh' zz fun y1 y2 y3 y4=>aB' y2 fun y5 y6=>bm' y6 (aB' y3 fun y7 y8=>bm' y8 (f y1 y5 y7))
theorem vT' {zz f} {P:Prop} (h:v9 zz f=true) (k:∀ea op' eb w1,zz=.Compare ea (op' :: []) (eb :: []) w1->f ea op' eb=true->P):P:=by
 obtain⟨y1,y2,y3,y4,e0,h⟩:=c2' h
 obtain⟨y5,y6,e1,h⟩:=al' h
 obtain⟨e2,h⟩:=ao' h
 obtain⟨y7,y8,e3,h⟩:=al' h
 obtain⟨e4,h⟩:=ao' h
 exact k y1 y5 y7 y4 (by rw[e0,e1,e2,e3,e4]) h
def v10 (zz:Expr) (f:Expr->CmpOp->CmpOp->Expr->Expr->Bool):Bool:=dh' zz fun y1 y2 y3 y4=>aB' y2 fun y5 y6=>aB' y6 fun y7 y8=>bm' y8 (aB' y3 fun y9 y10=>aB' y10 fun y11 y12=>bm' y12 (f y1 y5 y7 y9 y11))
theorem qU' {zz f} {P:Prop} (h:v10 zz f=true) (k:∀ea o1 o2 eb ec w1,zz=.Compare ea (o1 :: (o2 :: [])) (eb :: (ec :: [])) w1->f ea o1 o2 eb ec=true->P):P:=by
 obtain⟨y1,y2,y3,y4,e0,h⟩:=c2' h
 obtain⟨y5,y6,e1,h⟩:=al' h
 obtain⟨y7,y8,e2,h⟩:=al' h
 obtain⟨e3,h⟩:=ao' h
 obtain⟨y9,y10,e4,h⟩:=al' h
 obtain⟨y11,y12,e5,h⟩:=al' h
 obtain⟨e6,h⟩:=ao' h
 exact k y1 y5 y7 y9 y11 y4 (by rw[e0,e1,e2,e3,e4,e5,e6]) h
def v11 (zz:Expr) (f:Expr->Expr->Expr->Bool):Bool:=gD' zz fun y1 y2 y3 y4=>f y1 y2 y3
theorem uu' {zz f} {P:Prop} (h:v11 zz f=true) (k:∀eq ea eb w1,zz=.IfExp eq ea eb w1->f eq ea eb=true->P):P:=by
 obtain⟨y1,y2,y3,y4,e0,h⟩:=f2' h
 exact k y1 y2 y3 y4 (by rw[e0]) h
def v12 (zz:Expr) (f:List Expr->Bool):Bool:=dB' zz fun y1 y2 y3=>f y1
theorem qV' {zz f} {P:Prop} (h:v12 zz f=true) (k:∀xs w1 w2,zz=.Tuple xs w1 w2->f xs=true->P):P:=by
 obtain⟨y1,y2,y3,e0,h⟩:=cP' h
 exact k y1 y2 y3 (by rw[e0]) h
def v13 (zz:Expr) (f:List Expr->Bool):Bool:=jn' zz fun y1 y2=>f y1
theorem uv' {zz f} {P:Prop} (h:v13 zz f=true) (k:∀xs w1,zz=.List xs w1->f xs=true->P):P:=by
 obtain⟨y1,y2,e0,h⟩:=hK' h
 exact k y1 y2 (by rw[e0]) h
def v14 (zz:Expr) (f:Expr->Expr->Bool):Bool:=cr' zz fun y1 y2 y3=>f y1 y2
theorem qW' {zz f} {P:Prop} (h:v14 zz f=true) (k:∀ea eb w1,zz=.Subscript ea eb w1->f ea eb=true->P):P:=by
 obtain⟨y1,y2,y3,e0,h⟩:=cs' h
 exact k y1 y2 y3 (by rw[e0]) h
def v15 (zz:Expr) (f:Expr->Option Expr->Option Expr->Bool):Bool:=cr' zz fun y1 y2 y3=>gE' y2 fun y4 y5 y6 y7=>jf' y6 (f y1 y4 y5)
theorem uw' {zz f} {P:Prop} (h:v15 zz f=true) (k:∀ea l h w1 w2,zz=.Subscript ea (.Slice l h none w1) w2->f ea l h=true->P):P:=by
 obtain⟨y1,y2,y3,e0,h⟩:=cs' h
 obtain⟨y4,y5,y6,y7,e1,h⟩:=f3' h
 obtain⟨e2,h⟩:=fm' h
 exact k y1 y4 y5 y7 y3 (by rw[e0,e1,e2]) h
def v16 (zz:Expr) (f:Str->Expr->List Expr->Bool):Bool:=cQ' zz fun y1 y2 y3 y4=>bE' y1 fun y5 y6=>aB' y2 fun y7 y8=>bm' y3 (f y5 y7 y8)
theorem qX' {zz f} {P:Prop} (h:v16 zz f=true) (k:∀x w1 e r w2,zz=.Call (.Name x w1) (e :: r) [] w2->f x e r=true->P):P:=by
 obtain⟨y1,y2,y3,y4,e0,h⟩:=bA' h
 obtain⟨y5,y6,e1,h⟩:=aI' h
 obtain⟨y7,y8,e2,h⟩:=al' h
 obtain⟨e3,h⟩:=ao' h
 exact k y5 y6 y7 y8 y4 (by rw[e0,e1,e2,e3]) h
def v17 (zz:Expr) (f:Expr->Str->Pos->List Expr->Pos->Bool):Bool:=cQ' zz fun y1 y2 y3 y4=>dt' y1 fun y5 y6 y7=>bm' y3 (f y5 y6 y7 y2 y4)
theorem ux' {zz f} {P:Prop} (h:v17 zz f=true) (k:∀eo nm apos args pos,zz=.Call (.Attribute eo nm apos) args [] pos->f eo nm apos args pos=true->P):P:=by
 obtain⟨y1,y2,y3,y4,e0,h⟩:=bA' h
 obtain⟨y5,y6,y7,e1,h⟩:=dP' h
 obtain⟨e2,h⟩:=ao' h
 exact k y5 y6 y7 y2 y4 (by rw[e0,e1,e2]) h
def v23 (zz:Expr) (f:Str->Expr->Bool):Bool:=cQ' zz fun y1 y2 y3 y4=>bE' y1 fun y5 y6=>aB' y2 fun y7 y8=>bm' y8 (bm' y3 (f y5 y7))
theorem qY' {zz f} {P:Prop} (h:v23 zz f=true) (k:∀x w1 y w2,zz=.Call (.Name x w1) (y :: []) [] w2->f x y=true->P):P:=by
 obtain⟨y1,y2,y3,y4,e0,h⟩:=bA' h
 obtain⟨y5,y6,e1,h⟩:=aI' h
 obtain⟨y7,y8,e2,h⟩:=al' h
 obtain⟨e3,h⟩:=ao' h
 obtain⟨e4,h⟩:=ao' h
 exact k y5 y6 y7 y4 (by rw[e0,e1,e2,e3,e4]) h
def v84 (zz:Expr) (f:Str->Str->Expr->Expr->Bool):Bool:=cQ' zz fun y1 y2 y3 y4=>bE' y1 fun y5 y6=>aB' y2 fun y7 y8=>cQ' y7 fun y9 y10 y11 y12=>bE' y9 fun y13 y14=>aB' y10 fun y15 y16=>aB' y16 fun y17 y18=>bm' y18 (bm' y11 (bm' y8 (bm' y3 (f y5 y13 y15 y17))))
theorem uy' {zz f} {P:Prop} (h:v84 zz f=true) (k:∀n1 w1 n2 w2 y y' w3 w4,zz=.Call (.Name n1 w1) ((.Call (.Name n2 w2) (y :: (y' :: [])) [] w3) :: []) [] w4->f n1 n2 y y'=true->P):P:=by
 obtain⟨y1,y2,y3,y4,e0,h⟩:=bA' h
 obtain⟨y5,y6,e1,h⟩:=aI' h
 obtain⟨y7,y8,e2,h⟩:=al' h
 obtain⟨y9,y10,y11,y12,e3,h⟩:=bA' h
 obtain⟨y13,y14,e4,h⟩:=aI' h
 obtain⟨y15,y16,e5,h⟩:=al' h
 obtain⟨y17,y18,e6,h⟩:=al' h
 obtain⟨e7,h⟩:=ao' h
 obtain⟨e8,h⟩:=ao' h
 obtain⟨e9,h⟩:=ao' h
 obtain⟨e10,h⟩:=ao' h
 exact k y5 y6 y13 y14 y15 y17 y12 y4 (by rw[e0,e1,e2,e3,e4,e5,e6,e7,e8,e9,e10]) h
def v26 (zz:Expr) (f:Expr->Expr->Expr->List Expr->Int->Scope->Bool):Bool:=dQ' zz fun y1 y2 y3 y4=>aB' y2 fun y5 y6=>qS' y5 fun y7 y8 y9 y10=>bm' y6 (f y1 y7 y8 y9 y10 y3)
theorem uz' {zz f} {P:Prop} (h:v26 zz f=true) (k:∀ee tg iter ifs a scope w1,zz=.ListComp ee (⟨tg,iter,ifs,a⟩ :: []) scope w1->f ee tg iter ifs a scope=true->P):P:=by
 obtain⟨y1,y2,y3,y4,e0,h⟩:=d2' h
 obtain⟨y5,y6,e1,h⟩:=al' h
 obtain⟨y7,y8,y9,y10,e2,h⟩:=le' h
 obtain⟨e3,h⟩:=ao' h
 exact k y1 y7 y8 y9 y10 y3 y4 (by rw[e0,e1,e2,e3]) h
def v29 (zz:List Expr) (f:Bool):Bool:=bm' zz (f)
theorem jq' {zz f} {P:Prop} (h:v29 zz f=true) (k:zz=[]->f=true->P):P:=by
 obtain⟨e0,h⟩:=ao' h
 exact k (by rw[e0]) h
def v30 (zz:List Expr) (f:Expr->List Expr->Bool):Bool:=aB' zz fun y1 y2=>f y1 y2
theorem lg' {zz f} {P:Prop} (h:v30 zz f=true) (k:∀x xs,zz=(x :: xs)->f x xs=true->P):P:=by
 obtain⟨y1,y2,e0,h⟩:=al' h
 exact k y1 y2 (by rw[e0]) h
def v31 (zz:List Expr) (f:Expr->Bool):Bool:=aB' zz fun y1 y2=>bm' y2 (f y1)
theorem uA' {zz f} {P:Prop} (h:v31 zz f=true) (k:∀e,zz=(e :: [])->f e=true->P):P:=by
 obtain⟨y1,y2,e0,h⟩:=al' h
 obtain⟨e1,h⟩:=ao' h
 exact k y1 (by rw[e0,e1]) h
def v32 (zz:Option Expr) (f:Bool):Bool:=jf' zz (f)
theorem uB' {zz f} {P:Prop} (h:v32 zz f=true) (k:zz=none->f=true->P):P:=by
 obtain⟨e0,h⟩:=fm' h
 exact k (by rw[e0]) h
def v33 (zz:Option Expr) (f:Expr->Bool):Bool:=jg' zz fun y1=>f y1
theorem uC' {zz f} {P:Prop} (h:v33 zz f=true) (k:∀y,zz=(some y)->f y=true->P):P:=by
 obtain⟨y1,e0,h⟩:=fn' h
 exact k y1 (by rw[e0]) h
def v34 (zz:Expr) (f:Str->Expr->Expr->Bool):Bool:=cQ' zz fun y1 y2 y3 y4=>bE' y1 fun y5 y6=>aB' y2 fun y7 y8=>aB' y8 fun y9 y10=>bm' y10 (bm' y3 (f y5 y7 y9))
theorem uD' {zz f} {P:Prop} (h:v34 zz f=true) (k:∀n w1 y z w2,zz=.Call (.Name n w1) (y :: (z :: [])) [] w2->f n y z=true->P):P:=by
 obtain⟨y1,y2,y3,y4,e0,h⟩:=bA' h
 obtain⟨y5,y6,e1,h⟩:=aI' h
 obtain⟨y7,y8,e2,h⟩:=al' h
 obtain⟨y9,y10,e3,h⟩:=al' h
 obtain⟨e4,h⟩:=ao' h
 obtain⟨e5,h⟩:=ao' h
 exact k y5 y6 y7 y9 y4 (by rw[e0,e1,e2,e3,e4,e5]) h
def v36 (zz:Stmt) (f:Expr->Bool):Bool:=jo' zz fun y1 y2=>f y1
theorem uE' {zz f} {P:Prop} (h:v36 zz f=true) (k:∀x w1,zz=.Expr x w1->f x=true->P):P:=by
 obtain⟨y1,y2,e0,h⟩:=hL' h
 exact k y1 y2 (by rw[e0]) h
def v37 (zz:Stmt) (f:Expr->Bool):Bool:=fo' zz fun y1 y2=>jg' y1 fun y3=>f y3
theorem uF' {zz f} {P:Prop} (h:v37 zz f=true) (k:∀x w1,zz=.Return (some x) w1->f x=true->P):P:=by
 obtain⟨y1,y2,e0,h⟩:=fp' h
 obtain⟨y3,e1,h⟩:=fn' h
 exact k y3 y2 (by rw[e0,e1]) h
def v39 (zz:Stmt) (f:Expr->Expr->Bool):Bool:=c3' zz fun y1 y2 y3=>aB' y1 fun y4 y5=>bm' y5 (f y4 y2)
theorem uG' {zz f} {P:Prop} (h:v39 zz f=true) (k:∀tg x w1,zz=.Assign (tg :: []) x w1->f tg x=true->P):P:=by
 obtain⟨y1,y2,y3,e0,h⟩:=ct' h
 obtain⟨y4,y5,e1,h⟩:=al' h
 obtain⟨e2,h⟩:=ao' h
 exact k y4 y2 y3 (by rw[e0,e1,e2]) h
def v43 (zz:Stmt) (f:Str->Pos->Str->Pos->Expr->Expr->Bool):Bool:=c3' zz fun y1 y2 y3=>aB' y1 fun y4 y5=>dB' y4 fun y6 y7 y8=>aB' y6 fun y9 y10=>bE' y9 fun y11 y12=>aB' y10 fun y13 y14=>bE' y13 fun y15 y16=>bm' y14 (bm' y5 (dB' y2 fun y17 y18 y19=>aB' y17 fun y20 y21=>aB' y21 fun y22 y23=>bm' y23 (f y11 y12 y15 y16 y20 y22)))
theorem uH' {zz f} {P:Prop} (h:v43 zz f=true) (k:∀x px y py w1 w2 ea eb w3 w4 w5,zz=.Assign ((.Tuple ((.Name x px) :: ((.Name y py) :: [])) w1 w2) :: []) (.Tuple (ea :: (eb :: [])) w3 w4) w5->f x px y py ea eb=true->P):P:=by
 obtain⟨y1,y2,y3,e0,h⟩:=ct' h
 obtain⟨y4,y5,e1,h⟩:=al' h
 obtain⟨y6,y7,y8,e2,h⟩:=cP' h
 obtain⟨y9,y10,e3,h⟩:=al' h
 obtain⟨y11,y12,e4,h⟩:=aI' h
 obtain⟨y13,y14,e5,h⟩:=al' h
 obtain⟨y15,y16,e6,h⟩:=aI' h
 obtain⟨e7,h⟩:=ao' h
 obtain⟨e8,h⟩:=ao' h
 obtain⟨y17,y18,y19,e9,h⟩:=cP' h
 obtain⟨y20,y21,e10,h⟩:=al' h
 obtain⟨y22,y23,e11,h⟩:=al' h
 obtain⟨e12,h⟩:=ao' h
 exact k y11 y12 y15 y16 y7 y8 y20 y22 y18 y19 y3 (by rw[e0,e1,e2,e3,e4,e5,e6,e7,e8,e9,e10,e11,e12]) h
def v47 (zz:Stmt) (f:Str->Str->Expr->Bool):Bool:=c3' zz fun y1 y2 y3=>aB' y1 fun y4 y5=>bE' y4 fun y6 y7=>aB' y5 fun y8 y9=>bE' y8 fun y10 y11=>bm' y9 (f y6 y10 y2)
theorem uI' {zz f} {P:Prop} (h:v47 zz f=true) (k:∀x w1 y w2 ee w3,zz=.Assign ((.Name x w1) :: ((.Name y w2) :: [])) ee w3->f x y ee=true->P):P:=by
 obtain⟨y1,y2,y3,e0,h⟩:=ct' h
 obtain⟨y4,y5,e1,h⟩:=al' h
 obtain⟨y6,y7,e2,h⟩:=aI' h
 obtain⟨y8,y9,e3,h⟩:=al' h
 obtain⟨y10,y11,e4,h⟩:=aI' h
 obtain⟨e5,h⟩:=ao' h
 exact k y6 y7 y10 y11 y2 y3 (by rw[e0,e1,e2,e3,e4,e5]) h
def v50 (zz:Stmt) (f:Expr->List Stmt->List Stmt->Bool):Bool:=qT' zz fun y1 y2 y3 y4=>f y1 y2 y3
theorem uJ' {zz f} {P:Prop} (h:v50 zz f=true) (k:∀x ss rs w1,zz=.If x ss rs w1->f x ss rs=true->P):P:=by
 obtain⟨y1,y2,y3,y4,e0,h⟩:=lf' h
 exact k y1 y2 y3 y4 (by rw[e0]) h
def v51 (zz:Stmt) (f:Expr->List Stmt->Bool):Bool:=gF' zz fun y1 y2 y3 y4=>bm' y3 (f y1 y2)
theorem uK' {zz f} {P:Prop} (h:v51 zz f=true) (k:∀x ss w1,zz=.While x ss [] w1->f x ss=true->P):P:=by
 obtain⟨y1,y2,y3,y4,e0,h⟩:=f4' h
 obtain⟨e1,h⟩:=ao' h
 exact k y1 y2 y4 (by rw[e0,e1]) h
def v52 (zz:Stmt) (f:Expr->Expr->List Stmt->Bool):Bool:=mM' zz fun y1 y2 y3 y4 y5=>bm' y4 (f y1 y2 y3)
theorem uL' {zz f} {P:Prop} (h:v52 zz f=true) (k:∀tg iter ss w1,zz=.For tg iter ss [] w1->f tg iter ss=true->P):P:=by
 obtain⟨y1,y2,y3,y4,y5,e0,h⟩:=jp' h
 obtain⟨e1,h⟩:=ao' h
 exact k y1 y2 y3 y5 (by rw[e0,e1]) h
def v56 (zz:List Stmt) (f:Bool):Bool:=bm' zz (f)
theorem uM' {zz f} {P:Prop} (h:v56 zz f=true) (k:zz=[]->f=true->P):P:=by
 obtain⟨e0,h⟩:=ao' h
 exact k (by rw[e0]) h
def v57 (zz:List Stmt) (f:Stmt->List Stmt->Bool):Bool:=aB' zz fun y1 y2=>f y1 y2
theorem uN' {zz f} {P:Prop} (h:v57 zz f=true) (k:∀x xs,zz=(x :: xs)->f x xs=true->P):P:=by
 obtain⟨y1,y2,e0,h⟩:=al' h
 exact k y1 y2 (by rw[e0]) h
mutual
def mE (N B:List Str) (sc:Scope):Ce->Expr->Bool
 | .var i,e=>v1 e fun x=>ds' N i x&&vis sc x
 | .int n,e=>v2 e fun m=>decide (n=m)
 | .bl b,e=>v3 e fun c=>decide (b=c)
 | .non,e=>v4 e (true)
 | .str x,e=>v5 e fun y=>decide (x=y)
 | .ty n,e=>v1 e fun x=>decide (x=Str.ofString n)&&glb sc x&&fl'.contains n&&decide (x∈B)
 | .bin op a b,e=>v6 e fun ea op' eb=>decide (op=op')&&mE N B sc a ea&&mE N B sc b eb
 | .neg a,e=>v7 e fun ea=>mE N B sc a ea
 | .not a,e=>v8 e fun ea=>mE N B sc a ea
 | .and a b,e=>us' e fun x y=>mE N B sc a x&&mE N B sc b y
 | .or a b,e=>vOr e fun x y=>mE N B sc a x&&mE N B sc b y
 | .cmp op a b,e=>v9 e fun ea op' eb=>decide (op=op')&&mE N B sc a ea&&mE N B sc b eb&&cL' eb
 | .chn op1 op2 a b c,e=>v10 e fun ea o1 o2 eb ec=>decide (op1=o1)&&decide (op2=o2)&&mE N B sc a ea&&mE N B sc b eb&&mE N B sc c ec&&cL' ec
 | .ife q a b,e=>v11 e fun eq ea eb=>mQ N B sc q eq&&mE N B sc a ea&&mE N B sc b eb
 | .tup es,e=>v12 e fun xs=>mA N B sc es xs
 | .lst es,e=>v13 e fun xs=>mA N B sc es xs
 | .idx a b,e=>v14 e fun ea eb=>mE N B sc a ea&&mE N B sc b eb&&dA' eb
 | .cut a lo hi,e=>v15 e fun ea l h=>mE N B sc a ea&&mO N B sc lo l&&mO N B sc hi h
 | .call f es,e=>v16 e fun x e r=>decide (x=f)&&glb sc x&&mA N B sc es (e :: r)&&!(x == ("__debug__":Str))&&!(hat B)&&!(tld B&&decide (pE' x∈B))
 | .blt f es,e=>v16 e fun x e r=>decide (x=dO' f)&&glb sc x&&mA N B sc es (e :: r)&&decide (x∈B)&&(!(hat B) || decide (f=.isinstance))
 | .met m o es,e=>v17 e fun eo nm apos args pos=>decide (nm=jc' m)&&mE N B sc o eo&&mG' eo&&(apos.endLine == pos.line)&&mA N B sc es args&&decide (args.length<28)
 | .lzp a b,e=>v84 e fun n1 n2 y y2=>decide (n1="list")&&decide (n2="zip")&&glb sc n1&&decide (n1∈B)&&glb sc n2&&decide (n2∈B)&&mE N B sc a y&&aA' y&&mE N B sc b y2&&aA' y2&&!(hat B)
 | .comp elt own t it q .nil,e=>v26 e fun ee tg iter ifs a scope=>!(hat B)&&pC' N sc scope own&&mE N ("~" :: B) scope elt ee&&pD' own t&&decide (a=0)&&mI N B sc it iter&&tz' it tg&&cL' iter&&mT N ("~" :: B) scope t tg&&mQo N ("~" :: B) scope q ifs
 | .comp _ _ _ _ _ (.cons _ _ _ _ _),_=>false
def mA (N B:List Str) (sc:Scope):Ces->List Expr->Bool
 | .nil,es=>v29 es (true)
 | .cons e r,es=>v30 es fun x xs=>mE N B sc e x&&aA' x&&mA N B sc r xs
def mQ (N B:List Str) (sc:Scope):Cq->Expr->Bool
 | .val e,x=>mE N B sc e x&&mH' x
 | .not q,x=>v8 x fun y=>mQ N B sc q y
 | .and a b,e=>us' e fun x y=>mQ N B sc a x&&mQ N B sc b y
 | .or a b,e=>vOr e fun x y=>mQ N B sc a x&&mQ N B sc b y
 | .cmp op a b,e=>v9 e fun ea op' eb=>decide (op=op')&&mE N B sc a ea&&mE N B sc b eb&&cL' eb
 | .chn op1 op2 a b c,e=>v10 e fun ea o1 o2 eb ec=>decide (op1=o1)&&decide (op2=o2)&&mE N B sc a ea&&mE N B sc b eb&&mE N B sc c ec&&cL' ec
def mQo (N B:List Str) (sc:Scope):Cqo->List Expr->Bool
 | .none,es=>v29 es (true)
 | .some q,es=>v31 es fun e=>mQ N B sc q e
def mO (N B:List Str) (sc:Scope):Co->Option Expr->Bool
 | .none,x=>v32 x (true)
 | .some e,x=>v33 x fun y=>mE N B sc e y
def mI (N B:List Str) (sc:Scope):Ci->Expr->Bool
 | .val e,x=>mE N B sc e x
 | .range1 a,x=>v23 x fun n y=>decide (n="range")&&glb sc n&&decide (n∈B)&&mE N B sc a y&&aA' y
 | .zip a b,x=>v34 x fun n y z=>decide (n="zip")&&glb sc n&&decide (n∈B)&&mE N B sc a y&&aA' y&&mE N B sc b z&&aA' z
 | .enum a,x=>v23 x fun n y=>decide (n="enumerate")&&glb sc n&&decide (n∈B)&&mE N B sc a y&&aA' y
def mT (N B:List Str) (sc:Scope):Ct->Expr->Bool
 | .name i,e=>v1 e fun x=>ds' N i x&&locb sc x
 | .tup ts,e=>v12 e fun es=>mTs N B sc ts es&&!(hat B)
 | .sub o i,e=>v14 e fun eo ei=>mE N B sc o eo&&mE N B sc i ei&&dA' ei
def mTs (N B:List Str) (sc:Scope):Cts->List Expr->Bool
 | .nil,es=>v29 es (true)
 | .cons t r,es=>v30 es fun x xs=>mT N B sc t x&&aA' x&&mTs N B sc r xs
end
def f5':Ce->Bool
 |_=>false
mutual
def mS (N B:List Str) (sc:Scope):Cs->Stmt->Bool
 | .expr e,s=>v36 s fun x=>mE N B sc e x&&(match e with | .comp ..=>false|_=>true)&&!f5' e
 | .ret e,s=>v37 s fun x=>mE N B sc e x
 | .asg t e,s=>v39 s fun tg x=>mE N B sc e x&&!f5' e&&mT N B sc t tg&&aA' tg&&(match tg,x with
   | .Tuple ..,.Tuple vs _ _=>vs.all (foldedForSure 8)
   | .Tuple ..,.ListComp ..=>false
   |_,_=>true)
 | .par i j a b,s=>v43 s fun x px y py ea eb=>ds' N i x&&ds' N j y&&decide (i≠j)&&decide (sc.names.lookup x=some .local)&&decide (sc.names.lookup y=some .local)&&
    mE N B sc a ea&&mE N B sc b eb&&aA' ea&&aA' eb&&(px.line == py.line)&&(!(foldedForSure 8 ea&&foldedForSure 8 eb))&&(!(constantsAlone 8 ea&&constantsAlone 8 eb))&&!(hat B)
 | .asgc i j e,s=>v47 s fun x y ee=>ds' N i x&&locb sc x&&ds' N j y&&locb sc y&&mE N B sc e ee
 | .ite q a b,s=>v50 s fun x ss rs=>mQ N B sc q x&&mSs N B sc a ss&&mSs N B sc b rs
 | .whl q b,s=>v51 s fun x ss=>mQ N B sc q x&&mSs N B sc b ss
 | .for_ t it b,s=>v52 s fun tg iter ss=>mI N B sc it iter&&tz' it tg&&cL' iter&&mT N B sc t tg&&mSs N B sc b ss&&!(hat B)
def mSs (N B:List Str) (sc:Scope):Css->List Stmt->Bool
 | .nil,ss=>v56 ss (true)
 | .cons s r,ss=>v57 ss fun x xs=>mS N B sc s x&&mSs N B sc r xs
end
def oa' (CX:CXT) (X:Cx) (xk:L2.St->XK):Prop:=∀(pins:List (Addr×Obj)) (σ:L2.St) (H:Hp) (s:Shared) (e:Value) (s':Shared),Inv X pins σ H s->CX X.stack H s (xk σ) e s'->X.xe e s'
theorem mN' {X:Cx} {xk:L2.St->XK}:oa' CX0 X xk:=fun _ _ _ _ _ _ _ h=>h.elim
structure Rok (C:Rc) (B:List Str) (X:Cx) (sc:Scope):Prop where
 hN:X.N=C.N
 nd:C.N.Nodup
 hK:X.K=C.K
 own:PassesOwn (model X.prog X.w) X.A X.env X.xe
 calm:hat B=false->X.calm=true
 hu:X.A.units+64<cLine
 gd:X.A.guards=some []
 loc:∀x,sc.names.lookup x=some .local->X.env.scope.names.lookup x=some .local
 cel:∀x,sc.names.lookup x=some .cell->X.env.scope.names.lookup x=some .cell/\X.fn x=true
 fre:∀x,sc.names.lookup x=some .free->X.env.scope.names.lookup x=some .cell\/X.env.scope.names.lookup x=some .free
 glo:∀x,sc.names.lookup x=some .globalImplicit->X.env.kindOf x=some .globalImplicit
 fn:∀x sp,C.fs x=some sp->hat B=false->(tld B=true->pE' x∉B)->∃f fd ps k CX,FnOk X.prog X.w X.K X.mg X.base CX k f fd ps sp/\Room k X.A/\X.mg x=some (.ref f)/\W.keepIn X.K (.ref f)=true/\dZ' X.K fd ps []/\(CX=CX0\/CX=CX1 X.prog X.w X.mg/\pE' x∈B)/\oa' CX X C.xk
 blt:∀x∈B,X.mg x=none
 mrk:X.mg "~"=none/\X.mg "^"=none/\X.mg "%"=none
 cls:∀c Ca,C.cl c=some Ca->X.mg c=some (.ref Ca)/\W.nsIn X.K mainGlobals c=some (some (.ref Ca))
 fx:tld B=false->FnCx X
 nohat:tld B=false->hat B=false
 xr:tld B=false->pct B=false->∀nm Ca pins σ H s e t,C.cl nm=some Ca->Inv X pins σ H s->H e=none->X.s₀.heap.get? e=none->(∀p∈X.pn++pins,p.1≠e)->s.heap.get? e=some { cls:=.ref Ca,data:=.fields #[.ref t,.none,.none,.none,.bool false,.none] }->C.xk σ (.str nm 0) none H->X.xe (.ref e) s
section
variable {C:Rc} {B:List Str} {X:Cx} {sc:Scope}
set_option tactic.hygienic true in
theorem Rok.vis (R:Rok C B X sc) {x:Str} (h:R3.vis sc x=true):Vis X.env.scope x:=by
 unfold R3.vis at h
 split at h
 .rename_i e;exact .inl (R.loc x e)
 .rename_i e;exact .inr (.inl (R.cel x e).1)
 .rename_i e
  rcases R.fre x e with q|q
  .exact .inr (.inl q)
  .exact .inr (.inr q)
 .cases h
set_option tactic.hygienic true in
theorem Rok.locb (R:Rok C B X sc) {x:Str} (h:R3.locb sc x=true):Loc X.env.scope x/\(X.fn x=true\/X.env.scope.names.lookup x=some .local):=by
 unfold R3.locb at h
 split at h
 .rename_i e;exact⟨.inl (R.loc x e),.inr (R.loc x e)⟩
 .rename_i e;exact⟨.inr (R.cel x e).1,.inl (R.cel x e).2⟩
 .cases h
theorem Rok.glb (R:Rok C B X sc) {x:Str} (h:R3.glb sc x=true):Gl X x:=R.glo x (of_decide_eq_true h)
theorem bG' {N:List Str} {i:Nat} {x:Str} (h:ds' N i x=true):N[i]?=some x/\(x == ("__debug__":Str))=false/\(x == ("__classdict__":Str))=false:=by
 unfold ds' at h
 simp only[af,decide_eq_true_eq,bJ]at h
 exact⟨h.1.1,h.1.2,h.2⟩
theorem am' {e:Expr} {es:List Expr} {env:Env} (h:aA' e=true):starEach (e :: es) env=(false,eval e env) :: starEach es env:=by
 cases e<;>first|rfl|cases h
theorem eK' {N B:List Str} {sc:Scope} {env:Env} {pos:Pos}:∀{es:Ces} {xs:List Expr},mA N B sc es xs=true->(backTo pos (starEach xs env)).any (·.1)=false
 | .nil,xs,h=>by
  refine jq' h fun e0 g=>?_
  clear h
  subst e0
  revert g
  intro h
  rfl
 | .cons e r,xs,h=>by
  refine lg' h fun x xs e0 g=>?_
  clear h
  subst e0
  revert g
  intro h
  simp only[af]at h
  rw[am' h.1.2]
  have ih:=eK' (env:=env) (pos:=pos) (es:=r) h.2
  exact ih
theorem fq' {e:Expr} {env:Env} (h:cL' e=true) (x:Value):foldedSetIterable e env x=pure x:=by
 cases e<;>first|rfl|cases h
theorem eL' {op:CmpOp} {e:Expr} (h:cL' e=true):behindInMarks op e=false:=by
 cases e<;>first|rfl|cases h
theorem jr' {o1 o2:CmpOp} {a e:Expr} (h:cL' e=true):lastMarks [o1,o2] [a,e]=false:=by
 show behindInMarks o2 e=false
 exact eL' h
theorem lh' {e:Expr} (h:dA' e=true):iv' e:=by
 intro o i
 cases e<;>first|rfl|cases h
theorem js' {e:Expr} {f:Str} {env:Env} {w:Sem Value} (h:mG' e=true):attributeBase e f env w=w:=by
 cases e with
 |Call g args kw pos=>
  cases args with
  |nil=>cases h
  |cons a r=>cases g<;>rfl
 |_=>rfl
theorem jt' {e:Expr} {env:Env} (h:mH' e=true) (w:Sem Value):isTrue e env w=(do let v <- w;standAt e.pos;holding [v] (truthy v)):=by
 cases e with
 |UnaryOp op a p=>cases op<;>first|rfl|cases h
 |_=>first|rfl|cases h
theorem OpR.imp {f:Value->Value->Sem Value} {r r':R2} (h:OpR X f r) (i:∀x y H Q,r' x y H Q->r x y H Q):OpR X f r':=fun pins s σ H x y v u Q I rx ry q=>h pins s σ H x y v u Q I rx ry (i _ _ _ _ q)
theorem aN'.imp {f:Value} {r r':List V->Hp->VK->Prop} (h:aN' X f r) (i:∀xs H Q,r' xs H Q->r xs H Q):aN' X f r':=fun pins s σ H xs us Q I rv q=>h pins s σ H xs us Q I rv (i _ _ _ q)
theorem ixM:IxR X (mF' X.K):=by
 intro value slice pins s σ H x y v u Q I rx ry q hp
 refine qd' value slice pins s σ H x y v u Q I rx ry ?_ hp
 unfold mF' at q
 split at q
 .obtain⟨z,c,hc,q⟩:=q
  exact .inr (.inr ⟨_,_,c,rfl,rfl,z,hc,q⟩)
 .rcases q with q|q
  .exact .inl q
  .exact .inr (.inl q)
theorem qZ' {CX:CXT} {k:Nat} {f:Addr} {fd:FuncData} {ps:List Str} {sp:Sp} {dvs:List V} {ds:List Value} {E:XK} {pins:List (Addr×Obj)} {σ:L2.St} {H:Hp} {s:Shared} {Q:VK} {us:List Value} {vs:List V} (F:FnOk X.prog X.w X.K X.mg X.base CX k f fd ps sp) (hr:Room k X.A) (hb:dZ' X.K fd ps ds) (hd:ay' dvs ds)
  (hx:∀e s',CX X.stack H s E e s'->X.xe e s') (I:Inv X pins σ H s) (r:ay' vs us) (h:sp (vs++dvs) H Q E):wpAny (model X.prog X.w) X.A (call (.ref f) us) (EP X pins σ Q) X.xe s:=by
 have r2:=r.append hd
 have hl:(us++ds).length=ps.length:=r2.length ▸ F.len _ _ _ _ h
 have go:=F.run X.A X.stack s H ⟨us,[]⟩ (us++ds) (vs++dvs) Q E hr I.env0 (hb s us I.kIn hl) r2 h
 refine wpAny_call (codeAny_mono go fun r s' hq=>?_)
 match r,hq with
 | .error e,hq=>exact hx e s' hq
 | .ok (.ret u),hq=>exact I.after hq
theorem li' {CX:CXT} {k:Nat} {f:Addr} {fd:FuncData} {ps:List Str} {sp:Sp} {dvs:List V} {ds:List Value} {xk:L2.St->XK} {x:Str} {p pos:Pos} {e:Expr} {es:List Expr} {t:TA} (F:FnOk X.prog X.w X.K X.mg X.base CX k f fd ps sp) (hr:Room k X.A) (hg:Gl X x) (hm:X.mg x=some (.ref f)) (hk:W.keepIn X.K (.ref f)=true) (hb:dZ' X.K fd ps ds) (hd:ay' dvs ds) (hx:oa' CX X xk)
  (ha:PA X (e :: es) t) (hdb:(x == ("__debug__":Str))=false) (he:starEach (e :: es) X.env=(false,eval e X.env) :: starEach es X.env) (hpl:(backTo pos (starEach es X.env)).any (·.1)=false):
  PE X (.Call (.Name x p) (e :: es) [] pos) (fun σ H Q=>kL' sp dvs (xk σ) t σ H Q):=by
 intro pins s σ H Q I h
 refine wpAny_Call_Name_kw (nn' I hg hm ?_ hdb)
 exact W.callWith_K (h₀:=X.base) I.ok.mod.kin hk (thn (ha pos pins s σ H _ I h) fun us s1 ⟨vs,H1,I1,r,q⟩=>⟨I1.kIn,qZ' F hr hb hd (fun e s' c=>hx pins σ H1 s1 e s' I1 c) I1 r q⟩) he hpl
theorem ob' {a:Int} (h:a.natAbs<2 ^ 250*2 ^ 250*2 ^ 250):(Builtin.Int.intBits a:Int)<=750:=by
 rw[<- Nat.pow_add,<- Nat.pow_add]at h
 unfold Builtin.Int.intBits
 by_cases h0:a.natAbs=0
 .rw[if_pos (by simpa using h0)];decide
 .rw[if_neg (by simpa using h0)]
  have:=(Nat.log2_lt h0).mpr h
  omega
theorem oc' {X:Cx}:OpR X (binaryOp .LShift) (rI ur' fun i j=>.int (i*2 ^ j.toNat)):=opI fun _ _ _ _ _ _ _ hc q=>lshift_int hc.1 (by have:=ob' hc.2.2;have:=hc.2.1;omega) q
theorem q0' (op:Operator):OpR X (binaryOp op) (ed' X.K op):=by
 cases op with
 |Add=>
  refine OpR.imp ((pW'.or g7').or (qg'.or (nI'.or k2'))) fun x y H Q q=>?_
  unfold ed' at q
  dsimp only at q
  split at q
  .exact .inl (.inl ⟨_,_,rfl,rfl,q⟩)
  .exact .inl (.inr ⟨_,_,rfl,rfl,q.1,q.2⟩)
  .exact .inr q
 |Sub=>exact pX'
 |Mult=>
  refine OpR.imp (nX'.or (hA'.or qh')) fun x y H Q q=>?_
  unfold ed' at q
  dsimp only at q
  split at q
  .refine .inl ⟨_,_,rfl,rfl,?_,q.2⟩
   rcases q.1 with h|h|h
   .exact tm'.ok (.inl h)
   .exact tm'.ok (.inr h)
   .exact h
  .exact .inr (.inl ⟨_,_,rfl,rfl,q.1,q.2.1,q.2.2.1,q.2.2.2⟩)
  .exact .inr (.inr q)
 |Mod=>exact pY'
 |FloorDiv=>
  refine OpR.imp (nz'.or k0') fun x y H Q q=>?_
  obtain⟨i,j,h1,h2,⟨h3,h4⟩,q⟩:=q
  rcases h4 with h4|h4
  .exact .inl ⟨i,j,h1,h2,⟨h3,h4⟩,q⟩
  .exact .inr ⟨i,j,h1,h2,⟨h3,h4⟩,q⟩
 |Pow=>exact pZ'
 |LShift=>exact oc'
 |RShift=>exact p0'
 |MatMult=>exact fun _ _ _ _ _ _ _ _ _ _ _ _ h=>h.elim
 |Div=>exact fun _ _ _ _ _ _ _ _ _ _ _ _ h=>h.elim
 |BitOr=>exact fun _ _ _ _ _ _ _ _ _ _ _ _ h=>h.elim
 |BitXor=>exact fun _ _ _ _ _ _ _ _ _ _ _ _ h=>h.elim
 |BitAnd=>exact n1'
theorem ee' (hu':X.A.units+64<cLine) (op:CmpOp):OpR X (compareOp op) (co' X.K op):=by
 cases op with
 |Eq=>
  refine OpR.imp (tU'.or ((qr' (by omega)).or (qD' hu'))) fun x y H Q q=>?_
  unfold co' at q
  dsimp only at q
  split at q
  .exact .inr q
  .exact .inl q
 |NotEq=>
  refine OpR.imp (tV'.or ((qs' (by omega)).or (qE' hu'))) fun x y H Q q=>?_
  unfold co' at q
  dsimp only at q
  split at q
  .exact .inr q
  .exact .inl q
 |Lt=>exact tW'
 |LtE=>exact tX'
 |Gt=>
  refine OpR.imp (tY'.or qz') fun x y H Q q=>?_
  unfold co' at q
  dsimp only at q
  split at q
  .exact .inr q
  .exact .inl q
 |GtE=>exact tZ'
 |Is=>
  refine OpR.imp (p3'.or qu') fun x y H Q q=>?_
  unfold co' at q
  dsimp only at q
  split at q
  .exact .inr q
  .exact .inl q
 |IsNot=>
  refine OpR.imp (nA'.or iT') fun x y H Q q=>?_
  unfold co' at q
  dsimp only at q
  split at q
  .exact .inr q
  .exact .inl q
 |In=>
  refine OpR.imp (qy'.or iw') fun x y H Q q=>?_
  unfold co' at q
  dsimp only at q
  split at q
  .exact .inl q
  .exact .inr q
 |NotIn=>
  refine OpR.imp (iU'.or e8') fun x y H Q q=>?_
  unfold co' at q
  dsimp only at q
  split at q
  .exact .inl q
  .exact .inr q
theorem uO':SlR X (rSl X.K):=by
 intro pins s σ H x v vl vu lo hi sl Q I rx hs pl pu q
 refine(nK'.or (p9'.or (k4'.or qq'))) pins s σ H x v vl vu lo hi sl Q I rx hs pl pu ?_
 unfold rSl at q
 split at q
 .exact .inr (.inr (.inr ⟨_,rfl,q.1,q.2⟩))
 .rcases q with q|q|q
  .exact .inl q
  .exact .inr (.inl q)
  .exact .inr (.inr (.inl q))
inductive BltIs:Bf->Prop where
 |fn (f:Bf) (id:String) (hv:bootBuiltins (dO' f)=some (.builtin id)) (h:∀X:Cx,(X.calm=true\/f=.isinstance)->aN' X (.builtin id) (df' X.K f)):BltIs f
 |ty (f:Bf) (T:String) (hv:bootBuiltins (dO' f)=some (.type T)) (h:∀X:Cx,(X.calm=true\/f=.isinstance)->aN' X (.type T) (df' X.K f)):BltIs f
theorem q1' (f:Bf):BltIs f:=by
 cases f with
 |len=>exact .fn _ "len" (by decide +kernel) fun X _=>kK'
 |abs=>exact .fn _ "abs" (by decide +kernel) fun X _=>kJ'
 |int=>
  refine .ty _ "int" (by decide +kernel) fun X _=>aN'.imp iW' fun xs H Q q=>?_
  unfold df' at q
  dsimp only at q
  split at q
  .exact .inl (.inl (.inl ⟨_,rfl,q⟩))
  .exact .inl (.inl (.inr ⟨_,rfl,q⟩))
  .obtain⟨n,h1,h2,q⟩:=q
   exact .inl (.inr ⟨_,n,rfl,h1,h2,q⟩)
  .obtain⟨rfl,n,h1,q⟩:=q
   exact .inr ⟨_,n,rfl,h1,q⟩
  .exact q.elim
 |str=>exact .ty _ "str" (by decide +kernel) fun X _=>e0'
 |isinstance=>exact .fn _ "isinstance" (by decide +kernel) fun X _=>aN'.imp kX' fun _ _ _ q=>q.resolve_right id
 |all=>exact .fn _ "all" (by decide +kernel) fun X c0=>have c:X.calm=true:=c0.resolve_right (fun z=>by cases z);iM' c
 |max=>
  refine .fn _ "max" (by decide +kernel) fun X c0=>have c:X.calm=true:=c0.resolve_right (fun z=>by cases z);aN'.imp ((ij' c).or (iN' c)) fun xs H Q q=>?_
  unfold df' at q
  dsimp only at q
  split at q
  .exact .inl ⟨_,_,rfl,q⟩
  .exact .inr q
 |min=>
  refine .fn _ "min" (by decide +kernel) fun X c0=>have c:X.calm=true:=c0.resolve_right (fun z=>by cases z);aN'.imp ((ik' c).or (iO' c)) fun xs H Q q=>?_
  unfold df' at q
  dsimp only at q
  split at q
  .exact .inl ⟨_,_,rfl,q⟩
  .exact .inr q
 |list=>exact .ty _ "list" (by decide +kernel) fun X c0=>have c:X.calm=true:=c0.resolve_right (fun z=>by cases z);e9'.or (kZ' c)
 |sum=>exact .fn _ "sum" (by decide +kernel) fun X c0=>have c:X.calm=true:=c0.resolve_right (fun z=>by cases z);iS' c
 |tuple=>exact .ty _ "tuple" (by decide +kernel) fun X _=>ey'
structure MetIs (m:Mf) (id:String):Prop where
 pa:PlainAttrs (fk' m)
 slot:Slot (fk' m) (jc' m) id
 ty:typeOf (.builtin id)=pure (.type "method_descriptor")
 h:∀X:Cx,MtR X id (mE' X.K m)
theorem q2' (m:Mf):∃id,MetIs m id:=by
 cases m with
 |append=>exact⟨_,F.plainAttrs_list,F.slot_list_append,F.type_list_append,fun _=>iy'⟩
 |join=>exact⟨_,F.plainAttrs_str,F.slot_str_join,F.type_str_join,fun _=>nW'⟩
 |insert=>exact⟨_,F.plainAttrs_list,F.slot_list_insert,F.type_list_insert,fun _=>iQ'⟩
end
theorem ju' {N:List Str} {sc scope:Scope} {own:List Nat} (h:pC' N sc scope own=true):scope.kind=.function/\(∀x∈scope.names,x.2=.local->scope.names.lookup x.1=some .local)/\(∀n,(n,NameKind.cell)∈scope.names->scope.names.lookup n=some .cell)/\
  (∀n,(n,NameKind.free)∈scope.names->sc.names.lookup n=some .cell\/sc.names.lookup n=some .free)/\∀(i:Nat) (x:Str),N[i]?=some x->(scope.names.lookup x=some .local\/scope.names.lookup x=some .cell)->i∈own:=by
 unfold pC' at h
 simp only[af,decide_eq_true_eq,bj,Bool.or_eq_true]at h
 obtain⟨⟨hk,hn⟩,ho⟩:=h
 refine⟨hk,fun x hx e=>?_,fun n hn'=>?_,fun n hn'=>?_,fun i x e hx=>?_⟩
 .exact(hn x hx).1.1.resolve_left fun q=>q e
 .exact(hn _ hn').1.2.resolve_left fun q=>q rfl
 .rcases(hn _ hn').2 with(q|q)|q
  .exact absurd rfl q
  .exact .inl q
  .exact .inr q
 .have:=ho i (bp.mpr (aO.mp e).1)
  rw[e]at this
  simp only[Bool.or_eq_true,af,decide_eq_true_eq]at this
  rcases this with⟨q1,q2⟩|q
  .rcases hx with z|z
   .exact absurd z q1
   .exact absurd z q2
  .exact q
theorem Rok.compSc {C:Rc} {B:List Str} {X:Cx} {sc scope:Scope} {own:List Nat} (R:Rok C B X sc) (h:pC' C.N sc scope own=true):CompSc X scope:=by
 obtain⟨h1,h2,h3,h4,h5⟩:=ju' h
 refine⟨h1,h2,h3,fun n hn=>?_⟩
 rcases h4 n hn with q|q
 .exact .inl (R.cel n q).1
 .exact R.fre n q
theorem c4' {B:List Str}:tld ("~" :: B)=true:=decide_eq_true (aJ)
theorem Rok.comp {C:Rc} {B:List Str} {X:Cx} {sc scope:Scope} {own:List Nat} (R:Rok C B X sc) (hh:hat B=false) (h:pC' C.N sc scope own=true) (s0:Shared) (H0:Hp) (ex:List Addr):Rok C ("~" :: B) (X.comp scope s0 H0 ex) scope:=by
 refine⟨R.hN,R.nd,R.hK,PassesOwn.never,fun _=>R.calm hh,R.hu,R.gd,fun x e=>lookup_relabel_local e,fun x e=>⟨?_,?_⟩,fun x e=>?_,fun x e=>?_,fun x sp e _ ht=>?_,fun x hx=>?_,R.mrk,R.cls,(fun z=>by rw[c4']at z;cases z),(fun z=>by rw[c4']at z;cases z),(fun z=>by rw[c4']at z;cases z)⟩
 .obtain⟨k',e1,e2⟩:=aX' (env:=X.env) e
  rcases e2 with rfl|⟨q,_⟩
  .exact e1
  .cases q
 .exact W.cellsFrom_some _ _ _ (.inl e)
 .obtain⟨k',e1,e2⟩:=aX' (env:=X.env) e
  rcases e2 with rfl|⟨_,rfl⟩
  .exact .inr e1
  .exact .inl e1
 .obtain⟨k',e1,e2⟩:=aX' (env:=X.env) e
  rcases e2 with rfl|⟨q,_⟩
  .exact e1
  .cases q
 .have hb:pE' x∉B:=fun z=>ht c4' (az _ z)
  obtain⟨f,fd,ps,k,CX,h1,h2,h3,h4,h5,h6,_⟩:=R.fn x sp e hh fun _=>hb
  rcases h6 with rfl|⟨_,z⟩
  .exact⟨f,fd,ps,k,CX0,h1,h2,h3,h4,h5,.inl rfl,mN'⟩
  .exact absurd z hb
 .rcases ai.mp hx with rfl|hx
  .exact R.mrk.1
  .exact R.blt x hx
mutual
theorem gG' (C:Rc) (own:List Nat):∀(t:Ct),pD' own t=true->∀(x:V) (σ:L2.St) (H:Hp) (Q Q':L2.St->Hp->Prop),tG C t x σ H Q->(∀σ2 H2,Q σ2 H2->Ext own σ σ2->Q' σ2 H2)->tG C t x σ H Q'
 | .name i,h,x,σ,H,Q,Q',q,m=>by
  obtain⟨q1,q2⟩:=iB' (of_decide_eq_true (show decide (i∈own)=true from h)) x σ H Q q
  exact m _ _ q1 q2
 | .tup ts,h,x,σ,H,Q,Q',q,m=>by
  replace h:jd' own ts=true:=h
  obtain⟨a,xs,e,hs,hl,q⟩:=q
  exact⟨a,xs,e,hs,hl,fr' C own ts h xs σ H Q Q' q m⟩
 | .sub _ _,h,_,_,_,_,_,_,_=>ap' h
theorem fr' (C:Rc) (own:List Nat):∀(ts:Cts),jd' own ts=true->∀(xs:List V) (σ:L2.St) (H:Hp) (Q Q':L2.St->Hp->Prop),tGs C ts xs σ H Q->(∀σ2 H2,Q σ2 H2->Ext own σ σ2->Q' σ2 H2)->tGs C ts xs σ H Q'
 | .nil,h,xs,σ,H,Q,Q',q,m=>by
  replace q:xs=[]/\Q σ H:=q
  exact And.intro q.1 (m _ _ q.2 Ext.refl)
 | .cons t r,h,xs,σ,H,Q,Q',q,m=>by
  replace h:=f0' (show(pD' own t&&jd' own r)=true from h)
  replace q:∃v vr,xs=v :: vr/\tG C t v σ H fun σ' H'=>tGs C r vr σ' H' Q:=q
  obtain⟨v,vr,e,q⟩:=q
  show ∃v vr,xs=v :: vr/\tG C t v σ H fun σ' H'=>tGs C r vr σ' H' Q'
  exact⟨v,vr,e,gG' C own t h.1 v σ H _ _ q fun σ2 H2 q2 x2=>fr' C own r h.2 vr σ2 H2 _ _ q2 fun σ3 H3 q3 x3=>m _ _ q3 (x2.trans x3)⟩
end
theorem od' {C:Rc} {own:List Nat} {t:Ct} (h:pD' own t=true):qk' own (tG C t):=fun x σ H Q q=>gG' C own t h x σ H Q _ q fun _ _ q x=>⟨q,x⟩
theorem cR':∀{ts:Cts} {es:List Expr} {N B:List Str} {sc:Scope} {env:Env},mTs N B sc ts es=true->(assignEach es env).length=ld' ts/\(assignEach es env).findIdx? (·.1)=none
 | .nil,es,N,B,sc,env,h=>by
  refine jq' h fun e0 g=>?_
  clear h
  subst e0
  revert g
  intro h
  exact⟨rfl,rfl⟩
 | .cons t r,es,N,B,sc,env,h=>by
  refine lg' h fun x xs e0 g=>?_
  clear h
  subst e0
  revert g
  intro h
  simp only[af]at h
  obtain⟨h1,h2⟩:=cR' (env:=env) h.2
  have e:assignEach (x :: xs) env=(false,assign x env) :: assignEach xs env:=by
   have hs:=h.1.2
   cases x<;>first|rfl|cases hs
  rw[e]
  refine⟨by rw[cn,h1];rfl,?_⟩
  rw[List.findIdx?_cons,h2]
  rfl
theorem f6' {x:Expr} {xs:List Expr} {env:Env} (hs:aA' x=true):(assignEach (x :: xs) env).map (·.2)=assign x env :: (assignEach xs env).map (·.2):=by
 cases x<;>first|rfl|cases hs
theorem oe' {o i:Expr} {pos:Pos} {env:Env} (h:dA' i=true) (v:Value):assign (.Subscript o i pos) env v=(do
   let ov <- holding [v] (eval o env)
   let iv <- holding [v,ov] (eval i env)
   standAt pos
   holding [v,ov,iv] (setItem ov iv v)
   release [v,ov,iv] []):=by
 cases i<;>first|rfl|cases h
def q3' (C:Rc) (X:Cx) (e:Expr):Ce->Prop
 | .comp elt own t it q r=>∃tg iter ifs nx scope pos,CompIn X e scope tg iter ifs nx (tG C t) (tQo C q) (tR C r (eB' (tE C elt))) own/\PI X tg iter (tI C it)/\
   eval e X.env=comprehension e scope X.env pos (newList []) false (eval iter X.env)/\(∀u,evalThenUse e X.env u=(do let _ <- comprehension e scope X.env pos (newList []) false (eval iter X.env) (some u)))/\
   ∀y py line,∃b,swapsWith e (some (.Name y py)) line X.env=pure b
 |_=>True
theorem wA' {N B:List Str} {sc:Scope} {elt:Ce} {own:List Nat} {t:Ct} {it:Ci} {q:Cqo} {e:Expr} (h:mE N B sc (.comp elt own t it q .nil) e=true):∃ee tg iter ifs scope pos,e=.ListComp ee [⟨tg,iter,ifs,0⟩] scope pos/\
  hat B=false/\pC' N sc scope own=true/\mE N ("~" :: B) scope elt ee=true/\pD' own t=true/\mI N B sc it iter=true/\tz' it tg=true/\cL' iter=true/\mT N ("~" :: B) scope t tg=true/\mQo N ("~" :: B) scope q ifs=true:=by
 refine uz' h fun ee tg iter ifs a scope w1 e0 g=>?_
 clear h
 subst e0
 revert g
 intro h
 simp only[af,decide_eq_true_eq,bJ]at h
 obtain⟨⟨⟨⟨⟨⟨⟨⟨⟨hh,hsc⟩,helt⟩,hown⟩,rfl⟩,h1⟩,h2⟩,h3⟩,h4⟩,h5⟩:=h
 exact⟨_,_,_,_,_,_,rfl,hh,hsc,helt,hown,h1,h2,h3,h4,h5⟩
theorem wB' {N B:List Str} {sc:Scope} {elt:Ce} {own:List Nat} {t:Ct} {it:Ci} {q:Cqo} {ws:List Nat} {t2:Ct} {it2:Ci} {q2:Cqo} {r4:Cc} {e:Expr} (h:mE N B sc (.comp elt own t it q (.cons ws t2 it2 q2 r4)) e=true):False:=by
 exact ap' h
set_option maxHeartbeats 4000000
mutual
theorem sE0 {C:Rc}:∀(c:Ce) {B:List Str} {X:Cx} {sc:Scope} {e:Expr},Rok C B X sc->mE C.N B sc c e=true->PE X e (tE C c)/\q3' C X e c
 | .var i,B,X,sc,e,R,h=>by
  refine⟨?_,trivial⟩
  refine ut' h fun x w1 e0 g=>?_
  clear h
  subst e0
  revert g
  intro h
  simp only[af]at h
  obtain⟨h1,h2,h3⟩:=bG' h.1
  rw[show tE C (.var i)=(th' i) from rfl]
  exact mu' (by rw[R.hN];exact h1) (R.vis h.2) h2 h3
 | .int n,B,X,sc,e,R,h=>by
  refine⟨?_,trivial⟩
  refine wu' h fun m w1 w2 e0 g=>?_
  clear h
  subst e0
  revert g
  intro h
  cases of_decide_eq_true h
  rw[show tE C (.int n)=(tC (.int n)) from rfl]
  exact pI'
 | .bl n,B,X,sc,e,R,h=>by
  refine⟨?_,trivial⟩
  refine wv' h fun c w1 w2 e0 g=>?_
  clear h
  subst e0
  revert g
  intro h
  cases of_decide_eq_true h
  rw[show tE C (.bl n)=(tC (.bl n)) from rfl]
  exact tE'
 | .non,B,X,sc,e,R,h=>by
  refine⟨?_,trivial⟩
  refine ww' h fun w1 w2 e0 g=>?_
  clear h
  subst e0
  revert g
  intro h
  rw[show tE C .non=(tC .non) from rfl]
  exact pJ'
 | .str n,B,X,sc,e,R,h=>by
  refine⟨?_,trivial⟩
  refine wx' h fun y w1 w2 e0 g=>?_
  clear h
  subst e0
  revert g
  intro h
  cases of_decide_eq_true h
  rw[show tE C (.str n)=(tC (.str n)) from rfl]
  exact pK'
 | .ty n,B,X,sc,e,R,h=>by
  refine⟨?_,trivial⟩
  refine ut' h fun x w1 e0 g=>?_
  clear h
  subst e0
  revert g
  intro h
  simp only[af,decide_eq_true_eq]at h
  obtain⟨⟨⟨rfl,h2⟩,h3⟩,h4⟩:=h
  rw[show tE C (.ty n)=(tC (.ty n)) from rfl]
  have hb:bootBuiltins (Str.ofString n)=some (.type n)/\Str.ofString n≠"__name__"/\(Str.ofString n == ("__debug__":Str))=false:=by
   simp only[fl',List.contains_iff_mem,ai,al,or_false]at h3
   rcases h3 with rfl|rfl|rfl|rfl|rfl|rfl|rfl<;>decide +kernel
  exact no' (v:=.ty n) (R.glb h2) (R.blt _ h4) hb.1 rfl hb.2.1 hb.2.2
 | .bin op a b,B,X,sc,e,R,h=>by
  refine⟨?_,trivial⟩
  refine wy' h fun ea op' eb w1 e0 g=>?_
  clear h
  subst e0
  revert g
  intro h
  simp only[af,decide_eq_true_eq]at h
  obtain⟨⟨rfl,h1⟩,h2⟩:=h
  rw[show tE C (.bin op a b)=(tOp (ed' C.K op) (tE C a) (tE C b)) from rfl]
  rw[<- R.hK]
  exact tQ' (q0' _) ((sE0 a R h1).1) ((sE0 b R h2).1)
 | .neg a,B,X,sc,e,R,h=>by
  refine⟨?_,trivial⟩
  refine wz' h fun ea w1 e0 g=>?_
  clear h
  subst e0
  revert g
  intro h
  rw[show tE C (.neg a)=(tUn (rU fun i=>.int (-i)) (tE C a)) from rfl]
  exact tR' p2' ((sE0 a R h).1)
 | .not a,B,X,sc,e,R,h=>by
  refine⟨?_,trivial⟩
  refine vS' h fun ea w1 e0 g=>?_
  clear h
  subst e0
  revert g
  intro h
  rw[show tE C (.not a)=(nq' (tE C a)) from rfl]
  exact pQ' ((sE0 a R h).1)
 | .and a b,B,X,sc,e,R,h=>by
  refine⟨?_,trivial⟩
  replace h:=je' h
  rcases h with⟨x,y,pos,rfl,h⟩|⟨x,y,z,r,pos,rfl,h⟩
  .simp only[af]at h
   rw[show tE C (.and a b)=(ky' (tE C a) (tE C b)) from rfl]
   exact mx' ((sE0 a R h.1).1) (mw' ((sE0 b R h.2).1))
  .simp only[af]at h
   rw[show tE C (.and a b)=(ky' (tE C a) (tE C b)) from rfl]
   exact mx' ((sE0 a R h.1).1) ((sE0 b R h.2).1)
 | .or a b,B,X,sc,e,R,h=>by
  refine⟨?_,trivial⟩
  replace h:=mI' h
  rcases h with⟨x,y,pos,rfl,h⟩|⟨x,y,z,r,pos,rfl,h⟩
  .simp only[af]at h
   rw[show tE C (.or a b)=(ti' (tE C a) (tE C b)) from rfl]
   exact pP' ((sE0 a R h.1).1) (mw' ((sE0 b R h.2).1))
  .simp only[af]at h
   rw[show tE C (.or a b)=(ti' (tE C a) (tE C b)) from rfl]
   exact pP' ((sE0 a R h.1).1) ((sE0 b R h.2).1)
 | .cmp op a b,B,X,sc,e,R,h=>by
  refine⟨?_,trivial⟩
  refine vT' h fun ea op' eb w1 e0 g=>?_
  clear h
  subst e0
  revert g
  intro h
  simp only[af,decide_eq_true_eq]at h
  obtain⟨⟨⟨rfl,h1⟩,h2⟩,h3⟩:=h
  rw[show tE C (.cmp op a b)=(tOp (co' C.K op) (tE C a) (tE C b)) from rfl]
  rw[<- R.hK]
  exact nB' (ee' R.hu _) ((sE0 a R h1).1) ((sE0 b R h2).1) (eL' h3)
 | .chn op1 op2 a b c,B,X,sc,e,R,h=>by
  refine⟨?_,trivial⟩
  refine qU' h fun ea o1 o2 eb ec w1 e0 g=>?_
  clear h
  subst e0
  revert g
  intro h
  simp only[af,decide_eq_true_eq]at h
  obtain⟨⟨⟨⟨⟨rfl,rfl⟩,h1⟩,h2⟩,h3⟩,h4⟩:=h
  rw[show tE C (.chn op1 op2 a b c)=(do' (co' C.K op1) (co' C.K op2) (tE C a) (tE C b) (tE C c)) from rfl]
  rw[<- R.hK]
  exact kG' (ee' R.hu _) (ee' R.hu _) ((sE0 a R h1).1) ((sE0 b R h2).1) ((sE0 c R h3).1) (jr' h4)
 | .ife q a b,B,X,sc,e,R,h=>by
  refine⟨?_,trivial⟩
  refine uu' h fun eq ea eb w1 e0 g=>?_
  clear h
  subst e0
  revert g
  intro h
  simp only[af]at h
  rw[show tE C (.ife q a b)=(tIf (tQ C q) (tE C a) (tE C b)) from rfl]
  exact kz' (sQ q R h.1.1).1 ((sE0 a R h.1.2).1) ((sE0 b R h.2).1)
 | .tup es,B,X,sc,e,R,h=>by
  refine⟨?_,trivial⟩
  refine qV' h fun xs w1 w2 e0 g=>?_
  clear h
  subst e0
  revert g
  intro h
  rw[show tE C (.tup es)=(t0' (tA C es)) from rfl]
  exact p6' (sA es R h)
 | .lst es,B,X,sc,e,R,h=>by
  refine⟨?_,trivial⟩
  refine uv' h fun xs w1 e0 g=>?_
  clear h
  subst e0
  revert g
  intro h
  rw[show tE C (.lst es)=(t1' (tA C es)) from rfl]
  exact p7' (sA es R h)
 | .idx a b,B,X,sc,e,R,h=>by
  refine⟨?_,trivial⟩
  refine qW' h fun ea eb w1 e0 g=>?_
  clear h
  subst e0
  revert g
  intro h
  simp only[af]at h
  rw[show tE C (.idx a b)=(tOp (mF' C.K) (tE C a) (tE C b)) from rfl]
  rw[<- R.hK]
  exact t3' ixM ((sE0 a R h.1.1).1) ((sE0 b R h.1.2).1) (lh' h.2)
 | .cut a lo hi,B,X,sc,e,R,h=>by
  refine⟨?_,trivial⟩
  refine uw' h fun ea l h_ w1 w2 e0 g=>?_
  clear h
  subst e0
  revert g
  intro h
  simp only[af]at h
  rw[show tE C (.cut a lo hi)=(tSl (rSl C.K) (tE C a) (tO C lo) (tO C hi)) from rfl]
  rw[<- R.hK]
  exact kO' uO' ((sE0 a R h.1.1).1) (sO lo R h.1.2) (sO hi R h.2)
 | .call f es,B,X,sc,e,R,h=>by
  refine⟨?_,trivial⟩
  refine qX' h fun x w1 e r pos e0 g=>?_
  clear h
  subst e0
  revert g
  intro h
  simp only[af,decide_eq_true_eq,bJ]at h
  obtain⟨⟨⟨⟨⟨rfl,h1⟩,h2⟩,h3⟩,hh⟩,h6⟩:=h
  rw[show tE C (.call x es)=(fun σ H Q=>match C.fs x with|some sp=>kL' sp [] (C.xk σ) (tA C es) σ H Q|none=>False) from rfl]
  have ht:tld B=true->pE' x∉B:=fun t m=>by rw[t,decide_eq_true m]at h6;cases h6
  cases hf:C.fs x with
  |none=>exact fun _ _ _ _ _ _ q=>q.elim
  |some sp=>
   obtain⟨f,fd,ps,k,CX,F,hr,hm,hk,hb,_,hx⟩:=R.fn x sp hf hh ht
   have hs:aA' e=true:=by
    cases es with
    |nil=>exact ap' h2
    |cons c r=>exact(f0' (f0' h2).1).2
   have hp:(backTo pos (starEach r X.env)).any (·.1)=false:=by
    have q:=eK' (env:=X.env) (pos:=pos) h2
    rw[am' hs]at q
    exact q
   exact li' F hr (R.glb h1) hm hk hb .nil hx (sA es R h2) h3 (am' hs) hp
 | .blt f es,B,X,sc,e,R,h=>by
  refine⟨?_,trivial⟩
  refine qX' h fun x w1 e r pos e0 g=>?_
  clear h
  subst e0
  revert g
  intro h
  simp only[af,decide_eq_true_eq,Bool.or_eq_true,bJ]at h
  obtain⟨⟨⟨⟨rfl,h1⟩,h2⟩,h4⟩,h5⟩:=h
  have hcc:X.calm=true\/f=.isinstance:=h5.imp R.calm id
  rw[show tE C (.blt f es)=(tCB (df' C.K f) (tA C es)) from rfl]
  have hs:aA' e=true:=by
   cases es with
   |nil=>exact ap' h2
   |cons c r=>exact(f0' (f0' h2).1).2
  have hp:(backTo pos (starEach r X.env)).any (·.1)=false:=by
   have q:=eK' (env:=X.env) (pos:=pos) h2
   rw[am' hs]at q
   exact q
  rw[<- R.hK]
  have hn:dO' f≠"__name__"/\(dO' f == ("__debug__":Str))=false:=by cases f<;>decide +kernel
  cases q1' f with
  |fn id hv hc=>exact kM' (hc X hcc) (R.glb h1) (R.blt _ h4) hv (sA es R h2) hn.1 hn.2 (am' hs) hp
  |ty T hv hc=>exact ip' (hc X hcc) (R.glb h1) (R.blt _ h4) hv (sA es R h2) hn.1 hn.2 (am' hs) hp
 | .met m o es,B,X,sc,e,R,h=>by
  refine⟨?_,trivial⟩
  refine ux' h fun eo nm apos args pos e0 g=>?_
  clear h
  subst e0
  revert g
  intro h
  simp only[af,decide_eq_true_eq]at h
  obtain⟨⟨⟨⟨⟨rfl,h1⟩,h2⟩,h3⟩,h4⟩,h5⟩:=h
  rw[show tE C (.met m o es)=(tBM C.K (fk' m) (mE' C.K m) (tE C o) (tA C es)) from rfl]
  rw[<- R.hK]
  obtain⟨id,M⟩:=q2' m
  cases args with
  |nil=>
   cases es with
   |cons c r=>exact ap' h4
   |nil=>
    exact qf' M.pa M.slot M.ty (M.h X) ((sE0 o R h1).1) (js' h2) h3
  |cons a r=>
   have hs:aA' a=true:=by
    cases es with
    |nil=>exact ap' h4
    |cons c r=>exact(f0' (f0' h4).1).2
   have hq:=eK' (env:=X.env) (pos:=pos) h4
   have hp:(backTo pos (starEach r X.env)).any (·.1)=false:=by
    rw[am' hs]at hq
    exact hq
   refine t4' M.pa M.slot M.ty (M.h X) ((sE0 o R h1).1) (sA es R h4) (js' h2) ?_ h3 (am' hs) hp
   have e1:(backTo pos (starEach (a :: r) X.env)).all (fun x=>!x.1)=true:=by
    rw[bj]
    intro x hx
    rw[List.any_eq_false]at hq
    simpa using hq x hx
   rw[e1]
   show(true&&true&&decide ((a :: r).length+0+0<30))=true
   simp only[aM,decide_eq_true_eq]
   omega
 | .lzp a b,B,X,sc,e,R,h=>by
  refine⟨?_,trivial⟩
  refine uy' h fun n1 w1 n2 w2 y y' w3 w4 e0 g=>?_
  clear h
  subst e0
  revert g
  intro h
  simp only[af,decide_eq_true_eq,bJ]at h
  obtain⟨⟨⟨⟨⟨⟨⟨⟨⟨⟨rfl,rfl⟩,h1⟩,h2⟩,h3⟩,h4⟩,h5⟩,h6⟩,h7⟩,h8⟩,h9⟩:=h
  rw[show tE C (.lzp a b)=(uq' C.K (b3' (tE C a) (b3' (tE C b) gp'))) from rfl]
  rw[<- R.hK]
  have e2:starEach [_] X.env=[(false,eval _ X.env)]:=am' (es:=[]) h8
  exact qR' (R.calm h9) (R.glb h1) (R.blt _ h2) (R.glb h3) (R.blt _ h4) (b7' (sE0 a R h5).1 (b7' (sE0 b R h7).1 d8' (am' h8)) (am' h6)) (by rw[am' h6,e2]) e2
 | .comp elt own t it q .nil,B,X,sc,e,R,h=>by
  have D:q3' C X e (.comp elt own t it q .nil):=by
   obtain⟨ee,tg,iter,ifs,scope,pos,rfl,hh,hsc,helt,hown,h1,h2,h3,h4,h5⟩:=wA' h
   refine⟨tg,iter,ifs,fun D env=>do let _ <- call (.builtin "list.append") [.ref D,<- eval ee env],scope,_,⟨R.compSc hsc,?_,⟨[],rfl⟩,fq' h3,R.calm hh,fun _ _ _=>⟨rfl,rfl⟩,fun _ _ _ _=>⟨rfl,rfl⟩,fun _ _ _ _ _=>rfl,fun _ _ _ _ _=>rfl,od' hown,?_⟩,sI it R h1 h2,rfl,fun _=>rfl,fun _ _ _=>⟨_,rfl⟩⟩
   .rw[R.hN];exact(ju' hsc).2.2.2.2
   .intro s0 H0 ex D
    have R':=R.comp hh hsc s0 H0 ex
    refine⟨sG t R' h4,sQo q R' h5,[],by simp,?_⟩
    exact kS' rfl (sE0 elt R' helt).1
  refine⟨?_,D⟩
  obtain⟨tg,iter,ifs,nx,scope,pos,D,hi,he,_⟩:=D
  rw[show tE C (.comp elt own t it q .nil)=(iD' own (tI C it) (tG C t) (tQo C q) (tR C .nil (eB' (tE C elt)))) from rfl]
  exact nS' D hi he
 | .comp elt own t it q (.cons _ _ _ _ _),B,X,sc,e,R,h=>(wB' h).elim
termination_by structural c=>c
theorem sA {C:Rc}:∀(es:Ces) {B:List Str} {X:Cx} {sc:Scope} {xs:List Expr},Rok C B X sc->mA C.N B sc es xs=true->PA X xs (tA C es)
 | .nil,B,X,sc,xs,R,h=>by
  refine jq' h fun e0 g=>?_
  clear h
  subst e0
  revert g
  intro h
  rw[show tA C .nil=(gp') from rfl]
  exact d8'
 | .cons e r,B,X,sc,xs,R,h=>by
  refine lg' h fun x xs e0 g=>?_
  clear h
  subst e0
  revert g
  intro h
  simp only[af]at h
  rw[show tA C (.cons e r)=(b3' (tE C e) (tA C r)) from rfl]
  exact b7' ((sE0 e R h.1.1).1) (sA r R h.2) (am' h.1.2)
termination_by structural c=>c
theorem sQ {C:Rc}:∀(q:Cq) {B:List Str} {X:Cx} {sc:Scope} {e:Expr},Rok C B X sc->mQ C.N B sc q e=true->PT X e (tQ C q)/\((∃op vs pos,e=.BoolOp op vs pos)->PW X e (tQ C q))
 | .val c,B,X,sc,e,R,h=>by
  replace h:=f0' h
  refine⟨?_,fun⟨op,vs,pos,z⟩=>?_⟩
  .rw[show tQ C (.val c)=(fun σ H Q=>tE C c σ H fun x H'=>∃k,p4' C.K x H' k/\Q k H') from rfl]
   rw[<- R.hK]
   exact kI' (sE0 c R h.1).1 (jt' h.2)
  .subst z;exact ap' h.2
 | .not q,B,X,sc,e,R,h=>by
  refine vS' h fun y w1 e0 g=>?_
  clear h
  subst e0
  revert g
  intro h
  rw[show tQ C (.not q)=(tF' (tQ C q)) from rfl]
  exact⟨pO' (sQ q R h).1,fun⟨op,vs,pos,z⟩=>by cases z⟩
 | .and a b,B,X,sc,e,R,h=>by
  replace h:=je' h
  rcases h with⟨x,y,pos,rfl,h⟩|⟨x,y,z,r,pos,rfl,h⟩
  .simp only[af]at h
   rw[show tQ C (.and a b)=(pL' (tQ C a) (tQ C b)) from rfl]
   have w:PW X (.BoolOp .And [x,y] pos) (pL' (tQ C a) (tQ C b)):=mv' (sQ a R h.1).1 (np' (sQ b R h.2).1)
   exact⟨w.pt,fun _=>w⟩
  .simp only[af]at h
   rw[show tQ C (.and a b)=(pL' (tQ C a) (tQ C b)) from rfl]
   have w:=mv' (sQ a R h.1).1 ((sQ b R h.2).2 ⟨_,_,_,rfl⟩)
   exact⟨w.pt,fun _=>w⟩
 | .or a b,B,X,sc,e,R,h=>by
  replace h:=mI' h
  rcases h with⟨x,y,pos,rfl,h⟩|⟨x,y,z,r,pos,rfl,h⟩
  .simp only[af]at h
   rw[show tQ C (.or a b)=(tOr (tQ C a) (tQ C b)) from rfl]
   have w:PW X (.BoolOp .Or [x,y] pos) (tOr (tQ C a) (tQ C b)):=pN' (sQ a R h.1).1 (pM' (sQ b R h.2).1)
   exact⟨w.pt,fun _=>w⟩
  .simp only[af]at h
   rw[show tQ C (.or a b)=(tOr (tQ C a) (tQ C b)) from rfl]
   have w:=pN' (sQ a R h.1).1 ((sQ b R h.2).2 ⟨_,_,_,rfl⟩)
   exact⟨w.pt,fun _=>w⟩
 | .cmp op a b,B,X,sc,e,R,h=>by
  refine vT' h fun ea op' eb w1 e0 g=>?_
  clear h
  subst e0
  revert g
  intro h
  simp only[af,decide_eq_true_eq]at h
  obtain⟨⟨⟨rfl,h1⟩,h2⟩,h3⟩:=h
  rw[show tQ C (.cmp op a b)=(g5' (tOp (co' C.K op) (tE C a) (tE C b))) from rfl]
  rw[<- R.hK]
  exact⟨nC' (ee' R.hu _) (sE0 a R h1).1 (sE0 b R h2).1 (eL' h3),fun⟨op,vs,pos,z⟩=>by cases z⟩
 | .chn op1 op2 a b c,B,X,sc,e,R,h=>by
  refine qU' h fun ea o1 o2 eb ec w1 e0 g=>?_
  clear h
  subst e0
  revert g
  intro h
  simp only[af,decide_eq_true_eq]at h
  obtain⟨⟨⟨⟨⟨rfl,rfl⟩,h1⟩,h2⟩,h3⟩,h4⟩:=h
  rw[show tQ C (.chn op1 op2 a b c)=(g5' (do' (co' C.K op1) (co' C.K op2) (tE C a) (tE C b) (tE C c))) from rfl]
  rw[<- R.hK]
  exact⟨kH' (ee' R.hu _) (ee' R.hu _) (sE0 a R h1).1 (sE0 b R h2).1 (sE0 c R h3).1 (jr' h4),fun⟨op,vs,pos,z⟩=>by cases z⟩
termination_by structural c=>c
theorem sQo {C:Rc}:∀(q:Cqo) {B:List Str} {X:Cx} {sc:Scope} {es:List Expr},Rok C B X sc->mQo C.N B sc q es=true->PTs X es (tQo C q)
 | .none,B,X,sc,es,R,h=>by
  refine jq' h fun e0 g=>?_
  clear h
  subst e0
  revert g
  intro h
  rw[show tQo C .none=(fun _ H Q=>Q true H) from rfl];exact nP'
 | .some q,B,X,sc,es,R,h=>by
  refine uA' h fun e e0 g=>?_
  clear h
  subst e0
  revert g
  intro h
  rw[show tQo C (.some q)=(tQ C q) from rfl];exact nQ' (sQ q R h).1
termination_by structural c=>c
theorem sO {C:Rc}:∀(o:Co) {B:List Str} {X:Cx} {sc:Scope} {e:Option Expr},Rok C B X sc->mO C.N B sc o e=true->PO X e (tO C o)
 | .none,B,X,sc,e,R,h=>by
  refine uB' h fun e0 g=>?_
  clear h
  subst e0
  revert g
  intro h
  rw[show tO C .none=(fS') from rfl];exact nG'
 | .some c,B,X,sc,e,R,h=>by
  refine uC' h fun y e0 g=>?_
  clear h
  subst e0
  revert g
  intro h
  rw[show tO C (.some c)=(nF' (tE C c)) from rfl];exact nH' (sE0 c R h).1
termination_by structural c=>c
theorem sI {C:Rc}:∀(i:Ci) {B:List Str} {X:Cx} {sc:Scope} {x tg:Expr},Rok C B X sc->mI C.N B sc i x=true->tz' i tg=true->PI X tg x (tI C i)
 | .val c,B,X,sc,x,tg,R,h,_=>by
  rw[show tI C (.val c)=(t6' C.K (tE C c)) from rfl]
  rw[<- R.hK]
  exact ql' (sE0 c R h).1
 | .range1 a,B,X,sc,x,tg,R,h,_=>by
  refine qY' h fun n w1 y w2 e0 g=>?_
  clear h
  subst e0
  revert g
  intro h
  simp only[af,decide_eq_true_eq]at h
  obtain⟨⟨⟨⟨rfl,h1⟩,h2⟩,h3⟩,h4⟩:=h
  rw[show tI C (.range1 a)=(nx' (b3' (tE C a) gp')) from rfl]
  exact id' (R.glb h1) (R.blt _ h2) (b7' (sE0 a R h3).1 d8' (am' h4)) (am' h4)
 | .zip a b,B,X,sc,x,tg,R,h,hz=>by
  refine uD' h fun n w1 y z w2 e0 g=>?_
  clear h
  subst e0
  revert g
  intro h
  simp only[af,decide_eq_true_eq]at h
  obtain⟨⟨⟨⟨⟨⟨rfl,h1⟩,h2⟩,h3⟩,h4⟩,h5⟩,h6⟩:=h
  rw[show tI C (.zip a b)=(t7' C.K (b3' (tE C a) (b3' (tE C b) gp'))) from rfl]
  rw[<- R.hK]
  have e2:starEach [_] X.env=[(false,eval _ X.env)]:=am' (es:=[]) h6
  cases tg with
  |Tuple es k p=>exact qm' (R.glb h1) (R.blt _ h2) (b7' (sE0 a R h3).1 (b7' (sE0 b R h5).1 d8' (am' h6)) (am' h4)) (by rw[am' h4,e2]) e2
  |_=>cases hz
 | .enum a,B,X,sc,x,tg,R,h,hz=>by
  refine qY' h fun n w1 y w2 e0 g=>?_
  clear h
  subst e0
  revert g
  intro h
  simp only[af,decide_eq_true_eq]at h
  obtain⟨⟨⟨⟨rfl,h1⟩,h2⟩,h3⟩,h4⟩:=h
  rw[show tI C (.enum a)=(nU' C.K (tE C a)) from rfl]
  rw[<- R.hK]
  cases tg with
  |Tuple es k p=>exact nV' (R.glb h1) (R.blt _ h2) (b7' (sE0 a R h3).1 d8' (am' h4)) (am' h4)
  |_=>cases hz
termination_by structural c=>c
theorem sG {C:Rc}:∀(t:Ct) {B:List Str} {X:Cx} {sc:Scope} {e:Expr},Rok C B X sc->mT C.N B sc t e=true->PG X e (tG C t)
 | .name i,B,X,sc,e,R,h=>by
  refine ut' h fun x w1 e0 g=>?_
  clear h
  subst e0
  revert g
  intro h
  simp only[af]at h
  obtain⟨h1,h2,h3⟩:=bG' h.1
  obtain⟨h4,h5⟩:=R.locb h.2
  rw[show tG C (.name i)=(fP' i) from rfl]
  exact fQ' (by rw[R.hN];exact R.nd) (by rw[R.hN];exact h1) h4 h5
 | .tup ts,B,X,sc,e,R,h=>by
  refine qV' h fun es w1 w2 e0 g=>?_
  clear h
  subst e0
  revert g
  intro h
  rw[show tG C (.tup ts)=(up' C.K (ld' ts) (tGs C ts)) from rfl]
  rw[<- R.hK]
  simp only[af,bJ]at h
  exact qQ' (R.calm h.2) (sGs ts R h.1) (cR' h.1).1 (cR' h.1).2
 | .sub o i,B,X,sc,e,R,h=>by
  refine qW' h fun eo ei w1 e0 g=>?_
  clear h
  subst e0
  revert g
  intro h
  simp only[af]at h
  rw[show tG C (.sub o i)=(tM' (tE C o) (tE C i) dx') from rfl]
  exact pT' (sE0 o R h.1.1).1 (sE0 i R h.1.2).1 kP' (oe' h.2)
termination_by structural c=>c
theorem sGs {C:Rc}:∀(ts:Cts) {B:List Str} {X:Cx} {sc:Scope} {es:List Expr},Rok C B X sc->mTs C.N B sc ts es=true->PGs X es (tGs C ts)
 | .nil,B,X,sc,es,R,h=>by
  refine jq' h fun e0 g=>?_
  clear h
  subst e0
  revert g
  intro h
  rw[show tGs C .nil=(tL') from rfl];exact nw'
 | .cons t r,B,X,sc,es,R,h=>by
  refine lg' h fun x xs e0 g=>?_
  clear h
  subst e0
  revert g
  intro h
  simp only[af]at h
  rw[show tGs C (.cons t r)=(nv' (tG C t) (tGs C r)) from rfl]
  exact kB' (sG t R h.1.1) (sGs r R h.2) (f6' h.1.2)
termination_by structural c=>c
end
theorem sE {C:Rc} {B:List Str} (c:Ce) {X:Cx} {sc:Scope} {e:Expr} (R:Rok C B X sc) (h:mE C.N B sc c e=true):PE X e (tE C c):=(sE0 c R h).1
end R3
set_option maxHeartbeats 4000000
namespace R3
open PySem PySem.Spec PyProof.Rows L2
def dR':Expr->Bool
 | .ListComp ..=>false
 | .SetComp ..=>false
 | .DictComp ..=>false
 |_=>true
theorem lj' {x tg:Expr} {l:Nat} {env:Env} (h:dR' x=true):swapsWithSole [tg] x l env=pure false:=by
 cases x<;>first|rfl|cases h
theorem hM' {x:Expr} {l:Nat} {env:Env} (h:dR' x=true):swapsWith x none l env=pure false:=by
 cases x<;>first|rfl|cases h
set_option tactic.hygienic true in
theorem jv' {N B:List Str} {sc:Scope} {c:Ce} {x:Expr} (h:mE N B sc c x=true) (hd:f5' c=false) (hx:dR' x=false):∃elt own t it q r,c=.comp elt own t it q r/\∃ee gens scope pos,x=.ListComp ee gens scope pos:=by
 cases x<;>first|(cases hx;done)|skip
 .cases c<;>first|(exact ap' h)|(cases hd;done)|exact⟨_,_,_,_,_,_,rfl,_,_,_,_,rfl⟩
 .cases c<;>first|(exact ap' h)|(cases hd;done)|(rename_i r;cases r<;>first|(exact ap' h)|(cases hd;done)|(rename_i r;cases r<;>first|(exact ap' h)|(cases hd;done)|(rename_i r;cases r<;>exact ap' h)))
 .cases c<;>first|(exact ap' h)|(cases hd;done)|(rename_i r;cases r<;>first|(exact ap' h)|(cases hd;done)|(rename_i r;cases r<;>first|(exact ap' h)|(cases hd;done)|(rename_i r;cases r<;>exact ap' h)))
def mO':Expr->Bool
 | .Starred ..=>true
 |_=>false
theorem nst {e:Expr} (h:aA' e=true):mO' e=false:=by
 cases e<;>first|rfl|cases h
theorem f7' {x y:Str} {px py pt pt2:Pos} {kt k2:Nat} {ea eb:Expr} {env:Env} (hb:env.scope.kind=.function) (kx:env.kindOf x=some .local) (ky:env.kindOf y=some .local) (hxy:x≠y) (hl:px.line=py.line) (h8:aA' ea=true) (h9:aA' eb=true)
  (h11:(foldedForSure 8 ea&&foldedForSure 8 eb)=false) (h12:(constantsAlone 8 ea&&constantsAlone 8 eb)=false):swappedStores [.Tuple [.Name x px,.Name y py] kt pt] (.Tuple [ea,eb] k2 pt2) env=pure (some [x,y]):=by
 have hbk:env.blockKind=.function:=by unfold Env.blockKind;rw[hb];rfl
 have p1:(Expr.Name x px).pos=px:=rfl
 have p2:(Expr.Name y py).pos=py:=rfl
 have hyx:(y == x)=false:=by simpa using fun z=>hxy z.symm
 have s1:[ea,eb].any mO'=false:=by
  rw[bY,bY,List.any_nil,nst h8,nst h9]
  rfl
 have s2:[ea,eb].all (foldedForSure 8)=false:=by
  rw[bX,bX,List.all_nil,Bool.and_true];exact h11
 have s3:[ea,eb].all (constantsAlone 8)=false:=by
  rw[bX,bX,List.all_nil,Bool.and_true];exact h12
 have s4:([x,y].eraseDups).length=2:=by
  simp[List.eraseDups_cons,hxy,hyx]
 unfold swappedStores
 dsimp only
 refine(if_neg ?_).trans ((if_neg (Bool.eq_false_iff.mp s1)).trans ?_)
 .simp[hbk]
 rw[s2,s3]
 simp[kx,ky,p1,p2,hl,bH,s4]
theorem di' {tg:Expr} {env:Env} (h:aA' tg=true):(assignEach [tg] env).map (·.2)=[assign tg env]:=by
 cases tg<;>first|rfl|cases h
def of':Expr->Expr->Bool
 | .Tuple ..,.Tuple ..=>false
 | .List ..,.Tuple ..=>false
 |_,_=>true
theorem ef' {tg x:Expr} {env:Env} (h:of' tg x=true):swappedStores [tg] x env=pure none:=by
 cases tg<;>first|rfl|(cases x<;>first|rfl|cases h)
theorem ft' {tg:Expr} {vs:List Expr} {k:Nat} {pos:Pos} {env:Env} (h:vs.all (foldedForSure 8)=true):swappedStores [tg] (.Tuple vs k pos) env=pure none:=by
 have key:∀ts:List Expr,swappedStores [.Tuple ts 0 pos] (.Tuple vs k pos) env=pure none:=by
  intro ts
  unfold swappedStores
  dsimp only
  split
  .rfl
  .split
   .rfl
   .split
    .rfl
    .rfl
 cases tg<;>first|rfl|exact key _
theorem og' {N B:List Str} {sc:Scope} {t:Ct} {a:List Expr} {p:Pos} (h:mT N B sc t (.List a p)=true):False:=by
 cases t<;>exact ap' h
section
variable {C:Rc} {B:List Str} {X:Cx} {sc:Scope}
theorem Rok.suite (R:Rok C B X sc) (e:Addr):Rok { C with xk:=fun _=>E0 } ("~" :: "^" :: B) (X.inX e) sc:=by
 have t1:tld ("~" :: "^" :: B)=true:=c4'
 have t2:hat ("~" :: "^" :: B)=true:=decide_eq_true (az _ aJ)
 refine⟨R.hN,R.nd,R.hK,PassesOwn.never,(fun z=>by rw[t2]at z;cases z),R.hu,R.gd,R.loc,R.cel,R.fre,R.glo,(fun _ _ _ z=>by rw[t2]at z;cases z),fun x hx=>?_,R.mrk,R.cls,(fun z=>by rw[t1]at z;cases z),(fun z=>by rw[t1]at z;cases z),(fun z=>by rw[t1]at z;cases z)⟩
 rcases ai.mp hx with rfl|hx
 .exact R.mrk.1
 .rcases ai.mp hx with rfl|hx
  .exact R.mrk.2.1
  .exact R.blt x hx
end
set_option maxHeartbeats 4000000
mutual
theorem sS:∀(c:Cs) {C:Rc} {B:List Str} {X:Cx} {sc:Scope} {s:Stmt},Rok C B X sc->X.env.scope.kind=.function->mS C.N B sc c s=true->PS X s (tS C c)
 | .expr e,C,B,X,sc,s,R,hk,h=>by
  refine uE' h fun x w1 e0 g=>?_
  clear h
  subst e0
  revert g
  intro h
  obtain⟨hc,hd⟩:=f0' h
  clear h
  obtain⟨hc,hm⟩:=f0' hc
  replace hd:f5' e=false:=by cases z:f5' e with
   |false=>rfl
   |true=>rw[z]at hd;exact ap' hd
  rw[show tS C (.expr e)=(nt' (tE C e)) from rfl]
  refine nu' (sE e R hc) (hM' ?_)
  cases hx:dR' x with
  |true=>rfl
  |false=>
   obtain⟨elt,own,t,it,q,r,rfl,_⟩:=jv' hc hd hx
   exact ap' hm
 | .ret e,C,B,X,sc,s,R,hk,h=>by
  refine uF' h fun x w1 e0 g=>?_
  clear h
  subst e0
  revert g
  intro h
  rw[show tS C (.ret e)=(tH' (tE C e)) from rfl]
  exact pR' (sE e R h)
 | .asg t e,C,B,X,sc,s,R,hk,h=>by
  refine uG' h fun tg x pos e0 g=>?_
  clear h
  subst e0
  revert g
  intro h
  obtain⟨h,h4⟩:=f0' h
  obtain⟨h,h3⟩:=f0' h
  obtain⟨h,h2⟩:=f0' h
  obtain⟨h1,h0⟩:=f0' h
  replace h0:f5' e=false:=by cases z:f5' e with
   |false=>rfl
   |true=>rw[z]at h0;exact ap' h0
  rw[show tS C (.asg t e)=(tj' (tE C e) (tG C t)) from rfl]
  have hw:swappedStores [tg] x X.env=pure none:=by
   cases tg with
   |Tuple a b c=>cases x<;>first|exact ef' rfl|exact ft' h4|exact ap' h4
   |List a b=>exact(og' h2).elim
   |_=>exact ef' rfl
  cases hx:dR' x with
  |true=>exact ia' (sE e R h1) (sG t R h2) (lj' hx) hw (di' h3)
  |false=>
   obtain⟨elt,own,t',it,q,r,rfl,ee,gens,scope,p2,rfl⟩:=jv' h1 h0 hx
   have D:=(sE0 _ R h1).2
   obtain⟨tg',iter,ifs,nx,scope',pos',D,hi,he,hu,hsw⟩:=D
   cases t with
   |name i=>
    cases tg with
    |Name y py=>
     obtain⟨b,hb⟩:=hsw y py pos.line
     cases b with
     |true=>
      replace h2:=f0' h2
      obtain⟨g1,g2,g3⟩:=bG' h2.1
      obtain⟨g4,g5⟩:=R.locb h2.2
      exact hv' D hi (by rw[R.hN];exact R.nd) (by rw[R.hN];exact g1) g4 g5 (hu _) hb
     |false=>exact ia' (sE _ R h1) (sG _ R h2) hb hw (di' h3)
    |_=>exact ap' h2
   |tup ts=>
    cases tg with
    |Tuple a b c=>exact ap' h4
    |_=>exact ap' h2
   |sub o i=>
    cases tg with
    |Subscript a b c=>exact ia' (sE _ R h1) (sG _ R h2) rfl hw (di' h3)
    |_=>exact ap' h2
 | .par i j a b,C,B,X,sc,s,R,hk,h=>by
  refine uH' h fun x px y py kt pt ea eb k2 pt2 pos e0 g=>?_
  clear h
  subst e0
  revert g
  intro h
  simp only[af,decide_eq_true_eq,bJ,beq_iff_eq]at h
  obtain⟨⟨⟨⟨⟨⟨⟨⟨⟨⟨⟨⟨h1,h2⟩,h3⟩,h4⟩,h5⟩,h6⟩,h7⟩,h8⟩,h9⟩,h10⟩,h11⟩,h12⟩,hh⟩:=h
  obtain⟨g1,g2,g3⟩:=bG' h1
  obtain⟨f1,f2,f3⟩:=bG' h2
  rw[show tS C (.par i j a b)=(tN' i j (b3' (tE C a) (b3' (tE C b) gp'))) from rfl]
  have lx:=R.loc x h4
  have ly:=R.loc y h5
  refine pU' (R.calm hh) (by rw[R.hN];exact R.nd) (by rw[R.hN];exact g1) (by rw[R.hN];exact f1) h3 lx ly (b7' (sE a R h6) (b7' (sE b R h7) d8' (am' h9)) (am' h8)) ?_
  have hxy:x≠y:=fun z=>h3 (eq' R.nd g1 (z ▸ f1))
  exact f7' hk lx ly hxy h10 h8 h9 h11 h12
 | .asgc i j e,C,B,X,sc,s,R,hk,h=>by
  refine uI' h fun x w1 y w2 ee w3 e0 g=>?_
  clear h
  subst e0
  revert g
  intro h
  simp only[af]at h
  obtain⟨⟨⟨⟨h1,h2⟩,h3⟩,h4⟩,h5⟩:=h
  obtain⟨g1,g2,g3⟩:=bG' h1
  obtain⟨g4,g5⟩:=R.locb h2
  obtain⟨k1,k2,k3⟩:=bG' h3
  obtain⟨k4,k5⟩:=R.locb h4
  rw[show tS C (.asgc i j e)=(nY' i j (tE C e)) from rfl]
  exact nZ' (sE e R h5) (fQ' (by rw[R.hN];exact R.nd) (by rw[R.hN];exact g1) g4 g5) (fQ' (by rw[R.hN];exact R.nd) (by rw[R.hN];exact k1) k4 k5) rfl rfl
 | .ite q a b,C,B,X,sc,s,R,hk,h=>by
  refine uJ' h fun x ss rs w1 e0 g=>?_
  clear h
  subst e0
  revert g
  intro h
  simp only[af]at h
  rw[show tS C (.ite q a b)=(tI' (tQ C q) (tSs C a) (tSs C b)) from rfl]
  exact tJ' (sQ q R h.1.1).1 (sSs a R hk h.1.2) (sSs b R hk h.2)
 | .whl q b,C,B,X,sc,s,R,hk,h=>by
  refine uK' h fun x ss w1 e0 g=>?_
  clear h
  subst e0
  revert g
  intro h
  simp only[af]at h
  rw[show tS C (.whl q b)=(ib' (tQ C q) (tSs C b)) from rfl]
  exact kC' R.own (sQ q R h.1).1 (sSs b R hk h.2)
 | .for_ t it b,C,B,X,sc,s,R,hk,h=>by
  refine uL' h fun tg iter ss w1 e0 g=>?_
  clear h
  subst e0
  revert g
  intro h
  simp only[af,bJ]at h
  obtain⟨⟨⟨⟨⟨h1,h2⟩,h3⟩,h4⟩,h5⟩,hh⟩:=h
  rw[show tS C (.for_ t it b)=(tO' (tI C it) (tG C t) (tSs C b)) from rfl]
  exact pV' R.own (R.calm hh) (sI it R h1 h2) (sG t R h4) (sSs b R hk h5) (fq' h3)
theorem sSs:∀(c:Css) {C:Rc} {B:List Str} {X:Cx} {sc:Scope} {ss:List Stmt},Rok C B X sc->X.env.scope.kind=.function->mSs C.N B sc c ss=true->PSs X ss (tSs C c)
 | .nil,C,B,X,sc,ss,R,hk,h=>by
  refine uM' h fun e0 g=>?_
  clear h
  subst e0
  revert g
  intro h
  rw[show tSs C .nil=(nr') from rfl];exact ns'
 | .cons c r,C,B,X,sc,ss,R,hk,h=>by
  refine uN' h fun x xs e0 g=>?_
  clear h
  subst e0
  revert g
  intro h
  simp only[af]at h
  rw[show tSs C (.cons c r)=(tG' (tS C c) (tSs C r)) from rfl]
  exact kA' (sS c R hk h.1) (sSs r R hk h.2)
end
section
variable {P:Program} {w:World} {K:W.Frag} {mg:Str->Option Value} {base:Heap}
structure Ask (P:Program) (w:World) (K:W.Frag) (mg:Str->Option Value) (base:Heap) (k:Nat) (C:Rc):Prop where
 fs:∀y sp',C.fs y=some sp'->∃f' fd' ps',(FnOk P w K mg base CX0 k f' fd' ps' sp'\/FnOk P w K mg base (CX1 P w mg) k f' fd' ps' sp'/\pE' y∈C.B)/\mg y=some (.ref f')/\W.keepIn K (.ref f')=true/\dZ' K fd' ps' []
 B:∀y∈C.B,mg y=none
 mrk:mg "~"=none/\mg "^"=none/\mg "%"=none
 cl:∀c Ca,C.cl c=some Ca->mg c=some (.ref Ca)/\W.nsIn K mainGlobals c=some (some (.ref Ca))
 nt:tld C.B=false
 nh:hat C.B=false
theorem oh' {x qual:Str} {st:Stmt} {f:Addr} {fd:FuncData} {ps:List Str} {k:Nat} {sp:Sp} (F:Fun K x qual st f fd) (C:Rc) (S:FnScope C.N ps (ac' st)) (hK:C.K=K) (code:Css) (hm:mSs C.N C.B (ac' st) code (ai' st)=true)
  (len:∀vs H Q E,sp vs H Q E->vs.length=ps.length) (ask:Ask P w K mg base k C) (hxk:C.xk=fun _=>E0)
  (hbody:∀vs H Q E,sp vs H Q E->tSs C code { nx:=fun _ H'=>Q .non H',rt:=Q } (ax' C.N vs) H):FnOk P w K mg base CX0 (k+1) f fd ps sp:=by
 refine F.ok S len fun cdv A outer s H vs Q E hr h=>⟨_,sSs code (sc:=ac' st) (B:=C.B) ?_ S.kind hm,hbody vs H Q E h⟩
 refine⟨rfl,S.nd,hK.symm,PassesOwn.never,fun _=>rfl,hr.units,hr.gd,fun _ e=>e,fun _ e=>⟨e,rfl⟩,fun _ e=>.inr e,fun _ e=>e,fun y sp' e _ _=>?_,ask.B,ask.mrk,ask.cl,fun _=>⟨rfl,fun _=>rfl,rfl,rfl⟩,fun _=>ask.nh,fun _ _ nm Ca pins σ H s e t _ _ _ _ _ _ z=>?_⟩
 .obtain⟨f',fd',ps',h1,h2,h3,h4⟩:=ask.fs y sp' e
  rcases h1 with h1|⟨h1,hb⟩
  .exact⟨f',fd',ps',k,CX0,h1,hr,h2,h3,h4,.inl rfl,mN'⟩
  .refine⟨f',fd',ps',k,_,h1,hr,h2,h3,h4,.inr ⟨rfl,hb⟩,?_⟩
   rintro pins σ H s e s' I ⟨ea,T,Ca,nm,H',_,_,_,_,_,_,_,_,_,_,_,z⟩
   rw[hxk]at z
   exact z.elim
 .rw[hxk]at z
  exact z.elim
end
def lk' (a:Addr) (k:Nat) (h:Heap):Prop:=∃(x y z:Int) (t1 t2 t3:Tok) (n:Nat),h.get? a=some { cls:=.type "list",data:=.seq #[.int x t1,.int y t2,.int z t3] n }/\0<=x/\0<=y/\y<2 ^ 62/\0<=z/\z<=k
def da' (a:Addr) (k:Nat):HO:=.ext (lk' a k)
def fu' (x y z:Int):HO:=.lst [.int x,.int y,.int z]
theorem q4' {a:Addr} {n k:Nat} (e:da' a n=da' a k):n<=k:=by
 have e1:lk' a n=lk' a k:=HO.ext.inj e
 let o:Obj:={ cls:=.type "list",data:=.seq #[.int 0 0,.int 0 0,.int n 0] 0 }
 let h0:Heap:={ (default:Heap)with objs:=Array.replicate a default }
 have hs:h0.objs.size=a:=Array.size_replicate
 have g:(h0.push o).get? a=some o:=by
  have:=av h0 (o:=o) rfl
  rw[hs]at this
  exact this
 have q:lk' a n (h0.push o):=⟨0,0,n,0,0,0,0,g,by omega,by omega,by decide,by omega,by omega⟩
 rw[e1]at q
 obtain⟨x,y,z,t1,t2,t3,m,g2,_,_,_,_,hz⟩:=q
 rw[g]at g2
 have g3:=Option.some.inj g2
 have g4:(#[.int 0 0,.int 0 0,.int n 0]:Array Value)=#[.int x t1,.int y t2,.int z t3]:=by
  have:o.data=_:=congrArg Obj.data g3
  injection this
 have g6:=congrArg Array.toList g4
 simp only[List.cons.injEq,Value.int.injEq]at g6
 have g5:(n:Int)=z:=g6.2.2.1.1
 omega
theorem jw' {P:Program} {w:World} {H:Hp} {h:Heap} {b:Addr} {x y z:Int} {k:Nat} (hok:HOk P w H h) (e:H b=some (fu' x y z)) (hx:0<=x) (hy:0<=y) (hy2:y<2 ^ 62) (hz:0<=z) (hk:z<=k):HOk P w (upd H b (da' b k)) h:=by
 intro c o ec
 by_cases hc:c=b
 .subst hc
  rw[aa']at ec
  cases ec
  obtain⟨_,its,n,rv,g⟩:=(show aJ' P w H h c (.lst _) from hok c _ e)
  cases rv with
  |cons r1 r=>
   cases r with
   |cons r2 r=>
    cases r with
    |cons r3 r=>
     cases r
     obtain⟨t1,rfl⟩:=r1
     obtain⟨t2,rfl⟩:=r2
     obtain⟨t3,rfl⟩:=r3
     refine⟨⟨x,y,z,t1,t2,t3,n,g,hx,hy,hy2,hz,hk⟩,⟨_,g⟩,fun h1 h2 q kk=>?_⟩
     obtain⟨x,y,z,t1,t2,t3,n,g,r⟩:=q
     exact⟨x,y,z,t1,t2,t3,n,kk _ g,r⟩
 .rw[ae' hc]at ec
  have ne:∀d u,H d=some u->(∀xs,u≠.lst xs)->d≠b:=fun d u q nu z=>by subst z;rw[e]at q;cases q;exact nu _ rfl
  exact(hok c o ec).stay (fun _ _ _ q=>q) (fun d q=>by rw[ae' (ne d _ q fun _ z=>by cases z)];exact q) fun d xs q=>by rw[ae' (ne d _ q fun _ z=>by cases z)];exact q
theorem ll' {P:Program} {w:World} {H:Hp} {h:Heap} {b:Addr} {k:Nat} (hok:HOk P w H h) (e:H b=some (da' b k)):∃x y z:Int,0<=x/\0<=y/\y<2 ^ 62/\0<=z/\z<=k/\HOk P w (upd H b (fu' x y z)) h:=by
 obtain⟨⟨x,y,z,t1,t2,t3,n,g,hx,hy,hy2,hz,hk⟩,_,_⟩:=(show aJ' P w H h b (.ext _) from hok b _ e)
 refine⟨x,y,z,hx,hy,hy2,hz,hk,fun c o ec=>?_⟩
 by_cases hc:c=b
 .subst hc
  rw[aa']at ec
  cases ec
  exact⟨by show 3<=sizeLine;decide,[.int x t1,.int y t2,.int z t3],n,.cons ⟨_,rfl⟩ (.cons ⟨_,rfl⟩ (.cons ⟨_,rfl⟩ .nil)),g⟩
 .rw[ae' hc]at ec
  have ne:∀d u,H d=some u->(∀φ,u≠.ext φ)->d≠b:=fun d u q nu z=>by subst z;rw[e]at q;cases q;exact nu _ rfl
  exact(hok c o ec).stay (fun _ _ _ q=>q) (fun d q=>by rw[ae' (ne d _ q fun _ z=>by cases z)];exact q) fun d xs q=>by rw[ae' (ne d _ q fun _ z=>by cases z)];exact q
theorem lm' {fs ex:List Addr} {H H':Hp} {h h':Heap} {b:Addr} {xs:List V} {o:HO} (u:Un fs ex H H' h h') (e:H' b=some (.lst xs)):Un fs ex H (upd H' b o) h h' where
 keep:=u.keep
 slot:=u.slot
 free:=fun c ob q n hx=>by
  have z:=u.free c ob q n hx
  rw[ae' (fun z2=>by subst z2;rw[e]at z;cases z)]
  exact z
 there:=u.there
 tups:=fun c ys q=>by
  have z:=u.tups c ys q
  rw[ae' (fun z2=>by subst z2;rw[e]at z;cases z)]
  exact z
 frzs:=fun c ob ys q=>by
  have z:=u.frzs c ob ys q
  rw[ae' (fun z2=>by subst z2;rw[e]at z;cases z)]
  exact z
 tbls:=fun c ps q=>by
  obtain⟨m,z⟩:=u.tbls c ps q
  exact⟨m,by rw[ae' (fun z2=>by subst z2;rw[e]at z;cases z)];exact z⟩
theorem oi' {fs ex:List Addr} {H H':Hp} {h h':Heap} {b:Addr} {φ:Heap->Prop} {o:HO} (u:Un fs ex (upd H b o) H' h h') (e:H b=some (.ext φ)):Un fs ex H H' h h':=by
 have ne:∀c,H c=none->c≠b:=fun c n z=>by subst z;rw[e]at n;cases n
 have ne2:∀c v,H c=some v->(∀ψ,v≠.ext ψ)->c≠b:=fun c v q nv z=>by subst z;rw[e]at q;cases q;exact nv _ rfl
 exact⟨fun c ob q n=>u.keep c ob q (by rw[ae' (ne c n)];exact n),fun c ob q n=>u.slot c ob q (by rw[ae' (ne c n)];exact n),fun c ob q n=>u.free c ob q (by rw[ae' (ne c n)];exact n),u.there,
  fun c ys q=>u.tups c ys (by rw[ae' (ne2 c _ q fun _ z=>by cases z)];exact q),fun c ob ys q=>u.frzs c ob ys (by rw[ae' (ne2 c _ q fun _ z=>by cases z)];exact q),fun c ps q=>u.tbls c ps (by rw[ae' (ne2 c _ q fun _ z=>by cases z)];exact q)⟩
section
variable {P:Program} {w:World} {K:W.Frag} {mg:Str->Option Value} {base:Heap} {k:Nat} {f:Addr} {fd:FuncData} {ps:List Str} {sp sp':Sp}
def vU' (Q:VK) (v:V) (H:Hp):Prop:=∃b x y z m,H b=some (fu' x y z)/\0<=x/\0<=y/\y<2 ^ 62/\0<=z/\z<=((m:Nat):Int)/\Q v (upd H b (da' b m))
theorem jx' (F:FnOk P w K mg base CX0 k f fd ps sp) (h:∀vs H Q E,sp' vs H Q E->sp vs H (vU' Q) E):FnOk P w K mg base CX0 k f fd ps sp':=by
 refine⟨fun vs H Q E q=>F.len vs H _ E (h _ _ _ _ q),fun A outer s H args us vs Q E hr e0 hb hv hs=>?_⟩
 refine codeAny_mono (F.run A outer s H args us vs _ E hr e0 hb hv (h _ _ _ _ hs)) fun r s' hq=>?_
 cases r with
 |error e=>exact hq
 |ok fl=>
  cases fl with
  |next=>exact hq
  |brk=>exact hq
  |cont=>exact hq
  |ret u=>
   obtain⟨v,H',os,bare,un,hok,rv,b,x,y,z,m,eb,hx,hy,hy2,hz,hm,q⟩:=hq
   exact⟨v,_,os,bare,lm' un eb,jw' hok eb hx hy hy2 hz hm,rv,q⟩
theorem oj' (F:FnOk P w K mg base CX0 k f fd ps sp) (h:∀vs H Q E,sp' vs H Q E->∃b n,H b=some (da' b n)/\∀x y z,0<=x->0<=y->y<2 ^ 62->0<=z->z<=((n:Nat):Int)->sp vs (upd H b (fu' x y z)) Q E) (len:∀vs H Q E,sp' vs H Q E->vs.length=ps.length):FnOk P w K mg base CX0 k f fd ps sp':=by
 refine⟨len,fun A outer s H args us vs Q E hr e0 hb hv hs=>?_⟩
 obtain⟨b,n,eb,hsp⟩:=h _ _ _ _ hs
 obtain⟨x,y,z,hx,hy,hy2,hz,hn,hok⟩:=ll' e0.hok eb
 have ne:∀c,H c=none->c≠b:=fun c n z=>by subst z;rw[eb]at n;cases n
 have e1:Env0 P w K mg base A outer s (upd H b (fu' x y z)):=⟨e0.frames,e0.mod,fun c o e=>⟨(e0.bs c o e).1,by rw[ae' (ne c (e0.bs c o e).2)];exact(e0.bs c o e).2⟩,e0.bsz,e0.funs,fun c hc=>by rw[ae' (ne c (e0.frf c hc))];exact e0.frf c hc,hok,e0.bare⟩
 refine codeAny_mono (F.run A outer s _ args us vs Q E hr e1 hb hv (hsp x y z hx hy hy2 hz hn)) fun r s' hq=>?_
 cases r with
 |error e=>exact hq
 |ok fl=>
  cases fl with
  |next=>exact hq
  |brk=>exact hq
  |cont=>exact hq
  |ret u=>
   obtain⟨v,H',os,bare,un,hok,rv,q⟩:=hq
   exact⟨v,H',os,bare,oi' un eb,hok,rv,q⟩
end
structure Go (c:Nat) (H H':Hp):Prop where
 box:∀a n,H a=some (da' a n)->∃m,m<=n+c/\H' a=some (da' a m)
 oth:∀a o,H a=some o->(∀φ,o≠.ext φ)->H' a=some o
 free:∀a,H' a=none->H a=none
theorem Go.of_same {c:Nat} {H H':Hp} (h:aG' H H'):Go c H H':=⟨fun a n e=>⟨n,by omega,h a _ e⟩,fun a o e _=>h a o e,fun a e=>h.free e⟩
theorem Go.refl {c:Nat} {H:Hp}:Go c H H:=.of_same (aG'.refl H)
theorem Go.trans {c d:Nat} {H H1 H2:Hp} (a:Go c H H1) (b:Go d H1 H2):Go (c+d) H H2:=⟨fun p n e=>by
  obtain⟨m,hm,e1⟩:=a.box p n e
  obtain⟨m',hm',e2⟩:=b.box p m e1
  exact⟨m',by omega,e2⟩,fun p o e no=>b.oth p o (a.oth p o e no) no,fun p e=>a.free p (b.free p e)⟩
theorem Go.mono {c d:Nat} {H H1:Hp} (a:Go c H H1) (h:c<=d):Go d H H1:=⟨fun p n e=>by
  obtain⟨m,hm,e1⟩:=a.box p n e
  exact⟨m,by omega,e1⟩,a.oth,a.free⟩
theorem Go.lst {c:Nat} {H H1:Hp} (a:Go c H H1) {p:Addr} {xs:List V} (e:H p=some (.lst xs)):H1 p=some (.lst xs):=a.oth p _ e fun _ z=>by cases z
theorem Go.tup {c:Nat} {H H1:Hp} (a:Go c H H1) {p:Addr} {xs:List V} (e:H p=some (.tup xs)):H1 p=some (.tup xs):=a.oth p _ e fun _ z=>by cases z
theorem Go.seq {c:Nat} {K:W.Frag} {H H1:Hp} (g:Go c H H1) {a:Addr} {xs:List V} (h:SqL K H a xs):SqL K H1 a xs:=by
 rcases h with(h|⟨o,h⟩)|h
 .exact .inl (.inl (g.lst h))
 .exact .inl (.inr ⟨o,g.oth _ _ h fun _ z=>by cases z⟩)
 .exact .inr h
theorem Go.new {c:Nat} {H:Hp} {p:Addr} (h:H p=none) (o:HO):Go c H (upd H p o):=.of_same fun b u q=>by rw[ae' (af' q h)];exact q
theorem Go.draw {H:Hp} {b:Addr} {n m:Nat} (e:H b=some (da' b n)) (h:m<=n+1) (o:HO):Go 1 H (upd (upd H b o) b (da' b m)):=by
 rw[dD']
 refine⟨fun p k q=>?_,fun p u q no=>?_,fun p q=>?_⟩
 .by_cases hp:p=b
  .subst hp
   rw[e]at q
   have:=q4' (Option.some.inj q)
   exact⟨m,by omega,aa'⟩
  .exact⟨k,by omega,by rw[ae' hp];exact q⟩
 .rw[ae']
  .exact q
  .intro z
   subst z
   rw[e]at q
   cases q
   exact no _ rfl
 .by_cases hp:p=b
  .subst hp
   rw[aa']at q
   cases q
  .rw[ae' hp]at q
   exact q
section
variable {C:Rc} {σ:L2.St} {H:Hp} {Q:VK} {D:Ends} {Qb:Bool->Hp->Prop}
def kV (o:Option (Option V)) (H:Hp) (Q:VK):Prop:=∃v,o=some (some v)/\Q v H
theorem dS' {v:V}:kV (some (some v)) H Q=Q v H:=propext ⟨fun⟨u,e,q⟩=>by cases e;exact q,fun q=>⟨v,rfl,q⟩⟩
theorem fv' {i:Nat}:tE C (.var i) σ H Q=kV σ[i]? H Q:=rfl
theorem q5' {n:Int}:tE C (.int n) σ H Q=Q (.int n) H:=rfl
theorem uP' {b:Bool}:tE C (.bl b) σ H Q=Q (.bl b) H:=rfl
theorem mP':tE C .non σ H Q=Q .non H:=rfl
theorem q6' {x:Str}:tE C (.str x) σ H Q=Q (.str x) H:=rfl
theorem uQ' {x:String}:tE C (.ty x) σ H Q=Q (.ty x) H:=rfl
def kB1 (C:Rc) (σ:L2.St) (op:Operator) (b:Ce) (Q:VK):VK:=fun x H=>tE C b σ H fun y H2=>ed' C.K op x y H2 Q
def kB2 (C:Rc) (op:Operator) (x:V) (Q:VK):VK:=fun y H=>ed' C.K op x y H Q
theorem mQ' {op:Operator} {a b:Ce}:tE C (.bin op a b) σ H Q=tE C a σ H (kB1 C σ op b Q):=rfl
theorem mR' {op:Operator} {b:Ce} {x:V}:kB1 C σ op b Q x H=tE C b σ H (kB2 C op x Q):=rfl
theorem mS' {op:Operator} {x y:V}:kB2 C op x Q y H=ed' C.K op x y H Q:=rfl
def kC1 (C:Rc) (σ:L2.St) (op:CmpOp) (b:Ce) (Q:VK):VK:=fun x H=>tE C b σ H fun y H2=>co' C.K op x y H2 Q
def kC2 (C:Rc) (op:CmpOp) (x:V) (Q:VK):VK:=fun y H=>co' C.K op x y H Q
theorem q8' {op:CmpOp} {a b:Ce}:tE C (.cmp op a b) σ H Q=tE C a σ H (kC1 C σ op b Q):=rfl
theorem mT' {op:CmpOp} {b:Ce} {x:V}:kC1 C σ op b Q x H=tE C b σ H (kC2 C op x Q):=rfl
theorem mU' {op:CmpOp} {x y:V}:kC2 C op x Q y H=co' C.K op x y H Q:=rfl
def kI1 (C:Rc) (σ:L2.St) (b:Ce) (Q:VK):VK:=fun x H=>tE C b σ H fun y H2=>mF' C.K x y H2 Q
def kI2 (C:Rc) (x:V) (Q:VK):VK:=fun y H=>mF' C.K x y H Q
theorem q9' {a b:Ce}:tE C (.idx a b) σ H Q=tE C a σ H (kI1 C σ b Q):=rfl
theorem ra' {b:Ce} {x:V}:kI1 C σ b Q x H=tE C b σ H (kI2 C x Q):=rfl
theorem rb' {x y:V}:kI2 C x Q y H=mF' C.K x y H Q:=rfl
def vV' (Q:VK):VK:=fun x H=>rU (fun i=>.int (-i)) x H Q
theorem rc' {a:Ce}:tE C (.neg a) σ H Q=tE C a σ H (vV' Q):=rfl
theorem ln' {i:Int}:vV' Q (.int i) H=Q (.int (-i)) H:=propext ⟨fun⟨u,e,q⟩=>by cases e;exact q,fun q=>⟨i,rfl,q⟩⟩
def kT (Qb:Bool->Hp->Prop):VK:=fun x H=>∃k,x=.bl k/\Qb k H
theorem rd' {k:Bool}:kT Qb (.bl k) H=Qb k H:=propext ⟨fun⟨u,e,q⟩=>by cases e;exact q,fun q=>⟨k,rfl,q⟩⟩
theorem mV' {op:CmpOp} {a b:Ce}:tQ C (.cmp op a b) σ H Qb=tE C a σ H (kC1 C σ op b (kT Qb)):=rfl
def re' (Qb:Bool->Hp->Prop):Bool->Hp->Prop:=fun c H=>Qb (!c) H
theorem rf' {q:Cq}:tQ C (.not q) σ H Qb=tQ C q σ H (re' Qb):=rfl
theorem lo' {c:Bool}:re' Qb c H=Qb (!c) H:=rfl
def ok' (C:Rc) (σ:L2.St) (b:Cq) (Qb:Bool->Hp->Prop):Bool->Hp->Prop:=fun c H=>if c=true then tQ C b σ H Qb else Qb false H
def uR' (C:Rc) (σ:L2.St) (b:Cq) (Qb:Bool->Hp->Prop):Bool->Hp->Prop:=fun c H=>if c=true then Qb true H else tQ C b σ H Qb
theorem rg' {a b:Cq}:tQ C (.and a b) σ H Qb=tQ C a σ H (ok' C σ b Qb):=rfl
theorem uS' {a b:Cq}:tQ C (.or a b) σ H Qb=tQ C a σ H (uR' C σ b Qb):=rfl
theorem ol' {b:Cq}:ok' C σ b Qb true H=tQ C b σ H Qb:=rfl
theorem om' {b:Cq}:ok' C σ b Qb false H=Qb false H:=rfl
theorem rh' {b:Cq}:uR' C σ b Qb true H=Qb true H:=rfl
theorem ri' {b:Cq}:uR' C σ b Qb false H=tQ C b σ H Qb:=rfl
variable {K:W.Frag} {i j:Int} {x y:Str}
theorem rj':ed' K .Add (.int i) (.int j) H Q=Q (.int (i+j)) H:=rfl
theorem uT':ed' K .Sub (.int i) (.int j) H Q=Q (.int (i-j)) H:=propext ⟨fun⟨_,_,e,e',q⟩=>by cases e;cases e';exact q,fun q=>⟨_,_,rfl,rfl,q⟩⟩
theorem uU':ed' K .Mult (.int i) (.int j) H Q=(hG' i j/\Q (.int (i*j)) H):=rfl
theorem rk':ed' K .Mult (.str x) (.int j) H Q=(-1000000<=j/\j<=1000000/\x.length*j.toNat<=1000000/\Q (.str (Txt.mul x j)) H):=rfl
theorem uV':ed' K .Mod (.int i) (.int j) H Q=(0<j/\Q (.int (i % j)) H):=propext ⟨fun⟨_,_,e,e',c,q⟩=>by cases e;cases e';exact⟨c,q⟩,fun q=>⟨_,_,rfl,rfl,q.1,q.2⟩⟩
theorem uW':ed' K .FloorDiv (.int i) (.int j) H Q=(n9' i j/\Q (.int (i / j)) H):=propext ⟨fun⟨_,_,e,e',c,q⟩=>by cases e;cases e';exact⟨c,q⟩,fun q=>⟨_,_,rfl,rfl,q.1,q.2⟩⟩
theorem uX':ed' K .Pow (.int i) (.int j) H Q=(tT' i j/\Q (.int (i ^ j.toNat)) H):=propext ⟨fun⟨_,_,e,e',c,q⟩=>by cases e;cases e';exact⟨c,q⟩,fun q=>⟨_,_,rfl,rfl,q.1,q.2⟩⟩
theorem wC':co' K .Lt (.int i) (.int j) H Q=Q (.bl (decide (i<j))) H:=propext ⟨fun⟨_,_,e,e',q⟩=>by cases e;cases e';exact q,fun q=>⟨_,_,rfl,rfl,q⟩⟩
theorem wD':co' K .LtE (.int i) (.int j) H Q=Q (.bl (decide (i<=j))) H:=propext ⟨fun⟨_,_,e,e',q⟩=>by cases e;cases e';exact q,fun q=>⟨_,_,rfl,rfl,q⟩⟩
theorem wE':co' K .Gt (.int i) (.int j) H Q=Q (.bl (decide (j<i))) H:=propext ⟨fun⟨_,_,e,e',q⟩=>by cases e;cases e';exact q,fun q=>⟨_,_,rfl,rfl,q⟩⟩
theorem wF':co' K .GtE (.int i) (.int j) H Q=Q (.bl (decide (j<=i))) H:=propext ⟨fun⟨_,_,e,e',q⟩=>by cases e;cases e';exact q,fun q=>⟨_,_,rfl,rfl,q⟩⟩
theorem wG':co' K .Eq (.int i) (.int j) H Q=Q (.bl (decide (i=j))) H:=by
 have e:decide (V.int i=V.int j)=decide (i=j):=by simp
 exact propext ⟨fun q=>e ▸ q.2,fun q=>⟨rfl,e.symm ▸ q⟩⟩
theorem rl' {a:Addr}:mF' K (.ref a) (.int i) H Q=(fM' K (.ref a) (.int i) H Q\/fU' K (.ref a) (.int i) H Q):=rfl
def pF' (C:Rc) (r:Css) (D:Ends):Ends:={ D with nx:=tSs C r D }
theorem rm':tSs C .nil D σ H=D.nx σ H:=rfl
theorem on' {s:Cs} {r:Css}:tSs C (.cons s r) D σ H=tS C s (pF' C r D) σ H:=rfl
theorem jy' {r:Css}:(pF' C r D).nx σ H=tSs C r D σ H:=rfl
theorem rn' {r:Css}:(pF' C r D).rt=D.rt:=rfl
theorem ro' {r:Css}:(pF' C r D).bk=D.bk:=rfl
theorem rp' {r:Css}:(pF' C r D).ct=D.ct:=rfl
theorem uY' {e:Ce}:tS C (.ret e) D σ H=tE C e σ H D.rt:=rfl
def rq' (D:Ends) (σ:L2.St):VK:=fun _ H=>D.nx σ H
theorem rr' {e:Ce}:tS C (.expr e) D σ H=tE C e σ H (rq' D σ):=rfl
theorem lp' {v:V}:rq' D σ v H=D.nx σ H:=rfl
def vW' (i:Nat) (D:Ends) (σ:L2.St):VK:=fun x H=>D.nx (σ.set i (some x)) H
theorem uZ' {i:Nat} {e:Ce}:tS C (.asg (.name i) e) D σ H=tE C e σ H (vW' i D σ):=rfl
theorem oo' {i:Nat} {v:V}:vW' i D σ v H=D.nx (σ.set i (some v)) H:=rfl
def rs' (C:Rc) (o i:Ce) (D:Ends) (σ:L2.St):VK:=fun v H=>tE C o σ H fun p H1=>tE C i σ H1 fun k H2=>dx' p k v H2 fun H3=>D.nx σ H3
def rt' (C:Rc) (i:Ce) (v:V) (D:Ends) (σ:L2.St):VK:=fun p H1=>tE C i σ H1 fun k H2=>dx' p k v H2 fun H3=>D.nx σ H3
def ru' (p v:V) (D:Ends) (σ:L2.St):VK:=fun k H2=>dx' p k v H2 fun H3=>D.nx σ H3
theorem u0' {o i e:Ce}:tS C (.asg (.sub o i) e) D σ H=tE C e σ H (rs' C o i D σ):=rfl
theorem lq' {o i:Ce} {v:V}:rs' C o i D σ v H=tE C o σ H (rt' C i v D σ):=rfl
theorem lr' {i:Ce} {v p:V}:rt' C i v D σ p H=tE C i σ H (ru' p v D σ):=rfl
theorem ls' {v p k:V}:ru' p v D σ k H=dx' p k v H (D.nx σ):=rfl
def kIf (C:Rc) (a b:Css) (D:Ends) (σ:L2.St):Bool->Hp->Prop:=fun c H=>if c=true then tSs C a D σ H else tSs C b D σ H
theorem wH' {q:Cq} {a b:Css}:tS C (.ite q a b) D σ H=tQ C q σ H (kIf C a b D σ):=rfl
theorem u1' {a b:Css}:kIf C a b D σ true H=tSs C a D σ H:=rfl
theorem u2' {a b:Css}:kIf C a b D σ false H=tSs C b D σ H:=rfl
theorem b5' {p:Prop} [Decidable p] {F:Bool->Hp->Prop} (h1:p->F true H) (h2:¬p->F false H):F (decide p) H:=by
 by_cases h:p
 .rw[decide_eq_true h];exact h1 h
 .rw[decide_eq_false h];exact h2 h
end
section
variable {C:Rc} {σ:L2.St} {H:Hp} {Q:VK} {D:Ends} {Qb:Bool->Hp->Prop} {Qs:List V->Hp->Prop}
def kA1 (C:Rc) (σ:L2.St) (r:Ces) (Qs:List V->Hp->Prop):VK:=fun x H=>tA C r σ H fun xs H2=>Qs (x :: xs) H2
def kA2 (x:V) (Qs:List V->Hp->Prop):List V->Hp->Prop:=fun xs H=>Qs (x :: xs) H
theorem rv':tA C .nil σ H Qs=Qs [] H:=rfl
theorem jz' {e:Ce} {r:Ces}:tA C (.cons e r) σ H Qs=tE C e σ H (kA1 C σ r Qs):=rfl
theorem mW' {r:Ces} {x:V}:kA1 C σ r Qs x H=tA C r σ H (kA2 x Qs):=rfl
theorem mX' {x:V} {xs:List V}:kA2 x Qs xs H=Qs (x :: xs) H:=rfl
def vX' (Q:VK):List V->Hp->Prop:=fun xs H=>xs.length<=sizeLine/\∀p,H p=none->Q (.ref p) (upd H p (.tup xs))
def vY' (Q:VK):List V->Hp->Prop:=fun xs H=>xs.length<=sizeLine/\∀p,H p=none->Q (.ref p) (upd H p (.lst xs))
theorem rx' {es:Ces}:tE C (.tup es) σ H Q=tA C es σ H (vX' Q):=rfl
theorem ry' {es:Ces}:tE C (.lst es) σ H Q=tA C es σ H (vY' Q):=rfl
theorem oq' {xs:List V}:vX' Q xs H=(xs.length<=sizeLine/\∀p,H p=none->Q (.ref p) (upd H p (.tup xs))):=rfl
theorem or' {xs:List V}:vY' Q xs H=(xs.length<=sizeLine/\∀p,H p=none->Q (.ref p) (upd H p (.lst xs))):=rfl
def ot' (o:Option Sp) (E:XK) (Q:VK):List V->Hp->Prop:=fun vs H=>match o with
 |some sp=>sp (vs++[]) H Q E
 |none=>False
theorem ou' {f:Str} {es:Ces} {sp:Sp} (h:C.fs f=some sp):tE C (.call f es) σ H Q=tA C es σ H (ot' (some sp) (C.xk σ) Q):=by
 show(match C.fs f with|some sp=>kL' sp [] (C.xk σ) (tA C es) σ H Q|none=>False)=_
 rw[h]
 rfl
theorem lu' {sp:Sp} {E:XK} {vs:List V}:ot' (some sp) E Q vs H=sp vs H Q E:=by
 show sp (vs++[]) H Q E=_
 rw[List.append_nil]
def vZ' (C:Rc) (f:Bf) (Q:VK):List V->Hp->Prop:=fun vs H=>df' C.K f vs H Q
theorem jA' {f:Bf} {es:Ces}:tE C (.blt f es) σ H Q=tA C es σ H (vZ' C f Q):=rfl
theorem jB' {f:Bf} {vs:List V}:vZ' C f Q vs H=df' C.K f vs H Q:=rfl
def rz' (C:Rc) (σ:L2.St) (m:Mf) (es:Ces) (Q:VK):VK:=fun x H=>tyV C.K (fk' m) x H/\tA C es σ H fun xs H2=>mE' C.K m x xs H2 Q
def rA' (C:Rc) (m:Mf) (x:V) (Q:VK):List V->Hp->Prop:=fun xs H=>mE' C.K m x xs H Q
theorem rB' {m:Mf} {o:Ce} {es:Ces}:tE C (.met m o es) σ H Q=tE C o σ H (rz' C σ m es Q):=rfl
theorem lv' {m:Mf} {es:Ces} {x:V}:rz' C σ m es Q x H=(tyV C.K (fk' m) x H/\tA C es σ H (rA' C m x Q)):=rfl
theorem lw' {m:Mf} {x:V} {xs:List V}:rA' C m x Q xs H=mE' C.K m x xs H Q:=rfl
def u3' (C:Rc) (σ:L2.St) (a b:Ce) (Q:VK):Bool->Hp->Prop:=fun c H=>if c=true then tE C a σ H Q else tE C b σ H Q
theorem rC' {q:Cq} {a b:Ce}:tE C (.ife q a b) σ H Q=tQ C q σ H (u3' C σ a b Q):=rfl
theorem rD' {a b:Ce}:u3' C σ a b Q true H=tE C a σ H Q:=rfl
theorem rE' {a b:Ce}:u3' C σ a b Q false H=tE C b σ H Q:=rfl
def rF' (Q:VK):VK:=fun x H=>∃c,x=.bl c/\Q (.bl (!c)) H
theorem rG' {a:Ce}:tE C (.not a) σ H Q=tE C a σ H (rF' Q):=rfl
theorem lx' {c:Bool}:rF' Q (.bl c) H=Q (.bl (!c)) H:=propext ⟨fun⟨u,e,q⟩=>by cases e;exact q,fun q=>⟨c,rfl,q⟩⟩
def ov' (C:Rc) (σ:L2.St) (b:Ce) (Q:VK):VK:=fun x H=>∃c,x=.bl c/\if c=true then tE C b σ H Q else Q (.bl false) H
def u4' (C:Rc) (σ:L2.St) (b:Ce) (Q:VK):VK:=fun x H=>∃c,x=.bl c/\if c=true then Q (.bl true) H else tE C b σ H Q
theorem rH' {a b:Ce}:tE C (.and a b) σ H Q=tE C a σ H (ov' C σ b Q):=rfl
theorem u5' {a b:Ce}:tE C (.or a b) σ H Q=tE C a σ H (u4' C σ b Q):=rfl
theorem ox' {b:Ce}:ov' C σ b Q (.bl true) H=tE C b σ H Q:=propext ⟨fun⟨u,e,q⟩=>by cases e;exact q,fun q=>⟨_,rfl,q⟩⟩
theorem oy' {b:Ce}:ov' C σ b Q (.bl false) H=Q (.bl false) H:=propext ⟨fun⟨u,e,q⟩=>by cases e;exact q,fun q=>⟨_,rfl,q⟩⟩
theorem rI' {b:Ce}:u4' C σ b Q (.bl true) H=Q (.bl true) H:=propext ⟨fun⟨u,e,q⟩=>by cases e;exact q,fun q=>⟨_,rfl,q⟩⟩
theorem rJ' {b:Ce}:u4' C σ b Q (.bl false) H=tE C b σ H Q:=propext ⟨fun⟨u,e,q⟩=>by cases e;exact q,fun q=>⟨_,rfl,q⟩⟩
def u6' (C:Rc) (Qb:Bool->Hp->Prop):VK:=fun x H=>∃k,p4' C.K x H k/\Qb k H
theorem rK' {e:Ce}:tQ C (.val e) σ H Qb=tE C e σ H (u6' C Qb):=rfl
theorem oz' {b:Bool}:u6' C Qb (.bl b) H=Qb b H:=propext ⟨fun⟨u,e,q⟩=>by
  have e:u=b:=e
  subst e
  exact q,fun q=>⟨b,rfl,q⟩⟩
def rL' (C:Rc) (σ:L2.St) (lo hi:Co) (Q:VK):VK:=fun x H=>tO C lo σ H fun l H2=>tO C hi σ H2 fun u H3=>rSl C.K x l u H3 Q
def rM' (C:Rc) (σ:L2.St) (hi:Co) (x:V) (Q:VK):Option Int->Hp->Prop:=fun l H=>tO C hi σ H fun u H3=>rSl C.K x l u H3 Q
def rN' (C:Rc) (x:V) (l:Option Int) (Q:VK):Option Int->Hp->Prop:=fun u H=>rSl C.K x l u H Q
theorem rO' {a:Ce} {lo hi:Co}:tE C (.cut a lo hi) σ H Q=tE C a σ H (rL' C σ lo hi Q):=rfl
theorem ly' {lo hi:Co} {x:V}:rL' C σ lo hi Q x H=tO C lo σ H (rM' C σ hi x Q):=rfl
theorem lz' {hi:Co} {x:V} {l:Option Int}:rM' C σ hi x Q l H=tO C hi σ H (rN' C x l Q):=rfl
theorem lA' {x:V} {l u:Option Int}:rN' C x l Q u H=rSl C.K x l u H Q:=rfl
variable {Qo:Option Int->Hp->Prop}
def lB' (Qo:Option Int->Hp->Prop):VK:=fun x H=>∃i,x=.int i/\Qo (some i) H
theorem rP':tO C .none σ H Qo=Qo none H:=rfl
theorem rQ' {e:Ce}:tO C (.some e) σ H Qo=tE C e σ H (lB' Qo):=rfl
theorem jC' {i:Int}:lB' Qo (.int i) H=Qo (some i) H:=propext ⟨fun⟨u,e,q⟩=>by cases e;exact q,fun q=>⟨i,rfl,q⟩⟩
theorem rR' {K:W.Frag} {a:Addr} {l u:Option Int}:rSl K (.ref a) l u H Q=(tp' K (.ref a) l u H Q\/to' K (.ref a) l u H Q\/tw' K (.ref a) l u H Q):=rfl
def oA' (C:Rc) (σ:L2.St) (i j:Nat) (b:Ce) (D:Ends):VK:=fun v H=>tE C b σ H fun w H1=>D.nx ((σ.set i (some v)).set j (some w)) H1
def rS' (σ:L2.St) (i j:Nat) (v:V) (D:Ends):VK:=fun w H=>D.nx ((σ.set i (some v)).set j (some w)) H
theorem lC' {i j:Nat} {b:Ce} {v:V}:oA' C σ i j b D v H=tE C b σ H (rS' σ i j v D):=rfl
theorem lD' {i j:Nat} {v w:V}:rS' σ i j v D w H=D.nx ((σ.set i (some v)).set j (some w)) H:=rfl
end
def cb (b:Bool):Nat:=if b then 49 else 48
def tx (l:List Bool):Str:=⟨(l.map cb).toArray⟩
theorem rT' {a:List Bool}:(tx a).length=a.length:=by show(a.map cb).toArray.size=_;simp
theorem wI':(PySem.Str.ofString "0")=tx [false]:=by decide +kernel
theorem wJ':(PySem.Str.ofString "1")=tx [true]:=by decide +kernel
theorem mY' {c:Bool}:PySem.intText? (tx [c])=some (if c then 1 else 0):=by cases c<;>decide +kernel
theorem rU' {α:Type} {xs:List α} {i:Int} (h0:0<=i) (h1:i<xs.length):∃v,xs[i.toNat]?=some v/\atI xs i=some v:=by
 obtain⟨j,rfl⟩:=aA h0
 have hk:j<xs.length:=by omega
 exact⟨xs[j],by simp,cN' (by rw[ac hk])⟩
theorem aj' {N:List Str} {vs:List V} {n:Nat} (h:N.length=n):L2.ax' N vs=vs.map some++aK (n-vs.length) none:=by subst h;rfl
section
variable {C:Rc} {σ:L2.St} {H:Hp} {Q:VK} {D:Ends} {Qb:Bool->Hp->Prop}
theorem mZ' {i:Nat} {v:V} {R:L2.St->Hp->Prop}:tG C (.name i) v σ H R=R (σ.set i (some v)) H:=rfl
theorem dT' {i j:Nat} {a:Addr} {x y:V} {R:L2.St->Hp->Prop} (h:SqT C.K H a [x,y]) (q:R ((σ.set i (some x)).set j (some y)) H):tG C (.tup (.cons (.name i) (.cons (.name j) .nil))) (.ref a) σ H R:=
 ⟨a,[x,y],rfl,.inl h,rfl,_,_,rfl,_,_,rfl,rfl,q⟩
theorem rV' {i j k:Nat} {a:Addr} {x y z:V} {R:L2.St->Hp->Prop} (h:SqT C.K H a [x,y,z]) (q:R (((σ.set i (some x)).set j (some y)).set k (some z)) H):tG C (.tup (.cons (.name i) (.cons (.name j) (.cons (.name k) .nil)))) (.ref a) σ H R:=
 ⟨a,[x,y,z],rfl,.inl h,rfl,_,_,rfl,_,_,rfl,_,_,rfl,rfl,q⟩
def oB' (C:Rc) (t:Ct) (b:Css) (D:Ends) (σ:L2.St) (J:It) (H1:Hp):Prop:=∃W:Nat->Nat->L2.St->Hp->Prop,(∃m,W 0 m σ H1)/\∀i m σ H,W i m σ H->
 (J.stop i H/\D.nx σ H)\/(J.go i H/\∃N:L2.St->Hp->Prop,(∀σ' H',N σ' H'->∃m',m'<m/\W (i+1) m' σ' H')/\∀x H',J.yld i H x H'->tG C t x σ H' fun σ2 H2=>tSs C b { D with nx:=N,ct:=N,bk:=D.nx } σ2 H2)
theorem u7' {t:Ct} {it:Ci} {b:Css}:tS C (.for_ t it b) D σ H=tI C it σ H (oB' C t b D σ):=rfl
def kIv (C:Rc) (R:It->Hp->Prop):VK:=fun x H1=>
 (∃a,x=.ref a/\(∃xs,SqL C.K H1 a xs)/\R (Itl C.K a) H1)\/(∃a,x=.ref a/\(∃xs,SqT C.K H1 a xs)/\R (Itt C.K a) H1)\/∃z,x=.str z/\R (Its z) H1
theorem oC' {e:Ce} {R:It->Hp->Prop}:tI C (.val e) σ H R=tE C e σ H (kIv C R):=rfl
def kR1 (R:It->Hp->Prop):VK:=fun x H1=>∃j:Int,x=.int j/\-(2 ^ 62)<=j/\j<2 ^ 62/\R (Itr 0 j.toNat) H1
theorem lE' {e:Ce} {R:It->Hp->Prop}:tI C (.range1 e) σ H R=tE C e σ H fun x H1=>∃j:Int,[x]=[.int j]/\-(2 ^ 62)<=j/\j<2 ^ 62/\R (Itr 0 j.toNat) H1:=rfl
theorem jD' {e:Ce} {R:It->Hp->Prop}:tI C (.range1 e) σ H R=tE C e σ H (kR1 R):=by
 rw[lE']
 congr 1
 funext x H1
 unfold kR1
 simp only[List.cons.injEq,and_true]
def v0' (R:It->Hp->Prop) (x:V):VK:=fun y H1=>∃i j:Int,x=.int i/\y=.int j/\(-(2 ^ 62)<=i/\i<2 ^ 62/\-(2 ^ 62)<=j/\j<2 ^ 62)/\R (Itr i (j-i).toNat) H1
def wK' (C:Rc) (σ:L2.St) (e:Ce) (R:It->Hp->Prop):VK:=fun x H1=>tE C e σ H1 (v0' R x)
theorem oD' {e:Ce} {R:It->Hp->Prop} {x:V}:wK' C σ e R x H=tE C e σ H (v0' R x):=rfl
def kZ2 (C:Rc) (R:It->Hp->Prop) (x:V):VK:=fun y H1=>∃(k j:Bool) (a b:Addr),x=.ref a/\y=.ref b/\(∃xs,Sq k C.K H1 a xs)/\(∃ys,Sq j C.K H1 b ys)/\R (mB' k j C.K a b) H1
def kZ1 (C:Rc) (σ:L2.St) (e:Ce) (R:It->Hp->Prop):VK:=fun x H1=>tE C e σ H1 (kZ2 C R x)
theorem u8' {a b:Ce} {R:It->Hp->Prop}:tI C (.zip a b) σ H R=tE C a σ H (kZ1 C σ b R):=by
 show(tE C a σ H fun x H1=>tE C b σ H1 fun y H2=>∃(k j:Bool) (p q:Addr),[x,y]=[.ref p,.ref q]/\(∃xs,Sq k C.K H2 p xs)/\(∃ys,Sq j C.K H2 q ys)/\R (mB' k j C.K p q) H2)=_
 congr 1
 funext x H1
 unfold kZ1
 congr 1
 funext y H2
 unfold kZ2
 simp only[List.cons.injEq,and_true,and_assoc]
theorem rW' {e:Ce} {R:It->Hp->Prop} {x:V}:kZ1 C σ e R x H=tE C e σ H (kZ2 C R x):=rfl
def kEn (C:Rc) (R:It->Hp->Prop):VK:=fun x H1=>(∃a,x=.ref a/\(∃xs,SqL C.K H1 a xs)/\R (Ite C.K a) H1)\/(∃z,x=.str z/\R (tq' z) H1)\/∃a,x=.ref a/\(∃xs,SqT C.K H1 a xs)/\R (tr' C.K a) H1
theorem rX' {a:Ce} {R:It->Hp->Prop}:tI C (.enum a) σ H R=tE C a σ H (kEn C R):=by
 show(tE C a σ H fun x H1=>∃y,[x]=[y]/\((∃a,y=.ref a/\(∃xs,SqL C.K H1 a xs)/\R (Ite C.K a) H1)\/(∃z,y=.str z/\R (tq' z) H1)\/∃a,y=.ref a/\(∃xs,SqT C.K H1 a xs)/\R (tr' C.K a) H1))=_
 congr 1
 funext x H1
 unfold kEn
 exact propext ⟨fun⟨y,e,q⟩=>by cases e;exact q,fun q=>⟨x,rfl,q⟩⟩
theorem rY' {R:It->Hp->Prop} {a:Addr} {xs:List V} (h:SqL C.K H a xs) (q:R (Ite C.K a) H):kEn C R (.ref a) H:=.inl ⟨a,rfl,⟨xs,h⟩,q⟩
theorem cu' {R:It->Hp->Prop} {a:Addr} {xs:List V} (h:SqL C.K H a xs) (q:R (Itl C.K a) H):kIv C R (.ref a) H:=.inl ⟨a,rfl,⟨xs,h⟩,q⟩
theorem bH' {R:It->Hp->Prop} {a:Addr} {xs:List V} (h:SqT C.K H a xs) (q:R (Itt C.K a) H):kIv C R (.ref a) H:=.inr (.inl ⟨a,rfl,⟨xs,h⟩,q⟩)
theorem f8' {R:It->Hp->Prop} {j:Int} (h0:-(2 ^ 62)<=j) (h1:j<2 ^ 62) (q:R (Itr 0 j.toNat) H):kR1 R (.int j) H:=⟨j,rfl,h0,h1,q⟩
theorem f9' {R:It->Hp->Prop} {a b:Addr} {xs ys:List V} (h:SqL C.K H a xs) (h2:SqL C.K H b ys) (q:R (Itz false C.K a b) H):kZ2 C R (.ref a) (.ref b) H:=⟨false,false,a,b,rfl,rfl,⟨xs,h⟩,⟨ys,h2⟩,q⟩
theorem oE' {R:It->Hp->Prop} {k j:Bool} {a b:Addr} {xs ys:List V} (h:Sq k C.K H a xs) (h2:Sq j C.K H b ys) (q:R (mB' k j C.K a b) H):kZ2 C R (.ref a) (.ref b) H:=⟨k,j,a,b,rfl,rfl,⟨xs,h⟩,⟨ys,h2⟩,q⟩
theorem rZ' {a:Addr} {xs:List V} {t:Ct} {b:Css} (Pv:Nat->L2.St->Hp->Prop) (h0:Pv 0 σ H) (hl:∀i σ H,i<=xs.length->Pv i σ H->SqL C.K H a xs)
  (hs:∀i x σ H,xs[i]?=some x->Pv i σ H->tG C t x σ H (tSs C b { D with nx:=Pv (i+1),ct:=Pv (i+1),bk:=D.nx })) (hd:∀σ H,Pv xs.length σ H->D.nx σ H):oB' C t b D σ (Itl C.K a) H:=kF' Pv h0 hl hs hd
theorem u9' {a:Addr} {xs:List V} {t:Ct} {b:Css} (Pv:Nat->L2.St->Hp->Prop) (h0:Pv 0 σ H) (hl:∀i σ H,i<=xs.length->Pv i σ H->SqT C.K H a xs)
  (hs:∀i x σ H,xs[i]?=some x->Pv i σ H->tG C t x σ H (tSs C b { D with nx:=Pv (i+1),ct:=Pv (i+1),bk:=D.nx })) (hd:∀σ H,Pv xs.length σ H->D.nx σ H):oB' C t b D σ (Itt C.K a) H:=ny' Pv h0 hl hs hd
theorem hN' {lo:Int} {n:Nat} {t:Ct} {b:Css} (Pv:Nat->L2.St->Hp->Prop) (h0:Pv 0 σ H)
  (hs:∀i σ H,i<n->Pv i σ H->tG C t (.int (lo+i)) σ H (tSs C b { D with nx:=Pv (i+1),ct:=Pv (i+1),bk:=D.nx })) (hd:∀σ H,Pv n σ H->D.nx σ H):oB' C t b D σ (Itr lo n) H:=ie' Pv h0 hs hd
theorem va' {a:Addr} {xs:List V} {t:Ct} {b:Css} (Pv:Nat->L2.St->Hp->Prop) (h0:Pv 0 σ H) (hl:∀i σ H,i<=xs.length->Pv i σ H->SqL C.K H a xs)
  (hs:∀i x σ H p,xs[i]?=some x->H p=none->Pv i σ H->tG C t (.ref p) σ (upd H p (.tup [.int i,x])) (tSs C b { D with nx:=Pv (i+1),ct:=Pv (i+1),bk:=D.nx })) (hd:∀σ H,Pv xs.length σ H->D.nx σ H):oB' C t b D σ (Ite C.K a) H:=by
 refine⟨fun i m σ H=>m=xs.length-i/\i<=xs.length/\Pv i σ H,⟨xs.length,by simp,aC _,h0⟩,?_⟩
 rintro i m σ H ⟨rfl,hi,p⟩
 have q:=hl i σ H hi p
 by_cases hlt:i<xs.length
 .refine .inr ⟨⟨xs,xs[i],q,by simp[hlt]⟩,Pv (i+1),fun σ' H' p'=>⟨xs.length-(i+1),by omega,rfl,hlt,p'⟩,fun x H' y=>?_⟩
  obtain⟨ad,v,rfl,hn,y,rfl⟩:=y
  exact hs i v σ _ ad (y xs q) hn p
 .have e:i=xs.length:=by omega
  subst e
  exact .inl ⟨⟨xs,q,rfl⟩,hd σ H p⟩
def tA' (C:Rc) (b:Css) (D:Ends) (N:L2.St->Hp->Prop) (σ:L2.St):Bool->Hp->Prop:=fun c H1=>if c=true then ∃N':L2.St->Hp->Prop,(∀σ' H',N' σ' H'->N σ' H')/\tSs C b { D with nx:=N',ct:=N',bk:=D.nx } σ H1 else D.nx σ H1
theorem m0' {q:Cq} {b:Css} (Pv:Nat->L2.St->Hp->Prop) (m:Nat) (h0:Pv m σ H) (hs:∀m σ H,Pv m σ H->tQ C q σ H (tA' C b D (fun σ' H'=>∃m',m'<m/\Pv m' σ' H') σ)):tS C (.whl q b) D σ H:=⟨Pv,⟨m,h0⟩,hs⟩
theorem m1' {b:Css} {N:L2.St->Hp->Prop} (h:tSs C b { D with nx:=N,ct:=N,bk:=D.nx } σ H):tA' C b D N σ true H:=⟨N,fun _ _ q=>q,h⟩
theorem m2' {b:Css} {N:L2.St->Hp->Prop} (h:D.nx σ H):tA' C b D N σ false H:=by unfold tA';rw[if_neg (by decide)];exact h
def ga' (xs:List V) (P:List V->Hp->Prop):VK:=fun v H=>xs.length<sizeLine/\P (xs++[v]) H
def kCT (C:Rc) (elt:Ce) (xs:List V) (P:List V->Hp->Prop) (σ:L2.St):Bool->Hp->Prop:=fun ok H=>if ok=true then tE C elt σ H (ga' xs P)else P xs H
def kCG (C:Rc) (elt:Ce) (q:Cqo) (xs:List V) (P:List V->Hp->Prop):L2.St->Hp->Prop:=fun σ H=>tQo C q σ H (kCT C elt xs P σ)
theorem r0' {elt:Ce} {xs:List V} {P:List V->Hp->Prop}:kCG C elt .none xs P σ H=tE C elt σ H (ga' xs P):=rfl
theorem r1' {elt:Ce} {q:Cq} {xs:List V} {P:List V->Hp->Prop}:kCG C elt (.some q) xs P σ H=tQ C q σ H (kCT C elt xs P σ):=rfl
theorem r2' {elt:Ce} {xs:List V} {P:List V->Hp->Prop}:kCT C elt xs P σ true H=tE C elt σ H (ga' xs P):=rfl
theorem r3' {elt:Ce} {xs:List V} {P:List V->Hp->Prop}:kCT C elt xs P σ false H=P xs H:=rfl
theorem gH' {xs:List V} {P:List V->Hp->Prop} {v:V}:ga' xs P v H=(xs.length<sizeLine/\P (xs++[v]) H):=rfl
def lF' (Q:VK) (xs:List V) (H2:Hp):Prop:=∀p,H2 p=none->Q (.ref p) (upd H2 p (.lst xs))
def fw' (C:Rc) (elt:Ce) (own:List Nat) (t:Ct) (q:Cqo) (σ:L2.St) (Q:VK) (J:It) (H1:Hp):Prop:=bY' own (tG C t) (tQo C q) (eB' (tE C elt)) J σ [] H1 (lF' Q)
theorem gb' {elt:Ce} {own:List Nat} {t:Ct} {it:Ci} {q:Cqo}:tE C (.comp elt own t it q .nil) σ H Q=tI C it σ H (fw' C elt own t q σ Q):=rfl
theorem eM' {elt:Ce} {own:List Nat} {t:Ct} {q:Cqo} {J:It} {n:Nat} (Pv:Nat->List V->Hp->Prop) (h0:Pv 0 [] H) (hgo:∀i xs H,i<n->Pv i xs H->J.go i H) (hstop:∀xs H,Pv n xs H->J.stop n H)
  (hs:∀i xs H x H' (R:List V->Hp->Prop),i<n->Pv i xs H->J.yld i H x H'->(∀ys H2,Pv (i+1) ys H2->R ys H2)->tG C t x (clr own σ) H' (kCG C elt q xs R)) (hd:∀xs H,Pv n xs H->lF' Q xs H):fw' C elt own t q σ Q J H:=by
 refine⟨fun i m xs H=>m=n-i/\i<=n/\Pv i xs H,⟨n,by simp,aC _,h0⟩,?_⟩
 rintro i m xs H ⟨rfl,hi,p⟩
 by_cases hlt:i<n
 .refine .inr ⟨hgo i xs H hlt p,fun x H' y=>?_⟩
  exact hs i xs H x H' (fun c H4=>∃m',m'<n-i/\(m'=n-(i+1)/\i+1<=n/\Pv (i+1) c H4)) hlt p y fun ys H2 p2=>⟨n-(i+1),by omega,rfl,hlt,p2⟩
 .have e:i=n:=by omega
  subst e
  exact .inl ⟨hstop xs H p,hd xs H p⟩
theorem jE' {elt:Ce} {own:List Nat} {t:Ct} {q:Cqo} {a:Addr} {vs:List V} (Pv:Nat->List V->Hp->Prop) (h0:Pv 0 [] H) (hl:∀i xs H,Pv i xs H->SqL C.K H a vs)
  (hs:∀i xs H x (R:List V->Hp->Prop),vs[i]?=some x->Pv i xs H->(∀ys H2,Pv (i+1) ys H2->R ys H2)->tG C t x (clr own σ) H (kCG C elt q xs R)) (hd:∀xs H,Pv vs.length xs H->lF' Q xs H):fw' C elt own t q σ Q (Itl C.K a) H:=
 eM' (n:=vs.length) Pv h0 (fun i xs H hi p=>⟨vs,vs[i],hl i xs H p,by simp[hi]⟩) (fun xs H p=>⟨vs,hl _ xs H p,ak _⟩) (fun i xs H x H' R hi p y k=>by
  obtain⟨e,y⟩:=y
  subst e
  exact hs i xs H' x R (y vs (hl i xs H' p)) p k) hd
theorem eg' {elt:Ce} {own:List Nat} {t:Ct} {q:Cqo} {a:Addr} {vs:List V} (Pv:Nat->List V->Hp->Prop) (h0:Pv 0 [] H) (hl:∀i xs H,Pv i xs H->SqT C.K H a vs)
  (hs:∀i xs H x (R:List V->Hp->Prop),vs[i]?=some x->Pv i xs H->(∀ys H2,Pv (i+1) ys H2->R ys H2)->tG C t x (clr own σ) H (kCG C elt q xs R)) (hd:∀xs H,Pv vs.length xs H->lF' Q xs H):fw' C elt own t q σ Q (Itt C.K a) H:=
 eM' (n:=vs.length) Pv h0 (fun i xs H hi p=>⟨vs,vs[i],hl i xs H p,by simp[hi]⟩) (fun xs H p=>⟨vs,hl _ xs H p,ak _⟩) (fun i xs H x H' R hi p y k=>by
  obtain⟨e,y⟩:=y
  subst e
  exact hs i xs H' x R (y vs (hl i xs H' p)) p k) hd
theorem r4' {elt:Ce} {own:List Nat} {t:Ct} {q:Cqo} {lo:Int} {n:Nat} (Pv:Nat->List V->Hp->Prop) (h0:Pv 0 [] H)
  (hs:∀i xs H (R:List V->Hp->Prop),i<n->Pv i xs H->(∀ys H2,Pv (i+1) ys H2->R ys H2)->tG C t (.int (lo+i)) (clr own σ) H (kCG C elt q xs R)) (hd:∀xs H,Pv n xs H->lF' Q xs H):fw' C elt own t q σ Q (Itr lo n) H:=
 eM' (n:=n) Pv h0 (fun i xs H hi p=>hi) (fun xs H p=>ak _) (fun i xs H x H' R hi p y k=>by
  obtain⟨e,rfl⟩:=y
  subst e
  exact hs i xs H' R hi p k) hd
theorem m3' {elt:Ce} {own:List Nat} {t:Ct} {q:Cqo} {k j:Bool} {a b:Addr} {vs ws:List V} (hw:vs.length=ws.length) (Pv:Nat->List V->Hp->Prop) (h0:Pv 0 [] H) (hl:∀i xs H,Pv i xs H->Sq k C.K H a vs/\Sq j C.K H b ws)
  (hs:∀i xs H x y p (R:List V->Hp->Prop),vs[i]?=some x->ws[i]?=some y->H p=none->Pv i xs H->(∀ys H2,Pv (i+1) ys H2->R ys H2)->tG C t (.ref p) (clr own σ) (upd H p (.tup [x,y])) (kCG C elt q xs R)) (hd:∀xs H,Pv vs.length xs H->lF' Q xs H):fw' C elt own t q σ Q (mB' k j C.K a b) H:=
 eM' (n:=vs.length) Pv h0 (fun i xs H hi p=>⟨vs,ws,vs[i],ws[i],(hl i xs H p).1,(hl i xs H p).2,by simp[hi],by simp[hw ▸ hi]⟩) (fun xs H p=>⟨vs,ws,(hl _ xs H p).1,(hl _ xs H p).2,.inl (ak _)⟩) (fun i xs H x H' R hi p y kk=>by
  obtain⟨ad,u,v,rfl,hn,y1,y2,rfl⟩:=y
  exact hs i xs H u v ad R (y1 vs (hl i xs H p).1) (y2 ws (hl i xs H p).2) hn p kk) hd
end
section
variable {C:Rc} {K:W.Frag} {σ:L2.St} {H:Hp} {Q:VK} {D:Ends} {Qb:Bool->Hp->Prop}
theorem ag' {f:Str} {es:Ces} {sp:Sp} (h:C.fs f=some sp) (q:tA C es σ H (ot' (some sp) (C.xk σ) Q)):tE C (.call f es) σ H Q:=by
 rw[ou' h]
 exact q
theorem cv' {a:Addr} {xs:List V} (h:SqL K H a xs) (q:Q (.int xs.length) H):df' K .len [.ref a] H Q:=⟨_,_,rfl,.inl ⟨xs,h,rfl⟩,q⟩
theorem cS' {a:Addr} {xs:List V} (h:SqT K H a xs) (q:Q (.int xs.length) H):df' K .len [.ref a] H Q:=⟨_,_,rfl,.inr ⟨xs,h,rfl⟩,q⟩
theorem r5' {i:Int}:df' K .abs [.int i] H Q=Q (.int (if i<0 then -i else i)) H:=propext ⟨fun⟨u,e,q⟩=>by cases e;exact q,fun q=>⟨_,rfl,q⟩⟩
theorem hO' {i:Int}:df' K .int [.int i] H Q=Q (.int i) H:=rfl
theorem jF' {k:Bool}:df' K .int [.bl k] H Q=Q (.int (if k then 1 else 0)) H:=rfl
theorem jG' {c:Bool}:df' K .int [.str (tx [c])] H Q=Q (.int (if c then 1 else 0)) H:=propext ⟨fun⟨n,e,_,q⟩=>by rw[mY']at e;cases e;exact q,fun q=>⟨_,mY',by rw[rT',List.length_singleton];decide,q⟩⟩
theorem oF' {i j:Int}:df' K .max [.int i,.int j] H Q=Q (.int (if j > i then j else i)) H:=rfl
theorem oG' {i j:Int}:df' K .min [.int i,.int j] H Q=Q (.int (if j<i then j else i)) H:=rfl
theorem fx' {a:Addr} {bs:List Bool} (h:SqL K H a (bs.map V.bl)) (q:Q (.bl (bs.all id)) H):df' K .all [.ref a] H Q:=⟨a,bs,rfl,h,q⟩
theorem r6' {x:V} {T c:String} (h:aT' H x=some T) (hT:T∈b9') (hc:c∈["bool","int","str","list","tuple","dict"]) (q:Q (.bl (isT T c)) H):df' K .isinstance [x,.ty c] H Q:=.inl (.inl ⟨x,T,c,rfl,h,hT,hc,q⟩)
theorem oH' {x:V} {T c d:String} {p:Addr} (h:aT' H x=some T) (hT:T∈b9') (hp:H p=some (.tup [.ty c,.ty d])) (hc:c∈["bool","int","str","list","tuple","dict"]) (hd:d∈["bool","int","str","list","tuple","dict"]) (q:Q (.bl (isT T c || isT T d)) H):df' K .isinstance [x,.ref p] H Q:=
 .inl <| .inr ⟨x,T,p,[c,d],rfl,h,hT,hp,fun e he=>by
  simp only[ai,al,or_false]at he
  rcases he with rfl|rfl
  .exact hc
  .exact hd,by simpa using q⟩
theorem aO' {a:Addr} {xs:List V} {i:Int} {v:V} (h:SqL K H a xs) (e:atI xs i=some v) (q:Q v H):fM' K (.ref a) (.int i) H Q\/fU' K (.ref a) (.int i) H Q:=.inl ⟨a,xs,i,v,rfl,rfl,h,e,q⟩
theorem aq' {a:Addr} {xs:List V} {i:Int} {v:V} (h:SqT K H a xs) (e:atI xs i=some v) (q:Q v H):fM' K (.ref a) (.int i) H Q\/fU' K (.ref a) (.int i) H Q:=.inr ⟨a,xs,i,v,rfl,rfl,h,e,q⟩
theorem m4' {a:Addr} {u v:V} {k:Bool} (h:SqL K H a [u,v]) (q:Q (if k then v else u) H):fM' K (.ref a) (.int (if k then 1 else 0)) H Q\/fU' K (.ref a) (.int (if k then 1 else 0)) H Q:=by
 refine aO' h ?_ q
 cases k<;>rfl
theorem oI' {a:Addr} {u v:V} {k:Bool} (h:SqT K H a [u,v]) (q:Q (if k then v else u) H):fM' K (.ref a) (.int (if k then 1 else 0)) H Q\/fU' K (.ref a) (.int (if k then 1 else 0)) H Q:=by
 refine aq' h ?_ q
 cases k<;>rfl
theorem r7' {a b:Addr} {xs ys:List V} (h:H a=some (.tup xs)) (h2:H b=some (.tup ys)) (hl:xs.length=ys.length) (he:LEq xs ys) (q:Q (.bl (decide (xs=ys))) H):co' K .Eq (.ref a) (.ref b) H Q:=.inr (.inr ⟨rfl,a,b,xs,ys,rfl,rfl,h,h2,hl,he,q⟩)
theorem r8' {a:Addr} {xs:List V} {y:V} {i:Nat} (h:H a=some (.lst xs)) (hz:xs.length<sizeLine) (hi:i<=xs.length) (q:Q .non (upd H a (.lst (xs.take i++y :: xs.drop i)))):mE' K .insert (.ref a) [.int i,y] H Q:=⟨a,xs,y,i,rfl,rfl,h,hz,hi,q⟩
theorem lG' {a:Addr} {xs:List V} (h:SqL K H a xs) (q:∀p,H p=none->Q (.ref p) (upd H p (.lst xs))):df' K .list [.ref a] H Q:=.inl ⟨a,xs,rfl,.inl h,q⟩
theorem dj' {a:Addr} {xs:List V} (h:SqL K H a xs) (q:∀p,H p=none->Q (.ref p) (upd H p (.tup xs))):df' K .tuple [.ref a] H Q:=⟨a,xs,rfl,.inl ⟨h,q⟩⟩
theorem vb' {x y:Bool}:co' K .NotEq (.bl x) (.bl y) H Q=Q (.bl (x != y)) H:=by
 have e:co' K .NotEq (.bl x) (.bl y) H Q=Q (.bl (!decide (V.bl x=V.bl y))) H:=propext ⟨fun⟨_,q⟩=>q,fun q=>⟨rfl,q⟩⟩
 rw[e]
 cases x<;>cases y<;>rfl
theorem vc' {x y:Int}:co' K .NotEq (.int x) (.int y) H Q=Q (.bl (!decide (x=y))) H:=by
 have e:co' K .NotEq (.int x) (.int y) H Q=Q (.bl (!decide (V.int x=V.int y))) H:=propext ⟨fun⟨_,q⟩=>q,fun q=>⟨rfl,q⟩⟩
 rw[e]
 congr 3
 simp only[V.int.injEq]
theorem wL' {x:V}:co' K .Is x .non H Q=Q (.bl (decide (x=.non))) H:=propext ⟨fun⟨_,q⟩=>q,fun q=>⟨rfl,q⟩⟩
theorem jH' {x:V}:co' K .IsNot x .non H Q=Q (.bl (!decide (x=.non))) H:=propext ⟨fun⟨_,q⟩=>q,fun q=>⟨rfl,q⟩⟩
def kG (C:Rc) (t:Ct) (D:Ends) (σ:L2.St):VK:=fun v H=>tG C t v σ H D.nx
theorem r9' {t:Ct} {e:Ce}:tS C (.asg t e) D σ H=tE C e σ H (kG C t D σ):=rfl
theorem oJ' {i j:Nat} {a:Addr} {x y:V} (h:SqT C.K H a [x,y]) (q:D.nx ((σ.set i (some x)).set j (some y)) H):kG C (.tup (.cons (.name i) (.cons (.name j) .nil))) D σ (.ref a) H:=dT' h q
theorem vd' {i j:Nat} {a b:Ce}:tS C (.par i j a b) D σ H=tE C a σ H (oA' C σ i j b D):=by
 show(tE C a σ H fun x H1=>tE C b σ H1 fun y H2=>∃v w,[x,y]=[v,w]/\D.nx ((σ.set i (some v)).set j (some w)) H2)=_
 congr 1
 funext x H1
 unfold oA'
 congr 1
 funext y H2
 exact propext ⟨fun⟨v,w,e,q⟩=>by cases e;exact q,fun q=>⟨x,y,rfl,q⟩⟩
theorem lH' {xs:List V} {n:Nat}:h6' xs (some (n:Int)) none=xs.drop n:=by
 unfold h6'
 rw[HT.iq',HT.gq']
 rcases Nat.le_total n xs.length with h|h
 .rw[Nat.min_eq_left h,bV (by simp)]
 .rw[Nat.min_eq_right h,List.drop_of_length_le h];simp
theorem sa' {xs:List V} {n:Nat}:h6' xs none (some (n:Int))=xs.take n:=by
 unfold h6'
 rw[HT.iq',HT.gq']
 rcases Nat.le_total n xs.length with h|h
 .rw[Nat.min_eq_left h];simp
 .rw[Nat.min_eq_right h];simp[bV h]
theorem oK' {a b:Addr} {xs ys:List V} (h:SqT K H a xs) (h2:SqT K H b ys) (hz:xs.length+ys.length<=sizeLine) (q0:xs=[]->Q (.ref b) H) (q1:xs≠[]->ys=[]->Q (.ref a) H) (q2:xs≠[]->ys≠[]->∀p,H p=none->Q (.ref p) (upd H p (.tup (xs++ys)))):ed' K .Add (.ref a) (.ref b) H Q:=by
 by_cases e:xs=[]
 .subst e
  exact .inr (.inr ⟨a,b,ys,rfl,rfl,h,h2,q0 rfl⟩)
 .exact .inr (.inl ⟨a,b,xs,ys,rfl,rfl,h,h2,e,hz,q1 e,q2 e⟩)
theorem jI' {a:Addr} {xs:List V} {lo hi:Option Int} (h:SqL K H a xs) (q:∀p,H p=none->Q (.ref p) (upd H p (.lst (h6' xs lo hi)))):tp' K (.ref a) lo hi H Q\/to' K (.ref a) lo hi H Q\/tw' K (.ref a) lo hi H Q:=.inl ⟨a,xs,rfl,h,q⟩
theorem fy' {a:Addr} {xs:List V} {y:V} (h:H a=some (.lst xs)) (hz:xs.length<sizeLine) (q:Q .non (upd H a (.lst (xs++[y])))):mE' K .append (.ref a) [y] H Q:=⟨a,xs,y,rfl,rfl,h,hz,q⟩
theorem tyL {a:Addr} {xs:List V} {m:Mf} (h:H a=some (.lst xs)) (hm:fk' m="list"):tyV K (fk' m) (.ref a) H:=.inl ⟨hm,xs,SqL.of h⟩
theorem m5' {a b:Addr} {xs zs:List V} (h:H a=some (.lst xs)) (h2:H b=some (.lst zs)) (hz:xs.length+zs.length<=sizeLine) (q:∀p,H p=none->Q (.ref p) (upd H p (.lst (xs++zs)))):ed' K .Add (.ref a) (.ref b) H Q:=.inl ⟨a,b,xs,zs,rfl,rfl,h,h2,hz,q⟩
theorem ah' {H:Hp} {p:Addr} (h:H p=none) (o:HO):aG' H (upd H p o):=fun b u q=>by rw[ae' (af' q h)];exact q
theorem au' {α:Type} {l:List α} {i:Nat} {c:α} (hc:l[i]?=some c):i<l.length:=by
 rcases cw i l.length with h|h
 .exact h
 .rw[aV.mpr h]at hc;cases hc
def v1' (x:V) (Q:VK):VK:=fun y H=>∃a v,x=.ref a/\ue' H a y (some v)/\Q v H
def wM' (C:Rc) (σ:L2.St) (b:Ce) (Q:VK):VK:=fun x H=>tE C b σ H (v1' x Q)
theorem oL' {b:Ce} {x:V}:wM' C σ b Q x H=tE C b σ H (v1' x Q):=rfl
end
end R3
namespace R3
open PySem PySem.Spec PyProof.Rows L2 PySem.Builtin PySem.Builtin.Str
section
variable {K:W.Frag} {H:Hp} {Q:VK}
end
section
variable {C:Rc} {K:W.Frag} {σ:L2.St} {H:Hp} {Q:VK} {D:Ends} {Qb:Bool->Hp->Prop} {i j:Int}
theorem ve':ed' K .LShift (.int i) (.int j) H Q=(ur' i j/\Q (.int (i*2 ^ j.toNat)) H):=propext ⟨fun⟨_,_,e,e',c,q⟩=>by cases e;cases e';exact⟨c,q⟩,fun q=>⟨_,_,rfl,rfl,q.1,q.2⟩⟩
theorem lI' {n:Int}:u6' C Qb (.int n) H=Qb (!decide (n=0)) H:=by
 have e:(n != 0)=!decide (n=0):=by
  by_cases h:n=0
  .subst h;rfl
  .rw[decide_eq_false h];simpa using h
 exact propext ⟨fun⟨u,h,q⟩=>by
  have h:u=(n != 0):=h
  subst h
  rw[e]at q
  exact q,fun q=>⟨n != 0,rfl,by rw[e];exact q⟩⟩
theorem vf' {s:Cs} {r:Css} (h:∀N:L2.St->Hp->Prop,(∀σ' H',tSs C r D σ' H'->N σ' H')->tS C s { D with nx:=N } σ H):tSs C (.cons s r) D σ H:=h _ fun _ _ q=>q
def v2' (R:It->Hp->Prop) (x y:V):VK:=fun z H1=>∃i j c:Int,x=.int i/\y=.int j/\z=.int c/\(-(2 ^ 60)<=i/\i<2 ^ 60/\-(2 ^ 60)<=j/\j<2 ^ 60/\(0<c/\c<2 ^ 29\/c=-1))/\R (Itc i c (ug' i j c)) H1
def vg' (C:Rc) (σ:L2.St) (e:Ce) (R:It->Hp->Prop) (x:V):VK:=fun y H1=>tE C e σ H1 (v2' R x y)
def wN' (C:Rc) (σ:L2.St) (e e':Ce) (R:It->Hp->Prop):VK:=fun x H1=>tE C e σ H1 (vg' C σ e' R x)
theorem oM' {e e':Ce} {R:It->Hp->Prop} {x:V}:wN' C σ e e' R x H=tE C e σ H (vg' C σ e' R x):=rfl
theorem oN' {e:Ce} {R:It->Hp->Prop} {x y:V}:vg' C σ e R x y H=tE C e σ H (v2' R x y):=rfl
def vh' (C:Rc) (elt:Ce) (ws:List Nat) (t2:Ct) (q2:Cqo) (xs:List V) (P:List V->Hp->Prop) (σ:L2.St) (J:It) (H1:Hp):Prop:=bY' ws (tG C t2) (tQo C q2) (eB' (tE C elt)) J σ xs H1 P
def tC' (C:Rc) (elt:Ce) (ws:List Nat) (t2:Ct) (it2:Ci) (q2:Cqo) (xs:List V) (P:List V->Hp->Prop) (σ:L2.St):Bool->Hp->Prop:=fun ok H=>if ok=true then tI C it2 σ H (vh' C elt ws t2 q2 xs P σ)else P xs H
def v3' (C:Rc) (elt:Ce) (q:Cqo) (ws:List Nat) (t2:Ct) (it2:Ci) (q2:Cqo) (xs:List V) (P:List V->Hp->Prop):L2.St->Hp->Prop:=fun σ H=>tQo C q σ H (tC' C elt ws t2 it2 q2 xs P σ)
theorem sb' {elt:Ce} {ws:List Nat} {t2:Ct} {it2:Ci} {q2:Cqo} {xs:List V} {P:List V->Hp->Prop}:v3' C elt .none ws t2 it2 q2 xs P σ H=tI C it2 σ H (vh' C elt ws t2 q2 xs P σ):=rfl
theorem sc' {elt:Ce} {q:Cq} {ws:List Nat} {t2:Ct} {it2:Ci} {q2:Cqo} {xs:List V} {P:List V->Hp->Prop}:v3' C elt (.some q) ws t2 it2 q2 xs P σ H=tQ C q σ H (tC' C elt ws t2 it2 q2 xs P σ):=rfl
theorem sd' {elt:Ce} {ws:List Nat} {t2:Ct} {it2:Ci} {q2:Cqo} {xs:List V} {P:List V->Hp->Prop}:tC' C elt ws t2 it2 q2 xs P σ true H=tI C it2 σ H (vh' C elt ws t2 q2 xs P σ):=rfl
theorem se' {elt:Ce} {ws:List Nat} {t2:Ct} {it2:Ci} {q2:Cqo} {xs:List V} {P:List V->Hp->Prop}:tC' C elt ws t2 it2 q2 xs P σ false H=P xs H:=rfl
def sf' (C:Rc) (elt:Ce) (own:List Nat) (t:Ct) (q:Cqo) (ws:List Nat) (t2:Ct) (it2:Ci) (q2:Cqo) (σ:L2.St) (Q:VK) (J:It) (H1:Hp):Prop:=bY' own (tG C t) (tQo C q) (nR' (tI C it2) (bY' ws (tG C t2) (tQo C q2) (eB' (tE C elt)))) J σ [] H1 (lF' Q)
theorem lJ' {elt:Ce} {own:List Nat} {t:Ct} {it:Ci} {q:Cqo} {ws:List Nat} {t2:Ct} {it2:Ci} {q2:Cqo}:tE C (.comp elt own t it q (.cons ws t2 it2 q2 .nil)) σ H Q=tI C it σ H (sf' C elt own t q ws t2 it2 q2 σ Q):=rfl
end
section
variable {C:Rc} {σ:L2.St} {H:Hp} {Q:VK} {D:Ends}
structure ClsG (C:Rc) (r:Str) (Cr:Addr) (L:List Str):Prop where
 own:C.cl r=some Cr
 e:∃Ce,C.cl "RunError"=some Ce/\W.exmOne C.K (.ref Cr) (.ref Ce)=some true
 ex:W.excIn C.K Cr bmV "ValueError.__new__"=true
 x:XCls C.K Cr
 kv:W.kitOne C.K (.ref Cr) (.type "ValueError")=some true
 k:∀c∈L,∃Cc,C.cl c=some Cc/\W.kitOne C.K (.ref Cr) (.ref Cc)=some (decide (c=r))
end
def aw' (l:List (Str×Sp)) (y:Str):Option Sp:=l.lookup y
theorem ad' {x:Str} {s:Sp} {l:List (Str×Sp)}:aw' ((x,s) :: l) x=some s:=by unfold aw';simp
theorem ab' {x y:Str} {s:Sp} {l:List (Str×Sp)} (h:(y == x)=false):aw' ((x,s) :: l) y=aw' l y:=by
 unfold aw'
 rw[br,h]
theorem eh' {y:Str} {s:Sp}:∀{l:List (Str×Sp)},aw' l y=some s->(y,s)∈l
 | [],h=>by cases h
 |(x,t) :: l,h=>by
  unfold aw' at h
  rw[br]at h
  cases e:y == x with
  |true=>
   rw[e]at h
   cases h
   rw[eq_of_beq e]
   exact aJ ..
  |false=>
   rw[e]at h
   exact az _ (eh' h)
theorem ar' {P:Program} {w:World} {K:W.Frag} {mg:Str->Option Value} {base:Heap} {k:Nat} {l:List (Str×Sp)} (h:∀p∈l,∃f' fd' ps',FnOk P w K mg base CX0 k f' fd' ps' p.2/\mg p.1=some (.ref f')/\W.keepIn K (.ref f')=true/\dZ' K fd' ps' []):
  ∀y sp',aw' l y=some sp'->∃f' fd' ps',FnOk P w K mg base CX0 k f' fd' ps' sp'/\mg y=some (.ref f')/\W.keepIn K (.ref f')=true/\dZ' K fd' ps' []:=fun y sp' e=>h (y,sp') (eh' e)
theorem ak' {P:Program} {w:World} {K:W.Frag} {mg:Str->Option Value} {base:Heap} {x qual:Str} {st:Stmt} {f:Addr} {fd:FuncData} {ps:List Str} {k:Nat} {sp:Sp} (F:Fun K x qual st f fd) (C:Rc) (S:FnScope C.N ps (ac' st)) (hK:C.K=K) (code:Css) (hm:mSs C.N C.B (ac' st) code (ai' st)=true)
  (len:∀vs H Q E,sp vs H Q E->vs.length=ps.length)
  (hfs:∀y sp',C.fs y=some sp'->∃f' fd' ps',FnOk P w K mg base CX0 k f' fd' ps' sp'/\mg y=some (.ref f')/\W.keepIn K (.ref f')=true/\dZ' K fd' ps' []) (hB:∀y∈C.B,mg y=none) (hmk:mg "~"=none/\mg "^"=none/\mg "%"=none) (nt:tld C.B=false) (nh:hat C.B=false) (hxk:C.xk=fun _=>E0) (hcl:C.cl=fun _=>none)
  (hbody:∀vs H Q E,sp vs H Q E->tSs C code { nx:=fun _ H'=>Q .non H',rt:=Q } (ax' C.N vs) H):FnOk P w K mg base CX0 (k+1) f fd ps sp:=
 oh' F C S hK code hm len ⟨fun y sp' e=>by
  obtain⟨f',fd',ps',h1,h2⟩:=hfs y sp' e
  exact⟨f',fd',ps',.inl h1,h2⟩,hB,hmk,(fun c Ca e=>by rw[hcl]at e;cases e),nt,nh⟩ hxk hbody
theorem mC {α:Type} {P:α->Prop} {a:α} {l:List α} (h:P a/\∀x∈l,P x):∀x∈a :: l,P x:=List.forall_mem_cons.mpr h
theorem mN {α:Type} {P:α->Prop}:∀x∈([]:List α),P x:=fun y hy=>absurd hy al
theorem m6' {α:Type} {P:List α->Prop} (h:∀x0,P [x0]):∀us:List α,us.length=1->P us
 | [x0],_=>h x0
theorem ei' {α:Type} {P:List α->Prop} (h:∀x0 x1,P [x0,x1]):∀us:List α,us.length=2->P us
 | [x0,x1],_=>h x0 x1
theorem wO' {α:Type} {P:List α->Prop} (h:∀x0 x1 x2,P [x0,x1,x2]):∀us:List α,us.length=3->P us
 | [x0,x1,x2],_=>h x0 x1 x2
theorem tD' {α:Type} {P:List α->Prop} (h:∀x0 x1 x2 x3,P [x0,x1,x2,x3]):∀us:List α,us.length=4->P us
 | [x0,x1,x2,x3],_=>h x0 x1 x2 x3
def gI' {α:Type} (a9':TL α) (b:α) (P:α->Hp->Prop) (σ:L2.St):Bool->Hp->Prop:=fun ok H=>if ok=true then a9' σ b H P else P b H
def sg' {α:Type} (tc:TT) (a9':TL α) (b:α) (P:α->Hp->Prop):L2.St->Hp->Prop:=fun σ H=>tc σ H (gI' a9' b P σ)
def kCl {α:Type} (own:List Nat) (g:TG) (tc:TT) (a9':TL α) (σ:L2.St) (a:α) (N:α->Hp->Prop) (J:It) (H:Hp):Prop:=bY' own g tc a9' J σ a H N
section
variable {C:Rc} {σ:L2.St} {H:Hp} {Q:VK} {D:Ends} {α:Type}
theorem oO' {a9':TL α} {b:α} {P:α->Hp->Prop}:sg' (tQo C .none) a9' b P σ H=a9' σ b H P:=rfl
theorem oP' {q:Cq} {a9':TL α} {b:α} {P:α->Hp->Prop}:sg' (tQo C (.some q)) a9' b P σ H=tQ C q σ H (gI' a9' b P σ):=rfl
theorem lK' {a9':TL α} {b:α} {P:α->Hp->Prop}:gI' a9' b P σ true H=a9' σ b H P:=rfl
theorem lL' {a9':TL α} {b:α} {P:α->Hp->Prop}:gI' a9' b P σ false H=P b H:=rfl
theorem lM' {elt:Ce} {own:List Nat} {t:Ct} {it:Ci} {q:Cqo} {ws:List Nat} {t2:Ct} {it2:Ci} {q2:Cqo} {r:Cc}:tE C (.comp elt own t it q (.cons ws t2 it2 q2 r)) σ H Q=tI C it σ H (kCl own (tG C t) (tQo C q) (tR C (.cons ws t2 it2 q2 r) (eB' (tE C elt))) σ [] (lF' Q)):=rfl
theorem oQ' {ws:List Nat} {t:Ct} {it:Ci} {q:Cqo} {r:Cc} {em:TL (List V)} {b:List V} {P:List V->Hp->Prop}:tR C (.cons ws t it q r) em σ b H P=tI C it σ H (kCl ws (tG C t) (tQo C q) (tR C r em) σ b P):=rfl
theorem sh' {em:TL (List V)} {b:List V} {P:List V->Hp->Prop}:tR C .nil em σ b H P=em σ b H P:=rfl
theorem oR' {elt:Ce} {b:List V} {P:List V->Hp->Prop}:eB' (tE C elt) σ b H P=tE C elt σ H (ga' b P):=rfl
def vi' (b:(Option Int->Bool)×Nat) (P:(Option Int->Bool)×Nat->Hp->Prop):VK:=fun v H=>∃k,v=kO k/\b.2<4000/\P (fun j=>b.1 j || decide (j=k),b.2+1) H
theorem lN' {elt:Ce} {b:(Option Int->Bool)×Nat} {P:(Option Int->Bool)×Nat->Hp->Prop}:qN' (tE C elt) σ b H P=tE C elt σ H (vi' b P):=rfl
theorem oS' {it:Ci} {own:List Nat} {g:TG} {tc:TT} {a9':TL α} {b:α} {P:α->Hp->Prop}:nR' (tI C it) (bY' own g tc a9') σ b H P=tI C it σ H (kCl own g tc a9' σ b P):=rfl
def v4' (a:List (Key×V)) (P:List (Key×V)->Hp->Prop) (y:V):VK:=fun v H2=>∃k,y=L2.kV k/\a.length<sizeLine/\P (kt' a k v) H2
def v5' (C:Rc) (σ:L2.St) (v:Ce) (a:List (Key×V)) (P:List (Key×V)->Hp->Prop):VK:=fun y H1=>tE C v σ H1 (v4' a P y)
theorem lO' {k v:Ce} {a:List (Key×V)} {P:List (Key×V)->Hp->Prop}:qO' (tE C k) (tE C v) σ a H P=tE C k σ H (v5' C σ v a P):=rfl
theorem oT' {v:Ce} {a:List (Key×V)} {P:List (Key×V)->Hp->Prop} {y:V}:v5' C σ v a P y H=tE C v σ H (v4' a P y):=rfl
def v6' (a:KTL) (P:KTL->Hp->Prop) (y:V):VK:=fun v H2=>∃(k:List Key) (b:Addr),y=.ref b/\H2 b=some (.tup (k.map L2.kV))/\okT a H2/\(∀x∈a,x.1≠k)/\a.length<sizeLine/\P (a++[(k,b,v)]) H2
def v7' (C:Rc) (σ:L2.St) (v:Ce) (a:KTL) (P:KTL->Hp->Prop):VK:=fun y H1=>tE C v σ H1 (v6' a P y)
theorem lP' {k v:Ce} {a:KTL} {P:KTL->Hp->Prop}:qP' (tE C k) (tE C v) σ a H P=tE C k σ H (v7' C σ v a P):=rfl
theorem oU' {v:Ce} {a:KTL} {P:KTL->Hp->Prop} {y:V}:v7' C σ v a P y H=tE C v σ H (v6' a P y):=rfl
def si' (neg:Bool) (y:V) (Q:VK):VK:=fun x H2=>(∃a o,x=.ref a/\ue' H2 a y o/\Q (.bl (if neg then !o.isSome else o.isSome)) H2)\/wr' neg y x H2 Q
def vj' (C:Rc) (σ:L2.St) (neg:Bool) (b:Ce) (Q:VK):VK:=fun y H1=>tE C b σ H1 (si' neg y Q)
theorem lQ' {neg:Bool} {b:Ce} {y:V}:vj' C σ neg b Q y H=tE C b σ H (si' neg y Q):=rfl
def m7' (a:Addr) (y:V) (Q:VK):VK:=fun z H3=>∃o,ue' H3 a y o/\Q (o.getD z) H3
def sj' (C:Rc) (σ:L2.St) (c:Ce) (a:Addr) (Q:VK):VK:=fun y H2=>tE C c σ H2 (m7' a y Q)
theorem jJ' {c:Ce} {a:Addr} {y:V}:sj' C σ c a Q y H=tE C c σ H (m7' a y Q):=rfl
end
section
variable {C:Rc} {σ:L2.St} {H:Hp} {Q:VK} {Qb:Bool->Hp->Prop}
def kW1 (C:Rc) (σ:L2.St) (k:Zf) (b:Ce) (Q:VK):VK:=fun x H=>tE C b σ H fun y H'=>rZf k x y H' Q
def kW2 (k:Zf) (x:V) (Q:VK):VK:=fun y H=>rZf k x y H Q
theorem sk' {k:Zf} {b:Ce} {x:V}:kW1 C σ k b Q x H=tE C b σ H (kW2 k x Q):=rfl
section
variable {D:Ends}
def wP' (x y z:V) (sub:Bool) (D:Ends) (σ:L2.St):VK:=fun w H4=>ipI (fun i j=>if sub then i-j else i+j) z w H4 fun u H5=>dx' x y u H5 fun H6=>D.nx σ H6
def v8' (C:Rc) (e:Ce) (sub:Bool) (x:V) (D:Ends) (σ:L2.St):VK:=fun y H2=>fM' C.K x y H2 fun z H3=>tE C e σ H3 (wP' x y z sub D σ)
def wQ' (C:Rc) (i:Ce) (sub:Bool) (e:Ce) (D:Ends) (σ:L2.St):VK:=fun x H1=>tE C i σ H1 (v8' C e sub x D σ)
theorem oV' {i e:Ce} {sub:Bool} {x:V}:wQ' C i sub e D σ x H=tE C i σ H (v8' C e sub x D σ):=rfl
def v9' (x v:V) (D:Ends) (σ:L2.St):VK:=fun y H3=>∃a H4,x=.ref a/\wl' H3 a y v H4/\D.nx σ H4
def vk' (C:Rc) (i:Ce) (v:V) (D:Ends) (σ:L2.St):VK:=fun x H2=>tE C i σ H2 (v9' x v D σ)
def wR' (C:Rc) (o i:Ce) (D:Ends) (σ:L2.St):VK:=fun v H1=>tE C o σ H1 (vk' C i v D σ)
theorem oW' {o i:Ce} {v:V}:wR' C o i D σ v H=tE C o σ H (vk' C i v D σ):=rfl
theorem oX' {i:Ce} {v x:V}:vk' C i v D σ x H=tE C i σ H (v9' x v D σ):=rfl
end
def vl' (C:Rc) (Q:VK) (x:V):VK:=fun y H1=>∃(k j:Bool) (a b:Addr) (xs ys:List V),[x,y]=[.ref a,.ref b]/\Sq k C.K H1 a xs/\Sq j C.K H1 b ys/\xs.length=ys.length/\
 ∀(l:Addr) (as:List Addr) (H':Hp),H1 l=none->(∀b u,H1 b=some u->H' b=some u)->(∀p∈as,H1 p=none)->H' l=some (.lst (as.map V.ref))->as.length=xs.length->(∀(i:Nat) p x y,as[i]?=some p->xs[i]?=some x->ys[i]?=some y->H' p=some (.tup [x,y]))->Q (.ref l) H'
def wa' (C:Rc) (σ:L2.St) (b:Ce) (Q:VK):VK:=fun x H1=>tE C b σ H1 (vl' C Q x)
theorem sm' {a b:Ce}:tE C (.lzp a b) σ H Q=tE C a σ H (wa' C σ b Q):=rfl
theorem oY' {b:Ce} {x:V}:wa' C σ b Q x H=tE C b σ H (vl' C Q x):=rfl
theorem sn' {k j:Bool} {a b:Addr} {xs ys:List V} (h1:Sq k C.K H a xs) (h2:Sq j C.K H b ys) (hl:xs.length=ys.length)
  (q:∀(l:Addr) (as:List Addr) (H':Hp),H l=none->(∀b u,H b=some u->H' b=some u)->(∀p∈as,H p=none)->H' l=some (.lst (as.map V.ref))->as.length=xs.length->(∀(i:Nat) p x y,as[i]?=some p->xs[i]?=some x->ys[i]?=some y->H' p=some (.tup [x,y]))->Q (.ref l) H'):vl' C Q (.ref a) (.ref b) H:=⟨k,j,a,b,xs,ys,rfl,h1,h2,hl,q⟩
def vm' (C:Rc) (σ:L2.St) (b:Ce) (Q:VK):VK:=fun x H1=>tE C b σ H1 (lB' fun l H2=>∃(a:Addr) (xs:List V) (n:Nat),x=.ref a/\l=some (n:Int)/\0<n/\SqL C.K H2 a xs/\∀p,H2 p=none->Q (.ref p) (upd H2 p (.lst (vR' xs n))))
theorem lR' {b:Ce} {x:V}:vm' C σ b Q x H=tE C b σ H (lB' fun l H2=>∃(a:Addr) (xs:List V) (n:Nat),x=.ref a/\l=some (n:Int)/\0<n/\SqL C.K H2 a xs/\∀p,H2 p=none->Q (.ref p) (upd H2 p (.lst (vR' xs n)))):=rfl
end
def dC' {α β:Type} (R:α->β->Prop):List α->List β->Prop
 | [],[]=>True
 |a :: as,b :: bs=>R a b/\dC' R as bs
 |_,_=>False
section
variable {α β:Type} {R S:α->β->Prop}
theorem dC'.mono (h:∀a b,R a b->S a b):∀{as:List α} {bs:List β},dC' R as bs->dC' S as bs
 | [],[],_=>trivial
 |_ :: _,_ :: _,q=>⟨h _ _ q.1,dC'.mono h q.2⟩
 | [],_ :: _,q=>q.elim
 |_ :: _,[],q=>q.elim
theorem dC'.len:∀{as:List α} {bs:List β},dC' R as bs->as.length=bs.length
 | [],[],_=>rfl
 |_ :: _,_ :: _,q=>by simp[dC'.len q.2]
 | [],_ :: _,q=>q.elim
 |_ :: _,[],q=>q.elim
theorem dC'.app:∀{as cs:List α} {bs ds:List β},dC' R as bs->dC' R cs ds->dC' R (as++cs) (bs++ds)
 | [],_,[],_,_,q=>q
 |_ :: _,_,_ :: _,_,p,q=>⟨p.1,dC'.app p.2 q⟩
 | [],_,_ :: _,_,p,_=>p.elim
 |_ :: _,_,[],_,p,_=>p.elim
theorem dC'.snoc {a:α} {b:β} {as:List α} {bs:List β} (h:dC' R as bs) (r:R a b):dC' R (as++[a]) (bs++[b]):=h.app ⟨r,trivial⟩
theorem dC'.get:∀{as:List α} {bs:List β} {i:Nat} {b:β},dC' R as bs->bs[i]?=some b->∃a,as[i]?=some a/\R a b
 | [],[],_,_,_,e=>by cases e
 |a :: _,_ :: _,0,_,q,e=>by cases e;exact⟨a,rfl,q.1⟩
 |_ :: as,_ :: bs,i+1,b,q,e=>by
  obtain⟨a,h1,h2⟩:=dC'.get (i:=i) (b:=b) q.2 (by simpa using e)
  exact⟨a,by simpa using h1,h2⟩
 | [],_ :: _,_,_,q,_=>q.elim
 |_ :: _,[],_,_,q,_=>q.elim
theorem dC'.getL:∀{as:List α} {bs:List β} {i:Nat} {a:α},dC' R as bs->as[i]?=some a->∃b,bs[i]?=some b/\R a b
 | [],[],_,_,_,e=>by cases e
 |_ :: _,b :: _,0,_,q,e=>by cases e;exact⟨b,rfl,q.1⟩
 |_ :: as,_ :: bs,i+1,a,q,e=>by
  obtain⟨b,h1,h2⟩:=dC'.getL (i:=i) (a:=a) q.2 (by simpa using e)
  exact⟨b,by simpa using h1,h2⟩
 | [],_ :: _,_,_,q,_=>q.elim
 |_ :: _,[],_,_,q,_=>q.elim
end
end R3
section
open PySem PySem.Spec PyProof.Rows L2 R3
local macro_rules | `(tactic| walk_at "y") => `(tactic| try walk_at "sy")
set_option hygiene false in
local macro_rules | `(tactic| walk_at "sy") => `(tactic| simp only [sk', oW', oX', oV', sm', oY', lR', lM', oQ', sh', oR', lQ', jJ', lN', oS', lO', oT', lP', oU', oO', oP', lK', lL', fv', q5', uP', mP', q6', uQ', mQ', mR', mS', q8', mT', mU', q9', ra', rb', rc', ln', rd', mV', rf', lo', rg', uS', ol', om', rh', ri', ve', lI', oM', oN', sb', sc', sd', se', lJ', rj', uT', uU', rk', uV', uW', uX', wC', wD', wE', wF', wG', vb', vc', oL', wL', jH', rl', rm', on', jy', rn', ro', rp', uY', rr', lp', uZ', oo', u0', lq', lr', ls', wH', u1', u2', dS', mW', mX', rv', jz', rx', ry', oq', or', lu', jA', jB', rB', lv', lw', rC', rD', rE', rG', lx', rH', u5', ox', oy', rI', rJ', rK', oz', rO', ly', lz', lA', rP', rQ', jC', rR', lC', lD', vd', r5', hO', jF', jG', oF', oG', wI', wJ', u7', oC', jD', oD', u8', rW', rX', mZ', gb', r0', r1', r2', r3', gH', clr, List.foldl_cons, List.foldl_nil, L2.ax', bg, List.map_nil, cn, List.length_nil, List.cons_append, List.nil_append, aK, Nat.reduceSub, Nat.reduceAdd, List.set_cons_zero, List.set_cons_succ, List.getElem?_cons_zero, List.getElem?_cons_succ, reduceCtorEq, decide_true, decide_false, eq_self, Bool.not_true, Bool.not_false, bne_self_eq_false, BEq.rfl])
namespace LW
open PySem PySem.Spec PyProof.Rows L2 R3
def c5':Css:=(.cons (.ite (.cmp .Lt (.var 1) (.blt .len (.cons (.var 0) .nil))) (.cons (.ret (.idx (.var 0) (.var 1)))
  .nil) .nil)
  (.cons (.ret (.int 0))
  .nil))
def lS':Css:=(.cons (.asg (.name 2) (.call "_law_cell_at" (.cons (.var 0) (.cons (.var 1) .nil))))
  (.cons (.ret (.lst (.cons (.bin .Mult (.blt .abs (.cons (.var 2) .nil)) (.blt .int (.cons (.cmp .GtE (.blt .abs (.cons (.var 2) .nil)) (.bin .Pow (.int 10) (.int 18))) .nil))) (.cons (.bin .Add (.bin .Add (.bin .Mod (.var 2) (.int 2305843009213693951)) (.bin .Mult (.int 39373) (.var 1))) (.int 17)) (.cons (.int 0) .nil)))))
  .nil))
def gJ':Css:=(.cons (.ite (.cmp .Gt (.idx (.var 0) (.int 0)) (.int 0)) (.cons (.asg (.name 2) (.bin .Mod (.idx (.var 0) (.int 0)) (.var 1)))
  (.cons (.asg (.sub (.var 0) (.int 0)) (.bin .FloorDiv (.idx (.var 0) (.int 0)) (.var 1)))
  (.cons (.ret (.var 2))
  .nil))) .nil)
  (.cons (.asg (.sub (.var 0) (.int 2)) (.bin .Add (.idx (.var 0) (.int 2)) (.int 1)))
  (.cons (.asg (.name 3) (.bin .Mod (.bin .Mult (.bin .Add (.idx (.var 0) (.int 1)) (.bin .Mult (.int 48271) (.idx (.var 0) (.int 2)))) (.bin .Add (.int 39373) (.idx (.var 0) (.int 2)))) (.int 2147483647)))
  (.cons (.asg (.name 4) (.bin .Mod (.bin .Mult (.bin .Add (.var 3) (.idx (.var 0) (.int 2))) (.bin .Add (.bin .Mod (.var 3) (.int 40009)) (.int 7))) (.int 2147483629)))
  (.cons (.ret (.bin .Mod (.bin .FloorDiv (.bin .Mod (.bin .Add (.bin .Mult (.var 4) (.int 48271)) (.var 3)) (.int 2147483587)) (.int 64)) (.var 1)))
  .nil)))))
def ej' (K:W.Frag):Sp:=fun vs H Q _=>∃(a:Addr) (ns:List Int) (k:Int),vs=[.ref a,.int k]/\SqL K H a (ns.map V.int)/\0<=k/\∀c:Int,Q (.int c) H
theorem lT' {ns:List Int} {k:Int} (h0:0<=k) (h1:k<ns.length):∃c:Int,atI (ns.map V.int) k=some (.int c):=by
 obtain⟨j,rfl⟩:=aA h0
 have hk:j<ns.length:=by omega
 exact⟨ns[j],cN' (by rw[aD,ac hk];rfl)⟩
theorem jK' {C:Rc} (hN:C.N.length=2):∀vs H Q E,ej' C.K vs H Q E->tSs C c5' { nx:=fun _ H'=>Q .non H',rt:=Q } (L2.ax' C.N vs) H:=by
 intro vs H Q E h
 obtain⟨a,ns,k,rfl,hs,hk,q⟩:=h
 rw[aj' hN]
 unfold c5'
 walk_at "y"
 refine cv' hs ?_
 rw[ah]
 walk_at "y"
 refine b5' (fun c=>?_) fun _=>?_
 .obtain⟨v,hv⟩:=lT' hk c
  walk_at "y"
  exact aO' hs hv (q v)
 .walk_at "y"
  exact q 0
def jL' (K:W.Frag):Sp:=fun vs H Q _=>∃(a:Addr) (ns:List Int) (k:Int),vs=[.ref a,.int k]/\SqL K H a (ns.map V.int)/\0<=k/\k<=1000/\∀(p:Addr) (x y:Int),H p=none->0<=x->0<=y->y<2 ^ 62->Q (.ref p) (upd H p (fu' x y 0))
theorem lU' {C:Rc} (hN:C.N.length=3) (hf:C.fs "_law_cell_at"=some (ej' C.K)):∀vs H Q E,jL' C.K vs H Q E->tSs C lS' { nx:=fun _ H'=>Q .non H',rt:=Q } (L2.ax' C.N vs) H:=by
 intro vs H Q E h
 obtain⟨a,ns,k,rfl,hs,hk,hk2,q⟩:=h
 rw[aj' hN]
 unfold lS'
 walk_at "y"
 refine ag' hf ?_
 walk_at "y"
 refine⟨a,ns,k,rfl,hs,hk,fun c=>?_⟩
 walk_at "y"
 have hm0:0<=c % 2305843009213693951:=Int.emod_nonneg _ (by decide)
 have hm1:c % 2305843009213693951<2305843009213693951:=cq _ (by decide)
 refine⟨⟨by decide,by decide,by decide⟩,?_,by decide,.inl ⟨by decide,by decide⟩,by decide,fun p hp=>q p _ _ hp ?_ ?_ ?_⟩
 .refine .inr (.inl ⟨?_,?_⟩)<;>split<;>split<;>decide
 .split<;>split<;>omega
 .omega
 .omega
section
variable {K:W.Frag} {H:Hp} {b:Addr} {x y z:Int} {Q:VK}
theorem ix0 (h:H b=some (fu' x y z)) (q:Q (.int x) H):fM' K (.ref b) (.int 0) H Q\/fU' K (.ref b) (.int 0) H Q:=.inl ⟨b,_,0,_,rfl,rfl,SqL.of h,rfl,q⟩
theorem ix1 (h:H b=some (fu' x y z)) (q:Q (.int y) H):fM' K (.ref b) (.int 1) H Q\/fU' K (.ref b) (.int 1) H Q:=.inl ⟨b,_,1,_,rfl,rfl,SqL.of h,rfl,q⟩
theorem ix2 (h:H b=some (fu' x y z)) (q:Q (.int z) H):fM' K (.ref b) (.int 2) H Q\/fU' K (.ref b) (.int 2) H Q:=.inl ⟨b,_,2,_,rfl,rfl,SqL.of h,rfl,q⟩
theorem st0 {u:Int} {Q:Hp->Prop} (h:H b=some (fu' x y z)) (q:Q (upd H b (fu' u y z))):dx' (.ref b) (.int 0) (.int u) H Q:=⟨b,_,0,0,rfl,rfl,h,rfl,q⟩
theorem st2 {u:Int} {Q:Hp->Prop} (h:H b=some (fu' x y z)) (q:Q (upd H b (fu' x y u))):dx' (.ref b) (.int 2) (.int u) H Q:=⟨b,_,2,2,rfl,rfl,h,rfl,q⟩
end
def eN':Sp:=fun vs H Q _=>∃(b:Addr) (x y z m:Int),vs=[.ref b,.int m]/\H b=some (fu' x y z)/\0<=x/\0<=y/\y<2 ^ 62/\0<=z/\z<=2 ^ 40/\0<m/\m<4611686018427387904/\
 ∀(r x' z':Int),0<=r->r<m->0<=x'->0<=z'->z'<=z+1->Q (.int r) (upd H b (fu' x' y z'))
theorem jM' {C:Rc} (hN:C.N.length=5):∀vs H Q E,eN' vs H Q E->tSs C gJ' { nx:=fun _ H'=>Q .non H',rt:=Q } (L2.ax' C.N vs) H:=by
 intro vs H Q E h
 obtain⟨b,x,y,z,m,rfl,hb,hx,hy,hy2,hz,hz2,hm,hm2,q⟩:=h
 rw[aj' hN]
 unfold gJ'
 walk_at "sy"
 refine ix0 hb ?_
 walk_at "sy"
 refine b5' (fun c=>?_) fun _=>?_
 .walk_at "sy"
  refine ix0 hb ?_
  walk_at "sy"
  refine⟨hm,?_⟩
  refine ix0 hb ?_
  walk_at "sy"
  refine⟨⟨hm,.inr (ag ((Nat.log2_lt (by omega)).mpr (show m.natAbs<2 ^ 62 by omega)) (by decide))⟩,st0 hb ?_⟩
  walk_at "sy"
  exact q _ _ _ (Int.emod_nonneg _ (by omega)) (cq _ hm) (Int.ediv_nonneg hx (by omega)) hz (by omega)
 .walk_at "sy"
  refine ix2 hb ?_
  walk_at "sy"
  refine st2 hb ?_
  have hb':upd H b (fu' x y (z+1)) b=some (fu' x y (z+1)):=aa'
  walk_at "sy"
  refine ix1 hb' ?_
  walk_at "sy"
  refine ix2 hb' ?_
  walk_at "sy"
  refine⟨.inl ⟨by decide,by decide⟩,?_⟩
  refine ix2 hb' ?_
  walk_at "sy"
  refine⟨.inr (.inl ⟨by omega,by omega⟩),by decide,?_⟩
  refine ix2 hb' ?_
  walk_at "sy"
  generalize (y+48271*(z+1))*(39373+(z+1)) % 2147483647=once
  have ho0:0<=once % 40009:=Int.emod_nonneg _ (by decide)
  have ho1:once % 40009<40009:=cq _ (by decide)
  refine⟨by decide,.inr (.inl ⟨by omega,by omega⟩),by decide,.inr (.inl ⟨by decide,by decide⟩),by decide,⟨by decide,by decide⟩,hm,?_⟩
  exact q _ _ _ (Int.emod_nonneg _ (by omega)) (cq _ hm) hx (by omega) (by omega)
def az':Sp:=fun vs H Q _=>∃(b:Addr) (n:Nat) (m:Int),vs=[.ref b,.int m]/\H b=some (da' b n)/\n<=2 ^ 40/\0<m/\m<4611686018427387904/\∀(r:Int) (H':Hp),0<=r->r<m->Go 1 H H'->Q (.int r) H'
theorem oZ' {P:Program} {w:World} {K:W.Frag} {mg:Str->Option Value} {base:Heap} {k:Nat} {f:Addr} {fd:FuncData} {ps:List Str} (hp:ps.length=2) (F:FnOk P w K mg base CX0 k f fd ps eN'):FnOk P w K mg base CX0 k f fd ps az':=by
 refine oj' (jx' (sp':=fun vs H Q E=>eN' vs H (vU' Q) E) F fun _ _ _ _ h=>h) (fun vs H Q E h=>?_) fun vs H Q E h=>?_
 .obtain⟨b,n,m,rfl,hb,hn,hm,hm2,q⟩:=h
  refine⟨b,n,hb,fun x y z hx hy hy2 hz hzn=>⟨b,x,y,z,m,rfl,aa',hx,hy,hy2,hz,by omega,hm,hm2,fun r x' z' h1 h2 h3 h4 h5=>?_⟩⟩
  refine⟨b,x',y,z',n+1,aa',h3,hy,hy2,h4,by omega,?_⟩
  refine q r _ h1 h2 ?_
  rw[dD']
  exact Go.draw hb (ak _) _
 .obtain⟨b,n,m,rfl,_⟩:=h
  rw[hp]
  rfl
def jN' (K:W.Frag):Sp:=fun vs H Q _=>∃(a:Addr) (ns:List Int) (k:Int),vs=[.ref a,.int k]/\SqL K H a (ns.map V.int)/\0<=k/\k<=1000/\∀(p:Addr),H p=none->Q (.ref p) (upd H p (da' p 0))
theorem so' {P:Program} {w:World} {K:W.Frag} {mg:Str->Option Value} {base:Heap} {k:Nat} {f:Addr} {fd:FuncData} {ps:List Str} (F:FnOk P w K mg base CX0 k f fd ps (jL' K)):FnOk P w K mg base CX0 k f fd ps (jN' K):=by
 refine jx' F fun vs H Q E h=>?_
 obtain⟨a,ns,k,rfl,hs,h0,h1,q⟩:=h
 refine⟨a,ns,k,rfl,hs,h0,h1,fun p x y hp hx hy hy2=>⟨p,x,y,0,0,aa',hx,hy,hy2,by omega,by omega,?_⟩⟩
 rw[dD']
 exact q p hp
theorem _root_.R3.Go.boxed {c n:Nat} {H H':Hp} {b:Addr} (g:Go c H H') (h:H b=some (da' b n)) (hn:n+c<=2 ^ 40):∃m,H' b=some (da' b m)/\m<=n+c/\m<=2 ^ 40:=by
 obtain⟨m,hm,e⟩:=g.box b n h
 exact⟨m,e,hm,by omega⟩
def Sc:V->Bool
 | .non=>true
 | .bl _=>true
 | .int _=>true
 | .str _=>true
 |_=>false
def Eqv (H:Hp):Nat->V->V->Prop
 |0,v,w=>v=w/\Sc v=true
 |n+1,v,w=>(v=w/\Sc v=true)\/∃a b xs ys,v=.ref a/\w=.ref b/\((H a=some (.lst xs)/\H b=some (.lst ys))\/(H a=some (.tup xs)/\H b=some (.tup ys)))/\xs.length<=sizeLine/\xs.length=ys.length/\∀(i:Nat) x y,xs[i]?=some x->ys[i]?=some y->Eqv H n x y
def m8' (n:Nat):Sp:=fun vs H Q _=>∃v w,vs=[v,w]/\Eqv H n v w/\∀H',aG' H H'->Q (.bl true) H'
section
variable {K:W.Frag} {H:Hp} {Q:VK}
theorem ek' {x:V} {T c:String} {k:Bool} (h:aT' H x=some T) (hk:isT T c=k) (hT:T∈b9') (hc:c∈["bool","int","str","list","tuple","dict"]) (q:Q (.bl k) H):df' K .isinstance [x,.ty c] H Q:=r6' h hT hc (by rw[hk];exact q)
theorem wb' {x:V} {T c d:String} {p:Addr} {k:Bool} (h:aT' H x=some T) (hp:H p=some (.tup [.ty c,.ty d])) (hk:(isT T c || isT T d)=k) (hT:T∈b9') (hc:c∈["bool","int","str","list","tuple","dict"]) (hd:d∈["bool","int","str","list","tuple","dict"]) (q:Q (.bl k) H):df' K .isinstance [x,.ref p] H Q:=oH' h hT hp hc hd (by rw[hk];exact q)
end
end LW
namespace LW
open PySem PySem.Spec PyProof.Rows L2 R3
def gK':Css:=(.cons (.ite (.cmp .Eq (.call "_law_take" (.cons (.var 0) (.cons (.int 8) .nil))) (.int 0)) (.cons (.ret (.bin .Add (.int 7) (.call "_law_take" (.cons (.var 0) (.cons (.bin .Sub (.var 3) (.int 6)) .nil)))))
  .nil) .nil)
  (.cons (.ret (.bin .Add (.var 1) (.call "_law_take" (.cons (.var 0) (.cons (.bin .Add (.bin .Sub (.var 2) (.var 1)) (.int 1)) .nil)))))
  .nil))
def c6':Css:=(.cons (.asg (.name 2) (.bin .Add (.int 2) (.call "_law_take" (.cons (.var 0) (.cons (.int 4) .nil)))))
  (.cons (.asg (.name 3) (.lst .nil))
  (.cons (.for_ (.name 4) (.range1 (.var 1)) (.cons (.asg (.name 5) (.lst .nil))
  (.cons (.for_ (.name 6) (.range1 (.int 2)) (.cons (.asg (.name 7) (.call "_law_take" (.cons (.var 0) (.cons (.var 1) .nil))))
  (.cons (.expr (.met .append (.var 5) (.cons (.idx (.lst (.cons (.var 7) (.cons .non .nil))) (.blt .int (.cons (.cmp .Eq (.call "_law_take" (.cons (.var 0) (.cons (.var 2) .nil))) (.int 0)) .nil))) .nil)))
  .nil)))
  (.cons (.expr (.met .append (.var 3) (.cons (.blt .tuple (.cons (.var 5) .nil)) .nil)))
  .nil))))
  (.cons (.ret (.blt .tuple (.cons (.var 3) .nil)))
  .nil))))
def aP':Css:=(.cons (.asg (.name 2) (.lst .nil))
  (.cons (.for_ (.name 3) (.range1 (.var 1)) (.cons (.expr (.met .insert (.var 2) (.cons (.call "_law_take" (.cons (.var 0) (.cons (.bin .Add (.var 3) (.int 1)) .nil))) (.cons (.var 3) .nil))))
  .nil))
  (.cons (.asg (.name 4) (.bin .Mult (.lst (.cons .non .nil)) (.var 1)))
  (.cons (.for_ (.tup (.cons (.name 5) (.cons (.name 6) .nil))) (.enum (.var 2)) (.cons (.asg (.name 7) (.idx (.bin .Add (.var 2) (.cut (.var 2) .none (.some (.int 1)))) (.bin .Add (.var 5) (.int 1))))
  (.cons (.asg (.name 8) (.idx (.lst (.cons (.call "_law_take" (.cons (.var 0) (.cons (.var 1) .nil))) (.cons .non .nil))) (.blt .int (.cons (.cmp .Eq (.call "_law_take" (.cons (.var 0) (.cons (.int 3) .nil))) (.int 0)) .nil))))
  (.cons (.asg (.sub (.var 4) (.var 6)) (.idx (.lst (.cons (.tup (.cons (.var 7) (.cons (.var 8) .nil))) (.cons (.tup (.cons (.var 8) (.cons (.var 7) .nil))) .nil))) (.call "_law_take" (.cons (.var 0) (.cons (.int 2) .nil)))))
  .nil))))
  (.cons (.ret (.blt .tuple (.cons (.var 4) .nil)))
  .nil)))))
abbrev Rm:=Option Nat×Option Nat
def oV:Option Nat->V
 |none=>.non
 |some n=>.int n
def Tp (H H':Hp):Prop:=∀a xs,H a=some (.tup xs)->H' a=some (.tup xs)
theorem Tp.trans {H H1 H2:Hp} (a:Tp H H1) (b:Tp H1 H2):Tp H H2:=fun c x h=>b c x (a c x h)
theorem _root_.R3.Go.tp {c:Nat} {H H':Hp} (g:Go c H H'):Tp H H':=fun a xs h=>g.tup h
theorem aF' {H H':Hp} (s:aG' H H'):Tp H H':=fun a xs h=>s _ _ h
theorem el' {H:Hp} {p:Addr} (h:H p=none) (o:HO):Tp H (upd H p o):=aF' (ah' h o)
theorem gL' {H:Hp} {p:Addr} {xs:List V} (h:H p=some (.lst xs)) (o:HO):Tp H (upd H p o):=fun a ys e=>by
 rw[ae' (fun z=>by subst z;rw[h]at e;cases e)]
 exact e
theorem _root_.R3.Go.upd {c:Nat} {H H':Hp} {l:Addr} {o:HO} (g:Go c H H') (h:H l=none):Go c H (L2.upd H' l o):=by
 refine⟨fun a n e=>?_,fun a u e no=>?_,fun a e=>?_⟩
 .obtain⟨m,hm,e1⟩:=g.box a n e
  exact⟨m,hm,by rw[ae' (af' e h)];exact e1⟩
 .rw[ae' (af' e h)]
  exact g.oth a u e no
 .by_cases hl:a=l
  .subst hl
   exact h
  .rw[ae' hl]at e
   exact g.free a e
theorem bb' {Q:VK} {m:Int} {H0 H:Hp} {b:Addr} {n0 c:Nat} (hb:H0 b=some (da' b n0)) (g:Go c H0 H) (hn:n0+c<=2 ^ 40) (hm:0<m) (hm2:m<4611686018427387904) (q:∀r H',0<=r->r<m->Go 1 H H'->Go (c+1) H0 H'->Q (.int r) H'):az' [.ref b,.int m] H Q E0:=by
 obtain⟨n,hb1,_,hn1⟩:=g.boxed hb hn
 exact⟨b,n,m,rfl,hb1,hn1,hm,hm2,fun r H' h0 h1 g1=>q r H' h0 h1 g1 (g.trans g1)⟩
def fz':Sp:=fun vs H Q _=>∃(b:Addr) (n:Nat) (x y z:Int),vs=[.ref b,.int x,.int y,.int z]/\H b=some (da' b n)/\n<=2 ^ 39/\0<=x/\x<=y/\y<=1000/\7<=z/\z<=1000/\∀(r:Int) (H':Hp),(x<=r/\r<=y\/7<=r/\r<=z)->Go 2 H H'->Q (.int r) H'
theorem jO' {C:Rc} (hN:C.N.length=4) (hT:C.fs "_law_take"=some az'):∀vs H Q E,fz' vs H Q E->tSs C gK' { nx:=fun _ H'=>Q .non H',rt:=Q } (L2.ax' C.N vs) H:=by
 intro vs H Q E h
 obtain⟨b,n,x,y,z,rfl,hb,hn,hx,hxy,hy,hz,hz2,q⟩:=h
 rw[aj' hN]
 unfold gK'
 walk_at "sy"
 refine ag' hT ?_
 walk_at "sy"
 refine bb' hb (Go.refl (c:=0)) (by omega) (by decide) (by decide) fun r1 H1 h0 h1 g1 g01=>?_
 walk_at "sy"
 refine b5' (fun hc=>?_) fun hc=>?_
 .walk_at "sy"
  refine ag' hT ?_
  walk_at "sy"
  refine bb' hb g01 (by omega) (by omega) (by omega) fun r2 H2 h20 h21 g2 g02=>?_
  walk_at "sy"
  exact q _ _ (.inr ⟨by omega,by omega⟩) g02
 .walk_at "sy"
  refine ag' hT ?_
  walk_at "sy"
  refine bb' hb g01 (by omega) (by omega) (by omega) fun r2 H2 h20 h21 g2 g02=>?_
  walk_at "sy"
  exact q _ _ (.inl ⟨by omega,by omega⟩) g02
def du' (H:Hp) (v:V) (r:Rm):Prop:=∃p,v=.ref p/\H p=some (.tup [oV r.1,oV r.2])
theorem du'.mono {H H':Hp} {v:V} {r:Rm} (t:Tp H H') (h:du' H v r):du' H' v r:=by
 obtain⟨p,e,h⟩:=h
 exact⟨p,e,t _ _ h⟩
def cp' (H:Hp):List V->List Rm->Prop
 | [],[]=>True
 |v :: vs,r :: rs=>du' H v r/\cp' H vs rs
 |_,_=>False
theorem cp'.mono {H H':Hp} (t:Tp H H'):∀{vs:List V} {M:List Rm},cp' H vs M->cp' H' vs M
 | [],[],_=>trivial
 |v :: vs,r :: rs,h=>⟨h.1.mono t,cp'.mono t h.2⟩
 | [],_ :: _,h=>h.elim
 |_ :: _,[],h=>h.elim
theorem cp'.len {H:Hp}:∀{vs:List V} {M:List Rm},cp' H vs M->vs.length=M.length
 | [],[],_=>rfl
 |v :: vs,r :: rs,h=>by simp[cp'.len h.2]
 | [],_ :: _,h=>h.elim
 |_ :: _,[],h=>h.elim
theorem cp'.snoc {H:Hp} {v:V} {r:Rm} (hr:du' H v r):∀{vs:List V} {M:List Rm},cp' H vs M->cp' H (vs++[v]) (M++[r])
 | [],[],_=>⟨hr,trivial⟩
 |v :: vs,r :: rs,h=>⟨h.1,cp'.snoc hr h.2⟩
 | [],_ :: _,h=>h.elim
 |_ :: _,[],h=>h.elim
theorem cp'.get {H:Hp}:∀{vs:List V} {M:List Rm} {i:Nat} {r:Rm},cp' H vs M->M[i]?=some r->∃p,vs[i]?=some (.ref p)/\H p=some (.tup [oV r.1,oV r.2])
 | [],[],i,r,_,e=>by cases e
 |v :: vs,r :: rs,0,r',h,e=>by
  cases e
  obtain⟨p,rfl,hp⟩:=h.1
  exact⟨p,rfl,hp⟩
 |v :: vs,r :: rs,i+1,r',h,e=>cp'.get (i:=i) h.2 (by simpa using e)
 | [],_ :: _,_,_,h,_=>h.elim
 |_ :: _,[],_,_,h,_=>h.elim
def IsM (H:Hp) (a:Addr) (M:List Rm):Prop:=∃vs,H a=some (.tup vs)/\cp' H vs M
theorem IsM.mono {H H':Hp} {a:Addr} {M:List Rm} (t:Tp H H') (h:IsM H a M):IsM H' a M:=by
 obtain⟨vs,h1,h2⟩:=h
 exact⟨vs,t _ _ h1,h2.mono t⟩
def OkR (N:Nat) (r:Rm):Prop:=(∀n,r.1=some n->n<N)/\∀n,r.2=some n->n<N
def OkM (M:List Rm):Prop:=∀r∈M,OkR M.length r
def cM' (N0 N1 c:Nat):Sp:=fun vs H Q _=>∃(b:Addr) (n N:Nat),vs=[.ref b,.int N]/\H b=some (da' b n)/\n<=2 ^ 39/\N0<=N/\N<=N1/\∀(a:Addr) (M:List Rm) (H':Hp),Go c H H'->IsM H' a M->OkM M->M.length=N->Q (.ref a) H'
theorem fA' {C:Rc} (hN:C.N.length=8) (hT:C.fs "_law_take"=some az'):∀vs H Q E,cM' 1 60 400 vs H Q E->tSs C c6' { nx:=fun _ H'=>Q .non H',rt:=Q } (L2.ax' C.N vs) H:=by
 intro vs H Q E h
 obtain⟨b,n,N,rfl,hb,hn,hN0,hN1,q⟩:=h
 rw[aj' hN]
 unfold c6'
 walk_at "sy"
 refine ag' hT ?_
 walk_at "sy"
 refine bb' hb (Go.refl (c:=0)) (by omega) (by decide) (by decide) fun r1 H1 h0 h1 g1 g01=>?_
 walk_at "sy"
 refine⟨by decide,fun l hl=>?_⟩
 have hl0:=g01.free _ hl
 refine f8' (by omega) (by omega) (hN' (fun i σ H'=>(∃x4 x5 x6 x7,σ=[some (.ref b),some (.int N),some (.int (2+r1)),some (.ref l),x4,x5,x6,x7])/\Go (1+4*i) H H'/\∃vs M,H' l=some (.lst vs)/\cp' H' vs M/\vs.length=i/\∀r∈M,OkR N r) ⟨⟨_,_,_,_,rfl⟩,(g01.upd hl0).mono (by omega),[],[],aa',trivial,rfl,fun r hr=>by cases hr⟩ ?_ ?_)
 .rintro i σ H2 hi ⟨⟨x4,x5,x6,x7,rfl⟩,g2,vs,M,hl2,hr2,hlen,hok⟩
  walk_at "sy"
  refine⟨by decide,fun d hd=>?_⟩
  have hd0:=g2.free _ hd
  have hdl:l≠d:=af' hl2 hd
  refine f8' (by omega) (by omega) (hN' (fun j σ H'=>(∃x6 x7,σ=[some (.ref b),some (.int N),some (.int (2+r1)),some (.ref l),some (.int (0+i)),some (.ref d),x6,x7])/\Go (1+4*i+2*j) H H'/\Tp H2 H'/\H' l=some (.lst vs)/\∃ds:List (Option Nat),H' d=some (.lst (ds.map oV))/\ds.length=j/\∀m,some m∈ds->m<N) ⟨⟨_,_,rfl⟩,g2.upd hd0,el' hd _,by rw[ae' hdl];exact hl2,[],aa',rfl,fun m hm=>by cases hm⟩ ?_ ?_)
  .rintro j σ H3 hj ⟨⟨x6,x7,rfl⟩,g3,t3,hl3,ds,hd3,hdn,hdo⟩
   walk_at "sy"
   refine ag' hT ?_
   walk_at "sy"
   refine bb' hb g3 (by omega) (by omega) (by omega) fun r4 H4 h40 h41 g34 g4=>?_
   have hd4:=g34.lst hd3
   walk_at "sy"
   refine⟨tyL hd4 rfl,⟨by decide,fun p hp=>?_⟩⟩
   have hp0:=g4.free _ hp
   refine ag' hT ?_
   walk_at "sy"
   refine bb' hb (g4.upd hp0) (by omega) (by omega) (by omega) fun r5 H5 h50 h51 g45 g5=>?_
   have hp5:H5 p=some (.lst [.int r4,.non]):=g45.lst aa'
   have hd5:H5 d=some (.lst (ds.map oV)):=g45.lst (by rw[ae' (af' hd4 hp)];exact hd4)
   have hl5:H5 l=some (.lst vs):=g45.lst (by rw[ae' (af' (g34.lst hl3) hp)];exact g34.lst hl3)
   walk_at "sy"
   refine m4' (SqL.of hp5) ?_
   obtain⟨o,eo,hoo⟩:∃o:Option Nat,(if decide (r5=0)=true then V.non else V.int r4)=oV o/\∀m,o=some m->m<N:=by
    split
    .exact⟨none,rfl,fun m hm=>by cases hm⟩
    .exact⟨some r4.toNat,by show _=V.int _;congr 1;omega,fun m hm=>by cases hm;omega⟩
   rw[eo]
   walk_at "sy"
   refine fy' hd5 (by rw[ah];exact an' (by omega)) ?_
   walk_at "sy"
   refine⟨⟨_,_,rfl⟩,(g5.upd hd0).mono (by omega),?_,by rw[ae' hdl];exact hl5,ds++[o],by rw[aa',aG];rfl,by simp[hdn],fun m hm=>?_⟩
   .exact((t3.trans g34.tp).trans ((el' hp _).trans g45.tp)).trans (gL' hd5 _)
   .rcases aH.mp hm with hm|hm
    .exact hdo m hm
    .exact hoo m (bm.mp hm).symm
  .rintro σ H3 ⟨⟨x6,x7,rfl⟩,g3,t3,hl3,ds,hd3,hdn,hdo⟩
   walk_at "sy"
   refine⟨tyL hl3 rfl,?_⟩
   refine dj' (SqL.of hd3) fun p hp=>?_
   walk_at "sy"
   have hpl:upd H3 p (.tup (ds.map oV)) l=some (.lst vs):=by rw[ae' (af' hl3 hp)];exact hl3
   refine fy' hpl (an' (by omega)) ?_
   walk_at "sy"
   obtain⟨x,y,rfl⟩:∃x y,ds=[x,y]:=by
    match ds,hdn with
    | [x,y],_=>exact⟨x,y,rfl⟩
   have tp1:Tp H2 (upd (upd H3 p (.tup ([x,y].map oV))) l (.lst (vs++[.ref p]))):=(t3.trans (el' hp _)).trans (gL' hpl _)
   refine⟨⟨_,_,_,_,rfl⟩,((g3.upd (g3.free _ hp)).upd hl0).mono (by omega),vs++[.ref p],M++[(x,y)],aa',(hr2.mono tp1).snoc ⟨p,rfl,?_⟩,by simp[hlen],fun r hr=>?_⟩
   .rw[ae' (fun z=>by subst z;rw[hl3]at hp;cases hp)]
    exact aa'
   .rcases aH.mp hr with hr|hr
    .exact hok r hr
    .have e:r=(x,y):=by simpa using hr
     subst e
     exact⟨fun m hm=>hdo m (by simp[<- hm]),fun m hm=>hdo m (by simp[<- hm])⟩
 .rintro σ H2 ⟨⟨x4,x5,x6,x7,rfl⟩,g2,vs,M,hl2,hr2,hlen,hok⟩
  walk_at "sy"
  refine dj' (SqL.of hl2) fun p hp=>?_
  have hlM:=hr2.len
  have e:M.length=N:=by omega
  exact q p M _ ((g2.upd (g2.free _ hp)).mono (by omega)) ⟨vs,aa',hr2.mono (el' hp _)⟩ (fun r hr=>by rw[e];exact hok r hr) e
theorem sq' {K:W.Frag} {H:Hp} {Q:VK} {a:Addr} {xs:List V} {k:Nat} (h:H a=some (.lst xs)) (hk:k<=1000) (hz:xs.length*k<=sizeLine) (q:∀p,H p=none->Q (.ref p) (upd H p (.lst (aK k xs).flatten))):ed' K .Mult (.ref a) (.int k) H Q:=by
 refine⟨a,k,xs,rfl,rfl,h,by omega,by omega,by simpa using hz,fun p hp=>?_⟩
 rw[aT]
 exact q p hp
theorem dU' {H:Hp} {R:Hp->Prop} {a:Addr} {xs:List V} {k:Nat} {v:V} (h:H a=some (.lst xs)) (hk:k<xs.length) (q:R (upd H a (.lst (xs.set k v)))):dx' (.ref a) (.int k) v H R:=by
 refine⟨a,xs,k,k,rfl,rfl,h,?_,q⟩
 unfold ixN
 rw[if_pos (by omega),if_pos (by omega)]
 simp
def nV (n:Nat):V:=.int n
theorem gM' {H:Hp} {P:Rm->Prop}:∀{vs:List V},(∀m,m<vs.length->∃r v,P r/\vs[m]?=some v/\du' H v r)->∃M,cp' H vs M/\∀r∈M,P r
 | [],_=>⟨[],trivial,fun r hr=>by cases hr⟩
 |v :: vs,h=>by
  obtain⟨r,v',ho,e,hr⟩:=h 0 (by simp)
  cases e
  obtain⟨M,h1,h2⟩:=gM' (vs:=vs) fun m hm=>by
   obtain⟨r,v,h1,h2,h3⟩:=h (m+1) (by simpa using hm)
   exact⟨r,v,h1,by simpa using h2,h3⟩
  exact⟨r :: M,⟨hr,h1⟩,fun x hx=>by
   rcases ai.mp hx with rfl|hx
   .exact ho
   .exact h2 x hx⟩
def OkD (N:Nat) (r:Rm):Prop:=OkR N r/\(r.1=none->r.2≠none)
def sr':Sp:=fun vs H Q _=>∃(b:Addr) (n N:Nat),vs=[.ref b,.int N]/\H b=some (da' b n)/\n<=2 ^ 39/\1<=N/\N<=60/\∀(a:Addr) (M:List Rm) (H':Hp),Go 400 H H'->IsM H' a M->OkM M->M.length=N->(∀r∈M,r.1=none->r.2≠none)->Q (.ref a) H'
theorem hP' {C:Rc} (hN:C.N.length=9) (hT:C.fs "_law_take"=some az'):∀vs H Q E,sr' vs H Q E->tSs C aP' { nx:=fun _ H'=>Q .non H',rt:=Q } (L2.ax' C.N vs) H:=by
 intro vs H Q E h
 obtain⟨b,n,N,rfl,hb,hn,hN0,hN1,q⟩:=h
 rw[aj' hN]
 unfold aP'
 walk_at "sy"
 refine⟨by decide,fun l hl=>?_⟩
 refine f8' (by omega) (by omega) (hN' (fun i σ H'=>(∃x3 x4 x5 x6 x7 x8,σ=[some (.ref b),some (.int N),some (.ref l),x3,x4,x5,x6,x7,x8])/\Go i H H'/\∃os:List Nat,H' l=some (.lst (os.map nV))/\os.length=i/\(∀m∈os,m<N)/\∀m,m<i->m∈os) ⟨⟨_,_,_,_,_,_,rfl⟩,(Go.refl (c:=0)).upd hl,[],aa',rfl,(fun m hm=>by cases hm),fun m hm=>by omega⟩ ?_ ?_)
 .rintro i σ H1 hi ⟨⟨x3,x4,x5,x6,x7,x8,rfl⟩,g1,os,hl1,hlen,hlt,hall⟩
  walk_at "sy"
  refine⟨tyL hl1 rfl,ag' hT ?_⟩
  walk_at "sy"
  refine bb' hb g1 (by omega) (by omega) (by omega) fun r2 H2 h20 h21 g12 g2=>?_
  have hl2:=g12.lst hl1
  walk_at "sy"
  obtain⟨j,rfl⟩:=aA h20
  refine r8' hl2 (by rw[ah];exact an' (by omega)) (by rw[ah];omega) ?_
  walk_at "sy"
  refine⟨⟨_,_,_,_,_,_,rfl⟩,g2.upd hl,os.take j++i :: os.drop j,?_,?_,?_,?_⟩
  .rw[aa',aG,bg,List.map_take,List.map_drop]
   simp[nV]
  .simp;omega
  .intro m hm
   rcases aH.mp hm with hm|hm
   .exact hlt m (List.mem_of_mem_take hm)
   .rcases ai.mp hm with rfl|hm
    .omega
    .exact hlt m (cG hm)
  .intro m hm
   by_cases e:m=i
   .subst e;simp
   .have:=hall m (by omega)
    rw[<- bA j os]at this
    rcases aH.mp this with h|h
    .exact aH.mpr (.inl h)
    .exact aH.mpr (.inr (az _ h))
 rintro σ H1 ⟨⟨x3,x4,x5,x6,x7,x8,rfl⟩,g1,os,hl1,hlen,hlt,hall⟩
 rw[aT]at g1 hlen hall
 walk_at "sy"
 refine⟨by decide,fun p hp=>?_⟩
 have hpl:l≠p:=af' hl1 hp
 refine sq' aa' (by omega) (cr (an' (by simp;omega))) fun w hw=>?_
 have gw:=(g1.upd (o:=.lst [.non]) (g1.free _ hp)).upd (o:=.lst (aK N [V.non]).flatten) ((g1.upd (o:=.lst [.non]) (g1.free _ hp)).free _ hw)
 have hlw:upd (upd H1 p (.lst [.non])) w (.lst (aK N [V.non]).flatten) l=some (.lst (os.map nV)):=ah' hw _ _ _ (ah' hp _ _ _ hl1)
 have hww:upd (upd H1 p (.lst [.non])) w (.lst (aK N [V.non]).flatten) w=some (.lst (aK N V.non)):=by
  rw[aa'];simp
 have hw0:H w=none:=(g1.upd (o:=.lst [.non]) (g1.free _ hp)).free _ hw
 have hwl:l≠w:=af' (ah' hp (.lst [.non]) _ _ hl1) hw
 generalize upd (upd H1 p (.lst [.non])) w (.lst (aK N [V.non]).flatten)=H2 at gw hlw hww
 walk_at "sy"
 refine rY' (SqL.of hlw) (va' (xs:=os.map nV) (fun t σ H'=>(∃x3 x5 x6 x7 x8,σ=[some (.ref b),some (.int N),some (.ref l),x3,some (.ref w),x5,x6,x7,x8])/\Go (N+3*t) H H'/\H' l=some (.lst (os.map nV))/\∃ws,H' w=some (.lst ws)/\ws.length=N/\∀m∈os.take t,∃r v,OkD N r/\ws[m]?=some v/\du' H' v r) ⟨⟨_,_,_,_,_,rfl⟩,gw.mono (by omega),hlw,_,hww,by simp,fun m hm=>by cases hm⟩ (fun t σ H' _ pv=>SqL.of pv.2.2.1) ?_ ?_)
 .rintro t x σ H3 e hx he ⟨⟨x3,x5,x6,x7,x8,rfl⟩,g3,hl3,ws,hw3,hwn,hws⟩
  rw[aD]at hx
  cases eo:os[t]? with
  |none=>rw[eo]at hx;cases hx
  |some room=>
   rw[eo]at hx
   cases hx
   have ht:=au' eo
   refine dT' (SqT.of aa') ?_
   have s4:=ah' he (.tup [.int t,nV room])
   have g4:=g3.upd (o:=.tup [.int t,nV room]) (g3.free _ he)
   generalize upd H3 e (.tup [.int t,nV room])=H4 at s4 g4
   have hl4:=s4 _ _ hl3
   walk_at "sy"
   refine jI' (SqL.of hl4) fun c hc=>?_
   rw[show(1:Int)=((1:Nat):Int) from rfl,sa']
   have s5:=ah' hc (.lst ((os.map nV).take 1))
   have g5:=g4.upd (o:=.lst ((os.map nV).take 1)) (g4.free _ hc)
   have hc5:upd H4 c (.lst ((os.map nV).take 1)) c=some (.lst ((os.map nV).take 1)):=aa'
   generalize upd H4 c (.lst ((os.map nV).take 1))=H5 at s5 g5 hc5
   walk_at "sy"
   refine m5' (s5 _ _ hl4) hc5 (cr (an' (by simp;omega))) fun d hd=>?_
   have s6:=ah' hd (.lst (os.map nV++(os.map nV).take 1))
   have g6:=g5.upd (o:=.lst (os.map nV++(os.map nV).take 1)) (g5.free _ hd)
   have hd6:upd H5 d (.lst (os.map nV++(os.map nV).take 1)) d=some (.lst ((os++os.take 1).map nV)):=by rw[aa',aG,List.map_take]
   generalize upd H5 d (.lst (os.map nV++(os.map nV).take 1))=H6 at s6 g6 hd6
   obtain⟨on,eon,hon⟩:∃on,(os++os.take 1)[t+1]?=some on/\on<N:=by
    have hl:t+1<(os++os.take 1).length:=by simp;omega
    refine⟨_,ac hl,?_⟩
    rcases aH.mp (List.getElem_mem hl)with h|h
    .exact hlt _ h
    .exact hlt _ (List.mem_of_mem_take h)
   walk_at "sy"
   refine aO' (SqL.of hd6) (v:=nV on) (cN' (j:=t+1) (by rw[aD,eon];rfl)) ?_
   walk_at "sy"
   refine ag' hT ?_
   walk_at "sy"
   refine bb' hb g6 (by omega) (by omega) (by omega) fun r7 H7 h70 h71 g67 g7=>?_
   walk_at "sy"
   refine⟨by decide,fun f hf=>?_⟩
   refine ag' hT ?_
   walk_at "sy"
   refine bb' hb (g7.upd (o:=.lst [.int r7,.non]) (g7.free _ hf)) (by omega) (by omega) (by omega) fun r8 H8 h80 h81 g78 g8=>?_
   have hf8:H8 f=some (.lst [.int r7,.non]):=g78.lst aa'
   have keep8:∀a xs,H3 a=some (.lst xs)->H8 a=some (.lst xs):=fun a xs h=>g78.lst (ah' hf _ _ _ (g67.lst (s6 _ _ (s5 _ _ (s4 _ _ h)))))
   have tp8:Tp H3 H8:=(((aF' s4).trans (aF' s5)).trans (aF' s6)).trans (g67.tp.trans ((el' hf _).trans g78.tp))
   walk_at "sy"
   refine m4' (SqL.of hf8) ?_
   obtain⟨o,eo2,hoo⟩:∃o:Option Nat,(if decide (r8=0)=true then V.non else V.int r7)=oV o/\∀m,o=some m->m<N:=by
    split
    .exact⟨none,rfl,fun m hm=>by cases hm⟩
    .exact⟨some r7.toNat,by show _=V.int _;congr 1;omega,fun m hm=>by cases hm;omega⟩
   rw[eo2]
   walk_at "sy"
   refine⟨by decide,fun p1 hp1=>?_⟩
   have s9:=ah' hp1 (.tup [nV on,oV o])
   have g9:=g8.upd (o:=.tup [nV on,oV o]) (g8.free _ hp1)
   have h9:upd H8 p1 (.tup [nV on,oV o]) p1=some (.tup [nV on,oV o]):=aa'
   generalize upd H8 p1 (.tup [nV on,oV o])=H9 at s9 g9 h9
   refine⟨by decide,fun p2 hp2=>?_⟩
   have s10:=ah' hp2 (.tup [oV o,nV on])
   have g10:=g9.upd (o:=.tup [oV o,nV on]) (g9.free _ hp2)
   have h10:upd H9 p2 (.tup [oV o,nV on]) p2=some (.tup [oV o,nV on]):=aa'
   generalize upd H9 p2 (.tup [oV o,nV on])=H10 at s10 g10 h10
   refine⟨by decide,fun p3 hp3=>?_⟩
   have s11:=ah' hp3 (.lst [.ref p1,.ref p2])
   have g11:=g10.upd (o:=.lst [.ref p1,.ref p2]) (g10.free _ hp3)
   have h11:upd H10 p3 (.lst [.ref p1,.ref p2]) p3=some (.lst [.ref p1,.ref p2]):=aa'
   generalize upd H10 p3 (.lst [.ref p1,.ref p2])=H11 at s11 g11 h11
   refine ag' hT ?_
   walk_at "sy"
   refine bb' hb g11 (by omega) (by omega) (by omega) fun r12 H12 h120 h121 g1112 g12=>?_
   have tpx:Tp H3 H12:=(((tp8.trans (aF' s9)).trans (aF' s10)).trans (aF' s11)).trans g1112.tp
   have hl12:H12 l=some (.lst (os.map nV)):=g1112.lst (s11 _ _ (s10 _ _ (s9 _ _ (keep8 _ _ hl3))))
   have hw12:H12 w=some (.lst ws):=g1112.lst (s11 _ _ (s10 _ _ (s9 _ _ (keep8 _ _ hw3))))
   have h1:H12 p1=some (.tup [nV on,oV o]):=g1112.tup (s11 _ _ (s10 _ _ h9))
   have h2:H12 p2=some (.tup [oV o,nV on]):=g1112.tup (s11 _ _ h10)
   walk_at "sy"
   have hroom:room<N:=hlt room (aX eo)
   have fin:∀(pz:Addr) (rz:Rm),OkD N rz->H12 pz=some (.tup [oV rz.1,oV rz.2])->dx' (.ref w) (nV room) (.ref pz) H12 (fun H'=>(∃x3' x5 x6 x7 x8,[some (V.ref b),some (V.int N),some (V.ref l),x3,some (V.ref w),some (V.int t),some (nV room),some (nV on),some (oV o)]=[some (.ref b),some (.int N),some (.ref l),x3',some (.ref w),x5,x6,x7,x8])/\Go (N+3*(t+1)) H H'/\H' l=some (.lst (os.map nV))/\∃ws,H' w=some (.lst ws)/\ws.length=N/\∀m∈os.take (t+1),∃r v,OkD N r/\ws[m]?=some v/\du' H' v r):=by
    intro pz rz hrz hpz
    refine dU' hw12 (by omega) ⟨⟨_,_,_,_,_,rfl⟩,(g12.upd hw0).mono (by omega),by rw[ae' hwl];exact hl12,_,aa',by rw[List.length_set];exact hwn,fun m hm=>?_⟩
    by_cases em:m=room
    .subst em
     exact⟨rz,.ref pz,hrz,by rw[bU (by omega)],pz,rfl,gL' hw12 _ _ _ hpz⟩
    .rw[List.take_succ,eo]at hm
     rcases aH.mp hm with hm|hm
     .obtain⟨r,v,q1,q2,q3⟩:=hws m hm
      exact⟨r,v,q1,by rw[bF (Ne.symm em)];exact q2,q3.mono (tpx.trans (gL' hw12 _))⟩
     .exact absurd (by simpa using hm) em
   have h121':r12=0\/r12=1:=by omega
   rcases h121' with rfl|rfl
   .refine aO' (SqL.of (g1112.lst h11)) (v:=.ref p1) rfl ?_
    walk_at "sy"
    exact fin p1 (some on,o) ⟨⟨fun m hm=>by cases hm;exact hon,hoo⟩,fun z=>by cases z⟩ h1
   .refine aO' (SqL.of (g1112.lst h11)) (v:=.ref p2) rfl ?_
    walk_at "sy"
    exact fin p2 (o,some on) ⟨⟨hoo,fun m hm=>by cases hm;exact hon⟩,fun _ z=>by cases z⟩ h2
 .rintro σ H3 ⟨⟨x3,x5,x6,x7,x8,rfl⟩,g3,hl3,ws,hw3,hwn,hws⟩
  walk_at "sy"
  refine dj' (SqL.of hw3) fun p hp=>?_
  rw[ah,<- ah (f:=nV),ah,List.take_length]at hws
  rw[ah]at g3
  obtain⟨M,hM,hO⟩:=gM' (P:=OkD N) (vs:=ws) (H:=H3) fun m hm=>hws m (hall m (by omega))
  have e:M.length=N:=by rw[<- hM.len];exact hwn
  exact q p M _ ((g3.upd (g3.free _ hp)).mono (by omega)) ⟨ws,aa',hM.mono (el' hp _)⟩ (fun r hr=>by rw[e];exact(hO r hr).1) e fun r hr=>(hO r hr).2
theorem jP' {C:Rc} (hN:C.N.length=9) (hT:C.fs "_law_take"=some az'):∀vs H Q E,cM' 1 60 400 vs H Q E->tSs C aP' { nx:=fun _ H'=>Q .non H',rt:=Q } (L2.ax' C.N vs) H:=fun vs H Q E ⟨b,n,N,h1,h2,h3,h4,h5,q⟩=>hP' hN hT vs H Q E ⟨b,n,N,h1,h2,h3,h4,h5,fun a M H' g i o l _=>q a M H' g i o l⟩
end LW
namespace SR
open PySem PySem.Spec PyProof.Rows L2 R3 LW
section
variable {K:W.Frag} {H:Hp} {Q:VK}
end
def tn (l:List Bool) (n:Nat):List Bool:=(l.take n).map (!·)++l.drop n
end SR
namespace CK
open PySem PySem.Spec PyProof.Rows L2 R3 LW SR
def br':Css:=(.cons (.ret (.and (.blt .isinstance (.cons (.var 0) (.cons (.ty "int") .nil))) (.not (.blt .isinstance (.cons (.var 0) (.cons (.ty "bool") .nil))))))
  .nil)
def bs':Css:=(.cons (.ret (.and (.call "is_number" (.cons (.var 0) .nil)) (.chn .LtE .LtE (.var 1) (.var 0) (.var 2))))
  .nil)
def ca':Css:=(.cons (.ret (.and (.blt .isinstance (.cons (.var 0) (.cons (.ty "tuple") .nil))) (.cmp .Eq (.blt .len (.cons (.var 0) .nil)) (.int 2))))
  .nil)
def bt':Css:=(.cons (.ret (.blt .isinstance (.cons (.var 0) (.cons (.tup (.cons (.ty "list") (.cons (.ty "tuple") .nil))) .nil))))
  .nil)
def aY':Css:=(.cons (.ret (.and (.call "is_listed" (.cons (.var 0) .nil)) (.and (.cmp .Eq (.blt .len (.cons (.var 0) .nil)) (.var 1)) (.blt .all (.cons (.comp (.call "is_number" (.cons (.var 2) .nil)) [2] (.name 2) (.val (.var 0)) .none .nil) .nil)))))
  .nil)
def cb':Css:=(.cons (.ret (.or (.cmp .Is (.var 0) .non) (.call "is_within" (.cons (.var 0) (.cons (.int 0) (.cons (.bin .Sub (.var 1) (.int 1)) .nil))))))
  .nil)
def cc':Css:=(.cons (.ret (.and (.call "is_pair" (.cons (.var 0) .nil)) (.and (.call "is_lead" (.cons (.idx (.var 0) (.int 0)) (.cons (.var 1) .nil))) (.call "is_lead" (.cons (.idx (.var 0) (.int 1)) (.cons (.var 1) .nil))))))
  .nil)
def bd':Css:=(.cons (.ite (.not (.val (.blt .isinstance (.cons (.var 0) (.cons (.ty "tuple") .nil))))) (.cons (.ret (.bl false))
  .nil) .nil)
  (.cons (.ret (.blt .all (.cons (.comp (.call "is_room" (.cons (.var 1) (.cons (.blt .len (.cons (.var 0) .nil)) .nil))) [1] (.name 1) (.val (.var 0)) .none .nil) .nil)))
  .nil))
theorem gc' {H H':Hp} (s:aG' H H') {v:V} {T:String} (h:aT' H v=some T):aT' H' v=some T:=by
 cases v with
 |ref a=>
  simp only[aT']at h ⊢
  cases e:H a with
  |none=>rw[e]at h;cases h
  |some o=>rw[e]at h;rw[s _ _ e];exact h
 |_=>exact h
def Val (H:Hp) (v:V):Prop:=(∃i,v=.int i)\/((∀i,v≠.int i)/\∃T∈["NoneType","bool","str","list","tuple"],aT' H v=some T)
theorem Val.mono {H H':Hp} (s:aG' H H') {v:V} (h:Val H v):Val H' v:=by
 rcases h with h|⟨h0,T,hT,h⟩
 .exact .inl h
 .exact .inr ⟨h0,T,hT,gc' s h⟩
def isN:V->Bool
 | .int _=>true
 |_=>false
theorem m9' {v:V} (h:∀i,v≠.int i):isN v=false:=by
 cases v with
 |int i=>exact absurd rfl (h i)
 |_=>rfl
def bI':Sp:=fun vs H Q _=>∃v,vs=[v]/\Val H v/\Q (.bl (isN v)) H
theorem hQ' {C:Rc} (hN:C.N.length=1):∀vs H Q E,bI' vs H Q E->tSs C br' { nx:=fun _ H'=>Q .non H',rt:=Q } (L2.ax' C.N vs) H:=by
 intro vs H Q E h
 obtain⟨v,rfl,hv,q⟩:=h
 rw[aj' hN]
 unfold br'
 walk_at "y"
 rcases hv with⟨i,rfl⟩|⟨h0,T,hT,hv⟩
 .refine ek' (T:="int") rfl (k:=true) rfl (by decide) (by decide) ?_
  walk_at "y"
  refine ek' (T:="int") rfl (k:=false) rfl (by decide) (by decide) ?_
  walk_at "y"
  exact q
 .rw[m9' h0]at q
  simp only[ai,al,or_false]at hT
  rcases hT with rfl|rfl|rfl|rfl|rfl
  .refine ek' hv (k:=false) rfl (by decide) (by decide) ?_
   walk_at "y"
   exact q
  .refine ek' hv (k:=true) rfl (by decide) (by decide) ?_
   walk_at "y"
   refine ek' hv (k:=true) rfl (by decide) (by decide) ?_
   walk_at "y"
   exact q
  .refine ek' hv (k:=false) rfl (by decide) (by decide) ?_
   walk_at "y"
   exact q
  .refine ek' hv (k:=false) rfl (by decide) (by decide) ?_
   walk_at "y"
   exact q
  .refine ek' hv (k:=false) rfl (by decide) (by decide) ?_
   walk_at "y"
   exact q
theorem o0' {C:Rc} {σ:L2.St} {H:Hp} {Q:VK} {c1 c2 c3:Ce} {a n m:Int} (h1:∀Q,Q (V.int a) H->tE C c1 σ H Q) (h2:∀Q,Q (V.int n) H->tE C c2 σ H Q) (h3:∀Q,Q (V.int m) H->tE C c3 σ H Q) (ha:a<=n) (hb:n<=m) (q:Q (.bl true) H):tE C (.chn .LtE .LtE c1 c2 c3) σ H Q:=by
 show do' (co' C.K .LtE) (co' C.K .LtE) (tE C c1) (tE C c2) (tE C c3) σ H Q
 unfold do'
 refine h1 _ (h2 _ ⟨a,n,rfl,rfl,true,?_,?_⟩)
 .show V.bl (decide (a<=n))=_
  rw[decide_eq_true ha]
 .rw[if_pos rfl]
  refine h3 _ ⟨n,m,rfl,rfl,?_⟩
  show Q (V.bl (decide (n<=m))) H
  rw[decide_eq_true hb]
  exact q
def cF':Sp:=fun vs H Q _=>∃(i lo hi:Int),vs=[.int i,.int lo,.int hi]/\lo<=i/\i<=hi/\Q (.bl true) H
theorem gd' {C:Rc} (hN:C.N.length=3) (hI:C.fs "is_number"=some bI'):∀vs H Q E,cF' vs H Q E->tSs C bs' { nx:=fun _ H'=>Q .non H',rt:=Q } (L2.ax' C.N vs) H:=by
 intro vs H Q E h
 obtain⟨i,lo,hi,rfl,h1,h2,q⟩:=h
 rw[aj' hN]
 unfold bs'
 walk_at "y"
 refine ag' hI ?_
 walk_at "y"
 refine⟨_,rfl,.inl ⟨i,rfl⟩,?_⟩
 simp only[isN]
 walk_at "y"
 exact o0' (a:=lo) (n:=i) (m:=hi) (fun Q q=>by walk_at "y";exact q) (fun Q q=>by walk_at "y";exact q) (fun Q q=>by walk_at "y";exact q) h1 h2 q
def fB':Sp:=fun vs H Q _=>∃(o:Option Nat) (N:Nat),vs=[oV o,.int N]/\(∀x,o=some x->x<N)/\Q (.bl true) H
theorem jQ' {C:Rc} (hN:C.N.length=2) (hW:C.fs "is_within"=some cF'):∀vs H Q E,fB' vs H Q E->tSs C cb' { nx:=fun _ H'=>Q .non H',rt:=Q } (L2.ax' C.N vs) H:=by
 intro vs H Q E h
 obtain⟨o,N,rfl,ho,q⟩:=h
 rw[aj' hN]
 unfold cb'
 cases o with
 |none=>
  simp only[oV]
  walk_at "y"
  exact q
 |some x=>
  have:=ho x rfl
  simp only[oV]
  walk_at "y"
  refine ag' hW ?_
  walk_at "y"
  refine⟨_,_,_,rfl,by omega,by omega,?_⟩
  walk_at "y"
  exact q
def fC':Sp:=fun vs H Q _=>∃(p:Addr) (r:Rm) (N:Nat),vs=[.ref p,.int N]/\H p=some (.tup [oV r.1,oV r.2])/\OkR N r/\Q (.bl true) H
def ge':Sp:=fun vs H Q _=>∃(a:Addr) (M:List Rm),vs=[.ref a]/\IsM H a M/\OkM M/\M.length<=500/\∀H',aG' H H'->Q (.bl true) H'
theorem lV' {C:Rc} (hN:C.N.length=2) (hR:C.fs "is_room"=some fC'):∀vs H Q E,ge' vs H Q E->tSs C bd' { nx:=fun _ H'=>Q .non H',rt:=Q } (L2.ax' C.N vs) H:=by
 intro vs H Q E h
 obtain⟨a,M,rfl,hM,hO,hl,q⟩:=h
 obtain⟨mv,hmv,hmr⟩:=id hM
 have hml:=hmr.len
 rw[aj' hN]
 unfold bd'
 walk_at "y"
 refine ek' (T:="tuple") (by simp only[aT',hmv]) (k:=true) rfl (by decide) (by decide) ?_
 walk_at "y"
 refine bH' (SqT.of hmv) (eg' (vs:=mv) (fun i xs H'=>xs=(aK i true).map V.bl/\i<=M.length/\H'=H) ⟨rfl,aC _,rfl⟩ (fun i xs H' pv=>SqT.of (by rw[pv.2.2];exact hmv)) ?_ ?_)
 .rintro i xs H' x R hx ⟨rfl,hi,rfl⟩ hR'
  have hi':i<M.length:=by rw[<- hml];exact au' hx
  obtain⟨pr,epr,hpr⟩:=hmr.get (ac hi')
  rw[hx]at epr
  cases epr
  walk_at "y"
  refine ag' hR ?_
  walk_at "y"
  refine cS' (SqT.of hmv) ?_
  walk_at "y"
  refine⟨pr,M[i],M.length,by rw[hml],hpr,hO _ (List.getElem_mem hi'),?_⟩
  walk_at "y"
  refine⟨by rw[ah,List.length_replicate];exact an' (by omega),hR' _ _ ⟨?_,by omega,rfl⟩⟩
  rw[List.replicate_succ',aG]
  rfl
 .rintro xs H' ⟨rfl,_,rfl⟩ p hp
  walk_at "y"
  refine fx' (SqL.of aa') ?_
  have e:(aK mv.length true).all id=true:=by simp
  rw[e]
  exact q _ (ah' hp _)
def Lt (H:Hp) (a:Addr) (vs:List V):Prop:=H a=some (.lst vs)\/H a=some (.tup vs)
theorem Lt.mono {H H':Hp} (s:aG' H H') {a:Addr} {vs:List V} (h:Lt H a vs):Lt H' a vs:=by
 rcases h with h|h
 .exact .inl (s _ _ h)
 .exact .inr (s _ _ h)
theorem o1' {C:Rc} {elt:Ce} {own:List Nat} {t:Ct} {q:Cqo} {σ:L2.St} {H:Hp} {Q:VK} {a:Addr} {vs:List V} (hk:Lt H a vs) (Pv:Nat->List V->Hp->Prop) (h0:Pv 0 [] H) (hl:∀i xs H',Pv i xs H'->aG' H H')
  (hs:∀i xs H x (R:List V->Hp->Prop),vs[i]?=some x->Pv i xs H->(∀ys H2,Pv (i+1) ys H2->R ys H2)->tG C t x (clr own σ) H (kCG C elt q xs R)) (hd:∀xs H,Pv vs.length xs H->lF' Q xs H):kIv C (fw' C elt own t q σ Q) (.ref a) H:=by
 rcases hk with hk|hk
 .exact cu' (SqL.of hk) (jE' Pv h0 (fun i xs H' p=>SqL.of (hl i xs H' p _ _ hk)) hs hd)
 .exact bH' (SqT.of hk) (eg' Pv h0 (fun i xs H' p=>SqT.of (hl i xs H' p _ _ hk)) hs hd)
theorem na' {K:W.Frag} {H:Hp} {Q:VK} {a:Addr} {vs:List V} (hk:Lt H a vs) (q:Q (.int vs.length) H):df' K .len [.ref a] H Q:=by
 rcases hk with hk|hk
 .exact cv' (SqL.of hk) q
 .exact cS' (SqT.of hk) q
theorem vn' {K:W.Frag} {H:Hp} {Q:VK} {a:Addr} {vs:List V} {i:Int} {v:V} (hk:Lt H a vs) (e:atI vs i=some v) (q:Q v H):fM' K (.ref a) (.int i) H Q\/fU' K (.ref a) (.int i) H Q:=by
 rcases hk with hk|hk
 .exact aO' (SqL.of hk) e q
 .exact aq' (SqT.of hk) e q
theorem Lt.ty {H:Hp} {a:Addr} {vs:List V} (hk:Lt H a vs):∃T,aT' H (.ref a)=some T/\(T="list"\/T="tuple"):=by
 rcases hk with hk|hk
 .exact⟨"list",by simp only[aT',hk],.inl rfl⟩
 .exact⟨"tuple",by simp only[aT',hk],.inr rfl⟩
def Tl (H:Hp) (v:V):Option (List V)->Prop
 |some vs=>∃a,v=.ref a/\Lt H a vs/\(∀x∈vs,Val H x)/\vs.length<=61
 |none=>∃T∈["NoneType","bool","int","str"],aT' H v=some T
theorem Tl.mono {H H':Hp} (s:aG' H H') {v:V} {o:Option (List V)} (h:Tl H v o):Tl H' v o:=by
 cases o with
 |none=>
  obtain⟨T,hT,h⟩:=h
  exact⟨T,hT,gc' s h⟩
 |some vs=>
  obtain⟨a,e,h1,h2,h3⟩:=h
  exact⟨a,e,h1.mono s,fun x hx=>(h2 x hx).mono s,h3⟩
theorem fD' {K:W.Frag} {H:Hp} {Q:VK} {v:V} {o:Option (List V)} {p:Addr} (h:Tl H v o) (hp:H p=some (.tup [.ty "list",.ty "tuple"])) (q:Q (.bl o.isSome) H):df' K .isinstance [v,.ref p] H Q:=by
 cases o with
 |none=>
  obtain⟨T,hT,h⟩:=h
  simp only[ai,al,or_false]at hT
  rcases hT with rfl|rfl|rfl|rfl<;>exact wb' h hp (k:=false) rfl (by decide) (by decide) (by decide) q
 |some vs=>
  obtain⟨a,rfl,h1,_⟩:=h
  obtain⟨T,hT,h⟩:=h1.ty
  rcases h with rfl|rfl<;>exact wb' hT hp (k:=true) rfl (by decide) (by decide) (by decide) q
def jR':Sp:=fun vs H Q _=>∃v o,vs=[v]/\Tl H v o/\∀H',aG' H H'->Q (.bl o.isSome) H'
theorem lW' {C:Rc} (hN:C.N.length=1):∀vs H Q E,jR' vs H Q E->tSs C bt' { nx:=fun _ H'=>Q .non H',rt:=Q } (L2.ax' C.N vs) H:=by
 intro vs H Q E h
 obtain⟨v,o,rfl,hv,q⟩:=h
 rw[aj' hN]
 unfold bt'
 walk_at "y"
 refine⟨by decide,fun p hp=>?_⟩
 have s:=ah' hp (.tup [.ty "list",.ty "tuple"])
 exact fD' (hv.mono s) aa' (q _ s)
def arN (n:Int):Option (List V)->Bool
 |some vs=>decide ((vs.length:Int)=n)&&vs.all isN
 |none=>false
def dV':Sp:=fun vs H Q _=>∃v n o,vs=[v,.int n]/\Tl H v o/\∀H',aG' H H'->Q (.bl (arN n o)) H'
theorem jS' {C:Rc} (hN:C.N.length=3) (hL:C.fs "is_listed"=some jR') (hI:C.fs "is_number"=some bI'):∀vs H Q E,dV' vs H Q E->tSs C aY' { nx:=fun _ H'=>Q .non H',rt:=Q } (L2.ax' C.N vs) H:=by
 intro vs H Q E h
 obtain⟨v,n,o,rfl,hv,q⟩:=h
 rw[aj' hN]
 unfold aY'
 walk_at "y"
 refine ag' hL ?_
 walk_at "y"
 refine⟨v,o,rfl,hv,fun H1 s1=>?_⟩
 have hv1:=hv.mono s1
 cases o with
 |none=>
  simp only[ci]
  walk_at "y"
  exact q H1 s1
 |some vs=>
  obtain⟨a,rfl,hk,hvs,hz⟩:=hv1
  simp only[ci]
  walk_at "y"
  refine na' hk ?_
  walk_at "y"
  simp only[arN]at q
  by_cases hn:(vs.length:Int)=n
  .rw[decide_eq_true hn,aM]at q
   rw[decide_eq_true hn]
   walk_at "y"
   refine o1' hk (fun i xs H'=>xs=((vs.take i).map isN).map V.bl/\i<=vs.length/\H'=H1) ⟨rfl,aC _,rfl⟩ (fun i xs H' pv=>by rw[pv.2.2];exact aG'.refl _) ?_ ?_
   .rintro i xs H' x R hx ⟨rfl,hi,rfl⟩ hR
    have hi':=au' hx
    walk_at "y"
    refine ag' hI ?_
    walk_at "y"
    refine⟨x,rfl,hvs x (aX hx),?_⟩
    walk_at "y"
    refine⟨by simp;exact an' (by omega),hR _ _ ⟨?_,by omega,rfl⟩⟩
    rw[List.take_succ,hx,aG,aG]
    rfl
   .rintro xs H' ⟨rfl,_,rfl⟩ p hp
    walk_at "y"
    refine fx' (SqL.of aa') ?_
    rw[List.take_length]
    rw[show(vs.map isN).all id=vs.all isN by rw[List.all_map];rfl]
    exact q _ (s1.trans (ah' hp _))
  .rw[decide_eq_false hn,aS]at q
   rw[decide_eq_false hn]
   walk_at "y"
   exact q H1 s1
end CK
namespace LW
open PySem PySem.Spec PyProof.Rows L2 R3
def stp (M:List Rm) (r:Nat) (c:Bool):Option Nat:=match M[r]? with
 |some rm=>if c then rm.2 else rm.1
 |none=>none
def wk (M:List Rm) (o:Option Nat) (row:List Bool):Option Nat:=row.foldl (fun o c=>o.bind fun r=>stp M r c) o
theorem em' {M:List Rm} (hM:OkM M) {r:Nat} {c:Bool} {n:Nat} (h:stp M r c=some n):n<M.length:=by
 unfold stp at h
 cases e:M[r]? with
 |none=>rw[e]at h;cases h
 |some rm=>
  rw[e]at h
  have:=hM rm (aX e)
  cases c
  .exact this.1 n h
  .exact this.2 n h
theorem o2' {C:Rc} {H:Hp} {a:Addr} {M:List Rm} {r:Nat} {c:Bool} {Q:VK} (hM:IsM H a M) (hr:r<M.length) (q:∀p,(∀Q':VK,Q' (oV (stp M r c)) H->fM' C.K (.ref p) (.int (if c then 1 else 0)) H Q'\/fU' C.K (.ref p) (.int (if c then 1 else 0)) H Q')->Q (.ref p) H):fM' C.K (.ref a) (.int r) H Q\/fU' C.K (.ref a) (.int r) H Q:=by
 obtain⟨vs,ha,hv⟩:=hM
 obtain⟨p,hp,hpt⟩:=hv.get (ac hr)
 refine aq' (SqT.of ha) (v:=.ref p) (cN' hp) (q p fun Q' q'=>?_)
 refine oI' (SqT.of hpt) ?_
 have e:stp M r c=if c then M[r].2 else M[r].1:=by unfold stp;rw[ac hr]
 rw[e]at q'
 cases c<;>exact q'
def nb':Sp:=fun vs H Q _=>∃(a:Addr) (M:List Rm) (r:Nat) (row:List Bool),vs=[.ref a,.int r,.str (tx row)]/\IsM H a M/\OkM M/\r<M.length/\Q (oV (wk M (some r) row)) H
end LW
namespace LW
open PySem PySem.Spec PyProof.Rows L2 R3
def be':Css:=(.cons (.asg (.name 4) (.idx (.idx (.var 0) (.var 2)) (.blt .int (.cons (.var 3) .nil))))
  (.cons (.ret (.ife (.cmp .Is (.var 4) .non) (.int 0) (.idx (.var 1) (.var 4))))
  .nil))
def bT':Css:=(.cons (.ret (.comp (.bin .Add (.call "behind_bit" (.cons (.var 0) (.cons (.var 1) (.cons (.var 2) (.cons (.str "0") .nil))))) (.call "behind_bit" (.cons (.var 0) (.cons (.var 1) (.cons (.var 2) (.cons (.str "1") .nil)))))) [2] (.name 2) (.range1 (.blt .len (.cons (.var 0) .nil))) .none .nil))
  .nil)
theorem jT' {H H':Hp} {a:Addr} {o:HO} (s:aG' H H') (h:H a=none):aG' H (upd H' a o):=fun b u q=>by
 rw[ae' (af' q h)]
 exact s b u q
def ow (f:Nat->Nat):Option Nat->Nat
 |none=>0
 |some m=>f m
def wy (M:List Rm) (g:Option Nat):Nat->Nat->Nat
 |0,r=>if g=none\/g=some r then 1 else 0
 |n+1,r=>ow (wy M g n) (stp M r false)+ow (wy M g n) (stp M r true)
def oi (ns:List Int):Option Nat->Int
 |none=>0
 |some m=>ns.getD m 0
def wsL (M:List Rm) (ns:List Int) (k:Nat):List Int:=(aE k).map fun r=>oi ns (stp M r false)+oi ns (stp M r true)
end LW
namespace LW
open PySem PySem.Spec PyProof.Rows L2 R3
theorem ss' {a b:Nat} (ha:a<=2 ^ 2000) (hb:b<=2 ^ 2000):hG' (a:Int) (b:Int):=by
 have key:∀{a:Nat},a<=2 ^ 2000->Builtin.Int.intBits ((a:Nat):Int)<=2001:=fun {a} h=>intBits_le_iff.mpr (by
  rw[Int.natAbs_natCast]
  exact bZ h (Nat.pow_lt_pow_right (by decide) (by decide)))
 exact .inr (.inr (IntMulOk.of_le (key ha) (key hb) (by decide)))
end LW
namespace RW
open PySem PySem.Spec PyProof.Rows L2 R3 LW SR
def ob (f:Nat->List (List Bool)) (b:Bool):Option Nat->List (List Bool)
 |none=>[]
 |some m=>(f m).map (b :: ·)
def rws (M:List Rm) (g:Option Nat):Nat->Nat->List (List Bool)
 |0,r=>if g=none\/g=some r then[[]]else[]
 |n+1,r=>ob (rws M g n) false (stp M r false)++ob (rws M g n) true (stp M r true)
theorem gN' {M:List Rm} {r:Nat} {x:Rm} (h:M[r]?=some x):stp M r false=x.1/\stp M r true=x.2:=by
 unfold LW.stp
 rw[h]
 exact⟨rfl,rfl⟩
theorem su' {M:List Rm} (hM:OkM M) {r:Nat} {x:Rm} (h:M[r]?=some x):(∀m,x.1=some m->m<M.length)/\∀m,x.2=some m->m<M.length:=by
 obtain⟨e1,e2⟩:=gN' h
 exact⟨fun m z=>em' hM (r:=r) (c:=false) (by rw[e1];exact z),fun m z=>em' hM (r:=r) (c:=true) (by rw[e2];exact z)⟩
def od (f:Nat->Int):Option Nat->Int
 |none=>0
 |some m=>f m
theorem jU' {C:Rc} {σ:L2.St} {H:Hp} {Q:VK} {p:Addr} {x:Rm} {idx:Ce} {j k:Nat} (f:Nat->Int) (hp:H p=some (.tup [oV x.1,oV x.2])) (hσ:σ[k]?=some (some (.ref p)))
  (hj:∀v:V,((clr [j] σ).set j (some v))[j]?=some (some v)) (hi:∀m (P:VK),(x.1=some m\/x.2=some m)->P (.int (f m)) H->tE C idx ((clr [j] σ).set j (some (.int m))) H P)
  (q:∀H',aG' H H'->Q (.int (od f x.1+od f x.2)) H'):tE C (.blt .sum (.cons (.comp idx [j] (.name j) (.val (.var k)) (.some (.cmp .IsNot (.var j) .non)) .nil) .nil)) σ H Q:=by
 simp only[jA',jz',gb',oC',fv',hσ,dS']
 refine bH' (SqT.of hp) (eg' (vs:=[oV x.1,oV x.2]) (fun i xs H'=>H'=H/\∃ns:List Int,xs=ns.map V.int/\ns.length<=i/\(i=0->ns.sum=0)/\(i=1->ns.sum=od f x.1)/\(i=2->ns.sum=od f x.1+od f x.2)) ⟨rfl,[],rfl,ak _,fun _=>rfl,(fun h=>absurd h (by decide)),(fun h=>absurd h (by decide))⟩ (fun i xs H' w=>by rw[w.1];exact SqT.of hp) ?_ ?_)
 .rintro i xs H' v R hv ⟨rfl,ns,rfl,hn,h0,h1,h2⟩ hR
  have step:∀o:Option Nat,v=oV o->(∀m,o=some m->x.1=some m\/x.2=some m)->(∀s:Int,s=ns.sum+od f o->(i+1=1->s=od f x.1)/\(i+1=2->s=od f x.1+od f x.2))->i<2->tG C (.name j) v (clr [j] σ) H' (kCG C idx (.some (.cmp .IsNot (.var j) .non)) (ns.map V.int) R):=by
   rintro o rfl ho hs hi2
   rw[mZ',r1']
   simp only[mV',fv',hj,dS',mT',mP',mU',jH',rd']
   cases o with
   |none=>
    rw[show(!decide (oV (none:Option Nat)=V.non))=false from rfl,r3']
    obtain⟨e1,e2⟩:=hs ns.sum (by simp[od])
    exact hR _ _ ⟨rfl,ns,rfl,by omega,fun h=>by omega,e1,e2⟩
   |some m=>
    have e:(!decide (oV (some m)=V.non))=true:=by simp[oV]
    rw[e,r2']
    refine hi m _ (ho m rfl) ?_
    obtain⟨e1,e2⟩:=hs (ns++[f m]).sum (by simp[od])
    exact⟨by rw[ah];exact an' (by omega),hR _ _ ⟨rfl,ns++[f m],by simp,by simp;omega,fun h=>by omega,e1,e2⟩⟩
  match i,hv with
  |0,hv=>
   cases hv
   exact step x.1 rfl (fun m h=>.inl h) (fun s e=>⟨fun _=>by rw[e,h0 rfl];omega,fun h=>by omega⟩) (by omega)
  |1,hv=>
   cases hv
   exact step x.2 rfl (fun m h=>.inr h) (fun s e=>⟨fun h=>by omega,fun _=>by rw[e,h1 rfl]⟩) (by omega)
  |i+2,hv=>cases hv
 .rintro xs H' ⟨rfl,ns,rfl,hn,h0,h1,h2⟩ p2 hp2
  simp only[mW',rv',mX',jB']
  refine⟨p2,ns,rfl,SqL.of aa',?_⟩
  rw[h2 rfl]
  exact q _ (ah' hp2 _)
def ext (M:List Rm) (g:Option Nat) (k:Nat) (w:List Bool×Nat):List (List Bool):=(rws M g k w.2).map (w.1++·)
end RW
namespace TM
open PySem PySem.Spec PyProof.Rows L2 R3 LW
def oI (o:Option Nat):Option Int:=o.map Int.ofNat
def fs1 (M:List Rm) (r:Nat):Option Nat:=(M[r]?.getD (none,none)).1
def fs2 (M:List Rm) (r:Nat):Option Nat:=(M[r]?.getD (none,none)).2
def ldS (M:List Rm) (rs:List Nat):Option Int->Bool:=fun k=>rs.any fun r=>decide (k=oI (fs1 M r)) || decide (k=oI (fs2 M r))
def inR (rs:List Nat) (o:Option Nat):Bool:=match o with
 |some n=>rs.contains n
 |none=>false
def vo' (M:List Rm) (rs:List Nat) (r:Nat):Bool:=ldS M rs (some (r:Int))&&(inR rs (fs1 M r) || inR rs (fs2 M r))
def lst (M:List Rm) (rs:List Nat):List Nat:=rs.filter (vo' M rs)
end TM
namespace BD
open PySem PySem.Spec PyProof.Rows L2 R3 LW TM
structure IsB (H:Hp) (p:Addr) (l0 h0 l1 h1:Nat) (sp:Option Nat):Prop where
 at':H p=some (.tup [nV l0,nV h0,nV l1,nV h1,oV sp])
 b0:h0<=8
 b1:h1<=8
 bs:∀s,sp=some s->s<=16
abbrev K3:=Nat×Nat×Nat
def r1 (lv:List Nat) (b pl:Nat):List K3:=lv.map fun l=>(b,pl,l)
def r2 (lv:List Nat) (b:Nat) (h:Nat):List K3:=(aE h).flatMap fun j=>r1 lv b (j+1)
end BD
namespace BE
open PySem PySem.Spec PyProof.Rows L2 R3 LW TM BD
def lvl (sp:Option Nat) (lv c:Nat):Int:=match sp with
 |none=>lv
 |some _=>(lv:Int)+if c=1 then 1 else -1
def bh (l0 l1:Nat) (sp:Option Nat) (k:K3) (c:Nat):Option (List Int):=
 if c=k.1 then some [(c:Int),(k.2.1:Int)+1,lvl sp k.2.2 c]else if k.2.1<(if k.1=1 then l1 else l0)then none else some [(c:Int),1,lvl sp k.2.2 c]
end BE
namespace K31
open PySem PySem.Spec PyProof.Rows L2 R3 LW
open SR CK RW TM BD BE
def wN (M:List Rm) (n:Nat):List Nat:=(aE M.length).map (wy M none n)
def nb':Sp:=fun vs H Q _=>∃(a b:Addr) (M:List Rm) (n q:Nat),vs=[.ref a,.ref b,.int q]/\IsM H a M/\OkM M/\M.length<=500/\q<=900/\H b=some (.lst ((wN M n).map nV))/\∀p H',H p=none->aG' H H'->H' p=some (.lst ((wN M (n+q)).map nV))->Q (.ref p) H'
def bel (b:Nat) (ns:List Nat):Bool:=ns.all fun c=>decide (c<2 ^ b)
def o3':Sp:=fun vs H Q _=>∃(c:Addr) (ns:List Nat) (b:Nat),vs=[.ref c,.int b]/\Lt H c (ns.map nV)/\ns.length<=900/\∀H',aG' H H'->Q (.bl (bel b ns)) H'
def okm (M:List Rm) (p q m:Nat):Bool:=bel (p*m) (wN M (q*m))
def Hit (M:List Rm) (p q most:Nat) (o:Option Nat):Prop:=(o=none/\∀j,j<most->okm M p q (j+1)=false)\/∃i,i<most/\o=some (i+1)/\okm M p q (i+1)=true/\∀j,j<i->okm M p q (j+1)=false
def Res (H0 H:Hp) (M:List Rm) (q:Nat) (v:V):Option Nat->Prop
 |none=>v=.non
 |some m=>∃t c,v=.ref t/\H t=some (.tup [.int m,.ref c])/\H0 c=none/\H c=some (.lst ((wN M (q*m)).map nV))
def wS':Sp:=fun vs H Q _=>∃(a:Addr) (M:List Rm) (p q most:Nat),vs=[.ref a,.int p,.int q,.int most]/\IsM H a M/\OkM M/\M.length<=100/\p<=8/\q<=8/\most<=100/\∀v o H',aG' H H'->Hit M p q most o->Res H H' M q v o->Q v H'
def jV':Sp:=fun vs H Q _=>∃(p q:Nat),vs=[.int p,.int q]/\Q (.bl true) H
def sv':Sp:=fun vs H Q _=>∃(a c:Addr) (M:List Rm) (p q m:Nat) (ns:List Nat),vs=[.ref a,.int p,.int q,.int m,.ref c]/\IsM H a M/\OkM M/\M.length<=60/\p<=8/\q<=8/\1<=m/\m<=100/\Lt H c (ns.map nV)/\ns.length<=60/\∀H',aG' H H'->Q (.bl (decide (ns=wN M (q*m))&&bel (p*m) ns)) H'
structure FsShow (C:Rc):Prop where
 isM:C.fs "is_machine"=some ge'
 sizes:C.fs "are_sizes"=some jV'
 within:C.fs "is_within"=some cF'
 areN:C.fs "are_numbers"=some dV'
 walk:C.fs "walk_sums"=some nb'
 below:C.fs "are_below"=some o3'
def eO':Sp:=fun vs H Q _=>∃(b:Addr) (n:Nat),vs=[.ref b]/\H b=some (da' b n)/\n<=2 ^ 37/\∀(t a:Addr) (M:List Rm) (p q:Nat) (H':Hp),Go 1100 H H'->H' t=some (.tup [.ref a,.int p,.int q])->IsM H' a M->OkM M->1<=M.length->M.length<=12->1<=p->p<=4->1<=q->q<=8->p<=q->Q (.ref t) H'
def sw':Sp:=fun vs H Q _=>∃(a:Addr) (M:List Rm) (p q most:Nat),vs=[.ref a,.int p,.int q,.int most]/\IsM H a M/\OkM M/\1<=M.length/\M.length<=100/\p<=8/\q<=8/\most<=100/\∀v o H',aG' H H'->Hit M p q most o->Res H H' M q v o->Q v H'
structure FsRight (C:Rc):Prop where
 take:C.fs "_law_take"=some az'
 asked:C.fs "_law_asked"=some eO'
 due:C.fs "_law_due"=some sw'
 tl:C.fs "too_little"=some wS'
 same:C.fs "_law_same"=some (m8' 2)
 shows:C.fs "shows_too_little"=some sv'
end K31
namespace K30
open PySem PySem.Spec PyProof.Rows L2 R3 LW
open SR CK RW TM BD BE K31
def dr (M:List Rm) (r:Nat):List Nat:=(LW.stp M r false).toList++(LW.stp M r true).toList
def en (M:List Rm):Nat->Nat->List Nat
 |0,r=>[r]
 |n+1,r=>(en M n r).flatMap (dr M)
def ss (M:List Rm) (n:Nat) (w:Nat->Nat) (r:Nat):Nat:=((en M n r).map w).sum
def st1 (M:List Rm) (w:Nat->Nat) (r:Nat):Nat:=ow w (LW.stp M r false)+ow w (LW.stp M r true)
def it (M:List Rm) (w:Nat->Nat):Nat->Nat->Nat
 |0=>w
 |n+1=>st1 M (it M w n)
def Okw (M:List Rm) (p q:Nat) (u:Nat->Nat):Prop:=∀r,r<M.length->u r*2 ^ p<=ss M q u r
def Up (M:List Rm) (m:Nat) (u:Nat->Nat):Prop:=∀r,r<M.length->u r<=m
structure Gr (M:List Rm) (p q m:Nat) (w:Nat->Nat):Prop where
 up:Up M m w
 ok:Okw M p q w
 top:∀u,Up M m u->Okw M p q u->∀r,r<M.length->u r<=w r
def wL (M:List Rm) (w:Nat->Nat):List Nat:=(aE M.length).map w
theorem aV' {M:List Rm} {w:Nat->Nat}:(wL M w).length=M.length:=by unfold wL;simp
theorem cw' {M:List Rm} {w:Nat->Nat} {r:Nat} (h:r<M.length):(wL M w)[r]?=some (w r):=by
 unfold wL
 rw[aD,bu h]
 rfl
theorem jW' {M:List Rm} {w:Nat->Nat} {r:Nat} (h:r<M.length):atI ((wL M w).map nV) (r:Int)=some (.int (w r)):=cN' (by rw[aD,cw' h];rfl)
theorem sx' {M:List Rm} (hO:OkM M) {w:Nat->Nat}:(wsL M ((wL M w).map fun n:Nat=>(n:Int)) M.length).map V.int=(wL M (st1 M w)).map nV:=by
 unfold wsL
 have e:∀r c,oi ((wL M w).map fun n:Nat=>(n:Int)) (LW.stp M r c)=((ow w (LW.stp M r c):Nat):Int):=by
  intro r c
  cases e:LW.stp M r c with
  |none=>rfl
  |some m=>
   show((wL M w).map fun n:Nat=>(n:Int)).getD m 0=_
   rw[aI,aD,cw' (LW.em' hO e)]
   rfl
 show _=((aE M.length).map (st1 M w)).map nV
 rw[cx,cx]
 apply List.map_congr_left
 intro r _
 show V.int (oi _ (LW.stp M r false)+oi _ (LW.stp M r true))=V.int _
 rw[e,e]
 show V.int _=V.int ((ow w (LW.stp M r false)+ow w (LW.stp M r true):Nat):Int)
 rw[Int.natCast_add]
def sb (M:List Rm) (e:Nat) (c:Bool):List Nat:=(LW.stp M e c).toList
def sl (M:List Rm) (q i e:Nat):List Nat:=(aE i).flatMap fun r=>aK ((en M q r).count e) r
structure Srs (H0 H:Hp) (S:Addr) (As:List Addr) (L:Nat->List Nat):Prop where
 top:H S=some (.lst (As.map V.ref))
 nd:As.Nodup
 out:S∉As
 free:∀x∈As,H0 x=none
 own:∀e x,As[e]?=some x->H x=some (.lst ((L e).map nV))
def o4':Sp:=fun vs H Q _=>∃(a b:Addr) (M:List Rm) (w:Nat->Nat) (q:Nat),vs=[.ref a,.ref b,.int q]/\IsM H a M/\OkM M/\M.length<=500/\q<=900/\Lt H b ((wL M w).map nV)/\∀p H',H p=none->aG' H H'->H' p=some (.lst ((wL M (it M w q)).map nV))->Q (.ref p) H'
def tot (M:List Rm) (w:Nat->Nat):Nat:=((aE M.length).map w).sum
structure Jn (M:List Rm) (p q m:Nat) (w:Nat->Nat) (wt:List Nat):Prop where
 up:Up M m w
 top:∀u,Up M m u->Okw M p q u->∀r,r<M.length->u r<=w r
 ok:∀r,r<M.length->r∉wt->w r*2 ^ p<=ss M q w r
 lt:∀r∈wt,r<M.length
def wc':Sp:=fun vs H Q _=>∃(a:Addr) (M:List Rm) (p q m:Nat),vs=[.ref a,.int p,.int q,.int m]/\IsM H a M/\OkM M/\M.length<=16/\p<=8/\q<=8/\M.length*m<=3000/\∀(v:V) (w:Nat->Nat) (H':Hp),aG' H H'->Gr M p q m w->((∃c,v=.ref c/\H c=none/\H' c=some (.lst ((wL M w).map nV))/\∃r,r<M.length/\w r≠0)\/v=.non/\∀r,r<M.length->w r=0)->Q v H'
def sy':Sp:=fun vs H Q _=>∃(a:Addr) (M:List Rm) (p q m:Nat),vs=[.ref a,.int p,.int q,.int m]/\IsM H a M/\OkM M/\M.length<=12/\p<=8/\q<=8/\m<=200/\∀(c:Addr) (w:Nat->Nat) (H':Hp),H c=none->aG' H H'->Gr M p q m w->H' c=some (.lst ((wL M w).map nV))->Q (.ref c) H'
def wT':Sp:=fun vs H Q _=>∃(x y:Addr) (M:List Rm) (u w:Nat->Nat),vs=[.ref x,.ref y]/\M.length<=100/\H x=some (.lst ((wL M u).map nV))/\H y=some (.lst ((wL M w).map nV))/\(∀r,r<M.length->u r<=w r)/\∀H',aG' H H'->Q (.bl true) H'
def tx' (M:List Rm) (r:Nat):Bool:=(LW.stp M r false).isSome&&(LW.stp M r true).isSome
structure FsRight (C:Rc):Prop where
 take:C.fs "_law_take"=some az'
 asked:C.fs "_law_asked"=some eO'
 told:C.fs "_law_told"=some sy'
 am:C.fs "_law_at_most"=some wT'
end K30
namespace K28
open PySem PySem.Spec PyProof.Rows L2 R3 LW
open SR CK RW TM BD BE K31 K30
def okB (M:List Rm) (p q:Nat) (u:Nat->Nat):Bool:=(aE M.length).all fun r=>decide (u r*2 ^ p<=ss M q u r)
def wU':Sp:=fun vs H Q _=>∃(a w:Addr) (M:List Rm) (p q:Nat) (u:Nat->Nat),vs=[.ref a,.int p,.int q,.ref w]/\IsM H a M/\OkM M/\M.length<=100/\p<=8/\q<=8/\Up M 1000000 u/\H w=some (.lst ((wL M u).map nV))/\∀H',aG' H H'->Q (.bl (!decide (tot M u=0)&&okB M p q u)) H'
structure Ld (M:List Rm) (p q m:Nat) (w:Nat->Nat):Prop where
 up:Up M m w
 top:∀u,Up M m u->Okw M p q u->∀r,r<M.length->u r<=w r
def wV':Sp:=fun vs H Q _=>∃(a:Addr) (M:List Rm) (p q m:Nat),vs=[.ref a,.int p,.int q,.int m]/\IsM H a M/\OkM M/\M.length<=12/\p<=8/\q<=8/\∀(v:V) (w:Nat->Nat) (H':Hp),aG' H H'->Gr M p q m w->((∃c,v=.ref c/\H c=none/\H' c=some (.lst ((wL M w).map nV))/\tot M w≠0)\/v=.non/\tot M w=0)->Q v H'
def fl (l:List Nat):Nat->Nat:=fun r=>l.getD r 0
def good (M:List Rm) (p q:Nat) (l:List Nat):Bool:=!decide (tot M (fl l)=0)&&okB M p q (fl l)
def wW':Sp:=fun vs H Q _=>∃(a:Addr) (M:List Rm) (p q m:Nat) (w:Nat->Nat),vs=[.ref a,.int p,.int q,.int m]/\IsM H a M/\OkM M/\M.length<=3/\p<=8/\q<=8/\m<=3/\Gr M p q m w/\∀(v:V) (H':Hp),aG' H H'->((tot M w≠0/\∃c,v=.ref c/\H' c=some (.lst ((wL M w).map nV)))\/tot M w=0/\v=.non)->Q v H'
structure FsRight (C:Rc):Prop where
 take:C.fs "_law_take"=some az'
 asked:C.fs "_law_asked"=some eO'
 ld:C.fs "_law_let_down"=some wV'
 en:C.fs "enough"=some wc'
 same:C.fs "_law_same"=some (m8' 1)
 ae:C.fs "_law_are_enough"=some wU'
 ba:C.fs "_law_by_all"=some wW'
end K28
namespace K29
open PySem PySem.Spec PyProof.Rows L2 R3 LW
open K30 K31 SR CK RW TM BD BE K28
def pos:V->Bool
 | .int i=>decide (0<=i)
 |_=>false
def vN:V->Nat
 | .int i=>i.toNat
 |_=>0
def fv (vs:List V):Nat->Nat:=fun r=>vN (vs.getD r .non)
def gdP (M:List Rm) (p q:Nat):Option (List V)->Bool
 |some vs=>decide (vs.length=M.length)&&(vs.all pos&&(!decide (tot M (fv vs)=0)&&okB M p q (fv vs)))
 |none=>false
theorem sz' {M:List Rm}:∀{vs:List V},vs.length=M.length->vs.all pos=true->vs=(wL M (fv vs)).map nV:=by
 intro vs hl hp
 apply bP
 intro i
 by_cases hi:i<vs.length
 .have hx:=bj.mp hp _ (List.getElem_mem hi)
  rw[aD,cw' (by omega),ac hi]
  show some vs[i]=some (V.int ((vN (vs.getD i .non):Nat):Int))
  rw[aI,ac hi]
  show some vs[i]=some (V.int ((vN vs[i]:Nat):Int))
  cases h:vs[i]with
  |int n=>
   rw[h]at hx
   have h0:0<=n:=of_decide_eq_true hx
   show some (V.int n)=some (V.int ((n.toNat:Nat):Int))
   rw[Int.toNat_of_nonneg h0]
  |_=>rw[h]at hx;cases hx
 .rw[bo (by omega),bo (by rw[ah,aV'];omega)]
theorem sA' {K:W.Frag} {H:Hp} {a:Addr} {vs:List V} (h:Lt H a vs):SqE K H a vs:=by
 rcases h with h|h
 .exact⟨false,SqL.of h⟩
 .exact⟨true,SqT.of h⟩
def Bd (o:Option (List V)):Prop:=∀vs,o=some vs->∀x∈vs,vN x<=2 ^ 90
def sB':Sp:=fun vs H Q _=>∃(a:Addr) (M:List Rm) (p q:Nat) (v:V) (o:Option (List V)),vs=[.ref a,.int p,.int q,v]/\IsM H a M/\OkM M/\M.length<=60/\p<=8/\q<=8/\Tl H v o/\Bd o/\∀H',aG' H H'->Q (.bl (gdP M p q o)) H'
def wX':Sp:=fun vs H Q _=>∃(a:Addr) (M:List Rm) (p q:Nat) (v:V) (o:Option (List V)),vs=[.ref a,.int p,.int q,v]/\IsM H a M/\OkM M/\M.length<=60/\p<=8/\q<=8/\Tl H v o/\∀H',aG' H H'->Q (.bl (gdP M p q o)) H'
structure FsSE (C:Rc):Prop where
 isM:C.fs "is_machine"=some ge'
 sizes:C.fs "are_sizes"=some jV'
 areN:C.fs "are_numbers"=some dV'
 walk:C.fs "walk_sums"=some o4'
def bB' (A B:Hp):Prop:=(∀a xs,A a=some (.lst xs)->B a=some (.lst xs))/\∀a xs,A a=some (.tup xs)->B a=some (.tup xs)
theorem bB'.go {c:Nat} {A B:Hp} (g:Go c A B):bB' A B:=⟨fun _ _ e=>g.lst e,fun _ _ e=>g.tup e⟩
theorem bB'.upd {A B:Hp} (k:bB' A B) (p:Addr) (o:HO):bB' (upd A p o) (upd B p o):=by
 refine⟨fun a xs e=>?_,fun a xs e=>?_⟩
 .by_cases h:a=p
  .subst h;rw[aa']at e ⊢;exact e
  .rw[ae' h]at e ⊢;exact k.1 a xs e
 .by_cases h:a=p
  .subst h;rw[aa']at e ⊢;exact e
  .rw[ae' h]at e ⊢;exact k.2 a xs e
theorem bB'.trans {A B D:Hp} (k:bB' A B) (l:bB' B D):bB' A D:=⟨fun a xs e=>l.1 a xs (k.1 a xs e),fun a xs e=>l.2 a xs (k.2 a xs e)⟩
theorem eP' {A B:Hp} (k:bB' A B) {a:Addr} {vs:List V} (h:Lt A a vs):Lt B a vs:=by
 rcases h with h|h
 .exact .inl (k.1 _ _ h)
 .exact .inr (k.2 _ _ h)
def scT:V->Bool
 | .non=>true
 | .int _=>true
 | .str _=>true
 | .bl _=>true
 |_=>false
def Va (H:Hp) (v:V):Prop:=(scT v=true\/∃a vs,v=.ref a/\Lt H a vs)/\vN v<=2 ^ 90
theorem Va.keep {A B:Hp} (k:bB' A B) {v:V} (h:Va A v):Va B v:=⟨h.1.imp id fun⟨a,vs,e,l⟩=>⟨a,vs,e,eP' k l⟩,h.2⟩
theorem Va.val {H:Hp} {v:V} (h:Va H v):Val H v:=by
 rcases h.1 with h|⟨a,vs,rfl,l⟩
 .cases v with
  |int i=>exact .inl ⟨i,rfl⟩
  |non=>exact .inr ⟨fun i z=>(nomatch z),"NoneType",by decide,rfl⟩
  |bl b=>exact .inr ⟨fun i z=>(nomatch z),"bool",by decide,rfl⟩
  |str z=>exact .inr ⟨fun i z=>(nomatch z),"str",by decide,rfl⟩
  |_=>cases h
 .obtain⟨T,h1,h2⟩:=l.ty
  exact .inr ⟨fun i z=>(nomatch z),T,by rcases h2 with rfl|rfl<;>decide,h1⟩
def Pp (H:Hp) (v:V):Prop:=scT v=true\/∃a vs,v=.ref a/\Lt H a vs/\(∀x∈vs,Va H x)/\vs.length<=61
theorem Pp.keep {A B:Hp} (k:bB' A B) {v:V} (h:Pp A v):Pp B v:=h.imp id fun⟨a,vs,e,l,hv,hl⟩=>⟨a,vs,e,eP' k l,fun x hx=>(hv x hx).keep k,hl⟩
theorem Pp.tl {H:Hp} {v:V} (h:Pp H v):∃o,Tl H v o/\Bd o:=by
 rcases h with h|⟨a,vs,e,l,hv,hl⟩
 .refine⟨none,?_,fun vs z=>by cases z⟩
  cases v<;>first|(cases h;done)|skip
  all_goals first|exact⟨"NoneType",by decide,rfl⟩|exact⟨"bool",by decide,rfl⟩|exact⟨"int",by decide,rfl⟩|exact⟨"str",by decide,rfl⟩
 .exact⟨some vs,⟨a,e,l,fun x hx=>(hv x hx).val,hl⟩,fun ws z x hx=>by cases z;exact(hv x hx).2⟩
theorem sC' {H:Hp} {n:Nat} (h:n<=2 ^ 90):Va H (nV n):=⟨.inl rfl,by show((n:Int)).toNat<=_;rw[aT];exact h⟩
theorem eQ' {H:Hp} {a:Addr} {ns:List Nat} (h:Lt H a (ns.map nV)) (hn:∀n∈ns,n<=2 ^ 90) (hl:ns.length<=61):Pp H (.ref a):=.inr ⟨a,_,rfl,h,fun x hx=>by
 obtain⟨n,hm,rfl⟩:=aP.mp hx
 exact sC' (hn n hm),by rw[ah];exact hl⟩
theorem pick {α:Type} {xs:List α} {P:α->Prop} {i:Int} (h:∀x∈xs,P x) (h0:0<=i) (h1:i<xs.length):∃v,atI xs i=some v/\P v:=by
 obtain⟨v,e1,e2⟩:=rU' h0 h1
 exact⟨v,e2,h v (aX e1)⟩
theorem c7' {c:Nat} {H H':Hp} (g:Go c H H') {p:Addr} (hp:H p=none) (o:HO):Go c H (upd H' p o):=by
 obtain⟨g1,g2,g3⟩:=g
 refine⟨fun a n e=>?_,fun a o' e nb=>?_,fun a e=>?_⟩
 .obtain⟨m,h1,h2⟩:=g1 a n e
  exact⟨m,h1,by rw[ae' (af' e hp)];exact h2⟩
 .rw[ae' (af' e hp)]
  exact g2 a o' e nb
 .by_cases h:a=p
  .rw[h];exact hp
  .rw[ae' h]at e
   exact g3 a e
def lX':Sp:=fun vs H Q _=>∃(b:Addr) (m:Nat) (a pw:Addr) (M:List Rm) (w:Nat->Nat),vs=[.ref b,.ref a,.ref pw]/\H b=some (da' b m)/\m<=2 ^ 38/\IsM H a M/\1<=M.length/\M.length<=12/\H pw=some (.lst ((wL M w).map nV))/\Up M 1000 w/\∀(pl:Addr) (ws:List V) (H':Hp),Go 40 H H'->H' pl=some (.lst ws)->ws.length<=20->(∀x∈ws,Pp H' x)->Q (.ref pl) H'
theorem vp' {M:List Rm} {u:Nat->Nat} {H:Hp} {c:Addr} (h:H c=some (.lst ((wL M u).map nV))) (hl:M.length<=61):Tl H (.ref c) (some ((wL M u).map nV)):=⟨c,rfl,.inl h,fun x hx=>by
 obtain⟨n,_,rfl⟩:=aP.mp hx
 exact .inl ⟨_,rfl⟩,by rw[ah,aV'];exact hl⟩
structure FsRight (C:Rc):Prop where
 take:C.fs "_law_take"=some az'
 asked:C.fs "_law_asked"=some eO'
 en:C.fs "enough"=some wc'
 se:C.fs "shows_enough"=some wX'
 papers:C.fs "_law_papers"=some lX'
 due:C.fs "_law_due"=some sB'
end K29
namespace GR
open PySem PySem.Spec PyProof.Rows L2 R3 LW SR RW
def aK':Css:=(.cons (.whl (.val (.var 1)) (.cons (.par 0 1 (.var 1) (.bin .Mod (.var 0) (.var 1)))
  .nil))
  (.cons (.ret (.var 0))
  .nil))
def aZ':Css:=(.cons (.asg (.name 2) (.call "common_divisor" (.cons (.var 0) (.cons (.var 1) .nil))))
  (.cons (.ret (.tup (.cons (.bin .FloorDiv (.var 0) (.var 2)) (.cons (.bin .FloorDiv (.var 1) (.var 2)) .nil))))
  .nil))
def bf':Css:=(.cons (.ret (.cmp .LtE (.bin .Mult (.idx (.var 0) (.int 0)) (.idx (.var 1) (.int 1))) (.bin .Mult (.idx (.var 1) (.int 0)) (.idx (.var 0) (.int 1)))))
  .nil)
def cG':Css:=(.cons (.asg (.name 2) (.comp (.int 1) [3] (.name 3) (.val (.var 0)) .none .nil))
  (.cons (.for_ (.name 4) (.range1 (.var 1)) (.cons (.asg (.name 2) (.comp (.bin .Add (.var 5) (.var 6)) [5,6] (.tup (.cons (.name 5) (.cons (.name 6) .nil))) (.zip (.var 2) (.call "way_sums" (.cons (.var 0) (.cons (.var 2) .nil)))) .none .nil))
  .nil))
  (.cons (.asg (.name 7) (.comp (.call "fraction_of" (.cons (.var 6) (.cons (.var 5) .nil))) [5,6] (.tup (.cons (.name 5) (.cons (.name 6) .nil))) (.zip (.var 2) (.call "way_sums" (.cons (.var 0) (.cons (.var 2) .nil)))) .none .nil))
  (.cons (.asgc 8 9 (.idx (.var 7) (.int 0)))
  (.cons (.for_ (.name 10) (.val (.var 7)) (.cons (.asg (.name 8) (.ife (.val (.call "is_at_most" (.cons (.var 10) (.cons (.var 8) .nil)))) (.var 10) (.var 8)))
  (.cons (.asg (.name 9) (.ife (.val (.call "is_at_most" (.cons (.var 9) (.cons (.var 10) .nil)))) (.var 10) (.var 9)))
  .nil)))
  (.cons (.ret (.tup (.cons (.var 8) (.cons (.var 9) (.cons (.var 2) .nil)))))
  .nil))))))
theorem vq' {C:Rc} {D:Ends} {σ:L2.St} {H:Hp} {k:Bool} {a b:Addr} {xs ys:List V} {t:Ct} {bd:Css} {n:Nat} (hn:n=min xs.length ys.length) (Pv:Nat->L2.St->Hp->Prop) (h0:Pv 0 σ H) (hl:∀i σ H,i<=n->Pv i σ H->Sq k C.K H a xs/\Sq k C.K H b ys)
  (hs:∀i x y σ H p,xs[i]?=some x->ys[i]?=some y->H p=none->Pv i σ H->tG C t (.ref p) σ (upd H p (.tup [x,y])) (tSs C bd { D with nx:=Pv (i+1),ct:=Pv (i+1),bk:=D.nx })) (hd:∀σ H,Pv n σ H->D.nx σ H):oB' C t bd D σ (Itz k C.K a b) H:=by
 refine⟨fun i m σ H=>m=n-i/\i<=n/\Pv i σ H,⟨n,by simp,aC _,h0⟩,?_⟩
 rintro i m σ H ⟨rfl,hi,p⟩
 obtain⟨q1,q2⟩:=hl i σ H hi p
 by_cases hlt:i<n
 .refine .inr ⟨⟨xs,ys,xs[i]'(by omega),ys[i]'(by omega),q1,q2,ac _,ac _⟩,Pv (i+1),fun σ' H' p'=>⟨n-(i+1),by omega,rfl,hlt,p'⟩,fun x H' y=>?_⟩
  obtain⟨ad,u,v,rfl,hne,y1,y2,rfl⟩:=y
  exact hs i u v σ _ ad (y1 xs q1) (y2 ys q2) hne p
 .have e:i=n:=by omega
  subst e
  exact .inl ⟨⟨xs,ys,q1,q2,by omega⟩,hd σ H p⟩
def sD' (D:Ends) (σ:L2.St) (i j:Nat):VK:=fun v H1=>D.nx ((σ.set i (some v)).set j (some v)) H1
theorem nc' {C:Rc} {D:Ends} {σ:L2.St} {H:Hp} {i j:Nat} {e:Ce}:tS C (.asgc i j e) D σ H=tE C e σ H (sD' D σ i j):=rfl
theorem lY' {D:Ends} {σ:L2.St} {H:Hp} {i j:Nat} {v:V}:sD' D σ i j v H=D.nx ((σ.set i (some v)).set j (some v)) H:=rfl
def gw (M:List Rm):Nat->Nat->Nat
 |0,_=>1
 |s+1,r=>gw M s r+(ow (gw M s) (LW.stp M r false)+ow (gw M s) (LW.stp M r true))
def tw (M:List Rm) (s r:Nat):Nat:=ow (gw M s) (LW.stp M r false)+ow (gw M s) (LW.stp M r true)
def gwL (M:List Rm) (s:Nat):List Int:=(aE M.length).map fun r=>((gw M s r:Nat):Int)
def twL (M:List Rm) (s:Nat):List Int:=(aE M.length).map fun r=>((tw M s r:Nat):Int)
theorem dW' {M:List Rm}:∀{s r:Nat},1<=gw M s r
 |0,_=>ak _
 |s+1,r=>au (dW' (s:=s) (r:=r)) (aF _ _)
theorem hU' {f:Nat->Nat} {b:Nat} (h:∀m,f m<=b):∀o,ow f o<=b
 |none=>aC _
 |some m=>h m
theorem gf' {M:List Rm}:∀{s r:Nat},gw M s r<=3 ^ s
 |0,_=>ak _
 |s+1,r=>by
  have h1:=gf' (M:=M) (s:=s) (r:=r)
  have h2:=hU' (fun m=>gf' (M:=M) (s:=s) (r:=m)) (LW.stp M r false)
  have h3:=hU' (fun m=>gf' (M:=M) (s:=s) (r:=m)) (LW.stp M r true)
  show gw M s r+(ow (gw M s) (LW.stp M r false)+ow (gw M s) (LW.stp M r true))<=3 ^ (s+1)
  rw[cf]
  omega
theorem vr' {M:List Rm} {s r:Nat}:tw M s r<=3 ^ (s+1):=by
 have h2:=hU' (fun m=>gf' (M:=M) (s:=s) (r:=m)) (LW.stp M r false)
 have h3:=hU' (fun m=>gf' (M:=M) (s:=s) (r:=m)) (LW.stp M r true)
 show ow (gw M s) (LW.stp M r false)+ow (gw M s) (LW.stp M r true)<=_
 rw[cf]
 omega
theorem jX' {a b:Nat} (h:a<=b):3 ^ a<=3 ^ b:=Nat.pow_le_pow_right (by decide) h
theorem nd' {M:List Rm} {s r:Nat} (h:s<=60):gw M s r<=3 ^ 61:=au gf' (jX' (by omega))
theorem sE' {M:List Rm} {s r:Nat} (h:s<=60):tw M s r<=3 ^ 61:=au vr' (jX' (by omega))
theorem cT' {M:List Rm} {s:Nat}:(gwL M s).length=M.length:=by unfold gwL;simp
theorem gg' {M:List Rm} {s:Nat}:(twL M s).length=M.length:=by unfold twL;simp
theorem o5' {M:List Rm} {s m:Nat} (h:m<M.length):(gwL M s).getD m 0=gw M s m:=by
 unfold gwL
 rw[aI,aD,bu h]
 rfl
theorem ne' {M:List Rm} {s m:Nat} {v:V} (h:((gwL M s).map V.int)[m]?=some v):m<M.length/\v=.int (gw M s m):=by
 have hm:=au' h
 rw[ah,cT']at hm
 rw[aD]at h
 unfold gwL at h
 rw[aD,bu hm]at h
 cases h
 exact⟨hm,rfl⟩
theorem nf' {M:List Rm} {s m:Nat} {v:V} (h:((twL M s).map V.int)[m]?=some v):m<M.length/\v=.int (tw M s m):=by
 have hm:=au' h
 rw[ah,gg']at hm
 rw[aD]at h
 unfold twL at h
 rw[aD,bu hm]at h
 cases h
 exact⟨hm,rfl⟩
theorem sF' {M:List Rm} (hM:OkM M) {s r:Nat} {c:Bool}:oi (gwL M s) (LW.stp M r c)=((ow (gw M s) (LW.stp M r c):Nat):Int):=by
 cases e:LW.stp M r c with
 |none=>rfl
 |some m=>exact o5' (em' hM e)
theorem ng' {M:List Rm} (hM:OkM M) {s:Nat}:wsL M (gwL M s) M.length=twL M s:=by
 unfold wsL twL
 apply List.map_congr_left
 intro r _
 rw[sF' hM,sF' hM]
 unfold tw
 omega
theorem fE' {n:Nat} (h:n<=3 ^ 61) (h1:1<=n):n9' i (n:Int):=by
 refine⟨by omega,.inr ?_⟩
 rw[Int.natAbs_natCast]
 exact ag (Nat.log2_lt (by omega) |>.mpr (bZ h (by decide:3 ^ 61<2 ^ 100))) (by decide)
theorem cn' {a b:Nat} (ha:a<=3 ^ 61) (hb:b<=3 ^ 61):hG' (a:Int) (b:Int):=ss' (au ha (by decide)) (au hb (by decide))
def bU':Sp:=fun vs H Q _=>∃(x y:Nat),vs=[.int x,.int y]/\Q (.int (aW x y)) H
theorem gh' {C:Rc} (hN:C.N.length=2):∀vs H Q E,bU' vs H Q E->tSs C aK' { nx:=fun _ H'=>Q .non H',rt:=Q } (L2.ax' C.N vs) H:=by
 intro vs H Q E h
 obtain⟨x,y,rfl,q⟩:=h
 rw[aj' hN]
 unfold aK'
 walk_at "y"
 refine m0' (fun m σ H'=>H'=H/\∃u v:Nat,σ=[some (.int u),some (.int v)]/\m=v/\aW u v=aW x y) y ⟨rfl,x,y,rfl,rfl,rfl⟩ ?_
 rintro m σ H' ⟨rfl,u,v,rfl,rfl,hg⟩
 walk_at "y"
 by_cases hv:m=0
 .subst hv
  rw[show(!decide (((0:Nat):Int)=0))=false from rfl]
  refine m2' ?_
  walk_at "y"
  rw[Nat.gcd_zero_right]at hg
  rw[hg]
  exact q
 .rw[show(!decide (((m:Nat):Int)=0))=true by simp;omega]
  refine m1' ?_
  walk_at "y"
  refine⟨by omega,u % m,Nat.mod_lt _ (by omega),trivial,m,u % m,?_,rfl,?_⟩
  .rw[Int.natCast_emod]
  .rw[<- hg,Nat.gcd_comm u m,Nat.gcd_rec m u,Nat.gcd_comm]
def bp':Sp:=fun vs H Q _=>∃(x y:Nat),vs=[.int x,.int y]/\1<=y/\y<=3 ^ 61/\∀p,H p=none->Q (.ref p) (upd H p (.tup [.int ((x / aW x y:Nat):Int),.int ((y / aW x y:Nat):Int)]))
theorem gO' {x y:Nat} (h:1<=y):aW x y<=y:=Nat.le_of_dvd h (Nat.gcd_dvd_right x y)
theorem en' {x y:Nat} (h:1<=y):1<=aW x y:=Nat.gcd_pos_of_pos_right x h
theorem jY' {C:Rc} (hN:C.N.length=3) (hC:C.fs "common_divisor"=some bU'):∀vs H Q E,bp' vs H Q E->tSs C aZ' { nx:=fun _ H'=>Q .non H',rt:=Q } (L2.ax' C.N vs) H:=by
 intro vs H Q E h
 obtain⟨x,y,rfl,hy,hy2,q⟩:=h
 rw[aj' hN]
 unfold aZ'
 walk_at "y"
 refine ag' hC ?_
 walk_at "y"
 refine⟨x,y,rfl,?_⟩
 have hd:=fE' (i:=x) (au (gO' (x:=x) hy) hy2) (en' (x:=x) hy)
 walk_at "y"
 refine⟨hd,hd,by decide,fun p hp=>?_⟩
 have:=q p hp
 rw[Int.natCast_ediv,Int.natCast_ediv]at this
 exact this
def bV':Sp:=fun vs H Q _=>∃(a b:Addr) (x y u v:Nat),vs=[.ref a,.ref b]/\H a=some (.tup [.int x,.int y])/\H b=some (.tup [.int u,.int v])/\x<=3 ^ 61/\y<=3 ^ 61/\u<=3 ^ 61/\v<=3 ^ 61/\Q (.bl (decide (x*v<=u*y))) H
theorem gi' {C:Rc} (hN:C.N.length=2):∀vs H Q E,bV' vs H Q E->tSs C bf' { nx:=fun _ H'=>Q .non H',rt:=Q } (L2.ax' C.N vs) H:=by
 intro vs H Q E h
 obtain⟨a,b,x,y,u,v,rfl,ha,hb,hx,hy,hu,hv,q⟩:=h
 rw[aj' hN]
 unfold bf'
 walk_at "y"
 refine aq' (SqT.of ha) (v:=.int x) rfl ?_
 walk_at "y"
 refine aq' (SqT.of hb) (v:=.int v) rfl ?_
 walk_at "y"
 refine⟨cn' hx hv,?_⟩
 refine aq' (SqT.of hb) (v:=.int u) rfl ?_
 walk_at "y"
 refine aq' (SqT.of ha) (v:=.int y) rfl ?_
 walk_at "y"
 refine⟨cn' hu hy,?_⟩
 have e:decide ((x:Int)*v<=u*y)=decide (x*v<=u*y):=by
  exact decide_eq_decide.mpr ⟨fun h=>by exact_mod_cast h,fun h=>by exact_mod_cast h⟩
 rw[e]
 exact q
def wY' (M:List Rm) (s p q:Nat):Prop:=aW p q=1/\1<=q/\(∀r,r<M.length->p*gw M s r<=tw M s r*q)/\∃r,r<M.length/\p*gw M s r=tw M s r*q
def wZ' (M:List Rm) (s p q:Nat):Prop:=aW p q=1/\1<=q/\(∀r,r<M.length->tw M s r*q<=p*gw M s r)/\∃r,r<M.length/\p*gw M s r=tw M s r*q
def fp (M:List Rm) (s r:Nat):Nat:=tw M s r / aW (tw M s r) (gw M s r)
def fq (M:List Rm) (s r:Nat):Nat:=gw M s r / aW (tw M s r) (gw M s r)
theorem gP' {M:List Rm} {s r:Nat}:aW (fp M s r) (fq M s r)=1:=Nat.gcd_div_gcd_div_gcd_of_pos_right dW'
theorem fF' {M:List Rm} {s r:Nat}:fp M s r*gw M s r=tw M s r*fq M s r:=by
 unfold fp fq
 obtain⟨u,hu⟩:=Nat.gcd_dvd_left (tw M s r) (gw M s r)
 obtain⟨v,hv⟩:=Nat.gcd_dvd_right (tw M s r) (gw M s r)
 have hg:1<=aW (tw M s r) (gw M s r):=en' dW'
 generalize aW (tw M s r) (gw M s r)=g at hu hv hg
 rw[hu,hv,cj _ hg,cj _ hg,Nat.mul_left_comm,bD]
theorem eo' {M:List Rm} {s r:Nat}:1<=fq M s r:=Nat.div_pos (gO' dW') (en' dW')
theorem gj' {M:List Rm} {s r:Nat} (h:s<=60):fp M s r<=3 ^ 61:=au (cA _ _) (sE' h)
theorem gk' {M:List Rm} {s r:Nat} (h:s<=60):fq M s r<=3 ^ 61:=au (cA _ _) (nd' h)
def sG' (M:List Rm) (s i p q:Nat):Prop:=aW p q=1/\1<=q/\p<=3 ^ 61/\q<=3 ^ 61/\(∀r,r<i->p*gw M s r<=tw M s r*q)/\∃r,r<M.length/\p*gw M s r=tw M s r*q
def sH' (M:List Rm) (s i u v:Nat):Prop:=aW u v=1/\1<=v/\u<=3 ^ 61/\v<=3 ^ 61/\(∀r,r<i->tw M s r*v<=u*gw M s r)/\∃r,r<M.length/\u*gw M s r=tw M s r*v
theorem o6' {M:List Rm} {n i p q:Nat} (h:sG' M n i p q) (hi:i<M.length) (hn:n<=60) (hc:fp M n i*q<=p*fq M n i):sG' M n (i+1) (fp M n i) (fq M n i):=by
 obtain⟨l1,l2,hp,hq,l3,l4⟩:=h
 refine⟨gP',eo',gj' hn,gk' hn,fun r hr=>?_,i,hi,fF'⟩
 by_cases e:r=i
 .subst e;exact Nat.le_of_eq fF'
 .have h3:=l3 r (by omega)
  refine aQ (c:=q) ?_ l2
  calc fp M n i*gw M n r*q=(fp M n i*q)*gw M n r:=by rw[ay]
   _<=(p*fq M n i)*gw M n r:=aR _ hc
   _=(p*gw M n r)*fq M n i:=by rw[ay]
   _<=(tw M n r*q)*fq M n i:=aR _ h3
   _=tw M n r*fq M n i*q:=by rw[ay]
theorem o7' {M:List Rm} {n i p q:Nat} (h:sG' M n i p q) (hc:¬fp M n i*q<=p*fq M n i):sG' M n (i+1) p q:=by
 obtain⟨l1,l2,hp,hq,l3,l4⟩:=h
 refine⟨l1,l2,hp,hq,fun r hr=>?_,l4⟩
 by_cases e:r=i
 .subst e
  have hc':p*fq M n r<=fp M n r*q:=by omega
  refine aQ (c:=fq M n r) ?_ eo'
  calc p*gw M n r*fq M n r=(p*fq M n r)*gw M n r:=by rw[ay]
   _<=(fp M n r*q)*gw M n r:=aR _ hc'
   _=(fp M n r*gw M n r)*q:=by rw[ay]
   _=(tw M n r*fq M n r)*q:=by rw[fF']
   _=tw M n r*q*fq M n r:=by rw[ay]
 .exact l3 r (by omega)
theorem jZ' {M:List Rm} {n i u v:Nat} (h:sH' M n i u v) (hi:i<M.length) (hn:n<=60) (hc:u*fq M n i<=fp M n i*v):sH' M n (i+1) (fp M n i) (fq M n i):=by
 obtain⟨g1,g2,hp,hq,g3,g4⟩:=h
 refine⟨gP',eo',gj' hn,gk' hn,fun r hr=>?_,i,hi,fF'⟩
 by_cases e:r=i
 .subst e;exact Nat.le_of_eq fF'.symm
 .have h3:=g3 r (by omega)
  refine aQ (c:=v) ?_ g2
  calc tw M n r*fq M n i*v=(tw M n r*v)*fq M n i:=by rw[ay]
   _<=(u*gw M n r)*fq M n i:=aR _ h3
   _=(u*fq M n i)*gw M n r:=by rw[ay]
   _<=(fp M n i*v)*gw M n r:=aR _ hc
   _=fp M n i*gw M n r*v:=by rw[ay]
theorem j0' {M:List Rm} {n i u v:Nat} (h:sH' M n i u v) (hc:¬u*fq M n i<=fp M n i*v):sH' M n (i+1) u v:=by
 obtain⟨g1,g2,hp,hq,g3,g4⟩:=h
 refine⟨g1,g2,hp,hq,fun r hr=>?_,g4⟩
 by_cases e:r=i
 .subst e
  have hc':fp M n r*v<=u*fq M n r:=by omega
  refine aQ (c:=fq M n r) ?_ eo'
  calc tw M n r*v*fq M n r=(tw M n r*fq M n r)*v:=by rw[ay]
   _=(fp M n r*gw M n r)*v:=by rw[fF']
   _=(fp M n r*v)*gw M n r:=by rw[ay]
   _<=(u*fq M n r)*gw M n r:=aR _ hc'
   _=u*gw M n r*fq M n r:=by rw[ay]
 .exact g3 r (by omega)
def d3' (H:Hp) (a:Addr) (p q:Nat):Prop:=H a=some (.tup [.int p,.int q])
def cH':Sp:=fun vs H Q _=>∃(a:Addr) (M:List Rm) (n:Nat),vs=[.ref a,.int n]/\IsM H a M/\OkM M/\1<=M.length/\M.length<=100/\n<=60/\
 ∀(t l h w:Addr) (p q u v:Nat) (H':Hp),aG' H H'->H w=none->H' t=some (.tup [.ref l,.ref h,.ref w])->d3' H' l p q->d3' H' h u v->H' w=some (.lst ((gwL M n).map V.int))->wY' M n p q->wZ' M n u v->Q (.ref t) H'
theorem o8' {C:Rc} {σ:L2.St} {H:Hp} {Q:VK} {i j:Nat} {w y:Addr} {M:List Rm} {s:Nat} (hij:i≠j) (hi:i<(clr [i,j] σ).length) (hj:j<(clr [i,j] σ).length) (hM:M.length<=100) (hw:H w=some (.lst ((gwL M s).map V.int))) (hy:H y=some (.lst ((twL M s).map V.int)))
  (q:∀p H',H p=none->aG' H H'->H' p=some (.lst ((gwL M (s+1)).map V.int))->Q (.ref p) H'):fw' C (.bin .Add (.var i) (.var j)) [i,j] (.tup (.cons (.name i) (.cons (.name j) .nil))) .none σ Q (Itz false C.K w y) H:=by
 refine m3' (vs:=(gwL M s).map V.int) (ws:=(twL M s).map V.int) (by rw[ah,ah,cT',gg']) (fun k xs H'=>aG' H H'/\xs=((aE k).map fun r=>((gw M (s+1) r:Nat):Int)).map V.int) ⟨aG'.refl _,rfl⟩ (fun k xs H' pv=>⟨SqL.of (pv.1 _ _ hw),SqL.of (pv.1 _ _ hy)⟩) ?_ ?_
 .rintro k xs H' x z p R hx hz hp ⟨s1,rfl⟩ hR
  obtain⟨hk,rfl⟩:=ne' hx
  obtain⟨_,rfl⟩:=nf' hz
  refine dT' (SqT.of aa') ?_
  have e1:(((clr [i,j] σ).set i (some (V.int (gw M s k)))).set j (some (V.int (tw M s k))))[i]?=some (some (V.int (gw M s k))):=by
   rw[bF (fun h=>hij h.symm),bU hi]
  have e2:(((clr [i,j] σ).set i (some (V.int (gw M s k)))).set j (some (V.int (tw M s k))))[j]?=some (some (V.int (tw M s k))):=by
   rw[bU (by rw[List.length_set];exact hj)]
  rw[r0']
  simp only[mQ',fv',e1,e2,dS',mR',mS',rj',gH']
  refine⟨by simp;exact an' (by omega),hR _ _ ⟨s1.trans (ah' hp _),?_⟩⟩
  rw[bT,aG,aG]
  rfl
 .rintro xs H' ⟨s1,rfl⟩ p hp
  have hl:((gwL M s).map V.int).length=M.length:=by rw[ah,cT']
  rw[hl]
  exact q p _ (s1.free hp) (s1.trans (ah' hp _)) aa'
end GR
namespace K26
open PySem PySem.Spec PyProof.Rows L2 R3 LW
def cd':List Str:=["thing"]
def bu':List Str:=["bool","int","isinstance"]
def ce':List Str:=["thing","low","high"]
def bv':List Str:=[]
def cU':List Str:=["thing"]
def cf':List Str:=["isinstance","len","tuple"]
def cg':List Str:=["thing"]
def bw':List Str:=["isinstance","list","tuple"]
def bJ':List Str:=["thing","many","each"]
def a0':List Str:=["all","len"]
def cV':List Str:=["thing","many"]
def ch':List Str:=[]
def cW':List Str:=["thing","many"]
def ci':List Str:=[]
def bZ':List Str:=["thing","room"]
def bg':List Str:=["all","isinstance","len","tuple"]
def bh':List Str:=["machine","numbers","room","bit","lead"]
def aQ':List Str:=["int"]
def bW':List Str:=["machine","numbers","room"]
def bn':List Str:=["len","range"]
def a1':List Str:=["one","other"]
def aL':List Str:=[]
def bK':List Str:=["thing"]
def a2':List Str:=[]
def a3':Css:=(.cons (.ite (.not (.and (.val (.call "is_pair" (.cons (.var 0) .nil))) (.and (.val (.call "is_number" (.cons (.idx (.var 0) (.int 0)) .nil))) (.val (.call "is_number" (.cons (.idx (.var 0) (.int 1)) .nil)))))) (.cons (.ret (.bl false))
  .nil) .nil)
  (.cons (.ret (.and (.cmp .GtE (.idx (.var 0) (.int 0)) (.int 0)) (.and (.cmp .GtE (.idx (.var 0) (.int 1)) (.int 1)) (.cmp .Eq (.call "common_divisor" (.cons (.idx (.var 0) (.int 0)) (.cons (.idx (.var 0) (.int 1)) .nil))) (.int 1)))))
  .nil))
def bL':List Str:=["top","below","divisor"]
def a4':List Str:=[]
def b0':List Str:=["one","other"]
def bi':List Str:=[]
def dk':List Str:=["machine","steps","weights","room","step","own","way","fractions","low","high","fraction"]
def cI':List Str:=["range","zip"]
def bM':List Str:=["thing","many","each"]
def a5':List Str:=["all"]
def a6':Css:=(.cons (.ret (.and (.call "are_numbers" (.cons (.var 0) (.cons (.var 1) .nil))) (.blt .all (.cons (.comp (.cmp .GtE (.var 2) (.int 1)) [2] (.name 2) (.val (.var 0)) .none .nil) .nil))))
  .nil)
def bo':List Str:=["machine","low","high","weights","fractions","each"]
def aR':List Str:=["all","len","list","zip"]
def aS':Css:=(.cons (.ite (.not (.and (.val (.call "is_machine" (.cons (.var 0) .nil))) (.and (.val (.call "is_fraction" (.cons (.var 1) .nil))) (.val (.call "is_fraction" (.cons (.var 2) .nil)))))) (.cons (.ret (.bl false))
  .nil) .nil)
  (.cons (.ite (.not (.val (.call "are_weights" (.cons (.var 3) (.cons (.blt .len (.cons (.var 0) .nil)) .nil))))) (.cons (.ret (.bl false))
  .nil) .nil)
  (.cons (.asg (.name 4) (.lzp (.call "way_sums" (.cons (.var 0) (.cons (.var 3) .nil))) (.var 3)))
  (.cons (.ret (.blt .all (.cons (.comp (.and (.call "is_at_most" (.cons (.var 1) (.cons (.var 5) .nil))) (.call "is_at_most" (.cons (.var 5) (.cons (.var 2) .nil)))) [5] (.name 5) (.val (.var 4)) .none .nil) .nil)))
  .nil))))
def c8':List Str:=["_law_script","_law_k"]
def cx':List Str:=["len"]
def lZ':List Str:=["_law_script","_law_k","_law_cell"]
def j1':List Str:=["abs","int"]
def j2':List Str:=["_law_box_here","_law_many_here","_law_found","_law_once","_law_twice"]
def gQ':List Str:=[]
def j3':List Str:=["_law_box_here","_law_least","_law_few","_law_most"]
def gR':List Str:=[]
def dX':List Str:=["_law_box_here","_law_many_here","_law_often","_law_rooms","_law_k","_law_doors","_law_bit","_law_to"]
def c9':List Str:=["int","range","tuple"]
def b1':List Str:=["_law_box_here","_law_many_here","_law_order","_law_k","_law_rooms","_law_at","_law_room","_law_on","_law_other"]
def bj':List Str:=["enumerate","int","range","tuple"]
def j4':List Str:=["_law_machine_here","_law_weights","_law_found","_law_doors","_law_end"]
def gS':List Str:=["sum"]
def gT':Css:=(.cons (.asg (.name 2) (.lst .nil))
  (.cons (.for_ (.name 3) (.val (.var 0)) (.cons (.expr (.met .append (.var 2) (.cons (.blt .sum (.cons (.comp (.idx (.var 1) (.var 4)) [4] (.name 4) (.val (.var 3)) (.some (.cmp .IsNot (.var 4) .non)) .nil) .nil)) .nil)))
  .nil))
  (.cons (.ret (.var 2))
  .nil)))
def gl':List Str:=["_law_top","_law_below","_law_one","_law_other"]
def eR':List Str:=[]
def eS':Css:=(.cons (.par 2 3 (.var 0) (.var 1))
  (.cons (.whl (.cmp .Gt (.var 3) (.int 0)) (.cons (.par 2 3 (.var 3) (.bin .Mod (.var 2) (.var 3)))
  .nil))
  (.cons (.ret (.tup (.cons (.bin .FloorDiv (.var 0) (.var 2)) (.cons (.bin .FloorDiv (.var 1) (.var 2)) .nil))))
  .nil)))
def j5':List Str:=["_law_machine_here","_law_weights","_law_low","_law_high","_law_top","_law_below"]
def gU':List Str:=["zip"]
def gV':Css:=(.cons (.asg (.tup (.cons (.name 2) (.cons (.name 3) .nil))) (.tup (.cons .non (.cons .non .nil))))
  (.cons (.for_ (.tup (.cons (.name 4) (.cons (.name 5) .nil))) (.zip (.call "_law_sums" (.cons (.var 0) (.cons (.var 1) .nil))) (.var 1)) (.cons (.ite (.or (.cmp .Is (.var 2) .non) (.cmp .Lt (.bin .Mult (.var 4) (.idx (.var 2) (.int 1))) (.bin .Mult (.idx (.var 2) (.int 0)) (.var 5)))) (.cons (.asg (.name 2) (.tup (.cons (.var 4) (.cons (.var 5) .nil))))
  .nil) .nil)
  (.cons (.ite (.or (.cmp .Is (.var 3) .non) (.cmp .Gt (.bin .Mult (.var 4) (.idx (.var 3) (.int 1))) (.bin .Mult (.idx (.var 3) (.int 0)) (.var 5)))) (.cons (.asg (.name 3) (.tup (.cons (.var 4) (.cons (.var 5) .nil))))
  .nil) .nil)
  .nil)))
  (.cons (.ret (.tup (.cons (.call "_law_terms" (.cons (.idx (.var 2) (.int 0)) (.cons (.idx (.var 2) (.int 1)) .nil))) (.cons (.call "_law_terms" (.cons (.idx (.var 3) (.int 0)) (.cons (.idx (.var 3) (.int 1)) .nil))) .nil))))
  .nil)))
def cX':List Str:=["_law_thing","_law_least"]
def cj':List Str:=["bool","int","isinstance"]
def ck':Css:=(.cons (.ret (.and (.blt .isinstance (.cons (.var 0) (.cons (.ty "int") .nil))) (.and (.not (.blt .isinstance (.cons (.var 0) (.cons (.ty "bool") .nil)))) (.cmp .GtE (.var 0) (.var 1)))))
  .nil)
def cl':List Str:=["_law_thing"]
def bx':List Str:=["isinstance","len","tuple"]
def by':Css:=(.cons (.ite (.or (.not (.val (.blt .isinstance (.cons (.var 0) (.cons (.ty "tuple") .nil))))) (.cmp .NotEq (.blt .len (.cons (.var 0) .nil)) (.int 2))) (.cons (.ret (.bl false))
  .nil) .nil)
  (.cons (.ite (.or (.not (.val (.call "_law_is_number" (.cons (.idx (.var 0) (.int 0)) (.cons (.int 0) .nil))))) (.not (.val (.call "_law_is_number" (.cons (.idx (.var 0) (.int 1)) (.cons (.int 1) .nil)))))) (.cons (.ret (.bl false))
  .nil) .nil)
  (.cons (.ret (.cmp .Eq (.call "_law_terms" (.cons (.idx (.var 0) (.int 0)) (.cons (.idx (.var 0) (.int 1)) .nil))) (.var 0)))
  .nil)))
def o9':List Str:=["_law_machine_here","_law_low","_law_high","_law_weights","_law_weight","_law_top","_law_below"]
def l0':List Str:=["all","isinstance","len","list","tuple","zip"]
def l3':Css:=(.cons (.ite (.or (.not (.val (.call "_law_is_fraction" (.cons (.var 1) .nil)))) (.or (.not (.val (.call "_law_is_fraction" (.cons (.var 2) .nil)))) (.not (.val (.blt .isinstance (.cons (.var 3) (.cons (.tup (.cons (.ty "list") (.cons (.ty "tuple") .nil))) .nil))))))) (.cons (.ret (.bl false))
  .nil) .nil)
  (.cons (.ite (.or (.cmp .NotEq (.blt .len (.cons (.var 3) .nil)) (.blt .len (.cons (.var 0) .nil))) (.not (.val (.blt .all (.cons (.comp (.call "_law_is_number" (.cons (.var 4) (.cons (.int 1) .nil))) [4] (.name 4) (.val (.var 3)) .none .nil) .nil))))) (.cons (.ret (.bl false))
  .nil) .nil)
  (.cons (.for_ (.tup (.cons (.name 5) (.cons (.name 6) .nil))) (.zip (.call "_law_sums" (.cons (.var 0) (.cons (.var 3) .nil))) (.var 3)) (.cons (.ite (.or (.cmp .Lt (.bin .Mult (.var 5) (.idx (.var 1) (.int 1))) (.bin .Mult (.idx (.var 1) (.int 0)) (.var 6))) (.cmp .Gt (.bin .Mult (.var 5) (.idx (.var 2) (.int 1))) (.bin .Mult (.idx (.var 2) (.int 0)) (.var 6)))) (.cons (.ret (.bl false))
  .nil) .nil)
  .nil))
  (.cons (.ret (.bl true))
  .nil))))
def bN':List Str:=["_law_box_here","_law_one","_law_top","_law_below","_law_far","_law_some"]
def a7':List Str:=["len","max","str"]
def a8':Css:=(.cons (.asg (.tup (.cons (.name 2) (.cons (.name 3) .nil))) (.var 1))
  (.cons (.asg (.name 4) (.bin .LShift (.int 1) (.bin .Add (.int 3) (.call "_law_take" (.cons (.var 0) (.cons (.int 40) .nil))))))
  (.cons (.asg (.name 5) (.lst (.cons (.call "_law_terms" (.cons (.bin .Add (.bin .Mult (.var 2) (.var 4)) (.var 3)) (.cons (.bin .Mult (.var 3) (.var 4)) .nil))) (.cons (.call "_law_terms" (.cons (.blt .max (.cons (.int 0) (.cons (.bin .Sub (.bin .Mult (.var 2) (.var 4)) (.var 3)) .nil))) (.cons (.bin .Mult (.var 3) (.var 4)) .nil))) .nil))))
  (.cons (.asg (.name 5) (.bin .Add (.var 5) (.lst (.cons (.tup (.cons (.bin .Mult (.int 2) (.var 2)) (.cons (.bin .Mult (.int 2) (.var 3)) .nil))) (.cons (.tup (.cons (.var 3) (.cons (.var 2) .nil))) (.cons (.lst (.cons (.var 2) (.cons (.var 3) .nil))) (.cons (.tup (.cons (.var 2) .nil)) (.cons .non (.cons (.tup (.cons (.bl true) (.cons (.var 3) .nil))) (.cons (.tup (.cons (.var 2) (.cons (.int 0) .nil))) .nil))))))))))
  (.cons (.asg (.name 5) (.bin .Add (.var 5) (.lst (.cons (.tup (.cons (.neg (.var 2)) (.cons (.var 3) .nil))) (.cons (.tup (.cons (.blt .str (.cons (.var 2) .nil)) (.cons (.var 3) .nil))) (.cons (.tup (.cons (.var 2) (.cons (.neg (.var 3)) .nil))) (.cons (.var 2) (.cons (.tup (.cons (.var 2) (.cons (.var 3) (.cons (.int 1) .nil)))) (.cons (.tup (.cons (.bin .Add (.var 2) (.var 3)) (.cons (.var 3) .nil))) .nil)))))))))
  (.cons (.asg (.name 5) (.bin .Add (.var 5) (.lst (.cons (.tup (.cons (.int 0) (.cons (.int 1) .nil))) (.cons (.tup (.cons (.int 0) (.cons (.int 2) .nil))) (.cons (.tup (.cons (.int 2) (.cons (.int 1) .nil))) .nil))))))
  (.cons (.ret (.idx (.var 5) (.call "_law_take" (.cons (.var 0) (.cons (.blt .len (.cons (.var 5) .nil)) .nil)))))
  .nil)))))))
def b2':List Str:=["_law_box_here","_law_weights","_law_at","_law_some","_law_made","_law_far","_law_one"]
def bk':List Str:=["len","list","tuple"]
def bl':Css:=(.cons (.asg (.name 2) (.call "_law_take" (.cons (.var 0) (.cons (.blt .len (.cons (.var 1) .nil)) .nil))))
  (.cons (.asg (.name 3) (.lst (.cons (.bin .Add (.idx (.var 1) (.var 2)) (.int 1)) (.cons (.bin .Sub (.idx (.var 1) (.var 2)) (.int 1)) (.cons (.int 0) (.cons (.bl true) (.cons (.str "1") (.cons .non (.cons (.neg (.idx (.var 1) (.var 2))) (.cons (.bin .Mult (.int 2) (.idx (.var 1) (.var 2))) (.cons (.tup (.cons (.int 1) .nil)) (.cons (.int 1) .nil))))))))))))
  (.cons (.asg (.name 4) (.blt .list (.cons (.var 1) .nil)))
  (.cons (.asg (.sub (.var 4) (.var 2)) (.idx (.var 3) (.call "_law_take" (.cons (.var 0) (.cons (.blt .len (.cons (.var 3) .nil)) .nil)))))
  (.cons (.asg (.name 5) (.lst (.cons (.var 4) (.cons (.cut (.var 1) (.some (.int 1)) .none) (.cons (.bin .Add (.var 1) (.lst (.cons (.int 1) .nil))) (.cons (.lst .nil) (.cons .non (.cons (.blt .len (.cons (.var 1) .nil)) (.cons (.blt .tuple (.cons (.var 4) .nil)) (.cons (.lst (.cons (.var 1) .nil)) .nil))))))))))
  (.cons (.expr (.met .append (.var 5) (.cons (.comp (.bin .Mult (.int 2) (.var 6)) [6] (.name 6) (.val (.var 1)) .none .nil) .nil)))
  (.cons (.ret (.idx (.var 5) (.call "_law_take" (.cons (.var 0) (.cons (.blt .len (.cons (.var 5) .nil)) .nil)))))
  .nil)))))))
def gm':List Str:=["_law_box_here","_law_many_here","_law_machine_here","_law_weights","_law_room","_law_ends_here"]
def eT':List Str:=[]
def eU':Css:=(.cons (.asg (.name 1) (.call "_law_many" (.cons (.var 0) (.cons (.int 1) (.cons (.int 5) (.cons (.int 12) .nil))))))
  (.cons (.ite (.cmp .Eq (.call "_law_take" (.cons (.var 0) (.cons (.int 2) .nil))) (.int 0)) (.cons (.asg (.name 2) (.call "_law_ring_machine" (.cons (.var 0) (.cons (.var 1) .nil))))
  (.cons (.ret (.bin .Add (.tup (.cons (.var 2) .nil)) (.call "growth" (.cons (.var 2) (.cons (.idx (.lst (.cons (.call "_law_take" (.cons (.var 0) (.cons (.int 5) .nil))) (.cons (.call "_law_take" (.cons (.var 0) (.cons (.int 30) .nil))) .nil))) (.call "_law_take" (.cons (.var 0) (.cons (.int 2) .nil)))) .nil)))))
  .nil)) .nil)
  (.cons (.asg (.name 2) (.call "_law_machine" (.cons (.var 0) (.cons (.var 1) .nil))))
  (.cons (.asg (.name 3) (.comp (.bin .Add (.int 1) (.call "_law_take" (.cons (.var 0) (.cons (.int 9) .nil)))) [4] (.name 4) (.val (.var 2)) .none .nil))
  (.cons (.asg (.name 5) (.call "_law_ends" (.cons (.var 2) (.cons (.var 3) .nil))))
  (.cons (.ret (.tup (.cons (.var 2) (.cons (.idx (.var 5) (.int 0)) (.cons (.idx (.var 5) (.int 1)) (.cons (.var 3) .nil))))))
  .nil))))))
def gn':List Str:=["_law_box_here","_law_machine_here","_law_low","_law_high","_law_weights","_law_own","_law_room","_law_ends_here","_law_papers","_law_turn","_law_paper","_law_at","_law_one","_law_other","_law_some","_law_found"]
def eV':List Str:=["bool","isinstance","range","tuple"]
def eW':Css:=(.cons (.asg (.tup (.cons (.name 1) (.cons (.name 2) (.cons (.name 3) (.cons (.name 4) .nil))))) (.call "_law_asked" (.cons (.var 0) .nil)))
  (.cons (.asg (.name 5) (.comp (.bin .Add (.int 1) (.call "_law_take" (.cons (.var 0) (.cons (.idx (.lst (.cons (.int 3) (.cons (.bin .Pow (.int 10) (.int 6)) .nil))) (.call "_law_take" (.cons (.var 0) (.cons (.int 2) .nil)))) .nil)))) [6] (.name 6) (.val (.var 1)) .none .nil))
  (.cons (.asg (.name 7) (.call "_law_ends" (.cons (.var 1) (.cons (.var 5) .nil))))
  (.cons (.asg (.name 8) (.lst (.cons (.tup (.cons (.var 2) (.cons (.var 3) (.cons (.var 4) .nil)))) (.cons (.tup (.cons (.var 2) (.cons (.var 3) (.cons (.blt .tuple (.cons (.var 4) .nil)) .nil)))) (.cons (.tup (.cons (.idx (.var 7) (.int 0)) (.cons (.idx (.var 7) (.int 1)) (.cons (.var 5) .nil)))) (.cons (.tup (.cons (.var 2) (.cons (.var 3) (.cons (.var 5) .nil)))) .nil))))))
  (.cons (.for_ (.name 9) (.range1 (.int 8)) (.cons (.asg (.name 10) (.lst (.cons (.var 2) (.cons (.var 3) (.cons (.var 4) .nil)))))
  (.cons (.asg (.name 11) (.call "_law_take" (.cons (.var 0) (.cons (.int 3) .nil))))
  (.cons (.asg (.sub (.var 10) (.var 11)) (.ife (.cmp .Eq (.var 11) (.int 2)) (.call "_law_bent_weights" (.cons (.var 0) (.cons (.var 4) .nil))) (.call "_law_bent_fraction" (.cons (.var 0) (.cons (.idx (.var 10) (.var 11)) .nil)))))
  (.cons (.expr (.met .append (.var 8) (.cons (.blt .tuple (.cons (.var 10) .nil)) .nil)))
  .nil)))))
  (.cons (.for_ (.tup (.cons (.name 12) (.cons (.name 13) (.cons (.name 14) .nil)))) (.val (.var 8)) (.cons (.asg (.name 15) (.call "shows_growth" (.cons (.var 1) (.cons (.var 12) (.cons (.var 13) (.cons (.var 14) .nil))))))
  (.cons (.ite (.or (.not (.val (.blt .isinstance (.cons (.var 15) (.cons (.ty "bool") .nil))))) (.cmp .NotEq (.var 15) (.call "_law_due" (.cons (.var 1) (.cons (.var 12) (.cons (.var 13) (.cons (.var 14) .nil))))))) (.cons (.ret (.bl false))
  .nil) .nil)
  .nil)))
  (.cons (.ret (.and (.call "shows_growth" (.cons (.var 1) (.cons (.var 2) (.cons (.var 3) (.cons (.var 4) .nil))))) (.call "shows_growth" (.cons (.tup .nil) (.cons (.tup (.cons (.int 1) (.cons (.int 1) .nil))) (.cons (.tup (.cons (.int 1) (.cons (.int 1) .nil))) (.cons (.lst .nil) .nil)))))))
  .nil)))))))
def l4':List Str:=["_law_script","_law_k"]
def j6':List Str:=["len","max","min","range"]
def l5':Css:=(.cons (.for_ (.name 1) (.range1 (.blt .max (.cons (.int 3) (.cons (.blt .min (.cons (.blt .len (.cons (.var 0) .nil)) (.cons (.int 10) .nil))) .nil)))) (.cons (.ite (.not (.val (.call "_law_right" (.cons (.call "_law_box" (.cons (.var 0) (.cons (.var 1) .nil))) .nil)))) (.cons (.ret (.bl false))
  .nil) .nil)
  .nil))
  (.cons (.ret (.bl true))
  .nil))
open K30 K31 SR CK RW K28 K29 GR
theorem vs' {K:W.Frag} {H:Hp} {Q:VK} {a:Addr} {vs:List V} {i:Int} {v:V} (hk:SqE K H a vs) (e:atI vs i=some v) (q:Q v H):fM' K (.ref a) (.int i) H Q\/fU' K (.ref a) (.int i) H Q:=by
 obtain⟨k,hk⟩:=hk
 cases k with
 |false=>exact aO' hk e q
 |true=>exact aq' hk e q
def b6' (K:W.Frag):Sp:=fun vs H Q _=>∃(a b:Addr) (M:List Rm) (r:Nat) (c:Bool) (ns:List Int),vs=[.ref a,.ref b,.int r,.str (tx [c])]/\IsM H a M/\OkM M/\r<M.length/\SqE K H b (ns.map V.int)/\ns.length=M.length/\Q (.int (oi ns (LW.stp M r c))) H
theorem fG' {C:Rc} (hN:C.N.length=5):∀vs H Q E,b6' C.K vs H Q E->tSs C be' { nx:=fun _ H'=>Q .non H',rt:=Q } (L2.ax' C.N vs) H:=by
 intro vs H Q E h
 obtain⟨a,b,M,r,c,ns,rfl,hM,hO,hr,hb,hl,q⟩:=h
 rw[aj' hN]
 unfold be'
 walk_at "y"
 refine o2' (c:=c) hM hr fun p hp=>?_
 walk_at "y"
 refine hp _ ?_
 cases e:LW.stp M r c with
 |none=>
  rw[e]at q
  simp only[oV]
  walk_at "y"
  exact q
 |some m=>
  rw[e]at q
  have hm:=LW.em' hO e
  simp only[oV]
  walk_at "y"
  refine vs' hb (v:=.int (ns.getD m 0)) (cN' ?_) q
  rw[aD,ac (by omega)]
  simp[aI,(by omega:m<ns.length)]
def aW' (K:W.Frag):Sp:=fun vs H Q _=>∃(a b:Addr) (M:List Rm) (ns:List Int),vs=[.ref a,.ref b]/\IsM H a M/\OkM M/\M.length<=500/\SqE K H b (ns.map V.int)/\ns.length=M.length/\∀p,H p=none->Q (.ref p) (upd H p (.lst ((wsL M ns M.length).map V.int)))
theorem d4' {C:Rc} (hN:C.N.length=3) (hB:C.fs "behind_bit"=some (b6' C.K)):∀vs H Q E,aW' C.K vs H Q E->tSs C bT' { nx:=fun _ H'=>Q .non H',rt:=Q } (L2.ax' C.N vs) H:=by
 intro vs H Q E h
 obtain⟨a,b,M,ns,rfl,hM,hO,hM5,hb,hl,q⟩:=h
 rw[aj' hN]
 unfold bT'
 obtain⟨rv,ha,hrv⟩:=id hM
 walk_at "y"
 refine cS' (SqT.of ha) ?_
 rw[hrv.len]
 refine f8' (by omega) (by omega) (r4' (fun i xs H'=>H'=H/\xs=(wsL M ns i).map V.int) ⟨rfl,rfl⟩ ?_ ?_)
 .rintro i xs H' R hi ⟨rfl,rfl⟩ hR
  rw[show(0:Int)+(i:Int)=(i:Int) by omega]
  have hi':i<M.length:=by omega
  walk_at "y"
  refine ag' hB ?_
  walk_at "y"
  refine⟨a,b,M,i,false,ns,rfl,hM,hO,hi',hb,hl,?_⟩
  walk_at "y"
  refine ag' hB ?_
  walk_at "y"
  refine⟨a,b,M,i,true,ns,rfl,hM,hO,hi',hb,hl,?_⟩
  walk_at "y"
  refine⟨by rw[ah];unfold wsL;simp;exact an' (by omega),hR _ _ ⟨rfl,?_⟩⟩
  unfold wsL
  rw[bT,aG,aG]
  rfl
 .rintro xs H' ⟨rfl,rfl⟩ p hp
  exact q p hp
def vI:V->Int
 | .int i=>i
 |_=>0
def Ft (H:Hp) (v:V):Option (List V)->Prop
 |some xs=>∃a,v=.ref a/\H a=some (.tup xs)/\∀x∈xs,Val H x
 |none=>∃T∈["NoneType","bool","int","str","list"],aT' H v=some T
theorem Ft.mono {H H':Hp} (s:aG' H H') {v:V} {o:Option (List V)} (h:Ft H v o):Ft H' v o:=by
 cases o with
 |none=>
  obtain⟨T,hT,h⟩:=h
  exact⟨T,hT,gc' s h⟩
 |some xs=>
  obtain⟨a,e,h1,h2⟩:=h
  exact⟨a,e,s _ _ h1,fun x hx=>(h2 x hx).mono s⟩
theorem nh' {K:W.Frag} {H:Hp} {Q:VK} {v:V} {o:Option (List V)} (h:Ft H v o) (q:Q (.bl o.isSome) H):df' K .isinstance [v,.ty "tuple"] H Q:=by
 cases o with
 |none=>
  obtain⟨T,hT,h⟩:=h
  simp only[ai,al,or_false]at hT
  rcases hT with rfl|rfl|rfl|rfl|rfl<;>exact ek' h (k:=false) rfl (by decide) (by decide) q
 |some xs=>
  obtain⟨a,rfl,h1,_⟩:=h
  exact ek' (T:="tuple") (by simp only[aT',h1]) (k:=true) rfl (by decide) (by decide) q
def pr2:Option (List V)->Bool
 |some xs=>decide ((xs.length:Int)=2)
 |none=>false
def cy':Sp:=fun vs H Q _=>∃v o,vs=[v]/\Ft H v o/\Q (.bl (pr2 o)) H
theorem hV' {C:Rc} (hN:C.N.length=1):∀vs H Q E,cy' vs H Q E->tSs C ca' { nx:=fun _ H'=>Q .non H',rt:=Q } (L2.ax' C.N vs) H:=by
 intro vs H Q E h
 obtain⟨v,o,rfl,hv,q⟩:=h
 rw[aj' hN]
 unfold ca'
 walk_at "y"
 refine nh' hv ?_
 cases o with
 |none=>
  simp only[ci]
  walk_at "y"
  exact q
 |some xs=>
  obtain⟨a,rfl,h1,_⟩:=hv
  simp only[ci]
  walk_at "y"
  refine cS' (SqT.of h1) ?_
  walk_at "y"
  exact q
theorem sI' {H:Hp} (o:Option Nat):Val H (oV o):=by
 cases o with
 |none=>exact .inr ⟨fun i z=>(nomatch z),"NoneType",by decide,rfl⟩
 |some x=>exact .inl ⟨_,rfl⟩
theorem hW' {C:Rc} (hN:C.N.length=2) (hP:C.fs "is_pair"=some cy') (hL:C.fs "is_lead"=some fB'):∀vs H Q E,fC' vs H Q E->tSs C cc' { nx:=fun _ H'=>Q .non H',rt:=Q } (L2.ax' C.N vs) H:=by
 intro vs H Q E h
 obtain⟨p,r,N,rfl,hp,hr,q⟩:=h
 rw[aj' hN]
 unfold cc'
 walk_at "y"
 refine ag' hP ?_
 walk_at "y"
 refine⟨.ref p,some [oV r.1,oV r.2],rfl,⟨p,rfl,hp,fun x hx=>?_⟩,?_⟩
 .simp only[ai,al,or_false]at hx
  rcases hx with rfl|rfl<;>exact sI' _
 rw[show pr2 (some [oV r.1,oV r.2])=true from rfl]
 walk_at "y"
 refine ag' hL ?_
 walk_at "y"
 refine aq' (SqT.of hp) (v:=oV r.1) rfl ?_
 walk_at "y"
 refine⟨r.1,N,rfl,hr.1,?_⟩
 walk_at "y"
 refine ag' hL ?_
 walk_at "y"
 refine aq' (SqT.of hp) (v:=oV r.2) rfl ?_
 walk_at "y"
 refine⟨r.2,N,rfl,hr.2,?_⟩
 walk_at "y"
 exact q
def frP (x y:V):Bool:=isN x&&(isN y&&(decide (0<=vI x)&&(decide (1<=vI y)&&decide (aW (vI x).toNat (vI y).toNat=1))))
def frB:Option (List V)->Bool
 |some [x,y]=>frP x y
 |_=>false
theorem go' {xs:List V} (h:¬(xs.length:Int)=2):frB (some xs)=false:=by
 match xs,h with
 | [],_=>rfl
 | [_],_=>rfl
 | [_,_],h=>exact absurd rfl h
 |_ :: _ :: _ :: _,_=>rfl
theorem j7' {xs:List V} (h:(xs.length:Int)=2):∃x y,xs=[x,y]:=by
 match xs,h with
 | [x,y],_=>exact⟨x,y,rfl⟩
 | [],h=>cases h
 | [_],h=>cases h
 |a :: b :: c :: l,h=>simp only[cn]at h;omega
theorem cz' {x:V} (h:isN x=true):∃i,x=.int i:=by
 cases x with
 |int i=>exact⟨i,rfl⟩
 |_=>cases h
def fH':Sp:=fun vs H Q _=>∃v o,vs=[v]/\Ft H v o/\Q (.bl (frB o)) H
theorem j8' {C:Rc} (hN:C.N.length=1) (hP:C.fs "is_pair"=some cy') (hI:C.fs "is_number"=some bI') (hD:C.fs "common_divisor"=some bU'):∀vs H Q E,fH' vs H Q E->tSs C a3' { nx:=fun _ H'=>Q .non H',rt:=Q } (L2.ax' C.N vs) H:=by
 intro vs H Q E h
 obtain⟨v,o,rfl,hv,q⟩:=h
 rw[aj' hN]
 unfold a3'
 walk_at "y"
 refine ag' hP ?_
 walk_at "y"
 refine⟨v,o,rfl,hv,?_⟩
 cases o with
 |none=>
  simp only[pr2]
  walk_at "y"
  exact q
 |some xs=>
  obtain⟨a,rfl,h1,h2⟩:=hv
  simp only[pr2]
  by_cases hl:(xs.length:Int)=2
  case neg=>
   rw[go' hl]at q
   rw[decide_eq_false hl]
   walk_at "y"
   exact q
  obtain⟨x,y,rfl⟩:=j7' hl
  rw[decide_eq_true hl]
  walk_at "y"
  refine ag' hI ?_
  walk_at "y"
  refine aq' (SqT.of h1) (v:=x) rfl ?_
  walk_at "y"
  refine⟨x,rfl,h2 x (by simp),?_⟩
  have q:Q (.bl (frP x y)) H:=q
  unfold frP at q
  cases ex:isN x with
  |false=>
   rw[ex,aS]at q
   walk_at "y"
   exact q
  |true=>
   rw[ex,aM]at q
   walk_at "y"
   refine ag' hI ?_
   walk_at "y"
   refine aq' (SqT.of h1) (v:=y) rfl ?_
   walk_at "y"
   refine⟨y,rfl,h2 y (by simp),?_⟩
   cases ey:isN y with
   |false=>
    rw[ey,aS]at q
    walk_at "y"
    exact q
   |true=>
    rw[ey,aM]at q
    obtain⟨i,rfl⟩:=cz' ex
    obtain⟨j,rfl⟩:=cz' ey
    have q:Q (.bl (decide (0<=i)&&(decide (1<=j)&&decide (aW i.toNat j.toNat=1)))) H:=q
    walk_at "y"
    refine aq' (SqT.of h1) (v:=.int i) rfl ?_
    walk_at "y"
    by_cases hi:0<=i
    case neg=>
     rw[decide_eq_false hi,aS]at q
     rw[decide_eq_false hi]
     walk_at "y"
     exact q
    rw[decide_eq_true hi,aM]at q
    rw[decide_eq_true hi]
    walk_at "y"
    refine aq' (SqT.of h1) (v:=.int j) rfl ?_
    walk_at "y"
    by_cases hj:1<=j
    case neg=>
     rw[decide_eq_false hj,aS]at q
     rw[decide_eq_false hj]
     walk_at "y"
     exact q
    rw[decide_eq_true hj,aM]at q
    rw[decide_eq_true hj]
    walk_at "y"
    refine ag' hD ?_
    walk_at "y"
    refine aq' (SqT.of h1) (v:=.int i) rfl ?_
    walk_at "y"
    refine aq' (SqT.of h1) (v:=.int j) rfl ?_
    walk_at "y"
    obtain⟨n,rfl⟩:=aA hi
    obtain⟨m,rfl⟩:=aA (show 0<=j by omega)
    refine⟨n,m,rfl,?_⟩
    walk_at "y"
    rw[aT,aT]at q
    have e:decide (((aW n m:Nat):Int)=1)=decide (aW n m=1):=decide_eq_decide.mpr ⟨fun h=>by omega,fun h=>by omega⟩
    rw[e]
    exact q
def fN:Option (List V)->Nat
 |some [x,_]=>(vI x).toNat
 |_=>0
def fD:Option (List V)->Nat
 |some [_,y]=>(vI y).toNat
 |_=>0
theorem Ft.good {H:Hp} {v:V} {o:Option (List V)} (h:Ft H v o) (g:frB o=true):∃a,v=.ref a/\H a=some (.tup [.int (fN o),.int (fD o)])/\1<=fD o/\aW (fN o) (fD o)=1:=by
 cases o with
 |none=>cases g
 |some xs=>
  obtain⟨a,rfl,h1,_⟩:=h
  by_cases hl:(xs.length:Int)=2
  case neg=>rw[go' hl]at g;cases g
  obtain⟨x,y,rfl⟩:=j7' hl
  have g:frP x y=true:=g
  unfold frP at g
  simp only[af,decide_eq_true_eq]at g
  obtain⟨g1,g2,g3,g4,g5⟩:=g
  obtain⟨i,rfl⟩:=cz' g1
  obtain⟨j,rfl⟩:=cz' g2
  simp only[vI]at g3 g4 g5
  refine⟨a,rfl,?_,?_,g5⟩
  .rw[h1]
   show _=some (HO.tup [V.int ((i.toNat:Nat):Int),V.int ((j.toNat:Nat):Int)])
   rw[Int.toNat_of_nonneg g3,Int.toNat_of_nonneg (show 0<=j by omega)]
  .show 1<=j.toNat
   omega
def dv':Sp:=fun vs H Q _=>∃(v:V) (l:Int),vs=[v,.int l]/\Val H v/\Q (.bl (isN v&&decide (l<=vI v))) H
theorem j9' {C:Rc} (hN:C.N.length=2):∀vs H Q E,dv' vs H Q E->tSs C ck' { nx:=fun _ H'=>Q .non H',rt:=Q } (L2.ax' C.N vs) H:=by
 intro vs H Q E h
 obtain⟨v,l,rfl,hv,q⟩:=h
 rw[aj' hN]
 unfold ck'
 walk_at "y"
 rcases hv with⟨i,rfl⟩|⟨h0,T,hT,hv⟩
 .refine ek' (T:="int") rfl (k:=true) rfl (by decide) (by decide) ?_
  walk_at "y"
  refine ek' (T:="int") rfl (k:=false) rfl (by decide) (by decide) ?_
  walk_at "y"
  exact q
 .rw[m9' h0,aS]at q
  simp only[ai,al,or_false]at hT
  rcases hT with rfl|rfl|rfl|rfl|rfl
  .refine ek' hv (k:=false) rfl (by decide) (by decide) ?_
   walk_at "y"
   exact q
  .refine ek' hv (k:=true) rfl (by decide) (by decide) ?_
   walk_at "y"
   refine ek' hv (k:=true) rfl (by decide) (by decide) ?_
   walk_at "y"
   exact q
  .refine ek' hv (k:=false) rfl (by decide) (by decide) ?_
   walk_at "y"
   exact q
  .refine ek' hv (k:=false) rfl (by decide) (by decide) ?_
   walk_at "y"
   exact q
  .refine ek' hv (k:=false) rfl (by decide) (by decide) ?_
   walk_at "y"
   exact q
theorem hX' {C:Rc} (hN:C.N.length=4):∀vs H Q E,bp' vs H Q E->tSs C eS' { nx:=fun _ H'=>Q .non H',rt:=Q } (L2.ax' C.N vs) H:=by
 intro vs H Q E h
 obtain⟨x,y,rfl,hy,hy2,q⟩:=h
 rw[aj' hN]
 unfold eS'
 walk_at "y"
 refine m0' (fun m σ H'=>H'=H/\∃u v:Nat,σ=[some (.int x),some (.int y),some (.int u),some (.int v)]/\m=v/\aW u v=aW x y) y ⟨rfl,x,y,rfl,rfl,rfl⟩ ?_
 rintro m σ H' ⟨rfl,u,v,rfl,rfl,hg⟩
 walk_at "y"
 refine b5' (fun hv=>m1' ?_) fun hv=>m2' ?_
 .walk_at "y"
  refine⟨by omega,u % m,Nat.mod_lt _ (by omega),trivial,m,u % m,?_,rfl,?_⟩
  .rw[Int.natCast_emod]
  .rw[<- hg,Nat.gcd_comm u m,Nat.gcd_rec m u,Nat.gcd_comm]
 .have hm:m=0:=by omega
  subst hm
  rw[Nat.gcd_zero_right]at hg
  have hd:=fE' (i:=x) (au (gO' (x:=x) hy) hy2) (en' (x:=x) hy)
  rw[hg]
  walk_at "y"
  refine⟨hd,hd,by decide,fun p hp=>?_⟩
  have:=q p hp
  rw[Int.natCast_ediv,Int.natCast_ediv]at this
  exact this
def BdF (o:Option (List V)):Prop:=fN o<=3 ^ 61/\fD o<=3 ^ 61
theorem l6' {n m:Nat} (h:1<=m):decide ([V.int ((n / aW n m:Nat):Int),V.int ((m / aW n m:Nat):Int)]=[V.int (n:Int),V.int (m:Int)])=decide (aW n m=1):=by
 apply decide_eq_decide.mpr
 constructor
 .intro e
  simp only[List.cons.injEq,V.int.injEq,and_true]at e
  have e2:m / aW n m=m:=by have:=e.2;omega
  rcases Nat.div_eq_self.mp e2 with z|z
  .omega
  .exact z
 .intro e
  rw[e,Nat.div_one,Nat.div_one]
theorem w0' {a b c d:Int}:LEq [V.int a,V.int b] [V.int c,V.int d]:=by
 intro i x y hx hy
 match i,hx,hy with
 |0,hx,hy=>cases hx;cases hy;exact .inl ⟨rfl,fun b z=>(nomatch z)⟩
 |1,hx,hy=>cases hx;cases hy;exact .inl ⟨rfl,fun b z=>(nomatch z)⟩
 |n+2,hx,_=>cases hx
def ka':Sp:=fun vs H Q _=>∃v o,vs=[v]/\Ft H v o/\BdF o/\∀H',aG' H H'->Q (.bl (frB o)) H'
theorem l7' {C:Rc} (hN:C.N.length=1) (hI:C.fs "_law_is_number"=some dv') (hT:C.fs "_law_terms"=some bp'):∀vs H Q E,ka' vs H Q E->tSs C by' { nx:=fun _ H'=>Q .non H',rt:=Q } (L2.ax' C.N vs) H:=by
 intro vs H Q E h
 obtain⟨v,o,rfl,hv,hb,q⟩:=h
 rw[aj' hN]
 unfold by'
 walk_at "y"
 refine nh' hv ?_
 cases o with
 |none=>
  simp only[ci]
  walk_at "y"
  exact q _ (aG'.refl _)
 |some xs=>
  obtain⟨a,rfl,h1,h2⟩:=hv
  simp only[ci]
  walk_at "y"
  refine cS' (SqT.of h1) ?_
  walk_at "y"
  by_cases hl:(xs.length:Int)=2
  case neg=>
   rw[go' hl]at q
   rw[decide_eq_false hl]
   walk_at "y"
   exact q _ (aG'.refl _)
  obtain⟨x,y,rfl⟩:=j7' hl
  rw[decide_eq_true hl]
  walk_at "y"
  refine ag' hI ?_
  walk_at "y"
  refine aq' (SqT.of h1) (v:=x) rfl ?_
  walk_at "y"
  refine⟨x,0,rfl,h2 x (by simp),?_⟩
  have q:∀H',aG' H H'->Q (.bl (frP x y)) H':=q
  unfold frP at q
  cases ex:isN x&&decide (0<=vI x)with
  |false=>
   have e:(isN x&&(isN y&&(decide (0<=vI x)&&(decide (1<=vI y)&&decide (aW (vI x).toNat (vI y).toNat=1)))))=false:=by
    cases e1:isN x with
    |false=>rfl
    |true=>rw[e1,aM]at ex;rw[ex,aS,Bool.and_false,Bool.and_false]
   rw[e]at q
   walk_at "y"
   exact q _ (aG'.refl _)
  |true=>
   rw[af]at ex
   rw[ex.1,ex.2,aM,aM]at q
   walk_at "y"
   refine ag' hI ?_
   walk_at "y"
   refine aq' (SqT.of h1) (v:=y) rfl ?_
   walk_at "y"
   refine⟨y,1,rfl,h2 y (by simp),?_⟩
   cases ey:isN y&&decide (1<=vI y)with
   |false=>
    have e:(isN y&&(decide (1<=vI y)&&decide (aW (vI x).toNat (vI y).toNat=1)))=false:=by
     rw[<- Bool.and_assoc,ey,aS]
    rw[e]at q
    walk_at "y"
    exact q _ (aG'.refl _)
   |true=>
    rw[af]at ey
    rw[ey.1,ey.2,aM,aM]at q
    obtain⟨i,rfl⟩:=cz' ex.1
    obtain⟨j,rfl⟩:=cz' ey.1
    have hi:0<=i:=of_decide_eq_true ex.2
    have hj:1<=j:=of_decide_eq_true ey.2
    obtain⟨n,rfl⟩:=aA hi
    obtain⟨m,rfl⟩:=aA (show 0<=j by omega)
    have hm:1<=m:=by omega
    have hm2:m<=3 ^ 61:=hb.2
    simp only[vI,aT]at q
    walk_at "y"
    refine ag' hT ?_
    walk_at "y"
    refine aq' (SqT.of h1) (v:=.int n) rfl ?_
    walk_at "y"
    refine aq' (SqT.of h1) (v:=.int m) rfl ?_
    walk_at "y"
    refine⟨n,m,rfl,hm,hm2,fun p hp=>?_⟩
    walk_at "y"
    refine r7' (a:=p) (b:=a) aa' ((ah' hp _) _ _ h1) rfl w0' ?_
    rw[l6' hm]
    exact q _ (ah' hp _)
def gW' (v:V):Bool:=isN v&&decide (1<=vI v)
def arW (n:Int):Option (List V)->Bool
 |some vs=>decide ((vs.length:Int)=n)&&vs.all gW'
 |none=>false
def fI':Sp:=fun vs H Q _=>∃v n o,vs=[v,.int n]/\Tl H v o/\∀H',aG' H H'->Q (.bl (arW n o)) H'
theorem l8' {vs:List V}:vs.all gW'=(vs.all isN&&vs.all fun v=>decide (1<=vI v)):=by
 induction vs with
 |nil=>rfl
 |cons v vs ih=>
  rw[bX,bX,bX,ih]
  unfold gW'
  cases isN v<;>cases decide (1<=vI v)<;>simp
theorem kb' {C:Rc} (hN:C.N.length=3) (hA:C.fs "are_numbers"=some dV'):∀vs H Q E,fI' vs H Q E->tSs C a6' { nx:=fun _ H'=>Q .non H',rt:=Q } (L2.ax' C.N vs) H:=by
 intro vs H Q E h
 obtain⟨v,n,o,rfl,hv,q⟩:=h
 rw[aj' hN]
 unfold a6'
 walk_at "y"
 refine ag' hA ?_
 walk_at "y"
 refine⟨v,n,o,rfl,hv,fun H1 s1=>?_⟩
 have hv1:=hv.mono s1
 cases o with
 |none=>
  simp only[arN]
  walk_at "y"
  exact q H1 s1
 |some vs=>
  obtain⟨a,rfl,hk,hvs,hz⟩:=hv1
  simp only[arN]
  simp only[arW,l8']at q
  rw[<- Bool.and_assoc]at q
  cases e:decide ((vs.length:Int)=n)&&vs.all isN with
  |false=>
   rw[e,aS]at q
   walk_at "y"
   exact q H1 s1
  |true=>
   rw[e,aM]at q
   rw[af]at e
   have hi:=e.2
   walk_at "y"
   refine o1' hk (fun i xs H'=>xs=((vs.take i).map fun v=>decide (1<=vI v)).map V.bl/\i<=vs.length/\H'=H1) ⟨rfl,aC _,rfl⟩ (fun i xs H' pv=>by rw[pv.2.2];exact aG'.refl _) ?_ ?_
   .rintro i xs H' x R hx ⟨rfl,hi',rfl⟩ hR
    have hi':=au' hx
    obtain⟨k,rfl⟩:=cz' (bj.mp hi x (aX hx))
    walk_at "y"
    refine⟨by simp;exact an' (by omega),hR _ _ ⟨?_,by omega,rfl⟩⟩
    rw[List.take_succ,hx,aG,aG]
    rfl
   .rintro xs H' ⟨rfl,_,rfl⟩ p hp
    walk_at "y"
    refine fx' (SqL.of aa') ?_
    rw[List.take_length]
    rw[show(vs.map fun v=>decide (1<=vI v)).all id=vs.all fun v=>decide (1<=vI v) by rw[List.all_map];rfl]
    exact q _ (s1.trans (ah' hp _))
def okG (M:List Rm) (ol oh:Option (List V)) (w:Nat->Nat):Bool:=(aE M.length).all fun r=>decide (fN ol*w r<=st1 M w r*fD ol)&&decide (st1 M w r*fD oh<=fN oh*w r)
def gdW (M:List Rm) (ol oh:Option (List V)):Option (List V)->Bool
 |some vs=>decide ((vs.length:Int)=M.length)&&(vs.all gW'&&okG M ol oh (fv vs))
 |none=>false
def gdG (M:List Rm) (ol oh o:Option (List V)):Bool:=frB ol&&(frB oh&&gdW M ol oh o)
theorem kc' {M:List Rm} {vs:List V} (hl:(vs.length:Int)=M.length) (h:vs.all gW'=true):vs=(wL M (fv vs)).map nV:=by
 refine sz' (by omega) (bj.mpr fun x hx=>?_)
 have:=bj.mp h x hx
 unfold gW' at this
 rw[af]at this
 obtain⟨i,rfl⟩:=cz' this.1
 have hi:1<=i:=of_decide_eq_true this.2
 exact decide_eq_true (by omega)
theorem sJ' {vs:List V} {o:Option (List V)} (e:o=some vs) (h:Bd o) (r:Nat):fv vs r<=2 ^ 90:=by
 unfold fv
 rw[aI]
 cases hx:vs[r]? with
 |none=>exact aC _
 |some x=>exact h vs e x (aX hx)
theorem fJ' {M:List Rm} {w:Nat->Nat} {b r:Nat} (h:∀r,w r<=b):st1 M w r<=2*b:=by
 unfold st1
 have h1:=hU' h (LW.stp M r false)
 have h2:=hU' h (LW.stp M r true)
 omega
theorem pa' {M:List Rm} {w:Nat->Nat}:((wL M w).map fun n:Nat=>(n:Int)).map V.int=(wL M w).map nV:=by
 rw[cx]
 rfl
structure FsSG (C:Rc):Prop where
 isM:C.fs "is_machine"=some ge'
 isFr:C.fs "is_fraction"=some fH'
 areW:C.fs "are_weights"=some fI'
 ways:C.fs "way_sums"=some (aW' C.K)
 most:C.fs "is_at_most"=some bV'
def ku':Sp:=fun vs H Q _=>∃(a:Addr) (M:List Rm) (lo hi v:V) (ol oh o:Option (List V)),vs=[.ref a,lo,hi,v]/\IsM H a M/\OkM M/\M.length<=60/\Ft H lo ol/\BdF ol/\Ft H hi oh/\BdF oh/\Tl H v o/\Bd o/\∀H',aG' H H'->Q (.bl (gdG M ol oh o)) H'
theorem pb' {C:Rc} (hN:C.N.length=6) (F:FsSG C):∀vs H Q E,ku' vs H Q E->tSs C aS' { nx:=fun _ H'=>Q .non H',rt:=Q } (L2.ax' C.N vs) H:=by
 intro vs H Q E h
 obtain⟨a,M,lo,hi,v,ol,oh,o,rfl,hM,hO,hl,hlo,bl,hhi,bh,hv,bv,q⟩:=h
 rw[aj' hN]
 unfold aS'
 walk_at "y"
 refine ag' F.isM ?_
 walk_at "y"
 refine⟨a,M,rfl,hM,hO,by omega,fun H1 s1=>?_⟩
 walk_at "y"
 refine ag' F.isFr ?_
 walk_at "y"
 refine⟨lo,ol,rfl,hlo.mono s1,?_⟩
 unfold gdG at q
 cases el:frB ol with
 |false=>
  rw[el,aS]at q
  walk_at "y"
  exact q H1 s1
 |true=>
  rw[el,aM]at q
  walk_at "y"
  refine ag' F.isFr ?_
  walk_at "y"
  refine⟨hi,oh,rfl,hhi.mono s1,?_⟩
  cases eh:frB oh with
  |false=>
   rw[eh,aS]at q
   walk_at "y"
   exact q H1 s1
  |true=>
   rw[eh,aM]at q
   obtain⟨mv,hmv,hmr⟩:=id hM
   have hml:=hmr.len
   obtain⟨pl,rfl,hpl,l1,_⟩:=hlo.good el
   obtain⟨ph,rfl,hph,h1,_⟩:=hhi.good eh
   walk_at "y"
   refine ag' F.areW ?_
   walk_at "y"
   refine cS' (SqT.of (s1 _ _ hmv)) ?_
   rw[hml]
   walk_at "y"
   refine⟨v,_,o,rfl,hv.mono s1,fun H2 s2=>?_⟩
   have s12:=s1.trans s2
   cases o with
   |none=>
    simp only[arW]
    walk_at "y"
    exact q H2 s12
   |some vs=>
    obtain⟨w,rfl,hk,hvs,hz⟩:=hv
    simp only[arW]
    simp only[gdW]at q
    rw[<- Bool.and_assoc]at q
    cases e:decide ((vs.length:Int)=M.length)&&vs.all gW' with
    |false=>
     rw[e,aS]at q
     walk_at "y"
     exact q H2 s12
    |true=>
     rw[e,aM]at q
     rw[af,decide_eq_true_eq]at e
     have evs:=kc' e.1 e.2
     have hf:=sJ' rfl bv
     generalize fv vs=u at evs hf q
     subst evs
     have hk2:=hk.mono s12
     walk_at "y"
     refine ag' F.ways ?_
     walk_at "y"
     refine⟨a,w,M,(wL M u).map fun n:Nat=>(n:Int),rfl,hM.mono (aF' s12),hO,by omega,by rw[pa'];exact sA' hk2,by rw[ah,aV'],fun y hy=>?_⟩
     rw[sx' hO]
     have s3:=ah' hy (.lst ((wL M (st1 M u)).map nV))
     have hy3:upd H2 y (.lst ((wL M (st1 M u)).map nV)) y=some (.lst ((wL M (st1 M u)).map nV)):=aa'
     generalize upd H2 y (.lst ((wL M (st1 M u)).map nV))=H3 at s3 hy3 ⊢
     have s13:=s12.trans s3
     walk_at "y"
     obtain⟨kb,hkb⟩:=sA' (K:=C.K) (hk2.mono s3)
     refine sn' (k:=false) (SqL.of hy3) hkb (by rw[ah,ah,aV',aV']) fun l as H4 hl4 s4 has hl4' hal hat=>?_
     have s4:aG' H3 H4:=s4
     have s14:=s13.trans s4
     rw[ah,aV']at hal
     walk_at "y"
     refine cu' (SqL.of hl4') (jE' (fun i xs H'=>i<=M.length/\xs=((aE i).map fun r=>decide (fN ol*u r<=st1 M u r*fD ol)&&decide (st1 M u r*fD oh<=fN oh*u r)).map V.bl/\H'=H4) ⟨aC _,rfl,rfl⟩ (fun i xs H' pv=>by rw[pv.2.2];exact SqL.of hl4') ?_ ?_)
     .rintro i xs H' x R hx ⟨_,rfl,rfl⟩ hR
      have hi:=au' hx
      rw[ah,hal]at hi
      rw[aD]at hx
      obtain⟨px,hpx,rfl⟩:=Option.map_eq_some_iff.mp hx
      have hpt:=hat i px (nV (st1 M u i)) (nV (u i)) hpx (by rw[aD,cw' hi];rfl) (by rw[aD,cw' hi];rfl)
      have b1:st1 M u i<=3 ^ 61:=au (fJ' hf) (by decide)
      have b2:u i<=3 ^ 61:=au (hf i) (by decide)
      walk_at "y"
      refine ag' F.most ?_
      walk_at "y"
      refine⟨pl,px,_,_,_,_,rfl,s14 _ _ hpl,hpt,bl.1,bl.2,b1,b2,?_⟩
      have fin:∀k:Bool,k=(decide (fN ol*u i<=st1 M u i*fD ol)&&decide (st1 M u i*fD oh<=fN oh*u i))->(((aE i).map fun r=>decide (fN ol*u r<=st1 M u r*fD ol)&&decide (st1 M u r*fD oh<=fN oh*u r)).map V.bl).length<sizeLine/\R (((aE i).map fun r=>decide (fN ol*u r<=st1 M u r*fD ol)&&decide (st1 M u r*fD oh<=fN oh*u r)).map V.bl++[.bl k]) H':=by
       rintro k rfl
       refine⟨by simp;exact an' (by omega),hR _ _ ⟨hi,?_,rfl⟩⟩
       rw[bT,aG,aG]
       rfl
      cases e1:decide (fN ol*u i<=st1 M u i*fD ol)with
      |false=>
       walk_at "y"
       exact fin false (by rw[e1];rfl)
      |true=>
       walk_at "y"
       refine ag' F.most ?_
       walk_at "y"
       refine⟨px,ph,_,_,_,_,rfl,hpt,s14 _ _ hph,b1,b2,bh.1,bh.2,?_⟩
       walk_at "y"
       exact fin _ (by rw[e1,aM])
     .rintro xs H' ⟨_,rfl,rfl⟩ p hp
      rw[ah,hal]
      walk_at "y"
      refine fx' (SqL.of aa') ?_
      rw[show((aE M.length).map fun r=>decide (fN ol*u r<=st1 M u r*fD ol)&&decide (st1 M u r*fD oh<=fN oh*u r)).all id=okG M ol oh u by unfold okG;rw[List.all_map];rfl]
      exact q _ (s14.trans (ah' hp _))
theorem fK' {C:Rc} (hN:C.N.length=11) (hW:C.fs "way_sums"=some (aW' C.K)) (hF:C.fs "fraction_of"=some bp') (hA:C.fs "is_at_most"=some bV'):∀vs H Q E,cH' vs H Q E->tSs C cG' { nx:=fun _ H'=>Q .non H',rt:=Q } (L2.ax' C.N vs) H:=by
 intro vs H Q E h
 obtain⟨a,M,n,rfl,hM,hO,hM1,hM2,hn,q⟩:=h
 rw[aj' hN]
 unfold cG'
 obtain⟨rv,ha,hrv⟩:=id hM
 walk_at "y"
 refine bH' (SqT.of ha) (eg' (vs:=rv) (fun i xs H'=>H'=H/\xs=((aE i).map fun r=>((gw M 0 r:Nat):Int)).map V.int) ⟨rfl,rfl⟩ (fun i xs H' pv=>by rw[pv.1];exact SqT.of ha) ?_ ?_)
 .rintro i xs H' x R hx ⟨rfl,rfl⟩ hR
  have hi:=au' hx
  rw[hrv.len]at hi
  walk_at "y"
  refine⟨by simp;exact an' (by omega),hR _ _ ⟨rfl,?_⟩⟩
  rw[bT,aG,aG]
  rfl
 rintro xs H' ⟨rfl,rfl⟩ w0 hw0
 rw[hrv.len]
 have s1:=ah' hw0 (.lst (((aE M.length).map fun r=>((gw M 0 r:Nat):Int)).map V.int))
 have hw1:upd H' w0 (.lst (((aE M.length).map fun r=>((gw M 0 r:Nat):Int)).map V.int)) w0=some (.lst ((gwL M 0).map V.int)):=aa'
 generalize upd H' w0 (.lst (((aE M.length).map fun r=>((gw M 0 r:Nat):Int)).map V.int))=H1 at s1 hw1 ⊢
 walk_at "y"
 refine f8' (by omega) (by omega) (hN' (fun i σ H2=>aG' H' H2/\∃w x3 x4 x5 x6 x7 x8 x9 x10,σ=[some (.ref a),some (.int n),some (.ref w),x3,x4,x5,x6,x7,x8,x9,x10]/\H' w=none/\H2 w=some (.lst ((gwL M i).map V.int))) ⟨s1,w0,none,none,none,none,none,none,none,none,rfl,hw0,hw1⟩ ?_ ?_)
 .rintro i σ H2 hi ⟨s2,w,x3,x4,x5,x6,x7,x8,x9,x10,rfl,hw,hw2⟩
  walk_at "y"
  refine ag' hW ?_
  walk_at "y"
  refine⟨a,w,M,gwL M i,rfl,hM.mono (aF' s2),hO,by omega,⟨false,SqL.of hw2⟩,cT',fun y hy=>?_⟩
  rw[ng' hO]
  have s3:=ah' hy (.lst ((twL M i).map V.int))
  have hy3:upd H2 y (.lst ((twL M i).map V.int)) y=some (.lst ((twL M i).map V.int)):=aa'
  generalize upd H2 y (.lst ((twL M i).map V.int))=H3 at s3 hy3 ⊢
  have hw3:=s3 _ _ hw2
  refine f9' (SqL.of hw3) (SqL.of hy3) (o8' (by decide) (by simp[clr]) (by simp[clr]) hM2 hw3 hy3 fun p H4 hp s4 hp4=>?_)
  walk_at "y"
  exact⟨s2.trans (s3.trans s4),p,_,_,_,_,_,_,_,_,rfl,(s2.trans s3).free hp,hp4⟩
 rintro σ H2 ⟨s2,w,x3,x4,x5,x6,x7,x8,x9,x10,rfl,hw,hw2⟩
 rw[aT]at hw2
 walk_at "y"
 refine ag' hW ?_
 walk_at "y"
 refine⟨a,w,M,gwL M n,rfl,hM.mono (aF' s2),hO,by omega,⟨false,SqL.of hw2⟩,cT',fun y hy=>?_⟩
 rw[ng' hO]
 have s3:=ah' hy (.lst ((twL M n).map V.int))
 have hy3:upd H2 y (.lst ((twL M n).map V.int)) y=some (.lst ((twL M n).map V.int)):=aa'
 generalize upd H2 y (.lst ((twL M n).map V.int))=H3 at s3 hy3 ⊢
 have hw3:=s3 _ _ hw2
 refine f9' (SqL.of hw3) (SqL.of hy3) (m3' (vs:=(gwL M n).map V.int) (ws:=(twL M n).map V.int) (by rw[ah,ah,cT',gg']) (fun k xs H4=>aG' H3 H4/\k<=M.length/\dC' (fun v r=>∃p,v=V.ref p/\d3' H4 p (fp M n r) (fq M n r)) xs (aE k)) ⟨aG'.refl _,by omega,trivial⟩ (fun k xs H4 pv=>⟨SqL.of (pv.1 _ _ hw3),SqL.of (pv.1 _ _ hy3)⟩) ?_ ?_)
 .rintro k xs H4 x z p R hx hz hp ⟨s4,_,hxs⟩ hR
  obtain⟨hk,rfl⟩:=ne' hx
  obtain⟨_,rfl⟩:=nf' hz
  refine dT' (SqT.of aa') ?_
  have s5:=ah' hp (.tup [V.int (gw M n k),V.int (tw M n k)])
  generalize upd H4 p (.tup [V.int (gw M n k),V.int (tw M n k)])=H5 at s5 ⊢
  walk_at "y"
  refine ag' hF ?_
  walk_at "y"
  refine⟨tw M n k,gw M n k,rfl,dW',nd' hn,fun f hf=>?_⟩
  have s6:=ah' hf (.tup [.int ((fp M n k:Nat):Int),.int ((fq M n k:Nat):Int)])
  have hf6:upd H5 f (.tup [.int ((fp M n k:Nat):Int),.int ((fq M n k:Nat):Int)]) f=some (.tup [.int ((fp M n k:Nat):Int),.int ((fq M n k:Nat):Int)]):=aa'
  show ga' xs R (.ref f) (upd H5 f (.tup [.int ((fp M n k:Nat):Int),.int ((fq M n k:Nat):Int)]))
  generalize upd H5 f (.tup [.int ((fp M n k:Nat):Int),.int ((fq M n k:Nat):Int)])=H6 at s6 hf6 ⊢
  have hl:=hxs.len
  rw[bQ]at hl
  refine⟨an' (by omega),hR _ _ ⟨s4.trans (s5.trans s6),by omega,?_⟩⟩
  rw[bT]
  exact dC'.snoc (hxs.mono fun v r ⟨p,e,h⟩=>⟨p,e,(s5.trans s6) _ _ h⟩) ⟨f,rfl,hf6⟩
 rintro xs H4 ⟨s4,_,hxs⟩ fl hfl
 rw[ah,cT']at hxs
 have hlx:=hxs.len
 rw[bQ]at hlx
 have s5:=ah' hfl (.lst xs)
 have hfl5:upd H4 fl (.lst xs) fl=some (.lst xs):=aa'
 generalize upd H4 fl (.lst xs)=H5 at s5 hfl5 ⊢
 replace hxs:=hxs.mono fun v r ⟨p,e,h⟩=>(⟨p,e,s5 _ _ h⟩:∃p,v=V.ref p/\d3' H5 p (fp M n r) (fq M n r))
 have hw5:=(s4.trans s5) _ _ hw3
 obtain⟨v0,e0,f0,rfl,hf0⟩:=hxs.get (i:=0) (b:=0) (by rw[bu (by omega)])
 have ea:atI xs 0=some (.ref f0):=by
  have:=cN' (j:=0) e0
  exact this
 walk_at "y"
 rw[nc']
 walk_at "y"
 refine aO' (SqL.of hfl5) ea ?_
 simp only[nc',lY']
 walk_at "y"
 refine cu' (SqL.of hfl5) (rZ' (xs:=xs) (fun i σ H6=>H6=H5/\∃l h x3 x4 x5 x6 x10 p q u v,σ=[some (.ref a),some (.int n),some (.ref w),x3,x4,x5,x6,some (.ref fl),some (.ref l),some (.ref h),x10]/\d3' H5 l p q/\d3' H5 h u v/\sG' M n i p q/\sH' M n i u v)
   ⟨rfl,f0,f0,_,_,_,_,_,_,_,_,_,rfl,hf0,hf0,⟨gP',eo',gj' hn,gk' hn,(fun r hr=>by omega),0,by omega,fF'⟩,⟨gP',eo',gj' hn,gk' hn,(fun r hr=>by omega),0,by omega,fF'⟩⟩ (fun i σ H6 _ pv=>by rw[pv.1];exact SqL.of hfl5) ?_ ?_)
 .rintro i x σ H6 hx ⟨rfl,l,h,x3,x4,x5,x6,x10,p,q,u,v,rfl,hl,hh,hlo,hhi⟩
  obtain⟨r',er,f,rfl,hf⟩:=hxs.getL hx
  have hi:i<M.length:=by rw[<- hlx];exact au' hx
  rw[bu hi]at er
  cases er
  walk_at "y"
  refine ag' hA ?_
  walk_at "y"
  refine⟨f,l,_,_,p,q,rfl,hf,hl,gj' hn,gk' hn,hlo.2.2.1,hlo.2.2.2.1,?_⟩
  walk_at "y"
  refine b5' (fun hc=>?_) fun hc=>?_
  .have hlo':=o6' hlo hi hn hc
   walk_at "y"
   refine ag' hA ?_
   walk_at "y"
   refine⟨h,f,u,v,_,_,rfl,hh,hf,hhi.2.2.1,hhi.2.2.2.1,gj' hn,gk' hn,?_⟩
   walk_at "y"
   refine b5' (fun hd=>?_) fun hd=>?_
   .walk_at "y"
    exact⟨trivial,f,f,_,_,_,_,_,_,_,_,_,rfl,hf,hf,hlo',jZ' hhi hi hn hd⟩
   .walk_at "y"
    exact⟨trivial,f,h,_,_,_,_,_,_,_,_,_,rfl,hf,hh,hlo',j0' hhi hd⟩
  .have hlo':=o7' hlo hc
   walk_at "y"
   refine ag' hA ?_
   walk_at "y"
   refine⟨h,f,u,v,_,_,rfl,hh,hf,hhi.2.2.1,hhi.2.2.2.1,gj' hn,gk' hn,?_⟩
   walk_at "y"
   refine b5' (fun hd=>?_) fun hd=>?_
   .walk_at "y"
    exact⟨trivial,l,f,_,_,_,_,_,_,_,_,_,rfl,hl,hf,hlo',jZ' hhi hi hn hd⟩
   .walk_at "y"
    exact⟨trivial,l,h,_,_,_,_,_,_,_,_,_,rfl,hl,hh,hlo',j0' hhi hd⟩
 .rintro σ H6 ⟨rfl,l,h,x3,x4,x5,x6,x10,p,q',u,v,rfl,hl,hh,hlo,hhi⟩
  rw[hlx]at hlo hhi
  walk_at "y"
  refine⟨by decide,fun t ht=>?_⟩
  have s6:=ah' ht (.tup [V.ref l,V.ref h,V.ref w])
  exact q t l h w p q' u v _ (s2.trans (s3.trans (s4.trans (s5.trans s6)))) hw aa' (s6 _ _ hl) (s6 _ _ hh) (s6 _ _ hw5) ⟨hlo.1,hlo.2.1,hlo.2.2.2.2.1,hlo.2.2.2.2.2⟩ ⟨hhi.1,hhi.2.1,hhi.2.2.2.2.1,hhi.2.2.2.2.2⟩
def cA':Sp:=fun vs H Q _=>∃(a w:Addr) (M:List Rm) (u:Nat->Nat),vs=[.ref a,.ref w]/\IsM H a M/\OkM M/\M.length<=100/\Lt H w ((wL M u).map nV)/\∀(p:Addr) (H':Hp),H p=none->aG' H H'->H' p=some (.lst ((wL M (st1 M u)).map nV))->Q (.ref p) H'
theorem hY' {C:Rc} (hN:C.N.length=5):∀vs H Q E,cA' vs H Q E->tSs C gT' { nx:=fun _ H'=>Q .non H',rt:=Q } (L2.ax' C.N vs) H:=by
 intro vs H Q E h
 obtain⟨a,w,M,u,rfl,hM,hO,hM2,hw,q⟩:=h
 rw[aj' hN]
 unfold gT'
 obtain⟨rv,ha,hrv⟩:=id hM
 walk_at "y"
 refine⟨by decide,fun l hl=>?_⟩
 walk_at "y"
 have s1:=ah' hl (.lst [])
 have hl1:upd H l (.lst []) l=some (.lst []):=aa'
 generalize upd H l (.lst [])=H1 at s1 hl1 ⊢
 refine bH' (SqT.of (s1 _ _ ha)) (u9' (xs:=rv) (fun i σ H'=>i<=M.length/\aG' H H'/\H' l=some (.lst (((aE i).map (st1 M u)).map nV))/\∃x3 x4,σ=[some (.ref a),some (.ref w),some (.ref l),x3,x4]) ⟨aC _,s1,hl1,none,none,rfl⟩ (fun i σ H' _ pv=>SqT.of (pv.2.1 _ _ ha)) ?_ ?_)
 .rintro i x σ H2 hx ⟨hi,s2,hl2,x3,x4,rfl⟩
  have hi:i<M.length:=by rw[<- hrv.len];exact au' hx
  obtain⟨x',ex⟩:∃x',M[i]?=some x':=⟨_,ac hi⟩
  obtain⟨p,ep,hp⟩:=hrv.get ex
  rw[hx]at ep
  cases ep
  obtain⟨d1,d2⟩:=gN' ex
  obtain⟨ok1,ok2⟩:=su' hO ex
  walk_at "y"
  refine⟨tyL hl2 rfl,?_⟩
  have key:∀P:VK,(∀H',aG' H2 H'->P (.int (st1 M u i)) H')->tE C (.blt .sum (.cons (.comp (.idx (.var 1) (.var 4)) [4] (.name 4) (.val (.var 3)) (.some (.cmp .IsNot (.var 4) .non)) .nil) .nil)) [some (.ref a),some (.ref w),some (.ref l),some (.ref p),x4] H2 P:=by
   intro P hP
   refine jU' (fun m=>((u m:Nat):Int)) (s2 _ _ hp) rfl (fun v=>rfl) ?_ ?_
   .intro m P hm hP
    have hml:m<M.length:=by
     rcases hm with h|h
     .exact ok1 m h
     .exact ok2 m h
    walk_at "y"
    exact vn' (hw.mono s2) (jW' hml) hP
   .intro H' s'
    have e:od (fun m=>((u m:Nat):Int)) x'.1+od (fun m=>((u m:Nat):Int)) x'.2=((st1 M u i:Nat):Int):=by
     show _=((ow u (LW.stp M i false)+ow u (LW.stp M i true):Nat):Int)
     rw[d1,d2]
     cases x'.1<;>cases x'.2<;>simp[od,ow]
    rw[e]
    exact hP H' s'
  have key2:=key
  simp only[jA',jz',gb',oC',fv',List.getElem?_cons_succ,List.getElem?_cons_zero,dS']at key2
  refine key2 _ fun H3 s3=>?_
  walk_at "y"
  refine fy' (s3 _ _ hl2) (by simp;exact an' (by omega)) ?_
  walk_at "y"
  refine⟨by omega,jT' (s2.trans s3) hl,?_,_,_,rfl⟩
  rw[aa',bT,aG,aG]
  rfl
 .rintro σ H2 ⟨hi,s2,hl2,x3,x4,rfl⟩
  rw[hrv.len]at hl2
  walk_at "y"
  exact q l H2 hl s2 hl2
theorem sK' {C:Rc} {D:Ends} {σ:L2.St} {H:Hp} {k j:Bool} {a b:Addr} {xs ys:List V} {t:Ct} {bd:Css} {n:Nat} (hn:n=min xs.length ys.length) (Pv:Nat->L2.St->Hp->Prop) (h0:Pv 0 σ H) (hl:∀i σ H,i<=n->Pv i σ H->Sq k C.K H a xs/\Sq j C.K H b ys)
  (hs:∀i x y σ H p,xs[i]?=some x->ys[i]?=some y->H p=none->Pv i σ H->tG C t (.ref p) σ (upd H p (.tup [x,y])) (tSs C bd { D with nx:=Pv (i+1),ct:=Pv (i+1),bk:=D.nx })) (hd:∀σ H,Pv n σ H->D.nx σ H):oB' C t bd D σ (mB' k j C.K a b) H:=by
 refine⟨fun i m σ H=>m=n-i/\i<=n/\Pv i σ H,⟨n,by simp,aC _,h0⟩,?_⟩
 rintro i m σ H ⟨rfl,hi,p⟩
 obtain⟨q1,q2⟩:=hl i σ H hi p
 by_cases hlt:i<n
 .refine .inr ⟨⟨xs,ys,xs[i]'(by omega),ys[i]'(by omega),q1,q2,ac _,ac _⟩,Pv (i+1),fun σ' H' p'=>⟨n-(i+1),by omega,rfl,hlt,p'⟩,fun x H' y=>?_⟩
  obtain⟨ad,u,v,rfl,hne,y1,y2,rfl⟩:=y
  exact hs i u v σ _ ad (y1 xs q1) (y2 ys q2) hne p
 .have e:i=n:=by omega
  subst e
  exact .inl ⟨⟨xs,ys,q1,q2,by omega⟩,hd σ H p⟩
theorem kd' {M:List Rm} {ol oh:Option (List V)} {u:Nat->Nat}:okG M ol oh u=true↔∀r,r<M.length->fN ol*u r<=st1 M u r*fD ol/\st1 M u r*fD oh<=fN oh*u r:=by
 unfold okG
 rw[bj]
 constructor
 .intro h r hr
  have:=h r (bp.mpr hr)
  simp only[af,decide_eq_true_eq]at this
  exact this
 .intro h r hr
  have:=h r (bp.mp hr)
  simp only[af,decide_eq_true_eq]
  exact this
structure FsDue (C:Rc):Prop where
 lfr:C.fs "_law_is_fraction"=some ka'
 num:C.fs "_law_is_number"=some dv'
 sums:C.fs "_law_sums"=some cA'
theorem ke' {C:Rc} (hN:C.N.length=7) (F:FsDue C):∀vs H Q E,ku' vs H Q E->tSs C l3' { nx:=fun _ H'=>Q .non H',rt:=Q } (L2.ax' C.N vs) H:=by
 intro vs H Q E h
 obtain⟨a,M,lo,hi,v,ol,oh,o,rfl,hM,hO,hl,hlo,bl,hhi,bh,hv,bv,q⟩:=h
 rw[aj' hN]
 unfold l3'
 walk_at "y"
 refine ag' F.lfr ?_
 walk_at "y"
 refine⟨lo,ol,rfl,hlo,bl,fun H1 s1=>?_⟩
 unfold gdG at q
 cases el:frB ol with
 |false=>
  rw[el,aS]at q
  walk_at "y"
  exact q H1 s1
 |true=>
  rw[el,aM]at q
  walk_at "y"
  refine ag' F.lfr ?_
  walk_at "y"
  refine⟨hi,oh,rfl,hhi.mono s1,bh,fun H2 s2=>?_⟩
  have s12:=s1.trans s2
  cases eh:frB oh with
  |false=>
   rw[eh,aS]at q
   walk_at "y"
   exact q H2 s12
  |true=>
   rw[eh,aM]at q
   obtain⟨mv,hmv,hmr⟩:=id hM
   have hml:=hmr.len
   obtain⟨pl,rfl,hpl,l1,_⟩:=hlo.good el
   obtain⟨ph,rfl,hph,h1,_⟩:=hhi.good eh
   walk_at "y"
   refine⟨by decide,fun pt hpt=>?_⟩
   have s3:=s12.trans (ah' hpt (.tup [.ty "list",.ty "tuple"]))
   refine fD' (hv.mono s3) aa' ?_
   generalize upd H2 pt (.tup [.ty "list",.ty "tuple"])=H3 at s3 ⊢
   cases o with
   |none=>
    simp only[ci]
    walk_at "y"
    exact q H3 s3
   |some vs=>
    obtain⟨w,rfl,hk,hvs,hz⟩:=hv
    simp only[ci]
    simp only[gdW]at q
    walk_at "y"
    refine na' (hk.mono s3) ?_
    walk_at "y"
    refine cS' (SqT.of (s3 _ _ hmv)) ?_
    rw[hml]
    walk_at "y"
    by_cases hn:(vs.length:Int)=M.length
    case neg=>
     rw[decide_eq_false hn,aS]at q
     rw[decide_eq_false hn]
     walk_at "y"
     exact q H3 s3
    rw[decide_eq_true hn,aM]at q
    rw[decide_eq_true hn]
    walk_at "y"
    refine o1' (hk.mono s3) (fun i xs H'=>xs=((vs.take i).map gW').map V.bl/\i<=vs.length/\H'=H3) ⟨rfl,aC _,rfl⟩ (fun i xs H' pv=>by rw[pv.2.2];exact aG'.refl _) ?_ ?_
    .rintro i xs H' x R hx ⟨rfl,hi',rfl⟩ hR
     have hi':=au' hx
     walk_at "y"
     refine ag' F.num ?_
     walk_at "y"
     refine⟨x,1,rfl,(hvs x (aX hx)).mono s3,?_⟩
     walk_at "y"
     refine⟨by simp;exact an' (by omega),hR _ _ ⟨?_,by omega,rfl⟩⟩
     rw[List.take_succ,hx,aG,aG]
     rfl
    rintro xs H4 ⟨rfl,_,rfl⟩ p hp
    have s5:=s3.trans (ah' hp (.lst (((vs.take vs.length).map gW').map V.bl)))
    walk_at "y"
    refine fx' (SqL.of aa') ?_
    generalize upd H4 p (.lst (((vs.take vs.length).map gW').map V.bl))=H5 at s5 ⊢
    rw[List.take_length,show(vs.map gW').all id=vs.all gW' by rw[List.all_map];rfl]
    cases ep:vs.all gW' with
    |false=>
     rw[ep,aS]at q
     walk_at "y"
     exact q H5 s5
    |true=>
     rw[ep,aM]at q
     have evs:=kc' hn ep
     have hf:=sJ' rfl bv
     generalize fv vs=u at evs hf q
     subst evs
     walk_at "y"
     refine ag' F.sums ?_
     walk_at "y"
     refine⟨a,w,M,u,rfl,hM.mono (aF' s5),hO,by omega,hk.mono s5,fun y H6 hy s6 hy6=>?_⟩
     have s06:=s5.trans s6
     walk_at "y"
     obtain⟨kb,hkb2⟩:∃kb:Bool,∀H',aG' H6 H'->Sq kb C.K H' w ((wL M u).map nV):=by
      rcases hk with hk|hk
      .exact⟨false,fun H' s'=>SqL.of (s' _ _ (s06 _ _ hk))⟩
      .exact⟨true,fun H' s'=>SqT.of (s' _ _ (s06 _ _ hk))⟩
     have hkb:=hkb2 _ (aG'.refl _)
     refine oE' (k:=false) (SqL.of hy6) hkb (sK' (n:=M.length) (xs:=(wL M (st1 M u)).map nV) (ys:=(wL M u).map nV) (by simp[aV']) (fun i σ H'=>aG' H6 H'/\(∃x4 x5 x6,σ=[some (.ref a),some (.ref pl),some (.ref ph),some (.ref w),x4,x5,x6])/\∀r,r<i->fN ol*u r<=st1 M u r*fD ol/\st1 M u r*fD oh<=fN oh*u r) ⟨aG'.refl _,⟨_,_,_,rfl⟩,fun r hr=>absurd hr (cz _)⟩ (fun i σ H' _ pv=>⟨SqL.of (pv.1 _ _ hy6),hkb2 _ pv.1⟩) ?_ ?_)
     .rintro i x y' σ H7 p7 hx hy' hp7 ⟨s7,⟨x4,x5,x6,rfl⟩,hr⟩
      have hi:=au' hx
      rw[ah,aV']at hi
      rw[aD,cw' hi]at hx hy'
      cases hx
      cases hy'
      refine dT' (SqT.of aa') ?_
      have s8:=s7.trans (ah' hp7 (.tup [nV (st1 M u i),nV (u i)]))
      generalize upd H7 p7 (.tup [nV (st1 M u i),nV (u i)])=H8 at s8 ⊢
      have b1:st1 M u i<=3 ^ 61:=au (fJ' hf) (by decide)
      have b2:u i<=3 ^ 61:=au (hf i) (by decide)
      have hpl8:=(s06.trans s8) _ _ hpl
      have hph8:=(s06.trans s8) _ _ hph
      simp only[nV]
      walk_at "y"
      refine aq' (SqT.of hpl8) (v:=.int (fD ol)) rfl ?_
      walk_at "y"
      refine⟨cn' b1 bl.2,?_⟩
      refine aq' (SqT.of hpl8) (v:=.int (fN ol)) rfl ?_
      walk_at "y"
      refine⟨cn' bl.1 b2,?_⟩
      have no:∀H',aG' H6 H'->¬(fN ol*u i<=st1 M u i*fD ol/\st1 M u i*fD oh<=fN oh*u i)->Q (.bl false) H':=fun H' s' hc=>by
       have e:okG M ol oh u=false:=Bool.eq_false_iff.mpr fun z=>hc (kd'.mp z i hi)
       rw[e]at q
       exact q H' (s06.trans s')
      refine b5' (fun hc=>?_) fun hc=>?_
      .walk_at "y"
       exact no _ s8 fun z=>absurd (show st1 M u i*fD ol<fN ol*u i by exact_mod_cast hc) (Nat.not_lt.mpr z.1)
      walk_at "y"
      refine aq' (SqT.of hph8) (v:=.int (fD oh)) rfl ?_
      walk_at "y"
      refine⟨cn' b1 bh.2,?_⟩
      refine aq' (SqT.of hph8) (v:=.int (fN oh)) rfl ?_
      walk_at "y"
      refine⟨cn' bh.1 b2,?_⟩
      refine b5' (fun hc2=>?_) fun hc2=>?_
      .walk_at "y"
       exact no _ s8 fun z=>absurd (show fN oh*u i<st1 M u i*fD oh by exact_mod_cast hc2) (Nat.not_lt.mpr z.2)
      walk_at "y"
      refine⟨s8,⟨_,_,_,rfl⟩,fun r hr'=>?_⟩
      by_cases e:r=i
      .subst e
       exact⟨Nat.not_lt.mp (by exact_mod_cast hc),Nat.not_lt.mp (by exact_mod_cast hc2)⟩
      .exact hr r (by omega)
     .rintro σ H7 ⟨s7,⟨x4,x5,x6,rfl⟩,hr⟩
      walk_at "y"
      have e:okG M ol oh u=true:=kd'.mpr hr
      rw[e]at q
      exact q H7 (s06.trans s7)
theorem sL' {M:List Rm} {g:Nat->Nat} {m:Nat} {v:V} (h:((wL M g).map nV)[m]?=some v):m<M.length/\v=.int (g m):=by
 have hm:=au' h
 rw[ah,aV']at hm
 rw[aD,cw' hm]at h
 cases h
 exact⟨hm,rfl⟩
def LoW (M:List Rm) (om:Nat->Nat) (p q:Nat):Prop:=aW p q=1/\1<=q/\(∀r,r<M.length->p*om r<=st1 M om r*q)/\∃r,r<M.length/\p*om r=st1 M om r*q
def HiW (M:List Rm) (om:Nat->Nat) (p q:Nat):Prop:=aW p q=1/\1<=q/\(∀r,r<M.length->st1 M om r*q<=p*om r)/\∃r,r<M.length/\p*om r=st1 M om r*q
def fpW (M:List Rm) (om:Nat->Nat) (r:Nat):Nat:=st1 M om r / aW (st1 M om r) (om r)
def fqW (M:List Rm) (om:Nat->Nat) (r:Nat):Nat:=om r / aW (st1 M om r) (om r)
theorem kf' {M:List Rm} {om:Nat->Nat} {r:Nat} (hu:∀r,1<=om r):aW (fpW M om r) (fqW M om r)=1:=Nat.gcd_div_gcd_div_gcd_of_pos_right (hu r)
theorem gX' {M:List Rm} {om:Nat->Nat} {r:Nat} (hu:∀r,1<=om r):fpW M om r*om r=st1 M om r*fqW M om r:=by
 unfold fpW fqW
 obtain⟨u,hu'⟩:=Nat.gcd_dvd_left (st1 M om r) (om r)
 obtain⟨v,hv⟩:=Nat.gcd_dvd_right (st1 M om r) (om r)
 have hg:1<=aW (st1 M om r) (om r):=en' (hu r)
 generalize st1 M om r=x at hu' hv hg ⊢
 generalize om r=y at hu' hv hg ⊢
 generalize aW x y=g at hu' hv hg
 rw[hu',hv,cj _ hg,cj _ hg,Nat.mul_left_comm,bD]
theorem kg' {M:List Rm} {om:Nat->Nat} {r:Nat} (hu:∀r,1<=om r):1<=fqW M om r:=Nat.div_pos (gO' (hu r)) (en' (hu r))
theorem kh' {p q x y:Nat} (hg:aW p q=1) (e:p*y=x*q) (hy:1<=y) (hq:1<=q):p<=x/\q<=y:=by
 have d:q ∣ y:=Nat.Coprime.dvd_of_dvd_mul_left (Nat.Coprime.symm hg) ⟨x,by rw[e,cv]⟩
 have h2:q<=y:=Nat.le_of_dvd hy d
 refine⟨?_,h2⟩
 refine aQ (c:=y) ?_ hy
 rw[e]
 exact Nat.mul_le_mul_left x h2
def pc' (M:List Rm) (om:Nat->Nat) (i r:Nat):Prop:=r<M.length/\∀t,t<i->st1 M om r*om t<=st1 M om t*om r
def ni' (M:List Rm) (om:Nat->Nat) (i r:Nat):Prop:=r<M.length/\∀t,t<i->st1 M om t*om r<=st1 M om r*om t
theorem l9' {M:List Rm} {om:Nat->Nat} {r:Nat} (hu:∀r,1<=om r) (h:pc' M om M.length r):LoW M om (fpW M om r) (fqW M om r):=⟨kf' hu,kg' hu,fun t ht=>by
  refine aQ (c:=om r) ?_ (hu _)
  calc fpW M om r*om t*om r=(fpW M om r*om r)*om t:=by rw[ay]
   _=(st1 M om r*fqW M om r)*om t:=by rw[gX' hu]
   _=(st1 M om r*om t)*fqW M om r:=by rw[ay]
   _<=(st1 M om t*om r)*fqW M om r:=aR _ (h.2 t ht)
   _=st1 M om t*fqW M om r*om r:=by rw[ay],r,h.1,gX' hu⟩
theorem ma' {M:List Rm} {om:Nat->Nat} (h:0<M.length):pc' M om (0+1) 0:=⟨h,fun t ht=>by
 have e:t=0:=by omega
 subst e
 exact ak _⟩
theorem mb' {M:List Rm} {om:Nat->Nat} (h:0<M.length):ni' M om (0+1) 0:=⟨h,fun t ht=>by
 have e:t=0:=by omega
 subst e
 exact ak _⟩
theorem mc' {M:List Rm} {om:Nat->Nat} {r:Nat} (hu:∀r,1<=om r) (h:ni' M om M.length r):HiW M om (fpW M om r) (fqW M om r):=⟨kf' hu,kg' hu,fun t ht=>by
  refine aQ (c:=om r) ?_ (hu _)
  calc st1 M om t*fqW M om r*om r=(st1 M om t*om r)*fqW M om r:=by rw[ay]
   _<=(st1 M om r*om t)*fqW M om r:=aR _ (h.2 t ht)
   _=(st1 M om r*fqW M om r)*om t:=by rw[ay]
   _=(fpW M om r*om r)*om t:=by rw[gX' hu]
   _=fpW M om r*om t*om r:=by rw[ay],r,h.1,gX' hu⟩
theorem sM' {M:List Rm} {om:Nat->Nat} {i r:Nat} (hu:∀r,1<=om r) (h:pc' M om i r) (hi:i<M.length) (hc:st1 M om i*om r<st1 M om r*om i):pc' M om (i+1) i:=⟨hi,fun t ht=>by
 by_cases e:t=i
 .subst e;exact ak _
 .have h2:=h.2 t (by omega)
  refine aQ (c:=om r) ?_ (hu _)
  calc st1 M om i*om t*om r=(st1 M om i*om r)*om t:=by rw[ay]
   _<=(st1 M om r*om i)*om t:=aR _ (cr hc)
   _=(st1 M om r*om t)*om i:=by rw[ay]
   _<=(st1 M om t*om r)*om i:=aR _ h2
   _=st1 M om t*om i*om r:=by rw[ay]⟩
theorem sN' {M:List Rm} {om:Nat->Nat} {i r:Nat} (h:pc' M om i r) (hc:¬st1 M om i*om r<st1 M om r*om i):pc' M om (i+1) r:=⟨h.1,fun t ht=>by
 by_cases e:t=i
 .subst e;omega
 .exact h.2 t (by omega)⟩
theorem sO' {M:List Rm} {om:Nat->Nat} {i r:Nat} (hu:∀r,1<=om r) (h:ni' M om i r) (hi:i<M.length) (hc:st1 M om i*om r > st1 M om r*om i):ni' M om (i+1) i:=⟨hi,fun t ht=>by
 by_cases e:t=i
 .subst e;exact ak _
 .have h2:=h.2 t (by omega)
  refine aQ (c:=om r) ?_ (hu _)
  calc st1 M om t*om i*om r=(st1 M om t*om r)*om i:=by rw[ay]
   _<=(st1 M om r*om t)*om i:=aR _ h2
   _=(st1 M om r*om i)*om t:=by rw[ay]
   _<=(st1 M om i*om r)*om t:=aR _ (cr hc)
   _=st1 M om i*om t*om r:=by rw[ay]⟩
theorem sP' {M:List Rm} {om:Nat->Nat} {i r:Nat} (h:ni' M om i r) (hc:¬st1 M om i*om r > st1 M om r*om i):ni' M om (i+1) r:=⟨h.1,fun t ht=>by
 by_cases e:t=i
 .subst e;omega
 .exact h.2 t (by omega)⟩
def LoV (H:Hp) (M:List Rm) (om:Nat->Nat) (i:Nat) (v:V):Prop:=(i=0/\v=.non)\/∃r p,v=.ref p/\H p=some (.tup [.int (st1 M om r),.int (om r)])/\pc' M om i r
def HiV (H:Hp) (M:List Rm) (om:Nat->Nat) (i:Nat) (v:V):Prop:=(i=0/\v=.non)\/∃r p,v=.ref p/\H p=some (.tup [.int (st1 M om r),.int (om r)])/\ni' M om i r
theorem LoV.mono {H H':Hp} {M:List Rm} {om:Nat->Nat} {i:Nat} {v:V} (h:LoV H M om i v) (k:aG' H H'):LoV H' M om i v:=h.imp id fun⟨r,p,e,h1,h2⟩=>⟨r,p,e,k _ _ h1,h2⟩
theorem HiV.mono {H H':Hp} {M:List Rm} {om:Nat->Nat} {i:Nat} {v:V} (h:HiV H M om i v) (k:aG' H H'):HiV H' M om i v:=h.imp id fun⟨r,p,e,h1,h2⟩=>⟨r,p,e,k _ _ h1,h2⟩
def cB':Sp:=fun vs H Q _=>∃(a w:Addr) (M:List Rm) (om:Nat->Nat),vs=[.ref a,.ref w]/\IsM H a M/\OkM M/\1<=M.length/\M.length<=100/\(∀r,1<=om r)/\(∀r,om r<=3 ^ 40)/\H w=some (.lst ((wL M om).map nV))/\∀(t l h:Addr) (p q u v:Nat) (H':Hp),aG' H H'->H' t=some (.tup [.ref l,.ref h])->d3' H' l p q->d3' H' h u v->LoW M om p q->HiW M om u v->Q (.ref t) H'
theorem hZ' {C:Rc} (hN:C.N.length=6) (hS:C.fs "_law_sums"=some cA') (hT:C.fs "_law_terms"=some bp'):∀vs H Q E,cB' vs H Q E->tSs C gV' { nx:=fun _ H'=>Q .non H',rt:=Q } (L2.ax' C.N vs) H:=by
 intro vs H Q E h
 obtain⟨a,w,M,om,rfl,hM,hO,hM1,hM2,hu,hub,hw,q⟩:=h
 have gb:∀r,om r<=3 ^ 61:=fun r=>au (hub r) (by decide)
 have tb:∀r,st1 M om r<=3 ^ 61:=fun r=>au (fJ' hub) (by decide)
 rw[aj' hN]
 unfold gV'
 walk_at "y"
 refine⟨by decide,fun z hz=>?_⟩
 have s0:=ah' hz (.tup [V.non,V.non])
 refine dT' (SqT.of aa') ?_
 generalize upd H z (.tup [V.non,V.non])=H0 at s0 ⊢
 walk_at "y"
 refine ag' hS ?_
 walk_at "y"
 refine⟨a,w,M,om,rfl,hM.mono (aF' s0),hO,hM2,.inl (s0 _ _ hw),fun y H1 hy s1 hy1=>?_⟩
 have s01:=s0.trans s1
 walk_at "y"
 refine f9' (SqL.of hy1) (SqL.of (s01 _ _ hw)) (vq' (n:=M.length) (xs:=(wL M (st1 M om)).map nV) (ys:=(wL M om).map nV) (by simp[aV']) (fun i σ H'=>aG' H1 H'/\∃l h x4 x5,σ=[some (.ref a),some (.ref w),some l,some h,x4,x5]/\LoV H' M om i l/\HiV H' M om i h) ⟨aG'.refl _,_,_,_,_,rfl,.inl ⟨rfl,rfl⟩,.inl ⟨rfl,rfl⟩⟩ (fun i σ H' _ pv=>⟨SqL.of (pv.1 _ _ hy1),SqL.of (pv.1 _ _ (s01 _ _ hw))⟩) ?_ ?_)
 .rintro i x y' σ H2 p hx hy' hp ⟨s2,l,h,x4,x5,rfl,hl,hh⟩
  obtain⟨hi,rfl⟩:=sL' hx
  obtain⟨_,rfl⟩:=sL' hy'
  refine dT' (SqT.of aa') ?_
  have s3:=ah' hp (.tup [V.int (st1 M om i),V.int (om i)])
  generalize upd H2 p (.tup [V.int (st1 M om i),V.int (om i)])=H3 at s3 ⊢
  replace hl:=hl.mono s3
  replace hh:=hh.mono s3
  refine vf' fun N hN1=>?_
  have hN2:∀l' H4,aG' H3 H4->LoV H4 M om (i+1) l'->HiV H4 M om i h->N [some (.ref a),some (.ref w),some l',some h,some (.int (st1 M om i)),some (.int (om i))] H4:=by
   intro l' H4 s4 hl4 hh4
   refine hN1 _ _ ?_
   have new:ni' M om (i+1) i->∀pn,H4 pn=none->(aG' H1 (upd H4 pn (.tup [V.int (st1 M om i),V.int (om i)]))/\∃l h x4 x5,[some (V.ref a),some (.ref w),some l',some (.ref pn),some (.int (st1 M om i)),some (.int (om i))]=[some (.ref a),some (.ref w),some l,some h,x4,x5]/\LoV (upd H4 pn (.tup [V.int (st1 M om i),V.int (om i)])) M om (i+1) l/\HiV (upd H4 pn (.tup [V.int (st1 M om i),V.int (om i)])) M om (i+1) h):=fun ha pn hpn=>⟨s2.trans (s3.trans (s4.trans (ah' hpn _))),_,_,_,_,rfl,hl4.mono (ah' hpn _),.inr ⟨i,pn,rfl,aa',ha⟩⟩
   rcases id hh4 with⟨rfl,rfl⟩|⟨r,ph,rfl,hph,hat⟩
   .walk_at "y"
    refine⟨by decide,fun pn hpn=>?_⟩
    exact new (mb' hi) pn hpn
   .walk_at "y"
    refine aq' (SqT.of hph) (v:=.int (om r)) rfl ?_
    walk_at "y"
    refine⟨cn' (tb _) (gb _),?_⟩
    refine aq' (SqT.of hph) (v:=.int (st1 M om r)) rfl ?_
    walk_at "y"
    refine⟨cn' (tb _) (gb _),?_⟩
    refine b5' (fun hc=>?_) fun hc=>?_
    .walk_at "y"
     refine⟨by decide,fun pn hpn=>?_⟩
     exact new (sO' hu hat hi (by exact_mod_cast hc)) pn hpn
    .walk_at "y"
     exact⟨s2.trans (s3.trans s4),_,_,_,_,rfl,hl4,.inr ⟨r,ph,rfl,hph,sP' hat (by exact_mod_cast hc)⟩⟩
  rcases id hl with⟨rfl,rfl⟩|⟨r,pl,rfl,hpl,hat⟩
  .walk_at "y"
   refine⟨by decide,fun pn hpn=>?_⟩
   exact hN2 (.ref pn) _ (ah' hpn _) (.inr ⟨0,pn,rfl,aa',ma' hi⟩) (hh.mono (ah' hpn _))
  .walk_at "y"
   refine aq' (SqT.of hpl) (v:=.int (om r)) rfl ?_
   walk_at "y"
   refine⟨cn' (tb _) (gb _),?_⟩
   refine aq' (SqT.of hpl) (v:=.int (st1 M om r)) rfl ?_
   walk_at "y"
   refine⟨cn' (tb _) (gb _),?_⟩
   refine b5' (fun hc=>?_) fun hc=>?_
   .walk_at "y"
    refine⟨by decide,fun pn hpn=>?_⟩
    exact hN2 (.ref pn) _ (ah' hpn _) (.inr ⟨i,pn,rfl,aa',sM' hu hat hi (by exact_mod_cast hc)⟩) (hh.mono (ah' hpn _))
   .walk_at "y"
    exact hN2 (.ref pl) _ (aG'.refl _) (.inr ⟨r,pl,rfl,hpl,sN' hat (by exact_mod_cast hc)⟩) hh
 .rintro σ H2 ⟨s2,l,h,x4,x5,rfl,hl,hh⟩
  rcases hl with⟨e,_⟩|⟨r,pl,rfl,hpl,hat⟩
  .omega
  rcases hh with⟨e,_⟩|⟨r',ph,rfl,hph,hat'⟩
  .omega
  walk_at "y"
  refine ag' hT ?_
  walk_at "y"
  refine aq' (SqT.of hpl) (v:=.int (st1 M om r)) rfl ?_
  walk_at "y"
  refine aq' (SqT.of hpl) (v:=.int (om r)) rfl ?_
  walk_at "y"
  refine⟨st1 M om r,om r,rfl,(hu _),gb _,fun f hf=>?_⟩
  have s3:=ah' hf (.tup [.int ((fpW M om r:Nat):Int),.int ((fqW M om r:Nat):Int)])
  have hf3:upd H2 f (.tup [.int ((fpW M om r:Nat):Int),.int ((fqW M om r:Nat):Int)]) f=some (.tup [.int ((fpW M om r:Nat):Int),.int ((fqW M om r:Nat):Int)]):=aa'
  change kA1 C _ _ _ (V.ref f) (upd H2 f (.tup [.int ((fpW M om r:Nat):Int),.int ((fqW M om r:Nat):Int)]))
  generalize upd H2 f (.tup [.int ((fpW M om r:Nat):Int),.int ((fqW M om r:Nat):Int)])=H3 at s3 hf3 ⊢
  walk_at "y"
  refine ag' hT ?_
  walk_at "y"
  refine aq' (SqT.of (s3 _ _ hph)) (v:=.int (st1 M om r')) rfl ?_
  walk_at "y"
  refine aq' (SqT.of (s3 _ _ hph)) (v:=.int (om r')) rfl ?_
  walk_at "y"
  refine⟨st1 M om r',om r',rfl,(hu _),gb _,fun g hg=>?_⟩
  have s4:=ah' hg (.tup [.int ((fpW M om r':Nat):Int),.int ((fqW M om r':Nat):Int)])
  have hg4:upd H3 g (.tup [.int ((fpW M om r':Nat):Int),.int ((fqW M om r':Nat):Int)]) g=some (.tup [.int ((fpW M om r':Nat):Int),.int ((fqW M om r':Nat):Int)]):=aa'
  change kA1 C _ _ _ (V.ref g) (upd H3 g (.tup [.int ((fpW M om r':Nat):Int),.int ((fqW M om r':Nat):Int)]))
  generalize upd H3 g (.tup [.int ((fpW M om r':Nat):Int),.int ((fqW M om r':Nat):Int)])=H4 at s4 hg4 ⊢
  walk_at "y"
  refine⟨by decide,fun t ht=>?_⟩
  have s5:=ah' ht (.tup [V.ref f,V.ref g])
  exact q t f g _ _ _ _ _ (s01.trans (s2.trans (s3.trans (s4.trans s5)))) aa' ((s4.trans s5) _ _ hf3) (s5 _ _ hg4) (l9' hu hat) (mc' hu hat')
theorem md' {K:W.Frag} {H:Hp} {Q:VK} {a b:Addr} {xs zs:List V} (h:H a=some (.lst xs)) (h2:H b=some (.lst zs)) (hz:xs.length+zs.length<=1000) (q:∀p H',H p=none->Go 0 H H'->H' p=some (.lst (xs++zs))->Q (.ref p) H'):ed' K .Add (.ref a) (.ref b) H Q:=m5' h h2 (cr (an' hz)) fun p hp=>q p _ hp (Go.new hp _) aa'
def FpF (B H:Hp) (v:V):Prop:=scT v=true\/(∃a vs,v=.ref a/\B a=none/\H a=some (.lst vs))\/∃a xs,v=.ref a/\B a=none/\H a=some (.tup xs)/\xs.all scT=true/\BdF (some xs)
def Fp (H:Hp) (v:V):Prop:=FpF (fun _=>none) H v
theorem FpF.keep {B H H':Hp} (k:bB' H H') {v:V} (h:FpF B H v):FpF B H' v:=by
 rcases h with h|⟨a,vs,e,hb,h⟩|⟨a,xs,e,hb,h,h2⟩
 .exact .inl h
 .exact .inr (.inl ⟨a,vs,e,hb,k.1 _ _ h⟩)
 .exact .inr (.inr ⟨a,xs,e,hb,k.2 _ _ h,h2⟩)
theorem FpF.fp {B H:Hp} {v:V} (h:FpF B H v):Fp H v:=by
 rcases h with h|⟨a,vs,e,hb,h⟩|⟨a,xs,e,hb,h,h2⟩
 .exact .inl h
 .exact .inr (.inl ⟨a,vs,e,rfl,h⟩)
 .exact .inr (.inr ⟨a,xs,e,rfl,h,h2⟩)
theorem FpF.upd {B H:Hp} {v:V} (h:FpF B H v) {p:Addr} {u:HO} (hp:B p=some u) (o:HO):FpF B (L2.upd H p o) v:=by
 have ne:∀a,B a=none->a≠p:=fun a e z=>by rw[z,hp]at e;cases e
 rcases h with h|⟨a,vs,e,hb,h⟩|⟨a,xs,e,hb,h,h2⟩
 .exact .inl h
 .exact .inr (.inl ⟨a,vs,e,hb,by rw[ae' (ne a hb)];exact h⟩)
 .exact .inr (.inr ⟨a,xs,e,hb,by rw[ae' (ne a hb)];exact h,h2⟩)
theorem pd' {H:Hp} {v:V} (h:scT v=true):Val H v:=by
 cases v with
 |int i=>exact .inl ⟨i,rfl⟩
 |non=>exact .inr ⟨fun i z=>(nomatch z),"NoneType",by decide,rfl⟩
 |bl b=>exact .inr ⟨fun i z=>(nomatch z),"bool",by decide,rfl⟩
 |str z=>exact .inr ⟨fun i z=>(nomatch z),"str",by decide,rfl⟩
 |_=>cases h
theorem gY':BdF none:=⟨aC _,aC _⟩
theorem Fp.ft {H:Hp} {v:V} (h:Fp H v):∃o,Ft H v o/\BdF o:=by
 rcases h with h|⟨a,vs,rfl,_,h⟩|⟨a,xs,rfl,_,h,h2,h3⟩
 .refine⟨none,?_,gY'⟩
  cases v<;>first|(cases h;done)|skip
  all_goals first|exact⟨"NoneType",by decide,rfl⟩|exact⟨"bool",by decide,rfl⟩|exact⟨"int",by decide,rfl⟩|exact⟨"str",by decide,rfl⟩
 .exact⟨none,⟨"list",by decide,by simp only[aT',h]⟩,gY'⟩
 .exact⟨some xs,⟨a,rfl,h,fun x hx=>pd' (bj.mp h2 x hx)⟩,h3⟩
theorem bO' {B H H':Hp} {L:List V} {x:V} {c:Nat} (A:∀y∈L,FpF B H y) (g:Go c H H') (h:FpF B H' x):∀y∈x :: L,FpF B H' y:=by
 intro y hy
 rcases ai.mp hy with rfl|hy
 .exact h
 .exact(A y hy).keep (bB'.go g)
theorem sQ' {p:Nat} (h:p<=3 ^ 61):((p:Int)).natAbs.log2<1920:=by
 rw[Int.natAbs_natCast]
 by_cases e:p=0
 .subst e;decide
 .exact ag ((Nat.log2_lt e).mpr (bZ h (by decide:3 ^ 61<2 ^ 100))) (by decide)
def sR':Sp:=fun vs H Q _=>∃(b:Addr) (m:Nat) (a:Addr) (p q:Nat),vs=[.ref b,.ref a]/\H b=some (da' b m)/\m<=2 ^ 38/\d3' H a p q/\1<=q/\p<=3 ^ 30/\q<=3 ^ 30/\∀(x:V) (H':Hp),Go 2 H H'->FpF H H' x->Q x H'
theorem pe' {C:Rc} (hN:C.N.length=6) (hT:C.fs "_law_take"=some az') (hF:C.fs "_law_terms"=some bp'):∀vs H Q E,sR' vs H Q E->tSs C a8' { nx:=fun _ H'=>Q .non H',rt:=Q } (L2.ax' C.N vs) H:=by
 intro vs H Q E h
 obtain⟨b,m,a,p,q',rfl,hb,hm,ha,hq1,hp3,hq3,q⟩:=h
 rw[aj' hN]
 unfold a8'
 walk_at "y"
 rw[r9']
 walk_at "y"
 refine oJ' (SqT.of ha) ?_
 simp only[jy',List.set_cons_zero,List.set_cons_succ]
 walk_at "y"
 refine ag' hT ?_
 walk_at "y"
 refine⟨b,m,_,rfl,hb,by omega,by omega,by omega,fun k H1 hk0 hk1 g1=>?_⟩
 obtain⟨k,rfl⟩:=aA hk0
 obtain⟨m1,hb1,hm1,_⟩:=g1.boxed hb (by omega)
 walk_at "y"
 refine⟨⟨by omega,by omega,by decide⟩,?_⟩
 rw[show(3+(k:Int)).toNat=3+k by omega,show(1:Int)*2 ^ (3+k)=((2 ^ (3+k):Nat):Int) by rw[Int.natCast_pow,Int.one_mul];rfl]
 obtain⟨far,hfe,hf1,hf2⟩:∃far,far=2 ^ (3+k)/\1<=far/\far<=2 ^ 42:=⟨_,rfl,Nat.one_le_two_pow,Nat.pow_le_pow_right (by decide) (by omega)⟩
 rw[<- hfe]
 have hpf:p*far<=3 ^ 30*2 ^ 42:=Nat.mul_le_mul hp3 hf2
 have hqf:q'*far<=3 ^ 30*2 ^ 42:=Nat.mul_le_mul hq3 hf2
 have hqf1:1<=q'*far:=Nat.mul_le_mul hq1 hf1
 have b0:3 ^ 30*2 ^ 42+3 ^ 30<=3 ^ 61:=by decide
 have b1:3 ^ 30<=3 ^ 61:=by decide
 have b2:far<=3 ^ 61:=au hf2 (by decide)
 have cm:hG' (p:Int) (far:Int):=cn' (by omega) b2
 have cm2:hG' (q':Int) (far:Int):=cn' (by omega) b2
 walk_at "y"
 refine ag' hF ?_
 walk_at "y"
 refine⟨cm,cm2,?_⟩
 refine⟨p*far+q',q'*far,rfl,hqf1,by omega,fun p2 hp2=>?_⟩
 obtain⟨x2,y2,hx2,hy2,e2⟩:∃x2 y2:Nat,x2<=3 ^ 61/\y2<=3 ^ 61/\HO.tup [V.int (((p*far+q') / aW (p*far+q') (q'*far):Nat):Int),V.int ((q'*far / aW (p*far+q') (q'*far):Nat):Int)]=.tup [.int x2,.int y2]:=⟨_,_,au (cA _ _) (by omega),au (cA _ _) (by omega),rfl⟩
 rw[e2]
 have g2:=Go.new (c:=0) hp2 (.tup [V.int x2,V.int y2])
 have h2:upd H1 p2 (.tup [V.int x2,V.int y2]) p2=some (.tup [V.int x2,V.int y2]):=aa'
 generalize upd H1 p2 (.tup [V.int x2,V.int y2])=H2 at g2 h2 ⊢
 walk_at "y"
 refine ag' hF ?_
 walk_at "y"
 refine⟨cm,?_⟩
 obtain⟨x3,hx3,hx3b⟩:∃x3:Nat,(if(p:Int)*far-q' > 0 then(p:Int)*far-q' else 0)=(x3:Int)/\x3<=3 ^ 61:=by
  refine⟨p*far-q',?_,by omega⟩
  have e:(p:Int)*far=((p*far:Nat):Int):=rfl
  rw[e]
  split<;>omega
 rw[hx3]
 walk_at "y"
 refine⟨cm2,?_⟩
 refine⟨x3,q'*far,rfl,hqf1,by omega,fun p3 hp3'=>?_⟩
 obtain⟨x4,y4,hx4,hy4,e4⟩:∃x4 y4:Nat,x4<=3 ^ 61/\y4<=3 ^ 61/\HO.tup [V.int ((x3 / aW x3 (q'*far):Nat):Int),V.int ((q'*far / aW x3 (q'*far):Nat):Int)]=.tup [.int x4,.int y4]:=⟨_,_,au (cA _ _) hx3b,au (cA _ _) (by omega),rfl⟩
 rw[e4]
 have g3:=Go.new (c:=0) hp3' (.tup [V.int x4,V.int y4])
 have h3:upd H2 p3 (.tup [V.int x4,V.int y4]) p3=some (.tup [V.int x4,V.int y4]):=aa'
 generalize upd H2 p3 (.tup [V.int x4,V.int y4])=H3 at g3 h3 ⊢
 have G3:=(g1.trans g2).trans g3
 have A3:∀y∈[V.ref p3,.ref p2],FpF H H3 y:=bO' (L:=[.ref p2]) (H:=H2) (fun y hy=>by
  rw[bm.mp hy]
  exact .inr (.inr ⟨p2,_,rfl,g1.free _ hp2,h2,rfl,hx2,hy2⟩)) g3 (.inr (.inr ⟨p3,_,rfl,(g1.trans g2).free _ hp3',h3,rfl,hx4,hy4⟩))
 walk_at "y"
 refine⟨by decide,fun l4 hl4=>?_⟩
 have g4:=Go.new (c:=0) hl4 (.lst [V.ref p2,.ref p3])
 have h4:upd H3 l4 (.lst [V.ref p2,.ref p3]) l4=some (.lst [V.ref p2,.ref p3]):=aa'
 generalize upd H3 l4 (.lst [V.ref p2,.ref p3])=H4 at g4 h4 ⊢
 have G4:=G3.trans g4
 replace A3:=fun y hy=>(A3 y hy).keep (bB'.go g4)
 walk_at "y"
 refine⟨.inl ⟨by decide,by decide⟩,.inl ⟨by decide,by decide⟩,?_⟩
 refine⟨by decide,fun p5 hp5=>?_⟩
 have g5:=Go.new (c:=0) hp5 (.tup [V.int (2*(p:Int)),V.int (2*(q':Int))])
 have h5:upd H4 p5 (.tup [V.int (2*(p:Int)),V.int (2*(q':Int))]) p5=some (.tup [V.int (2*(p:Int)),V.int (2*(q':Int))]):=aa'
 generalize upd H4 p5 (.tup [V.int (2*(p:Int)),V.int (2*(q':Int))])=H5 at g5 h5 ⊢
 have A5:=bO' A3 g5 (.inr (.inr ⟨p5,_,rfl,G4.free _ hp5,h5,rfl,by show(2*(p:Int)).toNat<=_;omega,by show(2*(q':Int)).toNat<=_;omega⟩))
 have G5:=G4.trans g5
 walk_at "y"
 refine⟨by decide,fun p6 hp6=>?_⟩
 have g6:=Go.new (c:=0) hp6 (.tup [V.int (q':Int),V.int (p:Int)])
 have h6:upd H5 p6 (.tup [V.int (q':Int),V.int (p:Int)]) p6=some (.tup [V.int (q':Int),V.int (p:Int)]):=aa'
 generalize upd H5 p6 (.tup [V.int (q':Int),V.int (p:Int)])=H6 at g6 h6 ⊢
 have A6:=bO' A5 g6 (.inr (.inr ⟨p6,_,rfl,G5.free _ hp6,h6,rfl,by show(q':Int).toNat<=_;omega,by show(p:Int).toNat<=_;omega⟩))
 have G6:=G5.trans g6
 walk_at "y"
 refine⟨by decide,fun p7 hp7=>?_⟩
 have g7:=Go.new (c:=0) hp7 (.lst [V.int (p:Int),V.int (q':Int)])
 have h7:upd H6 p7 (.lst [V.int (p:Int),V.int (q':Int)]) p7=some (.lst [V.int (p:Int),V.int (q':Int)]):=aa'
 generalize upd H6 p7 (.lst [V.int (p:Int),V.int (q':Int)])=H7 at g7 h7 ⊢
 have A7:=bO' A6 g7 (.inr (.inl ⟨p7,_,rfl,G6.free _ hp7,h7⟩))
 have G7:=G6.trans g7
 walk_at "y"
 refine⟨by decide,fun p8 hp8=>?_⟩
 have g8:=Go.new (c:=0) hp8 (.tup [V.int (p:Int)])
 have h8:upd H7 p8 (.tup [V.int (p:Int)]) p8=some (.tup [V.int (p:Int)]):=aa'
 generalize upd H7 p8 (.tup [V.int (p:Int)])=H8 at g8 h8 ⊢
 have A8:=bO' A7 g8 (.inr (.inr ⟨p8,_,rfl,G7.free _ hp8,h8,rfl,aC _,aC _⟩))
 have G8:=G7.trans g8
 walk_at "y"
 refine⟨by decide,fun p9 hp9=>?_⟩
 have g9:=Go.new (c:=0) hp9 (.tup [V.bl true,V.int (q':Int)])
 have h9:upd H8 p9 (.tup [V.bl true,V.int (q':Int)]) p9=some (.tup [V.bl true,V.int (q':Int)]):=aa'
 generalize upd H8 p9 (.tup [V.bl true,V.int (q':Int)])=H9 at g9 h9 ⊢
 have A9:=bO' A8 g9 (.inr (.inr ⟨p9,_,rfl,G8.free _ hp9,h9,rfl,aC _,by show(q':Int).toNat<=_;omega⟩))
 have G9:=G8.trans g9
 walk_at "y"
 refine⟨by decide,fun p10 hp10=>?_⟩
 have g10:=Go.new (c:=0) hp10 (.tup [V.int (p:Int),V.int 0])
 have h10:upd H9 p10 (.tup [V.int (p:Int),V.int 0]) p10=some (.tup [V.int (p:Int),V.int 0]):=aa'
 generalize upd H9 p10 (.tup [V.int (p:Int),V.int 0])=H10 at g10 h10 ⊢
 have A10:=bO' A9 g10 (.inr (.inr ⟨p10,_,rfl,G9.free _ hp10,h10,rfl,by show(p:Int).toNat<=_;omega,aC _⟩))
 have G10:=G9.trans g10
 walk_at "y"
 refine⟨by decide,fun l11 hl11=>?_⟩
 have g11:=Go.new (c:=0) hl11 (.lst [V.ref p5,.ref p6,.ref p7,.ref p8,.non,.ref p9,.ref p10])
 have h11:upd H10 l11 (.lst [V.ref p5,.ref p6,.ref p7,.ref p8,.non,.ref p9,.ref p10]) l11=some (.lst [V.ref p5,.ref p6,.ref p7,.ref p8,.non,.ref p9,.ref p10]):=aa'
 generalize upd H10 l11 (.lst [V.ref p5,.ref p6,.ref p7,.ref p8,.non,.ref p9,.ref p10])=H11 at g11 h11 ⊢
 have g411:=g5.trans (g6.trans (g7.trans (g8.trans (g9.trans (g10.trans g11)))))
 refine md' (g411.lst h4) h11 (by simp) fun l12 H12 hl12 g12 h12=>?_
 have A12:=fun y hy=>(A10 y hy).keep (bB'.go (g11.trans g12))
 have G12:=G10.trans (g11.trans g12)
 simp only[List.cons_append,List.nil_append]at h12
 walk_at "y"
 refine⟨by decide,fun p13 hp13=>?_⟩
 have g13:=Go.new (c:=0) hp13 (.tup [V.int (-(p:Int)),V.int (q':Int)])
 have h13:upd H12 p13 (.tup [V.int (-(p:Int)),V.int (q':Int)]) p13=some (.tup [V.int (-(p:Int)),V.int (q':Int)]):=aa'
 generalize upd H12 p13 (.tup [V.int (-(p:Int)),V.int (q':Int)])=H13 at g13 h13 ⊢
 have A13:=bO' A12 g13 (.inr (.inr ⟨p13,_,rfl,G12.free _ hp13,h13,rfl,by show(-(p:Int)).toNat<=_;omega,by show(q':Int).toNat<=_;omega⟩))
 have G13:=G12.trans g13
 walk_at "y"
 refine⟨_,rfl,sQ' (by omega),?_⟩
 generalize (Str.ofString (toString (p:Int)):Str)=zs
 walk_at "y"
 refine⟨by decide,fun p14 hp14=>?_⟩
 have g14:=Go.new (c:=0) hp14 (.tup [V.str zs,V.int (q':Int)])
 have h14:upd H13 p14 (.tup [V.str zs,V.int (q':Int)]) p14=some (.tup [V.str zs,V.int (q':Int)]):=aa'
 generalize upd H13 p14 (.tup [V.str zs,V.int (q':Int)])=H14 at g14 h14 ⊢
 have A14:=bO' A13 g14 (.inr (.inr ⟨p14,_,rfl,G13.free _ hp14,h14,rfl,aC _,by show(q':Int).toNat<=_;omega⟩))
 have G14:=G13.trans g14
 walk_at "y"
 refine⟨by decide,fun p15 hp15=>?_⟩
 have g15:=Go.new (c:=0) hp15 (.tup [V.int (p:Int),V.int (-(q':Int))])
 have h15:upd H14 p15 (.tup [V.int (p:Int),V.int (-(q':Int))]) p15=some (.tup [V.int (p:Int),V.int (-(q':Int))]):=aa'
 generalize upd H14 p15 (.tup [V.int (p:Int),V.int (-(q':Int))])=H15 at g15 h15 ⊢
 have A15:=bO' A14 g15 (.inr (.inr ⟨p15,_,rfl,G14.free _ hp15,h15,rfl,by show(p:Int).toNat<=_;omega,by show(-(q':Int)).toNat<=_;omega⟩))
 have G15:=G14.trans g15
 walk_at "y"
 refine⟨by decide,fun p16 hp16=>?_⟩
 have g16:=Go.new (c:=0) hp16 (.tup [V.int (p:Int),V.int (q':Int),V.int 1])
 have h16:upd H15 p16 (.tup [V.int (p:Int),V.int (q':Int),V.int 1]) p16=some (.tup [V.int (p:Int),V.int (q':Int),V.int 1]):=aa'
 generalize upd H15 p16 (.tup [V.int (p:Int),V.int (q':Int),V.int 1])=H16 at g16 h16 ⊢
 have A16:=bO' A15 g16 (.inr (.inr ⟨p16,_,rfl,G15.free _ hp16,h16,rfl,aC _,aC _⟩))
 have G16:=G15.trans g16
 walk_at "y"
 refine⟨by decide,fun p17 hp17=>?_⟩
 have g17:=Go.new (c:=0) hp17 (.tup [V.int ((p:Int)+(q':Int)),V.int (q':Int)])
 have h17:upd H16 p17 (.tup [V.int ((p:Int)+(q':Int)),V.int (q':Int)]) p17=some (.tup [V.int ((p:Int)+(q':Int)),V.int (q':Int)]):=aa'
 generalize upd H16 p17 (.tup [V.int ((p:Int)+(q':Int)),V.int (q':Int)])=H17 at g17 h17 ⊢
 have A17:=bO' A16 g17 (.inr (.inr ⟨p17,_,rfl,G16.free _ hp17,h17,rfl,by show((p:Int)+q').toNat<=_;omega,by show(q':Int).toNat<=_;omega⟩))
 have G17:=G16.trans g17
 walk_at "y"
 refine⟨by decide,fun l18 hl18=>?_⟩
 have g18:=Go.new (c:=0) hl18 (.lst [V.ref p13,.ref p14,.ref p15,.int (p:Int),.ref p16,.ref p17])
 have h18:upd H17 l18 (.lst [V.ref p13,.ref p14,.ref p15,.int (p:Int),.ref p16,.ref p17]) l18=some (.lst [V.ref p13,.ref p14,.ref p15,.int (p:Int),.ref p16,.ref p17]):=aa'
 generalize upd H17 l18 (.lst [V.ref p13,.ref p14,.ref p15,.int (p:Int),.ref p16,.ref p17])=H18 at g18 h18 ⊢
 have g1218:=g13.trans (g14.trans (g15.trans (g16.trans (g17.trans g18))))
 refine md' (g1218.lst h12) h18 (by simp) fun l19 H19 hl19 g19 h19=>?_
 have A19:=fun y hy=>(A17 y hy).keep (bB'.go (g18.trans g19))
 have G19:=G17.trans (g18.trans g19)
 simp only[List.cons_append,List.nil_append]at h19
 walk_at "y"
 refine⟨by decide,fun p20 hp20=>?_⟩
 have g20:=Go.new (c:=0) hp20 (.tup [V.int 0,V.int 1])
 have h20:upd H19 p20 (.tup [V.int 0,V.int 1]) p20=some (.tup [V.int 0,V.int 1]):=aa'
 generalize upd H19 p20 (.tup [V.int 0,V.int 1])=H20 at g20 h20 ⊢
 have A20:=bO' A19 g20 (.inr (.inr ⟨p20,_,rfl,G19.free _ hp20,h20,rfl,by show(0:Int).toNat<=_;decide,by show(1:Int).toNat<=_;decide⟩))
 have G20:=G19.trans g20
 walk_at "y"
 refine⟨by decide,fun p21 hp21=>?_⟩
 have g21:=Go.new (c:=0) hp21 (.tup [V.int 0,V.int 2])
 have h21:upd H20 p21 (.tup [V.int 0,V.int 2]) p21=some (.tup [V.int 0,V.int 2]):=aa'
 generalize upd H20 p21 (.tup [V.int 0,V.int 2])=H21 at g21 h21 ⊢
 have A21:=bO' A20 g21 (.inr (.inr ⟨p21,_,rfl,G20.free _ hp21,h21,rfl,by show(0:Int).toNat<=_;decide,by show(2:Int).toNat<=_;decide⟩))
 have G21:=G20.trans g21
 walk_at "y"
 refine⟨by decide,fun p22 hp22=>?_⟩
 have g22:=Go.new (c:=0) hp22 (.tup [V.int 2,V.int 1])
 have h22:upd H21 p22 (.tup [V.int 2,V.int 1]) p22=some (.tup [V.int 2,V.int 1]):=aa'
 generalize upd H21 p22 (.tup [V.int 2,V.int 1])=H22 at g22 h22 ⊢
 have A22:=bO' A21 g22 (.inr (.inr ⟨p22,_,rfl,G21.free _ hp22,h22,rfl,by show(2:Int).toNat<=_;decide,by show(1:Int).toNat<=_;decide⟩))
 have G22:=G21.trans g22
 walk_at "y"
 refine⟨by decide,fun l23 hl23=>?_⟩
 have g23:=Go.new (c:=0) hl23 (.lst [V.ref p20,.ref p21,.ref p22])
 have h23:upd H22 l23 (.lst [V.ref p20,.ref p21,.ref p22]) l23=some (.lst [V.ref p20,.ref p21,.ref p22]):=aa'
 generalize upd H22 l23 (.lst [V.ref p20,.ref p21,.ref p22])=H23 at g23 h23 ⊢
 have g1923:=g20.trans (g21.trans (g22.trans g23))
 refine md' (g1923.lst h19) h23 (by simp) fun l24 H24 hl24 g24 h24=>?_
 have A24:=fun y hy=>(A22 y hy).keep (bB'.go (g23.trans g24))
 have G24:=G22.trans (g23.trans g24)
 simp only[List.cons_append,List.nil_append]at h24
 obtain⟨ks,hke⟩:∃ks:List V,ks=[V.ref p2,.ref p3,.ref p5,.ref p6,.ref p7,.ref p8,.non,.ref p9,.ref p10,.ref p13,.ref p14,.ref p15,.int p,.ref p16,.ref p17,.ref p20,.ref p21,.ref p22]:=⟨_,rfl⟩
 have hkl:ks.length=18:=by rw[hke];rfl
 rw[<- hke]at h24
 have A:∀y∈ks,FpF H H24 y:=by
  intro y hy
  rw[hke]at hy
  simp only[ai,al,or_false]at hy
  rcases hy with rfl|rfl|rfl|rfl|rfl|rfl|rfl|rfl|rfl|rfl|rfl|rfl|rfl|rfl|rfl|rfl|rfl|rfl<;>first|exact .inl rfl|exact A24 _ (by simp)
 obtain⟨m24,hb24,hm24,_⟩:=G24.boxed hb (by omega)
 walk_at "y"
 refine ag' hT ?_
 walk_at "y"
 refine cv' (SqL.of h24) ?_
 rw[hkl]
 walk_at "y"
 refine⟨b,m24,_,rfl,hb24,by omega,by omega,by omega,fun j H25 hj0 hj1 g25=>?_⟩
 obtain⟨x,hx,hP⟩:=pick A hj0 (by rw[hkl];omega)
 walk_at "y"
 refine aO' (SqL.of (g25.lst h24)) hx ?_
 exact q x _ ((G24.trans g25).mono (by omega)) (hP.keep (bB'.go g25))
def VaF (B:Hp) (pw:Addr) (H:Hp) (v:V):Prop:=(scT v=true\/∃a vs,v=.ref a/\(B a=none\/a=pw)/\Lt H a vs)/\vN v<=2 ^ 90
def PpF (B:Hp) (pw:Addr) (H:Hp) (v:V):Prop:=scT v=true\/∃a vs,v=.ref a/\B a=none/\Lt H a vs/\(∀x∈vs,VaF B pw H x)/\vs.length<=61
theorem VaF.keep {B H H':Hp} {pw:Addr} (k:bB' H H') {v:V} (h:VaF B pw H v):VaF B pw H' v:=⟨h.1.imp id fun⟨a,vs,e,b,l⟩=>⟨a,vs,e,b,eP' k l⟩,h.2⟩
theorem PpF.keep {B H H':Hp} {pw:Addr} (k:bB' H H') {v:V} (h:PpF B pw H v):PpF B pw H' v:=h.imp id fun⟨a,vs,e,b,l,hv,hl⟩=>⟨a,vs,e,b,eP' k l,fun x hx=>(hv x hx).keep k,hl⟩
theorem PpF.pp {B H:Hp} {pw:Addr} {v:V} (h:PpF B pw H v):Pp H v:=h.imp id fun⟨a,vs,e,_,l,hv,hl⟩=>⟨a,vs,e,l,fun x hx=>⟨(hv x hx).1.imp id fun⟨a,vs,e,_,l⟩=>⟨a,vs,e,l⟩,(hv x hx).2⟩,hl⟩
theorem PpF.upd {B H:Hp} {pw:Addr} {v:V} (h:PpF B pw H v) {p:Addr} {u:HO} (hp:B p=some u) (hw:p≠pw) (o:HO):PpF B pw (L2.upd H p o) v:=by
 have lu:∀a vs,a≠p->Lt H a vs->Lt (L2.upd H p o) a vs:=fun a vs ne l=>by
  rcases l with l|l
  .exact .inl (by rw[ae' ne];exact l)
  .exact .inr (by rw[ae' ne];exact l)
 have ne:∀a,B a=none->a≠p:=fun a e z=>by rw[z,hp]at e;cases e
 rcases h with h|⟨a,vs,e,b,l,hv,hl⟩
 .exact .inl h
 .refine .inr ⟨a,vs,e,b,lu _ _ (ne a b) l,fun x hx=>⟨(hv x hx).1.imp id fun⟨a,vs,e,b,l⟩=>⟨a,vs,e,b,lu _ _ ?_ l⟩,(hv x hx).2⟩,hl⟩
  rcases b with b|b
  .exact ne a b
  .rw[b];exact fun z=>hw z.symm
theorem fL' {B H H':Hp} {pw:Addr} {L:List V} {x:V} {c:Nat} (A:∀y∈L,PpF B pw H y) (g:Go c H H') (h:PpF B pw H' x):∀y∈x :: L,PpF B pw H' y:=by
 intro y hy
 rcases ai.mp hy with rfl|hy
 .exact h
 .exact(A y hy).keep (bB'.go g)
theorem bP' {B H:Hp} {pw:Addr} {i:Int} (h:i<=2 ^ 90):VaF B pw H (.int i):=⟨.inl rfl,by show i.toNat<=_;omega⟩
theorem me' {B H:Hp} {pw a:Addr} {ns:List Nat} (hb:B a=none) (h:Lt H a (ns.map nV)) (hn:∀n∈ns,n<=2 ^ 90) (hl:ns.length<=61):PpF B pw H (.ref a):=.inr ⟨a,_,rfl,hb,h,fun x hx=>by
 obtain⟨n,hm,rfl⟩:=aP.mp hx
 exact bP' (by have:=hn n hm;omega),by rw[ah];exact hl⟩
def sS':Sp:=fun vs H Q _=>∃(b:Addr) (m:Nat) (pw:Addr) (M:List Rm) (om:Nat->Nat),vs=[.ref b,.ref pw]/\H b=some (da' b m)/\m<=2 ^ 38/\1<=M.length/\M.length<=12/\H pw=some (.lst ((wL M om).map nV))/\(∀r,om r<=3 ^ 30)/\∀(x:V) (H':Hp),Go 3 H H'->PpF H pw H' x->Q x H'
theorem pf' {C:Rc} (hN:C.N.length=7) (hT:C.fs "_law_take"=some az'):∀vs H Q E,sS' vs H Q E->tSs C bl' { nx:=fun _ H'=>Q .non H',rt:=Q } (L2.ax' C.N vs) H:=by
 intro vs H Q E h
 obtain⟨b,m,pw,M,om,rfl,hb,hm,hM1,hM2,hpw,hom,q⟩:=h
 rw[aj' hN]
 unfold bl'
 have hwl:((wL M om).map nV).length=M.length:=by rw[ah,aV']
 have hb30:3 ^ 30<=2 ^ 80:=by decide
 walk_at "y"
 refine ag' hT ?_
 walk_at "y"
 refine cv' (SqL.of hpw) ?_
 rw[hwl]
 walk_at "y"
 refine⟨b,m,_,rfl,hb,by omega,by omega,by omega,fun i H1 hi0 hi1 g1=>?_⟩
 obtain⟨i,rfl⟩:=aA hi0
 have hi:i<M.length:=by omega
 have hoi:=hom i
 have hpw1:=g1.lst hpw
 obtain⟨m1,hb1,hm1,_⟩:=g1.boxed hb (by omega)
 walk_at "y"
 refine aO' (SqL.of hpw1) (jW' hi) ?_
 walk_at "y"
 refine aO' (SqL.of hpw1) (jW' hi) ?_
 walk_at "y"
 refine aO' (SqL.of hpw1) (jW' hi) ?_
 walk_at "y"
 refine aO' (SqL.of hpw1) (jW' hi) ?_
 walk_at "y"
 refine⟨.inl ⟨by decide,by decide⟩,?_⟩
 refine⟨by decide,fun p2 hp2=>?_⟩
 have g2:=Go.new (c:=0) hp2 (.tup [V.int 1])
 have h2:upd H1 p2 (.tup [V.int 1]) p2=some (.tup [V.int 1]):=aa'
 generalize upd H1 p2 (.tup [V.int 1])=H2 at g2 h2 ⊢
 have G2:=g1.trans g2
 obtain⟨ks,hke,hkl⟩:∃ks:List V,ks=[V.int ((om i:Nat)+1),V.int ((om i:Nat)-1),V.int 0,V.bl true,V.str (tx [true]),V.non,V.int (-(om i:Nat)),V.int (2*(om i:Nat)),V.ref p2,V.int 1]/\ks.length=10:=⟨_,rfl,rfl⟩
 have A2:∀x∈ks,VaF H pw H2 x:=by
  intro x hx
  rw[hke]at hx
  simp only[ai,al,or_false]at hx
  rcases hx with rfl|rfl|rfl|rfl|rfl|rfl|rfl|rfl|rfl|rfl
  .exact bP' (by omega)
  .exact bP' (by omega)
  .exact bP' (by decide)
  .exact⟨.inl rfl,aC _⟩
  .exact⟨.inl rfl,aC _⟩
  .exact⟨.inl rfl,aC _⟩
  .exact bP' (by omega)
  .exact bP' (by omega)
  .exact⟨.inr ⟨p2,_,rfl,.inl (g1.free _ hp2),.inr h2⟩,aC _⟩
  .exact bP' (by decide)
 refine⟨by decide,fun l3 hl3=>?_⟩
 rw[<- hke]
 have g3:=Go.new (c:=0) hl3 (.lst ks)
 have h3:upd H2 l3 (.lst ks) l3=some (.lst ks):=aa'
 generalize upd H2 l3 (.lst ks)=H3 at g3 h3 ⊢
 have G3:=G2.trans g3
 walk_at "y"
 refine lG' (SqL.of (G3.lst hpw)) fun pm hpm=>?_
 have g4:=Go.new (c:=0) hpm (.lst ((wL M om).map nV))
 have h4:upd H3 pm (.lst ((wL M om).map nV)) pm=some (.lst ((wL M om).map nV)):=aa'
 generalize upd H3 pm (.lst ((wL M om).map nV))=H4 at g4 h4 ⊢
 have G4:=G3.trans g4
 obtain⟨m4,hb4,hm4,_⟩:=G4.boxed hb (by omega)
 walk_at "y"
 refine ag' hT ?_
 walk_at "y"
 refine cv' (SqL.of (g4.lst h3)) ?_
 rw[hkl]
 walk_at "y"
 refine⟨b,m4,_,rfl,hb4,by omega,by omega,by omega,fun j H5 hj0 hj1 g5=>?_⟩
 obtain⟨v,hv,hvv⟩:=pick A2 hj0 (by rw[hkl];omega)
 walk_at "y"
 refine aO' (SqL.of ((g4.trans g5).lst h3)) hv ?_
 walk_at "y"
 refine dU' (g5.lst h4) (by rw[hwl];exact hi) ?_
 have G6:=c7' (G4.trans g5) (G3.free _ hpm) (.lst (((wL M om).map nV).set i v))
 have K6:=bB'.go (c7' (g4.trans g5) hpm (.lst (((wL M om).map nV).set i v)))
 have h6:upd H5 pm (.lst (((wL M om).map nV).set i v)) pm=some (.lst (((wL M om).map nV).set i v)):=aa'
 generalize upd H5 pm (.lst (((wL M om).map nV).set i v))=H6 at G6 K6 h6 ⊢
 have hv6:VaF H pw H6 v:=hvv.keep ((bB'.go g3).trans K6)
 have hset:∀y∈((wL M om).map nV).set i v,VaF H pw H6 y:=by
  intro y hy
  rcases List.mem_or_eq_of_mem_set hy with hy|rfl
  .obtain⟨n,hn,rfl⟩:=aP.mp hy
   obtain⟨r,_,rfl⟩:=aP.mp hn
   exact bP' (by have:=hom r;omega)
  .exact hv6
 have hsl:(((wL M om).map nV).set i v).length=M.length:=by rw[List.length_set,hwl]
 have A6:∀y∈[V.ref pm],PpF H pw H6 y:=fun y hy=>by
  rw[bm.mp hy]
  exact .inr ⟨pm,_,rfl,G3.free _ hpm,.inl h6,hset,by omega⟩
 have hw6:=G6.lst hpw
 walk_at "y"
 refine jI' (SqL.of hw6) fun p7 hp7=>?_
 rw[show h6' ((wL M om).map nV) (some 1) none=((wL M om).map nV).drop 1 from lH' (n:=1)]
 have g7:=Go.new (c:=0) hp7 (.lst (((wL M om).map nV).drop 1))
 have h7:upd H6 p7 (.lst (((wL M om).map nV).drop 1)) p7=some (.lst (((wL M om).map nV).drop 1)):=aa'
 generalize upd H6 p7 (.lst (((wL M om).map nV).drop 1))=H7 at g7 h7 ⊢
 have A7:=fL' (x:=.ref p7) A6 g7 (by
  refine .inr ⟨p7,_,rfl,G6.free _ hp7,.inl h7,fun y hy=>?_,?_⟩
  .obtain⟨n,hn,rfl⟩:=aP.mp (cG hy)
   obtain⟨r,_,rfl⟩:=aP.mp hn
   exact bP' (by have:=hom r;omega)
  .rw[ck,hwl];omega)
 have G7:=G6.trans g7
 walk_at "y"
 refine⟨by decide,fun p8 hp8=>?_⟩
 have g8:=Go.new (c:=0) hp8 (.lst [V.int 1])
 have h8:upd H7 p8 (.lst [V.int 1]) p8=some (.lst [V.int 1]):=aa'
 generalize upd H7 p8 (.lst [V.int 1])=H8 at g8 h8 ⊢
 have G8:=G7.trans g8
 refine md' (G8.lst hpw) h8 (by rw[hwl];show M.length+1<=1000;omega) fun p9 H9 hp9 g9 h9=>?_
 have A9:=fL' (x:=.ref p9) A7 (g8.trans g9) (by
  refine .inr ⟨p9,_,rfl,G8.free _ hp9,.inl h9,fun y hy=>?_,by rw[aN,hwl];show M.length+1<=61;omega⟩
  rcases aH.mp hy with hy|hy
  .obtain⟨n,hn,rfl⟩:=aP.mp hy
   obtain⟨r,_,rfl⟩:=aP.mp hn
   exact bP' (by have:=hom r;omega)
  .rw[bm.mp hy];exact bP' (by decide))
 have G9:=G8.trans g9
 walk_at "y"
 refine⟨by decide,fun p10 hp10=>?_⟩
 have g10:=Go.new (c:=0) hp10 (.lst [])
 have h10:upd H9 p10 (.lst []) p10=some (.lst []):=aa'
 generalize upd H9 p10 (.lst [])=H10 at g10 h10 ⊢
 have A10:=fL' (x:=.ref p10) A9 g10 (.inr ⟨p10,_,rfl,G9.free _ hp10,.inl h10,fun y hy=>absurd hy al,aC _⟩)
 have G10:=G9.trans g10
 have k610:=g7.trans (g8.trans (g9.trans g10))
 walk_at "y"
 refine cv' (SqL.of (G10.lst hpw)) ?_
 rw[hwl]
 walk_at "y"
 refine dj' (SqL.of (k610.lst h6)) fun p11 hp11=>?_
 have g11:=Go.new (c:=0) hp11 (.tup (((wL M om).map nV).set i v))
 have h11:upd H10 p11 (.tup (((wL M om).map nV).set i v)) p11=some (.tup (((wL M om).map nV).set i v)):=aa'
 generalize upd H10 p11 (.tup (((wL M om).map nV).set i v))=H11 at g11 h11 ⊢
 have A11:=fL' (x:=.ref p11) A10 g11 (.inr ⟨p11,_,rfl,G10.free _ hp11,.inr h11,fun y hy=>(hset y hy).keep (bB'.go (k610.trans g11)),by omega⟩)
 have G11:=G10.trans g11
 walk_at "y"
 refine⟨by decide,fun p12 hp12=>?_⟩
 have g12:=Go.new (c:=0) hp12 (.lst [V.ref pw])
 have h12:upd H11 p12 (.lst [V.ref pw]) p12=some (.lst [V.ref pw]):=aa'
 generalize upd H11 p12 (.lst [V.ref pw])=H12 at g12 h12 ⊢
 have A12:=fL' (x:=.ref p12) A11 g12 (.inr ⟨p12,_,rfl,G11.free _ hp12,.inl h12,fun y hy=>by
  rw[bm.mp hy]
  exact⟨.inr ⟨pw,_,rfl,.inr rfl,.inl ((G11.trans g12).lst hpw)⟩,aC _⟩,by show 1<=61;decide⟩)
 have G12:=G11.trans g12
 obtain⟨fr,hfe,hfl⟩:∃fr:List V,fr=[V.ref pm,.ref p7,.ref p9,.ref p10,.non,.int (M.length:Nat),.ref p11,.ref p12]/\fr.length=8:=⟨_,rfl,rfl⟩
 refine⟨by decide,fun l13 hl13=>?_⟩
 rw[<- hfe]
 have F12:∀y∈fr,PpF H pw H12 y:=by
  intro y hy
  rw[hfe]at hy
  simp only[ai,al,or_false]at hy
  rcases hy with rfl|rfl|rfl|rfl|rfl|rfl|rfl|rfl<;>first|exact .inl rfl|exact A12 _ (by simp)
 have g13:=Go.new (c:=0) hl13 (.lst fr)
 have h13:upd H12 l13 (.lst fr) l13=some (.lst fr):=aa'
 generalize upd H12 l13 (.lst fr)=H13 at g13 h13 ⊢
 have G13:=G12.trans g13
 walk_at "y"
 refine⟨tyL h13 rfl,?_⟩
 have hw13:=G13.lst hpw
 refine cu' (SqL.of hw13) (jE' (fun i xs H'=>i<=M.length/\xs=(((wL M om).take i).map (2 * ·)).map nV/\H'=H13) ⟨aC _,rfl,rfl⟩ (fun i xs H' pv=>by rw[pv.2.2];exact SqL.of hw13) ?_ ?_)
 .rintro i xs H' x R hx ⟨_,rfl,rfl⟩ hR
  have hi:i<M.length:=by have:=au' hx;rwa [hwl]at this
  rw[aD,cw' hi]at hx
  cases hx
  simp only[nV]
  walk_at "y"
  refine⟨.inl ⟨by decide,by decide⟩,?_⟩
  refine⟨by rw[ah,ah,bq,aV'];exact an' (by omega),hR _ _ ⟨hi,?_,rfl⟩⟩
  rw[List.take_succ,cw' hi,aG,aG]
  show _=_++[V.int ((2*om i:Nat):Int)]
  rw[Int.natCast_mul]
  rfl
 .rintro xs H' ⟨_,rfl,rfl⟩ p14 hp14
  rw[hwl,show(wL M om).take M.length=wL M om by rw[bV (by rw[aV'];exact ak _)]]
  have g14:=Go.new (c:=0) hp14 (.lst (((wL M om).map (2 * ·)).map nV))
  have h14:upd H' p14 (.lst (((wL M om).map (2 * ·)).map nV)) p14=some (.lst (((wL M om).map (2 * ·)).map nV)):=aa'
  generalize upd H' p14 (.lst (((wL M om).map (2 * ·)).map nV))=H14 at g14 h14 ⊢
  have hne:p14≠l13:=(af' h13 hp14).symm
  walk_at "y"
  refine fy' (g14.lst h13) (by rw[hfl];exact an' (by omega)) ?_
  have G15:=c7' (G13.trans g14) (G12.free _ hl13) (.lst (fr++[.ref p14]))
  have K15:=bB'.go (c7' (g13.trans g14) hl13 (.lst (fr++[.ref p14])))
  have F15:∀y∈fr++[.ref p14],PpF H pw (upd H14 l13 (.lst (fr++[.ref p14]))) y:=by
   intro y hy
   rcases aH.mp hy with hy|hy
   .exact(F12 y hy).keep K15
   .rw[bm.mp hy]
    refine me' (ns:=(wL M om).map (2 * ·)) (G13.free _ hp14) (.inl (by rw[ae' hne];exact h14)) (fun n hn=>?_) (by rw[ah,aV'];omega)
    obtain⟨k,hk,rfl⟩:=aP.mp hn
    obtain⟨r,_,rfl⟩:=aP.mp hk
    have:=hom r
    omega
  have h15:upd H14 l13 (.lst (fr++[.ref p14])) l13=some (.lst (fr++[.ref p14])):=aa'
  generalize upd H14 l13 (.lst (fr++[.ref p14]))=H15 at G15 F15 h15 ⊢
  have hfl2:(fr++[V.ref p14]).length=9:=by rw[aN,hfl];rfl
  obtain⟨m15,hb15,hm15,_⟩:=G15.boxed hb (by omega)
  walk_at "y"
  refine ag' hT ?_
  walk_at "y"
  refine cv' (SqL.of h15) ?_
  rw[hfl2]
  walk_at "y"
  refine⟨b,m15,_,rfl,hb15,by omega,by omega,by omega,fun j2 H16 hj2 hj3 g16=>?_⟩
  obtain⟨x,hx,hP⟩:=pick F15 hj2 (by rw[hfl2];omega)
  walk_at "y"
  refine aO' (SqL.of (g16.lst h15)) hx ?_
  exact q x _ ((G15.trans g16).mono (by omega)) (hP.keep (bB'.go g16))
theorem sT' {M:List Rm} {n:Nat}:(gwL M n).map V.int=(wL M (gw M n)).map nV:=by
 unfold gwL wL
 rw[cx,cx]
 rfl
def g1 (l:List Nat):Nat->Nat:=fun r=>l.getD r 1
theorem sU' {M:List Rm} {l:List Nat} (h:l.length=M.length):wL M (g1 l)=l:=by
 apply bP
 intro i
 by_cases hi:i<l.length
 .rw[cw' (by omega),ac hi]
  unfold g1
  rw[aI,ac hi]
  rfl
 .rw[bo (by rw[aV'];omega),bo (by omega)]
theorem sV' {l:List Nat} {b:Nat} (h:∀n∈l,1<=n/\n<=b) (hb:1<=b) (r:Nat):1<=g1 l r/\g1 l r<=b:=by
 unfold g1
 rw[aI]
 cases e:l[r]? with
 |none=>exact⟨ak _,hb⟩
 |some x=>exact h x (aX e)
structure Ask (H:Hp) (a l h w:Addr) (M:List Rm) (om:Nat->Nat) (p q u v:Nat):Prop where
 mach:IsM H a M
 ok:OkM M
 one:1<=M.length
 few:M.length<=12
 lo:d3' H l p q
 hi:d3' H h u v
 wts:H w=some (.lst ((wL M om).map nV))
 pos:∀r,1<=om r
 bd:∀r,om r<=3 ^ 29
 isLo:LoW M om p q
 isHi:HiW M om u v
def ki':Sp:=fun vs H Q _=>∃(b:Addr) (n:Nat),vs=[.ref b]/\H b=some (da' b n)/\n<=2 ^ 37/\∀(t a l h w:Addr) (M:List Rm) (om:Nat->Nat) (p q u v:Nat) (H':Hp),Go 500 H H'->H' t=some (.tup [.ref a,.ref l,.ref h,.ref w])->Ask H' a l h w M om p q u v->Q (.ref t) H'
structure FsAsk (C:Rc):Prop where
 many:C.fs "_law_many"=some fz'
 take:C.fs "_law_take"=some az'
 ring:C.fs "_law_ring_machine"=some (cM' 1 60 400)
 mach:C.fs "_law_machine"=some (cM' 1 60 400)
 grow:C.fs "growth"=some cH'
 ends:C.fs "_law_ends"=some cB'
theorem mf' {C:Rc} (hN:C.N.length=6) (F:FsAsk C):∀vs H Q E,ki' vs H Q E->tSs C eU' { nx:=fun _ H'=>Q .non H',rt:=Q } (L2.ax' C.N vs) H:=by
 intro vs H Q E h
 obtain⟨b,n,rfl,hb,hn,q⟩:=h
 rw[aj' hN]
 unfold eU'
 walk_at "y"
 refine ag' F.many ?_
 walk_at "y"
 refine⟨b,n,1,5,12,rfl,hb,by omega,by decide,by decide,by decide,by decide,by decide,fun r H1 hr g1'=>?_⟩
 obtain⟨N,rfl⟩:=aA (show 0<=r by omega)
 obtain⟨n1,hb1,hn1,_⟩:=g1'.boxed hb (by omega)
 walk_at "y"
 refine ag' F.take ?_
 walk_at "y"
 refine⟨b,n1,_,rfl,hb1,by omega,by omega,by omega,fun c H2 hc0 hc1 g2=>?_⟩
 obtain⟨n2,hb2,hn2,_⟩:=g2.boxed hb1 (by omega)
 have g02:=g1'.trans g2
 walk_at "y"
 refine b5' (fun hc=>?_) fun hc=>?_
 .walk_at "y"
  refine ag' F.ring ?_
  walk_at "y"
  refine⟨b,n2,N,rfl,hb2,by omega,by omega,by omega,fun a M H3 g3 hM hO hMl=>?_⟩
  obtain⟨n3,hb3,hn3,_⟩:=g3.boxed hb2 (by omega)
  have g03:=g02.trans g3
  walk_at "y"
  refine⟨by decide,fun p4 hp4=>?_⟩
  have g4:=Go.new (c:=0) hp4 (.tup [V.ref a])
  have h4:upd H3 p4 (.tup [V.ref a]) p4=some (.tup [V.ref a]):=aa'
  generalize upd H3 p4 (.tup [V.ref a])=H4 at g4 h4 ⊢
  obtain⟨n4,hb4,hn4,_⟩:=g4.boxed hb3 (by omega)
  walk_at "y"
  refine ag' F.grow ?_
  walk_at "y"
  refine ag' F.take ?_
  walk_at "y"
  refine⟨b,n4,_,rfl,hb4,by omega,by omega,by omega,fun r5 H5 h50 h51 g5=>?_⟩
  obtain⟨n5,hb5,hn5,_⟩:=g5.boxed hb4 (by omega)
  walk_at "y"
  refine ag' F.take ?_
  walk_at "y"
  refine⟨b,n5,_,rfl,hb5,by omega,by omega,by omega,fun r6 H6 h60 h61 g6=>?_⟩
  obtain⟨n6,hb6,hn6,_⟩:=g6.boxed hb5 (by omega)
  obtain⟨r5,rfl⟩:=aA h50
  obtain⟨r6,rfl⟩:=aA h60
  walk_at "y"
  refine⟨by decide,fun l7 hl7=>?_⟩
  have g7:=Go.new (c:=0) hl7 (.lst [V.int (r5:Int),V.int (r6:Int)])
  have h7:upd H6 l7 (.lst [V.int (r5:Int),V.int (r6:Int)]) l7=some (.lst [V.int (r5:Int),V.int (r6:Int)]):=aa'
  generalize upd H6 l7 (.lst [V.int (r5:Int),V.int (r6:Int)])=H7 at g7 h7 ⊢
  walk_at "y"
  refine ag' F.take ?_
  walk_at "y"
  obtain⟨n7,hb7,hn7,_⟩:=g7.boxed hb6 (by omega)
  refine⟨b,n7,_,rfl,hb7,by omega,by omega,by omega,fun r8 H8 h80 h81 g8=>?_⟩
  have k38:=g4.trans (g5.trans (g6.trans (g7.trans g8)))
  have hM8:IsM H8 a M:=hM.mono k38.tp
  have fin:∀(s:Nat) (E:XK),s<=29->cH' [.ref a,.int s] H8 (kB2 C .Add (.ref p4) Q) E:=by
   intro s E hs
   refine⟨a,M,s,rfl,hM8,hO,by omega,by omega,by omega,fun t' l' h' w' p' q' u' v' H9 s9 hwn ht' hl' hh' hw' hlo' hhi'=>?_⟩
   have k9:=k38.trans (Go.of_same (c:=0) s9)
   walk_at "y"
   refine oK' (SqT.of (((g5.trans (g6.trans (g7.trans g8))).trans (Go.of_same (c:=0) s9)).tup h4)) (SqT.of ht') (by show 1+3<=sizeLine;decide) (fun z=>(nomatch z)) (fun _ z=>(nomatch z)) fun _ _ p10 hp10=>?_
   have s10:=ah' hp10 (.tup ([V.ref a]++[V.ref l',V.ref h',V.ref w']))
   refine q p10 a l' h' w' M (gw M s) p' q' u' v' _ (((g03.trans k9).trans (Go.of_same (c:=0) s10)).mono (by omega)) aa' ⟨(hM8.mono (aF' s9)).mono (aF' s10),hO,by omega,by omega,s10 _ _ hl',s10 _ _ hh',?_,fun r=>dW',fun r=>au gf' (jX' hs),hlo',hhi'⟩
   rw[<- sT']
   exact s10 _ _ hw'
  obtain⟨r8,rfl⟩:=aA h80
  have hr8:r8=0\/r8=1:=by omega
  walk_at "y"
  rcases hr8 with rfl|rfl
  .refine aO' (SqL.of (g8.lst h7)) (v:=.int r5) rfl ?_
   walk_at "y"
   exact fin r5 _ (by omega)
  .refine aO' (SqL.of (g8.lst h7)) (v:=.int r6) rfl ?_
   walk_at "y"
   exact fin r6 _ (by omega)
 .walk_at "y"
  refine ag' F.mach ?_
  walk_at "y"
  refine⟨b,n2,N,rfl,hb2,by omega,by omega,by omega,fun a M H3 g3 hM hO hMl=>?_⟩
  obtain⟨n3,hb3,hn3,_⟩:=g3.boxed hb2 (by omega)
  have g03:=g02.trans g3
  obtain⟨mv,hmv,hmr⟩:=id hM
  have hml:=hmr.len
  walk_at "y"
  refine bH' (SqT.of hmv) (eg' (vs:=mv) (fun i xs H'=>i<=M.length/\(∃ns:List Nat,xs=ns.map nV/\ns.length=i/\∀n∈ns,1<=n/\n<=9)/\Go i H3 H') ⟨aC _,⟨[],rfl,rfl,fun n hn=>absurd hn al⟩,Go.refl⟩ (fun i xs H' pv=>SqT.of (pv.2.2.tup hmv)) ?_ ?_)
  .rintro i xs H' x R hx ⟨_,⟨ns,rfl,hnl,hn⟩,g4⟩ hR
   have hi:=au' hx
   obtain⟨m4,hb4,hm4,_⟩:=g4.boxed hb3 (by omega)
   walk_at "y"
   refine ag' F.take ?_
   walk_at "y"
   refine⟨b,m4,_,rfl,hb4,by omega,by omega,by omega,fun k' H5 hk0' hk1' g5=>?_⟩
   obtain⟨k',rfl⟩:=aA hk0'
   walk_at "y"
   rw[show(1:Int)+(k':Int)=((1+k':Nat):Int) by omega]
   refine⟨by rw[ah,hnl];exact an' (by omega),hR _ _ ⟨by omega,⟨ns++[1+k'],by rw[aG];rfl,by rw[aN,hnl];rfl,fun n hn'=>?_⟩,g4.trans g5⟩⟩
   rcases aH.mp hn' with z|z
   .exact hn n z
   .rw[bm.mp z];omega
  rintro xs H4 ⟨_,⟨ns,rfl,hnl,hn⟩,g4⟩ w hw
  rw[hml]at hnl g4
  have g5:=g4.trans (Go.new (c:=0) hw (.lst (ns.map nV)))
  have h5:upd H4 w (.lst (ns.map nV)) w=some (.lst ((wL M (g1 ns)).map nV)):=by rw[aa',sU' hnl]
  generalize upd H4 w (.lst (ns.map nV))=H5 at g5 h5 ⊢
  have hg:=sV' hn (by decide)
  walk_at "y"
  refine ag' F.ends ?_
  walk_at "y"
  refine⟨a,w,M,g1 ns,rfl,hM.mono g5.tp,hO,by omega,by omega,fun r=>(hg r).1,fun r=>au (hg r).2 (by decide),h5,fun t l h p' q' u' v' H6 s6 ht hl hh hlo hhi=>?_⟩
  walk_at "y"
  refine aq' (SqT.of ht) (v:=.ref l) rfl ?_
  walk_at "y"
  refine aq' (SqT.of ht) (v:=.ref h) rfl ?_
  walk_at "y"
  refine⟨by decide,fun p7 hp7=>?_⟩
  have s7:=ah' hp7 (.tup [V.ref a,V.ref l,V.ref h,V.ref w])
  exact q p7 a l h w M (g1 ns) p' q' u' v' _ ((((g03.trans g5).trans (Go.of_same (c:=0) s6)).trans (Go.of_same (c:=0) s7)).mono (by omega)) aa' ⟨((hM.mono g5.tp).mono (aF' s6)).mono (aF' s7),hO,by omega,by omega,s7 _ _ hl,s7 _ _ hh,(s6.trans s7) _ _ h5,fun r=>(hg r).1,fun r=>au (hg r).2 (by decide),hlo,hhi⟩
theorem pg' {C:Rc} {σ:L2.St} {H:Hp} {D:Ends} {i j k l:Nat} {a:Addr} {x y z w:V} (h:SqT C.K H a [x,y,z,w]) (q:D.nx ((((σ.set i (some x)).set j (some y)).set k (some z)).set l (some w)) H):kG C (.tup (.cons (.name i) (.cons (.name j) (.cons (.name k) (.cons (.name l) .nil))))) D σ (.ref a) H:=
 ⟨a,[x,y,z,w],rfl,.inl h,rfl,_,_,rfl,_,_,rfl,_,_,rfl,_,_,rfl,rfl,q⟩
theorem nj' {M:List Rm} {om:Nat->Nat} {p q b:Nat} (h:LoW M om p q) (hu:∀r,1<=om r) (hb:∀r,om r<=b):p<=2*b/\q<=b:=by
 obtain⟨h1,h2,_,r,_,e⟩:=h
 have:=kh' h1 e (hu r) h2
 exact⟨au this.1 (fJ' hb),au this.2 (hb r)⟩
theorem nk' {M:List Rm} {om:Nat->Nat} {p q b:Nat} (h:HiW M om p q) (hu:∀r,1<=om r) (hb:∀r,om r<=b):p<=2*b/\q<=b:=by
 obtain⟨h1,h2,_,r,_,e⟩:=h
 have:=kh' h1 e (hu r) h2
 exact⟨au this.1 (fJ' hb),au this.2 (hb r)⟩
theorem dl' {H:Hp} {a:Addr} {p q:Nat} (h:d3' H a p q) (hp:p<=3 ^ 61) (hq:q<=3 ^ 61):Fp H (.ref a):=.inr (.inr ⟨a,_,rfl,rfl,h,rfl,hp,hq⟩)
def P3 (H:Hp) (x:V):Prop:=∃t x1 x2 x3,x=.ref t/\H t=some (.tup [x1,x2,x3])/\Fp H x1/\Fp H x2/\Pp H x3
theorem P3.keep {H H':Hp} (k:bB' H H') {x:V} (h:P3 H x):P3 H' x:=by
 obtain⟨t,x1,x2,x3,e,ht,h1,h2,h3⟩:=h
 exact⟨t,x1,x2,x3,e,k.2 _ _ ht,FpF.keep k h1,FpF.keep k h2,h3.keep k⟩
theorem gZ' {p q:Nat} (h1:aW p q=1) (h2:1<=q):frB (some [V.int (p:Int),V.int (q:Int)])=true:=by
 show(true&&(true&&(decide (0<=(p:Int))&&(decide (1<=(q:Int))&&decide (aW p q=1)))))=true
 rw[decide_eq_true (show(0:Int)<=p by omega),decide_eq_true (show(1:Int)<=q by omega),decide_eq_true h1]
 rfl
theorem sW' {M:List Rm} {om:Nat->Nat} {p q u v:Nat} (hO:OkM M) (hu:∀r,1<=om r) (hl:LoW M om p q) (hh:HiW M om u v):gdG M (some [V.int (p:Int),V.int (q:Int)]) (some [V.int (u:Int),V.int (v:Int)]) (some ((wL M om).map nV))=true:=by
 have ef:∀r,r<M.length->fv ((wL M om).map nV) r=om r:=fun r hr=>by
  unfold fv
  rw[aI,aD,cw' hr]
  exact aT _
 have es:∀r,st1 M (fv ((wL M om).map nV)) r=st1 M om r:=fun r=>by
  have eo:∀c,ow (fv ((wL M om).map nV)) (LW.stp M r c)=ow om (LW.stp M r c):=fun c=>by
   cases e:LW.stp M r c with
   |none=>rfl
   |some m=>exact ef m (LW.em' hO e)
  unfold st1
  rw[eo,eo]
 unfold gdG
 rw[gZ' hl.1 hl.2.1,gZ' hh.1 hh.2.1,aM,aM]
 show(decide ((((wL M om).map nV).length:Int)=M.length)&&(((wL M om).map nV).all gW'&&okG M _ _ (fv ((wL M om).map nV))))=true
 rw[af,af]
 refine⟨decide_eq_true (by rw[ah,aV']),bj.mpr fun x hx=>?_,kd'.mpr fun r hr=>?_⟩
 .obtain⟨n,hn,rfl⟩:=aP.mp hx
  obtain⟨r,_,rfl⟩:=aP.mp hn
  have:=hu r
  show(true&&decide ((1:Int)<=((om r:Nat):Int)))=true
  rw[aM]
  exact decide_eq_true (by omega)
 .rw[es,ef r hr]
  exact⟨hl.2.2.1 r hr,hh.2.2.1 r hr⟩
theorem eX' {H:Hp} {a:Addr} {p q:Nat} (h:d3' H a p q):Ft H (.ref a) (some [V.int (p:Int),V.int (q:Int)]):=⟨a,rfl,h,fun x hx=>by
 simp only[ai,al,or_false]at hx
 rcases hx with rfl|rfl<;>exact .inl ⟨_,rfl⟩⟩
def dm':Sp:=fun vs H Q _=>∃(b:Addr),vs=[.ref b]/\H b=some (da' b 0)/\∀H',Go 1200 H H'->Q (.bl true) H'
structure FsRight (C:Rc):Prop where
 take:C.fs "_law_take"=some az'
 ask:C.fs "_law_asked"=some ki'
 ends:C.fs "_law_ends"=some cB'
 bf:C.fs "_law_bent_fraction"=some sR'
 bw:C.fs "_law_bent_weights"=some sS'
 sg:C.fs "shows_growth"=some ku'
 due:C.fs "_law_due"=some ku'
theorem h0' {C:Rc} (hN:C.N.length=16) (F:FsRight C):∀vs H Q E,dm' vs H Q E->tSs C eW' { nx:=fun _ H'=>Q .non H',rt:=Q } (L2.ax' C.N vs) H:=by
 intro vs H Q E h
 obtain⟨b,rfl,hb,q⟩:=h
 rw[aj' hN]
 unfold eW'
 walk_at "y"
 rw[r9']
 refine ag' F.ask ?_
 walk_at "y"
 refine⟨b,0,rfl,hb,by omega,fun t a l h w M om p q' u v H1 e1 ht A=>?_⟩
 refine pg' (SqT.of ht) ?_
 obtain⟨hM,hO,hM1,hM2,hl,hh,hw,hu,hom,hlo,hhi⟩:=A
 have hbl:=nj' hlo hu hom
 have hbh:=nk' hhi hu hom
 have c30:2*3 ^ 29<=3 ^ 30:=by decide
 have c61:3 ^ 30<=3 ^ 61:=by decide
 have c90:3 ^ 29<=2 ^ 90:=by decide
 obtain⟨n1,hb1,hn1,_⟩:=e1.boxed hb (by omega)
 obtain⟨mv,hmv,hmr⟩:=id hM
 have hml:=hmr.len
 simp only[jy',List.set_cons_zero,List.set_cons_succ]
 walk_at "y"
 refine bH' (SqT.of hmv) (eg' (vs:=mv) (fun i xs H'=>i<=M.length/\(∃ns:List Nat,xs=ns.map nV/\ns.length=i/\∀n∈ns,1<=n/\n<=1000000)/\Go (2*i) H1 H') ⟨aC _,⟨[],rfl,rfl,fun n hn=>absurd hn al⟩,Go.refl⟩ (fun i xs H' pv=>SqT.of (pv.2.2.tup hmv)) ?_ ?_)
 .rintro i xs H' x R hx ⟨_,⟨ns,rfl,hnl,hn⟩,e4⟩ hR
  have hi:=au' hx
  obtain⟨m4,hb4,hm4,_⟩:=e4.boxed hb1 (by omega)
  walk_at "y"
  refine ag' F.take ?_
  walk_at "y"
  refine⟨⟨by decide,by decide,by decide⟩,?_⟩
  rw[show((10:Int) ^ (6:Int).toNat)=1000000 by decide]
  refine⟨by decide,fun l5 hl5=>?_⟩
  have g5:=Go.new (c:=0) hl5 (.lst [V.int 3,V.int 1000000])
  have h5:upd H' l5 (.lst [V.int 3,V.int 1000000]) l5=some (.lst [V.int 3,V.int 1000000]):=aa'
  generalize upd H' l5 (.lst [V.int 3,V.int 1000000])=H5 at g5 h5 ⊢
  obtain⟨m5,hb5,hm5,_⟩:=g5.boxed hb4 (by omega)
  walk_at "y"
  refine ag' F.take ?_
  walk_at "y"
  refine⟨b,m5,_,rfl,hb5,by omega,by omega,by omega,fun r6 H6 h60 h61 g6=>?_⟩
  obtain⟨m6,hb6,hm6,_⟩:=g6.boxed hb5 (by omega)
  have fin:∀(z:Nat) (E:XK),1<=z->z<=1000000-1+1->az' [.ref b,.int z] H6 (kB2 C .Add (.int 1) (ga' (ns.map nV) R)) E:=by
   intro z E hz1 hz2
   refine⟨b,m6,_,rfl,hb6,by omega,by omega,by omega,fun k' H7 hk0 hk1 g7=>?_⟩
   obtain⟨k',rfl⟩:=aA hk0
   walk_at "y"
   rw[show(1:Int)+(k':Int)=((1+k':Nat):Int) by omega]
   refine⟨by rw[ah,hnl];exact an' (by omega),hR _ _ ⟨by omega,⟨ns++[1+k'],by rw[aG];rfl,by rw[aN,hnl];rfl,fun n hn'=>?_⟩,(e4.trans (g5.trans (g6.trans g7))).mono (by omega)⟩⟩
   rcases aH.mp hn' with y|y
   .exact hn n y
   .rw[bm.mp y];omega
  obtain⟨r6,rfl⟩:=aA h60
  have hr6:r6=0\/r6=1:=by omega
  walk_at "y"
  rcases hr6 with rfl|rfl
  .refine aO' (SqL.of (g6.lst h5)) (v:=.int 3) rfl ?_
   walk_at "y"
   exact fin 3 _ (by decide) (by decide)
  .refine aO' (SqL.of (g6.lst h5)) (v:=.int 1000000) rfl ?_
   walk_at "y"
   exact fin 1000000 _ (by decide) (by decide)
 rintro xs H4 ⟨_,⟨ns,rfl,hnl,hn⟩,e4⟩ ow' how
 rw[hml]at hnl e4
 have e5:=e4.trans (Go.new (c:=0) how (.lst (ns.map nV)))
 have h5:upd H4 ow' (.lst (ns.map nV)) ow'=some (.lst ((wL M (g1 ns)).map nV)):=by rw[aa',sU' hnl]
 generalize upd H4 ow' (.lst (ns.map nV))=H5 at e5 h5 ⊢
 have hg:=sV' hn (by decide)
 walk_at "y"
 refine ag' F.ends ?_
 walk_at "y"
 refine⟨a,ow',M,g1 ns,rfl,hM.mono e5.tp,hO,by omega,by omega,fun r=>(hg r).1,fun r=>au (hg r).2 (by decide),h5,fun t6 l6 h6 p6 q6 u6 v6 H6 s6 ht6 hl6 hh6 hlo6 hhi6=>?_⟩
 have hbl6:=nj' hlo6 (fun r=>(hg r).1) fun r=>(hg r).2
 have hbh6:=nk' hhi6 (fun r=>(hg r).1) fun r=>(hg r).2
 have e6:=e5.trans (Go.of_same (c:=0) s6)
 have hw6:=e6.lst hw
 have h56:=s6 _ _ h5
 have Fl:Fp H6 (.ref l):=dl' (e6.tup hl) (by omega) (by omega)
 have Fh:Fp H6 (.ref h):=dl' (e6.tup hh) (by omega) (by omega)
 have Fw:Pp H6 (.ref w):=eQ' (ns:=wL M om) (.inl hw6) (fun n hn=>by
  obtain⟨r,_,rfl⟩:=aP.mp hn
  have:=hom r
  omega) (by rw[aV'];omega)
 have Fo:Pp H6 (.ref ow'):=eQ' (ns:=wL M (g1 ns)) (.inl h56) (fun n hn=>by
  obtain⟨r,_,rfl⟩:=aP.mp hn
  have:=(hg r).2
  omega) (by rw[aV'];omega)
 have Fl6:Fp H6 (.ref l6):=dl' hl6 (by omega) (by omega)
 have Fh6:Fp H6 (.ref h6):=dl' hh6 (by omega) (by omega)
 walk_at "y"
 refine⟨by decide,fun p7 hp7=>?_⟩
 have g7:=Go.new (c:=0) hp7 (.tup [V.ref l,V.ref h,V.ref w])
 have h7:upd H6 p7 (.tup [V.ref l,V.ref h,V.ref w]) p7=some (.tup [V.ref l,V.ref h,V.ref w]):=aa'
 generalize upd H6 p7 (.tup [V.ref l,V.ref h,V.ref w])=H7 at g7 h7 ⊢
 have T7:P3 H7 (.ref p7):=⟨p7,_,_,_,rfl,h7,FpF.keep (bB'.go g7) Fl,FpF.keep (bB'.go g7) Fh,Fw.keep (bB'.go g7)⟩
 walk_at "y"
 refine dj' (SqL.of (g7.lst hw6)) fun p8 hp8=>?_
 have g8:=Go.new (c:=0) hp8 (.tup ((wL M om).map nV))
 have h8:upd H7 p8 (.tup ((wL M om).map nV)) p8=some (.tup ((wL M om).map nV)):=aa'
 generalize upd H7 p8 (.tup ((wL M om).map nV))=H8 at g8 h8 ⊢
 have Fw8:Pp H8 (.ref p8):=eQ' (ns:=wL M om) (.inr h8) (fun n hn=>by
  obtain⟨r,_,rfl⟩:=aP.mp hn
  have:=hom r
  omega) (by rw[aV'];omega)
 walk_at "y"
 refine⟨by decide,fun p9 hp9=>?_⟩
 have g9:=Go.new (c:=0) hp9 (.tup [V.ref l,V.ref h,V.ref p8])
 have h9:upd H8 p9 (.tup [V.ref l,V.ref h,V.ref p8]) p9=some (.tup [V.ref l,V.ref h,V.ref p8]):=aa'
 generalize upd H8 p9 (.tup [V.ref l,V.ref h,V.ref p8])=H9 at g9 h9 ⊢
 have k9:=bB'.go (g7.trans (g8.trans g9))
 have T9:P3 H9 (.ref p9):=⟨p9,_,_,_,rfl,h9,FpF.keep k9 Fl,FpF.keep k9 Fh,Fw8.keep (bB'.go g9)⟩
 have ht9:=(g7.trans (g8.trans g9)).tup ht6
 walk_at "y"
 refine aq' (SqT.of ht9) (v:=.ref l6) rfl ?_
 walk_at "y"
 refine aq' (SqT.of ht9) (v:=.ref h6) rfl ?_
 walk_at "y"
 refine⟨by decide,fun p10 hp10=>?_⟩
 have g10:=Go.new (c:=0) hp10 (.tup [V.ref l6,V.ref h6,V.ref ow'])
 have h10:upd H9 p10 (.tup [V.ref l6,V.ref h6,V.ref ow']) p10=some (.tup [V.ref l6,V.ref h6,V.ref ow']):=aa'
 generalize upd H9 p10 (.tup [V.ref l6,V.ref h6,V.ref ow'])=H10 at g10 h10 ⊢
 have k10:=k9.trans (bB'.go g10)
 have T10:P3 H10 (.ref p10):=⟨p10,_,_,_,rfl,h10,FpF.keep k10 Fl6,FpF.keep k10 Fh6,Fo.keep k10⟩
 walk_at "y"
 refine⟨by decide,fun p11 hp11=>?_⟩
 have g11:=Go.new (c:=0) hp11 (.tup [V.ref l,V.ref h,V.ref ow'])
 have h11:upd H10 p11 (.tup [V.ref l,V.ref h,V.ref ow']) p11=some (.tup [V.ref l,V.ref h,V.ref ow']):=aa'
 generalize upd H10 p11 (.tup [V.ref l,V.ref h,V.ref ow'])=H11 at g11 h11 ⊢
 have k11:=k10.trans (bB'.go g11)
 have T11:P3 H11 (.ref p11):=⟨p11,_,_,_,rfl,h11,FpF.keep k11 Fl,FpF.keep k11 Fh,Fo.keep k11⟩
 have e11:=e6.trans (g7.trans (g8.trans (g9.trans (g10.trans g11))))
 have Tall:∀x∈[V.ref p7,.ref p9,.ref p10,.ref p11],P3 H11 x:=by
  intro x hx
  simp only[ai,al,or_false]at hx
  rcases hx with rfl|rfl|rfl|rfl
  .exact T7.keep (bB'.go (g8.trans (g9.trans (g10.trans g11))))
  .exact T9.keep (bB'.go (g10.trans g11))
  .exact T10.keep (bB'.go g11)
  .exact T11
 refine⟨by decide,fun pf hpf=>?_⟩
 have e12:=Go.new (c:=0) hpf (.lst [V.ref p7,.ref p9,.ref p10,.ref p11])
 have h12:upd H11 pf (.lst [V.ref p7,.ref p9,.ref p10,.ref p11]) pf=some (.lst [V.ref p7,.ref p9,.ref p10,.ref p11]):=aa'
 have T12:∀x∈[V.ref p7,.ref p9,.ref p10,.ref p11],∀o,P3 (upd (upd H11 pf (.lst [V.ref p7,.ref p9,.ref p10,.ref p11])) pf o) x:=fun x hx o=>by
  rw[dD']
  exact(Tall x hx).keep (bB'.go (Go.new (c:=0) hpf o))
 generalize upd H11 pf (.lst [V.ref p7,.ref p9,.ref p10,.ref p11])=H12 at e12 h12 T12 ⊢
 have hl11:d3' H11 l p q':=e11.tup hl
 have hh11:d3' H11 h u v:=e11.tup hh
 have hw11:=e11.lst hw
 obtain⟨n11,hb11,hn11,_⟩:=e11.boxed hb1 (by omega)
 have hwf:pf≠w:=(af' hw11 hpf).symm
 walk_at "y"
 refine f8' (by omega) (by omega) (hN' (n:=(8:Int).toNat) (fun k σ H'=>(∃x6 x9 x10 x11,σ=[some (.ref b),some (.ref a),some (.ref l),some (.ref h),some (.ref w),some (.ref ow'),x6,some (.ref t6),some (.ref pf),x9,x10,x11,none,none,none,none])/\Go (4*k) H11 H'/\∃ws,H' pf=some (.lst ws)/\ws.length=4+k/\∀x∈ws,∀o,P3 (upd H' pf o) x) ⟨⟨_,_,_,_,rfl⟩,e12.mono (by omega),_,h12,rfl,T12⟩ ?_ ?_)
 .rintro k σ H13 hk ⟨⟨x6,x9,x10,x11,rfl⟩,e13,ws,h13,hwl,hT⟩
  have hk:k<8:=hk
  walk_at "y"
  refine⟨by decide,fun p14 hp14=>?_⟩
  have g14:=Go.new (c:=0) hp14 (.lst [V.ref l,V.ref h,V.ref w])
  have h14:upd H13 p14 (.lst [V.ref l,V.ref h,V.ref w]) p14=some (.lst [V.ref l,V.ref h,V.ref w]):=aa'
  generalize upd H13 p14 (.lst [V.ref l,V.ref h,V.ref w])=H14 at g14 h14 ⊢
  have e14:=e13.trans g14
  obtain⟨n14,hb14,hn14,_⟩:=e14.boxed hb11 (by omega)
  have hpp:H11 p14=none:=e13.free _ hp14
  have npf:p14≠pf:=(af' h13 hp14).symm
  have npw:p14≠w:=(af' (e13.lst hw11) hp14).symm
  walk_at "y"
  refine ag' F.take ?_
  walk_at "y"
  refine⟨b,n14,_,rfl,hb14,by omega,by omega,by omega,fun r H15 hr0 hr1 g15=>?_⟩
  obtain⟨r,rfl⟩:=aA hr0
  have e15:=e14.trans g15
  obtain⟨n15,hb15,hn15,_⟩:=e15.boxed hb11 (by omega)
  have hpp15:=g15.lst h14
  have h15:=(g14.trans g15).lst h13
  have hl13:d3' H13 l p q':=e13.tup hl11
  have hh13:d3' H13 h u v:=e13.tup hh11
  have hl15:d3' H15 l p q':=(g14.trans g15).tup hl13
  have hh15:d3' H15 h u v:=(g14.trans g15).tup hh13
  have hw13:=e13.lst hw11
  have hw15:=(g14.trans g15).lst hw13
  have nlf:l≠pf:=af' hl11 hpf
  have nhf:h≠pf:=af' hh11 hpf
  have nwf:w≠pf:=af' hw11 hpf
  walk_at "y"
  generalize hD:pF' C _ _=D0
  have fin:∀(x9:Option V) (x1 x2 x3:V) (H17:Hp),H17 p14=some (.lst [x1,x2,x3])->Go (4*k+4) H11 H17->bB' H13 H17->(∀o,Fp (upd H17 pf o) x1/\Fp (upd H17 pf o) x2/\Pp (upd H17 pf o) x3)->D0.nx [some (.ref b),some (.ref a),some (.ref l),some (.ref h),some (.ref w),some (.ref ow'),x6,some (.ref t6),some (.ref pf),x9,some (.ref p14),some (.int r),none,none,none,none] H17:=by
   intro x9 x1 x2 x3 H17 hp17 e17 K17 hf
   rw[<- hD]
   have hpf17:=K17.1 _ _ h13
   walk_at "y"
   refine⟨tyL hpf17 rfl,?_⟩
   refine dj' (SqL.of hp17) fun p18 hp18=>?_
   have g18:=Go.new (c:=0) hp18 (.tup [x1,x2,x3])
   have h18:upd H17 p18 (.tup [x1,x2,x3]) p18=some (.tup [x1,x2,x3]):=aa'
   generalize upd H17 p18 (.tup [x1,x2,x3])=H18 at g18 h18 ⊢
   have n18:p18≠pf:=(af' hpf17 hp18).symm
   walk_at "y"
   refine fy' (g18.lst hpf17) (by rw[hwl];exact an' (by omega)) ?_
   refine⟨⟨_,_,_,_,rfl⟩,(c7' (e17.trans g18) hpf _).mono (by omega),ws++[.ref p18],aa',by rw[aN,hwl];rfl,fun x hx o=>?_⟩
   rw[dD']
   have K:=bB'.upd (bB'.go g18) pf o
   rcases aH.mp hx with hx|hx
   .exact(hT x hx o).keep ((bB'.upd K17 pf o).trans K)
   .rw[bm.mp hx]
    obtain⟨f1,f2,f3⟩:=hf o
    exact⟨p18,_,_,_,rfl,by rw[ae' n18];exact h18,FpF.keep K f1,FpF.keep K f2,f3.keep K⟩
  have KP:∀(H16:Hp) (c:Nat) (o:HO),Go c H15 H16->bB' H13 (upd H16 p14 o):=fun H16 c o g16=>bB'.go (c7' (g14.trans (g15.trans g16)) hp14 o)
  have hFl:∀H17,bB' H13 H17->∀o,Fp (upd H17 pf o) (.ref l):=fun H17 K o=>dl' (by unfold d3';rw[ae' nlf];exact K.2 _ _ hl13) (by omega) (by omega)
  have hFh:∀H17,bB' H13 H17->∀o,Fp (upd H17 pf o) (.ref h):=fun H17 K o=>dl' (by unfold d3';rw[ae' nhf];exact K.2 _ _ hh13) (by omega) (by omega)
  have hFw:∀H17,bB' H13 H17->∀o,Pp (upd H17 pf o) (.ref w):=fun H17 K o=>eQ' (ns:=wL M om) (.inl (by rw[ae' nwf];exact K.1 _ _ hw13)) (fun n hn=>by
   obtain⟨r,_,rfl⟩:=aP.mp hn
   have:=hom r
   omega) (by rw[aV'];omega)
  refine b5' (fun hc=>?_) fun hc=>?_
  .have hr2:r=2:=by omega
   subst hr2
   walk_at "y"
   refine ag' F.bw ?_
   walk_at "y"
   refine⟨b,n15,w,M,om,rfl,hb15,by omega,by omega,by omega,hw15,fun r=>au (hom r) (by decide),fun x H16 g16 hx=>?_⟩
   walk_at "y"
   refine dU' (k:=2) (g16.lst hpp15) (by show 2<3;decide) ?_
   have K:=KP H16 _ (.lst [V.ref l,V.ref h,x]) g16
   exact fin _ (.ref l) (.ref h) x _ aa' ((c7' (e15.trans g16) hpp _).mono (by omega)) K fun o=>⟨hFl _ K o,hFh _ K o,((hx.upd hpp15 npw _).upd h15 hwf o).pp⟩
  .have hr01:r=0\/r=1:=by omega
   walk_at "y"
   refine ag' F.bf ?_
   walk_at "y"
   rcases hr01 with rfl|rfl
   .refine aO' (SqL.of hpp15) (v:=.ref l) rfl ?_
    walk_at "y"
    refine⟨b,n15,l,p,q',rfl,hb15,by omega,hl15,hlo.2.1,by omega,by omega,fun x H16 g16 hx=>?_⟩
    walk_at "y"
    refine dU' (k:=0) (g16.lst hpp15) (by show 0<3;decide) ?_
    have K:=KP H16 _ (.lst [x,V.ref h,V.ref w]) g16
    exact fin _ x (.ref h) (.ref w) _ aa' ((c7' (e15.trans g16) hpp _).mono (by omega)) K fun o=>⟨((hx.upd hpp15 _).upd h15 o).fp,hFh _ K o,hFw _ K o⟩
   .refine aO' (SqL.of hpp15) (v:=.ref h) rfl ?_
    walk_at "y"
    refine⟨b,n15,h,u,v,rfl,hb15,by omega,hh15,hhi.2.1,by omega,by omega,fun x H16 g16 hx=>?_⟩
    walk_at "y"
    refine dU' (k:=1) (g16.lst hpp15) (by show 1<3;decide) ?_
    have K:=KP H16 _ (.lst [V.ref l,x,V.ref w]) g16
    exact fin _ (.ref l) x (.ref w) _ aa' ((c7' (e15.trans g16) hpp _).mono (by omega)) K fun o=>⟨hFl _ K o,((hx.upd hpp15 _).upd h15 o).fp,hFw _ K o⟩
 .rintro σ H13 ⟨⟨x6,x9,x10,x11,rfl⟩,e13,ws,h13,hwl,hT⟩
  have hwl:ws.length=12:=hwl
  have hT':∀x∈ws,P3 H13 x:=fun x hx=>by
   have:=hT x hx (.lst ws)
   rwa [k9' h13]at this
  have eM:IsM H13 a M:=((hM.mono e11.tp).mono e13.tp)
  walk_at "y"
  refine cu' (SqL.of h13) (rZ' (xs:=ws) (fun j σ H'=>(∃x6 x9 x10 x11 x12 x13 x14 x15,σ=[some (.ref b),some (.ref a),some (.ref l),some (.ref h),some (.ref w),some (.ref ow'),x6,some (.ref t6),some (.ref pf),x9,x10,x11,x12,x13,x14,x15])/\aG' H13 H') ⟨⟨_,_,_,_,_,_,_,_,rfl⟩,aG'.refl _⟩ (fun j σ H' _ pv=>SqL.of (pv.2 _ _ h13)) ?_ ?_)
  .rintro j x σ H14 hx ⟨⟨x6,x9,x10,x11,x12,x13,x14,x15,rfl⟩,s14⟩
   obtain⟨t',y1,y2,y3,rfl,ht',f1,f2,f3⟩:=hT' x (aX hx)
   obtain⟨o1,ho1,bo1⟩:=f1.ft
   obtain⟨o2,ho2,bo2⟩:=f2.ft
   obtain⟨o3,ho3,bo3⟩:=f3.tl
   refine rV' (SqT.of (s14 _ _ ht')) ?_
   walk_at "y"
   refine ag' F.sg ?_
   walk_at "y"
   refine⟨a,M,y1,y2,y3,o1,o2,o3,rfl,eM.mono (aF' s14),hO,by omega,ho1.mono s14,bo1,ho2.mono s14,bo2,ho3.mono s14,bo3,fun H15 s15=>?_⟩
   have s1:=s14.trans s15
   walk_at "y"
   refine ek' (T:="bool") rfl (k:=true) rfl (by decide) (by decide) ?_
   walk_at "y"
   refine ag' F.due ?_
   walk_at "y"
   refine⟨a,M,y1,y2,y3,o1,o2,o3,rfl,eM.mono (aF' s1),hO,by omega,ho1.mono s1,bo1,ho2.mono s1,bo2,ho3.mono s1,bo3,fun H16 s16=>?_⟩
   walk_at "y"
   exact⟨⟨_,_,_,_,_,_,_,_,rfl⟩,s1.trans s16⟩
  .rintro σ H14 ⟨⟨x6,x9,x10,x11,x12,x13,x14,x15,rfl⟩,s14⟩
   have e14:=e11.trans (e13.trans (Go.of_same (c:=0) s14))
   walk_at "y"
   refine ag' F.sg ?_
   walk_at "y"
   refine⟨a,M,.ref l,.ref h,.ref w,_,_,some ((wL M om).map nV),rfl,eM.mono (aF' s14),hO,by omega,eX' (e14.tup hl),⟨by show((p:Int)).toNat<=_;omega,by show((q':Int)).toNat<=_;omega⟩,eX' (e14.tup hh),⟨by show((u:Int)).toNat<=_;omega,by show((v:Int)).toNat<=_;omega⟩,vp' (e14.lst hw) (by omega),fun vs e x hx=>?_,fun H15 s15=>?_⟩
   .cases e
    obtain⟨n,hn,rfl⟩:=aP.mp hx
    obtain⟨r,_,rfl⟩:=aP.mp hn
    have:=hom r
    show((om r:Nat):Int).toNat<=_
    omega
   rw[sW' hO hu hlo hhi]
   walk_at "y"
   refine ag' F.sg ?_
   walk_at "y"
   refine⟨by decide,fun p16 hp16=>?_⟩
   have g16:=Go.new (c:=0) hp16 (.tup [])
   have h16:upd H15 p16 (.tup []) p16=some (.tup []):=aa'
   generalize upd H15 p16 (.tup [])=H16 at g16 h16 ⊢
   refine⟨by decide,fun p17 hp17=>?_⟩
   have g17:=Go.new (c:=0) hp17 (.tup [V.int 1,V.int 1])
   have h17:upd H16 p17 (.tup [V.int 1,V.int 1]) p17=some (.tup [V.int 1,V.int 1]):=aa'
   generalize upd H16 p17 (.tup [V.int 1,V.int 1])=H17 at g17 h17 ⊢
   refine⟨by decide,fun p18 hp18=>?_⟩
   have g18:=Go.new (c:=0) hp18 (.tup [V.int 1,V.int 1])
   have h18:upd H17 p18 (.tup [V.int 1,V.int 1]) p18=some (.tup [V.int 1,V.int 1]):=aa'
   generalize upd H17 p18 (.tup [V.int 1,V.int 1])=H18 at g18 h18 ⊢
   refine⟨by decide,fun p19 hp19=>?_⟩
   have g19:=Go.new (c:=0) hp19 (.lst [])
   have h19:upd H18 p19 (.lst []) p19=some (.lst []):=aa'
   generalize upd H18 p19 (.lst [])=H19 at g19 h19 ⊢
   have nil1:IsM H19 p16 []:=⟨[],(g17.trans (g18.trans g19)).tup h16,trivial⟩
   refine⟨p16,[],.ref p17,.ref p18,.ref p19,_,_,some [],rfl,nil1,fun r hr=>absurd hr al,aC _,eX' (p:=1) (q:=1) ((g18.trans g19).tup h17),⟨by decide,by decide⟩,eX' (p:=1) (q:=1) (g19.tup h18),⟨by decide,by decide⟩,⟨p19,rfl,.inl h19,fun x hx=>absurd hx al,aC _⟩,fun vs e x hx=>by cases e;exact absurd hx al,fun H20 s20=>?_⟩
   rw[show gdG [] (some [V.int ((1:Nat):Int),V.int ((1:Nat):Int)]) (some [V.int ((1:Nat):Int),V.int ((1:Nat):Int)]) (some [])=true from by decide]
   walk_at "y"
   exact q _ ((e1.trans (e14.trans ((Go.of_same (c:=0) s15).trans (g16.trans (g17.trans (g18.trans (g19.trans (Go.of_same (c:=0) s20)))))))).mono (by omega))
def kj' (K:W.Frag):Sp:=fun vs H Q _=>∃(a:Addr) (ns:List Int),vs=[.ref a]/\SqL K H a (ns.map V.int)/\ns.length<=63/\∀H',Q (.bl true) H'
theorem mg' {C:Rc} (hN:C.N.length=2) (hB:C.fs "_law_box"=some (jN' C.K)) (hR:C.fs "_law_right"=some dm'):∀vs H Q E,kj' C.K vs H Q E->tSs C l5' { nx:=fun _ H'=>Q .non H',rt:=Q } (L2.ax' C.N vs) H:=by
 intro vs H Q E h
 obtain⟨a,ns,rfl,hs,h63,q⟩:=h
 rw[aj' hN]
 unfold l5'
 walk_at "y"
 refine cv' hs ?_
 rw[ah]
 walk_at "y"
 generalize hNe:(if(3:Int)<(if(ns.length:Int)<10 then(ns.length:Int)else 10)then(if(ns.length:Int)<10 then(ns.length:Int)else 10)else 3)=N
 have hN0:0<=N/\N<=10:=by
  rw[<- hNe]
  split<;>split<;>omega
 refine f8' (by omega) (by omega) (hN' (fun i σ H'=>(∃x1,σ=[some (.ref a),x1])/\SqL C.K H' a (ns.map V.int)) ⟨⟨none,rfl⟩,hs⟩ ?_ ?_)
 .rintro i σ H0 hi ⟨⟨x1,rfl⟩,hs0⟩
  walk_at "y"
  refine ag' hR ?_
  walk_at "y"
  refine ag' hB ?_
  walk_at "y"
  refine⟨a,ns,_,rfl,hs0,by omega,by omega,fun b hb=>?_⟩
  have hs1:=(ah' hb (da' b 0)).seq hs0
  have hb1:upd H0 b (da' b 0) b=some (da' b 0):=aa'
  generalize upd H0 b (da' b 0)=H1 at hs1 hb1 ⊢
  walk_at "y"
  refine⟨b,rfl,hb1,fun H2 g2=>?_⟩
  walk_at "y"
  exact⟨⟨_,rfl⟩,g2.seq hs1⟩
 .rintro σ H0 ⟨⟨x1,rfl⟩,hs0⟩
  walk_at "y"
  exact q H0
end K26
namespace K26
open PySem PySem.Spec PyProof.Rows L2 R3 LW K30 K31 SR CK RW K28 K29 GR
def top (i:Nat):Stmt:=PySem.Challenge.pw_runbound_k26_growth_shown.main.body.getD i (.Pass ⟨0,0,0,0⟩)
theorem ph':mSs cd' bu' (ac' (top 1)) br' (ai' (top 1))=true:=by decide +kernel
theorem mh':FnScope cd' ["thing"] (ac' (top 1)):=⟨rfl,rfl,rfl,by decide +kernel,rfl,by decide +kernel,by decide +kernel⟩
theorem mi':mSs ce' bv' (ac' (top 2)) bs' (ai' (top 2))=true:=by decide +kernel
theorem kk':FnScope ce' ["thing","low","high"] (ac' (top 2)):=⟨rfl,rfl,rfl,by decide +kernel,rfl,by decide +kernel,by decide +kernel⟩
theorem sX':mSs cU' cf' (ac' (top 3)) ca' (ai' (top 3))=true:=by decide +kernel
theorem pi':FnScope cU' ["thing"] (ac' (top 3)):=⟨rfl,rfl,rfl,by decide +kernel,rfl,by decide +kernel,by decide +kernel⟩
theorem mj':mSs cg' bw' (ac' (top 4)) bt' (ai' (top 4))=true:=by decide +kernel
theorem kl':FnScope cg' ["thing"] (ac' (top 4)):=⟨rfl,rfl,rfl,by decide +kernel,rfl,by decide +kernel,by decide +kernel⟩
theorem sY':mSs bJ' a0' (ac' (top 5)) aY' (ai' (top 5))=true:=by decide +kernel
theorem pj':FnScope bJ' ["thing","many"] (ac' (top 5)):=⟨rfl,rfl,rfl,by decide +kernel,rfl,by decide +kernel,by decide +kernel⟩
theorem sZ':mSs cV' ch' (ac' (top 7)) cb' (ai' (top 7))=true:=by decide +kernel
theorem pk':FnScope cV' ["thing","many"] (ac' (top 7)):=⟨rfl,rfl,rfl,by decide +kernel,rfl,by decide +kernel,by decide +kernel⟩
theorem s0':mSs cW' ci' (ac' (top 8)) cc' (ai' (top 8))=true:=by decide +kernel
theorem pl':FnScope cW' ["thing","many"] (ac' (top 8)):=⟨rfl,rfl,rfl,by decide +kernel,rfl,by decide +kernel,by decide +kernel⟩
theorem vt':mSs bZ' bg' (ac' (top 9)) bd' (ai' (top 9))=true:=by decide +kernel
theorem s1':FnScope bZ' ["thing"] (ac' (top 9)):=⟨rfl,rfl,rfl,by decide +kernel,rfl,by decide +kernel,by decide +kernel⟩
theorem ml':mSs bh' aQ' (ac' (top 11)) be' (ai' (top 11))=true:=by decide +kernel
theorem km':FnScope bh' ["machine","numbers","room","bit"] (ac' (top 11)):=⟨rfl,rfl,rfl,by decide +kernel,rfl,by decide +kernel,by decide +kernel⟩
theorem kn':mSs bW' bn' (ac' (top 12)) bT' (ai' (top 12))=true:=by decide +kernel
theorem h4':FnScope bW' ["machine","numbers"] (ac' (top 12)):=⟨rfl,rfl,rfl,by decide +kernel,rfl,by decide +kernel,by decide +kernel⟩
theorem mm':mSs a1' aL' (ac' (top 14)) aK' (ai' (top 14))=true:=by decide +kernel
theorem ko':FnScope a1' ["one","other"] (ac' (top 14)):=⟨rfl,rfl,rfl,by decide +kernel,rfl,by decide +kernel,by decide +kernel⟩
theorem s2':mSs bK' a2' (ac' (top 15)) a3' (ai' (top 15))=true:=by decide +kernel
theorem pm':FnScope bK' ["thing"] (ac' (top 15)):=⟨rfl,rfl,rfl,by decide +kernel,rfl,by decide +kernel,by decide +kernel⟩
theorem s3':mSs bL' a4' (ac' (top 16)) aZ' (ai' (top 16))=true:=by decide +kernel
theorem pn':FnScope bL' ["top","below"] (ac' (top 16)):=⟨rfl,rfl,rfl,by decide +kernel,rfl,by decide +kernel,by decide +kernel⟩
theorem mn':mSs b0' bi' (ac' (top 17)) bf' (ai' (top 17))=true:=by decide +kernel
theorem kp':FnScope b0' ["one","other"] (ac' (top 17)):=⟨rfl,rfl,rfl,by decide +kernel,rfl,by decide +kernel,by decide +kernel⟩
theorem mo':mSs dk' cI' (ac' (top 18)) cG' (ai' (top 18))=true:=by decide +kernel
theorem kq':FnScope dk' ["machine","steps"] (ac' (top 18)):=⟨rfl,rfl,rfl,by decide +kernel,rfl,by decide +kernel,by decide +kernel⟩
theorem s4':mSs bM' a5' (ac' (top 19)) a6' (ai' (top 19))=true:=by decide +kernel
theorem po':FnScope bM' ["thing","many"] (ac' (top 19)):=⟨rfl,rfl,rfl,by decide +kernel,rfl,by decide +kernel,by decide +kernel⟩
theorem w1':mSs bo' aR' (ac' (top 20)) aS' (ai' (top 20))=true:=by decide +kernel
theorem vu':FnScope bo' ["machine","low","high","weights"] (ac' (top 20)):=⟨rfl,rfl,rfl,by decide +kernel,rfl,by decide +kernel,by decide +kernel⟩
theorem s5':mSs c8' cx' (ac' (top 22)) c5' (ai' (top 22))=true:=by decide +kernel
theorem pp':FnScope c8' ["_law_script","_law_k"] (ac' (top 22)):=⟨rfl,rfl,rfl,by decide +kernel,rfl,by decide +kernel,by decide +kernel⟩
theorem vv':mSs lZ' j1' (ac' (top 23)) lS' (ai' (top 23))=true:=by decide +kernel
theorem s6':FnScope lZ' ["_law_script","_law_k"] (ac' (top 23)):=⟨rfl,rfl,rfl,by decide +kernel,rfl,by decide +kernel,by decide +kernel⟩
theorem s7':mSs j2' gQ' (ac' (top 24)) gJ' (ai' (top 24))=true:=by decide +kernel
theorem pq':FnScope j2' ["_law_box_here","_law_many_here"] (ac' (top 24)):=⟨rfl,rfl,rfl,by decide +kernel,rfl,by decide +kernel,by decide +kernel⟩
theorem s8':mSs j3' gR' (ac' (top 25)) gK' (ai' (top 25))=true:=by decide +kernel
theorem pr':FnScope j3' ["_law_box_here","_law_least","_law_few","_law_most"] (ac' (top 25)):=⟨rfl,rfl,rfl,by decide +kernel,rfl,by decide +kernel,by decide +kernel⟩
theorem kr':mSs dX' c9' (ac' (top 26)) c6' (ai' (top 26))=true:=by decide +kernel
theorem h5':FnScope dX' ["_law_box_here","_law_many_here"] (ac' (top 26)):=⟨rfl,rfl,rfl,by decide +kernel,rfl,by decide +kernel,by decide +kernel⟩
theorem s9':mSs b1' bj' (ac' (top 27)) aP' (ai' (top 27))=true:=by decide +kernel
theorem pt':FnScope b1' ["_law_box_here","_law_many_here"] (ac' (top 27)):=⟨rfl,rfl,rfl,by decide +kernel,rfl,by decide +kernel,by decide +kernel⟩
theorem pu':mSs j4' gS' (ac' (top 28)) gT' (ai' (top 28))=true:=by decide +kernel
theorem mp':FnScope j4' ["_law_machine_here","_law_weights"] (ac' (top 28)):=⟨rfl,rfl,rfl,by decide +kernel,rfl,by decide +kernel,by decide +kernel⟩
theorem pv':mSs gl' eR' (ac' (top 29)) eS' (ai' (top 29))=true:=by decide +kernel
theorem mq':FnScope gl' ["_law_top","_law_below"] (ac' (top 29)):=⟨rfl,rfl,rfl,by decide +kernel,rfl,by decide +kernel,by decide +kernel⟩
theorem ta':mSs j5' gU' (ac' (top 30)) gV' (ai' (top 30))=true:=by decide +kernel
theorem pw':FnScope j5' ["_law_machine_here","_law_weights"] (ac' (top 30)):=⟨rfl,rfl,rfl,by decide +kernel,rfl,by decide +kernel,by decide +kernel⟩
theorem tb':mSs cX' cj' (ac' (top 31)) ck' (ai' (top 31))=true:=by decide +kernel
theorem px':FnScope cX' ["_law_thing","_law_least"] (ac' (top 31)):=⟨rfl,rfl,rfl,by decide +kernel,rfl,by decide +kernel,by decide +kernel⟩
theorem vw':mSs cl' bx' (ac' (top 32)) by' (ai' (top 32))=true:=by decide +kernel
theorem tc':FnScope cl' ["_law_thing"] (ac' (top 32)):=⟨rfl,rfl,rfl,by decide +kernel,rfl,by decide +kernel,by decide +kernel⟩
theorem vx':mSs o9' l0' (ac' (top 33)) l3' (ai' (top 33))=true:=by decide +kernel
theorem td':FnScope o9' ["_law_machine_here","_law_low","_law_high","_law_weights"] (ac' (top 33)):=⟨rfl,rfl,rfl,by decide +kernel,rfl,by decide +kernel,by decide +kernel⟩
theorem w2':mSs bN' a7' (ac' (top 34)) a8' (ai' (top 34))=true:=by decide +kernel
theorem vy':FnScope bN' ["_law_box_here","_law_one"] (ac' (top 34)):=⟨rfl,rfl,rfl,by decide +kernel,rfl,by decide +kernel,by decide +kernel⟩
theorem w3':mSs b2' bk' (ac' (top 35)) bl' (ai' (top 35))=true:=by decide +kernel
theorem vz':FnScope b2' ["_law_box_here","_law_weights"] (ac' (top 35)):=⟨rfl,rfl,rfl,by decide +kernel,rfl,by decide +kernel,by decide +kernel⟩
theorem py':mSs gm' eT' (ac' (top 36)) eU' (ai' (top 36))=true:=by decide +kernel
theorem mr':FnScope gm' ["_law_box_here"] (ac' (top 36)):=⟨rfl,rfl,rfl,by decide +kernel,rfl,by decide +kernel,by decide +kernel⟩
theorem pz':mSs gn' eV' (ac' (top 37)) eW' (ai' (top 37))=true:=by decide +kernel
theorem ms':FnScope gn' ["_law_box_here"] (ac' (top 37)):=⟨rfl,rfl,rfl,by decide +kernel,rfl,by decide +kernel,by decide +kernel⟩
theorem vA':mSs l4' j6' (ac' (top 38)) l5' (ai' (top 38))=true:=by decide +kernel
theorem te':FnScope l4' ["_law_script"] (ac' (top 38)):=⟨rfl,rfl,rfl,by decide +kernel,rfl,by decide +kernel,by decide +kernel⟩
set_option hygiene false in
local macro_rules | `(tactic| walk_at "o") => `(tactic| (intro vs H Q E h; repeat (first | (obtain ⟨rfl, _⟩ := h; rfl) | (obtain ⟨_, h⟩ := h))))
def FnD (K:W.Frag) (x:Str) (st:Stmt):Prop:=∃(f:Addr) (fd:FuncData),W.nsIn K mainGlobals x=some (some (.ref f))/\Fun K x x st f fd
theorem as' {K:W.Frag} {x:Str} {st:Stmt} {f:Addr} {oc:Value} {od an:Option Addr} {osl:Array (Option Value)} {kV doc pm cdv ct:Value} (a:W.nsIn K mainGlobals x=some (some (.ref f))) (l:K.lookup f=some ⟨oc,od,.func (W.fnOf x x (dc' st) (ai' st) (ac' st) .none kV doc pm an cdv ct),osl⟩) (c:W.codeIn K cdv x=true) (k:W.keepIn K (.ref f)=true):FnD K x st:=⟨f,_,a,qi' l c k⟩
theorem tf' {l:W.OpenLaw} {w:World} {K:W.Frag} {h:Heap} {mg:Str->Option Value} {fa:Addr} (X:K.In h) (G:h.Ns mainGlobals mg) (hfa:mg "law"=some (.ref fa))
  (p1:FnD K "is_number" (top 1))
  (p2:FnD K "is_within" (top 2))
  (p3:FnD K "is_pair" (top 3))
  (p4:FnD K "is_listed" (top 4))
  (p5:FnD K "are_numbers" (top 5))
  (p6:FnD K "is_lead" (top 7))
  (p7:FnD K "is_room" (top 8))
  (p8:FnD K "is_machine" (top 9))
  (p9:FnD K "behind_bit" (top 11))
  (p10:FnD K "way_sums" (top 12))
  (p11:FnD K "common_divisor" (top 14))
  (p12:FnD K "is_fraction" (top 15))
  (p13:FnD K "fraction_of" (top 16))
  (p14:FnD K "is_at_most" (top 17))
  (p15:FnD K "growth" (top 18))
  (p16:FnD K "are_weights" (top 19))
  (p17:FnD K "shows_growth" (top 20))
  (p18:FnD K "_law_cell_at" (top 22))
  (p19:FnD K "_law_box" (top 23))
  (p20:FnD K "_law_take" (top 24))
  (p21:FnD K "_law_many" (top 25))
  (p22:FnD K "_law_machine" (top 26))
  (p23:FnD K "_law_ring_machine" (top 27))
  (p24:FnD K "_law_sums" (top 28))
  (p25:FnD K "_law_terms" (top 29))
  (p26:FnD K "_law_ends" (top 30))
  (p27:FnD K "_law_is_number" (top 31))
  (p28:FnD K "_law_is_fraction" (top 32))
  (p29:FnD K "_law_due" (top 33))
  (p30:FnD K "_law_bent_fraction" (top 34))
  (p31:FnD K "_law_bent_weights" (top 35))
  (p32:FnD K "_law_asked" (top 36))
  (p33:FnD K "_law_right" (top 37))
  (p34:FnD K "law" (top 38))
  (z1:W.nsIn K mainGlobals "~"=some none)
  (z2:W.nsIn K mainGlobals "^"=some none)
  (z3:W.nsIn K mainGlobals "%"=some none)
  (z4:W.nsIn K mainGlobals "bool"=some none)
  (z5:W.nsIn K mainGlobals "int"=some none)
  (z6:W.nsIn K mainGlobals "isinstance"=some none)
  (z7:W.nsIn K mainGlobals "len"=some none)
  (z8:W.nsIn K mainGlobals "tuple"=some none)
  (z9:W.nsIn K mainGlobals "list"=some none)
  (z10:W.nsIn K mainGlobals "all"=some none)
  (z11:W.nsIn K mainGlobals "range"=some none)
  (z12:W.nsIn K mainGlobals "zip"=some none)
  (z13:W.nsIn K mainGlobals "abs"=some none)
  (z14:W.nsIn K mainGlobals "enumerate"=some none)
  (z15:W.nsIn K mainGlobals "sum"=some none)
  (z16:W.nsIn K mainGlobals "max"=some none)
  (z17:W.nsIn K mainGlobals "str"=some none)
  (z18:W.nsIn K mainGlobals "min"=some none):
  ∃fd:FuncData,(∀(s:Shared) (v:Value),BindsTo s fd ⟨[v],[]⟩ [("_law_script",v)])/\∀base:Heap,K.In base->base.Ns mainGlobals mg->FnOk l.prog w K mg base CX0 60 fa fd ["_law_script"] (kj' K):=by
 obtain⟨f1,g1,a1,F1⟩:=p1
 obtain⟨f2,g2,a2,F2⟩:=p2
 obtain⟨f3,g3,a3,F3⟩:=p3
 obtain⟨f4,g4,a4,F4⟩:=p4
 obtain⟨f5,g5,a5,F5⟩:=p5
 obtain⟨f6,g6,a6,F6⟩:=p6
 obtain⟨f7,g7,a7,F7⟩:=p7
 obtain⟨f8,g8,a8,F8⟩:=p8
 obtain⟨f9,g9,a9,F9⟩:=p9
 obtain⟨f10,g10,a10,F10⟩:=p10
 obtain⟨f11,g11,a11,F11⟩:=p11
 obtain⟨f12,g12,a12,F12⟩:=p12
 obtain⟨f13,g13,a13,F13⟩:=p13
 obtain⟨f14,g14,a14,F14⟩:=p14
 obtain⟨f15,g15,a15,F15⟩:=p15
 obtain⟨f16,g16,a16,F16⟩:=p16
 obtain⟨f17,g17,a17,F17⟩:=p17
 obtain⟨f18,g18,a18,F18⟩:=p18
 obtain⟨f19,g19,a19,F19⟩:=p19
 obtain⟨f20,g20,a20,F20⟩:=p20
 obtain⟨f21,g21,a21,F21⟩:=p21
 obtain⟨f22,g22,a22,F22⟩:=p22
 obtain⟨f23,g23,a23,F23⟩:=p23
 obtain⟨f24,g24,a24,F24⟩:=p24
 obtain⟨f25,g25,a25,F25⟩:=p25
 obtain⟨f26,g26,a26,F26⟩:=p26
 obtain⟨f27,g27,a27,F27⟩:=p27
 obtain⟨f28,g28,a28,F28⟩:=p28
 obtain⟨f29,g29,a29,F29⟩:=p29
 obtain⟨f30,g30,a30,F30⟩:=p30
 obtain⟨f31,g31,a31,F31⟩:=p31
 obtain⟨f32,g32,a32,F32⟩:=p32
 obtain⟨f33,g33,a33,F33⟩:=p33
 obtain⟨f34,g34,a34,F34⟩:=p34
 obtain⟨oc34,od34,kV34,dc34,pm34,an34,cd34,ct34,sl34,rfl,l34,c34⟩:=F34.ex
 have e:=hfa.symm.trans (W.mg_of X G a34)
 cases e
 have b1:=F1.binds (ps:=["thing"]) fun _ _ _ _ _ _ us hl=>m6' (P:=fun us=>bindArgs _ ({ pos:=us }:Args)=pure (bb _ us)) (fun _=>rfl) us hl
 have m1:=W.mg_of X G a1
 have b2:=F2.binds (ps:=["thing","low","high"]) fun _ _ _ _ _ _ us hl=>wO' (P:=fun us=>bindArgs _ ({ pos:=us }:Args)=pure (bb _ us)) (fun _ _ _=>rfl) us hl
 have m2:=W.mg_of X G a2
 have b3:=F3.binds (ps:=["thing"]) fun _ _ _ _ _ _ us hl=>m6' (P:=fun us=>bindArgs _ ({ pos:=us }:Args)=pure (bb _ us)) (fun _=>rfl) us hl
 have m3:=W.mg_of X G a3
 have b4:=F4.binds (ps:=["thing"]) fun _ _ _ _ _ _ us hl=>m6' (P:=fun us=>bindArgs _ ({ pos:=us }:Args)=pure (bb _ us)) (fun _=>rfl) us hl
 have m4:=W.mg_of X G a4
 have b5:=F5.binds (ps:=["thing","many"]) fun _ _ _ _ _ _ us hl=>ei' (P:=fun us=>bindArgs _ ({ pos:=us }:Args)=pure (bb _ us)) (fun _ _=>rfl) us hl
 have m5:=W.mg_of X G a5
 have b6:=F6.binds (ps:=["thing","many"]) fun _ _ _ _ _ _ us hl=>ei' (P:=fun us=>bindArgs _ ({ pos:=us }:Args)=pure (bb _ us)) (fun _ _=>rfl) us hl
 have m6:=W.mg_of X G a6
 have b7:=F7.binds (ps:=["thing","many"]) fun _ _ _ _ _ _ us hl=>ei' (P:=fun us=>bindArgs _ ({ pos:=us }:Args)=pure (bb _ us)) (fun _ _=>rfl) us hl
 have m7:=W.mg_of X G a7
 have b8:=F8.binds (ps:=["thing"]) fun _ _ _ _ _ _ us hl=>m6' (P:=fun us=>bindArgs _ ({ pos:=us }:Args)=pure (bb _ us)) (fun _=>rfl) us hl
 have m8:=W.mg_of X G a8
 have b9:=F9.binds (ps:=["machine","numbers","room","bit"]) fun _ _ _ _ _ _ us hl=>tD' (P:=fun us=>bindArgs _ ({ pos:=us }:Args)=pure (bb _ us)) (fun _ _ _ _=>rfl) us hl
 have m9:=W.mg_of X G a9
 have b10:=F10.binds (ps:=["machine","numbers"]) fun _ _ _ _ _ _ us hl=>ei' (P:=fun us=>bindArgs _ ({ pos:=us }:Args)=pure (bb _ us)) (fun _ _=>rfl) us hl
 have m10:=W.mg_of X G a10
 have b11:=F11.binds (ps:=["one","other"]) fun _ _ _ _ _ _ us hl=>ei' (P:=fun us=>bindArgs _ ({ pos:=us }:Args)=pure (bb _ us)) (fun _ _=>rfl) us hl
 have m11:=W.mg_of X G a11
 have b12:=F12.binds (ps:=["thing"]) fun _ _ _ _ _ _ us hl=>m6' (P:=fun us=>bindArgs _ ({ pos:=us }:Args)=pure (bb _ us)) (fun _=>rfl) us hl
 have m12:=W.mg_of X G a12
 have b13:=F13.binds (ps:=["top","below"]) fun _ _ _ _ _ _ us hl=>ei' (P:=fun us=>bindArgs _ ({ pos:=us }:Args)=pure (bb _ us)) (fun _ _=>rfl) us hl
 have m13:=W.mg_of X G a13
 have b14:=F14.binds (ps:=["one","other"]) fun _ _ _ _ _ _ us hl=>ei' (P:=fun us=>bindArgs _ ({ pos:=us }:Args)=pure (bb _ us)) (fun _ _=>rfl) us hl
 have m14:=W.mg_of X G a14
 have b15:=F15.binds (ps:=["machine","steps"]) fun _ _ _ _ _ _ us hl=>ei' (P:=fun us=>bindArgs _ ({ pos:=us }:Args)=pure (bb _ us)) (fun _ _=>rfl) us hl
 have m15:=W.mg_of X G a15
 have b16:=F16.binds (ps:=["thing","many"]) fun _ _ _ _ _ _ us hl=>ei' (P:=fun us=>bindArgs _ ({ pos:=us }:Args)=pure (bb _ us)) (fun _ _=>rfl) us hl
 have m16:=W.mg_of X G a16
 have b17:=F17.binds (ps:=["machine","low","high","weights"]) fun _ _ _ _ _ _ us hl=>tD' (P:=fun us=>bindArgs _ ({ pos:=us }:Args)=pure (bb _ us)) (fun _ _ _ _=>rfl) us hl
 have m17:=W.mg_of X G a17
 have b18:=F18.binds (ps:=["_law_script","_law_k"]) fun _ _ _ _ _ _ us hl=>ei' (P:=fun us=>bindArgs _ ({ pos:=us }:Args)=pure (bb _ us)) (fun _ _=>rfl) us hl
 have m18:=W.mg_of X G a18
 have b19:=F19.binds (ps:=["_law_script","_law_k"]) fun _ _ _ _ _ _ us hl=>ei' (P:=fun us=>bindArgs _ ({ pos:=us }:Args)=pure (bb _ us)) (fun _ _=>rfl) us hl
 have m19:=W.mg_of X G a19
 have b20:=F20.binds (ps:=["_law_box_here","_law_many_here"]) fun _ _ _ _ _ _ us hl=>ei' (P:=fun us=>bindArgs _ ({ pos:=us }:Args)=pure (bb _ us)) (fun _ _=>rfl) us hl
 have m20:=W.mg_of X G a20
 have b21:=F21.binds (ps:=["_law_box_here","_law_least","_law_few","_law_most"]) fun _ _ _ _ _ _ us hl=>tD' (P:=fun us=>bindArgs _ ({ pos:=us }:Args)=pure (bb _ us)) (fun _ _ _ _=>rfl) us hl
 have m21:=W.mg_of X G a21
 have b22:=F22.binds (ps:=["_law_box_here","_law_many_here"]) fun _ _ _ _ _ _ us hl=>ei' (P:=fun us=>bindArgs _ ({ pos:=us }:Args)=pure (bb _ us)) (fun _ _=>rfl) us hl
 have m22:=W.mg_of X G a22
 have b23:=F23.binds (ps:=["_law_box_here","_law_many_here"]) fun _ _ _ _ _ _ us hl=>ei' (P:=fun us=>bindArgs _ ({ pos:=us }:Args)=pure (bb _ us)) (fun _ _=>rfl) us hl
 have m23:=W.mg_of X G a23
 have b24:=F24.binds (ps:=["_law_machine_here","_law_weights"]) fun _ _ _ _ _ _ us hl=>ei' (P:=fun us=>bindArgs _ ({ pos:=us }:Args)=pure (bb _ us)) (fun _ _=>rfl) us hl
 have m24:=W.mg_of X G a24
 have b25:=F25.binds (ps:=["_law_top","_law_below"]) fun _ _ _ _ _ _ us hl=>ei' (P:=fun us=>bindArgs _ ({ pos:=us }:Args)=pure (bb _ us)) (fun _ _=>rfl) us hl
 have m25:=W.mg_of X G a25
 have b26:=F26.binds (ps:=["_law_machine_here","_law_weights"]) fun _ _ _ _ _ _ us hl=>ei' (P:=fun us=>bindArgs _ ({ pos:=us }:Args)=pure (bb _ us)) (fun _ _=>rfl) us hl
 have m26:=W.mg_of X G a26
 have b27:=F27.binds (ps:=["_law_thing","_law_least"]) fun _ _ _ _ _ _ us hl=>ei' (P:=fun us=>bindArgs _ ({ pos:=us }:Args)=pure (bb _ us)) (fun _ _=>rfl) us hl
 have m27:=W.mg_of X G a27
 have b28:=F28.binds (ps:=["_law_thing"]) fun _ _ _ _ _ _ us hl=>m6' (P:=fun us=>bindArgs _ ({ pos:=us }:Args)=pure (bb _ us)) (fun _=>rfl) us hl
 have m28:=W.mg_of X G a28
 have b29:=F29.binds (ps:=["_law_machine_here","_law_low","_law_high","_law_weights"]) fun _ _ _ _ _ _ us hl=>tD' (P:=fun us=>bindArgs _ ({ pos:=us }:Args)=pure (bb _ us)) (fun _ _ _ _=>rfl) us hl
 have m29:=W.mg_of X G a29
 have b30:=F30.binds (ps:=["_law_box_here","_law_one"]) fun _ _ _ _ _ _ us hl=>ei' (P:=fun us=>bindArgs _ ({ pos:=us }:Args)=pure (bb _ us)) (fun _ _=>rfl) us hl
 have m30:=W.mg_of X G a30
 have b31:=F31.binds (ps:=["_law_box_here","_law_weights"]) fun _ _ _ _ _ _ us hl=>ei' (P:=fun us=>bindArgs _ ({ pos:=us }:Args)=pure (bb _ us)) (fun _ _=>rfl) us hl
 have m31:=W.mg_of X G a31
 have b32:=F32.binds (ps:=["_law_box_here"]) fun _ _ _ _ _ _ us hl=>m6' (P:=fun us=>bindArgs _ ({ pos:=us }:Args)=pure (bb _ us)) (fun _=>rfl) us hl
 have m32:=W.mg_of X G a32
 have b33:=F33.binds (ps:=["_law_box_here"]) fun _ _ _ _ _ _ us hl=>m6' (P:=fun us=>bindArgs _ ({ pos:=us }:Args)=pure (bb _ us)) (fun _=>rfl) us hl
 have m33:=W.mg_of X G a33
 have m34:=W.mg_of X G a34
 have n1:=W.mg_none_of X G z1
 have n2:=W.mg_none_of X G z2
 have n3:=W.mg_none_of X G z3
 have n4:=W.mg_none_of X G z4
 have n5:=W.mg_none_of X G z5
 have n6:=W.mg_none_of X G z6
 have n7:=W.mg_none_of X G z7
 have n8:=W.mg_none_of X G z8
 have n9:=W.mg_none_of X G z9
 have n10:=W.mg_none_of X G z10
 have n11:=W.mg_none_of X G z11
 have n12:=W.mg_none_of X G z12
 have n13:=W.mg_none_of X G z13
 have n14:=W.mg_none_of X G z14
 have n15:=W.mg_none_of X G z15
 have n16:=W.mg_none_of X G z16
 have n17:=W.mg_none_of X G z17
 have n18:=W.mg_none_of X G z18
 refine⟨W.fnOf "law" "law" (dc' (top 38)) (ai' (top 38)) (ac' (top 38)) .none kV34 dc34 pm34 an34 cd34 ct34,fun s v=>.of_eq rfl,fun base _ _=>?_⟩
 have O1:=ak' (P:=l.prog) (w:=w) (mg:=mg) (base:=base) (k:=0) F1 { N:=cd',B:=bu',K:=K,fs:=aw' [] } mh' rfl br' ph' (sp:=bI') (by walk_at "o") (ar' mN) (mC ⟨n4,(mC ⟨n5,(mC ⟨n6,mN⟩)⟩)⟩) ⟨n1,n2,n3⟩ (show tld bu'=false by decide +kernel) (show hat bu'=false by decide +kernel) rfl rfl (hQ' rfl  )
 have O2:=ak' (P:=l.prog) (w:=w) (mg:=mg) (base:=base) (k:=1) F2 { N:=ce',B:=bv',K:=K,fs:=aw' [("is_number",bI')] } kk' rfl bs' mi' (sp:=cF') (by walk_at "o") (ar' (mC ⟨⟨_,_,_,(O1).mono (by omega),m1,F1.kp,b1⟩,mN⟩)) mN ⟨n1,n2,n3⟩ (show tld bv'=false by decide +kernel) (show hat bv'=false by decide +kernel) rfl rfl (gd' rfl (show aw' _ "is_number"=some (bI') from ad') )
 have O3:=ak' (P:=l.prog) (w:=w) (mg:=mg) (base:=base) (k:=0) F3 { N:=cU',B:=cf',K:=K,fs:=aw' [] } pi' rfl ca' sX' (sp:=cy') (by walk_at "o") (ar' mN) (mC ⟨n6,(mC ⟨n7,(mC ⟨n8,mN⟩)⟩)⟩) ⟨n1,n2,n3⟩ (show tld cf'=false by decide +kernel) (show hat cf'=false by decide +kernel) rfl rfl (hV' rfl  )
 have O4:=ak' (P:=l.prog) (w:=w) (mg:=mg) (base:=base) (k:=0) F4 { N:=cg',B:=bw',K:=K,fs:=aw' [] } kl' rfl bt' mj' (sp:=jR') (by walk_at "o") (ar' mN) (mC ⟨n6,(mC ⟨n9,(mC ⟨n8,mN⟩)⟩)⟩) ⟨n1,n2,n3⟩ (show tld bw'=false by decide +kernel) (show hat bw'=false by decide +kernel) rfl rfl (lW' rfl  )
 have O5:=ak' (P:=l.prog) (w:=w) (mg:=mg) (base:=base) (k:=1) F5 { N:=bJ',B:=a0',K:=K,fs:=aw' [("is_listed",jR'),("is_number",bI')] } pj' rfl aY' sY' (sp:=dV') (by walk_at "o") (ar' (mC ⟨⟨_,_,_,(O4).mono (by omega),m4,F4.kp,b4⟩,(mC ⟨⟨_,_,_,(O1).mono (by omega),m1,F1.kp,b1⟩,mN⟩)⟩)) (mC ⟨n10,(mC ⟨n7,mN⟩)⟩) ⟨n1,n2,n3⟩ (show tld a0'=false by decide +kernel) (show hat a0'=false by decide +kernel) rfl rfl (jS' rfl (show aw' _ "is_listed"=some (jR') from ad') (show aw' _ "is_number"=some (bI') from((ab' (by decide +kernel)).trans ad')) )
 have O6:=ak' (P:=l.prog) (w:=w) (mg:=mg) (base:=base) (k:=2) F6 { N:=cV',B:=ch',K:=K,fs:=aw' [("is_within",cF')] } pk' rfl cb' sZ' (sp:=fB') (by walk_at "o") (ar' (mC ⟨⟨_,_,_,(O2).mono (by omega),m2,F2.kp,b2⟩,mN⟩)) mN ⟨n1,n2,n3⟩ (show tld ch'=false by decide +kernel) (show hat ch'=false by decide +kernel) rfl rfl (jQ' rfl (show aw' _ "is_within"=some (cF') from ad') )
 have O7:=ak' (P:=l.prog) (w:=w) (mg:=mg) (base:=base) (k:=3) F7 { N:=cW',B:=ci',K:=K,fs:=aw' [("is_pair",cy'),("is_lead",fB')] } pl' rfl cc' s0' (sp:=fC') (by walk_at "o") (ar' (mC ⟨⟨_,_,_,(O3).mono (by omega),m3,F3.kp,b3⟩,(mC ⟨⟨_,_,_,(O6).mono (by omega),m6,F6.kp,b6⟩,mN⟩)⟩)) mN ⟨n1,n2,n3⟩ (show tld ci'=false by decide +kernel) (show hat ci'=false by decide +kernel) rfl rfl (hW' rfl (show aw' _ "is_pair"=some (cy') from ad') (show aw' _ "is_lead"=some (fB') from((ab' (by decide +kernel)).trans ad')) )
 have O8:=ak' (P:=l.prog) (w:=w) (mg:=mg) (base:=base) (k:=4) F8 { N:=bZ',B:=bg',K:=K,fs:=aw' [("is_room",fC')] } s1' rfl bd' vt' (sp:=ge') (by walk_at "o") (ar' (mC ⟨⟨_,_,_,(O7).mono (by omega),m7,F7.kp,b7⟩,mN⟩)) (mC ⟨n10,(mC ⟨n6,(mC ⟨n7,(mC ⟨n8,mN⟩)⟩)⟩)⟩) ⟨n1,n2,n3⟩ (show tld bg'=false by decide +kernel) (show hat bg'=false by decide +kernel) rfl rfl (lV' rfl (show aw' _ "is_room"=some (fC') from ad') )
 have O9:=ak' (P:=l.prog) (w:=w) (mg:=mg) (base:=base) (k:=0) F9 { N:=bh',B:=aQ',K:=K,fs:=aw' [] } km' rfl be' ml' (sp:=b6' K) (by walk_at "o") (ar' mN) (mC ⟨n5,mN⟩) ⟨n1,n2,n3⟩ (show tld aQ'=false by decide +kernel) (show hat aQ'=false by decide +kernel) rfl rfl (fG' (C:={ N:=bh',B:=aQ',K:=K,fs:=aw' [] }) rfl  )
 have O10:=ak' (P:=l.prog) (w:=w) (mg:=mg) (base:=base) (k:=1) F10 { N:=bW',B:=bn',K:=K,fs:=aw' [("behind_bit",b6' K)] } h4' rfl bT' kn' (sp:=aW' K) (by walk_at "o") (ar' (mC ⟨⟨_,_,_,(O9).mono (by omega),m9,F9.kp,b9⟩,mN⟩)) (mC ⟨n7,(mC ⟨n11,mN⟩)⟩) ⟨n1,n2,n3⟩ (show tld bn'=false by decide +kernel) (show hat bn'=false by decide +kernel) rfl rfl (d4' (C:={ N:=bW',B:=bn',K:=K,fs:=aw' [("behind_bit",b6' K)] }) rfl (show aw' _ "behind_bit"=some (b6' K) from ad') )
 have O11:=ak' (P:=l.prog) (w:=w) (mg:=mg) (base:=base) (k:=0) F11 { N:=a1',B:=aL',K:=K,fs:=aw' [] } ko' rfl aK' mm' (sp:=bU') (by walk_at "o") (ar' mN) mN ⟨n1,n2,n3⟩ (show tld aL'=false by decide +kernel) (show hat aL'=false by decide +kernel) rfl rfl (gh' rfl  )
 have O12:=ak' (P:=l.prog) (w:=w) (mg:=mg) (base:=base) (k:=1) F12 { N:=bK',B:=a2',K:=K,fs:=aw' [("is_pair",cy'),("is_number",bI'),("common_divisor",bU')] } pm' rfl a3' s2' (sp:=fH') (by walk_at "o") (ar' (mC ⟨⟨_,_,_,(O3).mono (by omega),m3,F3.kp,b3⟩,(mC ⟨⟨_,_,_,(O1).mono (by omega),m1,F1.kp,b1⟩,(mC ⟨⟨_,_,_,(O11).mono (by omega),m11,F11.kp,b11⟩,mN⟩)⟩)⟩)) mN ⟨n1,n2,n3⟩ (show tld a2'=false by decide +kernel) (show hat a2'=false by decide +kernel) rfl rfl (j8' rfl (show aw' _ "is_pair"=some (cy') from ad') (show aw' _ "is_number"=some (bI') from((ab' (by decide +kernel)).trans ad')) (show aw' _ "common_divisor"=some (bU') from((ab' (by decide +kernel)).trans ((ab' (by decide +kernel)).trans ad'))) )
 have O13:=ak' (P:=l.prog) (w:=w) (mg:=mg) (base:=base) (k:=1) F13 { N:=bL',B:=a4',K:=K,fs:=aw' [("common_divisor",bU')] } pn' rfl aZ' s3' (sp:=bp') (by walk_at "o") (ar' (mC ⟨⟨_,_,_,(O11).mono (by omega),m11,F11.kp,b11⟩,mN⟩)) mN ⟨n1,n2,n3⟩ (show tld a4'=false by decide +kernel) (show hat a4'=false by decide +kernel) rfl rfl (jY' rfl (show aw' _ "common_divisor"=some (bU') from ad') )
 have O14:=ak' (P:=l.prog) (w:=w) (mg:=mg) (base:=base) (k:=0) F14 { N:=b0',B:=bi',K:=K,fs:=aw' [] } kp' rfl bf' mn' (sp:=bV') (by walk_at "o") (ar' mN) mN ⟨n1,n2,n3⟩ (show tld bi'=false by decide +kernel) (show hat bi'=false by decide +kernel) rfl rfl (gi' rfl  )
 have O15:=ak' (P:=l.prog) (w:=w) (mg:=mg) (base:=base) (k:=2) F15 { N:=dk',B:=cI',K:=K,fs:=aw' [("way_sums",aW' K),("fraction_of",bp'),("is_at_most",bV')] } kq' rfl cG' mo' (sp:=cH') (by walk_at "o") (ar' (mC ⟨⟨_,_,_,(O10).mono (by omega),m10,F10.kp,b10⟩,(mC ⟨⟨_,_,_,(O13).mono (by omega),m13,F13.kp,b13⟩,(mC ⟨⟨_,_,_,(O14).mono (by omega),m14,F14.kp,b14⟩,mN⟩)⟩)⟩)) (mC ⟨n11,(mC ⟨n12,mN⟩)⟩) ⟨n1,n2,n3⟩ (show tld cI'=false by decide +kernel) (show hat cI'=false by decide +kernel) rfl rfl (fK' rfl (show aw' _ "way_sums"=some (aW' K) from ad') (show aw' _ "fraction_of"=some (bp') from((ab' (by decide +kernel)).trans ad')) (show aw' _ "is_at_most"=some (bV') from((ab' (by decide +kernel)).trans ((ab' (by decide +kernel)).trans ad'))) )
 have O16:=ak' (P:=l.prog) (w:=w) (mg:=mg) (base:=base) (k:=2) F16 { N:=bM',B:=a5',K:=K,fs:=aw' [("are_numbers",dV')] } po' rfl a6' s4' (sp:=fI') (by walk_at "o") (ar' (mC ⟨⟨_,_,_,(O5).mono (by omega),m5,F5.kp,b5⟩,mN⟩)) (mC ⟨n10,mN⟩) ⟨n1,n2,n3⟩ (show tld a5'=false by decide +kernel) (show hat a5'=false by decide +kernel) rfl rfl (kb' rfl (show aw' _ "are_numbers"=some (dV') from ad') )
 have O17:=ak' (P:=l.prog) (w:=w) (mg:=mg) (base:=base) (k:=5) F17 { N:=bo',B:=aR',K:=K,fs:=aw' [("is_machine",ge'),("is_fraction",fH'),("are_weights",fI'),("way_sums",aW' K),("is_at_most",bV')] } vu' rfl aS' w1' (sp:=ku') (by walk_at "o") (ar' (mC ⟨⟨_,_,_,(O8).mono (by omega),m8,F8.kp,b8⟩,(mC ⟨⟨_,_,_,(O12).mono (by omega),m12,F12.kp,b12⟩,(mC ⟨⟨_,_,_,(O16).mono (by omega),m16,F16.kp,b16⟩,(mC ⟨⟨_,_,_,(O10).mono (by omega),m10,F10.kp,b10⟩,(mC ⟨⟨_,_,_,(O14).mono (by omega),m14,F14.kp,b14⟩,mN⟩)⟩)⟩)⟩)⟩)) (mC ⟨n10,(mC ⟨n7,(mC ⟨n9,(mC ⟨n12,mN⟩)⟩)⟩)⟩) ⟨n1,n2,n3⟩ (show tld aR'=false by decide +kernel) (show hat aR'=false by decide +kernel) rfl rfl (pb' rfl ⟨(show aw' _ "is_machine"=some (ge') from ad'),(show aw' _ "is_fraction"=some (fH') from((ab' (by decide +kernel)).trans ad')),(show aw' _ "are_weights"=some (fI') from((ab' (by decide +kernel)).trans ((ab' (by decide +kernel)).trans ad'))),(show aw' _ "way_sums"=some (aW' K) from((ab' (by decide +kernel)).trans ((ab' (by decide +kernel)).trans ((ab' (by decide +kernel)).trans ad')))),(show aw' _ "is_at_most"=some (bV') from((ab' (by decide +kernel)).trans ((ab' (by decide +kernel)).trans ((ab' (by decide +kernel)).trans ((ab' (by decide +kernel)).trans ad')))))⟩ )
 have O18:=ak' (P:=l.prog) (w:=w) (mg:=mg) (base:=base) (k:=0) F18 { N:=c8',B:=cx',K:=K,fs:=aw' [] } pp' rfl c5' s5' (sp:=ej' K) (by walk_at "o") (ar' mN) (mC ⟨n7,mN⟩) ⟨n1,n2,n3⟩ (show tld cx'=false by decide +kernel) (show hat cx'=false by decide +kernel) rfl rfl (jK' (C:={ N:=c8',B:=cx',K:=K,fs:=aw' [] }) rfl  )
 have O19:=so' (ak' (P:=l.prog) (w:=w) (mg:=mg) (base:=base) (k:=1) F19 { N:=lZ',B:=j1',K:=K,fs:=aw' [("_law_cell_at",ej' K)] } s6' rfl lS' vv' (sp:=jL' K) (by walk_at "o") (ar' (mC ⟨⟨_,_,_,(O18).mono (by omega),m18,F18.kp,b18⟩,mN⟩)) (mC ⟨n13,(mC ⟨n5,mN⟩)⟩) ⟨n1,n2,n3⟩ (show tld j1'=false by decide +kernel) (show hat j1'=false by decide +kernel) rfl rfl (lU' (C:={ N:=lZ',B:=j1',K:=K,fs:=aw' [("_law_cell_at",ej' K)] }) rfl (show aw' _ "_law_cell_at"=some (ej' K) from ad') ))
 have O20:=oZ' rfl (ak' (P:=l.prog) (w:=w) (mg:=mg) (base:=base) (k:=0) F20 { N:=j2',B:=gQ',K:=K,fs:=aw' [] } pq' rfl gJ' s7' (sp:=eN') (by walk_at "o") (ar' mN) mN ⟨n1,n2,n3⟩ (show tld gQ'=false by decide +kernel) (show hat gQ'=false by decide +kernel) rfl rfl (jM' rfl  ))
 have O21:=ak' (P:=l.prog) (w:=w) (mg:=mg) (base:=base) (k:=1) F21 { N:=j3',B:=gR',K:=K,fs:=aw' [("_law_take",az')] } pr' rfl gK' s8' (sp:=fz') (by walk_at "o") (ar' (mC ⟨⟨_,_,_,(O20).mono (by omega),m20,F20.kp,b20⟩,mN⟩)) mN ⟨n1,n2,n3⟩ (show tld gR'=false by decide +kernel) (show hat gR'=false by decide +kernel) rfl rfl (jO' rfl (show aw' _ "_law_take"=some (az') from ad') )
 have O22:=ak' (P:=l.prog) (w:=w) (mg:=mg) (base:=base) (k:=1) F22 { N:=dX',B:=c9',K:=K,fs:=aw' [("_law_take",az')] } h5' rfl c6' kr' (sp:=cM' 1 60 400) (by walk_at "o") (ar' (mC ⟨⟨_,_,_,(O20).mono (by omega),m20,F20.kp,b20⟩,mN⟩)) (mC ⟨n5,(mC ⟨n11,(mC ⟨n8,mN⟩)⟩)⟩) ⟨n1,n2,n3⟩ (show tld c9'=false by decide +kernel) (show hat c9'=false by decide +kernel) rfl rfl (fA' rfl (show aw' _ "_law_take"=some (az') from ad') )
 have O23:=ak' (P:=l.prog) (w:=w) (mg:=mg) (base:=base) (k:=1) F23 { N:=b1',B:=bj',K:=K,fs:=aw' [("_law_take",az')] } pt' rfl aP' s9' (sp:=cM' 1 60 400) (by walk_at "o") (ar' (mC ⟨⟨_,_,_,(O20).mono (by omega),m20,F20.kp,b20⟩,mN⟩)) (mC ⟨n14,(mC ⟨n5,(mC ⟨n11,(mC ⟨n8,mN⟩)⟩)⟩)⟩) ⟨n1,n2,n3⟩ (show tld bj'=false by decide +kernel) (show hat bj'=false by decide +kernel) rfl rfl (jP' rfl (show aw' _ "_law_take"=some (az') from ad') )
 have O24:=ak' (P:=l.prog) (w:=w) (mg:=mg) (base:=base) (k:=0) F24 { N:=j4',B:=gS',K:=K,fs:=aw' [] } mp' rfl gT' pu' (sp:=cA') (by walk_at "o") (ar' mN) (mC ⟨n15,mN⟩) ⟨n1,n2,n3⟩ (show tld gS'=false by decide +kernel) (show hat gS'=false by decide +kernel) rfl rfl (hY' rfl  )
 have O25:=ak' (P:=l.prog) (w:=w) (mg:=mg) (base:=base) (k:=0) F25 { N:=gl',B:=eR',K:=K,fs:=aw' [] } mq' rfl eS' pv' (sp:=bp') (by walk_at "o") (ar' mN) mN ⟨n1,n2,n3⟩ (show tld eR'=false by decide +kernel) (show hat eR'=false by decide +kernel) rfl rfl (hX' rfl  )
 have O26:=ak' (P:=l.prog) (w:=w) (mg:=mg) (base:=base) (k:=1) F26 { N:=j5',B:=gU',K:=K,fs:=aw' [("_law_sums",cA'),("_law_terms",bp')] } pw' rfl gV' ta' (sp:=cB') (by walk_at "o") (ar' (mC ⟨⟨_,_,_,(O24).mono (by omega),m24,F24.kp,b24⟩,(mC ⟨⟨_,_,_,(O25).mono (by omega),m25,F25.kp,b25⟩,mN⟩)⟩)) (mC ⟨n12,mN⟩) ⟨n1,n2,n3⟩ (show tld gU'=false by decide +kernel) (show hat gU'=false by decide +kernel) rfl rfl (hZ' rfl (show aw' _ "_law_sums"=some (cA') from ad') (show aw' _ "_law_terms"=some (bp') from((ab' (by decide +kernel)).trans ad')) )
 have O27:=ak' (P:=l.prog) (w:=w) (mg:=mg) (base:=base) (k:=0) F27 { N:=cX',B:=cj',K:=K,fs:=aw' [] } px' rfl ck' tb' (sp:=dv') (by walk_at "o") (ar' mN) (mC ⟨n4,(mC ⟨n5,(mC ⟨n6,mN⟩)⟩)⟩) ⟨n1,n2,n3⟩ (show tld cj'=false by decide +kernel) (show hat cj'=false by decide +kernel) rfl rfl (j9' rfl  )
 have O28:=ak' (P:=l.prog) (w:=w) (mg:=mg) (base:=base) (k:=1) F28 { N:=cl',B:=bx',K:=K,fs:=aw' [("_law_is_number",dv'),("_law_terms",bp')] } tc' rfl by' vw' (sp:=ka') (by walk_at "o") (ar' (mC ⟨⟨_,_,_,(O27).mono (by omega),m27,F27.kp,b27⟩,(mC ⟨⟨_,_,_,(O25).mono (by omega),m25,F25.kp,b25⟩,mN⟩)⟩)) (mC ⟨n6,(mC ⟨n7,(mC ⟨n8,mN⟩)⟩)⟩) ⟨n1,n2,n3⟩ (show tld bx'=false by decide +kernel) (show hat bx'=false by decide +kernel) rfl rfl (l7' rfl (show aw' _ "_law_is_number"=some (dv') from ad') (show aw' _ "_law_terms"=some (bp') from((ab' (by decide +kernel)).trans ad')) )
 have O29:=ak' (P:=l.prog) (w:=w) (mg:=mg) (base:=base) (k:=2) F29 { N:=o9',B:=l0',K:=K,fs:=aw' [("_law_is_fraction",ka'),("_law_is_number",dv'),("_law_sums",cA')] } td' rfl l3' vx' (sp:=ku') (by walk_at "o") (ar' (mC ⟨⟨_,_,_,(O28).mono (by omega),m28,F28.kp,b28⟩,(mC ⟨⟨_,_,_,(O27).mono (by omega),m27,F27.kp,b27⟩,(mC ⟨⟨_,_,_,(O24).mono (by omega),m24,F24.kp,b24⟩,mN⟩)⟩)⟩)) (mC ⟨n10,(mC ⟨n6,(mC ⟨n7,(mC ⟨n9,(mC ⟨n8,(mC ⟨n12,mN⟩)⟩)⟩)⟩)⟩)⟩) ⟨n1,n2,n3⟩ (show tld l0'=false by decide +kernel) (show hat l0'=false by decide +kernel) rfl rfl (ke' rfl ⟨(show aw' _ "_law_is_fraction"=some (ka') from ad'),(show aw' _ "_law_is_number"=some (dv') from((ab' (by decide +kernel)).trans ad')),(show aw' _ "_law_sums"=some (cA') from((ab' (by decide +kernel)).trans ((ab' (by decide +kernel)).trans ad')))⟩ )
 have O30:=ak' (P:=l.prog) (w:=w) (mg:=mg) (base:=base) (k:=1) F30 { N:=bN',B:=a7',K:=K,fs:=aw' [("_law_take",az'),("_law_terms",bp')] } vy' rfl a8' w2' (sp:=sR') (by walk_at "o") (ar' (mC ⟨⟨_,_,_,(O20).mono (by omega),m20,F20.kp,b20⟩,(mC ⟨⟨_,_,_,(O25).mono (by omega),m25,F25.kp,b25⟩,mN⟩)⟩)) (mC ⟨n7,(mC ⟨n16,(mC ⟨n17,mN⟩)⟩)⟩) ⟨n1,n2,n3⟩ (show tld a7'=false by decide +kernel) (show hat a7'=false by decide +kernel) rfl rfl (pe' rfl (show aw' _ "_law_take"=some (az') from ad') (show aw' _ "_law_terms"=some (bp') from((ab' (by decide +kernel)).trans ad')) )
 have O31:=ak' (P:=l.prog) (w:=w) (mg:=mg) (base:=base) (k:=1) F31 { N:=b2',B:=bk',K:=K,fs:=aw' [("_law_take",az')] } vz' rfl bl' w3' (sp:=sS') (by walk_at "o") (ar' (mC ⟨⟨_,_,_,(O20).mono (by omega),m20,F20.kp,b20⟩,mN⟩)) (mC ⟨n7,(mC ⟨n9,(mC ⟨n8,mN⟩)⟩)⟩) ⟨n1,n2,n3⟩ (show tld bk'=false by decide +kernel) (show hat bk'=false by decide +kernel) rfl rfl (pf' rfl (show aw' _ "_law_take"=some (az') from ad') )
 have O32:=ak' (P:=l.prog) (w:=w) (mg:=mg) (base:=base) (k:=3) F32 { N:=gm',B:=eT',K:=K,fs:=aw' [("_law_many",fz'),("_law_take",az'),("_law_ring_machine",cM' 1 60 400),("_law_machine",cM' 1 60 400),("growth",cH'),("_law_ends",cB')] } mr' rfl eU' py' (sp:=ki') (by walk_at "o") (ar' (mC ⟨⟨_,_,_,(O21).mono (by omega),m21,F21.kp,b21⟩,(mC ⟨⟨_,_,_,(O20).mono (by omega),m20,F20.kp,b20⟩,(mC ⟨⟨_,_,_,(O23).mono (by omega),m23,F23.kp,b23⟩,(mC ⟨⟨_,_,_,(O22).mono (by omega),m22,F22.kp,b22⟩,(mC ⟨⟨_,_,_,(O15).mono (by omega),m15,F15.kp,b15⟩,(mC ⟨⟨_,_,_,(O26).mono (by omega),m26,F26.kp,b26⟩,mN⟩)⟩)⟩)⟩)⟩)⟩)) mN ⟨n1,n2,n3⟩ (show tld eT'=false by decide +kernel) (show hat eT'=false by decide +kernel) rfl rfl (mf' rfl ⟨(show aw' _ "_law_many"=some (fz') from ad'),(show aw' _ "_law_take"=some (az') from((ab' (by decide +kernel)).trans ad')),(show aw' _ "_law_ring_machine"=some (cM' 1 60 400) from((ab' (by decide +kernel)).trans ((ab' (by decide +kernel)).trans ad'))),(show aw' _ "_law_machine"=some (cM' 1 60 400) from((ab' (by decide +kernel)).trans ((ab' (by decide +kernel)).trans ((ab' (by decide +kernel)).trans ad')))),(show aw' _ "growth"=some (cH') from((ab' (by decide +kernel)).trans ((ab' (by decide +kernel)).trans ((ab' (by decide +kernel)).trans ((ab' (by decide +kernel)).trans ad'))))),(show aw' _ "_law_ends"=some (cB') from((ab' (by decide +kernel)).trans ((ab' (by decide +kernel)).trans ((ab' (by decide +kernel)).trans ((ab' (by decide +kernel)).trans ((ab' (by decide +kernel)).trans ad'))))))⟩ )
 have O33:=ak' (P:=l.prog) (w:=w) (mg:=mg) (base:=base) (k:=6) F33 { N:=gn',B:=eV',K:=K,fs:=aw' [("_law_take",az'),("_law_asked",ki'),("_law_ends",cB'),("_law_bent_fraction",sR'),("_law_bent_weights",sS'),("shows_growth",ku'),("_law_due",ku')] } ms' rfl eW' pz' (sp:=dm') (by walk_at "o") (ar' (mC ⟨⟨_,_,_,(O20).mono (by omega),m20,F20.kp,b20⟩,(mC ⟨⟨_,_,_,(O32).mono (by omega),m32,F32.kp,b32⟩,(mC ⟨⟨_,_,_,(O26).mono (by omega),m26,F26.kp,b26⟩,(mC ⟨⟨_,_,_,(O30).mono (by omega),m30,F30.kp,b30⟩,(mC ⟨⟨_,_,_,(O31).mono (by omega),m31,F31.kp,b31⟩,(mC ⟨⟨_,_,_,(O17).mono (by omega),m17,F17.kp,b17⟩,(mC ⟨⟨_,_,_,(O29).mono (by omega),m29,F29.kp,b29⟩,mN⟩)⟩)⟩)⟩)⟩)⟩)⟩)) (mC ⟨n4,(mC ⟨n6,(mC ⟨n11,(mC ⟨n8,mN⟩)⟩)⟩)⟩) ⟨n1,n2,n3⟩ (show tld eV'=false by decide +kernel) (show hat eV'=false by decide +kernel) rfl rfl (h0' rfl ⟨(show aw' _ "_law_take"=some (az') from ad'),(show aw' _ "_law_asked"=some (ki') from((ab' (by decide +kernel)).trans ad')),(show aw' _ "_law_ends"=some (cB') from((ab' (by decide +kernel)).trans ((ab' (by decide +kernel)).trans ad'))),(show aw' _ "_law_bent_fraction"=some (sR') from((ab' (by decide +kernel)).trans ((ab' (by decide +kernel)).trans ((ab' (by decide +kernel)).trans ad')))),(show aw' _ "_law_bent_weights"=some (sS') from((ab' (by decide +kernel)).trans ((ab' (by decide +kernel)).trans ((ab' (by decide +kernel)).trans ((ab' (by decide +kernel)).trans ad'))))),(show aw' _ "shows_growth"=some (ku') from((ab' (by decide +kernel)).trans ((ab' (by decide +kernel)).trans ((ab' (by decide +kernel)).trans ((ab' (by decide +kernel)).trans ((ab' (by decide +kernel)).trans ad')))))),(show aw' _ "_law_due"=some (ku') from((ab' (by decide +kernel)).trans ((ab' (by decide +kernel)).trans ((ab' (by decide +kernel)).trans ((ab' (by decide +kernel)).trans ((ab' (by decide +kernel)).trans ((ab' (by decide +kernel)).trans ad')))))))⟩ )
 exact ak' (P:=l.prog) (w:=w) (mg:=mg) (base:=base) (k:=59) F34 { N:=l4',B:=j6',K:=K,fs:=aw' [("_law_box",jN' K),("_law_right",dm')] } te' rfl l5' vA' (sp:=kj' K) (by walk_at "o") (ar' (mC ⟨⟨_,_,_,(O19).mono (by omega),m19,F19.kp,b19⟩,(mC ⟨⟨_,_,_,(O33).mono (by omega),m33,F33.kp,b33⟩,mN⟩)⟩)) (mC ⟨n7,(mC ⟨n16,(mC ⟨n18,(mC ⟨n11,mN⟩)⟩)⟩)⟩) ⟨n1,n2,n3⟩ (show tld j6'=false by decide +kernel) (show hat j6'=false by decide +kernel) rfl rfl (mg' (C:={ N:=l4',B:=j6',K:=K,fs:=aw' [("_law_box",jN' K),("_law_right",dm')] }) rfl (show aw' _ "_law_box"=some (jN' K) from ad') (show aw' _ "_law_right"=some (dm') from((ab' (by decide +kernel)).trans ad')) )
theorem walk {l:W.OpenLaw} {q:Program} {loose:List Str} {XP:(Str->Option Value)->Heap->Prop} {d:DefRec} {K:Params->W.Frag} {bs:List Addr} {m t:Nat} (hn:l.most=some 63) (hdf:d.params.defaults=[]) (e:∀P,bs=(K P).map (·.1))
  (F:∀(w:World) (mg:Str->Option Value) (fa:Addr) (h:Heap),(K w.params).In h->h.Ns mainGlobals mg->mg d.name=some (.ref fa)->
   ∃fd:FuncData,(∀(s:Shared) (u:Value),BindsTo s fd ⟨[u],[]⟩ [("_law_script",u)])/\∀base:Heap,(K w.params).In base->base.Ns mainGlobals mg->FnOk l.prog w (K w.params) mg base CX0 60 fa fd ["_law_script"] (kj' (K w.params))):
  W.WalkX q loose XP (W.X.obsZ bs) (W.X.valZ K m t) l.row.toRowW d [] (fun f vs=>PySem.call f vs):=
 fun w s₀ s₁ mg mb G y a o pm cd doc dV kV h1 h2 h3 h4 h5 h6 args vals cs La=>L2.nM' (YP:=fun w h=>(K w.params).In h) (n:=63) (k:=60) (x:="_law_script") (CX:=fun _=>CX0) (sp:=fun w=>kj' (K w.params)) hn (by decide) hdf ⟨rfl,by decide,by decide,rfl⟩ (fun _ _ Y=>Y) F (fun _ _ a ns hl _ hS=>⟨a,ns,rfl,hS,hl,fun _=>rfl⟩) (fun _ _ _ _ _ z=>z) w s₀ s₁ mg mb G (W.InK.keeps w _ _ (W.X.z_facts e y).2.1 La.keeps) a o pm cd doc dV kV h1 h2 h3 h4 h5 h6 args vals cs
end K26
end
open PySem PySem.W PyProof.Rows
noncomputable def PySem.W.Fast.tw7161671698820088274:Nat:=0
noncomputable def PySem.W.Fast.tw11508771947172572243:Nat:=0
noncomputable def PySem.W.Fast.tw17886073150770167720:Nat:=0
noncomputable def PySem.W.Fast.tw15480042443151197268:Nat:=0
noncomputable def PySem.W.Fast.tw5469083113850692500:Nat:=0
noncomputable def PySem.W.Fast.tw540037893377511654:Nat:=0
noncomputable def PySem.W.Fast.tw5212991748636325473:Nat:=0
noncomputable def PySem.W.Fast.tw4364109730763080824:Nat:=0
noncomputable def PySem.W.Fast.tw17516072501083830231:Nat:=0
noncomputable def PySem.W.Fast.tw16515938139402769868:Nat:=0
noncomputable def PySem.W.Fast.tw11994209635781582236:Nat:=0
noncomputable def PySem.W.Fast.tw2381495493459457449:Nat:=0
noncomputable def PySem.W.Fast.tw15961132206913963419:Nat:=0
noncomputable def PySem.W.Fast.tw6067915950972650067:Nat:=0
noncomputable def PySem.W.Fast.tw5639562805352378211:Nat:=0
noncomputable def PySem.W.Fast.tw4514005644012021764:Nat:=0
noncomputable def PySem.W.Fast.tw8297804538849085458:Nat:=0
noncomputable def PySem.W.Fast.tw10737759363972840899:Nat:=0
noncomputable def PySem.W.Fast.tw17850129134886747790:Nat:=0
noncomputable def PySem.W.Fast.tw8998925874002595377:Nat:=0
noncomputable def PySem.W.Fast.tw15876694371601024017:Nat:=0
noncomputable def PySem.W.Fast.tw16658499180675234317:Nat:=0
noncomputable def PySem.W.Fast.tw6970270307683458553:Nat:=0
noncomputable def PySem.W.Fast.tw17999249465479301558:Nat:=0
noncomputable def PySem.W.Fast.tw10199686401166315331:Nat:=0
noncomputable def PySem.W.Fast.tw2499746717474852107:Nat:=0
noncomputable def PySem.W.Fast.tw11073304145817828127:Nat:=0
noncomputable def PySem.W.Fast.tw16804654597292362407:Nat:=0
noncomputable def PySem.W.Fast.tw13940316868780430503:Nat:=0
noncomputable def PySem.W.Fast.tw17754342185947516173:Nat:=0
noncomputable def PySem.W.Fast.tw33434245863552458:Nat:=0
noncomputable def PySem.W.Fast.tw1725584143770063365:Nat:=0
noncomputable def PySem.W.Fast.tw7274870527778723758:Nat:=0
noncomputable def PySem.W.Fast.tw11402183142400620872:Nat:=0
noncomputable def PySem.W.Fast.tw17508833530144457617:Nat:=0
noncomputable def PySem.W.Fast.tw8851037132791567949:Nat:=0
set_option maxRecDepth 100000 in
set_option maxHeartbeats 0 in
theorem PySem.Challenge.cw_runbound_k26_growth_shown_holds : PySem.Challenge.rw_runbound_k26_growth_shown.Holds := by
 w_on; o_law; z_head; (case hw => w_witness2)
 k_fill
 refine K26.walk (l := PySem.Challenge.rw_runbound_k26_growth_shown) rfl rfl (fun _ => rfl) ?F
 case F =>
  intro w mg fa h KX G hmg
  refine' K26.tf' KX G hmg (K26.as' ?a1 ?l1 ?c1 ?k1) (K26.as' ?a2 ?l2 ?c2 ?k2) (K26.as' ?a3 ?l3 ?c3 ?k3) (K26.as' ?a4 ?l4 ?c4 ?k4) (K26.as' ?a5 ?l5 ?c5 ?k5) (K26.as' ?a6 ?l6 ?c6 ?k6) (K26.as' ?a7 ?l7 ?c7 ?k7) (K26.as' ?a8 ?l8 ?c8 ?k8) (K26.as' ?a9 ?l9 ?c9 ?k9) (K26.as' ?a10 ?l10 ?c10 ?k10) (K26.as' ?a11 ?l11 ?c11 ?k11) (K26.as' ?a12 ?l12 ?c12 ?k12) (K26.as' ?a13 ?l13 ?c13 ?k13) (K26.as' ?a14 ?l14 ?c14 ?k14) (K26.as' ?a15 ?l15 ?c15 ?k15) (K26.as' ?a16 ?l16 ?c16 ?k16) (K26.as' ?a17 ?l17 ?c17 ?k17) (K26.as' ?a18 ?l18 ?c18 ?k18) (K26.as' ?a19 ?l19 ?c19 ?k19) (K26.as' ?a20 ?l20 ?c20 ?k20) (K26.as' ?a21 ?l21 ?c21 ?k21) (K26.as' ?a22 ?l22 ?c22 ?k22) (K26.as' ?a23 ?l23 ?c23 ?k23) (K26.as' ?a24 ?l24 ?c24 ?k24) (K26.as' ?a25 ?l25 ?c25 ?k25) (K26.as' ?a26 ?l26 ?c26 ?k26) (K26.as' ?a27 ?l27 ?c27 ?k27) (K26.as' ?a28 ?l28 ?c28 ?k28) (K26.as' ?a29 ?l29 ?c29 ?k29) (K26.as' ?a30 ?l30 ?c30 ?k30) (K26.as' ?a31 ?l31 ?c31 ?k31) (K26.as' ?a32 ?l32 ?c32 ?k32) (K26.as' ?a33 ?l33 ?c33 ?k33) (K26.as' ?a34 ?l34 ?c34 ?k34) ?z1 ?z2 ?z3 ?z4 ?z5 ?z6 ?z7 ?z8 ?z9 ?z10 ?z11 ?z12 ?z13 ?z14 ?z15 ?z16 ?z17 ?z18 
  (case a1 => k_is); (case l1 => k_is); (case c1 => k_is); (case k1 => k_is)
  (case a2 => k_is); (case l2 => k_is); (case c2 => k_is); (case k2 => k_is)
  (case a3 => k_is); (case l3 => k_is); (case c3 => k_is); (case k3 => k_is)
  (case a4 => k_is); (case l4 => k_is); (case c4 => k_is); (case k4 => k_is)
  (case a5 => k_is); (case l5 => k_is); (case c5 => k_is); (case k5 => k_is)
  (case a6 => k_is); (case l6 => k_is); (case c6 => k_is); (case k6 => k_is)
  (case a7 => k_is); (case l7 => k_is); (case c7 => k_is); (case k7 => k_is)
  (case a8 => k_is); (case l8 => k_is); (case c8 => k_is); (case k8 => k_is)
  (case a9 => k_is); (case l9 => k_is); (case c9 => k_is); (case k9 => k_is)
  (case a10 => k_is); (case l10 => k_is); (case c10 => k_is); (case k10 => k_is)
  (case a11 => k_is); (case l11 => k_is); (case c11 => k_is); (case k11 => k_is)
  (case a12 => k_is); (case l12 => k_is); (case c12 => k_is); (case k12 => k_is)
  (case a13 => k_is); (case l13 => k_is); (case c13 => k_is); (case k13 => k_is)
  (case a14 => k_is); (case l14 => k_is); (case c14 => k_is); (case k14 => k_is)
  (case a15 => k_is); (case l15 => k_is); (case c15 => k_is); (case k15 => k_is)
  (case a16 => k_is); (case l16 => k_is); (case c16 => k_is); (case k16 => k_is)
  (case a17 => k_is); (case l17 => k_is); (case c17 => k_is); (case k17 => k_is)
  (case a18 => k_is); (case l18 => k_is); (case c18 => k_is); (case k18 => k_is)
  (case a19 => k_is); (case l19 => k_is); (case c19 => k_is); (case k19 => k_is)
  (case a20 => k_is); (case l20 => k_is); (case c20 => k_is); (case k20 => k_is)
  (case a21 => k_is); (case l21 => k_is); (case c21 => k_is); (case k21 => k_is)
  (case a22 => k_is); (case l22 => k_is); (case c22 => k_is); (case k22 => k_is)
  (case a23 => k_is); (case l23 => k_is); (case c23 => k_is); (case k23 => k_is)
  (case a24 => k_is); (case l24 => k_is); (case c24 => k_is); (case k24 => k_is)
  (case a25 => k_is); (case l25 => k_is); (case c25 => k_is); (case k25 => k_is)
  (case a26 => k_is); (case l26 => k_is); (case c26 => k_is); (case k26 => k_is)
  (case a27 => k_is); (case l27 => k_is); (case c27 => k_is); (case k27 => k_is)
  (case a28 => k_is); (case l28 => k_is); (case c28 => k_is); (case k28 => k_is)
  (case a29 => k_is); (case l29 => k_is); (case c29 => k_is); (case k29 => k_is)
  (case a30 => k_is); (case l30 => k_is); (case c30 => k_is); (case k30 => k_is)
  (case a31 => k_is); (case l31 => k_is); (case c31 => k_is); (case k31 => k_is)
  (case a32 => k_is); (case l32 => k_is); (case c32 => k_is); (case k32 => k_is)
  (case a33 => k_is); (case l33 => k_is); (case c33 => k_is); (case k33 => k_is)
  (case a34 => k_is); (case l34 => k_is); (case c34 => k_is); (case k34 => k_is)
  (case z1 => k_is)
  (case z2 => k_is)
  (case z3 => k_is)
  (case z4 => k_is)
  (case z5 => k_is)
  (case z6 => k_is)
  (case z7 => k_is)
  (case z8 => k_is)
  (case z9 => k_is)
  (case z10 => k_is)
  (case z11 => k_is)
  (case z12 => k_is)
  (case z13 => k_is)
  (case z14 => k_is)
  (case z15 => k_is)
  (case z16 => k_is)
  (case z17 => k_is)
  (case z18 => k_is)