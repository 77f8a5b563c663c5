import PyProof.Rows.All
import Wide.All
import OpenK.AllK
import Wide.FinOn
import Lean
import PyProof.EqAt
import PyProof.EqKinds
import PyProof.TupleCall
import KE.KSetDisp
import KE.KEqDict
import PyProof.IsiH_list
import PyProof.Rows.SetFrom
import PyProof.FactsAll.dict_1
import PyProof.DictFindH
import PyProof.SetRoads
import PyProof.TupleKey
import PyProof.IsRules
import PyProof.Rows.TupAdd
import PyProof.Rows.SortStr
import PyProof.Rows.SortWalk
import PyProof.CollectIter
import PyProof.Rows.Tup
import PyProof.TupleOfSeq
import PyProof.Rows.SortShell
import PyProof.ReprRoads
import PyProof.CallStr
import PyProof.SeqRoads2
import KE.KSortTup
import KE.KDictList
import KE.KUnpack
import KE.KDictSum
import PySem.Challenge.RW_runbound_k06_machines_of_bounds
open PySem renaming wpAny_bind → aa,wpAny_pure → ae,wpAny_holding → aE,wpAny_callSpecial?_slot → aN,wpAny_call_entry → aU,wpAny_truthy_bool → bb,wpAny_newObj_type → bc,wpAny_field → bm,wpAny_seqItems → bG,wpAny_pyIter_tuple → bH,wpAny_dictEntries → bO,wpAny_setField_rec → bP,wpAny_typeNameOfWhole_keyiter → bR,wpAny_standAt → bT,wpAny_rule → bV,wpAny_passesOwn → ci,wpAny_dictEpoch → cj,wpAny_typeNameOf_keyiter → cm,wpAny_attempt → cn,wpAny_pyIter_list → cF,wpAny_isInstance → cM
open PySem.Heap renaming get?_push_of_some → ab,lt_size → al,get?_push_size → am,size_push → aW,get?_update_self → bv,SameBut → bL
open List renaming getElem?_eq_getElem → ac,length_map → af,mem_append_right → aj,mem_cons → ak,size_toArray → ao,not_mem_nil → aq,getElem?_map → au,mem_of_getElem? → av,mem_cons_of_mem → aw,mem_cons_self → ay,mem_map → az,length_append → aB,replicate → aC,range → aF,getElem?_eq_some_iff → aG,mem_append → aH,length_take → aI,mem_range → aJ,map_append → aK,map_cons → aL,getElem?_eq_none_iff → aR,append_assoc → aT,length_cons → aV,pairwise_iff_getElem → aX,mem_singleton → aY,mem_append_left → ba,length_range → bg,map_map → bi,take_length → bj,mem_filter → br,nodup_cons → bu,take_append_drop → bw,getElem?_eq_none → bx,lookup_cons → bA,take_succ → bB,replicate_succ → bC,flatten_cons → bD,ext_getElem? → bE,zip → bI,pairwise_append → bJ,all_eq_true → bM,any_eq_true → bQ,idxOf_lt_length_of_mem → bY,length_filter_le → bZ,nodup_nil → cc,getElem?_set_ne → ce,mem_iff_getElem → cf,getElem?_of_mem → cg,pairwise_map → ck,getElem?_range → cq,map_congr_left → cr,getElem_mem → cu,append_nil → cA,find?_cons → cB,length_nil → cC,contains_iff_mem → cD,any_cons → cE,nodup_append → cG,getElem_take → cH,getElem_drop → cI,forIn_nil → cK,length_drop → cL,mem_flatMap → cO
open Bool renaming and_eq_true → ag,false_ne_true → ap,false_eq_true → aP,or_eq_true → aS,not_eq_true' → bq,eq_iff_iff → cz
open Nat renaming le_refl → ah,lt_of_lt_of_le → ai,ne_of_lt → ax,le_trans → aM,zero_le → aO,lt_irrefl → aZ,le_add_right → bf,ne_of_gt → bn,lt_succ_of_lt → bF,le_of_lt → bK,mul_assoc → bU,le_of_lt_succ → bX,lt_of_le_of_lt → cx,mod_eq_of_lt → cN,mul_comm → cP,lt_or_ge → cQ,pow_succ → cR
open Array renaming length_toList → aA,getElem?_eq_getElem → aD,toList_append → bo,toList_push → bW,getElem?_eq_none → cv,mem_toList_iff → cJ
open Option renaming map → aQ,map_eq_some_iff → cw
open Int renaming eq_ofNat_of_zero_le → bp,toNat_natCast → bN,emod_lt_of_pos → cy
set_option genSizeOf false
set_option Elab.async false
set_option compiler.extract_closed false
set_option linter.all false
set_option maxRecDepth 100000
set_option tactic.hygienic false
namespace L2
open PySem PySem.Spec PyProof.Rows
section
variable {prog:Program} {w:World} {A:Around} {E:Value->Shared->Prop} {s:Shared}
theorem bw' (s:Shared):s.TypeIs .none "NoneType":=rfl
theorem cc' {Q:Int->Shared->Prop} (h:Q 0xFCA86420 { s with toks:=s.toks+1 }):wpAny (model prog w) A (pyHash .none) Q E s:=by
 unfold pyHash
 have hv:[Value.none].any Value.onHeap=false:=rfl
 refine aa ?_
 rw[cRoomFor,if_neg (by rw[hv];exact ap)];refine ae ?_
 refine aa (wpAny_specialOf (bw' s) F.slot_NoneType_hash.lookup ?_)
 show wpAny _ _ (if(some (Value.builtin "NoneType.__hash__") == some Value.none)=true then _ else _) Q E s
 rw[if_neg (by rw[beq_builtin_none];exact ap)]
 refine aa (wpAny_specialOf (bw' s) F.slot_NoneType_hash.lookup ?_)
 show wpAny _ _ (callSpecialIfBoundUnlessNone? (.none) "__hash__" _ >>= _) Q E s
 refine aa (wpAny_callSpecialIfBoundUnlessNone?_slot (bw' s) F.slot_NoneType_hash
  (aU F.slot_NoneType_hash (bw' s) F.entry_NoneType_hash
   (show wpAny _ _ (do ret (<- mkInt 0xFCA86420)) _ _ s from wpAny_ret_mkInt ?_) (F.args_NoneType_hash_1 _)))
 exact ae h
end
inductive Key where
 |inl (i:Int)|inr (x:Str)|non
 deriving DecidableEq
def gu':Key->Value->Bool
 | .inl k,v=>Value.isInt k v
 | .inr x,v=>Value.isStrOf x v
 | .non,.none=>true
 | .non,_=>false
def zA' (w:World):Key->Int
 | .inl k=>hashInt k
 | .inr x=>hashStr w x
 | .non=>0xFCA86420
theorem aC':∀{k:Key} {v:Value},gu' k v=true->(∃i t,k=Key.inl i/\v=Value.int i t)\/(∃x t,k=Key.inr x/\v=Value.str x t)\/(k=Key.non/\v=Value.none)
 | .inl i,v,h=>by
  obtain⟨t,e⟩:=Value.isInt_shape (k:=i) (v:=v) h
  exact .inl ⟨i,t,rfl,e⟩
 | .inr x,v,h=>by
  obtain⟨t,e⟩:=Value.isStrOf_shape (x:=x) (v:=v) h
  exact .inr (.inl ⟨x,t,rfl,e⟩)
 | .non,v,h=>by cases v<;>first|exact .inr (.inr ⟨rfl,rfl⟩)|cases h
theorem jj' (i:Int) (t:Tok):gu' (.inl i) (.int i t)=true:=by simp[gu',Value.isInt]
theorem jk' (x:Str) (t:Tok):gu' (.inr x) (.str x t)=true:=by simp[gu',Value.isStrOf]
theorem rV' (a b:Int):decide ((Key.inl a:Key)=Key.inl b)=(a == b):=by
 by_cases e:a=b
 .rw[e,decide_eq_true rfl,beq_self_eq_true]
 .rw[decide_eq_false (fun q=>e (Key.inl.inj q)),beq_eq_false_iff_ne.mpr e]
theorem rW' (a b:Str):decide ((Key.inr a:Key)=Key.inr b)=decide (a=b):=by
 by_cases e:a=b
 .rw[e,decide_eq_true rfl,decide_eq_true rfl]
 .rw[decide_eq_false (fun q=>e (Key.inr.inj q)),decide_eq_false e]
theorem ey' {a b:Key} (h:a≠b):decide (a=b)=false:=decide_eq_false h
def ai' (prog:Program) (w:World):PySem.KeyKind prog w Key where
 is:=gu'
 hash:=zA' w
 inj:=fun v a b ha hb=>by
  rcases aC' ha with⟨i,t,rfl,rfl⟩|⟨x,t,rfl,rfl⟩|⟨rfl,rfl⟩<;>rcases aC' hb with⟨j,u,rfl,e⟩|⟨y,u,rfl,e⟩|⟨rfl,e⟩<;>
   first|rfl|(injection e with e1 _;rw[e1])|exact nomatch e
 byValue:=fun k v h=>by
  rcases aC' h with⟨i,t,rfl,rfl⟩|⟨x,t,rfl,rfl⟩|⟨rfl,rfl⟩<;>rfl
 pyHash:=fun hv h=>by
  rcases aC' hv with⟨i,t,rfl,rfl⟩|⟨x,t,rfl,rfl⟩|⟨rfl,rfl⟩
  .exact wpAny_pyHash_int h
  .exact wpAny_pyHash_str h
  .exact cc' h
 eqBool:=fun {A E s a b u v Q} hu hv h=>by
  rcases aC' hu with⟨i,t,rfl,rfl⟩|⟨x,t,rfl,rfl⟩|⟨rfl,rfl⟩
  .rcases aC' hv with⟨j,u,rfl,rfl⟩|⟨y,u,rfl,rfl⟩|⟨rfl,rfl⟩
   .rw[rV']at h;exact wpAny_eqBool_int h
   .rw[ey' (a:=Key.inl i) (b:=Key.inr y) (fun q=>nomatch q)]at h;exact SeqAt.EqAt.int_str i t y u _ _ _ _ h
   .rw[ey' (a:=Key.inl i) (b:=Key.non) (fun q=>nomatch q)]at h;exact SeqAt.EqAt.int_none i t _ _ _ _ h
  .rcases aC' hv with⟨j,u,rfl,rfl⟩|⟨y,u,rfl,rfl⟩|⟨rfl,rfl⟩
   .rw[ey' (a:=Key.inr x) (b:=Key.inl j) (fun q=>nomatch q)]at h;exact SeqAt.EqAt.str_int x t j u _ _ _ _ h
   .rw[rW']at h;exact wpAny_eqBool_str h
   .rw[ey' (a:=Key.inr x) (b:=Key.non) (fun q=>nomatch q)]at h;exact SeqAt.EqAt.str_none x t _ _ _ _ h
  .rcases aC' hv with⟨j,u,rfl,rfl⟩|⟨y,u,rfl,rfl⟩|⟨rfl,rfl⟩
   .rw[ey' (a:=Key.non) (b:=Key.inl j) (fun q=>nomatch q)]at h;exact SeqAt.EqAt.none_int j u _ _ _ _ h
   .rw[ey' (a:=Key.non) (b:=Key.inr y) (fun q=>nomatch q)]at h;exact SeqAt.EqAt.none_str y u _ _ _ _ h
   .rw[decide_eq_true rfl]at h;exact SeqAt.EqAt.same .none _ _ _ _ h
 «strs»:=fun k x t v h=>by
  rcases aC' h with⟨i,u,rfl,e⟩|⟨y,u,rfl,e⟩|⟨rfl,e⟩
  .exact nomatch e
  .injection e with e1 _
   subst e1
   cases v<;>rfl
  .exact nomatch e
theorem gv' (prog:Program) (w:World) (i:Int) (t:Tok):(ai' prog w).is (.inl i) (.int i t)=true:=jj' i t
theorem gw' (prog:Program) (w:World) (x:Str) (t:Tok):(ai' prog w).is (.inr x) (.str x t)=true:=jk' x t
inductive V where
 |non|bl (b:Bool)|int (i:Int)|str (x:Str)|byt (b:Array UInt8)|flt (b:UInt64)|ref (a:Addr)|ty (n:String)
 deriving DecidableEq
def ay':V->Value->Prop
 | .non,u=>u=Value.none
 | .bl b,u=>u=Value.bool b
 | .int i,u=>∃t,u=Value.int i t
 | .str x,u=>∃t,u=Value.str x t
 | .byt b,u=>∃t,u=Value.bytes b t
 | .flt b,u=>∃t,u=Value.float b t
 | .ref a,u=>u=Value.ref a
 | .ty n,u=>u=Value.type n
abbrev aB':List V->List Value->Prop:=Paired ay'
theorem aB'.length {xs:List V} {us:List Value} (r:aB' xs us):xs.length=us.length:=Paired.length r
theorem aB'.get:∀{xs:List V} {us:List Value} {i:Nat} {x:V},aB' xs us->xs[i]?=some x->∃u,us[i]?=some u/\ay' x u
 |_,_,_,_,.nil,e=>by simp at e
 |_,_,0,_,.cons r _,e=>by simp at e;subst e;exact⟨_,rfl,r⟩
 |_,_,i+1,x,.cons _ t,e=>by
  obtain⟨u,h1,h2⟩:=aB'.get (i:=i) (x:=x) t (by simpa using e)
  exact⟨u,by simpa using h1,h2⟩
theorem aB'.set {x:V} {u:Value} (r:ay' x u):∀{xs:List V} {us:List Value} (i:Nat),aB' xs us->aB' (xs.set i x) (us.set i u)
 |_,_,_,.nil=>.nil
 |_,_,0,.cons _ t=>.cons r t
 |_,_,i+1,.cons q t=>.cons q (aB'.set r i t)
theorem aB'.append:∀{xs ys:List V} {us ws:List Value},aB' xs us->aB' ys ws->aB' (xs++ys) (us++ws)
 |_,_,_,_,.nil,s=>s
 |_,_,_,_,.cons r t,s=>.cons r (aB'.append t s)
theorem aB'.take:∀{xs:List V} {us:List Value} (n:Nat),aB' xs us->aB' (xs.take n) (us.take n)
 |_,_,0,_=>.nil
 |_,_,_+1,.nil=>.nil
 |_,_,n+1,.cons r t=>.cons r (aB'.take n t)
theorem aB'.drop:∀{xs:List V} {us:List Value} (n:Nat),aB' xs us->aB' (xs.drop n) (us.drop n)
 |_,_,0,r=>r
 |_,_,_+1,.nil=>.nil
 |_,_,n+1,.cons _ t=>aB'.drop n t
def jl':Option V->Option Value->Prop
 |some v,some u=>ay' v u
 |none,none=>True
 |_,_=>False
def KV {κ:Type}:List (κ×V)->List (κ×Value)->Prop:=Paired fun(p:κ×V) (q:κ×Value)=>p.1=q.1/\ay' p.2 q.2
def kV:Key->V
 | .inl i=>.int i
 | .inr x=>.str x
 | .non=>.non
inductive HO where
 |lst (xs:List V)
 |tup (xs:List V)
 |dK (kvs:List (Key×V))|dT (kvs:List (List Key×V))
 |set (S:Int->Bool) (n:Nat)
 |ins (C dx:Addr) (fs:List (Str×V))
 |own (x:Addr)
 |xd (fs:List (Str×V))
 |met (f x:Addr)
 |rng (lo hi:Int)
 |frz (o:Obj) (u:HO)
 |tbl (ps:Array Value)
 |ext (φ:Heap->Prop)
abbrev Hp:=Addr->Option HO
def upd (H:Hp) (a:Addr) (o:HO):Hp:=fun b=>if b=a then some o else H b
theorem aa' {H:Hp} {a:Addr} {o:HO}:upd H a o a=some o:=by unfold upd;rw[if_pos rfl]
theorem ad' {H:Hp} {a b:Addr} {o:HO} (h:b≠a):upd H a o b=H b:=by unfold upd;rw[if_neg h]
theorem gx' {H:Hp} {a:Addr} {o u:HO}:upd (upd H a o) a u=upd H a u:=by
 funext b;unfold upd;split<;>rfl
theorem wB' {H:Hp} {a b:Addr} {o u:HO} (h:H a=some o) (h':H b=some u) (d:o≠u):a≠b:=by
 intro e;subst e;rw[h]at h';exact d (Option.some.inj h')
theorem aj' {H:Hp} {a b:Addr} {o:HO} (h:H a=some o) (h':H b=none):a≠b:=by
 intro e;subst e;rw[h]at h';cases h'
def ob' (h:Heap) (a:Addr) (items:Array Value):Prop:=∃o,h.get? a=some o/\o.cls=.type "tuple"/\(∃n,o.data=.seq items n)/\o.dict=none
theorem ob'.tup {h:Heap} {a:Addr} {items:Array Value} (x:ob' h a items):IsTup h a items:=let⟨o,e,c,⟨n,d⟩,_⟩:=x;⟨o,e,c,n,d⟩
theorem ob'.new (h:Heap) (items:Array Value):ob' (h.push { cls:=.type "tuple",data:=.seq items }) h.objs.size items:=⟨_,am _ rfl,rfl,⟨_,rfl⟩,rfl⟩
section
variable (P:Program) (w:World)
def av' (H:Hp) (h:Heap) (a:Addr):HO->Prop
 | .lst xs=>xs.length<=sizeLine/\∃(its:List Value) (n:Nat),aB' xs its/\h.get? a=some { cls:=.type "list",data:=.seq its.toArray n }
 | .tup xs=>xs.length<=sizeLine/\∃its:List Value,aB' xs its/\ob' h a its.toArray
 | .dK kvs=>kvs.length<=sizeLine/\(a == sysModules)=false/\∃vs,KV kvs vs/\h.DictOf (ai' P w) a vs
 | .dT kvs=>kvs.length<=sizeLine/\(a == sysModules)=false/\∃xs:List (List Key×Addr×Value),
   Paired (fun(p:List Key×V) (q:List Key×Addr×Value)=>p.1=q.1/\H q.2.1=some (.tup (p.1.map kV))/\ay' p.2 q.2.2) kvs xs/\
   ∃o es ep,h.get? a=some o/\o.ExactDict/\o.data=.dict es ep/\es.toList=xs.map (entryOfKey (tupleKind (ai' P w)))/\(xs.map (·.1)).Nodup
 | .set S n=>h.SetOf (intKind P w) a S n
 | .ins C dx fs=>H dx=some (.own a)/\fs.length<=1000/\dx≠a/\h.get? a=some (W.instObj C dx)/\
   ∃mA,h.Ns1 dx mA/\(∀f,jl' (fs.lookup f) (mA f))/\PySem.Within mA (fs.map (·.1))
 | .own _=>∃o,h.get? a=some o
 | .xd fs=>∃mA,h.Ns1 a mA/\∀f,jl' (fs.lookup f) (mA f)
 | .rng lo hi=>∃t u v,h.get? a=some { cls:=.type "range",data:=.fields #[.int lo t,.int hi u,.int 1 v] }
 | .frz o u=>h.get? a=some o/\av' H h a u
 | .tbl ps=>h.get? a=some { cls:=.none,data:=.fields ps }
 | .met f x=>h.get? a=some (W.methodObj (.ref f) (.ref x))
 | .ext φ=>φ h/\(∃o,h.get? a=some o)/\∀h1 h2:Heap,φ h1->(∀o,h1.get? a=some o->h2.get? a=some o)->φ h2
def HOk (H:Hp) (h:Heap):Prop:=∀a o,H a=some o->av' P w H h a o
end
section
variable {P:Program} {w:World} {H H':Hp} {h h':Heap} {a:Addr} {o:HO}
theorem av'.lt (x:av' P w H h a o):a<h.objs.size:=by
 cases o with
 |lst xs=>obtain⟨_,_,_,_,e⟩:=x;exact al e
 |tup xs=>obtain⟨_,_,_,p⟩:=x;exact p.tup.lt
 |dK kvs=>obtain⟨_,_,_,_,o,_,_,e,_⟩:=x;exact al e
 |dT kvs=>obtain⟨_,_,_,_,o,_,_,e,_⟩:=x;exact al e
 |set S n=>obtain⟨o,_,_,_,e,_⟩:=x;exact al e
 |ins C dx fs=>obtain⟨_,_,_,e,_⟩:=x;exact al e
 |own y=>obtain⟨_,e⟩:=x;exact al e
 |xd fs=>obtain⟨_,⟨_,_,_,e,_⟩,_⟩:=x;exact al e
 |rng lo hi=>obtain⟨_,_,_,e⟩:=x;exact al e
 |frz ob u=>obtain⟨e,_⟩:=x;exact al e
 |tbl ps=>exact al (show h.get? a=some _ from x)
 |met f y=>exact al (show h.get? a=some _ from x)
 |ext φ=>obtain⟨_,⟨_,e⟩,_⟩:=x;exact al e
theorem Paired.mapP {α β:Type} {F G:α->β->Prop}:∀{l₁:List α} {l₂:List β},Paired F l₁ l₂->(∀a b,F a b->G a b)->Paired G l₁ l₂
 |_,_,.nil,_=>.nil
 |_,_,.cons r t,f=>.cons (f _ _ r) (Paired.mapP t f)
theorem av'.stay (x:av' P w H h a o) (k:∀b u,(b=a\/H b=some (.own a))->h.get? b=some u->h'.get? b=some u)
  (ho:∀b,H b=some (.own a)->H' b=some (.own a)) (ht:∀b xs,H b=some (.tup xs)->H' b=some (.tup xs)):av' P w H' h' a o:=by
 induction o with
 |lst xs=>obtain⟨z,its,n,r,e⟩:=x;exact⟨z,its,n,r,k _ _ (.inl rfl) e⟩
 |tup xs=>obtain⟨z,its,r,ob,e,c⟩:=x;exact⟨z,its,r,ob,k _ _ (.inl rfl) e,c⟩
 |dK kvs=>obtain⟨z,y,vs,r,ob,es,ep,e,c⟩:=x;exact⟨z,y,vs,r,ob,es,ep,k _ _ (.inl rfl) e,c⟩
 |dT kvs=>
  obtain⟨z,y,xs,r,ob,es,ep,e,c⟩:=x
  exact⟨z,y,xs,Paired.mapP r fun p q z=>⟨z.1,ht _ _ z.2.1,z.2.2⟩,ob,es,ep,k _ _ (.inl rfl) e,c⟩
 |set S n=>obtain⟨ob,es,ep,t,e,c⟩:=x;exact⟨ob,es,ep,t,k _ _ (.inl rfl) e,c⟩
 |ins C dx fs=>
  obtain⟨d,z,ne,e,mA,⟨od,es,ep,e2,c⟩,r⟩:=x
  exact⟨ho _ d,z,ne,k _ _ (.inl rfl) e,mA,⟨od,es,ep,k _ _ (.inr d) e2,c⟩,r⟩
 |own y=>obtain⟨ob,e⟩:=x;exact⟨ob,k _ _ (.inl rfl) e⟩
 |xd fs=>obtain⟨mA,⟨od,es,ep,e,c⟩,r⟩:=x;exact⟨mA,⟨od,es,ep,k _ _ (.inl rfl) e,c⟩,r⟩
 |rng lo hi=>obtain⟨t,u,v,e⟩:=x;exact⟨t,u,v,k _ _ (.inl rfl) e⟩
 |frz ob u ih=>obtain⟨e,q⟩:=x;exact⟨k _ _ (.inl rfl) e,ih q⟩
 |tbl ps=>
  have e:h.get? a=some { cls:=.none,data:=.fields ps }:=x
  show h'.get? a=some { cls:=.none,data:=.fields ps }
  exact k a _ (.inl rfl) e
 |met f y=>
  have e:h.get? a=some (W.methodObj (.ref f) (.ref y)):=x
  show h'.get? a=some (W.methodObj (.ref f) (.ref y))
  exact k a _ (.inl rfl) e
 |ext φ=>obtain⟨p,⟨o,e⟩,st⟩:=x;exact⟨st _ _ p fun o q=>k _ _ (.inl rfl) q,⟨o,k _ _ (.inl rfl) e⟩,st⟩
theorem HOk.lt (x:HOk P w H h) (e:H a=some o):a<h.objs.size:=(x a o e).lt
theorem HOk.fresh (x:HOk P w H h) (e:h.objs.size<=a):H a=none:=by
 cases q:H a with
 |none=>rfl
 |some u=>exact absurd (ai (x.lt q) e) (aZ _)
theorem HOk.kept (x:HOk P w H h) (k:∀b u,h.get? b=some u->h'.get? b=some u):HOk P w H h':=fun a o e=>
 (x a o e).stay (fun b u _ q=>k b u q) (fun _ q=>q) fun _ _ q=>q
theorem HOk.laid (x:HOk P w H h) (k:∀b u,h.get? b=some u->h'.get? b=some u) (hp:h.objs.size<=a) (new:av' P w (upd H a o) h' a o):HOk P w (upd H a o) h':=fun b u e=>by
 have hn:=x.fresh hp
 by_cases hb:b=a
 .subst hb;rw[aa']at e;cases e;exact new
 .rw[ad' hb]at e
  exact(x b u e).stay (fun c v _ q=>k c v q) (fun c q=>by rw[ad' (aj' q hn)];exact q) fun c xs q=>by rw[ad' (aj' q hn)];exact q
end
def Rd (H:Hp) (a:Addr) (u:HO):Prop:=H a=some u\/∃o,H a=some (.frz o u)
theorem Rd.ok {P:Program} {w:World} {H:Hp} {h:Heap} {a:Addr} {u:HO} (r:Rd H a u) (x:HOk P w H h):av' P w H h a u:=by
 rcases r with r|⟨o,r⟩
 .exact x a u r
 .obtain⟨_,q⟩:=x a _ r
  exact q
def Mut:Option HO->Prop
 |some (.lst _)=>True
 |some (.dK _)=>True
 |some (.dT _)=>True
 |some (.set _ _)=>True
 |some (.ins _ _ _)=>True
 |some (.ext _)=>True
 |_=>False
section
variable {P:Program} {w:World} {H:Hp} {h h':Heap} {x e:Addr} {o':HO}
theorem HOk.write (ok:HOk P w H h) (mu:Mut (H x)) (he:e=x\/H e=some (.own x)) (k:∀b u,b≠e->h.get? b=some u->h'.get? b=some u) (heo:∃u,h'.get? e=some u)
  (new:av' P w (upd H x o') h' x o'):HOk P w (upd H x o') h':=fun b u q=>by
 have nown:∀c y,H c=some (.own y)->c≠x:=fun c y r z=>by subst z;rw[r]at mu;exact mu
 have ntup:∀c xs,H c=some (.tup xs)->c≠x:=fun c xs r z=>by subst z;rw[r]at mu;exact mu
 by_cases hb:b=x
 .subst hb;rw[aa']at q;cases q;exact new
 .rw[ad' hb]at q
  by_cases hbe:b=e
  .have q':H b=some (.own x):=by
    rcases he with z|z
    .exact absurd (hbe.trans z) hb
    .rw[hbe];exact z
   rw[q]at q';cases q'
   obtain⟨v,hv⟩:=heo
   exact⟨v,by rw[hbe];exact hv⟩
  .refine(ok b u q).stay (fun c v hc r=>k c v ?_ r) (fun c r=>by rw[ad' (nown c b r)];exact r) fun c xs r=>by rw[ad' (ntup c xs r)];exact r
   rcases hc with rfl|hc
   .exact hbe
   .rintro rfl
    rcases he with z|z
    .exact nown c b hc z
    .rw[hc]at z;cases z;exact hb rfl
end
structure Un (fs ex:List Addr) (H H':Hp) (h h':Heap):Prop where
 keep:∀b o,h.get? b=some o->H b=none->b∉fs->b∉ex->h'.get? b=some o
 slot:∀b o,h.get? b=some o->H b=none->b∈fs->b∉ex->∃sl,h'.get? b=some { o with slots:=sl }
 free:∀b o,h.get? b=some o->H b=none->b∉ex->H' b=none
 there:∀b o,h.get? b=some o->b∉ex->∃o',h'.get? b=some o'
 tups:∀b xs,H b=some (.tup xs)->H' b=some (.tup xs)
 frzs:∀b o u,H b=some (.frz o u)->H' b=some (.frz o u)
 tbls:∀b ps,H b=some (.tbl ps)->∃more,H' b=some (.tbl (ps++more))
section
variable {fs fs' ex ex':List Addr} {H H1 H2:Hp} {h h1 h2 h':Heap} {a x e:Addr} {o:HO}
theorem Un.any (u:Un fs ex H H1 h h1) {b:Addr} {ob:Obj} (q:h.get? b=some ob) (n:H b=none) (hx:b∉ex):∃sl,h1.get? b=some { ob with slots:=sl }:=by
 by_cases hb:b∈fs
 .exact u.slot b ob q n hb hx
 .exact⟨ob.slots,u.keep b ob q n hb hx⟩
theorem Un.kept (k:∀b u,h.get? b=some u->h'.get? b=some u):Un fs ex H H h h':=
 ⟨fun b ob q _ _ _=>k b ob q,fun b ob q _ _ _=>⟨ob.slots,k b ob q⟩,fun _ _ _ n _=>n,fun b ob q _=>⟨ob,k b ob q⟩,fun _ _ q=>q,fun _ _ _ q=>q,fun _ ps q=>⟨#[],by rw[q];simp⟩⟩
theorem Un.refl:Un fs ex H H h h:=Un.kept fun _ _ q=>q
theorem Un.laid (k:∀b u,h.get? b=some u->h'.get? b=some u) (hp:h.objs.size<=a) (hn:H a=none):Un fs ex H (upd H a o) h h' where
 keep:=fun b u q _ _ _=>k b u q
 slot:=fun b u q _ _ _=>⟨u.slots,k b u q⟩
 free:=fun b u q n _=>by rw[ad' (ax (ai (al q) hp))];exact n
 there:=fun b u q _=>⟨u,k b u q⟩
 tups:=fun b xs q=>by rw[ad' (aj' q hn)];exact q
 frzs:=fun b u xs q=>by rw[ad' (aj' q hn)];exact q
 tbls:=fun b ps q=>⟨#[],by rw[ad' (aj' q hn),q];simp⟩
theorem Un.write (mu:Mut (H x)) (he:e=x\/H e=some (.own x)) (k:∀b u,b≠e->h.get? b=some u->h'.get? b=some u) (heo:∃u,h'.get? e=some u):Un fs ex H (upd H x o) h h':=by
 have hx:∀b,H b=none->b≠x:=fun b n z=>by subst z;rw[n]at mu;exact mu
 have hb:∀b,H b=none->b≠e:=fun b n z=>by
  subst z
  rcases he with r|r
  .exact hx b n r
  .rw[n]at r;cases r
 have hm:∀b u,H b=some u->¬Mut (some u)->b≠x:=fun b u q nm z=>by subst z;rw[q]at mu;exact nm mu
 refine⟨fun b u q n _ _=>k b u (hb b n) q,fun b u q n _ _=>⟨u.slots,k b u (hb b n) q⟩,fun b u q n _=>by rw[ad' (hx b n)];exact n,fun b u q _=>?_,
  fun b xs q=>by rw[ad' (hm b _ q fun z=>z)];exact q,fun b u xs q=>by rw[ad' (hm b _ q fun z=>z)];exact q,fun b ps q=>⟨#[],by rw[ad' (hm b _ q fun z=>z),q];simp⟩⟩
 by_cases hbe:b=e
 .subst hbe;exact heo
 .exact⟨u,k b u hbe q⟩
end
def trk (h:Heap) (H:Hp):List Addr:=(aF h.objs.size).filter fun a=>(H a).isSome
def l5' (h:Heap) (H:Hp):Heap:=W.hideAll h (trk h H)
theorem jm' (h:Heap) (H:Hp):(l5' h H).objs.size=h.objs.size:=W.hideAll_size _ _
theorem l6' {h:Heap} {H:Hp} {b:Addr} {o:Obj} (e:h.get? b=some o) (n:H b=none):(l5' h H).get? b=some o:=
 W.hideAll_get _ e fun hm=>by
  have q:(H b).isSome=true:=(br.mp hm).2
  rw[n]at q;simp at q
theorem pe' {h:Heap} {H:Hp} {b:Addr} {o:Obj} (e:(l5' h H).get? b=some o):h.get? b=some o/\H b=none:=by
 have e':h.get? b=some o:=W.of_hideAll (trk h H) e
 refine⟨e',?_⟩
 cases q:H b with
 |none=>rfl
 |some x=>
  have hm:b∈trk h H:=br.mpr ⟨aJ.mpr (al e'),by simp[q]⟩
  have z:(l5' h H).get? b=none:=W.hideAll_none (trk h H) hm
  rw[z]at e;cases e
def pf' (g h:Heap) (L:Addr):List (Addr×Obj):=(aF h.objs.size).filterMap fun a=>if a=L\/(g.get? a).isSome=true then none else(h.get? a).map fun o=>(a,o)
def au' (g h:Heap) (L d:Addr):List (Addr×Obj):=(pf' g h L).filter fun p=>decide (p.1≠d)
structure Mod (K:W.Frag) (mg:Str->Option Value) (base:Heap):Prop where
 kin:K.In base
 glob:base.Ns mainGlobals mg
 blt:∃mb,base.Ns builtinsNs mb/\∀x:Str,x≠"__name__"->mb x=bootBuiltins x
 nolimit:base.NoLimit
set_option genInjectivity false
structure Cx where
 prog:Program
 w:World
 K:W.Frag
 mg:Str->Option Value
 base:Heap
 A:Around
 N:List Str
 s₀:Shared
 H₀:Hp
 env:Env
 outer:List Env
 stack:List Env
 ex:List Addr
 fn:Str->Bool
 calm:Bool
 pn:List (Addr×Obj)
 xe:Value->Shared->Prop
set_option genInjectivity true
def frs (l:List Env):List Addr:=l.filterMap (·.frame)
abbrev Cx.fs (X:Cx):List Addr:=frs X.outer
def Vis (sc:Scope) (x:Str):Prop:=sc.names.lookup x=some .local\/sc.names.lookup x=some .cell\/sc.names.lookup x=some .free
def Loc (sc:Scope) (x:Str):Prop:=sc.names.lookup x=some .local\/sc.names.lookup x=some .cell
def zB' (env:Env) (h:Heap) (m:Str->Option Value) (x:Str) (u:Value):Prop:=
 (env.kindOf x=some .local/\m x=some u)\/((env.kindOf x=some .cell\/env.kindOf x=some .free)/\∃c,env.cells.lookup x=some c/\h.IsCell c (some u))
structure Cx.Ok (X:Cx):Prop where
 mod:Mod X.K X.mg X.base
 kind:X.env.scope.kind=.function
 glob:X.env.globals=mainGlobals
 blt:X.env.builtins=builtinsNs
 above:X.s₀.heap.objs.size<=X.env.locals
 inj:∀x y c,X.env.cells.lookup x=some c->X.env.cells.lookup y=some c->x=y
 has:∀x,(X.env.kindOf x=some .cell\/X.env.kindOf x=some .free)->∃c,X.env.cells.lookup x=some c
 cab:∀x c,X.fn x=true->X.env.cells.lookup x=some c->X.s₀.heap.objs.size<=c
 hd:X.calm=true->X.A.handled=none
 frames:X.A.frames=some X.stack
 stk:X.stack=X.outer\/(X.stack=X.env :: X.outer/\X.env.frame=some X.env.locals)
 exf:∀b∈X.ex,b≠X.env.locals/\∀x c,X.env.cells.lookup x=some c->c≠b
 bs:∀b o,X.base.get? b=some o->X.s₀.heap.get? b=some o/\X.H₀ b=none
 bsz:X.base.objs.size<=X.s₀.heap.objs.size
 noex:∀b o,X.base.get? b=some o->b∉X.ex
 exfs:∀b∈X.ex,b∉X.fs
 funs:X.s₀.heap.FunFrames X.base X.outer
 frf:∀b∈X.fs,X.H₀ b=none
structure Inv (X:Cx) (pins:List (Addr×Obj)) (σ:List (Option V)) (H:Hp) (s:Shared):Prop where
 ok:X.Ok
 os:s.os=X.s₀.os
 bare:AllBare s.gens
 base:Un X.fs X.ex X.H₀ H X.s₀.heap s.heap
 loc:∃m,s.heap.Ns X.env.locals m/\∀(i:Nat) (x:Str) (v:V),X.N[i]?=some x->σ[i]?=some (some v)->Vis X.env.scope x->∃u,ay' v u/\zB' X.env s.heap m x u
 cell:∀x c,X.env.cells.lookup x=some c->∃v,s.heap.IsCell c v
 free:H X.env.locals=none
 freeC:∀x c,X.env.cells.lookup x=some c->H c=none
 pin:∀p∈X.pn++pins,s.heap.get? p.1=some p.2/\H p.1=none/\p.1≠X.env.locals/\p.1∉X.fs/\∀v,p.2.data≠.cell v
 hok:HOk X.prog X.w H s.heap
 len:σ.length=X.N.length
section
variable {X:Cx} {pins:List (Addr×Obj)} {σ:List (Option V)} {H H':Hp} {s:Shared} {h':Heap}
theorem Cx.Ok.nofr (ok:X.Ok) {b:Addr} {o:Obj} (e:X.base.get? b=some o):b∉X.fs:=fun hb=>by
 have:=(ok.funs.mem hb).1
 rw[e]at this;cases this
theorem Inv.bs (I:Inv X pins σ H s):∀b o,X.base.get? b=some o->s.heap.get? b=some o/\H b=none:=fun b o e=>
 ⟨I.base.keep b o (I.ok.bs b o e).1 (I.ok.bs b o e).2 (I.ok.nofr e) (I.ok.noex b o e),I.base.free b o (I.ok.bs b o e).1 (I.ok.bs b o e).2 (I.ok.noex b o e)⟩
theorem Inv.bk (I:Inv X pins σ H s):∀b o,X.base.get? b=some o->s.heap.get? b=some o:=fun b o e=>(I.bs b o e).1
theorem Inv.mod (I:Inv X pins σ H s):Mod X.K X.mg X.base:=I.ok.mod
theorem Inv.kIn (I:Inv X pins σ H s):X.K.In s.heap:=I.ok.mod.kin.keeps I.bk
theorem Inv.fr (I:Inv X pins σ H s):∃m,Fr X.base X.env.locals s.heap m:=
 let⟨m,hn,_⟩:=I.loc
 ⟨m,hn,I.bk,aM I.ok.bsz I.ok.above⟩
theorem Inv.lt (I:Inv X pins σ H s):X.env.locals<s.heap.objs.size:=let⟨_,hn,_⟩:=I.loc;hn.lt
theorem Inv.sz (I:Inv X pins σ H s):X.s₀.heap.objs.size<=s.heap.objs.size:=aM I.ok.above (bK I.lt)
theorem Inv.nofs (I:Inv X pins σ H s) {a:Addr} (h:s.heap.objs.size<=a):a∉X.fs:=fun hb=>by
 obtain⟨_,o,ho,_⟩:=I.ok.funs.mem hb
 exact absurd (ai (al ho) (aM I.sz h)) (aZ _)
theorem Inv.cne (I:Inv X pins σ H s):∀x c,X.env.cells.lookup x=some c->c≠X.env.locals:=fun x c e z=>by
 obtain⟨v,o,ho,hd⟩:=I.cell x c e
 obtain⟨m,⟨o',es,ep,ho',hd',_⟩,_⟩:=I.loc
 rw[z,ho']at ho;cases ho;rw[hd']at hd;cases hd
theorem Inv.funs (I:Inv X pins σ H s):s.heap.FunFrames X.base X.outer:=by
 have all:∀(l:List Env),(∀b∈frs l,b∈X.fs)->X.s₀.heap.FunFrames X.base l->s.heap.FunFrames X.base l:=by
  intro l
  induction l with
  |nil=>intro _ _;trivial
  |cons env r ih=>
   intro hs hl
   obtain⟨hk,⟨L,o,hf,hn,ho,hd⟩,hr⟩:=hl
   have hL:L∈X.fs:=hs L (by unfold frs;rw[List.filterMap_cons,hf];exact ay)
   obtain⟨sl,e⟩:=I.base.slot L o ho (I.ok.frf L hL) hL fun z=>I.ok.exfs L z hL
   exact⟨hk,⟨L,_,hf,hn,e,hd⟩,ih (fun b hb=>hs b (by unfold frs;rw[List.filterMap_cons,hf];exact aw _ hb)) hr⟩
 exact all X.outer (fun _ hb=>hb) I.ok.funs
theorem Inv.stack (I:Inv X pins σ H s):s.heap.FunFrames X.base X.stack:=by
 rcases I.ok.stk with e|⟨e,hf⟩
 .rw[e];exact I.funs
 .rw[e]
  obtain⟨m,hn,_⟩:=I.loc
  refine .cons (by rw[I.ok.kind];decide) hf hn ?_ I.funs
  exact Heap.get?_none_of_le (aM I.ok.bsz I.ok.above)
theorem Inv.stkSub (I:Inv X pins σ H s):∀b∈frs X.stack,b∈X.env.locals :: X.fs:=fun b hb=>by
 rcases I.ok.stk with e|⟨e,hf⟩
 .rw[e]at hb;exact aw _ hb
 .rw[e]at hb
  unfold frs at hb
  rw[List.filterMap_cons,hf]at hb
  exact hb
theorem Inv.stkFree (I:Inv X pins σ H s):∀b∈frs X.stack,H b=none:=fun b hb=>by
 rcases ak.mp (I.stkSub b hb)with e|hb
 .rw[e];exact I.free
 .obtain⟨_,o,ho,_⟩:=I.ok.funs.mem hb
  exact I.base.free b o ho (I.ok.frf b hb) fun z=>I.ok.exfs b z hb
theorem Inv.step {g':Array GenState} {t':Nat} {d':Drawn} {ch:List Addr} (I:Inv X pins σ H s)
  (hch:∀b∈ch,(b∈X.ex\/X.s₀.heap.objs.size<=b)/\b≠X.env.locals/\(∀x c,X.env.cells.lookup x=some c->c≠b)/\∀p∈X.pn++pins,p.1≠b)
  (keep:∀b o,b≠X.env.locals->b∉X.fs->b∉ch->s.heap.get? b=some o->H b=none->h'.get? b=some o)
  (slot:∀b o,b≠X.env.locals->b∈X.fs->b∉ch->s.heap.get? b=some o->H b=none->∃sl,h'.get? b=some { o with slots:=sl }) (free:∀b o,b∉ch->s.heap.get? b=some o->H b=none->H' b=none)
  (there:∀b o,b∉ch->s.heap.get? b=some o->∃o',h'.get? b=some o')
  (tups:∀b xs,H b=some (.tup xs)->H' b=some (.tup xs)) (frzs:∀b o u,H b=some (.frz o u)->H' b=some (.frz o u)) (tbls:∀b ps,H b=some (.tbl ps)->∃more,H' b=some (.tbl (ps++more)))
  (ns:∀m,s.heap.Ns X.env.locals m->h'.Ns X.env.locals m) (hok:HOk X.prog X.w H' h') (hg:AllBare g'):
  Inv X pins σ H' { s with heap:=h',gens:=g',drawn:=d',toks:=t' }:=by
 have neL:∀b o,X.s₀.heap.get? b=some o->b≠X.env.locals:=fun b o e=>ax (ai (al e) I.ok.above)
 have neC:∀b o,X.s₀.heap.get? b=some o->b∉X.ex->b∉ch:=fun b o e hx hb=>by
  rcases(hch b hb).1 with z|z
  .exact hx z
  .exact absurd (ai (al e) z) (aZ _)
 have cellK:∀x c,X.env.cells.lookup x=some c->∀v,s.heap.IsCell c v->h'.IsCell c v:=fun x c e v ⟨o,ho,hd⟩=>by
  have nch:c∉ch:=fun z=>(hch c z).2.2.1 x c e rfl
  by_cases hc:c∈X.fs
  .obtain⟨sl,q⟩:=slot c o (I.cne x c e) hc nch ho (I.freeC x c e)
   exact⟨_,q,hd⟩
  .exact⟨o,keep c o (I.cne x c e) hc nch ho (I.freeC x c e),hd⟩
 refine⟨I.ok,I.os,hg,⟨fun b o e n hb hx=>?_,fun b o e n hb hx=>?_,fun b o e n hx=>?_,fun b o e hx=>?_,fun b xs e=>tups b xs (I.base.tups b xs e),fun b o xs e=>frzs b o xs (I.base.frzs b o xs e),fun b ps e=>?_⟩,?_,fun x c e=>?_,?_,fun x c e=>?_,fun p hp=>?_,hok,I.len⟩
 .exact keep b o (neL b o e) hb (neC b o e hx) (I.base.keep b o e n hb hx) (I.base.free b o e n hx)
 .obtain⟨sl,e1⟩:=I.base.slot b o e n hb hx
  obtain⟨sl',e2⟩:=slot b _ (neL b o e) hb (neC b o e hx) e1 (I.base.free b o e n hx)
  exact⟨sl',e2⟩
 .obtain⟨o',e1⟩:=I.base.there b o e hx
  exact free b o' (neC b o e hx) e1 (I.base.free b o e n hx)
 .obtain⟨o',e1⟩:=I.base.there b o e hx
  exact there b o' (neC b o e hx) e1
 .obtain⟨m1,e1⟩:=I.base.tbls b ps e
  obtain⟨m2,e2⟩:=tbls b _ e1
  exact⟨m1++m2,by rw[e2,Array.append_assoc]⟩
 .obtain⟨m,hn,hl⟩:=I.loc
  refine⟨m,ns m hn,fun i x v e1 e2 e3=>?_⟩
  obtain⟨u,r,l⟩:=hl i x v e1 e2 e3
  refine⟨u,r,?_⟩
  rcases l with l|⟨k,c,e,z⟩
  .exact .inl l
  .exact .inr ⟨k,c,e,cellK x c e _ z⟩
 .obtain⟨v,z⟩:=I.cell x c e
  exact⟨v,cellK x c e v z⟩
 .obtain⟨m,⟨o,_,_,ho,_⟩,_⟩:=I.loc
  exact free _ o (fun z=>(hch _ z).2.1 rfl) ho I.free
 .obtain⟨v,o,ho,hd⟩:=I.cell x c e
  exact free c o (fun z=>(hch c z).2.2.1 x c e rfl) ho (I.freeC x c e)
 .obtain⟨e,n,ne,nf,d⟩:=I.pin p hp
  have nch:p.1∉ch:=fun z=>(hch p.1 z).2.2.2 p hp rfl
  exact⟨keep p.1 p.2 ne nf nch e n,free p.1 p.2 nch e n,ne,nf,d⟩
theorem Inv.un {t':Nat} (I:Inv X pins σ H s) (u:Un X.fs [] H H' s.heap h') (hok:HOk X.prog X.w H' h'):Inv X pins σ H' { s with heap:=h',toks:=t' }:=by
 obtain⟨m,⟨o,es,ep,ho,r⟩,_⟩:=id I.loc
 obtain⟨sl,hL⟩:=u.any ho I.free (by simp)
 exact I.step (g':=s.gens) (d':=s.drawn) (ch:=[]) (fun _ z=>nomatch z) (fun b o _ hb _ e n=>u.keep b o e n hb (by simp)) (fun b o _ hb _ e n=>u.slot b o e n hb (by simp)) (fun b o _ e n=>u.free b o e n (by simp)) (fun b o _ e=>u.there b o e (by simp)) u.tups u.frzs u.tbls (fun m' hm=>by
  obtain⟨o',es',ep',ho',r'⟩:=hm
  rw[ho]at ho';cases ho'
  exact⟨_,es',ep',hL,r'⟩) hok I.bare
theorem Inv.call {g':Array GenState} {t':Nat} {d':Drawn} {ch:List Addr} (I:Inv X pins σ H s) (u:Un (frs X.stack) ch H H' s.heap h') (hok:HOk X.prog X.w H' h') (hg:AllBare g')
  (hch:∀b∈ch,(b∈X.ex\/X.s₀.heap.objs.size<=b)/\b≠X.env.locals/\(∀x c,X.env.cells.lookup x=some c->c≠b)/\∀p∈X.pn++pins,p.1≠b):
  Inv X pins σ H' { s with heap:=h',gens:=g',drawn:=d',toks:=t' }:=by
 obtain⟨m,⟨o,es,ep,ho,r⟩,_⟩:=id I.loc
 obtain⟨sl,hL⟩:=u.any ho I.free fun z=>(hch _ z).2.1 rfl
 exact I.step (ch:=ch) hch (fun b o hL hb hc e n=>u.keep b o e n (fun z=>(ak.mp (I.stkSub b z)).elim hL hb) hc) (fun b o _ _ hc e n=>u.any e n hc) (fun b o hc e n=>u.free b o e n hc) (fun b o hc e=>u.there b o e hc) u.tups u.frzs u.tbls (fun m' hm=>by
  obtain⟨o',es',ep',ho',r'⟩:=hm
  rw[ho]at ho';cases ho'
  exact⟨_,es',ep',hL,r'⟩) hok hg
theorem Inv.turned {t':Nat} {it:Addr} (I:Inv X pins σ H s) (k:∀b o,b≠it->s.heap.get? b=some o->h'.get? b=some o) (hn:H it=none) (hL:it≠X.env.locals)
  (h1:it∈X.ex\/X.s₀.heap.objs.size<=it) (h2:∀x c,X.env.cells.lookup x=some c->c≠it) (h3:∀p∈X.pn++pins,p.1≠it):Inv X pins σ H { s with heap:=h',toks:=t' }:=by
 have nit:∀b u,H b=some u->b≠it:=fun b u e z=>by rw[z,hn]at e;cases e
 refine I.step (g':=s.gens) (d':=s.drawn) (ch:=[it]) (fun b hb=>?_) (fun b o _ _ hc e _=>k b o (fun z=>hc (by simp[z])) e) (fun b o _ _ hc e _=>⟨o.slots,k b o (fun z=>hc (by simp[z])) e⟩) (fun _ _ _ _ n=>n)
  (fun b o hc e=>⟨o,k b o (fun z=>hc (by simp[z])) e⟩) (fun _ _ e=>e) (fun _ _ _ e=>e) (fun b ps e=>⟨#[],by rw[e];simp⟩) (fun m hm=>?_) (fun b u e=>?_) I.bare
 .have e:b=it:=by simpa using hb
  subst e
  exact⟨h1,hL,h2,h3⟩
 .obtain⟨o,es,ep,ho,r⟩:=hm
  exact⟨o,es,ep,k _ o (Ne.symm hL) ho,r⟩
 .refine(I.hok b u e).stay (fun c v hc q=>k c v ?_ q) (fun _ q=>q) fun _ _ q=>q
  rcases hc with z|z
  .rw[z];exact nit b u e
  .exact nit c _ z
theorem Inv.tok (I:Inv X pins σ H s) (t:Nat):Inv X pins σ H { s with toks:=t }:=I.un (h':=s.heap) (t':=t) Un.refl I.hok
theorem Inv.kept {t':Nat} (I:Inv X pins σ H s) (k:∀b u,s.heap.get? b=some u->h'.get? b=some u):Inv X pins σ H { s with heap:=h',toks:=t' }:=I.un (Un.kept k) (I.hok.kept k)
theorem Inv.laid {a:Addr} {o:HO} {t':Nat} (I:Inv X pins σ H s) (k:∀b u,s.heap.get? b=some u->h'.get? b=some u) (hp:s.heap.objs.size<=a) (new:av' X.prog X.w (upd H a o) h' a o):
  Inv X pins σ (upd H a o) { s with heap:=h',toks:=t' }:=I.un (Un.laid k hp (I.hok.fresh hp)) (I.hok.laid k hp new)
theorem Inv.write {x e:Addr} {o:HO} {t':Nat} (I:Inv X pins σ H s) (mu:Mut (H x)) (he:e=x\/H e=some (.own x)) (k:∀b u,b≠e->s.heap.get? b=some u->h'.get? b=some u) (heo:∃u,h'.get? e=some u)
  (new:av' X.prog X.w (upd H x o) h' x o):Inv X pins σ (upd H x o) { s with heap:=h',toks:=t' }:=I.un (Un.write mu he k heo) (I.hok.write mu he k heo new)
theorem Inv.weak {σ':List (Option V)} (I:Inv X pins σ H s) (hl:σ'.length=σ.length) (w:∀(i:Nat) v,σ'[i]?=some (some v)->σ[i]?=some (some v)):Inv X pins σ' H s:=
 ⟨I.ok,I.os,I.bare,I.base,let⟨m,hn,hl'⟩:=I.loc;⟨m,hn,fun i x v e1 e2 e3=>hl' i x v e1 (w i v e2) e3⟩,I.cell,I.free,I.freeC,I.pin,I.hok,hl.trans I.len⟩
theorem Inv.pins_of {pins':List (Addr×Obj)} (I:Inv X pins σ H s) (h:∀p∈pins',s.heap.get? p.1=some p.2/\H p.1=none/\p.1≠X.env.locals/\p.1∉X.fs/\∀v,p.2.data≠.cell v):Inv X pins' σ H s:=
 ⟨I.ok,I.os,I.bare,I.base,I.loc,I.cell,I.free,I.freeC,fun p hp=>(aH.mp hp).elim (fun z=>I.pin p (ba _ z)) (h p),I.hok,I.len⟩
theorem hE' {N:List Str} (hN:N.Nodup) {i j:Nat} {x:Str} (a:N[i]?=some x) (b:N[j]?=some x):i=j:=by
 obtain⟨h1,e1⟩:=aG.mp a
 obtain⟨h2,e2⟩:=aG.mp b
 exact(List.getElem_inj hN).mp (e1.trans e2.symm)
theorem dz' {M:Model} {A:Around} {E:Value->Shared->Prop} {i:Nat} {x:Str} {v:V} {u:Value} {Q:Unit->Shared->Prop} (I:Inv X pins σ H s) (hN:X.N.Nodup) (hi:X.N[i]?=some x) (hx:Loc X.env.scope x) (r:ay' v u)
  (h:∀s',Inv X pins (σ.set i (some v)) H s'->(∃a,bL a s.heap s'.heap/\(a=X.env.locals\/X.env.cells.lookup x=some a))->Q () s') (hf:X.fn x=true\/X.env.scope.names.lookup x=some .local:=by first|exact .inl rfl|exact .inr rfl|assumption):wpAny M A (storeName X.env x u) Q E s:=by
 obtain⟨m,hn,hl⟩:=id I.loc
 have hcls:(X.env.scope.kind == .class || (X.env.scope.kind == .module&&X.env.locals != X.env.globals))=false:=by rw[I.ok.kind];rfl
 have hiσ:i<σ.length:=by rw[I.len];exact(aG.mp hi).1
 have cne:=I.cne
 have tracked:∀{a:Addr} {h':Heap},(∃o,s.heap.get? a=some o/\H a=none)->bL a s.heap h'->HOk X.prog X.w H h':=fun {a h'} ha hs b ob e=>by
  obtain⟨_,_,hfree⟩:=ha
  refine(I.hok b ob e).stay (fun c w' hc q=>(hs.2 c ?_).trans q) (fun _ q=>q) fun _ _ q=>q
  rintro rfl
  rcases hc with rfl|hc
  .rw[hfree]at e;cases e
  .rw[hfree]at hc;cases hc
 rcases hx with hk|hk
 .refine wpAny_storeName_local hk hn (fun h' hn' hs=>?_) hcls
  obtain⟨oL,_,_,hoL,_⟩:=id hn
  refine h _ ⟨I.ok,I.os,I.bare,⟨fun b o e n hb hx=>?_,fun b o e n hb hx=>?_,I.base.free,fun b o e hx=>?_,I.base.tups,I.base.frzs,I.base.tbls⟩,⟨_,hn',fun j y v' e1 e2 e3=>?_⟩,fun y c e=>?_,I.free,I.freeC,fun p hp=>?_,tracked ⟨oL,hoL,I.free⟩ hs,by simpa using I.len⟩ ⟨_,hs,.inl rfl⟩
  .exact(hs.2 b (ax (ai (al e) I.ok.above))).trans (I.base.keep b o e n hb hx)
  .obtain⟨sl,e1⟩:=I.base.slot b o e n hb hx
   exact⟨sl,(hs.2 b (ax (ai (al e) I.ok.above))).trans e1⟩
  .obtain⟨o',e1⟩:=I.base.there b o e hx
   exact⟨o',(hs.2 b (ax (ai (al e) I.ok.above))).trans e1⟩
  .by_cases hj:j=i
   .subst hj
    rw[hi]at e1;cases e1
    rw[List.getElem?_set_self hiσ]at e2
    cases e2
    exact⟨u,r,.inl ⟨hk,by simp⟩⟩
   .rw[ce (Ne.symm hj)]at e2
    obtain⟨u',r',q⟩:=hl j y v' e1 e2 e3
    refine⟨u',r',?_⟩
    rcases q with⟨k,e⟩|⟨k,c,e,z⟩
    .refine .inl ⟨k,?_⟩
     have:y≠x:=fun e=>hj (hE' hN e1 (e ▸ hi))
     simp[this,e]
    .exact .inr ⟨k,c,e,z.sameBut hs (cne y c e)⟩
  .obtain⟨w',z⟩:=I.cell y c e
   exact⟨w',z.sameBut hs (cne y c e)⟩
  .obtain⟨e,n,ne,nf,d⟩:=I.pin p hp
   exact⟨(hs.2 p.1 ne).trans e,n,ne,nf,d⟩
 .have hfn:X.fn x=true:=by
   rcases hf with z|z
   .exact z
   .rw[z]at hk;cases hk
  obtain⟨c,hc⟩:=I.ok.has x (.inl hk)
  obtain⟨w',z⟩:=I.cell x c hc
  refine wpAny_storeName_cell I.ok.kind hk hc z (fun h' hc' hs=>?_)
  obtain⟨oc,hoc,hocd⟩:=id z
  refine h { s with heap:=h' } ⟨I.ok,I.os,I.bare,⟨fun b o e n hb hx=>?_,fun b o e n hb hx=>?_,I.base.free,fun b o e hx=>?_,I.base.tups,I.base.frzs,I.base.tbls⟩,⟨m,hn.sameBut hs (Ne.symm (cne x c hc)),fun j y v' e1 e2 e3=>?_⟩,fun y c' e=>?_,I.free,I.freeC,fun p hp=>?_,tracked ⟨oc,hoc,I.freeC x c hc⟩ hs,by simpa using I.len⟩ ⟨c,hs,.inr hc⟩
  .exact(hs.2 b (ax (ai (al e) (I.ok.cab x c hfn hc)))).trans (I.base.keep b o e n hb hx)
  .obtain⟨sl,e1⟩:=I.base.slot b o e n hb hx
   exact⟨sl,(hs.2 b (ax (ai (al e) (I.ok.cab x c hfn hc)))).trans e1⟩
  .obtain⟨o',e1⟩:=I.base.there b o e hx
   exact⟨o',(hs.2 b (ax (ai (al e) (I.ok.cab x c hfn hc)))).trans e1⟩
  .by_cases hj:j=i
   .subst hj
    rw[hi]at e1;cases e1
    rw[List.getElem?_set_self hiσ]at e2
    cases e2
    exact⟨u,r,.inr ⟨.inl hk,c,hc,hc'⟩⟩
   .rw[ce (Ne.symm hj)]at e2
    obtain⟨u',r',q⟩:=hl j y v' e1 e2 e3
    refine⟨u',r',?_⟩
    rcases q with q|⟨k,c',e,z'⟩
    .exact .inl q
    .refine .inr ⟨k,c',e,z'.sameBut hs ?_⟩
     rintro rfl
     exact hj (hE' hN e1 (I.ok.inj _ _ _ e hc ▸ hi))
  .by_cases hcc:c'=c
   .subst hcc;exact⟨_,hc'⟩
   .obtain⟨w2,z2⟩:=I.cell y c' e
    exact⟨w2,z2.sameBut hs hcc⟩
  .obtain⟨e,n,ne,nf,d⟩:=I.pin p hp
   refine⟨(hs.2 p.1 ?_).trans e,n,ne,nf,d⟩
   intro q
   rw[q,hoc]at e
   have q':oc=p.2:=Option.some.inj e
   exact d w' (by rw[<- q'];exact hocd)
theorem hF' {M:Model} {A:Around} {E:Value->Shared->Prop} {i:Nat} {x:Str} {v:V} {u:Value} {Q:Unit->Shared->Prop} (I:Inv X pins σ H s) (hN:X.N.Nodup) (hi:X.N[i]?=some x) (hx:Loc X.env.scope x) (r:ay' v u)
  (h:∀s',Inv X pins (σ.set i (some v)) H s'->Q () s') (hf:X.fn x=true\/X.env.scope.names.lookup x=some .local:=by first|exact .inl rfl|exact .inr rfl|assumption):wpAny M A (storeName X.env x u) Q E s:=
 dz' I hN hi hx r (fun s' I' _=>h s' I') hf
theorem Inv.call' {s':Shared} {ch:List Addr} (I:Inv X pins σ H s) (ho:s'.os=s.os) (u:Un (frs X.stack) ch H H' s.heap s'.heap) (hok:HOk X.prog X.w H' s'.heap) (hg:AllBare s'.gens)
  (hch:∀b∈ch,(b∈X.ex\/X.s₀.heap.objs.size<=b)/\b≠X.env.locals/\(∀x c,X.env.cells.lookup x=some c->c≠b)/\∀p∈X.pn++pins,p.1≠b):Inv X pins σ H' s':=by
 obtain⟨h',g',d',t',o'⟩:=s'
 have e:o'=s.os:=ho
 subst e
 exact I.call (g':=g') (t':=t') (d':=d') u hok hg hch
end
abbrev XK:=Value->Option Addr->Hp->Prop
abbrev St:=List (Option V)
abbrev VK:=V->Hp->Prop
abbrev TE:=St->Hp->VK->Prop
abbrev TT:=St->Hp->(Bool->Hp->Prop)->Prop
abbrev TA:=St->Hp->(List V->Hp->Prop)->Prop
structure Ends where
 nx:St->Hp->Prop
 rt:VK
 bk:St->Hp->Prop:=fun _ _=>False
 ct:St->Hp->Prop:=fun _ _=>False
abbrev TS:=Ends->St->Hp->Prop
def EP (X:Cx) (pins:List (Addr×Obj)) (σ:St) (Q:VK) (u:Value) (s':Shared):Prop:=∃v H',Inv X pins σ H' s'/\ay' v u/\Q v H'
def TP (X:Cx) (pins:List (Addr×Obj)) (σ:St) (Q:Bool->Hp->Prop) (b:Bool) (s':Shared):Prop:=∃H',Inv X pins σ H' s'/\Q b H'
def AP (X:Cx) (pins:List (Addr×Obj)) (σ:St) (Q:List V->Hp->Prop) (us:List Value) (s':Shared):Prop:=∃vs H',Inv X pins σ H' s'/\aB' vs us/\Q vs H'
def SP (X:Cx) (pins:List (Addr×Obj)) (D:Ends) (f:Flow) (s':Shared):Prop:=
 match f with
 | .next=>∃σ' H',Inv X pins σ' H' s'/\D.nx σ' H'
 | .brk=>∃σ' H',Inv X pins σ' H' s'/\D.bk σ' H'
 | .cont=>∃σ' H',Inv X pins σ' H' s'/\D.ct σ' H'
 | .ret u=>∃v σ' H',Inv X pins σ' H' s'/\ay' v u/\D.rt v H'
def PE (X:Cx) (e:Expr) (t:TE):Prop:=
 ∀(pins:List (Addr×Obj)) (s:Shared) (σ:St) (H:Hp) (Q:VK),Inv X pins σ H s->t σ H Q->wpAny (model X.prog X.w) X.A (eval e X.env) (EP X pins σ Q) X.xe s
def PT (X:Cx) (e:Expr) (t:TT):Prop:=
 ∀(pins:List (Addr×Obj)) (s:Shared) (σ:St) (H:Hp) (Q:Bool->Hp->Prop),Inv X pins σ H s->t σ H Q->wpAny (model X.prog X.w) X.A (isTrue e X.env (eval e X.env)) (TP X pins σ Q) X.xe s
def PW (X:Cx) (e:Expr) (t:TT):Prop:=
 ∀(whole:Sem Value) (pins:List (Addr×Obj)) (s:Shared) (σ:St) (H:Hp) (Q:Bool->Hp->Prop),Inv X pins σ H s->t σ H Q->wpAny (model X.prog X.w) X.A (isTrue e X.env whole) (TP X pins σ Q) X.xe s
theorem PW.pt {X:Cx} {e:Expr} {t:TT} (h:PW X e t):PT X e t:=h _
def PA (X:Cx) (es:List Expr) (t:TA):Prop:=
 ∀(pos:Pos) (pins:List (Addr×Obj)) (s:Shared) (σ:St) (H:Hp) (Q:List V->Hp->Prop),Inv X pins σ H s->t σ H Q->wpAny (model X.prog X.w) X.A (spliced (backTo pos (starEach es X.env))) (AP X pins σ Q) X.xe s
def PS (X:Cx) (st:Stmt) (t:TS):Prop:=
 ∀(pins:List (Addr×Obj)) (s:Shared) (σ:St) (H:Hp) (D:Ends),Inv X pins σ H s->t D σ H->wpAny (model X.prog X.w) X.A (exec st X.env) (SP X pins D) X.xe s
def PSs (X:Cx) (st:List Stmt) (t:TS):Prop:=
 ∀(pins:List (Addr×Obj)) (s:Shared) (σ:St) (H:Hp) (D:Ends),Inv X pins σ H s->t D σ H->wpAny (model X.prog X.w) X.A (execs st X.env) (SP X pins D) X.xe s
theorem thn {α:Type} {t:Sem α} {Q Q':α->Shared->Prop} {M:Model} {A:Around} {E:Value->Shared->Prop} {s:Shared} (h:wpAny M A t Q E s) (hQ:∀a s,Q a s->Q' a s):wpAny M A t Q' E s:=wpAny_mono h hQ fun _ _ x=>x
section
variable {X:Cx}
theorem bin {a b:Expr} {ta tb:TE} (ha:PE X a ta) (hb:PE X b tb) {pins:List (Addr×Obj)} {s:Shared} {σ:St} {H:Hp} {R:V->V->Hp->Prop} (I:Inv X pins σ H s) (h:ta σ H fun x H1=>tb σ H1 fun y H2=>R x y H2)
  {α:Type} {Q:α->Shared->Prop} {f:Value->Value->Sem α}
  (hf:∀v u s2 x y H2,Inv X pins σ H2 s2->ay' x v->ay' y u->R x y H2->wpAny (model X.prog X.w) X.A (f v u) Q X.xe s2):
  wpAny (model X.prog X.w) X.A (eval a X.env) (fun v s₁=>wpAny (model X.prog X.w) X.A (eval b X.env) (fun u s₂=>wpAny (model X.prog X.w) X.A (f v u) Q X.xe s₂) X.xe s₁) X.xe s:=by
 refine thn (ha pins s σ H _ I h) fun v s1 ⟨x,H1,I1,r1,q1⟩=>?_
 refine thn (hb pins s1 σ H1 _ I1 q1) fun u s2 ⟨y,H2,I2,r2,q2⟩=>?_
 exact hf v u s2 x y H2 I2 r1 r2 q2
def wb' (i:Nat):TE:=fun σ H Q=>∃v,σ[i]?=some (some v)/\Q v H
def tC (v:V):TE:=fun _ H Q=>Q v H
theorem oc' {i:Nat} {x:Str} {pos:Pos} (hN:X.N[i]?=some x) (hv:Vis X.env.scope x) (hd:(x == ("__debug__":Str))=false:=by decide) (hcd:(x == ("__classdict__":Str))=false:=by decide):PE X (.Name x pos) (wb' i):=by
 intro pins s σ H Q I h
 obtain⟨v,e,h⟩:=h
 obtain⟨m,hn,hl⟩:=I.loc
 obtain⟨u,r,l⟩:=hl i x v hN e hv
 have fin:EP X pins σ Q u s:=⟨v,H,I,r,h⟩
 rcases l with⟨hk,hm⟩|⟨hk,c,hc,hcell⟩
 .exact wpAny_Name (wpAny_loadName_local I.ok.kind hk hn hm fin) hd
 .rcases hk with hk|hk
  .exact wpAny_Name (wpAny_loadName_cell I.ok.kind hk hc hcell fin) hd
  .exact wpAny_Name (wpAny_loadName_free I.ok.kind hk hc hcell fin hcd) hd
theorem rX' {i j pos}:PE X (.Constant (.int i) j pos) (tC (.int i)):=fun _ _ _ H _ I h=>wpAny_Constant_int ⟨.int i,H,I.tok _,⟨_,rfl⟩,h⟩
theorem wC' {b j pos}:PE X (.Constant (.bool b) j pos) (tC (.bl b)):=fun _ _ _ H _ I h=>Constant_bool ⟨.bl b,H,I,rfl,h⟩
theorem rY' {j pos}:PE X (.Constant .none j pos) (tC .non):=fun _ _ _ H _ I h=>Constant_none ⟨.non,H,I,rfl,h⟩
theorem rZ' {x j pos}:PE X (.Constant (.str x) j pos) (tC (.str x)):=fun _ _ _ H _ I h=>Calls.Constant_str ⟨.str x,H,I.tok _,⟨_,rfl⟩,h⟩
def Gl (X:Cx) (x:Str):Prop:=X.env.kindOf x=some .globalImplicit
theorem pg' {E:Value->Shared->Prop} {pins:List (Addr×Obj)} {s:Shared} {σ:St} {H:Hp} {x:Str} {u:Value} {pos:Pos} {Q:Value->Shared->Prop} (I:Inv X pins σ H s) (hg:Gl X x) (hm:X.mg x=some u) (h:Q u s)
  (hd:(x == ("__debug__":Str))=false:=by decide):wpAny (model X.prog X.w) X.A (eval (.Name x pos) X.env) Q E s:=
 Calls.Name_function_global I.ok.kind hg (Calls.loadGlobal_global (by rw[I.ok.glob];exact I.mod.glob.keeps I.bk) hm h) hd
theorem dA' {E:Value->Shared->Prop} {pins:List (Addr×Obj)} {s:Shared} {σ:St} {H:Hp} {x:Str} {u:Value} {pos:Pos} {Q:Value->Shared->Prop} (I:Inv X pins σ H s) (hg:Gl X x) (hm:X.mg x=none) (hv:bootBuiltins x=some u) (h:Q u s)
  (hn:x≠"__name__":=by decide) (hd:(x == ("__debug__":Str))=false:=by decide):wpAny (model X.prog X.w) X.A (eval (.Name x pos) X.env) Q E s:=by
 obtain⟨mb,h1,h2⟩:=I.mod.blt
 exact Calls.Name_function_global I.ok.kind hg (Calls.loadGlobal_builtin (by rw[I.ok.glob];exact I.mod.glob.keeps I.bk) hm (by rw[I.ok.blt];exact h1.keeps I.bk) ((h2 x hn).trans hv) h) hd
theorem ph' {x:Str} {v:V} {u:Value} {pos:Pos} (hg:Gl X x) (hm:X.mg x=none) (hv:bootBuiltins x=some u) (r:ay' v u) (hn:x≠"__name__":=by decide) (hd:(x == ("__debug__":Str))=false:=by decide):PE X (.Name x pos) (tC v):=
 fun _ _ _ H _ I h=>dA' I hg hm hv ⟨v,H,I,r,h⟩ hn hd
variable {a b:Expr} {ta tb:TE} {pos:Pos}
def PC (X:Cx) (op:CmpOp) (a b:Expr) (t:TE):Prop:=
 ∀(pins:List (Addr×Obj)) (s:Shared) (σ:St) (H:Hp) (Q:VK),Inv X pins σ H s->t σ H Q->
  wpAny (model X.prog X.w) X.A (eval a X.env) (fun v s₁=>wpAny (model X.prog X.w) X.A (eval b X.env) (fun u s₂=>wpAny (model X.prog X.w) X.A (compareOp op v u) (EP X pins σ Q) X.xe s₂) X.xe s₁) X.xe s
def tB (t:TE):TT:=fun σ H Q=>t σ H fun x H1=>∃c,x=.bl c/\Q c H1
theorem od' {op:CmpOp} {t:TE} (h:PC X op a b t) (h1:behindInMarks op b=false:=by rfl):PE X (.Compare a [op] [b] pos) t:=fun pins s σ H Q I hw=>wpAny_Compare1 (h pins s σ H Q I hw) h1
theorem oe' {op:CmpOp} {t:TE} (h:PC X op a b t) (h1:behindInMarks op b=false:=by rfl):PT X (.Compare a [op] [b] pos) (tB t):=by
 intro pins s σ H Q I hw
 refine wpAny_isTrue_Compare1 (thn (h pins s σ H _ I hw) fun v s1 h1=>thn h1 fun u s2 h2=>thn h2 fun c s3 ⟨x,H1,I1,r1,q1⟩=>?_) h1
 obtain⟨d,rfl,q⟩:=q1
 cases r1
 exact bb ⟨H1,I1,q⟩
variable {tA tB':TT} {au':List Expr}
def r0' (t u:TT):TT:=fun σ H Q=>t σ H fun c H1=>if c=true then u σ H1 Q else Q false H1
def tOr (t u:TT):TT:=fun σ H Q=>t σ H fun c H1=>if c=true then Q true H1 else u σ H1 Q
def wD' (t:TT):TT:=fun σ H Q=>t σ H fun c H1=>Q (!c) H1
theorem pi' (ha:PT X a tA):PW X (.BoolOp .And [a] pos) tA:=by
 intro wh pins s σ H Q I h
 refine isTrue_and (thn (ha pins s σ H Q I h) fun c s1 e=>?_)
 cases c with
 |true=>exact isTrue_and_nil e
 |false=>exact e
theorem r1' (ha:PT X a tA):PW X (.BoolOp .Or [a] pos) tA:=by
 intro wh pins s σ H Q I h
 refine isTrue_or (thn (ha pins s σ H Q I h) fun c s1 e=>?_)
 cases c with
 |false=>exact isTrue_or_nil e
 |true=>exact e
theorem of' (ha:PT X a tA) (hb:PW X (.BoolOp .And (b :: au') pos) tB'):PW X (.BoolOp .And (a :: b :: au') pos) (r0' tA tB'):=by
 intro wh pins s σ H Q I h
 refine isTrue_and (thn (ha pins s σ H _ I h) fun c s1 ⟨H1,I1,q1⟩=>?_)
 cases c with
 |true=>exact hb wh pins s1 σ H1 Q I1 q1
 |false=>exact⟨H1,I1,q1⟩
theorem r2' (ha:PT X a tA) (hb:PW X (.BoolOp .Or (b :: au') pos) tB'):PW X (.BoolOp .Or (a :: b :: au') pos) (tOr tA tB'):=by
 intro wh pins s σ H Q I h
 refine isTrue_or (thn (ha pins s σ H _ I h) fun c s1 ⟨H1,I1,q1⟩=>?_)
 cases c with
 |true=>exact⟨H1,I1,q1⟩
 |false=>exact hb wh pins s1 σ H1 Q I1 q1
theorem r3' (ha:PT X a tA):PT X (.UnaryOp .Not a pos) (wD' tA):=by
 intro pins s σ H Q I h
 exact isTrue_not (ha pins s σ H (fun c H1=>Q (!c) H1) I h)
def l7' (ta tb:TE):TE:=fun σ H Q=>ta σ H fun x H1=>∃c,x=.bl c/\if c=true then tb σ H1 Q else Q (.bl false) H1
def wc' (ta tb:TE):TE:=fun σ H Q=>ta σ H fun x H1=>∃c,x=.bl c/\if c=true then Q (.bl true) H1 else tb σ H1 Q
def pj' (ta:TE):TE:=fun σ H Q=>ta σ H fun x H1=>∃c,x=.bl c/\Q (.bl (!c)) H1
theorem jn' {op} {t:TE} (h:PE X a t):PE X (.BoolOp op [a] pos) t:=fun pins s σ H Q I hw=>BoolOp_one (h pins s σ H Q I hw)
theorem og' (ha:PE X a ta) (hb:PE X (.BoolOp .And (b :: au') pos) tb):PE X (.BoolOp .And (a :: b :: au') pos) (l7' ta tb):=by
 intro pins s σ H Q I h
 refine BoolOp_and (thn (ha pins s σ H _ I h) fun v s1 ⟨x,H1,I1,r1,q1⟩=>?_)
 obtain⟨c,rfl,q1⟩:=q1
 cases r1
 refine bb ?_
 cases c with
 |true=>exact hb pins s1 σ H1 Q I1 q1
 |false=>exact⟨.bl false,H1,I1,rfl,q1⟩
theorem r4' (ha:PE X a ta) (hb:PE X (.BoolOp .Or (b :: au') pos) tb):PE X (.BoolOp .Or (a :: b :: au') pos) (wc' ta tb):=by
 intro pins s σ H Q I h
 refine BoolOp_or (thn (ha pins s σ H _ I h) fun v s1 ⟨x,H1,I1,r1,q1⟩=>?_)
 obtain⟨c,rfl,q1⟩:=q1
 cases r1
 refine bb ?_
 cases c with
 |false=>exact hb pins s1 σ H1 Q I1 q1
 |true=>exact⟨.bl true,H1,I1,rfl,q1⟩
theorem r5' (ha:PE X a ta):PE X (.UnaryOp .Not a pos) (pj' ta):=by
 intro pins s σ H Q I h
 refine UnaryOp_ (thn (ha pins s σ H _ I h) fun v s1 ⟨x,H1,I1,r1,q1⟩=>?_)
 obtain⟨c,rfl,q1⟩:=q1
 cases r1
 exact not_of (bb ⟨.bl (!c),H1,I1,rfl,q1⟩)
def tIf (t:TT) (ta tb:TE):TE:=fun σ H Q=>t σ H fun c H1=>if c=true then ta σ H1 Q else tb σ H1 Q
theorem l8' {c:Expr} (hc:PT X c tA) (ha:PE X a ta) (hb:PE X b tb):PE X (.IfExp c a b pos) (tIf tA ta tb):=by
 intro pins s σ H Q I h
 refine wpAny_IfExp (thn (hc pins s σ H _ I h) fun d s1 ⟨H1,I1,q1⟩=>?_)
 cases d with
 |true=>exact ha pins s1 σ H1 Q I1 q1
 |false=>exact hb pins s1 σ H1 Q I1 q1
end
def SqL (K:W.Frag) (H:Hp) (a:Addr) (xs:List V):Prop:=
 Rd H a (.lst xs)\/
  ∃(o:Obj) (its:Array Value) (n:Nat),K.lookup a=some o/\o.cls=.type "list"/\o.dict=none/\o.data=.seq its n/\its.size<=sizeLine/\aB' xs its.toList
def SqT (K:W.Frag) (H:Hp) (a:Addr) (xs:List V):Prop:=
 Rd H a (.tup xs)\/
  ∃(o:Obj) (its:Array Value) (n:Nat),K.lookup a=some o/\o.cls=.type "tuple"/\o.data=.seq its n/\its.size<=sizeLine/\aB' xs its.toList
def zC':Value->Option V
 | .none=>some .non
 | .bool b=>some (.bl b)
 | .int i _=>some (.int i)
 | .str x _=>some (.str x)
 | .bytes b _=>some (.byt b)
 | .float b _=>some (.flt b)
 | .ref a=>some (.ref a)
 | .type n=>some (.ty n)
 |_=>none
theorem ay'.abs {x:V} {u:Value} (r:ay' x u):zC' u=some x:=by
 cases x with
 |non=>cases r;rfl
 |bl _=>cases r;rfl
 |int _=>obtain⟨t,rfl⟩:=r;rfl
 |str _=>obtain⟨t,rfl⟩:=r;rfl
 |byt _=>obtain⟨t,rfl⟩:=r;rfl
 |flt _=>obtain⟨t,rfl⟩:=r;rfl
 |ref _=>cases r;rfl
 |ty _=>cases r;rfl
theorem ay'.inj {x y:V} {u:Value} (r:ay' x u) (q:ay' y u):x=y:=Option.some.inj (r.abs.symm.trans q.abs)
theorem aB'.inj:∀{xs ys:List V} {us:List Value},aB' xs us->aB' ys us->xs=ys
 |_,_,_,.nil,.nil=>rfl
 |_,_,_,.cons r t,.cons r' t'=>by rw[r.inj r',aB'.inj t t']
section
variable {X:Cx} {pins:List (Addr×Obj)} {σ:St} {H:Hp} {s:Shared} {a:Addr} {xs ys:List V}
theorem SqL.of {K:W.Frag} (h:H a=some (.lst xs)):SqL K H a xs:=.inl (.inl h)
theorem SqT.of {K:W.Frag} (h:H a=some (.tup xs)):SqT K H a xs:=.inl (.inl h)
theorem Inv.list (I:Inv X pins σ H s) (h:SqL X.K H a xs):∃its:List Value,aB' xs its/\PlainL s.heap a its.toArray/\xs.length<=sizeLine:=by
 rcases h with h|⟨o,its,n,hk,hc,hd,hs,hz,r⟩
 .obtain⟨z,its,n,r,e⟩:=h.ok I.hok
  exact⟨its,r,⟨_,n,e,rfl,rfl,rfl⟩,z⟩
 .refine⟨its.toList,r,⟨o,n,I.kIn a o hk,hc,hd,by simpa using hs⟩,?_⟩
  have e:=r.length
  simp only[aA]at e
  omega
theorem Inv.tuple (I:Inv X pins σ H s) (h:SqT X.K H a xs):∃its:List Value,aB' xs its/\IsTup s.heap a its.toArray/\xs.length<=sizeLine:=by
 rcases h with h|⟨o,its,n,hk,hc,hs,hz,r⟩
 .obtain⟨z,its,r,p⟩:=h.ok I.hok
  exact⟨its,r,p.tup,z⟩
 .refine⟨its.toList,r,⟨o,I.kIn a o hk,hc,n,by simpa using hs⟩,?_⟩
  have e:=r.length
  simp only[aA]at e
  omega
theorem Inv.list_inj (I:Inv X pins σ H s) (h:SqL X.K H a xs) (h':SqL X.K H a ys):xs=ys:=by
 obtain⟨its,r,⟨o,n,e,_,_,d⟩,_⟩:=I.list h
 obtain⟨its',r',⟨o',n',e',_,_,d'⟩,_⟩:=I.list h'
 rw[e]at e';cases e'
 rw[d]at d'
 injection d' with d1 _
 have:its=its':=by simpa using congrArg Array.toList d1
 subst this
 exact r.inj r'
theorem Inv.tuple_inj (I:Inv X pins σ H s) (h:SqT X.K H a xs) (h':SqT X.K H a ys):xs=ys:=by
 obtain⟨its,r,⟨o,e,_,n,d⟩,_⟩:=I.tuple h
 obtain⟨its',r',⟨o',e',_,n',d'⟩,_⟩:=I.tuple h'
 rw[e]at e';cases e'
 rw[d]at d'
 injection d' with d1 _
 have:its=its':=by simpa using congrArg Array.toList d1
 subst this
 exact r.inj r'
end
abbrev Cx.wish (X:Cx) (E:Value->Shared->Prop):Cx:={ X with xe:=E }
abbrev Cx.nox (X:Cx):Cx:=X.wish fun _ _=>False
theorem Cx.Ok.wish {X:Cx} (ok:X.Ok) (E:Value->Shared->Prop):(X.wish E).Ok:=
 ⟨ok.mod,ok.kind,ok.glob,ok.blt,ok.above,ok.inj,ok.has,ok.cab,ok.hd,ok.frames,ok.stk,ok.exf,ok.bs,ok.bsz,ok.noex,ok.exfs,ok.funs,ok.frf⟩
theorem Cx.Ok.unwish {X:Cx} {E:Value->Shared->Prop} (ok:(X.wish E).Ok):X.Ok:=
 ⟨ok.mod,ok.kind,ok.glob,ok.blt,ok.above,ok.inj,ok.has,ok.cab,ok.hd,ok.frames,ok.stk,ok.exf,ok.bs,ok.bsz,ok.noex,ok.exfs,ok.funs,ok.frf⟩
section
variable {X:Cx} {pins:List (Addr×Obj)} {σ:St} {H:Hp} {s:Shared} {E:Value->Shared->Prop}
theorem Inv.wish (I:Inv X pins σ H s) (E:Value->Shared->Prop):Inv (X.wish E) pins σ H s:=⟨I.ok.wish E,I.os,I.bare,I.base,I.loc,I.cell,I.free,I.freeC,I.pin,I.hok,I.len⟩
theorem Inv.unwish (I:Inv (X.wish E) pins σ H s):Inv X pins σ H s:=⟨I.ok.unwish,I.os,I.bare,I.base,I.loc,I.cell,I.free,I.freeC,I.pin,I.hok,I.len⟩
theorem SP.unwish {D:Ends} {f:Flow} {s':Shared} (h:SP (X.wish E) pins D f s'):SP X pins D f s':=by
 cases f with
 |next=>obtain⟨σ',H',I,q⟩:=h;exact⟨σ',H',I.unwish,q⟩
 |brk=>obtain⟨σ',H',I,q⟩:=h;exact⟨σ',H',I.unwish,q⟩
 |cont=>obtain⟨σ',H',I,q⟩:=h;exact⟨σ',H',I.unwish,q⟩
 |ret u=>obtain⟨v,σ',H',I,r,q⟩:=h;exact⟨v,σ',H',I.unwish,r,q⟩
theorem PSs.nox {st:List Stmt} {t:TS} (h:PSs X.nox st t):PSs X st t:=fun pins s σ H D I hw=>
 wpAny_mono (h pins s σ H D (I.wish _) hw) (fun _ _ q=>q.unwish) fun _ _ z=>False.elim z
end
section
variable {X:Cx} {st:Stmt} {au':List Stmt} {t u:TS} {e:Expr} {te:TE} {pos:Pos}
def pl':TS:=fun D σ H=>D.nx σ H
def wE' (t u:TS):TS:=fun D σ H=>t { D with nx:=u D } σ H
theorem pm':PSs X [] pl':=fun _ _ σ H _ I h=>wpAny_execs_nil ⟨σ,H,I,h⟩
theorem l9' (h1:PS X st t) (h2:PSs X au' u):PSs X (st :: au') (wE' t u):=by
 intro pins s σ H D I h
 refine wpAny_execs_cons (thn (h1 pins s σ H { D with nx:=u D } I h) fun f s1 q=>?_)
 cases f with
 |next=>
  obtain⟨σ',H',I',q⟩:=q
  exact h2 pins s1 σ' H' D I' q
 |ret v=>exact q
 |brk=>exact q
 |cont=>exact q
theorem Inv.quiet {pins:List (Addr×Obj)} {σ:St} {H:Hp} {s:Shared} (I:Inv X pins σ H s):interactive X.env=false:=by simp[interactive,I.ok.kind]
def pn' (te:TE):TS:=fun D σ H=>te σ H fun _ H1=>D.nx σ H1
theorem po' (he:PE X e te) (hs:swapsWith e none pos.line X.env=pure false:=by rfl):PS X (.Expr e pos) (pn' te):=by
 intro pins s σ H D I h
 exact wpAny_Expr_any (thn (he pins s σ H _ I h) fun v s1 ⟨x,H1,I1,r1,q1⟩=>⟨σ,H1,I1,q1⟩) I.quiet hs
def wF' (te:TE):TS:=fun D σ H=>te σ H D.rt
theorem r6' (he:PE X e te):PS X (.Return (some e) pos) (wF' te):=by
 intro pins s σ H D I h
 exact wpAny_Return_some (thn (he pins s σ H _ I h) fun v s1 ⟨x,H1,I1,r1,q1⟩=>⟨x,σ,H1,I1,r1,q1⟩)
def wG' (c:TT) (t u:TS):TS:=fun D σ H=>c σ H fun b H1=>if b=true then t D σ H1 else u D σ H1
theorem wH' {c:Expr} {a b:List Stmt} {tc:TT} (hc:PT X c tc) (ha:PSs X a t) (hb:PSs X b u):PS X (.If c a b pos) (wG' tc t u):=by
 intro pins s σ H D I h
 refine wpAny_If (thn (hc pins s σ H _ I h) fun d s1 ⟨H1,I1,q1⟩=>?_)
 cases d with
 |true=>exact ha pins s1 σ H1 D I1 q1
 |false=>exact hb pins s1 σ H1 D I1 q1
end
abbrev TG:=V->St->Hp->(St->Hp->Prop)->Prop
abbrev TGs:=List V->St->Hp->(St->Hp->Prop)->Prop
def PG (X:Cx) (target:Expr) (t:TG):Prop:=
 ∀(pins:List (Addr×Obj)) (s:Shared) (σ:St) (H:Hp) (v:V) (u:Value) (Q:St->Hp->Prop),Inv X pins σ H s->ay' v u->t v σ H Q->
  wpAny (model X.prog X.w) X.A (assign target X.env u) (fun _ s'=>∃σ' H',Inv X pins σ' H' s'/\Q σ' H') X.xe s
def PGs (X:Cx) (ts:List Expr) (t:TGs):Prop:=
 ∀(pins:List (Addr×Obj)) (s:Shared) (σ:St) (H:Hp) (vs:List V) (us:List Value) (Q:St->Hp->Prop),Inv X pins σ H s->aB' vs us->t vs σ H Q->
  wpAny (model X.prog X.w) X.A (assignInOrder ((assignEach ts X.env).map (·.2)) us) (fun _ s'=>∃σ' H',Inv X pins σ' H' s'/\Q σ' H') X.xe s
abbrev wI':=V->V->V->Hp->(Hp->Prop)->Prop
def yS' (X:Cx) (t:wI'):Prop:=
 ∀(pins:List (Addr×Obj)) (s:Shared) (σ:St) (H:Hp) (o i v:V) (ov iv u:Value) (Q:Hp->Prop),Inv X pins σ H s->ay' o ov->ay' i iv->ay' v u->t o i v H Q->
  wpAny (model X.prog X.w) X.A (setItem ov iv u) (fun _ s'=>∃H',Inv X pins σ H' s'/\Q H') X.xe s
abbrev TIp:=V->V->Hp->VK->Prop
def PIp (X:Cx) (op:Operator) (t:TIp):Prop:=
 ∀(pins:List (Addr×Obj)) (s:Shared) (σ:St) (H:Hp) (x y:V) (v u:Value) (Q:VK),Inv X pins σ H s->ay' x v->ay' y u->t x y H Q->
  wpAny (model X.prog X.w) X.A (inplaceOp op v u) (EP X pins σ Q) X.xe s
section
variable {X:Cx} {pos:Pos}
def cO' (i:Nat):TG:=fun v σ H Q=>Q (σ.set i (some v)) H
theorem pp' {i:Nat} {x:Str} (hN:X.N.Nodup) (hi:X.N[i]?=some x) (hx:Loc X.env.scope x) (hf:X.fn x=true\/X.env.scope.names.lookup x=some .local:=by first|exact .inl rfl|exact .inr rfl|assumption):PG X (.Name x pos) (cO' i):=by
 intro pins s σ H v u Q I r h
 exact wpAny_assign_Name (hF' I hN hi hx r (fun s' I'=>⟨_,H,I',h⟩) hf)
def wJ':TGs:=fun vs σ H Q=>vs=[]/\Q σ H
def pq' (t:TG) (u:TGs):TGs:=fun vs σ H Q=>∃v r,vs=v :: r/\t v σ H fun σ' H'=>u r σ' H' Q
theorem pr':PGs X [] wJ':=by
 intro pins s σ H vs us Q I r h
 obtain⟨e,h⟩:=h
 subst e
 cases r
 exact assignInOrder_nil ⟨σ,H,I,h⟩
theorem ma' {e:Expr} {es:List Expr} {t:TG} {u:TGs} (h1:PG X e t) (h2:PGs X es u)
  (hs:(assignEach (e :: es) X.env).map (·.2)=assign e X.env :: (assignEach es X.env).map (·.2):=by rfl):PGs X (e :: es) (pq' t u):=by
 intro pins s σ H vs us Q I r h
 obtain⟨v,vr,e1,h⟩:=h
 subst e1
 cases r with
 |cons r rr=>
  rw[hs]
  refine assignInOrder_cons (thn (h1 pins s σ H _ _ _ I r h) fun _ s1 ⟨σ1,H1,I1,q1⟩=>?_)
  exact h2 pins s1 σ1 H1 _ _ Q I1 rr q1
def zD' (K:W.Frag) (n:Nat) (t:TGs):TG:=fun v σ H Q=>∃a xs,v=.ref a/\SqT K H a xs/\xs.length=n/\t xs σ H Q
theorem r7' {es:List Expr} {k:Nat} {t:TGs} {n:Nat} (hc:X.calm=true) (h:PGs X es t)
  (hn:(assignEach es X.env).length=n:=by rfl) (hst:(assignEach es X.env).findIdx? (·.1)=none:=by rfl):PG X (.Tuple es k pos) (zD' X.K n t):=by
 intro pins s σ H v u Q I r hw
 obtain⟨a,xs,e1,hq,hl,hw⟩:=hw
 subst e1
 cases r
 obtain⟨its,rv,ht,hz⟩:=I.tuple hq
 refine assign_Tuple_tuple (I.ok.hd hc) ht (by simp[hn,<- hl,rv.length]) hst fun h' hx=>?_
 have I1:Inv X pins σ H { s with heap:=h' }:=I.kept (t':=s.toks) fun b o e=>hx b o (ax (al e)) e
 exact h pins _ σ H xs _ Q I1 (by simpa using rv) hw
def wK' (to ti:TE) (t:wI'):TG:=fun v σ H Q=>to σ H fun o H1=>ti σ H1 fun i H2=>t o i v H2 fun H3=>Q σ H3
theorem r8' {o i:Expr} {to ti:TE} {t:wI'} (ho:PE X o to) (hi:PE X i ti) (hs:yS' X t)
  (ha:∀v,assign (.Subscript o i pos) X.env v=(do
   let ov <- holding [v] (eval o X.env)
   let iv <- holding [v,ov] (eval i X.env)
   standAt pos
   holding [v,ov,iv] (setItem ov iv v)
   release [v,ov,iv] []):=by intro _;rfl):PG X (.Subscript o i pos) (wK' to ti t):=by
 intro pins s σ H v u Q I r h
 rw[ha]
 refine aa (aE (thn (ho pins s σ H _ I h) fun ov s1 ⟨x,H1,I1,r1,q1⟩=>?_))
 refine aa (aE (thn (hi pins s1 σ H1 _ I1 q1) fun iv s2 ⟨y,H2,I2,r2,q2⟩=>?_))
 refine aa (bT (aa (aE (thn (hs pins s2 σ H2 x y v ov iv u _ I2 r1 r2 r q2) fun _ s3 ⟨H3,I3,q3⟩=>?_))))
 exact wpAny_release ⟨σ,H3,I3,q3⟩
def jh' (te:TE) (g:TG):TS:=fun D σ H=>te σ H fun x H1=>g x σ H1 D.nx
theorem hG' {tg e:Expr} {te:TE} {g:TG} (he:PE X e te) (hg:PG X tg g) (hs:swapsWithSole [tg] e pos.line X.env=pure false:=by rfl) (hw:swappedStores [tg] e X.env=pure none:=by rfl)
  (h1:(assignEach [tg] X.env).map (·.2)=[assign tg X.env]:=by rfl):PS X (.Assign [tg] e pos) (jh' te g):=by
 intro pins s σ H D I h
 refine wpAny_Assign_stores (thn (he pins s σ H _ I h) fun v s1 ⟨x,H1,I1,r1,q1⟩=>?_) hs hw
 rw[h1]
 exact thn (hg pins s1 σ H1 x v _ I1 r1 q1) fun _ s2 q=>q
def wL' (i:Nat) (te:TE) (ti:TIp):TS:=fun D σ H=>∃x,σ[i]?=some (some x)/\te σ H fun y H1=>ti x y H1 fun z H2=>D.nx (σ.set i (some z)) H2
theorem oh' {i:Nat} {x:Str} {e:Expr} {te:TE} {op:Operator} {ti:TIp} {pos':Pos} (hN:X.N.Nodup) (hi:X.N[i]?=some x) (hx:Loc X.env.scope x) (he:PE X e te) (ho:PIp X op ti) (hf:X.fn x=true\/X.env.scope.names.lookup x=some .local:=by first|exact .inl rfl|exact .inr rfl|assumption):
  PS X (.AugAssign (.Name x pos') op e pos) (wL' i te ti):=by
 intro pins s σ H D I h
 obtain⟨v,e1,h⟩:=h
 obtain⟨m,hn,hl⟩:=I.loc
 have vis:Vis X.env.scope x:=by rcases hx with k|k;exact .inl k;exact .inr (.inl k)
 obtain⟨u,r,l⟩:=hl i x v hi e1 vis
 refine wpAny_AugAssign_Name ?_
 have go:wpAny (model X.prog X.w) X.A (eval e X.env) (fun w s₂=>wpAny (model X.prog X.w) X.A (inplaceOp op u w) (fun r s₃=>wpAny (model X.prog X.w) X.A (storeName X.env x r) (fun _=>SP X pins D .next) X.xe s₃) X.xe s₂) X.xe s:=by
  refine thn (he pins s σ H _ I h) fun w s1 ⟨y,H1,I1,r1,q1⟩=>?_
  refine thn (ho pins s1 σ H1 v y u w _ I1 r r1 q1) fun z s2 ⟨zv,H2,I2,r2,q2⟩=>?_
  exact hF' I2 hN hi hx r2 (fun s3 I3=>⟨_,H2,I3,q2⟩) hf
 rcases l with⟨hk,hm⟩|⟨hk,c,hc,hcell⟩
 .exact wpAny_loadName_local I.ok.kind hk hn hm go
 .rcases hk with hk|hk
  .exact wpAny_loadName_cell I.ok.kind hk hc hcell go
  .rcases hx with k|k
   .have:X.env.scope.names.lookup x=some .free:=hk
    rw[k]at this;cases this
   .have:X.env.scope.names.lookup x=some .free:=hk
    rw[k]at this;cases this
def ipI (f:Int->Int->Int):TIp:=fun x y H Q=>∃i j,x=.int i/\y=.int j/\Q (.int (f i j)) H
theorem r9':PIp X .Add (ipI fun i j=>i+j):=by
 intro pins s σ H x y v u Q I r1 r2 h
 obtain⟨i,j,e1,e2,q⟩:=h
 subst e1;subst e2
 obtain⟨t,rfl⟩:=r1
 obtain⟨t',rfl⟩:=r2
 exact iadd_int ⟨.int _,H,I.tok _,⟨_,rfl⟩,q⟩
theorem sa':PIp X .Sub (ipI fun i j=>i-j):=by
 intro pins s σ H x y v u Q I r1 r2 h
 obtain⟨i,j,e1,e2,q⟩:=h
 subst e1;subst e2
 obtain⟨t,rfl⟩:=r1
 obtain⟨t',rfl⟩:=r2
 exact isub_int ⟨.int _,H,I.tok _,⟨_,rfl⟩,q⟩
end
section
variable {X:Cx} {pos:Pos}
def jo' (c:TT) (tb:TS):TS:=fun D σ H=>∃W:Nat->St->Hp->Prop,(∃m,W m σ H)/\∀m σ H,W m σ H->
 c σ H fun b H1=>if b=true then ∃N:St->Hp->Prop,(∀σ' H',N σ' H'->∃m',m'<m/\W m' σ' H')/\tb { D with nx:=N,ct:=N,bk:=D.nx } σ H1 else D.nx σ H1
theorem mb' {c:Expr} {body:List Stmt} {tc:TT} {tb:TS} (hp:PassesOwn (model X.prog X.w) X.A X.env X.xe) (hc:PT X c tc) (hb:PSs X body tb):PS X (.While c body [] pos) (jo' tc tb):=by
 intro pins s σ H D I h
 obtain⟨W,⟨m0,w0⟩,turn⟩:=h
 refine wpAny_While (codeAny_whileLoop (fun n s'=>∃σ' H',Inv X pins σ' H' s'/\W n σ' H') ?_ m0 ⟨σ,H,I,w0⟩)
 rintro n s1 ⟨σ1,H1,I1,w1⟩
 refine ci hp (thn (hc pins s1 σ1 H1 _ I1 (turn n σ1 H1 w1)) fun b s2 ⟨H2,I2,q2⟩=>?_)
 cases b with
 |true=>
  obtain⟨N,hN,q2⟩:=q2
  rw[if_pos rfl]
  refine ci hp (thn (hb pins s2 σ1 H2 _ I2 q2) fun f s3 q3=>?_)
  cases f with
  |next=>
   obtain⟨σ3,H3,I3,n3⟩:=q3
   obtain⟨m',hm,w3⟩:=hN σ3 H3 n3
   exact⟨m',hm,σ3,H3,I3,w3⟩
  |cont=>
   obtain⟨σ3,H3,I3,n3⟩:=q3
   obtain⟨m',hm,w3⟩:=hN σ3 H3 n3
   exact⟨m',hm,σ3,H3,I3,w3⟩
  |brk=>exact q3
  |ret v=>exact q3
 |false=>
  rw[if_neg ap]
  exact wpAny_execs_nil ⟨σ1,H2,I2,q2⟩
end
structure It where
 go:Nat->Hp->Prop
 yld:Nat->Hp->V->Hp->Prop
 stop:Nat->Hp->Prop
def cM' (X:Cx) (pins:List (Addr×Obj)) (H:Hp) (b:Addr):Prop:=
 H b=none/\b≠X.env.locals/\b∉X.fs/\(b∈X.ex\/X.s₀.heap.objs.size<=b)/\(∀x c,X.env.cells.lookup x=some c->c≠b)/\∀p∈X.pn++pins,p.1≠b
theorem Inv.fpOk {X:Cx} {pins:List (Addr×Obj)} {σ:St} {H H':Hp} {s:Shared} {b:Addr} (I:Inv X pins σ H s) (hb:s.heap.objs.size<=b) (hn:H' b=none):cM' X pins H' b:=by
 refine⟨hn,bn (ai I.lt hb),I.nofs hb,.inr (aM I.sz hb),fun x c e z=>?_,fun p hp z=>?_⟩
 .obtain⟨v,q⟩:=I.cell x c e
  exact absurd (ai q.lt (by rw[z];exact hb)) (aZ _)
 .exact absurd (ai (al (I.pin p hp).1) (by rw[z];exact hb)) (aZ _)
structure Turn (P:Program) (w:World) (K:W.Frag) (tg:Expr) (J:It) (fp:List Addr) (it:Addr) (tn:Nat->Heap->Prop):Prop where
 mem:it∈fp
 obj:∀i h,tn i h->∀b∈fp,∃o,h.get? b=some o/\∀v,o.data≠.cell v
 keep:∀i h h',tn i h->(∀b∈fp,∀o,h.get? b=some o->h'.get? b=some o)->tn i h'
 item:∀(X:Cx),X.prog=P->X.w=w->X.K=K->X.calm=true->∀(i:Nat) (pins:List (Addr×Obj)) (s:Shared) (σ:St) (H:Hp) (E:Value->Shared->Prop),Inv X pins σ H s->(∀b∈fp,cM' X pins H b)->tn i s.heap->J.go i H->
  wpAny (model P w) X.A (pyNext (.ref it)) (fun r s1=>∃u,r=some u/\
   wpAny (model P w) X.A (letOwnedTupleGo tg (.ref it) u) (fun _ s2=>∃x H',Inv X pins σ H' s2/\ay' x u/\J.yld i H x H'/\tn (i+1) s2.heap/\∀b∈fp,H' b=none) E s1) E s
 done:∀(X:Cx),X.prog=P->X.w=w->X.K=K->X.calm=true->∀(i:Nat) (pins:List (Addr×Obj)) (s:Shared) (σ:St) (H:Hp) (E:Value->Shared->Prop),Inv X pins σ H s->(∀b∈fp,cM' X pins H b)->tn i s.heap->J.stop i H->
  wpAny (model P w) X.A (pyNext (.ref it)) (fun r s1=>r=none/\Inv X pins σ H s1) E s
 self:∀(A:Around) (i:Nat) (s:Shared) (Q:Value->Shared->Prop) (E:Value->Shared->Prop),tn i s.heap->Q (.ref it) s->wpAny (model P w) A (pyIter (.ref it)) Q E s
abbrev TI:=St->Hp->(It->Hp->Prop)->Prop
def PIE (X:Cx) (pins:List (Addr×Obj)) (σ:St) (tg:Expr) (R:It->Hp->Prop) (itv:Value) (s2:Shared):Prop:=
 ∃(it:Addr) (fp:List Addr) (tn:Nat->Heap->Prop) (J:It) (H':Hp),itv=.ref it/\Inv X pins σ H' s2/\Turn X.prog X.w X.K tg J fp it tn/\tn 0 s2.heap/\(∀b∈fp,cM' X pins H' b)/\R J H'
def PI (X:Cx) (tg iter:Expr) (wi:TI):Prop:=
 ∀(pins:List (Addr×Obj)) (s:Shared) (σ:St) (H:Hp) (R:It->Hp->Prop),Inv X pins σ H s->wi σ H R->
  wpAny (model X.prog X.w) X.A (eval iter X.env) (fun v s1=>wpAny (model X.prog X.w) X.A (pyIter v) (PIE X pins σ tg R) X.xe s1) X.xe s
theorem jp' {M:Model} {A:Around} {E:Value->Shared->Prop} {s:Shared} {tg:Expr} {it:Addr} {u:Value} {o:Obj} {n:String} {vs:Array Value} {Q:Unit->Shared->Prop} (ho:s.heap.get? it=some o) (hc:o.cls=.type n) (hd:o.data=.fields vs)
  (hn:["enumerate","zip","dict_itemiterator","dict_reverseitemiterator","odict_iterator","itertools.zip_longest","itertools.pairwise"].contains n=false) (hQ:Q () s):wpAny M A (letOwnedTupleGo tg (.ref it) u) Q E s:=by
 unfold letOwnedTupleGo
 cases tg<;>first
  |exact ae hQ
  |(cases u<;>first
    |exact ae hQ
    |(refine aa (wpAny_load ho ?_)
      rw[hc,hd]
      show wpAny M A (if(["enumerate","zip","dict_itemiterator","dict_reverseitemiterator","odict_iterator","itertools.zip_longest","itertools.pairwise"].contains n&&vs[0]? == some (rawInt _))=true then _ else _) Q E s
      rw[if_neg (by intro h;rw[hn,Bool.false_and]at h;cases h)]
      exact ae hQ))
def Itl (K:W.Frag) (a:Addr):It:=
 ⟨fun i H=>∃xs x,SqL K H a xs/\xs[i]?=some x,fun i H x H'=>H'=H/\∀xs,SqL K H a xs->xs[i]?=some x,fun i H=>∃xs,SqL K H a xs/\xs.length<=i⟩
def Itt (K:W.Frag) (a:Addr):It:=
 ⟨fun i H=>∃xs x,SqT K H a xs/\xs[i]?=some x,fun i H x H'=>H'=H/\∀xs,SqT K H a xs->xs[i]?=some x,fun i H=>∃xs,SqT K H a xs/\xs.length<=i⟩
def Itr (lo:Int) (n:Nat):It:=⟨fun i _=>i<n,fun i H x H'=>H'=H/\x=.int (lo+i),fun i _=>n<=i⟩
theorem jq' {P:Program} {w:World} {K:W.Frag} {tg:Expr} (a it:Addr):Turn P w K tg (Itl K a) [it] it (fun i h=>h.IsListIter it a i) where
 mem:=by simp
 obj:=fun i h st b hb=>by
  have e:b=it:=by simpa using hb
  subst e
  obtain⟨o,e,c,d⟩:=st
  exact⟨o,e,fun v z=>by rw[d]at z;cases z⟩
 keep:=fun i h h' st k=>st.at fun o e=>k it (by simp) o e
 item:=by
  intro X hP hw hK hc i pins s σ H E I hf st hg
  subst hP hw hK
  obtain⟨xs,x,hq,hx⟩:=hg
  obtain⟨its,rv,p,hz⟩:=I.list hq
  obtain⟨u,hu,ru⟩:=rv.get hx
  obtain⟨f0,f1,f2,f3,f4,f5⟩:=hf it (by simp)
  refine wpAny_pyNext_list_item st p.isList (x:=u) (by simpa using hu) fun h' st' sb=>?_
  have I1:Inv X pins σ H { s with heap:=h' }:=I.turned (t':=s.toks) (fun b o hb e=>(sb.2 b hb).trans e) f0 f1 f3 f4 f5
  obtain⟨o,e,c,d⟩:=id st'
  exact⟨u,rfl,jp' (s:={ s with heap:=h' }) e c d (by decide) ⟨x,H,I1,ru,⟨rfl,fun ys hy=>by rw[I.list_inj hy hq];exact hx⟩,st',fun b hb=>(hf b hb).1⟩⟩
 done:=by
  intro X hP hw hK hc i pins s σ H E I hf st hg
  subst hP hw hK
  obtain⟨xs,hq,hx⟩:=hg
  obtain⟨its,rv,p,hz⟩:=I.list hq
  obtain⟨f0,f1,f2,f3,f4,f5⟩:=hf it (by simp)
  have hl:=rv.length
  exact wpAny_pyNext_list_end (I.ok.hd hc) st p.isList (by simp;omega) fun h' eb=>⟨rfl,I.turned (t':=s.toks) (fun b o hb e=>eb b o hb e) f0 f1 f3 f4 f5⟩
 self:=fun _ _ _ _ _ st h=>wpAny_pyIter_listiter st h
theorem iw' {P:Program} {w:World} {K:W.Frag} {tg:Expr} (a it:Addr):Turn P w K tg (Itt K a) [it] it (fun i h=>h.IsTupleIter it a i) where
 mem:=by simp
 obj:=fun i h st b hb=>by
  have e:b=it:=by simpa using hb
  subst e
  obtain⟨o,e,c,d⟩:=st
  exact⟨o,e,fun v z=>by rw[d]at z;cases z⟩
 keep:=fun i h h' st k=>st.at fun o e=>k it (by simp) o e
 item:=by
  intro X hP hw hK hc i pins s σ H E I hf st hg
  subst hP hw hK
  obtain⟨xs,x,hq,hx⟩:=hg
  obtain⟨its,rv,p,hz⟩:=I.tuple hq
  obtain⟨u,hu,ru⟩:=rv.get hx
  obtain⟨f0,f1,f2,f3,f4,f5⟩:=hf it (by simp)
  refine wpAny_pyNext_tuple_item st (show s.heap.IsTuple a its.toArray from p) (x:=u) (by simpa using hu) fun h' st' sb=>?_
  have I1:Inv X pins σ H { s with heap:=h' }:=I.turned (t':=s.toks) (fun b o hb e=>(sb.2 b hb).trans e) f0 f1 f3 f4 f5
  obtain⟨o,e,c,d⟩:=id st'
  exact⟨u,rfl,jp' (s:={ s with heap:=h' }) e c d (by decide) ⟨x,H,I1,ru,⟨rfl,fun ys hy=>by rw[I.tuple_inj hy hq];exact hx⟩,st',fun b hb=>(hf b hb).1⟩⟩
 done:=by
  intro X hP hw hK hc i pins s σ H E I hf st hg
  subst hP hw hK
  obtain⟨xs,hq,hx⟩:=hg
  obtain⟨its,rv,p,hz⟩:=I.tuple hq
  obtain⟨f0,f1,f2,f3,f4,f5⟩:=hf it (by simp)
  have hl:=rv.length
  exact wpAny_pyNext_tuple_end (I.ok.hd hc) st (show s.heap.IsTuple a its.toArray from p) (by simp;omega) fun h' eb=>⟨rfl,I.turned (t':=s.toks) (fun b o hb e=>eb b o hb e) f0 f1 f3 f4 f5⟩
 self:=fun _ _ _ _ _ st h=>wpAny_pyIter_tupleiter st h
theorem ix' {P:Program} {w:World} {K:W.Frag} {tg:Expr} (it:Addr) (lo:Int) (n:Nat):Turn P w K tg (Itr lo n) [it] it (fun i h=>IsRangeIter h it (lo+(i:Nat)*1) ((n:Int)-(i:Nat)) 1) where
 mem:=by simp
 obj:=fun i h st b hb=>by
  have e:b=it:=by simpa using hb
  subst e
  exact⟨_,st,fun v z=>by
   have z':Data.fields _=Data.cell v:=z
   cases z'⟩
 keep:=fun i h h' st k=>k it (by simp) _ st
 item:=by
  intro X hP hw hK hc i pins s σ H E I hf st hg
  subst hP hw hK
  obtain⟨f0,f1,f2,f3,f4,f5⟩:=hf it (by simp)
  have W:=Walks.range (prog:=X.prog) (w:=X.w) (I.ok.hd hc) it lo 1 n
  refine W.item i s _ _ hg st fun v h' tk hv st' kk=>?_
  obtain⟨t,rfl⟩:=hv
  have I1:Inv X pins σ H { s with heap:=h',toks:=tk }:=I.turned (fun b o hb e=>kk b o (by simpa using hb) e) f0 f1 f3 f4 f5
  refine⟨_,rfl,jp' (s:={ s with heap:=h',toks:=tk }) (n:="range_iterator") st' rfl rfl (by decide) ⟨.int (lo+i),H,I1,⟨t,?_⟩,⟨rfl,rfl⟩,st',fun b hb=>(hf b hb).1⟩⟩
  rw[Int.mul_one]
 done:=by
  intro X hP hw hK hc i pins s σ H E I hf st hg
  subst hP hw hK
  obtain⟨f0,f1,f2,f3,f4,f5⟩:=hf it (by simp)
  exact wpAny_pyNext_range_end (I.ok.hd hc) st (by have:n<=i:=hg;omega) fun h' eb=>⟨rfl,I.turned (t':=s.toks) (fun b o hb e=>eb b o hb e) f0 f1 f3 f4 f5⟩
 self:=fun _ _ _ _ _ st h=>wpAny_pyIter_rangeiter st h
section
variable {X:Cx} {tg:Expr}
theorem hH' {pins:List (Addr×Obj)} {σ:St} {H:Hp} {s:Shared} {R:It->Hp->Prop} {E:Value->Shared->Prop} {lo hi:Int} {t u v:Tok} {tk:Nat} (I:Inv X pins σ H s) (h1:-(2 ^ 62)<=lo) (h2:lo<2 ^ 62) (h3:-(2 ^ 62)<=hi) (h4:hi<2 ^ 62)
  (q:R (Itr lo (hi-lo).toNat) H):wpAny (model X.prog X.w) X.A (pyIter (.ref s.heap.objs.size)) (PIE X pins σ tg R) E { s with heap:=s.heap.push { cls:=.type "range",data:=.fields #[.int lo t,.int hi u,.int 1 v] },toks:=tk }:=by
 refine wpAny_pyIter_range (IsRange.new ..) (small_one h1 h2 h3 h4) ?_
 have I1:Inv X pins σ H { s with heap:=s.heap.push { cls:=.type "range",data:=.fields #[.int lo t,.int hi u,.int 1 v] },toks:=tk }:=I.kept fun b o e=>ab _ e
 refine⟨(s.heap.push { cls:=.type "range",data:=.fields #[.int lo t,.int hi u,.int 1 v] }).objs.size,[(s.heap.push { cls:=.type "range",data:=.fields #[.int lo t,.int hi u,.int 1 v] }).objs.size],_,_,H,rfl,
  I1.kept (t':=tk) fun b o e=>ab _ e,ix' _ lo (hi-lo).toNat,?_,fun b hb=>?_,q⟩
 .have e1:lo+((0:Nat):Int)*1=lo:=by simp
  have e2:(((hi-lo).toNat:Nat):Int)-((0:Nat):Int)=Builtin.Range.rangeSize lo hi 1:=by rw[rangeSize_one];split<;>omega
  show IsRangeIter _ _ (lo+((0:Nat):Int)*1) ((((hi-lo).toNat:Nat):Int)-((0:Nat):Int)) 1
  rw[e1,e2]
  exact am _ rfl
 .have e:b=(s.heap.push { cls:=.type "range",data:=.fields #[.int lo t,.int hi u,.int 1 v] }).objs.size:=by simpa using hb
  subst e
  exact I1.fpOk (ah _) (I1.hok.fresh (ah _))
def pt' (ta:TA):TI:=fun σ H R=>ta σ H fun vs H1=>∃j:Int,vs=[.int j]/\-(2 ^ 62)<=j/\j<2 ^ 62/\R (Itr 0 j.toNat) H1
def pu' (ta:TA):TI:=fun σ H R=>ta σ H fun vs H1=>∃i j:Int,vs=[.int i,.int j]/\(-(2 ^ 62)<=i/\i<2 ^ 62/\-(2 ^ 62)<=j/\j<2 ^ 62)/\R (Itr i (j-i).toNat) H1
theorem jr' {a:Expr} {ta:TA} {p pos:Pos} (hg:Gl X "range") (hm:X.mg "range"=none) (ha:PA X [a] ta) (hs:starEach [a] X.env=[(false,eval a X.env)]:=by rfl):PI X tg (.Call (.Name "range" p) [a] [] pos) (pt' ta):=by
 intro pins s σ H R I h
 refine Call_ (dA' I hg hm boot_range (PyProof.Rows.callWith_type1 (thn (ha pos pins s σ H _ I h) fun us s1 ⟨vs,H1,I1,r1,q1⟩=>?_) hs rfl))
 obtain⟨j,e,q1,q2,q⟩:=q1
 subst e
 cases r1 with
 |cons r rr=>
  cases rr
  obtain⟨t,rfl⟩:=r
  exact call_range_1 (hH' I1 (by omega) (by omega) q1 q2 (by simpa using q))
theorem js' {a b:Expr} {ta:TA} {p pos:Pos} (hg:Gl X "range") (hm:X.mg "range"=none) (ha:PA X [a,b] ta) (hs:starEach [a,b] X.env=[(false,eval a X.env),(false,eval b X.env)]:=by rfl) (hs2:starEach [b] X.env=[(false,eval b X.env)]:=by rfl):
  PI X tg (.Call (.Name "range" p) [a,b] [] pos) (pu' ta):=by
 intro pins s σ H R I h
 refine Call_ (dA' I hg hm boot_range (PyProof.Rows.callWith_type1 (thn (ha pos pins s σ H _ I h) fun us s1 ⟨vs,H1,I1,r1,q1⟩=>?_) (by rw[hs,hs2]) (by rw[hs2];rfl)))
 obtain⟨i,j,e,⟨q1,q2,q3,q4⟩,q⟩:=q1
 subst e
 cases r1 with
 |cons r rr=>
  cases rr with
  |cons r' rr=>
   cases rr
   obtain⟨t,rfl⟩:=r
   obtain⟨t',rfl⟩:=r'
   exact call_range_2 (hH' I1 q1 q2 q3 q4 q)
def wM' (wi:TI) (g:TG) (tb:TS):TS:=fun D σ H=>wi σ H fun J H1=>∃W:Nat->Nat->St->Hp->Prop,(∃m,W 0 m σ H1)/\∀i m σ H,W i m σ H->
 (J.stop i H/\D.nx σ H)\/(J.go i H/\∃N:St->Hp->Prop,(∀σ' H',N σ' H'->∃m',m'<m/\W (i+1) m' σ' H')/\∀x H',J.yld i H x H'->g x σ H' fun σ2 H2=>tb { D with nx:=N,ct:=N,bk:=D.nx } σ2 H2)
def bx' (fp:List Addr) (h:Heap):List (Addr×Obj):=fp.filterMap fun b=>(h.get? b).map fun o=>(b,o)
theorem aE' {fp:List Addr} {h:Heap} {b:Addr} {o:Obj} (hb:b∈fp) (e:h.get? b=some o):(b,o)∈bx' fp h:=List.mem_filterMap.mpr ⟨b,hb,by rw[e];rfl⟩
theorem dB' {fp:List Addr} {h:Heap} {p:Addr×Obj} (hp:p∈bx' fp h):p.1∈fp/\h.get? p.1=some p.2:=by
 obtain⟨b,hb,e⟩:=List.mem_filterMap.mp hp
 cases q:h.get? b with
 |none=>rw[q]at e;cases e
 |some o=>
  rw[q]at e
  have e':(b,o)=p:=Option.some.inj e
  subst e'
  exact⟨hb,q⟩
theorem Inv.pinned {pins:List (Addr×Obj)} {σ:St} {H:Hp} {s:Shared} {fp:List Addr} (I:Inv X pins σ H s) (hf:∀b∈fp,cM' X pins H b) (ho:∀b∈fp,∃o,s.heap.get? b=some o/\∀v,o.data≠.cell v):Inv X (pins++bx' fp s.heap) σ H s:=
 I.pins_of fun p hp=>(aH.mp hp).elim (fun z=>I.pin p (aj _ z)) fun z=>by
  obtain⟨hb,e⟩:=dB' z
  obtain⟨f0,f1,f2,_⟩:=hf p.1 hb
  obtain⟨o,e',d⟩:=ho p.1 hb
  rw[e]at e';cases e'
  exact⟨e,f0,f1,f2,d⟩
theorem Inv.unpinned {pins pl:List (Addr×Obj)} {σ:St} {H:Hp} {s:Shared} (I:Inv X (pins++pl) σ H s):Inv X pins σ H s:=I.pins_of fun p hp=>I.pin p (aj _ (ba _ hp))
theorem sb' {iter:Expr} {body:List Stmt} {wi:TI} {g:TG} {tb:TS} {pos:Pos} (hp:PassesOwn (model X.prog X.w) X.A X.env X.xe) (hc:X.calm=true) (hi:PI X tg iter wi) (hg:PG X tg g) (hb:PSs X body tb)
  (hs:∀x,foldedSetIterable iter X.env x=pure x:=by intro _;rfl):PS X (.For tg iter body [] pos) (wM' wi g tb):=by
 intro pins s σ H D I h
 refine wpAny_For (thn (hi pins s σ H _ I h) fun v s1 h1=>thn h1 fun itv s2 h2=>?_) hs
 obtain⟨it,fp,tn,J,H2,e,I2,T,st2,f2,W,⟨m0,w0⟩,turn⟩:=h2
 subst e
 have stat:∀{H':Hp},(∀b∈fp,H' b=none)->∀b∈fp,cM' X pins H' b:=fun hn b hb=>⟨hn b hb,(f2 b hb).2⟩
 refine codeAny_forLoop_any (fun n s'=>∃i σ' H',Inv X pins σ' H' s'/\tn i s'.heap/\(∀b∈fp,H' b=none)/\W i n σ' H') ?_ m0 ⟨0,σ,H2,I2,st2,fun b hb=>(f2 b hb).1,w0⟩
 rintro n s3 ⟨i,σ3,H3,I3,st3,fr3,w3⟩
 rcases turn i n σ3 H3 w3 with⟨stop,qn⟩|⟨go,N,hN,step⟩
 .refine ci hp (thn (T.done X rfl rfl rfl hc i pins s3 σ3 H3 X.xe I3 (stat fr3) st3 stop) fun r s4 ⟨hr,I4⟩=>?_)
  subst hr
  exact wpAny_execs_nil ⟨σ3,H3,I4,qn⟩
 .refine ci hp (thn (T.item X rfl rfl rfl hc i pins s3 σ3 H3 X.xe I3 (stat fr3) st3 go) fun r s4 ⟨u,hr,h4⟩=>?_)
  subst hr
  refine ci hp (thn h4 fun _ s5 ⟨x,H5,I5,r5,y5,st5,fr5⟩=>?_)
  have I5':=I5.pinned (stat fr5) (T.obj _ _ st5)
  refine ci hp (thn (hg _ s5 σ3 H5 x u _ I5' r5 (step x H5 y5)) fun _ s6 ⟨σ6,H6,I6,q6⟩=>?_)
  refine ci hp (thn (hb _ s6 σ6 H6 _ I6 q6) fun f s7 q7=>?_)
  have again:∀{σ7:St} {H7:Hp},Inv X (pins++bx' fp s5.heap) σ7 H7 s7->N σ7 H7->∃m,m<n/\∃i σ' H',Inv X pins σ' H' s7/\tn i s7.heap/\(∀b∈fp,H' b=none)/\W i m σ' H':=fun {σ7 H7} I7 n7=>by
   obtain⟨m',hm,w7⟩:=hN σ7 H7 n7
   refine⟨m',hm,i+1,σ7,H7,I7.unpinned,T.keep _ _ _ st5 fun b hb o e=>(I7.pin (b,o) (aj _ (aj _ (aE' hb e)))).1,fun b hb=>?_,w7⟩
   obtain⟨o,e,d⟩:=T.obj _ _ st5 b hb
   exact(I7.pin (b,o) (aj _ (aj _ (aE' hb e)))).2.1
  cases f with
  |next=>obtain⟨σ7,H7,I7,n7⟩:=q7;exact again I7 n7
  |cont=>obtain⟨σ7,H7,I7,n7⟩:=q7;exact again I7 n7
  |brk=>obtain⟨σ7,H7,I7,q7⟩:=q7;exact⟨σ7,H7,I7.unpinned,q7⟩
  |ret v=>obtain⟨x7,σ7,H7,I7,r7,q7⟩:=q7;exact⟨x7,σ7,H7,I7.unpinned,r7,q7⟩
end
theorem mc' {K:W.Frag} {a:Addr} {xs:List V} {g:TG} {tb:TS} {D:Ends} {σ:St} {H:Hp} (Pv:Nat->St->Hp->Prop) (h0:Pv 0 σ H) (hl:∀i σ H,i<=xs.length->Pv i σ H->SqL K H a xs)
  (hs:∀i x σ H,xs[i]?=some x->Pv i σ H->g x σ H fun σ2 H2=>tb { D with nx:=Pv (i+1),ct:=Pv (i+1),bk:=D.nx } σ2 H2) (hd:∀σ H,Pv xs.length σ H->D.nx σ H):
  ∃W:Nat->Nat->St->Hp->Prop,(∃m,W 0 m σ H)/\∀i m σ H,W i m σ H->
   ((Itl K a).stop i H/\D.nx σ H)\/((Itl K a).go i H/\∃N:St->Hp->Prop,(∀σ' H',N σ' H'->∃m',m'<m/\W (i+1) m' σ' H')/\∀x H',(Itl K a).yld i H x H'->g x σ H' fun σ2 H2=>tb { D with nx:=N,ct:=N,bk:=D.nx } σ2 H2):=by
 refine⟨fun i m σ H=>m=xs.length-i/\i<=xs.length/\Pv i σ H,⟨xs.length,by simp,aO _,h0⟩,?_⟩
 rintro i m σ H ⟨rfl,hi,p⟩
 have q:=hl i σ H hi p
 by_cases hlt:i<xs.length
 .refine .inr ⟨⟨xs,xs[i],q,by simp[hlt]⟩,Pv (i+1),fun σ' H' p'=>⟨xs.length-(i+1),by omega,rfl,hlt,p'⟩,fun x H' y=>?_⟩
  obtain⟨e,y⟩:=y
  subst e
  exact hs i x σ _ (y xs q) p
 .have e:i=xs.length:=by omega
  subst e
  exact .inl ⟨⟨xs,q,ah _⟩,hd σ H p⟩
theorem pv' {K:W.Frag} {a:Addr} {xs:List V} {g:TG} {tb:TS} {D:Ends} {σ:St} {H:Hp} (Pv:Nat->St->Hp->Prop) (h0:Pv 0 σ H) (hl:∀i σ H,i<=xs.length->Pv i σ H->SqT K H a xs)
  (hs:∀i x σ H,xs[i]?=some x->Pv i σ H->g x σ H fun σ2 H2=>tb { D with nx:=Pv (i+1),ct:=Pv (i+1),bk:=D.nx } σ2 H2) (hd:∀σ H,Pv xs.length σ H->D.nx σ H):
  ∃W:Nat->Nat->St->Hp->Prop,(∃m,W 0 m σ H)/\∀i m σ H,W i m σ H->
   ((Itt K a).stop i H/\D.nx σ H)\/((Itt K a).go i H/\∃N:St->Hp->Prop,(∀σ' H',N σ' H'->∃m',m'<m/\W (i+1) m' σ' H')/\∀x H',(Itt K a).yld i H x H'->g x σ H' fun σ2 H2=>tb { D with nx:=N,ct:=N,bk:=D.nx } σ2 H2):=by
 refine⟨fun i m σ H=>m=xs.length-i/\i<=xs.length/\Pv i σ H,⟨xs.length,by simp,aO _,h0⟩,?_⟩
 rintro i m σ H ⟨rfl,hi,p⟩
 have q:=hl i σ H hi p
 by_cases hlt:i<xs.length
 .refine .inr ⟨⟨xs,xs[i],q,by simp[hlt]⟩,Pv (i+1),fun σ' H' p'=>⟨xs.length-(i+1),by omega,rfl,hlt,p'⟩,fun x H' y=>?_⟩
  obtain⟨e,y⟩:=y
  subst e
  exact hs i x σ _ (y xs q) p
 .have e:i=xs.length:=by omega
  subst e
  exact .inl ⟨⟨xs,q,ah _⟩,hd σ H p⟩
theorem jt' {lo:Int} {n:Nat} {g:TG} {tb:TS} {D:Ends} {σ:St} {H:Hp} (Pv:Nat->St->Hp->Prop) (h0:Pv 0 σ H)
  (hs:∀i σ H,i<n->Pv i σ H->g (.int (lo+i)) σ H fun σ2 H2=>tb { D with nx:=Pv (i+1),ct:=Pv (i+1),bk:=D.nx } σ2 H2) (hd:∀σ H,Pv n σ H->D.nx σ H):
  ∃W:Nat->Nat->St->Hp->Prop,(∃m,W 0 m σ H)/\∀i m σ H,W i m σ H->
   ((Itr lo n).stop i H/\D.nx σ H)\/((Itr lo n).go i H/\∃N:St->Hp->Prop,(∀σ' H',N σ' H'->∃m',m'<m/\W (i+1) m' σ' H')/\∀x H',(Itr lo n).yld i H x H'->g x σ H' fun σ2 H2=>tb { D with nx:=N,ct:=N,bk:=D.nx } σ2 H2):=by
 refine⟨fun i m σ H=>m=n-i/\i<=n/\Pv i σ H,⟨n,by simp,aO _,h0⟩,?_⟩
 rintro i m σ H ⟨rfl,hi,p⟩
 by_cases hlt:i<n
 .refine .inr ⟨hlt,Pv (i+1),fun σ' H' p'=>⟨n-(i+1),by omega,rfl,hlt,p'⟩,fun x H' y=>?_⟩
  obtain⟨e,y⟩:=y
  subst e y
  exact hs i σ _ hlt p
 .have e:i=n:=by omega
  subst e
  exact .inl ⟨ah _,hd σ H p⟩
abbrev R2:=V->V->Hp->VK->Prop
def OpR (X:Cx) (f:Value->Value->Sem Value) (r:R2):Prop:=
 ∀(pins:List (Addr×Obj)) (s:Shared) (σ:St) (H:Hp) (x y:V) (v u:Value) (Q:VK),Inv X pins σ H s->ay' x v->ay' y u->r x y H Q->
  wpAny (model X.prog X.w) X.A (f v u) (EP X pins σ Q) X.xe s
def UnR (X:Cx) (f:Value->Sem Value) (r:V->Hp->VK->Prop):Prop:=
 ∀(pins:List (Addr×Obj)) (s:Shared) (σ:St) (H:Hp) (x:V) (v:Value) (Q:VK),Inv X pins σ H s->ay' x v->r x H Q->
  wpAny (model X.prog X.w) X.A (f v) (EP X pins σ Q) X.xe s
def aP' (X:Cx) (f:Value) (r:List V->Hp->VK->Prop):Prop:=
 ∀(pins:List (Addr×Obj)) (s:Shared) (σ:St) (H:Hp) (xs:List V) (us:List Value) (Q:VK),Inv X pins σ H s->aB' xs us->r xs H Q->
  wpAny (model X.prog X.w) X.A (call f us) (EP X pins σ Q) X.xe s
def zE' (X:Cx) (r:V->Hp->(Bool->Hp->Prop)->Prop):Prop:=
 ∀(pins:List (Addr×Obj)) (s:Shared) (σ:St) (H:Hp) (x:V) (v:Value) (Q:Bool->Hp->Prop),Inv X pins σ H s->ay' x v->r x H Q->
  wpAny (model X.prog X.w) X.A (truthy v) (TP X pins σ Q) X.xe s
def tOp (r:R2) (ta tb:TE):TE:=fun σ H Q=>ta σ H fun x H1=>tb σ H1 fun y H2=>r x y H2 Q
def tUn (r:V->Hp->VK->Prop) (ta:TE):TE:=fun σ H Q=>ta σ H fun x H1=>r x H1 Q
def rI (C:Int->Int->Prop) (g:Int->Int->V):R2:=fun x y H Q=>∃i j,x=.int i/\y=.int j/\C i j/\Q (g i j) H
def rI0 (g:Int->Int->V):R2:=fun x y H Q=>∃i j,x=.int i/\y=.int j/\Q (g i j) H
def rU (g:Int->V):V->Hp->VK->Prop:=fun x H Q=>∃i,x=.int i/\Q (g i) H
section
variable {X:Cx} {a b c:Expr} {ta tb tc:TE} {pos:Pos}
theorem wN' (ha:PE X a ta) (hb:PE X b tb) {pins:List (Addr×Obj)} {s:Shared} {σ:St} {H:Hp} {R:V->V->Hp->Prop} (I:Inv X pins σ H s)
  (h:ta σ H fun x H1=>tb σ H1 fun y H2=>R x y H2) {Q:Value->Shared->Prop} {f:Value->Value->Sem Value}
  (hf:∀v u s2 x y H2,Inv X pins σ H2 s2->ay' x v->ay' y u->R x y H2->wpAny (model X.prog X.w) X.A (f v u) Q X.xe s2):
  wpAny (model X.prog X.w) X.A (eval a X.env) (fun v s₁=>wpAny (model X.prog X.w) X.A (eval b X.env) (fun u s₂=>wpAny (model X.prog X.w) X.A (f v u) Q X.xe s₂) X.xe s₁) X.xe s:=by
 refine thn (ha pins s σ H _ I h) fun v s1 ⟨x,H1,I1,r1,q1⟩=>?_
 refine thn (hb pins s1 σ H1 _ I1 q1) fun u s2 ⟨y,H2,I2,r2,q2⟩=>?_
 exact hf v u s2 x y H2 I2 r1 r2 q2
theorem wO' {op:Operator} {r:R2} (ho:OpR X (binaryOp op) r) (ha:PE X a ta) (hb:PE X b tb):PE X (.BinOp a op b pos) (tOp r ta tb):=by
 intro pins s σ H Q I h
 exact wpAny_BinOp (wN' ha hb I h fun v u s2 x y H2 I2 rx ry q=>ho pins s2 σ H2 x y v u Q I2 rx ry q)
theorem wP' {op:UnaryOp} {r:V->Hp->VK->Prop} (ho:UnR X (unaryOp op) r) (ha:PE X a ta):PE X (.UnaryOp op a pos) (tUn r ta):=by
 intro pins s σ H Q I h
 exact UnaryOp_ (thn (ha pins s σ H _ I h) fun v s1 ⟨x,H1,I1,r1,q1⟩=>ho pins s1 σ H1 x v Q I1 r1 q1)
theorem opI {f:Value->Value->Sem Value} {C:Int->Int->Prop} {g:Int->Int->Int}
  (rule:∀(i j:Int) (t u:Tok) (s:Shared) (Q:Value->Shared->Prop) (E:Value->Shared->Prop),C i j->Q (.int (g i j) s.toks) { s with toks:=s.toks+1 }->wpAny (model X.prog X.w) X.A (f (.int i t) (.int j u)) Q E s):
  OpR X f (rI C fun i j=>.int (g i j)):=by
 intro pins s σ H x y v u Q I rx ry h
 obtain⟨i,j,rfl,rfl,hc,q⟩:=h
 obtain⟨t,rfl⟩:=rx
 obtain⟨t',rfl⟩:=ry
 exact rule i j t t' s _ _ hc ⟨.int (g i j),H,I.tok _,⟨_,rfl⟩,q⟩
theorem wQ' {f:Value->Value->Sem Value} {g:Int->Int->Int}
  (rule:∀(i j:Int) (t u:Tok) (s:Shared) (Q:Value->Shared->Prop) (E:Value->Shared->Prop),Q (.int (g i j) s.toks) { s with toks:=s.toks+1 }->wpAny (model X.prog X.w) X.A (f (.int i t) (.int j u)) Q E s):
  OpR X f (rI0 fun i j=>.int (g i j)):=by
 intro pins s σ H x y v u Q I rx ry h
 obtain⟨i,j,rfl,rfl,q⟩:=h
 obtain⟨t,rfl⟩:=rx
 obtain⟨t',rfl⟩:=ry
 exact rule i j t t' s _ _ ⟨.int (g i j),H,I.tok _,⟨_,rfl⟩,q⟩
theorem wd' {f:Value->Value->Sem Value} {g:Int->Int->Bool}
  (rule:∀(i j:Int) (t u:Tok) (s:Shared) (Q:Value->Shared->Prop) (E:Value->Shared->Prop),Q (.bool (g i j)) s->wpAny (model X.prog X.w) X.A (f (.int i t) (.int j u)) Q E s):
  OpR X f (rI0 fun i j=>.bl (g i j)):=by
 intro pins s σ H x y v u Q I rx ry h
 obtain⟨i,j,rfl,rfl,q⟩:=h
 obtain⟨t,rfl⟩:=rx
 obtain⟨t',rfl⟩:=ry
 exact rule i j t t' s _ _ ⟨.bl (g i j),H,I,rfl,q⟩
def zF' (i j:Int):Prop:=0<j/\j<1073741824
def wR' (i j:Int):Prop:=0<=j/\j<=1000000/\i.natAbs<2 ^ 64
def we' (i j:Int):Prop:=(-(2 ^ 64)<i/\i<2 ^ 64)\/(-(2 ^ 64)<j/\j<2 ^ 64)
theorem we'.ok {i j:Int} (h:we' i j):IntMulOk i j:=by
 rcases h with⟨h1,h2⟩|⟨h1,h2⟩
 .exact .of_left (intBits_le_64 h1 h2)
 .exact .of_right (intBits_le_64 h1 h2)
theorem iy' (k:Nat):(0:Int)<=2 ^ k:=by
 rw[two_pow_cast]
 exact Int.natCast_nonneg _
theorem sc':OpR X (binaryOp .Add) (rI0 fun i j=>.int (i+j)):=wQ' fun _ _ _ _ _ _ _ q=>add_int q
theorem sd':OpR X (binaryOp .Sub) (rI0 fun i j=>.int (i-j)):=wQ' fun _ _ _ _ _ _ _ q=>sub_int q
theorem pw':OpR X (binaryOp .FloorDiv) (rI zF' fun i j=>.int (i / j)):=opI fun i j _ _ _ _ _ hc q=>by
 have h1:(0:Int)<j:=hc.1
 have h2:j<1073741824:=hc.2
 exact floordiv_int (by omega) (by rw[Int.fdiv_eq_ediv_of_nonneg i (by omega)];exact q) (.inl (PyProof.noPylong_small (by omega)))
theorem se':OpR X (binaryOp .Mod) (rI (fun _ j=>0<j) fun i j=>.int (i % j)):=opI fun i j _ _ _ _ _ hc q=>by
 have h1:(0:Int)<j:=hc
 exact mod_int' (by omega) (by rw[Int.fmod_eq_emod_of_nonneg i (by omega)];exact q)
theorem sf':OpR X (binaryOp .Pow) (rI wR' fun i j=>.int (i ^ j.toNat)):=opI fun _ _ _ _ _ _ _ hc q=>pow_int_small hc.1 hc.2.1 hc.2.2 q
theorem sg':OpR X (binaryOp .RShift) (rI (fun _ j=>0<=j) fun i j=>.int (i / 2 ^ j.toNat)):=opI fun i j _ _ _ _ _ hc q=>
 rshift_int hc (by rw[Int.fdiv_eq_ediv_of_nonneg i (iy' _)];exact q)
theorem sh':OpR X (binaryOp .BitAnd) (rI0 fun i j=>.int (Builtin.bitAnd i j)):=wQ' fun _ _ _ _ _ _ _ q=>and_int q
theorem unI {f:Value->Sem Value} {g:Int->Int}
  (rule:∀(i:Int) (t:Tok) (s:Shared) (Q:Value->Shared->Prop) (E:Value->Shared->Prop),Q (.int (g i) s.toks) { s with toks:=s.toks+1 }->wpAny (model X.prog X.w) X.A (f (.int i t)) Q E s):
  UnR X f (rU fun i=>.int (g i)):=by
 intro pins s σ H x v Q I rx h
 obtain⟨i,rfl,q⟩:=h
 obtain⟨t,rfl⟩:=rx
 exact rule i t s _ _ ⟨.int (g i),H,I.tok _,⟨_,rfl⟩,q⟩
theorem si':UnR X (unaryOp .USub) (rU fun i=>.int (-i)):=unI fun _ _ _ _ _ q=>neg_int q
end
def rK':V->V->Bool
 | .non,.non=>true | .non,.int _=>true | .int _,.non=>true | .non,.bl _=>true | .bl _,.non=>true | .non,.str _=>true | .str _,.non=>true
 | .int _,.int _=>true | .bl _,.bl _=>true | .str _,.str _=>true | .byt _,.byt _=>true
 | .int _,.str _=>true | .str _,.int _=>true | .bl _,.str _=>true | .str _,.bl _=>true
 |_,_=>false
def rEq:R2:=fun x y H Q=>rK' x y=true/\Q (.bl (decide (x=y))) H
def rNe:R2:=fun x y H Q=>rK' x y=true/\Q (.bl (!decide (x=y))) H
theorem gy' {i j:Int}:decide (V.int i=V.int j)=(i == j):=by
 rw[cz]
 simp
theorem oi' {i j:Bool}:decide (V.bl i=V.bl j)=(i == j):=by
 rw[cz]
 simp
theorem ju' {i j:Str}:decide (V.str i=V.str j)=(i == j):=by
 rw[cz]
 simp
theorem jv' {i j:Array UInt8}:decide (V.byt i=V.byt j)=(i.toList == j.toList):=by
 rw[cz]
 cases i
 cases j
 simp
section
variable {X:Cx} {a b c:Expr} {ta tb tc:TE} {pos:Pos}
theorem ax' {pins:List (Addr×Obj)} {σ:St} {H:Hp} {s:Shared} {Q:VK} {k k':Bool} (I:Inv X pins σ H s) (q:Q (.bl k) H) (e:k=k'):EP X pins σ Q (.bool k') s:=by
 subst e
 exact⟨.bl k,H,I,rfl,q⟩
theorem wS':OpR X (compareOp .Eq) rEq:=by
 intro pins s σ H x y v u Q I rx ry h
 obtain⟨hs,q⟩:=h
 cases x with
 |non=>
  cases rx
  cases y with
  |non=>cases ry;exact PySem.EqNone.eq_none_none (ax' I q (by simp))
  |bl j=>cases ry;exact PySem.EqNone.eq_none_bool (ax' I q (by simp))
  |int j=>obtain⟨t',rfl⟩:=ry;exact PySem.EqNone.eq_none_int (ax' I q (by simp))
  |str j=>obtain⟨t',rfl⟩:=ry;exact PySem.EqNone.eq_none_str (ax' I q (by simp))
  |_=>exact absurd (show false=true from hs) ap
 |bl i=>
  cases rx
  cases y with
  |non=>cases ry;exact PySem.EqNone.eq_bool_none (ax' I q (by simp))
  |bl j=>cases ry;exact eq_bool (ax' I q oi')
  |str j=>obtain⟨t',rfl⟩:=ry;exact PySem.EqMixed.eq_bool_str (ax' I q (by simp))
  |_=>exact absurd (show false=true from hs) ap
 |int i=>
  obtain⟨t,rfl⟩:=rx
  cases y with
  |non=>cases ry;exact PySem.EqNone.eq_int_none (ax' I q (by simp))
  |int j=>obtain⟨t',rfl⟩:=ry;exact eq_int (ax' I q gy')
  |str j=>obtain⟨t',rfl⟩:=ry;exact PySem.EqMixed.eq_int_str (ax' I q (by simp))
  |_=>exact absurd (show false=true from hs) ap
 |str i=>
  obtain⟨t,rfl⟩:=rx
  cases y with
  |non=>cases ry;exact PySem.EqNone.eq_str_none (ax' I q (by simp))
  |bl j=>cases ry;exact PySem.EqMixed.eq_str_bool (ax' I q (by simp))
  |int j=>obtain⟨t',rfl⟩:=ry;exact PySem.EqMixed.eq_str_int (ax' I q (by simp))
  |str j=>obtain⟨t',rfl⟩:=ry;exact eq_str (ax' I q ju')
  |_=>exact absurd (show false=true from hs) ap
 |byt i=>
  obtain⟨t,rfl⟩:=rx
  cases y with
  |byt j=>obtain⟨t',rfl⟩:=ry;exact W.eq_bytes (ax' I q jv')
  |_=>exact absurd (show false=true from hs) ap
 |_=>cases y<;>exact absurd (show false=true from hs) ap
theorem wT':OpR X (compareOp .NotEq) rNe:=by
 intro pins s σ H x y v u Q I rx ry h
 obtain⟨hs,q⟩:=h
 cases x with
 |non=>
  cases rx
  cases y with
  |non=>cases ry;exact PySem.EqNone.ne_none_none (ax' I q (by simp))
  |bl j=>cases ry;exact PySem.EqNone.ne_none_bool (ax' I q (by simp))
  |int j=>obtain⟨t',rfl⟩:=ry;exact PySem.EqNone.ne_none_int (ax' I q (by simp))
  |str j=>obtain⟨t',rfl⟩:=ry;exact PySem.EqNone.ne_none_str (ax' I q (by simp))
  |_=>exact absurd (show false=true from hs) ap
 |bl i=>
  cases rx
  cases y with
  |non=>cases ry;exact PySem.EqNone.ne_bool_none (ax' I q (by simp))
  |bl j=>cases ry;exact ne_bool (ax' I q (congrArg not oi'))
  |str j=>obtain⟨t',rfl⟩:=ry;exact PySem.EqMixed.ne_bool_str (ax' I q (by simp))
  |_=>exact absurd (show false=true from hs) ap
 |int i=>
  obtain⟨t,rfl⟩:=rx
  cases y with
  |non=>cases ry;exact PySem.EqNone.ne_int_none (ax' I q (by simp))
  |int j=>obtain⟨t',rfl⟩:=ry;exact ne_int (ax' I q (congrArg not gy'))
  |str j=>obtain⟨t',rfl⟩:=ry;exact PySem.EqMixed.ne_int_str (ax' I q (by simp))
  |_=>exact absurd (show false=true from hs) ap
 |str i=>
  obtain⟨t,rfl⟩:=rx
  cases y with
  |non=>cases ry;exact PySem.EqNone.ne_str_none (ax' I q (by simp))
  |bl j=>cases ry;exact PySem.EqMixed.ne_str_bool (ax' I q (by simp))
  |int j=>obtain⟨t',rfl⟩:=ry;exact PySem.EqMixed.ne_str_int (ax' I q (by simp))
  |str j=>obtain⟨t',rfl⟩:=ry;exact ne_str (ax' I q (congrArg not ju'))
  |_=>exact absurd (show false=true from hs) ap
 |byt i=>
  obtain⟨t,rfl⟩:=rx
  cases y with
  |byt j=>obtain⟨t',rfl⟩:=ry;exact W.ne_bytes (ax' I q (congrArg not jv'))
  |_=>exact absurd (show false=true from hs) ap
 |_=>cases y<;>exact absurd (show false=true from hs) ap
theorem wU':OpR X (compareOp .Lt) (rI0 fun i j=>.bl (decide (i<j))):=wd' fun _ _ _ _ _ _ _ q=>lt_int q
theorem wV':OpR X (compareOp .LtE) (rI0 fun i j=>.bl (decide (i<=j))):=wd' fun _ _ _ _ _ _ _ q=>le_int q
theorem wW':OpR X (compareOp .Gt) (rI0 fun i j=>.bl (decide (j<i))):=wd' fun _ _ _ _ _ _ _ q=>gt_int q
theorem wX':OpR X (compareOp .GtE) (rI0 fun i j=>.bl (decide (j<=i))):=wd' fun _ _ _ _ _ _ _ q=>ge_int q
theorem sj':OpR X (compareOp .Is) (fun x y H Q=>y=.non/\Q (.bl (decide (x=.non))) H):=by
 intro pins s σ H x y v u Q I rx ry h
 obtain⟨rfl,q⟩:=h
 cases ry
 refine is_none_gen (ax' I q ?_)
 cases x<;>first
  |(cases rx;rfl)
  |(obtain⟨t,rfl⟩:=rx;rfl)
theorem px':OpR X (compareOp .IsNot) (fun x y H Q=>y=.non/\Q (.bl (!decide (x=.non))) H):=by
 intro pins s σ H x y v u Q I rx ry h
 obtain⟨rfl,q⟩:=h
 cases ry
 refine isnot_none_gen (ax' I q ?_)
 cases x<;>first
  |(cases rx;rfl)
  |(obtain⟨t,rfl⟩:=rx;rfl)
theorem OpR.or {f:Value->Value->Sem Value} {r r':R2} (h:OpR X f r) (h':OpR X f r'):OpR X f (fun x y H Q=>r x y H Q\/r' x y H Q):=by
 intro pins s σ H x y v u Q I rx ry q
 rcases q with q|q
 .exact h pins s σ H x y v u Q I rx ry q
 .exact h' pins s σ H x y v u Q I rx ry q
theorem py' {op:CmpOp} {r:R2} (ho:OpR X (compareOp op) r) (ha:PE X a ta) (hb:PE X b tb) (hm:behindInMarks op b=false):PE X (.Compare a [op] [b] pos) (tOp r ta tb):=by
 intro pins s σ H Q I h
 exact wpAny_Compare1 (wN' ha hb I h fun v u s2 x y H2 I2 rx ry q=>ho pins s2 σ H2 x y v u Q I2 rx ry q) hm
def fy' (t:TE):TT:=fun σ H Q=>t σ H fun x H'=>∃k,x=.bl k/\Q k H'
theorem pz' {op:CmpOp} {r:R2} (ho:OpR X (compareOp op) r) (ha:PE X a ta) (hb:PE X b tb) (hm:behindInMarks op b=false):PT X (.Compare a [op] [b] pos) (fy' (tOp r ta tb)):=by
 intro pins s σ H Q I h
 refine wpAny_isTrue_Compare1 (thn (ha pins s σ H _ I h) fun v s1 ⟨x,H1,I1,r1,q1⟩=>thn (hb pins s1 σ H1 _ I1 q1) fun u s2 ⟨y,H2,I2,r2,q2⟩=>
  thn (ho pins s2 σ H2 x y v u _ I2 r1 r2 q2) fun c s3 ⟨z,H3,I3,r3,k,e,q3⟩=>?_) hm
 subst e
 cases r3
 exact bb ⟨H3,I3,q3⟩
def di' (r r':R2) (ta tb tc:TE):TE:=fun σ H Q=>ta σ H fun x H1=>tb σ H1 fun y H2=>r x y H2 fun z H3=>∃k,z=.bl k/\
 (if k=true then tc σ H3 fun w' H4=>r' y w' H4 Q else Q (.bl false) H3)
theorem md' {op op':CmpOp} {r r':R2} (ho:OpR X (compareOp op) r) (ho':OpR X (compareOp op') r') (ha:PE X a ta) (hb:PE X b tb) (hc:PE X c tc)
  (hm:lastMarks [op,op'] [b,c]=false:=by with_unfolding_all rfl):PE X (.Compare a [op,op'] [b,c] pos) (di' r r' ta tb tc):=by
 intro pins s σ H Q I h
 refine Compare_chain (thn (ha pins s σ H _ I h) fun v s1 ⟨x,H1,I1,r1,q1⟩=>chain_link (thn (hb pins s1 σ H1 _ I1 q1) fun u s2 ⟨y,H2,I2,r2,q2⟩=>
  thn (ho pins s2 σ H2 x y v u _ I2 r1 r2 q2) fun d s3 ⟨z,H3,I3,r3,k,e,q3⟩=>?_)) hm
 subst e
 cases r3
 refine bb ?_
 cases k with
 |false=>exact ite_ff ⟨.bl false,H3,I3,rfl,q3⟩
 |true=>exact ite_tt (chain_last (thn (hc pins s3 σ H3 _ I3 q3) fun w' s4 ⟨z',H4,I4,r4,q4⟩=>ho' pins s4 σ H4 y z' u w' Q I4 r2 r4 q4))
theorem me' {op op':CmpOp} {r r':R2} (ho:OpR X (compareOp op) r) (ho':OpR X (compareOp op') r') (ha:PE X a ta) (hb:PE X b tb) (hc:PE X c tc)
  (hm:lastMarks [op,op'] [b,c]=false:=by with_unfolding_all rfl):PT X (.Compare a [op,op'] [b,c] pos) (fy' (di' r r' ta tb tc)):=by
 intro pins s σ H Q I h
 refine isTrue_chain (thn (ha pins s σ H _ I h) fun v s1 ⟨x,H1,I1,r1,q1⟩=>test_link (thn (hb pins s1 σ H1 _ I1 q1) fun u s2 ⟨y,H2,I2,r2,q2⟩=>
  thn (ho pins s2 σ H2 x y v u _ I2 r1 r2 q2) fun d s3 ⟨z,H3,I3,r3,k,e,q3⟩=>?_)) hm
 subst e
 cases r3
 refine bb ?_
 cases k with
 |false=>
  obtain⟨k',e',q'⟩:=q3
  cases e'
  exact ite_ff ⟨H3,I3,q'⟩
 |true=>
  refine ite_tt (test_last (thn (hc pins s3 σ H3 _ I3 q3) fun w' s4 ⟨z',H4,I4,r4,q4⟩=>thn (ho' pins s4 σ H4 y z' u w' _ I4 r2 r4 q4) fun d' s5 ⟨z2,H5,I5,r5,k2,e2,q5⟩=>?_))
  subst e2
  cases r5
  exact bb ⟨H5,I5,q5⟩
def sk' (K:W.Frag) (x:V) (H:Hp) (k:Bool):Prop:=
 match x with
 | .non=>k=false
 | .bl b=>k=b
 | .int i=>k=(i != 0)
 | .str y=>y.length<=sizeLine/\k=((y.length:Int) != 0)
 | .byt y=>y.size<=sizeLine/\k=((y.size:Int) != 0)
 | .ref p=>(∃xs,SqL K H p xs/\k=!xs.isEmpty)\/(∃xs,SqT K H p xs/\k=!xs.isEmpty)\/∃kvs,H p=some (.dK kvs)/\k=!kvs.isEmpty
 |_=>False
theorem iz' {κ:Type} {kvs:List (κ×V)} {vs:List (κ×Value)} (r:KV kvs vs):(!vs.isEmpty)=!kvs.isEmpty:=by
 cases r<;>rfl
theorem ez' {xs:List V} {its:List Value} (r:aB' xs its):(!its.toArray.isEmpty)=!xs.isEmpty:=by
 cases r<;>simp
theorem eA':(sizeLine:Nat)<2 ^ 63:=by rw[sizeLine_eq];decide
theorem sm':zE' X (fun x H Q=>∃k,sk' X.K x H k/\Q k H):=by
 intro pins s σ H x v Q I rx h
 obtain⟨k,e,q⟩:=h
 have hl:=eA'
 have hs:sizeLine=16777216:=sizeLine_eq
 cases x with
 |non=>
  cases rx
  have e':k=false:=e
  subst e'
  exact truthy_none ⟨H,I,q⟩
 |bl b=>
  cases rx
  have e':k=b:=e
  subst e'
  exact bb ⟨H,I,q⟩
 |int i=>
  obtain⟨t,rfl⟩:=rx
  have e':k=(i != 0):=e
  subst e'
  exact PySem.P.truthy_int ⟨H,I,q⟩
 |str y=>
  obtain⟨t,rfl⟩:=rx
  obtain⟨hy,e'⟩:y.length<=sizeLine/\k=((y.length:Int) != 0):=e
  subst e'
  exact PySem.P.truthy_str (by omega) ⟨H,I.tok _,q⟩
 |byt y=>
  obtain⟨t,rfl⟩:=rx
  obtain⟨hy,e'⟩:y.size<=sizeLine/\k=((y.size:Int) != 0):=e
  subst e'
  exact W.truthy_bytes (by omega) ⟨H,I.tok _,q⟩
 |ref p=>
  cases rx
  have e':(∃xs,SqL X.K H p xs/\k=!xs.isEmpty)\/(∃xs,SqT X.K H p xs/\k=!xs.isEmpty)\/∃kvs,H p=some (.dK kvs)/\k=!kvs.isEmpty:=e
  rcases e' with⟨xs,hx,e'⟩|⟨xs,hx,e'⟩|⟨kvs,hx,e'⟩
  .subst e'
   obtain⟨its,r,pl,hz⟩:=I.list hx
   have hlen:=r.length
   exact wpAny_truthy_list pl.isList (by simp only[ao];omega) ⟨H,I.tok _,by rw[ez' r];exact q⟩
  .subst e'
   obtain⟨its,r,pl,hz⟩:=I.tuple hx
   have hlen:=r.length
   exact truthy_tuple pl (by simp only[ao];omega) ⟨H,I.tok _,by rw[ez' r];exact q⟩
  .subst e'
   obtain⟨hz,hS,vs,r,m⟩:kvs.length<=sizeLine/\(p == sysModules)=false/\∃vs,KV kvs vs/\s.heap.DictOf (ai' X.prog X.w) p vs:=I.hok p _ hx
   have hlen:kvs.length=vs.length:=Paired.length r
   exact wpAny_truthy_dict hS m (by omega) ⟨H,I.tok _,by rw[iz' r];exact q⟩
 |_=>exact(show False from e).elim
theorem mf' (ha:PE X a ta) (he:∀whole,isTrue a X.env whole=(do let v <- whole;standAt a.pos;holding [v] (truthy v))):
  PT X a (fun σ H Q=>ta σ H fun x H'=>∃k,sk' X.K x H' k/\Q k H'):=by
 intro pins s σ H Q I h
 exact isTrue_plain (thn (ha pins s σ H _ I h) fun v s1 ⟨x,H1,I1,r1,q1⟩=>sm' pins s1 σ H1 x v Q I1 r1 q1) (he _)
theorem iA':OpR X (binaryOp .Add) (fun x y H Q=>∃i j,x=.str i/\y=.str j/\i.length+j.length<=sizeLine/\Q (.str (i++j)) H):=by
 intro pins s σ H x y v u Q I rx ry h
 obtain⟨i,j,rfl,rfl,hz,q⟩:=h
 obtain⟨t,rfl⟩:=rx
 obtain⟨t',rfl⟩:=ry
 exact add_str (fun t' tk=>⟨.str (i++j),H,I.tok _,⟨_,rfl⟩,q⟩) hz
theorem dp' {x:V} {us:List Value} (r:aB' [x] us):∃u,us=[u]/\ay' x u:=by
 cases r with
 |cons r1 r2=>cases r2;exact⟨_,rfl,r1⟩
theorem mg' {x y:V} {us:List Value} (r:aB' [x,y] us):∃u w',us=[u,w']/\ay' x u/\ay' y w':=by
 cases r with
 |cons r1 r2=>
  cases r2 with
  |cons r3 r4=>cases r4;exact⟨_,_,rfl,r1,r3⟩
theorem mh':aP' X (.builtin "abs") (fun xs H Q=>∃i,xs=[.int i]/\Q (.int (if i<0 then -i else i)) H):=by
 intro pins s σ H xs us Q I r h
 obtain⟨i,rfl,q⟩:=h
 obtain⟨u,rfl,t,rfl⟩:=dp' r
 exact call_abs_int fun u tk=>⟨.int (if i<0 then -i else i),H,I.tok _,⟨_,rfl⟩,q⟩
theorem jw' (hc:X.calm=true):aP' X (.builtin "min") (fun xs H Q=>∃i j,xs=[.int i,.int j]/\Q (.int (if j<i then j else i)) H):=by
 intro pins s σ H xs us Q I r h
 obtain⟨i,j,rfl,q⟩:=h
 obtain⟨u,w',rfl,⟨t,rfl⟩,⟨t',rfl⟩⟩:=mg' r
 refine min_two_ints (I.ok.hd hc) fun h' tk k=>⟨_,H,I.kept k,?_,q⟩
 by_cases hj:j<i
 .rw[if_pos hj,if_pos hj];exact⟨_,rfl⟩
 .rw[if_neg hj,if_neg hj];exact⟨_,rfl⟩
theorem jx':aP' X (.type "int") (fun xs H Q=>(∃i,xs=[.int i]/\Q (.int i) H)\/∃k,xs=[.bl k]/\Q (.int (if k then 1 else 0)) H):=by
 intro pins s σ H xs us Q I r h
 rcases h with⟨i,rfl,q⟩|⟨k,rfl,q⟩
 .obtain⟨u,rfl,t,rfl⟩:=dp' r
  exact call_int_int ⟨.int i,H,I,⟨_,rfl⟩,q⟩
 .obtain⟨u,rfl,r1⟩:=dp' r
  cases r1
  exact call_int_bool ⟨.int (if k then 1 else 0),H,I.tok _,⟨_,rfl⟩,q⟩
def yT' (K:W.Frag) (x:V) (H:Hp) (n:Nat):Prop:=
 match x with
 | .str y=>y.length<=sizeLine/\n=y.length
 | .byt y=>y.size<=sizeLine/\n=y.size
 | .ref p=>(∃xs,SqL K H p xs/\n=xs.length)\/∃xs,SqT K H p xs/\n=xs.length
 |_=>False
theorem mi':aP' X (.builtin "len") (fun xs H Q=>∃x n,xs=[x]/\yT' X.K x H n/\Q (.int n) H):=by
 intro pins s σ H xs us Q I r h
 obtain⟨x,n,rfl,e,q⟩:=h
 obtain⟨u,rfl,rx⟩:=dp' r
 have hl:=eA'
 have hs:sizeLine=16777216:=sizeLine_eq
 cases x with
 |str y=>
  obtain⟨t,rfl⟩:=rx
  obtain⟨hy,e'⟩:y.length<=sizeLine/\n=y.length:=e
  subst e'
  exact len_str (by omega) ⟨.int _,H,I.tok _,⟨_,rfl⟩,q⟩
 |byt y=>
  obtain⟨t,rfl⟩:=rx
  obtain⟨hy,e'⟩:y.size<=sizeLine/\n=y.size:=e
  subst e'
  exact W.len_bytes (by omega) ⟨.int _,H,I.tok _,⟨_,rfl⟩,q⟩
 |ref p=>
  cases rx
  have e':(∃xs,SqL X.K H p xs/\n=xs.length)\/∃xs,SqT X.K H p xs/\n=xs.length:=e
  rcases e' with⟨xs,hx,e'⟩|⟨xs,hx,e'⟩
  .subst e'
   obtain⟨its,r',pl,hz⟩:=I.list hx
   have hlen:=r'.length
   exact Calls.call_len_list pl.isList (by simp only[ao];omega) ⟨.int xs.length,H,I.tok _,⟨_,by simp only[ao];rw[hlen]⟩,q⟩
  .subst e'
   obtain⟨its,r',pl,hz⟩:=I.tuple hx
   have hlen:=r'.length
   exact len_tuple pl (by simp only[ao];omega) ⟨.int xs.length,H,I.tok _,⟨_,by simp only[ao];rw[hlen]⟩,q⟩
 |_=>exact(show False from e).elim
end
structure ObjM (h:Heap) (x dx C:Addr) (mA:Str->Option Value):Prop where
 obj:h.get? x=some (W.instObj C dx)
 ns:h.Ns1 dx mA
 ne:dx≠x
set_option tactic.hygienic true in
theorem jy' {h:Heap} {dx:Addr} {mA:Str->Option Value} (n:h.Ns1 dx mA):∃od,h.get? dx=some od/\∀name,W.lookIn name od=some (mA name):=by
 obtain⟨o,es,ep,ho,hd,hk,_,hm⟩:=n
 refine⟨o,ho,fun name=>?_⟩
 have e:=hm name
 unfold nsFind findBy at e
 rw[<- Array.find?_toList]at e
 unfold W.lookIn
 rw[hd]
 dsimp only
 split
 .rename_i y q
  rw[q]at e
  exact congrArg some e
 .rename_i q
  rw[q]at e
  have a:es.toList.any (·.refKey)=false:=by
   rw[List.any_eq_false]
   intro y hy
   obtain⟨z,t,hkey⟩:=hk y (cJ.mp hy)
   simp[DictEntry.refKey,hkey]
  have a':¬es.toList.any (·.refKey)=true:=by rw[a];exact ap
  rw[if_neg a']
  exact congrArg some e
theorem ObjM.look {h:Heap} {x dx C:Addr} {mA:Str->Option Value} (I:ObjM h x dx C mA):∃od,W.InstAt h x (W.instObj C dx) C (some od)/\∀name,W.lookIn name od=some (mA name):=
 let⟨od,ho,hl⟩:=jy' I.ns
 ⟨od,⟨I.obj,rfl,rfl,ho⟩,hl⟩
section
variable {prog:Program} {w:World} {A:Around} {E:Value->Shared->Prop} {s:Shared} {K:W.Frag} {x dx C f:Addr} {mA:Str->Option Value} {name:Str} {v:Value}
end
theorem jl'.some_of {v:V} {o:Option Value} (r:jl' (some v) o):∃u,o=some u/\ay' v u:=by
 cases o with
 |none=>exact(show False from r).elim
 |some u=>exact⟨u,rfl,r⟩
section
variable {P:Program} {w:World} {H H':Hp} {h h':Heap} {a C dx:Addr} {fs fs':List (Str×V)}
theorem pA' (hok:HOk P w H h) (e:H a=some (.ins C dx fs)):∃mA,ObjM h a dx C mA/\(∀f,jl' (fs.lookup f) (mA f))/\PySem.Within mA (fs.map (·.1))/\fs.length<=1000/\H dx=some (.own a):=by
 obtain⟨d,z,ne,ob,mA,n,r,q⟩:=(show av' P w H h a (.ins C dx fs) from hok a _ e)
 exact⟨mA,⟨ob,n,ne⟩,r,q,z,d⟩
end
structure Cls (K:W.Frag) (C:Addr):Prop where
 pg:W.plainGet K C Str.empty=true
 hd:W.hasDictIn K C=true
 po:W.plainOver K C=true
 sa:W.findIn K (.ref C) "__setattr__"=some (some (.builtin "object.__setattr__"))
theorem Cls.get {K:W.Frag} {C:Addr} (c:Cls K C) (f:Str):W.plainGet K C f=true:=c.pg
structure Con (K:W.Frag) (C:Addr) (f:Str) (v:V) (u:Value):Prop where
 at_:W.findIn K (.ref C) f=some (some u)
 rel:ay' v u
 get:W.specialIn K u "__get__"=some none
 cp:W.copiedNames.contains f=false
structure Meth (K:W.Frag) (C:Addr) (m:Str) (f:Addr):Prop where
 at_:W.findIn K (.ref C) m=some (some (.ref f))
 fn:W.isFn K (.ref f)=true
 kp:W.keepIn K (.ref f)=true
section
variable {X:Cx} {pins:List (Addr×Obj)} {σ:St} {H:Hp} {s:Shared} {a C dx:Addr} {fs:List (Str×V)} {f:Str} {v:V} {A:Around} {E:Value->Shared->Prop}
end
section
variable {X:Cx} {o e value:Expr} {f:Str} {pos pos' tpos:Pos} {ta tv:TE}
end
section
variable {X:Cx} {pins:List (Addr×Obj)} {σ:St} {H:Hp} {s:Shared} {A:Around} {E:Value->Shared->Prop} {Q:Value->Shared->Prop} {c:Value} {b:Bool}
inductive TyOf (K:W.Frag) (H:Hp):V->Value->Prop where
 |non:TyOf K H .non (.type "NoneType")
 |bl (x:Bool):TyOf K H (.bl x) (.type "bool")
 |int (i:Int):TyOf K H (.int i) (.type "int")
 |str (x:Str):TyOf K H (.str x) (.type "str")
 |flt (x:UInt64):TyOf K H (.flt x) (.type "float")
 |lst {a:Addr} {xs:List V} (e:H a=some (.lst xs)):TyOf K H (.ref a) (.type "list")
 |frz {a:Addr} {o:Obj} {xs:List V} (e:H a=some (.frz o (.lst xs))):TyOf K H (.ref a) (.type "list")
 |tup {a:Addr} {xs:List V} (e:H a=some (.tup xs)):TyOf K H (.ref a) (.type "tuple")
 |dK {a:Addr} {kvs:List (Key×V)} (e:H a=some (.dK kvs)):TyOf K H (.ref a) (.type "dict")
 |dT {a:Addr} {kvs:List (List Key×V)} (e:H a=some (.dT kvs)):TyOf K H (.ref a) (.type "dict")
 |ins {a C dx:Addr} {fs:List (Str×V)} (e:H a=some (.ins C dx fs)) (cl:Cls K C) (ha:W.findIn K (.ref C) "__class__"=some (some (.builtin "object.__class__")))
   (hn:W.specialIn K (.builtin "object.__class__") "__get__"=some (some (.builtin "getset_descriptor.__get__"))) (htk:W.takesIn K (.builtin "object.__class__")=some true)
   (hm:W.mroIn K C (.type "object")=some true):TyOf K H (.ref a) (.ref C)
theorem jz' {x:V} {u t:Value} (I:Inv X pins σ H s) (rx:ay' x u) (ty:TyOf X.K H x t) (e:W.kitOne X.K t c=some b) (h:∀tk,Q (.bool b) { s with toks:=tk }):
  wpAny (model X.prog X.w) A (call (.builtin "isinstance") [u,c]) Q E s:=by
 cases ty with
 |non=>cases(show u=Value.none from rx);exact W.kia_one W.kitx_none I.kIn True.intro e (fun z=>nomatch z) h
 |bl y=>cases(show u=Value.bool y from rx);exact W.kia_one W.kitx_bool I.kIn True.intro e (fun z=>nomatch z) h
 |int i=>obtain⟨t,q⟩:=(show ∃t,u=Value.int i t from rx);cases q;exact W.kia_one W.kitx_int I.kIn True.intro e (fun z=>nomatch z) h
 |str y=>obtain⟨t,q⟩:=(show ∃t,u=Value.str y t from rx);cases q;exact W.kia_one W.kitx_str I.kIn True.intro e (fun z=>nomatch z) h
 |flt y=>obtain⟨t,q⟩:=(show ∃t,u=Value.float y t from rx);cases q;exact W.kia_one W.kitx_float I.kIn True.intro e (fun z=>nomatch z) h
 | @lst a xs ea=>
  cases(show u=Value.ref a from rx)
  obtain⟨_,_,n,_,h1⟩:=(show av' X.prog X.w H s.heap a (.lst xs) from I.hok a _ ea)
  exact W.kia_one W.kitx_list I.kIn ⟨_,h1,rfl⟩ e (fun z=>nomatch z) h
 | @frz a ob xs ea=>
  cases(show u=Value.ref a from rx)
  obtain⟨_,_,_,n,_,h1⟩:=(show av' X.prog X.w H s.heap a (.frz ob (.lst xs)) from I.hok a _ ea)
  exact W.kia_one W.kitx_list I.kIn ⟨_,h1,rfl⟩ e (fun z=>nomatch z) h
 | @tup a xs ea=>
  cases(show u=Value.ref a from rx)
  obtain⟨_,_,_,p⟩:=(show av' X.prog X.w H s.heap a (.tup xs) from I.hok a _ ea)
  obtain⟨o,h1,h2,_⟩:=p
  exact W.kia_one W.kitx_tuple I.kIn ⟨o,h1,h2⟩ e (fun z=>nomatch z) h
 | @dK a kvs ea=>
  cases(show u=Value.ref a from rx)
  obtain⟨_,_,vs,_,p⟩:=(show av' X.prog X.w H s.heap a (.dK kvs) from I.hok a _ ea)
  obtain⟨o,es,ep,h1,h2,_⟩:=p
  exact W.kia_one W.kitx_dict I.kIn ⟨o,h1,h2.1⟩ e (fun z=>nomatch z) h
 | @dT a kvs ea=>
  cases(show u=Value.ref a from rx)
  obtain⟨_,_,xs,_,o,es,ep,h1,h2,_⟩:=(show av' X.prog X.w H s.heap a (.dT kvs) from I.hok a _ ea)
  exact W.kia_one W.kitx_dict I.kIn ⟨o,h1,h2.1⟩ e (fun z=>nomatch z) h
 | @ins a C dx fs ea cl ha hn htk hm=>
  cases(show u=Value.ref a from rx)
  obtain⟨mA,O,_⟩:=pA' I.hok ea
  obtain⟨od,J,_⟩:=O.look
  exact W.kia_one (W.kitx_own (cl.get _) cl.hd ha hn htk hm) I.kIn J e (fun z=>nomatch z) h
end
structure Room (k:Nat) (A:Around):Prop where
 hd:A.handled=none
 dp:A.depth+3*k+5<recursionLimit
 un:A.units+16*k+200<cLine
 gd:A.guards=some []
theorem Room.mono {j k:Nat} {A:Around} (r:Room k A) (h:j<=k):Room j A:=⟨r.hd,by have:=r.dp;omega,by have:=r.un;omega,r.gd⟩
theorem Room.deeper {k:Nat} {A:Around} (r:Room (k+1) A) (env:Env):Room k (A.deeper env):=
 ⟨r.hd,by have:=r.dp;show A.depth+1+3*k+5<_;omega,by have:=r.un;show A.units+3+16*k+200<_;omega,r.gd⟩
theorem Room.depth {k:Nat} {A:Around} (r:Room k A):A.depth<recursionLimit:=by have:=r.dp;omega
theorem Room.units {k:Nat} {A:Around} (r:Room k A):A.units+64<cLine:=by have:=r.un;omega
def hI':TA:=fun _ H Q=>Q [] H
def cb' (ta:TE) (tr:TA):TA:=fun σ H Q=>ta σ H fun x H1=>tr σ H1 fun xs H2=>Q (x :: xs) H2
section
variable {X:Cx} {e:Expr} {es:List Expr} {te:TE} {t:TA} {pos:Pos}
theorem eB':PA X [] hI':=fun _ _ _ _ H Q I h=>Calls.spliced_nil ⟨[],H,I,.nil,h⟩
theorem cd' (ha:PE X e te) (hr:PA X es t) (hs:starEach (e :: es) X.env=(false,eval e X.env) :: starEach es X.env:=by rfl):PA X (e :: es) (cb' te t):=by
 intro pos pins s σ H Q I h
 rw[hs]
 show wpAny _ _ (spliced ((false,eval e X.env) :: backTo pos (starEach es X.env))) _ _ s
 refine Calls.spliced_cons (thn (ha pins s σ H _ I h) fun u s1 ⟨x,H1,I1,r1,q1⟩=>?_)
 exact thn (hr pos pins s1 σ H1 _ I1 q1) fun us s2 ⟨xs,H2,I2,r2,q2⟩=>⟨x :: xs,H2,I2,.cons r1 r2,q2⟩
def wY' (t:TA):TE:=fun σ H Q=>t σ H fun xs H1=>xs.length<=sizeLine/\∀p,H1 p=none->Q (.ref p) (upd H1 p (.tup xs))
def wZ' (t:TA):TE:=fun σ H Q=>t σ H fun xs H1=>xs.length<=sizeLine/\∀p,H1 p=none->Q (.ref p) (upd H1 p (.lst xs))
theorem sn' {x1} (h:PA X es t):PE X (.Tuple es x1 pos) (wY' t):=by
 intro pins s σ H Q I hq
 refine wpAny_Tuple_spliced (thn (h pos pins s σ H _ I hq) fun us s1 ⟨xs,H1,I1,r,z,q⟩=>⟨by rw[<- r.length];exact z,?_⟩)
 have hf:H1 s1.heap.objs.size=none:=I1.hok.fresh (ah _)
 refine⟨.ref s1.heap.objs.size,upd H1 s1.heap.objs.size (.tup xs),I1.laid (t':=s1.toks) (fun b u e=>ab _ e) (ah _) ?_,rfl,q _ hf⟩
 exact⟨z,us,r,⟨_,am _ rfl,rfl,⟨_,rfl⟩,rfl⟩⟩
theorem so' (h:PA X es t):PE X (.List es pos) (wZ' t):=by
 intro pins s σ H Q I hq
 refine wpAny_List_spliced (thn (h pos pins s σ H _ I hq) fun us s1 ⟨xs,H1,I1,r,z,q⟩=>⟨by rw[<- r.length];exact z,?_⟩)
 have hf:H1 s1.heap.objs.size=none:=I1.hok.fresh (ah _)
 refine⟨.ref s1.heap.objs.size,upd H1 s1.heap.objs.size (.lst xs),I1.laid (t':=s1.toks) (fun b u e=>ab _ e) (ah _) ?_,rfl,q _ hf⟩
 exact⟨z,us,0,r,am _ rfl⟩
end
abbrev Sp:=List V->Hp->VK->XK->Prop
abbrev CXT:=List Env->Hp->Shared->XK->Value->Shared->Prop
structure Env0 (P:Program) (w:World) (K:W.Frag) (mg:Str->Option Value) (base:Heap) (A:Around) (outer:List Env) (s:Shared) (H:Hp):Prop where
 frames:A.frames=some outer
 mod:Mod K mg base
 bs:∀b o,base.get? b=some o->s.heap.get? b=some o/\H b=none
 bsz:base.objs.size<=s.heap.objs.size
 funs:s.heap.FunFrames base outer
 frf:∀b∈frs outer,H b=none
 hok:HOk P w H s.heap
 bare:AllBare s.gens
def CE (outer:List Env) (P:Program) (w:World) (H:Hp) (s:Shared) (Q:VK) (u:Value) (s':Shared):Prop:=
 ∃v H',s'.os=s.os/\AllBare s'.gens/\Un (frs outer) [] H H' s.heap s'.heap/\HOk P w H' s'.heap/\ay' v u/\Q v H'
def CR (CX:CXT) (outer:List Env) (P:Program) (w:World) (H:Hp) (s:Shared) (Q:VK) (E:XK) (r:Result) (s':Shared):Prop:=
 match r with
 | .ok (.ret u)=>CE outer P w H s Q u s'
 | .ok _=>False
 | .error e=>CX outer H s E e s'
structure FnOk (P:Program) (w:World) (K:W.Frag) (mg:Str->Option Value) (base:Heap) (CX:CXT) (k:Nat) (f:Addr) (fd:FuncData) (ps:List Str) (sp:Sp):Prop where
 len:∀vs H Q E,sp vs H Q E->vs.length=ps.length
 run:∀(A:Around) (outer:List Env) (s:Shared) (H:Hp) (args:Args) (us:List Value) (vs:List V) (Q:VK) (E:XK),Room k A->Env0 P w K mg base A outer s H->BindsTo s fd args (ps.zip us)->aB' vs us->sp vs H Q E->
  codeAny (model P w) A (.call (.ref f) args) (CR CX outer P w H s Q E) s
theorem FnOk.mono {P:Program} {w:World} {K:W.Frag} {mg:Str->Option Value} {base:Heap} {CX:CXT} {j k:Nat} {f:Addr} {fd:FuncData} {ps:List Str} {sp:Sp} (F:FnOk P w K mg base CX j f fd ps sp) (h:j<=k):
  FnOk P w K mg base CX k f fd ps sp:=⟨F.len,fun A outer s H args us vs Q E hr=>F.run A outer s H args us vs Q E (hr.mono h)⟩
section
variable {X:Cx} {pins:List (Addr×Obj)} {σ:St} {H:Hp} {s s':Shared}
theorem Inv.env0 (I:Inv X pins σ H s):Env0 X.prog X.w X.K X.mg X.base X.A X.stack s H:=
 ⟨I.ok.frames,I.ok.mod,I.bs,aM I.ok.bsz I.sz,I.stack,I.stkFree,I.hok,I.bare⟩
theorem Inv.after {Q:VK} {u:Value} (I:Inv X pins σ H s) (h:CE X.stack X.prog X.w H s Q u s'):EP X pins σ Q u s':=by
 obtain⟨v,H',os,bare,un,hok,r,q⟩:=h
 obtain⟨hh,g,d,t,os'⟩:=s'
 obtain rfl:os'=s.os:=os
 exact⟨v,H',I.call (h':=hh) (g':=g) (d':=d) (t':=t) (ch:=[]) un hok bare (fun b z=>absurd z (by simp)),r,q⟩
end
def mj' (sp:Sp) (dvs:List V) (E:XK) (t:TA):TE:=fun σ H Q=>t σ H fun vs H1=>sp (vs++dvs) H1 Q E
def ed' (K:W.Frag) (fd:FuncData) (ps:List Str) (ds:List Value):Prop:=
 ∀(s:Shared) (us:List Value),K.In s.heap->(us++ds).length=ps.length->BindsTo s fd ⟨us,[]⟩ (ps.zip (us++ds))
theorem ed'.all {K:W.Frag} {fd:FuncData} {ps:List Str} (h:∀us:List Value,us.length=ps.length->bindArgs fd ⟨us,[]⟩=pure (ps.zip us)):ed' K fd ps []:=fun s us _ hl=>by
 rw[cA]at hl ⊢
 exact .of_eq (h us hl)
section
variable {X:Cx} {CX:CXT} {k:Nat} {f C:Addr} {fd:FuncData} {ps:List Str} {sp:Sp} {dvs:List V} {ds:List Value} {E:XK} {x m:Str} {p pos apos:Pos} {e o:Expr} {es:List Expr} {ta:TE} {t:TA}
structure Mk (K:W.Frag) (C f:Addr):Prop where
 makes:W.makesIn K C=true
 init:W.findIn K (.ref C) "__init__"=some (some (.ref f))
 fn:W.isFn K (.ref f)=true
 kp:W.keepIn K (.ref C)=true
end
section
variable {X:Cx} {CX:CXT} {k:Nat} {f C:Addr} {fd:FuncData} {ps ks:List Str} {sp:Sp} {E:XK} {x m:Str} {p pos apos kpos:Pos} {e o:Expr} {es:List Expr} {kws:List Keyword} {te ta:TE} {t tk:TA} {nm:Option Str}
structure KBinds (K:W.Frag) (fd:FuncData) (ps ks:List Str) (g:List Value->List Value->List Value) (gV:List V->List V->List V):Prop where
 to:∀(s:Shared) (us ws:List Value),K.In s.heap->(g us ws).length=ps.length->BindsTo s fd ⟨us,ks.zip ws⟩ (ps.zip (g us ws))
 rel:∀{vs:List V} {us:List Value} {zs:List V} {ws:List Value},aB' vs us->aB' zs ws->aB' (gV vs zs) (g us ws)
variable {g:List Value->List Value->List Value} {gV:List V->List V->List V}
end
structure FnScope (N P:List Str) (sc:Scope):Prop where
 kind:sc.kind=.function
 co:sc.isCoroutine=false
 gen:sc.isGenerator=false
 nd:N.Nodup
 pre:N.take P.length=P
 par:∀x∈P,sc.names.lookup x=some .local\/sc.names.lookup x=some .cell
 nofree:∀y∈sc.names,y.2≠.free
theorem fz' {kindOf:Str->Option NameKind} {x:Str}:∀{binds:List (Str×Value)} {m:Str->Option Value},(∀v,(x,v)∉binds)->bindL kindOf binds m x=m x
 | [],_,_=>rfl
 |(n,v) :: r,m,h=>by
  unfold bindL
  rw[fz' fun w hw=>h w (aw _ hw)]
  split
  .have:x≠n:=by rintro rfl;exact h v ay
   simp[this]
  .rfl
theorem fA' {kindOf:Str->Option NameKind} {x:Str}:∀{binds:List (Str×Value)} {m:Str->Option Value},(∀v,(x,v)∉binds)->bindC kindOf binds m x=m x
 | [],_,_=>rfl
 |(n,v) :: r,m,h=>by
  unfold bindC
  rw[fA' fun w hw=>h w (aw _ hw)]
  split
  .rfl
  .have:x≠n:=by rintro rfl;exact h v ay
   simp[this]
theorem fB' {kindOf:Str->Option NameKind} {x:Str} {v:Value}:∀{P:List Str} {vs:List Value} {i:Nat} {m:Str->Option Value},P.Nodup->P[i]?=some x->vs[i]?=some v->kindOf x=some .local->
  bindL kindOf (P.zip vs) m x=some v
 | [],_,_,_,_,h,_,_=>by simp at h
 |_ :: _,[],_,_,_,_,h,_=>by simp at h
 |p :: P,w :: vs,0,m,nd,h1,h2,hk=>by
  simp at h1 h2;subst h1;subst h2
  show bindL kindOf ((p,w) :: P.zip vs) m p=_
  unfold bindL
  rw[fz' fun v hv=>(bu.mp nd).1 (List.of_mem_zip hv).1,if_pos hk]
  simp
 |p :: P,w :: vs,i+1,m,nd,h1,h2,hk=>by
  show bindL kindOf ((p,w) :: P.zip vs) m x=_
  unfold bindL
  exact fB' (i:=i) (bu.mp nd).2 (by simpa using h1) (by simpa using h2) hk
theorem fC' {kindOf:Str->Option NameKind} {x:Str} {v:Value}:∀{P:List Str} {vs:List Value} {i:Nat} {m:Str->Option Value},P.Nodup->P[i]?=some x->vs[i]?=some v->kindOf x≠some .local->
  bindC kindOf (P.zip vs) m x=some v
 | [],_,_,_,_,h,_,_=>by simp at h
 |_ :: _,[],_,_,_,_,h,_=>by simp at h
 |p :: P,w :: vs,0,m,nd,h1,h2,hk=>by
  simp at h1 h2;subst h1;subst h2
  show bindC kindOf ((p,w) :: P.zip vs) m p=_
  unfold bindC
  rw[fA' fun v hv=>(bu.mp nd).1 (List.of_mem_zip hv).1,if_neg hk]
  simp
 |p :: P,w :: vs,i+1,m,nd,h1,h2,hk=>by
  show bindC kindOf ((p,w) :: P.zip vs) m x=_
  unfold bindC
  exact fC' (i:=i) (bu.mp nd).2 (by simpa using h1) (by simpa using h2) hk
def aQ' (N:List Str) (vs:List V):St:=vs.map some++aC (N.length-vs.length) none
def rL' (CX:CXT) (P:Program) (w:World) (K:W.Frag) (mg:Str->Option Value) (base:Heap) (N:List Str) (qual:Str) (scope:Scope) (f:Addr) (cd:Value) (A:Around) (outer:List Env) (s:Shared) (H:Hp) (E:XK):Cx where
 prog:=P
 w:=w
 K:=K
 mg:=mg
 base:=base
 A:=A.deeper (envOfC qual scope s.heap.objs.size f cd)
 N:=N
 s₀:=s
 H₀:=H
 env:=envOfC qual scope s.heap.objs.size f cd
 outer:=outer
 stack:=envOfC qual scope s.heap.objs.size f cd :: outer
 ex:=[]
 calm:=true
 fn:=fun _=>true
 pn:=[]
 xe:=fun e s'=>wpAny (model P w) (A.deeper (envOfC qual scope s.heap.objs.size f cd)) (leaving (envOfC qual scope s.heap.objs.size f cd) e) (fun _ s''=>CX outer H s E e s'') (fun e' s''=>CX outer H s E e' s'') s'
theorem eY' {sc:Scope} {n:Nat} {x:Str} (h:sc.names.lookup x=some .cell):∃c,(cellsFrom n sc.names []).lookup x=some c:=by
 have q:=W.cellsFrom_some sc.names n [] (.inl h)
 exact Option.isSome_iff_exists.mp q
theorem jA' {CX:CXT} {P:Program} {w:World} {K:W.Frag} {mg:Str->Option Value} {base:Heap} {N ps:List Str} {qual:Str} {scope:Scope} {f:Addr} {cd:Value} {A:Around} {outer:List Env} {s s1:Shared} {H:Hp} {E:XK} {us:List Value} {vs:List V}
  (S:FnScope N ps scope) (hd:A.handled=none) (e0:Env0 P w K mg base A outer s H) (hl:vs.length=ps.length) (r:aB' vs us)
  (x:InCallC s s.heap.objs.size (bindL (envOfC qual scope s.heap.objs.size f cd).kindOf (ps.zip us) fun _=>none) (cellsFrom (s.heap.objs.size+1) scope.names []) (bindC (envOfC qual scope s.heap.objs.size f cd).kindOf (ps.zip us) fun _=>none) s1):
  Inv (rL' CX P w K mg base N qual scope f cd A outer s H E) [] (aQ' N vs) H s1:=by
 have hpl:ps.length<=N.length:=by have:=congrArg List.length S.pre;rw[aI]at this;omega
 obtain⟨h1,tk,rfl,hk⟩:=x.done
 have noA:∀b:Addr,b∉(rL' CX P w K mg base N qual scope f cd A outer s H E).ex:=fun b z=>absurd (show b∈([]:List Addr) from z) (by simp)
 refine⟨⟨e0.mod,S.kind,rfl,rfl,ah _,fun y z c h1 h2=>?_,fun y hy=>?_,fun y c _ h=>?_,fun _=>hd,Around.frames_deeper e0.frames,.inr ⟨rfl,rfl⟩,fun b z=>absurd z (noA b),e0.bs,e0.bsz,fun b _ _=>noA b,fun b z=>absurd z (noA b),e0.funs,e0.frf⟩,
  rfl,e0.bare,Un.kept hk,⟨_,x.toInCall.ns,fun i y v h1 h2 h3=>?_⟩,fun y c h=>⟨_,x.cell y c h⟩,e0.hok.fresh (ah _),fun y c h=>?_,fun p hp=>absurd (show p∈([]:List (Addr×Obj)) from hp) (by simp),e0.hok.kept hk,?_⟩
 .exact name_of_addr x.apart (PySem.mem_of_lookup h1) (PySem.mem_of_lookup h2)
 .have hy:scope.names.lookup y=some .cell\/scope.names.lookup y=some .free:=hy
  rcases hy with hy|hy
  .exact eY' hy
  .exact absurd rfl (S.nofree _ (PySem.mem_of_lookup hy))
 .exact bK (x.above y c (PySem.mem_of_lookup h))
 .have hi:i<vs.length:=by
   unfold aQ' at h2
   by_cases hi:i<vs.length
   .exact hi
   .rw[List.getElem?_append_right (by simpa using hi)]at h2
    rw[List.getElem?_replicate]at h2
    split at h2<;>cases h2
  have ha:vs[i]?=some v:=by
   unfold aQ' at h2
   rw[List.getElem?_append_left (by simpa using hi),au]at h2
   cases e:vs[i]? with
   |none=>rw[e]at h2;cases h2
   |some a=>rw[e]at h2;cases h2;rfl
  obtain⟨u,hu,rv⟩:=r.get ha
  have hp:ps[i]?=some y:=by
   rw[<- S.pre,List.getElem?_take_of_lt (by omega)];exact h1
  have ndP:ps.Nodup:=by rw[<- S.pre];exact S.nd.sublist (List.take_sublist _ _)
  refine⟨u,rv,?_⟩
  rcases S.par y (av hp)with k|k
  .exact .inl ⟨k,fB' ndP hp hu k⟩
  .obtain⟨c,e⟩:=eY' (n:=s.heap.objs.size+1) k
   refine .inr ⟨.inl k,c,e,?_⟩
   have q:=x.cell y c e
   rw[fC' ndP hp hu (by show scope.names.lookup y≠_;rw[k];decide)]at q
   exact q
 .exact e0.hok.fresh (bK (x.above y c (PySem.mem_of_lookup h)))
 .unfold aQ'
  show _=N.length
  rw[aB,af,List.length_replicate]
  omega
theorem w0' {CX:CXT} {P:Program} {w:World} {K:W.Frag} {mg:Str->Option Value} {base:Heap} {k:Nat} {f:Addr} {name qual:Str} {params:Arguments} {body:List Stmt} {scope:Scope} {dV kV doc pm cdv ct oc:Value} {an od:Option Addr}
  {osl:Array (Option Value)} {N ps:List Str} {sp:Sp} (lk:K.lookup f=some ⟨oc,od,.func (W.fnOf name qual params body scope dV kV doc pm an cdv ct),osl⟩) (hcd:W.codeIn K cdv qual=true) (S:FnScope N ps scope)
  (len:∀vs H Q E,sp vs H Q E->vs.length=ps.length)
  (hbody:∀(A:Around) (outer:List Env) (s:Shared) (H:Hp) (vs:List V) (Q:VK) (E:XK),Room k (A.deeper (envOfC qual scope s.heap.objs.size f cdv))->sp vs H Q E->
   ∃t,PSs (rL' CX P w K mg base N qual scope f cdv A outer s H E) body t/\t { nx:=fun _ H'=>Q .non H',rt:=Q } (aQ' N vs) H):
  FnOk P w K mg base CX (k+1) f (W.fnOf name qual params body scope dV kV doc pm an cdv ct) ps sp:=by
 refine⟨len,fun A outer s H args us vs Q E hr e0 hb r hsp=>?_⟩
 have hl:=len _ _ _ _ hsp
 have KX:K.In s.heap:=e0.mod.kin.keeps fun b o e=>(e0.bs b o e).1
 have lim:s.heap.NoLimit:=e0.mod.nolimit.keeps fun b o e=>(e0.bs b o e).1
 have hkind:∀y∈ps.zip us,scope.names.lookup y.1=some .local\/(scope.names.lookup y.1=some .cell/\((cellsFrom (s.heap.objs.size+1) scope.names []).lookup y.1).isSome=true):=fun⟨n,v⟩ hy=>by
  rcases S.par n (List.of_mem_zip hy).1 with q|q
  .exact .inl q
  .exact .inr ⟨q,W.cellsFrom_some _ _ _ (.inl q)⟩
 refine codeAny_call_function hr.depth (KX _ _ lk) rfl S.co S.gen rfl (W.codeRec_of KX hcd) (hb _ _ _ _ ?_)
 refine wpAny_newFunctionEnv_cells S.kind hkind fun env he s1 x=>?_
 subst he
 refine⟨lim.keeps x.toInCall.keep,codeAny_func ?_⟩
 obtain⟨t,ht,hq⟩:=hbody A outer s H vs Q E (hr.deeper _) hsp
 have I:Inv (rL' CX P w K mg base N qual scope f cdv A outer s H E) [] (aQ' N vs) H s1:=jA' S hr.hd e0 hl r x
 refine wpAny_mono (ht [] s1 (aQ' N vs) H _ I hq) (fun fl s' hs=>?_) fun e s' hs=>hs
 have fin:∀{σ':St} {H':Hp} {v:V} {u:Value},Inv (rL' CX P w K mg base N qual scope f cdv A outer s H E) [] σ' H' s'->ay' v u->Q v H'->CE outer P w H s Q u s':=
  fun {σ' H' v u} J rv q=>⟨v,H',J.os,J.bare,J.base,J.hok,rv,q⟩
 cases fl with
 |ret u=>
  obtain⟨v,σ',H',J,rv,q⟩:=hs
  exact fin J rv q
 |next=>
  obtain⟨σ',H',J,q⟩:=hs
  exact fin (v:=V.non) (u:=Value.none) J rfl q
 |brk=>
  obtain⟨_,_,_,q⟩:=hs
  exact False.elim q
 |cont=>
  obtain⟨_,_,_,q⟩:=hs
  exact False.elim q
section
variable {X:Cx} {x:Str} {p pos:Pos} {e:Expr} {es:List Expr} {t:TA} {id T:String} {r:List V->Hp->VK->Prop}
def tCB (r:List V->Hp->VK->Prop) (t:TA):TE:=fun σ H Q=>t σ H fun vs H1=>r vs H1 Q
theorem ml' (hc:aP' X (.builtin id) r) (hg:Gl X x) (hm:X.mg x=none) (hv:bootBuiltins x=some (.builtin id)) (ha:PA X (e :: es) t) (hn:x≠"__name__":=by decide) (hdb:(x == ("__debug__":Str))=false:=by decide)
  (he:starEach (e :: es) X.env=(false,eval e X.env) :: starEach es X.env:=by rfl) (hpl:(backTo pos (starEach es X.env)).any (·.1)=false:=by rfl):PE X (.Call (.Name x p) (e :: es) [] pos) (tCB r t):=by
 intro pins s σ H Q I h
 refine wpAny_Call_Name_kw (dA' I hg hm hv ?_ hn hdb)
 exact PyProof.Rows.callWith_builtin1 (thn (ha pos pins s σ H _ I h) fun us s1 ⟨vs,H1,I1,r1,q1⟩=>hc pins s1 σ H1 vs us Q I1 r1 q1) he hpl
theorem fD' (hc:aP' X (.type T) r) (hg:Gl X x) (hm:X.mg x=none) (hv:bootBuiltins x=some (.type T)) (ha:PA X (e :: es) t) (hn:x≠"__name__":=by decide) (hdb:(x == ("__debug__":Str))=false:=by decide)
  (he:starEach (e :: es) X.env=(false,eval e X.env) :: starEach es X.env:=by rfl) (hpl:(backTo pos (starEach es X.env)).any (·.1)=false:=by rfl):PE X (.Call (.Name x p) (e :: es) [] pos) (tCB r t):=by
 intro pins s σ H Q I h
 refine wpAny_Call_Name_kw (dA' I hg hm hv ?_ hn hdb)
 exact PyProof.Rows.callWith_type1 (thn (ha pos pins s σ H _ I h) fun us s1 ⟨vs,H1,I1,r1,q1⟩=>hc pins s1 σ H1 vs us Q I1 r1 q1) he hpl
end
end L2
namespace HT
open PySem PyProof.Rows
section
open PySem.SeqAt
open PySem.AutoSeq1 (wpAny_loadPart')
open PySem.MeetsSeq PySem.MeetsSeq2 PySem.MeetsSeq3
end
section
variable {prog:Program} {w:World} {A:Around} {E:Value->Shared->Prop} {s:Shared}
theorem pB' {t b:Addr} {vs ws:List Value} {Q:Value->Shared->Prop} (ht:IsTup s.heap t vs.toArray) (hb:IsTup s.heap b ws.toArray) (hv:vs≠[])
  (h1:ws=[]->Q (.ref t) s) (h2:ws≠[]->Q (.ref s.heap.objs.size) { s with heap:=s.heap.push { cls:=.type "tuple",data:=.seq (vs++ws).toArray } })
  (hsz:vs.length+ws.length<=sizeLine):wpAny (model prog w) A (binaryOp .Add (.ref t) (.ref b)) Q E s:=by
 obtain⟨⟨cls,dd,data,sl⟩,ho,hc,n,hd⟩:=id ht
 obtain⟨⟨cls2,dd2,data2,sl2⟩,ho2,hc2,n2,hd2⟩:=id hb
 simp only at hc hd hc2 hd2
 subst hc hd hc2 hd2
 have e:vs.toArray++ws.toArray=(vs++ws).toArray:=by simp
 by_cases hw:ws=[]
 .exact concat_meets ⟨_,ho,rfl⟩ ⟨_,ho2,rfl⟩ noFill_tuple_add seq_tuple_add PySem.F.slot_tuple_add PySem.F.entry_tuple_add (PySem.F.args_tuple_add_2 _ _)
   (tuple_addW1 t b vs.toArray ws.toArray n n2 dd dd2 sl sl2 (by simpa using hv) (by simp[hw])) ⟨ho,ho2,h1 hw⟩
 .refine concat_meets ⟨_,ho,rfl⟩ ⟨_,ho2,rfl⟩ noFill_tuple_add seq_tuple_add PySem.F.slot_tuple_add PySem.F.entry_tuple_add (PySem.F.args_tuple_add_2 _ _)
   (tuple_addW2 t b vs.toArray ws.toArray n n2 dd dd2 sl sl2 (by simpa using hv) (by simpa using hw) (by rw[ao,ao];exact hsz)) ⟨ho,ho2,?_⟩
  rw[e]
  exact h2 hw
def sIx (n d:Nat):Option Int->Nat
 |none=>d
 |some v=>if v<0 then(v+(n:Int)).toNat else min v.toNat n
theorem sq' (n d:Nat) (hd:d<=n) (o:Option Int):sIx n d o<=n:=by
 cases o with
 |none=>exact hd
 |some v=>
  show(if v<0 then(v+(n:Int)).toNat else min v.toNat n)<=n
  by_cases hv:v<0
  .rw[if_pos hv];omega
  .rw[if_neg hv];exact Nat.min_le_right _ _
theorem jB' (v:Int) (n d:Nat):(if v<0 then max (v+(n:Int)) 0 else min v (n:Int))=((sIx n d (some v):Nat):Int):=by
 show(if v<0 then max (v+(n:Int)) 0 else min v (n:Int))=(((if v<0 then(v+(n:Int)).toNat else min v.toNat n):Nat):Int)
 by_cases hv:v<0
 .simp only[if_pos hv];omega
 .simp only[if_neg hv];omega
theorem iB' (lo hi:Option Int) (n:Nat):Builtin.Slice.sliceAdjust lo hi 1 (n:Int)=(((sIx n 0 lo:Nat):Int),((sIx n n hi:Nat):Int)):=by
 have h1:¬((1:Int)<0):=by omega
 unfold Builtin.Slice.sliceAdjust
 simp only[h1,if_false]
 refine Prod.ext ?_ ?_
 .cases lo with
  |none=>rfl
  |some v=>exact jB' v n 0
 .cases hi with
  |none=>rfl
  |some v=>exact jB' v n n
theorem iC' (i j:Nat):Builtin.Slice.slicePlaces (i:Int) (j:Int) 1=j-i:=by
 unfold Builtin.Slice.slicePlaces
 have h1:(1:Int) > 0:=by omega
 simp only[h1,if_true,Int.ediv_one]
 split<;>omega
theorem eC' {v:Value} {o:Option Int} {Q:Option Int->Shared->Prop} (p:IsPart v o) (h:Q o s):wpAny (model prog w) A (Builtin.Slice.slicePartIndex v) Q E s:=by
 cases p with
 |none=>exact slicePart_none h
 |int i t=>exact slicePart_int h
theorem b9' {sl:Addr} {vl vu:Value} {lo hi:Option Int} {n:Nat} {Q:Int×Int×Nat->Shared->Prop} (hs:s.heap.IsSliceOf sl vl vu .none) (pl:IsPart vl lo) (pu:IsPart vu hi)
  (h:Q (((sIx n 0 lo:Nat):Int),1,sIx n n hi-sIx n 0 lo) s):wpAny (model prog w) A (Builtin.Slice.sliceApplied (.ref sl) (pure (n:Int))) Q E s:=by
 obtain⟨os,hos,hcs,hds⟩:=id hs
 unfold Builtin.Slice.sliceApplied Builtin.Slice.sliceFields
 refine aa (aa (bm hos hds (x:=vl) rfl (aa (bm hos hds (x:=vu) rfl (aa (bm hos hds (x:=.none) rfl (ae ?_)))))))
 refine aa (slicePart_none ?_)
 show wpAny _ _ (if((1:Int) == 0)=true then _ else _) _ _ s
 rw[if_neg (by decide)]
 refine aa (eC' pl (aa (eC' pu (aa (ae ?_)))))
 show wpAny _ _ (match Builtin.Slice.sliceAdjust lo hi 1 (n:Int)with|(lo,hi)=>pure (lo,(1:Int),Builtin.Slice.slicePlaces lo hi 1)) _ _ s
 rw[iB' lo hi n]
 show wpAny _ _ (pure (((sIx n 0 lo:Nat):Int),(1:Int),Builtin.Slice.slicePlaces ((sIx n 0 lo:Nat):Int) ((sIx n n hi:Nat):Int) 1)) _ _ s
 rw[iC']
 exact ae h
theorem mm' (xs:Array Value) (i k:Nat):((aF k).filterMap fun(m:Nat)=>xs[((i:Int)+(m:Int)*1).toNat]?).toArray=((xs.toList.drop i).take k).toArray:=by
 have e:(fun(m:Nat)=>xs[((i:Int)+(m:Int)*1).toNat]?)=fun m=>xs[i+m]?:=by
  funext m
  have:((i:Int)+(m:Int)*1).toNat=i+m:=by omega
  rw[this]
 rw[e]
 have:=pick_run xs i k
 rw[List.filterMap_map]at this
 have e2:((fun x=>xs[x]?)∘fun x=>i+x)=fun m=>xs[i+m]?:=rfl
 rw[e2]at this
 rw[this]
theorem c8' {t sl:Addr} {items:Array Value} {vl vu:Value} {lo hi:Option Int} {Q:Value->Shared->Prop} (ht:IsTup s.heap t items) (hs:s.heap.IsSliceOf sl vl vu .none) (pl:IsPart vl lo) (pu:IsPart vu hi)
  (hw:¬(sIx items.size 0 lo=0/\sIx items.size items.size hi=items.size))
  (h:Q (.ref s.heap.objs.size) { s with heap:=s.heap.push { cls:=.type "tuple",data:=.seq ((items.toList.drop (sIx items.size 0 lo)).take (sIx items.size items.size hi-sIx items.size 0 lo)).toArray } })
  (hsz:items.size<=sizeLine):wpAny (model prog w) A (getItem (.ref t) (.ref sl)) Q E s:=by
 have htake:sizeOk (.seq ((items.toList.drop (sIx items.size 0 lo)).take (sIx items.size items.size hi-sIx items.size 0 lo)).toArray):=by
  show((items.toList.drop (sIx items.size 0 lo)).take (sIx items.size items.size hi-sIx items.size 0 lo)).toArray.size<=sizeLine
  rw[ao,aI,cL,aA]
  omega
 have hj:sIx items.size items.size hi<=items.size:=sq' _ _ (ah _) hi
 obtain⟨os,hos,hcs,hds⟩:=id hs
 have hTs:s.TypeIs (.ref sl) "slice":=⟨os,hos,hcs⟩
 unfold getItem
 try with_reducible refine aE ?_
 first|refine aa (ae ?_)|skip
 refine aa (wpAny_sequenceKey ht.typeIs (by decide) ?_)
 refine aa (aN (name:=Str.ofString "__getitem__") ht.typeIs PyProof.Rows.slot_tuple_getitem
  (aU PyProof.Rows.slot_tuple_getitem ht.typeIs entry_tuple_getitem ?_ (args_tuple_getitem _ _)))
 show wpAny _ _ (Builtin.Tuple.tupleItemsOf (.ref t) >>= _) _ _ s
 refine aa (tupleItemsOf_ ht ?_)
 refine aa (wpAny_typeOf hTs ?_)
 rw[if_pos (by decide)]
 refine aa (b9' hs pl pu ?_)
 have hno:¬((((sIx items.size 0 lo:Nat):Int) == 0&&(1:Int) == 1&&(sIx items.size items.size hi-sIx items.size 0 lo) == items.size)=true):=by
  intro q
  rw[ag,ag]at q
  have q1:((sIx items.size 0 lo:Nat):Int)=0:=eq_of_beq q.1.1
  have q2:sIx items.size items.size hi-sIx items.size 0 lo=items.size:=eq_of_beq q.2
  exact hw ⟨by omega,by omega⟩
 show wpAny _ _ (if(((sIx items.size 0 lo:Nat):Int) == 0&&(1:Int) == 1&&(sIx items.size items.size hi-sIx items.size 0 lo) == items.size)=true then _ else _) _ _ s
 rw[if_neg hno,mm']
 first
  |exact aa (m:=Builtin.Tuple.tupleExact _) (bc (ae ⟨_,rfl,ae h⟩) htake)
  |exact aa (m:=Builtin.Tuple.tupleExact _) (bc (aa (ae (ae ⟨_,rfl,ae h⟩))) htake)
  |exact aa (aa (m:=Builtin.Tuple.tupleExact _) (bc (ae (ae ⟨_,rfl,ae h⟩)) htake))
  |exact aa (aa (m:=Builtin.Tuple.tupleExact _) (bc (ae ⟨_,rfl,ae h⟩) htake))
end
end HT
namespace L2
open PySem PySem.Spec PyProof.Rows
abbrev TO:=St->Hp->(Option Int->Hp->Prop)->Prop
def PO (X:Cx) (e:Option Expr) (t:TO):Prop:=
 ∀(pins:List (Addr×Obj)) (s:Shared) (σ:St) (H:Hp) (Q:Option Int->Hp->Prop),Inv X pins σ H s->t σ H Q->
  wpAny (model X.prog X.w) X.A (evalPart e X.env) (fun u s'=>∃o H',Inv X pins σ H' s'/\IsPart u o/\Q o H') X.xe s
def gz':TO:=fun _ H Q=>Q none H
def pC' (t:TE):TO:=fun σ H Q=>t σ H fun x H1=>∃i,x=.int i/\Q (some i) H1
theorem eD' {ns:List Int}:∀{us:List Value},aB' (ns.map V.int) us->IntsAre us ns:=by
 induction ns with
 |nil=>intro us r;rw[List.map_nil]at r;cases r;exact .nil
 |cons n ns ih=>
  intro us r
  rw[aL]at r
  cases r with
  |cons r1 r2=>
   obtain⟨t,e⟩:=r1
   subst e
   exact .cons n t (ih r2)
section
variable {X:Cx} {e:Expr} {te:TE} {lo hi:Option Expr} {tl th:TO} {pos p2:Pos}
theorem pD':PO X none gz':=by
 intro pins s σ H Q I h
 rw[evalPart_none]
 exact ae ⟨none,H,I,.none,h⟩
theorem pE' (h:PE X e te):PO X (some e) (pC' te):=by
 intro pins s σ H Q I hw
 rw[evalPart_some]
 refine thn (h pins s σ H _ I hw) fun u s1 ⟨x,H1,I1,r1,q1⟩=>?_
 obtain⟨i,rfl,q⟩:=q1
 obtain⟨t,rfl⟩:=r1
 exact⟨some i,H1,I1,.int i t,q⟩
def SlR (X:Cx) (r:V->Option Int->Option Int->Hp->VK->Prop):Prop:=
 ∀(pins:List (Addr×Obj)) (s:Shared) (σ:St) (H:Hp) (x:V) (v vl vu:Value) (lo hi:Option Int) (sl:Addr) (Q:VK),Inv X pins σ H s->ay' x v->s.heap.IsSliceOf sl vl vu .none->IsPart vl lo->IsPart vu hi->r x lo hi H Q->
  ∃T id,typeLookup (.type T) "__getitem__"=pure (some (.builtin id))/\s.TypeIs v T/\wpAny (model X.prog X.w) X.A (getItem v (.ref sl)) (EP X pins σ Q) X.xe s
theorem SlR.or {r r':V->Option Int->Option Int->Hp->VK->Prop} (h:SlR X r) (h':SlR X r'):SlR X (fun x lo hi H Q=>r x lo hi H Q\/r' x lo hi H Q):=by
 intro pins s σ H x v vl vu lo hi sl Q I rx hs pl pu q
 rcases q with q|q
 .exact h pins s σ H x v vl vu lo hi sl Q I rx hs pl pu q
 .exact h' pins s σ H x v vl vu lo hi sl Q I rx hs pl pu q
def tSl (r:V->Option Int->Option Int->Hp->VK->Prop) (te:TE) (tl th:TO):TE:=fun σ H Q=>te σ H fun x H1=>tl σ H1 fun l H2=>th σ H2 fun u H3=>r x l u H3 Q
theorem mn' {r:V->Option Int->Option Int->Hp->VK->Prop} (hr:SlR X r) (he:PE X e te) (hl:PO X lo tl) (hu:PO X hi th):PE X (.Subscript e (.Slice lo hi none p2) pos) (tSl r te tl th):=by
 intro pins s σ H Q I h
 refine Subscript_ (thn (he pins s σ H _ I h) fun v s1 ⟨x,H1,I1,r1,q1⟩=>?_)
 refine wpAny_Slice (thn (hl pins s1 σ H1 _ I1 q1) fun vl s2 ⟨l,H2,I2,pl,q2⟩=>thn (hu pins s2 σ H2 _ I2 q2) fun vu s3 ⟨u,H3,I3,pu,q3⟩=>?_)
 rw[evalPart_none]
 refine ae ?_
 have I4:Inv X pins σ H3 { s3 with heap:=s3.heap.push { cls:=.type "slice",data:=.fields #[vl,vu,.none] } }:=I3.kept (t':=s3.toks) fun b ob q=>ab _ q
 obtain⟨T,id,hT,ht,hg⟩:=hr pins { s3 with heap:=s3.heap.push { cls:=.type "slice",data:=.fields #[vl,vu,.none] } } σ H3 x v vl vu l u s3.heap.objs.size Q I4 r1 (Heap.IsSliceOf.new ..) pl pu q3
 show wpAny (model X.prog X.w) X.A (subscriptTail e (.Slice lo hi none p2) v (.ref s3.heap.objs.size)) (EP X pins σ Q) X.xe { s3 with heap:=s3.heap.push { cls:=.type "slice",data:=.fields #[vl,vu,.none] } }
 exact tail_any (ops:=[.ref s3.heap.objs.size,v]) ht hT hg (by with_unfolding_all rfl)
def oj' (xs:List V) (lo hi:Option Int):List V:=(xs.drop (HT.sIx xs.length 0 lo)).take (HT.sIx xs.length xs.length hi-HT.sIx xs.length 0 lo)
theorem dC' (xs:List V) (lo hi:Option Int):(oj' xs lo hi).length<=xs.length:=by
 unfold oj'
 rw[aI,cL]
 omega
def wf' (K:W.Frag):V->Option Int->Option Int->Hp->VK->Prop:=fun x lo hi H Q=>∃a xs,x=.ref a/\SqT K H a xs/\
 ¬(HT.sIx xs.length 0 lo=0/\HT.sIx xs.length xs.length hi=xs.length)/\∀p,H p=none->Q (.ref p) (upd H p (.tup (oj' xs lo hi)))
theorem sr':SlR X (wf' X.K):=by
 intro pins s σ H x v vl vu lo hi sl Q I rx hs pl pu h
 obtain⟨a,xs,rfl,hx,hw,q⟩:=h
 cases rx
 obtain⟨its,r,ht,hz⟩:=I.tuple hx
 have hlen:its.toArray.size=xs.length:=by rw[ao];exact r.length.symm
 refine⟨"tuple",_,PyProof.Rows.slot_tuple_getitem.lookup,ht.typeIs,?_⟩
 refine HT.c8' ht hs pl pu (by rw[hlen];exact hw) ?_ (by rw[hlen];exact hz)
 rw[hlen]
 refine⟨.ref s.heap.objs.size,_,I.laid (t':=s.toks) (o:=.tup (oj' xs lo hi)) (fun b ob q=>ab _ q) (ah _) ?_,rfl,q _ (I.hok.fresh (ah _))⟩
 exact⟨aM (dC' xs lo hi) hz,_,(r.drop (HT.sIx xs.length 0 lo)).take (HT.sIx xs.length xs.length hi-HT.sIx xs.length 0 lo),ob'.new _ _⟩
def ss' (K:W.Frag):R2:=fun x y H Q=>∃a b xs ys,x=.ref a/\y=.ref b/\SqT K H a xs/\SqT K H b ys/\xs≠[]/\xs.length+ys.length<=sizeLine/\
 (ys=[]->Q (.ref a) H)/\(ys≠[]->∀p,H p=none->Q (.ref p) (upd H p (.tup (xs++ys))))
theorem aB'.nil_iff {xs:List V} {us:List Value} (r:aB' xs us):us=[]↔xs=[]:=by
 cases r with
 |nil=>simp
 |cons _ _=>simp
theorem pF':OpR X (binaryOp .Add) (ss' X.K):=by
 intro pins s σ H x y v u Q I rx ry h
 obtain⟨a,b,xs,ys,rfl,rfl,ha,hb,hx,hz,q1,q2⟩:=h
 cases rx
 cases ry
 obtain⟨its,r1,p1,_⟩:=I.tuple ha
 obtain⟨its2,r2,p2,_⟩:=I.tuple hb
 refine HT.pB' p1 p2 (fun z=>hx (r1.nil_iff.mp z)) (fun z=>⟨.ref a,H,I,rfl,q1 (r2.nil_iff.mp z)⟩) (fun z=>?_) (by rw[<- r1.length,<- r2.length];exact hz)
 refine⟨.ref s.heap.objs.size,_,I.laid (t':=s.toks) (o:=.tup (xs++ys)) (fun b ob q=>ab _ q) (ah _) ?_,rfl,q2 (fun w=>z (r2.nil_iff.mpr w)) _ (I.hok.fresh (ah _))⟩
 exact⟨by rw[aB];exact hz,_,r1.append r2,ob'.new _ _⟩
end
def ixN (n:Nat) (i:Int):Option Nat:=if 0<=i then(if i<n then some i.toNat else none)else if -(n:Int)<=i then some (i+n).toNat else none
def atI {α:Type} (xs:List α) (i:Int):Option α:=(ixN xs.length i).bind fun j=>xs[j]?
theorem jC' {n:Nat} {i:Int} {j:Nat} (h:ixN n i=some j):seqIndex? i n=some j/\j<n/\-(n:Int)<=i/\i<n:=by
 unfold ixN at h
 by_cases h0:0<=i
 .rw[if_pos h0]at h
  by_cases h1:i<n
  .rw[if_pos h1]at h
   have e:i.toNat=j:=Option.some.inj h
   exact⟨by rw[seqIndex_of h0 h1,e],by omega,by omega,h1⟩
  .rw[if_neg h1]at h;cases h
 .rw[if_neg h0]at h
  by_cases h1:-(n:Int)<=i
  .rw[if_pos h1]at h
   have e:(i+n).toNat=j:=Option.some.inj h
   exact⟨by rw[seqIndex_neg (by omega) h1,e],by omega,h1,by omega⟩
  .rw[if_neg h1]at h;cases h
theorem gA' {α:Type} {xs:List α} {i:Int} {v:α} (h:atI xs i=some v):∃j,seqIndex? i xs.length=some j/\xs[j]?=some v/\j<xs.length/\-(xs.length:Int)<=i/\i<xs.length:=by
 unfold atI at h
 cases e:ixN xs.length i with
 |none=>rw[e]at h;cases h
 |some j=>
  rw[e]at h
  obtain⟨h1,h2,h3,h4⟩:=jC' e
  exact⟨j,h1,h,h2,h3,h4⟩
theorem dD' {α:Type} {xs:List α} {j:Nat} {v:α} (h:xs[j]?=some v):atI xs (j:Int)=some v:=by
 have hj:j<xs.length:=(aG.mp h).1
 have e:ixN xs.length (j:Int)=some j:=by
  unfold ixN
  rw[if_pos (by omega),if_pos (by omega)];simp
 unfold atI;rw[e];exact h
def jD' (b:Expr):Prop:=∀o i,subscripted b false o i=operate [o,i] (getItem o i)
def IxR (X:Cx) (r:R2):Prop:=
 ∀(value slice:Expr) (pins:List (Addr×Obj)) (s:Shared) (σ:St) (H:Hp) (x y:V) (v u:Value) (Q:VK),Inv X pins σ H s->ay' x v->ay' y u->r x y H Q->
  subscripted slice false v u=operate [v,u] (getItem v u)->wpAny (model X.prog X.w) X.A (subscriptTail value slice v u) (EP X pins σ Q) X.xe s
def MtR (X:Cx) (id:String) (r:V->List V->Hp->VK->Prop):Prop:=
 ∀(pins:List (Addr×Obj)) (s:Shared) (σ:St) (H:Hp) (x:V) (xs:List V) (v:Value) (us:List Value) (Q:VK),Inv X pins σ H s->ay' x v->aB' xs us->r x xs H Q->
  wpAny (model X.prog X.w) X.A (call (.builtin id) (v :: us)) (EP X pins σ Q) X.xe s
section
variable {X:Cx} {a b:Expr} {ta tb:TE} {pos:Pos}
theorem IxR.or {r r':R2} (h:IxR X r) (h':IxR X r'):IxR X (fun x y H Q=>r x y H Q\/r' x y H Q):=by
 intro value slice pins s σ H x y v u Q I rx ry q hs
 rcases q with q|q
 .exact h value slice pins s σ H x y v u Q I rx ry q hs
 .exact h' value slice pins s σ H x y v u Q I rx ry q hs
theorem w1' {r:R2} (hr:IxR X r) (ha:PE X a ta) (hb:PE X b tb) (hs:jD' b):PE X (.Subscript a b pos) (tOp r ta tb):=by
 intro pins s σ H Q I h
 exact Subscript_ (wN' ha hb I h fun v u s2 x y H2 I2 rx ry q=>hr a b pins s2 σ H2 x y v u Q I2 rx ry q (hs _ _))
def gB' (K:W.Frag):R2:=fun x y H Q=>∃p xs i v,x=.ref p/\y=.int i/\SqL K H p xs/\atI xs i=some v/\Q v H
def hJ' (K:W.Frag):R2:=fun x y H Q=>∃p xs i v,x=.ref p/\y=.int i/\SqT K H p xs/\atI xs i=some v/\Q v H
def yU':R2:=fun x y H Q=>∃z i c,x=.str z/\y=.int i/\z.length<=sizeLine/\atI z.cps.toList i=some c/\Q (.str ⟨#[c]⟩) H
theorem pG':IxR X (gB' X.K):=by
 intro value slice pins s σ H x y v u Q I rx ry h hs
 obtain⟨p,xs,i,z,rfl,rfl,hq,he,q⟩:=h
 cases rx
 obtain⟨t,rfl⟩:=ry
 obtain⟨its,r,pl,hz⟩:=I.list hq
 obtain⟨j,h1,h2,h3,h4,h5⟩:=gA' he
 obtain⟨w,ew,rw'⟩:=r.get h2
 have hl:=r.length
 have hn:=eA'
 have fin:EP X pins σ Q w s:=⟨z,H,I,rw',q⟩
 by_cases h0:0<=i
 .have hj:i.toNat=j:=by
   rw[seqIndex_of h0 h5]at h1
   exact Option.some.inj h1
  exact item_listR pl.isList h0 (by omega) (by rw[hj];simpa using ew) fin hs
 .have hj:(i+(its.toArray.size:Int)).toNat=j:=by
   rw[seqIndex_neg (by omega) h4]at h1
   rw[ao,<- hl]
   exact Option.some.inj h1
  exact subscriptTail_builtinR (x:=w) pl.isList.typeIs slot_list_getitem.lookup
   (wpAny_getItem_list_neg (Q:=fun r s'=>r=w/\EP X pins σ Q r s') pl.isList (by omega) (by rw[ao]<;>omega) (by omega) (by rw[hj];simpa using ew) ⟨rfl,fin⟩) hs
theorem su':IxR X (hJ' X.K):=by
 intro value slice pins s σ H x y v u Q I rx ry h hs
 obtain⟨p,xs,i,z,rfl,rfl,hq,he,q⟩:=h
 cases rx
 obtain⟨t,rfl⟩:=ry
 obtain⟨its,r,pl,hz⟩:=I.tuple hq
 obtain⟨j,h1,h2,h3,h4,h5⟩:=gA' he
 obtain⟨w,ew,rw'⟩:=r.get h2
 have hl:=r.length
 have hn:=eA'
 have fin:EP X pins σ Q w s:=⟨z,H,I,rw',q⟩
 exact subscriptTail_builtinR (x:=w) pl.typeIs slot_tuple_getitem.lookup
  (getItem_tuple (j:=j) (Q:=fun r s'=>r=w/\EP X pins σ Q r s') pl (by omega) (by omega) (by rw[ao,<- hl];exact h1) (by simpa using ew) ⟨rfl,fin⟩) hs
theorem sv':IxR X yU':=by
 intro value slice pins s σ H x y v u Q I rx ry h hs
 obtain⟨z,i,c,rfl,rfl,hz,he,q⟩:=h
 obtain⟨t,rfl⟩:=rx
 obtain⟨t',rfl⟩:=ry
 obtain⟨j,h1,h2,h3,h4,h5⟩:=gA' he
 have hl:z.cps.toList.length=z.length:=by simp[Str.length]
 rw[hl]at h1 h4 h5
 have hn:=eA'
 exact tail_any (typeIs_str s z t) slot_str_getitem.lookup (getItem_str (c:=c) (by
  have e1:decide (i < -(2 ^ 63:Int))=false:=decide_eq_false (by omega)
  have e2:decide (i ≥ 2 ^ 63)=false:=decide_eq_false (by omega)
  rw[e1,e2,Bool.or_false]) (by rw[h1];simpa using h2) ⟨.str ⟨#[c]⟩,H,I.tok _,⟨_,rfl⟩,q⟩) hs
def rIx (K:W.Frag):R2:=fun x y H Q=>gB' K x y H Q\/hJ' K x y H Q\/yU' x y H Q
theorem sw':IxR X (rIx X.K):=pG'.or (su'.or sv')
theorem iD' (its:List Value) (n j:Nat) (u:Value):Obj.mapSeq (·.setIfInBounds j u) { cls:=.type "list",data:=.seq its.toArray n }={ cls:=.type "list",data:=.seq (its.set j u).toArray n }:=by
 simp[Obj.mapSeq]
theorem Inv.lst {pins:List (Addr×Obj)} {σ:St} {H:Hp} {s:Shared} {p:Addr} {xs:List V} (I:Inv X pins σ H s) (h:H p=some (.lst xs)):
  ∃(its:List Value) (n:Nat),aB' xs its/\s.heap.get? p=some { cls:=.type "list",data:=.seq its.toArray n }/\xs.length<=sizeLine:=by
 obtain⟨z,its,n,r,e⟩:=I.hok p _ h
 exact⟨its,n,r,e,z⟩
theorem Inv.lstUpd {pins:List (Addr×Obj)} {σ:St} {H:Hp} {s:Shared} {p:Addr} {xs ys:List V} {its its':List Value} {n n':Nat} {f:Obj->Obj} (I:Inv X pins σ H s) (h:H p=some (.lst xs))
  (ho:s.heap.get? p=some { cls:=.type "list",data:=.seq its.toArray n }) (hf:f { cls:=.type "list",data:=.seq its.toArray n }={ cls:=.type "list",data:=.seq its'.toArray n' }) (r:aB' ys its') (hz:ys.length<=sizeLine) (t:Nat):
  Inv X pins σ (upd H p (.lst ys)) { s with heap:=s.heap.update p f,toks:=t }:=by
 have e:(s.heap.update p f).get? p=some { cls:=.type "list",data:=.seq its'.toArray n' }:=by
  rw[bv f ho (by rw[hf]<;>rfl),hf]
 refine I.write (x:=p) (e:=p) (by rw[h];trivial) (.inl rfl) (fun b u hb q=>(Heap.get?_update_other _ _ (Ne.symm hb)).trans q) ⟨_,e⟩ ?_
 exact⟨hz,its',n',r,e⟩
def ee':V->V->V->Hp->(Hp->Prop)->Prop:=fun o i v H Q=>∃p xs k j,o=.ref p/\i=.int k/\H p=some (.lst xs)/\ixN xs.length k=some j/\Q (upd H p (.lst (xs.set j v)))
theorem mo':yS' X ee':=by
 intro pins s σ H o i v ov iv u Q I ro ri rv h
 obtain⟨p,xs,k,j,rfl,rfl,hp,hj,q⟩:=h
 cases ro
 obtain⟨t,rfl⟩:=ri
 obtain⟨its,n,r,ho,hz⟩:=I.lst hp
 obtain⟨h1,h2,h3,h4⟩:=jC' hj
 have hl:=r.length
 have hn:=eA'
 have I':Inv X pins σ (upd H p (.lst (xs.set j v))) { s with heap:=s.heap.update p (Obj.mapSeq (·.setIfInBounds j u)) }:=
  I.lstUpd hp ho (iD' its n j u) (r.set rv j) (by rw[List.length_set];exact hz) s.toks
 by_cases h0:0<=k
 .have hk:k.toNat=j:=by
   rw[seqIndex_of h0 h4]at h1
   exact Option.some.inj h1
  exact W.ki_setAt ho h0 (by omega) (by rw[ao,<- hl];exact h4) (by rw[hk];exact⟨_,I',q⟩)
 .have hk:(k+(its.toArray.size:Int)).toNat=j:=by
   rw[seqIndex_neg (by omega) h3]at h1
   rw[ao,<- hl]
   exact Option.some.inj h1
  exact W.ki_setBack ho (by omega) (by rw[ao,<- hl];exact h3) (by omega) (by rw[hk];exact⟨_,I',q⟩)
theorem fE' (lo hi:Option Int) (n:Nat):(sliceBounds lo hi none n).1=((HT.sIx n 0 lo:Nat):Int)/\(sliceBounds lo hi none n).2.1=((HT.sIx n n hi:Nat):Int)/\(sliceBounds lo hi none n).2.2=1:=by
 refine⟨?_,?_,rfl⟩
 .cases lo with
  |none=>simp[sliceBounds,HT.sIx]
  |some i=>
   simp only[sliceBounds,HT.sIx,Option.getD_none,show(1:Int) > 0 by decide,if_true]
   by_cases h:i<0
   .simp only[h,if_true]<;>omega
   .simp only[h,if_false]<;>omega
 .cases hi with
  |none=>simp[sliceBounds,HT.sIx]
  |some i=>
   simp only[sliceBounds,HT.sIx,Option.getD_none,show(1:Int) > 0 by decide,if_true]
   by_cases h:i<0
   .simp only[h,if_true]<;>omega
   .simp only[h,if_false]<;>omega
theorem eZ' (its:List Value) (lo hi:Option Int):slicePick its.toArray lo hi none=((its.drop (HT.sIx its.length 0 lo)).take (HT.sIx its.length its.length hi-HT.sIx its.length 0 lo)).toArray:=by
 obtain⟨h1,h2,h3⟩:=fE' lo hi its.toArray.size
 unfold slicePick
 rw[h1,h2,h3]
 simp only[sliceRange_one,pick_run,ao]<;>rfl
def wg' (K:W.Frag):V->Option Int->Option Int->Hp->VK->Prop:=fun x lo hi H Q=>∃a xs,x=.ref a/\SqL K H a xs/\∀p,H p=none->Q (.ref p) (upd H p (.lst (oj' xs lo hi)))
theorem pH':SlR X (wg' X.K):=by
 intro pins s σ H x v vl vu lo hi sl Q I rx hs pl pu h
 obtain⟨a,xs,rfl,hx,q⟩:=h
 cases rx
 obtain⟨its,r,ht,hz⟩:=I.list hx
 have hlen:=r.length
 refine⟨"list",_,slot_list_getitem.lookup,ht.isList.typeIs,?_⟩
 refine wpAny_getItem_list_slice ht.isList hs pl pu .none (by simp) ?_ (by rw[ao]<;>omega)
 rw[eZ',<- hlen]
 refine⟨.ref s.heap.objs.size,_,I.laid (t':=s.toks) (o:=.lst (oj' xs lo hi)) (fun b ob q=>ab _ q) (ah _) ?_,rfl,q _ (I.hok.fresh (ah _))⟩
 exact⟨aM (dC' xs lo hi) hz,_,0,(r.drop (HT.sIx xs.length 0 lo)).take (HT.sIx xs.length xs.length hi-HT.sIx xs.length 0 lo),am _ rfl⟩
def fF':V->Bool
 | .non=>true
 | .bl _=>true
 | .int _=>true
 | .str _=>true
 |_=>false
def eqV:V->V->Bool
 | .non,.non=>true
 | .bl a,.bl b=>a == b
 | .bl a,.int b=>(if a then 1 else 0) == b
 | .int a,.bl b=>a == (if b then 1 else 0)
 | .int a,.int b=>a == b
 | .str a,.str b=>a == b
 |_,_=>false
theorem sx' {A:Around} {s:Shared} {y x:V} {u v:Value} (ry:ay' y u) (rx:ay' x v) (fy:fF' y=true) (fx:fF' x=true):SeqAt.EqAt A s u v (eqV y x):=by
 cases y with
 |non=>
  cases ry
  cases x with
  |non=>cases rx;exact SeqAt.EqAt.same _
  |bl b=>cases rx;exact SeqAt.EqAt.none_bool b
  |int b=>obtain⟨t,rfl⟩:=rx;exact SeqAt.EqAt.none_int b t
  |str b=>obtain⟨t,rfl⟩:=rx;exact SeqAt.EqAt.none_str b t
  |_=>exact absurd (show false=true from fx) ap
 |bl a=>
  cases ry
  cases x with
  |non=>cases rx;exact SeqAt.EqAt.bool_none a
  |bl b=>cases rx;exact SeqAt.EqAt.bool_bool a b
  |int b=>obtain⟨t,rfl⟩:=rx;exact SeqAt.EqAt.bool_int a b t
  |str b=>obtain⟨t,rfl⟩:=rx;exact SeqAt.EqAt.bool_str a b t
  |_=>exact absurd (show false=true from fx) ap
 |int a=>
  obtain⟨t',rfl⟩:=ry
  cases x with
  |non=>cases rx;exact SeqAt.EqAt.int_none a t'
  |bl b=>cases rx;exact SeqAt.EqAt.int_bool a t' b
  |int b=>obtain⟨t,rfl⟩:=rx;exact SeqAt.EqAt.int_int a t' b t
  |str b=>obtain⟨t,rfl⟩:=rx;exact SeqAt.EqAt.int_str a t' b t
  |_=>exact absurd (show false=true from fx) ap
 |str a=>
  obtain⟨t',rfl⟩:=ry
  cases x with
  |non=>cases rx;exact SeqAt.EqAt.str_none a t'
  |bl b=>cases rx;exact SeqAt.EqAt.str_bool a t' b
  |int b=>obtain⟨t,rfl⟩:=rx;exact SeqAt.EqAt.str_int a t' b t
  |str b=>obtain⟨t,rfl⟩:=rx;exact SeqAt.EqAt.str_str a t' b t
  |_=>exact absurd (show false=true from fx) ap
 |_=>exact absurd (show false=true from fy) ap
def eqU (x:V) (u:Value):Bool:=match u with
 | .none=>eqV .non x
 | .bool b=>eqV (.bl b) x
 | .int i _=>eqV (.int i) x
 | .str z _=>eqV (.str z) x
 |_=>false
theorem ok' {x y:V} {u:Value} (r:ay' y u) (f:fF' y=true):eqU x u=eqV y x:=by
 cases y with
 |non=>cases r;rfl
 |bl b=>cases r;rfl
 |int i=>obtain⟨t,rfl⟩:=r;rfl
 |str z=>obtain⟨t,rfl⟩:=r;rfl
 |_=>exact absurd (show false=true from f) ap
theorem dE' {x:V}:∀{xs:List V} {us:List Value},aB' xs us->xs.all fF'=true->us.any (eqU x)=xs.any fun y=>eqV y x
 |_,_,.nil,_=>rfl
 |y :: xs,u :: us,.cons r t,f=>by
  rw[List.all_cons,ag]at f
  rw[cE,cE,ok' r f.1,dE' t f.2]
theorem cP' {A:Around} {s:Shared} {x:V} {v:Value} (rx:ay' x v) (fx:fF' x=true):∀{xs:List V} {us:List Value},aB' xs us->xs.all fF'=true->∀u∈us,SeqAt.EqAt A s u v (eqU x u)
 |_,_,.nil,_=>fun u hu=>by cases hu
 |y :: xs,u :: us,.cons r t,f=>fun u' hu=>by
  rw[List.all_cons,ag]at f
  rcases ak.mp hu with rfl|hu
  .rw[ok' r f.1];exact sx' r rx f.1 fx
  .exact cP' rx fx t f.2 u' hu
def inV (x:V) (xs:List V):Bool:=xs.any fun y=>eqV y x
def rIn (K:W.Frag) (neg:Bool):R2:=fun x y H Q=>∃p xs,y=.ref p/\(SqL K H p xs\/SqT K H p xs)/\fF' x=true/\xs.all fF'=true/\Q (.bl (if neg then !inV x xs else inV x xs)) H
theorem jE':OpR X (compareOp .In) (rIn X.K false):=by
 intro pins s σ H x y v u Q I rx ry h
 obtain⟨p,xs,rfl,hq,fx,fs,q⟩:=h
 cases ry
 rcases hq with hq|hq
 .obtain⟨its,r,pl,hz⟩:=I.list hq
  refine SeqAt.in_listAt (eqU x) pl.isList (fun w hw=>cP' rx fx r fs w (by simpa using hw)) ⟨.bl _,H,I,rfl,?_⟩
  rw[show its.toArray.any (eqU x)=its.any (eqU x) by simp,dE' r fs]
  exact q
 .obtain⟨its,r,pl,hz⟩:=I.tuple hq
  refine SeqAt.in_tupleAt (eqU x) pl (fun w hw=>cP' rx fx r fs w (by simpa using hw)) ⟨.bl _,H,I,rfl,?_⟩
  rw[show its.toArray.any (eqU x)=its.any (eqU x) by simp,dE' r fs]
  exact q
theorem fG':OpR X (compareOp .NotIn) (rIn X.K true):=by
 intro pins s σ H x y v u Q I rx ry h
 obtain⟨p,xs,rfl,hq,fx,fs,q⟩:=h
 cases ry
 rcases hq with hq|hq
 .obtain⟨its,r,pl,hz⟩:=I.list hq
  refine SeqAt.notIn_listAt (eqU x) pl.isList (fun w hw=>cP' rx fx r fs w (by simpa using hw)) ⟨.bl _,H,I,rfl,?_⟩
  rw[show its.toArray.any (eqU x)=its.any (eqU x) by simp,dE' r fs]
  exact q
 .obtain⟨its,r,pl,hz⟩:=I.tuple hq
  refine SeqAt.notIn_tupleAt (eqU x) pl (fun w hw=>cP' rx fx r fs w (by simpa using hw)) ⟨.bl _,H,I,rfl,?_⟩
  rw[show its.toArray.any (eqU x)=its.any (eqU x) by simp,dE' r fs]
  exact q
theorem aP'.or {f:Value} {r r':List V->Hp->VK->Prop} (h:aP' X f r) (h':aP' X f r'):aP' X f (fun xs H Q=>r xs H Q\/r' xs H Q):=by
 intro pins s σ H xs us Q I rs q
 rcases q with q|q
 .exact h pins s σ H xs us Q I rs q
 .exact h' pins s σ H xs us Q I rs q
theorem fH':aP' X (.type "list") (fun xs H Q=>∃p ys,xs=[.ref p]/\(SqL X.K H p ys\/SqT X.K H p ys)/\∀l,H l=none->Q (.ref l) (upd H l (.lst ys))):=by
 intro pins s σ H xs us Q I r h
 obtain⟨p,ys,rfl,hq,q⟩:=h
 obtain⟨u,rfl,rx⟩:=dp' r
 cases rx
 have fin:∀(its:List Value),aB' ys its->ys.length<=sizeLine->∀(h':Heap) (c':Nat),(∀b o',s.heap.get? b=some o'->h'.get? b=some o')->
   h'.get? s.heap.objs.size=some { cls:=.type "list",dict:=none,data:=.seq its.toArray c',slots:=#[] }->EP X pins σ Q (.ref s.heap.objs.size) { s with heap:=h' }:=fun its r' hz h' c' kp e=>
  ⟨.ref s.heap.objs.size,_,I.laid (t':=s.toks) kp (ah _) (show av' X.prog X.w _ h' _ (.lst ys) from⟨hz,its,c',r',e⟩),rfl,q _ (I.hok.fresh (ah _))⟩
 rcases hq with hq|hq
 .obtain⟨its,r',pl,hz⟩:=I.list hq
  have hlen:=r'.length
  obtain⟨o,ho,hc,n,hd⟩:=pl.isList
  exact call_list_seq p (.inl rfl) ho hc hd (fun h' c' kp e=>fin its r' hz h' c' kp e) (by simp only[ao]<;>omega)
 .obtain⟨its,r',pl,hz⟩:=I.tuple hq
  have hlen:=r'.length
  obtain⟨o,ho,hc,n,hd⟩:=pl
  exact call_list_seq p (.inr rfl) ho hc hd (fun h' c' kp e=>fin its r' hz h' c' kp e) (by simp only[ao]<;>omega)
theorem e0':aP' X (.type "tuple") (fun xs H Q=>∃p ys,xs=[.ref p]/\((SqL X.K H p ys/\∀l,H l=none->Q (.ref l) (upd H l (.tup ys)))\/(SqT X.K H p ys/\Q (.ref p) H))):=by
 intro pins s σ H xs us Q I r h
 obtain⟨p,ys,rfl,h⟩:=h
 obtain⟨u,rfl,rx⟩:=dp' r
 cases rx
 rcases h with⟨hq,q⟩|⟨hq,q⟩
 .obtain⟨its,r',pl,hz⟩:=I.list hq
  have hlen:=r'.length
  refine call_tuple_list pl.isList (fun h' kp=>?_) (by simp only[ao]<;>omega)
  have I1:Inv X pins σ H { s with heap:=h' }:=I.kept (t':=s.toks) kp
  have I2:Inv X pins σ (upd H h'.objs.size (.tup ys)) { s with heap:=h'.push { cls:=.type "tuple",data:=.seq its.toArray } }:=
   I1.laid (t':=s.toks) (fun b o e=>ab _ e) (ah _) (show av' X.prog X.w _ _ _ (.tup ys) from⟨hz,its,r',ob'.new _ _⟩)
  exact⟨.ref h'.objs.size,_,I2,rfl,q _ (I1.hok.fresh (ah _))⟩
 .obtain⟨its,r',pl,hz⟩:=I.tuple hq
  exact call_tuple_same pl ⟨.ref p,H,I,rfl,q⟩
def tyV (K:W.Frag) (T:String) (x:V) (H:Hp):Prop:=match x with
 | .str _=>T="str"
 | .int _=>T="int"
 | .ref p=>(T="list"/\∃xs,SqL K H p xs)\/(T="tuple"/\((∃o,K.lookup p=some o/\o.cls=.type "tuple"/\o.dict=none)\/∃xs,H p=some (.tup xs)))\/
   (T="dict"/\((∃kvs,H p=some (.dK kvs))\/∃kvs,H p=some (.dT kvs)))\/(T="set"/\∃S n,H p=some (.set S n))
 |_=>False
theorem ol' {pins:List (Addr×Obj)} {σ:St} {H:Hp} {s:Shared} {T:String} {x:V} {v:Value} (I:Inv X pins σ H s) (r:ay' x v) (ty:tyV X.K T x H):
  s.TypeIs v T/\∀a,v=.ref a->∃ob,s.heap.get? a=some ob/\ob.dict=none:=by
 cases x with
 |str z=>
  obtain⟨t,rfl⟩:=r
  cases(show T="str" from ty)
  exact⟨typeIs_str s z t,fun _ e=>nomatch e⟩
 |int i=>
  obtain⟨t,rfl⟩:=r
  cases(show T="int" from ty)
  exact⟨typeIs_int s i t,fun _ e=>nomatch e⟩
 |ref p=>
  cases r
  rcases ty with⟨rfl,xs,hq⟩|⟨rfl,⟨o,hk,hc,hd⟩|⟨xs,hk⟩⟩|⟨rfl,hk⟩|⟨rfl,S,n,hk⟩
  .obtain⟨its,_,pl,_⟩:=I.list hq
   refine⟨pl.isList.typeIs,fun a e=>?_⟩
   cases e
   obtain⟨o,n,e,c,hd,_⟩:=pl
   exact⟨o,e,hd⟩
  .refine⟨⟨o,I.kIn p o hk,hc⟩,fun a e=>?_⟩
   cases e
   exact⟨o,I.kIn _ o hk,hd⟩
  .obtain⟨_,_,_,o,e,c,_,hd⟩:=I.hok p _ hk
   refine⟨⟨o,e,c⟩,fun a e2=>?_⟩
   cases e2
   exact⟨o,e,hd⟩
  .have z:∃o,s.heap.get? p=some o/\o.ExactDict:=by
    rcases hk with⟨kvs,hk⟩|⟨kvs,hk⟩
    .obtain⟨_,_,_,_,o,_,_,e,ex,_⟩:=I.hok p _ hk
     exact⟨o,e,ex⟩
    .obtain⟨_,_,_,_,o,_,_,e,ex,_⟩:=I.hok p _ hk
     exact⟨o,e,ex⟩
   obtain⟨o,e,ex⟩:=z
   refine⟨⟨o,e,ex.1⟩,fun a e2=>?_⟩
   cases e2
   exact⟨o,e,ex.2.1⟩
  .obtain⟨o,_,_,_,e,ex,_⟩:=I.hok p _ hk
   refine⟨⟨o,e,ex.1⟩,fun a e2=>?_⟩
   cases e2
   exact⟨o,e,ex.2.1⟩
 |_=>exact False.elim ty
def zG' (K:W.Frag) (T:String) (r:V->List V->Hp->VK->Prop) (to:TE):TE:=fun σ H Q=>to σ H fun x H1=>tyV K T x H1/\r x [] H1 Q
def tBM (K:W.Frag) (T:String) (r:V->List V->Hp->VK->Prop) (to:TE) (t:TA):TE:=fun σ H Q=>to σ H fun x H1=>tyV K T x H1/\t σ H1 fun xs H2=>r x xs H2 Q
variable {o e:Expr} {es:List Expr} {to:TE} {t:TA} {name:Str} {apos cpos:Pos} {T id:String} {r:V->List V->Hp->VK->Prop}
theorem sy' (pa:PlainAttrs T) (slot:Slot T name id) (hty:typeOf (.builtin id)=pure (.type "method_descriptor")) (hm:MtR X id r) (ho:PE X o to)
  (hbase:attributeBase o name X.env (eval o X.env)=eval o X.env:=by rfl) (hline:(apos.endLine == cpos.line)=true:=by rfl):PE X (.Call (.Attribute o name apos) [] [] cpos) (zG' X.K T r to):=by
 intro pins s σ H Q I h
 refine wpAny_Call_method0_late hbase hline (thn (ho pins s σ H _ I h) fun v s1 ⟨x,H1,I1,r1,ty,q1⟩=>?_)
 obtain⟨h1,h2⟩:=ol' I1 r1 ty
 exact⟨T,id,pa,slot,hty,h1,h2,Calls.callWith_builtin rfl (PySem.evalArgs_none (hm pins s1 σ H1 x [] v [] Q I1 r1 .nil q1))⟩
theorem w2' (pa:PlainAttrs T) (slot:Slot T name id) (hty:typeOf (.builtin id)=pure (.type "method_descriptor")) (hm:MtR X id r) (ho:PE X o to) (ha:PA X (e :: es) t)
  (hbase:attributeBase o name X.env (eval o X.env)=eval o X.env:=by rfl)
  (hfew:((backTo cpos (starEach (e :: es) X.env)).all (fun x=>!x.1)&&(backToKw cpos (keywordEach [] X.env)).all (fun x=>x.1.isSome)
   && decide ((e :: es).length+([]:List Keyword).length+(if([]:List Keyword).isEmpty then 0 else 1)<30))=true:=by rfl)
  (hline:(apos.endLine == cpos.line)=true:=by rfl) (hs:starEach (e :: es) X.env=(false,eval e X.env) :: starEach es X.env:=by rfl) (hplain:(backTo cpos (starEach es X.env)).any (·.1)=false:=by rfl):
  PE X (.Call (.Attribute o name apos) (e :: es) [] cpos) (tBM X.K T r to t):=by
 intro pins s σ H Q I h
 refine wpAny_Call_method_late hbase hfew hline rfl (thn (ho pins s σ H _ I h) fun v s1 ⟨x,H1,I1,r1,ty,q1⟩=>?_)
 obtain⟨h1,h2⟩:=ol' I1 r1 ty
 refine⟨T,id,pa,slot,hty,h1,h2,?_⟩
 have hA:=ha cpos pins s1 σ H1 _ I1 q1
 rw[hs]at hA ⊢
 refine Calls.callWith_builtin (by show(false || (backTo cpos (starEach es X.env)).any (·.1))=false;rw[hplain]<;>rfl) (Calls.evalArgs_plain ?_)
 exact thn hA fun us s2 ⟨vs,H2,I2,r2,q2⟩=>hm pins s2 σ H2 x vs v us Q I2 r1 r2 q2
end
def MtM (X:Cx) (id:String) (r:V->List V->Hp->VK->Prop):Prop:=
 ∀(pins:List (Addr×Obj)) (s:Shared) (σ:St) (H:Hp) (x:V) (xs:List V) (v:Value) (us:List Value) (Q:VK),Inv X pins σ H s->ay' x v->aB' xs us->r x xs H Q->
  wpAny (model X.prog X.w) X.A (call (.builtin id) (v :: us)) (EP X pins σ Q) X.xe s
theorem aB'.one:∀{x:V} {us:List Value},aB' [x] us->∃u,us=[u]/\ay' x u
 |_,_,.cons r .nil=>⟨_,rfl,r⟩
theorem aB'.zero:∀{us:List Value},aB' [] us->us=[]
 |_,.nil=>rfl
theorem aB'.reverse {xs:List V} {us:List Value} (h:aB' xs us):aB' xs.reverse us.reverse:=by
 induction h with
 |nil=>exact .nil
 |cons r t ih=>rw[List.reverse_cons,List.reverse_cons];exact aB'.append ih (.cons r .nil)
theorem aB'.rep {xs:List V} {us:List Value} (h:aB' xs us):∀k:Nat,aB' (aC k xs).flatten (aC k us).flatten
 |0=>.nil
 |k+1=>by
  rw[bC,bC,bD,bD]
  exact aB'.append h (aB'.rep h k)
theorem fI' (its:List Value):∀(k:Nat) (acc:List Value),
  List.foldl (fun x1 x2=>x1++x2) acc.toArray (aC k its.toArray)=(acc++(aC k its).flatten).toArray
 |0,acc=>by simp
 |k+1,acc=>by
  have e:acc.toArray++its.toArray=(acc++its).toArray:=by simp
  have e2:(acc++its)++(aC k its).flatten=acc++(aC (k+1) its).flatten:=by
   rw[bC,bD,aT]
  rw[<- e2,<- fI' its k (acc++its),<- e,bC,List.foldl_cons]
section
variable {X:Cx} {pins:List (Addr×Obj)} {σ:St} {H:Hp} {s:Shared} {l b:Addr} {xs ys zs:List V}
theorem Inv.lset {its its':List Value} {n:Nat} {f:Array Value->Array Value} {t':Nat} (I:Inv X pins σ H s) (hH:H l=some (.lst xs))
  (e:s.heap.get? l=some { cls:=.type "list",data:=.seq its.toArray n }) (hf:f its.toArray=its'.toArray) (hv:aB' ys its') (hz:ys.length<=sizeLine):
  Inv X pins σ (upd H l (.lst ys)) { s with heap:=s.heap.update l (Obj.mapSeq f),toks:=t' }:=by
 have q:=PySem.IsL.update e f
 rw[hf]at q
 refine I.write (x:=l) (e:=l) (by rw[hH];exact trivial) (.inl rfl) (fun b' u hb hu=>(Heap.get?_update_other s.heap (Obj.mapSeq f) (Ne.symm hb)).trans hu) ⟨_,q⟩ ?_
 exact⟨hz,its',_,hv,q⟩
theorem Inv.lnew {its:List Value} {t':Nat} (I:Inv X pins σ H s) (hv:aB' ys its) (hz:ys.length<=sizeLine):
  Inv X pins σ (upd H s.heap.objs.size (.lst ys)) { s with heap:=s.heap.push { cls:=.type "list",data:=.seq its.toArray },toks:=t' }:=
 I.laid (fun _ _ q=>ab _ q) (ah _) ⟨hz,its,0,hv,am _ rfl⟩
theorem Inv.fresh (I:Inv X pins σ H s):H s.heap.objs.size=none:=I.hok.fresh (ah _)
theorem Inv.lstM (I:Inv X pins σ H s) (hH:H l=some (.lst xs)):xs.length<=sizeLine/\∃(its:List Value) (n:Nat),aB' xs its/\xs.length=its.length/\s.heap.get? l=some { cls:=.type "list",data:=.seq its.toArray n }:=by
 obtain⟨z,its,n,r,e⟩:=I.hok l _ hH
 exact⟨z,its,n,r,r.length,e⟩
theorem mp' {n:Nat} (h:n<=sizeLine):Builtin.List.listTooLong n=false:=by
 unfold Builtin.List.listTooLong
 exact decide_eq_false (by omega)
end
section
variable {X:Cx}
def jF':V->List V->Hp->VK->Prop:=fun x vs H Q=>∃l xs y,x=.ref l/\vs=[y]/\H l=some (.lst xs)/\xs.length<sizeLine/\Q .non (upd H l (.lst (xs++[y])))
theorem jG':MtM X "list.append" jF':=by
 intro pins s σ H x vs v us Q I rx rv h
 obtain⟨l,xs,y,rfl,rfl,hH,hz,q⟩:=h
 cases rx
 obtain⟨u,rfl,ru⟩:=rv.one
 obtain⟨z,its,n,r,hl,e⟩:=I.lstM hH
 refine call_meets F.slot_list_append ⟨_,e,rfl⟩ F.entry_list_append (F.args_list_append_2 _ _) (PySem.list_append l its.toArray n u (by rw[ao];omega)) ⟨e,?_⟩
 refine⟨.non,_,I.lset (its':=its++[u]) hH e (by simp) (r.append (.cons ru .nil)) ?_,rfl,q⟩
 rw[aB,List.length_singleton]
 omega
def hK':V->List V->Hp->VK->Prop:=fun x vs H Q=>∃l xs,x=.ref l/\vs=[]/\H l=some (.lst xs)/\Q .non (upd H l (.lst xs.reverse))
theorem iE':MtM X "list.reverse" hK':=by
 intro pins s σ H x vs v us Q I rx rv h
 obtain⟨l,xs,rfl,rfl,hH,q⟩:=h
 cases rx
 have hus:=rv.zero
 subst hus
 obtain⟨z,its,n,r,hl,e⟩:=I.lstM hH
 refine call_meets F.slot_list_reverse ⟨_,e,rfl⟩ F.entry_list_reverse (F.args_list_reverse_1 _) (AutoSeq1.list_reverse_list_0 l its.toArray n (by rw[ao];omega)) ⟨e,?_⟩
 refine⟨.non,_,I.lset (its':=its.reverse) hH e (by simp) r.reverse ?_,rfl,q⟩
 rw[List.length_reverse]
 omega
def yV':R2:=fun x y H Q=>∃l b xs zs,x=.ref l/\y=.ref b/\H l=some (.lst xs)/\H b=some (.lst zs)/\xs.length+zs.length<=sizeLine/\∀p,H p=none->Q (.ref p) (upd H p (.lst (xs++zs)))
theorem sz':OpR X (binaryOp .Add) yV':=by
 intro pins s σ H x y v u Q I rx ry h
 obtain⟨l,b,xs,zs,rfl,rfl,hH,hB,hz,q⟩:=h
 cases rx
 cases ry
 obtain⟨z,its,n,r,hl,e⟩:=I.lstM hH
 obtain⟨z2,its2,n2,r2,hl2,e2⟩:=I.lstM hB
 refine PySem.P.add_list e e2 ?_ (by rw[ao,ao];omega)
 have ea:its.toArray++its2.toArray=(its++its2).toArray:=by simp
 rw[ea]
 exact⟨.ref _,_,I.lnew (t':=s.toks) (r.append r2) (by rw[aB];omega),rfl,q _ I.fresh⟩
def yW':R2:=fun x y H Q=>∃l k xs,x=.ref l/\y=.int k/\H l=some (.lst xs)/\-(2 ^ 63)<=k/\k<2 ^ 63/\xs.length*k.toNat<=sizeLine/\
 ∀p,H p=none->Q (.ref p) (upd H p (.lst (aC k.toNat xs).flatten))
theorem pI' {α:Type} (xs:List α) (k:Nat):(aC k xs).flatten.length=k*xs.length:=by
 induction k with
 |zero=>simp
 |succ k ih=>rw[bC,bD,aB,ih,Nat.succ_mul,Nat.add_comm]
theorem sA':OpR X (binaryOp .Mult) yW':=by
 intro pins s σ H x y v u Q I rx ry h
 obtain⟨l,k,xs,rfl,rfl,hH,h1,h2,hz,q⟩:=h
 cases rx
 obtain⟨t,rfl⟩:=ry
 obtain⟨z,its,n,r,hl,e⟩:=I.lstM hH
 have hlen:its.toArray.size*k.toNat<=sizeLine:=by rw[ao,<- hl];exact hz
 have hcap:¬its.toArray.size*k.toNat > (2 ^ 63-1) / 8:=by
  have:(sizeLine:Nat)<=(2 ^ 63-1) / 8:=by decide
  omega
 have hfit:¬(!Builtin.List.listFitsIndex k)=true:=by
  rw[fitsIndex_both h1 h2]
  exact ap
 have hlong:¬Builtin.List.listTooLong (its.toArray.size*k.toNat)=true:=by
  rw[mp' hlen]
  exact ap
 have hnew:List.foldl (fun x1 x2=>x1++x2) #[] (aC (if its.toArray.isEmpty=true then 0 else k.toNat) its.toArray)=(aC k.toNat its).flatten.toArray:=by
  have f0:∀m:Nat,List.foldl (fun x1 x2=>x1++x2) #[] (aC m its.toArray)=(aC m its).flatten.toArray:=fun m=>by
   have:=fI' its m []
   rw[List.nil_append]at this
   exact this
  rw[f0]
  cases its with
  |nil=>simp
  |cons a r'=>rw[if_neg (by simp)]
 refine wpAny_binaryOp_repeat_ref (T:="list") (U:="int") (by decide) ⟨_,e,rfl⟩ (fun s'=>typeIs_int s' k t) noFill_list_mul F.fills_int_mul F.slot_int_rmul repeat_list F.slot_int_index.lookup
  (call_meets F.slot_int_rmul (typeIs_int s k t) F.entry_int_rmul (F.args_int_rmul_2 _ _) (int___rmul___int_list k t l its.toArray n)
   ⟨e,rfl,⟨_,e,rfl⟩,call_meets F.slot_list_mul ⟨_,e,rfl⟩ F.entry_list_mul (F.args_list_mul_2 _ _) (AutoListH.list___mul___list_int_3 l its.toArray n k t hfit hcap hlong) ⟨e,?_⟩⟩)
 rw[hnew]
 exact⟨.ref _,_,I.lnew (t':=s.toks) (r.rep k.toNat) (by rw[pI',cP];exact hz),rfl,q _ I.fresh⟩
end
section
variable {prog:Program} {w:World} {A:Around} {E:Value->Shared->Prop} {s:Shared}
end
section
variable {X:Cx}
end
end L2
namespace Att
open PySem PySem.W PySem.Calls PyProof.Rows
theorem dF' {P:Params} {h:Heap}:∀(ns:List Int) (vs:List Value),WellAll P h vs (ns.map WData.int)->IntsAre vs ns:=by
 intro ns
 induction ns with
 |nil=>
  intro vs w
  rw[List.map_nil]at w
  cases w
  exact .nil
 |cons n ns ih=>
  intro vs w
  rw[aL]at w
  cases w with
  |cons a b=>
   cases a
   exact .cons _ _ (ih _ b)
theorem jH' {l:OpenLaw} {n:Nat} (hn:l.most=some n) {P:Params} {h:Heap} {args:List WData} {vals:List Value}
  (hpre:l.row.toRowW.claim.pre args=true) (hwl:WellAll P h vals args):
  ∃a vs ns,vals=[Value.ref a]/\args=[WData.list (ns.map WData.int)]/\h.get? a=some { cls:=.type "list",data:=.seq vs.toArray }/\IntsAre vs ns/\ns.length<=n:=by
 have hsh:WShape.hasAll [] args [.list .int]=true:=(pre_splitW hpre).1
 have hc:l.pre.holds [] { args:=args }=true:=(pre_splitW hpre).2
 obtain⟨d,r,rfl,h1,h2⟩:=hasAllW_cons hsh
 obtain rfl:=hasAllW_nil h2
 obtain⟨xs,rfl,h3⟩:=hasW_list h1
 obtain⟨ns,rfl⟩:=items_int h3
 have hlen:ns.length<=n:=by
  unfold OpenLaw.pre at hc
  have h4:(WTm.not (.lt (.lit (.int (n:Int))) (.len (.arg 0)))).holds [] { args:=[.list (ns.map .int)] }=true:=by
   have h4:=(holds_andW hc).1
   rw[hn]at h4
   exact h4
  have h5:=condW_of h4 (w_not (w_lt w_lit (w_len_list (w_arg rfl))))
  rw[af]at h5
  refine Nat.le_of_not_lt fun q=>?_
  have q':(n:Int)<((ns.length:Nat):Int):=by omega
  first
   |(rw[decide_eq_true q']at h5;exact absurd h5 (by decide))
   |(simp at h5;omega)
 cases hwl with
 |cons w1 w2=>
  cases w2
  cases w1 with
  |list ho hall=>exact⟨_,_,ns,rfl,rfl,ho,dF' ns _ hall,hlen⟩
theorem jI' (l:OpenLaw) (args:List WData):l.row.toRowW.claim.post args (.bool true) args=true:=
 postW_of (r:=l.row.toRowW) (X:=(true == true))
  (show WShape.has [] (.bool true) .bool=true by first|rfl|decide|simp[WShape.has,WShape.arms,WShape.armsAll])
  (show(WTm.eq .res (.lit (.bool true))).value [] { args:=args,res:=some (.bool true),after:=args }=some (.bool (true == true)) from w_eq_bool (w_res rfl) w_lit) rfl
theorem gC' {l:OpenLaw} {n:Nat} {q:Program} {loose:List Str} {XP:(Str->Option Value)->Heap->Prop} {YP:World->Heap->Prop} {d:DefRec}
  (hn:l.most=some n) (hdf:d.params.defaults=[])
  (call:∀(w:World) (s₀ s₁:Shared) (mg mb:Str->Option Value) (fa:Addr) (o:Obj) (pm cd doc:Value) (a:Addr) (vs:List Value) (ns:List Int),
   Ground q loose [] XP w s₀ mg mb s₁.heap->YP w s₁.heap->
   s₁.heap.get? fa=some o->o.data=.func (docDef d.name d.params d.body d.scope pm cd doc)->s₁.heap.CodeRec cd d.name->mg d.name=some (.ref fa)->
   s₁.heap.get? a=some { cls:=.type "list",data:=.seq vs.toArray }->IntsAre vs ns->ns.length<=n->s₁.gens=#[]->
   codeAny (model l.prog w) callerA (.call (.ref fa) ⟨[.ref a],[]⟩) (fun r s'=>r=.ok (.ret (.bool true))/\OldK s₁.heap s'.heap/\s'.os=s₁.os/\AllBare s'.gens) s₁):
  WalkO q loose XP YP l.row.toRowW d [] (fun f vs=>PySem.call f vs):=by
 intro w s₀ s₁ mg mb G Y fa o pm cd doc dV kV ho hd hcd hD hmg hg args vals as hpre hlay hrd hwl hlo
 obtain rfl:dV=.none:=Dflts.none hD hdf
 obtain rfl:kV=.none:=Dflts.noKw hD
 obtain⟨a,vs,ns,rfl,rfl,hobj,hints,hlen⟩:=jH' hn hpre hwl
 refine enter_call (codeAny_mono (call w s₀ s₁ mg mb fa o pm cd doc a vs ns G Y ho (fd_plain hd) hcd hmg hobj hints hlen hg) fun r s' hq=>?_)
 obtain⟨rfl,h2,h3,h4⟩:=hq
 exact⟨.inl ⟨.bool true,.bool true,[],rfl,fun _=>rfl,.bool true,jI' l _,fun _=>⟨List.Pairwise.nil,fun _ hm=>(nomatch hm)⟩⟩,h2,h3,h4⟩
section
variable {prog:Program} {w:World} {A:Around} {E:Value->Shared->Prop} {s:Shared} {K:Frag}
end
end Att
namespace L2
open PySem PySem.Spec PyProof.Rows
theorem fJ':∀{vs:List Value} {ns:List Int},IntsAre vs ns->aB' (ns.map V.int) vs
 |_,_,.nil=>.nil
 |_,_,.cons n t h=>.cons ⟨t,rfl⟩ (fJ' h)
def w3' (H:Hp):Prop:=∀b,H b=none\/∃o xs,H b=some (.frz o (.lst xs))
theorem mq' {P:Program} {w:World} {K:W.Frag} {mg mb:Str->Option Value} {CX:CXT} {k:Nat} {fa a:Addr} {fd:FuncData} {x:Str} {sp:Sp} {s₁:Shared} {vs:List Value} {ns:List Int}
  (KX:K.In s₁.heap) (hns:s₁.heap.Ns mainGlobals mg) (hb:s₁.heap.Ns builtinsNs mb) (hbb:∀x:Str,x≠"__name__"->mb x=bootBuiltins x) (hlim:s₁.heap.NoLimit) (hg:s₁.gens=#[])
  (ha:s₁.heap.get? a=some { cls:=.type "list",data:=.seq vs.toArray }) (hi:IntsAre vs ns) (hl:ns.length<=sizeLine) (hr:Room k callerA)
  (F:∀base:Heap,K.In base->base.Ns mainGlobals mg->FnOk P w K mg base CX k fa fd [x] sp) (hbind:∀(s:Shared) (u:Value),BindsTo s fd ⟨[u],[]⟩ [(x,u)])
  (hsp:∀H:Hp,w3' H->SqL K H a (ns.map V.int)->sp [.ref a] H (fun v _=>v=.bl true) fun _ _ _=>False)
  (hCX:∀H e s',CX [] H s₁ (fun _ _ _=>False) e s'->False):
  codeAny (model P w) callerA (.call (.ref fa) ⟨[.ref a],[]⟩) (fun r s'=>r=.ok (.ret (.bool true))/\OldK s₁.heap s'.heap/\s'.os=s₁.os/\AllBare s'.gens) s₁:=by
 have rv:=fJ' hi
 have lenV:=hi.length
 have core:∀H:Hp,w3' H->SqL K H a (ns.map V.int)->HOk P w H s₁.heap->(∀b,H b≠none->b=a)->(H a≠none->K.lookup a=none)->
   codeAny (model P w) callerA (.call (.ref fa) ⟨[.ref a],[]⟩) (fun r s'=>r=.ok (.ret (.bool true))/\OldK s₁.heap s'.heap/\s'.os=s₁.os/\AllBare s'.gens) s₁:=by
  intro H hO hS hok hA hK
  have base_of:∀{b:Addr} {o:Obj},s₁.heap.get? b=some o->H b=none->(l5' s₁.heap H).get? b=some o:=fun e n=>l6' e n
  have noA:∀{b:Addr} {o:Obj} {es:Array DictEntry} {ep:Nat},s₁.heap.get? b=some o->o.data=.dict es ep->H b=none:=fun {b o es ep} e d=>by
   cases q:H b with
   |none=>rfl
   |some u=>
    have e':b=a:=hA b (by rw[q];simp)
    subst e'
    rw[ha]at e;cases e
    have d':Data.seq vs.toArray _=Data.dict es ep:=d
    cases d'
  have nsK:∀{b:Addr} {m:Str->Option Value},s₁.heap.Ns b m->(l5' s₁.heap H).Ns b m:=fun {b m} ⟨o,es,ep,e,d,r⟩=>⟨o,es,ep,base_of e (noA e d),d,r⟩
  have hKb:K.In (l5' s₁.heap H):=fun b o e=>base_of (KX b o e) (by
   cases q:H b with
   |none=>rfl
   |some u=>
    have e':b=a:=hA b (by rw[q];simp)
    subst e'
    rw[hK (by rw[q];simp)]at e;cases e)
  have hM:Mod K mg (l5' s₁.heap H):=⟨hKb,nsK hns,⟨mb,nsK hb,hbb⟩,let⟨mc,h1,h2⟩:=hlim;⟨mc,nsK h1,h2⟩⟩
  have e0:Env0 P w K mg (l5' s₁.heap H) callerA [] s₁ H:=⟨rfl,hM,fun b o e=>pe' e,Nat.le_of_eq (jm' _ _),trivial,fun b hb=>absurd (show b∈([]:List Addr) from hb) (by simp),hok,.of_eq hg⟩
  refine codeAny_mono ((F _ hKb (nsK hns)).run callerA [] s₁ H ⟨[.ref a],[]⟩ [.ref a] [.ref a] _ _ hr e0 (hbind s₁ (.ref a)) (.cons rfl .nil) (hsp H hO hS)) fun r s' h=>?_
  cases r with
  |error e=>exact(hCX H e s' h).elim
  |ok fl=>
   cases fl with
   |next=>exact False.elim h
   |brk=>exact False.elim h
   |cont=>exact False.elim h
   |ret u=>
    obtain⟨v,H',os,bare,un,hok',r',q⟩:=h
    have q':v=.bl true:=q
    subst q'
    obtain rfl:u=Value.bool true:=r'
    refine⟨rfl,OldK.of_keep fun b o e=>?_,os,bare⟩
    cases q:H b with
    |none=>exact un.keep b o e q (by intro z;exact absurd (show b∈([]:List Addr) from z) (by simp)) (by simp)
    |some u=>
     rcases hO b with z|⟨ob,xs,z⟩
     .rw[q]at z;cases z
     .have z2:=un.frzs b ob _ z
      obtain⟨e1,_⟩:=hok b _ z
      obtain⟨e2,_⟩:=hok' b _ z2
      rw[e]at e1;cases e1
      exact e2
 cases hk:K.lookup a with
 |some o=>
  have e:=KX a o hk
  rw[ha]at e
  cases e
  refine core (fun _=>none) (fun _=>.inl rfl) (.inr ⟨_,vs.toArray,_,hk,rfl,rfl,rfl,by rw[ao,lenV];exact hl,by simpa using rv⟩) (fun b u z=>by have z':(none:Option HO)=some u:=z;cases z') (fun b z=>absurd rfl z) fun z=>absurd rfl z
 |none=>
  refine core (fun b=>if b=a then some (.frz { cls:=.type "list",data:=.seq vs.toArray } (.lst (ns.map V.int)))else none) (fun b=>?_) (.inl (.inr ⟨{ cls:=.type "list",data:=.seq vs.toArray },if_pos rfl⟩)) (fun b u z=>?_) (fun b z=>?_) fun _=>hk
  .by_cases hb:b=a
   .exact .inr ⟨_,_,if_pos hb⟩
   .exact .inl (if_neg hb)
  .by_cases hb:b=a
   .have z':=(if_pos hb).symm.trans z
    cases z'
    subst hb
    exact⟨ha,by rw[af];exact hl,vs,_,rv,ha⟩
   .have z':=(if_neg hb).symm.trans z
    cases z'
  .by_cases hb:b=a
   .exact hb
   .exact absurd (if_neg hb) z
theorem pJ' {l:W.OpenLaw} {n k:Nat} {q:Program} {loose:List Str} {XP:(Str->Option Value)->Heap->Prop} {YP:World->Heap->Prop} {d:DefRec} {K:Params->W.Frag} {CX:World->CXT} {sp:World->Sp} {x:Str}
  (hn:l.most=some n) (hn2:n<=sizeLine) (hdf:d.params.defaults=[]) (hr:Room k callerA)
  (hY:∀(w:World) (h:Heap),YP w h->(K w.params).In h)
  (F:∀(w:World) (mg:Str->Option Value) (fa:Addr) (h:Heap),(K w.params).In h->h.Ns mainGlobals mg->mg d.name=some (.ref fa)->
   ∃fd:FuncData,(∀(s:Shared) (u:Value),BindsTo s fd ⟨[u],[]⟩ [(x,u)])/\
    ∀base:Heap,(K w.params).In base->base.Ns mainGlobals mg->FnOk l.prog w (K w.params) mg base (CX w) k fa fd [x] (sp w))
  (hsp:∀(w:World) (H:Hp) (a:Addr) (ns:List Int),ns.length<=n->w3' H->SqL (K w.params) H a (ns.map V.int)->sp w [.ref a] H (fun v _=>v=.bl true) fun _ _ _=>False)
  (hCX:∀(w:World) (H:Hp) (s:Shared) (e:Value) (s':Shared),CX w [] H s (fun _ _ _=>False) e s'->False):
  W.WalkO q loose XP YP l.row.toRowW d [] (fun f vs=>PySem.call f vs):=by
 refine Att.gC' hn hdf fun w s₀ s₁ mg mb fa o pm cd doc a vs ns G Y ho hd hcd hmg hobj hints hlen hg=>?_
 have KX:=hY w _ Y
 obtain⟨fd,hb,hF⟩:=F w mg fa _ KX G.T.g hmg
 exact mq' KX G.T.g G.T.b G.T.builtins G.T.nolimit hg hobj hints (aM hlen hn2) hr hF hb (fun H hO hS=>hsp w H a ns hlen hO hS) fun H e s'=>hCX w H s₁ e s'
def cy' (s:Stmt):Arguments:=match s with
 | .FunctionDef _ a _ _ _ _ _ _ _ _=>a
 |_=>{ posonlyargs:=[],args:=[],vararg:=none,kwonlyargs:=[],kw_defaults:=[],kwarg:=none,defaults:=[] }
def am' (s:Stmt):List Stmt:=match s with
 | .FunctionDef _ _ b _ _ _ _ _ _ _=>b
 |_=>[]
def ab' (s:Stmt):Scope:=match s with
 | .FunctionDef _ _ _ _ _ _ sc _ _ _=>sc
 |_=>{ kind:=.function,names:=[],isGenerator:=false,isCoroutine:=false }
abbrev CX0:CXT:=fun _ _ _ _ _ _=>False
abbrev E0:XK:=fun _ _ _=>False
structure Fun (K:W.Frag) (x qual:Str) (st:Stmt) (f:Addr) (fd:FuncData):Prop where
 ex:∃(oc:Value) (od:Option Addr) (kV doc pm:Value) (an:Option Addr) (cdv ct:Value) (osl:Array (Option Value)),
  fd=W.fnOf x qual (cy' st) (am' st) (ab' st) .none kV doc pm an cdv ct/\K.lookup f=some ⟨oc,od,.func fd,osl⟩/\W.codeIn K cdv qual=true
 kp:W.keepIn K (.ref f)=true
section
variable {P:Program} {w:World} {K:W.Frag} {mg:Str->Option Value} {base:Heap}
theorem Fun.binds {x qual:Str} {st:Stmt} {f:Addr} {fd:FuncData} {ps:List Str} (F:Fun K x qual st f fd)
  (h:∀(kV doc pm:Value) (an:Option Addr) (cdv ct:Value) (us:List Value),us.length=ps.length->bindArgs (W.fnOf x qual (cy' st) (am' st) (ab' st) .none kV doc pm an cdv ct) ⟨us,[]⟩=pure (ps.zip us)):ed' K fd ps []:=by
 obtain⟨oc,od,kV,doc,pm,an,cdv,ct,osl,rfl,lk,hcd⟩:=F.ex
 exact .all (h kV doc pm an cdv ct)
theorem sB' {x qual:Str} {st:Stmt} {f:Addr} {oc:Value} {od an:Option Addr} {osl:Array (Option Value)} {kV doc pm cdv ct:Value} (l:K.lookup f=some ⟨oc,od,.func (W.fnOf x qual (cy' st) (am' st) (ab' st) .none kV doc pm an cdv ct),osl⟩)
  (c:W.codeIn K cdv qual=true) (k:W.keepIn K (.ref f)=true):Fun K x qual st f (W.fnOf x qual (cy' st) (am' st) (ab' st) .none kV doc pm an cdv ct):=⟨⟨oc,od,kV,doc,pm,an,cdv,ct,osl,rfl,l,c⟩,k⟩
end
theorem ap' {n:Nat} (h:n<=1000):n<sizeLine:=cx h (by decide)
section
variable {X:Cx}
theorem pv (i:Nat) {x:Str} {pos:Pos} (hN:X.N[i]?=some x:=by rfl) (hv:Vis X.env.scope x:=by first|exact Or.inl rfl|exact Or.inr (Or.inl rfl)|exact Or.inr (Or.inr rfl)) (hd:(x == ("__debug__":Str))=false:=by decide)
  (hcd:(x == ("__classdict__":Str))=false:=by decide):PE X (.Name x pos) (wb' i):=oc' hN hv hd hcd
end
def aw' (H H':Hp):Prop:=∀b o,H b=some o->H' b=some o
theorem aw'.refl (H:Hp):aw' H H:=fun _ _ h=>h
theorem aw'.trans {H H1 H2:Hp} (a:aw' H H1) (b:aw' H1 H2):aw' H H2:=fun c o h=>b c o (a c o h)
theorem aw'.free {H H':Hp} (e:aw' H H') {l:Addr} (h:H' l=Option.none):H l=Option.none:=by
 cases q:H l with
 |none=>rfl
 |some o=>
  rw[e l o q]at h
  cases h
theorem aw'.seq {K:W.Frag} {H H':Hp} {a:Addr} {xs:List V} (e:aw' H H') (h:SqL K H a xs):SqL K H' a xs:=by
 rcases h with(h|⟨o,h⟩)|h
 .exact .inl (.inl (e _ _ h))
 .exact .inl (.inr ⟨o,e _ _ h⟩)
 .exact .inr h
section
variable {κ:Type} [DecidableEq κ]
def ef' (kvs:List (κ×V)) (k:κ):Option V:=(kvs.find? fun kv=>decide (kv.1=k)).map (·.2)
def eg' (kvs:List (κ×V)) (k:κ) (v:V):List (κ×V):=
 if(kvs.any fun kv=>decide (kv.1=k))=true then kvs.map (fun kv=>if kv.1=k then(kv.1,v)else kv)else kvs++[(k,v)]
theorem cQ' {p:κ×V} {r:List (κ×V)} {k:κ} (e:p.1=k):ef' (p :: r) k=some p.2:=by simp[ef',cB,e]
theorem cR' {p:κ×V} {r:List (κ×V)} {k:κ} (e:¬p.1=k):ef' (p :: r) k=ef' r k:=by simp[ef',cB,e]
theorem e1' (k:κ):∀kvs:List (κ×V),(kvs.any fun kv=>decide (kv.1=k))=(ef' kvs k).isSome
 | []=>rfl
 |p :: r=>by
  rw[cE]
  by_cases e:p.1=k
  .simp only[cQ' e,decide_eq_true e,Bool.true_or,Option.isSome_some]
  .rw[cR' e,decide_eq_false e,Bool.false_or];exact e1' k r
theorem cz' (kvs:List (κ×V)) (k:κ) (v:V):(eg' kvs k v).length<=kvs.length+1:=by
 unfold eg'
 split
 .rw[af];omega
 .rw[aB,aV,cC];omega
theorem e3' {kvs:List (κ×V)} {k:κ} (v:V) (h:ef' kvs k=none):eg' kvs k v=kvs++[(k,v)]:=by
 unfold eg'
 rw[e1',h]
 exact if_neg (by decide)
theorem jl'.isSome_eq {o:Option V} {u:Option Value} (r:jl' o u):o.isSome=u.isSome:=by
 cases o with
 |none=>cases u with
  |none=>rfl
  |some _=>exact(show False from r).elim
 |some _=>cases u with
  |none=>exact(show False from r).elim
  |some _=>rfl
theorem jl'.getD {o:Option V} {u:Option Value} {d:V} {d':Value} (r:jl' o u) (rd:ay' d d'):ay' (o.getD d) (u.getD d'):=by
 cases o with
 |none=>cases u with
  |none=>exact rd
  |some _=>exact(show False from r).elim
 |some _=>cases u with
  |none=>exact(show False from r).elim
  |some _=>exact r
theorem KV.val {kvs:List (κ×V)} {vs:List (κ×Value)} (r:KV kvs vs) (k:κ):jl' (ef' kvs k) (valueAt vs k):=by
 unfold KV at r
 induction r with
 |nil=>exact True.intro
 | @cons p q ps qs h t ih=>
  obtain⟨h1,h2⟩:=h
  by_cases e:p.1=k
  .have e':q.1=k:=h1.symm.trans e
   have b:valueAt (q :: qs) k=some q.2:=by simp[valueAt,cB,e']
   rw[cQ' e,b];exact h2
  .have e':¬q.1=k:=fun z=>e (h1.trans z)
   have b:valueAt (q :: qs) k=valueAt qs k:=by simp[valueAt,cB,e']
   rw[cR' e,b];exact ih
theorem KV.any {kvs:List (κ×V)} {vs:List (κ×Value)} (r:KV kvs vs) (k:κ):(kvs.any fun kv=>decide (kv.1=k))=vs.any fun kv=>decide (kv.1=k):=by
 unfold KV at r
 induction r with
 |nil=>rfl
 |cons h t ih=>rw[cE,cE,ih,h.1]
theorem KV.repl {kvs:List (κ×V)} {vs:List (κ×Value)} (r:KV kvs vs) (k:κ) {y:V} {u:Value} (ry:ay' y u):
  KV (kvs.map fun kv=>if kv.1=k then(kv.1,y)else kv) (vs.map fun kv=>if kv.1=k then(kv.1,u)else kv):=by
 unfold KV at r ⊢
 induction r with
 |nil=>exact .nil
 | @cons p q ps qs h t ih=>
  rw[aL,aL]
  refine .cons ?_ ih
  obtain⟨h1,h2⟩:=h
  by_cases e:p.1=k
  .rw[if_pos e,if_pos (h1.symm.trans e)];exact⟨h1,ry⟩
  .rw[if_neg e,if_neg (fun z=>e (h1.trans z))];exact⟨h1,h2⟩
theorem KV.put {kvs:List (κ×V)} {vs:List (κ×Value)} (r:KV kvs vs) (k:κ) {y:V} {u:Value} (ry:ay' y u):KV (eg' kvs k y) (stored vs k u):=by
 unfold eg' stored
 rw[r.any k]
 by_cases e:(vs.any fun kv=>decide (kv.1=k))=true
 .rw[if_pos e,if_pos e];exact r.repl k ry
 .rw[if_neg e,if_neg e];exact Paired.snoc r ⟨rfl,ry⟩
theorem KV.keys {kvs:List (κ×V)} {vs:List (κ×Value)} (r:KV kvs vs):kvs.map (·.1)=vs.map (·.1):=by
 unfold KV at r
 induction r with
 |nil=>rfl
 |cons h t ih=>rw[aL,aL,ih,h.1]
theorem KV.length {kvs:List (κ×V)} {vs:List (κ×Value)} (r:KV kvs vs):kvs.length=vs.length:=Paired.length r
end
theorem iF' {P:Program} {w:World} {k:Key} {u:Value} (r:ay' (kV k) u):(ai' P w).is k u=true:=by
 cases k with
 |inl i=>obtain⟨t,e⟩:=(show ∃t,u=Value.int i t from r);subst e;exact gv' P w i t
 |inr x=>obtain⟨t,e⟩:=(show ∃t,u=Value.str x t from r);subst e;exact gw' P w x t
 |non=>obtain rfl:u=Value.none:=r;rfl
theorem fK' {P:Program} {w:World}:∀{ks:List Key} {us:List Value},aB' (ks.map kV) us->ItemsAre (ai' P w) ks us
 | [],_,r=>by rw[List.map_nil]at r;cases r;exact .nil
 |k :: ks,_,r=>by
  rw[aL]at r
  cases r with
  |cons h t=>exact .cons (iF' h) (fK' t)
abbrev KT (H:Hp):List (List Key×V)->List (List Key×Addr×Value)->Prop:=Paired fun p q=>p.1=q.1/\H q.2.1=some (.tup (p.1.map kV))/\ay' p.2 q.2.2
theorem KT.val {H:Hp} {kvs:List (List Key×V)} {xs:List (List Key×Addr×Value)} (r:KT H kvs xs) (k:List Key):jl' (ef' kvs k) ((atKey xs k).map (·.2)):=by
 induction r with
 |nil=>exact True.intro
 | @cons p q ps qs h t ih=>
  obtain⟨h1,_,h2⟩:=h
  by_cases e:p.1=k
  .have e':q.1=k:=h1.symm.trans e
   have b:atKey (q :: qs) k=some q.2:=by simp[atKey,cB,e']
   rw[cQ' e,b];exact h2
  .have e':¬q.1=k:=fun z=>e (h1.trans z)
   have b:atKey (q :: qs) k=atKey qs k:=by simp[atKey,cB,e']
   rw[cR' e,b];exact ih
theorem KT.repl {H:Hp} {kvs:List (List Key×V)} {xs:List (List Key×Addr×Value)} (r:KT H kvs xs) (k:List Key) {y:V} {u:Value} (ry:ay' y u):
  KT H (kvs.map fun kv=>if kv.1=k then(kv.1,y)else kv) (xs.map (putAt k u)):=by
 induction r with
 |nil=>exact .nil
 | @cons p q ps qs h t ih=>
  rw[aL,aL]
  refine .cons ?_ ih
  obtain⟨h1,h2,h3⟩:=h
  unfold putAt
  by_cases e:p.1=k
  .rw[if_pos e,if_pos (h1.symm.trans e)];exact⟨h1,h2,ry⟩
  .rw[if_neg e,if_neg (fun z=>e (h1.trans z))];exact⟨h1,h2,h3⟩
theorem KT.put {H:Hp} {kvs:List (List Key×V)} {xs:List (List Key×Addr×Value)} (r:KT H kvs xs) (k:List Key) {b:Addr} {y:V} {u:Value} (hb:H b=some (.tup (k.map kV))) (ry:ay' y u):
  KT H (eg' kvs k y) (storedH xs k b u):=by
 have e:(kvs.any fun kv=>decide (kv.1=k))=(atKey xs k).isSome:=by
  rw[e1',(r.val k).isSome_eq,Option.isSome_map]
 unfold eg' storedH
 rw[e]
 by_cases q:(atKey xs k).isSome=true
 .rw[if_pos q,if_pos q];exact r.repl k ry
 .rw[if_neg q,if_neg q];exact Paired.snoc r ⟨rfl,hb,ry⟩
theorem KT.keeps {H H':Hp} {kvs:List (List Key×V)} {xs:List (List Key×Addr×Value)} (r:KT H kvs xs) (ht:∀b ys,H b=some (.tup ys)->H' b=some (.tup ys)):KT H' kvs xs:=
 Paired.mapP r fun _ _ z=>⟨z.1,ht _ _ z.2.1,z.2.2⟩
section
variable {P:Program} {w:World} {H:Hp} {h:Heap} {a:Addr}
theorem sC' {u:HO} (ok:HOk P w H h) (e:Rd H a u):av' P w H h a u:=e.ok ok
theorem iG' {kvs:List (Key×V)} (ok:HOk P w H h) (e:Rd H a (.dK kvs)):kvs.length<=sizeLine/\(a == sysModules)=false/\∃vs,KV kvs vs/\h.DictOf (ai' P w) a vs:=
 show av' P w H h a (.dK kvs) from sC' ok e
theorem sD' {kvs:List (Key×V)} (ok:HOk P w H h) (e:H a=some (.dK kvs)):kvs.length<=sizeLine/\(a == sysModules)=false/\∃vs,KV kvs vs/\h.DictOf (ai' P w) a vs:=iG' ok (.inl e)
theorem ce' {ks:List Key} (ok:HOk P w H h) (e:H a=some (.tup (ks.map kV))):(tupleKind (ai' P w)).is h ks a:=by
 obtain⟨_,its,r,o,h1,h2,⟨n,h3⟩,_⟩:=(show av' P w H h a (.tup (ks.map kV)) from ok a _ e)
 exact⟨o,its.toArray,n,h1,h2,h3,by simpa using fK' r⟩
theorem fL' {kvs:List (List Key×V)} (ok:HOk P w H h) (e:Rd H a (.dT kvs)):kvs.length<=sizeLine/\(a == sysModules)=false/\
  ∃xs,KT H kvs xs/\h.DictOfH (tupleKind (ai' P w)) a xs:=by
 obtain⟨z,y,xs,r,o,es,ep,h1,h2,h3,h4,h5⟩:=(show av' P w H h a (.dT kvs) from sC' ok e)
 refine⟨z,y,xs,r,o,es,ep,h1,h2,h3,h4,fun x hx=>?_,h5⟩
 have all:∀{l:List (List Key×V)} {m:List (List Key×Addr×Value)},KT H l m->∀x∈m,(tupleKind (ai' P w)).is h x.1 x.2.1:=by
  intro l m q
  induction q with
  |nil=>intro x hx;exact nomatch hx
  | @cons p q ps qs hq t ih=>
   intro x hx
   rcases ak.mp hx with e|hx
   .subst e
    exact ce' ok (by rw[<- hq.1];exact hq.2.1)
   .exact ih x hx
 exact all r x hx
theorem sE' {kvs:List (List Key×V)} (ok:HOk P w H h) (e:H a=some (.dT kvs)):kvs.length<=sizeLine/\(a == sysModules)=false/\
  ∃xs,KT H kvs xs/\h.DictOfH (tupleKind (ai' P w)) a xs:=fL' ok (.inl e)
end
def e4' (H:Hp) (a:Addr) (y:V) (r:Option V):Prop:=
 (∃kvs k,Rd H a (.dK kvs)/\y=kV k/\r=ef' kvs k)\/∃kvs k b,Rd H a (.dT kvs)/\y=.ref b/\H b=some (.tup (k.map kV))/\r=ef' kvs k
def pK' (H:Hp) (a:Addr) (y v:V) (H':Hp):Prop:=
 (∃kvs k,H a=some (.dK kvs)/\y=kV k/\kvs.length<sizeLine/\H'=upd H a (.dK (eg' kvs k v)))\/
 ∃kvs k b,H a=some (.dT kvs)/\y=.ref b/\H b=some (.tup (k.map kV))/\kvs.length<sizeLine/\H'=upd H a (.dT (eg' kvs k v))
theorem e4'.k {H:Hp} {a:Addr} {kvs:List (Key×V)} {k:Key} (e:H a=some (.dK kvs)):e4' H a (kV k) (ef' kvs k):=.inl ⟨kvs,k,.inl e,rfl,rfl⟩
theorem e4'.t {H:Hp} {a b:Addr} {kvs:List (List Key×V)} {k:List Key} (e:H a=some (.dT kvs)) (eb:H b=some (.tup (k.map kV))):e4' H a (.ref b) (ef' kvs k):=.inr ⟨kvs,k,b,.inl e,rfl,eb,rfl⟩
theorem pK'.t {H:Hp} {a b:Addr} {kvs:List (List Key×V)} {k:List Key} {v:V} (e:H a=some (.dT kvs)) (eb:H b=some (.tup (k.map kV))) (hl:kvs.length<sizeLine):
  pK' H a (.ref b) v (upd H a (.dT (eg' kvs k v))):=.inr ⟨kvs,k,b,e,rfl,eb,hl,rfl⟩
section
variable {X:Cx} {pins:List (Addr×Obj)} {σ:St} {H:Hp} {s:Shared} {a:Addr} {y v:V} {u r:Value} {o:Option V} {A:Around} {E:Value->Shared->Prop}
theorem Inv.big (I:Inv X pins σ H s):sysModules<s.heap.objs.size:=by
 have h:mainGlobals<s.heap.objs.size:=(I.mod.glob.keeps I.bk).lt
 exact Nat.lt_trans (by decide) h
theorem zH' {Q:Value->Shared->Prop} (hu:A.units+1<cLine) (I:Inv X pins σ H s) (g:e4' H a y o) (ry:ay' y u) (h:∀s',Inv X pins σ H s'->Q (.bool o.isSome) s'):
  wpAny (model X.prog X.w) A (compareOp .In u (.ref a)) Q E s:=by
 rcases g with⟨kvs,k,e,ey,l⟩|⟨kvs,k,b,e,ey,eb,l⟩
 .subst ey
  obtain⟨z,hd,vs,rel,dd⟩:=iG' I.hok e
  refine wpAny_in_of (iF' ry) hd dd.mapOf ?_
  rw[<- (rel.val k).isSome_eq,<- l]
  exact h _ (I.tok _)
 .subst ey
  cases(show u=Value.ref b from ry)
  obtain⟨z,hd,xs,rel,dd⟩:=fL' I.hok e
  refine wpAny_in_heap (tupleKind_room_in1 hu) (ce' I.hok eb) hd dd ?_
  have q:=(rel.val k).isSome_eq
  rw[Option.isSome_map]at q
  rw[<- q,<- l]
  exact h _ (I.tok _)
theorem pL' {Q:Value->Shared->Prop} (hu:A.units+1<cLine) (I:Inv X pins σ H s) (g:e4' H a y o) (ry:ay' y u) (h:∀s',Inv X pins σ H s'->Q (.bool (!o.isSome)) s'):
  wpAny (model X.prog X.w) A (compareOp .NotIn u (.ref a)) Q E s:=by
 rcases g with⟨kvs,k,e,ey,l⟩|⟨kvs,k,b,e,ey,eb,l⟩
 .subst ey
  obtain⟨z,hd,vs,rel,dd⟩:=iG' I.hok e
  refine wpAny_notIn_of (iF' ry) hd dd.mapOf ?_
  rw[<- (rel.val k).isSome_eq,<- l]
  exact h _ (I.tok _)
 .subst ey
  cases(show u=Value.ref b from ry)
  obtain⟨z,hd,xs,rel,dd⟩:=fL' I.hok e
  refine wpAny_notIn_heap (tupleKind_room_in1 hu) (ce' I.hok eb) hd dd ?_
  have q:=(rel.val k).isSome_eq
  rw[Option.isSome_map]at q
  rw[<- q,<- l]
  exact h _ (I.tok _)
theorem e6' {h':Heap} {t':Nat} {ob:HO} (I:Inv X pins σ H s) (mu:Mut (H a)) (hs:bL a s.heap h') (he:∃q,h'.get? a=some q) (new:av' X.prog X.w (upd H a ob) h' a ob):
  Inv X pins σ (upd H a ob) { s with heap:=h',toks:=t' }:=
 I.write (x:=a) (e:=a) mu (.inl rfl) (fun b q hb z=>(hs.2 b hb).trans z) he new
theorem sF' {P:Program} {w:World} {H':Hp} {h':Heap} {kvs:List (Key×V)} {vs:List (Key×Value)} (z:kvs.length<=sizeLine) (hd:(a == sysModules)=false) (rel:KV kvs vs) (dd:h'.DictOf (ai' P w) a vs):
  av' P w H' h' a (.dK kvs):=⟨z,hd,vs,rel,dd⟩
theorem jJ' {H':Hp} {Q:Unit->Shared->Prop} (hu:A.units+1<cLine) (I:Inv X pins σ H s) (g:pK' H a y v H') (ry:ay' y u) (rv:ay' v r) (h:∀s',Inv X pins σ H' s'->Q () s'):
  wpAny (model X.prog X.w) A (setItem (.ref a) u r) Q E s:=by
 rcases g with⟨kvs,k,e,ey,l,eH⟩|⟨kvs,k,b,e,ey,eb,l,eH⟩
 .subst ey eH
  obtain⟨z,hd,vs,rel,dd⟩:=sD' I.hok e
  have hz:vs.length<=sizeLine:=by rw[<- rel.length];exact z
  have hl:(eg' kvs k v).length<=sizeLine:=by have:=cz' kvs k v;omega
  refine wpAny_setItem_pairs (hsz:=hz) (iF' ry) dd fun h' dd' hs=>h _ ?_
  have he:∃q,h'.get? a=some q:=let⟨q,_,_,hq,_⟩:=dd';⟨q,hq⟩
  exact e6' I (by rw[e];exact True.intro) hs he (sF' hl hd (rel.put k rv) dd')
 .subst ey eH
  cases(show u=Value.ref b from ry)
  obtain⟨z,hd,xs,rel,dd⟩:=sE' I.hok e
  have hz:xs.length<=sizeLine:=by rw[<- Paired.length rel];exact z
  have hl:(eg' kvs k v).length<=sizeLine:=by have:=cz' kvs k v;omega
  refine wpAny_setItem_heap (hsz:=hz) (tupleKind_room_in1 hu) (ce' I.hok eb) dd fun h' dd' hs=>h _ ?_
  obtain⟨q,es,ep,hq,h2,h3,h4,_,h5⟩:=dd'
  refine e6' I (by rw[e];exact True.intro) hs ⟨q,hq⟩ ⟨hl,hd,_,(rel.put k eb rv).keeps fun c ys ec=>?_,q,es,ep,hq,h2,h3,h4,h5⟩
  rw[ad' (wB' ec e (fun z=>nomatch z))]
  exact ec
end
section
variable {X:Cx} {pins:List (Addr×Obj)} {σ:St} {H:Hp} {s:Shared} {a:Addr} {kvs:List (Key×V)} {k:Key} {u:Value} {A:Around} {E:Value->Shared->Prop}
theorem w4' {Q:Value->Shared->Prop} (I:Inv X pins σ H s) (e:Rd H a (.dK kvs)) (h:∀t s',Inv X pins σ H s'->Q (.int kvs.length t) s'):wpAny (model X.prog X.w) A (call (.builtin "len") [.ref a]) Q E s:=by
 obtain⟨z,hd,vs,rel,dd⟩:=iG' I.hok e
 refine call_len_dict hd dd (by rw[<- rel.length];rw[sizeLine_eq]at z;omega) ?_
 rw[<- rel.length]
 exact h _ _ (I.tok _)
end
section
variable {X:Cx} {o i e value:Expr} {pos pos' tpos:Pos} {td ty tv:TE}
end
theorem mr' {P:Program} {w:World} {H:Hp} (h:Heap) (hb:sysModules<h.objs.size):av' P w H (h.push { cls:=.type "dict",data:=.dict #[] }) h.objs.size (.dT []):=
 ⟨aO _,beq_eq_false_iff_ne.mpr (Ne.symm (ax hb)),[],.nil,_,#[],0,am _ rfl,⟨rfl,rfl,rfl⟩,rfl,rfl,cc⟩
def jK':TE:=fun _ H Q=>∀p,H p=none->Q (.ref p) (upd H p (.dT []))
section
variable {X:Cx} {pos:Pos}
theorem ms':PE X (.Dict [] [] pos) jK':=fun pins s σ H Q I h=>
 wpAny_Dict_empty ⟨.ref s.heap.objs.size,_,I.laid (a:=s.heap.objs.size) (o:=.dT []) (t':=s.toks) (fun _ _ q=>ab _ q) (ah _) (mr' s.heap I.big),rfl,h _ (I.hok.fresh (ah _))⟩
end
def sG' (kvs more:List (Key×V)):List (Key×V):=more.foldl (fun acc kv=>eg' acc kv.1 kv.2) kvs
theorem KV.merge:∀{more:List (Key×V)} {rs:List (Key×Value)} {kvs:List (Key×V)} {vs:List (Key×Value)},KV more rs->KV kvs vs->KV (sG' kvs more) (merged vs rs):=by
 intro more rs kvs vs r
 unfold KV at r
 induction r generalizing kvs vs with
 |nil=>intro q;exact q
 | @cons p q ps qs h t ih=>
  intro r0
  have e:KV (eg' kvs p.1 p.2) (stored vs q.1 q.2):=by
   have:=r0.put p.1 h.2
   rw[<- h.1];exact this
  exact ih e
structure M1 (X:Cx) (o:Expr) (m:Str) (apos:Pos) (e:Expr) (cpos:Pos):Prop where
 base:attributeBase o m X.env (eval o X.env)=eval o X.env
 few:((backTo cpos (starEach [e] X.env)).all (fun x=>!x.1)&&(backToKw cpos (keywordEach [] X.env)).all (fun x=>x.1.isSome)
  && decide (([e]:List Expr).length+([]:List Keyword).length+(if([]:List Keyword).isEmpty then 0 else 1)<30))=true
 line:(apos.endLine == cpos.line)=true
 trees:backTo cpos (starEach [e] X.env)=[(false,eval e X.env)]
structure M2 (X:Cx) (o:Expr) (m:Str) (apos:Pos) (e f:Expr) (cpos:Pos):Prop where
 base:attributeBase o m X.env (eval o X.env)=eval o X.env
 few:((backTo cpos (starEach [e,f] X.env)).all (fun x=>!x.1)&&(backToKw cpos (keywordEach [] X.env)).all (fun x=>x.1.isSome)
  && decide (([e,f]:List Expr).length+([]:List Keyword).length+(if([]:List Keyword).isEmpty then 0 else 1)<30))=true
 line:(apos.endLine == cpos.line)=true
 trees:backTo cpos (starEach [e,f] X.env)=[(false,eval e X.env),(false,eval f X.env)]
def IsD (H:Hp) (a:Addr):Prop:=(∃kvs,Rd H a (.dK kvs))\/∃kvs,Rd H a (.dT kvs)
theorem sH' {X:Cx} {pins:List (Addr×Obj)} {σ:St} {H:Hp} {s:Shared} {a:Addr} (I:Inv X pins σ H s) (d:IsD H a):
  s.TypeIs (.ref a) "dict"/\(∀b,Value.ref a=.ref b->∃ob,s.heap.get? b=some ob/\ob.dict=none)/\(a == sysModules)=false:=by
 rcases d with⟨kvs,e⟩|⟨kvs,e⟩
 .obtain⟨_,hd,vs,_,dd⟩:=iG' I.hok e
  refine⟨dd.typeIs,fun b q=>?_,hd⟩
  cases q
  obtain⟨ob,_,_,h1,h2,_⟩:=dd
  exact⟨ob,h1,h2.2.1⟩
 .obtain⟨_,hd,xs,_,dd⟩:=fL' I.hok e
  refine⟨dd.typeIs,fun b q=>?_,hd⟩
  cases q
  obtain⟨ob,_,_,h1,h2,_⟩:=dd
  exact⟨ob,h1,h2.2.1⟩
section
variable {X:Cx} {pins:List (Addr×Obj)} {σ:St} {H:Hp} {s:Shared} {a:Addr} {y d:V} {u r:Value} {o:Option V} {A:Around} {E:Value->Shared->Prop}
theorem sI' {Q:Value->Shared->Prop} (hu:A.units+1<cLine) (I:Inv X pins σ H s) (g:e4' H a y o) (ry:ay' y u) (h:∀w' s',Inv X pins σ H s'->ay' (o.getD .non) w'->Q w' s'):
  wpAny (model X.prog X.w) A (call (.builtin "dict.get") [.ref a,u]) Q E s:=by
 rcases g with⟨kvs,k,e,ey,l⟩|⟨kvs,k,b,e,ey,eb,l⟩
 .subst ey
  obtain⟨z,hd,vs,rel,dd⟩:=iG' I.hok e
  refine call_meetsIn PySem.F.slot_dict_get dd.typeIs PySem.F.entry_dict_get (PySem.F.args_dict_get_2 _ _) (meets_dict_get (ai' X.prog X.w) a (iF' ry) hd) ⟨_,dd.mapOf,h _ _ (I.tok _) ?_⟩
  rw[l]
  exact(rel.val k).getD rfl
 .subst ey
  cases(show u=Value.ref b from ry)
  obtain⟨z,hd,xs,rel,dd⟩:=fL' I.hok e
  refine call_meetsIn PySem.F.slot_dict_get dd.typeIs PySem.F.entry_dict_get (PySem.F.args_dict_get_2 _ _) (meetsH_dict_get (tupleKind (ai' X.prog X.w)) a b hd) ⟨tupleKind_room_in1 hu,k,xs,ce' I.hok eb,dd,h _ _ (I.tok _) ?_⟩
  rw[l]
  exact(rel.val k).getD rfl
end
section
variable {X:Cx} {o e f:Expr} {apos cpos:Pos} {td ty tx:TE}
end
section
variable {X:Cx} {pins:List (Addr×Obj)} {σ:St} {H:Hp} {s:Shared} {a:Addr} {kvs:List (Key×V)} {A:Around} {E:Value->Shared->Prop}
end
section
variable {X:Cx} {pins:List (Addr×Obj)} {σ:St} {H:Hp} {s:Shared} {a:Addr} {y:V} {u:Value} {A:Around} {E:Value->Shared->Prop}
end
section
variable {X:Cx}
theorem jL':aP' X (.builtin "len") (fun xs H Q=>∃a kvs,xs=[V.ref a]/\H a=some (.dK kvs)/\Q (.int kvs.length) H):=by
 intro pins s σ H xs us Q I r h
 obtain⟨a,kvs,rfl,ha,q⟩:=h
 obtain⟨u,rfl,ru⟩:=dp' r
 cases ru
 exact w4' I (.inl ha) fun t s' I'=>⟨.int kvs.length,H,I',⟨t,rfl⟩,q⟩
end
section
variable {κ:Type} [DecidableEq κ]
end
def wh' (ta tb:TE):TE:=fun σ H Q=>ta σ H fun x H1=>(x=.non/\tb σ H1 Q)\/∃i:Int,x=.int i/\if i=0 then tb σ H1 Q else Q (.int i) H1
section
variable {X:Cx} {a b:Expr} {au':List Expr} {pos:Pos} {ta tb:TE}
theorem om' (ha:PE X a ta) (hb:PE X (.BoolOp .Or (b :: au') pos) tb):PE X (.BoolOp .Or (a :: b :: au') pos) (wh' ta tb):=by
 intro pins s σ H Q I h
 refine BoolOp_or (thn (ha pins s σ H _ I h) fun v s1 ⟨x,H1,I1,r1,q1⟩=>?_)
 rcases q1 with⟨rfl,q1⟩|⟨i,rfl,q1⟩
 .cases r1
  exact truthy_none (hb pins s1 σ H1 Q I1 q1)
 .obtain⟨t,rfl⟩:=r1
  refine PySem.P.truthy_int ?_
  by_cases hi:i=0
  .rw[if_pos hi]at q1
   subst hi
   exact hb pins s1 σ H1 Q I1 q1
  .rw[if_neg hi]at q1
   rw[show(i != 0)=true by simpa using hi]
   exact⟨.int i,H1,I1,⟨t,rfl⟩,q1⟩
end
def bK' (cells:List (Str×Addr)):List (Str×NameKind)->List (Str×Addr)->List (Str×Addr)
 | [],acc=>acc
 |(n,k) :: r,acc=>if k == .free then bK' cells r ((n,(cells.lookup n).getD 0) :: acc)else bK' cells r acc
def fM' (env:Env) (x:Str×NameKind) (r:List (Str×Addr)):Sem (ForInStep (List (Str×Addr))):=
 match x with|(name,kind)=>if(kind == .free)=true then(do let a <- cellOf env name;pure (ForInStep.yield ((name,a) :: r)))else pure (ForInStep.yield r)
theorem sJ' {env:Env}:∀(names:List (Str×NameKind)) (acc:List (Str×Addr)),(∀n,(n,NameKind.free)∈names->∃c,env.cells.lookup n=some c)->
   forIn names acc (fM' env)=(pure (bK' env.cells names acc):Sem _):=by
  intro names
  induction names with
  |nil=>intro acc _;rfl
  |cons x r ih=>
   intro acc hh
   obtain⟨n,k⟩:=x
   rw[List.forIn_cons]
   have hr:=fun m hm=>hh m (aw _ hm)
   by_cases hk:k=.free
   .subst hk
    obtain⟨c,hc⟩:=hh n ay
    have e1:cellOf env n=(pure c:Sem Addr):=by unfold cellOf;rw[hc]
    have e2:fM' env (n,NameKind.free) acc=pure (ForInStep.yield ((n,c) :: acc)):=by
     unfold fM'
     dsimp only
     rw[if_pos (by rfl),e1]
     rfl
    rw[e2]
    have e3:=ih ((n,c) :: acc) hr
    have e4:bK' env.cells ((n,NameKind.free) :: r) acc=bK' env.cells r ((n,c) :: acc):=by
     show(if(NameKind.free == NameKind.free)=true then _ else _)=_
     rw[if_pos (by rfl),hc]
     rfl
    rw[e4,<- e3]
    rfl
   .have hb:(k == NameKind.free)=false:=by simpa using hk
    have e2:fM' env (n,k) acc=pure (ForInStep.yield acc):=by
     unfold fM'
     dsimp only
     rw[if_neg (by rw[hb];exact ap)]
    rw[e2]
    have e4:bK' env.cells ((n,k) :: r) acc=bK' env.cells r acc:=by
     show(if(k == NameKind.free)=true then _ else _)=_
     rw[if_neg (by rw[hb];exact ap)]
    rw[e4,<- ih acc hr]
    rfl
theorem jM' {env:Env} {scope:Scope} (h:∀n,(n,NameKind.free)∈scope.names->∃c,env.cells.lookup n=some c):closureFor scope env=pure (bK' env.cells scope.names []):=by
 have e:=sJ' (env:=env) scope.names [] h
 unfold closureFor
 have q:∀f:Str×NameKind->List (Str×Addr)->Sem (ForInStep (List (Str×Addr))),(∀x r,f x r=fM' env x r)->(forIn scope.names ([]:List (Str×Addr)) f >>= fun r=>pure r)=(pure (bK' env.cells scope.names []):Sem _):=by
  intro f hf
  have:f=fM' env:=funext fun x=>funext fun r=>hf x r
  rw[this,e]
  rfl
 refine q _ fun x r=>?_
 obtain⟨n,k⟩:=x
 unfold fM'
 first|done|(dsimp only;done)|(dsimp only;cases hk:k == NameKind.free<;>simp[hk])
set_option tactic.hygienic true in
theorem dG' {cells:List (Str×Addr)}:∀{names:List (Str×NameKind)} {acc:List (Str×Addr)} {n:Str} {c:Addr},(n,c)∈bK' cells names acc->(n,c)∈acc\/((n,NameKind.free)∈names/\c=(cells.lookup n).getD 0)
 | [],_,_,_,h=>.inl h
 |(m,k) :: r,acc,n,c,h=>by
  unfold bK' at h
  split at h
  .rename_i hk
   have hk':k=.free:=by simpa using hk
   subst hk'
   rcases dG' h with q|⟨q,e⟩
   .rcases ak.mp q with q|q
    .cases q;exact .inr ⟨ay,rfl⟩
    .exact .inl q
   .exact .inr ⟨aw _ q,e⟩
  .rcases dG' h with q|⟨q,e⟩
   .exact .inl q
   .exact .inr ⟨aw _ q,e⟩
set_option tactic.hygienic true in
theorem dH' {cells:List (Str×Addr)}:∀{names:List (Str×NameKind)} {acc:List (Str×Addr)} {n:Str},((n,NameKind.free)∈names\/∃c,(n,c)∈acc)->∃c,(n,c)∈bK' cells names acc
 | [],_,_,h=>by
  rcases h with h|h
  .simp at h
  .exact h
 |(m,k) :: r,acc,n,h=>by
  unfold bK'
  split
  .rename_i hk
   refine dH' ?_
   rcases h with h|⟨c,h⟩
   .rcases ak.mp h with h|h
    .cases h;exact .inr ⟨_,ay⟩
    .exact .inl h
   .exact .inr ⟨c,aw _ h⟩
  .rename_i hk
   refine dH' ?_
   rcases h with h|h
   .rcases ak.mp h with h|h
    .cases h;exact absurd rfl hk
    .exact .inl h
   .exact .inr h
theorem aG':∀(names:List (Str×NameKind)) (n:Nat) (acc:List (Str×Addr)),cellsFrom n names acc=cellsFrom n names []++acc
 | [],_,_=>rfl
 |(x,k) :: r,n,acc=>by
  unfold cellsFrom
  split
  .rw[aG' r (n+1) ((x,n) :: acc),aG' r (n+1) [(x,n)],aT]
   rfl
  .exact aG' r n acc
theorem by' {α:Type}:∀{l:List (Str×α)} {n:Str} {c:α},(n,c)∈l->∃c',l.lookup n=some c'
 |(k,v) :: r,n,c,h=>by
  rw[bA]
  cases hb:n == k with
  |true=>exact⟨v,rfl⟩
  |false=>
   rcases ak.mp h with e|h
   .cases e;simp at hb
   .exact by' h
theorem bE' {env:Env}:∀{names:List (Str×NameKind)} {x:Str} {k':NameKind},
  (names.map fun(n,k)=>if(k == NameKind.free&&env.scope.kind == .function&&env.kindOf n == some .cell)then(n,NameKind.cell)else(n,k)).lookup x=some k'->∃k,names.lookup x=some k/\(k'=k\/(k=.free/\k'=.cell))
 | [],_,_,h=>by simp at h
 |(n,k) :: r,x,k',h=>by
  have ih:=@bE' env r x k'
  rw[aL]at h
  by_cases hc:(k == NameKind.free&&env.scope.kind == .function&&env.kindOf n == some .cell)=true
  .have e1:(match ((n,k):Str×NameKind)with|(n,k)=>if(k == NameKind.free&&env.scope.kind == .function&&env.kindOf n == some .cell)=true then(n,NameKind.cell)else(n,k))=(n,NameKind.cell):=if_pos hc
   rw[e1,bA]at h
   rw[bA]
   cases hx:x == n with
   |true=>
    rw[hx]at h
    cases h
    refine⟨k,rfl,.inr ⟨?_,rfl⟩⟩
    simp only[ag]at hc
    exact beq_iff_eq.mp hc.1.1
   |false=>rw[hx]at h;exact ih h
  .have e1:(match ((n,k):Str×NameKind)with|(n,k)=>if(k == NameKind.free&&env.scope.kind == .function&&env.kindOf n == some .cell)=true then(n,NameKind.cell)else(n,k))=(n,k):=if_neg hc
   rw[e1,bA]at h
   rw[bA]
   cases hx:x == n with
   |true=>rw[hx]at h;cases h;exact⟨k,rfl,.inl rfl⟩
   |false=>rw[hx]at h;exact ih h
theorem a3' {env:Env}:∀{names:List (Str×NameKind)} {x:Str} {k:NameKind},names.lookup x=some k ->
  ∃k',(names.map fun(n,k)=>if(k == NameKind.free&&env.scope.kind == .function&&env.kindOf n == some .cell)then(n,NameKind.cell)else(n,k)).lookup x=some k'/\(k'=k\/(k=.free/\k'=.cell))
 | [],_,_,h=>by simp at h
 |(n,k0) :: r,x,k,h=>by
  have ih:=@a3' env r x k
  rw[aL]
  by_cases hc:(k0 == NameKind.free&&env.scope.kind == .function&&env.kindOf n == some .cell)=true
  .have e1:(match ((n,k0):Str×NameKind)with|(n,k)=>if(k == NameKind.free&&env.scope.kind == .function&&env.kindOf n == some .cell)=true then(n,NameKind.cell)else(n,k))=(n,NameKind.cell):=if_pos hc
   rw[e1,bA]
   rw[bA]at h
   cases hx:x == n with
   |true=>
    rw[hx]at h
    cases h
    refine⟨_,rfl,.inr ⟨?_,rfl⟩⟩
    simp only[ag]at hc
    exact beq_iff_eq.mp hc.1.1
   |false=>rw[hx]at h;exact ih h
  .have e1:(match ((n,k0):Str×NameKind)with|(n,k)=>if(k == NameKind.free&&env.scope.kind == .function&&env.kindOf n == some .cell)=true then(n,NameKind.cell)else(n,k))=(n,k0):=if_neg hc
   rw[e1,bA]
   rw[bA]at h
   cases hx:x == n with
   |true=>rw[hx]at h;cases h;exact⟨_,rfl,.inl rfl⟩
   |false=>rw[hx]at h;exact ih h
section
variable {M:Model} {A:Around} {E:Value->Shared->Prop} {s:Shared}
abbrev aZ' (h:Heap) (names:List (Str×NameKind)):Heap:=pushCells (h.push { cls:=.type "dict",data:=.dict #[] }) names
theorem cS' {scope:Scope} {globals:Addr} {cl:List (Str×Addr)} {qual:Str} {env:Env} {Q:Env->Shared->Prop}
  (h:Q (newEnv scope s.heap.objs.size globals (cellsFrom (s.heap.objs.size+1) scope.names cl) qual none .none (some env) builtinsNs) { s with heap:=aZ' s.heap scope.names }):
  wpAny M A (newFunctionEnv scope globals cl [] qual none .none (some env)) Q E s:=by
 simp only[newFunctionEnv,Option.isSome_some,if_true]
 refine aa (wpAny_alloc ?_)
 refine aa (wpAny_layCells _ (fun name kind cells=>by cases hkc:kind == NameKind.cell<;>simp[hkc]) _ _ _ _ ?_)
 rw[show({ s with heap:=s.heap.push { cls:=.type "dict",data:=.dict #[] } }:Shared).heap.objs.size=s.heap.objs.size+1 from aW ..]
 exact aa (ae (ae h))
end
def Cx.comp (X:Cx) (scope:Scope) (s₀:Shared) (H₀:Hp) (ex:List Addr):Cx:=
 { X with
  s₀:=s₀,H₀:=H₀
  env:={ newEnv scope s₀.heap.objs.size X.env.globals (cellsFrom (s₀.heap.objs.size+1) scope.names (bK' X.env.cells scope.names [])) X.env.qual none .none (some X.env) builtinsNs with scope:=relabel scope X.env }
  outer:=X.stack,ex:=ex,fn:=fun x=>((cellsFrom (s₀.heap.objs.size+1) scope.names []).lookup x).isSome,pn:=[],xe:=fun _ _=>False }
structure CompSc (X:Cx) (scope:Scope):Prop where
 kind:scope.kind=.function
 names:∀x∈scope.names,x.2=.local->scope.names.lookup x.1=some .local
 one:∀n,(n,NameKind.cell)∈scope.names->scope.names.lookup n=some .cell
 free:∀n,(n,NameKind.free)∈scope.names->X.env.kindOf n=some .cell\/X.env.kindOf n=some .free
set_option tactic.hygienic true in
theorem bQ':∀{names:List (Str×NameKind)} {n:Nat} {x:Str} {c:Addr},(x,c)∈cellsFrom n names []->(x,NameKind.cell)∈names
 | [],_,_,_,h=>by simp[cellsFrom]at h
 |(y,k) :: r,n,x,c,h=>by
  unfold cellsFrom at h
  split at h
  .rename_i hk
   have hk':k=.cell:=by simpa using hk
   subst hk'
   rw[aG']at h
   rcases aH.mp h with h|h
   .exact aw _ (bQ' h)
   .have h':(x,c)=(y,n):=by simpa using h
    cases h'
    exact ay
  .exact aw _ (bQ' h)
def clr (own:List Nat) (σ:St):St:=own.foldl (fun σ i=>σ.set i none) σ
theorem dI':∀(own:List Nat) (σ:St),(clr own σ).length=σ.length
 | [],_=>rfl
 |i :: r,σ=>by
  show(clr r (σ.set i none)).length=_
  rw[dI' r,List.length_set]
theorem dJ':∀{own:List Nat} {σ:St} {i:Nat} {v:V},(clr own σ)[i]?=some (some v)->σ[i]?=some (some v)/\i∉own
 | [],_,_,_,h=>⟨h,by simp⟩
 |j :: r,σ,i,v,h=>by
  obtain⟨h1,h2⟩:=dJ' (own:=r) (σ:=σ.set j none) h
  by_cases e:j=i
  .subst e
   rw[List.getElem?_set]at h1
   simp at h1
  .rw[ce e]at h1
   exact⟨h1,by simp;exact⟨fun z=>e z.symm,h2⟩⟩
theorem gD':∀{own:List Nat} {σ:St} {i:Nat},i∉own->(clr own σ)[i]?=σ[i]?
 | [],_,_,_=>rfl
 |j :: r,σ,i,h=>by
  have h1:i≠j:=fun z=>h (by simp[z])
  have h2:i∉r:=fun z=>h (by simp[z])
  show(clr r (σ.set j none))[i]?=_
  rw[gD' h2,ce (Ne.symm h1)]
section
variable {X:Cx} {pins:List (Addr×Obj)} {σ:St} {H H':Hp} {s s':Shared} {scope:Scope} {ex:List Addr} {own:List Nat}
theorem iH' (I:Inv X pins σ H s) (S:CompSc X scope):
  (∀x c,(bK' X.env.cells scope.names []).lookup x=some c->X.env.cells.lookup x=some c)/\
  (∀x,(x,NameKind.free)∈scope.names->∃c,(bK' X.env.cells scope.names []).lookup x=some c)/\
  CellsOk (aZ' s.heap scope.names) (s.heap.objs.size+1) (cellsFrom (s.heap.objs.size+1) scope.names []):=by
 have hc:∀x c,(x,c)∈bK' X.env.cells scope.names []->X.env.cells.lookup x=some c:=fun x c h=>by
  rcases dG' h with z|⟨z,e⟩
  .simp at z
  .obtain⟨c',e'⟩:=I.ok.has x (S.free x z)
   rw[e',Option.getD_some]at e
   rw[e',e]
 refine⟨fun x c h=>hc x c (PySem.mem_of_lookup h),fun x h=>?_,?_⟩
 .obtain⟨c,q⟩:=dH' (cells:=X.env.cells) (acc:=[]) (.inl h)
  exact by' q
 .have q:=cellsFrom_ok scope.names (s.heap.push { cls:=.type "dict",data:=.dict #[] }) (s.heap.objs.size+1) [] ⟨fun _ _ hm=>(nomatch hm),List.Pairwise.nil⟩ (by rw[aW];exact ah _)
  rw[aW]at q
  exact q
theorem eE' (I:Inv X pins σ H s) (hex:∀b∈ex,cM' X pins H b) (hlt:∀b∈ex,b<s.heap.objs.size) (S:CompSc X scope)
  (hown:∀i x,X.N[i]?=some x->(scope.names.lookup x=some .local\/scope.names.lookup x=some .cell)->i∈own):
  Inv (X.comp scope s H ex) [] (clr own σ) H { s with heap:=aZ' s.heap scope.names }:=by
 obtain⟨hcl,hcf,ok⟩:=iH' I S
 have lk:∀x c,(X.comp scope s H ex).env.cells.lookup x=some c->(cellsFrom (s.heap.objs.size+1) scope.names []).lookup x=some c\/((cellsFrom (s.heap.objs.size+1) scope.names []).lookup x=none/\X.env.cells.lookup x=some c):=fun x c h=>by
  have h':(cellsFrom (s.heap.objs.size+1) scope.names (bK' X.env.cells scope.names [])).lookup x=some c:=h
  rw[aG',List.lookup_append]at h'
  cases q:(cellsFrom (s.heap.objs.size+1) scope.names []).lookup x with
  |some d=>rw[q]at h';exact .inl h'
  |none=>rw[q]at h';exact .inr ⟨rfl,hcl x c h'⟩
 have newC:∀x c,(cellsFrom (s.heap.objs.size+1) scope.names []).lookup x=some c->(aZ' s.heap scope.names).IsCell c none/\s.heap.objs.size+1<=c:=fun x c h=>ok.empty x c (PySem.mem_of_lookup h)
 have oldC:∀x c,X.env.cells.lookup x=some c->c<s.heap.objs.size:=fun x c h=>let⟨_,q⟩:=I.cell x c h;q.lt
 have keep:∀b o,s.heap.get? b=some o->(aZ' s.heap scope.names).get? b=some o:=fun b o e=>pushCells_keeps _ _ b o (ab _ e)
 have fresh:∀b,s.heap.objs.size<=b->H b=none:=fun b hb=>I.hok.fresh hb
 have loc0:(X.comp scope s H ex).env.locals=s.heap.objs.size:=rfl
 refine⟨⟨I.ok.mod,S.kind,I.ok.glob,?_,ah _,fun x y c h1 h2=>?_,fun x hx=>?_,fun x c hf h=>?_,I.ok.hd,I.ok.frames,.inl rfl,fun b hb=>?_,I.bs,aM I.ok.bsz I.sz,fun b o e hb=>?_,fun b hb=>?_,I.stack,I.stkFree⟩,
  rfl,I.bare,Un.kept keep,⟨fun _=>none,?_,fun i x v h1 h2 h3=>?_⟩,fun x c h=>?_,fresh _ (ah _),fun x c h=>?_,fun p hp=>absurd (show p∈([]:List (Addr×Obj)) from hp) (by simp),I.hok.kept keep,?_⟩
 .show X.env.builtins=_
  exact I.ok.blt
 .rcases lk x c h1 with q1|⟨_,q1⟩<;>rcases lk y c h2 with q2|⟨_,q2⟩
  .exact name_of_addr ok.apart (PySem.mem_of_lookup q1) (PySem.mem_of_lookup q2)
  .exact absurd (ai (oldC y c q2) (aM (Nat.le_succ _) (newC x c q1).2)) (aZ _)
  .exact absurd (ai (oldC x c q1) (aM (Nat.le_succ _) (newC y c q2).2)) (aZ _)
  .exact I.ok.inj x y c q1 q2
 .have hx':(relabel scope X.env).names.lookup x=some .cell\/(relabel scope X.env).names.lookup x=some .free:=hx
  have fin:∀k,scope.names.lookup x=some k->(k=.cell\/k=.free)->∃c,(cellsFrom (s.heap.objs.size+1) scope.names (bK' X.env.cells scope.names [])).lookup x=some c:=fun k hk hkk=>by
   rw[aG',List.lookup_append]
   rcases hkk with rfl|rfl
   .obtain⟨c,q⟩:=eY' (n:=s.heap.objs.size+1) hk
    exact⟨c,by rw[q];rfl⟩
   .obtain⟨c,q⟩:=hcf x (PySem.mem_of_lookup hk)
    cases z:(cellsFrom (s.heap.objs.size+1) scope.names []).lookup x with
    |some d=>exact⟨d,rfl⟩
    |none=>exact⟨c,by rw[q];rfl⟩
  rcases hx' with hx'|hx'<;>obtain⟨k,hk,e⟩:=bE' hx'
  .rcases e with e|⟨e,_⟩
   .exact fin k hk (.inl e.symm)
   .exact fin k hk (.inr e)
  .rcases e with e|⟨e,_⟩
   .exact fin k hk (.inr e.symm)
   .exact fin k hk (.inr e)
 .rcases lk x c h with q|⟨q,_⟩
  .have:=(newC x c q).2
   show s.heap.objs.size<=c
   omega
  .have hf':((cellsFrom (s.heap.objs.size+1) scope.names []).lookup x).isSome=true:=hf
   rw[q]at hf'
   cases hf'
 .refine⟨?_,fun x c h=>?_⟩
  .show b≠s.heap.objs.size
   exact ax (hlt b hb)
  .rcases lk x c h with q|⟨_,q⟩
   .intro e
    rw[e]at q
    exact absurd (ai (hlt b hb) (aM (Nat.le_succ _) (newC x b q).2)) (aZ _)
   .exact(hex b hb).2.2.2.2.1 x c q
 .rcases(hex b hb).2.2.2.1 with z|z
  .exact I.ok.noex b o e z
  .exact absurd (ai (al e) (aM I.ok.bsz z)) (aZ _)
 .intro z
  rcases ak.mp (I.stkSub b z)with e|e
  .exact(hex b hb).2.1 e
  .exact(hex b hb).2.2.1 e
 .show(aZ' s.heap scope.names).Ns s.heap.objs.size _
  exact(Heap.Ns.new s.heap (.type "dict")).keeps (pushCells_keeps _ _)
 .obtain⟨h2,hno⟩:=dJ' h2
  have h3':(relabel scope X.env).names.lookup x=some .local\/(relabel scope X.env).names.lookup x=some .cell\/(relabel scope X.env).names.lookup x=some .free:=h3
  have h3k:∃k',(relabel scope X.env).names.lookup x=some k'/\(k'=.local\/k'=.cell\/k'=.free):=by
   rcases h3' with z|z|z
   .exact⟨_,z,.inl rfl⟩
   .exact⟨_,z,.inr (.inl rfl)⟩
   .exact⟨_,z,.inr (.inr rfl)⟩
  obtain⟨k',hk',hkk⟩:=h3k
  obtain⟨k,hk,e⟩:=bE' hk'
  have hfree:k=.free:=by
   rcases e with e|⟨e,_⟩
   .subst e
    rcases hkk with z|z|z
    .subst z;exact absurd (hown i x h1 (.inl hk)) hno
    .subst z;exact absurd (hown i x h1 (.inr hk)) hno
    .exact z
   .exact e
  subst hfree
  have hm:=PySem.mem_of_lookup hk
  have hv:Vis X.env.scope x:=by
   rcases S.free x hm with z|z
   .exact .inr (.inl z)
   .exact .inr (.inr z)
  obtain⟨m,hn,hl⟩:=I.loc
  obtain⟨u,r,l⟩:=hl i x v h1 h2 hv
  refine⟨u,r,?_⟩
  have hkind:(X.comp scope s H ex).env.kindOf x=some .cell\/(X.comp scope s H ex).env.kindOf x=some .free:=by
   show(relabel scope X.env).names.lookup x=some .cell\/(relabel scope X.env).names.lookup x=some .free
   rcases e with e|⟨_,e⟩
   .subst e;exact .inr hk'
   .subst e;exact .inl hk'
  have hcc:∃c,X.env.cells.lookup x=some c/\s.heap.IsCell c (some u):=by
   rcases l with⟨kk,_⟩|⟨_,c,e1,e2⟩
   .rcases S.free x hm with z|z
    .rw[z]at kk;cases kk
    .rw[z]at kk;cases kk
   .exact⟨c,e1,e2⟩
  obtain⟨c,e1,e2⟩:=hcc
  refine .inr ⟨hkind,c,?_,e2.keeps keep⟩
  show(cellsFrom (s.heap.objs.size+1) scope.names (bK' X.env.cells scope.names [])).lookup x=some c
  rw[aG',List.lookup_append]
  have hnone:(cellsFrom (s.heap.objs.size+1) scope.names []).lookup x=none:=by
   cases z:(cellsFrom (s.heap.objs.size+1) scope.names []).lookup x with
   |none=>rfl
   |some d=>
    exfalso
    have q1:=S.one x (bQ' (PySem.mem_of_lookup z))
    rw[hk]at q1
    cases q1
  obtain⟨c',q⟩:=hcf x hm
  have q':=hcl x c' q
  rw[e1]at q'
  cases q'
  rw[hnone,q]
  rfl
 .rcases lk x c h with q|⟨_,q⟩
  .exact⟨_,(newC x c q).1⟩
  .obtain⟨v,z⟩:=I.cell x c q
   exact⟨v,z.keeps keep⟩
 .rcases lk x c h with q|⟨_,q⟩
  .have:=(newC x c q).2
   exact fresh c (by omega)
  .exact I.freeC x c q
 .rw[dI']
  exact I.len
end
section
variable {X:Cx} {pins:List (Addr×Obj)} {σ:St} {H H':Hp} {s s':Shared} {scope:Scope} {ex:List Addr} {own:List Nat}
theorem pM' {P:Program} {w:World} {h h':Heap} {a:Addr} (x:HOk P w H h) (hn:H a=none) (hs:∀b o,b≠a->h.get? b=some o->h'.get? b=some o):HOk P w H h':=fun b ob e=>
 (x b ob e).stay (fun c w' hc q=>hs c w' (by
  rintro rfl
  rcases hc with rfl|hc
  .rw[hn]at e;cases e
  .rw[hn]at hc;cases hc) q) (fun _ q=>q) fun _ _ q=>q
theorem dq' {σ':St} {pins':List (Addr×Obj)} {h':Heap} (I:Inv X pins σ H s) (hex:∀b∈ex,cM' X pins H b) (J:Inv (X.comp scope s H ex) pins' σ' H' s') (hs:bL s.heap.objs.size s'.heap h'):
  Inv X pins σ H' { s' with heap:=h' }:=by
 have ne:∀b o,s.heap.get? b=some o->b≠s.heap.objs.size:=fun b o e=>ax (al e)
 have u:Un (frs X.stack) ex H H' s.heap s'.heap:=J.base
 have hf:H' s.heap.objs.size=none:=J.free
 refine I.call' (s':={ s' with heap:=h' }) (ch:=ex) J.os ⟨fun b o e n hb hx=>?_,fun b o e n hb hx=>?_,u.free,fun b o e hx=>?_,u.tups,u.frzs,u.tbls⟩ (pM' J.hok hf fun b o hb e=>(hs.2 b hb).trans e) J.bare fun b hb=>?_
 .exact(hs.2 b (ne b o e)).trans (u.keep b o e n hb hx)
 .obtain⟨sl,q⟩:=u.slot b o e n hb hx
  exact⟨sl,(hs.2 b (ne b o e)).trans q⟩
 .obtain⟨o',q⟩:=u.there b o e hx
  exact⟨o',(hs.2 b (ne b o e)).trans q⟩
 .obtain⟨f0,f1,f2,f3,f4,f5⟩:=hex b hb
  exact⟨f3,f1,f4,f5⟩
end
def PTs (X:Cx) (ifs:List Expr) (t:TT):Prop:=∀(pins:List (Addr×Obj)) (s:Shared) (σ:St) (H:Hp) (Q:Bool->Hp->Prop),Inv X pins σ H s->t σ H Q->
 wpAny (model X.prog X.w) X.A (forIn ifs true fun c r=>if r=true then do let ok <- isTrue c X.env (eval c X.env);pure (ForInStep.yield ok)else pure (ForInStep.yield r)) (TP X pins σ Q) X.xe s
theorem pN' {X:Cx}:PTs X [] (fun _ H Q=>Q true H):=fun pins s σ H Q I h=>wpAny_tests_nil ⟨H,I,h⟩
theorem pO' {X:Cx} {c:Expr} {t:TT} (hc:PT X c t):PTs X [c] t:=fun pins s σ H Q I h=>wpAny_tests_one (hc pins s σ H Q I h)
def Ext (ws:List Nat) (σ σ':St):Prop:=σ'.length=σ.length/\∀j,j∉ws->σ'[j]?=σ[j]?
theorem Ext.refl {ws:List Nat} {σ:St}:Ext ws σ σ:=⟨rfl,fun _ _=>rfl⟩
theorem Ext.trans {ws:List Nat} {σ σ1 σ2:St} (a:Ext ws σ σ1) (b:Ext ws σ1 σ2):Ext ws σ σ2:=⟨b.1.trans a.1,fun j hj=>(b.2 j hj).trans (a.2 j hj)⟩
theorem Ext.mono {ws ws':List Nat} {σ σ1:St} (a:Ext ws σ σ1) (h:∀j∈ws,j∈ws'):Ext ws' σ σ1:=⟨a.1,fun j hj=>a.2 j fun z=>hj (h j z)⟩
theorem Ext.clr {ws:List Nat} {σ:St}:Ext ws σ (clr ws σ):=⟨dI' _ _,fun j hj=>gD' hj⟩
theorem Ext.back {ws:List Nat} {σ σ':St} (a:Ext ws (L2.clr ws σ) σ') (i:Nat) (v:V) (h:(L2.clr ws σ)[i]?=some (some v)):σ'[i]?=some (some v):=by
 obtain⟨_,q⟩:=dJ' h
 rw[a.2 i q]
 exact h
def rM' (ws:List Nat) (g:TG):Prop:=∀(x:V) (σ:St) (H:Hp) (Q:St->Hp->Prop),g x σ H Q->g x σ H fun σ2 H2=>Q σ2 H2/\Ext ws σ σ2
theorem jN' {i:Nat} {ws:List Nat} (h:i∈ws):rM' ws (cO' i):=fun x σ H Q q=>⟨q,by simp,fun j hj=>by
 have:i≠j:=fun z=>hj (z ▸ h)
 rw[ce this]⟩
def aV' (e:Expr) (d:Nat) (tg iter:Expr) (ifs:List Expr) (nx:Sem Unit) (it acc:Value) (env:Env):Sem Fin:=do
 standAt iter.pos
 match <- pyNext it with
 |none=>pure (.done .next)
 |some v=>
  letOwnedTupleGo tg it v
  assign tg env v
  let mut ok:=true
  for c in ifs do
   if ok then ok <- isTrue c env (eval c env)
  if ok then nx
  again (.compLoop e d it acc env)
abbrev TL (α:Type):=St->α->Hp->(α->Hp->Prop)->Prop
def bR' {α:Type} (X:Cx) (D:Addr) (Is:α->Obj->Prop) (ws:List Nat) (code:Sem Unit) (t:TL α):Prop:=
 ∀(pins:List (Addr×Obj)) (s:Shared) (σ:St) (H:Hp) (a:α) (o:Obj) (N:α->Hp->Prop),Inv X pins σ H s->cM' X pins H D->s.heap.get? D=some o->Is a o->t σ a H N->
  wpAny (model X.prog X.w) X.A code (fun _ s'=>∃σ' a' o' H',Inv X pins σ' H' s'/\Ext ws σ σ'/\s'.heap.get? D=some o'/\Is a' o'/\H' D=none/\N a' H') (fun _ _=>False) s
def aY' {α:Type} (ws:List Nat) (g:TG) (tc:TT) (au':TL α) (J:It):TL α:=fun σ a H1 N=>
 ∃W:Nat->Nat->α->Hp->Prop,(∃m,W 0 m a H1)/\∀i m b H,W i m b H->
  (J.stop i H/\N b H)\/(J.go i H/\∀x H',J.yld i H x H'->g x (clr ws σ) H' fun σ2 H2=>tc σ2 H2 fun ok H3=>
   if ok=true then au' σ2 b H3 (fun c H4=>∃m',m'<m/\W (i+1) m' c H4)else ∃m',m'<m/\W (i+1) m' b H3)
theorem dK' {α:Type} {Is:α->Obj->Prop} {X:Cx} {e:Expr} {d:Nat} {tg iter:Expr} {ifs:List Expr} {nx:Sem Unit} {it D:Addr} {fp:List Addr} {tn:Nat->Heap->Prop} {J:It} {g:TG} {tc:TT} {au':TL α} {ws ws':List Nat}
  (hxe:X.xe=fun _ _=>False) (hcalm:X.calm=true)
  (hq:(Code.compLoop e d (.ref it) (.ref D) X.env).quiet=true) (hu:X.A.under (Code.compLoop e d (.ref it) (.ref D) X.env)=X.A)
  (hT:(model X.prog X.w).den (.compLoop e d (.ref it) (.ref D) X.env)=(aV' e d tg iter ifs nx (.ref it) (.ref D) X.env).onRaise (fun x=>do noteFrame x X.env;theTreesLotGoes x))
  (T:Turn X.prog X.w X.K tg J fp it tn) (hg:PG X tg g) (hge:rM' ws g) (ht:PTs X ifs tc) (hn:bR' X D Is ws' nx au') (hws:∀j∈ws',j∈ws) (hIs:∀a o,Is a o->∀v,o.data≠.cell v) (hDf:D∉fp)
  {pins:List (Addr×Obj)} {s:Shared} {σ:St} {H:Hp} {a:α} {o:Obj} {N:α->Hp->Prop} (I:Inv X pins σ H s) (hf:∀b∈fp,cM' X pins H b) (hD:cM' X pins H D) (ho:s.heap.get? D=some o) (ha:Is a o) (h0:tn 0 s.heap)
  (hw:aY' ws g tc au' J σ a H N):
  codeAny (model X.prog X.w) X.A (.compLoop e d (.ref it) (.ref D) X.env) (fun r s'=>r=.ok .next/\∃a' o' H',Inv X pins (clr ws σ) H' s'/\s'.heap.get? D=some o'/\Is a' o'/\H' D=none/\N a' H') s:=by
 obtain⟨W,⟨m0,w0⟩,turn⟩:=hw
 have stat:∀{H':Hp} {pl:List (Addr×Obj)},(∀b∈D :: fp,H' b=none)->(∀b∈D :: fp,cM' X pins H' b):=fun {H' pl} hn b hb=>by
  rcases ak.mp hb with rfl|hb'
  .exact⟨hn _ ay,hD.2⟩
  .exact⟨hn b hb,(hf b hb').2⟩
 refine codeAny_loop hq (fun n s'=>∃i b ob H',Inv X pins (clr ws σ) H' s'/\tn i s'.heap/\(∀b∈D :: fp,H' b=none)/\s'.heap.get? D=some ob/\Is b ob/\W i n b H') ?_ m0
  ⟨0,a,o,H,I.weak (dI' _ _) (fun i v q=>(dJ' q).1),h0,fun b hb=>by
   rcases ak.mp hb with rfl|hb'
   .exact hD.1
   .exact(hf b hb').1,ho,ha,w0⟩
 rintro n s3 ⟨i,b,ob,H3,I3,st3,fr3,o3,is3,w3⟩
 rw[hu,hT]
 refine wpAny_noted ?_
 have hE:∀{β:Type} {c:Sem β} {Q:β->Shared->Prop} {s:Shared} {E:Value->Shared->Prop},wpAny (model X.prog X.w) X.A c Q (fun _ _=>False) s->wpAny (model X.prog X.w) X.A c Q E s:=fun h=>wpAny_mono h (fun _ _ q=>q) fun _ _ q=>q.elim
 refine hE ?_
 unfold aV'
 refine aa (bT (aa ?_))
 have hxeE:∀{β:Type} {c:Sem β} {Q:β->Shared->Prop} {s:Shared},wpAny (model X.prog X.w) X.A c Q X.xe s->wpAny (model X.prog X.w) X.A c Q (fun _ _=>False) s:=fun h=>by rw[hxe]at h;exact h
 have pD:Inv X (pins++bx' [D] s3.heap) (clr ws σ) H3 s3:=I3.pinned (fun b hb=>by
  have e:b=D:=by simpa using hb
  subst e
  exact stat (pl:=[]) fr3 b ay) (fun b hb=>by
  have e:b=D:=by simpa using hb
  subst e
  exact⟨ob,o3,hIs _ _ is3⟩)
 have mD:(D,ob)∈bx' [D] s3.heap:=aE' (by simp) o3
 have fpD:∀{H':Hp},(∀b∈fp,H' b=none)->∀b∈fp,cM' X (pins++bx' [D] s3.heap) H' b:=fun {H'} hn b hb=>by
  obtain⟨_,f1,f2,f3,f4,f5⟩:=hf b hb
  refine⟨hn b hb,f1,f2,f3,f4,fun p hp=>?_⟩
  rcases aH.mp hp with q|q
  .exact f5 p (ba _ q)
  .rcases aH.mp q with q|q
   .exact f5 p (aj _ q)
   .have e:p.1=D:=by simpa using(dB' q).1
    rw[e]
    rintro rfl
    exact hDf hb
 have fr3':∀b∈fp,H3 b=none:=fun b hb=>fr3 b (aw _ hb)
 rcases turn i n b H3 w3 with⟨stop,qn⟩|⟨go,step⟩
 .refine thn (T.done X rfl rfl rfl hcalm i _ s3 _ H3 _ pD (fpD fr3') st3 stop) fun r s4 ⟨hr,I4⟩=>?_
  subst hr
  have q4:=I4.pin (D,ob) (aj _ (aj _ mD))
  exact ae ⟨rfl,b,ob,H3,I4.unpinned,q4.1,is3,q4.2.1,qn⟩
 .refine thn (T.item X rfl rfl rfl hcalm i _ s3 _ H3 _ pD (fpD fr3') st3 go) fun r s4 ⟨u,hr,h4⟩=>?_
  subst hr
  refine aa (thn h4 fun _ s5 ⟨x,H5,I5,r5,y5,st5,fr5⟩=>?_)
  have I5':=I5.pinned (fpD fr5) (T.obj _ _ st5)
  refine aa (thn (hxeE (hg _ s5 _ H5 x u _ I5' r5 (hge x _ H5 _ (step x H5 y5)))) fun _ s6 ⟨σ6,H6,I6,q6,x6⟩=>?_)
  refine aa (thn (hxeE (ht _ s6 σ6 H6 _ I6 q6)) fun ok s7 ⟨H7,I7,q7⟩=>?_)
  have q7D:=I7.pin (D,ob) (aj _ (ba _ (aj _ mD)))
  have q7f:∀b∈fp,∀o,s5.heap.get? b=some o->s7.heap.get? b=some o/\H7 b=none:=fun b hb o e =>
   let q:=I7.pin (b,o) (aj _ (aj _ (aE' hb e)))
   ⟨q.1,q.2.1⟩
  have st7:tn (i+1) s7.heap:=T.keep _ _ _ st5 fun b hb o e=>(q7f b hb o e).1
  have fr7:∀b∈fp,H7 b=none:=fun b hb=>by
   obtain⟨o,e,_⟩:=T.obj _ _ st5 b hb
   exact(q7f b hb o e).2
  have I7':Inv X pins σ6 H7 s7:=I7.unpinned.unpinned
  cases ok with
  |false=>
   have q7':∃m',m'<n/\W (i+1) m' b H7:=q7
   obtain⟨m',hm,w7⟩:=q7'
   refine ae ⟨rfl,m',hm,i+1,b,ob,H7,I7'.weak ?_ x6.back,st7,fun c hc=>?_,q7D.1,is3,w7⟩
   .rw[x6.1]
   .rcases ak.mp hc with rfl|hc'
    .exact q7D.2.1
    .exact fr7 c hc'
  |true=>
   have I7p:=I7'.pinned (fun b hb=>stat (pl:=[]) (fun c hc=>by
    rcases ak.mp hc with rfl|hc'
    .exact q7D.2.1
    .exact fr7 c hc') b (aw _ hb)) (T.obj _ _ st7)
   have fD:cM' X (pins++bx' fp s7.heap) H7 D:=by
    obtain⟨_,f1,f2,f3,f4,f5⟩:=hD
    refine⟨q7D.2.1,f1,f2,f3,f4,fun p hp=>?_⟩
    rcases aH.mp hp with q|q
    .exact f5 p (ba _ q)
    .rcases aH.mp q with q|q
     .exact f5 p (aj _ q)
     .intro z
      exact hDf (z ▸ (dB' q).1)
   refine aa (thn (hn _ s7 σ6 H7 b ob _ I7p fD q7D.1 is3 q7) fun _ s8 ⟨σ8,b8,o8,H8,I8,x8,e8,is8,n8,m',hm,w8⟩=>?_)
   have q8f:∀b∈fp,∀o,s7.heap.get? b=some o->s8.heap.get? b=some o/\H8 b=none:=fun b hb o e =>
    let q:=I8.pin (b,o) (aj _ (aj _ (aE' hb e)))
    ⟨q.1,q.2.1⟩
   have x8':Ext ws (clr ws σ) σ8:=x6.trans (x8.mono hws)
   refine ae ⟨rfl,m',hm,i+1,b8,o8,H8,I8.unpinned.weak (by rw[x8'.1]) x8'.back,T.keep _ _ _ st7 fun b hb o e=>(q8f b hb o e).1,fun c hc=>?_,e8,is8,w8⟩
   rcases ak.mp hc with rfl|hc'
   .exact n8
   .obtain⟨o,e,_⟩:=T.obj _ _ st7 c hc'
    exact(q8f c hc' o e).2
def IsL (xs:List V) (o:Obj):Prop:=xs.length<=sizeLine/\∃(its:List Value) (n:Nat),aB' xs its/\o={ cls:=.type "list",data:=.seq its.toArray n }
theorem cT' (xs:List V) (o:Obj) (h:IsL xs o) (v:Option Value):o.data≠.cell v:=by
 obtain⟨_,its,n,_,rfl⟩:=h
 intro z
 cases z
def dL' (te:TE):TL (List V):=fun σ xs H N=>te σ H fun v H'=>xs.length<sizeLine/\N (xs++[v]) H'
theorem e7' {X:Cx} {D:Addr} {elt:Expr} {te:TE} (hxe:X.xe=fun _ _=>False) (he:PE X elt te):bR' X D IsL [] (do let _ <- call (.builtin "list.append") [.ref D,<- eval elt X.env]) (dL' te):=by
 intro pins s σ H xs o N I hD ho hi hq
 have I1:Inv X (pins++bx' [D] s.heap) σ H s:=I.pinned (fun b hb=>by
  have e:b=D:=by simpa using hb
  subst e
  exact hD) (fun b hb=>by
  have e:b=D:=by simpa using hb
  subst e
  exact⟨o,ho,cT' _ _ hi⟩)
 have h1:=he _ s σ H _ I1 hq
 rw[hxe]at h1
 refine aa (thn h1 fun u s1 ⟨v,H1,J1,r1,z1,n1⟩=>?_)
 have q1:=J1.pin (D,o) (aj _ (aj _ (aE' (by simp) ho)))
 obtain⟨zx,its,n,rv,rfl⟩:=hi
 have hl:=rv.length
 refine aa (wpAny_list_append_plain (items:=its.toArray) ⟨n,q1.1⟩ (fun h' hp hs=>?_) (by rw[ao,<- hl];exact zx))
 obtain⟨_,f1,f2,f3,f4,f5⟩:=hD
 have J2:Inv X pins σ H1 { s1 with heap:=h' }:=J1.unpinned.turned (it:=D) (t':=s1.toks) (fun b o hb e=>(hs.2 b hb).trans e) q1.2.1 f1 f3 f4 f5
 obtain⟨n',hp⟩:=hp
 refine ae ⟨σ,xs++[v],_,H1,J2,Ext.refl,hp,⟨?_,its++[u],n',rv.append (.cons r1 .nil),?_⟩,q1.2.1,n1⟩
 .rw[aB];exact z1
 .simp
def aO' (e:Expr) (d:Nat) (iter:Expr) (acc:Value) (env:Env):Sem Unit:=do
 let x <- eval iter env
 standAt iter.pos
 let x <- foldedSetIterable iter env x
 let _ <- runOwn (.compStart e (d+1) (<- holding [x] (pyIter x)) acc env) env
theorem e8' {M:Model} {A:Around} {e:Expr} {d:Nat} {it acc:Value} {env:Env} {R:Result->Shared->Prop} {s:Shared}
  (hq:(Code.compStart e d it acc env).quiet=true) (hu:A.under (Code.compStart e d it acc env)=A) (hql:∀it',(Code.compLoop e d it' acc env).quiet=true)
  (hden:M.den (.compStart e d it acc env)=(compStart e d it acc env).onRaise (fun x=>do noteFrame x env;standAt theWindowsPlace)) (hg:∃g,(clausesOf e)[d]?=some g/\g.is_async=0)
  (h0:codeAny M A (.compLoop e d it acc env) R s) (h1:∀E,wpAny M A (pyIter it) (fun it' s'=>it'=it/\s'=s) E s):codeAny M A (.compStart e d it acc env) R s:=by
 refine codeAny_of_tree ?_
 rw[hu,hden]
 refine wpAny_notedAt ?_
 obtain⟨g,eg,ea⟩:=hg
 unfold compStart
 rw[eg]
 have e1:((some g:Option Comprehension).elim false (fun x=>x.is_async != 0))=false:=by
  show(g.is_async != 0)=false
  rw[ea];rfl
 rw[e1]
 show wpAny _ _ (ask >>= _) _ _ s
 refine aa (wpAny_askSetting (wpAny_ite ?_))
 have fin:wpAny M A (again (.compLoop e d it acc env)) (fun fin s'=>match fin with | .done f=>R (.ok f) s' | .again c=>c.quiet=true/\codeAny M A c R s') (notedBy M A env fun x s'=>R (.error x) s') s:=ae ⟨hql it,h0⟩
 split
 .first
   |exact fin
   |exact aa fin
   |exact aa (ae fin)
 .refine aa (bV ?_)
  refine aa (bT ?_)
  refine aa (wpAny_mono (h1 _) (fun it' s' q=>?_) fun _ _ q=>q)
  obtain⟨rfl,rfl⟩:=q
  exact fin
theorem hL' (own:List Nat) (σ:St):clr own (clr own σ)=clr own σ:=by
 apply bE
 intro i
 by_cases h:i∈own
 .have z:∀τ:St,(clr own τ)[i]?=none\/(clr own τ)[i]?=some none:=fun τ=>by
   cases q:(clr own τ)[i]? with
   |none=>exact .inl rfl
   |some o=>
    cases o with
    |none=>exact .inr rfl
    |some v=>exact absurd h (dJ' q).2
  have hl:(clr own (clr own σ)).length=(clr own σ).length:=dI' _ _
  rcases z (clr own σ)with a|a<;>rcases z σ with b|b<;>rw[a,b]
  .have q1:=aR.mp a
   have q2:=(aG.mp b).1
   omega
  .have q1:=aR.mp b
   have q2:=(aG.mp a).1
   omega
 .rw[gD' h]
def gE' {α:Type} (wi:TI) (c:It->TL α):TL α:=fun σ a H N=>wi σ H fun J H1=>c J σ a H1 N
theorem dr' {α:Type} {Is:α->Obj->Prop} {X:Cx} {e:Expr} {d:Nat} {tg iter:Expr} {ifs:List Expr} {nx:Sem Unit} {D:Addr} {wi:TI} {g:TG} {tc:TT} {au':TL α} {ws ws':List Nat}
  (hxe:X.xe=fun _ _=>False) (hcalm:X.calm=true)
  (hq:∀it,(Code.compLoop e (d+1) it (.ref D) X.env).quiet=true) (hu:∀it,X.A.under (Code.compLoop e (d+1) it (.ref D) X.env)=X.A)
  (hq':∀it,(Code.compStart e (d+1) it (.ref D) X.env).quiet=true) (hu':∀it,X.A.under (Code.compStart e (d+1) it (.ref D) X.env)=X.A)
  (hT:∀it,(model X.prog X.w).den (.compLoop e (d+1) it (.ref D) X.env)=(aV' e (d+1) tg iter ifs nx it (.ref D) X.env).onRaise (fun x=>do noteFrame x X.env;theTreesLotGoes x))
  (hS:∀it,(model X.prog X.w).den (.compStart e (d+1) it (.ref D) X.env)=(compStart e (d+1) it (.ref D) X.env).onRaise (fun x=>do noteFrame x X.env;standAt theWindowsPlace))
  (hcl:∃g,(clausesOf e)[d+1]?=some g/\g.is_async=0) (hfs:∀x,foldedSetIterable iter X.env x=pure x)
  (hi:PI X tg iter wi) (hg:PG X tg g) (hge:rM' ws g) (ht:PTs X ifs tc) (hn:bR' X D Is ws' nx au') (hws:∀j∈ws',j∈ws) (hIs:∀a o,Is a o->∀v,o.data≠.cell v):
  bR' X D Is ws (aO' e d iter (.ref D) X.env) (gE' wi (aY' ws g tc au')):=by
 intro pins s σ H a o N I hD ho ha hw
 have I1:Inv X (pins++bx' [D] s.heap) σ H s:=I.pinned (fun b hb=>by
  have e:b=D:=by simpa using hb
  subst e
  exact hD) (fun b hb=>by
  have e:b=D:=by simpa using hb
  subst e
  exact⟨o,ho,hIs _ _ ha⟩)
 have h1:=hi _ s σ H _ I1 hw
 rw[hxe]at h1
 unfold aO'
 refine aa (thn h1 fun v s1 h2=>?_)
 refine aa (bT (aa (wpAny_of_eq (hfs v) ?_)))
 refine aa (aE (thn h2 fun itv s2 h3=>?_))
 obtain⟨it,fp,tn,J,H2,rfl,I2,T,st2,f2,hc⟩:=h3
 have mD:(D,o)∈bx' [D] s.heap:=aE' (by simp) ho
 have q2:=I2.pin (D,o) (aj _ (aj _ mD))
 have hDf:D∉fp:=fun z=>(f2 D z).2.2.2.2.2 (D,o) (aj _ (aj _ mD)) rfl
 have f2':∀b∈fp,cM' X pins H2 b:=fun b hb=>by
  obtain⟨f0,f1,f2,f3,f4,f5⟩:=f2 b hb
  exact⟨f0,f1,f2,f3,f4,fun p hp=>f5 p (by
   rcases aH.mp hp with z|z
   .exact ba _ z
   .exact aj _ (ba _ z))⟩
 have L:=dK' (Is:=Is) (D:=D) hxe hcalm (hq _) (hu _) (hT _) T hg hge ht hn hws hIs hDf I2.unpinned f2' ⟨q2.2.1,hD.2⟩ q2.1 ha st2 hc
 have L2:=e8' (hq' _) (hu' _) hq (hS _) hcl L (fun E=>T.self X.A 0 s2 _ E st2 ⟨rfl,rfl⟩)
 refine aa (wpAny_runOwn (codeAny_mono L2 fun r s3 h3=>?_))
 obtain⟨rfl,a',o',H',J',e',is',n',hN⟩:=h3
 exact ae ⟨_,a',o',H',J',Ext.clr,e',is',n',hN⟩
def gF' (own:List Nat) (wi:TI) (g:TG) (tc:TT) (au':TL (List V)):TE:=fun σ H Q=>wi σ H fun J H1=>aY' own g tc au' J σ [] H1 fun xs H2=>∀p,H2 p=none->Q (.ref p) (upd H2 p (.lst xs))
structure CompIn (X:Cx) (e:Expr) (scope:Scope) (tg:Expr) (iter:Expr) (ifs:List Expr) (nx:Addr->Env->Sem Unit) (g:TG) (tc:TT) (au':TL (List V)) (own:List Nat):Prop where
 sc:CompSc X scope
 ow:∀i x,X.N[i]?=some x->(scope.names.lookup x=some .local\/scope.names.lookup x=some .cell)->i∈own
 cl:∃gs,clausesOf e=⟨tg,iter,ifs,0⟩ :: gs
 fs:∀x,foldedSetIterable iter X.env x=pure x
 calm:X.calm=true
 q:∀it D env,(Code.compLoop e 0 it (.ref D) env).quiet=true/\(Code.compStart e 0 it (.ref D) env).quiet=true
 u:∀A it D env,Around.under A (Code.compLoop e 0 it (.ref D) env)=A/\Around.under A (Code.compStart e 0 it (.ref D) env)=A
 T:∀P w it D env,(model P w).den (.compLoop e 0 it (.ref D) env)=(aV' e 0 tg iter ifs (nx D env) it (.ref D) env).onRaise (fun x=>do noteFrame x env;theTreesLotGoes x)
 S:∀P w it D env,(model P w).den (.compStart e 0 it (.ref D) env)=(compStart e 0 it (.ref D) env).onRaise (fun x=>do noteFrame x env;standAt theWindowsPlace)
 ge:rM' own g
 inn:∀s0 H0 ex D,PG (X.comp scope s0 H0 ex) tg g/\PTs (X.comp scope s0 H0 ex) ifs tc/\∃ws',(∀j∈ws',j∈own)/\bR' (X.comp scope s0 H0 ex) D IsL ws' (nx D (X.comp scope s0 H0 ex).env) au'
section
variable {X:Cx} {e:Expr} {scope:Scope} {tg iter:Expr} {ifs:List Expr} {nx:Addr->Env->Sem Unit} {g:TG} {tc:TT} {au':TL (List V)} {own:List Nat} {wi:TI}
theorem hM' (C:CompIn X e scope tg iter ifs nx g tc au' own) (hi:PI X tg iter wi) {pins:List (Addr×Obj)} {s:Shared} {σ:St} {H:Hp} {R:V->Hp->Prop} (I:Inv X pins σ H s) (hw:gF' own wi g tc au' σ H R)
  {use:Option (Value->Sem Unit)} {Q:Value->Shared->Prop} {pos:Pos}
  (fin:∀(s3 s':Shared) (H0 H':Hp) (ex:List Addr) (D:Addr) (xs:List V) (o:Obj) (σ':St),Inv X pins σ H0 s3->(∀b∈ex,cM' X pins H0 b)->Inv (X.comp scope s3 H0 ex) [] σ' H' s'->s'.heap.get? D=some o->D<s3.heap.objs.size->X.s₀.heap.objs.size<=D->cM' X pins H0 D->IsL xs o->H' D=none->R (.ref D) (upd H' D (.lst xs))->
   compPost (model X.prog X.w) X.A X.xe use Q (.ref D) s3.heap.objs.size (.ok .next) s'):
  wpAny (model X.prog X.w) X.A (comprehension e scope X.env pos (newList []) false (eval iter X.env) use) Q X.xe s:=by
 obtain⟨gs,hcl⟩:=C.cl
 refine wpAny_comprehension_free hcl C.fs (jM' fun n hn=>I.ok.has n (C.sc.free n hn)) C.sc.kind C.sc.names ?_
 refine thn (hi pins s σ H _ I hw) fun v s1 h1=>thn h1 fun itv s2 h2=>?_
 obtain⟨it,fp,tn,J,H2,rfl,I2,T,st2,f2,hc⟩:=h2
 refine bc (cS' ?_)
 have keep:∀b o,s2.heap.get? b=some o->(s2.heap.push { cls:=.type "list",dict:=none,data:=.seq ([]:List Value).toArray }).get? b=some o:=fun b o e=>ab _ e
 have I3:Inv X pins σ H2 { s2 with heap:=s2.heap.push { cls:=.type "list",dict:=none,data:=.seq ([]:List Value).toArray } }:=I2.kept (t':=s2.toks) keep
 have hsz:(s2.heap.push { cls:=.type "list",dict:=none,data:=.seq ([]:List Value).toArray }).objs.size=s2.heap.objs.size+1:=aW ..
 have fD:cM' X pins H2 s2.heap.objs.size:=I2.fpOk (ah _) (I2.hok.fresh (ah _))
 have hlt:∀b∈fp,b<s2.heap.objs.size:=fun b hb=>by
  obtain⟨o,e,_⟩:=T.obj _ _ st2 b hb
  exact al e
 have hDf:s2.heap.objs.size∉fp:=fun z=>aZ _ (hlt _ z)
 have hex:∀b∈s2.heap.objs.size :: fp,cM' X pins H2 b:=fun b hb=>by
  rcases ak.mp hb with rfl|hb
  .exact fD
  .exact f2 b hb
 generalize hs3:({ s2 with heap:=s2.heap.push { cls:=.type "list",dict:=none,data:=.seq ([]:List Value).toArray } }:Shared)=s3 at *
 have hs3s:s3.heap.objs.size=s2.heap.objs.size+1:=by rw[<- hs3];exact hsz
 have hlt3:∀b∈s2.heap.objs.size :: fp,b<s3.heap.objs.size:=fun b hb=>by
  rw[hs3s]
  rcases ak.mp hb with rfl|hb
  .exact Nat.lt_succ_self _
  .exact bF (hlt b hb)
 have J0:=eE' (own:=own) I3 hex hlt3 C.sc C.ow
 obtain⟨c1,c2,ws',c4,c5⟩:=C.inn s3 H2 (s2.heap.objs.size :: fp) s2.heap.objs.size
 have kp:∀b o,s2.heap.get? b=some o->(aZ' s3.heap scope.names).get? b=some o:=fun b o e=>pushCells_keeps _ _ b o (ab _ (by rw[<- hs3];exact keep b o e))
 have oD:(aZ' s3.heap scope.names).get? s2.heap.objs.size=some { cls:=.type "list",dict:=none,data:=.seq ([]:List Value).toArray }:=pushCells_keeps _ _ _ _ (ab _ (by rw[<- hs3];exact am _ rfl))
 have stat:∀b∈s2.heap.objs.size :: fp,cM' (X.comp scope s3 H2 (s2.heap.objs.size :: fp)) [] H2 b:=fun b hb=>
  ⟨(hex b hb).1,(J0.ok.exf b hb).1,J0.ok.exfs b hb,.inl hb,(J0.ok.exf b hb).2,fun p hp=>absurd (show p∈([]:List (Addr×Obj)) from hp) (by simp)⟩
 have T':Turn (X.comp scope s3 H2 (s2.heap.objs.size :: fp)).prog (X.comp scope s3 H2 (s2.heap.objs.size :: fp)).w (X.comp scope s3 H2 (s2.heap.objs.size :: fp)).K tg J fp it tn:=T
 have hc':aY' own g tc au' J (clr own σ) [] H2 (fun xs H2=>∀p,H2 p=none->R (.ref p) (upd H2 p (.lst xs))):=by
  obtain⟨W,w0,turn⟩:=hc
  refine⟨W,w0,?_⟩
  rw[hL']
  exact turn
 have st3:tn 0 ({ s3 with heap:=aZ' s3.heap scope.names }:Shared).heap:=T.keep _ _ _ st2 fun b hb o e=>kp b o e
 have L:=dK' (X:=X.comp scope s3 H2 (s2.heap.objs.size :: fp)) (Is:=IsL) (D:=s2.heap.objs.size) rfl C.calm (C.q _ _ _).1 (C.u _ _ _ _).1 (C.T _ _ _ _ _) T' c1 C.ge c2 c5 c4 cT' hDf J0
  (fun b hb=>stat b (aw _ hb)) (stat _ ay) oD ⟨aO _,[],0,.nil,rfl⟩ st3 hc'
 have L2:=e8' (C.q _ _ _).2 (C.u _ _ _ _).2 (fun it'=>(C.q it' _ _).1) (C.S _ _ _ _ _) ⟨_,by rw[hcl];rfl,rfl⟩ L (fun E=>T.self _ 0 _ _ E st3 ⟨rfl,rfl⟩)
 refine codeAny_mono L2 fun r s' h=>?_
 obtain⟨rfl,xs,o',H',J',e',is',n',hN⟩:=h
 exact fin s3 s' H2 H' _ _ xs o' _ I3 hex J' e' (hlt3 _ ay) I2.sz fD is' n' (hN _ n')
end
section
variable {X:Cx} {pins:List (Addr×Obj)} {σ:St} {H H':Hp} {s s':Shared} {D:Addr} {o:HO}
theorem Inv.track (I:Inv X pins σ H s) (f:cM' X pins H D) (h0:X.s₀.heap.objs.size<=D) (new:av' X.prog X.w (upd H D o) s.heap D o):Inv X pins σ (upd H D o) s:=by
 obtain⟨f0,f1,f2,f3,f4,f5⟩:=f
 have ne:∀b ob,X.s₀.heap.get? b=some ob->b≠D:=fun b ob e=>ax (ai (al e) h0)
 have neT:∀b u,H b=some u->b≠D:=fun b u e z=>by rw[z,f0]at e;cases e
 refine⟨I.ok,I.os,I.bare,⟨I.base.keep,I.base.slot,fun b ob e n hx=>by rw[ad' (ne b ob e)];exact I.base.free b ob e n hx,I.base.there,fun b xs e=>?_,fun b ob u e=>?_,fun b ps e=>?_⟩,I.loc,I.cell,?_,fun x c e=>?_,fun p hp=>?_,fun b u e=>?_,I.len⟩
 .have q:=I.base.tups b xs e
  rw[ad' (neT b _ q)];exact q
 .have q:=I.base.frzs b ob u e
  rw[ad' (neT b _ q)];exact q
 .obtain⟨m,q⟩:=I.base.tbls b ps e
  exact⟨m,by rw[ad' (neT b _ q)];exact q⟩
 .rw[ad' (Ne.symm f1)];exact I.free
 .rw[ad' (f4 x c e)];exact I.freeC x c e
 .obtain⟨e,n,r⟩:=I.pin p hp
  refine⟨e,?_,r⟩
  rw[ad' (f5 p hp)];exact n
 .by_cases hb:b=D
  .subst hb
   rw[aa']at e;cases e
   exact new
  .rw[ad' hb]at e
   exact(I.hok b u e).stay (fun _ _ _ q=>q) (fun c q=>by rw[ad' (neT c _ q)];exact q) fun c xs q=>by rw[ad' (neT c _ q)];exact q
end
section
variable {X:Cx} {e:Expr} {scope:Scope} {tg iter:Expr} {ifs:List Expr} {nx:Addr->Env->Sem Unit} {g:TG} {tc:TT} {au':TL (List V)} {own:List Nat} {wi:TI}
theorem gG' (C:CompIn X e scope tg iter ifs nx g tc au' own) (hi:PI X tg iter wi) {pos:Pos} (he:eval e X.env=comprehension e scope X.env pos (newList []) false (eval iter X.env)):PE X e (gF' own wi g tc au'):=by
 intro pins s σ H Q I hw
 rw[he]
 refine hM' C hi I hw fun s3 s' H0 H' ex D xs o σ' I3 hex J e' hlt h0 fD is' n' hR=>?_
 obtain⟨m,hn,_⟩:=J.loc
 refine⟨m,hn,fun h' hs=>?_⟩
 have J2:=dq' I3 hex J hs
 obtain⟨z,its,n,rv,rfl⟩:=is'
 have neC:D≠s3.heap.objs.size:=ax hlt
 refine⟨.ref D,upd H' D (.lst xs),J2.track (o:=.lst xs) ⟨n',fD.2⟩ h0 ⟨z,its,n,rv,(hs.2 D neC).trans e'⟩,rfl,hR⟩
theorem iI' (C:CompIn X e scope tg iter ifs nx g tc au' own) (hi:PI X tg iter wi) {i:Nat} {y:Str} {py pos pos2:Pos} (hN:X.N.Nodup) (hy:X.N[i]?=some y) (hx:Loc X.env.scope y) (hf:X.fn y=true\/X.env.scope.names.lookup y=some .local)
  (he:evalThenUse e X.env (assign (.Name y py) X.env)=(do let _ <- comprehension e scope X.env pos2 (newList []) false (eval iter X.env) (some (assign (.Name y py) X.env))))
  (hsw:swapsWith e (some (.Name y py)) pos.line X.env=pure true):PS X (.Assign [.Name y py] e pos) (jh' (gF' own wi g tc au') (cO' i)):=by
 intro pins s σ H D I hw
 rw[exec_Assign_Name_used _ _ _ _ hsw]
 refine aa (bT (aa ?_))
 rw[he]
 refine aa (thn (Q:=fun _ s'=>SP X pins D .next s') (hM' C hi I hw fun s3 s' H0 H' ex D' xs o σ' I3 hex J e' hlt h0 fD is' n' hR=>?_) fun _ s' q=>ae (ae q))
 obtain⟨m,hn,_⟩:=J.loc
 have J2:Inv X pins σ H' s':=dq' I3 hex J (Heap.SameBut.refl ..)
 obtain⟨z,its,n,rv,rfl⟩:=is'
 have neC:D'≠s3.heap.objs.size:=ax hlt
 have J3:Inv X pins σ (upd H' D' (.lst xs)) s':=J2.track ⟨n',fD.2⟩ h0 ⟨z,its,n,rv,e'⟩
 have fC:cM' X pins H0 s3.heap.objs.size:=I3.fpOk (ah _) (I3.hok.fresh (ah _))
 refine wpAny_assign_Name (dz' J3 hN hy hx (v:=.ref D') rfl (fun s'' J4 hs=>?_) hf)
 obtain⟨a,hsa,ha⟩:=hs
 have haC:s3.heap.objs.size≠a:=by
  rcases ha with rfl|ha
  .exact fC.2.1
  .exact fun q=>fC.2.2.2.2.1 _ _ ha q.symm
 have hn':s'.heap.Ns s3.heap.objs.size m:=hn
 refine⟨m,hn'.sameBut hsa haC,fun h' hs'=>?_⟩
 have J5:Inv X pins (σ.set i (some (.ref D'))) (upd H' D' (.lst xs)) { s'' with heap:=h' }:=J4.turned (it:=s3.heap.objs.size) (t':=s''.toks) (fun b ob hb q=>(hs'.2 b hb).trans q) (by rw[ad' (Ne.symm neC)];exact J.free) fC.2.1 fC.2.2.2.1 fC.2.2.2.2.1 fC.2.2.2.2.2
 exact⟨_,_,J5,hR⟩
end
def co':Bool->Heap->Addr->Addr->Nat->Prop
 |true,h,it,a,i=>h.IsTupleIter it a i
 |false,h,it,a,i=>h.IsListIter it a i
def dM':Bool->Heap->Addr->Array Value->Prop
 |true,h,a,xs=>h.IsTuple a xs
 |false,h,a,xs=>h.IsList a xs
def jO':Bool->String
 |true=>"tuple_iterator"
 |false=>"list_iterator"
theorem co'.obj {k:Bool} {h:Heap} {it a:Addr} {i:Nat} (x:co' k h it a i):∃o,h.get? it=some o/\o.data=.fields #[.ref a,.int i 0]:=by
 cases k
 .obtain⟨o,e,_,d⟩:=x;exact⟨o,e,d⟩
 .obtain⟨o,e,_,d⟩:=x;exact⟨o,e,d⟩
theorem co'.at {k:Bool} {h h':Heap} {it a:Addr} {i:Nat} (x:co' k h it a i) (hk:∀o,h.get? it=some o->h'.get? it=some o):co' k h' it a i:=by
 cases k
 .obtain⟨o,e,r⟩:=x;exact⟨o,hk o e,r⟩
 .obtain⟨o,e,r⟩:=x;exact⟨o,hk o e,r⟩
theorem dM'.at {k:Bool} {h h':Heap} {a:Addr} {xs:Array Value} (x:dM' k h a xs) (hk:∀o,h.get? a=some o->h'.get? a=some o):dM' k h' a xs:=by
 cases k
 .obtain⟨o,e,r⟩:=x;exact⟨o,hk o e,r⟩
 .obtain⟨o,e,r⟩:=x;exact⟨o,hk o e,r⟩
theorem dM'.lt {k:Bool} {h:Heap} {a:Addr} {xs:Array Value} (x:dM' k h a xs):a<h.objs.size:=by
 cases k
 .obtain⟨o,e,r⟩:=x;exact al e
 .obtain⟨o,e,r⟩:=x;exact al e
section
variable {prog:Program} {w:World} {A:Around} {E:Value->Shared->Prop} {s:Shared}
theorem bb' {k:Bool} {it l:Addr} {i:Nat} {items:Array Value} {x:Value} {Q:Value->Shared->Prop} (hit:co' k s.heap it l i) (hl:dM' k s.heap l items) (hx:items[i]?=some x)
  (hQ:∀h',co' k h' it l (i+1)->bL it s.heap h'->Q x { s with heap:=h' }):wpAny (model prog w) A (Builtin.SmallTypes.nextOf (.ref it)) Q E s:=by
 cases k
 .exact wpAny_nextOf_list_item hit hl hx hQ
 .have hit:s.heap.IsTupleIter it l i:=hit
  have hl:s.heap.IsTuple l items:=hl
  obtain⟨o,ho,hc,hd⟩:=id hit
  obtain⟨ol,hol,_,nl,hdl⟩:=hl
  unfold Builtin.SmallTypes.nextOf
  refine aa (aN (name:=Str.ofString "__next__") hit.typeIs F.slot_tuple_iterator_next
   (aU F.slot_tuple_iterator_next hit.typeIs F.entry_tuple_iterator_next ?_ (F.args_tuple_iterator_next_1 _)))
  show wpAny _ _ (field (.ref it) 0 >>= _) _ _ s
  refine aa (bm ho hd (x:=.ref l) rfl ?_)
  show wpAny _ _ (if(Value.ref l == Value.none)=true then _ else _) _ _ s
  rw[if_neg (show ¬((Value.ref l == Value.none)=true) from ap)]
  show wpAny _ _ (field (.ref it) 1 >>= _) _ _ s
  refine aa (bm ho hd (x:=.int i 0) rfl ?_)
  show wpAny _ _ (seqItems? (.ref l) >>= _) _ _ s
  refine aa (bG hol hdl ?_)
  simp only[bN,hx]
  refine aa (wpAny_setField ho hd (by simp) (ae ⟨x,rfl,ae (hQ _ ?_ (Heap.SameBut.update ..))⟩))
  exact⟨_,bv _ ho (Obj.isFreed_of_fields (Obj.data_mapFields hd _)),(Obj.cls_mapFields ..).trans hc,by
   rw[Obj.data_mapFields hd];simp[rawInt]⟩
theorem cp' {k:Bool} {it l:Addr} {i:Nat} {items:Array Value} {Q:Value->Shared->Prop} (hh:A.handled=none) (hit:co' k s.heap it l i) (hl:dM' k s.heap l items) (hx:items[i]?=none)
  (hE:∀h' e,Heap.ExtBut it s.heap h'->(∃o,h'.get? e=some o/\o.cls=.type "StopIteration")->E (.ref e) { s with heap:=h' }):wpAny (model prog w) A (Builtin.SmallTypes.nextOf (.ref it)) Q E s:=by
 cases k
 .exact wpAny_nextOf_list_end hh hit hl hx hE
 .have hit:s.heap.IsTupleIter it l i:=hit
  have hl:s.heap.IsTuple l items:=hl
  obtain⟨o,ho,hc,hd⟩:=id hit
  obtain⟨ol,hol,_,nl,hdl⟩:=hl
  unfold Builtin.SmallTypes.nextOf
  refine aa (aN (name:=Str.ofString "__next__") hit.typeIs F.slot_tuple_iterator_next
   (aU F.slot_tuple_iterator_next hit.typeIs F.entry_tuple_iterator_next ?_ (F.args_tuple_iterator_next_1 _)))
  show wpAny _ _ (field (.ref it) 0 >>= _) _ _ s
  refine aa (bm ho hd (x:=.ref l) rfl ?_)
  show wpAny _ _ (if(Value.ref l == Value.none)=true then _ else _) _ _ s
  rw[if_neg (show ¬((Value.ref l == Value.none)=true) from ap)]
  show wpAny _ _ (field (.ref it) 1 >>= _) _ _ s
  refine aa (bm ho hd (x:=.int i 0) rfl ?_)
  show wpAny _ _ (seqItems? (.ref l) >>= _) _ _ s
  refine aa (bG hol hdl ?_)
  simp only[bN,hx]
  refine aa (bV (aa (wpAny_setField ho hd (by simp) ?_)))
  show wpAny _ _ (newExc (.type "StopIteration") [] >>= _) _ _ _
  refine aa ?_
  simp only[newExc,newTuple]
  refine aa (bc ?_ (by size_fits))
  refine aa (m:=firstArgMember _ _) (wpAny_of_eq (a:=Value.none) (by first|rfl|(simp only[firstArgMember];rfl)) ?_)
  refine bc ?_ (by size_fits)
  simp only[raiseNew]
  refine aa (wpAny_handled ?_)
  first|rw[show A.in1.handled=none from hh]|rw[hh]
  refine aa (ae (wpAny_throw ?_))
  exact hE _ _ (((Heap.SameBut.update ..).extBut.push _).push _) ⟨_,am _ rfl,rfl⟩
end
abbrev zH1 (k:Bool) (h:Heap) (l1:Addr):Heap:=h.push { cls:=.type (jO' k),data:=.fields #[.ref l1,.int 0 0] }
abbrev zH2 (k j:Bool) (h:Heap) (l1 l2:Addr):Heap:=(zH1 k h l1).push { cls:=.type (jO' j),data:=.fields #[.ref l2,.int 0 0] }
abbrev zH3 (k j:Bool) (h:Heap) (l1 l2:Addr):Heap:=(zH2 k j h l1 l2).push { cls:=.type "tuple",data:=.seq #[.ref h.objs.size,.ref (zH1 k h l1).objs.size] }
abbrev zH4 (k j:Bool) (h:Heap) (l1 l2:Addr):Heap:=(zH3 k j h l1 l2).push { cls:=.type "tuple",data:=.seq #[.none,.none] }
abbrev zH5 (k j:Bool) (h:Heap) (l1 l2:Addr):Heap:=(zH4 k j h l1 l2).push { cls:=.type "zip",data:=.fields #[.none,.bool false,.bool false,.ref (zH2 k j h l1 l2).objs.size,.ref (zH3 k j h l1 l2).objs.size] }
set_option maxHeartbeats 4000000 in
theorem jP' (k j:Bool) (l1 l2:Addr) (xs ys:Array Value):
  Meets (Builtin.«zip.__new__» ⟨[.type "zip",.ref l1,.ref l2],[]⟩) (fun _ R s=>dM' k s.heap l1 xs/\dM' j s.heap l2 ys/\
   R (.ok (.ret (.ref (zH4 k j s.heap l1 l2).objs.size))) { s with heap:=zH5 k j s.heap l1 l2 }):=by
 cases k<;>cases j
 .exact meets_zip_new l1 l2 xs ys
 .exact .of_wp fun prog w A R s h=>by
   obtain⟨hp,g,d,tk,os⟩:=s;obtain⟨hl1,hl2,h⟩:=h
   have hsub:=sub_zip
   have hL1:Heap.IsList (Shared.heap ⟨hp,g,d,tk,os⟩) l1 xs:=hl1
   have hL2:Heap.IsTuple (Shared.heap ⟨hp.push { cls:=.type "list_iterator",data:=.fields #[.ref l1,.int 0 0] },g,d,tk,os⟩) l2 ys:=Heap.IsTuple.push hl2 _
   wp_walk using cF hL1,bH hL2
   exact⟨_,rfl,h⟩
 .exact .of_wp fun prog w A R s h=>by
   obtain⟨hp,g,d,tk,os⟩:=s;obtain⟨hl1,hl2,h⟩:=h
   have hsub:=sub_zip
   have hL1:Heap.IsTuple (Shared.heap ⟨hp,g,d,tk,os⟩) l1 xs:=hl1
   have hL2:Heap.IsList (Shared.heap ⟨hp.push { cls:=.type "tuple_iterator",data:=.fields #[.ref l1,.int 0 0] },g,d,tk,os⟩) l2 ys:=Heap.IsList.push hl2 _
   wp_walk using bH hL1,cF hL2
   exact⟨_,rfl,h⟩
 .exact .of_wp fun prog w A R s h=>by
   obtain⟨hp,g,d,tk,os⟩:=s;obtain⟨hl1,hl2,h⟩:=h
   have hsub:=sub_zip
   have hL1:Heap.IsTuple (Shared.heap ⟨hp,g,d,tk,os⟩) l1 xs:=hl1
   have hL2:Heap.IsTuple (Shared.heap ⟨hp.push { cls:=.type "tuple_iterator",data:=.fields #[.ref l1,.int 0 0] },g,d,tk,os⟩) l2 ys:=Heap.IsTuple.push hl2 _
   wp_walk using bH hL1,bH hL2
   exact⟨_,rfl,h⟩
section
variable {prog:Program} {w:World} {A:Around} {E:Value->Shared->Prop} {s:Shared}
theorem pP' {k j:Bool} {l1 l2:Addr} {xs ys:Array Value} {Q:Value->Shared->Prop} (hl1:dM' k s.heap l1 xs) (hl2:dM' j s.heap l2 ys)
  (h:∀h',IsZip h' (s.heap.objs.size+4) (s.heap.objs.size+2) (s.heap.objs.size+3) .none->IsPair h' (s.heap.objs.size+2) (.ref s.heap.objs.size) (.ref (s.heap.objs.size+1))->
   IsPair h' (s.heap.objs.size+3) .none .none->co' k h' s.heap.objs.size l1 0->co' j h' (s.heap.objs.size+1) l2 0->h'.objs.size=s.heap.objs.size+5->
   (∀c o,s.heap.get? c=some o->h'.get? c=some o)->Q (.ref (s.heap.objs.size+4)) { s with heap:=h' }):
  wpAny (model prog w) A (call (.type "zip") [.ref l1,.ref l2]) Q E s:=by
 refine callType_new F.called_zip (by decide) (F.typeCall_zip_2 _ _) (F.newCall_zip_2 _ _) (fun obj=>F.args_object_init_3 obj _ _) F.entry_zip_new
  (jP' k j l1 l2 xs ys) ⟨hl1,hl2,?_⟩
 have z1:(zH1 k s.heap l1).objs.size=s.heap.objs.size+1:=aW ..
 have z2:(zH2 k j s.heap l1 l2).objs.size=s.heap.objs.size+2:=by rw[aW,z1]
 have z3:(zH3 k j s.heap l1 l2).objs.size=s.heap.objs.size+3:=by rw[aW,z2]
 have z4:(zH4 k j s.heap l1 l2).objs.size=s.heap.objs.size+4:=by rw[aW,z3]
 have z5:(zH5 k j s.heap l1 l2).objs.size=s.heap.objs.size+5:=by rw[aW,z4]
 have g5:(zH5 k j s.heap l1 l2).get? (zH4 k j s.heap l1 l2).objs.size=some _:=am _ rfl
 have g4:(zH5 k j s.heap l1 l2).get? (zH3 k j s.heap l1 l2).objs.size=some _:=ab _ (am _ rfl)
 have g3:(zH5 k j s.heap l1 l2).get? (zH2 k j s.heap l1 l2).objs.size=some _:=ab _ (ab _ (am _ rfl))
 have g2:(zH5 k j s.heap l1 l2).get? (zH1 k s.heap l1).objs.size=some { cls:=.type (jO' j),data:=.fields #[.ref l2,.int 0 0] }:=ab _ (ab _ (ab _ (am _ rfl)))
 have g1:(zH5 k j s.heap l1 l2).get? s.heap.objs.size=some { cls:=.type (jO' k),data:=.fields #[.ref l1,.int 0 0] }:=ab _ (ab _ (ab _ (ab _ (am _ rfl))))
 have gk:∀c o,s.heap.get? c=some o->(zH5 k j s.heap l1 l2).get? c=some o:=fun c o e=>ab _ (ab _ (ab _ (ab _ (ab _ e))))
 have mk:∀(c:Bool) (it l:Addr),(zH5 k j s.heap l1 l2).get? it=some { cls:=.type (jO' c),data:=.fields #[.ref l,.int 0 0] }->co' c (zH5 k j s.heap l1 l2) it l 0:=fun c it l e=>by
  cases c
  .exact⟨_,e,rfl,rfl⟩
  .exact⟨_,e,rfl,rfl⟩
 show _/\_
 rw[z2,z3,z4]at g5
 rw[z1,z2]at g3
 rw[z3]at g4
 rw[z1]at g2
 rw[z4]
 exact⟨⟨_,g5,rfl⟩,h _ g5 g3 g4 (mk k _ _ g1) (mk j _ _ g2) z5 gk⟩
theorem hN' {k j:Bool} {z TI TO i1 i2 l1 l2:Addr} {k1 k2:Nat} {xs ys:Array Value} {x y a b:Value} {Q:Option Value->Shared->Prop} (D:ZipApart z TI TO i1 i2 l1 l2)
  (hz:IsZip s.heap z TI TO .none) (hTI:IsPair s.heap TI (.ref i1) (.ref i2)) (hTO:IsPair s.heap TO a b)
  (h1:co' k s.heap i1 l1 k1) (h2:co' j s.heap i2 l2 k2) (hl1:dM' k s.heap l1 xs) (hl2:dM' j s.heap l2 ys) (hx:xs[k1]?=some x) (hy:ys[k2]?=some y)
  (hQ:∀h',IsZip h' z TI TO (rawInt s.heap.objs.size)->IsPair h' TO x y->co' k h' i1 l1 (k1+1)->co' j h' i2 l2 (k2+1)->IsPair h' s.heap.objs.size x y->h'.objs.size=s.heap.objs.size+1->
   (∀c o,c≠z->c≠TO->c≠i1->c≠i2->s.heap.get? c=some o->h'.get? c=some o)->Q (some (.ref s.heap.objs.size)) { s with heap:=h' }):
  wpAny (model prog w) A (pyNext (.ref z)) Q E s:=by
 have hT:s.TypeIs (.ref z) "zip":=⟨_,hz,rfl⟩
 unfold pyNext
 refine aa (cn (aN (name:=Str.ofString "__next__") hT F.slot_zip_next
  (aU F.slot_zip_next hT F.entry_zip_next ?_ (F.args_zip_next_1 _))))
 show wpAny _ _ (field (.ref z) 2 >>= _) _ _ _
 refine aa (bm hz rfl (x:=.bool false) rfl ?_)
 show wpAny _ _ (field (.ref z) 3 >>= _) _ _ _
 refine aa (bm hz rfl (x:=.ref TI) rfl ?_)
 refine aa (bG hTI rfl ?_)
 show wpAny _ _ (Builtin.SmallTypes.ownedTupleIsFree (.ref z) >>= _) _ _ _
 refine aa ?_
 unfold Builtin.SmallTypes.ownedTupleIsFree
 refine aa (bm hz rfl (x:=.none) rfl (ae ?_))
 simp only[if_true]
 refine aa (bV ?_)
 refine aa (bm hz rfl (x:=.ref TO) rfl ?_)
 refine aa (bP hz (by simp) fun h₁ hz₁ hs₁=>?_)
 replace hz₁:IsZip h₁ z TI TO .ellipsis:=hz₁
 refine aa ?_
 simp only[List.zipIdx_cons,List.zipIdx_nil,List.forIn_cons,cK]
 refine aa (aa (wpAny_onRaise ?_))
 show wpAny _ _ (Builtin.SmallTypes.nextOf (.ref i1) >>= _) _ _ _
 refine aa (bb' (h1.at fun o e=>hs₁.extBut _ _ D.i1z e) (hl1.at fun o e=>hs₁.extBut _ _ D.l1z e) hx fun h₂ h1₂ hs₂=>ae ?_)
 have hTO₂:IsPair h₂ TO a b:=hs₂.extBut _ _ D.TOi1 (hs₁.extBut _ _ D.TOz hTO)
 refine aa (bG hTO₂ rfl ?_)
 refine aa (wpAny_updateSeq_pair hTO₂ fun h₃ hTO₃ hs₃=>?_)
 replace hTO₃:IsPair h₃ TO x b:=hTO₃
 refine aa (wpAny_letGo (ae ?_))
 refine aa (aa (wpAny_onRaise ?_))
 show wpAny _ _ (Builtin.SmallTypes.nextOf (.ref i2) >>= _) _ _ _
 refine aa (bb' (h2.at fun o e=>hs₃.extBut _ _ D.TOi2.symm (hs₂.extBut _ _ D.i12.symm (hs₁.extBut _ _ D.i2z e)))
  (hl2.at fun o e=>hs₃.extBut _ _ D.l2TO (hs₂.extBut _ _ D.l2i1 (hs₁.extBut _ _ D.l2z e))) hy fun h₄ h2₄ hs₄=>ae ?_)
 have hTO₄:IsPair h₄ TO x b:=hs₄.extBut _ _ D.TOi2 hTO₃
 refine aa (bG hTO₄ rfl ?_)
 refine aa (wpAny_updateSeq_pair hTO₄ fun h₅ hTO₅ hs₅=>?_)
 replace hTO₅:IsPair h₅ TO x y:=hTO₅
 refine aa (wpAny_letGo (ae (ae ?_)))
 refine aa (bG hTO₅ rfl ?_)
 refine aa (wpAny_newTuple ?_)
 have hsz:h₅.objs.size=s.heap.objs.size:=by rw[hs₅.1,hs₄.1,hs₃.1,hs₂.1,hs₁.1]
 have hz₅:IsZip h₅ z TI TO .ellipsis:=hs₅.extBut _ _ D.TOz.symm (hs₄.extBut _ _ D.i2z.symm (hs₃.extBut _ _ D.TOz.symm (hs₂.extBut _ _ D.i1z.symm hz₁)))
 have hk₅:∀c o,c≠z->c≠TO->c≠i1->c≠i2->s.heap.get? c=some o->h₅.get? c=some o:=fun c o c1 c2 c3 c4 e=>
  hs₅.extBut _ _ c2 (hs₄.extBut _ _ c4 (hs₃.extBut _ _ c2 (hs₂.extBut _ _ c3 (hs₁.extBut _ _ c1 e))))
 have h1₅:co' k h₅ i1 l1 (k1+1):=h1₂.at fun o e=>hs₅.extBut _ _ D.TOi1.symm (hs₄.extBut _ _ D.i12 (hs₃.extBut _ _ D.TOi1.symm e))
 have h2₅:co' j h₅ i2 l2 (k2+1):=h2₄.at fun o e=>hs₅.extBut _ _ D.TOi2.symm e
 have hzlt:z<h₅.objs.size:=al hz₅
 show wpAny _ _ (Builtin.SmallTypes.ownedTupleHandOut (.ref z) (.ref h₅.objs.size) >>= _) _ _ _
 refine aa ?_
 unfold Builtin.SmallTypes.ownedTupleHandOut
 have hz₆:IsZip (h₅.push { cls:=.type "tuple",data:=.seq #[x,y] }) z TI TO .ellipsis:=ab _ hz₅
 refine aa (bP hz₆ (by simp) fun h₇ hz₇ hs₇=>?_)
 replace hz₇:IsZip h₇ z TI TO (rawInt h₅.objs.size):=hz₇
 refine bP hz₇ (by simp) fun h₈ hz₈ hs₈=>?_
 replace hz₈:IsZip h₈ z TI TO (rawInt h₅.objs.size):=hz₈
 have up:∀c o,c≠z->h₅.get? c=some o->h₈.get? c=some o:=fun c o c1 e=>hs₈.extBut _ _ c1 (hs₇.extBut _ _ c1 (ab _ e))
 have hT₈:IsPair h₈ h₅.objs.size x y:=hs₈.extBut _ _ (bn hzlt) (hs₇.extBut _ _ (bn hzlt) (am _ rfl))
 have hz8:h₈.objs.size=h₅.objs.size+1:=by rw[hs₈.1,hs₇.1,aW]
 rw[hsz]at hz₈ hT₈ hz8
 refine ae ⟨_,rfl,ae ?_⟩
 show Q (some (.ref h₅.objs.size)) _
 rw[hsz]
 exact hQ h₈ hz₈ (up _ _ D.TOz hTO₅) (h1₅.at fun o e=>up _ o D.i1z e) (h2₅.at fun o e=>up _ o D.i2z e) hT₈ hz8 fun c o c1 c2 c3 c4 e=>up c o c1 (hk₅ c o c1 c2 c3 c4 e)
theorem jQ' {k j:Bool} {z TI TO i1 i2 l1 l2:Addr} {k1 k2:Nat} {xs ys:Array Value} {a b:Value} {Q:Option Value->Shared->Prop} (hh:A.handled=none) (D:ZipApart z TI TO i1 i2 l1 l2)
  (hz:IsZip s.heap z TI TO .none) (hTI:IsPair s.heap TI (.ref i1) (.ref i2)) (hTO:IsPair s.heap TO a b)
  (h1:co' k s.heap i1 l1 k1) (h2:co' j s.heap i2 l2 k2) (hl1:dM' k s.heap l1 xs) (hl2:dM' j s.heap l2 ys) (hend:xs[k1]?=none\/ys[k2]?=none)
  (hQ:∀h',(∀c o,c≠z->c≠TO->c≠i1->c≠i2->s.heap.get? c=some o->h'.get? c=some o)->Q none { s with heap:=h' }):wpAny (model prog w) A (pyNext (.ref z)) Q E s:=by
 have hT:s.TypeIs (.ref z) "zip":=⟨_,hz,rfl⟩
 unfold pyNext
 refine aa (cn (aN (name:=Str.ofString "__next__") hT F.slot_zip_next
  (aU F.slot_zip_next hT F.entry_zip_next ?_ (F.args_zip_next_1 _))))
 have fin:∀(h':Heap) (e:Addr),(∀c o,c≠z->c≠TO->c≠i1->c≠i2->s.heap.get? c=some o->h'.get? c=some o)->(∃o,h'.get? e=some o/\o.cls=.type "StopIteration")->
   wpAny (model prog w) A (do if <- isInstance (.ref e) (.type "StopIteration")then pure none else throw (.ref e)) Q E { s with heap:=h' }:=fun h' e hk ⟨o,ho,hc⟩=>
  aa (cM (T:="StopIteration") (b:=true) ⟨o,ho,hc⟩ isSubtype_stop (ae (hQ _ hk)))
 show wpAny _ _ (field (.ref z) 2 >>= _) _ _ _
 refine aa (bm hz rfl (x:=.bool false) rfl ?_)
 show wpAny _ _ (field (.ref z) 3 >>= _) _ _ _
 refine aa (bm hz rfl (x:=.ref TI) rfl ?_)
 refine aa (bG hTI rfl ?_)
 show wpAny _ _ (Builtin.SmallTypes.ownedTupleIsFree (.ref z) >>= _) _ _ _
 refine aa ?_
 unfold Builtin.SmallTypes.ownedTupleIsFree
 refine aa (bm hz rfl (x:=.none) rfl (ae ?_))
 simp only[if_true]
 refine aa (bV ?_)
 refine aa (bm hz rfl (x:=.ref TO) rfl ?_)
 refine aa (bP hz (by simp) fun h₁ hz₁ hs₁=>?_)
 replace hz₁:IsZip h₁ z TI TO .ellipsis:=hz₁
 refine aa ?_
 simp only[List.zipIdx_cons,List.zipIdx_nil,List.forIn_cons,cK]
 refine aa (aa (wpAny_onRaise ?_))
 show wpAny _ _ (Builtin.SmallTypes.nextOf (.ref i1) >>= _) _ _ _
 have a1:=h1.at (h':=h₁) fun o e=>hs₁.extBut _ _ D.i1z e
 have b1:=hl1.at (h':=h₁) fun o e=>hs₁.extBut _ _ D.l1z e
 cases hx:xs[k1]? with
 |none=>
  refine aa (cp' (by first|exact hh|rfl) a1 b1 hx fun h₂ e hs₂ he=>?_)
  obtain⟨oe,hoe,hce⟩:=he
  have hz₂:IsZip h₂ z TI TO .ellipsis:=hs₂ _ _ D.i1z.symm hz₁
  have hez:e≠z:=fun x=>by subst x;rw[hz₂]at hoe;cases hoe;simp at hce
  refine bP hz₂ (by simp) fun h₃ _ hs₃=>fin h₃ e (fun c o c1 _ c3 _ x=>hs₃.extBut _ _ c1 (hs₂ _ _ c3 (hs₁.extBut _ _ c1 x))) ⟨oe,hs₃.extBut _ _ hez hoe,hce⟩
 |some x=>
  have hy:ys[k2]?=none:=by rcases hend with h|h;rw[hx]at h;cases h;exact h
  refine aa (bb' a1 b1 hx fun h₂ h1₂ hs₂=>ae ?_)
  have hTO₂:IsPair h₂ TO a b:=hs₂.extBut _ _ D.TOi1 (hs₁.extBut _ _ D.TOz hTO)
  refine aa (bG hTO₂ rfl ?_)
  refine aa (wpAny_updateSeq_pair hTO₂ fun h₃ hTO₃ hs₃=>?_)
  refine aa (wpAny_letGo (ae ?_))
  refine aa (aa (wpAny_onRaise ?_))
  show wpAny _ _ (Builtin.SmallTypes.nextOf (.ref i2) >>= _) _ _ _
  refine aa (cp' (by first|exact hh|rfl) (h2.at fun o e=>hs₃.extBut _ _ D.TOi2.symm (hs₂.extBut _ _ D.i12.symm (hs₁.extBut _ _ D.i2z e)))
   (hl2.at fun o e=>hs₃.extBut _ _ D.l2TO (hs₂.extBut _ _ D.l2i1 (hs₁.extBut _ _ D.l2z e))) hy fun h₄ e hs₄ he=>?_)
  obtain⟨oe,hoe,hce⟩:=he
  have hz₄:IsZip h₄ z TI TO .ellipsis:=hs₄ _ _ D.i2z.symm (hs₃.extBut _ _ D.TOz.symm (hs₂.extBut _ _ D.i1z.symm hz₁))
  have hez:e≠z:=fun x=>by subst x;rw[hz₄]at hoe;cases hoe;simp at hce
  refine bP hz₄ (by simp) fun h₅ _ hs₅=>fin h₅ e (fun c o c1 c2 c3 c4 x=>hs₅.extBut _ _ c1 (hs₄ _ _ c4 (hs₃.extBut _ _ c2 (hs₂.extBut _ _ c3 (hs₁.extBut _ _ c1 x))))) ⟨oe,hs₅.extBut _ _ hez hoe,hce⟩
end
def Its (x:Str):It:=⟨fun i _=>i<x.cps.size,fun i H v H'=>H'=H/\∃c,x.cps[i]?=some c/\v=.str ⟨#[c]⟩,fun i _=>x.cps.size<=i⟩
theorem mt' {P:Program} {w:World} {K:W.Frag} {tg:Expr} (it:Addr) (x:Str) (ty:String) (t:Tok) (hty:ty="str_ascii_iterator"\/ty="str_iterator"):
  Turn P w K tg (Its x) [it] it (fun i h=>h.IsStrIter it ty x t i) where
 mem:=by simp
 obj:=fun i h st b hb=>by
  have e:b=it:=by simpa using hb
  subst e
  obtain⟨o,e,c,d⟩:=st
  exact⟨o,e,fun v z=>by rw[d]at z;cases z⟩
 keep:=fun i h h' st k=>by
  obtain⟨o,e,r⟩:=st
  exact⟨o,k it (by simp) o e,r⟩
 item:=by
  intro X hP hw hK hc i pins s σ H E I hf st hg
  subst hP hw hK
  obtain⟨f0,f1,f2,f3,f4,f5⟩:=hf it (by simp)
  have hg':i<x.cps.size:=hg
  have hx:x.cps[i]?=some x.cps[i]:=by simp[hg']
  have fin:∀h',h'.IsStrIter it ty x t (i+1)->bL it s.heap h'->∃u,some (Value.str ⟨#[x.cps[i]]⟩ s.toks)=some u/\
    wpAny (model X.prog X.w) X.A (letOwnedTupleGo tg (.ref it) u) (fun _ s2=>∃y H',Inv X pins σ H' s2/\ay' y u/\(Its x).yld i H y H'/\s2.heap.IsStrIter it ty x t (i+1)/\∀b∈[it],H' b=none) E { s with heap:=h',toks:=s.toks+1 }:=fun h' st' sb=>by
   have I1:Inv X pins σ H { s with heap:=h',toks:=s.toks+1 }:=I.turned (fun b o hb e=>(sb.2 b hb).trans e) f0 f1 f3 f4 f5
   obtain⟨o,e,c,d⟩:=id st'
   refine⟨_,rfl,jp' (s:={ s with heap:=h',toks:=s.toks+1 }) e c d ?_ ⟨.str ⟨#[x.cps[i]]⟩,H,I1,⟨_,rfl⟩,⟨rfl,_,hx,rfl⟩,st',fun b hb=>(hf b hb).1⟩⟩
   rcases hty with rfl|rfl<;>decide
  rcases hty with rfl|rfl
  .exact wpAny_pyNext_ascii_item st hx fin
  .exact wpAny_pyNext_wide_item st hx fin
 done:=by
  intro X hP hw hK hc i pins s σ H E I hf st hg
  subst hP hw hK
  obtain⟨f0,f1,f2,f3,f4,f5⟩:=hf it (by simp)
  have hg':x.cps.size<=i:=hg
  have hx:x.cps[i]?=none:=by simp[hg']
  have fin:∀h',Heap.ExtBut it s.heap h'->(none:Option Value)=none/\Inv X pins σ H { s with heap:=h' }:=fun h' eb=>⟨rfl,I.turned (t':=s.toks) (fun b o hb e=>eb b o hb e) f0 f1 f3 f4 f5⟩
  rcases hty with rfl|rfl
  .exact wpAny_pyNext_ascii_end (I.ok.hd hc) st hx fin
  .exact wpAny_pyNext_wide_end (I.ok.hd hc) st hx fin
 self:=fun _ _ _ _ _ st h=>by
  rcases hty with rfl|rfl
  .exact wpAny_pyIter_striter_ascii st h
  .exact wpAny_pyIter_striter_wide st h
def Sq (k:Bool) (K:W.Frag) (H:Hp) (a:Addr) (xs:List V):Prop:=match k with
 |true=>SqT K H a xs
 |false=>SqL K H a xs
theorem Inv.sq {X:Cx} {pins:List (Addr×Obj)} {σ:St} {H:Hp} {s:Shared} {k:Bool} {a:Addr} {xs:List V} (I:Inv X pins σ H s) (h:Sq k X.K H a xs):∃its:List Value,aB' xs its/\dM' k s.heap a its.toArray/\xs.length<=sizeLine:=by
 cases k
 .obtain⟨its,r,p,z⟩:=I.list h
  exact⟨its,r,p.isList,z⟩
 .obtain⟨its,r,p,z⟩:=I.tuple h
  exact⟨its,r,p,z⟩
theorem Inv.sq_inj {X:Cx} {pins:List (Addr×Obj)} {σ:St} {H:Hp} {s:Shared} {k:Bool} {a:Addr} {xs ys:List V} (I:Inv X pins σ H s) (h:Sq k X.K H a xs) (h':Sq k X.K H a ys):xs=ys:=by
 cases k
 .exact I.list_inj h h'
 .exact I.tuple_inj h h'
def rN' (k j:Bool) (K:W.Frag) (a b:Addr):It:=
 ⟨fun i H=>∃xs ys x y,Sq k K H a xs/\Sq j K H b ys/\xs[i]?=some x/\ys[i]?=some y,
  fun i H v H'=>∃p x y,v=.ref p/\H p=none/\(∀xs,Sq k K H a xs->xs[i]?=some x)/\(∀ys,Sq j K H b ys->ys[i]?=some y)/\H'=upd H p (.tup [x,y]),
  fun i H=>∃xs ys,Sq k K H a xs/\Sq j K H b ys/\(xs.length<=i\/ys.length<=i)⟩
abbrev Itz (k:Bool) (K:W.Frag) (a b:Addr):It:=rN' k k K a b
def zTn (k j:Bool) (z TI TO i1 i2 l1 l2:Addr) (i:Nat) (h:Heap):Prop:=
 IsZip h z TI TO .none/\IsPair h TI (.ref i1) (.ref i2)/\(∃a b,IsPair h TO a b)/\co' k h i1 l1 i/\co' j h i2 l2 i
theorem mu' {P:Program} {w:World} {K:W.Frag} {elts:List Expr} {kt:Nat} {pt:Pos} {k j:Bool} {z TI TO i1 i2 l1 l2:Addr} (D:ZipApart z TI TO i1 i2 l1 l2):
  Turn P w K (.Tuple elts kt pt) (rN' k j K l1 l2) [z,TI,TO,i1,i2] z (zTn k j z TI TO i1 i2 l1 l2) where
 mem:=by simp
 obj:=fun i h st b hb=>by
  obtain⟨hz,hTI,⟨_,_,hTO⟩,h1,h2⟩:=st
  simp only[ak,aq,or_false]at hb
  rcases hb with rfl|rfl|rfl|rfl|rfl
  .exact⟨_,hz,fun v=>(nomatch ·)⟩
  .exact⟨_,hTI,fun v=>(nomatch ·)⟩
  .exact⟨_,hTO,fun v=>(nomatch ·)⟩
  .obtain⟨o,e,d⟩:=h1.obj
   exact⟨o,e,fun v q=>by rw[d]at q;cases q⟩
  .obtain⟨o,e,d⟩:=h2.obj
   exact⟨o,e,fun v q=>by rw[d]at q;cases q⟩
 keep:=fun i h h' st kk=>by
  obtain⟨hz,hTI,⟨a,b,hTO⟩,h1,h2⟩:=st
  exact⟨kk z (by simp) _ hz,kk TI (by simp) _ hTI,⟨a,b,kk TO (by simp) _ hTO⟩,h1.at fun o e=>kk i1 (by simp) o e,h2.at fun o e=>kk i2 (by simp) o e⟩
 item:=by
  intro X hP hw hK hc i pins s σ H E I hf st hg
  subst hP hw hK
  obtain⟨xs,ys,x,y,hxs,hys,hx,hy⟩:=hg
  obtain⟨hz,hTI,⟨a,b,hTO⟩,h1,h2⟩:=st
  obtain⟨us,rus,ous,_⟩:=I.sq hxs
  obtain⟨vs,rvs,ovs,_⟩:=I.sq hys
  obtain⟨u,hu,ru⟩:=rus.get hx
  obtain⟨v,hv,rv⟩:=rvs.get hy
  refine hN' D hz hTI hTO h1 h2 ous ovs (x:=u) (y:=v) (by simpa using hu) (by simpa using hv) fun h' hz' hTO' h1' h2' hT hsz hk=>?_
  refine⟨_,rfl,wpAny_letOwnedTupleGo_zip (s:={ s with heap:=h' }) hz' fun h'' hz'' hs=>?_⟩
  have hs':bL z h' h'':=hs
  have zlt:z<s.heap.objs.size:=al hz
  have neT:s.heap.objs.size≠z:=bn zlt
  have hkk:∀c o,c∉[z,TO,i1,i2]->s.heap.get? c=some o->h''.get? c=some o:=fun c o hc e=>by
   simp only[ak,aq,or_false,not_or]at hc
   exact(hs'.2 c hc.1).trans (hk c o hc.1 hc.2.1 hc.2.2.1 hc.2.2.2 e)
  have sub:∀c∈[z,TO,i1,i2],c∈[z,TI,TO,i1,i2]:=fun c hc=>by
   simp only[ak,aq,or_false]at hc ⊢
   rcases hc with h|h|h|h
   .exact .inl h
   .exact .inr (.inr (.inl h))
   .exact .inr (.inr (.inr (.inl h)))
   .exact .inr (.inr (.inr (.inr h)))
  have hTn:H s.heap.objs.size=none:=I.hok.fresh (ah _)
  have trk:∀c o,H c=some o->c∉[z,TO,i1,i2]:=fun c o e hc=>by rw[(hf c (sub c hc)).1]at e;cases e
  have I1:Inv X pins σ (upd H s.heap.objs.size (.tup [x,y])) { s with heap:=h'' }:=by
   refine I.step (g':=s.gens) (d':=s.drawn) (t':=s.toks) (ch:=[z,TO,i1,i2]) (fun c hc=>?_) (fun c o _ _ hc e _=>hkk c o hc e) (fun c o _ _ hc e _=>⟨o.slots,hkk c o hc e⟩)
    (fun c o _ e n=>by rw[ad' (ax (al e))];exact n) (fun c o hc e=>⟨o,hkk c o hc e⟩) (fun c ps e=>by rw[ad' (aj' e hTn)];exact e) (fun c o p e=>by rw[ad' (aj' e hTn)];exact e)
    (fun c ps e=>⟨#[],by rw[ad' (aj' e hTn),e];simp⟩) (fun m hm=>?_) (fun c o e=>?_) I.bare
   .obtain⟨f0,f1,f2,f3,f4,f5⟩:=hf c (sub c hc)
    exact⟨f3,f1,f4,f5⟩
   .obtain⟨oo,es,ep,ho,r⟩:=hm
    exact⟨oo,es,ep,hkk _ oo (fun hc=>(hf _ (sub _ hc)).2.1 rfl) ho,r⟩
   .by_cases hb:c=s.heap.objs.size
    .subst hb
     rw[aa']at e;cases e
     exact⟨by show 2<=sizeLine;decide,[u,v],.cons ru (.cons rv .nil),⟨_,(hs'.2 _ neT).trans hT,rfl,⟨_,rfl⟩,rfl⟩⟩
    .rw[ad' hb]at e
     refine(I.hok c o e).stay (fun d q hd eq=>hkk d q ?_ eq) (fun d q=>by rw[ad' (aj' q hTn)];exact q) fun d qs q=>by rw[ad' (aj' q hTn)];exact q
     rcases hd with rfl|hd
     .exact trk _ _ e
     .exact trk _ _ hd
  refine⟨.ref s.heap.objs.size,_,I1,rfl,⟨s.heap.objs.size,x,y,rfl,hTn,fun xs' h'=>by rw[I.sq_inj h' hxs];exact hx,fun ys' h'=>by rw[I.sq_inj h' hys];exact hy,rfl⟩,⟨hz'',?_,⟨u,v,?_⟩,?_,?_⟩,fun c hc=>?_⟩
  .exact(hs'.2 TI D.TIz).trans (hk TI _ D.TIz D.TITO D.TIi1 D.TIi2 hTI)
  .exact(hs'.2 TO D.TOz).trans hTO'
  .exact h1'.at fun o e=>(hs'.2 i1 D.i1z).trans e
  .exact h2'.at fun o e=>(hs'.2 i2 D.i2z).trans e
  .rw[ad']
   .exact(hf c hc).1
   .intro q
    subst q
    simp only[ak,aq,or_false]at hc
    rcases hc with q|q|q|q|q
    .exact neT q
    .exact aZ _ (q ▸ al hTI)
    .exact aZ _ (q ▸ al hTO)
    .obtain⟨o,e,_⟩:=h1.obj
     exact aZ _ (q ▸ al e)
    .obtain⟨o,e,_⟩:=h2.obj
     exact aZ _ (q ▸ al e)
 done:=by
  intro X hP hw hK hc i pins s σ H E I hf st hg
  subst hP hw hK
  obtain⟨xs,ys,hxs,hys,hend⟩:=hg
  obtain⟨hz,hTI,⟨a,b,hTO⟩,h1,h2⟩:=st
  obtain⟨us,rus,ous,_⟩:=I.sq hxs
  obtain⟨vs,rvs,ovs,_⟩:=I.sq hys
  have l1':=rus.length
  have l2':=rvs.length
  refine jQ' (I.ok.hd hc) D hz hTI hTO h1 h2 ous ovs ?_ fun h' hk=>⟨rfl,?_⟩
  .rcases hend with q|q
   .exact .inl (by simp;omega)
   .exact .inr (by simp;omega)
  have sub:∀c∈[z,TO,i1,i2],c∈[z,TI,TO,i1,i2]:=fun c hc=>by
   simp only[ak,aq,or_false]at hc ⊢
   rcases hc with h|h|h|h
   .exact .inl h
   .exact .inr (.inr (.inl h))
   .exact .inr (.inr (.inr (.inl h)))
   .exact .inr (.inr (.inr (.inr h)))
  have hkk:∀c o,c∉[z,TO,i1,i2]->s.heap.get? c=some o->h'.get? c=some o:=fun c o hc e=>by
   simp only[ak,aq,or_false,not_or]at hc
   exact hk c o hc.1 hc.2.1 hc.2.2.1 hc.2.2.2 e
  have trk:∀c o,H c=some o->c∉[z,TO,i1,i2]:=fun c o e hc=>by rw[(hf c (sub c hc)).1]at e;cases e
  refine I.step (g':=s.gens) (d':=s.drawn) (t':=s.toks) (ch:=[z,TO,i1,i2]) (fun c hc=>?_) (fun c o _ _ hc e _=>hkk c o hc e) (fun c o _ _ hc e _=>⟨o.slots,hkk c o hc e⟩)
    (fun c o _ e n=>n) (fun c o hc e=>⟨o,hkk c o hc e⟩) (fun c ps e=>e) (fun c o p e=>e) (fun c ps e=>⟨#[],by rw[e];simp⟩) (fun m hm=>?_) (fun c o e=>?_) I.bare
  .obtain⟨f0,f1,f2,f3,f4,f5⟩:=hf c (sub c hc)
   exact⟨f3,f1,f4,f5⟩
  .obtain⟨oo,es,ep,ho,r⟩:=hm
   exact⟨oo,es,ep,hkk _ oo (fun hc=>(hf _ (sub _ hc)).2.1 rfl) ho,r⟩
  .refine(I.hok c o e).stay (fun d q hd eq=>hkk d q ?_ eq) (fun d q=>q) fun d qs q=>q
   rcases hd with rfl|hd
   .exact trk _ _ e
   .exact trk _ _ hd
 self:=fun _ _ _ _ _ st h=>wpAny_pyIter_zip st.1 h
section
variable {X:Cx} {tg:Expr}
def w5' (K:W.Frag) (tl:TE):TI:=fun σ H R=>tl σ H fun x H1=>
 (∃a,x=.ref a/\(∃xs,SqL K H1 a xs)/\R (Itl K a) H1)\/(∃a,x=.ref a/\(∃xs,SqT K H1 a xs)/\R (Itt K a) H1)\/∃z,x=.str z/\R (Its z) H1
theorem sK' {l:Expr} {tl:TE} (hl:PE X l tl):PI X tg l (w5' X.K tl):=by
 intro pins s σ H R I h
 refine thn (hl pins s σ H _ I h) fun v s1 ⟨x,H1,I1,r1,q1⟩=>?_
 rcases q1 with⟨a,e,⟨xs,hq⟩,q⟩|⟨a,e,⟨xs,hq⟩,q⟩|⟨z,e,q⟩
 .subst e
  cases r1
  obtain⟨its,rv,p,hz⟩:=I1.list hq
  refine cF p.isList ?_
  refine⟨s1.heap.objs.size,[s1.heap.objs.size],_,_,H1,rfl,I1.kept (t':=s1.toks) fun b o e=>ab _ e,jq' a _,⟨_,am _ rfl,rfl,rfl⟩,fun b hb=>?_,q⟩
  have e:b=s1.heap.objs.size:=by simpa using hb
  subst e
  exact I1.fpOk (ah _) (I1.hok.fresh (ah _))
 .subst e
  cases r1
  obtain⟨its,rv,p,hz⟩:=I1.tuple hq
  refine bH (show s1.heap.IsTuple a its.toArray from p) ?_
  refine⟨s1.heap.objs.size,[s1.heap.objs.size],_,_,H1,rfl,I1.kept (t':=s1.toks) fun b o e=>ab _ e,iw' a _,⟨_,am _ rfl,rfl,rfl⟩,fun b hb=>?_,q⟩
  have e:b=s1.heap.objs.size:=by simpa using hb
  subst e
  exact I1.fpOk (ah _) (I1.hok.fresh (ah _))
 .subst e
  obtain⟨t,rfl⟩:=r1
  have fin:∀(ty:String),(ty="str_ascii_iterator"\/ty="str_iterator")->PIE X pins σ tg R (.ref s1.heap.objs.size) { s1 with heap:=s1.heap.push { cls:=.type ty,data:=.fields #[.str z t,.int 0 0] } }:=fun ty hty=>by
   refine⟨s1.heap.objs.size,[s1.heap.objs.size],_,_,H1,rfl,I1.kept (t':=s1.toks) fun b o e=>ab _ e,mt' _ z ty t hty,⟨_,am _ rfl,rfl,rfl⟩,fun b hb=>?_,q⟩
   have e:b=s1.heap.objs.size:=by simpa using hb
   subst e
   exact I1.fpOk (ah _) (I1.hok.fresh (ah _))
  cases ha:z.cps.all (· < 128)
  .exact wpAny_pyIter_wide ha (fin _ (.inr rfl))
  .exact wpAny_pyIter_ascii ha (fin _ (.inl rfl))
def w6' (K:W.Frag) (ta:TA):TI:=fun σ H R=>ta σ H fun vs H1=>∃(k j:Bool) (a b:Addr),vs=[.ref a,.ref b]/\(∃xs,Sq k K H1 a xs)/\(∃ys,Sq j K H1 b ys)/\R (rN' k j K a b) H1
theorem sL' {a b:Expr} {ta:TA} {p pos:Pos} {elts:List Expr} {kt:Nat} {pt:Pos} (hg:Gl X "zip") (hm:X.mg "zip"=none) (ha:PA X [a,b] ta) (hs:starEach [a,b] X.env=[(false,eval a X.env),(false,eval b X.env)]) (hs2:starEach [b] X.env=[(false,eval b X.env)]):
  PI X (.Tuple elts kt pt) (.Call (.Name "zip" p) [a,b] [] pos) (w6' X.K ta):=by
 intro pins s σ H R I h
 refine Call_ (dA' I hg hm boot_zip (PyProof.Rows.callWith_type1 (thn (ha pos pins s σ H _ I h) fun us s1 ⟨vs,H1,I1,r1,q1⟩=>?_) (by rw[hs,hs2]) (by rw[hs2];rfl)))
 obtain⟨k,j,a,b,e,⟨xs,hxs⟩,⟨ys,hys⟩,q⟩:=q1
 subst e
 cases r1 with
 |cons r rr=>
  cases rr with
  |cons r' rr=>
   cases rr
   cases r
   cases r'
   obtain⟨us,rus,ous,_⟩:=I1.sq hxs
   obtain⟨vs,rvs,ovs,_⟩:=I1.sq hys
   refine pP' ous ovs fun h' hz hTI hTO h1 h2 hsz hk=>wpAny_pyIter_zip hz ?_
   refine⟨s1.heap.objs.size+4,[s1.heap.objs.size+4,s1.heap.objs.size+2,s1.heap.objs.size+3,s1.heap.objs.size,s1.heap.objs.size+1],_,_,H1,rfl,I1.kept (t':=s1.toks) hk,mu' (k:=k) (j:=j) (PyProof.Rows.zipApart_new ous.lt ovs.lt),⟨hz,hTI,⟨_,_,hTO⟩,h1,h2⟩,fun c hc=>?_,q⟩
   have hle:s1.heap.objs.size<=c:=by
    simp only[ak,aq,or_false]at hc
    rcases hc with rfl|rfl|rfl|rfl|rfl
    .exact bf _ _
    .exact bf _ _
    .exact bf _ _
    .exact ah _
    .exact bf _ _
   exact I1.fpOk hle (I1.hok.fresh hle)
end
def Itd (go:Nat->Hp->Prop) (val:Nat->Hp->V->Prop) (stop:Nat->Hp->Prop):It:=
 ⟨go,fun i H v H'=>∃p x,v=.ref p/\H p=none/\val i H x/\H'=upd H p (.tup [.int i,x]),stop⟩
structure EnSrc (P:Program) (w:World) (K:W.Frag) (e it:Addr) (Sx:Nat->Heap->Prop) (go:Nat->Hp->Prop) (val:Nat->Hp->V->Prop) (stop:Nat->Hp->Prop):Prop where
 ne:e≠it
 obj:∀i h,Sx i h->∃o,h.get? it=some o/\∀v,o.data≠.cell v
 keep:∀i h h',Sx i h->(∀o,h.get? it=some o->h'.get? it=some o)->Sx i h'
 item:∀(X:Cx),X.prog=P->X.w=w->X.K=K->X.calm=true->∀(i:Nat) (pins:List (Addr×Obj)) (s:Shared) (σ:St) (H:Hp),Inv X pins σ H s->H e=none->H it=none->e<s.heap.objs.size->(∃old,IsEnum s.heap e it i old)->Sx i s.heap->go i H->
  ∃n Pd Sd fp,Draws P w X.A.in1 it fp n Pd Sd/\e∉fp/\i<n/\Sd i s.heap/\(∀j h,Sd j h->Sx j h)/\∀u,Pd i u->∃x,ay' x u/\val i H x
 done:∀(X:Cx),X.prog=P->X.w=w->X.K=K->X.calm=true->∀(i:Nat) (pins:List (Addr×Obj)) (s:Shared) (σ:St) (H:Hp),Inv X pins σ H s->H e=none->H it=none->(∃old,IsEnum s.heap e it i old)->Sx i s.heap->stop i H->
  ∃Pd Sd fp,Draws P w X.A.in1 it fp i Pd Sd/\Sd i s.heap
theorem dN' {P:Program} {w:World} {K:W.Frag} {elts:List Expr} {kt:Nat} {pt:Pos} {e it:Addr} {Sx:Nat->Heap->Prop} {go:Nat->Hp->Prop} {val:Nat->Hp->V->Prop} {stop:Nat->Hp->Prop} (S:EnSrc P w K e it Sx go val stop):
  Turn P w K (.Tuple elts kt pt) (Itd go val stop) [e,it] e (fun i h=>(∃old,IsEnum h e it i old)/\Sx i h) where
 mem:=by simp
 obj:=fun i h st b hb=>by
  obtain⟨⟨old,he⟩,hs⟩:=st
  simp only[ak,aq,or_false]at hb
  rcases hb with rfl|rfl
  .exact⟨_,he,fun v=>(nomatch ·)⟩
  .exact S.obj i h hs
 keep:=fun i h h' st kk=>by
  obtain⟨⟨old,he⟩,hs⟩:=st
  exact⟨⟨old,kk e (by simp) _ he⟩,S.keep i h h' hs fun o q=>kk it (by simp) o q⟩
 item:=by
  intro X hP hw hK hc i pins s σ H E I hf st hg
  have hfe:=hf e (by simp)
  have hfi:=hf it (by simp)
  obtain⟨n,Pd,Sd,fp,D,hefp,hin,hsd,hsub,hval⟩:=S.item X hP hw hK hc i pins s σ H I hfe.1 hfi.1 (al st.1.choose_spec) st.1 st.2 hg
  obtain⟨⟨old,he⟩,hs⟩:=st
  subst hP hw hK
  refine wpAny_pyNext_enum_itemD D he hsd hin S.ne hefp fun u h' tk hPu ho hs' hT hsz hk=>?_
  obtain⟨x,rx,vx⟩:=hval u hPu
  refine⟨_,rfl,wpAny_letOwnedTupleGo_enum (s:={ s with heap:=h',toks:=tk+1 }) ho fun h'' he'' hb=>?_⟩
  have hb':bL e h' h'':=hb
  have elt:e<s.heap.objs.size:=al he
  have neT:s.heap.objs.size≠e:=bn elt
  have hTn:H s.heap.objs.size=none:=I.hok.fresh (ah _)
  have hkk:∀c o,c∉[e,it]->s.heap.get? c=some o->h''.get? c=some o:=fun c o hc q=>by
   simp only[ak,aq,or_false,not_or]at hc
   exact(hb'.2 c hc.1).trans (hk c o hc.1 hc.2 q)
  have trk:∀c o,H c=some o->c∉[e,it]:=fun c o q hc=>by rw[(hf c hc).1]at q;cases q
  have I1:Inv X pins σ (upd H s.heap.objs.size (.tup [.int i,x])) { s with heap:=h'',toks:=tk+1 }:=by
   refine I.step (g':=s.gens) (d':=s.drawn) (t':=tk+1) (ch:=[e,it]) (fun c hc=>?_) (fun c o _ _ hc q _=>hkk c o hc q) (fun c o _ _ hc q _=>⟨o.slots,hkk c o hc q⟩)
    (fun c o _ q n=>by rw[ad' (ax (al q))];exact n) (fun c o hc q=>⟨o,hkk c o hc q⟩) (fun c ps q=>by rw[ad' (aj' q hTn)];exact q) (fun c o p q=>by rw[ad' (aj' q hTn)];exact q)
    (fun c ps q=>⟨#[],by rw[ad' (aj' q hTn),q];simp⟩) (fun m hm=>?_) (fun c o q=>?_) I.bare
   .obtain⟨f0,f1,f2,f3,f4,f5⟩:=hf c hc
    exact⟨f3,f1,f4,f5⟩
   .obtain⟨oo,es,ep,ho,r⟩:=hm
    exact⟨oo,es,ep,hkk _ oo (fun hc=>(hf _ hc).2.1 rfl) ho,r⟩
   .by_cases hb:c=s.heap.objs.size
    .subst hb
     rw[aa']at q;cases q
     exact⟨by show 2<=sizeLine;decide,[.int i tk,u],.cons ⟨_,rfl⟩ (.cons rx .nil),⟨_,(hb'.2 _ neT).trans hT,rfl,⟨_,rfl⟩,rfl⟩⟩
    .rw[ad' hb]at q
     refine(I.hok c o q).stay (fun d q hd eq=>hkk d q ?_ eq) (fun d q=>by rw[ad' (aj' q hTn)];exact q) fun d qs q=>by rw[ad' (aj' q hTn)];exact q
     rcases hd with rfl|hd
     .exact trk _ _ (by assumption)
     .exact trk _ _ hd
  refine⟨.ref s.heap.objs.size,_,I1,rfl,⟨s.heap.objs.size,x,rfl,hTn,vx,rfl⟩,⟨⟨_,he''⟩,S.keep _ _ _ (hsub _ _ hs') fun o q=>(hb'.2 it (Ne.symm S.ne)).trans q⟩,fun c hc=>?_⟩
  rw[ad']
  .exact(hf c hc).1
  .intro q
   subst q
   simp only[ak,aq,or_false]at hc
   rcases hc with q|q
   .exact neT q
   .obtain⟨o,e1,_⟩:=S.obj _ _ hs
    exact aZ _ (q ▸ al e1)
 done:=by
  intro X hP hw hK hc i pins s σ H E I hf st hg
  have hfe:=hf e (by simp)
  have hfi:=hf it (by simp)
  obtain⟨Pd,Sd,fp,D,hsd⟩:=S.done X hP hw hK hc i pins s σ H I hfe.1 hfi.1 st.1 st.2 hg
  obtain⟨⟨old,he⟩,hs⟩:=st
  subst hP hw hK
  refine wpAny_pyNext_enum_endD D he hsd fun h' hx=>⟨rfl,?_⟩
  obtain⟨f0,f1,f2,f3,f4,f5⟩:=hfi
  exact I.turned (t':=s.toks) (fun b o hb q=>hx b o hb q) f0 f1 f3 f4 f5
 self:=fun _ _ _ _ _ st h=>by
  obtain⟨⟨old,he⟩,_⟩:=st
  exact wpAny_pyIter_enum he h
def Ite (K:W.Frag) (a:Addr):It:=Itd (fun i H=>∃xs x,SqL K H a xs/\xs[i]?=some x) (fun i H x=>∀xs,SqL K H a xs->xs[i]?=some x) (fun i H=>∃xs,SqL K H a xs/\xs.length=i)
theorem pQ' {P:Program} {w:World} {K:W.Frag} {e it a:Addr} (ne:e≠it) (na:a≠e) (nai:a≠it):EnSrc P w K e it (fun i h=>h.IsListIter it a i) (fun i H=>∃xs x,SqL K H a xs/\xs[i]?=some x) (fun i H x=>∀xs,SqL K H a xs->xs[i]?=some x) (fun i H=>∃xs,SqL K H a xs/\xs.length=i) where
 ne:=ne
 obj:=fun i h st=>by
  obtain⟨o,q,c,d⟩:=st
  exact⟨o,q,fun v z=>by rw[d]at z;cases z⟩
 keep:=fun i h h' st k=>st.at k
 item:=by
  intro X hP hw hK hc i pins s σ H I _ _ _ _ st hg
  obtain⟨xs,x,hxs,hx⟩:=hg
  subst hP hw hK
  obtain⟨its,rv,p,hz⟩:=I.list hxs
  have hl:=rv.length
  obtain⟨u,hu,ru⟩:=rv.get hx
  refine⟨_,_,_,_,Draws.list (show X.A.in1.handled=none from I.ok.hd hc) it a nai its.toArray,?_,?_,⟨st,p.isList⟩,fun j h q=>q.1,fun u' hu'=>⟨x,?_,fun ys hys=>by rw[I.list_inj hys hxs];exact hx⟩⟩
  .simp only[ak,aq,or_false,not_or]
   exact⟨ne,Ne.symm na⟩
  .have:=(aG.mp hx).1
   simp;omega
  .have e2:its[i]?=some u':=by simpa using hu'
   rw[hu]at e2
   cases e2
   exact ru
 done:=by
  intro X hP hw hK hc i pins s σ H I _ _ _ st hg
  obtain⟨xs,hxs,hx⟩:=hg
  subst hP hw hK
  obtain⟨its,rv,p,hz⟩:=I.list hxs
  have hl:=rv.length
  have e:i=its.toArray.size:=by simp;omega
  subst e
  exact⟨_,_,_,Draws.list (show X.A.in1.handled=none from I.ok.hd hc) it a nai its.toArray,st,p.isList⟩
def wi' (z:Str):It:=Itd (fun i _=>i<z.cps.size) (fun i _ v=>∃c,z.cps[i]?=some c/\v=.str ⟨#[c]⟩) (fun i _=>z.cps.size=i)
theorem sM' {P:Program} {w:World} {K:W.Frag} {e it:Addr} {z:Str} {t:Tok} {ty:String} (hty:ty="str_ascii_iterator"\/ty="str_iterator") (ne:e≠it):EnSrc P w K e it (fun i h=>h.IsStrIter it ty z t i) (fun i _=>i<z.cps.size) (fun i _ v=>∃c,z.cps[i]?=some c/\v=.str ⟨#[c]⟩) (fun i _=>z.cps.size=i) where
 ne:=ne
 obj:=fun i h st=>by
  obtain⟨o,q,c,d⟩:=st
  exact⟨o,q,fun v z=>by rw[d]at z;cases z⟩
 keep:=fun i h h' st k=>by
  obtain⟨o,q,r⟩:=st
  exact⟨o,k o q,r⟩
 item:=by
  intro X hP hw hK hc i pins s σ H I _ _ _ _ st hg
  subst hP hw hK
  have hh:X.A.in1.handled=none:=I.ok.hd hc
  rcases hty with rfl|rfl
  .refine⟨_,_,_,_,Draws.strAscii hh it z t,by simpa using ne,hg,st,fun j h q=>q,fun u hu=>?_⟩
   obtain⟨c,t',hc',rfl⟩:=hu
   exact⟨.str ⟨#[c]⟩,⟨_,rfl⟩,c,hc',rfl⟩
  .refine⟨_,_,_,_,Draws.strWide hh it z t,by simpa using ne,hg,st,fun j h q=>q,fun u hu=>?_⟩
   obtain⟨c,t',hc',rfl⟩:=hu
   exact⟨.str ⟨#[c]⟩,⟨_,rfl⟩,c,hc',rfl⟩
 done:=by
  intro X hP hw hK hc i pins s σ H I _ _ _ st hg
  subst hP hw hK
  have hh:X.A.in1.handled=none:=I.ok.hd hc
  have hg':z.cps.size=i:=hg
  subst hg'
  rcases hty with rfl|rfl
  .exact⟨_,_,_,Draws.strAscii hh it z t,st⟩
  .exact⟨_,_,_,Draws.strWide hh it z t,st⟩
theorem fN' {prog:Program} {w:World} {A:Around} (hh:A.handled=none) (it l:Addr) (hne:l≠it) (items:Array Value):
  Draws prog w A it [it,l] items.size (fun i v=>items[i]?=some v) (fun i h=>co' true h it l i/\dM' true h l items) where
 live:=fun _ _ st=>let⟨o,ho,_⟩:=st.1.obj;⟨o,ho⟩
 frame:=fun _ _ _ st hk=>⟨st.1.at fun o e=>hk it (by simp) o e,st.2.at fun o e=>hk l (by simp) o e⟩
 item:=fun i s Q E hi st hQ=>by
  refine bb' st.1 st.2 (x:=items[i]) (by simp[hi]) fun h' hit' hs'=>?_
  exact hQ _ h' s.toks (by simp[hi]) ⟨hit',st.2.at fun o e=>hs'.extBut l o hne e⟩ hs'
 done:=fun s Q E st hE=>cp' hh st.1 st.2 (by simp) hE
set_option tactic.hygienic true in
open AutoSeq1 (wpAny_loadPart') in
theorem ct' (l:Addr) (items:Array Value) (n:Nat) (dct:Option Addr) (sl:Array (Option Value)):
  Meets (Builtin.«enumerate.__new__» ⟨[.type "enumerate",.ref l],[]⟩) (fun _ R s=>s.heap.get? l=some { cls:=.type "tuple",dict:=dct,data:=.seq items n,slots:=sl }/\
   R (.ok (.ret (.ref (s.heap.push { cls:=.type "tuple_iterator",data:=.fields #[.ref l,.int 0 0] }).objs.size)))
    { s with heap:=(s.heap.push { cls:=.type "tuple_iterator",data:=.fields #[.ref l,.int 0 0] }).push { cls:=.type "enumerate",data:=.fields #[.none,.bool false,.ref s.heap.objs.size,rawInt 0,.none,.none] } }):=
 .of_wp fun prog w A R s h=>by
  obtain⟨hp,g,d,tk,os⟩:=s;obtain⟨hl,h⟩:=h
  have hsub:=sub_enumerate
  have hL:Heap.IsTuple (Shared.heap ⟨hp,g,d,tk,os⟩) l items:=⟨_,hl,rfl,n,rfl⟩
  wp_walk using wpAny_loadPart' hl
  refine wpAny_stack_any fun st=>ae ?_
  split
  .rename_i c _ _ _ _ _
   cases(c == Value.type "enumerate")
   .wp_walk using wpAny_loadPart' hl,bH hL
    exact⟨_,rfl,h⟩
   .wp_walk using wpAny_loadPart' hl,bH hL
    exact⟨_,rfl,h⟩
  .wp_walk using wpAny_loadPart' hl,bH hL
   exact⟨_,rfl,h⟩
theorem cu' {prog:Program} {w:World} {A:Around} {E:Value->Shared->Prop} {s:Shared} {l:Addr} {items:Array Value} {Q:Value->Shared->Prop} (hL:s.heap.IsTuple l items)
  (h:∀h',IsEnum h' (s.heap.objs.size+1) s.heap.objs.size 0 .none->co' true h' s.heap.objs.size l 0->h'.objs.size=s.heap.objs.size+2->
   (∀b o,s.heap.get? b=some o->h'.get? b=some o)->Q (.ref (s.heap.objs.size+1)) { s with heap:=h' }):
  wpAny (model prog w) A (call (.type "enumerate") [.ref l]) Q E s:=by
 obtain⟨⟨c,dct,dt,sl⟩,hl,hc,n,hd⟩:=hL
 replace hc:c=.type "tuple":=hc
 replace hd:dt=.seq items n:=hd
 subst hc hd
 refine callType_new F.called_enumerate (by decide) (F.typeCall_enumerate_1 _) (F.newCall_enumerate_1 _) (fun obj=>F.args_object_init_2 obj _) F.entry_enumerate_new
  (ct' l items n dct sl) ⟨hl,?_⟩
 have hz:(s.heap.push { cls:=.type "tuple_iterator",data:=.fields #[.ref l,.int 0 0] }).objs.size=s.heap.objs.size+1:=aW ..
 show _/\_
 rw[hz]
 have he:IsEnum ((s.heap.push { cls:=.type "tuple_iterator",data:=.fields #[.ref l,.int 0 0] }).push
   { cls:=.type "enumerate",data:=.fields #[.none,.bool false,.ref s.heap.objs.size,rawInt 0,.none,.none] }) (s.heap.objs.size+1) s.heap.objs.size 0 .none:=by
  have:=am (s.heap.push { cls:=.type "tuple_iterator",data:=.fields #[.ref l,.int 0 0] })
   (o:={ cls:=.type "enumerate",data:=.fields #[.none,.bool false,.ref s.heap.objs.size,rawInt 0,.none,.none] }) rfl
  rw[hz]at this;exact this
 refine⟨⟨_,he,rfl⟩,h _ he ⟨_,ab _ (am _ rfl),rfl,rfl⟩ (by rw[aW,hz]) fun b o x=>ab _ (ab _ x)⟩
def wj' (K:W.Frag) (a:Addr):It:=Itd (fun i H=>∃xs x,SqT K H a xs/\xs[i]?=some x) (fun i H x=>∀xs,SqT K H a xs->xs[i]?=some x) (fun i H=>∃xs,SqT K H a xs/\xs.length=i)
theorem sN' {P:Program} {w:World} {K:W.Frag} {e it a:Addr} (ne:e≠it) (na:a≠e) (nai:a≠it):EnSrc P w K e it (fun i h=>co' true h it a i) (fun i H=>∃xs x,SqT K H a xs/\xs[i]?=some x) (fun i H x=>∀xs,SqT K H a xs->xs[i]?=some x) (fun i H=>∃xs,SqT K H a xs/\xs.length=i) where
 ne:=ne
 obj:=fun i h st=>by
  obtain⟨o,q,d⟩:=st.obj
  exact⟨o,q,fun v z=>by rw[d]at z;cases z⟩
 keep:=fun i h h' st k=>st.at k
 item:=by
  intro X hP hw hK hc i pins s σ H I _ _ _ _ st hg
  obtain⟨xs,x,hxs,hx⟩:=hg
  subst hP hw hK
  obtain⟨its,rv,p,hz⟩:=I.tuple hxs
  have hl:=rv.length
  obtain⟨u,hu,ru⟩:=rv.get hx
  refine⟨_,_,_,_,fN' (show X.A.in1.handled=none from I.ok.hd hc) it a nai its.toArray,?_,?_,⟨st,p⟩,fun j h q=>q.1,fun u' hu'=>⟨x,?_,fun ys hys=>by rw[I.tuple_inj hys hxs];exact hx⟩⟩
  .simp only[ak,aq,or_false,not_or]
   exact⟨ne,Ne.symm na⟩
  .have:=(aG.mp hx).1
   simp;omega
  .have e2:its[i]?=some u':=by simpa using hu'
   rw[hu]at e2
   cases e2
   exact ru
 done:=by
  intro X hP hw hK hc i pins s σ H I _ _ _ st hg
  obtain⟨xs,hxs,hx⟩:=hg
  subst hP hw hK
  obtain⟨its,rv,p,hz⟩:=I.tuple hxs
  have hl:=rv.length
  have e:i=its.toArray.size:=by simp;omega
  subst e
  exact⟨_,_,_,fN' (show X.A.in1.handled=none from I.ok.hd hc) it a nai its.toArray,st,p⟩
section
variable {X:Cx}
def pR' (K:W.Frag) (tl:TE):TI:=fun σ H R=>cb' tl hI' σ H fun vs H1=>∃x,vs=[x]/\
 ((∃a,x=.ref a/\(∃xs,SqL K H1 a xs)/\R (Ite K a) H1)\/(∃z,x=.str z/\R (wi' z) H1)\/∃a,x=.ref a/\(∃xs,SqT K H1 a xs)/\R (wj' K a) H1)
theorem eh':bootBuiltins "enumerate"=some (.type "enumerate"):=by decide +kernel
theorem pS' {a:Expr} {tl:TE} {p pos:Pos} {elts:List Expr} {kt:Nat} {pt:Pos} (hg:Gl X "enumerate") (hm:X.mg "enumerate"=none) (ha:PA X [a] (cb' tl hI')) (hs:starEach [a] X.env=[(false,eval a X.env)]):
  PI X (.Tuple elts kt pt) (.Call (.Name "enumerate" p) [a] [] pos) (pR' X.K tl):=by
 intro pins s σ H R I h
 have h':cb' tl hI' σ H (fun vs H1=>∃x,vs=[x]/\((∃a,x=.ref a/\(∃xs,SqL X.K H1 a xs)/\R (Ite X.K a) H1)\/(∃z,x=.str z/\R (wi' z) H1)\/∃a,x=.ref a/\(∃xs,SqT X.K H1 a xs)/\R (wj' X.K a) H1)):=h
 refine Call_ (dA' I hg hm eh' (PyProof.Rows.callWith_type1 (thn (ha pos pins s σ H _ I h') fun us s1 ⟨vs,H1,I1,r1,q1⟩=>?_) (by rw[hs];rfl) (by rfl)))
 obtain⟨x,e,q1⟩:=q1
 subst e
 cases r1 with
 |cons r rr=>
  cases rr
  rcases q1 with⟨a,rfl,⟨xs,hxs⟩,q⟩|⟨z,rfl,q⟩|⟨a,rfl,⟨xs,hxs⟩,q⟩
  .cases r
   obtain⟨its,rv,pl,hz⟩:=I1.list hxs
   refine call_enumerate_list pl.isList fun h' he hit hsz hk=>wpAny_pyIter_enum he ?_
   have la:a<s1.heap.objs.size:=by
    obtain⟨o,q,_⟩:=pl.isList
    exact al q
   refine⟨s1.heap.objs.size+1,[s1.heap.objs.size+1,s1.heap.objs.size],_,_,H1,rfl,I1.kept (t':=s1.toks) hk,dN' (pQ' (Nat.succ_ne_self _) (ax (bF la)) (ax la)),⟨⟨_,he⟩,hit⟩,fun c hc=>?_,q⟩
   have hle:s1.heap.objs.size<=c:=by
    simp only[ak,aq,or_false]at hc
    rcases hc with rfl|rfl<;>omega
   exact I1.fpOk hle (I1.hok.fresh hle)
  .obtain⟨t,rfl⟩:=r
   refine call_enumerate_str fun h' he hit hsz hk=>wpAny_pyIter_enum he ?_
   have hty:strIterType z="str_ascii_iterator"\/strIterType z="str_iterator":=by
    unfold strIterType
    split
    .exact .inl rfl
    .exact .inr rfl
   refine⟨s1.heap.objs.size+1,[s1.heap.objs.size+1,s1.heap.objs.size],_,_,H1,rfl,I1.kept (t':=s1.toks) hk,dN' (sM' hty (Nat.succ_ne_self _)),⟨⟨_,he⟩,hit⟩,fun c hc=>?_,q⟩
   have hle:s1.heap.objs.size<=c:=by
    simp only[ak,aq,or_false]at hc
    rcases hc with rfl|rfl<;>omega
   exact I1.fpOk hle (I1.hok.fresh hle)
  .cases r
   obtain⟨its,rv,pl,hz⟩:=I1.tuple hxs
   refine cu' (show s1.heap.IsTuple a its.toArray from pl) fun h' he hit hsz hk=>wpAny_pyIter_enum he ?_
   have la:a<s1.heap.objs.size:=by
    obtain⟨o,q,_⟩:=pl
    exact al q
   refine⟨s1.heap.objs.size+1,[s1.heap.objs.size+1,s1.heap.objs.size],_,_,H1,rfl,I1.kept (t':=s1.toks) hk,dN' (sN' (Nat.succ_ne_self _) (ax (bF la)) (ax la)),⟨⟨_,he⟩,hit⟩,fun c hc=>?_,q⟩
   have hle:s1.heap.objs.size<=c:=by
    simp only[ak,aq,or_false]at hc
    rcases hc with rfl|rfl<;>omega
   exact I1.fpOk hle (I1.hok.fresh hle)
end
section
variable {X:Cx}
theorem e9':aP' X (.type "int") (fun xs H Q=>∃x n,xs=[.str x]/\PySem.intText? x=some n/\x.length<=640/\Q (.int n) H):=by
 intro pins s σ H xs us Q I r h
 obtain⟨x,n,rfl,hn,hl,q⟩:=h
 obtain⟨u,rfl,t,rfl⟩:=dp' r
 exact W.KIN.call_text hn hl ⟨.int n,H,I.tok _,⟨_,rfl⟩,q⟩
def yX':List V->Hp->VK->Prop:=fun xs H Q=>((∃i,xs=[.int i]/\Q (.int i) H)\/∃k,xs=[.bl k]/\Q (.int (if k then 1 else 0)) H)\/∃x n,xs=[.str x]/\PySem.intText? x=some n/\x.length<=640/\Q (.int n) H
theorem jR':aP' X (.type "int") yX':=jx'.or e9'
def w7':R2:=fun x y H Q=>∃a n,x=.str a/\y=.int n/\-1000000<=n/\n<=1000000/\a.length*n.toNat<=1000000/\Q (.str (Txt.mul a n)) H
theorem iJ':OpR X (binaryOp .Mult) w7':=by
 intro pins s σ H x y v u Q I rx ry h
 obtain⟨a,n,rfl,rfl,h1,h2,h3,q⟩:=h
 obtain⟨t,rfl⟩:=rx
 obtain⟨t',rfl⟩:=ry
 refine SB.mul ⟨?_,fun hn hc=>?_,fun hn hc=>?_⟩ fun t' k=>⟨.str (Txt.mul a n),H,I.tok _,⟨_,rfl⟩,q⟩
 .have e1:¬n < -(2 ^ 63:Int):=by omega
  have e2:¬n ≥ 2 ^ 63:=by omega
  simp[e1,e2]
  omega
 .have hn0:0<n:=by omega
  intro hgt
  have h4:(a.length:Int)*n<=1000000:=by
   have:((a.length*n.toNat:Nat):Int)<=1000000:=by omega
   rw[Int.natCast_mul,Int.toNat_of_nonneg (by omega)]at this
   exact this
  have h5:=(Int.ediv_lt_iff_lt_mul hn0).mp hgt
  omega
 .have e:Builtin.Str.tooLong (a.length*n.toNat)=false:=by
   unfold Builtin.Str.tooLong
   have:sizeLine=16777216:=sizeLine_eq
   simp
   omega
  exact e
def sO' (K:W.Frag):V->List V->Hp->VK->Prop:=fun x xs H Q=>∃(sep:Str) (p:Addr) (ys:List Str),x=.str sep/\xs=[.ref p]/\(SqL K H p (ys.map V.str)\/SqT K H p (ys.map V.str))/\(ys.map (·.length)).sum+ys.length*sep.length<=16777216/\Q (.str (Txt.join sep ys)) H
theorem c9':∀{ys:List Str} {us:List Value},aB' (ys.map V.str) us->StrsAre us ys
 | [],us,h=>by
  have e:=h.zero
  subst e
  exact .nil
 |y :: ys,_,.cons r t=>by
  obtain⟨k,rfl⟩:=r
  exact .cons y k (c9' t)
theorem pT':MtR X "str.join" (sO' X.K):=by
 intro pins s σ H x xs v us Q I rx rv h
 obtain⟨sep,p,ys,rfl,rfl,hs,hz,q⟩:=h
 obtain⟨t,rfl⟩:=rx
 obtain⟨u,rfl,ru⟩:=rv.one
 cases ru
 rcases hs with hs|hs
 .obtain⟨its,r,pl,_⟩:=I.list hs
  exact join_list pl.isList (c9' r) hz fun t' k=>⟨.str _,H,I.tok _,⟨_,rfl⟩,q⟩
 .obtain⟨its,r,pl,_⟩:=I.tuple hs
  exact join_tuple pl (c9' r) hz fun t' k=>⟨.str _,H,I.tok _,⟨_,rfl⟩,q⟩
def zI':V->Option Int->Option Int->Hp->VK->Prop:=fun x lo hi H Q=>∃a,x=.str a/\a.length<=sizeLine/\Q (.str (Txt.slice a lo hi)) H
theorem sP':SlR X zI':=by
 intro pins s σ H x v vl vu lo hi sl Q I rx hs pl pu h
 obtain⟨a,rfl,hz,q⟩:=h
 obtain⟨t,rfl⟩:=rx
 have fin:∀(l u:Option (Int×Tok)),l.map (·.1)=lo->u.map (·.1)=hi->s.heap.IsSlice sl l u none->wpAny (model X.prog X.w) X.A (getItem (.str a t) (.ref sl)) (EP X pins σ Q) X.xe s:=by
  intro l u e1 e2 hsl
  refine wpAny_getItem_str_slice (l:=l) (u:=u) (st:=none) hsl rfl ?_
  refine post_val_or_str ?_
  subst e1 e2
  exact⟨aM (Txt.slice_le a _ _) hz,fun t' k=>⟨.str _,H,I.tok _,⟨_,rfl⟩,q⟩⟩
 refine⟨"str",_,F.slot_str_getitem.lookup,typeIs_str _ _ _,?_⟩
 cases pl with
 |none=>
  cases pu with
  |none=>exact fin none none rfl rfl hs
  |int j u=>exact fin none (some (j,u)) rfl rfl hs
 |int i t1=>
  cases pu with
  |none=>exact fin (some (i,t1)) none rfl rfl hs
  |int j u=>exact fin (some (i,t1)) (some (j,u)) rfl rfl hs
def a4' (H:Hp):V->Option String
 | .non=>some "NoneType"
 | .bl _=>some "bool"
 | .int _=>some "int"
 | .str _=>some "str"
 | .ref a=>match H a with
  |some (.lst _)=>some "list"
  |some (.tup _)=>some "tuple"
  |some (.dK _)=>some "dict"
  |some (.dT _)=>some "dict"
  |some (.frz _ (.lst _))=>some "list"
  |_=>none
 |_=>none
set_option tactic.hygienic true in
theorem jS' {K:W.Frag} {H:Hp} {x:V} {T:String} (h:a4' H x=some T):TyOf K H x (.type T):=by
 cases x with
 |non=>cases h;exact .non
 |bl b=>cases h;exact .bl b
 |int i=>cases h;exact .int i
 |str y=>cases h;exact .str y
 |byt _=>cases h
 |flt _=>cases h
 |ty _=>cases h
 |ref a=>
  have h:(match H a with
   |some (.lst _)=>some "list"
   |some (.tup _)=>some "tuple"
   |some (.dK _)=>some "dict"
   |some (.dT _)=>some "dict"
   |some (.frz _ (.lst _))=>some "list"
   |_=>none)=some T:=h
  split at h
  .rename_i e;cases h;exact .lst e
  .rename_i e;cases h;exact .tup e
  .rename_i e;cases h;exact .dK e
  .rename_i e;cases h;exact .dT e
  .rename_i e;cases h;exact .frz e
  .cases h
def isT (T c:String):Bool:=T == c || (T == "bool"&&c == "int")
def bS':List String:=["NoneType","bool","int","str","list","tuple","dict"]
theorem dj' (K:W.Frag):∀T∈bS',∀c∈["bool","int","str","list","tuple","dict"],W.kitOne K (.type T) (.type c)=some (isT T c):=by
 intro T hT c hc
 simp only[bS',ak,aq,or_false]at hT hc
 rcases hT with rfl|rfl|rfl|rfl|rfl|rfl|rfl<;>rcases hc with rfl|rfl|rfl|rfl|rfl|rfl<;>rfl
def yY':List V->Hp->VK->Prop:=fun xs H Q=>
 (∃x T c,xs=[x,.ty c]/\a4' H x=some T/\T∈bS'/\c∈["bool","int","str","list","tuple","dict"]/\Q (.bl (isT T c)) H)\/
 (∃(x:V) (T:String) (p:Addr) (cs:List String),xs=[x,.ref p]/\a4' H x=some T/\T∈bS'/\H p=some (.tup (cs.map V.ty))/\(∀c∈cs,c∈["bool","int","str","list","tuple","dict"])/\Q (.bl (cs.any (isT T))) H)
theorem jT':∀{cs:List String} {us:List Value},aB' (cs.map V.ty) us->us=cs.map Value.type
 | [],us,h=>h.zero
 |c :: cs,_,.cons r t=>by
  have r':_=Value.type c:=r
  rw[r',jT' t]
  rfl
theorem dk' (K:W.Frag) {T:String} (hT:T∈bS'):∀{cs:List String},(∀c∈cs,c∈["bool","int","str","list","tuple","dict"])->W.kitAny K (.type T) (cs.map Value.type)=some (cs.any (isT T))
 | [],_=>rfl
 |c :: cs,h=>by
  have h1:=dj' K T hT c (h c ay)
  have h2:=dk' K hT (cs:=cs) fun c' hc'=>h c' (aw _ hc')
  show(match W.kitOne K (.type T) (.type c)with|some true=>some true|some false=>W.kitAny K (.type T) (cs.map Value.type)|none=>none)=_
  rw[h1]
  cases hb:isT T c
  .rw[cE,hb]
   exact h2
  .rw[cE,hb]
   rfl
set_option tactic.hygienic true in
theorem iK' {pins:List (Addr×Obj)} {σ:St} {H:Hp} {s:Shared} {Q:Value->Shared->Prop} {E:Value->Shared->Prop} {b:Bool} {x:V} {u:Value} {T:String} {p:Addr} {dd:Option Addr} {its:List Value} {n:Nat} {sl:Array (Option Value)} (I:Inv X pins σ H s) (rx:ay' x u) (ty:a4' H x=some T)
  (hp:s.heap.get? p=some ⟨.type "tuple",dd,.seq its.toArray n,sl⟩) (e:W.kitAny X.K (.type T) its=some b) (h:∀tk,Q (.bool b) { s with toks:=tk }):
  wpAny (model X.prog X.w) X.A (call (.builtin "isinstance") [u,.ref p]) Q E s:=by
 cases x with
 |non=>cases ty;cases(show u=Value.none from rx);exact W.kia_tup W.kitx_none I.kIn True.intro hp e (fun z=>nomatch z) h
 |bl y=>cases ty;cases(show u=Value.bool y from rx);exact W.kia_tup W.kitx_bool I.kIn True.intro hp e (fun z=>nomatch z) h
 |int i=>cases ty;obtain⟨t,q⟩:=(show ∃t,u=Value.int i t from rx);cases q;exact W.kia_tup W.kitx_int I.kIn True.intro hp e (fun z=>nomatch z) h
 |str y=>cases ty;obtain⟨t,q⟩:=(show ∃t,u=Value.str y t from rx);cases q;exact W.kia_tup W.kitx_str I.kIn True.intro hp e (fun z=>nomatch z) h
 |byt _=>cases ty
 |flt _=>cases ty
 |ty _=>cases ty
 |ref a=>
  cases(show u=Value.ref a from rx)
  have ty:(match H a with
   |some (.lst _)=>some "list"
   |some (.tup _)=>some "tuple"
   |some (.dK _)=>some "dict"
   |some (.dT _)=>some "dict"
   |some (.frz _ (.lst _))=>some "list"
   |_=>none)=some T:=ty
  split at ty
  .rename_i xs ea
   cases ty
   obtain⟨_,_,n,_,h1⟩:=(show av' X.prog X.w H s.heap a (.lst xs) from I.hok a _ ea)
   exact W.kia_tup W.kitx_list I.kIn ⟨_,h1,rfl⟩ hp e (fun z=>nomatch z) h
  .rename_i xs ea
   cases ty
   obtain⟨_,_,_,o,h1,h2,_⟩:=(show av' X.prog X.w H s.heap a (.tup xs) from I.hok a _ ea)
   exact W.kia_tup W.kitx_tuple I.kIn ⟨o,h1,h2⟩ hp e (fun z=>nomatch z) h
  .rename_i kvs ea
   cases ty
   obtain⟨_,_,vs,_,o,es,ep,h1,h2,_⟩:=(show av' X.prog X.w H s.heap a (.dK kvs) from I.hok a _ ea)
   exact W.kia_tup W.kitx_dict I.kIn ⟨o,h1,h2.1⟩ hp e (fun z=>nomatch z) h
  .rename_i kvs ea
   cases ty
   obtain⟨_,_,xs,_,o,es,ep,h1,h2,_⟩:=(show av' X.prog X.w H s.heap a (.dT kvs) from I.hok a _ ea)
   exact W.kia_tup W.kitx_dict I.kIn ⟨o,h1,h2.1⟩ hp e (fun z=>nomatch z) h
  .rename_i ob xs ea
   cases ty
   obtain⟨_,_,_,n,_,h1⟩:=(show av' X.prog X.w H s.heap a (.frz ob (.lst xs)) from I.hok a _ ea)
   exact W.kia_tup W.kitx_list I.kIn ⟨_,h1,rfl⟩ hp e (fun z=>nomatch z) h
  .cases ty
theorem mv':aP' X (.builtin "isinstance") yY':=by
 intro pins s σ H xs us Q I r h
 rcases h with⟨x,T,c,rfl,hT,hk,hc,q⟩|⟨x,T,p,cs,rfl,hT,hk,hp,hc,q⟩
 .obtain⟨u,w',rfl,r1,r2⟩:=mg' r
  have r2:w'=Value.type c:=r2
  subst r2
  exact jz' I r1 (jS' hT) (dj' X.K T hk c hc) fun tk=>⟨.bl _,H,I.tok _,rfl,q⟩
 .obtain⟨u,w',rfl,r1,r2⟩:=mg' r
  have r2:w'=Value.ref p:=r2
  subst r2
  obtain⟨_,its,rv,o,h1,h2,⟨n,h3⟩,_⟩:=(show av' X.prog X.w H s.heap p (.tup (cs.map V.ty)) from I.hok p _ hp)
  have e:=jT' rv
  subst e
  obtain⟨oc,od,dat,osl⟩:=o
  have h2:oc=_:=h2
  have h3:dat=_:=h3
  subst h2 h3
  exact iK' I r1 hT h1 (dk' X.K hk hc) fun tk=>⟨.bl _,H,I.tok _,rfl,q⟩
def yZ' (K:W.Frag) (any:Bool):List V->Hp->VK->Prop:=fun xs H Q=>∃(p:Addr) (bs:List Bool),xs=[.ref p]/\SqL K H p (bs.map V.bl)/\Q (.bl (if any then bs.any id else bs.all id)) H
theorem fO':∀{bs:List Bool} {us:List Value} {i:Nat} {v:Value},aB' (bs.map V.bl) us->us[i]?=some v->∃b,bs[i]?=some b/\v=.bool b
 | [],us,i,v,h,e=>by rw[h.zero]at e;simp at e
 |b :: bs,_,0,v,.cons r t,e=>by
  have r:_=Value.bool b:=r
  simp at e
  exact⟨b,rfl,by rw[<- e];exact r⟩
 |b :: bs,_,i+1,v,.cons r t,e=>by
  obtain⟨b',h1,h2⟩:=fO' (i:=i) t (by simpa using e)
  exact⟨b',by simpa using h1,h2⟩
theorem jU' (bs:List Bool):(aF bs.length).all (fun i=>bs.getD i false)=bs.all id:=by
 rw[cz,bM,bM]
 constructor
 .intro h b hb
  obtain⟨i,hi,rfl⟩:=cf.mp hb
  have:=h i (aJ.mpr hi)
  simpa[List.getD_eq_getElem?_getD,hi]using this
 .intro h i hi
  have hi:=aJ.mp hi
  have:=h bs[i] (cu hi)
  simpa[List.getD_eq_getElem?_getD,hi]using this
theorem jV' (hc:X.calm=true):aP' X (.builtin "all") (yZ' X.K false):=by
 intro pins s σ H xs us Q I r h
 obtain⟨p,bs,rfl,hs,q⟩:=h
 obtain⟨u,rfl,ru⟩:=dp' r
 cases ru
 obtain⟨its,rv,pl,hz⟩:=I.list hs
 have hlen:its.toArray.size=bs.length:=by
  have:=rv.length
  rw[af]at this
  rw[ao,this]
 refine call_all_walk (cF pl.isList ?_)
 have hlt:p<s.heap.objs.size:=by obtain⟨o,n,e,_⟩:=pl;exact al e
 refine⟨s.heap.objs.size,_,_,_,_,_,fun i=>bs.getD i false,rfl,Walks.list (A:=X.A.in1) (I.ok.hd hc) _ p (ax hlt) its.toArray,⟨⟨_,am _ rfl,rfl,rfl⟩,Heap.IsList.push pl.isList _⟩,?_,fun h' tk hk=>?_⟩
 .intro i v s' Q' E' hv hq
  obtain⟨b,hb,rfl⟩:=fO' rv (i:=i) (by simpa using hv)
  refine bb ?_
  have e:bs.getD i false=b:=by rw[List.getD_eq_getElem?_getD,hb];rfl
  have hq':Q' (bs.getD i false) s':=hq
  rw[e]at hq'
  exact hq'
 .rw[hlen,jU']
  exact⟨.bl _,H,I.kept fun b o e=>hk b o (by simp;exact ax (al e)) (ab _ e),rfl,q⟩
def sQ' (K:W.Frag) (mx:Bool):List V->Hp->VK->Prop:=fun xs H Q=>∃(p:Addr) (ns:List Int),xs=[.ref p]/\SqL K H p (ns.map V.int)/\ns≠[]/\∀M,M∈ns->(∀a∈ns,if mx then a<=M else M<=a)->Q (.int M) H
theorem jW' (hc:X.calm=true):aP' X (.builtin "min") (sQ' X.K false):=by
 intro pins s σ H xs us Q I r h
 obtain⟨p,ns,rfl,hs,hne,q⟩:=h
 obtain⟨u,rfl,ru⟩:=dp' r
 cases ru
 obtain⟨its,rv,pl,hz⟩:=I.list hs
 have hi:=eD' rv
 obtain⟨xs,e⟩:=hi.allInts.items
 have hns:ns=xs.toList.map (·.1):=by
  rw[<- hi.numsOf,<- nums_intItems,<- e]
 have hsz:0<xs.size:=by
  have h3:=List.length_pos_iff.mpr hne
  rw[hns,af,aA]at h3
  exact h3
 have hl:=pl.isList
 rw[e]at hl
 refine min_intList (I.ok.hd hc) hl hsz fun v h' tk hv hk=>?_
 obtain⟨t,rfl⟩:=intItems_at hv
 obtain⟨h1,h2⟩:=argBest_lt (numAt xs) (xs.size-1)
 refine⟨.int _,H,I.kept hk,⟨t,rfl⟩,q _ ?_ fun a ha=>?_⟩
 .rw[hns,numAt_eq];exact getD_mem (by rw[af,aA];omega)
 .rw[hns]at ha
  obtain⟨j,hj,rfl⟩:=mem_getD ha
  rw[af,aA]at hj
  rw[if_neg (by decide),<- numAt_eq];exact h2 j (by omega)
end
section
variable {X:Cx}
open PySem.SeqAt in
theorem fa' {A:Around} {s:Shared} {x y:V} {u v:Value} (rx:ay' x u) (ry:ay' y v) (h:rK' x y=true/\(∀b,x≠.byt b)\/x=y/\∃a,x=.ref a):EqAt A s u v (decide (x=y)):=by
 rcases h with⟨h,hb⟩|⟨rfl,a,rfl⟩
 .cases x with
  |non=>cases y with
   |non=>cases rx;cases ry;exact EqAt.same _
   |bl b=>cases rx;cases ry;exact EqAt.none_bool _
   |int b=>cases rx;obtain⟨t,rfl⟩:=ry;exact EqAt.none_int _ _
   |str b=>cases rx;obtain⟨t,rfl⟩:=ry;exact EqAt.none_str _ _
   |_=>cases h
  |bl a=>cases y with
   |non=>cases rx;cases ry;exact EqAt.bool_none _
   |bl b=>cases rx;cases ry;have:=EqAt.bool_bool (A:=A) (s:=s) a b;cases a<;>cases b<;>exact this
   |str b=>cases rx;obtain⟨t,rfl⟩:=ry;exact EqAt.bool_str _ _ _
   |_=>cases h
  |int a=>cases y with
   |non=>obtain⟨t,rfl⟩:=rx;cases ry;exact EqAt.int_none _ _
   |int b=>obtain⟨t,rfl⟩:=rx;obtain⟨t',rfl⟩:=ry;rw[gy'];exact EqAt.int_int _ _ _ _
   |str b=>obtain⟨t,rfl⟩:=rx;obtain⟨t',rfl⟩:=ry;exact EqAt.int_str _ _ _ _
   |_=>cases h
  |str a=>cases y with
   |non=>obtain⟨t,rfl⟩:=rx;cases ry;exact EqAt.str_none _ _
   |bl b=>obtain⟨t,rfl⟩:=rx;cases ry;exact EqAt.str_bool _ _ _
   |int b=>obtain⟨t,rfl⟩:=rx;obtain⟨t',rfl⟩:=ry;exact EqAt.str_int _ _ _ _
   |str b=>
    obtain⟨t,rfl⟩:=rx
    obtain⟨t',rfl⟩:=ry
    have e:decide (V.str a=V.str b)=(a == b):=by
     by_cases hab:a=b
     .subst hab;simp
     .rw[decide_eq_false (by intro z;cases z;exact hab rfl)];simp[hab]
    rw[e]
    exact EqAt.str_str _ _ _ _
   |_=>cases h
  |byt b=>exact absurd rfl (hb b)
  |_=>cases y<;>cases h
 .cases rx
  cases ry
  rw[decide_eq_true rfl]
  exact EqAt.same _
def LEq (xs ys:List V):Prop:=∀(i:Nat) x y,xs[i]?=some x->ys[i]?=some y->rK' x y=true/\(∀b,x≠.byt b)\/x=y/\∃a,x=.ref a
def wk' (K:W.Frag) (neg:Bool):V->V->Hp->VK->Prop:=fun x y H Q=>∃p q xs ys,x=.ref p/\y=.ref q/\SqL K H p xs/\SqL K H q ys/\(xs.length=ys.length->LEq xs ys)/\Q (.bl (if neg then !decide (xs=ys)else decide (xs=ys))) H
theorem jX' {xs ys:List V} (h:xs.length=ys.length):(aF xs.length).all (fun i=>decide (xs[i]?=ys[i]?))=decide (xs=ys):=by
 by_cases e:xs=ys
 .subst e
  simp
 .rw[decide_eq_false e,Bool.eq_false_iff]
  intro q
  rw[bM]at q
  apply e
  apply bE
  intro i
  rcases cQ i xs.length with hi|hi
  .exact of_decide_eq_true (q i (aJ.mpr hi))
  .rw[aR.mpr hi,aR.mpr (by omega)]
open PySem.SeqAt in
theorem sR' (hu:X.A.units<cLine):OpR X (compareOp .Eq) (wk' X.K false):=by
 intro pins s σ H x y v u Q I rx ry h
 obtain⟨p,q,xs,ys,rfl,rfl,hp,hq,he,k⟩:=h
 cases rx
 cases ry
 obtain⟨its,r1,pl1,_⟩:=I.list hp
 obtain⟨its2,r2,pl2,_⟩:=I.list hq
 have l1:=r1.length
 have l2:=r2.length
 by_cases hl:xs.length=ys.length
 .refine eq_listAt (e:=fun i=>decide (xs[i]?=ys[i]?)) pl1.isList pl2.isList (by simp;omega) hu (fun j h1 h2=>?_) ?_
  .have j1:j<xs.length:=by simp at h1;omega
   have j2:j<ys.length:=by omega
   have g1:xs[j]?=some xs[j]:=ac j1
   have g2:ys[j]?=some ys[j]:=ac j2
   obtain⟨u1,e1,ru1⟩:=r1.get g1
   obtain⟨u2,e2,ru2⟩:=r2.get g2
   have f1:its.toArray[j]=u1:=by simp at h1 ⊢;rw[ac h1]at e1;exact Option.some.inj e1
   have f2:its2.toArray[j]=u2:=by simp at h2 ⊢;rw[ac h2]at e2;exact Option.some.inj e2
   rw[f1,f2,g1,g2]
   have e3:decide (some xs[j]=some ys[j])=decide (xs[j]=ys[j]):=by simp
   rw[e3]
   exact fa' ru1 ru2 (he hl j _ _ g1 g2)
  .have e4:(aF its.toArray.size).all (fun i=>decide (xs[i]?=ys[i]?))=decide (xs=ys):=by
    rw[ao,<- l1];exact jX' hl
   rw[e4]
   exact⟨.bl _,H,I,rfl,k⟩
 .refine eq_list_lengthsAt pl1.isList pl2.isList (by simp;omega) hu ?_
  rw[decide_eq_false (fun z=>hl (by rw[z]))]at k
  exact⟨.bl false,H,I,rfl,k⟩
open PySem.SeqAt in
theorem sS' (hu:X.A.units<cLine):OpR X (compareOp .NotEq) (wk' X.K true):=by
 intro pins s σ H x y v u Q I rx ry h
 obtain⟨p,q,xs,ys,rfl,rfl,hp,hq,he,k⟩:=h
 cases rx
 cases ry
 obtain⟨its,r1,pl1,_⟩:=I.list hp
 obtain⟨its2,r2,pl2,_⟩:=I.list hq
 have l1:=r1.length
 have l2:=r2.length
 obtain⟨⟨cls,dd,data,sl⟩,ho,hc,n,hd⟩:=pl1.isList
 obtain⟨⟨cls2,dd2,data2,sl2⟩,ho2,hc2,n2,hd2⟩:=pl2.isList
 simp only at hc hd hc2 hd2
 subst hc hd hc2 hd2
 by_cases hl:xs.length=ys.length
 .refine richCompare_meets_room (op:=.NotEq) ⟨_,ho,rfl⟩ ⟨_,ho2,rfl⟩ F.slot_list_ne F.entry_list_ne (F.args_list_ne_2 _ _) (list_neAt p q its.toArray its2.toArray n n2 dd dd2 sl sl2 (by simp;omega) (fun i=>decide (xs[i]?=ys[i]?))) ⟨ho,ho2,fun j h1 h2=>?_,?_⟩ hu
  .have j1:j<xs.length:=by simp at h1;omega
   have j2:j<ys.length:=by omega
   have g1:xs[j]?=some xs[j]:=ac j1
   have g2:ys[j]?=some ys[j]:=ac j2
   obtain⟨u1,e1,ru1⟩:=r1.get g1
   obtain⟨u2,e2,ru2⟩:=r2.get g2
   have f1:its.toArray[j]=u1:=by simp at h1 ⊢;rw[ac h1]at e1;exact Option.some.inj e1
   have f2:its2.toArray[j]=u2:=by simp at h2 ⊢;rw[ac h2]at e2;exact Option.some.inj e2
   rw[f1,f2,g1,g2]
   have e3:decide (some xs[j]=some ys[j])=decide (xs[j]=ys[j]):=by simp
   rw[e3]
   exact fa' ru1 ru2 (he hl j _ _ g1 g2)
  .have e4:(aF its.toArray.size).all (fun i=>decide (xs[i]?=ys[i]?))=decide (xs=ys):=by
    rw[ao,<- l1];exact jX' hl
   rw[e4]
   exact(show Value.bool (!decide (xs=ys))≠Value.notImplemented/\EP X pins σ Q (Value.bool (!decide (xs=ys))) s from⟨(fun x=>nomatch x),⟨.bl _,H,I,rfl,k⟩⟩)
 .refine richCompare_meets_room (op:=.NotEq) ⟨_,ho,rfl⟩ ⟨_,ho2,rfl⟩ F.slot_list_ne F.entry_list_ne (F.args_list_ne_2 _ _) (list_ne_lengthsAt p q its.toArray its2.toArray n n2 dd dd2 sl sl2 (by simp;omega)) ⟨ho,ho2,?_⟩ hu
  rw[decide_eq_false (fun z=>hl (by rw[z]))]at k
  exact(show Value.bool true≠Value.notImplemented/\EP X pins σ Q (Value.bool true) s from⟨(fun x=>nomatch x),⟨.bl true,H,I,rfl,k⟩⟩)
def rgs (i:Int) (n:Nat):List V:=(aF n).map fun(k:Nat)=>V.int (i+(k:Int))
def y0':List V->Hp->VK->Prop:=fun xs H Q=>∃i j:Int,(xs=[.int i,.int j]\/(i=0/\xs=[.int j]))/\∀p,H p=none->Q (.ref p) (upd H p (.rng i j))
theorem mw':aP' X (.type "range") y0':=by
 intro pins s σ H xs us Q I rv h
 obtain⟨i,j,hx,q⟩:=h
 have hn:H s.heap.objs.size=none:=I.hok.fresh (ah _)
 rcases hx with rfl|⟨rfl,rfl⟩
 .cases rv with
  |cons r1 rv=>
   cases rv with
   |cons r2 rv=>
    cases rv
    obtain⟨t,rfl⟩:=r1
    obtain⟨u,rfl⟩:=r2
    exact call_range_2 ⟨.ref s.heap.objs.size,_,I.laid (t':=s.toks+1) (fun _ _ e=>ab _ e) (ah _) (o:=.rng i j) ⟨t,u,s.toks,am _ rfl⟩,rfl,q _ hn⟩
 .cases rv with
  |cons r1 rv=>
   cases rv
   obtain⟨t,rfl⟩:=r1
   exact call_range_1 ⟨.ref s.heap.objs.size,_,I.laid (t':=s.toks+1+1) (fun _ _ e=>ab _ e) (ah _) (o:=.rng 0 j) ⟨s.toks,t,s.toks+1,am _ rfl⟩,rfl,q _ hn⟩
def y1':List V->Hp->VK->Prop:=fun xs H Q=>∃r i j,xs=[.ref r]/\H r=some (.rng i j)/\(-(2 ^ 62)<=i/\i<2 ^ 62/\-(2 ^ 62)<=j/\j<2 ^ 62)/\(j-i).toNat<=sizeLine/\∀p,H p=none->Q (.ref p) (upd H p (.lst (rgs i (j-i).toNat)))
theorem mx' (hc:X.calm=true):aP' X (.type "list") y1':=by
 intro pins s σ H xs us Q I rv h
 obtain⟨r,i,j,rfl,hr,⟨h1,h2,h3,h4⟩,hz,q⟩:=h
 cases rv with
 |cons r1 rv=>
  cases rv
  cases r1
  obtain⟨t,u,v,e⟩:=(show av' X.prog X.w H s.heap r (.rng i j) from I.hok r _ hr)
  refine call_list_range (n:=(j-i).toNat) (I.ok.hd hc) e (small_one h1 h2 h3 h4) (by rw[rangeSize_one];split<;>omega) hz fun h' tk' acc' c' hk hS hit=>?_
  obtain⟨hsz,hv⟩:=hit
  have hn:H s.heap.objs.size=none:=I.hok.fresh (ah _)
  have key:∀(n:Nat) (l:List Value) (f:Nat->Int),l.length=n->(∀k v,l[k]?=some v->∃t,v=Value.int (f k) t)->aB' ((aF n).map fun k=>V.int (f k)) l:=by
   intro n
   induction n with
   |zero=>intro l f hl hv;have:l=[]:=List.length_eq_zero_iff.mp hl;subst this;exact .nil
   |succ n ih=>
    intro l f hl hv
    cases l with
    |nil=>cases hl
    |cons x r=>
     rw[List.range_succ_eq_map,aL,bi]
     refine .cons (hv 0 x rfl) ?_
     exact ih r (fun k=>f (k+1)) (by simpa using hl) fun k v hk=>hv (k+1) v (by simpa using hk)
  refine⟨.ref s.heap.objs.size,_,I.laid (t':=tk') hk (ah _) (o:=.lst (rgs i (j-i).toNat)) ⟨by unfold rgs;rw[af,bg];exact hz,acc'.toList,c',?_,hS⟩,rfl,q _ hn⟩
  refine key _ _ (fun k=>i+(k:Int)) (by rw[aA];exact hsz) fun k v hk=>?_
  obtain⟨t,e⟩:=hv k v (by simpa using hk)
  exact⟨t,by rw[e];simp⟩
end
section
variable {X:Cx}
theorem pU':OpR X (binaryOp .Mult) (rI IntMulOk fun i j=>.int (i*j)):=opI fun _ _ _ _ _ _ _ hc q=>mul_int q hc
def y2':V->Bool
 | .ty _=>false
 | .byt _=>false
 | .flt _=>false
 |_=>true
def wl' (neg:Bool):R2:=fun x y H Q=>∃b,y=.bl b/\y2' x=true/\Q (.bl (if neg then !decide (x=.bl b)else decide (x=.bl b))) H
theorem sT' {x:V} {v:Value} {b:Bool} (r:ay' x v) (h:y2' x=true):plainIs v (.bool b)=true/\(v == Value.bool b)=decide (x=.bl b):=by
 cases x with
 |non=>cases r;exact⟨rfl,rfl⟩
 |bl a=>cases r;refine⟨rfl,?_⟩;cases a<;>cases b<;>rfl
 |int i=>obtain⟨t,rfl⟩:=r;exact⟨rfl,rfl⟩
 |str i=>obtain⟨t,rfl⟩:=r;exact⟨rfl,rfl⟩
 |ref a=>cases r;exact⟨rfl,rfl⟩
 |_=>cases h
theorem sU':OpR X (compareOp .Is) (wl' false):=by
 intro pins s σ H x y v u Q I rx ry h
 obtain⟨b,rfl,hp,q⟩:=h
 cases ry
 obtain⟨h1,h2⟩:=sT' (b:=b) rx hp
 exact wpAny_is_plain h1 ⟨.bl _,H,I,by rw[h2];rfl,q⟩
theorem jY':OpR X (compareOp .IsNot) (wl' true):=by
 intro pins s σ H x y v u Q I rx ry h
 obtain⟨b,rfl,hp,q⟩:=h
 cases ry
 obtain⟨h1,h2⟩:=sT' (b:=b) rx hp
 exact wpAny_isNot_plain h1 ⟨.bl _,H,I,by rw[h2];rfl,q⟩
theorem my':OpR X (binaryOp .FloorDiv) (rI (fun _ j=>0<j/\j.natAbs.log2<9000) fun i j=>.int (i / j)):=opI fun i j _ _ _ _ _ hc q=>by
 refine floordiv_int (by omega) ?_ (.inl (PyProof.noPylong_of_log2 hc.2))
 rw[Int.fdiv_eq_ediv_of_nonneg i (by omega)]
 exact q
end
def Itc (lo c:Int) (n:Nat):It:=⟨fun i _=>i<n,fun i H x H'=>H'=H/\x=.int (lo+i*c),fun i _=>n<=i⟩
section
variable {prog:Program} {w:World} {A:Around} {E:Value->Shared->Prop} {s:Shared}
end
section
variable {X:Cx} {tg:Expr}
def w8' (i j c:Int):Nat:=if i<j then((j-i-1) / c+1).toNat else 0
def w9' (i j c:Int):Nat:=if c=-1 then(i-j).toNat else w8' i j c
end
section
variable {X:Cx}
theorem pV' {i:Int} (h:0<=i):Builtin.bitAnd i 1=i % 2:=by
 rw[PyProof.Rows.bitAnd_pp h (by decide)]
 have e:(1:Int).toNat=1:=rfl
 rw[e,Nat.and_one_is_mod]
 omega
theorem pW':OpR X (binaryOp .BitAnd) (rI (fun i j=>0<=i/\j=1) fun i _=>.int (i % 2)):=by
 intro pins s σ H x y v u Q I rx ry h
 obtain⟨i,j,rfl,rfl,⟨h0,rfl⟩,q⟩:=h
 refine sh' pins s σ H _ _ v u Q I rx ry ⟨i,1,rfl,rfl,?_⟩
 have q':Q (.int (i % 2)) H:=q
 rw[<- pV' h0]at q'
 exact q'
def inT (x y:Str):Bool:=!(Builtin.Str.occurrences x y 0 x.length 1).isEmpty
def wm' (neg:Bool):R2:=fun x y H Q=>∃a b,x=.str a/\y=.str b/\Q (.bl (if neg then !inT b a else inT b a)) H
theorem sV':OpR X (compareOp .In) (wm' false):=by
 intro pins s σ H x y v u Q I rx ry h
 obtain⟨a,b,rfl,rfl,q⟩:=h
 obtain⟨t,rfl⟩:=rx
 obtain⟨t',rfl⟩:=ry
 exact in_str ⟨.bl _,H,I,rfl,q⟩
theorem jZ':OpR X (compareOp .NotIn) (wm' true):=by
 intro pins s σ H x y v u Q I rx ry h
 obtain⟨a,b,rfl,rfl,q⟩:=h
 obtain⟨t,rfl⟩:=rx
 obtain⟨t',rfl⟩:=ry
 have q':Q (.bl (!inT b a)) H:=q
 refine notIn_str ⟨.bl (!inT b a),H,I,?_,q'⟩
 show Value.bool _=Value.bool _
 simp[inT]
end
def xa' (h:Heap) (a:Addr):Heap:=h.update a fun o=>{ o with data:=.freed }
def Ah' (h:Heap) (S:List Addr):Heap:=S.foldl xa' h
def y3' (h:Heap) (e:Addr) (cls:Value) (T:Addr):Prop:=∃oe vs oT ts a0,h.get? e=some oe/\(oe.cls=cls/\vs[0]?=some a0)/\oe.data=.fields vs/\vs[1]?=some (.ref T)/\T≠e/\h.get? T=some oT/\oT.data=.fields ts/\ts[3]?=some .none
structure LeftX (F S:List Addr) (e:Addr) (cls:Value) (h h':Heap):Prop where
 keep:∀b o,b∉F->b∉S->h.get? b=some o->h'.get? b=some o
 slot:∀b o,b∈F->h.get? b=some o->∃sl,h'.get? b=some { o with slots:=sl }
 there:∀b o,b∉S->h.get? b=some o->∃o',h'.get? b=some o'
 exc:∃T,(h.get? T=none\/T∈S)/\y3' h' e cls T
section
variable {M:Model} {A:Around} {E:Value->Shared->Prop} {s:Shared}
end
set_option tactic.hygienic true in
theorem sW' {K:W.Frag} {cd:Value} {q:Str} (e:W.codeIn K cd q=true):W.kdsCode K cd=true:=by
 unfold W.codeIn at e
 unfold W.kdsCode
 split at e
 .split at e
  .rename_i h
   dsimp only
   rw[h]
  .cases e
 .cases e
structure FnCx (X:Cx):Prop where
 ex:X.ex=[]
 fn:∀x,X.fn x=true
 stk:X.stack=X.env :: X.outer
 fr:X.env.frame=some X.env.locals
 cd:W.kdsCode X.K X.env.code=true
theorem FnCx.frs {X:Cx} (F:FnCx X):L2.frs X.stack=X.env.locals :: X.fs:=by
 rw[F.stk]
 show List.filterMap _ _=_
 rw[List.filterMap_cons,F.fr]
 rfl
section
variable {X:Cx} {pins:List (Addr×Obj)} {σ:St} {H:Hp} {s:Shared}
theorem Inv.left {S:List Addr} {e:Addr} {cls:Value} {h2:Heap} (I:Inv X pins σ H s) (F:FnCx X) (L:LeftX (frs X.stack) S e cls s.heap h2)
  (hS:∀b∈S,H b=none/\X.s₀.heap.get? b=none/\(∀p∈X.pn++pins,p.1≠b)/\∃o vs,s.heap.get? b=some o/\o.data=.fields vs):Inv X pins σ H { s with heap:=h2 }:=by
 have hF:=F.frs
 have nfs:∀{b:Addr},b≠X.env.locals->b∉X.fs->b∉frs X.stack:=fun {b} h1 h2 hb=>by
  rw[hF]at hb
  rcases ak.mp hb with z|z
  .exact h1 z
  .exact h2 z
 have cell_ok:∀x c oc v,X.env.cells.lookup x=some c->s.heap.get? c=some oc->oc.data=.cell v->h2.get? c=some oc:=fun x c oc v hx ho hd=>by
  refine L.keep c oc (nfs (I.cne x c hx) fun hb=>?_) (fun hb=>?_) ho
  .obtain⟨_,o,eo,_⟩:=I.ok.funs.mem hb
   exact aZ _ (ai (al eo) (I.ok.cab x c (F.fn x) hx))
  .obtain⟨_,_,_,o,vs,eo,ed⟩:=hS c hb
   rw[ho]at eo;cases eo
   rw[hd]at ed;cases ed
 refine⟨I.ok,I.os,I.bare,⟨fun b o e0 n hb hx=>?_,fun b o e0 n hb hx=>?_,I.base.free,fun b o e0 hx=>?_,I.base.tups,I.base.frzs,I.base.tbls⟩,?_,fun x c hx=>?_,I.free,I.freeC,fun p hp=>?_,fun b u e=>?_,I.len⟩
 .have e1:=I.base.keep b o e0 n hb hx
  refine L.keep b o (nfs (ax (ai (al e0) I.ok.above)) hb) (fun z=>?_) e1
  rw[(hS b z).2.1]at e0;cases e0
 .obtain⟨sl,e1⟩:=I.base.slot b o e0 n hb hx
  obtain⟨sl2,e2⟩:=L.slot b _ (by rw[hF];exact aw _ hb) e1
  exact⟨sl2,e2⟩
 .obtain⟨o',e1⟩:=I.base.there b o e0 hx
  exact L.there b o' (fun z=>by rw[(hS b z).2.1]at e0;cases e0) e1
 .obtain⟨m,⟨o,es,ep,ho,hd,r⟩,hl⟩:=I.loc
  obtain⟨sl,e2⟩:=L.slot X.env.locals o (by rw[hF];exact ay) ho
  refine⟨m,⟨_,es,ep,e2,hd,r⟩,fun i x v h1 h2 h3=>?_⟩
  obtain⟨u,ru,q⟩:=hl i x v h1 h2 h3
  refine⟨u,ru,?_⟩
  rcases q with q|⟨k,c,hc,oc,ho,hd⟩
  .exact .inl q
  .exact .inr ⟨k,c,hc,oc,cell_ok x c oc _ hc ho hd,hd⟩
 .obtain⟨v,oc,ho,hd⟩:=I.cell x c hx
  exact⟨v,oc,cell_ok x c oc v hx ho hd,hd⟩
 .obtain⟨e,n,ne,nf,d⟩:=I.pin p hp
  exact⟨L.keep p.1 p.2 (nfs ne nf) (fun z=>(hS p.1 z).2.2.1 p hp rfl) e,n,ne,nf,d⟩
 .refine(I.hok b u e).stay (fun c v hc q=>?_) (fun _ q=>q) fun _ _ q=>q
  have tr:∃u',H c=some u':=by
   rcases hc with z|z
   .exact⟨u,by rw[z];exact e⟩
   .exact⟨_,z⟩
  obtain⟨u',hu⟩:=tr
  refine L.keep c v (fun hb=>?_) (fun hb=>?_) q
  .rw[I.stkFree c hb]at hu;cases hu
  .rw[(hS c hb).1]at hu;cases hu
def CX1 (P:Program) (w:World) (mg:Str->Option Value):CXT:=fun outer H s E e s'=>∃(ea T Ca:Addr) (nm:Str) (H':Hp),e=.ref ea/\mg nm=some (.ref Ca)/\s'.os=s.os/\AllBare s'.gens/\Un (frs outer) [] H H' s.heap s'.heap/\HOk P w H' s'.heap/\
 y3' s'.heap ea (.ref Ca) T/\H' ea=none/\H' T=none/\s.heap.get? ea=none/\s.heap.get? T=none/\E (.str nm 0) none H'
end
def bmV:List Value:=[.type "ValueError",.type "Exception",.type "BaseException",.type "object"]
section
variable {X:Cx}
end
section
variable {X:Cx} {pins:List (Addr×Obj)} {σ:St} {H:Hp} {s:Shared} {D:Ends} {hs:List ExceptHandler}
def Cx.inX (X:Cx) (e:Addr):Cx:={ X with A:=X.A.mark (some (.ref e)),calm:=false,xe:=fun _ _=>False }
def sX' (e Ca:Addr) (h:Heap):Prop:=∃o vs,h.get? e=some o/\o.cls=.ref Ca/\o.data=.fields vs
def Ai' (e Ca:Addr):HO:=.ext (sX' e Ca)
end
end L2
namespace L2
open PySem PySem.Spec PyProof.Rows PySem.W
structure XCls (K:Frag) (C:Addr):Prop where
 ga:findIn K (.ref C) "__getattribute__"=some (some (.builtin "BaseException.__getattribute__"))
 gt:findIn K (.ref C) "__getattr__"=some none
 cl:findIn K (.ref C) "__class__"=some (some (.builtin "object.__class__"))
 be:subIn K (.ref C) (.type "BaseException")=some true
 ob:subIn K (.ref C) (.type "object")=some true
 is:(clsIn K C).isSome=true
section
variable {prog:Program} {w:World} {A:Around} {E:Value->Shared->Prop} {K:Frag} {h:Heap} {g:Array GenState} {d:Drawn} {t:Nat} {os:OsState} {a C:Addr} {o:Obj}
end
end L2
namespace L2
open PySem PySem.Spec PyProof.Rows PySem.W
section
variable {X:Cx}
end
def y4':Option Int->Value->Bool
 |some k,v=>Value.isInt k v
 |none,.none=>true
 |none,_=>false
theorem aW':∀{k:Option Int} {v:Value},y4' k v=true->(∃i t,k=some i/\v=Value.int i t)\/(k=none/\v=Value.none)
 |some i,v,h=>by
  obtain⟨t,e⟩:=Value.isInt_shape (k:=i) (v:=v) h
  exact .inl ⟨i,t,rfl,e⟩
 |none,v,h=>by cases v<;>first|exact .inr ⟨rfl,rfl⟩|cases h
def okH:Option Int->Int
 |some k=>hashInt k
 |none=>0xFCA86420
def iL' (prog:Program) (w:World):PySem.KeyKind prog w (Option Int) where
 is:=y4'
 hash:=okH
 inj:=fun v a b ha hb=>by
  rcases aW' ha with⟨i,t,rfl,rfl⟩|⟨rfl,rfl⟩
  .rcases aW' hb with⟨j,u,rfl,e⟩|⟨rfl,e⟩
   .injection e with e1 _;rw[e1]
   .exact nomatch e
  .rcases aW' hb with⟨j,u,rfl,e⟩|⟨rfl,e⟩
   .exact nomatch e
   .rfl
 byValue:=fun k v h=>by
  rcases aW' h with⟨i,t,rfl,rfl⟩|⟨rfl,rfl⟩<;>rfl
 pyHash:=fun hv h=>by
  rcases aW' hv with⟨i,t,rfl,rfl⟩|⟨rfl,rfl⟩
  .exact wpAny_pyHash_int h
  .exact cc' h
 eqBool:=fun {A E s a b u v Q} hu hv h=>by
  rcases aW' hu with⟨i,t,rfl,rfl⟩|⟨rfl,rfl⟩
  .rcases aW' hv with⟨j,u,rfl,rfl⟩|⟨rfl,rfl⟩
   .have e:decide ((some i:Option Int)=some j)=(i == j):=by
     by_cases q:i=j
     .subst q;simp
     .rw[decide_eq_false (fun z=>q (Option.some.inj z)),(beq_eq_false_iff_ne.mpr q)]
    rw[e]at h
    exact wpAny_eqBool_int h
   .exact SeqAt.EqAt.int_none i t _ _ _ _ h
  .rcases aW' hv with⟨j,u,rfl,rfl⟩|⟨rfl,rfl⟩
   .exact SeqAt.EqAt.none_int j u _ _ _ _ h
   .exact SeqAt.EqAt.same .none _ _ _ _ h
 «strs»:=fun k x t v h=>by
  rcases aW' h with⟨i,u,rfl,e⟩|⟨rfl,e⟩<;>exact nomatch e
def dO' {α:Type} (own:List Nat) (wi:TI) (g:TG) (tc:TT) (au':TL α) (a0:α) (ho:Addr->α->HO) (ok:α->Hp->Prop):TE:=fun σ H Q=>wi σ H fun J H1=>aY' own g tc au' J σ a0 H1 fun xs H2=>ok xs H2/\∀p,H2 p=none->Q (.ref p) (upd H2 p (ho p xs))
structure CompInG {α:Type} (Is:α->Obj->Prop) (X:Cx) (e:Expr) (scope:Scope) (tg:Expr) (iter:Expr) (ifs:List Expr) (nx:Addr->Env->Sem Unit) (g:TG) (tc:TT) (au':TL α) (own:List Nat):Prop where
 sc:CompSc X scope
 ow:∀i x,X.N[i]?=some x->(scope.names.lookup x=some .local\/scope.names.lookup x=some .cell)->i∈own
 cl:∃gs,clausesOf e=⟨tg,iter,ifs,0⟩ :: gs
 fs:∀x,foldedSetIterable iter X.env x=pure x
 calm:X.calm=true
 q:∀it D env,(Code.compLoop e 0 it (.ref D) env).quiet=true/\(Code.compStart e 0 it (.ref D) env).quiet=true
 u:∀A it D env,Around.under A (Code.compLoop e 0 it (.ref D) env)=A/\Around.under A (Code.compStart e 0 it (.ref D) env)=A
 T:∀P w it D env,(model P w).den (.compLoop e 0 it (.ref D) env)=(aV' e 0 tg iter ifs (nx D env) it (.ref D) env).onRaise (fun x=>do noteFrame x env;theTreesLotGoes x)
 S:∀P w it D env,(model P w).den (.compStart e 0 it (.ref D) env)=(compStart e 0 it (.ref D) env).onRaise (fun x=>do noteFrame x env;standAt theWindowsPlace)
 ge:rM' own g
 inn:∀s0 H0 ex D,PG (X.comp scope s0 H0 ex) tg g/\PTs (X.comp scope s0 H0 ex) ifs tc/\∃ws',(∀j∈ws',j∈own)/\bR' (X.comp scope s0 H0 ex) D Is ws' (nx D (X.comp scope s0 H0 ex).env) au'
section
variable {X:Cx} {e:Expr} {scope:Scope} {tg iter:Expr} {ifs:List Expr} {nx:Addr->Env->Sem Unit} {g:TG} {tc:TT} {α:Type} {Is:α->Obj->Prop} {au':TL α} {own:List Nat} {wi:TI} {a0:α} {o0:Bool->Obj} {newAcc:Sem Value} {ho:Addr->α->HO} {ok:α->Hp->Prop}
theorem fP' (hnew:∀(s:Shared) (Q:Value->Shared->Prop),(∀led,Q (.ref s.heap.objs.size) { s with heap:=s.heap.push (o0 led) })->wpAny (model X.prog X.w) X.A newAcc Q X.xe s) (hfr:∀led,(o0 led).isFreed=false) (ha0:∀led,Is a0 (o0 led)) (hda:∀(a:α) (o:Obj),Is a o->∀v:Option Value,o.data≠.cell v) (C:CompInG Is X e scope tg iter ifs nx g tc au' own) (hi:PI X tg iter wi) {pins:List (Addr×Obj)} {s:Shared} {σ:St} {H:Hp} {R:V->Hp->Prop} (I:Inv X pins σ H s) (hw:dO' own wi g tc au' a0 ho ok σ H R)
  {use:Option (Value->Sem Unit)} {Q:Value->Shared->Prop} {pos:Pos}
  (fin:∀(s3 s':Shared) (H0 H':Hp) (ex:List Addr) (D:Addr) (xs:α) (o:Obj) (σ':St),Inv X pins σ H0 s3->(∀b∈ex,cM' X pins H0 b)->Inv (X.comp scope s3 H0 ex) [] σ' H' s'->s'.heap.get? D=some o->D<s3.heap.objs.size->X.s₀.heap.objs.size<=D->cM' X pins H0 D->(D == sysModules)=false->Is xs o->H' D=none->ok xs H'->R (.ref D) (upd H' D (ho D xs))->
   compPost (model X.prog X.w) X.A X.xe use Q (.ref D) s3.heap.objs.size (.ok .next) s'):
  wpAny (model X.prog X.w) X.A (comprehension e scope X.env pos newAcc false (eval iter X.env) use) Q X.xe s:=by
 obtain⟨gs,hcl⟩:=C.cl
 refine wpAny_comprehension_free hcl C.fs (jM' fun n hn=>I.ok.has n (C.sc.free n hn)) C.sc.kind C.sc.names ?_
 refine thn (hi pins s σ H _ I hw) fun v s1 h1=>thn h1 fun itv s2 h2=>?_
 obtain⟨it,fp,tn,J,H2,rfl,I2,T,st2,f2,hc⟩:=h2
 refine hnew _ _ fun led=>cS' ?_
 have keep:∀b o,s2.heap.get? b=some o->(s2.heap.push (o0 led)).get? b=some o:=fun b o e=>ab _ e
 have I3:Inv X pins σ H2 { s2 with heap:=s2.heap.push (o0 led) }:=I2.kept (t':=s2.toks) keep
 have hsz:(s2.heap.push (o0 led)).objs.size=s2.heap.objs.size+1:=aW ..
 have fD:cM' X pins H2 s2.heap.objs.size:=I2.fpOk (ah _) (I2.hok.fresh (ah _))
 have hlt:∀b∈fp,b<s2.heap.objs.size:=fun b hb=>by
  obtain⟨o,e,_⟩:=T.obj _ _ st2 b hb
  exact al e
 have hDf:s2.heap.objs.size∉fp:=fun z=>aZ _ (hlt _ z)
 have hex:∀b∈s2.heap.objs.size :: fp,cM' X pins H2 b:=fun b hb=>by
  rcases ak.mp hb with rfl|hb
  .exact fD
  .exact f2 b hb
 generalize hs3:({ s2 with heap:=s2.heap.push (o0 led) }:Shared)=s3 at *
 have hs3s:s3.heap.objs.size=s2.heap.objs.size+1:=by rw[<- hs3];exact hsz
 have hlt3:∀b∈s2.heap.objs.size :: fp,b<s3.heap.objs.size:=fun b hb=>by
  rw[hs3s]
  rcases ak.mp hb with rfl|hb
  .exact Nat.lt_succ_self _
  .exact bF (hlt b hb)
 have J0:=eE' (own:=own) I3 hex hlt3 C.sc C.ow
 obtain⟨c1,c2,ws',c4,c5⟩:=C.inn s3 H2 (s2.heap.objs.size :: fp) s2.heap.objs.size
 have kp:∀b o,s2.heap.get? b=some o->(aZ' s3.heap scope.names).get? b=some o:=fun b o e=>pushCells_keeps _ _ b o (ab _ (by rw[<- hs3];exact keep b o e))
 have oD:(aZ' s3.heap scope.names).get? s2.heap.objs.size=some (o0 led):=pushCells_keeps _ _ _ _ (ab _ (by rw[<- hs3];exact am _ (hfr led)))
 have stat:∀b∈s2.heap.objs.size :: fp,cM' (X.comp scope s3 H2 (s2.heap.objs.size :: fp)) [] H2 b:=fun b hb=>
  ⟨(hex b hb).1,(J0.ok.exf b hb).1,J0.ok.exfs b hb,.inl hb,(J0.ok.exf b hb).2,fun p hp=>absurd (show p∈([]:List (Addr×Obj)) from hp) (by simp)⟩
 have T':Turn (X.comp scope s3 H2 (s2.heap.objs.size :: fp)).prog (X.comp scope s3 H2 (s2.heap.objs.size :: fp)).w (X.comp scope s3 H2 (s2.heap.objs.size :: fp)).K tg J fp it tn:=T
 have hc':aY' own g tc au' J (clr own σ) a0 H2 (fun xs H2=>ok xs H2/\∀p,H2 p=none->R (.ref p) (upd H2 p (ho p xs))):=by
  obtain⟨W,w0,turn⟩:=hc
  refine⟨W,w0,?_⟩
  rw[hL']
  exact turn
 have st3:tn 0 ({ s3 with heap:=aZ' s3.heap scope.names }:Shared).heap:=T.keep _ _ _ st2 fun b hb o e=>kp b o e
 have L:=dK' (X:=X.comp scope s3 H2 (s2.heap.objs.size :: fp)) (Is:=Is) (D:=s2.heap.objs.size) rfl C.calm (C.q _ _ _).1 (C.u _ _ _ _).1 (C.T _ _ _ _ _) T' c1 C.ge c2 c5 c4 hda hDf J0
  (fun b hb=>stat b (aw _ hb)) (stat _ ay) oD (ha0 led) st3 hc'
 have L2:=e8' (C.q _ _ _).2 (C.u _ _ _ _).2 (fun it'=>(C.q it' _ _).1) (C.S _ _ _ _ _) ⟨_,by rw[hcl];rfl,rfl⟩ L (fun E=>T.self _ 0 _ _ E st3 ⟨rfl,rfl⟩)
 refine codeAny_mono L2 fun r s' h=>?_
 obtain⟨rfl,xs,o',H',J',e',is',n',hN⟩:=h
 exact fin s3 s' H2 H' _ _ xs o' _ I3 hex J' e' (hlt3 _ ay) I2.sz fD (beq_eq_false_iff_ne.mpr (bn I2.big)) is' n' hN.1 (hN.2 _ n')
end
section
variable {X:Cx} {e:Expr} {scope:Scope} {tg iter:Expr} {ifs:List Expr} {nx:Addr->Env->Sem Unit} {g:TG} {tc:TT} {α:Type} {Is:α->Obj->Prop} {au':TL α} {own:List Nat} {wi:TI} {a0:α} {o0:Bool->Obj} {newAcc:Sem Value} {ho:Addr->α->HO} {ok:α->Hp->Prop}
theorem mz' (hnew:∀(s:Shared) (Q:Value->Shared->Prop),(∀led,Q (.ref s.heap.objs.size) { s with heap:=s.heap.push (o0 led) })->wpAny (model X.prog X.w) X.A newAcc Q X.xe s) (hfr:∀led,(o0 led).isFreed=false) (ha0:∀led,Is a0 (o0 led)) (hda:∀(a:α) (o:Obj),Is a o->∀v:Option Value,o.data≠.cell v)
  (hfin:∀(a:α) (o:Obj) (D:Addr) (H:Hp) (h:Heap),Is a o->h.get? D=some o->(D == sysModules)=false->H D=none->ok a H->HOk X.prog X.w H h->av' X.prog X.w (upd H D (ho D a)) h D (ho D a)) (C:CompInG Is X e scope tg iter ifs nx g tc au' own) (hi:PI X tg iter wi) {pos:Pos} (he:eval e X.env=comprehension e scope X.env pos newAcc false (eval iter X.env)):PE X e (dO' own wi g tc au' a0 ho ok):=by
 intro pins s σ H Q I hw
 rw[he]
 refine fP' hnew hfr ha0 hda C hi I hw fun s3 s' H0 H' ex D xs o σ' I3 hex J e' hlt h0 fD sy is' n' hok' hR=>?_
 obtain⟨m,hn,_⟩:=J.loc
 refine⟨m,hn,fun h' hs=>?_⟩
 have J2:=dq' I3 hex J hs
 have neC:D≠s3.heap.objs.size:=ax hlt
 refine⟨.ref D,upd H' D (ho D xs),J2.track (o:=ho D xs) ⟨n',fD.2⟩ h0 (hfin xs o D H' _ is' ((hs.2 D neC).trans e') sy n' hok' J2.hok),rfl,hR⟩
theorem gH' (hnew:∀(s:Shared) (Q:Value->Shared->Prop),(∀led,Q (.ref s.heap.objs.size) { s with heap:=s.heap.push (o0 led) })->wpAny (model X.prog X.w) X.A newAcc Q X.xe s) (hfr:∀led,(o0 led).isFreed=false) (ha0:∀led,Is a0 (o0 led)) (hda:∀(a:α) (o:Obj),Is a o->∀v:Option Value,o.data≠.cell v)
  (hfin:∀(a:α) (o:Obj) (D:Addr) (H:Hp) (h:Heap),Is a o->h.get? D=some o->(D == sysModules)=false->H D=none->ok a H->HOk X.prog X.w H h->av' X.prog X.w (upd H D (ho D a)) h D (ho D a)) (C:CompInG Is X e scope tg iter ifs nx g tc au' own) (hi:PI X tg iter wi) {i:Nat} {y:Str} {py pos pos2:Pos} (hN:X.N.Nodup) (hy:X.N[i]?=some y) (hx:Loc X.env.scope y) (hf:X.fn y=true\/X.env.scope.names.lookup y=some .local)
  (he:evalThenUse e X.env (assign (.Name y py) X.env)=(do let _ <- comprehension e scope X.env pos2 newAcc false (eval iter X.env) (some (assign (.Name y py) X.env))))
  (hsw:swapsWith e (some (.Name y py)) pos.line X.env=pure true):PS X (.Assign [.Name y py] e pos) (jh' (dO' own wi g tc au' a0 ho ok) (cO' i)):=by
 intro pins s σ H D I hw
 rw[exec_Assign_Name_used _ _ _ _ hsw]
 refine aa (bT (aa ?_))
 rw[he]
 refine aa (thn (Q:=fun _ s'=>SP X pins D .next s') (fP' hnew hfr ha0 hda C hi I hw fun s3 s' H0 H' ex D' xs o σ' I3 hex J e' hlt h0 fD sy is' n' hok' hR=>?_) fun _ s' q=>ae (ae q))
 obtain⟨m,hn,_⟩:=J.loc
 have J2:Inv X pins σ H' s':=dq' I3 hex J (Heap.SameBut.refl ..)
 have neC:D'≠s3.heap.objs.size:=ax hlt
 have J3:Inv X pins σ (upd H' D' (ho D' xs)) s':=J2.track ⟨n',fD.2⟩ h0 (hfin xs o D' H' _ is' e' sy n' hok' J2.hok)
 have fC:cM' X pins H0 s3.heap.objs.size:=I3.fpOk (ah _) (I3.hok.fresh (ah _))
 refine wpAny_assign_Name (dz' J3 hN hy hx (v:=.ref D') rfl (fun s'' J4 hs=>?_) hf)
 obtain⟨a,hsa,ha⟩:=hs
 have haC:s3.heap.objs.size≠a:=by
  rcases ha with rfl|ha
  .exact fC.2.1
  .exact fun q=>fC.2.2.2.2.1 _ _ ha q.symm
 have hn':s'.heap.Ns s3.heap.objs.size m:=hn
 refine⟨m,hn'.sameBut hsa haC,fun h' hs'=>?_⟩
 have J5:Inv X pins (σ.set i (some (.ref D'))) (upd H' D' (ho D' xs)) { s'' with heap:=h' }:=J4.turned (it:=s3.heap.objs.size) (t':=s''.toks) (fun b ob hb q=>(hs'.2 b hb).trans q) (by rw[ad' (Ne.symm neC)];exact J.free) fC.2.1 fC.2.2.2.1 fC.2.2.2.2.1 fC.2.2.2.2.2
 exact⟨_,_,J5,hR⟩
end
def kO:Option Int->V
 |some i=>.int i
 |none=>.non
theorem iM' {P:Program} {w:World} {k:Option Int} {u:Value} (r:ay' (kO k) u):(iL' P w).is k u=true/\u.scannable=true:=by
 cases k with
 |none=>cases r;exact⟨rfl,rfl⟩
 |some i=>
  obtain⟨t,rfl⟩:=r
  exact⟨by show Value.isInt i (.int i t)=true;simp[Value.isInt],rfl⟩
def IsS (a:(Option Int->Bool)×Nat) (o:Obj):Prop:=a.2<=4000/\(∃es ep t,o.data=.set es ep t)/\∃m,m<=a.2/\∀(P:Program) (w:World),o.SetObjOf (iL' P w) a.1 m
theorem on' {P:Program} {w:World} {S:Option Int->Bool} {n m:Nat} {o:Obj} (h:o.SetObjOf (iL' P w) S m) (hm:m<=n) (hn:n<=4000):IsS (S,n) o:=⟨hn,⟨_,_,_,h.2.choose_spec.choose_spec.choose_spec.1⟩,m,hm,fun P' w'=>h.transport (knd':=iL' P' w') rfl rfl⟩
theorem fb' (a:(Option Int->Bool)×Nat) (o:Obj) (h:IsS a o) (v:Option Value):o.data≠.cell v:=by
 obtain⟨_,⟨es,ep,t,hd⟩,_⟩:=h
 rw[hd]
 exact fun z=>nomatch z
def eF' (D:Addr) (S:Option Int->Bool) (n:Nat):HO:=.ext fun h=>∃o,h.get? D=some o/\IsS (S,n) o
theorem j0' {P:Program} {w:World} {H:Hp} {h:Heap} {D:Addr} {S:Option Int->Bool} {n:Nat} {o:Obj} (e:h.get? D=some o) (i:IsS (S,n) o):av' P w H h D (eF' D S n):=
 ⟨⟨o,e,i⟩,⟨o,e⟩,fun h1 h2 ⟨o',e',i'⟩ k=>⟨o',k o' e',i'⟩⟩
section
variable {X:Cx}
theorem j1' {s:Shared} {D:Addr} {a:(Option Int->Bool)×Nat} {o:Obj} (e:s.heap.get? D=some o) (i:IsS a o):∃m,m<=a.2/\s.heap.SetOf (iL' X.prog X.w) D a.1 m:=by
 obtain⟨hn,_,m,hm,h⟩:=i
 exact⟨m,hm,(h X.prog X.w).setOf e (cx (aM hm hn) (by decide))⟩
def wn' (neg:Bool):R2:=fun x y H Q=>∃k D S n,x=kO k/\y=.ref D/\H D=some (eF' D S n)/\Q (.bl (if neg then !(S k)else S k)) H
theorem sY':OpR X (compareOp .In) (wn' false):=by
 intro pins s σ H x y v u Q I rx ry h
 obtain⟨k,D,S,n,rfl,rfl,hD,q⟩:=h
 cases ry
 obtain⟨o,e,i⟩:=(show av' X.prog X.w H s.heap D (eF' D S n) from I.hok D _ hD).1
 obtain⟨m,_,hS⟩:=j1' (X:=X) e i
 exact wpAny_inSet_of (iM' rx).1 (iM' (P:=X.prog) (w:=X.w) rx).2 hS ⟨.bl (S k),H,I.tok _,rfl,q⟩
theorem j2':OpR X (compareOp .NotIn) (wn' true):=by
 intro pins s σ H x y v u Q I rx ry h
 obtain⟨k,D,S,n,rfl,rfl,hD,q⟩:=h
 cases ry
 obtain⟨o,e,i⟩:=(show av' X.prog X.w H s.heap D (eF' D S n) from I.hok D _ hD).1
 obtain⟨m,_,hS⟩:=j1' (X:=X) e i
 exact wpAny_notInSet_of (iM' rx).1 (iM' (P:=X.prog) (w:=X.w) rx).2 hS ⟨.bl (!S k),H,I.tok _,rfl,q⟩
def inL (ns:List Int):Option Int->Bool
 |some i=>ns.contains i
 |none=>false
def oo' (K:W.Frag):List V->Hp->VK->Prop:=fun xs H Q=>∃a ns,xs=[.ref a]/\SqL K H a (ns.map V.int)/\ns.length<=3999/\∀p,H p=none->Q (.ref p) (upd H p (eF' p (inL ns) ns.length))
theorem j3' (hc:X.calm=true):aP' X (.type "set") (oo' X.K):=by
 intro pins s σ H xs us Q I rv h
 obtain⟨a,ns,rfl,hs,hl,q⟩:=h
 cases rv with
 |cons r1 rv=>
  cases rv
  cases r1
  obtain⟨its,r,pl,hz⟩:=I.list hs
  have hlen:=r.length
  rw[af]at hlen
  refine call_set_list (I.ok.hd hc) pl.isList (eD' r) (by rw[ao,<- hlen];exact cx (Nat.succ_le_succ hl) (by decide)) fun h' tk hS hk=>?_
  have hn:H s.heap.objs.size=none:=I.hok.fresh (ah _)
  obtain⟨o,ho,hso⟩:=hS.objOf
  have fl:=firstMet_length_le (fun i=>ns.getD i 0) its.toArray.size
  have key:o.SetObjOf (iL' X.prog X.w) (inL ns) (firstMet (fun i=>ns.getD i 0) its.toArray.size).length:=by
   obtain⟨hex,es,ep,t,hd,hel,hmem,hsz,hf⟩:=hso
   refine⟨hex,es,ep,t,hd,fun e he=>?_,fun k=>?_,hsz,hf⟩
   .obtain⟨⟨j,hj,hh⟩,hsc⟩:=hel e he
    exact⟨⟨some j,hj,hh⟩,hsc⟩
   .cases k with
    |none=>
     constructor
     .intro z;cases z
     .rintro⟨e,he,hi⟩
      obtain⟨⟨j,hj,hh⟩,hsc⟩:=hel e he
      obtain⟨t',et⟩:=Value.isInt_shape hj
      rw[et]at hi
      cases hi
    |some i=>
     have:=hmem i
     dsimp only at this
     rw[firstMet_any]at this
     refine Iff.trans ?_ this
     show ns.contains i=true↔_
     have en:(aF its.toArray.size).map (fun i=>ns.getD i 0)=ns:=by
      rw[ao,<- hlen]
      apply bE
      intro j
      rw[au]
      by_cases hj:j<ns.length
      .rw[cq hj]
       simp[List.getD,hj]
      .rw[aR.mpr (by simpa using hj),aR.mpr (by omega)]
       rfl
     rw[en,List.contains_eq_any_beq]
     constructor
     .intro z
      rw[bQ]at z ⊢
      obtain⟨x,hx,e⟩:=z
      exact⟨x,hx,by rw[beq_iff_eq]at e ⊢;exact e.symm⟩
     .intro z
      rw[bQ]at z ⊢
      obtain⟨x,hx,e⟩:=z
      exact⟨x,hx,by rw[beq_iff_eq]at e ⊢;exact e.symm⟩
  refine⟨.ref s.heap.objs.size,_,I.laid (t':=tk) (fun b o hb=>hk b o (al hb) hb) (ah _) (o:=eF' s.heap.objs.size (inL ns) ns.length) (j0' ho (on' key (aM fl (by rw[ao,hlen];exact ah _)) (by omega))),rfl,q _ hn⟩
def fQ' (te:TE):TL ((Option Int->Bool)×Nat):=fun σ a H N=>te σ H fun v H'=>∃k,v=kO k/\a.2<4000/\N (fun j=>a.1 j || decide (j=k),a.2+1) H'
theorem j4' {D:Addr} {elt:Expr} {te:TE} (hxe:X.xe=fun _ _=>False) (he:PE X elt te):bR' X D IsS [] (do let v <- eval elt X.env;standAt elt.pos;let _ <- call (.builtin "set.add") [.ref D,v]) (fQ' te):=by
 intro pins s σ H a o N I hD ho hi hq
 have I1:Inv X (pins++bx' [D] s.heap) σ H s:=I.pinned (fun b hb=>by
  have e:b=D:=by simpa using hb
  subst e
  exact hD) (fun b hb=>by
  have e:b=D:=by simpa using hb
  subst e
  exact⟨o,ho,fb' _ _ hi⟩)
 have h1:=he _ s σ H _ I1 hq
 rw[hxe]at h1
 refine aa (thn h1 fun u s1 ⟨v,H1,J1,r1,k,ek,z1,n1⟩=>?_)
 subst ek
 have q1:=J1.pin (D,o) (aj _ (aj _ (aE' (by simp) ho)))
 obtain⟨m,hm,hS⟩:=j1' (X:=X) q1.1 hi
 refine aa (bT (aa (call_set_add (iM' r1).1 (iM' (P:=X.prog) (w:=X.w) r1).2 hS (cx (Nat.succ_le_of_lt (cx hm z1)) (by decide)) fun h' hs hS'=>?_)))
 obtain⟨_,f1,f2,f3,f4,f5⟩:=hD
 obtain⟨o',ho',hso⟩:=hS'.objOf
 have J2:Inv X pins σ H1 { s1 with heap:=h',toks:=s1.toks+1 }:=J1.unpinned.turned (it:=D) (t':=s1.toks+1) (fun b o hb e=>(hs.2 b hb).trans e) q1.2.1 f1 f3 f4 f5
 exact ae ⟨σ,_,o',H1,J2,Ext.refl,ho',on' hso (by split<;>omega) (by omega),q1.2.1,n1⟩
theorem pX' {A:Around} {E:Value->Shared->Prop} (s:Shared) (Q:Value->Shared->Prop) (h:∀led,Q (.ref s.heap.objs.size) { s with heap:=s.heap.push { cls:=.type "set",dict:=none,data:=.set #[] 0 (.fresh 0 0 led) } }):wpAny (model X.prog X.w) A (newSet (.type "set")) Q E s:=by
 unfold newSet setsByText
 refine aa (aa (wpAny_askSetting (ae ?_)))
 exact bc (h _)
theorem mA' (led:Bool):IsS (fun _=>false,0) { cls:=.type "set",dict:=none,data:=.set #[] 0 (.fresh 0 0 led) }:=⟨aO _,⟨_,_,_,rfl⟩,0,ah _,fun _ _=>setObjOf_fresh led⟩
end
abbrev NH:Int:=0xFCA86420
section
variable {prog:Program} {w:World} {A:Around} {E:Value->Shared->Prop} {s:Shared}
theorem fR' {d:Addr} {o:Obj} {es:Array DictEntry} {ep:Nat} {Q:Option Nat->Shared->Prop} (ho:s.heap.get? d=some o) (hd:o.data=.dict es ep) (hno:∀e∈es.toList,e.hash≠NH) (h:Q none s):
  wpAny (model prog w) A (dictFind d .none NH) Q E s:=by
 have hp:placesWithHash es.size (fun i=>es[i]?.map (·.hash)) NH=[]:=by
  unfold placesWithHash
  rw[List.filter_eq_nil_iff]
  intro i hi hc
  dsimp only at hc
  cases he:es[i]? with
  |none=>rw[he]at hc;cases hc
  |some e=>
   rw[he]at hc
   have hm:e∈es.toList:=cJ.mpr (Array.mem_of_getElem? he)
   exact hno e hm (by simpa using hc)
 unfold dictFind
 try with_reducible refine aE ?_
 refine aa (bO ho hd ?_)
 dsimp only
 rw[hp]
 rw[if_pos (show((Value.none :: ([]:List Nat).filterMap (fun i=>es[i]?.map (·.key))).all carriedByValue)=true by rfl)]
 unfold dictWalkPlain
 simp only[cK,pure_bind,bind_pure]
 exact ae h
theorem ei' {d:Addr} (hd:(d == sysModules)=false):
  MeetsIn prog w (Builtin.«dict.get» ⟨[.ref d,.none],[]⟩) (fun _ R s=>∃o es ep,s.heap.get? d=some o/\o.data=.dict es ep/\(∀e∈es.toList,e.hash≠NH)/\R (.ok (.ret .none)) { s with toks:=s.toks+1 }):=
 .of_wp fun A R s ⟨o,es,ep,h1,h2,h3,h⟩=>by
  show wpAny _ _ (dictGet d .none >>= _) _ _ s
  refine aa ?_
  unfold dictGet
  try with_reducible refine aE ?_
  refine aa (cc' (aa (fR' (s:={ s with toks:=s.toks+1 }) h1 h2 h3 (ae ?_))))
  show wpAny _ _ (Builtin.Dict.missed d .none >>= _) _ _ _
  exact aa (wpAny_missed_other hd (ae ⟨.none,rfl,h⟩))
end
theorem fS' {P:Program} {w:World} {k:Key}:∀{es:List DictEntry} {vs:List (Key×Value)} {en:DictEntry},Pairs (ai' P w) es vs->en∈es->(ai' P w).is k en.key=true->k∈vs.map (·.1)
 |_,_,_,.nil,h,_=>by cases h
 |_,_,en,.cons (e:=e) (kv:=kv) h1 h2 r,h,hk=>by
  rcases ak.mp h with rfl|h
  .rw[(ai' P w).inj _ _ _ hk h1]
   exact ay
  .exact aw _ (fS' r h hk)
theorem a1' {α β:Type} {F:α->β->Prop}:∀{xs:List α} {ys:List β} {y:β},Paired F xs ys->y∈ys->∃x∈xs,F x y
 |_,_,_,.nil,h=>by cases h
 |_,_,y,.cons h1 r,h=>by
  rcases ak.mp h with rfl|h
  .exact⟨_,ay,h1⟩
  .obtain⟨x,hx,hf⟩:=a1' r h
   exact⟨x,aw _ hx,hf⟩
def NoN (H:Hp) (a:Addr):Prop:=(∃kvs,H a=some (.dK kvs)/\∀kv∈kvs,∃i:Int,kv.1=.inl i/\hashInt i≠NH)\/
 ∃kvs,H a=some (.dT kvs)/\∀kv∈kvs,∃is:List Int,kv.1=is.map Key.inl/\reduceHash (Builtin.Tuple.tupleHashOf (is.map hashInt))≠NH
theorem NoN.at {X:Cx} {pins:List (Addr×Obj)} {σ:St} {H:Hp} {s:Shared} {a:Addr} (I:Inv X pins σ H s) (h:NoN H a):(a == sysModules)=false/\s.TypeIs (.ref a) "dict"/\∃o es ep,s.heap.get? a=some o/\o.data=.dict es ep/\∀e∈es.toList,e.hash≠NH:=by
 rcases h with⟨kvs,e,hk⟩|⟨kvs,e,hk⟩
 .obtain⟨z,hd,vs,rel,dd⟩:=sD' I.hok e
  refine⟨hd,dd.typeIs,?_⟩
  obtain⟨o,es,ep,h1,_,h3,h4,h5,_⟩:=dd
  refine⟨o,es,ep,h1,h3,fun en hen=>?_⟩
  obtain⟨k,hk1,hk2⟩:=h4 en (cJ.mp hen)
  have hin:k∈kvs.map (·.1):=by
   rw[rel.keys]
   exact fS' h5 hen hk1
  obtain⟨kv,hkv,rfl⟩:=az.mp hin
  obtain⟨i,ei,hi⟩:=hk kv hkv
  rw[hk2,ei]
  exact hi
 .obtain⟨z,hd,xs,rel,dd⟩:=sE' I.hok e
  refine⟨hd,dd.typeIs,?_⟩
  obtain⟨o,es,ep,h1,_,h3,h4,_⟩:=dd
  refine⟨o,es,ep,h1,h3,fun en hen=>?_⟩
  rw[h4]at hen
  obtain⟨x,hx,rfl⟩:=az.mp hen
  obtain⟨kv,hkv,hp⟩:=a1' rel hx
  obtain⟨is,ei,hi⟩:=hk kv hkv
  show(tupleKind (ai' X.prog X.w)).hash x.1≠NH
  rw[<- hp.1,ei]
  show reduceHash (Builtin.Tuple.tupleHashOf ((is.map Key.inl).map (ai' X.prog X.w).hash))≠NH
  rw[bi]
  exact hi
theorem sZ' {X:Cx} {pins:List (Addr×Obj)} {σ:St} {H:Hp} {s:Shared} {a:Addr} {A:Around} {E:Value->Shared->Prop} {Q:Value->Shared->Prop} (I:Inv X pins σ H s) (g:NoN H a) (h:∀s',Inv X pins σ H s'->Q .none s'):
  wpAny (model X.prog X.w) A (call (.builtin "dict.get") [.ref a,.none]) Q E s:=by
 obtain⟨hd,ht,o,es,ep,h1,h2,h3⟩:=g.at I
 exact call_meetsIn PySem.F.slot_dict_get ht PySem.F.entry_dict_get (PySem.F.args_dict_get_2 _ _) (ei' hd) ⟨o,es,ep,h1,h2,h3,h _ (I.tok _)⟩
def s0' (P:Program) (w:World) (kvs:List (Key×V)) (o:Obj):Prop:=kvs.length<=sizeLine/\∃vs es ep,KV kvs vs/\o.ExactDict/\o.data=.dict es ep/\KeysOf (ai' P w) es/\Pairs (ai' P w) es.toList vs/\(vs.map (·.1)).Nodup
theorem fT' {P:Program} {w:World} (a:List (Key×V)) (o:Obj) (h:s0' P w a o) (v:Option Value):o.data≠.cell v:=by
 obtain⟨_,_,es,ep,_,_,hd,_⟩:=h
 rw[hd]
 exact fun z=>nomatch z
theorem hO' {X:Cx} {A:Around} {E:Value->Shared->Prop} (s:Shared) (Q:Value->Shared->Prop) (h:∀_led:Bool,Q (.ref s.heap.objs.size) { s with heap:=s.heap.push { cls:=.type "dict",dict:=none,data:=.dict #[] } }):wpAny (model X.prog X.w) A newDict Q E s:=bc (h true)
theorem j5' {P:Program} {w:World} (_led:Bool):s0' P w [] { cls:=.type "dict",dict:=none,data:=.dict #[] }:=
 ⟨aO _,[],#[],0,.nil,⟨rfl,rfl,rfl⟩,rfl,fun e he=>by simp at he,.nil,cc⟩
theorem s1' {P:Program} {w:World} (a:List (Key×V)) (o:Obj) (D:Addr) (H:Hp) (h:Heap) (i:s0' P w a o) (e:h.get? D=some o) (sy:(D == sysModules)=false) (_:H D=none) (_:True) (_:HOk P w H h):av' P w (upd H D (.dK a)) h D (.dK a):=by
 obtain⟨z,vs,es,ep,h1,h2,h3,h4,h5,h6⟩:=i
 exact⟨z,sy,vs,h1,o,es,ep,e,h2,h3,h4,h5,h6⟩
section
variable {X:Cx}
def hP' (tk tv:TE):TL (List (Key×V)):=fun σ a H N=>tk σ H fun y H1=>tv σ H1 fun v H2=>∃k,y=kV k/\a.length<sizeLine/\N (eg' a k v) H2
theorem j6' {D:Addr} {ke ve:Expr} {tk tv:TE} (hxe:X.xe=fun _ _=>False) (hk:PE X ke tk) (hv:PE X ve tv):bR' X D (s0' X.prog X.w) [] (do
   let kv <- eval ke X.env
   let vv <- holding [kv] (eval ve X.env)
   match Value.ref D with
   | .ref d=>do
    standAt { ke.pos with endLine:=ve.pos.endLine,endCol:=ve.pos.endCol }
    holding [kv,vv] (dictSet d kv vv)
   |_=>unsupported "internal:dictcomp") (hP' tk tv):=by
 intro pins s σ H a o N I hD ho hi hq
 have pinD:∀{s1:Shared} {pins1:List (Addr×Obj)} {H1:Hp},Inv X pins1 σ H1 s1->cM' X pins1 H1 D->s1.heap.get? D=some o->Inv X (pins1++bx' [D] s1.heap) σ H1 s1:=fun J f e=>J.pinned (fun b hb=>by
  have z:b=D:=by simpa using hb
  subst z
  exact f) (fun b hb=>by
  have z:b=D:=by simpa using hb
  subst z
  exact⟨o,e,fT' _ _ hi⟩)
 have h1:=hk _ s σ H _ (pinD I hD ho) hq
 rw[hxe]at h1
 refine aa (thn h1 fun u s1 ⟨y,H1,J1,r1,hq1⟩=>?_)
 have q1:=J1.pin (D,o) (aj _ (aj _ (aE' (by simp) ho)))
 have h2:=hv _ s1 σ H1 _ J1 hq1
 rw[hxe]at h2
 refine aa (aE (thn h2 fun u2 s2 ⟨v,H2,J2,r2,k,ek,z2,n2⟩=>?_))
 subst ek
 have q2:=J2.pin (D,o) (aj _ (aj _ (aE' (by simp) ho)))
 obtain⟨z,vs,es,ep,g1,g2,g3,g4,g5,g6⟩:=hi
 have dd:s2.heap.DictOf (ai' X.prog X.w) D vs:=⟨o,es,ep,q2.1,g2,g3,g4,g5,g6⟩
 refine aa (bT (aE (wpAny_dictSet_pairs (hsz:=by rw[<- g1.length];exact z) (iF' r1) dd fun h' dd' hs=>?_)))
 obtain⟨_,f1,f2,f3,f4,f5⟩:=hD
 obtain⟨o',es',ep',d1,d2,d3,d4,d5,d6⟩:=dd'
 have J3:Inv X pins σ H2 { s2 with heap:=h',toks:=s2.toks+1 }:=J2.unpinned.turned (it:=D) (t':=s2.toks+1) (fun b o hb e=>(hs.2 b hb).trans e) q2.2.1 f1 f3 f4 f5
 exact⟨σ,_,o',H2,J3,Ext.refl,d1,⟨aM (cz' a k v) z2,_,es',ep',g1.put k r2,d2,d3,d4,d5,d6⟩,q2.2.1,n2⟩
end
abbrev KTL:=List (List Key×Addr×V)
def s7' (P:Program) (w:World) (a:KTL) (o:Obj):Prop:=a.length<=sizeLine/\∃(xs:List (List Key×Addr×Value)) (es:Array DictEntry) (ep:Nat),Paired (fun(p:List Key×Addr×V) (q:List Key×Addr×Value)=>p.1=q.1/\p.2.1=q.2.1/\ay' p.2.2 q.2.2) a xs/\o.ExactDict/\o.data=.dict es ep/\es.toList=xs.map (entryOfKey (tupleKind (ai' P w)))/\(xs.map (·.1)).Nodup
theorem fU' {P:Program} {w:World} (a:KTL) (o:Obj) (h:s7' P w a o) (v:Option Value):o.data≠.cell v:=by
 obtain⟨_,_,es,ep,_,_,hd,_⟩:=h
 rw[hd]
 exact fun z=>nomatch z
theorem j7' {P:Program} {w:World} (_led:Bool):s7' P w [] { cls:=.type "dict",dict:=none,data:=.dict #[] }:=
 ⟨aO _,[],#[],0,.nil,⟨rfl,rfl,rfl⟩,rfl,rfl,cc⟩
def okT (a:KTL) (H:Hp):Prop:=∀x∈a,H x.2.1=some (.tup (x.1.map kV))
def plT (a:KTL):List (List Key×V):=a.map fun x=>(x.1,x.2.2)
theorem eG' {H:Hp}:∀{a:KTL} {xs:List (List Key×Addr×Value)},Paired (fun(p:List Key×Addr×V) (q:List Key×Addr×Value)=>p.1=q.1/\p.2.1=q.2.1/\ay' p.2.2 q.2.2) a xs->okT a H->Paired (fun(p:List Key×V) (q:List Key×Addr×Value)=>p.1=q.1/\H q.2.1=some (.tup (p.1.map kV))/\ay' p.2 q.2.2) (plT a) xs
 |_,_,.nil,_=>.nil
 |_,_,.cons h r,ok=>.cons ⟨h.1,by rw[<- h.2.1];exact ok _ ay,h.2.2⟩ (eG' r fun x hx=>ok x (aw _ hx))
theorem s9' {P:Program} {w:World} (a:KTL) (o:Obj) (D:Addr) (H:Hp) (h:Heap) (i:s7' P w a o) (e:h.get? D=some o) (sy:(D == sysModules)=false) (hD:H D=none) (ok:okT a H) (_:HOk P w H h):av' P w (upd H D (.dT (plT a))) h D (.dT (plT a)):=by
 obtain⟨z,xs,es,ep,h1,h2,h3,h4,h5⟩:=i
 refine⟨by unfold plT;rw[af];exact z,sy,xs,eG' h1 fun x hx=>?_,o,es,ep,e,h2,h3,h4,h5⟩
 rw[ad' (aj' (ok x hx) hD)]
 exact ok x hx
section
variable {X:Cx}
def hQ' (tk tv:TE):TL KTL:=fun σ a H N=>tk σ H fun y H1=>tv σ H1 fun v H2=>∃(k:List Key) (b:Addr),y=.ref b/\H2 b=some (.tup (k.map kV))/\okT a H2/\(∀x∈a,x.1≠k)/\a.length<sizeLine/\N (a++[(k,b,v)]) H2
theorem j8' {D:Addr} {ke ve:Expr} {tk tv:TE} (hu:X.A.units+1<cLine) (hxe:X.xe=fun _ _=>False) (hk:PE X ke tk) (hv:PE X ve tv):bR' X D (s7' X.prog X.w) [] (do
   let kv <- eval ke X.env
   let vv <- holding [kv] (eval ve X.env)
   match Value.ref D with
   | .ref d=>do
    standAt { ke.pos with endLine:=ve.pos.endLine,endCol:=ve.pos.endCol }
    holding [kv,vv] (dictSet d kv vv)
   |_=>unsupported "internal:dictcomp") (hQ' tk tv):=by
 intro pins s σ H a o N I hD ho hi hq
 have pinD:∀{s1:Shared} {pins1:List (Addr×Obj)} {H1:Hp},Inv X pins1 σ H1 s1->cM' X pins1 H1 D->s1.heap.get? D=some o->Inv X (pins1++bx' [D] s1.heap) σ H1 s1:=fun J f e=>J.pinned (fun b hb=>by
  have z:b=D:=by simpa using hb
  subst z
  exact f) (fun b hb=>by
  have z:b=D:=by simpa using hb
  subst z
  exact⟨o,e,fU' _ _ hi⟩)
 have h1:=hk _ s σ H _ (pinD I hD ho) hq
 rw[hxe]at h1
 refine aa (thn h1 fun u s1 ⟨y,H1,J1,r1,hq1⟩=>?_)
 have h2:=hv _ s1 σ H1 _ J1 hq1
 rw[hxe]at h2
 refine aa (aE (thn h2 fun u2 s2 ⟨v,H2,J2,r2,k,b,ek,eb,ok,nw,z2,n2⟩=>?_))
 subst ek
 cases(show u=Value.ref b from r1)
 have q2:=J2.pin (D,o) (aj _ (aj _ (aE' (by simp) ho)))
 obtain⟨z,xs,es,ep,g1,g2,g3,g4,g5⟩:=hi
 have hxl:=Paired.length g1
 have dd:s2.heap.DictOfH (tupleKind (ai' X.prog X.w)) D xs:=⟨o,es,ep,q2.1,g2,g3,g4,fun x hx=>by
  obtain⟨p,hp,e1,e2,_⟩:=a1' g1 hx
  rw[<- e1,<- e2]
  exact ce' J2.hok (ok p hp),g5⟩
 refine aa (bT (aE (wpAny_dictSet_heap (hsz:=by rw[<- hxl];exact z) (show X.A.units<cLine from Nat.lt_of_succ_lt hu) (ce' J2.hok eb) dd fun h' dd' hs=>?_)))
 obtain⟨_,f1,f2,f3,f4,f5⟩:=hD
 have hnew:∀x∈xs,x.1≠k:=fun x hx e=>by
  obtain⟨p,hp,e1,_⟩:=a1' g1 hx
  exact nw p hp (e1.trans e)
 rw[storedH_new (by unfold atKey;rw[List.find?_eq_none.mpr (fun x hx=>by simpa using hnew x hx)];rfl)]at dd'
 obtain⟨o',es',ep',d1,d2,d3,d4,d5,d6⟩:=dd'
 have J3:Inv X pins σ H2 { s2 with heap:=h',toks:=s2.toks+(tupleKind (ai' X.prog X.w)).draws k }:=J2.unpinned.turned (it:=D) (t':=s2.toks+(tupleKind (ai' X.prog X.w)).draws k) (fun b o hb e=>(hs.2 b hb).trans e) q2.2.1 f1 f3 f4 f5
 exact⟨σ,_,o',H2,J3,Ext.refl,d1,⟨by rw[aB];exact z2,_,es',ep',Paired.snoc g1 ⟨rfl,rfl,r2⟩,d2,d3,d4,d6⟩,q2.2.1,n2⟩
end
section
variable {prog:Program} {w:World} {A:Around} {E:Value->Shared->Prop} {s:Shared}
end
section
variable {X:Cx}
def xb':R2:=fun x y H Q=>∃a b kvs,x=.ref a/\y=.ref b/\Rd H a (.dT kvs)/\H b=some (.dK [])/\Q (.bl (!decide (kvs=[]))) H
end
end L2
namespace PySem
open Sem (wp)
namespace F
theorem fV':typeLookup (.type "list") "__getattr__"=pure none:=by rw[typeLookup_type,builtinLookup_eq_fast];kernel_rfl
theorem fW':typeLookup (.type "list") "keys"=pure none:=by rw[typeLookup_type,builtinLookup_eq_fast];kernel_rfl
theorem dP':isSubtype (.type "AttributeError") (.type "AttributeError")=pure true:=by rw[isSubtype_type];kernel_rfl
end F
section
variable {prog:Program} {w:World} {A:Around} {h:Heap} {g:Array GenState} {d:Drawn} {t:Nat} {os:OsState} {a:Addr}
theorem iN' {α:Type} {E:Value->Shared->Prop} {Q:α->Shared->Prop} {o:Value} {name msg:Str} (hh:A.handled=none) (hm:msg.length<=sizeLine)
  (hE:∀h' tk e,(∀b ob,h.get? b=some ob->h'.get? b=some ob)->(∃oe,h'.get? e=some oe/\oe.cls=.type "AttributeError")->h.objs.size<=h'.objs.size->t<=tk->E (.ref e) ⟨h',g,d,tk,os⟩):
  wpAny (model prog w) A (raiseAttrError o name msg) Q E ⟨h,g,d,t,os⟩:=by
 unfold raiseAttrError newExc
 have f1:=F.dP'
 repeat (any_goals (first|assumption|wp_step))
 simp only[raiseNew]
 refine aa (wpAny_handled ?_)
 rw[hh]
 refine aa (ae (wpAny_throw ?_))
 refine hE _ _ _ (fun b ob eb=>?_) ?_ ?_ (by omega)
 .have hb:=al eb
  refine(Heap.SameBut.update ..).extBut b ob (fun z=>?_) (ab _ (ab _ eb))
  rw[aW]at z
  exact ax (bF hb) z
 .exact⟨_,bv _ (am _ rfl) (Obj.isFreed_of_fields (Obj.data_mapFields rfl _)),(Obj.cls_mapFields ..).trans rfl⟩
 .rw[(Heap.SameBut.update ..).1,aW,aW]
  omega
theorem dQ' {tk:Tok} {E:Value->Shared->Prop} {items:Array Value} {ne:Nat} {sl:Array (Option Value)} {Q:Fin->Shared->Prop} (hx:h.get? a=some { cls:=.type "list",data:=.seq items ne,dict:=none,slots:=sl }) (hh:A.handled=none)
  (hE:∀h' tk e,(∀b ob,h.get? b=some ob->h'.get? b=some ob)->(∃oe,h'.get? e=some oe/\oe.cls=.type "AttributeError")->h.objs.size<=h'.objs.size->t<=tk->E (.ref e) ⟨h',g,d,tk,os⟩):
  wpAny (model prog w) A (Builtin.«object.__getattribute__» ⟨[.ref a,.str "keys" tk],[]⟩) Q E ⟨h,g,d,t,os⟩:=by
 have hT:(⟨h,g,d,t,os⟩:Shared).TypeIs (.ref a) "list":=⟨_,hx,rfl⟩
 have f4:=F.fW'
 repeat (any_goals (first|assumption|wp_step))
 exact iN' hh (by decide +kernel) hE
theorem ej' {tk:Tok} {items:Array Value} {ne:Nat} {sl:Array (Option Value)} {R:Result->Shared->Prop} (hx:h.get? a=some { cls:=.type "list",data:=.seq items ne,dict:=none,slots:=sl }) (hh:A.handled=none)
  (hE:∀h' tk e,(∀b ob,h.get? b=some ob->h'.get? b=some ob)->(∃oe,h'.get? e=some oe/\oe.cls=.type "AttributeError")->h.objs.size<=h'.objs.size->t<=tk->R (.error (.ref e)) ⟨h',g,d,tk,os⟩):
  codeAny (model prog w) A (.call (.builtin "list.__getattribute__") ⟨[.ref a,.str "keys" tk],[]⟩) R ⟨h,g,d,t,os⟩:=
 codeAny_call_builtin F.slot_list_getattribute.plain F.entry_list_ga (F.slot_list_getattribute.check _ _ _ _ _ _ _ _ (show(⟨h,g,d,t,os⟩:Shared).TypeIs (.ref a) "list" from⟨_,hx,rfl⟩) (F.args_list_getattribute_2 _ _) (dQ' hx hh hE))
theorem fX' {tk:Tok} {E:Value->Shared->Prop} {items:Array Value} {ne:Nat} {sl:Array (Option Value)} {Q:Value->Shared->Prop} (hx:h.get? a=some { cls:=.type "list",data:=.seq items ne,dict:=none,slots:=sl }) (hh:A.handled=none)
  (hE:∀h' tk e,(∀b ob,h.get? b=some ob->h'.get? b=some ob)->(∃oe,h'.get? e=some oe/\oe.cls=.type "AttributeError")->h.objs.size<=h'.objs.size->t<=tk->E (.ref e) ⟨h',g,d,tk,os⟩):
  wpAny (model prog w) A (getAttrBy (.ref a) (.str "keys" tk) false) Q E ⟨h,g,d,t,os⟩:=by
 have hT:(⟨h,g,d,t,os⟩:Shared).TypeIs (.ref a) "list":=⟨_,hx,rfl⟩
 have f2:=F.slot_list_getattribute.lookup
 have f3:=F.slot_list_getattribute.bind (.ref a)
 repeat (any_goals (first|assumption|wp_step))
 refine ej' hx hh fun h' tk' e k1 ⟨oe,he,hce⟩ k2 k3=>?_
 dsimp only
 unfold getattributeRaised
 have f5:=F.dP'
 have f6:=F.fV'
 have hTe:(⟨h',g,d,tk',os⟩:Shared).TypeIs (.ref e) "AttributeError":=⟨_,he,hce⟩
 refine aa (cM (T:="AttributeError") (b:=true) hTe f5 ?_)
 rw[if_pos rfl]
 repeat (any_goals (first|assumption|wp_step))
 exact hE h' tk' e k1 ⟨oe,he,hce⟩ k2 k3
theorem ek' {E:Value->Shared->Prop} {items:Array Value} {ne:Nat} {sl:Array (Option Value)} {Q:Option Value->Shared->Prop} (hx:h.get? a=some { cls:=.type "list",data:=.seq items ne,dict:=none,slots:=sl }) (hh:A.handled=none)
  (hQ:∀h' tk,(∀b ob,h.get? b=some ob->h'.get? b=some ob)->h.objs.size<=h'.objs.size->t<=tk->Q none ⟨h',g,d,tk,os⟩):
  wpAny (model prog w) A (getAttr? (.ref a) "keys") Q E ⟨h,g,d,t,os⟩:=by
 unfold getAttr? getAttrBy?
 refine aa (wpAny_mkText (s:=⟨h,g,d,t,os⟩) ?_)
 refine aa (cn (fX' hx hh fun h' tk' e k1 ⟨oe,he,hce⟩ k2 k3=>?_))
 have hTe:(⟨h',g,d,tk',os⟩:Shared).TypeIs (.ref e) "AttributeError":=⟨_,he,hce⟩
 dsimp only
 refine aa (cM (T:="AttributeError") (b:=true) hTe F.dP' ?_)
 rw[if_pos rfl]
 have k4:t+1<=tk':=k3
 exact ae (hQ h' tk' k1 k2 (by omega))
end
end PySem
namespace PySem
namespace F
theorem cw':plainId "dict.__new__"=true:=by decide +kernel
theorem el':entryFor table "dict.__new__"=some Builtin.«dict.__new__»:=entryFor_of_tree (by kernel_rfl)
theorem hT':mroOf (.type "dict")=pure [.type "dict",.type "object"]:=by first|rfl|kernel_rfl
theorem j9':Bind.madeBy (.type "dict")=pure (some "dict.__new__"):=by first|rfl|kernel_rfl
theorem cU':isSubtype (.type "dict") (.type "dict")=pure true:=by rw[isSubtype_type];kernel_rfl
theorem aH':TypeCalled "dict" "dict.__new__" "dict.__init__":=
 ⟨by decide +kernel,by decide +kernel,⟨_,_,hT'⟩,j9',by decide +kernel,cU',slot_dict_init⟩
theorem dR' (a:Value):checkTypeCall "dict" ⟨[a],[]⟩=pure ():=by kernel_rfl
theorem em' (a:Value):checkBuiltinCall "dict.__new__" ⟨[.type "dict",a],[]⟩=pure ():=by kernel_rfl
theorem ba':entryFor table "dict.update.loop"=some Builtin.«dict.update.loop»:=entryFor_of_tree (by kernel_rfl)
theorem aN':plainId "dict.update.loop"=true:=by decide +kernel
end F
end PySem
namespace L2
open PySem PySem.Spec PyProof.Rows
section
variable {prog:Program} {w:World} {A:Around} {R:Result->Shared->Prop} {I:Addr} {fp wr:List Addr} {G:Array GenState->Array GenState->Prop} {n:Nat} {St:Nat->Shared->Prop}
abbrev kT (prog:Program) (w:World):=tupleKind (ai' prog w)
def iO' (key:Nat->List Key) (ka:Nat->Addr) (xv:Nat->Value):Nat->List (List Key×Addr×Value)
 |0=>[]
 |i+1=>storedH (iO' key ka xv i) (key i) (ka i) (xv i)
def OkP (prog:Program) (w:World) (n:Nat) (ps:Nat->Addr) (key:Nat->List Key) (ka:Nat->Addr) (xv:Nat->Value) (h:Heap):Prop:=
 ∀i,i<n->IsTup h (ps i) #[.ref (ka i),xv i]/\(kT prog w).is h (key i) (ka i)
theorem OkP.at {ps:Nat->Addr} {key:Nat->List Key} {ka:Nat->Addr} {xv:Nat->Value} {h h':Heap} (x:OkP prog w n ps key ka xv h) (k:∀i,i<n->∀b,b=ps i\/b=ka i->∀o,h.get? b=some o->h'.get? b=some o):OkP prog w n ps key ka xv h':=fun i hi=>by
 obtain⟨⟨o,e,c,m,z⟩,⟨o2,its,m2,e2,r⟩⟩:=x i hi
 exact⟨⟨o,k i hi _ (.inl rfl) o e,c,m,z⟩,⟨o2,its,m2,k i hi _ (.inr rfl) o2 e2,r⟩⟩
theorem gI' {key:Nat->List Key} {ka:Nat->Addr} {xv:Nat->Value}:∀{i:Nat} {x:List Key×Addr×Value},x∈iO' key ka xv i->∃j,j<i/\x.1=key j/\x.2.1=ka j
 |0,x,h=>by cases h
 |i+1,x,h=>by
  have h:x∈storedH (iO' key ka xv i) (key i) (ka i) (xv i):=h
  cases hf:atKey (iO' key ka xv i) (key i)with
  |none=>
   rw[storedH_new hf]at h
   rcases aH.mp h with h|h
   .obtain⟨j,h1,h2⟩:=gI' h
    exact⟨j,by omega,h2⟩
   .cases aY.mp h
    exact⟨i,by omega,rfl,rfl⟩
  |some p=>
   rw[storedH_old hf]at h
   obtain⟨y,hy,rfl⟩:=az.mp h
   obtain⟨j,h1,h2,h3⟩:=gI' hy
   refine⟨j,by omega,?_⟩
   unfold putAt
   split
   .exact⟨h2,h3⟩
   .exact⟨h2,h3⟩
theorem gJ' {key:Nat->List Key} {ka:Nat->Addr} {xv:Nat->Value}:∀{i:Nat},(iO' key ka xv i).length<=i
 |0=>ah _
 |i+1=>by
  show(storedH (iO' key ka xv i) (key i) (ka i) (xv i)).length<=_
  have:=gJ' (key:=key) (ka:=ka) (xv:=xv) (i:=i)
  cases hf:atKey (iO' key ka xv i) (key i)with
  |none=>rw[storedH_new hf,aB];exact Nat.succ_le_succ this
  |some p=>rw[storedH_old hf,af];omega
def wo' (prog:Program) (w:World) (h:Heap) (d:Addr) (xs:List (List Key×Addr×Value)):Prop:=∃o es ep,h.get? d=some o/\o.ExactDict/\o.data=.dict es ep/\es.toList=xs.map (entryOfKey (kT prog w))/\(xs.map (·.1)).Nodup
theorem ka' {ps:Nat->Addr} {key:Nat->List Key} {ka:Nat->Addr} {xv:Nat->Value} (W:WalksS prog w A.in1 I fp wr G n (fun i v=>v=.ref (ps i)) St) (d:Addr) (hdf:d∉fp) (hu:A.in1.units<cLine)
  (hps:∀i,i<n->ps i∉d :: wr) (hka:∀i,i<n->ka i∉d :: wr) (hn:n<=sizeLine):
  ∀(k i:Nat) (s:Shared),n-i=k->i<=n->St i s->OkP prog w n ps key ka xv s.heap->wo' prog w s.heap d (iO' key ka xv i)->
   (∀s',Moved (d :: wr) G s s'->wo' prog w s'.heap d (iO' key ka xv n)->R (.ok (.ret .none)) s')->
   codeAny (model prog w) A (.builtin "dict.update.loop" ⟨[.ref d,.ref I,rawInt (i:Int),.none],[]⟩) R s:=by
 have hdw:d∉wr:=fun h=>hdf (W.sub _ h)
 have hsub:∀b∈wr,b∈d :: wr:=fun b hb=>aw _ hb
 intro k
 induction k with
 |zero=>
  intro i s hk hi hst hok hD hR
  have hin:i=n:=by omega
  subst hin
  refine codeAny_builtin F.ba' ?_
  rw[Around.under_plainId F.aN' _]
  show wpAny _ A.in1 (pyNext (.ref I) >>= _) _ _ s
  refine aa (W.done s _ _ hst fun s' hm=>?_)
  dsimp only
  unfold Builtin.Dict.addKeywords
  refine aa (ae ?_)
  refine ae (hR s' (hm.mono hsub) ?_)
  obtain⟨o,es,ep,h1,h2⟩:=hD
  exact⟨o,es,ep,hm.heap _ _ hdw h1,h2⟩
 |succ k ih=>
  intro i s hk hi hst hok hD hR
  have hlt:i<n:=by omega
  refine codeAny_builtin F.ba' ?_
  rw[Around.under_plainId F.aN' _]
  show wpAny _ A.in1 (pyNext (.ref I) >>= _) _ _ s
  refine aa (W.item i s _ _ hlt hst fun v s' hP hst' hm=>?_)
  subst hP
  dsimp only
  obtain⟨hti,hki⟩:=hok i hlt
  have hok':OkP prog w n ps key ka xv s'.heap:=hok.at fun j hj b hb o e=>hm.heap b o (fun z=>by
   rcases hb with rfl|rfl
   .exact hps j hj (hsub _ z)
   .exact hka j hj (hsub _ z)) e
  obtain⟨hti,hki⟩:=hok' i hlt
  obtain⟨ot,hot,hct,nt,hdt⟩:=hti
  have hTt:s'.TypeIs (.ref (ps i)) "tuple":=⟨ot,hot,hct⟩
  refine aa (aE ?_)
  refine aa (wpAny_tryCatch ?_)
  unfold Builtin.Dict.pairItems
  refine aa (wpAny_typeOf hTt ?_)
  rw[if_pos (by decide)]
  refine aa (bG hot hdt ?_)
  refine ae ?_
  show wpAny _ _ (holding [.ref (ka i),xv i] (dictSet d (.ref (ka i)) (xv i))) _ _ s'
  have hD':s'.heap.DictOfH (kT prog w) d (iO' key ka xv i):=by
   obtain⟨o,es,ep,h1,h2,h3,h4,h5⟩:=hD
   refine⟨o,es,ep,hm.heap _ _ hdw h1,h2,h3,h4,fun x hx=>?_,h5⟩
   obtain⟨j,hj,e1,e2⟩:=gI' hx
   rw[e1,e2]
   exact(hok' j (by omega)).2
  refine aE (wpAny_dictSet_heap (hsz:=aM gJ' (by omega)) hu hki hD' fun h' dd hs=>?_)
  have k':∀b o,b∉d :: wr->s'.heap.get? b=some o->h'.get? b=some o:=fun b o hb e=>(hs.2 b (fun z=>hb (by rw[z];exact ay))).trans e
  refine ae ⟨plainId_quiet F.aN' _,?_⟩
  rw[show rawInt ((i:Int)+1)=rawInt (((i+1:Nat)):Int) by rw[Int.natCast_add];rfl]
  refine ih (i+1) _ (by omega) hlt (W.frame _ s' _ _ hst' (bf _ _) fun b hb o e=>?_) (hok'.at fun j hj b hb o e=>k' b o (fun z=>?_) e) ?_ fun s'' hm'' hD''=>?_
  .exact(hs.2 b (fun h:b=d=>hdf (by rw[<- h];exact hb))).trans e
  .rcases hb with rfl|rfl
   .exact hps j hj z
   .exact hka j hj z
  .obtain⟨o,es,ep,h1,h2,h3,h4,_,h5⟩:=dd
   exact⟨o,es,ep,h1,h2,h3,h4,h5⟩
  .exact hR s'' (Moved.trans W.gtrans ((hm.mono hsub).then_heap (bf _ _) k') hm'') hD''
end
section
variable {prog:Program} {w:World} {A:Around} {E:Value->Shared->Prop} {s:Shared}
theorem dS' (a:Value) {Q₁:Value->Shared->Prop} (h:Q₁ (.ref s.heap.objs.size) { s with heap:=s.heap.push { cls:=.type "dict",data:=.dict #[] } }):
  codeAny (model prog w) A (.call (.builtin "dict.__new__") ⟨[.type "dict",a],[]⟩) (wants Q₁ E) s:=by
 refine codeAny_of_tree ?_
 show wpAny _ A.in1 (do checkBuiltinCall "dict.__new__" ⟨[.type "dict",a],[]⟩;again (.builtin "dict.__new__" ⟨[.type "dict",a],[]⟩)) _ _ s
 refine aa (wpAny_of_eq (F.em' a) (ae ⟨plainId_quiet F.cw' _,codeAny_builtin F.el' ?_⟩))
 rw[Around.under_plainId F.cw' _]
 unfold Builtin.«dict.__new__»
 have hsub:=F.cU'
 have hmro:=F.hT'
 obtain⟨hp,g,d,tk,os⟩:=s
 dsimp only
 wp_walk
 exact h
theorem iP' {I:Addr} {fp wr:List Addr} {G:Array GenState->Array GenState->Prop} {n:Nat} {P P':Nat->Value->Prop} {St:Nat->Shared->Prop} (W:WalksS prog w A I fp wr G n P St) (h:∀i v,i<n->P i v->P' i v):WalksS prog w A I fp wr G n P' St where
 sub:=W.sub
 grefl:=W.grefl
 gtrans:=W.gtrans
 frame:=W.frame
 item:=fun i s Q E hi st hQ=>W.item i s Q E hi st fun v s' hP=>hQ v s' (h i v hi hP)
 done:=W.done
 self:=W.self
set_option maxRecDepth 100000 in
set_option maxHeartbeats 3200000 in
theorem en' {l:Addr} {items:Array Value} {ps:Nat->Addr} {key:Nat->List Key} {ka:Nat->Addr} {xv:Nat->Value} {Q:Value->Shared->Prop}
  (hh:A.handled=none) (hu:A.units+64<cLine) (hl:PlainL s.heap l items) (hit:∀i,i<items.size->items[i]?=some (.ref (ps i))) (hok:OkP prog w items.size ps key ka xv s.heap) (hsz:items.size<=sizeLine)
  (h:∀(h':Heap) (tk:Nat),wo' prog w h' s.heap.objs.size (iO' key ka xv items.size)->(∀b o,s.heap.get? b=some o->h'.get? b=some o)->s.toks<=tk->Q (.ref s.heap.objs.size) { s with heap:=h',toks:=tk }):
  wpAny (model prog w) A (call (.type "dict") [.ref l]) Q E s:=by
 obtain⟨c,tl,hmro⟩:=F.aH'.mro
 have hmade:=F.aH'.made
 have hsub:=F.aH'.sub
 refine wpAny_call (codeAny_of_tree ?_)
 show wpAny _ _ (callAny (.type "dict") _) _ _ _
 refine ae ⟨Code.quiet_builtin _ (by decide +kernel),codeAny_builtin F.entry_type_call ?_⟩
 rw[Around.under_plain (weight_type_call_type "dict" [.ref l] []) rfl]
 have h1:=F.aH'.notType
 have h2:=F.aH'.canCreate
 have hct:=F.dR' (.ref l)
 repeat (any_goals (first|assumption|wp_step))
 refine codeAny_mono (dS' (.ref l) (E:=E) (Q₁:=fun obj s₁=>obj=.ref s.heap.objs.size/\s₁={ s with heap:=s.heap.push { cls:=.type "dict",data:=.dict #[] } }) ⟨rfl,rfl⟩) fun r s₁ hr=>?_
 cases r with
 |error e=>exact hr
 |ok fl=>
  cases fl with
  |ret obj=>
   obtain⟨rfl,rfl⟩:=hr
   have hS:(s.heap.push { cls:=.type "dict",data:=.dict #[] }).get? s.heap.objs.size=some { cls:=.type "dict",data:=.dict #[] }:=am _ rfl
   have hT:Shared.TypeIs { s with heap:=s.heap.push { cls:=.type "dict",data:=.dict #[] } } (.ref s.heap.objs.size) "dict":=⟨_,hS,rfl⟩
   have hli:=F.aH'.init.lookup
   have hbi:=F.aH'.init.bind (.ref s.heap.objs.size)
   repeat (any_goals (first|assumption|wp_step))
   refine codeAny_mono (codeAny_call_builtin (R:=wants (fun r s₂=>r=.none/\∃h' tk,s₂={ s with heap:=h',toks:=tk }/\wo' prog w h' s.heap.objs.size (iO' key ka xv items.size)/\(∀b o,s.heap.get? b=some o->h'.get? b=some o)/\s.toks<=tk) E) F.aH'.init.plain F.entry_dict_init (F.aH'.init.check _ _ _ _ _ _ _ _ hT (F.args_dict_init_2 _ _) ?_)) fun r₂ s₂ hr₂=>?_
   .obtain⟨⟨ocls,odict,odata,oslots⟩,nl,hol,hcl,hdl,hdd⟩:=hl
    simp only at hcl hdl hdd
    subst hcl;subst hdl;subst hdd
    have hol':(s.heap.push { cls:=.type "dict",data:=.dict #[] }).get? l=some { cls:=.type "list",dict:=none,data:=.seq items nl,slots:=oslots }:=ab _ hol
    have hTl:Shared.TypeIs { s with heap:=s.heap.push { cls:=.type "dict",data:=.dict #[] } } (.ref l) "list":=⟨_,hol',rfl⟩
    unfold Builtin.«dict.__init__» Builtin.Dict.selfAndRest Builtin.Dict.notOrdered Builtin.Dict.updateCommon Builtin.Dict.updateFrom
    generalize hGA:getAttr?=GA
    generalize hPI:pyIter=PI
    repeat (any_goals (first|assumption|wp_step))
    subst hGA
    have hh2:A.in1.in1.handled=none:=by simp[hh]
    refine ek' hol' hh2 fun h2 tk2 k2 z2 t2=>?_
    have hlS:l<s.heap.objs.size:=al hol
    rw[aW]at z2
    simp only[Option.isNone_none,if_true]
    refine aa (bV ?_)
    subst hPI
    have hl2:h2.IsList l items:=⟨_,k2 _ _ hol',rfl,nl,rfl⟩
    refine aa (cF (s:=⟨h2,s.gens,s.drawn,tk2,s.os⟩) hl2 ?_)
    refine ae ⟨Code.quiet_builtin _ (by decide +kernel),?_⟩
    have hneI:l≠h2.objs.size:=ax (ai hlS (by omega))
    have hDI:s.heap.objs.size≠h2.objs.size:=by omega
    have hDf:s.heap.objs.size∉[h2.objs.size,l]:=by
     simp only[ak,aY,aq,or_false,not_or]
     exact⟨hDI,bn hlS⟩
    have hok2:OkP prog w items.size ps key ka xv (h2.push { cls:=.type "list_iterator",data:=.fields #[.ref l,.int 0 0] }):=hok.at fun i hi b hb o e=>ab _ (k2 _ _ (ab _ e))
    have old:∀{b:Addr} {o:Obj},s.heap.get? b=some o->b∉[s.heap.objs.size,h2.objs.size]:=fun {b o} e=>by
     have:=al e
     simp only[ak,aY,aq,or_false,not_or]
     exact⟨ax this,ax (ai this (by omega))⟩
    have hh3:A.in1.in1.handled=none:=hh2
    refine ka' (G:=fun a b=>b=a) (fp:=[h2.objs.size,l]) (wr:=[h2.objs.size]) (n:=items.size) (ps:=ps) (key:=key) (ka:=ka) (xv:=xv) (St:=fun i s=>(Heap.IsListIter s.heap h2.objs.size l i)/\s.heap.IsList l items) ?W s.heap.objs.size hDf ?hu (fun i hi=>old (hok i hi).1.choose_spec.1) (fun i hi=>old (hok i hi).2.choose_spec.choose_spec.choose_spec.1) hsz (items.size-0) 0 _ (by omega) (aO _) ?hSt hok2 ?hD0 ?hR
    case W=>exact iP' ((Walks.list hh3 _ l hneI items).toS) fun i v hi hv=>(Option.some.inj ((hit i hi).symm.trans hv)).symm
    case hu=>simp[units_in1];omega
    case hSt=>exact⟨⟨_,am _ rfl,rfl,rfl⟩,hl2.push _⟩
    case hD0=>exact⟨_,#[],0,ab _ (k2 _ _ hS),⟨rfl,rfl,rfl⟩,rfl,rfl,cc⟩
    case hR=>
     intro s' hm hD'
     obtain⟨h',g',d',tk',os'⟩:=s'
     have eg:g'=s.gens:=hm.gens
     have ed:d'=s.drawn:=hm.drawn
     have eo:os'=s.os:=hm.os
     subst eg;subst ed;subst eo
     have htk:tk2<=tk':=hm.toks
     have ht2:s.toks<=tk2:=t2
     exact⟨rfl,h',tk',rfl,hD',fun b o e=>hm.heap b o (old e) (ab _ (k2 _ _ (ab _ e))),by omega⟩
   .cases r₂ with
    |error e=>exact hr₂
    |ok fl₂=>
     cases fl₂ with
     |ret r=>
      obtain⟨rfl,h',tk,rfl,hS',hk',htk⟩:=hr₂
      repeat (any_goals (first|assumption|wp_step))
      exact h _ _ hS' hk' htk
     |_=>exact hr₂.elim
  |_=>exact hr.elim
end
section
variable {X:Cx}
abbrev PL:=List (Addr×List Key×Addr×V)
def kb' (L:PL):List (List Key×V):=L.foldl (fun kvs x=>eg' kvs x.2.1 x.2.2.2) []
theorem fY' {L:PL} {x:Addr×List Key×Addr×V}:kb' (L++[x])=eg' (kb' L) x.2.1 x.2.2.2:=by unfold kb';rw[List.foldl_append];rfl
def xc' (K:W.Frag):List V->Hp->VK->Prop:=fun xs H Q=>∃(p:Addr) (L:PL),xs=[.ref p]/\SqL K H p (L.map fun x=>V.ref x.1)/\(∀x∈L,H x.1=some (.tup [.ref x.2.2.1,x.2.2.2])/\H x.2.2.1=some (.tup (x.2.1.map kV)))/\∀d,H d=none->Q (.ref d) (upd H d (.dT (kb' L)))
def ta':List V->Hp->VK->Prop:=fun xs H Q=>∃(p:Addr) (L:PL),xs=[.ref p]/\H p=some (.lst (L.map fun x=>V.ref x.1))/\(∀x∈L,H x.1=some (.tup [.ref x.2.2.1,x.2.2.2])/\H x.2.2.1=some (.tup (x.2.1.map kV)))/\∀d,H d=none->Q (.ref d) (upd H d (.dT (kb' L)))
theorem mB' (hc:X.calm=true) (hu:X.A.units+64<cLine):aP' X (.type "dict") (xc' X.K):=by
 intro pins s σ H xs us Q I rv h
 obtain⟨p,L,rfl,hs,hL,q⟩:=h
 cases rv with
 |cons r1 rv=>
  cases rv
  cases r1
  obtain⟨its,r,pl,hz⟩:=I.list hs
  have hlen:=r.length
  rw[af]at hlen hz
  have hn:H s.heap.objs.size=none:=I.hok.fresh (ah _)
  have hv:∀i,i<L.length->∃u:Value,ay' ((L[i]?.getD (0,[],0,.non)).2.2.2) u/\IsTup s.heap (L[i]?.getD (0,[],0,.non)).1 #[.ref (L[i]?.getD (0,[],0,.non)).2.2.1,u]:=fun i hi=>by
   have hx:L[i]?.getD (0,[],0,.non)=L[i]:=by rw[ac hi];rfl
   rw[hx]
   obtain⟨_,its2,r2,t2⟩:=(show av' X.prog X.w H s.heap _ (.tup [.ref L[i].2.2.1,L[i].2.2.2]) from I.hok _ _ (hL _ (cu hi)).1)
   cases r2 with
   |cons a1 r2=>
    cases r2 with
    |cons a2 r2=>
     cases r2
     cases a1
     exact⟨_,a2,t2.tup⟩
  let xv:Nat->Value:=fun i=>if h:i<L.length then(hv i h).choose else .none
  have hxv:∀i (h:i<L.length),xv i=(hv i h).choose:=fun i h=>by show(if h:i<L.length then _ else _)=_;rw[dif_pos h]
  have hsz:its.toArray.size=L.length:=by rw[ao,<- hlen]
  refine en' (ps:=fun i=>(L[i]?.getD (0,[],0,.non)).1) (key:=fun i=>(L[i]?.getD (0,[],0,.non)).2.1) (ka:=fun i=>(L[i]?.getD (0,[],0,.non)).2.2.1) (xv:=xv) (I.ok.hd hc) hu pl (fun i hi=>?_) (fun i hi=>?_) (by rw[hsz];exact hz) fun h' tk hD hk htk=>?_
  .rw[hsz]at hi
   have hx:L[i]?.getD (0,[],0,.non)=L[i]:=by rw[ac hi];rfl
   obtain⟨u,hu1,ru⟩:=r.get (i:=i) (x:=.ref L[i].1) (by rw[au,ac hi];rfl)
   cases ru
   rw[hx]
   simpa using hu1
  .rw[hsz]at hi
   have hx:L[i]?.getD (0,[],0,.non)=L[i]:=by rw[ac hi];rfl
   refine⟨by rw[hxv i hi];exact(hv i hi).choose_spec.2,?_⟩
   show(kT X.prog X.w).is s.heap (L[i]?.getD (0,[],0,.non)).2.1 (L[i]?.getD (0,[],0,.non)).2.2.1
   rw[hx]
   exact ce' I.hok (hL _ (cu hi)).2
  .rw[hsz]at hD
   have hpair:∀i,i<=L.length->KT H (kb' (L.take i)) (iO' (fun i=>(L[i]?.getD (0,[],0,.non)).2.1) (fun i=>(L[i]?.getD (0,[],0,.non)).2.2.1) xv i):=by
    intro i
    induction i with
    |zero=>intro _;exact .nil
    |succ i ih=>
     intro hi
     have hx:L[i]?.getD (0,[],0,.non)=L[i]:=by rw[ac (by omega)];rfl
     rw[bB,ac (show i<L.length by omega),Option.toList_some,fY']
     show KT H _ (storedH _ (L[i]?.getD (0,[],0,.non)).2.1 (L[i]?.getD (0,[],0,.non)).2.2.1 _)
     have rr:=(hv i (by omega)).choose_spec.1
     rw[<- hxv i (by omega),hx]at rr
     rw[hx]
     exact KT.put (ih (by omega)) _ (hL _ (cu (by omega))).2 rr
   have hp:=hpair L.length (ah _)
   rw[bj]at hp
   have hlp:(kb' L).length<=L.length:=by
    have:=Paired.length hp
    rw[this]
    exact gJ'
   obtain⟨o,es,ep,d1,d2,d3,d4,d5⟩:=hD
   refine⟨.ref s.heap.objs.size,_,I.laid (a:=s.heap.objs.size) (o:=.dT (kb' L)) (h':=h') (t':=tk) hk (ah _) ?_,rfl,q _ hn⟩
   have sy:(s.heap.objs.size == sysModules)=false:=by
    have:=I.big
    rw[beq_eq_false_iff_ne]
    exact bn this
   refine⟨aM hlp hz,sy,_,?_,o,es,ep,d1,d2,d3,d4,d5⟩
   exact KT.keeps hp fun b ys e=>by rw[ad' (aj' e hn)];exact e
theorem kc' (hc:X.calm=true) (hu:X.A.units+64<cLine):aP' X (.type "dict") ta':=fun pins s σ H xs us Q I rv ⟨p,L,e,hp,h⟩=>mB' hc hu pins s σ H xs us Q I rv ⟨p,L,e,.inl (.inl hp),h⟩
end
theorem ltG {α:Type} {l:List α} {i:Nat} {x:α} (h:l[i]?=some x):i<l.length:=(aG.mp h).1
section
variable {prog:Program} {w:World} {K:Type} [DecidableEq K] {knd:HeapKind prog w K} {A:Around} {E:Value->Shared->Prop} {s:Shared}
def oq' (knd:HeapKind prog w K):Option (K×Addr)->DictEntry
 |none=>⟨NH,.none,.bool true⟩
 |some (k,a)=>⟨knd.hash k,.ref a,.bool true⟩
structure MixO (knd:HeapKind prog w K) (h:Heap) (es:Array DictEntry) (ys:List (Option (K×Addr))):Prop where
 its:es.toList=ys.map (oq' knd)
 is:∀k b,some (k,b)∈ys->knd.is h k b
 ne:∀k b,some (k,b)∈ys->knd.hash k≠NH
 nd:(ys.map (aQ Prod.fst)).Nodup
theorem MixO.get {h:Heap} {es:Array DictEntry} {ys:List (Option (K×Addr))} (m:MixO knd h es ys) (j:Nat):es[j]?=ys[j]?.map (oq' knd):=by
 rw[<- Array.getElem?_toList,m.its,au]
theorem MixO.one {h:Heap} {es:Array DictEntry} {ys:List (Option (K×Addr))} (m:MixO knd h es ys) {i j:Nat} {x y:Option (K×Addr)} (hi:ys[i]?=some x) (hj:ys[j]?=some y) (e:x.map Prod.fst=y.map Prod.fst):i=j:=by
 have li:=ltG hi
 have lj:=ltG hj
 rw[ac li]at hi
 rw[ac lj]at hj
 cases hi
 cases hj
 have key:∀a b:Nat,∀(ha:a<ys.length) (hb:b<ys.length),a<b->ys[a].map Prod.fst≠ys[b].map Prod.fst:=fun a b ha hb hab=>by
  have:=aX.mp m.nd a b (by rw[af];exact ha) (by rw[af];exact hb) hab
  rw[List.getElem_map,List.getElem_map]at this
  exact this
 rcases Nat.lt_trichotomy i j with z|z|z
 .exact absurd e (key i j li lj z)
 .exact z
 .exact absurd e.symm (key j i lj li z)
theorem hU' {d a:Addr} {o:Obj} {es:Array DictEntry} {ep:Nat} {ys:List (Option (K×Addr))} {k:K} {Q:Option Nat->Shared->Prop} (hu:knd.room A) (hkey:knd.is s.heap k a) (hne:knd.hash k≠NH)
  (ho:s.heap.get? d=some o) (hd:o.data=.dict es ep) (m:MixO knd s.heap es ys) (hnone:(∀(j:Nat) b,ys[j]?≠some (some (k,b)))->Q none s) (hsome:∀(j:Nat) b,ys[j]?=some (some (k,b))->Q (some j) s):
  wpAny (model prog w) A (dictFind d (.ref a) (knd.hash k)) Q E s:=by
 have at_:∀i:Nat,(es[i]?.map (·.hash))=some (knd.hash k)->∃k' b,ys[i]?=some (some (k',b)):=fun i hi=>by
  rw[m.get i]at hi
  cases e:ys[i]? with
  |none=>rw[e]at hi;cases hi
  |some x=>
   cases x with
   |none=>rw[e]at hi;exact absurd (Option.some.inj hi).symm hne
   |some q=>exact⟨q.1,q.2,rfl⟩
 have mem_:∀i:Nat,i∈placesWithHash es.size (fun i=>es[i]?.map (·.hash)) (knd.hash k)->(es[i]?.map (·.hash))=some (knd.hash k):=fun i hi=>by
  have:=(br.mp hi).2
  simpa using this
 have in_:∀(j:Nat) b,ys[j]?=some (some (k,b))->j∈placesWithHash es.size (fun i=>es[i]?.map (·.hash)) (knd.hash k):=fun j b hj=>by
  refine br.mpr ⟨aJ.mpr ?_,?_⟩
  .have:=ltG hj
   have e:es.size=ys.length:=by rw[<- aA,m.its,af]
   omega
  .show(es[j]?.map (·.hash) == some (knd.hash k))=true
   rw[m.get j,hj]
   simp[oq']
 have hany:¬(es.any fun e=>e.key == Value.ref a&&e.hash != knd.hash k)=true:=by
  rw[<- Array.any_toList,bQ]
  rintro⟨e,hin,hc⟩
  rw[m.its]at hin
  obtain⟨x,hx,rfl⟩:=az.mp hin
  cases x with
  |none=>
   have h1:=(Bool.and_eq_true_iff.mp hc).1
   exact absurd (eq_of_beq h1) (fun z=>nomatch z)
  |some q=>
   have h1:=eq_of_beq (Bool.and_eq_true_iff.mp hc).1
   have h2:=(Bool.and_eq_true_iff.mp hc).2
   have ea:q.2=a:=Value.ref.inj h1
   have hi:=m.is q.1 q.2 hx
   rw[ea]at hi
   have hk:=knd.inj hi hkey
   have:(knd.hash q.1 != knd.hash k)=true:=h2
   rw[hk]at this
   simp at this
 have hst:∀v∈(placesWithHash es.size (fun i=>es[i]?.map (·.hash)) (knd.hash k)).filterMap (fun i=>es[i]?.map (·.key)),∃k' b,v=.ref b/\knd.is s.heap k' b:=by
  intro v hv
  obtain⟨i,hi,hv⟩:=List.mem_filterMap.mp hv
  obtain⟨k',b,hq⟩:=at_ i (mem_ i hi)
  rw[m.get i,hq]at hv
  exact⟨k',b,(Option.some.inj hv).symm,m.is k' b (av hq)⟩
 unfold dictFind
 try with_reducible refine aE ?_
 refine aa (bO ho hd ?_)
 dsimp only
 rw[if_neg (show ¬((Value.ref a :: (placesWithHash es.size (fun i=>es[i]?.map (·.hash)) (knd.hash k)).filterMap (fun i=>es[i]?.map (·.key))).all carriedByValue)=true by simp[carriedByValue])]
 rw[if_neg hany]
 by_cases hone:(((placesWithHash es.size (fun i=>es[i]?.map (·.hash)) (knd.hash k)).filterMap (fun i=>es[i]?.map (·.key))) == [Value.ref a])=true<;>
 (first|rw[if_pos hone]|rw[if_neg hone])<;>(first|refine aa (ae ?_)|refine aa (wpAny_tableMayTell_quiet hkey hst ?_))<;>(
  rw[if_neg (by simp)]
  refine aa ?_
  refine wpAny_forIn_list _ (fun au' b s'=>s'=s/\∃hit,b=(none,hit)/\au'.Nodup/\(∀i∈au',(es[i]?.map (·.hash))=some (knd.hash k))/\(∀j b,ys[j]?=some (some (k,b))->j∈au'\/hit=some j)/\∀j,hit=some j->j∉au'/\∃b,ys[j]?=some (some (k,b))) _ ?_ ?_ _ _
   ⟨rfl,none,rfl,List.Pairwise.filter _ List.nodup_range,mem_,fun j b hj=>.inl (in_ j b hj),fun j z=>nomatch z⟩
  .rintro x au' b s' ⟨rfl,hit,rfl,hnd,hr,hall,hh⟩
   obtain⟨hxr,hnd⟩:=bu.mp hnd
   obtain⟨k',b,hq⟩:=at_ x (hr x ay)
   have hib:=m.is k' b (av hq)
   have hex:es[x]?=some ⟨knd.hash k',.ref b,.bool true⟩:=by rw[m.get x,hq];rfl
   have hhk:(knd.hash k' == knd.hash k)=true:=by
    have:=hr x ay
    rw[hex]at this
    simpa using this
   have hr':=fun i hi=>hr i (aw _ hi)
   rw[hex]
   dsimp only
   rw[if_pos hhk]
   refine aa (cj ho hd (aa (knd.eqBool (x:=k') (y:=k) hu hib hkey (aa (cj ho hd ?_)))))
   show wpAny _ _ (if(ep != ep)=true then _ else _) _ E _
   rw[if_neg (by simp)]
   by_cases hkk:k'=k
   .rw[decide_eq_true hkk]
    subst hkk
    have h0:hit=none:=by
     cases hit with
     |none=>rfl
     |some j=>
      obtain⟨z,b',hj⟩:=hh j rfl
      have:=m.one hj hq rfl
      subst this
      exact absurd ay z
    subst h0
    first|rw[if_pos rfl]|skip
    simp only[Option.isSome_none,aP,if_false]
    first|refine aa (ae ?_)|skip
    refine aa (bV ?_)
    split
    .exact ae (ae (hsome x b hq))
    .refine ae ⟨rfl,some x,rfl,hnd,hr',fun j b' hj=>.inr (by rw[m.one hj hq rfl]),fun j hj=>?_⟩
     cases hj
     exact⟨hxr,b,hq⟩
   .rw[decide_eq_false hkk]
    simp only[aP,if_false]
    refine aa (bV ?_)
    have stay:∀j b',ys[j]?=some (some (k,b'))->j∈au'\/hit=some j:=fun j b' hj=>by
     rcases hall j b' hj with z|z
     .rcases ak.mp z with z|z
      .subst z
       rw[hq]at hj
       cases hj
       exact absurd rfl hkk
      .exact .inl z
     .exact .inr z
    have stay2:∀j,hit=some j->j∉au'/\∃b,ys[j]?=some (some (k,b)):=fun j hj=>⟨fun z=>(hh j hj).1 (aw _ z),(hh j hj).2⟩
    first|rw[if_neg (by simp)]|skip
    first
     |exact ae ⟨rfl,hit,rfl,hnd,hr',stay,stay2⟩
     |exact aa (ae (ae ⟨rfl,hit,rfl,hnd,hr',stay,stay2⟩))
  .rintro b s' ⟨rfl,hit,rfl,_,_,hall,hh⟩
   cases hit with
   |none=>
    refine ae (hnone fun j b hj=>?_)
    rcases hall j b hj with z|z
    .exact aq z
    .cases z
   |some j=>
    obtain⟨_,b,hj⟩:=hh j rfl
    exact ae (hsome j b hj))
theorem gK' {Q:Bool->Shared->Prop} (h:Q true s):wpAny (model prog w) A (eqBool .none .none) Q E s:=by
 unfold eqBool
 refine aE ?_
 show wpAny _ _ (if(Value.none == Value.none)=true then _ else _) Q E s
 rw[if_pos (beq_self_eq_true _)]
 exact aa (bV (ae h))
theorem kd' {d:Addr} {o:Obj} {es:Array DictEntry} {ep:Nat} {ys:List (Option (K×Addr))} {Q:Option Nat->Shared->Prop}
  (ho:s.heap.get? d=some o) (hd:o.data=.dict es ep) (m:MixO knd s.heap es ys) (hnone:none∉ys->Q none s) (hsome:∀j:Nat,ys[j]?=some none->Q (some j) s):
  wpAny (model prog w) A (dictFind d .none NH) Q E s:=by
 have at_:∀i:Nat,(es[i]?.map (·.hash))=some NH->ys[i]?=some none:=fun i hi=>by
  rw[m.get i]at hi
  cases e:ys[i]? with
  |none=>rw[e]at hi;cases hi
  |some x=>
   cases x with
   |none=>rfl
   |some q=>rw[e]at hi;exact absurd (Option.some.inj hi) (m.ne q.1 q.2 (av e))
 have mem_:∀i:Nat,i∈placesWithHash es.size (fun i=>es[i]?.map (·.hash)) NH->(es[i]?.map (·.hash))=some NH:=fun i hi=>by
  have:=(br.mp hi).2
  simpa using this
 have in_:∀j:Nat,ys[j]?=some none->j∈placesWithHash es.size (fun i=>es[i]?.map (·.hash)) NH:=fun j hj=>by
  refine br.mpr ⟨aJ.mpr ?_,?_⟩
  .have:=ltG hj
   have e:es.size=ys.length:=by rw[<- aA,m.its,af]
   omega
  .show(es[j]?.map (·.hash) == some NH)=true
   rw[m.get j,hj]
   simp[oq']
 have hst:((Value.none :: (placesWithHash es.size (fun i=>es[i]?.map (·.hash)) NH).filterMap (fun i=>es[i]?.map (·.key))).all carriedByValue)=true:=by
  rw[bM]
  intro v hv
  rcases ak.mp hv with rfl|hv
  .rfl
  .obtain⟨i,hi,hv⟩:=List.mem_filterMap.mp hv
   rw[m.get i,at_ i (mem_ i hi)]at hv
   cases hv
   rfl
 unfold dictFind
 try with_reducible refine aE ?_
 refine aa (bO ho hd ?_)
 dsimp only
 rw[if_pos hst]
 unfold dictWalkPlain
 cases hp:placesWithHash es.size (fun i=>es[i]?.map (·.hash)) NH with
 |nil=>
  simp only[cK,pure_bind,bind_pure]
  refine ae (hnone fun z=>?_)
  obtain⟨j,hj⟩:=cg z
  have:=in_ j hj
  rw[hp]at this
  exact aq this
 |cons i au'=>
  have hi:i∈placesWithHash es.size (fun i=>es[i]?.map (·.hash)) NH:=by rw[hp];exact ay
  have hq:=at_ i (mem_ i hi)
  have hex:es[i]?=some ⟨NH,.none,.bool true⟩:=by rw[m.get i,hq];rfl
  refine aa ?_
  refine wpAny_forIn_list _ (fun au' b s'=>s'=s/\((b=(none,())/\∃r',au'=i :: r'))\/False) _ ?_ ?_ _ _ (.inl ⟨rfl,rfl,au',rfl⟩)
  .rintro x au' b s' (⟨rfl,rfl,r',e⟩|z)
   .cases e
    rw[hex]
    dsimp only
    rw[if_pos (by simp)]
    refine aa (cj ho hd (aa (gK' (aa (cj ho hd ?_)))))
    show wpAny _ _ (if(ep != ep)=true then _ else _) _ E _
    rw[if_neg (by simp)]
    rw[if_pos rfl]
    exact aa (bV (ae (ae (hsome i hq))))
   .exact z.elim
  .rintro b s' (⟨rfl,rfl,r',e⟩|z)
   .cases e
   .exact z.elim
def tb' (ys:List (Option (K×Addr))) (q:Option (K×Addr)):List (Option (K×Addr)):=if q.map Prod.fst∈ys.map (aQ Prod.fst)then ys else ys++[q]
theorem gL' {ys:List (Option (K×Addr))} {q:Option (K×Addr)} (h:q.map Prod.fst∈ys.map (aQ Prod.fst)):tb' ys q=ys:=if_pos h
theorem fc' {ys:List (Option (K×Addr))} {q:Option (K×Addr)} (h:¬q.map Prod.fst∈ys.map (aQ Prod.fst)):tb' ys q=ys++[q]:=if_neg h
theorem dT' {es:Array DictEntry} {l:List DictEntry} {j:Nat} (he:es.toList=l) (hj:∀e,l[j]?=some e->e.val=.bool true):(es.modify j fun e=>{ e with val:=.bool true }).toList=l:=by
 rw[Array.toList_modify,he]
 refine bE fun i=>?_
 rw[List.getElem?_modify]
 cases e:l[i]? with
 |none=>rfl
 |some x=>
  show some (if j=i then { x with val:=Value.bool true } else x)=some x
  by_cases h:j=i
  .subst h
   have:=hj x e
   rw[if_pos rfl,<- this]
  .rw[if_neg h]
theorem MixO.val {h:Heap} {es:Array DictEntry} {ys:List (Option (K×Addr))} (m:MixO knd h es ys) {j:Nat} {e:DictEntry} (he:(ys.map (oq' knd))[j]?=some e):e.val=.bool true:=by
 rw[au]at he
 cases x:ys[j]? with
 |none=>rw[x]at he;cases he
 |some q=>
  rw[x]at he
  cases q<;>cases he<;>rfl
theorem pY' {d a:Addr} {o:Obj} {es:Array DictEntry} {ep:Nat} {ys:List (Option (K×Addr))} {k:K} {Q:Unit->Shared->Prop} (hu:knd.room A) (hkey:knd.is s.heap k a) (hne:knd.hash k≠NH)
  (ho:s.heap.get? d=some o) (hc:o.ExactDict) (hd:o.data=.dict es ep) (m:MixO knd s.heap es ys) (hz:ys.length<=sizeLine)
  (hQ:∀h' o' es' ep',h'.get? d=some o'->o'.ExactDict->o'.data=.dict es' ep'->es'.toList=(tb' ys (some (k,a))).map (oq' knd)->bL d s.heap h'->Q () { s with heap:=h',toks:=s.toks+knd.draws k }):
  wpAny (model prog w) A (dictSet d (.ref a) (.bool true)) Q E s:=by
 have hsz:es.size<=sizeLine:=by rw[<- aA,m.its,af];exact hz
 unfold dictSet
 try with_reducible refine aE ?_
 refine aa (knd.pyHash hu hkey ?_)
 unfold dictSetHashed
 try with_reducible refine aE ?_
 refine aa (hU' (s:={ s with toks:=s.toks+knd.draws k }) hu hkey hne ho hd m (fun hno=>?_) fun j b hj=>?_)
 .refine aa (bV (wpAny_updateDictKeys (hz:=hsz) (s:={ s with toks:=s.toks+knd.draws k }) ho hd (hQ _ _ _ (ep+1) (bv _ ho (Obj.isFreed_of_dict (Obj.data_mapDictKeys hd _))) (hc.mapDictKeys _) (Obj.data_mapDictKeys hd _) ?_ (Heap.SameBut.update ..))))
  have hk:¬(some (k,a):Option (K×Addr)).map Prod.fst∈ys.map (aQ Prod.fst):=fun z=>by
   obtain⟨q,hq,e⟩:=az.mp z
   cases q with
   |none=>cases e
   |some q=>
    obtain⟨j,hj⟩:=cg hq
    have e:q.1=k:=Option.some.inj e
    exact hno j q.2 (by rw[hj,<- e])
  rw[fc' hk,bW,m.its,aK]
  rfl
 .refine aa (bV (aa (wpAny_updateDict (s:={ s with toks:=s.toks+knd.draws k }) ho hd (wpAny_point (hQ _ _ _ ep (bv _ ho (Obj.isFreed_of_dict (Obj.data_mapDict hd _))) (hc.mapDict _) (Obj.data_mapDict hd _) ?_ (Heap.SameBut.update ..))))))
  rw[gL' (q:=some (k,a)) (az.mpr ⟨some (k,b),av hj,rfl⟩)]
  exact dT' m.its fun e he=>m.val he
theorem mC' {d:Addr} {o:Obj} {es:Array DictEntry} {ep:Nat} {ys:List (Option (K×Addr))} {Q:Unit->Shared->Prop}
  (ho:s.heap.get? d=some o) (hc:o.ExactDict) (hd:o.data=.dict es ep) (m:MixO knd s.heap es ys) (hz:ys.length<=sizeLine)
  (hQ:∀h' o' es' ep',h'.get? d=some o'->o'.ExactDict->o'.data=.dict es' ep'->es'.toList=(tb' ys none).map (oq' knd)->bL d s.heap h'->Q () { s with heap:=h',toks:=s.toks+1 }):
  wpAny (model prog w) A (dictSet d .none (.bool true)) Q E s:=by
 have hsz:es.size<=sizeLine:=by rw[<- aA,m.its,af];exact hz
 unfold dictSet
 try with_reducible refine aE ?_
 refine aa (cc' ?_)
 unfold dictSetHashed
 try with_reducible refine aE ?_
 refine aa (kd' (s:={ s with toks:=s.toks+1 }) ho hd m (fun hno=>?_) fun j hj=>?_)
 .refine aa (bV (wpAny_updateDictKeys (hz:=hsz) (s:={ s with toks:=s.toks+1 }) ho hd (hQ _ _ _ (ep+1) (bv _ ho (Obj.isFreed_of_dict (Obj.data_mapDictKeys hd _))) (hc.mapDictKeys _) (Obj.data_mapDictKeys hd _) ?_ (Heap.SameBut.update ..))))
  have hk:¬(none:Option (K×Addr)).map Prod.fst∈ys.map (aQ Prod.fst):=fun z=>by
   obtain⟨q,hq,e⟩:=az.mp z
   cases q with
   |none=>exact hno hq
   |some q=>cases e
  rw[fc' hk,bW,m.its,aK]
  rfl
 .refine aa (bV (aa (wpAny_updateDict (s:={ s with toks:=s.toks+1 }) ho hd (wpAny_point (hQ _ _ _ ep (bv _ ho (Obj.isFreed_of_dict (Obj.data_mapDict hd _))) (hc.mapDict _) (Obj.data_mapDict hd _) ?_ (Heap.SameBut.update ..))))))
  rw[gL' (az.mpr ⟨none,av hj,rfl⟩)]
  exact dT' m.its fun e he=>m.val he
theorem pZ' {d a:Addr} {o:Obj} {es:Array DictEntry} {ep:Nat} {ys:List (Option (K×Addr))} {k:K} {Q:Option Value->Shared->Prop} (hu:knd.room A) (hkey:knd.is s.heap k a) (hne:knd.hash k≠NH)
  (ho:s.heap.get? d=some o) (hd:o.data=.dict es ep) (m:MixO knd s.heap es ys)
  (h:Q (if some k∈ys.map (aQ Prod.fst)then some (.bool true)else none) { s with toks:=s.toks+knd.draws k }):wpAny (model prog w) A (dictGet d (.ref a)) Q E s:=by
 unfold dictGet
 try with_reducible refine aE ?_
 refine aa (knd.pyHash hu hkey (aa (hU' (s:={ s with toks:=s.toks+knd.draws k }) hu hkey hne ho hd m (fun hno=>?_) fun j b hj=>?_)))
 .rw[if_neg]at h
  .exact ae h
  .intro z
   obtain⟨q,hq,e⟩:=az.mp z
   cases q with
   |none=>cases e
   |some q=>
    obtain⟨j,hj⟩:=cg hq
    have e:q.1=k:=Option.some.inj e
    exact hno j q.2 (by rw[hj,<- e])
 .rw[if_pos (show some k∈ys.map (aQ Prod.fst) from az.mpr ⟨some (k,b),av hj,rfl⟩)]at h
  refine aa (bO (s:={ s with toks:=s.toks+knd.draws k }) ho hd ?_)
  rw[m.get j,hj]
  exact ae h
end
abbrev NK:=Option (List Int×Addr)
def lkN:NK->Option (List Key×Addr):=aQ fun q=>(q.1.map Key.inl,q.2)
def hT (k:List Int):Int:=reduceHash (Builtin.Tuple.tupleHashOf (k.map hashInt))
def wp':NK->DictEntry
 |none=>⟨NH,.none,.bool true⟩
 |some q=>⟨hT q.1,.ref q.2,.bool true⟩
def IsN (L:List NK) (o:Obj):Prop:=L.length<=4000/\(∀q,some q∈L->hT q.1≠NH)/\(L.map (aQ Prod.fst)).Nodup/\∃es ep,o.ExactDict/\o.data=.dict es ep/\es.toList=L.map wp'
def cv' (D:Addr) (L:List NK):HO:=.ext fun h=>(D == sysModules)=false/\∃o,h.get? D=some o/\IsN L o
def fx' (H:Hp) (L:List NK):Prop:=∀q,some q∈L->H q.2=some (.tup (q.1.map V.int))
theorem gM' {P:Program} {w:World} {H:Hp} {h:Heap} {D:Addr} {L:List NK} {o:Obj} (hs:(D == sysModules)=false) (e:h.get? D=some o) (i:IsN L o):av' P w H h D (cv' D L):=
 ⟨⟨hs,o,e,i⟩,⟨o,e⟩,fun h1 h2 ⟨hs,o',e',i'⟩ k=>⟨hs,o',k o' e',i'⟩⟩
theorem dU' {k:List Int}:(k.map Key.inl).map kV=k.map V.int:=by rw[bi];rfl
theorem ke' {P:Program} {w:World} {k:List Int}:(tupleKind (ai' P w)).hash (k.map Key.inl)=hT k:=by
 show reduceHash (Builtin.Tuple.tupleHashOf ((k.map Key.inl).map (ai' P w).hash))=_
 rw[bi]
 rfl
theorem fe' {P:Program} {w:World} {L:List NK}:(L.map lkN).map (oq' (tupleKind (ai' P w)))=L.map wp':=by
 rw[bi]
 refine cr fun q _=>?_
 cases q with
 |none=>rfl
 |some q=>
  show DictEntry.mk ((tupleKind (ai' P w)).hash (q.1.map Key.inl)) _ _=DictEntry.mk (hT q.1) _ _
  rw[ke']
theorem gN' {q:NK}:(lkN q).map Prod.fst=(q.map Prod.fst).map fun k=>k.map Key.inl:=by cases q<;>rfl
theorem kf' {L:List NK}:(L.map lkN).map (aQ Prod.fst)=(L.map (aQ Prod.fst)).map (aQ fun k=>k.map Key.inl):=by
 rw[bi,bi]
 exact cr fun q _=>gN'
set_option tactic.hygienic true in
theorem hV' {o p:Option (List Int)} (h:o.map (fun k=>k.map Key.inl)=p.map (fun k=>k.map (Key.inl:Int->Key))):o=p:=by
 cases o<;>cases p
 .rfl
 .cases h
 .cases h
 .rename_i a b
  have h:a.map (Key.inl:Int->Key)=b.map Key.inl:=Option.some.inj h
  congr 1
  exact List.map_inj_right (fun x y z=>by injection z) |>.mp h
theorem ds' {L:List NK} {o:Option (List Int)}:o.map (fun k=>k.map (Key.inl:Int->Key))∈(L.map lkN).map (aQ Prod.fst)↔o∈L.map (aQ Prod.fst):=by
 rw[kf',az]
 exact⟨fun⟨p,hp,e⟩=>hV' e ▸ hp,fun h=>⟨o,h,rfl⟩⟩
def ec' (L:List NK) (q:NK):List NK:=if q.map Prod.fst∈L.map (aQ Prod.fst)then L else L++[q]
theorem kg' {L:List NK} {q:NK}:tb' (L.map lkN) (lkN q)=(ec' L q).map lkN:=by
 by_cases h:q.map Prod.fst∈L.map (aQ Prod.fst)
 .rw[gL' (by rw[gN'];exact ds'.mpr h)]
  unfold ec'
  rw[if_pos h]
 .rw[fc' (by rw[gN'];exact fun z=>h (ds'.mp z))]
  unfold ec'
  rw[if_neg h,aK]
  rfl
theorem mD' {α:Type} {l:List α} {a:α} (h:l.Nodup) (ha:a∉l):(l++[a]).Nodup:=by
 rw[cG]
 refine⟨h,by simp,fun x hx y hy=>?_⟩
 rw[aY.mp hy]
 exact fun e=>ha (e ▸ hx)
section
variable {X:Cx} {pins:List (Addr×Obj)} {σ:St} {H:Hp} {s:Shared} {A:Around} {E:Value->Shared->Prop}
theorem gO' {D:Addr} {L:List NK} (I:Inv X pins σ H s) (hD:H D=some (cv' D L)) (ht:fx' H L):(D == sysModules)=false/\L.length<=4000/\(∀q,some q∈L->hT q.1≠NH)/\(L.map (aQ Prod.fst)).Nodup/\∃o es ep,s.heap.get? D=some o/\o.ExactDict/\o.data=.dict es ep/\MixO (tupleKind (ai' X.prog X.w)) s.heap es (L.map lkN):=by
 obtain⟨hs,o,e,h4,hh,hn,es,ep,hex,hd,hes⟩:=(show av' X.prog X.w H s.heap D (cv' D L) from I.hok D _ hD).1
 refine⟨hs,h4,hh,hn,o,es,ep,e,hex,hd,hes.trans fe'.symm,fun k b hk=>?_,fun k b hk=>?_,?_⟩
 .obtain⟨q,hq,e⟩:=az.mp hk
  cases q with
  |none=>cases e
  |some q=>
   cases e
   exact ce' I.hok (by rw[dU'];exact ht q hq)
 .obtain⟨q,hq,e⟩:=az.mp hk
  cases q with
  |none=>cases e
  |some q=>
   cases e
   rw[ke']
   exact hh q hq
 .rw[kf']
  rw[List.nodup_iff_pairwise_ne,ck]
  exact hn.imp fun {a b} z e=>z (hV' e)
theorem kh' {D:Addr} {o:Obj} (e:s.heap.get? D=some o) (h:o.ExactDict):s.TypeIs (.ref D) "dict":=⟨o,e,h.1⟩
def tc' (H:Hp) (y:V) (q:NK):Prop:=(y=.non/\q=none)\/∃k b,y=.ref b/\q=some (k,b)/\H b=some (.tup (k.map V.int))/\hT k≠NH
theorem or' {L:List NK} {q:NK} {o':Obj} {es':Array DictEntry} {ep':Nat} (h4:L.length<4000) (hh:∀q,some q∈L->hT q.1≠NH) (hn:(L.map (aQ Prod.fst)).Nodup) (hq:∀r,q=some r->hT r.1≠NH) (hx:o'.ExactDict) (hd:o'.data=.dict es' ep')
  (hes:es'.toList=(ec' L q).map wp'):IsN (ec' L q) o':=by
 by_cases h:q.map Prod.fst∈L.map (aQ Prod.fst)
 .have e:ec' L q=L:=if_pos h
  rw[e]at hes ⊢
  exact⟨bK h4,hh,hn,es',ep',hx,hd,hes⟩
 .have e:ec' L q=L++[q]:=if_neg h
  rw[e]at hes ⊢
  refine⟨by rw[aB];exact h4,fun r hr=>?_,?_,es',ep',hx,hd,hes⟩
  .rcases aH.mp hr with hr|hr
   .exact hh r hr
   .exact hq r (aY.mp hr).symm
  .rw[aK]
   exact mD' hn h
theorem iQ' {D:Addr} {L:List NK} {y:V} {u:Value} {q:NK} {Q:Unit->Shared->Prop} (hu:A.units+1<cLine) (I:Inv X pins σ H s) (hD:H D=some (cv' D L)) (ht:fx' H L) (h4:L.length<4000) (hk:tc' H y q) (ry:ay' y u)
  (h:∀s',Inv X pins σ (upd H D (cv' D (ec' L q))) s'->Q () s'):wpAny (model X.prog X.w) A (setItem (.ref D) u (.bool true)) Q E s:=by
 obtain⟨hs,_,hh,hn,o,es,ep,ho,hex,hd,m⟩:=gO' I hD ht
 have hz:(L.map lkN).length<=sizeLine:=by rw[af];exact aM (bK h4) (by decide)
 have hT:=kh' ho hex
 unfold setItem
 try with_reducible refine aE ?_
 refine aa (wpAny_sequenceKey hT (by decide) ?_)
 refine aa (aN (name:=Str.ofString "__setitem__") hT F.slot_dict_setitem (aU F.slot_dict_setitem hT F.entry_dict_setitem ?_ (F.args_dict_setitem_3 _ _ _)))
 rcases hk with⟨rfl,rfl⟩|⟨k,b,rfl,rfl,hb,hne⟩
 .cases ry
  show wpAny _ _ (Builtin.Dict.notOrdered "__setitem__" ⟨[.ref D,.none,.bool true],[]⟩ >>= _) _ _ s
  refine aa (wpAny_notOrdered_dict hT ?_)
  show wpAny _ _ (dictSet D .none (.bool true) >>= _) _ _ s
  refine aa (mC' ho hex hd m hz fun h' o' es' ep' ho' hex' hd' hes' hs'=>ae ⟨.none,rfl,ae (h _ ?_)⟩)
  refine e6' (ob:=cv' D (ec' L none)) I (by rw[hD];exact True.intro) hs' ⟨o',ho'⟩ (gM' hs ho' (or' h4 hh hn (fun r e=>nomatch e) hex' hd' ?_))
  rw[hes',<- fe' (P:=X.prog) (w:=X.w),<- kg']
  rfl
 .cases(show u=Value.ref b from ry)
  show wpAny _ _ (Builtin.Dict.notOrdered "__setitem__" ⟨[.ref D,.ref b,.bool true],[]⟩ >>= _) _ _ s
  refine aa (wpAny_notOrdered_dict hT ?_)
  show wpAny _ _ (dictSet D (.ref b) (.bool true) >>= _) _ _ s
  refine aa (pY' (k:=k.map Key.inl) (tupleKind_room_in1 hu) (ce' I.hok (by rw[dU'];exact hb)) (by rw[ke'];exact hne) ho hex hd m hz fun h' o' es' ep' ho' hex' hd' hes' hs'=>ae ⟨.none,rfl,ae (h _ ?_)⟩)
  refine e6' (ob:=cv' D (ec' L (some (k,b)))) I (by rw[hD];exact True.intro) hs' ⟨o',ho'⟩ (gM' hs ho' (or' h4 hh hn (fun r e=>by cases e;exact hne) hex' hd' ?_))
  rw[hes',<- fe' (P:=X.prog) (w:=X.w),<- kg']
  rfl
theorem ot' {D b:Addr} {L:List NK} {k:List Int} {Q:Bool->Shared->Prop} (hu:A.units+1<cLine) (I:Inv X pins σ H s) (hD:H D=some (cv' D L)) (ht:fx' H L) (hb:H b=some (.tup (k.map V.int))) (hne:hT k≠NH)
  (h:∀s',Inv X pins σ H s'->Q (decide (some k∈L.map (aQ Prod.fst))) s'):wpAny (model X.prog X.w) A (contains (.ref D) (.ref b)) Q E s:=by
 obtain⟨hs,_,hh,hn,o,es,ep,ho,hex,hd,m⟩:=gO' I hD ht
 have hT:=kh' ho hex
 unfold contains
 try with_reducible refine aE ?_
 refine aa (wpAny_specialOf hT F.slot_dict_contains.lookup ?_)
 show wpAny _ _ (if(some (Value.builtin "dict.__contains__") == some Value.none)=true then _ else _) _ E s
 rw[if_neg (by rw[beq_builtin_none];exact ap)]
 refine aa (wpAny_callSpecialUnlessNone?_slot (name:=Str.ofString "__contains__") hT F.slot_dict_contains (aU F.slot_dict_contains hT F.entry_dict_contains ?_ (F.args_dict_contains_2 _ _)))
 show wpAny _ _ (dictGet D (.ref b) >>= _) _ _ s
 refine aa (pZ' (k:=k.map Key.inl) (tupleKind_room_in1 hu) (ce' I.hok (by rw[dU'];exact hb)) (by rw[ke'];exact hne) ho hd m ?_)
 by_cases hin:some k∈L.map (aQ Prod.fst)
 .rw[if_pos (show some (k.map Key.inl)∈_ from ds' (o:=some k) |>.mpr hin)]
  have h:=h _ (I.tok (s.toks+(tupleKind (ai' X.prog X.w)).draws (k.map Key.inl)))
  rw[decide_eq_true hin]at h
  show wpAny _ _ (ret (.bool true)) _ _ _
  exact ae ⟨_,rfl,bb h⟩
 .rw[if_neg (show ¬some (k.map Key.inl)∈_ from fun z=>hin (ds' (o:=some k) |>.mp z))]
  have h:=h _ (I.tok (s.toks+(tupleKind (ai' X.prog X.w)).draws (k.map Key.inl)))
  rw[decide_eq_false hin]at h
  show wpAny _ _ (Builtin.Dict.pendingKey? D (.ref b) >>= _) _ _ _
  exact aa (wpAny_pendingKey_other hs (ae ⟨_,rfl,bb h⟩))
def NoR (H:Hp) (a:Addr):Prop:=∃kvs,Rd H a (.dT kvs)/\∀kv∈kvs,∃is:List Int,kv.1=is.map Key.inl/\hT is≠NH
theorem NoR.at {a:Addr} (I:Inv X pins σ H s) (h:NoR H a):(a == sysModules)=false/\s.TypeIs (.ref a) "dict"/\∃o es ep,s.heap.get? a=some o/\o.data=.dict es ep/\∀e∈es.toList,e.hash≠NH:=by
 obtain⟨kvs,e,hk⟩:=h
 obtain⟨z,hd,xs,rel,dd⟩:=fL' I.hok e
 refine⟨hd,dd.typeIs,?_⟩
 obtain⟨o,es,ep,h1,_,h3,h4,_⟩:=dd
 refine⟨o,es,ep,h1,h3,fun en hen=>?_⟩
 rw[h4]at hen
 obtain⟨x,hx,rfl⟩:=az.mp hen
 obtain⟨kv,hkv,hp⟩:=a1' rel hx
 obtain⟨is,ei,hi⟩:=hk kv hkv
 show(tupleKind (ai' X.prog X.w)).hash x.1≠NH
 rw[<- hp.1,ei,ke']
 exact hi
theorem ki' {a:Addr} {Q:Bool->Shared->Prop} (I:Inv X pins σ H s) (g:NoR H a) (h:∀s',Inv X pins σ H s'->Q false s'):wpAny (model X.prog X.w) A (contains (.ref a) .none) Q E s:=by
 obtain⟨hs,hT,o,es,ep,ho,hd,hno⟩:=g.at I
 unfold contains
 try with_reducible refine aE ?_
 refine aa (wpAny_specialOf hT F.slot_dict_contains.lookup ?_)
 show wpAny _ _ (if(some (Value.builtin "dict.__contains__") == some Value.none)=true then _ else _) _ E s
 rw[if_neg (by rw[beq_builtin_none];exact ap)]
 refine aa (wpAny_callSpecialUnlessNone?_slot (name:=Str.ofString "__contains__") hT F.slot_dict_contains (aU F.slot_dict_contains hT F.entry_dict_contains ?_ (F.args_dict_contains_2 _ _)))
 show wpAny _ _ (dictGet a .none >>= _) _ _ s
 refine aa ?_
 unfold dictGet
 try with_reducible refine aE ?_
 refine aa (cc' (aa (fR' (s:={ s with toks:=s.toks+1 }) ho hd hno (ae ?_))))
 show wpAny _ _ (Builtin.Dict.pendingKey? a .none >>= _) _ _ _
 exact aa (wpAny_pendingKey_other hs (ae ⟨_,rfl,bb (h _ (I.tok _))⟩))
def kj':TE:=fun _ H Q=>∀p,H p=none->Q (.ref p) (upd H p (cv' p []))
theorem mE' {P:Program} {w:World} {H:Hp} (h:Heap) (hb:sysModules<h.objs.size):av' P w H (h.push { cls:=.type "dict",data:=.dict #[] }) h.objs.size (cv' h.objs.size []):=
 gM' (beq_eq_false_iff_ne.mpr (Ne.symm (ax hb))) (am _ rfl) ⟨aO _,fun q hq=>absurd hq aq,cc,#[],0,⟨rfl,rfl,rfl⟩,rfl,rfl⟩
theorem mF' {pos:Pos}:PE X (.Dict [] [] pos) kj':=fun pins s σ H Q I h=>
 wpAny_Dict_empty ⟨.ref s.heap.objs.size,_,I.laid (a:=s.heap.objs.size) (o:=cv' s.heap.objs.size []) (t':=s.toks) (fun _ _ q=>ab _ q) (ah _) (mE' s.heap I.big),rfl,h _ (I.hok.fresh (ah _))⟩
def wq' (neg:Bool):R2:=fun y x H Q=>(∃(k:List Int) (b D:Addr) (L:List NK),y=.ref b/\H b=some (.tup (k.map V.int))/\hT k≠NH/\x=.ref D/\H D=some (cv' D L)/\fx' H L/\Q (.bl (if neg then !decide (some k∈L.map (aQ Prod.fst))else decide (some k∈L.map (aQ Prod.fst)))) H)\/(y=.non/\∃D,x=.ref D/\NoR H D/\Q (.bl neg) H)
theorem td' (hu:X.A.units+1<cLine):OpR X (compareOp .In) (wq' false):=by
 intro pins s σ H y x v u Q I ry rx h
 show wpAny _ _ (contains u v >>= fun b=>pure (Value.bool b)) _ _ s
 rcases h with⟨k,b,D,L,rfl,hb,hne,rfl,hD,ht,q⟩|⟨rfl,D,rfl,g,q⟩
 .cases ry
  cases rx
  exact aa (ot' hu I hD ht hb hne fun s' I'=>ae ⟨.bl (decide (some k∈L.map (aQ Prod.fst))),H,I',rfl,q⟩)
 .cases ry
  cases rx
  exact aa (ki' I g fun s' I'=>ae ⟨.bl false,H,I',rfl,q⟩)
theorem kk' (hu:X.A.units+1<cLine):OpR X (compareOp .NotIn) (wq' true):=by
 intro pins s σ H y x v u Q I ry rx h
 show wpAny _ _ (contains u v >>= fun b=>pure (Value.bool (!b))) _ _ s
 rcases h with⟨k,b,D,L,rfl,hb,hne,rfl,hD,ht,q⟩|⟨rfl,D,rfl,g,q⟩
 .cases ry
  cases rx
  exact aa (ot' hu I hD ht hb hne fun s' I'=>ae ⟨.bl (!decide (some k∈L.map (aQ Prod.fst))),H,I',rfl,q⟩)
 .cases ry
  cases rx
  exact aa (ki' I g fun s' I'=>ae ⟨.bl true,H,I',rfl,q⟩)
def kl' (td ty tv:TE):TS:=fun D σ H=>tv σ H fun v H1=>td σ H1 fun x H2=>ty σ H2 fun y H3=>(∃a H4,x=.ref a/\pK' H3 a y v H4/\D.nx σ H4)\/∃(a:Addr) (L:List NK) (q:NK),x=.ref a/\v=.bl true/\H3 a=some (cv' a L)/\fx' H3 L/\L.length<4000/\tc' H3 y q/\D.nx σ (upd H3 a (cv' a (ec' L q)))
variable {o i value:Expr} {pos pos':Pos} {td ty tv:TE}
theorem mG' (hu:X.A.units+1<cLine) (ho:PE X o td) (hi:PE X i ty) (hv:PE X value tv) (hs:swapsWith value (some (.Subscript o i pos')) pos.line X.env=pure false):
  PS X (.Assign [.Subscript o i pos'] value pos) (kl' td ty tv):=by
 intro pins s σ H D I h
 refine wpAny_Assign_Subscript (thn (hv pins s σ H _ I h) fun r s1 ⟨v,H1,I1,rv,q1⟩=>thn (ho pins s1 σ H1 _ I1 q1) fun u s2 ⟨x,H2,I2,rx,q2⟩=>thn (hi pins s2 σ H2 _ I2 q2) fun iv s3 ⟨y,H3,I3,ry,q3⟩=>?_) hs
 rcases q3 with⟨a,H4,ex,g,q3⟩|⟨a,L,q,ex,ev,hD,ht,h4,hk,q3⟩
 .subst ex
  obtain rfl:u=Value.ref a:=rx
  exact jJ' hu I3 g ry rv fun s4 I4=>⟨σ,H4,I4,q3⟩
 .subst ex ev
  obtain rfl:u=Value.ref a:=rx
  obtain rfl:r=Value.bool true:=rv
  exact iQ' hu I3 hD ht h4 hk ry fun s4 I4=>⟨σ,_,I4,q3⟩
end
abbrev QK:=Option (List Key×Addr)
def kvV:QK->Value
 |none=>.none
 |some q=>.ref q.2
section
variable {prog:Program} {w:World} {A:Around} {R:Result->Shared->Prop} {I:Addr} {fp wr:List Addr} {G:Array GenState->Array GenState->Prop} {n:Nat} {St:Nat->Shared->Prop}
def OkN (prog:Program) (w:World) (n:Nat) (ps:Nat->Addr) (qk:Nat->QK) (h:Heap):Prop:=
 ∀i,i<n->IsTup h (ps i) #[kvV (qk i),.bool true]/\∀q,qk i=some q->(kT prog w).is h q.1 q.2/\(kT prog w).hash q.1≠NH
theorem OkN.at {ps:Nat->Addr} {qk:Nat->QK} {h h':Heap} (x:OkN prog w n ps qk h) (k:∀i,i<n->∀b,(b=ps i\/∃q,qk i=some q/\b=q.2)->∀o,h.get? b=some o->h'.get? b=some o):OkN prog w n ps qk h':=fun i hi=>by
 obtain⟨⟨o,e,c,m,z⟩,r⟩:=x i hi
 refine⟨⟨o,k i hi _ (.inl rfl) o e,c,m,z⟩,fun q hq=>?_⟩
 obtain⟨⟨o2,its,m2,e2,r2⟩,hne⟩:=r q hq
 exact⟨⟨o2,its,m2,k i hi _ (.inr ⟨q,hq,rfl⟩) o2 e2,r2⟩,hne⟩
end
section
variable {prog:Program} {w:World} {A:Around} {E:Value->Shared->Prop} {s:Shared}
set_option maxRecDepth 100000 in
set_option maxHeartbeats 3200000 in
end
def nkV:NK->V
 |none=>.non
 |some q=>.ref q.2
section
variable {X:Cx}
end
end L2
namespace PySem
def Rsn (xs:Array Nat):Prop:=xs.toList.Pairwise (· < ·)
theorem km' {xs:Array Nat} (hr:Rsn xs) {i j:Nat} (hij:i<j) (hj:j<xs.size):xs[i]'(by omega)<xs[j]:=by
 have:=aX.mp hr i j (by rw[aA];omega) (by rw[aA];omega) hij
 simpa using this
theorem ff' {xs:Array Nat} (hr:Rsn xs) (j:Nat):∀(f lo hi:Nat),lo<=hi->hi<=xs.size->hi-lo<=f->(∀i (h:i<xs.size),i<lo->xs[i]<j)->(∀i (h:i<xs.size),hi<=i->j<=xs[i])->
  SetTable.below.go xs j f lo hi<=xs.size/\(∀i (h:i<xs.size),i<SetTable.below.go xs j f lo hi->xs[i]<j)/\(∀i (h:i<xs.size),SetTable.below.go xs j f lo hi<=i->j<=xs[i])
 |0,lo,hi,h1,h2,h3,a,b=>by
  have e:lo=hi:=by omega
  subst e
  exact⟨h2,a,b⟩
 |f+1,lo,hi,h1,h2,h3,a,b=>by
  unfold SetTable.below.go
  by_cases hl:lo<hi
  .rw[if_pos hl]
   dsimp only
   have hm:(lo+hi) / 2<xs.size:=by omega
   have eg:xs.getD ((lo+hi) / 2) j=xs[(lo+hi) / 2]:=by simp[Array.getD,hm]
   rw[eg]
   by_cases hx:xs[(lo+hi) / 2]<j
   .rw[if_pos hx]
    refine ff' hr j f _ _ (by omega) h2 (by omega) (fun i h hi'=>?_) b
    by_cases e:i=(lo+hi) / 2
    .subst e;exact hx
    .exact Nat.lt_trans (km' hr (by omega) hm) hx
   .rw[if_neg hx]
    refine ff' hr j f _ _ (by omega) (by omega) (by omega) a fun i h hi'=>?_
    by_cases e:i=(lo+hi) / 2
    .subst e;omega
    .have:=km' hr (i:=(lo+hi) / 2) (j:=i) (by omega) h
     omega
  .rw[if_neg hl]
   have e:lo=hi:=by omega
   subst e
   exact⟨h2,a,b⟩
theorem fg' {xs:Array Nat} (hr:Rsn xs) (j:Nat):SetTable.below xs j<=xs.size/\(∀i (h:i<xs.size),i<SetTable.below xs j->xs[i]<j)/\(∀i (h:i<xs.size),SetTable.below xs j<=i->j<=xs[i]):=
 ff' hr j _ _ _ (aO _) (ah _) (ah _) (fun _ _ z=>absurd z (Nat.not_lt_zero _)) fun i h z=>absurd h (by omega)
theorem mH' {xs:Array Nat} (hr:Rsn xs) {j:Nat} (h:xs[SetTable.below xs j]?≠some j):j∉xs.toList:=by
 intro hm
 obtain⟨i,hi,e⟩:=cf.mp hm
 rw[aA]at hi
 rw[Array.getElem_toList]at e
 obtain⟨h1,h2,h3⟩:=fg' hr j
 have hle:SetTable.below xs j<=i:=Nat.le_of_not_lt fun z=>by have:=h2 i hi z;omega
 by_cases hq:SetTable.below xs j=i
 .rw[hq]at h
  exact h (by rw[aD hi,e])
 .have:=km' hr (i:=SetTable.below xs j) (j:=i) (by omega) hi
  have:=h3 _ (by omega) (ah (SetTable.below xs j))
  omega
theorem iR' {xs:Array Nat} (hr:Rsn xs) {j:Nat} (h:xs[SetTable.below xs j]?≠some j):Rsn (SetTable.insertAt xs (SetTable.below xs j) j):=by
 obtain⟨h1,h2,h3⟩:=fg' hr j
 have hn:=mH' hr h
 unfold Rsn
 rw[SetTable.toList_insertAt]
 first
 |rw[aT,List.singleton_append]
 |skip
 rw[bJ,List.pairwise_cons]
 have hT:∀a∈xs.toList.take (SetTable.below xs j),a<j:=by
  intro a ha
  obtain⟨i,hi,e⟩:=cf.mp ha
  rw[aI,aA]at hi
  rw[cH,Array.getElem_toList]at e
  have:=h2 i (by omega) (by omega)
  omega
 have hD:∀b∈xs.toList.drop (SetTable.below xs j),j<b:=by
  intro b hb
  obtain⟨i,hi,e⟩:=cf.mp hb
  rw[cL,aA]at hi
  rw[cI,Array.getElem_toList]at e
  have:=h3 (SetTable.below xs j+i) (by omega) (by omega)
  have hne:b≠j:=fun z=>hn (z ▸ List.mem_of_mem_drop hb)
  omega
 refine⟨hr.sublist (List.take_sublist _ _),⟨hD,hr.sublist (List.drop_sublist _ _)⟩,fun a ha b hb=>?_⟩
 rcases ak.mp hb with rfl|hb
 .exact hT a ha
 .exact Nat.lt_trans (hT a ha) (hD b hb)
end PySem
namespace PySem
namespace Ts
open SetTable
def u (x:Nat):Nat->Nat
 |0=>x
 |n+1=>5*u x n+1
theorem p0' (x a:Nat):∀b,u x (a+b)=u (u x a) b
 |0=>rfl
 |b+1=>by show 5*u x (a+b)+1=5*u (u x a) b+1;rw[p0' x a b]
theorem p1' (x:Nat):∀n,u x n=5 ^ n*x+u 0 n
 |0=>by simp[u]
 |n+1=>by
  show 5*u x n+1=5 ^ (n+1)*x+(5*u 0 n+1)
  rw[p1' x n,cR]
  have:5 ^ n*5*x=5*(5 ^ n*x):=by rw[cP (5 ^ n) 5,bU]
  omega
theorem kn':∀n,4*u 0 n+1=5 ^ n
 |0=>rfl
 |n+1=>by
  have:=kn' n
  rw[cR]
  show 4*(5*u 0 n+1)+1=_
  omega
theorem xd' (k:Nat):∃c,u 0 (2 ^ k)=2 ^ k*(2*c+1):=by
 induction k with
 |zero=>exact⟨0,rfl⟩
 |succ k ih=>
  obtain⟨c,hc⟩:=ih
  have h1:u 0 (2 ^ (k+1))=5 ^ (2 ^ k)*u 0 (2 ^ k)+u 0 (2 ^ k):=by
   rw[cR,Nat.mul_two,p0',p1' (u 0 (2 ^ k))]
  have h2:=kn' (2 ^ k)
  rw[<- h2]at h1
  generalize hs:u 0 (2 ^ k)=S at h1 hc
  rw[h1,cR]
  generalize 2 ^ k=p at hc
  refine⟨(2*c+1)*S+c,?_⟩
  have e1:p*((2*c+1)*S)=S*S:=by rw[<- bU,<- hc]
  have e2:(4*S+1)*S=4*(S*S)+S:=by rw[Nat.add_mul,Nat.one_mul,bU]
  have e3:p*2*(2*((2*c+1)*S+c)+1)=4*(p*((2*c+1)*S))+2*(p*(2*c+1)):=by
   rw[show 2*((2*c+1)*S+c)+1=2*((2*c+1)*S)+(2*c+1) by omega,Nat.mul_add,cP p 2]
   generalize (2*c+1)*S=q
   rw[bU 2 p (2*q),Nat.mul_left_comm p 2 q,bU 2 p (2*c+1)]
   omega
  rw[e2,e3,e1,<- hc]
  omega
theorem te' (z k:Nat):u z (2 ^ k) % 2 ^ (k+1)=(z+2 ^ k) % 2 ^ (k+1):=by
 obtain⟨c,hc⟩:=xd' k
 have h2:=kn' (2 ^ k)
 rw[p1',<- h2,hc,cR]
 generalize 2 ^ k=p
 have e:(4*(p*(2*c+1))+1)*z+p*(2*c+1)=z+p+p*2*(2*(2*c+1)*z+c):=by
  rw[Nat.add_mul,Nat.one_mul,Nat.mul_add (p*2)]
  have e1:4*(p*(2*c+1))*z=p*2*(2*(2*c+1)*z):=by
   rw[bU p 2,<- bU 2 (2*(2*c+1)) z,<- bU 2 2,Nat.mul_left_comm 4 p,bU p]
  have e2:p*(2*c)=p*2*c:=by rw[bU]
  have e3:p*(2*c+1)=p*(2*c)+p:=by rw[Nat.mul_add,Nat.mul_one]
  rw[e1,e3]
  omega
 rw[e,Nat.add_mul_mod_self_left]
theorem cyc:∀(k x y:Nat),∃n,n<2 ^ k/\u x n % 2 ^ k=y % 2 ^ k
 |0,x,y=>⟨0,by decide,by rw[Nat.pow_zero,Nat.mod_one,Nat.mod_one]⟩
 |k+1,x,y=>by
  obtain⟨n,hn,e⟩:=cyc k x y
  have hp:0<2 ^ k:=Nat.pow_pos (by decide)
  have h2:2 ^ (k+1)=2*2 ^ k:=by rw[cR,cP]
  by_cases h:u x n % 2 ^ (k+1)=y % 2 ^ (k+1)
  .exact⟨n,by omega,h⟩
  .refine⟨n+2 ^ k,by omega,?_⟩
   rw[p0',te']
   generalize u x n=z at e h ⊢
   rw[h2]at h ⊢
   generalize 2 ^ k=p at e h hp ⊢
   have a1:z % (2*p)=z % p\/z % (2*p)=z % p+p:=by
    have:=Nat.mod_two_eq_zero_or_one (z / p)
    rw[cP 2 p,Nat.mod_mul]
    rcases this with q|q<;>rw[q]<;>simp
   have a2:y % (2*p)=y % p\/y % (2*p)=y % p+p:=by
    have:=Nat.mod_two_eq_zero_or_one (y / p)
    rw[cP 2 p,Nat.mod_mul]
    rcases this with q|q<;>rw[q]<;>simp
   rw[Nat.add_mod,cN (show p<2*p by omega)]
   have b1:=Nat.mod_lt z hp
   rcases a1 with q1|q1<;>rcases a2 with q2|q2
   .omega
   .rw[q1,q2,e,cN (by omega)]
   .rw[q1,q2,e,show y % p+p+p=y % p+2*p by omega,Nat.add_mod_right,cN (by omega)]
   .omega
end Ts
end PySem
namespace PySem
namespace Ts
open SetTable
def nxt (m:Nat) (p:Probe):Probe:=if p.more > 0 then { p with j:=p.j+1,more:=p.more-1 } else
 { p with j:=(leap m p.i p.perturb).1,more:=runEnd m (leap m p.i p.perturb).1-(leap m p.i p.perturb).1,i:=(leap m p.i p.perturb).1,perturb:=(leap m p.i p.perturb).2 }
def Pj (m:Nat) (h:Int):Nat->Probe
 |0=>{ j:=bits h % (m+1),more:=runEnd m (bits h % (m+1))-bits h % (m+1),i:=bits h % (m+1),perturb:=bits h,dummy:=none }
 |n+1=>nxt m (Pj m h n)
def Lp (m:Nat) (h:Int):Nat->Nat×Nat
 |0=>(bits h % (m+1),bits h)
 |l+1=>leap m (Lp m h l).1 (Lp m h l).2
def mo (m i:Nat):Nat:=runEnd m i-i
theorem xe' {m i:Nat}:mo m i<=9:=by unfold mo runEnd;split<;>omega
theorem tf' {m i k:Nat} (hi:i<=m) (hk:k<=mo m i):i+k<=m:=by
 unfold mo runEnd at hk
 split at hk<;>omega
def sg (m:Nat) (h:Int):Nat->Nat
 |0=>0
 |l+1=>sg m h l+mo m (Lp m h l).1+1
theorem th' (m:Nat) (h:Int):∀l,sg m h l<=10*l
 |0=>ah _
 |l+1=>by
  have:=th' m h l
  have:=@xe' m (Lp m h l).1
  show sg m h l+mo m (Lp m h l).1+1<=_
  omega
theorem gP' {m:Nat} {h:Int} {l b:Nat} (e:Pj m h b={ j:=(Lp m h l).1,more:=mo m (Lp m h l).1,i:=(Lp m h l).1,perturb:=(Lp m h l).2,dummy:=none }):∀k,k<=mo m (Lp m h l).1->Pj m h (b+k)={ j:=(Lp m h l).1+k,more:=mo m (Lp m h l).1-k,i:=(Lp m h l).1,perturb:=(Lp m h l).2,dummy:=none }
 |0,_=>by rw[Nat.add_zero,e];rfl
 |k+1,hk=>by
  have ih:=gP' e k (by omega)
  show nxt m (Pj m h (b+k))=_
  rw[ih]
  unfold nxt
  rw[if_pos (by show mo m _-k > 0;omega)]
  rfl
theorem ko' (m:Nat) (h:Int):∀l,Pj m h (sg m h l)={ j:=(Lp m h l).1,more:=mo m (Lp m h l).1,i:=(Lp m h l).1,perturb:=(Lp m h l).2,dummy:=none }
 |0=>rfl
 |l+1=>by
  have e:=gP' (ko' m h l) _ (ah _)
  show nxt m (Pj m h (sg m h l+mo m (Lp m h l).1))=_
  rw[e]
  unfold nxt
  rw[if_neg (by show ¬(_-_ > 0);omega)]
  rfl
theorem fZ' {m:Nat} {h:Int} {l k:Nat} (hk:k<=mo m (Lp m h l).1):Pj m h (sg m h l+k)={ j:=(Lp m h l).1+k,more:=mo m (Lp m h l).1-k,i:=(Lp m h l).1,perturb:=(Lp m h l).2,dummy:=none }:=gP' (ko' m h l) k hk
theorem hW' {m:Nat} {h:Int}:∀{l n:Nat},n<sg m h l->∃l' k',l'<l/\k'<=mo m (Lp m h l').1/\n=sg m h l'+k'
 |0,n,hn=>absurd hn (Nat.not_lt_zero _)
 |l+1,n,hn=>by
  have hn:n<sg m h l+mo m (Lp m h l).1+1:=hn
  by_cases q:n<sg m h l
  .obtain⟨l',k',h1,h2,h3⟩:=hW' q
   exact⟨l',k',by omega,h2,h3⟩
  .exact⟨l,n-sg m h l,by omega,by omega,by omega⟩
theorem mI' {m:Nat} {h:Int} (n:Nat):∃l k,k<=mo m (Lp m h l).1/\n=sg m h l+k:=by
 have hle:∀l,l<=sg m h l:=fun l=>by
  induction l with
  |zero=>exact ah _
  |succ l ih=>show l+1<=sg m h l+mo m (Lp m h l).1+1;omega
 obtain⟨l',k',_,h2,h3⟩:=hW' (m:=m) (h:=h) (l:=n+1) (n:=n) (ai (Nat.lt_succ_self n) (hle (n+1)))
 exact⟨l',k',h2,h3⟩
theorem p2' {m:Nat} {h:Int}:∀{l:Nat},(Lp m h l).1<=m
 |0=>bX (Nat.mod_lt _ (Nat.succ_pos _))
 |l+1=>bX (Nat.mod_lt _ (Nat.succ_pos _))
theorem xf' {m:Nat} {h:Int} {n:Nat}:(Pj m h n).j<=m:=by
 obtain⟨l,k,hk,rfl⟩:=mI' (m:=m) (h:=h) n
 rw[fZ' hk]
 exact tf' p2' hk
theorem kp' {m:Nat} {h:Int}:∀{l:Nat},(Lp m h l).2=bits h / 32 ^ l
 |0=>by show bits h=_;simp
 |l+1=>by
  show(Lp m h l).2 / 32=_
  rw[kp',Nat.div_div_eq_div_mul,cR]
theorem p3' (h:Int):bits h<2 ^ 64:=by
 unfold bits
 have:=cy h (show(0:Int)<2 ^ 64 by decide)
 have:=Int.emod_nonneg h (show(2 ^ 64:Int)≠0 by decide)
 omega
theorem p4' {m:Nat} {h:Int} {l:Nat} (hl:13<=l):(Lp m h l).2=0:=by
 rw[kp']
 refine Nat.div_eq_of_lt (ai (p3' h) ?_)
 exact aM (show 2 ^ 64<=32 ^ 13 by decide) (Nat.pow_le_pow_right (by decide) hl)
theorem y5' {m:Nat} {h:Int}:∀{n:Nat},(Lp m h (13+n)).1=u (Lp m h 13).1 n % (m+1)
 |0=>(cN (Nat.lt_succ_of_le p2')).symm
 |n+1=>by
  show((Lp m h (13+n)).1*5+1+(Lp m h (13+n)).2 / 32) % (m+1)=(5*u _ n+1) % (m+1)
  rw[p4' (by omega),y5' (n:=n),Nat.zero_div,Nat.add_zero,cP]
  rw[Nat.add_mod,Nat.mul_mod,Nat.mod_mod,<- Nat.mul_mod,<- Nat.add_mod]
theorem ti' {m k:Nat} (hk:m+1=2 ^ k) (h:Int) {y:Nat} (hy:y<=m):∃l,l<m+14/\(Lp m h l).1=y:=by
 obtain⟨n,hn,e⟩:=cyc k (Lp m h 13).1 y
 refine⟨13+n,by omega,?_⟩
 rw[y5',hk,e,<- hk,cN (by omega)]
theorem tj' {m k:Nat} (hk:m+1=2 ^ k) (h:Int) {y:Nat} (hy:y<=m):∃n,n<10*(m+14)/\(Pj m h n).j=y:=by
 obtain⟨l,hl,e⟩:=ti' hk h hy
 have:=th' m h l
 exact⟨sg m h l,by omega,by rw[ko'];exact e⟩
theorem xg' {P:Nat->Prop} {n:Nat} (h:P n):∃m,m<=n/\P m/\∀i,i<m->¬P i:=by
 induction n using Nat.strongRecOn with
 |ind n ih=>
  by_cases q:∃i,i<n/\P i
  .obtain⟨i,hi,pi⟩:=q
   obtain⟨m,h1,h2,h3⟩:=ih i hi pi
   exact⟨m,by omega,h2,h3⟩
  .exact⟨n,ah _,h,fun i hi pi=>q ⟨i,hi,pi⟩⟩
theorem kq':∀{l b:List Nat},l.Nodup->(∀i∈l,i∈b)->l.length<=b.length
 | [],_,_,_=>aO _
 |a :: l,b,h,hs=>by
  have ha:a∈b:=hs a (by simp)
  have:=kq' (l:=l) (b:=b.erase a) (bu.mp h).2 fun i hi=>by
   have hne:i≠a:=fun e=>(bu.mp h).1 (by rw[<- e];exact hi)
   exact(List.mem_erase_of_ne hne).mpr (hs i (by simp[hi]))
  rw[List.length_erase_of_mem ha]at this
  have:=List.length_pos_of_mem ha
  rw[aV]
  omega
theorem kr' {m:Nat} {l:List Nat} (h:l.length<=m):∃y,y<=m/\y∉l:=Classical.byContradiction fun z=>by
 have:=kq' (l:=aF (m+1)) (b:=l) List.nodup_range fun i hi=>Classical.byContradiction fun q=>z ⟨i,bX (aJ.mp hi),q⟩
 rw[bg]at this
 omega
structure TabOk (t:SetTable) (es:Array (Int×Value)):Prop where
 rise:Rsn t.place
 le:∀p∈t.place.toList,p<=t.mask
 size:t.place.size=es.size
 dum:t.dummies=#[]
 pow:∃k,t.mask+1=2 ^ k
 room:t.place.size<=t.mask
 met:∀q∈t.place.toList.zip es.toList,∃n,(Pj t.mask q.2.1 n).j=q.1/\∀n',n'<n->(Pj t.mask q.2.1 n').j∈t.place.toList
theorem TabOk.end {t:SetTable} {es:Array (Int×Value)} (T:TabOk t es) (h:Int):∃N,N<10*(t.mask+14)/\(Pj t.mask h N).j∉t.place.toList/\∀n,n<N->(Pj t.mask h n).j∈t.place.toList:=by
 obtain⟨y,hy,hn⟩:=kr' (m:=t.mask) (l:=t.place.toList) (by rw[aA];exact T.room)
 obtain⟨k,hk⟩:=T.pow
 obtain⟨n,h1,h2⟩:=tj' hk h hy
 obtain⟨N,g1,g2,g3⟩:=xg' (P:=fun n=>(Pj t.mask h n).j∉t.place.toList) (n:=n) (by rw[h2];exact hn)
 exact⟨N,by omega,g2,fun i hi=>Classical.byContradiction (g3 i hi)⟩
end Ts
end PySem
namespace PySem
namespace Ts
open SetTable
theorem p5' (j:Nat):has #[] j=false:=by
 unfold has
 rfl
theorem TabOk.put {t:SetTable} {es:Array (Int×Value)} (T:TabOk t es) {h:Int} {x:Value} {N:Nat} (hN:(Pj t.mask h N).j∉t.place.toList) (hB:∀n,n<N->(Pj t.mask h n).j∈t.place.toList) (hroom:es.size+1<=t.mask):
  TabOk (t.put (Pj t.mask h N).j).1 (insertAt es (t.put (Pj t.mask h N).j).2 (h,x)):=by
 have hb:=fg' T.rise (Pj t.mask h N).j
 have hne:t.place[below t.place (Pj t.mask h N).j]?≠some (Pj t.mask h N).j:=fun z=>hN (by rw[cJ];exact Array.mem_of_getElem? z)
 have hp:(t.put (Pj t.mask h N).j).1={ t with place:=insertAt t.place (below t.place (Pj t.mask h N).j) (Pj t.mask h N).j }:=by
  unfold SetTable.put
  rw[T.dum,p5']
  have hd:=T.dum
  cases t
  cases hd
  rfl
 have hp2:(t.put (Pj t.mask h N).j).2=below t.place (Pj t.mask h N).j:=rfl
 rw[hp,hp2]
 generalize hj:(Pj t.mask h N).j=j at *
 generalize hq:below t.place j=p at *
 have hl:(List.take p t.place.toList).length=(List.take p es.toList).length:=by
  rw[aI,aI,aA,aA,T.size]
 have hmem:∀y,y∈(insertAt t.place p j).toList↔y=j\/y∈t.place.toList:=by
  intro y
  rw[toList_insertAt]
  conv=>rhs;rw[<- bw p t.place.toList]
  simp only[aH,ak]
  constructor
  .rintro(a|a|a)
   .exact .inr (.inl a)
   .exact .inl a
   .exact .inr (.inr a)
  .rintro(a|a|a)
   .exact .inr (.inl a)
   .exact .inl a
   .exact .inr (.inr a)
 have hsz:∀{α:Type} (xs:Array α) (y:α),(insertAt xs p y).size=xs.size+1:=fun xs y=>by
  rw[<- aA,toList_insertAt]
  simp only[aB,aV,aI,cL,aA]
  omega
 refine⟨?_,?_,?_,T.dum,T.pow,?_,?_⟩
 .have:=iR' T.rise (j:=j) (by rw[hq];exact hne)
  rw[hq]at this
  exact this
 .intro y hy
  rcases(hmem y).mp hy with rfl|hy
  .rw[<- hj];exact xf'
  .exact T.le y hy
 .show(insertAt t.place p j).size=_
  rw[hsz,hsz,T.size]
 .show(insertAt t.place p j).size<=t.mask
  rw[hsz,T.size]
  exact hroom
 .show ∀q∈(insertAt t.place p j).toList.zip (insertAt es p (h,x)).toList,∃n,(Pj t.mask q.2.1 n).j=q.1/\∀n',n'<n->_∈(insertAt t.place p j).toList
  rw[toList_insertAt t.place,toList_insertAt es,List.zip_append hl,List.zip_cons_cons,<- toList_insertAt t.place]
  have old:∀q∈t.place.toList.zip es.toList,∃n,(Pj t.mask q.2.1 n).j=q.1/\∀n',n'<n->(Pj t.mask q.2.1 n').j∈(insertAt t.place p j).toList:=fun q hq=>by
   obtain⟨n,h1,h2⟩:=T.met q hq
   exact⟨n,h1,fun n' hn'=>(hmem _).mpr (.inr (h2 n' hn'))⟩
  rw[<- bw p t.place.toList,<- bw p es.toList,List.zip_append hl]at old
  intro q hq
  rcases aH.mp hq with hq|hq
  .exact old q (ba _ hq)
  .rcases ak.mp hq with rfl|hq
   .exact⟨N,hj,fun n' hn'=>(hmem _).mpr (.inr (hB n' hn'))⟩
   .exact old q (aj _ hq)
structure OwnOk (m:Nat) (hs:List Int) (k:Nat) (ow:Array (Option Nat)):Prop where
 size:ow.size=m+1
 met:∀j i:Nat,ow[j]?=some (some i)->i<k/\∃h n,hs[i]?=some h/\(Pj m h n).j=j/\∀n',n'<n->∃z,ow[(Pj m h n').j]?=some (some z)
 all:∀i,i<k->∃j:Nat,ow[j]?=some (some i)
 uniq:∀i j j':Nat,ow[j]?=some (some i)->ow[j']?=some (some i)->j=j'
theorem OwnOk.free {m:Nat} {hs:List Int} {k:Nat} {ow:Array (Option Nat)} (O:OwnOk m hs k ow) (hk:k<=m):∃y,y<=m/\ow[y]?=some none:=Classical.byContradiction fun z=>by
 have full:∀y,y<=m->∃i,ow[y]?=some (some i):=fun y hy=>by
  have e:ow[y]?=some (ow[y]'(by have:=O.size;omega)):=aD _
  cases hv:ow[y]'(by have:=O.size;omega)with
  |none=>rw[hv]at e;exact absurd ⟨y,hy,e⟩ z
  |some i=>rw[hv]at e;exact⟨i,e⟩
 have:=kq' (l:=(aF (m+1)).map fun y=>(ow.getD y none).getD 0) (b:=aF k) ?_ ?_
 .rw[af,bg,bg]at this
  omega
 .rw[List.Nodup,ck]
  refine List.Pairwise.imp_of_mem (fun {a b} ha hb hab=>?_) List.pairwise_lt_range
  obtain⟨i,hi⟩:=full a (bX (aJ.mp ha))
  obtain⟨i',hi'⟩:=full b (bX (aJ.mp hb))
  rw[Array.getD_eq_getD_getElem?,Array.getD_eq_getD_getElem?,hi,hi']
  intro q
  have q:i=i':=q
  subst q
  exact absurd (O.uniq i a b hi hi') (by omega)
 .intro i hi
  obtain⟨y,hy,rfl⟩:=az.mp hi
  obtain⟨i,hi⟩:=full y (bX (aJ.mp hy))
  rw[Array.getD_eq_getD_getElem?,hi]
  exact aJ.mpr (O.met y i hi).1
theorem ks' {m:Nat} {ow:Array (Option Nat)} (hs:ow.size=m+1) (h:Int) {L:Nat} (hL:ow[(Lp m h L).1]?=some none):∀(f l:Nat),l<=L->L-l<f->(∀n,n<sg m h l->∃z,ow[(Pj m h n).j]?=some (some z))->
  ∃n,layClean.free m ow f (Lp m h l).1 (Lp m h l).2=some (Pj m h n).j/\ow[(Pj m h n).j]?=some none/\∀n',n'<n->∃z,ow[(Pj m h n').j]?=some (some z)
 |0,l,_,hf,_=>absurd hf (Nat.not_lt_zero _)
 |f+1,l,hl,hf,hB=>by
  unfold layClean.free
  have e1:runEnd m (Lp m h l).1+1-(Lp m h l).1=mo m (Lp m h l).1+1:=by
   unfold mo runEnd
   split<;>omega
  rw[e1]
  have val:∀k,k<=mo m (Lp m h l).1->∃o,ow[(Lp m h l).1+k]?=some o/\ow.getD ((Lp m h l).1+k) (some 0)=o:=fun k hk=>by
   have hlt:(Lp m h l).1+k<ow.size:=by rw[hs];exact Nat.lt_succ_of_le (tf' p2' hk)
   exact⟨_,aD hlt,by simp[Array.getD,hlt]⟩
  cases hq:(aF (mo m (Lp m h l).1+1)).find? fun k=>(ow.getD ((Lp m h l).1+k) (some 0)).isNone with
  |some k=>
   obtain⟨h1,h2,h3⟩:=List.find?_range_eq_some.mp hq
   have hk:k<=mo m (Lp m h l).1:=bX (aJ.mp h2)
   refine⟨sg m h l+k,?_,?_,fun n' hn'=>?_⟩
   .dsimp only
    rw[fZ' hk]
   .obtain⟨o,q1,q2⟩:=val k hk
    rw[q2]at h1
    rw[fZ' hk,q1]
    cases o with
    |none=>rfl
    |some _=>cases h1
   .by_cases q:n'<sg m h l
    .exact hB n' q
    .obtain⟨d,rfl⟩:∃d,n'=sg m h l+d:=⟨n'-sg m h l,by omega⟩
     have hd:d<k:=by omega
     obtain⟨o,q1,q2⟩:=val d (by omega)
     have:=h3 d hd
     rw[q2]at this
     rw[fZ' (by omega),q1]
     cases o with
     |none=>cases this
     |some z=>exact⟨z,rfl⟩
  |none=>
   have h3:=List.find?_range_eq_none.mp hq
   have hw:∀d,d<=mo m (Lp m h l).1->∃z,ow[(Lp m h l).1+d]?=some (some z):=fun d hd=>by
    obtain⟨o,q1,q2⟩:=val d hd
    have:=h3 d (by omega)
    rw[q2]at this
    cases o with
    |none=>cases this
    |some z=>exact⟨z,q1⟩
   have hne:l≠L:=fun e=>by
    obtain⟨z,hz⟩:=hw 0 (aO _)
    rw[Nat.add_zero,e,hL]at hz
    cases hz
   refine ks' hs h hL f (l+1) (by omega) (by omega) fun n hn=>?_
   by_cases q:n<sg m h l
   .exact hB n q
   .have hn:n<sg m h l+mo m (Lp m h l).1+1:=hn
    obtain⟨d,rfl⟩:∃d,n=sg m h l+d:=⟨n-sg m h l,by omega⟩
    rw[fZ' (by omega)]
    exact hw d (by omega)
theorem OwnOk.step {m k:Nat} {hs:List Int} {ow:Array (Option Nat)} (O:OwnOk m hs k ow) (hk:k<=m) (hp:∃b,m+1=2 ^ b) {h:Int} (hh:hs[k]?=some h):∃j,layClean.free m ow (turns m) (bits h % (m+1)) (bits h)=some j/\OwnOk m hs (k+1) (ow.setIfInBounds j (some k)):=by
 obtain⟨y,hy,hye⟩:=O.free hk
 obtain⟨b,hb⟩:=hp
 obtain⟨L,hL,e⟩:=ti' hb h hy
 obtain⟨n,h1,h2,h3⟩:=ks' O.size h (L:=L) (by rw[e];exact hye) (turns m) 0 (aO _) (by unfold turns;omega) fun n hn=>absurd hn (Nat.not_lt_zero _)
 refine⟨_,h1,?_⟩
 generalize hj:(Pj m h n).j=j at h2 ⊢
 have hlt:j<ow.size:=(Array.getElem?_eq_some_iff.mp h2).1
 have g:∀y,(ow.setIfInBounds j (some k))[y]?=if j=y then some (some k)else ow[y]?:=fun y=>by
  rw[Array.getElem?_setIfInBounds]
  by_cases q:j=y
  .rw[if_pos q,if_pos q,if_pos hlt]
  .rw[if_neg q,if_neg q]
 have mono:∀y z:Nat,ow[y]?=some (some z)->∃z,(ow.setIfInBounds j (some k))[y]?=some (some z):=fun y z e=>by
  rw[g]
  by_cases q:j=y
  .exact⟨k,by rw[if_pos q]⟩
  .exact⟨z,by rw[if_neg q];exact e⟩
 refine⟨by rw[Array.size_setIfInBounds];exact O.size,fun y i e=>?_,fun i hi=>?_,fun i y y' e e'=>?_⟩
 .rw[g]at e
  by_cases q:j=y
  .rw[if_pos q]at e
   injection e with e
   injection e with e
   subst e
   exact⟨Nat.lt_succ_self _,h,n,hh,by rw[hj,q],fun n' hn'=>by obtain⟨z,hz⟩:=h3 n' hn';exact mono _ z hz⟩
  .rw[if_neg q]at e
   obtain⟨a1,h',n',a2,a3,a4⟩:=O.met y i e
   exact⟨bF a1,h',n',a2,a3,fun n'' hn=>by obtain⟨z,hz⟩:=a4 n'' hn;exact mono _ z hz⟩
 .rcases cQ i k with z|z
  .obtain⟨y,hy⟩:=O.all i z
   refine⟨y,?_⟩
   rw[g,if_neg (fun q=>by rw[<- q,h2]at hy;cases hy)]
   exact hy
  .exact⟨j,by rw[g,if_pos rfl,show i=k by omega]⟩
 .rw[g]at e e'
  by_cases q:j=y<;>by_cases q':j=y'
  .omega
  .rw[if_pos q]at e
   rw[if_neg q']at e'
   injection e with e
   injection e with e
   subst e
   exact absurd (O.met y' _ e').1 (aZ _)
  .rw[if_neg q]at e
   rw[if_pos q']at e'
   injection e' with e'
   injection e' with e'
   subst e'
   exact absurd (O.met y _ e).1 (aZ _)
  .rw[if_neg q]at e
   rw[if_neg q']at e'
   exact O.uniq i y y' e e'
end Ts
end PySem
namespace PySem
section
variable {prog:Program} {w:World} {K:Type} [DecidableEq K] (knd:KeyKind prog w K)
variable {knd}
variable {A:Around} {E:Value->Shared->Prop} {s:Shared}
end
end PySem
namespace PySem
namespace Ts
open SetTable
section
variable {prog:Program} {w:World}
def elm (prog:Program) (w:World) (q:List Int×Addr):Int×Value:=(tupleKeyHash (intKind prog w) q.1,.ref q.2)
def Tup (prog:Program) (w:World) (h:Heap) (q:List Int×Addr):Prop:=IsTupleKey (intKind prog w) h q.1 q.2
structure MaskOk (t:SetTable):Prop where
 mask:t.mask∈[7,31,127,511,2047,8191]
 few:t.place.size*5<t.mask*3
theorem MaskOk.le {t:SetTable} (m:MaskOk t):7<=t.mask/\t.mask<=8191/\t.mask % 2=1:=by
 have:=m.mask
 simp only[ak,aq,or_false]at this
 omega
variable {A:Around} {E:Value->Shared->Prop} {s:Shared}
structure Elms (prog:Program) (w:World) (h:Heap) (es:Array (Int×Value)) (t:SetTable) (L:List (List Int×Addr)):Prop where
 its:es.toList=L.map (elm prog w)
 tup:∀q∈L,Tup prog w h q
 nd:(L.map (·.1)).Nodup
 tab:TabOk t es
 mask:MaskOk t
end
end Ts
end PySem
namespace PySem
namespace Ts
open SetTable
section
variable {prog:Program} {w:World} {A:Around} {E:Value->Shared->Prop} {s:Shared}
theorem Tup.kept {h h':Heap} {a:Addr} {o:Obj} {es:Array (Int×Value)} {ep:Nat} {t:SetTable} {q:List Int×Addr} (hq:Tup prog w h q) (ho:h.get? a=some o) (hd:o.data=.set es ep t) (hs:bL a h h'):Tup prog w h' q:=by
 obtain⟨o',items,n,ho',hc,hd',hi⟩:=hq
 have hne:q.2≠a:=by
  intro e
  rw[e,ho]at ho'
  cases ho'
  rw[hd]at hd';exact nomatch hd'
 exact⟨o',items,n,(hs.2 q.2 hne).trans ho',hc,hd',hi⟩
theorem TabOk.plain {t:SetTable} {es:Array (Int×Value)} (T:TabOk t es) (b:Bool):TabOk { t with plain:=b } es:=⟨T.rise,T.le,T.size,T.dum,T.pow,T.room,T.met⟩
end
end Ts
end PySem
namespace PySem
namespace Ts
open SetTable
section
variable {prog:Program} {w:World} {A:Around} {E:Value->Shared->Prop} {s:Shared}
end
end Ts
end PySem
namespace PySem
open PyProof.Rows
section
variable {prog:Program} {w:World} {K:Type} [DecidableEq K] {knd:KeyKind prog w K}
variable {A:Around} {R:Result->Shared->Prop} {I:Addr} {fp wr:List Addr} {G:Array GenState->Array GenState->Prop} {n:Nat} {P:Nat->Value->Prop} {St:Nat->Shared->Prop}
end
section
variable {prog:Program} {w:World} {K:Type} [DecidableEq K] {knd:KeyKind prog w K} {A:Around} {E:Value->Shared->Prop} {s:Shared}
end
end PySem
namespace L2
open PySem PySem.Spec PyProof.Rows
section
variable {X:Cx}
def zJ' (x y:Str):Bool:=decide (y.cps.toList<x.cps.toList)
def y6':R2:=fun x y H Q=>∃a b,x=.str a/\y=.str b/\Q (.bl (zJ' a b)) H
theorem tl':OpR X (compareOp .Gt) y6':=by
 intro pins s σ H x y v u Q I rx ry h
 obtain⟨a,b,rfl,rfl,k⟩:=h
 obtain⟨t,rfl⟩:=rx
 obtain⟨t',rfl⟩:=ry
 exact PySem.P.gt_str ⟨.bl _,H,I,rfl,k⟩
def dSc:V->Bool
 | .int _=>true
 | .str _=>true
 | .bl _=>true
 | .non=>true
 |_=>false
def Dq (H:Hp):Nat->V->V->Prop
 |0,v,w=>v=w/\dSc v=true
 |n+1,v,w=>(v=w/\dSc v=true)\/∃a b xs ys,v=.ref a/\w=.ref b/\((H a=some (.lst xs)/\H b=some (.lst ys))\/(H a=some (.tup xs)/\H b=some (.tup ys)))/\xs.length=ys.length/\∀(i:Nat) x y,xs[i]?=some x->ys[i]?=some y->Dq H n x y
open PySem.SeqAt in
theorem tm' {A:Around} {s:Shared} {x:V} {u v:Value} (h:dSc x=true) (r1:ay' x u) (r2:ay' x v):EqAt A s u v true:=by
 have:=fa' (A:=A) (s:=s) r1 r2 (.inl (by cases x<;>first|(cases h;done)|exact⟨rfl,fun b=>by intro z;cases z⟩))
 rw[decide_eq_true rfl]at this
 exact this
theorem cq' {n:Nat}:(aF n).all (fun _=>true)=true:=by simp
theorem hX' {its:List Value} {j:Nat} {u:Value} (e:its[j]?=some u) (h:j<its.toArray.size):its.toArray[j]=u:=by
 simp at h ⊢
 rw[ac h]at e
 exact Option.some.inj e
open PySem.SeqAt in
theorem cr' {n:Nat} {H:Hp} {A:Around} {s:Shared} {xs ys:List V} {its its2:List Value} (ih:∀x y u v,Dq H n x y->ay' x u->ay' y v->EqAt A.in1 s u v true) (hl:xs.length=ys.length) (r1:aB' xs its) (r2:aB' ys its2)
  (he:∀(i:Nat) x y,xs[i]?=some x->ys[i]?=some y->Dq H n x y):∀j (h1:j<its.toArray.size) (h2:j<its2.toArray.size),EqAt A.in1 s its.toArray[j] its2.toArray[j] ((fun _=>true) j):=by
 intro j h1 h2
 have l1:=r1.length
 have j1:j<xs.length:=by simp at h1;omega
 have j2:j<ys.length:=by omega
 have g1:xs[j]?=some xs[j]:=ac j1
 have g2:ys[j]?=some ys[j]:=ac j2
 obtain⟨u1,e1,ru1⟩:=r1.get g1
 obtain⟨u2,e2,ru2⟩:=r2.get g2
 rw[hX' e1 h1,hX' e2 h2]
 exact ih _ _ _ _ (he j _ _ g1 g2) ru1 ru2
open PySem.SeqAt in
theorem tn' {pins:List (Addr×Obj)} {σ:L2.St} {H:Hp} {s:Shared} (I:Inv X pins σ H s):∀(n:Nat) (A:Around) (x y:V) (u v:Value),A.units+n<cLine->Dq H n x y->ay' x u->ay' y v->EqAt A s u v true:=by
 intro n
 induction n with
 |zero=>
  rintro A x y u v hu ⟨rfl,hs⟩ r1 r2
  exact tm' hs r1 r2
 |succ n ih=>
  rintro A x y u v hu h rx ry
  rcases h with⟨rfl,hs⟩|⟨a,b,xs,ys,rfl,rfl,hab,hl,he⟩
  .exact tm' hs rx ry
  cases rx
  cases ry
  by_cases hne:a=b
  .subst hne;exact EqAt.same _
  have ih':∀x y u v,Dq H n x y->ay' x u->ay' y v->EqAt A.in1 s u v true:=fun x y u v=>ih A.in1 x y u v (by show A.units+1+n<cLine;omega)
  rcases hab with⟨h1,h2⟩|⟨h1,h2⟩
  .obtain⟨its,r1,pl1,_⟩:=I.list (SqL.of h1)
   obtain⟨its2,r2,pl2,_⟩:=I.list (SqL.of h2)
   have l1:=r1.length
   have l2:=r2.length
   have:=RcAt.lists pl1.isList pl2.isList (by simp;omega) (by omega) (cr' ih' hl r1 r2 he)
   rw[cq']at this
   exact EqAt.of_refs hne this
  .obtain⟨its,r1,pl1,_⟩:=I.tuple (SqT.of h1)
   obtain⟨its2,r2,pl2,_⟩:=I.tuple (SqT.of h2)
   have l1:=r1.length
   have l2:=r2.length
   have:=RcAt.tuples pl1 pl2 (by omega) (cr' ih' hl r1 r2 he)
   rw[cq']at this
   have e:(true&&its.toArray.size == its2.toArray.size)=true:=by simp;omega
   rw[e]at this
   exact EqAt.of_refs hne this
def y7':R2:=fun x y H Q=>∃a b xs ys,x=.ref a/\y=.ref b/\H a=some (.tup xs)/\H b=some (.tup ys)/\xs.length=ys.length/\LEq xs ys/\Q (.bl (decide (xs=ys))) H
open PySem.SeqAt in
theorem to' (hu:X.A.units+64<cLine):OpR X (compareOp .Eq) y7':=by
 intro pins s σ H x y v u Q I rx ry h
 obtain⟨p,q,xs,ys,rfl,rfl,hp,hq,hl,he,k⟩:=h
 cases rx
 cases ry
 obtain⟨its,r1,pl1,_⟩:=I.tuple (SqT.of hp)
 obtain⟨its2,r2,pl2,_⟩:=I.tuple (SqT.of hq)
 have l1:=r1.length
 have l2:=r2.length
 refine eq_tupleAt (e:=fun i=>decide (xs[i]?=ys[i]?)) pl1 pl2 (by omega) (fun j h1 h2=>?_) ?_
 .have j1:j<xs.length:=by simp at h1;omega
  have j2:j<ys.length:=by omega
  have g1:xs[j]?=some xs[j]:=ac j1
  have g2:ys[j]?=some ys[j]:=ac j2
  obtain⟨u1,e1,ru1⟩:=r1.get g1
  obtain⟨u2,e2,ru2⟩:=r2.get g2
  rw[hX' e1 h1,hX' e2 h2,g1,g2]
  have e3:decide (some xs[j]=some ys[j])=decide (xs[j]=ys[j]):=by simp
  rw[e3]
  exact fa' ru1 ru2 (he j _ _ g1 g2)
 .have e4:(aF (min its.toArray.size its2.toArray.size)).all (fun i=>decide (xs[i]?=ys[i]?))=decide (xs=ys):=by
   rw[ao,ao,<- l1,<- l2,<- hl,Nat.min_self];exact jX' hl
  have e5:(its.toArray.size == its2.toArray.size)=true:=by simp;omega
  rw[e4,e5,Bool.and_true]
  exact⟨.bl _,H,I,rfl,k⟩
def wr' (neg:Bool):R2:=fun x y H Q=>(∃n,n<=8/\Dq H n x y/\(∃a b,x=.ref a/\y=.ref b)/\Q (.bl (!neg)) H)\/(neg=false/\y7' x y H Q)
theorem Dq.open {H:Hp} {n:Nat} {a b:Addr} (h:Dq H n (.ref a) (.ref b)):∃m xs ys,n=m+1/\((H a=some (.lst xs)/\H b=some (.lst ys))\/(H a=some (.tup xs)/\H b=some (.tup ys)))/\xs.length=ys.length/\∀(i:Nat) x y,xs[i]?=some x->ys[i]?=some y->Dq H m x y:=by
 cases n with
 |zero=>exact(ap h.2).elim
 |succ m=>
  rcases h with⟨_,hs⟩|⟨a',b',xs,ys,e1,e2,hab,hl,he⟩
  .cases hs
  .cases e1;cases e2;exact⟨m,xs,ys,rfl,hab,hl,he⟩
open PySem.SeqAt in
theorem tp' (hu:X.A.units+64<cLine):OpR X (compareOp .Eq) (wr' false):=by
 intro pins s σ H x y v u Q I rx ry h
 rcases h with h|⟨_,h⟩
 case inr=>exact to' hu pins s σ H x y v u Q I rx ry h
 obtain⟨n,hn,hd,⟨a,b,rfl,rfl⟩,k⟩:=h
 cases rx
 cases ry
 obtain⟨m,xs,ys,rfl,hab,hl,he⟩:=hd.open
 have ih':∀x y u v,Dq H m x y->ay' x u->ay' y v->EqAt X.A.in1 s u v true:=fun x y u v=>tn' I m X.A.in1 x y u v (by show X.A.units+1+m<cLine;omega)
 rcases hab with⟨h1,h2⟩|⟨h1,h2⟩
 .obtain⟨its,r1,pl1,_⟩:=I.list (SqL.of h1)
  obtain⟨its2,r2,pl2,_⟩:=I.list (SqL.of h2)
  have l1:=r1.length
  have l2:=r2.length
  refine eq_listAt pl1.isList pl2.isList (by simp;omega) (by omega) (cr' ih' hl r1 r2 he) ?_
  rw[cq']
  exact⟨.bl true,H,I,rfl,k⟩
 .obtain⟨its,r1,pl1,_⟩:=I.tuple (SqT.of h1)
  obtain⟨its2,r2,pl2,_⟩:=I.tuple (SqT.of h2)
  have l1:=r1.length
  have l2:=r2.length
  refine eq_tupleAt pl1 pl2 (by omega) (cr' ih' hl r1 r2 he) ?_
  have e:(true&&its.toArray.size == its2.toArray.size)=true:=by simp;omega
  rw[cq',e]
  exact⟨.bl true,H,I,rfl,k⟩
open PySem.SeqAt in
theorem tq' (hu:X.A.units+64<cLine):OpR X (compareOp .NotEq) (wr' true):=by
 intro pins s σ H x y v u Q I rx ry h
 rcases h with h|⟨hf,_⟩
 case inr=>cases hf
 obtain⟨n,hn,hd,⟨a,b,rfl,rfl⟩,k⟩:=h
 cases rx
 cases ry
 obtain⟨m,xs,ys,rfl,hab,hl,he⟩:=hd.open
 have ih':∀x y u v,Dq H m x y->ay' x u->ay' y v->EqAt X.A.in1 s u v true:=fun x y u v=>tn' I m X.A.in1 x y u v (by show X.A.units+1+m<cLine;omega)
 have hend:EP X pins σ Q (Value.bool false) s:=⟨.bl false,H,I,rfl,k⟩
 rcases hab with⟨h1,h2⟩|⟨h1,h2⟩
 .obtain⟨its,r1,pl1,_⟩:=I.list (SqL.of h1)
  obtain⟨its2,r2,pl2,_⟩:=I.list (SqL.of h2)
  have l1:=r1.length
  have l2:=r2.length
  obtain⟨⟨cls,dd,data,sl⟩,ho,hc,n1,hd1⟩:=pl1.isList
  obtain⟨⟨cls2,dd2,data2,sl2⟩,ho2,hc2,n2,hd2⟩:=pl2.isList
  simp only at hc hd1 hc2 hd2
  subst hc hd1 hc2 hd2
  refine richCompare_meets_room (op:=.NotEq) ⟨_,ho,rfl⟩ ⟨_,ho2,rfl⟩ F.slot_list_ne F.entry_list_ne (F.args_list_ne_2 _ _) (list_neAt a b its.toArray its2.toArray n1 n2 dd dd2 sl sl2 (by simp;omega) (fun _=>true)) ⟨ho,ho2,cr' ih' hl r1 r2 he,?_⟩ (by omega)
  rw[cq']
  exact(show Value.bool false≠Value.notImplemented/\EP X pins σ Q (Value.bool false) s from⟨(fun x=>nomatch x),hend⟩)
 .obtain⟨its,r1,pl1,_⟩:=I.tuple (SqT.of h1)
  obtain⟨its2,r2,pl2,_⟩:=I.tuple (SqT.of h2)
  have l1:=r1.length
  have l2:=r2.length
  obtain⟨⟨cls,dd,data,sl⟩,ho,hc,n1,hd1⟩:=id pl1
  obtain⟨⟨cls2,dd2,data2,sl2⟩,ho2,hc2,n2,hd2⟩:=id pl2
  simp only at hc hd1 hc2 hd2
  subst hc hd1 hc2 hd2
  refine richCompare_meets_room (op:=.NotEq) ⟨_,ho,rfl⟩ ⟨_,ho2,rfl⟩ F.slot_tuple_ne F.entry_tuple_ne (F.args_tuple_ne_2 _ _) (tuple_neAt a b its.toArray its2.toArray n1 n2 dd dd2 sl sl2 (fun _=>true)) ⟨ho,ho2,cr' ih' hl r1 r2 he,?_⟩ (by omega)
  have e:(true&&its.toArray.size == its2.toArray.size)=true:=by simp;omega
  rw[cq',e]
  exact(show Value.bool false≠Value.notImplemented/\EP X pins σ Q (Value.bool false) s from⟨(fun x=>nomatch x),hend⟩)
end
end L2
namespace HT
open PySem PyProof.Rows
open PySem.SeqAt
open PySem.MeetsSeq PySem.MeetsSeq2 PySem.MeetsSeq3
section
variable {prog:Program} {w:World} {A:Around} {E:Value->Shared->Prop} {s:Shared}
theorem mJ' {t b:Addr} {ws:List Value} {Q:Value->Shared->Prop} (ht:IsTup s.heap t #[]) (hb:IsTup s.heap b ws.toArray) (h0:Q (.ref b) s):wpAny (model prog w) A (binaryOp .Add (.ref t) (.ref b)) Q E s:=by
 obtain⟨⟨cls,dd,data,sl⟩,ho,hc,n,hd⟩:=id ht
 obtain⟨⟨cls2,dd2,data2,sl2⟩,ho2,hc2,n2,hd2⟩:=id hb
 simp only at hc hd hc2 hd2
 subst hc hd hc2 hd2
 exact concat_meets ⟨_,ho,rfl⟩ ⟨_,ho2,rfl⟩ noFill_tuple_add seq_tuple_add PySem.F.slot_tuple_add PySem.F.entry_tuple_add (PySem.F.args_tuple_add_2 _ _)
  (tuple_addW0 t b #[] ws.toArray n n2 dd dd2 sl sl2 rfl) ⟨ho,ho2,h0⟩
end
end HT
namespace L2
open PySem PySem.Spec PyProof.Rows
section
variable {X:Cx}
def ou' (K:W.Frag):R2:=fun x y H Q=>∃a b ys,x=.ref a/\y=.ref b/\SqT K H a []/\SqT K H b ys/\Q (.ref b) H
theorem mK':OpR X (binaryOp .Add) (ou' X.K):=by
 intro pins s σ H x y v u Q I rx ry h
 obtain⟨a,b,ys,rfl,rfl,ha,hb,q⟩:=h
 cases rx
 cases ry
 obtain⟨its,r1,p1,_⟩:=I.tuple ha
 obtain⟨its2,r2,p2,_⟩:=I.tuple hb
 have e:its=[]:=r1.nil_iff.mpr rfl
 subst e
 exact HT.mJ' p1 p2 ⟨.ref b,H,I,rfl,q⟩
end
end L2
namespace L2
open PySem PySem.Spec PyProof.Rows PySem.Calls PySem.NumText
def B2 (x:PySem.Str) (n:Int):Prop:=(x.cps.all (· < 128))=true/\(x.cps.toList.takeWhile (· != 0)).length<=640/\(int_private% "readNumeral") 0 2 (x.cps.toList.takeWhile (· != 0))=(int_private% "Numeral.value") n/\((x.cps.toList.takeWhile (· != 0)).length == x.cps.toList.length)=true
theorem mL' {M:Model} {A:Around} {E:Value->Shared->Prop} {s:Shared} {Q:Value->Shared->Prop} {v:Value} {text:List Nat} {n:Int}
  (hs:(text.takeWhile (· != 0)).length<=640) (hr:(int_private% "readNumeral") 0 2 (text.takeWhile (· != 0))=(int_private% "Numeral.value") n)
  (ha:((text.takeWhile (· != 0)).length == text.length)=true) (h:Q (.int n s.toks) { s with toks:=s.toks+1 }):
  wpAny M A ((int_private% "intFromText") v text 2) Q E s:=by
 obtain⟨hp,g,d,tk,os⟩:=s
 repeat (any_goals (first
  |assumption
  |(with_reducible refine wpAny_ite_true (decide_eq_true hs) ?_)
  |(with_reducible refine wpAny_ite_true (decide_eq_true ha) ?_)
  |wp_step))
 all_goals (try rw[hr])
 all_goals (try dsimp only)
 repeat (any_goals (first
  |assumption
  |(with_reducible refine wpAny_ite_true (decide_eq_true hs) ?_)
  |(with_reducible refine wpAny_ite_true (decide_eq_true ha) ?_)
  |wp_step))
set_option maxHeartbeats 4000000 in
theorem gQ' {x:PySem.Str} {u v:Tok} {n:Int} (hb:B2 x n):Gives (Builtin.«int.__new__» ⟨[.type "int",.str x u,.int 2 v],[]⟩) (.int n):=
 .of_wp fun M A E s Q h=>by
  obtain⟨hp,g,d,tk,os⟩:=s
  have f1:=F.conv_sub_int
  have f2:=F.madeHere_int
  have f6:typeOf (.str x u)=pure (.type "str"):=rfl
  have hk:=W.KIN.Hid.mk hb
  clear hb
  repeat (any_goals (first
   |assumption
   |((with_reducible show wpAny _ _ ((int_private% "intFromText") _ _ _) _ _ _);rw[if_pos hk.out.1];refine mL' hk.out.2.1 hk.out.2.2.1 hk.out.2.2.2 ?_)
   |wp_step))
  all_goals first|exact⟨_,rfl,h⟩|skip
theorem eo' (a b:Value):checkTypeCall "int" ⟨[a,b],[]⟩=pure ():=by kernel_rfl
theorem fh' (a b:Value):checkBuiltinCall "int.__new__" ⟨[.type "int",a,b],[]⟩=pure ():=by kernel_rfl
section
variable {X:Cx}
def tr':List V->Hp->VK->Prop:=fun xs H Q=>∃x n,xs=[.str x,.int 2]/\B2 x n/\Q (.int n) H
theorem kt':aP' X (.type "int") tr':=by
 intro pins s σ H xs us Q I r h
 obtain⟨x,n,rfl,hb,q⟩:=h
 obtain⟨u,v,rfl,⟨t,rfl⟩,⟨t',rfl⟩⟩:=mg' r
 exact callType_new F.called_int F.newNe_int (eo' _ _) (fh' _ _) (fun obj=>F.args_object_init_3 obj _ _) F.entry_int_new (gQ' hb).meets (show(Made.int n).post _ s from⟨rfl,⟨.int n,H,I.tok _,⟨_,rfl⟩,q⟩⟩)
theorem ku':aP' X (.type "int") (fun xs H Q=>yX' xs H Q\/tr' xs H Q):=jR'.or kt'
end
section
variable {X:Cx}
end
end L2
namespace PySem
open PyProof.Rows
def Heap.IsRvd (h:Heap) (a t:Addr) (i:Int):Prop:=∃o,h.get? a=some o/\o.cls=.type "reversed"/\o.data=.fields #[.ref t,rawInt i]
theorem Heap.IsRvd.at {h h':Heap} {a t:Addr} {i:Int} (x:h.IsRvd a t i) (e:∀o,h.get? a=some o->h'.get? a=some o):h'.IsRvd a t i:=let⟨o,ho,r⟩:=x;⟨o,e _ ho,r⟩
section
variable {prog:Program} {w:World} {A:Around} {E:Value->Shared->Prop} {s:Shared}
theorem Heap.IsRvd.typeIs {a t:Addr} {i:Int} (x:s.heap.IsRvd a t i):s.TypeIs (.ref a) "reversed":=let⟨o,ho,hc,_⟩:=x;⟨o,ho,hc⟩
end
section
variable {prog:Program} {w:World} {A:Around} {E:Value->Shared->Prop} {s:Shared}
end
section
variable {prog:Program} {w:World} {A:Around} {E:Value->Shared->Prop} {s:Shared}
end
end PySem
namespace PySem
open PyProof.Rows
def Heap.IsSti (h:Heap) (a d:Addr) (f:Value) (i n ep:Nat):Prop:=∃o,h.get? a=some o/\o.cls=.type "set_iterator"/\o.data=.fields #[f,rawInt i,.ref d,rawInt n,rawInt ep]
theorem Heap.IsSti.at {h h':Heap} {a d:Addr} {f:Value} {i n ep:Nat} (x:h.IsSti a d f i n ep) (e:∀o,h.get? a=some o->h'.get? a=some o):h'.IsSti a d f i n ep:=let⟨o,ho,r⟩:=x;⟨o,e _ ho,r⟩
def Ord (bt:Bool) (w:World) (d ep:Nat) (es:Array (Int×Value)) (t:SetTable) (xs:Array Value) (h:Heap) (f:Value) (i:Nat):Prop:=
 (bt=true/\f=rawInt 0/\xs=(pickOrder (w.params.setOrder d ep) es).map (·.2))\/
 (bt=false/\(!t.plain&&decide (es.size > 1))=false/\Rsn t.place/\f=rawInt (if i=0 then 0 else((t.place.getD (i-1) 0+1:Nat):Int))/\xs=es.map (·.2))\/
 (bt=false/\∃(T:Addr) (pl:Array Nat),f=.ref T/\IsTup h T (pl.map fun(j:Nat)=>rawInt j)/\xs.size=pl.size/\∀(j p:Nat),pl[j]?=some p->∃x:Int×Value,es[p]?=some x/\xs[j]?=some x.2)
section
variable {prog:Program} {w:World} {A:Around} {E:Value->Shared->Prop} {s:Shared}
theorem Heap.IsSti.typeIs {a d:Addr} {f:Value} {i n ep:Nat} (x:s.heap.IsSti a d f i n ep):s.TypeIs (.ref a) "set_iterator":=let⟨o,ho,hc,_⟩:=x;⟨o,ho,hc⟩
theorem hY' {α:Type}:∀(l:List α) (i:Nat) (h:i<l.length),(l[i] :: l.eraseIdx i).Perm l
 |a :: l,0,h=>List.Perm.refl _
 |a :: l,i+1,h=>by
  rw[List.eraseIdx_cons_succ,List.getElem_cons_succ]
  exact(List.Perm.swap a _ _).trans ((hY' l i (by simpa using h)).cons a)
theorem kv' {α:Type} (f:Nat->Nat):∀(n k:Nat) (l:List α) (out:Array α),n=l.length->(pickOrder.go f n k l out).toList.Perm (out.toList++l)
 |0,k,l,out,e=>by
  have:l=[]:=List.length_eq_zero_iff.mp e.symm
  subst this
  unfold pickOrder.go
  simp
 |n+1,k,l,out,e=>by
  unfold pickOrder.go
  have hl:f k % l.length<l.length:=Nat.mod_lt _ (by omega)
  rw[ac hl]
  dsimp only
  refine(kv' f n (k+1) _ _ (by rw[List.length_eraseIdx_of_lt hl];omega)).trans ?_
  rw[bW,aT]
  refine List.Perm.append_left _ ?_
  rw[List.singleton_append]
  exact hY' l _ hl
theorem ts' {α:Type} (f:Nat->Nat) (xs:Array α):(pickOrder f xs).toList.Perm xs.toList:=by
 have:=kv' f xs.size 0 xs.toList #[] (by simp)
 simpa[pickOrder]using this
end
end PySem
namespace PySem
open PyProof.Rows
section
variable {prog:Program} {w:World} {A:Around} {E:Value->Shared->Prop} {s:Shared}
end
end PySem
namespace PySem
open PyProof.Rows
section
variable {prog:Program} {w:World}
variable {A:Around} {E:Value->Shared->Prop} {s:Shared}
end
end PySem
namespace L2
open PySem PySem.Spec PyProof.Rows
def xh' (neg:Bool) (ty td:TE):TE:=fun σ H Q=>ty σ H fun y H1=>td σ H1 fun x H2=>(∃a o,x=.ref a/\e4' H2 a y o/\Q (.bl (if neg then !o.isSome else o.isSome)) H2)\/wn' neg y x H2 Q\/wq' neg y x H2 Q
def kw' (td ty:TE):TE:=fun σ H Q=>td σ H fun x H1=>∃a,x=.ref a/\IsD H1 a/\ty σ H1 fun y H2=>(∃o,e4' H2 a y o/\Q (o.getD .non) H2)\/(y=.non/\NoN H2 a/\Q .non H2)
section
variable {X:Cx} {o e f i:Expr} {apos cpos:Pos} {td ty tx:TE}
theorem ov' (hu:X.A.units+1<cLine) (hi:PE X i ty) (ho:PE X o td):PC X .In i o (xh' false ty td):=by
 intro pins s σ H Q I h
 refine thn (hi pins s σ H _ I h) fun iv s1 ⟨y,H1,I1,ry,q1⟩=>thn (ho pins s1 σ H1 _ I1 q1) fun u s2 ⟨x,H2,I2,rx,q2⟩=>?_
 rcases q2 with⟨a,ov,ex,g,q2⟩|q2|q2
 .subst ex
  obtain rfl:u=Value.ref a:=rx
  exact zH' hu I2 g ry fun s3 I3=>⟨.bl ov.isSome,H2,I3,rfl,q2⟩
 .exact sY' pins s2 σ H2 y x iv u Q I2 ry rx q2
 .exact td' hu pins s2 σ H2 y x iv u Q I2 ry rx q2
theorem f0' (hu:X.A.units+1<cLine) (hi:PE X i ty) (ho:PE X o td):PC X .NotIn i o (xh' true ty td):=by
 intro pins s σ H Q I h
 refine thn (hi pins s σ H _ I h) fun iv s1 ⟨y,H1,I1,ry,q1⟩=>thn (ho pins s1 σ H1 _ I1 q1) fun u s2 ⟨x,H2,I2,rx,q2⟩=>?_
 rcases q2 with⟨a,ov,ex,g,q2⟩|q2|q2
 .subst ex
  obtain rfl:u=Value.ref a:=rx
  exact pL' hu I2 g ry fun s3 I3=>⟨.bl (!ov.isSome),H2,I3,rfl,q2⟩
 .exact j2' pins s2 σ H2 y x iv u Q I2 ry rx q2
 .exact kk' hu pins s2 σ H2 y x iv u Q I2 ry rx q2
theorem mM' (hu:X.A.units+1<cLine) (ho:PE X o td) (he:PE X e ty) (m:M1 X o "get" apos e cpos):PE X (.Call (.Attribute o "get" apos) [e] [] cpos) (kw' td ty):=by
 intro pins s σ H Q I h
 refine wpAny_Call_method m.base m.few m.line PySem.F.plainAttrs_dict PySem.F.slot_dict_get PySem.F.type_dict_get (thn (ho pins s σ H _ I h) fun u s1 ⟨x,H1,I1,rx,a,ex,d,q1⟩=>?_)
 subst ex
 obtain rfl:u=Value.ref a:=rx
 obtain⟨t1,t2,_⟩:=sH' I1 d
 refine⟨t1,t2,?_⟩
 rw[m.trees]
 refine Calls.callWith_builtin rfl (Calls.evalArgs_plain (Calls.spliced_cons (thn (he pins s1 σ H1 _ I1 q1) fun iv s2 ⟨y,H2,I2,ry,q2⟩=>Calls.spliced_nil ?_)))
 rcases q2 with⟨ov,g,q2⟩|⟨ey,g,q2⟩
 .exact sI' hu I2 g ry fun w' s3 I3 rw'=>⟨_,H2,I3,rw',q2⟩
 .subst ey
  obtain rfl:iv=Value.none:=ry
  exact sZ' I2 g fun s3 I3=>⟨.non,H2,I3,rfl,q2⟩
end
abbrev tt' (own:List Nat) (wi:TI) (g:TG) (tc:TT) (au':TL ((Option Int->Bool)×Nat)):TE:=dO' own wi g tc au' (fun _=>false,0) (fun p a=>eF' p a.1 a.2) fun _ _=>True
abbrev tu' (own:List Nat) (wi:TI) (g:TG) (tc:TT) (tk tv:TE):TE:=dO' own wi g tc (hP' tk tv) [] (fun _ a=>.dK a) fun _ _=>True
abbrev tv' (own:List Nat) (wi:TI) (g:TG) (tc:TT) (tk tv:TE):TE:=dO' own wi g tc (hQ' tk tv) [] (fun _ a=>.dT (plT a)) okT
section
variable {X:Cx} {e:Expr} {scope:Scope} {tg iter:Expr} {ifs:List Expr} {nx:Addr->Env->Sem Unit} {g:TG} {tc:TT} {own:List Nat} {wi:TI}
theorem p6' {P:Program} {w:World} (a:(Option Int->Bool)×Nat) (o:Obj) (D:Addr) (H:Hp) (h:Heap) (i:IsS a o) (e:h.get? D=some o) (_:(D == sysModules)=false) (_:H D=none) (_:True) (_:HOk P w H h):av' P w (upd H D (eF' D a.1 a.2)) h D (eF' D a.1 a.2):=j0' e i
theorem p7' {α:Type} {Is:α->Obj->Prop} {au':TL α} {a0:α} {o0:Bool->Obj} {newAcc:Sem Value} {ho:Addr->α->HO} {ok:α->Hp->Prop} {i:Nat} {y:Str} {py pos pos2:Pos}
  (hnew:∀(s:Shared) (Q:Value->Shared->Prop),(∀led,Q (.ref s.heap.objs.size) { s with heap:=s.heap.push (o0 led) })->wpAny (model X.prog X.w) X.A newAcc Q X.xe s) (hfr:∀led,(o0 led).isFreed=false) (ha0:∀led,Is a0 (o0 led)) (hda:∀(a:α) (o:Obj),Is a o->∀v:Option Value,o.data≠.cell v)
  (hfin:∀(a:α) (o:Obj) (D:Addr) (H:Hp) (h:Heap),Is a o->h.get? D=some o->(D == sysModules)=false->H D=none->ok a H->HOk X.prog X.w H h->av' X.prog X.w (upd H D (ho D a)) h D (ho D a))
  (C:CompInG Is X e scope tg iter ifs nx g tc au' own) (hi:PI X tg iter wi) (hN:X.N.Nodup) (hy:X.N[i]?=some y) (hx:Loc X.env.scope y) (hf:X.fn y=true\/X.env.scope.names.lookup y=some .local)
  (hG:PG X (.Name y py) (cO' i))
  (he:eval e X.env=comprehension e scope X.env pos2 newAcc false (eval iter X.env))
  (he2:evalThenUse e X.env (assign (.Name y py) X.env)=(do let _ <- comprehension e scope X.env pos2 newAcc false (eval iter X.env) (some (assign (.Name y py) X.env))))
  (hsw:∃b,swapsWith e (some (.Name y py)) pos.line X.env=pure b):PS X (.Assign [.Name y py] e pos) (jh' (dO' own wi g tc au' a0 ho ok) (cO' i)):=by
 obtain⟨b,hb⟩:=hsw
 cases b with
 |true=>exact gH' hnew hfr ha0 hda hfin C hi hN hy hx hf he2 hb
 |false=>exact hG' (mz' hnew hfr ha0 hda hfin C hi he) hG hb rfl
end
theorem tw':∀{l b:List Int},l.Nodup->(∀i∈l,i∈b)->l.length<=b.length
 | [],_,_,_=>aO _
 |a :: l,b,h,hs=>by
  have ha:a∈b:=hs a (by simp)
  have:=tw' (l:=l) (b:=b.erase a) (bu.mp h).2 fun i hi=>by
   have hne:i≠a:=fun e=>(bu.mp h).1 (by rw[<- e];exact hi)
   exact(List.mem_erase_of_ne hne).mpr (hs i (by simp[hi]))
  rw[List.length_erase_of_mem ha]at this
  have:=List.length_pos_of_mem ha
  rw[aV]
  omega
section
variable {prog:Program} {w:World} {A:Around} {E:Value->Shared->Prop} {s:Shared}
end
section
variable {X:Cx}
variable {e:Expr} {scope:Scope} {tg iter:Expr} {ifs:List Expr} {nx:Addr->Env->Sem Unit} {g:TG} {tc:TT} {au':TL ((Option Int->Bool)×Nat)} {own:List Nat} {wi:TI}
end
section
variable {X:Cx}
end
end L2
namespace HT
open PySem PyProof.Rows
section
variable {prog:Program} {w:World} {A:Around} {E:Value->Shared->Prop} {s:Shared}
theorem cA' {t sl:Addr} {items:Array Value} {vl vu:Value} {lo hi:Option Int} {Q:Value->Shared->Prop} (ht:IsTup s.heap t items) (hs:s.heap.IsSliceOf sl vl vu .none) (pl:IsPart vl lo) (pu:IsPart vu hi)
  (hw:sIx items.size 0 lo=0/\sIx items.size items.size hi=items.size)
  (h:Q (.ref t) s):wpAny (model prog w) A (getItem (.ref t) (.ref sl)) Q E s:=by
 obtain⟨os,hos,hcs,hds⟩:=id hs
 have hTs:s.TypeIs (.ref sl) "slice":=⟨os,hos,hcs⟩
 unfold getItem
 try with_reducible refine aE ?_
 first|refine aa (ae ?_)|skip
 refine aa (wpAny_sequenceKey ht.typeIs (by decide) ?_)
 refine aa (aN (name:=Str.ofString "__getitem__") ht.typeIs PyProof.Rows.slot_tuple_getitem
  (aU PyProof.Rows.slot_tuple_getitem ht.typeIs entry_tuple_getitem ?_ (args_tuple_getitem _ _)))
 show wpAny _ _ (Builtin.Tuple.tupleItemsOf (.ref t) >>= _) _ _ s
 refine aa (tupleItemsOf_ ht ?_)
 refine aa (wpAny_typeOf hTs ?_)
 rw[if_pos (by decide)]
 refine aa (b9' hs pl pu ?_)
 have hyes:(((sIx items.size 0 lo:Nat):Int) == 0&&(1:Int) == 1&&(sIx items.size items.size hi-sIx items.size 0 lo) == items.size)=true:=by
  rw[hw.1,hw.2]
  simp
 show wpAny _ _ (if(((sIx items.size 0 lo:Nat):Int) == 0&&(1:Int) == 1&&(sIx items.size items.size hi-sIx items.size 0 lo) == items.size)=true then _ else _) _ _ s
 rw[if_pos hyes]
 obtain⟨ot,hot,hct,nt,hdt⟩:=id ht
 refine aa (wpAny_mono (Q:=fun b s'=>b=true/\s'=s) (E:=E) ?_ ?_ (fun _ _ z=>z))
 .unfold Builtin.Tuple.tupleIsExact
  exact aa (wpAny_typeOf ht.typeIs (ae ⟨rfl,rfl⟩))
 .rintro b s' ⟨rfl,rfl⟩
  rw[if_pos rfl]
  exact aa (bV (ae ⟨_,rfl,ae h⟩))
end
end HT
namespace L2
open PySem PySem.Spec PyProof.Rows
section
variable {X:Cx}
def wt' (K:W.Frag):V->Option Int->Option Int->Hp->VK->Prop:=fun x lo hi H Q=>∃a xs,x=.ref a/\SqT K H a xs/\(HT.sIx xs.length 0 lo=0/\HT.sIx xs.length xs.length hi=xs.length)/\Q (.ref a) H
theorem mN':SlR X (wt' X.K):=by
 intro pins s σ H x v vl vu lo hi sl Q I rx hs pl pu h
 obtain⟨a,xs,rfl,hx,hw,q⟩:=h
 cases rx
 obtain⟨its,r,ht,hz⟩:=I.tuple hx
 have hlen:its.toArray.size=xs.length:=by rw[ao];exact r.length.symm
 refine⟨"tuple",_,PyProof.Rows.slot_tuple_getitem.lookup,ht.typeIs,?_⟩
 exact HT.cA' ht hs pl pu (by rw[hlen];exact hw) ⟨.ref a,H,I,rfl,q⟩
end
section
variable {X:Cx} {pins:List (Addr×Obj)} {σ:St} {H:Hp} {s:Shared}
variable {X:Cx}
end
end L2
namespace HT
open PySem PyProof.Rows
section
variable {prog:Program} {w:World} {A:Around} {E:Value->Shared->Prop} {s:Shared}
end
end HT
namespace L2
open PySem PySem.Spec PyProof.Rows
section
variable {X:Cx} {e st:Expr} {te:TE} {p2 pos:Pos}
end
section
variable {prog:Program} {w:World} {A:Around} {E:Value->Shared->Prop} {s:Shared} {b0:Array Keyed} {κ:PyProof.Rows.KeyKind}
set_option tactic.hygienic true in
theorem ow':∀(f n r:Nat),r<=1->minRun' f n r<=n+r
 |0,n,r,_=>by show n+r<=n+r;omega
 |f+1,n,r,hr=>by
  rw[minRun'_succ]
  split
  .omega
  .rename_i h
   have:=ow' f (n / 2) (max r (n % 2)) (by omega)
   omega
theorem p8' {n:Nat}:minRun' n n 0<=n:=ow' n n 0 (by omega)
def tx' (b0:Array Keyed) (st:SortSt):Prop:=arrOf st=b0/\failedOf st=none/\pendingOf st=#[(0,b0.size,0)]
end
section
variable {X:Cx}
end
section
variable {prog:Program} {w:World} {A:Around} {E:Value->Shared->Prop} {s:Shared} {b0:Array Keyed} {κ:SortKind}
def UpK (prog:Program) (w:World) (A:Around) (s:Shared) (κ:SortKind) (b0:Array Keyed):Prop:=
 ∀i x y,1<=i->b0[i]?=some x->b0[i-1]?=some y->∀(E':Value->Shared->Prop) (Q':Bool->Shared->Prop),Q' false s->wpAny (model prog w) A (keyLt' κ x.1 y.1) Q' E' s
theorem xi' {st:SortSt} {i j:Nat} {x y:Keyed} {c:Bool} {Q:Option Bool->SortSt->Prop} (hi:(arrOf st)[i]?=some x) (hj:(arrOf st)[j]?=some y)
  (hc:∀(E':Value->Shared->Prop) (Q':Bool->Shared->Prop),Q' c s->wpAny (model prog w) A (keyLt' (kindOf st) x.1 y.1) Q' E' s) (h:Q (some c) st):wpS (model prog w) A E s (ltAt' i j) Q st:=by
 rw[ltAt'_eq]
 refine wpS_bind (wpS_get ?_)
 show wpS _ _ _ _ (do let x <- elem' (arrOf st) i;let y <- elem' (arrOf st) j;lt' x y) Q st
 rw[elem'_eq,elem'_eq,hi,hj]
 refine wpS_bind (wpS_pure (wpS_bind (wpS_pure ?_)))
 rw[lt'_eq]
 refine wpS_bind (wpS_get ?_)
 refine wpS_bind (wpS_lift (cn (hc _ _ ⟨rfl,?_⟩)))
 exact wpS_pure h
theorem ty' {st:SortSt} {Q:AscSt->SortSt->Prop} (hu:UpK prog w A s (kindOf st) (arrOf st)) (h1:1<=(arrOf st).size) (h:Q (none,(arrOf st).size) st):wpS (model prog w) A E s (ascLoop 1 (arrOf st).size) Q st:=by
 unfold ascLoop
 refine wpS_forRange (I:=fun x c st'=>c=(none,x)/\st'=st) (Q:=Q) ?_ ?_ ⟨rfl,rfl⟩
 .rintro i c st' hi1 h2 ⟨rfl,rfl⟩
  refine wpS_bind (xi' (x:=(arrOf st')[i]) (y:=(arrOf st')[i-1]) (c:=false) (aD h2) (aD (by omega)) (hu i _ _ hi1 (aD h2) (aD (by omega))) ?_)
  exact wpS_pure ⟨rfl,rfl⟩
 .rintro c st' ⟨rfl,rfl⟩
  rw[Nat.max_eq_right h1]
  exact h
theorem mO' {st:SortSt} {Q:Option Nat->SortSt->Prop} (hu:UpK prog w A s (kindOf st) (arrOf st)) (h1:1<=(arrOf st).size) (h:Q (some (arrOf st).size) st):wpS (model prog w) A E s (countRun' 0 (arrOf st).size) Q st:=by
 rw[countRun0_eq]
 refine wpS_bind (ty' hu h1 ?_)
 dsimp only
 rw[if_pos (by simp)]
 exact wpS_pure h
theorem p9' {st:SortSt} {Q:Unit->SortSt->Prop} (hu:UpK prog w A s (kindOf st) b0) (ha:arrOf st=b0) (hp:pendingOf st=#[]) (hf:failedOf st=none) (h2:2<=b0.size)
  (h:∀st',arrOf st'=b0->failedOf st'=none->Q () st'):wpS (model prog w) A E s sortRuns' Q st:=by
 rw[sortRuns'_eq]
 refine wpS_bind (wpS_get ?_)
 dsimp only
 have hm:minRun' b0.size b0.size 0<=b0.size:=p8'
 rw[ha]
 generalize minRun' b0.size b0.size 0=mr at hm
 refine wpS_bind (wpS_mono (wpS_forRange (I:=fun x c st'=>(x=0/\c=(none,0)/\st'=st)\/(1<=x/\c=(none,b0.size)/\tx' b0 st')) (Q:=fun c st'=>c=(none,b0.size)/\tx' b0 st') ?go ?out (.inl ⟨rfl,rfl,rfl⟩)) ?then_)
 case out=>
  rintro c st' (⟨z,_,_⟩|⟨_,e,W⟩)
  .omega
  .exact⟨e,W⟩
 case go=>
  rintro x c st' _ _ (⟨rfl,rfl,rfl⟩|⟨_,rfl,W⟩)
  .dsimp only
   rw[if_neg (by omega)]
   simp only[Nat.sub_zero,Nat.zero_add]
   subst ha
   refine wpS_bind (mO' hu (by omega) ?_)
   dsimp only
   rw[if_neg (by omega)]
   refine wpS_bind (wpS_get ?_)
   have e:(pendingOf st').back?=none:=by rw[hp];rfl
   rw[e]
   dsimp only
   refine wpS_bind (wpS_modify (wpS_pure (.inr ⟨by omega,rfl,rfl,hf,?_⟩)))
   show(pendingOf st').push _=_
   rw[hp];rfl
  .dsimp only
   rw[if_pos (ah _)]
   exact wpS_pure ⟨rfl,W⟩
 case then_=>
  rintro c st' ⟨rfl,W⟩
  dsimp only
  refine wpS_bind (wpS_mono (wpS_forRange (I:=fun _ c t=>t=st'/\c=(none,())) (Q:=fun c t=>t=st'/\c=(none,())) ?_ (fun _ _ z=>z) ⟨rfl,rfl⟩) ?_)
  .rintro x c t _ _ ⟨rfl,rfl⟩
   refine wpS_bind (wpS_get ?_)
   rw[if_pos (by rw[W.2.2];exact ah 1)]
   exact wpS_pure ⟨rfl,rfl⟩
  .rintro c t ⟨rfl,rfl⟩
   exact wpS_pure (h _ W.1 W.2.1)
def UpV (prog:Program) (w:World) (h0:Heap) (a:Addr) (vs:List Value):Prop:=
 2<=vs.length->∃κ:SortKind,∀(A:Around) (s:Shared),(∀b o,b≠a->h0.get? b=some o->s.heap.get? b=some o)->
  (∀(E:Value->Shared->Prop) (Q:SortKind->Shared->Prop),Q κ s->wpAny (model prog w) A (keyKind' vs.toArray) Q E s)/\UpK prog w A s κ (pairsOf vs)
theorem qa' {a:Addr} {vs:List Value} {n:Nat} {P:Fin->Shared->Prop} (ho:s.heap.get? a=some (seqObj "list" vs.toArray n)) (hu:UpV prog w s.heap a vs) (hz:vs.length<=sizeLine)
  (h:P (.done (.ret .none)) { s with heap:=sortedHeap s.heap a vs vs.toArray }):wpAny (model prog w) A (Builtin.«list.sort» ⟨[.ref a],[]⟩) P E s:=by
 have e2:(pairsOf vs).map (·.2)=vs.toArray:=by
  apply Array.toList_inj.mp
  rw[Array.toList_map,pairsOf_toList,List.map_snd_zip (ah _)]
 rw[list_sort_plain]
 have ha:a<s.heap.objs.size:=al ho
 refine aa (listItems_at ho rfl (aa (listUpdate_at ho rfl ?_)))
 obtain⟨e1,ho1⟩:∃e1,(s.heap.update a (Obj.mapSeq fun _=>#[])).get? a=some (seqObj "list" #[] e1):=⟨_,get?_update_seq ho (fun _=>#[])⟩
 refine aa (seqEpoch_at ho1 rfl (aa (wpAny_newTuple (aa (wpAny_newList (aE ?_))))))
 have ho6:(((s.heap.update a (Obj.mapSeq fun _=>#[])).push (seqObj "tuple" vs.toArray 0)).push (seqObj "list" #[] 0)).get? a=some (seqObj "list" #[] e1):=by
  rw[Heap.get?_push_ne _ _ _ (by rw[size_push',Heap.size_update];exact ax (bF ha)),Heap.get?_push_ne _ _ _ (by rw[Heap.size_update];exact ax ha)]
  exact ho1
 have keep:∀b o,b≠a->s.heap.get? b=some o->(((s.heap.update a (Obj.mapSeq fun _=>#[])).push (seqObj "tuple" vs.toArray 0)).push (seqObj "list" #[] 0)).get? b=some o:=fun b o hb q=>by
  have hlt:b<s.heap.objs.size:=al q
  rw[Heap.get?_push_ne _ _ _ (by rw[size_push',Heap.size_update];exact ax (bF hlt)),Heap.get?_push_ne _ _ _ (by rw[Heap.size_update];exact ax hlt),Heap.get?_update_ne _ _ _ _ hb]
  exact q
 show wpAny (model prog w) A _ P E { s with heap:=((s.heap.update a (Obj.mapSeq fun _=>#[])).push (seqObj "tuple" vs.toArray 0)).push (seqObj "list" #[] 0) }
 dsimp only
 have fin:=h
 by_cases h2:vs.toArray.size<2
 .rw[if_pos h2,if_pos h2]
  refine aa (ae ?_)
  rw[StateT.run_pure]
  refine aa (ae ?_)
  dsimp only
  refine aa (seqEpoch_at ho6 rfl (aa (listUpdate_at ho6 rfl ?_ (hsz2:=by rw[Array.size_map];show(pairsOf vs).size<=_;rw[pairsOf_size];exact Nat.le_succ_of_le hz))))
  simp only[bne_self_eq_false,aP,if_false]
  refine ae ?_
  rw[<- e2]at fin
  exact fin
 .rw[if_neg h2,if_neg h2]
  have h2':2<=vs.length:=by rw[ao]at h2;omega
  obtain⟨κ,hκ⟩:=hu h2'
  obtain⟨k1,k2⟩:=hκ A { s with heap:=((s.heap.update a (Obj.mapSeq fun _=>#[])).push (seqObj "tuple" vs.toArray 0)).push (seqObj "list" #[] 0) } keep
  refine aa (k1 _ _ ?_)
  refine aa (wpAny_mono (p9' (b0:=pairsOf vs) (st:=SortSt.mk' κ (pairsOf vs) #[] 7 none) (Q:=fun _ st'=>arrOf st'=pairsOf vs/\failedOf st'=none)
   k2 rfl rfl rfl (by rw[pairsOf_size];exact h2') fun st' a1 a2=>⟨a1,a2⟩) ?_ fun _ _ e=>e)
  rintro⟨⟨⟩,st'⟩ s' ⟨rfl,hp,hf⟩
  dsimp only
  refine aa (seqEpoch_at ho6 rfl (aa (listUpdate_at ho6 rfl ?_ (hsz2:=by rw[Array.size_map];show(arrOf st').size<=_;rw[hp,pairsOf_size];exact Nat.le_succ_of_le hz))))
  rw[hf]
  simp only[bne_self_eq_false,aP,if_false]
  refine ae ?_
  rw[<- e2,<- hp]at fin
  exact fin
end
section
variable {X:Cx}
end
end L2
namespace So
open PySem PySem.Spec PyProof.Rows
def kx':Bool->Keyed->Array Keyed->Nat->Nat->Nat->StateT SortSt Sem (Option Nat):=sortPriv% PySem.Builtin.gallop
section
variable {M:Model} {A:Around} {E:Value->Shared->Prop} {s:Shared} {O:KeyOrd} {ky:Keyed->O.α} {P:Keyed->Prop} {kd:SortKind}
structure Cmp (M:Model) (A:Around) (E:Value->Shared->Prop) (s:Shared) (O:KeyOrd) (ky:Keyed->O.α) (P:Keyed->Prop) (kd:SortKind):Prop where
 lt:∀{x y:Keyed} {st:SortSt} {Q:Option Bool->SortSt->Prop},P x->P y->kindOf st=kd->Q (some (O.blt (ky x) (ky y))) st->wpS M A E s (lt' x y) Q st
theorem hZ' {a:Array Keyed} {i:Nat} {x:Keyed} {Q:Keyed->SortSt->Prop} {st:SortSt} (e:a[i]?=some x) (h:Q x st):wpS M A E s (elem' a i) Q st:=by
 rw[elem'_eq,e];exact wpS_pure h
end
end So
namespace So
open PySem PySem.Spec PyProof.Rows
structure Mg (R:Keyed->Keyed->Prop) (T o ra rb:List Keyed):Prop where
 pm:(o++(ra++rb)).Perm T
 so:o.Pairwise R
 sa:ra.Pairwise R
 sb:rb.Pairwise R
 oa:∀x∈o,∀y∈ra,R x y
 ob:∀x∈o,∀y∈rb,R x y
section
variable {R:Keyed->Keyed->Prop} {T o ra rb:List Keyed}
theorem Mg.swap (m:Mg R T o ra rb):Mg R T o rb ra:=⟨(List.Perm.append_left o List.perm_append_comm).trans m.pm,m.so,m.sb,m.sa,m.ob,m.oa⟩
theorem Mg.put {u:List Keyed} (m:Mg R T o (u++ra) rb) (h:∀y∈u,∀z∈rb,R y z):Mg R T (o++u) ra rb:=by
 have⟨s1,s2,s3⟩:=bJ.mp m.sa
 refine⟨?_,bJ.mpr ⟨m.so,s1,fun x hx y hy=>m.oa x hx y (ba _ hy)⟩,s2,m.sb,?_,?_⟩
 .have:=m.pm;simpa[aT]using this
 .intro x hx y hy
  rcases aH.mp hx with hx|hx
  .exact m.oa x hx y (aj _ hy)
  .exact s3 x hx y hy
 .intro x hx y hy
  rcases aH.mp hx with hx|hx
  .exact m.ob x hx y hy
  .exact h x hx y hy
theorem Mg.put1 {u:Keyed} (m:Mg R T o (u :: ra) rb) (h:∀z∈rb,R u z):Mg R T (o++[u]) ra rb:=
 Mg.put (u:=[u]) m fun y hy=>by rw[aY]at hy;subst hy;exact h
theorem Mg.putB {u:List Keyed} (m:Mg R T o ra (u++rb)) (h:∀y∈u,∀z∈ra,R y z):Mg R T (o++u) ra rb:=(m.swap.put h).swap
theorem Mg.putB1 {u:Keyed} (m:Mg R T o ra (u :: rb)) (h:∀z∈ra,R u z):Mg R T (o++[u]) ra rb:=(m.swap.put1 h).swap
theorem Mg.fin (m:Mg R T o ra rb) (h:∀y∈ra,∀z∈rb,R y z):(o++(ra++rb)).Perm T/\(o++(ra++rb)).Pairwise R:=by
 refine⟨m.pm,bJ.mpr ⟨m.so,bJ.mpr ⟨m.sa,m.sb,h⟩,fun x hx y hy=>?_⟩⟩
 rcases aH.mp hy with hy|hy
 .exact m.oa x hx y hy
 .exact m.ob x hx y hy
end
end So
namespace So
open PySem PySem.Spec PyProof.Rows
section
variable {M:Model} {A:Around} {E:Value->Shared->Prop} {s:Shared} {O:KeyOrd} {ky:Keyed->O.α} {P:Keyed->Prop} {kd:SortKind}
def f1' (st st':SortSt):Prop:=kindOf st'=kindOf st/\arrOf st'=arrOf st/\pendingOf st'=pendingOf st/\failedOf st'=failedOf st
theorem f1'.rfl' (st:SortSt):f1' st st:=⟨rfl,rfl,rfl,rfl⟩
theorem f1'.trans {a b c:SortSt} (h:f1' a b) (g:f1' b c):f1' a c:=⟨g.1.trans h.1,g.2.1.trans h.2.1,g.2.2.1.trans h.2.2.1,g.2.2.2.trans h.2.2.2⟩
theorem f1'.set (st:SortSt) (m:Nat):f1' st (SortSt.mk' (kindOf st) (arrOf st) (pendingOf st) m (failedOf st)):=⟨rfl,rfl,rfl,rfl⟩
def Rk (O:KeyOrd) (ky:Keyed->O.α) (p q:Keyed):Prop:=O.kle (ky p) (ky q)
theorem ky' {a:Array Keyed} {i:Nat} (h:i<a.size):∃p,a[i]?=some p/\p∈a.toList:=⟨a[i],by simp,by simp⟩
theorem kz' {a:Array Keyed} {i:Nat} {p:Keyed} (e:a[i]?=some p):a.toList.drop i=p :: a.toList.drop (i+1):=by
 have hi:i<a.size:=by
  rcases cQ i a.size with h|h
  .exact h
  .rw[cv h]at e;cases e
 have:a[i]=p:=by rw[aD hi]at e;exact Option.some.inj e
 rw[List.drop_eq_getElem_cons (by simpa using hi)]
 simp[this]
theorem a2' (a:Array Keyed) (i j:Nat):(a.extract i j).toList=(a.toList.drop i).take (j-i):=by
 simp[Array.toList_extract,List.extract_eq_take_drop]
theorem cV' (a:Array Keyed) (i:Nat):(a.extract i a.size).toList=a.toList.drop i:=by
 rw[a2',List.take_of_length_le];simp
theorem kA' (l:List Keyed) (i k:Nat):l.drop i=(l.drop i).take k++l.drop (i+k):=by
 rw[<- List.drop_drop,bw]
theorem bo' {a:Array Keyed} {i k:Nat} {p:Keyed} (h:p∈(a.toList.drop i).take k):∃n,n<k/\a[i+n]?=some p:=by
 obtain⟨n,hn,e⟩:=List.getElem_of_mem h
 have hl:n<k:=by simp at hn;omega
 refine⟨n,hl,?_⟩
 rw[cH,cI]at e
 simp at hn
 rw[aD (by omega)]
 simpa using e
theorem bp' {a:Array Keyed} {i:Nat} {p:Keyed} (h:p∈a.toList.drop i):∃n,i<=n/\a[n]?=some p:=by
 obtain⟨n,hn,e⟩:=List.getElem_of_mem h
 refine⟨i+n,by omega,?_⟩
 rw[cI]at e
 simp at hn
 rw[aD (by omega)]
 simpa using e
theorem xj' {R:Keyed->Keyed->Prop} {a:Array Keyed} (h:a.toList.Pairwise R) {i j:Nat} {p q:Keyed} (hij:i<j) (e:a[i]?=some p) (e2:a[j]?=some q):R p q:=by
 have hj:j<a.size:=by
  rcases cQ j a.size with h|h
  .exact h
  .rw[cv h]at e2;cases e2
 have h1:a[i]=p:=by rw[aD (by omega)]at e;exact Option.some.inj e
 have h2:a[j]=q:=by rw[aD hj]at e2;exact Option.some.inj e2
 have:=aX.mp h i j (by simp;omega) (by simp;omega) hij
 simpa[h1,h2]using this
theorem mP' {a:Array Keyed} (h:a.toList.Pairwise (Rk O ky)) {i j:Nat} {p q:Keyed} (hij:i<=j) (e:a[i]?=some p) (e2:a[j]?=some q):O.kle (ky p) (ky q):=by
 by_cases g:i=j
 .subst g;rw[e]at e2;cases e2;exact KeyOrd.kle_refl _
 .exact xj' h (by omega) e e2
end
end So
namespace So
open PySem PySem.Spec PyProof.Rows
section
variable {M:Model} {A:Around} {E:Value->Shared->Prop} {s:Shared} {O:KeyOrd} {ky:Keyed->O.α} {P:Keyed->Prop} {kd:SortKind} {x y:Array Keyed}
def rO' (O:KeyOrd) (ky:Keyed->O.α) (x y r:Array Keyed):Prop:=r.toList.Perm (x.toList++y.toList)/\r.toList.Pairwise (Rk O ky)
def Wk (O:KeyOrd) (ky:Keyed->O.α) (x y o:Array Keyed) (i j:Nat):Prop:=Mg (Rk O ky) (x.toList++y.toList) o.toList (x.toList.drop i) (y.toList.drop j)/\i<=x.size/\j<=y.size
theorem Wk.dn {o:Array Keyed} {i j:Nat} (w:Wk O ky x y o i j) (e:j=y.size):rO' O ky x y (o++x.extract i x.size++y.extract j y.size):=by
 subst e
 have:=w.1.fin (fun p _ q hq=>by rw[List.drop_eq_nil_of_le (by simp)]at hq;cases hq)
 unfold rO'
 rw[bo,bo,cV',cV',aT]
 exact this
theorem Wk.la {o:Array Keyed} {i j:Nat} (w:Wk O ky x y o i j) (e:i+1=x.size) (hl:∀p q,x[x.size-1]?=some p->q∈y.toList->O.klt (ky q) (ky p)):rO' O ky x y (o++y.extract j y.size++x.extract i x.size):=by
 have:=w.1.swap.fin (fun q hq p hp=>by
  obtain⟨n,hn,e2⟩:=bp' hp
  have:n<x.size:=by
   rcases cQ n x.size with h|h
   .exact h
   .rw[cv h]at e2;cases e2
  have:n=x.size-1:=by omega
  subst this
  exact KeyOrd.kle_of_klt (hl p q e2 (List.mem_of_mem_drop hq)))
 unfold rO'
 rw[bo,bo,cV',cV',aT]
 exact this
theorem Wk.putB {o:Array Keyed} {i j:Nat} {p q:Keyed} (w:Wk O ky x y o i j) (e1:x[i]?=some p) (e2:y[j]?=some q) (h:O.kle (ky q) (ky p)) (hj:j<y.size) (sx:x.toList.Pairwise (Rk O ky)):Wk O ky x y (o.push q) i (j+1):=by
 refine⟨?_,w.2.1,hj⟩
 have m:=w.1
 rw[kz' e2]at m
 rw[bW]
 refine m.putB1 fun z hz=>?_
 obtain⟨n,hn,e3⟩:=bp' hz
 exact KeyOrd.kle_trans h (mP' sx hn e1 e3)
theorem Wk.putA {o:Array Keyed} {i j:Nat} {p q:Keyed} (w:Wk O ky x y o i j) (e1:x[i]?=some p) (e2:y[j]?=some q) (h:O.kle (ky p) (ky q)) (hi:i<x.size) (sy:y.toList.Pairwise (Rk O ky)):Wk O ky x y (o.push p) (i+1) j:=by
 refine⟨?_,hi,w.2.2⟩
 have m:=w.1
 rw[kz' e1]at m
 rw[bW]
 refine m.put1 fun z hz=>?_
 obtain⟨n,hn,e3⟩:=bp' hz
 exact KeyOrd.kle_trans h (mP' sy hn e2 e3)
theorem Wk.manyA {o:Array Keyed} {i j k:Nat} {q:Keyed} (w:Wk O ky x y o i j) (e2:y[j]?=some q) (h:∀n p,n<k->x[i+n]?=some p->O.kle (ky p) (ky q)) (hi:i+k<=x.size) (sy:y.toList.Pairwise (Rk O ky)):
  Wk O ky x y (o++x.extract i (i+k)) (i+k) j:=by
 refine⟨?_,hi,w.2.2⟩
 have m:=w.1
 rw[kA' _ i k]at m
 rw[bo,a2',Nat.add_sub_cancel_left]
 refine m.put fun p hp z hz=>?_
 obtain⟨n,hn,e3⟩:=bo' hp
 obtain⟨n2,hn2,e4⟩:=bp' hz
 exact KeyOrd.kle_trans (h n p hn e3) (mP' sy hn2 e2 e4)
theorem Wk.manyB {o:Array Keyed} {i j k:Nat} {p:Keyed} (w:Wk O ky x y o i j) (e1:x[i]?=some p) (h:∀n q,n<k->y[j+n]?=some q->O.klt (ky q) (ky p)) (hj:j+k<=y.size) (sx:x.toList.Pairwise (Rk O ky)):
  Wk O ky x y (o++y.extract j (j+k)) i (j+k):=by
 refine⟨?_,w.2.1,hj⟩
 have m:=w.1
 rw[kA' _ j k]at m
 rw[bo,a2',Nat.add_sub_cancel_left]
 refine m.putB fun q hq z hz=>?_
 obtain⟨n,hn,e3⟩:=bo' hq
 obtain⟨n2,hn2,e4⟩:=bp' hz
 exact KeyOrd.kle_trans (KeyOrd.kle_of_klt (h n q hn e3)) (mP' sx hn2 e1 e4)
end
end So
namespace So
open PySem PySem.Spec PyProof.Rows
def dnH (x y o:Array Keyed) (i j:Nat):Array Keyed:=x.extract 0 i++y.extract 0 j++o.reverse
def fbH (x y o:Array Keyed) (i j:Nat):Array Keyed:=y.extract 0 j++x.extract 0 i++o.reverse
abbrev TG:Type:=Option (Array Keyed)×Nat×Nat×Array Keyed×Nat×Nat×Nat
abbrev TI:Type:=Option (Array Keyed)×Nat×Nat×Array Keyed×Nat×Nat
abbrev TO:Type:=Option (Array Keyed)×Nat×Nat×Array Keyed×Nat
def hi3 (x y:Array Keyed) (i j:Nat) (o:Array Keyed) (mg ca cb:Nat):StateT SortSt Sem (ForInStep TG):=do
 let p <- elem' x (i-1)
 if(i-1 == 0)=true then pure (.done (some (dnH x y (o.push p) (i-1) j),i-1,j,o.push p,mg,ca,cb))
 else if(decide (ca<7)&&decide (cb<7))=true then pure (.done (none,i-1,j,o.push p,mg,ca,cb))else pure (.yield (none,i-1,j,o.push p,mg,ca,cb))
def hi2 (x y:Array Keyed) (i j:Nat) (o:Array Keyed) (mg ca cb:Nat):StateT SortSt Sem (ForInStep TG):=do
 let q <- elem' y (j-1)
 if(j-1 == 1)=true then pure (.done (some (fbH x y (o.push q) i (j-1)),i,j-1,o.push q,mg,ca,cb))
 else do
  let p <- elem' x (i-1)
  let r <- kx' true p y 0 (j-1) (j-1-1)
  match r with
  |some z=>
   if j-1-z > 0 then
    if(z == 1)=true then pure (.done (some (fbH x y (o.push q++(y.extract z (j-1)).reverse) i z),i,z,o.push q++(y.extract z (j-1)).reverse,mg,ca,j-1-z))
    else if(z == 0)=true then pure (.done (some (dnH x y (o.push q++(y.extract z (j-1)).reverse) i z),i,z,o.push q++(y.extract z (j-1)).reverse,mg,ca,j-1-z))
    else hi3 x y i z (o.push q++(y.extract z (j-1)).reverse) mg ca (j-1-z)
   else hi3 x y i (j-1) (o.push q) mg ca (j-1-z)
  |_=>pure (.done (some (dnH x y (o.push q) i (j-1)),i,j-1,o.push q,mg,ca,cb))
def hi1 (x y:Array Keyed) (i j:Nat) (o:Array Keyed) (mg ca cb:Nat):StateT SortSt Sem (ForInStep TG):=do
 modify fun st=>SortSt.mk' (kindOf st) (arrOf st) (pendingOf st) mg (failedOf st)
 let q <- elem' y (j-1)
 let r <- kx' false q x 0 i (i-1)
 match r with
 |some z=>
  if i-z > 0 then
   if(z == 0)=true then pure (.done (some (dnH x y (o++(x.extract z i).reverse) z j),z,j,o++(x.extract z i).reverse,mg,i-z,cb))
   else hi2 x y z j (o++(x.extract z i).reverse) mg (i-z) cb
  else hi2 x y i j o mg (i-z) cb
 |_=>pure (.done (some (dnH x y o i j),i,j,o,mg,ca,cb))
section
variable {M:Model} {A:Around} {E:Value->Shared->Prop} {s:Shared} {O:KeyOrd} {ky:Keyed->O.α} {P:Keyed->Prop} {kd:SortKind} {x y:Array Keyed}
theorem kB' {a:Array Keyed} {i:Nat} {p:Keyed} (e:a[i]?=some p):(a.toList.take (i+1)).reverse=p :: (a.toList.take i).reverse:=by
 have:a.toList[i]?=some p:=by simpa using e
 rw[List.take_add_one,this];simp
theorem eH' (a:Array Keyed) (i:Nat):(a.extract 0 i).toList=a.toList.take i:=by rw[a2'];simp
theorem ox' (l:List Keyed) {z i:Nat} (h:z<=i):(l.take i).reverse=((l.drop z).take (i-z)).reverse++(l.take z).reverse:=by
 rw[<- List.reverse_append]
 congr 1
 rw[<- bw z (l.take i),List.take_take,List.drop_take]
 congr 2
 omega
theorem bz' {a:Array Keyed} {i:Nat} {p:Keyed} (h:p∈(a.toList.take i).reverse):∃n,n<i/\a[n]?=some p:=by
 obtain⟨n,hn,e⟩:=bo' (a:=a) (i:=0) (k:=i) (p:=p) (by simpa using h)
 exact⟨n,hn,by simpa using e⟩
def Wh (O:KeyOrd) (ky:Keyed->O.α) (x y o:Array Keyed) (i j:Nat):Prop:=Mg (fun p q=>Rk O ky q p) (x.toList++y.toList) o.toList (x.toList.take i).reverse (y.toList.take j).reverse/\i<=x.size/\j<=y.size
theorem Wh.dn {o:Array Keyed} {i j:Nat} (w:Wh O ky x y o i j) (e:i=0):rO' O ky x y (x.extract 0 i++y.extract 0 j++o.reverse):=by
 subst e
 have⟨h1,h2⟩:=w.1.swap.fin (fun q _ p hp=>by simp at hp)
 unfold rO'
 have e:(x.extract 0 0++y.extract 0 j++o.reverse).toList=(o.toList++((y.toList.take j).reverse++(x.toList.take 0).reverse)).reverse:=by
  rw[bo,bo,eH',eH'];simp
 rw[e]
 exact⟨(List.reverse_perm _).trans h1,List.pairwise_reverse.mpr h2⟩
theorem Wh.putA {o:Array Keyed} {i j:Nat} {p:Keyed} (w:Wh O ky x y o (i+1) j) (e1:x[i]?=some p) (h:∀n q,n<j->y[n]?=some q->O.kle (ky q) (ky p)):Wh O ky x y (o.push p) i j:=by
 refine⟨?_,by have:=w.2.1;omega,w.2.2⟩
 have m:=w.1
 rw[kB' e1]at m
 rw[bW]
 refine m.put1 fun z hz=>?_
 obtain⟨n,hn,e3⟩:=bz' hz
 exact h n z hn e3
theorem Wh.putB {o:Array Keyed} {i j:Nat} {q:Keyed} (w:Wh O ky x y o i (j+1)) (e2:y[j]?=some q) (h:∀n p,n<i->x[n]?=some p->O.kle (ky p) (ky q)):Wh O ky x y (o.push q) i j:=by
 refine⟨?_,w.2.1,by have:=w.2.2;omega⟩
 have m:=w.1
 rw[kB' e2]at m
 rw[bW]
 refine m.putB1 fun z hz=>?_
 obtain⟨n,hn,e3⟩:=bz' hz
 exact h n z hn e3
theorem Wh.manyA {o:Array Keyed} {i j z:Nat} (w:Wh O ky x y o i j) (hz:z<=i) (h:∀n p m q,z<=n->n<i->x[n]?=some p->m<j->y[m]?=some q->O.kle (ky q) (ky p)):Wh O ky x y (o++(x.extract z i).reverse) z j:=by
 refine⟨?_,by have:=w.2.1;omega,w.2.2⟩
 have m:=w.1
 rw[ox' _ hz]at m
 rw[bo,Array.toList_reverse,a2']
 refine m.put fun p hp q hq=>?_
 obtain⟨n,hn,e3⟩:=bo' (List.mem_reverse.mp hp)
 obtain⟨n2,hn2,e4⟩:=bz' hq
 exact h _ p n2 q (by omega) (by omega) e3 hn2 e4
theorem Wh.manyB {o:Array Keyed} {i j z:Nat} (w:Wh O ky x y o i j) (hz:z<=j) (h:∀n q m p,z<=n->n<j->y[n]?=some q->m<i->x[m]?=some p->O.kle (ky p) (ky q)):Wh O ky x y (o++(y.extract z j).reverse) i z:=by
 refine⟨?_,w.2.1,by have:=w.2.2;omega⟩
 have m:=w.1
 rw[ox' _ hz]at m
 rw[bo,Array.toList_reverse,a2']
 refine m.putB fun q hq p hp=>?_
 obtain⟨n,hn,e3⟩:=bo' (List.mem_reverse.mp hq)
 obtain⟨n2,hn2,e4⟩:=bz' hp
 exact h _ q n2 p (by omega) (by omega) e3 hn2 e4
end
end So
namespace So
open PySem PySem.Spec PyProof.Rows
section
variable {M:Model} {A:Around} {E:Value->Shared->Prop} {s:Shared} {O:KeyOrd} {ky:Keyed->O.α} {P:Keyed->Prop} {kd:SortKind}
end
end So
namespace So
open PySem PySem.Spec PyProof.Rows
section
variable {M:Model} {A:Around} {E:Value->Shared->Prop} {s:Shared} {O:KeyOrd} {ky:Keyed->O.α} {P:Keyed->Prop} {kd:SortKind} {st0:SortSt} {lo nrem:Nat}
def ke (ky:Keyed->O.α) (a:Array Keyed) (i:Nat):O.α:=ky ((a[i]?).getD (Value.none,Value.none))
theorem mQ' {a:Array Keyed} {i:Nat} {p:Keyed} (h:a[i]?=some p):ke ky a i=ky p:=by unfold ke;rw[h];rfl
structure Sb (st0:SortSt) (lo:Nat) (st:SortSt):Prop where
 perm:(arrOf st).Perm (arrOf st0)
 same:∀i,i<lo->(arrOf st)[i]?=(arrOf st0)[i]?
 kind:kindOf st=kindOf st0
 fail:failedOf st=failedOf st0
 pend:pendingOf st=pendingOf st0
theorem Sb.rfl' (st0:SortSt) (lo:Nat):Sb st0 lo st0:=⟨Array.Perm.refl _,fun _ _=>rfl,rfl,rfl,rfl⟩
theorem Sb.size {st:SortSt} (B:Sb st0 lo st):(arrOf st).size=(arrOf st0).size:=B.perm.size_eq
theorem Sb.lt (C:Cmp M A E s O ky P kd) {st:SortSt} {i j:Nat} {Q:Option Bool->SortSt->Prop} (kst:kindOf st0=kd) (pa:∀p∈(arrOf st0).toList,P p) (B:Sb st0 lo st) (hi:i<(arrOf st0).size) (hj:j<(arrOf st0).size)
  (h:Q (some (O.blt (ke ky (arrOf st) i) (ke ky (arrOf st) j))) st):wpS M A E s (ltAt' i j) Q st:=by
 obtain⟨p,ep,mp⟩:=ky' (a:=arrOf st) (i:=i) (by rw[B.size];exact hi)
 obtain⟨q,eq,mq⟩:=ky' (a:=arrOf st) (i:=j) (by rw[B.size];exact hj)
 have pm:=Array.perm_iff_toList_perm.mp B.perm
 rw[ltAt'_eq]
 refine wpS_bind (wpS_get ?_)
 refine wpS_bind (hZ' ep (wpS_bind (hZ' eq (C.lt (pa p (pm.mem_iff.mp mp)) (pa q (pm.mem_iff.mp mq)) (B.kind.trans kst) ?_))))
 rw[mQ' ep,mQ' eq]at h
 exact h
def Si (ky:Keyed->O.α) (lo:Nat) (a:Array Keyed) (n:Nat):Prop:=∀i j,i<=j->j<n->O.kle (ke ky a (lo+i)) (ke ky a (lo+j))
def Ni (ky:Keyed->O.α) (lo:Nat) (a:Array Keyed) (n:Nat):Prop:=∀i j,i<=j->j<n->O.kle (ke ky a (lo+j)) (ke ky a (lo+i))
theorem Si.more {a:Array Keyed} {n:Nat} (h:Si ky lo a n) (h1:1<=n) (g:O.kle (ke ky a (lo+(n-1))) (ke ky a (lo+n))):Si ky lo a (n+1):=by
 intro i j hij hj
 by_cases c:j<n
 .exact h i j hij c
 .have e:j=n:=by omega
  subst e
  by_cases c2:i=j
  .subst c2;exact KeyOrd.kle_refl _
  .exact KeyOrd.kle_trans (h i (j-1) (by omega) (by omega)) g
theorem Ni.more {a:Array Keyed} {n:Nat} (h:Ni ky lo a n) (h1:1<=n) (g:O.kle (ke ky a (lo+n)) (ke ky a (lo+(n-1)))):Ni ky lo a (n+1):=by
 intro i j hij hj
 by_cases c:j<n
 .exact h i j hij c
 .have e:j=n:=by omega
  subst e
  by_cases c2:i=j
  .subst c2;exact KeyOrd.kle_refl _
  .exact KeyOrd.kle_trans g (h i (j-1) (by omega) (by omega))
end
end So
namespace So
open PySem PySem.Spec PyProof.Rows
section
variable {M:Model} {A:Around} {E:Value->Shared->Prop} {s:Shared} {O:KeyOrd} {ky:Keyed->O.α} {P:Keyed->Prop} {kd:SortKind} {st0:SortSt} {lo nrem:Nat}
end
end So
namespace So
open PySem PySem.Spec PyProof.Rows
section
variable {M:Model} {A:Around} {E:Value->Shared->Prop} {s:Shared} {O:KeyOrd} {ky:Keyed->O.α} {P:Keyed->Prop} {kd:SortKind} {st0:SortSt} {lo nrem:Nat}
inductive Rn (R:Keyed->Keyed->Prop):List (Nat×Nat×Nat)->List (List Keyed)->Nat->Prop
 |nil (a:Nat):Rn R [] [] a
 |cons {a:Nat} (w:Nat) {l:List Keyed} {p:List (Nat×Nat×Nat)} {L:List (List Keyed)}:0<l.length->l.Pairwise R->Rn R p L (a+l.length)->Rn R ((a,l.length,w) :: p) (l :: L) a
theorem Rn.len {R:Keyed->Keyed->Prop}:∀{p:List (Nat×Nat×Nat)} {L:List (List Keyed)} {a:Nat},Rn R p L a->p.length=L.length/\L.length<=L.flatten.length
 |_,_,_,.nil _=>⟨rfl,ah _⟩
 |_,_,_,.cons w h0 hs r=>by
  have⟨h1,h2⟩:=r.len
  refine⟨by simp[h1],?_⟩
  simp only[aV,bD,aB];omega
theorem Rn.push {R:Keyed->Keyed->Prop} {l:List Keyed} (h0:0<l.length) (hs:l.Pairwise R):∀{p:List (Nat×Nat×Nat)} {L:List (List Keyed)} {a:Nat},Rn R p L a->∀b,b=a+L.flatten.length->Rn R (p++[(b,l.length,0)]) (L++[l]) a
 |_,_,a,.nil _,b,e=>by
  have:b=a:=by simpa using e
  subst this
  exact .cons 0 h0 hs (.nil _)
 |_,_,a,.cons w g0 gs r,b,e=>.cons w g0 gs (r.push h0 hs b (by rw[e,bD,aB];omega))
theorem Rn.merge {R:Keyed->Keyed->Prop} {su nu pw sv nv pv:Nat}:∀{p:List (Nat×Nat×Nat)} {L:List (List Keyed)} {a i:Nat},Rn R p L a->p[i]?=some (su,nu,pw)->p[i+1]?=some (sv,nv,pv)->
  ∃L1 l1 l2 L2,L=L1++l1 :: l2 :: L2/\su=a+L1.flatten.length/\nu=l1.length/\sv=su+nu/\nv=l2.length/\0<nu/\0<nv/\l1.Pairwise R/\l2.Pairwise R/\
   ∀m,m.length=nu+nv->m.Pairwise R->Rn R ((p.set i (su,nu+nv,pw)).eraseIdx (i+1)) (L1++m :: L2) a
 |_,_,a,i,.nil _,e,_=>by simp at e
 |_,_,a,0,@Rn.cons _ _ w l p L h0 hs r,e,e2=>by
  have e':(a,l.length,w)=(su,nu,pw):=by simpa using e
  have e2':p[0]?=some (sv,nv,pv):=by simpa using e2
  obtain⟨rfl,rfl,rfl⟩:a=su/\l.length=nu/\w=pw:=by simpa using e'
  cases r with
  |nil _=>simp at e2'
  | @cons _ w2 l2 p2 L2 g0 gs r2=>
   obtain⟨rfl,rfl,rfl⟩:a+l.length=sv/\l2.length=nv/\w2=pv:=by simpa using e2'
   refine⟨[],l,l2,L2,rfl,by simp,rfl,rfl,rfl,h0,g0,hs,gs,fun m hm hsm=>?_⟩
   show Rn R ((a,l.length+l2.length,w) :: p2) (m :: L2) a
   rw[<- hm]
   refine .cons w (by omega) hsm ?_
   rw[hm,<- Nat.add_assoc];exact r2
 |_,_,a,i+1,@Rn.cons _ _ w l p L h0 hs r,e,e2=>by
  have e':p[i]?=some (su,nu,pw):=by simpa using e
  have e2':p[i+1]?=some (sv,nv,pv):=by simpa using e2
  obtain⟨L1,l1,l2,L2,rfl,a1,a2,a3,a4,a5,a6,a7,a8,a9⟩:=r.merge e' e2'
  refine⟨l :: L1,l1,l2,L2,rfl,by rw[a1,bD,aB];omega,a2,a3,a4,a5,a6,a7,a8,fun m hm hsm=>?_⟩
  have:=a9 m hm hsm
  exact .cons w h0 hs this
structure Wt (O:KeyOrd) (ky:Keyed->O.α) (kd:SortKind) (a0:Array Keyed) (st:SortSt) (L:List (List Keyed)) (T:List Keyed):Prop where
 ar:(arrOf st).toList=L.flatten++T
 rn:Rn (Rk O ky) (pendingOf st).toList L 0
 pm:(arrOf st).toList.Perm a0.toList
 kd:kindOf st=kd
 fl:failedOf st=none
theorem Wt.size {a0:Array Keyed} {st:SortSt} {L:List (List Keyed)} {T:List Keyed} (w:Wt O ky kd a0 st L T):(arrOf st).size=a0.size:=by
 have:=w.pm.length_eq;simpa using this
theorem Wt.pa {a0:Array Keyed} {st:SortSt} {L:List (List Keyed)} {T:List Keyed} (w:Wt O ky kd a0 st L T) (pa:∀p∈a0.toList,P p):∀p∈(arrOf st).toList,P p:=fun p hp=>pa p (w.pm.mem_iff.mp hp)
theorem Sb.split {U T:List Keyed} {st:SortSt} {n:Nat} (B:Sb st0 lo st) (e:(arrOf st0).toList=U++T) (hl:U.length=lo) (hn:lo+n<=(arrOf st0).size) (S:Si ky lo (arrOf st) n):
  ∃l T',(arrOf st).toList=U++(l++T')/\l.length=n/\l.Pairwise (Rk O ky):=by
 have hz:(arrOf st).toList.length=(arrOf st0).size:=by rw[aA];exact B.size
 have eU:(arrOf st).toList.take lo=U:=by
  apply bE
  intro i
  by_cases hi:i<lo
  .rw[List.getElem?_take_of_lt hi]
   have h1:=B.same i hi
   have h2:(arrOf st0).toList[i]?=U[i]?:=by rw[e,List.getElem?_append_left (by omega)]
   rw[<- h2];simpa using h1
  .rw[bx (by rw[aI];omega),bx (by omega)]
 refine⟨((arrOf st).toList.drop lo).take n,(arrOf st).toList.drop (lo+n),?_,by rw[aI,cL];omega,?_⟩
 .rw[<- eU,<- kA',bw]
 .rw[aX]
  intro i j hi hj hij
  have hj':j<n:=by rw[aI]at hj;omega
  have:=S i j (by omega) hj'
  have a1:(arrOf st)[lo+i]?=some (((arrOf st).toList.drop lo).take n)[i]:=by
   rw[cH,cI,aD (by simp at hz;omega)];simp
  have a2:(arrOf st)[lo+j]?=some (((arrOf st).toList.drop lo).take n)[j]:=by
   rw[cH,cI,aD (by simp at hz;omega)];simp
  rw[mQ' a1,mQ' a2]at this
  exact this
end
end So
namespace So
open PySem PySem.Spec PyProof.Rows
section
variable {M:Model} {A:Around} {E:Value->Shared->Prop} {s:Shared} {O:KeyOrd} {ky:Keyed->O.α} {P:Keyed->Prop} {kd:SortKind}
end
end So
namespace L2
open PySem PySem.Spec PyProof.Rows So
section
variable {prog:Program} {w:World} {A:Around} {E:Value->Shared->Prop} {s:Shared}
def xk' (prog:Program) (w:World) (h0:Heap) (a:Addr) (vs:List Value) (O:KeyOrd) (kv:Value->O.α):Prop:=
 2<=vs.length->∃κ:SortKind,∀(A:Around) (s:Shared),(∀b o,b≠a->h0.get? b=some o->s.heap.get? b=some o)->
  (∀(E:Value->Shared->Prop) (Q:SortKind->Shared->Prop),Q κ s->wpAny (model prog w) A (keyKind' vs.toArray) Q E s)/\
  ∀x y,x∈vs->y∈vs->∀(E:Value->Shared->Prop) (Q:Bool->Shared->Prop),Q (O.blt (kv x) (kv y)) s->wpAny (model prog w) A (keyLt' κ x y) Q E s
end
section
variable {X:Cx}
end
abbrev Itm:Type:=Int ⊕ PySem.Str
def kC':Itm->Itm->Bool
 | .inl i,.inl j=>decide (i<j)
 | .inl _,.inr _=>true
 | .inr _,.inl _=>false
 | .inr x,.inr y=>decide (x.cps.toList<y.cps.toList)
def aR':List Itm->List Itm->Bool
 | [],[]=>false
 | [],_ :: _=>true
 |_ :: _,[]=>false
 |a :: l,b :: m=>if a=b then aR' l m else kC' a b
theorem qb' {x y:PySem.Str} (h:x.cps.toList=y.cps.toList):x=y:=by
 cases x;cases y;congr 1;exact Array.toList_inj.mp h
theorem gR' (a:Itm):kC' a a=false:=by cases a<;>simp[kC',List.lt_irrefl]
theorem iS' {a b c:Itm} (h1:kC' a b=true) (h2:kC' b c=true):kC' a c=true:=by
 cases a<;>cases b<;>cases c<;>simp only[kC',decide_eq_true_eq,aP]at *<;>first|omega|exact List.lt_trans h1 h2
theorem iT' {a b:Itm} (h1:kC' a b=false) (h2:kC' b a=false):a=b:=by
 cases a<;>cases b<;>simp only[kC',decide_eq_false_iff_not,Bool.true_eq_false]at *
 .congr 1;omega
 .congr 1;exact qb' (List.le_antisymm (List.not_lt.mp h2) (List.not_lt.mp h1))
theorem dl':∀a:List Itm,aR' a a=false
 | []=>rfl
 |a :: l=>by rw[aR',if_pos rfl];exact dl' l
theorem cB':∀{a b c:List Itm},aR' a b=true->aR' b c=true->aR' a c=true
 | [],[],_,h,_=>by simp[aR']at h
 | [],_ :: _,[],_,h=>by simp[aR']at h
 | [],_ :: _,_ :: _,_,_=>rfl
 |_ :: _,[],_,h,_=>by simp[aR']at h
 |_ :: _,_ :: _,[],_,h=>by simp[aR']at h
 |a :: l,b :: m,c :: n,h1,h2=>by
  rw[aR']at h1 h2 ⊢
  by_cases e1:a=b
  .subst e1
   rw[if_pos rfl]at h1
   by_cases e2:a=c
   .subst e2;rw[if_pos rfl]at h2 ⊢;exact cB' h1 h2
   .rw[if_neg e2]at h2 ⊢;exact h2
  .rw[if_neg e1]at h1
   by_cases e2:b=c
   .subst e2;rw[if_neg e1];exact h1
   .rw[if_neg e2]at h2
    have h3:=iS' h1 h2
    by_cases e3:a=c
    .subst e3;rw[gR']at h3;cases h3
    .rw[if_neg e3];exact h3
theorem cC':∀{a b:List Itm},aR' a b=false->aR' b a=false->a=b
 | [],[],_,_=>rfl
 | [],_ :: _,h,_=>by simp[aR']at h
 |_ :: _,[],_,h=>by simp[aR']at h
 |a :: l,b :: m,h1,h2=>by
  rw[aR']at h1 h2
  by_cases e:a=b
  .subst e
   rw[if_pos rfl]at h1 h2
   rw[cC' h1 h2]
  .rw[if_neg e]at h1
   rw[if_neg (Ne.symm e)]at h2
   exact absurd (iT' h1 h2) e
theorem kD' {a b c:List Itm} (h:aR' a c=true):aR' a b=true\/aR' b c=true:=by
 cases h1:aR' a b
 .cases h2:aR' b c
  .cases h3:aR' b a
   .have:=cC' h1 h3;subst this;rw[h2]at h;cases h
   .have:=cB' h3 h;rw[h2]at this;cases this
  .exact .inr rfl
 .exact .inl rfl
def kE':KeyOrd:=⟨List Itm,aR',dl',fun _ _ _=>cB',fun _ _ _=>kD',fun _ _=>cC'⟩
def rP':Itm->Value->Prop
 | .inl i,v=>∃t,v=.int i t
 | .inr x,v=>∃t,v=.str x t
inductive ItsAre:List Value->List Itm->Prop
 |nil:ItsAre [] []
 |cons {v:Value} {a:Itm} {vs:List Value} {l:List Itm}:rP' a v->ItsAre vs l->ItsAre (v :: vs) (a :: l)
theorem ItsAre.len:∀{vs:List Value} {l:List Itm},ItsAre vs l->vs.length=l.length
 |_,_,.nil=>rfl
 |_,_,.cons _ r=>by simp[r.len]
def shp (l:List Itm):List Bool:=l.map Sum.isLeft
def Tps (h:Heap) (q:Addr×List Itm):Prop:=∃o xs n,h.get? q.1=some o/\o.cls=.type "tuple"/\o.data=.seq xs n/\ItsAre xs.toList q.2
section
variable {prog:Program} {w:World} {A:Around} {E:Value->Shared->Prop} {s:Shared}
theorem tz' {p q:Value} {b:Bool} {a c:Itm} {Q:Bool->Shared->Prop} (h1:rP' a p) (h2:rP' c q) (hs:a.isLeft=c.isLeft) (h:Q (kC' a c) s):wpAny (model prog w) A (oneLt' b p q) Q E s:=by
 cases a<;>cases c<;>simp at hs
 .obtain⟨t,rfl⟩:=h1;obtain⟨u,rfl⟩:=h2
  cases b
  .exact W.kat_one _ _ (PyProof.Rows.lt_int h)
  .exact oneLt_int h
 .obtain⟨t,rfl⟩:=h1;obtain⟨u,rfl⟩:=h2
  cases b
  .exact W.kat_one _ _ (PyProof.Rows.lt_str h)
  .exact oneLt_str h
set_option tactic.hygienic true in
theorem xl' {p q:Value} {a c:Itm} {Q:Bool->Shared->Prop} (h1:rP' a p) (h2:rP' c q) (hs:a.isLeft=c.isLeft) (h:Q (decide (a=c)) s):wpAny (model prog w) A (eqBool p q) Q E s:=by
 cases a<;>cases c<;>simp at hs
 .obtain⟨t,rfl⟩:=h1;obtain⟨u,rfl⟩:=h2
  refine wpAny_eqBool_int ?_
  rename_i i j
  have e:(i == j)=decide ((Sum.inl i:Itm)=Sum.inl j):=by
   by_cases c:i=j
   .subst c;simp
   .simp[c]
  rw[e];exact h
 .obtain⟨t,rfl⟩:=h1;obtain⟨u,rfl⟩:=h2
  refine wpAny_eqBool_str ?_
  simpa using h
theorem kF' {Q:Bool->Shared->Prop}:∀{xs ys:List Value} {l m:List Itm} {i:Nat},ItsAre xs l->ItsAre ys m->shp l=shp m->Q (aR' l m) s->W.KatLex prog w A true false Q (xs.zip ys) i s
 |_,_,_,_,i,.nil,.nil,_,h=>W.kat_nil h
 |_,_,_,_,i,.nil,.cons _ _,hs,_=>by simp[shp]at hs
 |_,_,_,_,i,.cons _ _,.nil,hs,_=>by simp[shp]at hs
 |_,_,a :: l,c :: m,i,.cons h1 r1,.cons h2 r2,hs,h=>by
  have hs1:a.isLeft=c.isLeft:=by simp[shp]at hs;exact hs.1
  have hs2:shp l=shp m:=by simp[shp]at hs ⊢;exact hs.2
  rw[List.zip_cons_cons]
  refine W.kat_cons (xl' h1 h2 hs1 ?_)
  rw[aR']at h
  by_cases e:a=c
  .rw[if_pos e]at h
   rw[decide_eq_true e]
   exact W.kat_yes (kF' r1 r2 hs2 h)
  .rw[if_neg e]at h
   rw[decide_eq_false e]
   exact W.kat_no (tz' h1 h2 hs1 h)
end
def rQ' (qs:List (Addr×List Itm)):Value->List Itm
 | .ref a=>((qs.find? fun q=>q.1 == a).map (·.2)).getD []
 |_=>[]
set_option tactic.hygienic true in
theorem qc' {vs:List Value}:∀{l m:List Itm},ItsAre vs l->ItsAre vs m->l=m:=by
 induction vs with
 |nil=>intro l m h1 h2;cases h1;cases h2;rfl
 |cons v vs ih=>
  intro l m h1 h2
  cases h1 with
  |cons a1 r1=>
   cases h2 with
   |cons a2 r2=>
    rw[ih r1 r2]
    congr 1
    rename_i a l b m
    cases a<;>cases b<;>(obtain⟨t,e1⟩:=a1;obtain⟨u,e2⟩:=a2;rw[e1]at e2;cases e2)<;>rfl
theorem gS' {h:Heap} {qs:List (Addr×List Itm)} (hq:∀q∈qs,Tps h q) {q:Addr×List Itm} (hm:q∈qs):rQ' qs (.ref q.1)=q.2:=by
 show((qs.find? fun x=>x.1 == q.1).map (·.2)).getD []=q.2
 cases e:qs.find? fun x=>x.1 == q.1 with
 |none=>exact absurd (List.find?_eq_none.mp e q hm) (by simp)
 |some r=>
  have h1:=List.find?_some e
  have h2:=List.mem_of_find?_eq_some e
  obtain⟨o,xs,n,ho,_,hd,hi⟩:=hq q hm
  obtain⟨o',xs',n',ho',_,hd',hi'⟩:=hq r h2
  have e1:r.1=q.1:=by simpa using h1
  rw[e1,ho]at ho'
  cases ho'
  rw[hd]at hd'
  cases hd'
  show r.2=q.2
  exact qc' hi' hi
set_option tactic.hygienic true in
theorem dV' {h:Heap} {sh:List Bool} {b:Bool}:∀{qs:List (Addr×List Itm)},(∀q∈qs,Tps h q)->(∀q∈qs,shp q.2=b :: sh)->∃fs,W.KatTups h (qs.map fun q=>Value.ref q.1) fs/\fs.length=qs.length/\∀f∈fs,∃a,rP' a f/\a.isLeft=b
 | [],_,_=>⟨[],trivial,rfl,fun _ h=>absurd h aq⟩
 |q :: qs,hq,hs=>by
  obtain⟨fs,h1,h2,h3⟩:=dV' (qs:=qs) (fun x hx=>hq x (by simp[hx])) fun x hx=>hs x (by simp[hx])
  obtain⟨o,xs,n,ho,hc,hd,hi⟩:=hq q (by simp)
  have hsq:=hs q (by simp)
  obtain⟨qa,ql⟩:=q
  cases ql with
  |nil=>simp[shp]at hsq
  |cons a l=>
   generalize hxl:xs.toList=xl at hi
   cases hi with
   |cons ha hr=>
    rename_i v vr
    have hx0:xs[0]?=some v:=by
     have:xs.toList[0]?=some v:=by rw[hxl];rfl
     simpa using this
    exact⟨v :: fs,W.KatTups.cons ho hc hd hx0 h1,by simp[h2],fun f hf=>by
     rcases ak.mp hf with rfl|hf
     .exact⟨a,ha,by simp[shp]at hsq;exact hsq.1⟩
     .exact h3 f hf⟩
theorem mR' {prog:Program} {w:World} {h0:Heap} {a:Addr} {qs:List (Addr×List Itm)} {sh:List Bool} {b:Bool} (hq:∀q∈qs,Tps h0 q) (hne:∀q∈qs,q.1≠a) (hs:∀q∈qs,shp q.2=b :: sh):xk' prog w h0 a (qs.map fun q=>Value.ref q.1) kE' (rQ' qs):=by
 intro h2
 refine⟨tuples' true,fun A s keep=>?_⟩
 have hq':∀q∈qs,Tps s.heap q:=fun q hm=>let⟨o,xs,n,ho,r⟩:=hq q hm;⟨o,xs,n,keep _ _ (hne q hm) ho,r⟩
 refine⟨fun E Q h=>?_,fun x y hx hy E Q h=>?_⟩
 .obtain⟨fs,h1,h3,h4⟩:=dV' hq' hs
  cases b
  .refine W.kat_kind (T:=.type "str") h1 (by rw[h3];rw[af]at h2;omega) (fun v hv=>?_) rfl h
   obtain⟨x,hx,hb⟩:=h4 v hv
   cases x<;>simp at hb
   obtain⟨t,rfl⟩:=hx
   exact .now
  .refine W.kat_kind (T:=.type "int") h1 (by rw[h3];rw[af]at h2;omega) (fun v hv=>?_) rfl h
   obtain⟨x,hx,hb⟩:=h4 v hv
   cases x<;>simp at hb
   obtain⟨t,rfl⟩:=hx
   exact .now
 .obtain⟨qx,mx,rfl⟩:=az.mp hx
  obtain⟨qy,my,rfl⟩:=az.mp hy
  rw[gS' hq' mx,gS' hq' my]at h
  obtain⟨ox,xs,n,hox,_,hdx,hix⟩:=hq' qx mx
  obtain⟨oy,ys,m,hoy,_,hdy,hiy⟩:=hq' qy my
  refine W.kat_lt hox hdx hoy hdy ?_
  have hl:¬xs.size<ys.size:=by
   have h3:=hix.len
   have h4:=hiy.len
   have h5:=congrArg List.length ((hs qx mx).trans (hs qy my).symm)
   simp only[shp,af]at h5
   rw[aA]at h3 h4
   omega
  rw[decide_eq_false hl]
  exact kF' hix hiy ((hs qx mx).trans (hs qy my).symm) h
section
variable {X:Cx}
end
end L2
namespace L2
open PySem PySem.Spec PyProof.Rows PySem.Ts
theorem h0' {P:Program} {w:World}:∀{k:List Int} {us:List Value},aB' (k.map V.int) us->ItemsAre (intKind P w) k us
 | [],_,.nil=>.nil
 |i :: k,_,.cons r t=>by
  obtain⟨u,rfl⟩:=(show ∃u,_=Value.int i u from r)
  exact .cons (by show Value.isInt i (.int i u)=true;simp[Value.isInt]) (h0' t)
theorem tA' {P:Program} {w:World} {H:Hp} {h:Heap} {q:List Int×Addr} (ok:HOk P w H h) (e:H q.2=some (.tup (q.1.map V.int))):Tup P w h q:=by
 obtain⟨_,its,r,o,h1,h2,⟨n,h3⟩,_⟩:=(show av' P w H h q.2 (.tup (q.1.map V.int)) from ok _ _ e)
 exact⟨o,its.toArray,n,h1,h2,h3,by rw[List.toList_toArray];exact h0' r⟩
def Trk (H:Hp) (L:List (List Int×Addr)):Prop:=∀q∈L,H q.2=some (.tup (q.1.map V.int))
section
variable {X:Cx}
def y8' (a:List (List Int×Addr)) (k:List Int) (b:Addr):List (List Int×Addr):=if k∈a.map (·.1)then a else a++[(k,b)]
def tC' (te:TE):TL (List (List Int×Addr)):=fun σ a H N=>te σ H fun v H'=>∃(k:List Int) (b:Addr),v=.ref b/\H' b=some (.tup (k.map V.int))/\Trk H' a/\a.length<4000/\N (y8' a k b) H'
def kI (k:List Int):List Itm:=k.map Sum.inl
theorem tD' {k:List Int} {vs:List Value} {P:Program} {w:World} (h:ItemsAre (intKind P w) k vs):ItsAre vs (kI k):=by
 induction h with
 |nil=>exact .nil
 |cons h1 _ ih=>
  obtain⟨t,e⟩:=Value.isInt_shape h1
  exact .cons ⟨t,e⟩ ih
theorem tE' {k:List Int}:shp (kI k)=aC k.length true:=by
 unfold shp kI
 induction k with
 |nil=>rfl
 |cons i k ih=>rw[aL,aL,ih];rfl
variable {e:Expr} {scope:Scope} {tg iter:Expr} {ifs:List Expr} {nx:Addr->Env->Sem Unit} {g:TG} {tc:TT} {au':TL (List (List Int×Addr))} {own:List Nat} {wi:TI}
theorem h4':∀(qs:List (List Int×Addr)),aB' (qs.map fun q=>V.ref q.2) (qs.map fun q=>Value.ref q.2)
 | []=>.nil
 |q :: qs=>.cons rfl (h4' qs)
end
end L2
namespace L2
open PySem PySem.Spec PyProof.Rows PySem.SeqAt
def Ls1 (H:Hp) (v:V) (ns:List Int):Prop:=∃p,v=.ref p/\H p=some (.lst (ns.map V.int))
def LL (H:Hp) (a:Addr) (L:List (List Int)):Prop:=∃vs,H a=some (.lst vs)/\vs.length=L.length/\∀(i:Nat) v ns,vs[i]?=some v->L[i]?=some ns->Ls1 H v ns
theorem dW':∀{a b:List Int},a.map V.int=b.map V.int->a=b
 | [],[],_=>rfl
 | [],_ :: _,h=>by cases h
 |_ :: _,[],h=>by cases h
 |x :: a,y :: b,h=>by
  rw[aL,aL]at h
  injection h with h1 h2
  injection h1 with h1
  rw[h1,dW' h2]
section
variable {X:Cx} {pins:List (Addr×Obj)} {σ:L2.St} {H:Hp} {s:Shared}
def zK' (neg:Bool):R2:=fun x y H Q=>∃a b L M,x=.ref a/\y=.ref b/\LL H a L/\LL H b M/\Q (.bl (decide (L=M))) H
def xm':R2:=fun x y H Q=>∃b L ns,Ls1 H x ns/\y=.ref b/\LL H b L/\Q (.bl (!decide (ns∈L))) H
end
section
variable {X:Cx}
end
section
variable {X:Cx} {env:Env}
def Fr {α:Type} (t:Sem α):Prop:=∀(M:Model) (Γ:PySem.Ctx) (Q:α->Pos->Shared->Prop) (E:Value->Pos->Shared->Prop) (p:Pos) (s:Shared),Sem.wp M Γ t Q E p s->Sem.wp M Γ t (fun a p' s'=>1<=s'.toks/\Q a p' s') E p s
theorem Fr.bindL {α β:Type} {m:Sem α} {f:α->Sem β} (h:Fr m):Fr (m >>= f):=by
 intro M Γ Q E p s q
 rw[Sem.wp_bind']at q ⊢
 refine Sem.wp_mono M Γ m (fun a p' s' z=>?_) (fun _ _ _ z=>z) p s (h M Γ _ E p s q)
 exact Sem.wp_mono M Γ (f a) (fun _ _ _ z=>z) (fun _ _ _ z=>z.2) p' s' (Sem.wp_toks M Γ 1 (f a) Q E p' s' z.1 z.2)
theorem Fr.any {α:Type} {M:Model} {A:Around} {t:Sem α} {Q:α->Shared->Prop} {E:Value->Shared->Prop} {s:Shared} (h:Fr t) (q:wpAny M A t Q E s):wpAny M A t (fun a s'=>1<=s'.toks/\Q a s') E s:=fun Γ p hΓ=>h M Γ _ _ p s (q Γ p hΓ)
end
theorem xn' {P:Program} {w:World} {k:Key} {u:Value} (h:(ai' P w).is k u=true):ay' (kV k) u:=by
 rcases aC' (show gu' k u=true from h)with⟨i,t,rfl,rfl⟩|⟨x,t,rfl,rfl⟩|⟨rfl,rfl⟩
 .exact⟨t,rfl⟩
 .exact⟨t,rfl⟩
 .exact rfl
theorem fi':∀{xs:List V} {us:List Value},xs.length=us.length->(∀(i:Nat) x u,xs[i]?=some x->us[i]?=some u->ay' x u)->aB' xs us
 | [],[],_,_=>.nil
 |x :: xs,u :: us,hl,h=>.cons (h 0 x u rfl rfl) (fi' (by simpa using hl) fun i x' u' h1 h2=>h (i+1) x' u' (by simpa using h1) (by simpa using h2))
 | [],_ :: _,hl,_=>by simp at hl
 |_ :: _,[],hl,_=>by simp at hl
theorem xo' {kvs:List (Key×V)} {vs:List (Key×Value)} (r:KV kvs vs):∀{i:Nat} {kv:Key×V} {p:Key×Value},kvs[i]?=some kv->vs[i]?=some p->kv.1=p.1/\ay' kv.2 p.2:=by
 induction r with
 |nil=>intro i kv p h;simp at h
 |cons h r ih=>
  intro i kv p h1 h2
  cases i with
  |zero=>cases h1;cases h2;exact h
  |succ i=>exact ih (by simpa using h1) (by simpa using h2)
section
variable {X:Cx}
def tF':List V->Hp->VK->Prop:=fun xs H Q=>∃a kvs,xs=[V.ref a]/\H a=some (.dK kvs)/\Q (.int kvs.length) H
theorem iU':aP' X (.builtin "len") tF':=jL'
end
section
variable {prog:Program} {w:World} {A:Around} {E:Value->Shared->Prop} {s:Shared}
theorem h5' {q dd:Addr} {j ep:Nat} {od:Obj} {es:Array DictEntry} {en:DictEntry} {Q:Option Value->Shared->Prop} (hq:s.heap.IsKeyIter q dd j es.size ep) (g1:s.heap.get? dd=some od) (g2:od.data=.dict es ep) (hx:es[j]?=some en)
  (hQ:∀h',h'.IsKeyIter q dd (j+1) es.size ep->bL q s.heap h'->Q (some en.key) { s with heap:=h' }):wpAny (model prog w) A (pyNext (.ref q)) Q E s:=by
 obtain⟨oq,e1,e2,e3⟩:=id hq
 unfold pyNext
 refine aa (cn (aN (name:=Str.ofString "__next__") hq.typeIs F.slot_dict_keyiterator_next (aU F.slot_dict_keyiterator_next hq.typeIs F.entry_dict_keyiterator_next ?_ (F.args_dict_keyiterator_next_1 _))))
 refine aa (ae (aa (aa ?_)))
 first|refine aa (bR hq.typeIs (ae ?_))|refine aa (cm hq.typeIs (ae ?_))
 refine aa (wpAny_fieldsOf e1 e3 ?_)
 have own0:Builtin.Dict_items.ownsTuple "dict_keyiterator"=false:=by decide
 simp only[own0,aP,if_false]
 show wpAny _ _ (if(Value.ref dd == Value.none)=true then _ else _) _ _ s
 rw[if_neg (show ¬((Value.ref dd == Value.none)=true) from ap)]
 refine aa (ae (aa (bO g1 g2 ?_)))
 rw[if_neg (by simp)]
 refine aa (ae (aa (cj g1 g2 ?_)))
 rw[if_neg (by simp)]
 refine ae ?_
 simp only[show ¬((j:Int)<0) from by omega,if_false,bN,hx]
 refine aa ?_
 first|refine aa (bR hq.typeIs (ae ?_))|refine aa (cm hq.typeIs (ae ?_))
 refine aa (wpAny_isOneOf_keyiter hq.typeIs ?_)
 show wpAny _ _ (setField (.ref q) 1 (rawInt ((j:Int)+1)) >>= _) _ _ s
 refine aa (wpAny_setField e1 e3 (by simp) ?_)
 have hq':(s.heap.update q (Obj.mapFields (·.setIfInBounds 1 (rawInt ((j:Int)+1))))).IsKeyIter q dd (j+1) es.size ep:=
  ⟨_,bv _ e1 (Obj.isFreed_of_fields (Obj.data_mapFields e3 _)),(Obj.cls_mapFields ..).trans e2,by rw[Obj.data_mapFields e3];simp[rawInt]⟩
 refine aa (aE ?_)
 refine aa (wpAny_isOneOf_keyiter (s:={ s with heap:=s.heap.update q (Obj.mapFields (·.setIfInBounds 1 (rawInt ((j:Int)+1)))) }) hq'.typeIs ?_)
 show wpAny _ _ (pure en.key) _ _ _
 exact ae (ae ⟨_,rfl,ae (hQ _ hq' (Heap.SameBut.update ..))⟩)
theorem kG' {q dd:Addr} {j ep:Nat} {od:Obj} {es:Array DictEntry} {Q:Option Value->Shared->Prop} (hh:A.handled=none) (hq:s.heap.IsKeyIter q dd j es.size ep) (g1:s.heap.get? dd=some od) (g2:od.data=.dict es ep) (hx:es.size<=j)
  (hQ:∀h',Heap.ExtBut q s.heap h'->Q none { s with heap:=h' }):wpAny (model prog w) A (pyNext (.ref q)) Q E s:=by
 obtain⟨oq,e1,e2,e3⟩:=id hq
 unfold pyNext
 refine aa (cn (aN (name:=Str.ofString "__next__") hq.typeIs F.slot_dict_keyiterator_next (aU F.slot_dict_keyiterator_next hq.typeIs F.entry_dict_keyiterator_next ?_ (F.args_dict_keyiterator_next_1 _))))
 refine aa (ae (aa (aa ?_)))
 first|refine aa (bR hq.typeIs (ae ?_))|refine aa (cm hq.typeIs (ae ?_))
 refine aa (wpAny_fieldsOf e1 e3 ?_)
 have own0:Builtin.Dict_items.ownsTuple "dict_keyiterator"=false:=by decide
 simp only[own0,aP,if_false]
 show wpAny _ _ (if(Value.ref dd == Value.none)=true then _ else _) _ _ s
 rw[if_neg (show ¬((Value.ref dd == Value.none)=true) from ap)]
 refine aa (ae (aa (bO g1 g2 ?_)))
 rw[if_neg (by simp)]
 refine aa (ae (aa (cj g1 g2 ?_)))
 rw[if_neg (by simp)]
 refine ae ?_
 simp only[show ¬((j:Int)<0) from by omega,if_false,bN,cv hx]
 refine aa ?_
 first|refine aa (bR hq.typeIs (ae ?_))|refine aa (cm hq.typeIs (ae ?_))
 show wpAny _ _ (setField (.ref q) 0 .none >>= _) _ _ s
 refine aa (wpAny_setField e1 e3 (by simp) ?_)
 show wpAny _ _ (newExc (.type "StopIteration") [] >>= _) _ _ _
 refine aa ?_
 simp only[newExc,newTuple]
 refine aa (bc ?_ (by size_fits))
 refine aa (m:=firstArgMember _ _) (wpAny_of_eq (a:=Value.none) (by first|rfl|(simp only[firstArgMember];rfl)) ?_)
 refine bc ?_ (by size_fits)
 simp only[raiseNew]
 refine aa (wpAny_handled ?_)
 rw[show A.in1.handled=none from hh]
 refine aa (ae (wpAny_throw ?_))
 refine aa (cM (T:="StopIteration") (b:=true) ⟨_,am _ rfl,rfl⟩ isSubtype_stop ?_)
 exact ae (hQ _ (((Heap.SameBut.update ..).extBut.push _).push _))
theorem h6' {dd:Addr} {ep:Nat} {od:Obj} {es:Array DictEntry} {Q:Value->Shared->Prop} (hd:(dd == sysModules)=false) (hT:s.TypeIs (.ref dd) "dict") (g1:s.heap.get? dd=some od) (g2:od.data=.dict es ep)
  (hQ:Q (.ref s.heap.objs.size) { s with heap:=s.heap.push { cls:=.type "dict_keyiterator",data:=.fields #[.ref dd,.int 0 0,.int es.size 0,.int ep 0] } }):wpAny (model prog w) A (pyIter (.ref dd)) Q E s:=by
 refine wpAny_pyIter_slot hT F.slot_dict_iter (aU F.slot_dict_iter hT F.entry_dict_iter ?_ (F.args_dict_iter_1 _))
 unfold Builtin.«dict.__iter__»
 refine aa ?_
 unfold Builtin.Dict.dictSlotNone
 refine aa (wpAny_notOrdered_dict hT ?_)
 show wpAny _ _ (pure (Value.ref dd)) _ _ s
 refine ae ?_
 show wpAny _ _ (Builtin.Dict.showsAll dd >>= _) _ _ s
 unfold Builtin.Dict.showsAll
 rw[if_neg (by rw[hd];exact ap)]
 refine aa (ae (aa (bO g1 g2 (aa (cj g1 g2 ?_)))))
 refine aa (bc (ae ⟨_,rfl,"dict_keyiterator",_,⟨_,am _ rfl,rfl⟩,F.slot_dict_keyiterator_next.lookup,?_⟩))
 simpa[rawInt]using hQ
end
def Fz (H:Hp) (d:Addr) (o:Obj):Prop:=∃u,H d=some (.frz o u)
def KsO (o:Obj) (ks:List V):Prop:=∃es ep,o.data=.dict es ep/\aB' ks (es.toList.map (·.key))
def oy' (d:Addr) (o:Obj) (ks:List V):It:=⟨fun i H=>i<ks.length/\Fz H d o,fun i H x H'=>H'=H/\ks[i]?=some x,fun i H=>ks.length<=i/\Fz H d o⟩
theorem Fz.at {P:Program} {w:World} {H:Hp} {h:Heap} {d:Addr} {o:Obj} (f:Fz H d o) (x:HOk P w H h):h.get? d=some o:=let⟨u,e⟩:=f;(x d _ e).1
theorem kH' {P:Program} {w:World} {K:W.Frag} {tg:Expr} (it d:Addr) {o:Obj} {ks:List V} {es:Array DictEntry} {ep:Nat} (hd:o.data=.dict es ep) (hv:aB' ks (es.toList.map (·.key))):Turn P w K tg (oy' d o ks) [it] it (fun i h=>h.IsKeyIter it d i es.size ep) where
 mem:=by simp
 obj:=fun i h st b hb=>by
  have e:b=it:=by simpa using hb
  subst e
  obtain⟨ob,e,c,dt⟩:=st
  exact⟨ob,e,fun v z=>by rw[dt]at z;cases z⟩
 keep:=fun i h h' st k=>st.at fun ob e=>k it (by simp) ob e
 item:=by
  intro X hP hw hK hc i pins s σ H E I hf st hg
  subst hP hw hK
  obtain⟨hi,hz⟩:=hg
  have hx:ks[i]?=some ks[i]:=ac hi
  obtain⟨u,hu,ru⟩:=hv.get hx
  rw[au]at hu
  obtain⟨en,he,rfl⟩:=cw.mp hu
  obtain⟨f0,f1,f2,f3,f4,f5⟩:=hf it (by simp)
  refine h5' st (hz.at I.hok) hd (by simpa using he) fun h' st' sb=>?_
  have I1:Inv X pins σ H { s with heap:=h' }:=I.turned (t':=s.toks) (fun b o hb e=>(sb.2 b hb).trans e) f0 f1 f3 f4 f5
  obtain⟨ob,e1,c,dt⟩:=id st'
  exact⟨_,rfl,jp' (s:={ s with heap:=h' }) e1 c dt (by decide) ⟨_,H,I1,ru,⟨rfl,hx⟩,st',fun b hb=>(hf b hb).1⟩⟩
 done:=by
  intro X hP hw hK hc i pins s σ H E I hf st hg
  subst hP hw hK
  obtain⟨hi,hz⟩:=hg
  obtain⟨f0,f1,f2,f3,f4,f5⟩:=hf it (by simp)
  have hl:ks.length=es.size:=by have:=hv.length;simpa using this
  exact kG' (I.ok.hd hc) st (hz.at I.hok) hd (by omega) fun h' eb=>⟨rfl,I.turned (t':=s.toks) (fun b o hb e=>eb b o hb e) f0 f1 f3 f4 f5⟩
 self:=fun _ _ _ _ _ st h=>wpAny_pyIter_keyiter st h
section
variable {X:Cx} {tg:Expr}
theorem HOk.freeze {P:Program} {w:World} {H:Hp} {h:Heap} {d:Addr} {u:HO} {o:Obj} (x:HOk P w H h) (e:H d=some u) (hu:Mut (some u)) (ho:h.get? d=some o):HOk P w (upd H d (.frz o u)) h:=fun b v q=>by
 have ntup:∀c xs,H c=some (.tup xs)->c≠d:=fun c xs r z=>by subst z;rw[r]at e;cases e;exact hu
 have nown:∀c y,H c=some (.own y)->c≠d:=fun c y r z=>by subst z;rw[r]at e;cases e;exact hu
 have st:∀a v,av' P w H h a v->av' P w (upd H d (.frz o u)) h a v:=fun a v y=>y.stay (fun _ _ _ q=>q) (fun c r=>by rw[ad' (nown c a r)];exact r) fun c xs r=>by rw[ad' (ntup c xs r)];exact r
 by_cases hb:b=d
 .subst hb;rw[aa']at q;cases q;exact⟨ho,st _ _ (x _ _ e)⟩
 .rw[ad' hb]at q;exact st _ _ (x b v q)
theorem Inv.freeze {pins:List (Addr×Obj)} {σ:St} {H:Hp} {s:Shared} {d:Addr} {u:HO} {o:Obj} (I:Inv X pins σ H s) (e:H d=some u) (hu:Mut (some u)) (ho:s.heap.get? d=some o):Inv X pins σ (upd H d (.frz o u)) s:=by
 have:=I.step (h':=s.heap) (g':=s.gens) (d':=s.drawn) (t':=s.toks) (ch:=[]) (H':=upd H d (.frz o u)) (fun _ z=>nomatch z) (fun b o _ _ _ q _=>q) (fun b o _ _ _ q _=>⟨o.slots,q⟩)
  (fun b o _ _ n=>by rw[ad' (fun z=>by subst z;rw[n]at e;cases e)];exact n) (fun b o _ q=>⟨o,q⟩)
  (fun b xs q=>by rw[ad' (fun z=>by subst z;rw[q]at e;cases e;exact hu)];exact q)
  (fun b o v q=>by rw[ad' (fun z=>by subst z;rw[q]at e;cases e;exact hu)];exact q)
  (fun b ps q=>⟨#[],by rw[ad' (fun z=>by subst z;rw[q]at e;cases e;exact hu),Array.append_empty];exact q⟩)
  (fun m n=>n) (I.hok.freeze e hu ho) I.bare
 exact this
def DkV (x:V) (H1:Hp) (R:It->Hp->Prop):Prop:=∃d kvs,x=.ref d/\Rd H1 d (.dK kvs)/\∀o,KsO o (kvs.map fun kv=>kV kv.1)->R (oy' d o (kvs.map fun kv=>kV kv.1)) (upd H1 d (.frz o (.dK kvs)))
def DtV (x:V) (H1:Hp) (R:It->Hp->Prop):Prop:=∃d kvs,x=.ref d/\Rd H1 d (.dT kvs)/\∀o (as:List Addr),as.length=kvs.length->(∀(i:Nat) a kv,as[i]?=some a->kvs[i]?=some kv->H1 a=some (.tup (kv.1.map kV)))->KsO o (as.map V.ref)->R (oy' d o (as.map V.ref)) (upd H1 d (.frz o (.dT kvs)))
def DnV (x:V) (H1:Hp) (R:It->Hp->Prop):Prop:=∃d L,x=.ref d/\H1 d=some (cv' d L)/\fx' H1 L/\∀o,KsO o (L.map nkV)->R (oy' d o (L.map nkV)) (upd H1 d (.frz o (cv' d L)))
def xp' (tl:TE):TI:=fun σ H R=>tl σ H fun x H1=>DkV x H1 R\/DtV x H1 R\/DnV x H1 R
set_option tactic.hygienic true in
theorem mS' {H:Hp} {d:Addr} {u:HO} (e:H d=some u):upd H d u=H:=by
 funext b;unfold upd;split
 .rename_i z;rw[z,e]
 .rfl
theorem fj' {pins:List (Addr×Obj)} {σ:St} {H1:Hp} {s1:Shared} {d:Addr} {u:HO} {R:It->Hp->Prop} {ks:List V} {o:Obj} {es:Array DictEntry} {ep:Nat} (I1:Inv X pins σ H1 s1) (hr:Rd H1 d u) (hu:Mut (some u)) (hs:(d == sysModules)=false) (hT:s1.TypeIs (.ref d) "dict")
  (ho:s1.heap.get? d=some o) (hd:o.data=.dict es ep) (hv:aB' ks (es.toList.map (·.key))) (q:∀o,KsO o ks->R (oy' d o ks) (upd H1 d (.frz o u))):wpAny (model X.prog X.w) X.A (pyIter (.ref d)) (PIE X pins σ tg R) X.xe s1:=by
 have I2:Inv X pins σ (upd H1 d (.frz o u)) s1:=by
  rcases hr with e|⟨o',e⟩
  .exact I1.freeze e hu ho
  .have:=(I1.hok d _ e).1
   rw[ho]at this
   cases this
   rw[mS' e];exact I1
 refine h6' hs hT ho hd ?_
 refine⟨s1.heap.objs.size,[s1.heap.objs.size],_,_,upd H1 d (.frz o u),rfl,I2.kept (t':=s1.toks) (fun b o e=>ab _ e),kH' _ d hd hv,⟨_,am _ rfl,rfl,rfl⟩,fun b hb=>?_,q o ⟨es,ep,hd,hv⟩⟩
 have e:b=s1.heap.objs.size:=by simpa using hb
 subst e
 exact I2.fpOk (ah _) (I2.hok.fresh (ah _))
theorem tG' {l:Expr} {tl:TE} (hl:PE X l tl):PI X tg l (xp' tl):=by
 intro pins s σ H R I h
 refine thn (hl pins s σ H _ I h) fun v s1 ⟨x,H1,I1,r1,q1⟩=>?_
 rcases q1 with⟨d,kvs,rfl,hr,q⟩|⟨d,kvs,rfl,hr,q⟩|⟨d,L,rfl,hD,ht,q⟩
 .cases r1
  obtain⟨z,hs,vs,rel,dd⟩:=(show av' X.prog X.w H1 s1.heap d (.dK kvs) from hr.ok I1.hok)
  obtain⟨o,es,ep,ho,hc,hdat,hk,hp,hn⟩:=id dd
  refine fj' I1 hr trivial hs dd.typeIs ho hdat (fi' ?_ ?_) q
  .have h1:=rel.length
   have h2:=hp.length
   rw[af,af]
   omega
  .intro i x u hx hu
   rw[au]at hx hu
   obtain⟨kv,hkv,rfl⟩:=cw.mp hx
   obtain⟨en,hen,rfl⟩:=cw.mp hu
   obtain⟨p,hpv⟩:∃p,vs[i]?=some p:=by
    have h1:=rel.length
    obtain⟨hl,_⟩:=aG.mp hkv
    exact⟨vs[i]'(by omega),ac _⟩
   have e:=(xo' rel hkv hpv).1
   rw[e]
   exact xn' (hp.get? hen hpv).1
 .cases r1
  obtain⟨z,hs,xs,rel,o,es,ep,ho,hc,hdat,he,hn⟩:=(show av' X.prog X.w H1 s1.heap d (.dT kvs) from hr.ok I1.hok)
  have hT:s1.TypeIs (.ref d) "dict":=⟨o,ho,hc.1⟩
  have hl:xs.length=kvs.length:=rel.length.symm
  refine fj' I1 hr trivial hs hT ho hdat (ks:=(xs.map fun x=>x.2.1).map V.ref) (fi' ?_ ?_) fun o' ho'=>q o' (xs.map fun x=>x.2.1) (by rw[af];exact hl) (fun i a kv ha hkv=>?_) ho'
  .rw[he];simp
  .intro i x u hx hu
   rw[he,au,au]at hu
   rw[au,au]at hx
   cases e:xs[i]? with
   |none=>rw[e]at hx;simp at hx
   |some p=>
    rw[e]at hx hu
    simp at hx hu
    rw[<- hx,<- hu]
    rfl
  .rw[au]at ha
   obtain⟨p,hp,rfl⟩:=cw.mp ha
   have key:∀{l:List (List Key×V)} {m:List (List Key×Addr×Value)},Paired (fun(p:List Key×V) (q:List Key×Addr×Value)=>p.1=q.1/\H1 q.2.1=some (.tup (p.1.map kV))/\ay' p.2 q.2.2) l m->∀(i:Nat) kv p,l[i]?=some kv->m[i]?=some p->H1 p.2.1=some (.tup (kv.1.map kV)):=by
    intro l m r
    induction r with
    |nil=>intro i kv p h;simp at h
    |cons h r ih=>
     intro i kv p h1 h2
     cases i with
     |zero=>cases h1;cases h2;exact h.2.1
     |succ i=>exact ih i kv p (by simpa using h1) (by simpa using h2)
   exact key rel i kv p hkv hp
 .cases r1
  obtain⟨hs,_,_,_,o,es,ep,ho,hex,hdat,m⟩:=gO' I1 hD ht
  have hes:es.toList=L.map wp':=m.its.trans fe'
  refine fj' I1 (.inl hD) True.intro hs (kh' ho hex) ho hdat (ks:=L.map nkV) (fi' (by rw[hes];simp) fun i x u hx hu=>?_) q
  rw[hes,au,au]at hu
  rw[au]at hx
  cases e:L[i]? with
  |none=>rw[e]at hx;cases hx
  |some z=>
   rw[e]at hx hu
   cases hx
   cases hu
   cases z<;>rfl
end
section
variable {X:Cx} {pos:Pos}
def xq' (K:W.Frag) (n:Nat) (t:TGs):TG:=fun v σ H Q=>∃a xs,v=.ref a/\(SqT K H a xs\/SqL K H a xs)/\xs.length=n/\t xs σ H Q
theorem tH' {es:List Expr} {k:Nat} {t:TGs} {n:Nat} (hc:X.calm=true) (h:PGs X es t)
  (hn:(assignEach es X.env).length=n:=by rfl) (hst:(assignEach es X.env).findIdx? (·.1)=none:=by rfl):PG X (.Tuple es k pos) (xq' X.K n t):=by
 intro pins s σ H v u Q I r hw
 obtain⟨a,xs,e1,hq,hl,hw⟩:=hw
 rcases hq with hq|hq
 .exact r7' hc h hn hst pins s σ H v u Q I r ⟨a,xs,e1,hq,hl,hw⟩
 .subst e1
  cases r
  obtain⟨its,rv,pl,hz⟩:=I.list hq
  rw[assign_Tuple]
  refine aa (bT ?_)
  unfold unpack
  rw[hn,hst]
  have e:n=its.toArray.size:=by simp[<- hl,rv.length]
  rw[e]
  refine aa (aE (W.kun_itemsOf (I.ok.hd hc) pl.isList fun h' hx=>?_))
  have I1:Inv X pins σ H { s with heap:=h' }:=I.kept (t':=s.toks) fun b o e=>hx b o (ax (al e)) e
  exact h pins _ σ H xs _ Q I1 (by simpa using rv) hw
end
section
variable {prog:Program} {w:World} {A:Around} {E:Value->Shared->Prop} {s:Shared} {K:Type} [DecidableEq K] {knd:HeapKind prog w K} {d:Addr}
theorem iV' (knd:HeapKind prog w K) (hd:(d == sysModules)=false):MeetsIn prog w (Builtin.«dict.__len__» ⟨[.ref d],[]⟩) (fun _ R s=>∃xs,s.heap.DictOfH knd d xs/\R (.ok (.ret (.int xs.length s.toks))) { s with toks:=s.toks+1 }):=
 .of_wp fun A R s ⟨xs,hm,h⟩=>by
  obtain⟨o,es,ep,ho,hc,hdat,hk,_⟩:=hm
  show wpAny _ _ (dictSize d >>= _) _ _ s
  unfold dictSize
  refine aa (aa (bO ho hdat (ae ?_)))
  show wpAny _ _ (Builtin.Dict.pendingCount d >>= _) _ _ s
  refine aa (wpAny_pendingCount_other hd ?_)
  refine wpAny_ret_mkInt ?_
  rw[Nat.add_zero,size_of_entries hk];exact h
theorem kI' {xs:List (K×Addr×Value)} {Q:Value->Shared->Prop} (hd:(d == sysModules)=false) (hm:s.heap.DictOfH knd d xs) (hfit:(xs.length:Int)<2 ^ 63)
  (h:Q (.int xs.length (s.toks+1)) { s with toks:=s.toks+1+1 }):wpAny (model prog w) A (call (.builtin "len") [.ref d]) Q E s:=by
 refine Calls.call_function_entry kind_len plain_len entry_len (args_len1 _) ?_
 unfold Builtin.«len»
 refine aa (m:=oneArg "len" _) (ae ?_)
 refine aa (m:=callSpecial? (.ref d) (Str.ofString "__len__")) (aN (name:=Str.ofString "__len__") hm.typeIs F.slot_dict_len
  (call_meetsIn F.slot_dict_len hm.typeIs F.entry_dict_len (F.args_dict_len_1 _) (iV' knd hd) ⟨xs,hm,?_⟩))
 show wpAny _ _ _ _ _ { s with toks:=s.toks+1 }
 refine aa (aE (ae ?_))
 refine aa (wpAny_letGo ?_)
 show wpAny _ _ (if((xs.length:Nat):Int)<0 then _ else _) _ _ _
 rw[if_neg (by omega)]
 show wpAny _ _ (if((xs.length:Nat):Int) ≥ 2 ^ 63 then _ else _) _ _ _
 rw[if_neg (by omega)]
 exact aa (wpAny_mkInt (ae ⟨_,rfl,h⟩))
end
section
variable {X:Cx}
def oz':List V->Hp->VK->Prop:=fun xs H Q=>tF' xs H Q\/∃a kvs,xs=[V.ref a]/\Rd H a (.dT kvs)/\Q (.int kvs.length) H
theorem iW':aP' X (.builtin "len") oz':=by
 intro pins s σ H xs us Q I r h
 rcases h with h|⟨a,kvs,rfl,ha,q⟩
 .exact iU' pins s σ H xs us Q I r h
 .obtain⟨u,rfl,ru⟩:=dp' r
  cases ru
  obtain⟨z,hd,vs,rel,dd⟩:=fL' I.hok ha
  have e:=Paired.length rel
  exact kI' hd dd (by rw[<- e];rw[sizeLine_eq]at z;omega) ⟨.int kvs.length,H,I.tok _,⟨_,by rw[e]⟩,q⟩
end
end L2
namespace L2
open PySem PySem.Spec PyProof.Rows PySem.SeqAt
section
variable {prog:Program} {w:World} {d:Addr} {o:Obj} {es:Array DictEntry} {ep:Nat}
theorem kJ' {A:Around} (hh:A.handled=none) (I:Addr) (hne:d≠I) (hd:o.data=.dict es ep):
  Walks prog w A I [I,d] [I] es.size (fun i v=>∃en,es[i]?=some en/\v=en.key) (fun i h=>h.IsKeyIter I d i es.size ep/\h.get? d=some o) where
 sub:=fun b hb=>by simp at hb;simp[hb]
 frame:=fun _ _ _ st hk=>⟨st.1.at fun o e=>hk I (by simp) o e,hk d (by simp) _ st.2⟩
 item:=fun i s Q E hi st hQ=>by
  have hx:es[i]?=some es[i]:=by simp[hi]
  refine h5' st.1 st.2 hd hx fun h' hit' hs'=>?_
  exact hQ _ h' s.toks ⟨_,hx,rfl⟩ ⟨hit',hs'.extBut d _ hne st.2⟩ fun b o hb e=>hs'.extBut b o (fun h=>hb (by simp[h])) e
 done:=fun s Q E st hQ=>kG' hh st.1 st.2 hd (ah _) fun h' he'=>hQ h' s.toks fun b o hb e=>he' b o (fun h=>hb (by simp[h])) e
 self:=fun _ _ _ _ st hQ=>wpAny_pyIter_keyiter st.1 hQ
theorem qd' (lo:(d == sysModules)=false) (hc:o.cls=.type "dict") (hd:o.data=.dict es ep):W.KdlSrc prog w "dict" d d es.size (fun i v=>∃en,es[i]?=some en/\v=en.key) (fun h=>h.get? d=some o) where
 type:=fun _ hm=>⟨o,hm,hc⟩
 there:=fun _ hm=>⟨al hm,al hm⟩
 keep:=fun _ _ hm hk=>hk d (.inl rfl) _ hm
 notList:=by decide
 notTuple:=by decide
 hint:=fun _ _ _ _ hm hq=>W.kdl_hint_dict ⟨o,hm,hc⟩ hq
 iter:=fun _ _ hh hm=>⟨_,_,(fun _ _ hq=>h6' lo ⟨o,hm,hc⟩ hm hd hq),kJ' hh _ (ax (al hm)) hd,⟨⟨_,am _ rfl,rfl,rfl⟩,ab _ hm⟩⟩
end
section
variable {X:Cx}
end
def Pw {α:Type} (R:V->α->Prop) (vs:List V) (as:List α):Prop:=vs.length=as.length/\∀(i:Nat) v a,vs[i]?=some v->as[i]?=some a->R v a
def LsR (H:Hp) {α:Type} (R:V->α->Prop) (v:V) (as:List α):Prop:=∃p vs,v=.ref p/\H p=some (.lst vs)/\Pw R vs as
def TpI (H:Hp) (v:V) (ns:List Int):Prop:=∃p,v=.ref p/\H p=some (.tup (ns.map V.int))
def wu' {α:Type} (R:V->α->Prop):Prop:=∀x a b,R x a->R x b->a=b
theorem Pw.fun1 {α:Type} {R:V->α->Prop} (hR:wu' R) {vs:List V} {as bs:List α} (h1:Pw R vs as) (h2:Pw R vs bs):as=bs:=by
 apply bE
 intro i
 by_cases hi:i<vs.length
 .have g:=ac hi
  have g1:=ac (show i<as.length by rw[<- h1.1];exact hi)
  have g2:=ac (show i<bs.length by rw[<- h2.1];exact hi)
  rw[g1,g2,hR _ _ _ (h1.2 i _ _ g g1) (h2.2 i _ _ g g2)]
 .rw[bx (by rw[<- h1.1];omega),bx (by rw[<- h2.1];omega)]
theorem LsR.fun1 {H:Hp} {α:Type} {R:V->α->Prop} (hR:wu' R):wu' (LsR H R):=by
 rintro x a b ⟨p,vs,rfl,e,h⟩ ⟨q,ws,z,e',h'⟩
 cases z
 rw[e]at e'
 cases e'
 exact h.fun1 hR h'
theorem TpI.fun1 {H:Hp}:wu' (TpI H):=by
 rintro x a b ⟨p,rfl,e⟩ ⟨q,z,e'⟩
 cases z
 rw[e]at e'
 exact dW' (by injection e' with e';injection e' with e')
section
variable {X:Cx} {pins:List (Addr×Obj)} {σ:L2.St} {H:Hp} {s:Shared}
def zL':R2:=fun x y H Q=>∃(k:List (List Int)) (L:List (List (List Int))),LsR H (TpI H) x k/\LsR H (LsR H (TpI H)) y L/\Q (.bl (decide (k∈L))) H
end
end L2
namespace L2
open PySem PySem.Spec PyProof.Rows PySem.Ts PySem.SeqAt
def unK (ks:List Key):List Int:=ks.map fun k=>match k with
 | .inl i=>i
 |_=>0
theorem kK' {is:List Int}:unK (is.map Key.inl)=is:=by
 unfold unK
 rw[bi]
 conv=>rhs;rw[<- List.map_id is]
 rfl
section
variable {prog:Program} {w:World} {A:Around} {E:Value->Shared->Prop} {s:Shared} {T:String} {r d:Addr} {n:Nat} {P:Nat->Value->Prop} {OK:Heap->Prop}
theorem gT' {R:List Value->Shared->Prop} (K:W.KdlSrc prog w T r d n P OK) (hh:A.handled=none) (hok:OK s.heap) (hn:n<=sizeLine)
  (h:∀(h':Heap) (tk:Nat) (acc:Array Value),(∀b o,s.heap.get? b=some o->h'.get? b=some o)->s.heap.objs.size<=h'.objs.size->ItemsOf P acc n->R acc.toList { s with heap:=h',toks:=tk }):wpAny (model prog w) A (collect (.ref r)) R E s:=by
 obtain⟨l1,l2⟩:=K.there _ hok
 unfold collect
 refine aa (wpAny_runValue (codeAny_builtin F.entry_proto_collect ?_))
 rw[Around.under_plainId F.plain_proto_collect _]
 show wpAny _ A.in1 (newList [] >>= fun l=>again (.builtin "list.__iadd__" ⟨[l,.ref r],[]⟩)) _ _ s
 refine aa (bc ?_)
 refine ae ⟨plainId_quiet F.plain_list_iadd _,codeAny_builtin F.entry_list_iadd ?_⟩
 rw[Around.under_plainId F.plain_list_iadd _]
 generalize hlo:({ cls:=.type "list",data:=.seq ([]:List Value).toArray }:Obj)=lo
 have hS:(s.heap.push lo).get? s.heap.objs.size=some lo:=am _ (by rw[<- hlo];rfl)
 show wpAny _ A.in1 (Builtin.List.listExtendWith (.ref s.heap.objs.size) (.ref r) (.ref s.heap.objs.size)) _ _ _
 refine wpAny_mono (W.kdl_extend (A:=A) (s:={ s with heap:=s.heap.push lo })
  (R:=fun q s'=>∃h' tk acc,q=.ok (.ret (.ref s.heap.objs.size))/\s'={ s with heap:=h',toks:=tk }/\(∀b o,s.heap.get? b=some o->h'.get? b=some o)/\(∃c,h'.get? s.heap.objs.size=some { cls:=.type "list",dict:=none,data:=.seq acc c,slots:=#[] })/\ItemsOf P acc n)
  K hh (K.keep _ _ hok fun b _ o e=>ab _ e) s.heap.objs.size (bn l1) (bn l2) (.ref s.heap.objs.size) 0 (by rw[hS,<- hlo])
  (fun h' tk acc c hk hS' hacc=>⟨h',tk,acc,rfl,rfl,fun b o e=>hk b o (ax (al e)) (ab _ e),⟨c,hS'⟩,hacc⟩) hn) (fun fin s' x=>?_) fun e s' x=>?_
 .cases fin with
  |done f=>
   obtain⟨h',tk,acc,e,rfl,hk,⟨c,hS'⟩,hacc⟩:=x
   cases e
   show wpAny _ A (load s.heap.objs.size >>= _) _ _ _
   exact aa (wpAny_load hS' (ae (h h' tk acc hk (bK (al hS')) hacc)))
  |again c=>
   refine⟨x.1,codeAny_mono x.2 fun q s2 y=>?_⟩
   obtain⟨h',tk,acc,rfl,rfl,hk,⟨c,hS'⟩,hacc⟩:=y
   show wpAny _ A (load s.heap.objs.size >>= _) _ _ _
   exact aa (wpAny_load hS' (ae (h h' tk acc hk (bK (al hS')) hacc)))
 .obtain⟨_,_,_,e',_⟩:=x
  cases e'
end
section
variable {X:Cx}
theorem eI' {α β γ:Type} {F:α->β->Prop} {f:α->γ} {g:β->γ}:∀{xs:List α} {ys:List β},Paired F xs ys->(∀x y,F x y->f x=g y)->xs.map f=ys.map g
 |_,_,.nil,_=>rfl
 |_,_,.cons h r,k=>by rw[aL,aL,k _ _ h,eI' r k]
theorem kL' {prog:Program} {w:World} {h0:Heap} {a:Addr} {vs:List Value} {O:KeyOrd} {kv:Value->O.α} (h:xk' prog w h0 a vs O kv) (hs:vs.Pairwise fun x y=>O.kle (kv x) (kv y)):UpV prog w h0 a vs:=by
 intro h2
 obtain⟨κ,hκ⟩:=h h2
 refine⟨κ,fun A s hk=>?_⟩
 obtain⟨k1,k2⟩:=hκ A s hk
 refine⟨k1,fun i x y hi hx hy E Q q=>?_⟩
 have at_:∀{i:Nat} {x:Keyed},(pairsOf vs)[i]?=some x->vs[i]?=some x.1:=fun {i x} hx=>by
  rw[<- Array.getElem?_toList,pairsOf_toList,List.getElem?_zip_eq_some]at hx
  exact hx.1
 have hx:=at_ hx
 have hy:=at_ hy
 obtain⟨l1,e1⟩:=aG.mp hx
 obtain⟨l2,e2⟩:=aG.mp hy
 have:=aX.mp hs (i-1) i l2 l1 (by omega)
 rw[e1,e2]at this
 refine k2 x.1 y.1 (av hx) (av hy) E Q ?_
 rw[show O.blt (kv x.1) (kv y.1)=false from this]
 exact q
def oA':List V->Hp->VK->Prop:=fun xs H Q=>∃(a:Addr) (kvs:List (List Key×V)) (n:Nat),xs=[.ref a]/\Rd H a (.dT kvs)/\(∀kv∈kvs,∃is:List Int,kv.1=is.map Key.inl/\is.length=n+1)/\((kvs.map fun kv=>unK kv.1).Pairwise fun x y=>aR' (kI y) (kI x)=false)/\
 ∀(l:Addr) (as:List Addr),H l=none->as.length=kvs.length->(∀(i:Nat) b kv,as[i]?=some b->kvs[i]?=some kv->H b=some (.tup (kv.1.map kV)))->Q (.ref l) (upd H l (.lst (as.map V.ref)))
theorem iX' (hc:X.calm=true):aP' X (.builtin "sorted") oA':=by
 intro pins s σ H xs us Q I rv h
 obtain⟨a,kvs,n,rfl,hH,hk,hup,q⟩:=h
 obtain⟨u,rfl,r1⟩:=dp' rv
 cases r1
 obtain⟨z,hd,xs,rel,o,es,ep,ho,hcl,hdat,he,_⟩:=fL' I.hok hH
 have hlen:kvs.length=xs.length:=Paired.length rel
 have hsz:es.size=xs.length:=size_of_entries he
 have hz:es.size<=sizeLine:=by rw[hsz,<- hlen];exact z
 have hx:∀x∈xs,∃is:List Int,x.1=is.map Key.inl/\is.length=n+1/\H x.2.1=some (.tup (is.map V.int)):=fun x hx=>by
  obtain⟨kv,hkv,e1,e2,_⟩:=a1' rel hx
  obtain⟨is,e3,e4⟩:=hk kv hkv
  refine⟨is,by rw[<- e1,e3],e4,?_⟩
  rw[e2,e3,dU']
 generalize hL:(xs.map fun x=>(unK x.1,x.2.1))=L
 have hLm:∀p∈L,H p.2=some (.tup (p.1.map V.int))/\p.1.length=n+1:=fun p hp=>by
  rw[<- hL]at hp
  obtain⟨x,hxm,rfl⟩:=az.mp hp
  obtain⟨is,e1,e2,e3⟩:=hx x hxm
  show H x.2.1=some (.tup ((unK x.1).map V.int))/\(unK x.1).length=n+1
  rw[e1,kK']
  exact⟨e3,e2⟩
 have hLl:L.length=xs.length:=by rw[<- hL,af]
 have hLk:L.map Prod.fst=kvs.map fun kv=>unK kv.1:=by
  rw[<- hL,bi]
  exact(eI' rel fun x y h=>by show unK x.1=unK y.1;rw[h.1]).symm
 refine Calls.call_function_entry kind_sorted plain_sorted entry_sorted (args_sorted1 _) ?_
 unfold Builtin.«sorted»
 refine aa (m:=checkCount "sorted" 1 1 _) (ae (aa (gT' (qd' hd hcl.1 hdat) (I.ok.hd hc) ho hz fun h' tk acc k1 hle hacc=>?_)))
 have hal:acc.toList.length=xs.length:=by rw[aA,hacc.1,hsz]
 have eacc:acc.toList=L.map fun q=>Value.ref q.2:=by
  apply bE
  intro i
  rw[<- hL,bi,au]
  cases e:xs[i]? with
  |none=>rw[bx (by rw[hal];exact aR.mp e)];rfl
  |some p=>
   have hi:i<acc.toList.length:=by rw[hal];exact ltG e
   obtain⟨en,hen,ev⟩:=hacc.2 i acc.toList[i] (by rw[<- Array.getElem?_toList];exact ac hi)
   rw[entry_at he,e]at hen
   cases hen
   rw[ac hi,ev]
   rfl
 rw[eacc]
 refine aa (wpAny_newList ?_ (by rw[af,hLl,<- hsz];exact hz))
 have tps:∀q∈L,Tps h' (q.2,kI q.1):=fun q hq=>by
  obtain⟨o,items,n,g1,g2,g3,g4⟩:=tA' (q:=q) I.hok (hLm q hq).1
  exact⟨o,items,n,k1 _ _ g1,g2,g3,tD' g4⟩
 generalize hqs:L.map (fun q=>(q.2,kI q.1))=qs
 have hvs:(L.map fun q=>Value.ref q.2)=qs.map fun q=>Value.ref q.1:=by rw[<- hqs,bi];rfl
 have hP:∀q∈qs,Tps h' q:=fun q hq=>by
  rw[<- hqs]at hq
  obtain⟨p,hp',rfl⟩:=az.mp hq
  exact tps p hp'
 have hsh:∀q∈qs,shp q.2=true :: aC n true:=fun q hq=>by
  rw[<- hqs]at hq
  obtain⟨p,hp',rfl⟩:=az.mp hq
  show shp (kI p.1)=_
  rw[tE',(hLm p hp').2]
  rfl
 have hoL:(h'.push (seqObj "list" (L.map fun q=>Value.ref q.2).toArray 0)).get? h'.objs.size=some (seqObj "list" (L.map fun q=>Value.ref q.2).toArray 0):=am _ rfl
 have hany:xk' X.prog X.w (h'.push (seqObj "list" (L.map fun q=>Value.ref q.2).toArray 0)) h'.objs.size (L.map fun q=>Value.ref q.2) kE' (rQ' qs):=by
  rw[hvs]
  refine mR' (fun q hq=>?_) (fun q hq=>?_) hsh
  .obtain⟨o,xs,n,g1,r⟩:=hP q hq
   exact⟨o,xs,n,ab _ g1,r⟩
  .obtain⟨o,xs,n,g1,r⟩:=hP q hq
   exact ax (al g1)
 have hLu:L.Pairwise fun x y=>aR' (kI y.1) (kI x.1)=false:=by
  rw[<- hLk,ck]at hup
  exact hup
 have hvu:(L.map fun q=>Value.ref q.2).Pairwise fun x y=>kE'.kle (rQ' qs x) (rQ' qs y):=by
  rw[ck]
  refine List.Pairwise.imp_of_mem (fun {x y} hx hy z=>?_) hLu
  have hkk:∀x∈L,rQ' qs (.ref x.2)=kI x.1:=fun x hx=>by
   have:(x.2,kI x.1)∈qs:=by rw[<- hqs];exact az.mpr ⟨x,hx,rfl⟩
   exact gS' hP this
  unfold KeyOrd.kle
  rw[hkk x hx,hkk y hy]
  exact z
 refine aa (aE (aU slot_list_sort ⟨_,hoL,rfl⟩ entry_list_sort (qa' hoL (kL' hany hvu) (by rw[af,hLl,<- hsz];exact hz) ⟨_,rfl,ae ⟨_,rfl,?_⟩⟩) (args_list_sort _)))
 obtain⟨e',he'⟩:=sortedHeap_at (out:=(L.map fun q=>Value.ref q.2).toArray) hoL
 have hn:H h'.objs.size=none:=I.hok.fresh hle
 refine⟨.ref h'.objs.size,_,I.laid (a:=h'.objs.size) (o:=.lst ((L.map fun q=>q.2).map V.ref)) (fun b o eb=>?_) hle ⟨by rw[af,af,hLl,<- hlen];exact z,_,e',by rw[bi];exact h4' L,he'⟩,rfl,q _ (L.map fun q=>q.2) hn (by rw[af,hLl,hlen]) fun i b kv hb hkv=>?_⟩
 .have hlt:=al (k1 b o eb)
  rw[sortedHeap_old (ax hlt) (by rw[size_push'];exact bF hlt)]
  exact ab _ (k1 b o eb)
 .rw[au]at hb
  cases e:L[i]? with
  |none=>rw[e]at hb;cases hb
  |some p=>
   rw[e]at hb
   cases hb
   obtain⟨is,e3,_⟩:=hk kv (av hkv)
   have e4:(L.map Prod.fst)[i]?=some p.1:=by rw[au,e];rfl
   rw[hLk,au,hkv]at e4
   have e5:unK kv.1=p.1:=Option.some.inj e4
   rw[e3,kK']at e5
   have:=(hLm p (av e)).1
   rw[<- e5]at this
   rw[e3,dU']
   exact this
end
section
variable {prog:Program} {w:World} {A:Around} {E:Value->Shared->Prop} {s:Shared}
theorem da' {M:Model} {a:Addr} {Q:Option Obj->Shared->Prop} (h:Q (s.heap.get? a) s):wpAny M A (loadIfAlive a) Q E s:=fun Γ p _=>by
 show Sem.wp M Γ (Sem.loadIfAlive a Sem.pure) _ _ p s
 rw[Sem.wp_loadIfAlive]
 exact h
def qe' (h:Heap) (z TI TO:Addr) (f0 f1:Value):Prop:=h.get? z=some { cls:=.type "zip",data:=.fields #[f0,f1,.bool false,.ref TI,.ref TO] }
theorem h7' {b1:Bool} {z TI TO T:Addr} {oT:Obj} {Q:Bool->Shared->Prop} (hz:qe' s.heap z TI TO (rawInt T) (.bool b1)) (hT:s.heap.get? T=some oT)
  (hQ:∀h',qe' h' z TI TO (rawInt T) (.bool true)->bL z s.heap h'->Q false { s with heap:=h' }):wpAny (model prog w) A (Builtin.SmallTypes.ownedTupleIsFree (.ref z)) Q E s:=by
 unfold Builtin.SmallTypes.ownedTupleIsFree
 refine aa (bm hz rfl (x:=rawInt T) rfl ?_)
 have eT:((T:Int)).toNat=T:=bN T
 simp only[rawInt]
 rw[eT]
 refine aa (da' ?_)
 rw[hT]
 simp only[Option.isNone_some,aP,if_false]
 refine aa (bm hz rfl (x:=.bool b1) rfl ?_)
 cases b1 with
 |true=>
  rw[if_neg (by decide)]
  exact ae (hQ s.heap hz ⟨rfl,fun _ _=>rfl⟩)
 |false=>
  rw[if_pos (by decide)]
  refine aa (bP hz (by simp) fun h' hz' hs'=>ae (hQ h' hz' hs'))
theorem kM' {k j b1:Bool} {z TI TO i1 i2 l1 l2 T:Addr} {k1 k2:Nat} {xs ys:Array Value} {x y:Value} {oT:Obj} {Q:Option Value->Shared->Prop} (D:ZipApart z TI TO i1 i2 l1 l2)
  (hz:qe' s.heap z TI TO (rawInt T) (.bool b1)) (hT:s.heap.get? T=some oT) (hTI:IsPair s.heap TI (.ref i1) (.ref i2))
  (h1:co' k s.heap i1 l1 k1) (h2:co' j s.heap i2 l2 k2) (hl1:dM' k s.heap l1 xs) (hl2:dM' j s.heap l2 ys) (hx:xs[k1]?=some x) (hy:ys[k2]?=some y)
  (hQ:∀h',qe' h' z TI TO (rawInt T) (.bool true)->co' k h' i1 l1 (k1+1)->co' j h' i2 l2 (k2+1)->IsPair h' s.heap.objs.size x y->h'.objs.size=s.heap.objs.size+1->
   (∀c o,c≠z->c≠i1->c≠i2->s.heap.get? c=some o->h'.get? c=some o)->Q (some (.ref s.heap.objs.size)) { s with heap:=h' }):
  wpAny (model prog w) A (pyNext (.ref z)) Q E s:=by
 have hTz:s.TypeIs (.ref z) "zip":=⟨_,hz,rfl⟩
 unfold pyNext
 refine aa (cn (aN (name:=Str.ofString "__next__") hTz F.slot_zip_next
  (aU F.slot_zip_next hTz F.entry_zip_next ?_ (F.args_zip_next_1 _))))
 show wpAny _ _ (field (.ref z) 2 >>= _) _ _ _
 refine aa (bm hz rfl (x:=.bool false) rfl ?_)
 show wpAny _ _ (field (.ref z) 3 >>= _) _ _ _
 refine aa (bm hz rfl (x:=.ref TI) rfl ?_)
 refine aa (bG hTI rfl ?_)
 show wpAny _ _ (Builtin.SmallTypes.ownedTupleIsFree (.ref z) >>= _) _ _ _
 refine aa (h7' hz hT fun h₁ hz₁ hs₁=>?_)
 simp only[aP,if_false]
 rw[<- Array.forIn_toList]
 simp only[List.forIn_cons,cK]
 have hTI₁:IsPair h₁ TI (.ref i1) (.ref i2):=hs₁.extBut _ _ D.TIz hTI
 refine aa (aa (aa (aE ?_)))
 show wpAny _ _ (Builtin.SmallTypes.nextOf (.ref i1) >>= _) _ _ _
 refine aa (bb' (s:={ s with heap:=h₁ }) (h1.at fun o e=>hs₁.extBut _ _ D.i1z e) (hl1.at fun o e=>hs₁.extBut _ _ D.l1z e) hx fun h₂ h1₂ hs₂=>ae ?_)
 refine ae ?_
 dsimp only
 refine aa (aa (aE ?_))
 show wpAny _ _ (Builtin.SmallTypes.nextOf (.ref i2) >>= _) _ _ _
 refine aa (bb' (s:={ s with heap:=h₂ }) (h2.at fun o e=>hs₂.extBut _ _ D.i12.symm (hs₁.extBut _ _ D.i2z e)) (hl2.at fun o e=>hs₂.extBut _ _ D.l2i1 (hs₁.extBut _ _ D.l2z e)) hy fun h₃ h2₃ hs₃=>ae ?_)
 refine ae ?_
 dsimp only
 refine ae ?_
 dsimp only
 refine aa (wpAny_newTuple (hsz:=by show 2<=sizeLine;decide) ?_)
 have hsz:h₃.objs.size=s.heap.objs.size:=by rw[hs₃.1,hs₂.1,hs₁.1]
 refine ae ⟨_,rfl,ae ?_⟩
 show Q (some (.ref h₃.objs.size)) _
 rw[hsz]
 have up:∀c o,h₃.get? c=some o->(h₃.push { cls:=.type "tuple",data:=.seq #[x,y] }).get? c=some o:=fun c o e=>ab _ e
 refine hQ _ (up _ _ (hs₃.extBut _ _ D.i2z.symm (hs₂.extBut _ _ D.i1z.symm hz₁))) (h1₂.at fun o e=>up _ _ (hs₃.extBut _ _ D.i12 e)) (h2₃.at fun o e=>up _ _ e) ?_ (by rw[aW,hsz]) fun c o c1 c2 c3 e=>up _ _ (hs₃.extBut _ _ c3 (hs₂.extBut _ _ c2 (hs₁.extBut _ _ c1 e)))
 have:=am h₃ (o:={ cls:=.type "tuple",data:=.seq #[x,y] }) rfl
 rw[hsz]at this
 exact this
theorem mT' {k j b1:Bool} {z TI TO i1 i2 l1 l2 T:Addr} {k1 k2:Nat} {xs ys:Array Value} {oT:Obj} {Q:Option Value->Shared->Prop} (hh:A.handled=none) (D:ZipApart z TI TO i1 i2 l1 l2)
  (hz:qe' s.heap z TI TO (rawInt T) (.bool b1)) (hT:s.heap.get? T=some oT) (hTI:IsPair s.heap TI (.ref i1) (.ref i2))
  (h1:co' k s.heap i1 l1 k1) (h2:co' j s.heap i2 l2 k2) (hl1:dM' k s.heap l1 xs) (hl2:dM' j s.heap l2 ys) (hend:xs[k1]?=none)
  (hQ:∀h',(∀c o,c≠z->c≠i1->c≠i2->s.heap.get? c=some o->h'.get? c=some o)->Q none { s with heap:=h' }):wpAny (model prog w) A (pyNext (.ref z)) Q E s:=by
 have hTz:s.TypeIs (.ref z) "zip":=⟨_,hz,rfl⟩
 unfold pyNext
 refine aa (cn (aN (name:=Str.ofString "__next__") hTz F.slot_zip_next
  (aU F.slot_zip_next hTz F.entry_zip_next ?_ (F.args_zip_next_1 _))))
 show wpAny _ _ (field (.ref z) 2 >>= _) _ _ _
 refine aa (bm hz rfl (x:=.bool false) rfl ?_)
 show wpAny _ _ (field (.ref z) 3 >>= _) _ _ _
 refine aa (bm hz rfl (x:=.ref TI) rfl ?_)
 refine aa (bG hTI rfl ?_)
 show wpAny _ _ (Builtin.SmallTypes.ownedTupleIsFree (.ref z) >>= _) _ _ _
 refine aa (h7' hz hT fun h₁ hz₁ hs₁=>?_)
 simp only[aP,if_false]
 rw[<- Array.forIn_toList]
 simp only[List.forIn_cons,cK]
 refine aa (aa (aa (aE ?_)))
 show wpAny _ _ (Builtin.SmallTypes.nextOf (.ref i1) >>= _) _ _ _
 refine aa (cp' (s:={ s with heap:=h₁ }) (by first|exact hh|rfl) (h1.at fun o e=>hs₁.extBut _ _ D.i1z e) (hl1.at fun o e=>hs₁.extBut _ _ D.l1z e) hend fun h₂ e hs₂ he=>?_)
 obtain⟨oe,hoe,hce⟩:=he
 refine aa (cM (T:="StopIteration") (b:=true) ⟨oe,hoe,hce⟩ isSubtype_stop (ae (hQ _ ?_)))
 exact fun c o c1 c2 c3 x=>hs₂ _ _ c2 (hs₁.extBut _ _ c1 x)
structure Zst (h0:Heap) (B:Nat) (k j:Bool) (z TI TO i1 i2 l1 l2 S:Addr) (xs ys:Array Value) (i:Nat) (h:Heap):Prop where
 zs:(i=0/\IsZip h z TI TO .none/\∃a b,IsPair h TO a b)\/(0<i/\∃b1,qe' h z TI TO (rawInt B) (.bool b1))
 ti:IsPair h TI (.ref i1) (.ref i2)
 h1:co' k h i1 l1 i
 h2:co' j h i2 l2 i
 o1:dM' k h l1 xs
 o2:dM' j h l2 ys
 sz:h.objs.size=B+i
 pr:∀m,m<i->∃x y,xs[m]?=some x/\ys[m]?=some y/\IsPair h (B+m) x y
 kp:∀c o,h0.get? c=some o->h.get? c=some o
structure Zap (h0:Heap) (B:Nat) (z TI TO i1 i2 l1 l2 S:Addr):Prop where
 D:ZipApart z TI TO i1 i2 l1 l2
 bz:z<B
 bTO:TO<B
 b1:i1<B
 b2:i2<B
 bS:S<B
 Sz:S≠z
 STI:S≠TI
 STO:S≠TO
 S1:S≠i1
 S2:S≠i2
 Sl1:S≠l1
 Sl2:S≠l2
 nz:h0.objs.size<=z
 nTO:h0.objs.size<=TO
 n1:h0.objs.size<=i1
 n2:h0.objs.size<=i2
 nS:h0.objs.size<=S
theorem Zst.drawn {h0:Heap} {B:Nat} {k j:Bool} {z TI TO i1 i2 l1 l2 S:Addr} {xs ys:Array Value} {i:Nat} {Q:Option Value->Shared->Prop} (P:Zap h0 B z TI TO i1 i2 l1 l2 S) (Z:Zst h0 B k j z TI TO i1 i2 l1 l2 S xs ys i s.heap) (hi:i<xs.size) (hij:i<ys.size)
  (hQ:∀h',Zst h0 B k j z TI TO i1 i2 l1 l2 S xs ys (i+1) h'->(∀o,s.heap.get? S=some o->h'.get? S=some o)->Q (some (.ref (B+i))) { s with heap:=h' }):wpAny (model prog w) A (pyNext (.ref z)) Q E s:=by
 obtain⟨zs,ti,h1,h2,o1,o2,sz,pr,kp⟩:=Z
 have hx:xs[i]?=some xs[i]:=aD hi
 have hy:ys[i]?=some ys[i]:=aD hij
 have fin:∀h' b1,qe' h' z TI TO (rawInt B) (.bool b1)->co' k h' i1 l1 (i+1)->co' j h' i2 l2 (i+1)->IsPair h' s.heap.objs.size xs[i] ys[i]->h'.objs.size=s.heap.objs.size+1->(∀c o,c≠z->c≠TO->c≠i1->c≠i2->s.heap.get? c=some o->h'.get? c=some o)->Q (some (.ref s.heap.objs.size)) { s with heap:=h' }:=by
  intro h' b1 q1 q2 q3 q4 q5 q6
  rw[sz]at q4 q5 ⊢
  refine hQ h' ⟨.inr ⟨by omega,b1,q1⟩,q6 _ _ P.D.TIz P.D.TITO P.D.TIi1 P.D.TIi2 ti,q2,q3,o1.at fun o e=>q6 _ _ P.D.l1z P.D.l1TO P.D.l1i1 P.D.l1i2 e,o2.at fun o e=>q6 _ _ P.D.l2z P.D.l2TO P.D.l2i1 P.D.l2i2 e,by rw[q5,Nat.add_assoc],fun m hm=>?_,fun c o e=>?_⟩ fun o e=>q6 _ _ P.Sz P.STO P.S1 P.S2 e
  .by_cases hmi:m=i
   .subst hmi
    exact⟨_,_,hx,hy,q4⟩
   .obtain⟨x,y,e1,e2,e3⟩:=pr m (by omega)
    exact⟨x,y,e1,e2,q6 _ _ (bn (ai P.bz (bf _ _))) (bn (ai P.bTO (bf _ _))) (bn (ai P.b1 (bf _ _))) (bn (ai P.b2 (bf _ _))) e3⟩
  .have hc:=al e
   exact q6 _ _ (ax (ai hc P.nz)) (ax (ai hc P.nTO)) (ax (ai hc P.n1)) (ax (ai hc P.n2)) (kp _ _ e)
 rcases zs with⟨e0,hz,a,b,hTO⟩|⟨e0,b1,hz⟩
 .refine hN' P.D hz ti hTO h1 h2 o1 o2 hx hy fun h' q1 _ q2 q3 q4 q5 q6=>fin h' false ?_ q2 q3 q4 q5 q6
  rw[show B=s.heap.objs.size by omega]
  exact q1
 .obtain⟨x0,y0,_,_,hT⟩:=pr 0 e0
  exact kM' P.D hz hT ti h1 h2 o1 o2 hx hy fun h' q1 q2 q3 q4 q5 q6=>fin h' true q1 q2 q3 q4 q5 fun c o c1 _ c3 c4 e=>q6 c o c1 c3 c4 e
theorem Zst.over {h0:Heap} {B:Nat} {k j:Bool} {z TI TO i1 i2 l1 l2 S:Addr} {xs ys:Array Value} {i:Nat} {Q:Option Value->Shared->Prop} (hh:A.handled=none) (P:Zap h0 B z TI TO i1 i2 l1 l2 S) (Z:Zst h0 B k j z TI TO i1 i2 l1 l2 S xs ys i s.heap) (hi:xs.size=i)
  (hQ:∀h',(∀m,m<i->∃x y,xs[m]?=some x/\ys[m]?=some y/\IsPair h' (B+m) x y)->(∀c o,h0.get? c=some o->h'.get? c=some o)->(∀o,s.heap.get? S=some o->h'.get? S=some o)->Q none { s with heap:=h' }):wpAny (model prog w) A (pyNext (.ref z)) Q E s:=by
 obtain⟨zs,ti,h1,h2,o1,o2,sz,pr,kp⟩:=Z
 have hx:xs[i]?=none:=by rw[Array.getElem?_eq_none_iff];omega
 have fin:∀h',(∀c o,c≠z->c≠TO->c≠i1->c≠i2->s.heap.get? c=some o->h'.get? c=some o)->Q none { s with heap:=h' }:=by
  intro h' q6
  refine hQ h' (fun m hm=>?_) (fun c o e=>?_) fun o e=>q6 _ _ P.Sz P.STO P.S1 P.S2 e
  .obtain⟨x,y,e1,e2,e3⟩:=pr m hm
   exact⟨x,y,e1,e2,q6 _ _ (bn (ai P.bz (bf _ _))) (bn (ai P.bTO (bf _ _))) (bn (ai P.b1 (bf _ _))) (bn (ai P.b2 (bf _ _))) e3⟩
  .have hc:=al e
   exact q6 _ _ (ax (ai hc P.nz)) (ax (ai hc P.nTO)) (ax (ai hc P.n1)) (ax (ai hc P.n2)) (kp _ _ e)
 rcases zs with⟨e0,hz,a,b,hTO⟩|⟨e0,b1,hz⟩
 .exact jQ' hh P.D hz ti hTO h1 h2 o1 o2 (.inl hx) fun h' q=>fin h' q
 .obtain⟨x0,y0,_,_,hT⟩:=pr 0 e0
  exact mT' hh P.D hz hT ti h1 h2 o1 o2 hx fun h' q=>fin h' fun c o c1 _ c3 c4 e=>q c o c1 c3 c4 e
end
section
variable {prog:Program} {w:World} {A:Around} {E:Value->Shared->Prop} {s:Shared}
end
section
variable {X:Cx} {pins:List (Addr×Obj)} {σ:St} {H H':Hp} {s:Shared} {h':Heap}
end
section
variable {X:Cx}
end
end L2
namespace L2
open PySem PySem.Spec PyProof.Rows PySem.Ts So
section
variable {prog:Program} {w:World} {A:Around} {E:Value->Shared->Prop} {s:Shared}
end
section
variable {X:Cx}
end
end L2
namespace L2
open PySem PySem.Spec PyProof.Rows PySem.Ts
def IsQ (L:List (List Int×Addr)) (o:Obj):Prop:=L.length<=4000/\∃(es:Array (Int×Value)) (ep:Nat) (t:SetTable) (L':List (List Int×Addr)),L'.Perm L/\o.ExactSet/\o.data=.set es ep t/\(∀P w,es.toList=L'.map (elm P w))/\(L'.map (·.1)).Nodup/\TabOk t es/\MaskOk t
def zM' (D:Addr) (L:List (List Int×Addr)):HO:=.ext fun h=>∃o,h.get? D=some o/\IsQ L o
section
variable {X:Cx} {pins:List (Addr×Obj)} {σ:St} {H:Hp} {s:Shared} {A:Around} {E:Value->Shared->Prop}
def xr':R2:=fun x y H Q=>∃(k:List Int) (b D:Addr) (L:List (List Int×Addr)),x=.ref b/\H b=some (.tup (k.map V.int))/\y=.ref D/\H D=some (zM' D L)/\Trk H L/\Q (.bl (!decide (k∈L.map (·.1)))) H
variable {o e:Expr} {apos cpos:Pos} {td ty:TE}
end
section
variable {prog:Program} {w:World} {K:Type} [DecidableEq K] {knd:HeapKind prog w K} {A:Around} {E:Value->Shared->Prop} {s:Shared}
end
section
variable {X:Cx} {pins:List (Addr×Obj)} {σ:St} {H:Hp} {s:Shared} {a:Addr} {y d:V} {u r:Value} {o:Option V} {A:Around} {E:Value->Shared->Prop}
end
section
variable {X:Cx} {o e f:Expr} {apos cpos:Pos} {td ty tx:TE}
end
section
variable {X:Cx} {e st:Expr} {te:TE} {ts:TO} {p2 pos:Pos}
def y9' {α:Type} (xs:List α) (n:Nat):List α:=(aF ((xs.length+n-1) / n)).filterMap fun k=>xs[k*n]?
end
abbrev sH1 (h:Heap) (x:Str) (t:Tok):Heap:=h.push { cls:=.type "str_ascii_iterator",data:=.fields #[.str x t,.int 0 0] }
section
variable {prog:Program} {w:World} {A:Around} {E:Value->Shared->Prop} {s:Shared}
end
section
variable {X:Cx}
end
section
variable {prog:Program} {w:World} {A:Around} {E:Value->Shared->Prop} {s:Shared}
end
section
variable {X:Cx}
end
end L2
namespace R3
open PySem PySem.Spec PyProof.Rows L2
inductive Bf where
 |len|abs|int|isinstance|all|min|list|tuple|range|set|sortU|lenD
 deriving DecidableEq
inductive Mf where
 |append|reverse|join
 deriving DecidableEq
inductive Xf where
 |eqT|inR|notInR
 deriving DecidableEq
inductive Zf where
 |eqB|ninB|ltS|inP|ninS|neD0
 deriving DecidableEq
inductive Yf where
 |dct
 deriving DecidableEq
set_option genInjectivity false
mutual
inductive Ce where
 |var (i:Nat)|int (n:Int)|bl (b:Bool)|non|str (x:Str)|ty (n:String)
 |bin (op:Operator) (a b:Ce)
 |neg (a:Ce)|not (a:Ce)
 |and (a b:Ce)|or (a b:Ce)
 |cmp (op:CmpOp) (a b:Ce)
 |chn (op op':CmpOp) (a b c:Ce)
 |ife (q:Cq) (a b:Ce)
 |tup (es:Ces)|lst (es:Ces)
 |idx (a b:Ce)
 |cut (a:Ce) (lo hi:Co)
 |call (f:Str) (es:Ces)
 |blt (f:Bf) (es:Ces)
 |met (m:Mf) (o:Ce) (es:Ces)
 |comp (elt:Ce) (own:List Nat) (t:Ct) (it:Ci) (q:Cqo) (r:Cc)
 |dnt|dnn|orv (a b:Ce)|din (neg:Bool) (a b:Ce)|dgt (a b:Ce)|cal (f:Yf) (a:Ce)
inductive Ces where
 |nil|cons (e:Ce) (r:Ces)
inductive Cq where
 |val (e:Ce)|not (q:Cq)|and (a b:Cq)|or (a b:Cq)|cmp (op:CmpOp) (a b:Ce)|chn (op op':CmpOp) (a b c:Ce)|din (neg:Bool) (a b:Ce)
inductive Cqo where
 |none|some (q:Cq)
inductive Co where
 |none|some (e:Ce)
inductive Ci where
 |val (e:Ce)|range1 (a:Ce)|range2 (a b:Ce)|zip (a b:Ce)|enum (a:Ce)|dk (e:Ce)
inductive Ct where
 |name (i:Nat)|tup (ts:Cts)|sub (o i:Ce)
inductive Cts where
 |nil|cons (t:Ct) (r:Cts)
inductive Cc where
 |nil|cons (ws:List Nat) (t:Ct) (it:Ci) (q:Cqo) (r:Cc)
end
mutual
inductive Cs where
 |expr (e:Ce)|ret (e:Ce)|asg (t:Ct) (e:Ce)|aug (i:Nat) (sub:Bool) (e:Ce)
 |ite (q:Cq) (a b:Css)|whl (q:Cq) (b:Css)|for_ (t:Ct) (it:Ci) (b:Css)|dput (o i e:Ce)
 |setc2 (i:Nat) (elt:Ce) (own:List Nat) (t:Ct) (it:Ci) (q:Cqo) (ws:List Nat) (t2:Ct) (it2:Ci) (q2:Cqo)|dctc (tup:Bool) (i:Nat) (k v:Ce) (own:List Nat) (t:Ct) (it:Ci) (q:Cqo)
inductive Css where
 |nil|cons (s:Cs) (r:Css)
end
set_option genInjectivity true
def za' (i j:Int):Prop:=0<=j/\j<=1000000/\i.natAbs<2 ^ 250*2 ^ 250*2 ^ 250
def tI' (_ j:Int):Prop:=0<j/\(j<1073741824\/j.natAbs.log2<9000)
def tJ' (i j:Int):Prop:=(-(2 ^ 64)<i/\i<2 ^ 64)\/(-(2 ^ 64)<j/\j<2 ^ 64)\/IntMulOk i j
section
variable (K:W.Frag)
def gU':Operator->R2
 | .Add=>fun x y H Q=>match x,y with
  | .int i,.int j=>Q (.int (i+j)) H
  | .str i,.str j=>i.length+j.length<=sizeLine/\Q (.str (i++j)) H
  |x,y=>yV' x y H Q\/ss' K x y H Q\/ou' K x y H Q
 | .Sub=>rI0 fun i j=>.int (i-j)
 | .Mult=>fun x y H Q=>match x,y with
  | .int i,.int j=>tJ' i j/\Q (.int (i*j)) H
  | .str a,.int n=>-1000000<=n/\n<=1000000/\a.length*n.toNat<=1000000/\Q (.str (Txt.mul a n)) H
  |x,y=>yW' x y H Q
 | .Mod=>rI (fun _ j=>0<j) fun i j=>.int (i % j)
 | .FloorDiv=>rI tI' fun i j=>.int (i / j)
 | .Pow=>rI wR' fun i j=>.int (i ^ j.toNat)
 | .LShift=>rI za' fun i j=>.int (i*2 ^ j.toNat)
 | .RShift=>rI (fun _ j=>0<=j) fun i j=>.int (i / 2 ^ j.toNat)
 | .BitAnd=>rI (fun i j=>0<=i/\j=1) fun i _=>.int (i % 2)
 |_=>fun _ _ _ _=>False
def bu':CmpOp->R2
 | .Eq=>fun x y H Q=>match x,y with
  | .ref a,.ref b=>wk' K false (.ref a) (.ref b) H Q\/wr' false (.ref a) (.ref b) H Q
  |x,y=>rEq x y H Q
 | .NotEq=>fun x y H Q=>match x,y with
  | .ref a,.ref b=>wk' K true (.ref a) (.ref b) H Q\/wr' true (.ref a) (.ref b) H Q
  |x,y=>rNe x y H Q
 | .Lt=>rI0 fun i j=>.bl (decide (i<j))
 | .LtE=>rI0 fun i j=>.bl (decide (i<=j))
 | .Gt=>fun x y H Q=>match x with
  | .str a=>y6' (.str a) y H Q
  |x=>rI0 (fun i j=>.bl (decide (j<i))) x y H Q
 | .GtE=>rI0 fun i j=>.bl (decide (j<=i))
 | .Is=>fun x y H Q=>match y with
  | .bl b=>wl' false x (.bl b) H Q
  |y=>y=.non/\Q (.bl (decide (x=.non))) H
 | .IsNot=>fun x y H Q=>match y with
  | .bl b=>wl' true x (.bl b) H Q
  |y=>y=.non/\Q (.bl (!decide (x=.non))) H
 | .In=>fun x y H Q=>match y with
  | .str b=>wm' false x (.str b) H Q
  |y=>rIn K false x y H Q
 | .NotIn=>fun x y H Q=>match y with
  | .str b=>wm' true x (.str b) H Q
  |y=>rIn K true x y H Q
def dm':Bf->List V->Hp->VK->Prop
 | .len=>fun xs H Q=>∃x n,xs=[x]/\yT' K x H n/\Q (.int n) H
 | .abs=>fun xs H Q=>∃i,xs=[.int i]/\Q (.int (if i<0 then -i else i)) H
 | .int=>fun xs H Q=>match xs with
  | [.int i]=>Q (.int i) H
  | [.bl k]=>Q (.int (if k then 1 else 0)) H
  | [.str x]=>∃n,PySem.intText? x=some n/\x.length<=640/\Q (.int n) H
  | [.str x,.int j]=>j=2/\∃n,B2 x n/\Q (.int n) H
  |_=>False
 | .isinstance=>fun xs H Q=>yY' xs H Q\/False
 | .all=>yZ' K false
 | .min=>fun xs H Q=>match xs with
  | [.int i,.int j]=>Q (.int (if j<i then j else i)) H
  |xs=>sQ' K false xs H Q
 | .list=>fun xs H Q=>(∃p ys,xs=[.ref p]/\(SqL K H p ys\/SqT K H p ys)/\∀l,H l=none->Q (.ref l) (upd H l (.lst ys)))\/y1' xs H Q
 | .range=>y0'
 | .set=>oo' K
 | .sortU=>oA'
 | .lenD=>oz'
 | .tuple=>fun xs H Q=>∃p ys,xs=[.ref p]/\((SqL K H p ys/\∀l,H l=none->Q (.ref l) (upd H l (.tup ys)))\/(SqT K H p ys/\Q (.ref p) H))
def oB':Mf->V->List V->Hp->VK->Prop
 | .append=>jF'
 | .reverse=>hK'
 | .join=>sO' K
def f3':Mf->String
 | .join=>"str"
 |_=>"list"
def kN':Mf->Str
 | .append=>"append"
 | .reverse=>"reverse"
 | .join=>"join"
def dX':Bf->Str
 | .len=>"len"
 | .abs=>"abs"
 | .int=>"int"
 | .isinstance=>"isinstance"
 | .all=>"all"
 | .min=>"min"
 | .list=>"list"
 | .tuple=>"tuple"
 | .range=>"range"
 | .set=>"set"
 | .sortU=>"sorted"
 | .lenD=>"len"
def mU':R2:=fun x y H Q=>match x,y with
 | .str z,.int i=>z.length<=sizeLine/\∃c,atI z.cps.toList i=some c/\Q (.str ⟨#[c]⟩) H
 |x,y=>gB' K x y H Q\/hJ' K x y H Q
def rSl:V->Option Int->Option Int->Hp->VK->Prop:=fun x lo hi H Q=>match x with
 | .str a=>a.length<=sizeLine/\Q (.str (Txt.slice a lo hi)) H
 |x=>wg' K x lo hi H Q\/wf' K x lo hi H Q\/wt' K x lo hi H Q
end
def rZf:Zf->R2
 | .eqB=>zK' false
 | .ninB=>xm'
 | .ltS=>fun x y H Q=>∃i j,x=.str i/\y=.str j/\Q (.bl (decide (i.cps.toList<j.cps.toList))) H
 | .inP=>zL'
 | .ninS=>xr'
 | .neD0=>xb'
def tK':Yf->Str
 | .dct=>"dict"
def rYf:Yf->List V->Hp->VK->Prop
 | .dct=>ta'
structure Rc where
 N:List Str
 B:List Str
 K:W.Frag
 fs:Str->Option Sp
 xk:L2.St->XK:=fun _=>E0
 cl:Str->Option Addr:=fun _=>none
def mV' (neg:Bool) (ty td:TE):TE:=xh' neg ty td
def mW':Cts->Nat
 | .nil=>0
 | .cons _ r=>mW' r+1
mutual
def tE (C:Rc):Ce->TE
 | .var i=>wb' i
 | .int n=>tC (.int n)
 | .bl b=>tC (.bl b)
 | .non=>tC .non
 | .str x=>tC (.str x)
 | .ty n=>tC (.ty n)
 | .bin op a b=>tOp (gU' C.K op) (tE C a) (tE C b)
 | .neg a=>tUn (rU fun i=>.int (-i)) (tE C a)
 | .not a=>pj' (tE C a)
 | .and a b=>l7' (tE C a) (tE C b)
 | .or a b=>wc' (tE C a) (tE C b)
 | .orv a b=>wh' (tE C a) (tE C b)
 | .cmp op a b=>tOp (bu' C.K op) (tE C a) (tE C b)
 | .chn op op' a b c=>di' (bu' C.K op) (bu' C.K op') (tE C a) (tE C b) (tE C c)
 | .ife q a b=>tIf (tQ C q) (tE C a) (tE C b)
 | .tup es=>wY' (tA C es)
 | .lst es=>wZ' (tA C es)
 | .idx a b=>tOp (mU' C.K) (tE C a) (tE C b)
 | .cut a lo hi=>tSl (rSl C.K) (tE C a) (tO C lo) (tO C hi)
 | .call f es=>fun σ H Q=>match C.fs f with
  |some sp=>mj' sp [] (C.xk σ) (tA C es) σ H Q
  |none=>False
 | .blt f es=>tCB (dm' C.K f) (tA C es)
 | .met m o es=>tBM C.K (f3' m) (oB' C.K m) (tE C o) (tA C es)
 | .dnt=>jK'
 | .dnn=>kj'
 | .din neg a b=>mV' neg (tE C a) (tE C b)
 | .dgt a b=>kw' (tE C a) (tE C b)
 | .cal f a=>tCB (rYf f) (cb' (tE C a) hI')
 | .comp elt own t it q r=>gF' own (tI C it) (tG C t) (tQo C q) (tR C r (dL' (tE C elt)))
def tA (C:Rc):Ces->TA
 | .nil=>hI'
 | .cons e r=>cb' (tE C e) (tA C r)
def tQ (C:Rc):Cq->TT
 | .val e=>fun σ H Q=>tE C e σ H fun x H'=>∃k,sk' C.K x H' k/\Q k H'
 | .not q=>wD' (tQ C q)
 | .and a b=>r0' (tQ C a) (tQ C b)
 | .or a b=>tOr (tQ C a) (tQ C b)
 | .cmp op a b=>fy' (tOp (bu' C.K op) (tE C a) (tE C b))
 | .chn op op' a b c=>fy' (di' (bu' C.K op) (bu' C.K op') (tE C a) (tE C b) (tE C c))
 | .din neg a b=>fy' (mV' neg (tE C a) (tE C b))
def tQo (C:Rc):Cqo->TT
 | .none=>fun _ H Q=>Q true H
 | .some q=>tQ C q
def tO (C:Rc):Co->TO
 | .none=>gz'
 | .some e=>pC' (tE C e)
def tI (C:Rc):Ci->TI
 | .val e=>w5' C.K (tE C e)
 | .range1 a=>pt' (cb' (tE C a) hI')
 | .range2 a b=>pu' (cb' (tE C a) (cb' (tE C b) hI'))
 | .zip a b=>w6' C.K (cb' (tE C a) (cb' (tE C b) hI'))
 | .enum a=>pR' C.K (tE C a)
 | .dk e=>xp' (tE C e)
def tG (C:Rc):Ct->TG
 | .name i=>cO' i
 | .tup ts=>xq' C.K (mW' ts) (tGs C ts)
 | .sub o i=>wK' (tE C o) (tE C i) ee'
def tGs (C:Rc):Cts->TGs
 | .nil=>wJ'
 | .cons t r=>pq' (tG C t) (tGs C r)
def tR (C:Rc):Cc->TL (List V)->TL (List V)
 | .nil,em=>em
 | .cons ws t it q r,em=>gE' (tI C it) (aY' ws (tG C t) (tQo C q) (tR C r em))
end
mutual
def tS (C:Rc):Cs->TS
 | .expr e=>pn' (tE C e)
 | .ret e=>wF' (tE C e)
 | .asg t e=>jh' (tE C e) (tG C t)
 | .aug i sub e=>wL' i (tE C e) (ipI fun i j=>if sub then i-j else i+j)
 | .ite q a b=>wG' (tQ C q) (tSs C a) (tSs C b)
 | .whl q b=>jo' (tQ C q) (tSs C b)
 | .for_ t it b=>wM' (tI C it) (tG C t) (tSs C b)
 | .dput o i e=>kl' (tE C o) (tE C i) (tE C e)
 | .setc2 i elt own t it q ws t2 it2 q2=>jh' (tt' own (tI C it) (tG C t) (tQo C q) (gE' (tI C it2) (aY' ws (tG C t2) (tQo C q2) (fQ' (tE C elt))))) (cO' i)
 | .dctc tup i k v own t it q=>if tup then jh' (tv' own (tI C it) (tG C t) (tQo C q) (tE C k) (tE C v)) (cO' i)else jh' (tu' own (tI C it) (tG C t) (tQo C q) (tE C k) (tE C v)) (cO' i)
def tSs (C:Rc):Css->TS
 | .nil=>pl'
 | .cons s r=>wE' (tS C s) (tSs C r)
end
def vis (sc:Scope) (x:Str):Bool:=match sc.names.lookup x with
 |some .local=>true
 |some .cell=>true
 |some .free=>true
 |_=>false
def locb (sc:Scope) (x:Str):Bool:=match sc.names.lookup x with
 |some .local=>true
 |some .cell=>true
 |_=>false
def glb (sc:Scope) (x:Str):Bool:=decide (sc.names.lookup x=some .globalImplicit)
def f4' (N:List Str) (i:Nat) (x:Str):Bool:=decide (N[i]?=some x)&&!(x == ("__debug__":Str))&&!(x == ("__classdict__":Str))
def aS':Expr->Bool
 | .Starred ..=>false
 |_=>true
def aK':Expr->Bool
 | .Set ..=>false
 |_=>true
def cW':Expr->Bool
 | .Slice ..=>false
 |_=>true
def kO':Expr->Bool
 | .Call _ [] _ _=>false
 |_=>true
def oC':Expr->Bool
 | .UnaryOp .Not _ _=>false
 | .BoolOp ..=>false
 | .IfExp ..=>false
 | .Compare ..=>false
 |_=>true
def f5':List String:=["list","tuple","str","bool","int","dict","ValueError"]
def ji' (N:List Str) (sc scope:Scope) (own:List Nat):Bool:=
 decide (scope.kind=.function)&&
 scope.names.all (fun x=>(decide (x.2≠.local) || decide (scope.names.lookup x.1=some .local))&&(decide (x.2≠.cell) || decide (scope.names.lookup x.1=some .cell))&&
  (decide (x.2≠.free) || decide (sc.names.lookup x.1=some .cell) || decide (sc.names.lookup x.1=some .free)))&&
 (aF N.length).all (fun i=>match N[i]? with
  |some x=>(decide (scope.names.lookup x≠some .local)&&decide (scope.names.lookup x≠some .cell)) || decide (i∈own)
  |none=>true)
def f6':Ci->Expr->Bool
 | .zip _ _,.Tuple ..=>true
 | .zip _ _,_=>false
 | .enum _,.Tuple ..=>true
 | .enum _,_=>false
 |_,_=>true
mutual
def fk' (own:List Nat):Ct->Bool
 | .name i=>decide (i∈own)
 | .tup ts=>kP' own ts
 | .sub _ _=>false
def kP' (own:List Nat):Cts->Bool
 | .nil=>true
 | .cons t r=>fk' own t&&kP' own r
end
def tld (B:List Str):Bool:=decide (("~":Str)∈B)
def hat (B:List Str):Bool:=decide (("^":Str)∈B)
def pct (B:List Str):Bool:=decide (("%":Str)∈B)
def rR' (x:Str):Str:=⟨#[33]++x.cps⟩
theorem aq' {P:Prop} (h:false=true):P:=(ap h).elim
theorem f7' {a b:Bool} (h:(a&&b)=true):a=true/\b=true:=by
 cases a with
 |true=>exact⟨rfl,h⟩
 |false=>exact aq' h
def xt' (e:Expr) (f:Expr->Expr->Bool):Bool:=match e with
 | .BoolOp .And [x,y] _=>f x y
 | .BoolOp .And (x :: y :: z :: r) pos=>f x (.BoolOp .And (y :: z :: r) pos)
 |_=>false
theorem kQ' {e:Expr} {f:Expr->Expr->Bool} (h:xt' e f=true):(∃x y pos,e=.BoolOp .And [x,y] pos/\f x y=true)\/∃x y z r pos,e=.BoolOp .And (x :: y :: z :: r) pos/\f x (.BoolOp .And (y :: z :: r) pos)=true:=by
 cases e with
 |BoolOp o vs pos=>
  cases o with
  |And=>
   cases vs with
   |nil=>exact aq' h
   |cons x r=>
    cases r with
    |nil=>exact aq' h
    |cons y r=>
     cases r with
     |nil=>exact .inl ⟨x,y,pos,rfl,h⟩
     |cons z r=>exact .inr ⟨x,y,z,r,pos,rfl,h⟩
  |_=>exact aq' h
 |_=>exact aq' h
def vOr (e:Expr) (f:Expr->Expr->Bool):Bool:=match e with
 | .BoolOp .Or [x,y] _=>f x y
 | .BoolOp .Or (x :: y :: z :: r) pos=>f x (.BoolOp .Or (y :: z :: r) pos)
 |_=>false
theorem kR' {e:Expr} {f:Expr->Expr->Bool} (h:vOr e f=true):(∃x y pos,e=.BoolOp .Or [x,y] pos/\f x y=true)\/∃x y z r pos,e=.BoolOp .Or (x :: y :: z :: r) pos/\f x (.BoolOp .Or (y :: z :: r) pos)=true:=by
 cases e with
 |BoolOp o vs pos=>
  cases o with
  |Or=>
   cases vs with
   |nil=>exact aq' h
   |cons x r=>
    cases r with
    |nil=>exact aq' h
    |cons y r=>
     cases r with
     |nil=>exact .inl ⟨x,y,pos,rfl,h⟩
     |cons z r=>exact .inr ⟨x,y,z,r,pos,rfl,h⟩
  |_=>exact aq' h
 |_=>exact aq' h
def a5' {α:Type} (z:List α) (f:Bool):Bool:=match z with
 | []=>f
 |_=>false
theorem al' {α:Type} {z:List α} {f:Bool} (h:a5' z f=true):z=[]/\f=true:=by
 cases z with
 |nil=>exact⟨rfl,h⟩
 |_=>exact aq' h
def aD' {α:Type} (z:List α) (f:α->List α->Bool):Bool:=match z with
 |x :: r=>f x r
 |_=>false
theorem ah' {α:Type} {z:List α} {f:α->List α->Bool} (h:aD' z f=true):∃x r,z=x :: r/\f x r=true:=by
 cases z with
 |cons x r=>exact⟨x,r,rfl,h⟩
 |_=>exact aq' h
def kS' {α:Type} (z:Option α) (f:Bool):Bool:=match z with
 |none=>f
 |_=>false
theorem f8' {α:Type} {z:Option α} {f:Bool} (h:kS' z f=true):z=none/\f=true:=by
 cases z with
 |none=>exact⟨rfl,h⟩
 |_=>exact aq' h
def kT' {α:Type} (z:Option α) (f:α->Bool):Bool:=match z with
 |some x=>f x
 |_=>false
theorem f9' {α:Type} {z:Option α} {f:α->Bool} (h:kT' z f=true):∃x,z=some x/\f x=true:=by
 cases z with
 |some x=>exact⟨x,rfl,h⟩
 |_=>exact aq' h
def eq' (z:Comprehension) (f:Expr->Expr->List Expr->Int->Bool):Bool:=f z.target z.iter z.ifs z.is_async
theorem bj' {z:Comprehension} {f:Expr->Expr->List Expr->Int->Bool} (h:eq' z f=true):∃a b c d,z=⟨a,b,c,d⟩/\f a b c d=true:=by
 cases z
 exact⟨_,_,_,_,rfl,h⟩
def cf' (z:Expr) (f:Str->Pos->Bool):Bool:=match z with
 | .Name x0 x1=>f x0 x1
 |_=>false
theorem bc' {z f} (h:cf' z f=true):∃x0 x1,z=.Name x0 x1/\f x0 x1=true:=by
 cases z with
 |Name x0 x1=>exact⟨x0,x1,rfl,h⟩
 |_=>exact aq' h
def bq' (z:Expr) (f:Const->Nat->Pos->Bool):Bool:=match z with
 | .Constant x0 x1 x2=>f x0 x1 x2
 |_=>false
theorem bd' {z f} (h:bq' z f=true):∃x0 x1 x2,z=.Constant x0 x1 x2/\f x0 x1 x2=true:=by
 cases z with
 |Constant x0 x1 x2=>exact⟨x0,x1,x2,rfl,h⟩
 |_=>exact aq' h
def oD' (z:Const) (f:Int->Bool):Bool:=match z with
 | .int x0=>f x0
 |_=>false
theorem kU' {z f} (h:oD' z f=true):∃x0,z=.int x0/\f x0=true:=by
 cases z with
 |int x0=>exact⟨x0,rfl,h⟩
 |_=>exact aq' h
def kV' (z:Const) (f:Bool->Bool):Bool:=match z with
 | .bool x0=>f x0
 |_=>false
theorem iY' {z f} (h:kV' z f=true):∃x0,z=.bool x0/\f x0=true:=by
 cases z with
 |bool x0=>exact⟨x0,rfl,h⟩
 |_=>exact aq' h
def kW' (z:Const) (f:Bool):Bool:=match z with
 | .none=>f
 |_=>false
theorem iZ' {z f} (h:kW' z f=true):z=.none/\f=true:=by
 cases z with
 |none=>exact⟨rfl,h⟩
 |_=>exact aq' h
def oE' (z:Const) (f:Str->Bool):Bool:=match z with
 | .str x0=>f x0
 |_=>false
theorem kX' {z f} (h:oE' z f=true):∃x0,z=.str x0/\f x0=true:=by
 cases z with
 |str x0=>exact⟨x0,rfl,h⟩
 |_=>exact aq' h
def h8' (z:Expr) (f:Expr->Operator->Expr->Pos->Bool):Bool:=match z with
 | .BinOp x0 x1 x2 x3=>f x0 x1 x2 x3
 |_=>false
theorem gV' {z f} (h:h8' z f=true):∃x0 x1 x2 x3,z=.BinOp x0 x1 x2 x3/\f x0 x1 x2 x3=true:=by
 cases z with
 |BinOp x0 x1 x2 x3=>exact⟨x0,x1,x2,x3,rfl,h⟩
 |_=>exact aq' h
def db' (z:Expr) (f:UnaryOp->Expr->Pos->Bool):Bool:=match z with
 | .UnaryOp x0 x1 x2=>f x0 x1 x2
 |_=>false
theorem cX' {z f} (h:db' z f=true):∃x0 x1 x2,z=.UnaryOp x0 x1 x2/\f x0 x1 x2=true:=by
 cases z with
 |UnaryOp x0 x1 x2=>exact⟨x0,x1,x2,rfl,h⟩
 |_=>exact aq' h
def kY' (z:UnaryOp) (f:Bool):Bool:=match z with
 | .USub=>f
 |_=>false
theorem i0' {z f} (h:kY' z f=true):z=.USub/\f=true:=by
 cases z with
 |USub=>exact⟨rfl,h⟩
 |_=>exact aq' h
def oF' (z:UnaryOp) (f:Bool):Bool:=match z with
 | .Not=>f
 |_=>false
theorem kZ' {z f} (h:oF' z f=true):z=.Not/\f=true:=by
 cases z with
 |Not=>exact⟨rfl,h⟩
 |_=>exact aq' h
def dc' (z:Expr) (f:Expr->List CmpOp->List Expr->Pos->Bool):Bool:=match z with
 | .Compare x0 x1 x2 x3=>f x0 x1 x2 x3
 |_=>false
theorem cY' {z f} (h:dc' z f=true):∃x0 x1 x2 x3,z=.Compare x0 x1 x2 x3/\f x0 x1 x2 x3=true:=by
 cases z with
 |Compare x0 x1 x2 x3=>exact⟨x0,x1,x2,x3,rfl,h⟩
 |_=>exact aq' h
def h9' (z:Expr) (f:Expr->Expr->Expr->Pos->Bool):Bool:=match z with
 | .IfExp x0 x1 x2 x3=>f x0 x1 x2 x3
 |_=>false
theorem gW' {z f} (h:h9' z f=true):∃x0 x1 x2 x3,z=.IfExp x0 x1 x2 x3/\f x0 x1 x2 x3=true:=by
 cases z with
 |IfExp x0 x1 x2 x3=>exact⟨x0,x1,x2,x3,rfl,h⟩
 |_=>exact aq' h
def ia' (z:Expr) (f:List Expr->Nat->Pos->Bool):Bool:=match z with
 | .Tuple x0 x1 x2=>f x0 x1 x2
 |_=>false
theorem gX' {z f} (h:ia' z f=true):∃x0 x1 x2,z=.Tuple x0 x1 x2/\f x0 x1 x2=true:=by
 cases z with
 |Tuple x0 x1 x2=>exact⟨x0,x1,x2,rfl,h⟩
 |_=>exact aq' h
def k0' (z:Expr) (f:List Expr->Pos->Bool):Bool:=match z with
 | .List x0 x1=>f x0 x1
 |_=>false
theorem i1' {z f} (h:k0' z f=true):∃x0 x1,z=.List x0 x1/\f x0 x1=true:=by
 cases z with
 |List x0 x1=>exact⟨x0,x1,rfl,h⟩
 |_=>exact aq' h
def bA' (z:Expr) (f:Expr->Expr->Pos->Bool):Bool:=match z with
 | .Subscript x0 x1 x2=>f x0 x1 x2
 |_=>false
theorem br' {z f} (h:bA' z f=true):∃x0 x1 x2,z=.Subscript x0 x1 x2/\f x0 x1 x2=true:=by
 cases z with
 |Subscript x0 x1 x2=>exact⟨x0,x1,x2,rfl,h⟩
 |_=>exact aq' h
def ib' (z:Expr) (f:Option Expr->Option Expr->Option Expr->Pos->Bool):Bool:=match z with
 | .Slice x0 x1 x2 x3=>f x0 x1 x2 x3
 |_=>false
theorem gY' {z f} (h:ib' z f=true):∃x0 x1 x2 x3,z=.Slice x0 x1 x2 x3/\f x0 x1 x2 x3=true:=by
 cases z with
 |Slice x0 x1 x2 x3=>exact⟨x0,x1,x2,x3,rfl,h⟩
 |_=>exact aq' h
def de' (z:Expr) (f:Expr->List Expr->List Keyword->Pos->Bool):Bool:=match z with
 | .Call x0 x1 x2 x3=>f x0 x1 x2 x3
 |_=>false
theorem bL' {z f} (h:de' z f=true):∃x0 x1 x2 x3,z=.Call x0 x1 x2 x3/\f x0 x1 x2 x3=true:=by
 cases z with
 |Call x0 x1 x2 x3=>exact⟨x0,x1,x2,x3,rfl,h⟩
 |_=>exact aq' h
def cg' (z:Expr) (f:Expr->Str->Pos->Bool):Bool:=match z with
 | .Attribute x0 x1 x2=>f x0 x1 x2
 |_=>false
theorem ch' {z f} (h:cg' z f=true):∃x0 x1 x2,z=.Attribute x0 x1 x2/\f x0 x1 x2=true:=by
 cases z with
 |Attribute x0 x1 x2=>exact⟨x0,x1,x2,rfl,h⟩
 |_=>exact aq' h
def k1' (z:Expr) (f:List (Option Expr)->List Expr->Pos->Bool):Bool:=match z with
 | .Dict x0 x1 x2=>f x0 x1 x2
 |_=>false
theorem i2' {z f} (h:k1' z f=true):∃x0 x1 x2,z=.Dict x0 x1 x2/\f x0 x1 x2=true:=by
 cases z with
 |Dict x0 x1 x2=>exact⟨x0,x1,x2,rfl,h⟩
 |_=>exact aq' h
def dY' (z:Expr) (f:Expr->Expr->List Comprehension->Scope->Pos->Bool):Bool:=match z with
 | .DictComp x0 x1 x2 x3 x4=>f x0 x1 x2 x3 x4
 |_=>false
theorem et' {z f} (h:dY' z f=true):∃x0 x1 x2 x3 x4,z=.DictComp x0 x1 x2 x3 x4/\f x0 x1 x2 x3 x4=true:=by
 cases z with
 |DictComp x0 x1 x2 x3 x4=>exact⟨x0,x1,x2,x3,x4,rfl,h⟩
 |_=>exact aq' h
def bT' (z:Expr) (f:Expr->List Comprehension->Scope->Pos->Bool):Bool:=match z with
 | .ListComp x0 x1 x2 x3=>f x0 x1 x2 x3
 |_=>false
theorem bF' {z f} (h:bT' z f=true):∃x0 x1 x2 x3,z=.ListComp x0 x1 x2 x3/\f x0 x1 x2 x3=true:=by
 cases z with
 |ListComp x0 x1 x2 x3=>exact⟨x0,x1,x2,x3,rfl,h⟩
 |_=>exact aq' h
def k2' (z:Stmt) (f:Expr->Pos->Bool):Bool:=match z with
 | .Expr x0 x1=>f x0 x1
 |_=>false
theorem i3' {z f} (h:k2' z f=true):∃x0 x1,z=.Expr x0 x1/\f x0 x1=true:=by
 cases z with
 |Expr x0 x1=>exact⟨x0,x1,rfl,h⟩
 |_=>exact aq' h
def ga' (z:Stmt) (f:Option Expr->Pos->Bool):Bool:=match z with
 | .Return x0 x1=>f x0 x1
 |_=>false
theorem gb' {z f} (h:ga' z f=true):∃x0 x1,z=.Return x0 x1/\f x0 x1=true:=by
 cases z with
 |Return x0 x1=>exact⟨x0,x1,rfl,h⟩
 |_=>exact aq' h
def ci' (z:Stmt) (f:List Expr->Expr->Pos->Bool):Bool:=match z with
 | .Assign x0 x1 x2=>f x0 x1 x2
 |_=>false
theorem bB' {z f} (h:ci' z f=true):∃x0 x1 x2,z=.Assign x0 x1 x2/\f x0 x1 x2=true:=by
 cases z with
 |Assign x0 x1 x2=>exact⟨x0,x1,x2,rfl,h⟩
 |_=>exact aq' h
def eJ' (z:Expr) (f:Expr->List Comprehension->Scope->Pos->Bool):Bool:=match z with
 | .SetComp x0 x1 x2 x3=>f x0 x1 x2 x3
 |_=>false
theorem fl' {z f} (h:eJ' z f=true):∃x0 x1 x2 x3,z=.SetComp x0 x1 x2 x3/\f x0 x1 x2 x3=true:=by
 cases z with
 |SetComp x0 x1 x2 x3=>exact⟨x0,x1,x2,x3,rfl,h⟩
 |_=>exact aq' h
def dn' (z:Stmt) (f:Expr->Operator->Expr->Pos->Bool):Bool:=match z with
 | .AugAssign x0 x1 x2 x3=>f x0 x1 x2 x3
 |_=>false
theorem dZ' {z f} (h:dn' z f=true):∃x0 x1 x2 x3,z=.AugAssign x0 x1 x2 x3/\f x0 x1 x2 x3=true:=by
 cases z with
 |AugAssign x0 x1 x2 x3=>exact⟨x0,x1,x2,x3,rfl,h⟩
 |_=>exact aq' h
def tL' (z:Stmt) (f:Expr->List Stmt->List Stmt->Pos->Bool):Bool:=match z with
 | .If x0 x1 x2 x3=>f x0 x1 x2 x3
 |_=>false
theorem mX' {z f} (h:tL' z f=true):∃x0 x1 x2 x3,z=.If x0 x1 x2 x3/\f x0 x1 x2 x3=true:=by
 cases z with
 |If x0 x1 x2 x3=>exact⟨x0,x1,x2,x3,rfl,h⟩
 |_=>exact aq' h
def ic' (z:Stmt) (f:Expr->List Stmt->List Stmt->Pos->Bool):Bool:=match z with
 | .While x0 x1 x2 x3=>f x0 x1 x2 x3
 |_=>false
theorem gZ' {z f} (h:ic' z f=true):∃x0 x1 x2 x3,z=.While x0 x1 x2 x3/\f x0 x1 x2 x3=true:=by
 cases z with
 |While x0 x1 x2 x3=>exact⟨x0,x1,x2,x3,rfl,h⟩
 |_=>exact aq' h
def oG' (z:Stmt) (f:Expr->Expr->List Stmt->List Stmt->Pos->Bool):Bool:=match z with
 | .For x0 x1 x2 x3 x4=>f x0 x1 x2 x3 x4
 |_=>false
theorem k3' {z f} (h:oG' z f=true):∃x0 x1 x2 x3 x4,z=.For x0 x1 x2 x3 x4/\f x0 x1 x2 x3 x4=true:=by
 cases z with
 |For x0 x1 x2 x3 x4=>exact⟨x0,x1,x2,x3,x4,rfl,h⟩
 |_=>exact aq' h
def v1 (zz:Expr) (f:Str->Bool):Bool:=cf' zz fun y1 y2=>f y1
theorem xu' {zz f} {P:Prop} (h:v1 zz f=true) (k:∀x w1,zz=.Name x w1->f x=true->P):P:=by
 obtain⟨y1,y2,e0,h⟩:=bc' h
 exact k y1 y2 (by rw[e0]) h
def v2 (zz:Expr) (f:Int->Bool):Bool:=bq' zz fun y1 y2 y3=>oD' y1 fun y4=>f y4
theorem zN' {zz f} {P:Prop} (h:v2 zz f=true) (k:∀m w1 w2,zz=.Constant (.int m) w1 w2->f m=true->P):P:=by
 obtain⟨y1,y2,y3,e0,h⟩:=bd' h
 obtain⟨y4,e1,h⟩:=kU' h
 exact k y4 y2 y3 (by rw[e0,e1]) h
def v3 (zz:Expr) (f:Bool->Bool):Bool:=bq' zz fun y1 y2 y3=>kV' y1 fun y4=>f y4
theorem zO' {zz f} {P:Prop} (h:v3 zz f=true) (k:∀c w1 w2,zz=.Constant (.bool c) w1 w2->f c=true->P):P:=by
 obtain⟨y1,y2,y3,e0,h⟩:=bd' h
 obtain⟨y4,e1,h⟩:=iY' h
 exact k y4 y2 y3 (by rw[e0,e1]) h
def v4 (zz:Expr) (f:Bool):Bool:=bq' zz fun y1 y2 y3=>kW' y1 (f)
theorem zP' {zz f} {P:Prop} (h:v4 zz f=true) (k:∀w1 w2,zz=.Constant .none w1 w2->f=true->P):P:=by
 obtain⟨y1,y2,y3,e0,h⟩:=bd' h
 obtain⟨e1,h⟩:=iZ' h
 exact k y2 y3 (by rw[e0,e1]) h
def v5 (zz:Expr) (f:Str->Bool):Bool:=bq' zz fun y1 y2 y3=>oE' y1 fun y4=>f y4
theorem zQ' {zz f} {P:Prop} (h:v5 zz f=true) (k:∀y w1 w2,zz=.Constant (.str y) w1 w2->f y=true->P):P:=by
 obtain⟨y1,y2,y3,e0,h⟩:=bd' h
 obtain⟨y4,e1,h⟩:=kX' h
 exact k y4 y2 y3 (by rw[e0,e1]) h
def v6 (zz:Expr) (f:Expr->Operator->Expr->Bool):Bool:=h8' zz fun y1 y2 y3 y4=>f y1 y2 y3
theorem zR' {zz f} {P:Prop} (h:v6 zz f=true) (k:∀ea op' eb w1,zz=.BinOp ea op' eb w1->f ea op' eb=true->P):P:=by
 obtain⟨y1,y2,y3,y4,e0,h⟩:=gV' h
 exact k y1 y2 y3 y4 (by rw[e0]) h
def v7 (zz:Expr) (f:Expr->Bool):Bool:=db' zz fun y1 y2 y3=>kY' y1 (f y2)
theorem zS' {zz f} {P:Prop} (h:v7 zz f=true) (k:∀ea w1,zz=.UnaryOp .USub ea w1->f ea=true->P):P:=by
 obtain⟨y1,y2,y3,e0,h⟩:=cX' h
 obtain⟨e1,h⟩:=i0' h
 exact k y2 y3 (by rw[e0,e1]) h
def v8 (zz:Expr) (f:Expr->Bool):Bool:=db' zz fun y1 y2 y3=>oF' y1 (f y2)
theorem zb' {zz f} {P:Prop} (h:v8 zz f=true) (k:∀ea w1,zz=.UnaryOp .Not ea w1->f ea=true->P):P:=by
 obtain⟨y1,y2,y3,e0,h⟩:=cX' h
 obtain⟨e1,h⟩:=kZ' h
 exact k y2 y3 (by rw[e0,e1]) h
def v9 (zz:Expr) (f:Expr->CmpOp->Expr->Bool):Bool:=dc' zz fun y1 y2 y3 y4=>aD' y2 fun y5 y6=>a5' y6 (aD' y3 fun y7 y8=>a5' y8 (f y1 y5 y7))
theorem wv' {zz f} {P:Prop} (h:v9 zz f=true) (k:∀ea op' eb w1,zz=.Compare ea (op' :: []) (eb :: []) w1->f ea op' eb=true->P):P:=by
 obtain⟨y1,y2,y3,y4,e0,h⟩:=cY' h
 obtain⟨y5,y6,e1,h⟩:=ah' h
 obtain⟨e2,h⟩:=al' h
 obtain⟨y7,y8,e3,h⟩:=ah' h
 obtain⟨e4,h⟩:=al' h
 exact k y1 y5 y7 y4 (by rw[e0,e1,e2,e3,e4]) h
def v10 (zz:Expr) (f:Expr->CmpOp->CmpOp->Expr->Expr->Bool):Bool:=dc' zz fun y1 y2 y3 y4=>aD' y2 fun y5 y6=>aD' y6 fun y7 y8=>a5' y8 (aD' y3 fun y9 y10=>aD' y10 fun y11 y12=>a5' y12 (f y1 y5 y7 y9 y11))
theorem tM' {zz f} {P:Prop} (h:v10 zz f=true) (k:∀ea o1 o2 eb ec w1,zz=.Compare ea (o1 :: (o2 :: [])) (eb :: (ec :: [])) w1->f ea o1 o2 eb ec=true->P):P:=by
 obtain⟨y1,y2,y3,y4,e0,h⟩:=cY' h
 obtain⟨y5,y6,e1,h⟩:=ah' h
 obtain⟨y7,y8,e2,h⟩:=ah' h
 obtain⟨e3,h⟩:=al' h
 obtain⟨y9,y10,e4,h⟩:=ah' h
 obtain⟨y11,y12,e5,h⟩:=ah' h
 obtain⟨e6,h⟩:=al' h
 exact k y1 y5 y7 y9 y11 y4 (by rw[e0,e1,e2,e3,e4,e5,e6]) h
def v11 (zz:Expr) (f:Expr->Expr->Expr->Bool):Bool:=h9' zz fun y1 y2 y3 y4=>f y1 y2 y3
theorem xv' {zz f} {P:Prop} (h:v11 zz f=true) (k:∀eq ea eb w1,zz=.IfExp eq ea eb w1->f eq ea eb=true->P):P:=by
 obtain⟨y1,y2,y3,y4,e0,h⟩:=gW' h
 exact k y1 y2 y3 y4 (by rw[e0]) h
def v12 (zz:Expr) (f:List Expr->Bool):Bool:=ia' zz fun y1 y2 y3=>f y1
theorem tN' {zz f} {P:Prop} (h:v12 zz f=true) (k:∀xs w1 w2,zz=.Tuple xs w1 w2->f xs=true->P):P:=by
 obtain⟨y1,y2,y3,e0,h⟩:=gX' h
 exact k y1 y2 y3 (by rw[e0]) h
def v13 (zz:Expr) (f:List Expr->Bool):Bool:=k0' zz fun y1 y2=>f y1
theorem xw' {zz f} {P:Prop} (h:v13 zz f=true) (k:∀xs w1,zz=.List xs w1->f xs=true->P):P:=by
 obtain⟨y1,y2,e0,h⟩:=i1' h
 exact k y1 y2 (by rw[e0]) h
def v14 (zz:Expr) (f:Expr->Expr->Bool):Bool:=bA' zz fun y1 y2 y3=>f y1 y2
theorem tO' {zz f} {P:Prop} (h:v14 zz f=true) (k:∀ea eb w1,zz=.Subscript ea eb w1->f ea eb=true->P):P:=by
 obtain⟨y1,y2,y3,e0,h⟩:=br' h
 exact k y1 y2 y3 (by rw[e0]) h
def v15 (zz:Expr) (f:Expr->Option Expr->Option Expr->Bool):Bool:=bA' zz fun y1 y2 y3=>ib' y2 fun y4 y5 y6 y7=>kS' y6 (f y1 y4 y5)
theorem xx' {zz f} {P:Prop} (h:v15 zz f=true) (k:∀ea l h w1 w2,zz=.Subscript ea (.Slice l h none w1) w2->f ea l h=true->P):P:=by
 obtain⟨y1,y2,y3,e0,h⟩:=br' h
 obtain⟨y4,y5,y6,y7,e1,h⟩:=gY' h
 obtain⟨e2,h⟩:=f8' h
 exact k y1 y4 y5 y7 y3 (by rw[e0,e1,e2]) h
def v16 (zz:Expr) (f:Str->Expr->List Expr->Bool):Bool:=de' zz fun y1 y2 y3 y4=>cf' y1 fun y5 y6=>aD' y2 fun y7 y8=>a5' y3 (f y5 y7 y8)
theorem tP' {zz f} {P:Prop} (h:v16 zz f=true) (k:∀x w1 e r w2,zz=.Call (.Name x w1) (e :: r) [] w2->f x e r=true->P):P:=by
 obtain⟨y1,y2,y3,y4,e0,h⟩:=bL' h
 obtain⟨y5,y6,e1,h⟩:=bc' h
 obtain⟨y7,y8,e2,h⟩:=ah' h
 obtain⟨e3,h⟩:=al' h
 exact k y5 y6 y7 y8 y4 (by rw[e0,e1,e2,e3]) h
def v17 (zz:Expr) (f:Expr->Str->Pos->List Expr->Pos->Bool):Bool:=de' zz fun y1 y2 y3 y4=>cg' y1 fun y5 y6 y7=>a5' y3 (f y5 y6 y7 y2 y4)
theorem xy' {zz f} {P:Prop} (h:v17 zz f=true) (k:∀eo nm apos args pos,zz=.Call (.Attribute eo nm apos) args [] pos->f eo nm apos args pos=true->P):P:=by
 obtain⟨y1,y2,y3,y4,e0,h⟩:=bL' h
 obtain⟨y5,y6,y7,e1,h⟩:=ch' h
 obtain⟨e2,h⟩:=al' h
 exact k y5 y6 y7 y2 y4 (by rw[e0,e1,e2]) h
def v18 (zz:Expr) (f:Bool):Bool:=k1' zz fun y1 y2 y3=>a5' y1 (a5' y2 (f))
theorem tQ' {zz f} {P:Prop} (h:v18 zz f=true) (k:∀w1,zz=.Dict [] [] w1->f=true->P):P:=by
 obtain⟨y1,y2,y3,e0,h⟩:=i2' h
 obtain⟨e1,h⟩:=al' h
 obtain⟨e2,h⟩:=al' h
 exact k y3 (by rw[e0,e1,e2]) h
def v20 (zz:Expr) (f:Expr->Str->Pos->Expr->Pos->Bool):Bool:=de' zz fun y1 y2 y3 y4=>cg' y1 fun y5 y6 y7=>aD' y2 fun y8 y9=>a5' y9 (a5' y3 (f y5 y6 y7 y8 y4))
theorem xz' {zz f} {P:Prop} (h:v20 zz f=true) (k:∀eo nm apos y pos,zz=.Call (.Attribute eo nm apos) (y :: []) [] pos->f eo nm apos y pos=true->P):P:=by
 obtain⟨y1,y2,y3,y4,e0,h⟩:=bL' h
 obtain⟨y5,y6,y7,e1,h⟩:=ch' h
 obtain⟨y8,y9,e2,h⟩:=ah' h
 obtain⟨e3,h⟩:=al' h
 obtain⟨e4,h⟩:=al' h
 exact k y5 y6 y7 y8 y4 (by rw[e0,e1,e2,e3,e4]) h
def v23 (zz:Expr) (f:Str->Expr->Bool):Bool:=de' zz fun y1 y2 y3 y4=>cf' y1 fun y5 y6=>aD' y2 fun y7 y8=>a5' y8 (a5' y3 (f y5 y7))
theorem qf' {zz f} {P:Prop} (h:v23 zz f=true) (k:∀x w1 y w2,zz=.Call (.Name x w1) (y :: []) [] w2->f x y=true->P):P:=by
 obtain⟨y1,y2,y3,y4,e0,h⟩:=bL' h
 obtain⟨y5,y6,e1,h⟩:=bc' h
 obtain⟨y7,y8,e2,h⟩:=ah' h
 obtain⟨e3,h⟩:=al' h
 obtain⟨e4,h⟩:=al' h
 exact k y5 y6 y7 y4 (by rw[e0,e1,e2,e3,e4]) h
def v26 (zz:Expr) (f:Expr->Expr->Expr->List Expr->Int->Scope->Bool):Bool:=bT' zz fun y1 y2 y3 y4=>aD' y2 fun y5 y6=>eq' y5 fun y7 y8 y9 y10=>a5' y6 (f y1 y7 y8 y9 y10 y3)
theorem xA' {zz f} {P:Prop} (h:v26 zz f=true) (k:∀ee tg iter ifs a scope w1,zz=.ListComp ee (⟨tg,iter,ifs,a⟩ :: []) scope w1->f ee tg iter ifs a scope=true->P):P:=by
 obtain⟨y1,y2,y3,y4,e0,h⟩:=bF' h
 obtain⟨y5,y6,e1,h⟩:=ah' h
 obtain⟨y7,y8,y9,y10,e2,h⟩:=bj' h
 obtain⟨e3,h⟩:=al' h
 exact k y1 y7 y8 y9 y10 y3 y4 (by rw[e0,e1,e2,e3]) h
def v27 (zz:Expr) (f:Expr->Expr->Expr->List Expr->Int->Expr->Expr->List Expr->Int->Scope->Bool):Bool:=bT' zz fun y1 y2 y3 y4=>aD' y2 fun y5 y6=>eq' y5 fun y7 y8 y9 y10=>aD' y6 fun y11 y12=>eq' y11 fun y13 y14 y15 y16=>a5' y12 (f y1 y7 y8 y9 y10 y13 y14 y15 y16 y3)
theorem xB' {zz f} {P:Prop} (h:v27 zz f=true) (k:∀ee tg iter ifs a tg2 iter2 ifs2 a2 scope w1,zz=.ListComp ee (⟨tg,iter,ifs,a⟩ :: (⟨tg2,iter2,ifs2,a2⟩ :: [])) scope w1->f ee tg iter ifs a tg2 iter2 ifs2 a2 scope=true->P):P:=by
 obtain⟨y1,y2,y3,y4,e0,h⟩:=bF' h
 obtain⟨y5,y6,e1,h⟩:=ah' h
 obtain⟨y7,y8,y9,y10,e2,h⟩:=bj' h
 obtain⟨y11,y12,e3,h⟩:=ah' h
 obtain⟨y13,y14,y15,y16,e4,h⟩:=bj' h
 obtain⟨e5,h⟩:=al' h
 exact k y1 y7 y8 y9 y10 y13 y14 y15 y16 y3 y4 (by rw[e0,e1,e2,e3,e4,e5]) h
def v28 (zz:Expr) (f:Expr->Expr->Expr->List Expr->Int->Expr->Expr->List Expr->Int->Expr->Expr->List Expr->Int->Scope->Bool):Bool:=bT' zz fun y1 y2 y3 y4=>aD' y2 fun y5 y6=>eq' y5 fun y7 y8 y9 y10=>aD' y6 fun y11 y12=>eq' y11 fun y13 y14 y15 y16=>aD' y12 fun y17 y18=>eq' y17 fun y19 y20 y21 y22=>a5' y18 (f y1 y7 y8 y9 y10 y13 y14 y15 y16 y19 y20 y21 y22 y3)
theorem xC' {zz f} {P:Prop} (h:v28 zz f=true) (k:∀ee tg iter ifs a tg2 iter2 ifs2 a2 tg3 iter3 ifs3 a3 scope w1,zz=.ListComp ee (⟨tg,iter,ifs,a⟩ :: (⟨tg2,iter2,ifs2,a2⟩ :: (⟨tg3,iter3,ifs3,a3⟩ :: []))) scope w1->f ee tg iter ifs a tg2 iter2 ifs2 a2 tg3 iter3 ifs3 a3 scope=true->P):P:=by
 obtain⟨y1,y2,y3,y4,e0,h⟩:=bF' h
 obtain⟨y5,y6,e1,h⟩:=ah' h
 obtain⟨y7,y8,y9,y10,e2,h⟩:=bj' h
 obtain⟨y11,y12,e3,h⟩:=ah' h
 obtain⟨y13,y14,y15,y16,e4,h⟩:=bj' h
 obtain⟨y17,y18,e5,h⟩:=ah' h
 obtain⟨y19,y20,y21,y22,e6,h⟩:=bj' h
 obtain⟨e7,h⟩:=al' h
 exact k y1 y7 y8 y9 y10 y13 y14 y15 y16 y19 y20 y21 y22 y3 y4 (by rw[e0,e1,e2,e3,e4,e5,e6,e7]) h
def v29 (zz:List Expr) (f:Bool):Bool:=a5' zz (f)
theorem k4' {zz f} {P:Prop} (h:v29 zz f=true) (k:zz=[]->f=true->P):P:=by
 obtain⟨e0,h⟩:=al' h
 exact k (by rw[e0]) h
def v30 (zz:List Expr) (f:Expr->List Expr->Bool):Bool:=aD' zz fun y1 y2=>f y1 y2
theorem mY' {zz f} {P:Prop} (h:v30 zz f=true) (k:∀x xs,zz=(x :: xs)->f x xs=true->P):P:=by
 obtain⟨y1,y2,e0,h⟩:=ah' h
 exact k y1 y2 (by rw[e0]) h
def v31 (zz:List Expr) (f:Expr->Bool):Bool:=aD' zz fun y1 y2=>a5' y2 (f y1)
theorem xD' {zz f} {P:Prop} (h:v31 zz f=true) (k:∀e,zz=(e :: [])->f e=true->P):P:=by
 obtain⟨y1,y2,e0,h⟩:=ah' h
 obtain⟨e1,h⟩:=al' h
 exact k y1 (by rw[e0,e1]) h
def v32 (zz:Option Expr) (f:Bool):Bool:=kS' zz (f)
theorem xE' {zz f} {P:Prop} (h:v32 zz f=true) (k:zz=none->f=true->P):P:=by
 obtain⟨e0,h⟩:=f8' h
 exact k (by rw[e0]) h
def v33 (zz:Option Expr) (f:Expr->Bool):Bool:=kT' zz fun y1=>f y1
theorem xF' {zz f} {P:Prop} (h:v33 zz f=true) (k:∀y,zz=(some y)->f y=true->P):P:=by
 obtain⟨y1,e0,h⟩:=f9' h
 exact k y1 (by rw[e0]) h
def v34 (zz:Expr) (f:Str->Expr->Expr->Bool):Bool:=de' zz fun y1 y2 y3 y4=>cf' y1 fun y5 y6=>aD' y2 fun y7 y8=>aD' y8 fun y9 y10=>a5' y10 (a5' y3 (f y5 y7 y9))
theorem tR' {zz f} {P:Prop} (h:v34 zz f=true) (k:∀n w1 y z w2,zz=.Call (.Name n w1) (y :: (z :: [])) [] w2->f n y z=true->P):P:=by
 obtain⟨y1,y2,y3,y4,e0,h⟩:=bL' h
 obtain⟨y5,y6,e1,h⟩:=bc' h
 obtain⟨y7,y8,e2,h⟩:=ah' h
 obtain⟨y9,y10,e3,h⟩:=ah' h
 obtain⟨e4,h⟩:=al' h
 obtain⟨e5,h⟩:=al' h
 exact k y5 y6 y7 y9 y4 (by rw[e0,e1,e2,e3,e4,e5]) h
def v36 (zz:Stmt) (f:Expr->Bool):Bool:=k2' zz fun y1 y2=>f y1
theorem xG' {zz f} {P:Prop} (h:v36 zz f=true) (k:∀x w1,zz=.Expr x w1->f x=true->P):P:=by
 obtain⟨y1,y2,e0,h⟩:=i3' h
 exact k y1 y2 (by rw[e0]) h
def v37 (zz:Stmt) (f:Expr->Bool):Bool:=ga' zz fun y1 y2=>kT' y1 fun y3=>f y3
theorem xH' {zz f} {P:Prop} (h:v37 zz f=true) (k:∀x w1,zz=.Return (some x) w1->f x=true->P):P:=by
 obtain⟨y1,y2,e0,h⟩:=gb' h
 obtain⟨y3,e1,h⟩:=f9' h
 exact k y3 y2 (by rw[e0,e1]) h
def v39 (zz:Stmt) (f:Expr->Expr->Bool):Bool:=ci' zz fun y1 y2 y3=>aD' y1 fun y4 y5=>a5' y5 (f y4 y2)
theorem xI' {zz f} {P:Prop} (h:v39 zz f=true) (k:∀tg x w1,zz=.Assign (tg :: []) x w1->f tg x=true->P):P:=by
 obtain⟨y1,y2,y3,e0,h⟩:=bB' h
 obtain⟨y4,y5,e1,h⟩:=ah' h
 obtain⟨e2,h⟩:=al' h
 exact k y4 y2 y3 (by rw[e0,e1,e2]) h
def v41 (zz:Stmt) (f:Str->Pos->Expr->Expr->Expr->List Expr->Int->Expr->Expr->List Expr->Int->Scope->Bool):Bool:=ci' zz fun y1 y2 y3=>aD' y1 fun y4 y5=>cf' y4 fun y6 y7=>a5' y5 (eJ' y2 fun y8 y9 y10 y11=>aD' y9 fun y12 y13=>eq' y12 fun y14 y15 y16 y17=>aD' y13 fun y18 y19=>eq' y18 fun y20 y21 y22 y23=>a5' y19 (f y6 y7 y8 y14 y15 y16 y17 y20 y21 y22 y23 y10))
theorem xJ' {zz f} {P:Prop} (h:v41 zz f=true) (k:∀y py ee tg iter ifs a tg2 iter2 ifs2 a2 scope w1 w2,zz=.Assign ((.Name y py) :: []) (.SetComp ee (⟨tg,iter,ifs,a⟩ :: (⟨tg2,iter2,ifs2,a2⟩ :: [])) scope w1) w2->f y py ee tg iter ifs a tg2 iter2 ifs2 a2 scope=true->P):P:=by
 obtain⟨y1,y2,y3,e0,h⟩:=bB' h
 obtain⟨y4,y5,e1,h⟩:=ah' h
 obtain⟨y6,y7,e2,h⟩:=bc' h
 obtain⟨e3,h⟩:=al' h
 obtain⟨y8,y9,y10,y11,e4,h⟩:=fl' h
 obtain⟨y12,y13,e5,h⟩:=ah' h
 obtain⟨y14,y15,y16,y17,e6,h⟩:=bj' h
 obtain⟨y18,y19,e7,h⟩:=ah' h
 obtain⟨y20,y21,y22,y23,e8,h⟩:=bj' h
 obtain⟨e9,h⟩:=al' h
 exact k y6 y7 y8 y14 y15 y16 y17 y20 y21 y22 y23 y10 y11 y3 (by rw[e0,e1,e2,e3,e4,e5,e6,e7,e8,e9]) h
def v42 (zz:Stmt) (f:Str->Pos->Expr->Expr->Expr->Expr->List Expr->Int->Scope->Bool):Bool:=ci' zz fun y1 y2 y3=>aD' y1 fun y4 y5=>cf' y4 fun y6 y7=>a5' y5 (dY' y2 fun y8 y9 y10 y11 y12=>aD' y10 fun y13 y14=>eq' y13 fun y15 y16 y17 y18=>a5' y14 (f y6 y7 y8 y9 y15 y16 y17 y18 y11))
theorem xK' {zz f} {P:Prop} (h:v42 zz f=true) (k:∀y py ke ve tg iter ifs a scope w1 w2,zz=.Assign ((.Name y py) :: []) (.DictComp ke ve (⟨tg,iter,ifs,a⟩ :: []) scope w1) w2->f y py ke ve tg iter ifs a scope=true->P):P:=by
 obtain⟨y1,y2,y3,e0,h⟩:=bB' h
 obtain⟨y4,y5,e1,h⟩:=ah' h
 obtain⟨y6,y7,e2,h⟩:=bc' h
 obtain⟨e3,h⟩:=al' h
 obtain⟨y8,y9,y10,y11,y12,e4,h⟩:=et' h
 obtain⟨y13,y14,e5,h⟩:=ah' h
 obtain⟨y15,y16,y17,y18,e6,h⟩:=bj' h
 obtain⟨e7,h⟩:=al' h
 exact k y6 y7 y8 y9 y15 y16 y17 y18 y11 y12 y3 (by rw[e0,e1,e2,e3,e4,e5,e6,e7]) h
def v48 (zz:Stmt) (f:Expr->Expr->Expr->Bool):Bool:=ci' zz fun y1 y2 y3=>aD' y1 fun y4 y5=>bA' y4 fun y6 y7 y8=>a5' y5 (f y6 y7 y2)
theorem xL' {zz f} {P:Prop} (h:v48 zz f=true) (k:∀eo ei w1 ee w2,zz=.Assign ((.Subscript eo ei w1) :: []) ee w2->f eo ei ee=true->P):P:=by
 obtain⟨y1,y2,y3,e0,h⟩:=bB' h
 obtain⟨y4,y5,e1,h⟩:=ah' h
 obtain⟨y6,y7,y8,e2,h⟩:=br' h
 obtain⟨e3,h⟩:=al' h
 exact k y6 y7 y8 y2 y3 (by rw[e0,e1,e2,e3]) h
def v49 (zz:Stmt) (f:Str->Operator->Expr->Bool):Bool:=dn' zz fun y1 y2 y3 y4=>cf' y1 fun y5 y6=>f y5 y2 y3
theorem xM' {zz f} {P:Prop} (h:v49 zz f=true) (k:∀x w1 op ee w2,zz=.AugAssign (.Name x w1) op ee w2->f x op ee=true->P):P:=by
 obtain⟨y1,y2,y3,y4,e0,h⟩:=dZ' h
 obtain⟨y5,y6,e1,h⟩:=bc' h
 exact k y5 y6 y2 y3 y4 (by rw[e0,e1]) h
def v50 (zz:Stmt) (f:Expr->List Stmt->List Stmt->Bool):Bool:=tL' zz fun y1 y2 y3 y4=>f y1 y2 y3
theorem xN' {zz f} {P:Prop} (h:v50 zz f=true) (k:∀x ss rs w1,zz=.If x ss rs w1->f x ss rs=true->P):P:=by
 obtain⟨y1,y2,y3,y4,e0,h⟩:=mX' h
 exact k y1 y2 y3 y4 (by rw[e0]) h
def v51 (zz:Stmt) (f:Expr->List Stmt->Bool):Bool:=ic' zz fun y1 y2 y3 y4=>a5' y3 (f y1 y2)
theorem xO' {zz f} {P:Prop} (h:v51 zz f=true) (k:∀x ss w1,zz=.While x ss [] w1->f x ss=true->P):P:=by
 obtain⟨y1,y2,y3,y4,e0,h⟩:=gZ' h
 obtain⟨e1,h⟩:=al' h
 exact k y1 y2 y4 (by rw[e0,e1]) h
def v52 (zz:Stmt) (f:Expr->Expr->List Stmt->Bool):Bool:=oG' zz fun y1 y2 y3 y4 y5=>a5' y4 (f y1 y2 y3)
theorem xP' {zz f} {P:Prop} (h:v52 zz f=true) (k:∀tg iter ss w1,zz=.For tg iter ss [] w1->f tg iter ss=true->P):P:=by
 obtain⟨y1,y2,y3,y4,y5,e0,h⟩:=k3' h
 obtain⟨e1,h⟩:=al' h
 exact k y1 y2 y3 y5 (by rw[e0,e1]) h
def v56 (zz:List Stmt) (f:Bool):Bool:=a5' zz (f)
theorem xQ' {zz f} {P:Prop} (h:v56 zz f=true) (k:zz=[]->f=true->P):P:=by
 obtain⟨e0,h⟩:=al' h
 exact k (by rw[e0]) h
def v57 (zz:List Stmt) (f:Stmt->List Stmt->Bool):Bool:=aD' zz fun y1 y2=>f y1 y2
theorem xR' {zz f} {P:Prop} (h:v57 zz f=true) (k:∀x xs,zz=(x :: xs)->f x xs=true->P):P:=by
 obtain⟨y1,y2,e0,h⟩:=ah' h
 exact k y1 y2 (by rw[e0]) h
mutual
def mE (N B:List Str) (sc:Scope):Ce->Expr->Bool
 | .var i,e=>v1 e fun x=>f4' N i x&&vis sc x
 | .int n,e=>v2 e fun m=>decide (n=m)
 | .bl b,e=>v3 e fun c=>decide (b=c)
 | .non,e=>v4 e (true)
 | .str x,e=>v5 e fun y=>decide (x=y)
 | .ty n,e=>v1 e fun x=>decide (x=Str.ofString n)&&glb sc x&&f5'.contains n&&decide (x∈B)
 | .bin op a b,e=>v6 e fun ea op' eb=>decide (op=op')&&mE N B sc a ea&&mE N B sc b eb
 | .neg a,e=>v7 e fun ea=>mE N B sc a ea
 | .not a,e=>v8 e fun ea=>mE N B sc a ea
 | .and a b,e=>xt' e fun x y=>mE N B sc a x&&mE N B sc b y
 | .or a b,e=>vOr e fun x y=>mE N B sc a x&&mE N B sc b y
 | .orv a b,e=>vOr e fun x y=>mE N B sc a x&&mE N B sc b y
 | .cmp op a b,e=>v9 e fun ea op' eb=>decide (op=op')&&mE N B sc a ea&&mE N B sc b eb&&aK' eb
 | .chn op1 op2 a b c,e=>v10 e fun ea o1 o2 eb ec=>decide (op1=o1)&&decide (op2=o2)&&mE N B sc a ea&&mE N B sc b eb&&mE N B sc c ec&&aK' ec
 | .ife q a b,e=>v11 e fun eq ea eb=>mQ N B sc q eq&&mE N B sc a ea&&mE N B sc b eb
 | .tup es,e=>v12 e fun xs=>mA N B sc es xs
 | .lst es,e=>v13 e fun xs=>mA N B sc es xs
 | .idx a b,e=>v14 e fun ea eb=>mE N B sc a ea&&mE N B sc b eb&&cW' eb
 | .cut a lo hi,e=>v15 e fun ea l h=>mE N B sc a ea&&mO N B sc lo l&&mO N B sc hi h
 | .call f es,e=>v16 e fun x e r=>decide (x=f)&&glb sc x&&mA N B sc es (e :: r)&&!(x == ("__debug__":Str))&&!(hat B)&&!(tld B&&decide (rR' x∈B))
 | .blt f es,e=>v16 e fun x e r=>decide (x=dX' f)&&glb sc x&&mA N B sc es (e :: r)&&decide (x∈B)&&(!(hat B) || decide (f=.isinstance))
 | .met m o es,e=>v17 e fun eo nm apos args pos=>decide (nm=kN' m)&&mE N B sc o eo&&kO' eo&&(apos.endLine == pos.line)&&mA N B sc es args&&decide (args.length<28)
 | .dnt,e=>v18 e (true)
 | .dnn,e=>v18 e (true)
 | .din neg a b,e=>v9 e fun ea op' eb=>decide (op'=if neg then .NotIn else .In)&&mE N B sc a ea&&mE N B sc b eb&&aK' eb
 | .dgt a b,e=>v20 e fun eo nm apos y pos=>decide (nm="get")&&mE N B sc a eo&&kO' eo&&(apos.endLine == pos.line)&&mE N B sc b y&&aS' y
 | .cal f a,e=>v23 e fun x y=>decide (x=tK' f)&&glb sc x&&decide (x∈B)&&mE N B sc a y&&aS' y&&!(hat B)
 | .comp elt own t it q .nil,e=>v26 e fun ee tg iter ifs a scope=>!(hat B)&&ji' N sc scope own&&mE N ("~" :: B) scope elt ee&&fk' own t&&decide (a=0)&&mI N B sc it iter&&f6' it tg&&aK' iter&&mT N ("~" :: B) scope t tg&&mQo N ("~" :: B) scope q ifs
 | .comp elt own t it q (.cons ws t2 it2 q2 .nil),e=>v27 e fun ee tg iter ifs a tg2 iter2 ifs2 a2 scope=>!(hat B)&&ji' N sc scope own&&mE N ("~" :: B) scope elt ee&&fk' own t&&decide (a=0)&&mI N B sc it iter&&f6' it tg&&aK' iter&&mT N ("~" :: B) scope t tg&&mQo N ("~" :: B) scope q ifs&&
    decide (a2=0)&&mI N ("~" :: B) scope it2 iter2&&f6' it2 tg2&&aK' iter2&&mT N ("~" :: B) scope t2 tg2&&mQo N ("~" :: B) scope q2 ifs2&&fk' ws t2&&ws.all (fun j=>decide (j∈own))
 | .comp elt own t it q (.cons ws t2 it2 q2 (.cons ws3 t3 it3 q3 .nil)),e=>v28 e fun ee tg iter ifs a tg2 iter2 ifs2 a2 tg3 iter3 ifs3 a3 scope=>!(hat B)&&ji' N sc scope own&&mE N ("~" :: B) scope elt ee&&fk' own t&&decide (a=0)&&mI N B sc it iter&&f6' it tg&&aK' iter&&mT N ("~" :: B) scope t tg&&mQo N ("~" :: B) scope q ifs&&
    decide (a2=0)&&mI N ("~" :: B) scope it2 iter2&&f6' it2 tg2&&aK' iter2&&mT N ("~" :: B) scope t2 tg2&&mQo N ("~" :: B) scope q2 ifs2&&fk' ws t2&&ws.all (fun j=>decide (j∈own))&&
    decide (a3=0)&&mI N ("~" :: B) scope it3 iter3&&f6' it3 tg3&&aK' iter3&&mT N ("~" :: B) scope t3 tg3&&mQo N ("~" :: B) scope q3 ifs3&&fk' ws3 t3&&ws3.all (fun j=>decide (j∈ws))
 | .comp _ _ _ _ _ (.cons _ _ _ _ (.cons _ _ _ _ (.cons _ _ _ _ _))),_=>false
def mA (N B:List Str) (sc:Scope):Ces->List Expr->Bool
 | .nil,es=>v29 es (true)
 | .cons e r,es=>v30 es fun x xs=>mE N B sc e x&&aS' x&&mA N B sc r xs
def mQ (N B:List Str) (sc:Scope):Cq->Expr->Bool
 | .val e,x=>mE N B sc e x&&oC' x
 | .not q,x=>v8 x fun y=>mQ N B sc q y
 | .and a b,e=>xt' e fun x y=>mQ N B sc a x&&mQ N B sc b y
 | .or a b,e=>vOr e fun x y=>mQ N B sc a x&&mQ N B sc b y
 | .cmp op a b,e=>v9 e fun ea op' eb=>decide (op=op')&&mE N B sc a ea&&mE N B sc b eb&&aK' eb
 | .chn op1 op2 a b c,e=>v10 e fun ea o1 o2 eb ec=>decide (op1=o1)&&decide (op2=o2)&&mE N B sc a ea&&mE N B sc b eb&&mE N B sc c ec&&aK' ec
 | .din neg a b,e=>v9 e fun ea op' eb=>decide (op'=if neg then .NotIn else .In)&&mE N B sc a ea&&mE N B sc b eb&&aK' eb
def mQo (N B:List Str) (sc:Scope):Cqo->List Expr->Bool
 | .none,es=>v29 es (true)
 | .some q,es=>v31 es fun e=>mQ N B sc q e
def mO (N B:List Str) (sc:Scope):Co->Option Expr->Bool
 | .none,x=>v32 x (true)
 | .some e,x=>v33 x fun y=>mE N B sc e y
def mI (N B:List Str) (sc:Scope):Ci->Expr->Bool
 | .val e,x=>mE N B sc e x
 | .range1 a,x=>v23 x fun n y=>decide (n="range")&&glb sc n&&decide (n∈B)&&mE N B sc a y&&aS' y
 | .range2 a b,x=>v34 x fun n y z=>decide (n="range")&&glb sc n&&decide (n∈B)&&mE N B sc a y&&aS' y&&mE N B sc b z&&aS' z
 | .zip a b,x=>v34 x fun n y z=>decide (n="zip")&&glb sc n&&decide (n∈B)&&mE N B sc a y&&aS' y&&mE N B sc b z&&aS' z
 | .enum a,x=>v23 x fun n y=>decide (n="enumerate")&&glb sc n&&decide (n∈B)&&mE N B sc a y&&aS' y
 | .dk e,x=>mE N B sc e x
def mT (N B:List Str) (sc:Scope):Ct->Expr->Bool
 | .name i,e=>v1 e fun x=>f4' N i x&&locb sc x
 | .tup ts,e=>v12 e fun es=>mTs N B sc ts es&&!(hat B)
 | .sub o i,e=>v14 e fun eo ei=>mE N B sc o eo&&mE N B sc i ei&&cW' ei
def mTs (N B:List Str) (sc:Scope):Cts->List Expr->Bool
 | .nil,es=>v29 es (true)
 | .cons t r,es=>v30 es fun x xs=>mT N B sc t x&&aS' x&&mTs N B sc r xs
end
def g0':Ce->Bool
 |_=>false
mutual
def mS (N B:List Str) (sc:Scope):Cs->Stmt->Bool
 | .expr e,s=>v36 s fun x=>mE N B sc e x&&(match e with | .comp ..=>false|_=>true)&&!g0' e
 | .ret e,s=>v37 s fun x=>mE N B sc e x
 | .asg t e,s=>v39 s fun tg x=>mE N B sc e x&&!g0' e&&mT N B sc t tg&&aS' tg&&(match tg,x with
   | .Tuple ..,.Tuple vs _ _=>vs.all (foldedForSure 8)
   | .Tuple ..,.ListComp ..=>false
   |_,_=>true)
 | .setc2 i elt own t it q ws t2 it2 q2,s=>v41 s fun y py ee tg iter ifs a tg2 iter2 ifs2 a2 scope=>!(hat B)&&mT N B sc (.name i) (.Name y py)&&ji' N sc scope own&&mE N ("~" :: B) scope elt ee&&fk' own t&&decide (a=0)&&mI N B sc it iter&&f6' it tg&&aK' iter&&mT N ("~" :: B) scope t tg&&mQo N ("~" :: B) scope q ifs&&
    decide (a2=0)&&mI N ("~" :: B) scope it2 iter2&&f6' it2 tg2&&aK' iter2&&mT N ("~" :: B) scope t2 tg2&&mQo N ("~" :: B) scope q2 ifs2&&fk' ws t2&&ws.all (fun j=>decide (j∈own))
 | .dctc _ i k v own t it q,s=>v42 s fun y py ke ve tg iter ifs a scope=>!(hat B)&&mT N B sc (.name i) (.Name y py)&&ji' N sc scope own&&mE N ("~" :: B) scope k ke&&mE N ("~" :: B) scope v ve&&fk' own t&&decide (a=0)&&mI N B sc it iter&&f6' it tg&&aK' iter&&mT N ("~" :: B) scope t tg&&mQo N ("~" :: B) scope q ifs
 | .dput o i e,s=>v48 s fun eo ei ee=>mE N B sc o eo&&mE N B sc i ei&&cW' ei&&mE N B sc e ee&&(match ee with
   | .ListComp ..=>false
   | .SetComp ..=>false
   | .DictComp ..=>false
   |_=>true)
 | .aug i sub e,s=>v49 s fun x op ee=>f4' N i x&&locb sc x&&mE N B sc e ee&&decide (op=if sub then .Sub else .Add)
 | .ite q a b,s=>v50 s fun x ss rs=>mQ N B sc q x&&mSs N B sc a ss&&mSs N B sc b rs
 | .whl q b,s=>v51 s fun x ss=>mQ N B sc q x&&mSs N B sc b ss
 | .for_ t it b,s=>v52 s fun tg iter ss=>mI N B sc it iter&&f6' it tg&&aK' iter&&mT N B sc t tg&&mSs N B sc b ss&&!(hat B)
def mSs (N B:List Str) (sc:Scope):Css->List Stmt->Bool
 | .nil,ss=>v56 ss (true)
 | .cons s r,ss=>v57 ss fun x xs=>mS N B sc s x&&mSs N B sc r xs
end
def qg' (CX:CXT) (X:Cx) (xk:L2.St->XK):Prop:=∀(pins:List (Addr×Obj)) (σ:L2.St) (H:Hp) (s:Shared) (e:Value) (s':Shared),Inv X pins σ H s->CX X.stack H s (xk σ) e s'->X.xe e s'
theorem oH' {X:Cx} {xk:L2.St->XK}:qg' CX0 X xk:=fun _ _ _ _ _ _ _ h=>h.elim
structure Rok (C:Rc) (B:List Str) (X:Cx) (sc:Scope):Prop where
 hN:X.N=C.N
 nd:C.N.Nodup
 hK:X.K=C.K
 own:PassesOwn (model X.prog X.w) X.A X.env X.xe
 calm:hat B=false->X.calm=true
 hu:X.A.units+64<cLine
 gd:X.A.guards=some []
 loc:∀x,sc.names.lookup x=some .local->X.env.scope.names.lookup x=some .local
 cel:∀x,sc.names.lookup x=some .cell->X.env.scope.names.lookup x=some .cell/\X.fn x=true
 fre:∀x,sc.names.lookup x=some .free->X.env.scope.names.lookup x=some .cell\/X.env.scope.names.lookup x=some .free
 glo:∀x,sc.names.lookup x=some .globalImplicit->X.env.kindOf x=some .globalImplicit
 fn:∀x sp,C.fs x=some sp->hat B=false->(tld B=true->rR' x∉B)->∃f fd ps k CX,FnOk X.prog X.w X.K X.mg X.base CX k f fd ps sp/\Room k X.A/\X.mg x=some (.ref f)/\W.keepIn X.K (.ref f)=true/\ed' X.K fd ps []/\(CX=CX0\/CX=CX1 X.prog X.w X.mg/\rR' x∈B)/\qg' CX X C.xk
 blt:∀x∈B,X.mg x=none
 mrk:X.mg "~"=none/\X.mg "^"=none/\X.mg "%"=none
 cls:∀c Ca,C.cl c=some Ca->X.mg c=some (.ref Ca)/\W.nsIn X.K mainGlobals c=some (some (.ref Ca))
 fx:tld B=false->FnCx X
 nohat:tld B=false->hat B=false
 xr:tld B=false->pct B=false->∀nm Ca pins σ H s e t,C.cl nm=some Ca->Inv X pins σ H s->H e=none->X.s₀.heap.get? e=none->(∀p∈X.pn++pins,p.1≠e)->s.heap.get? e=some { cls:=.ref Ca,data:=.fields #[.ref t,.none,.none,.none,.bool false,.none] }->C.xk σ (.str nm 0) none H->X.xe (.ref e) s
theorem Rok.hu1 {C:Rc} {B:List Str} {X:Cx} {sc:Scope} (R:Rok C B X sc):X.A.units+1<cLine:=by have:=R.hu;omega
section
variable {C:Rc} {B:List Str} {X:Cx} {sc:Scope}
set_option tactic.hygienic true in
theorem Rok.vis (R:Rok C B X sc) {x:Str} (h:R3.vis sc x=true):Vis X.env.scope x:=by
 unfold R3.vis at h
 split at h
 .rename_i e;exact .inl (R.loc x e)
 .rename_i e;exact .inr (.inl (R.cel x e).1)
 .rename_i e
  rcases R.fre x e with q|q
  .exact .inr (.inl q)
  .exact .inr (.inr q)
 .cases h
set_option tactic.hygienic true in
theorem Rok.locb (R:Rok C B X sc) {x:Str} (h:R3.locb sc x=true):Loc X.env.scope x/\(X.fn x=true\/X.env.scope.names.lookup x=some .local):=by
 unfold R3.locb at h
 split at h
 .rename_i e;exact⟨.inl (R.loc x e),.inr (R.loc x e)⟩
 .rename_i e;exact⟨.inr (R.cel x e).1,.inl (R.cel x e).2⟩
 .cases h
theorem Rok.glb (R:Rok C B X sc) {x:Str} (h:R3.glb sc x=true):Gl X x:=R.glo x (of_decide_eq_true h)
theorem bM' {N:List Str} {i:Nat} {x:Str} (h:f4' N i x=true):N[i]?=some x/\(x == ("__debug__":Str))=false/\(x == ("__classdict__":Str))=false:=by
 unfold f4' at h
 simp only[ag,decide_eq_true_eq,bq]at h
 exact⟨h.1.1,h.1.2,h.2⟩
theorem an' {e:Expr} {es:List Expr} {env:Env} (h:aS' e=true):starEach (e :: es) env=(false,eval e env) :: starEach es env:=by
 cases e<;>first|rfl|cases h
theorem fm' {N B:List Str} {sc:Scope} {env:Env} {pos:Pos}:∀{es:Ces} {xs:List Expr},mA N B sc es xs=true->(backTo pos (starEach xs env)).any (·.1)=false
 | .nil,xs,h=>by
  refine k4' h fun e0 g=>?_
  clear h
  subst e0
  revert g
  intro h
  rfl
 | .cons e r,xs,h=>by
  refine mY' h fun x xs e0 g=>?_
  clear h
  subst e0
  revert g
  intro h
  simp only[ag]at h
  rw[an' h.1.2]
  have ih:=fm' (env:=env) (pos:=pos) (es:=r) h.2
  exact ih
theorem aT' {e:Expr} {env:Env} (h:aK' e=true) (x:Value):foldedSetIterable e env x=pure x:=by
 cases e<;>first|rfl|cases h
theorem bU' {op:CmpOp} {e:Expr} (h:aK' e=true):behindInMarks op e=false:=by
 cases e<;>first|rfl|cases h
theorem k5' {o1 o2:CmpOp} {a e:Expr} (h:aK' e=true):lastMarks [o1,o2] [a,e]=false:=by
 show behindInMarks o2 e=false
 exact bU' h
theorem mZ' {e:Expr} (h:cW' e=true):jD' e:=by
 intro o i
 cases e<;>first|rfl|cases h
theorem g1' {e:Expr} {f:Str} {env:Env} {w:Sem Value} (h:kO' e=true):attributeBase e f env w=w:=by
 cases e with
 |Call g args kw pos=>
  cases args with
  |nil=>cases h
  |cons a r=>cases g<;>rfl
 |_=>rfl
theorem k6' {e:Expr} {env:Env} (h:oC' e=true) (w:Sem Value):isTrue e env w=(do let v <- w;standAt e.pos;holding [v] (truthy v)):=by
 cases e with
 |UnaryOp op a p=>cases op<;>first|rfl|cases h
 |_=>first|rfl|cases h
theorem OpR.imp {f:Value->Value->Sem Value} {r r':R2} (h:OpR X f r) (i:∀x y H Q,r' x y H Q->r x y H Q):OpR X f r':=fun pins s σ H x y v u Q I rx ry q=>h pins s σ H x y v u Q I rx ry (i _ _ _ _ q)
theorem aP'.imp {f:Value} {r r':List V->Hp->VK->Prop} (h:aP' X f r) (i:∀xs H Q,r' xs H Q->r xs H Q):aP' X f r':=fun pins s σ H xs us Q I rv q=>h pins s σ H xs us Q I rv (i _ _ _ q)
theorem ixM:IxR X (mU' X.K):=by
 intro value slice pins s σ H x y v u Q I rx ry q hp
 refine sw' value slice pins s σ H x y v u Q I rx ry ?_ hp
 unfold mU' at q
 split at q
 .obtain⟨z,c,hc,q⟩:=q
  exact .inr (.inr ⟨_,_,c,rfl,rfl,z,hc,q⟩)
 .rcases q with q|q
  .exact .inl q
  .exact .inr (.inl q)
theorem tS' {CX:CXT} {k:Nat} {f:Addr} {fd:FuncData} {ps:List Str} {sp:Sp} {dvs:List V} {ds:List Value} {E:XK} {pins:List (Addr×Obj)} {σ:L2.St} {H:Hp} {s:Shared} {Q:VK} {us:List Value} {vs:List V} (F:FnOk X.prog X.w X.K X.mg X.base CX k f fd ps sp) (hr:Room k X.A) (hb:ed' X.K fd ps ds) (hd:aB' dvs ds)
  (hx:∀e s',CX X.stack H s E e s'->X.xe e s') (I:Inv X pins σ H s) (r:aB' vs us) (h:sp (vs++dvs) H Q E):wpAny (model X.prog X.w) X.A (call (.ref f) us) (EP X pins σ Q) X.xe s:=by
 have r2:=r.append hd
 have hl:(us++ds).length=ps.length:=r2.length ▸ F.len _ _ _ _ h
 have go:=F.run X.A X.stack s H ⟨us,[]⟩ (us++ds) (vs++dvs) Q E hr I.env0 (hb s us I.kIn hl) r2 h
 refine wpAny_call (codeAny_mono go fun r s' hq=>?_)
 match r,hq with
 | .error e,hq=>exact hx e s' hq
 | .ok (.ret u),hq=>exact I.after hq
theorem m0' {CX:CXT} {k:Nat} {f:Addr} {fd:FuncData} {ps:List Str} {sp:Sp} {dvs:List V} {ds:List Value} {xk:L2.St->XK} {x:Str} {p pos:Pos} {e:Expr} {es:List Expr} {t:TA} (F:FnOk X.prog X.w X.K X.mg X.base CX k f fd ps sp) (hr:Room k X.A) (hg:Gl X x) (hm:X.mg x=some (.ref f)) (hk:W.keepIn X.K (.ref f)=true) (hb:ed' X.K fd ps ds) (hd:aB' dvs ds) (hx:qg' CX X xk)
  (ha:PA X (e :: es) t) (hdb:(x == ("__debug__":Str))=false) (he:starEach (e :: es) X.env=(false,eval e X.env) :: starEach es X.env) (hpl:(backTo pos (starEach es X.env)).any (·.1)=false):
  PE X (.Call (.Name x p) (e :: es) [] pos) (fun σ H Q=>mj' sp dvs (xk σ) t σ H Q):=by
 intro pins s σ H Q I h
 refine wpAny_Call_Name_kw (pg' I hg hm ?_ hdb)
 exact W.callWith_K (h₀:=X.base) I.ok.mod.kin hk (thn (ha pos pins s σ H _ I h) fun us s1 ⟨vs,H1,I1,r,q⟩=>⟨I1.kIn,tS' F hr hb hd (fun e s' c=>hx pins σ H1 s1 e s' I1 c) I1 r q⟩) he hpl
theorem qh' {a:Int} (h:a.natAbs<2 ^ 250*2 ^ 250*2 ^ 250):(Builtin.Int.intBits a:Int)<=750:=by
 rw[<- Nat.pow_add,<- Nat.pow_add]at h
 unfold Builtin.Int.intBits
 by_cases h0:a.natAbs=0
 .rw[if_pos (by simpa using h0)];decide
 .rw[if_neg (by simpa using h0)]
  have:=(Nat.log2_lt h0).mpr h
  omega
theorem qi' {X:Cx}:OpR X (binaryOp .LShift) (rI za' fun i j=>.int (i*2 ^ j.toNat)):=opI fun _ _ _ _ _ _ _ hc q=>lshift_int hc.1 (by have:=qh' hc.2.2;have:=hc.2.1;omega) q
theorem tT' (op:Operator):OpR X (binaryOp op) (gU' X.K op):=by
 cases op with
 |Add=>
  refine OpR.imp ((sc'.or iA').or (sz'.or (pF'.or mK'))) fun x y H Q q=>?_
  unfold gU' at q
  dsimp only at q
  split at q
  .exact .inl (.inl ⟨_,_,rfl,rfl,q⟩)
  .exact .inl (.inr ⟨_,_,rfl,rfl,q.1,q.2⟩)
  .exact .inr q
 |Sub=>exact sd'
 |Mult=>
  refine OpR.imp (pU'.or (iJ'.or sA')) fun x y H Q q=>?_
  unfold gU' at q
  dsimp only at q
  split at q
  .refine .inl ⟨_,_,rfl,rfl,?_,q.2⟩
   rcases q.1 with h|h|h
   .exact we'.ok (.inl h)
   .exact we'.ok (.inr h)
   .exact h
  .exact .inr (.inl ⟨_,_,rfl,rfl,q.1,q.2.1,q.2.2.1,q.2.2.2⟩)
  .exact .inr (.inr q)
 |Mod=>exact se'
 |FloorDiv=>
  refine OpR.imp (pw'.or my') fun x y H Q q=>?_
  obtain⟨i,j,h1,h2,⟨h3,h4⟩,q⟩:=q
  rcases h4 with h4|h4
  .exact .inl ⟨i,j,h1,h2,⟨h3,h4⟩,q⟩
  .exact .inr ⟨i,j,h1,h2,⟨h3,h4⟩,q⟩
 |Pow=>exact sf'
 |LShift=>exact qi'
 |RShift=>exact sg'
 |MatMult=>exact fun _ _ _ _ _ _ _ _ _ _ _ _ h=>h.elim
 |Div=>exact fun _ _ _ _ _ _ _ _ _ _ _ _ h=>h.elim
 |BitOr=>exact fun _ _ _ _ _ _ _ _ _ _ _ _ h=>h.elim
 |BitXor=>exact fun _ _ _ _ _ _ _ _ _ _ _ _ h=>h.elim
 |BitAnd=>exact pW'
theorem eK' (hu':X.A.units+64<cLine) (op:CmpOp):OpR X (compareOp op) (bu' X.K op):=by
 cases op with
 |Eq=>
  refine OpR.imp (wS'.or ((sR' (by omega)).or (tp' hu'))) fun x y H Q q=>?_
  unfold bu' at q
  dsimp only at q
  split at q
  .exact .inr q
  .exact .inl q
 |NotEq=>
  refine OpR.imp (wT'.or ((sS' (by omega)).or (tq' hu'))) fun x y H Q q=>?_
  unfold bu' at q
  dsimp only at q
  split at q
  .exact .inr q
  .exact .inl q
 |Lt=>exact wU'
 |LtE=>exact wV'
 |Gt=>
  refine OpR.imp (wW'.or tl') fun x y H Q q=>?_
  unfold bu' at q
  dsimp only at q
  split at q
  .exact .inr q
  .exact .inl q
 |GtE=>exact wX'
 |Is=>
  refine OpR.imp (sj'.or sU') fun x y H Q q=>?_
  unfold bu' at q
  dsimp only at q
  split at q
  .exact .inr q
  .exact .inl q
 |IsNot=>
  refine OpR.imp (px'.or jY') fun x y H Q q=>?_
  unfold bu' at q
  dsimp only at q
  split at q
  .exact .inr q
  .exact .inl q
 |In=>
  refine OpR.imp (sV'.or jE') fun x y H Q q=>?_
  unfold bu' at q
  dsimp only at q
  split at q
  .exact .inl q
  .exact .inr q
 |NotIn=>
  refine OpR.imp (jZ'.or fG') fun x y H Q q=>?_
  unfold bu' at q
  dsimp only at q
  split at q
  .exact .inl q
  .exact .inr q
theorem xS':SlR X (rSl X.K):=by
 intro pins s σ H x v vl vu lo hi sl Q I rx hs pl pu q
 refine(pH'.or (sr'.or (mN'.or sP'))) pins s σ H x v vl vu lo hi sl Q I rx hs pl pu ?_
 unfold rSl at q
 split at q
 .exact .inr (.inr (.inr ⟨_,rfl,q.1,q.2⟩))
 .rcases q with q|q|q
  .exact .inl q
  .exact .inr (.inl q)
  .exact .inr (.inr (.inl q))
inductive BltIs:Bf->Prop where
 |fn (f:Bf) (id:String) (hv:bootBuiltins (dX' f)=some (.builtin id)) (h:∀X:Cx,(X.calm=true\/f=.isinstance)->aP' X (.builtin id) (dm' X.K f)):BltIs f
 |ty (f:Bf) (T:String) (hv:bootBuiltins (dX' f)=some (.type T)) (h:∀X:Cx,(X.calm=true\/f=.isinstance)->aP' X (.type T) (dm' X.K f)):BltIs f
theorem tU' (f:Bf):BltIs f:=by
 cases f with
 |len=>exact .fn _ "len" (by decide +kernel) fun X _=>mi'
 |abs=>exact .fn _ "abs" (by decide +kernel) fun X _=>mh'
 |int=>
  refine .ty _ "int" (by decide +kernel) fun X _=>aP'.imp ku' fun xs H Q q=>?_
  unfold dm' at q
  dsimp only at q
  split at q
  .exact .inl (.inl (.inl ⟨_,rfl,q⟩))
  .exact .inl (.inl (.inr ⟨_,rfl,q⟩))
  .obtain⟨n,h1,h2,q⟩:=q
   exact .inl (.inr ⟨_,n,rfl,h1,h2,q⟩)
  .obtain⟨rfl,n,h1,q⟩:=q
   exact .inr ⟨_,n,rfl,h1,q⟩
  .exact q.elim
 |set=>exact .ty _ "set" (by decide +kernel) fun X c0=>have c:X.calm=true:=c0.resolve_right (fun z=>by cases z);j3' c
 |sortU=>exact .fn _ "sorted" (by decide +kernel) fun X c0=>have c:X.calm=true:=c0.resolve_right (fun z=>by cases z);iX' c
 |lenD=>exact .fn _ "len" (by decide +kernel) fun X _=>iW'
 |isinstance=>exact .fn _ "isinstance" (by decide +kernel) fun X _=>aP'.imp mv' fun _ _ _ q=>q.resolve_right id
 |all=>exact .fn _ "all" (by decide +kernel) fun X c0=>have c:X.calm=true:=c0.resolve_right (fun z=>by cases z);jV' c
 |min=>
  refine .fn _ "min" (by decide +kernel) fun X c0=>have c:X.calm=true:=c0.resolve_right (fun z=>by cases z);aP'.imp ((jw' c).or (jW' c)) fun xs H Q q=>?_
  unfold dm' at q
  dsimp only at q
  split at q
  .exact .inl ⟨_,_,rfl,q⟩
  .exact .inr q
 |list=>exact .ty _ "list" (by decide +kernel) fun X c0=>have c:X.calm=true:=c0.resolve_right (fun z=>by cases z);fH'.or (mx' c)
 |range=>exact .ty _ "range" (by decide +kernel) fun X _=>mw'
 |tuple=>exact .ty _ "tuple" (by decide +kernel) fun X _=>e0'
structure MetIs (m:Mf) (id:String):Prop where
 pa:PlainAttrs (f3' m)
 slot:Slot (f3' m) (kN' m) id
 ty:typeOf (.builtin id)=pure (.type "method_descriptor")
 h:∀X:Cx,MtR X id (oB' X.K m)
theorem tV' (m:Mf):∃id,MetIs m id:=by
 cases m with
 |append=>exact⟨_,F.plainAttrs_list,F.slot_list_append,F.type_list_append,fun _=>jG'⟩
 |reverse=>exact⟨_,F.plainAttrs_list,F.slot_list_reverse,F.type_list_reverse,fun _=>iE'⟩
 |join=>exact⟨_,F.plainAttrs_str,F.slot_str_join,F.type_str_join,fun _=>pT'⟩
end
theorem cD' {N:List Str} {sc scope:Scope} {own:List Nat} (h:ji' N sc scope own=true):scope.kind=.function/\(∀x∈scope.names,x.2=.local->scope.names.lookup x.1=some .local)/\(∀n,(n,NameKind.cell)∈scope.names->scope.names.lookup n=some .cell)/\
  (∀n,(n,NameKind.free)∈scope.names->sc.names.lookup n=some .cell\/sc.names.lookup n=some .free)/\∀(i:Nat) (x:Str),N[i]?=some x->(scope.names.lookup x=some .local\/scope.names.lookup x=some .cell)->i∈own:=by
 unfold ji' at h
 simp only[ag,decide_eq_true_eq,bM,aS]at h
 obtain⟨⟨hk,hn⟩,ho⟩:=h
 refine⟨hk,fun x hx e=>?_,fun n hn'=>?_,fun n hn'=>?_,fun i x e hx=>?_⟩
 .exact(hn x hx).1.1.resolve_left fun q=>q e
 .exact(hn _ hn').1.2.resolve_left fun q=>q rfl
 .rcases(hn _ hn').2 with(q|q)|q
  .exact absurd rfl q
  .exact .inl q
  .exact .inr q
 .have:=ho i (aJ.mpr (aG.mp e).1)
  rw[e]at this
  simp only[aS,ag,decide_eq_true_eq]at this
  rcases this with⟨q1,q2⟩|q
  .rcases hx with z|z
   .exact absurd z q1
   .exact absurd z q2
  .exact q
theorem Rok.compSc {C:Rc} {B:List Str} {X:Cx} {sc scope:Scope} {own:List Nat} (R:Rok C B X sc) (h:ji' C.N sc scope own=true):CompSc X scope:=by
 obtain⟨h1,h2,h3,h4,h5⟩:=cD' h
 refine⟨h1,h2,h3,fun n hn=>?_⟩
 rcases h4 n hn with q|q
 .exact .inl (R.cel n q).1
 .exact R.fre n q
theorem cZ' {B:List Str}:tld ("~" :: B)=true:=decide_eq_true (ay)
theorem Rok.comp {C:Rc} {B:List Str} {X:Cx} {sc scope:Scope} {own:List Nat} (R:Rok C B X sc) (hh:hat B=false) (h:ji' C.N sc scope own=true) (s0:Shared) (H0:Hp) (ex:List Addr):Rok C ("~" :: B) (X.comp scope s0 H0 ex) scope:=by
 refine⟨R.hN,R.nd,R.hK,PassesOwn.never,fun _=>R.calm hh,R.hu,R.gd,fun x e=>lookup_relabel_local e,fun x e=>⟨?_,?_⟩,fun x e=>?_,fun x e=>?_,fun x sp e _ ht=>?_,fun x hx=>?_,R.mrk,R.cls,(fun z=>by rw[cZ']at z;cases z),(fun z=>by rw[cZ']at z;cases z),(fun z=>by rw[cZ']at z;cases z)⟩
 .obtain⟨k',e1,e2⟩:=a3' (env:=X.env) e
  rcases e2 with rfl|⟨q,_⟩
  .exact e1
  .cases q
 .exact W.cellsFrom_some _ _ _ (.inl e)
 .obtain⟨k',e1,e2⟩:=a3' (env:=X.env) e
  rcases e2 with rfl|⟨_,rfl⟩
  .exact .inr e1
  .exact .inl e1
 .obtain⟨k',e1,e2⟩:=a3' (env:=X.env) e
  rcases e2 with rfl|⟨q,_⟩
  .exact e1
  .cases q
 .have hb:rR' x∉B:=fun z=>ht cZ' (aw _ z)
  obtain⟨f,fd,ps,k,CX,h1,h2,h3,h4,h5,h6,_⟩:=R.fn x sp e hh fun _=>hb
  rcases h6 with rfl|⟨_,z⟩
  .exact⟨f,fd,ps,k,CX0,h1,h2,h3,h4,h5,.inl rfl,oH'⟩
  .exact absurd z hb
 .rcases ak.mp hx with rfl|hx
  .exact R.mrk.1
  .exact R.blt x hx
mutual
theorem id' (C:Rc) (own:List Nat):∀(t:Ct),fk' own t=true->∀(x:V) (σ:L2.St) (H:Hp) (Q Q':L2.St->Hp->Prop),tG C t x σ H Q->(∀σ2 H2,Q σ2 H2->Ext own σ σ2->Q' σ2 H2)->tG C t x σ H Q'
 | .name i,h,x,σ,H,Q,Q',q,m=>by
  obtain⟨q1,q2⟩:=jN' (of_decide_eq_true (show decide (i∈own)=true from h)) x σ H Q q
  exact m _ _ q1 q2
 | .tup ts,h,x,σ,H,Q,Q',q,m=>by
  replace h:kP' own ts=true:=h
  obtain⟨a,xs,e,hs,hl,q⟩:=q
  exact⟨a,xs,e,hs,hl,gc' C own ts h xs σ H Q Q' q m⟩
 | .sub _ _,h,_,_,_,_,_,_,_=>aq' h
theorem gc' (C:Rc) (own:List Nat):∀(ts:Cts),kP' own ts=true->∀(xs:List V) (σ:L2.St) (H:Hp) (Q Q':L2.St->Hp->Prop),tGs C ts xs σ H Q->(∀σ2 H2,Q σ2 H2->Ext own σ σ2->Q' σ2 H2)->tGs C ts xs σ H Q'
 | .nil,h,xs,σ,H,Q,Q',q,m=>by
  replace q:xs=[]/\Q σ H:=q
  exact And.intro q.1 (m _ _ q.2 Ext.refl)
 | .cons t r,h,xs,σ,H,Q,Q',q,m=>by
  replace h:=f7' (show(fk' own t&&kP' own r)=true from h)
  replace q:∃v vr,xs=v :: vr/\tG C t v σ H fun σ' H'=>tGs C r vr σ' H' Q:=q
  obtain⟨v,vr,e,q⟩:=q
  show ∃v vr,xs=v :: vr/\tG C t v σ H fun σ' H'=>tGs C r vr σ' H' Q'
  exact⟨v,vr,e,id' C own t h.1 v σ H _ _ q fun σ2 H2 q2 x2=>gc' C own r h.2 vr σ2 H2 _ _ q2 fun σ3 H3 q3 x3=>m _ _ q3 (x2.trans x3)⟩
end
theorem bG' {C:Rc} {own:List Nat} {t:Ct} (h:fk' own t=true):rM' own (tG C t):=fun x σ H Q q=>id' C own t h x σ H Q _ q fun _ _ q x=>⟨q,x⟩
theorem cE':∀{ts:Cts} {es:List Expr} {N B:List Str} {sc:Scope} {env:Env},mTs N B sc ts es=true->(assignEach es env).length=mW' ts/\(assignEach es env).findIdx? (·.1)=none
 | .nil,es,N,B,sc,env,h=>by
  refine k4' h fun e0 g=>?_
  clear h
  subst e0
  revert g
  intro h
  exact⟨rfl,rfl⟩
 | .cons t r,es,N,B,sc,env,h=>by
  refine mY' h fun x xs e0 g=>?_
  clear h
  subst e0
  revert g
  intro h
  simp only[ag]at h
  obtain⟨h1,h2⟩:=cE' (env:=env) h.2
  have e:assignEach (x :: xs) env=(false,assign x env) :: assignEach xs env:=by
   have hs:=h.1.2
   cases x<;>first|rfl|cases hs
  rw[e]
  refine⟨by rw[aV,h1];rfl,?_⟩
  rw[List.findIdx?_cons,h2]
  rfl
theorem g2' {x:Expr} {xs:List Expr} {env:Env} (hs:aS' x=true):(assignEach (x :: xs) env).map (·.2)=assign x env :: (assignEach xs env).map (·.2):=by
 cases x<;>first|rfl|cases hs
theorem qj' {o i:Expr} {pos:Pos} {env:Env} (h:cW' i=true) (v:Value):assign (.Subscript o i pos) env v=(do
   let ov <- holding [v] (eval o env)
   let iv <- holding [v,ov] (eval i env)
   standAt pos
   holding [v,ov,iv] (setItem ov iv v)
   release [v,ov,iv] []):=by
 cases i<;>first|rfl|cases h
def m1' (C:Rc) (X:Cx) (e:Expr):Ce->Prop
 | .comp elt own t it q r=>∃tg iter ifs nx scope pos,CompIn X e scope tg iter ifs nx (tG C t) (tQo C q) (tR C r (dL' (tE C elt))) own/\PI X tg iter (tI C it)/\
   eval e X.env=comprehension e scope X.env pos (newList []) false (eval iter X.env)/\(∀u,evalThenUse e X.env u=(do let _ <- comprehension e scope X.env pos (newList []) false (eval iter X.env) (some u)))/\
   ∀y py line,∃b,swapsWith e (some (.Name y py)) line X.env=pure b
 |_=>True
theorem m2' (P w it D env ee tg iter ifs tg2 iter2 ifs2 scope pos):(model P w).den (.compLoop (.ListComp ee [⟨tg,iter,ifs,0⟩,⟨tg2,iter2,ifs2,0⟩] scope pos) 0 it (.ref D) env)=(aV' (.ListComp ee [⟨tg,iter,ifs,0⟩,⟨tg2,iter2,ifs2,0⟩] scope pos) 0 tg iter ifs (aO' (.ListComp ee [⟨tg,iter,ifs,0⟩,⟨tg2,iter2,ifs2,0⟩] scope pos) 0 iter2 (.ref D) env) it (.ref D) env).onRaise (fun x=>do noteFrame x env;theTreesLotGoes x):=by
 show(compTurn _ _ _ _ _).onRaise _=_
 congr 1
 unfold aV' aO'
 simp only[bind_assoc,pure_bind]
 rfl
def tW' (ke ve:Expr) (D:Addr) (env:Env):Sem Unit:=do
 let kv <- eval ke env
 let vv <- holding [kv] (eval ve env)
 match Value.ref D with
 | .ref d=>do
  standAt { ke.pos with endLine:=ve.pos.endLine,endCol:=ve.pos.endCol }
  holding [kv,vv] (dictSet d kv vv)
 |_=>unsupported "internal:dictcomp"
theorem zT' {N B:List Str} {sc:Scope} {elt:Ce} {own:List Nat} {t:Ct} {it:Ci} {q:Cqo} {e:Expr} (h:mE N B sc (.comp elt own t it q .nil) e=true):∃ee tg iter ifs scope pos,e=.ListComp ee [⟨tg,iter,ifs,0⟩] scope pos/\
  hat B=false/\ji' N sc scope own=true/\mE N ("~" :: B) scope elt ee=true/\fk' own t=true/\mI N B sc it iter=true/\f6' it tg=true/\aK' iter=true/\mT N ("~" :: B) scope t tg=true/\mQo N ("~" :: B) scope q ifs=true:=by
 refine xA' h fun ee tg iter ifs a scope w1 e0 g=>?_
 clear h
 subst e0
 revert g
 intro h
 simp only[ag,decide_eq_true_eq,bq]at h
 obtain⟨⟨⟨⟨⟨⟨⟨⟨⟨hh,hsc⟩,helt⟩,hown⟩,rfl⟩,h1⟩,h2⟩,h3⟩,h4⟩,h5⟩:=h
 exact⟨_,_,_,_,_,_,rfl,hh,hsc,helt,hown,h1,h2,h3,h4,h5⟩
theorem zU' {N B:List Str} {sc:Scope} {elt:Ce} {own:List Nat} {t:Ct} {it:Ci} {q:Cqo} {ws:List Nat} {t2:Ct} {it2:Ci} {q2:Cqo} {e:Expr} (h:mE N B sc (.comp elt own t it q (.cons ws t2 it2 q2 .nil)) e=true):
  ∃ee tg iter ifs tg2 iter2 ifs2 scope pos,e=.ListComp ee [⟨tg,iter,ifs,0⟩,⟨tg2,iter2,ifs2,0⟩] scope pos/\
  hat B=false/\ji' N sc scope own=true/\mE N ("~" :: B) scope elt ee=true/\fk' own t=true/\mI N B sc it iter=true/\f6' it tg=true/\aK' iter=true/\mT N ("~" :: B) scope t tg=true/\mQo N ("~" :: B) scope q ifs=true/\
  mI N ("~" :: B) scope it2 iter2=true/\f6' it2 tg2=true/\aK' iter2=true/\mT N ("~" :: B) scope t2 tg2=true/\mQo N ("~" :: B) scope q2 ifs2=true/\fk' ws t2=true/\∀j∈ws,j∈own:=by
 refine xB' h fun ee tg iter ifs a tg2 iter2 ifs2 a2 scope w1 e0 g=>?_
 clear h
 subst e0
 revert g
 intro h
 simp only[ag,decide_eq_true_eq,bM,bq]at h
 obtain⟨⟨⟨⟨⟨⟨⟨⟨⟨⟨⟨⟨⟨⟨⟨⟨⟨hh,hsc⟩,helt⟩,hown⟩,rfl⟩,h1⟩,h2⟩,h3⟩,h4⟩,h5⟩,rfl⟩,g1⟩,g2⟩,g3⟩,g4⟩,g5⟩,g6⟩,g7⟩:=h
 exact⟨_,_,_,_,_,_,_,_,_,rfl,hh,hsc,helt,hown,h1,h2,h3,h4,h5,g1,g2,g3,g4,g5,g6,g7⟩
theorem k7' (P w it D env ee tg iter ifs tg2 iter2 ifs2 tg3 iter3 ifs3 scope pos):(model P w).den (.compLoop (.ListComp ee [⟨tg,iter,ifs,0⟩,⟨tg2,iter2,ifs2,0⟩,⟨tg3,iter3,ifs3,0⟩] scope pos) 0 it (.ref D) env)=(aV' (.ListComp ee [⟨tg,iter,ifs,0⟩,⟨tg2,iter2,ifs2,0⟩,⟨tg3,iter3,ifs3,0⟩] scope pos) 0 tg iter ifs (aO' (.ListComp ee [⟨tg,iter,ifs,0⟩,⟨tg2,iter2,ifs2,0⟩,⟨tg3,iter3,ifs3,0⟩] scope pos) 0 iter2 (.ref D) env) it (.ref D) env).onRaise (fun x=>do noteFrame x env;theTreesLotGoes x):=by
 show(compTurn _ _ _ _ _).onRaise _=_
 congr 1
 unfold aV' aO'
 simp only[bind_assoc,pure_bind]
 rfl
theorem i4' (P w it D env ee tg iter ifs tg2 iter2 ifs2 tg3 iter3 ifs3 scope pos):(model P w).den (.compLoop (.ListComp ee [⟨tg,iter,ifs,0⟩,⟨tg2,iter2,ifs2,0⟩,⟨tg3,iter3,ifs3,0⟩] scope pos) 1 it (.ref D) env)=(aV' (.ListComp ee [⟨tg,iter,ifs,0⟩,⟨tg2,iter2,ifs2,0⟩,⟨tg3,iter3,ifs3,0⟩] scope pos) 1 tg2 iter2 ifs2 (aO' (.ListComp ee [⟨tg,iter,ifs,0⟩,⟨tg2,iter2,ifs2,0⟩,⟨tg3,iter3,ifs3,0⟩] scope pos) 1 iter3 (.ref D) env) it (.ref D) env).onRaise (fun x=>do noteFrame x env;theTreesLotGoes x):=by
 show(compTurn _ _ _ _ _).onRaise _=_
 congr 1
 unfold aV' aO'
 simp only[bind_assoc,pure_bind]
 rfl
theorem zV' {N B:List Str} {sc:Scope} {elt:Ce} {own:List Nat} {t:Ct} {it:Ci} {q:Cqo} {ws:List Nat} {t2:Ct} {it2:Ci} {q2:Cqo} {ws3:List Nat} {t3:Ct} {it3:Ci} {q3:Cqo} {e:Expr} (h:mE N B sc (.comp elt own t it q (.cons ws t2 it2 q2 (.cons ws3 t3 it3 q3 .nil))) e=true):
  ∃ee tg iter ifs tg2 iter2 ifs2 tg3 iter3 ifs3 scope pos,e=.ListComp ee [⟨tg,iter,ifs,0⟩,⟨tg2,iter2,ifs2,0⟩,⟨tg3,iter3,ifs3,0⟩] scope pos/\
  hat B=false/\ji' N sc scope own=true/\mE N ("~" :: B) scope elt ee=true/\fk' own t=true/\mI N B sc it iter=true/\f6' it tg=true/\aK' iter=true/\mT N ("~" :: B) scope t tg=true/\mQo N ("~" :: B) scope q ifs=true/\
  (mI N ("~" :: B) scope it2 iter2=true/\f6' it2 tg2=true/\aK' iter2=true/\mT N ("~" :: B) scope t2 tg2=true/\mQo N ("~" :: B) scope q2 ifs2=true/\fk' ws t2=true/\∀j∈ws,j∈own)/\
  mI N ("~" :: B) scope it3 iter3=true/\f6' it3 tg3=true/\aK' iter3=true/\mT N ("~" :: B) scope t3 tg3=true/\mQo N ("~" :: B) scope q3 ifs3=true/\fk' ws3 t3=true/\∀j∈ws3,j∈ws:=by
 refine xC' h fun ee tg iter ifs a tg2 iter2 ifs2 a2 tg3 iter3 ifs3 a3 scope w1 e0 g=>?_
 clear h
 subst e0
 revert g
 intro h
 simp only[ag,decide_eq_true_eq,bM,bq]at h
 obtain⟨⟨⟨⟨⟨⟨⟨⟨⟨⟨⟨⟨⟨⟨⟨⟨⟨⟨⟨⟨⟨⟨⟨⟨⟨hh,hsc⟩,helt⟩,hown⟩,rfl⟩,h1⟩,h2⟩,h3⟩,h4⟩,h5⟩,rfl⟩,g1⟩,g2⟩,g3⟩,g4⟩,g5⟩,g6⟩,g7⟩,rfl⟩,k1⟩,k2⟩,k3⟩,k4⟩,k5⟩,k6⟩,k7⟩:=h
 exact⟨_,_,_,_,_,_,_,_,_,_,_,_,rfl,hh,hsc,helt,hown,h1,h2,h3,h4,h5,⟨g1,g2,g3,g4,g5,g6,g7⟩,k1,k2,k3,k4,k5,k6,k7⟩
theorem zW' {N B:List Str} {sc:Scope} {elt:Ce} {own:List Nat} {t:Ct} {it:Ci} {q:Cqo} {ws:List Nat} {t2:Ct} {it2:Ci} {q2:Cqo} {ws3:List Nat} {t3:Ct} {it3:Ci} {q3:Cqo} {ws4:List Nat} {t4:Ct} {it4:Ci} {q4:Cqo} {r4:Cc} {e:Expr} (h:mE N B sc (.comp elt own t it q (.cons ws t2 it2 q2 (.cons ws3 t3 it3 q3 (.cons ws4 t4 it4 q4 r4)))) e=true):False:=by
 exact aq' h
set_option maxHeartbeats 4000000
theorem k8' (P w it D env ee tg iter ifs tg2 iter2 ifs2 scope pos):(model P w).den (.compLoop (.SetComp ee [⟨tg,iter,ifs,0⟩,⟨tg2,iter2,ifs2,0⟩] scope pos) 0 it (.ref D) env)=(aV' (.SetComp ee [⟨tg,iter,ifs,0⟩,⟨tg2,iter2,ifs2,0⟩] scope pos) 0 tg iter ifs (aO' (.SetComp ee [⟨tg,iter,ifs,0⟩,⟨tg2,iter2,ifs2,0⟩] scope pos) 0 iter2 (.ref D) env) it (.ref D) env).onRaise (fun x=>do noteFrame x env;theTreesLotGoes x):=by
 show(compTurn _ _ _ _ _).onRaise _=_
 congr 1
 unfold aV' aO'
 simp only[bind_assoc,pure_bind]
 rfl
mutual
theorem sE0 {C:Rc}:∀(c:Ce) {B:List Str} {X:Cx} {sc:Scope} {e:Expr},Rok C B X sc->mE C.N B sc c e=true->PE X e (tE C c)/\m1' C X e c
 | .var i,B,X,sc,e,R,h=>by
  refine⟨?_,trivial⟩
  refine xu' h fun x w1 e0 g=>?_
  clear h
  subst e0
  revert g
  intro h
  simp only[ag]at h
  obtain⟨h1,h2,h3⟩:=bM' h.1
  rw[show tE C (.var i)=(wb' i) from rfl]
  exact oc' (by rw[R.hN];exact h1) (R.vis h.2) h2 h3
 | .int n,B,X,sc,e,R,h=>by
  refine⟨?_,trivial⟩
  refine zN' h fun m w1 w2 e0 g=>?_
  clear h
  subst e0
  revert g
  intro h
  cases of_decide_eq_true h
  rw[show tE C (.int n)=(tC (.int n)) from rfl]
  exact rX'
 | .bl n,B,X,sc,e,R,h=>by
  refine⟨?_,trivial⟩
  refine zO' h fun c w1 w2 e0 g=>?_
  clear h
  subst e0
  revert g
  intro h
  cases of_decide_eq_true h
  rw[show tE C (.bl n)=(tC (.bl n)) from rfl]
  exact wC'
 | .non,B,X,sc,e,R,h=>by
  refine⟨?_,trivial⟩
  refine zP' h fun w1 w2 e0 g=>?_
  clear h
  subst e0
  revert g
  intro h
  rw[show tE C .non=(tC .non) from rfl]
  exact rY'
 | .str n,B,X,sc,e,R,h=>by
  refine⟨?_,trivial⟩
  refine zQ' h fun y w1 w2 e0 g=>?_
  clear h
  subst e0
  revert g
  intro h
  cases of_decide_eq_true h
  rw[show tE C (.str n)=(tC (.str n)) from rfl]
  exact rZ'
 | .ty n,B,X,sc,e,R,h=>by
  refine⟨?_,trivial⟩
  refine xu' h fun x w1 e0 g=>?_
  clear h
  subst e0
  revert g
  intro h
  simp only[ag,decide_eq_true_eq]at h
  obtain⟨⟨⟨rfl,h2⟩,h3⟩,h4⟩:=h
  rw[show tE C (.ty n)=(tC (.ty n)) from rfl]
  have hb:bootBuiltins (Str.ofString n)=some (.type n)/\Str.ofString n≠"__name__"/\(Str.ofString n == ("__debug__":Str))=false:=by
   simp only[f5',cD,ak,aq,or_false]at h3
   rcases h3 with rfl|rfl|rfl|rfl|rfl|rfl|rfl<;>decide +kernel
  exact ph' (v:=.ty n) (R.glb h2) (R.blt _ h4) hb.1 rfl hb.2.1 hb.2.2
 | .bin op a b,B,X,sc,e,R,h=>by
  refine⟨?_,trivial⟩
  refine zR' h fun ea op' eb w1 e0 g=>?_
  clear h
  subst e0
  revert g
  intro h
  simp only[ag,decide_eq_true_eq]at h
  obtain⟨⟨rfl,h1⟩,h2⟩:=h
  rw[show tE C (.bin op a b)=(tOp (gU' C.K op) (tE C a) (tE C b)) from rfl]
  rw[<- R.hK]
  exact wO' (tT' _) ((sE0 a R h1).1) ((sE0 b R h2).1)
 | .neg a,B,X,sc,e,R,h=>by
  refine⟨?_,trivial⟩
  refine zS' h fun ea w1 e0 g=>?_
  clear h
  subst e0
  revert g
  intro h
  rw[show tE C (.neg a)=(tUn (rU fun i=>.int (-i)) (tE C a)) from rfl]
  exact wP' si' ((sE0 a R h).1)
 | .not a,B,X,sc,e,R,h=>by
  refine⟨?_,trivial⟩
  refine zb' h fun ea w1 e0 g=>?_
  clear h
  subst e0
  revert g
  intro h
  rw[show tE C (.not a)=(pj' (tE C a)) from rfl]
  exact r5' ((sE0 a R h).1)
 | .and a b,B,X,sc,e,R,h=>by
  refine⟨?_,trivial⟩
  replace h:=kQ' h
  rcases h with⟨x,y,pos,rfl,h⟩|⟨x,y,z,r,pos,rfl,h⟩
  .simp only[ag]at h
   rw[show tE C (.and a b)=(l7' (tE C a) (tE C b)) from rfl]
   exact og' ((sE0 a R h.1).1) (jn' ((sE0 b R h.2).1))
  .simp only[ag]at h
   rw[show tE C (.and a b)=(l7' (tE C a) (tE C b)) from rfl]
   exact og' ((sE0 a R h.1).1) ((sE0 b R h.2).1)
 | .or a b,B,X,sc,e,R,h=>by
  refine⟨?_,trivial⟩
  replace h:=kR' h
  rcases h with⟨x,y,pos,rfl,h⟩|⟨x,y,z,r,pos,rfl,h⟩
  .simp only[ag]at h
   rw[show tE C (.or a b)=(wc' (tE C a) (tE C b)) from rfl]
   exact r4' ((sE0 a R h.1).1) (jn' ((sE0 b R h.2).1))
  .simp only[ag]at h
   rw[show tE C (.or a b)=(wc' (tE C a) (tE C b)) from rfl]
   exact r4' ((sE0 a R h.1).1) ((sE0 b R h.2).1)
 | .orv a b,B,X,sc,e,R,h=>by
  refine⟨?_,trivial⟩
  replace h:=kR' h
  rcases h with⟨x,y,pos,rfl,h⟩|⟨x,y,z,r,pos,rfl,h⟩
  .simp only[ag]at h
   rw[show tE C (.orv a b)=(wh' (tE C a) (tE C b)) from rfl]
   exact om' ((sE0 a R h.1).1) (jn' ((sE0 b R h.2).1))
  .simp only[ag]at h
   rw[show tE C (.orv a b)=(wh' (tE C a) (tE C b)) from rfl]
   exact om' ((sE0 a R h.1).1) ((sE0 b R h.2).1)
 | .cmp op a b,B,X,sc,e,R,h=>by
  refine⟨?_,trivial⟩
  refine wv' h fun ea op' eb w1 e0 g=>?_
  clear h
  subst e0
  revert g
  intro h
  simp only[ag,decide_eq_true_eq]at h
  obtain⟨⟨⟨rfl,h1⟩,h2⟩,h3⟩:=h
  rw[show tE C (.cmp op a b)=(tOp (bu' C.K op) (tE C a) (tE C b)) from rfl]
  rw[<- R.hK]
  exact py' (eK' R.hu _) ((sE0 a R h1).1) ((sE0 b R h2).1) (bU' h3)
 | .chn op1 op2 a b c,B,X,sc,e,R,h=>by
  refine⟨?_,trivial⟩
  refine tM' h fun ea o1 o2 eb ec w1 e0 g=>?_
  clear h
  subst e0
  revert g
  intro h
  simp only[ag,decide_eq_true_eq]at h
  obtain⟨⟨⟨⟨⟨rfl,rfl⟩,h1⟩,h2⟩,h3⟩,h4⟩:=h
  rw[show tE C (.chn op1 op2 a b c)=(di' (bu' C.K op1) (bu' C.K op2) (tE C a) (tE C b) (tE C c)) from rfl]
  rw[<- R.hK]
  exact md' (eK' R.hu _) (eK' R.hu _) ((sE0 a R h1).1) ((sE0 b R h2).1) ((sE0 c R h3).1) (k5' h4)
 | .ife q a b,B,X,sc,e,R,h=>by
  refine⟨?_,trivial⟩
  refine xv' h fun eq ea eb w1 e0 g=>?_
  clear h
  subst e0
  revert g
  intro h
  simp only[ag]at h
  rw[show tE C (.ife q a b)=(tIf (tQ C q) (tE C a) (tE C b)) from rfl]
  exact l8' (sQ q R h.1.1).1 ((sE0 a R h.1.2).1) ((sE0 b R h.2).1)
 | .tup es,B,X,sc,e,R,h=>by
  refine⟨?_,trivial⟩
  refine tN' h fun xs w1 w2 e0 g=>?_
  clear h
  subst e0
  revert g
  intro h
  rw[show tE C (.tup es)=(wY' (tA C es)) from rfl]
  exact sn' (sA es R h)
 | .lst es,B,X,sc,e,R,h=>by
  refine⟨?_,trivial⟩
  refine xw' h fun xs w1 e0 g=>?_
  clear h
  subst e0
  revert g
  intro h
  rw[show tE C (.lst es)=(wZ' (tA C es)) from rfl]
  exact so' (sA es R h)
 | .idx a b,B,X,sc,e,R,h=>by
  refine⟨?_,trivial⟩
  refine tO' h fun ea eb w1 e0 g=>?_
  clear h
  subst e0
  revert g
  intro h
  simp only[ag]at h
  rw[show tE C (.idx a b)=(tOp (mU' C.K) (tE C a) (tE C b)) from rfl]
  rw[<- R.hK]
  exact w1' ixM ((sE0 a R h.1.1).1) ((sE0 b R h.1.2).1) (mZ' h.2)
 | .cut a lo hi,B,X,sc,e,R,h=>by
  refine⟨?_,trivial⟩
  refine xx' h fun ea l h_ w1 w2 e0 g=>?_
  clear h
  subst e0
  revert g
  intro h
  simp only[ag]at h
  rw[show tE C (.cut a lo hi)=(tSl (rSl C.K) (tE C a) (tO C lo) (tO C hi)) from rfl]
  rw[<- R.hK]
  exact mn' xS' ((sE0 a R h.1.1).1) (sO lo R h.1.2) (sO hi R h.2)
 | .call f es,B,X,sc,e,R,h=>by
  refine⟨?_,trivial⟩
  refine tP' h fun x w1 e r pos e0 g=>?_
  clear h
  subst e0
  revert g
  intro h
  simp only[ag,decide_eq_true_eq,bq]at h
  obtain⟨⟨⟨⟨⟨rfl,h1⟩,h2⟩,h3⟩,hh⟩,h6⟩:=h
  rw[show tE C (.call x es)=(fun σ H Q=>match C.fs x with|some sp=>mj' sp [] (C.xk σ) (tA C es) σ H Q|none=>False) from rfl]
  have ht:tld B=true->rR' x∉B:=fun t m=>by rw[t,decide_eq_true m]at h6;cases h6
  cases hf:C.fs x with
  |none=>exact fun _ _ _ _ _ _ q=>q.elim
  |some sp=>
   obtain⟨f,fd,ps,k,CX,F,hr,hm,hk,hb,_,hx⟩:=R.fn x sp hf hh ht
   have hs:aS' e=true:=by
    cases es with
    |nil=>exact aq' h2
    |cons c r=>exact(f7' (f7' h2).1).2
   have hp:(backTo pos (starEach r X.env)).any (·.1)=false:=by
    have q:=fm' (env:=X.env) (pos:=pos) h2
    rw[an' hs]at q
    exact q
   exact m0' F hr (R.glb h1) hm hk hb .nil hx (sA es R h2) h3 (an' hs) hp
 | .blt f es,B,X,sc,e,R,h=>by
  refine⟨?_,trivial⟩
  refine tP' h fun x w1 e r pos e0 g=>?_
  clear h
  subst e0
  revert g
  intro h
  simp only[ag,decide_eq_true_eq,aS,bq]at h
  obtain⟨⟨⟨⟨rfl,h1⟩,h2⟩,h4⟩,h5⟩:=h
  have hcc:X.calm=true\/f=.isinstance:=h5.imp R.calm id
  rw[show tE C (.blt f es)=(tCB (dm' C.K f) (tA C es)) from rfl]
  have hs:aS' e=true:=by
   cases es with
   |nil=>exact aq' h2
   |cons c r=>exact(f7' (f7' h2).1).2
  have hp:(backTo pos (starEach r X.env)).any (·.1)=false:=by
   have q:=fm' (env:=X.env) (pos:=pos) h2
   rw[an' hs]at q
   exact q
  rw[<- R.hK]
  have hn:dX' f≠"__name__"/\(dX' f == ("__debug__":Str))=false:=by cases f<;>decide +kernel
  cases tU' f with
  |fn id hv hc=>exact ml' (hc X hcc) (R.glb h1) (R.blt _ h4) hv (sA es R h2) hn.1 hn.2 (an' hs) hp
  |ty T hv hc=>exact fD' (hc X hcc) (R.glb h1) (R.blt _ h4) hv (sA es R h2) hn.1 hn.2 (an' hs) hp
 | .dnt,B,X,sc,e,R,h=>by
  refine⟨?_,trivial⟩
  refine tQ' h fun w1 e0 g=>?_
  clear h
  subst e0
  revert g
  intro h
  rw[show tE C .dnt=(jK') from rfl];exact ms'
 | .dnn,B,X,sc,e,R,h=>by
  refine⟨?_,trivial⟩
  refine tQ' h fun w1 e0 g=>?_
  clear h
  subst e0
  revert g
  intro h
  rw[show tE C .dnn=(kj') from rfl];exact mF'
 | .din neg a b,B,X,sc,e,R,h=>by
  refine⟨?_,trivial⟩
  refine wv' h fun ea op' eb w1 e0 g=>?_
  clear h
  subst e0
  revert g
  intro h
  simp only[ag,decide_eq_true_eq]at h
  obtain⟨⟨⟨rfl,h1⟩,h2⟩,h3⟩:=h
  rw[show tE C (.din neg a b)=(mV' neg (tE C a) (tE C b)) from rfl]
  cases neg with
  |true=>exact od' (f0' R.hu1 (sE0 a R h1).1 (sE0 b R h2).1) (bU' h3)
  |false=>exact od' (ov' R.hu1 (sE0 a R h1).1 (sE0 b R h2).1) (bU' h3)
 | .dgt a b,B,X,sc,e,R,h=>by
  refine⟨?_,trivial⟩
  refine xz' h fun eo nm apos y pos e0 g=>?_
  clear h
  subst e0
  revert g
  intro h
  simp only[ag,decide_eq_true_eq]at h
  obtain⟨⟨⟨⟨⟨rfl,h1⟩,h2⟩,h3⟩,h4⟩,h5⟩:=h
  rw[show tE C (.dgt a b)=(kw' (tE C a) (tE C b)) from rfl]
  have e2:=an' (env:=X.env) (es:=[]) h5
  refine mM' R.hu1 (sE0 a R h1).1 (sE0 b R h4).1 ⟨g1' h2,?_,h3,?_⟩
  .rw[e2];rfl
  .rw[e2];rfl
 | .met m o es,B,X,sc,e,R,h=>by
  refine⟨?_,trivial⟩
  refine xy' h fun eo nm apos args pos e0 g=>?_
  clear h
  subst e0
  revert g
  intro h
  simp only[ag,decide_eq_true_eq]at h
  obtain⟨⟨⟨⟨⟨rfl,h1⟩,h2⟩,h3⟩,h4⟩,h5⟩:=h
  rw[show tE C (.met m o es)=(tBM C.K (f3' m) (oB' C.K m) (tE C o) (tA C es)) from rfl]
  rw[<- R.hK]
  obtain⟨id,M⟩:=tV' m
  cases args with
  |nil=>
   cases es with
   |cons c r=>exact aq' h4
   |nil=>
    exact sy' M.pa M.slot M.ty (M.h X) ((sE0 o R h1).1) (g1' h2) h3
  |cons a r=>
   have hs:aS' a=true:=by
    cases es with
    |nil=>exact aq' h4
    |cons c r=>exact(f7' (f7' h4).1).2
   have hq:=fm' (env:=X.env) (pos:=pos) h4
   have hp:(backTo pos (starEach r X.env)).any (·.1)=false:=by
    rw[an' hs]at hq
    exact hq
   refine w2' M.pa M.slot M.ty (M.h X) ((sE0 o R h1).1) (sA es R h4) (g1' h2) ?_ h3 (an' hs) hp
   have e1:(backTo pos (starEach (a :: r) X.env)).all (fun x=>!x.1)=true:=by
    rw[bM]
    intro x hx
    rw[List.any_eq_false]at hq
    simpa using hq x hx
   rw[e1]
   show(true&&true&&decide ((a :: r).length+0+0<30))=true
   simp only[Bool.true_and,decide_eq_true_eq]
   omega
 | .cal f a,B,X,sc,e,R,h=>by
  refine⟨?_,trivial⟩
  refine qf' h fun x w1 y w2 e0 g=>?_
  clear h
  subst e0
  revert g
  intro h
  simp only[ag,decide_eq_true_eq,bq]at h
  obtain⟨⟨⟨⟨⟨rfl,h1⟩,h2⟩,h3⟩,h4⟩,h5⟩:=h
  rw[show tE C (.cal f a)=(tCB (rYf f) (cb' (tE C a) hI')) from rfl]
  have e2:=an' (env:=X.env) (es:=[]) h4
  cases f with
  |dct=>exact fD' (kc' (R.calm h5) R.hu) (R.glb h1) (R.blt _ h2) (by decide +kernel) (cd' (sE0 a R h3).1 eB' e2) (by decide) (by decide) e2
 | .comp elt own t it q .nil,B,X,sc,e,R,h=>by
  have D:m1' C X e (.comp elt own t it q .nil):=by
   obtain⟨ee,tg,iter,ifs,scope,pos,rfl,hh,hsc,helt,hown,h1,h2,h3,h4,h5⟩:=zT' h
   refine⟨tg,iter,ifs,fun D env=>do let _ <- call (.builtin "list.append") [.ref D,<- eval ee env],scope,_,⟨R.compSc hsc,?_,⟨[],rfl⟩,aT' h3,R.calm hh,fun _ _ _=>⟨rfl,rfl⟩,fun _ _ _ _=>⟨rfl,rfl⟩,fun _ _ _ _ _=>rfl,fun _ _ _ _ _=>rfl,bG' hown,?_⟩,sI it R h1 h2,rfl,fun _=>rfl,fun _ _ _=>⟨_,rfl⟩⟩
   .rw[R.hN];exact(cD' hsc).2.2.2.2
   .intro s0 H0 ex D
    have R':=R.comp hh hsc s0 H0 ex
    refine⟨sG t R' h4,sQo q R' h5,[],by simp,?_⟩
    exact e7' rfl (sE0 elt R' helt).1
  refine⟨?_,D⟩
  obtain⟨tg,iter,ifs,nx,scope,pos,D,hi,he,_⟩:=D
  rw[show tE C (.comp elt own t it q .nil)=(gF' own (tI C it) (tG C t) (tQo C q) (tR C .nil (dL' (tE C elt)))) from rfl]
  exact gG' D hi he
 | .comp elt own t it q (.cons ws t2 it2 q2 .nil),B,X,sc,e,R,h=>by
  have D:m1' C X e (.comp elt own t it q (.cons ws t2 it2 q2 .nil)):=by
   obtain⟨ee,tg,iter,ifs,tg2,iter2,ifs2,scope,pos,rfl,hh,hsc,helt,hown,h1,h2,h3,h4,h5,g1,g2,g3,g4,g5,g6,g7⟩:=zU' h
   refine⟨tg,iter,ifs,fun D env=>aO' (.ListComp ee [⟨tg,iter,ifs,0⟩,⟨tg2,iter2,ifs2,0⟩] scope pos) 0 iter2 (.ref D) env,scope,_,⟨R.compSc hsc,?_,⟨_,rfl⟩,aT' h3,R.calm hh,fun _ _ _=>⟨rfl,rfl⟩,fun _ _ _ _=>⟨rfl,rfl⟩,fun _ _ _ _ _=>m2' _ _ _ _ _ _ _ _ _ _ _ _ _ _,fun _ _ _ _ _=>rfl,bG' hown,?_⟩,sI it R h1 h2,rfl,fun _=>rfl,fun _ _ _=>⟨_,rfl⟩⟩
   .rw[R.hN];exact(cD' hsc).2.2.2.2
   .intro s0 H0 ex D
    have R':=R.comp hh hsc s0 H0 ex
    refine⟨sG t R' h4,sQo q R' h5,ws,g7,?_⟩
    exact dr' (nx:=do let _ <- call (.builtin "list.append") [.ref D,<- eval ee (X.comp scope s0 H0 ex).env]) rfl (R.calm hh) (fun _=>rfl) (fun _=>rfl) (fun _=>rfl) (fun _=>rfl) (fun _=>rfl) (fun _=>rfl) ⟨_,rfl,rfl⟩ (aT' g3) (sI it2 R' g1 g2) (sG t2 R' g4) (bG' g6) (sQo q2 R' g5) (e7' rfl (sE0 elt R' helt).1) (by simp) cT'
  refine⟨?_,D⟩
  obtain⟨tg,iter,ifs,nx,scope,pos,D,hi,he,_⟩:=D
  rw[show tE C (.comp elt own t it q (.cons ws t2 it2 q2 .nil))=(gF' own (tI C it) (tG C t) (tQo C q) (tR C (.cons ws t2 it2 q2 .nil) (dL' (tE C elt)))) from rfl]
  exact gG' D hi he
 | .comp elt own t it q (.cons ws t2 it2 q2 (.cons ws3 t3 it3 q3 .nil)),B,X,sc,e,R,h=>by
  have D:m1' C X e (.comp elt own t it q (.cons ws t2 it2 q2 (.cons ws3 t3 it3 q3 .nil))):=by
   obtain⟨ee,tg,iter,ifs,tg2,iter2,ifs2,tg3,iter3,ifs3,scope,pos,rfl,hh,hsc,helt,hown,h1,h2,h3,h4,h5,⟨g1,g2,g3,g4,g5,g6,g7⟩,k1,k2,k3,k4,k5,k6,k7⟩:=zV' h
   refine⟨tg,iter,ifs,fun D env=>aO' (.ListComp ee [⟨tg,iter,ifs,0⟩,⟨tg2,iter2,ifs2,0⟩,⟨tg3,iter3,ifs3,0⟩] scope pos) 0 iter2 (.ref D) env,scope,_,⟨R.compSc hsc,?_,⟨_,rfl⟩,aT' h3,R.calm hh,fun _ _ _=>⟨rfl,rfl⟩,fun _ _ _ _=>⟨rfl,rfl⟩,fun _ _ _ _ _=>k7' _ _ _ _ _ _ _ _ _ _ _ _ _ _ _ _ _,fun _ _ _ _ _=>rfl,bG' hown,?_⟩,sI it R h1 h2,rfl,fun _=>rfl,fun _ _ _=>⟨_,rfl⟩⟩
   .rw[R.hN];exact(cD' hsc).2.2.2.2
   .intro s0 H0 ex D
    have R':=R.comp hh hsc s0 H0 ex
    refine⟨sG t R' h4,sQo q R' h5,ws,g7,?_⟩
    exact dr' (d:=0) (nx:=aO' (.ListComp ee [⟨tg,iter,ifs,0⟩,⟨tg2,iter2,ifs2,0⟩,⟨tg3,iter3,ifs3,0⟩] scope pos) 1 iter3 (.ref D) (X.comp scope s0 H0 ex).env) rfl (R.calm hh) (fun _=>rfl) (fun _=>rfl) (fun _=>rfl) (fun _=>rfl) (fun _=>i4' _ _ _ _ _ _ _ _ _ _ _ _ _ _ _ _ _) (fun _=>rfl) ⟨_,rfl,rfl⟩ (aT' g3) (sI it2 R' g1 g2) (sG t2 R' g4) (bG' g6) (sQo q2 R' g5)
     (dr' (d:=1) (nx:=do let _ <- call (.builtin "list.append") [.ref D,<- eval ee (X.comp scope s0 H0 ex).env]) rfl (R.calm hh) (fun _=>rfl) (fun _=>rfl) (fun _=>rfl) (fun _=>rfl) (fun _=>rfl) (fun _=>rfl) ⟨_,rfl,rfl⟩ (aT' k3) (sI it3 R' k1 k2) (sG t3 R' k4) (bG' k6) (sQo q3 R' k5) (e7' rfl (sE0 elt R' helt).1) (by simp) cT') k7 cT'
  refine⟨?_,D⟩
  obtain⟨tg,iter,ifs,nx,scope,pos,D,hi,he,_⟩:=D
  rw[show tE C (.comp elt own t it q (.cons ws t2 it2 q2 (.cons ws3 t3 it3 q3 .nil)))=(gF' own (tI C it) (tG C t) (tQo C q) (tR C (.cons ws t2 it2 q2 (.cons ws3 t3 it3 q3 .nil)) (dL' (tE C elt)))) from rfl]
  exact gG' D hi he
 | .comp elt own t it q (.cons ws t2 it2 q2 (.cons _ _ _ _ (.cons _ _ _ _ _))),B,X,sc,e,R,h=>(zW' h).elim
termination_by structural c=>c
theorem sA {C:Rc}:∀(es:Ces) {B:List Str} {X:Cx} {sc:Scope} {xs:List Expr},Rok C B X sc->mA C.N B sc es xs=true->PA X xs (tA C es)
 | .nil,B,X,sc,xs,R,h=>by
  refine k4' h fun e0 g=>?_
  clear h
  subst e0
  revert g
  intro h
  rw[show tA C .nil=(hI') from rfl]
  exact eB'
 | .cons e r,B,X,sc,xs,R,h=>by
  refine mY' h fun x xs e0 g=>?_
  clear h
  subst e0
  revert g
  intro h
  simp only[ag]at h
  rw[show tA C (.cons e r)=(cb' (tE C e) (tA C r)) from rfl]
  exact cd' ((sE0 e R h.1.1).1) (sA r R h.2) (an' h.1.2)
termination_by structural c=>c
theorem sQ {C:Rc}:∀(q:Cq) {B:List Str} {X:Cx} {sc:Scope} {e:Expr},Rok C B X sc->mQ C.N B sc q e=true->PT X e (tQ C q)/\((∃op vs pos,e=.BoolOp op vs pos)->PW X e (tQ C q))
 | .val c,B,X,sc,e,R,h=>by
  replace h:=f7' h
  refine⟨?_,fun⟨op,vs,pos,z⟩=>?_⟩
  .rw[show tQ C (.val c)=(fun σ H Q=>tE C c σ H fun x H'=>∃k,sk' C.K x H' k/\Q k H') from rfl]
   rw[<- R.hK]
   exact mf' (sE0 c R h.1).1 (k6' h.2)
  .subst z;exact aq' h.2
 | .din neg a b,B,X,sc,e,R,h=>by
  refine wv' h fun ea op' eb w1 e0 g=>?_
  clear h
  subst e0
  revert g
  intro h
  simp only[ag,decide_eq_true_eq]at h
  obtain⟨⟨⟨rfl,h1⟩,h2⟩,h3⟩:=h
  rw[show tQ C (.din neg a b)=(fy' (mV' neg (tE C a) (tE C b))) from rfl]
  cases neg with
  |true=>exact⟨oe' (f0' R.hu1 (sE0 a R h1).1 (sE0 b R h2).1) (bU' h3),fun⟨op,vs,pos,z⟩=>by cases z⟩
  |false=>exact⟨oe' (ov' R.hu1 (sE0 a R h1).1 (sE0 b R h2).1) (bU' h3),fun⟨op,vs,pos,z⟩=>by cases z⟩
 | .not q,B,X,sc,e,R,h=>by
  refine zb' h fun y w1 e0 g=>?_
  clear h
  subst e0
  revert g
  intro h
  rw[show tQ C (.not q)=(wD' (tQ C q)) from rfl]
  exact⟨r3' (sQ q R h).1,fun⟨op,vs,pos,z⟩=>by cases z⟩
 | .and a b,B,X,sc,e,R,h=>by
  replace h:=kQ' h
  rcases h with⟨x,y,pos,rfl,h⟩|⟨x,y,z,r,pos,rfl,h⟩
  .simp only[ag]at h
   rw[show tQ C (.and a b)=(r0' (tQ C a) (tQ C b)) from rfl]
   have w:PW X (.BoolOp .And [x,y] pos) (r0' (tQ C a) (tQ C b)):=of' (sQ a R h.1).1 (pi' (sQ b R h.2).1)
   exact⟨w.pt,fun _=>w⟩
  .simp only[ag]at h
   rw[show tQ C (.and a b)=(r0' (tQ C a) (tQ C b)) from rfl]
   have w:=of' (sQ a R h.1).1 ((sQ b R h.2).2 ⟨_,_,_,rfl⟩)
   exact⟨w.pt,fun _=>w⟩
 | .or a b,B,X,sc,e,R,h=>by
  replace h:=kR' h
  rcases h with⟨x,y,pos,rfl,h⟩|⟨x,y,z,r,pos,rfl,h⟩
  .simp only[ag]at h
   rw[show tQ C (.or a b)=(tOr (tQ C a) (tQ C b)) from rfl]
   have w:PW X (.BoolOp .Or [x,y] pos) (tOr (tQ C a) (tQ C b)):=r2' (sQ a R h.1).1 (r1' (sQ b R h.2).1)
   exact⟨w.pt,fun _=>w⟩
  .simp only[ag]at h
   rw[show tQ C (.or a b)=(tOr (tQ C a) (tQ C b)) from rfl]
   have w:=r2' (sQ a R h.1).1 ((sQ b R h.2).2 ⟨_,_,_,rfl⟩)
   exact⟨w.pt,fun _=>w⟩
 | .cmp op a b,B,X,sc,e,R,h=>by
  refine wv' h fun ea op' eb w1 e0 g=>?_
  clear h
  subst e0
  revert g
  intro h
  simp only[ag,decide_eq_true_eq]at h
  obtain⟨⟨⟨rfl,h1⟩,h2⟩,h3⟩:=h
  rw[show tQ C (.cmp op a b)=(fy' (tOp (bu' C.K op) (tE C a) (tE C b))) from rfl]
  rw[<- R.hK]
  exact⟨pz' (eK' R.hu _) (sE0 a R h1).1 (sE0 b R h2).1 (bU' h3),fun⟨op,vs,pos,z⟩=>by cases z⟩
 | .chn op1 op2 a b c,B,X,sc,e,R,h=>by
  refine tM' h fun ea o1 o2 eb ec w1 e0 g=>?_
  clear h
  subst e0
  revert g
  intro h
  simp only[ag,decide_eq_true_eq]at h
  obtain⟨⟨⟨⟨⟨rfl,rfl⟩,h1⟩,h2⟩,h3⟩,h4⟩:=h
  rw[show tQ C (.chn op1 op2 a b c)=(fy' (di' (bu' C.K op1) (bu' C.K op2) (tE C a) (tE C b) (tE C c))) from rfl]
  rw[<- R.hK]
  exact⟨me' (eK' R.hu _) (eK' R.hu _) (sE0 a R h1).1 (sE0 b R h2).1 (sE0 c R h3).1 (k5' h4),fun⟨op,vs,pos,z⟩=>by cases z⟩
termination_by structural c=>c
theorem sQo {C:Rc}:∀(q:Cqo) {B:List Str} {X:Cx} {sc:Scope} {es:List Expr},Rok C B X sc->mQo C.N B sc q es=true->PTs X es (tQo C q)
 | .none,B,X,sc,es,R,h=>by
  refine k4' h fun e0 g=>?_
  clear h
  subst e0
  revert g
  intro h
  rw[show tQo C .none=(fun _ H Q=>Q true H) from rfl];exact pN'
 | .some q,B,X,sc,es,R,h=>by
  refine xD' h fun e e0 g=>?_
  clear h
  subst e0
  revert g
  intro h
  rw[show tQo C (.some q)=(tQ C q) from rfl];exact pO' (sQ q R h).1
termination_by structural c=>c
theorem sO {C:Rc}:∀(o:Co) {B:List Str} {X:Cx} {sc:Scope} {e:Option Expr},Rok C B X sc->mO C.N B sc o e=true->PO X e (tO C o)
 | .none,B,X,sc,e,R,h=>by
  refine xE' h fun e0 g=>?_
  clear h
  subst e0
  revert g
  intro h
  rw[show tO C .none=(gz') from rfl];exact pD'
 | .some c,B,X,sc,e,R,h=>by
  refine xF' h fun y e0 g=>?_
  clear h
  subst e0
  revert g
  intro h
  rw[show tO C (.some c)=(pC' (tE C c)) from rfl];exact pE' (sE0 c R h).1
termination_by structural c=>c
theorem sI {C:Rc}:∀(i:Ci) {B:List Str} {X:Cx} {sc:Scope} {x tg:Expr},Rok C B X sc->mI C.N B sc i x=true->f6' i tg=true->PI X tg x (tI C i)
 | .val c,B,X,sc,x,tg,R,h,_=>by
  rw[show tI C (.val c)=(w5' C.K (tE C c)) from rfl]
  rw[<- R.hK]
  exact sK' (sE0 c R h).1
 | .range1 a,B,X,sc,x,tg,R,h,_=>by
  refine qf' h fun n w1 y w2 e0 g=>?_
  clear h
  subst e0
  revert g
  intro h
  simp only[ag,decide_eq_true_eq]at h
  obtain⟨⟨⟨⟨rfl,h1⟩,h2⟩,h3⟩,h4⟩:=h
  rw[show tI C (.range1 a)=(pt' (cb' (tE C a) hI')) from rfl]
  exact jr' (R.glb h1) (R.blt _ h2) (cd' (sE0 a R h3).1 eB' (an' h4)) (an' h4)
 | .range2 a b,B,X,sc,x,tg,R,h,_=>by
  refine tR' h fun n w1 y z w2 e0 g=>?_
  clear h
  subst e0
  revert g
  intro h
  simp only[ag,decide_eq_true_eq]at h
  obtain⟨⟨⟨⟨⟨⟨rfl,h1⟩,h2⟩,h3⟩,h4⟩,h5⟩,h6⟩:=h
  rw[show tI C (.range2 a b)=(pu' (cb' (tE C a) (cb' (tE C b) hI'))) from rfl]
  have e2:starEach [_] X.env=[(false,eval _ X.env)]:=an' (es:=[]) h6
  exact js' (R.glb h1) (R.blt _ h2) (cd' (sE0 a R h3).1 (cd' (sE0 b R h5).1 eB' (an' h6)) (an' h4)) (by rw[an' h4,e2]) e2
 | .zip a b,B,X,sc,x,tg,R,h,hz=>by
  refine tR' h fun n w1 y z w2 e0 g=>?_
  clear h
  subst e0
  revert g
  intro h
  simp only[ag,decide_eq_true_eq]at h
  obtain⟨⟨⟨⟨⟨⟨rfl,h1⟩,h2⟩,h3⟩,h4⟩,h5⟩,h6⟩:=h
  rw[show tI C (.zip a b)=(w6' C.K (cb' (tE C a) (cb' (tE C b) hI'))) from rfl]
  rw[<- R.hK]
  have e2:starEach [_] X.env=[(false,eval _ X.env)]:=an' (es:=[]) h6
  cases tg with
  |Tuple es k p=>exact sL' (R.glb h1) (R.blt _ h2) (cd' (sE0 a R h3).1 (cd' (sE0 b R h5).1 eB' (an' h6)) (an' h4)) (by rw[an' h4,e2]) e2
  |_=>cases hz
 | .enum a,B,X,sc,x,tg,R,h,hz=>by
  refine qf' h fun n w1 y w2 e0 g=>?_
  clear h
  subst e0
  revert g
  intro h
  simp only[ag,decide_eq_true_eq]at h
  obtain⟨⟨⟨⟨rfl,h1⟩,h2⟩,h3⟩,h4⟩:=h
  rw[show tI C (.enum a)=(pR' C.K (tE C a)) from rfl]
  rw[<- R.hK]
  cases tg with
  |Tuple es k p=>exact pS' (R.glb h1) (R.blt _ h2) (cd' (sE0 a R h3).1 eB' (an' h4)) (an' h4)
  |_=>cases hz
 | .dk c,B,X,sc,x,tg,R,h,_=>by
  rw[show tI C (.dk c)=(xp' (tE C c)) from rfl]
  exact tG' (sE0 c R h).1
termination_by structural c=>c
theorem sG {C:Rc}:∀(t:Ct) {B:List Str} {X:Cx} {sc:Scope} {e:Expr},Rok C B X sc->mT C.N B sc t e=true->PG X e (tG C t)
 | .name i,B,X,sc,e,R,h=>by
  refine xu' h fun x w1 e0 g=>?_
  clear h
  subst e0
  revert g
  intro h
  simp only[ag]at h
  obtain⟨h1,h2,h3⟩:=bM' h.1
  obtain⟨h4,h5⟩:=R.locb h.2
  rw[show tG C (.name i)=(cO' i) from rfl]
  exact pp' (by rw[R.hN];exact R.nd) (by rw[R.hN];exact h1) h4 h5
 | .tup ts,B,X,sc,e,R,h=>by
  refine tN' h fun es w1 w2 e0 g=>?_
  clear h
  subst e0
  revert g
  intro h
  rw[show tG C (.tup ts)=(xq' C.K (mW' ts) (tGs C ts)) from rfl]
  rw[<- R.hK]
  simp only[ag,bq]at h
  exact tH' (R.calm h.2) (sGs ts R h.1) (cE' h.1).1 (cE' h.1).2
 | .sub o i,B,X,sc,e,R,h=>by
  refine tO' h fun eo ei w1 e0 g=>?_
  clear h
  subst e0
  revert g
  intro h
  simp only[ag]at h
  rw[show tG C (.sub o i)=(wK' (tE C o) (tE C i) ee') from rfl]
  exact r8' (sE0 o R h.1.1).1 (sE0 i R h.1.2).1 mo' (qj' h.2)
termination_by structural c=>c
theorem sGs {C:Rc}:∀(ts:Cts) {B:List Str} {X:Cx} {sc:Scope} {es:List Expr},Rok C B X sc->mTs C.N B sc ts es=true->PGs X es (tGs C ts)
 | .nil,B,X,sc,es,R,h=>by
  refine k4' h fun e0 g=>?_
  clear h
  subst e0
  revert g
  intro h
  rw[show tGs C .nil=(wJ') from rfl];exact pr'
 | .cons t r,B,X,sc,es,R,h=>by
  refine mY' h fun x xs e0 g=>?_
  clear h
  subst e0
  revert g
  intro h
  simp only[ag]at h
  rw[show tGs C (.cons t r)=(pq' (tG C t) (tGs C r)) from rfl]
  exact ma' (sG t R h.1.1) (sGs r R h.2) (g2' h.1.2)
termination_by structural c=>c
end
theorem sE {C:Rc} {B:List Str} (c:Ce) {X:Cx} {sc:Scope} {e:Expr} (R:Rok C B X sc) (h:mE C.N B sc c e=true):PE X e (tE C c):=(sE0 c R h).1
end R3
set_option maxHeartbeats 4000000
namespace R3
open PySem PySem.Spec PyProof.Rows L2
def d0':Expr->Bool
 | .ListComp ..=>false
 | .SetComp ..=>false
 | .DictComp ..=>false
 |_=>true
theorem m3' {x tg:Expr} {l:Nat} {env:Env} (h:d0' x=true):swapsWithSole [tg] x l env=pure false:=by
 cases x<;>first|rfl|cases h
theorem i5' {x:Expr} {l:Nat} {env:Env} (h:d0' x=true):swapsWith x none l env=pure false:=by
 cases x<;>first|rfl|cases h
set_option tactic.hygienic true in
theorem k9' {N B:List Str} {sc:Scope} {c:Ce} {x:Expr} (h:mE N B sc c x=true) (hd:g0' c=false) (hx:d0' x=false):∃elt own t it q r,c=.comp elt own t it q r/\∃ee gens scope pos,x=.ListComp ee gens scope pos:=by
 cases x<;>first|(cases hx;done)|skip
 .cases c<;>first|(exact aq' h)|(cases hd;done)|exact⟨_,_,_,_,_,_,rfl,_,_,_,_,rfl⟩
 .cases c<;>first|(exact aq' h)|(cases hd;done)|(rename_i r;cases r<;>first|(exact aq' h)|(cases hd;done)|(rename_i r;cases r<;>first|(exact aq' h)|(cases hd;done)|(rename_i r;cases r<;>exact aq' h)))
 .cases c<;>first|(exact aq' h)|(cases hd;done)|(rename_i r;cases r<;>first|(exact aq' h)|(cases hd;done)|(rename_i r;cases r<;>first|(exact aq' h)|(cases hd;done)|(rename_i r;cases r<;>exact aq' h)))
theorem df' {tg:Expr} {env:Env} (h:aS' tg=true):(assignEach [tg] env).map (·.2)=[assign tg env]:=by
 cases tg<;>first|rfl|cases h
def qk':Expr->Expr->Bool
 | .Tuple ..,.Tuple ..=>false
 | .List ..,.Tuple ..=>false
 |_,_=>true
theorem eL' {tg x:Expr} {env:Env} (h:qk' tg x=true):swappedStores [tg] x env=pure none:=by
 cases tg<;>first|rfl|(cases x<;>first|rfl|cases h)
theorem gd' {tg:Expr} {vs:List Expr} {k:Nat} {pos:Pos} {env:Env} (h:vs.all (foldedForSure 8)=true):swappedStores [tg] (.Tuple vs k pos) env=pure none:=by
 have key:∀ts:List Expr,swappedStores [.Tuple ts 0 pos] (.Tuple vs k pos) env=pure none:=by
  intro ts
  unfold swappedStores
  dsimp only
  split
  .rfl
  .split
   .rfl
   .split
    .rfl
    .rfl
 cases tg<;>first|rfl|exact key _
theorem ql' {N B:List Str} {sc:Scope} {t:Ct} {a:List Expr} {p:Pos} (h:mT N B sc t (.List a p)=true):False:=by
 cases t<;>exact aq' h
section
variable {C:Rc} {B:List Str} {X:Cx} {sc:Scope}
theorem Rok.suite (R:Rok C B X sc) (e:Addr):Rok { C with xk:=fun _=>E0 } ("~" :: "^" :: B) (X.inX e) sc:=by
 have t1:tld ("~" :: "^" :: B)=true:=cZ'
 have t2:hat ("~" :: "^" :: B)=true:=decide_eq_true (aw _ ay)
 refine⟨R.hN,R.nd,R.hK,PassesOwn.never,(fun z=>by rw[t2]at z;cases z),R.hu,R.gd,R.loc,R.cel,R.fre,R.glo,(fun _ _ _ z=>by rw[t2]at z;cases z),fun x hx=>?_,R.mrk,R.cls,(fun z=>by rw[t1]at z;cases z),(fun z=>by rw[t1]at z;cases z),(fun z=>by rw[t1]at z;cases z)⟩
 rcases ak.mp hx with rfl|hx
 .exact R.mrk.1
 .rcases ak.mp hx with rfl|hx
  .exact R.mrk.2.1
  .exact R.blt x hx
end
set_option maxHeartbeats 4000000
mutual
theorem sS:∀(c:Cs) {C:Rc} {B:List Str} {X:Cx} {sc:Scope} {s:Stmt},Rok C B X sc->X.env.scope.kind=.function->mS C.N B sc c s=true->PS X s (tS C c)
 | .expr e,C,B,X,sc,s,R,hk,h=>by
  refine xG' h fun x w1 e0 g=>?_
  clear h
  subst e0
  revert g
  intro h
  obtain⟨hc,hd⟩:=f7' h
  clear h
  obtain⟨hc,hm⟩:=f7' hc
  replace hd:g0' e=false:=by cases z:g0' e with
   |false=>rfl
   |true=>rw[z]at hd;exact aq' hd
  rw[show tS C (.expr e)=(pn' (tE C e)) from rfl]
  refine po' (sE e R hc) (i5' ?_)
  cases hx:d0' x with
  |true=>rfl
  |false=>
   obtain⟨elt,own,t,it,q,r,rfl,_⟩:=k9' hc hd hx
   exact aq' hm
 | .ret e,C,B,X,sc,s,R,hk,h=>by
  refine xH' h fun x w1 e0 g=>?_
  clear h
  subst e0
  revert g
  intro h
  rw[show tS C (.ret e)=(wF' (tE C e)) from rfl]
  exact r6' (sE e R h)
 | .asg t e,C,B,X,sc,s,R,hk,h=>by
  refine xI' h fun tg x pos e0 g=>?_
  clear h
  subst e0
  revert g
  intro h
  obtain⟨h,h4⟩:=f7' h
  obtain⟨h,h3⟩:=f7' h
  obtain⟨h,h2⟩:=f7' h
  obtain⟨h1,h0⟩:=f7' h
  replace h0:g0' e=false:=by cases z:g0' e with
   |false=>rfl
   |true=>rw[z]at h0;exact aq' h0
  rw[show tS C (.asg t e)=(jh' (tE C e) (tG C t)) from rfl]
  have hw:swappedStores [tg] x X.env=pure none:=by
   cases tg with
   |Tuple a b c=>cases x<;>first|exact eL' rfl|exact gd' h4|exact aq' h4
   |List a b=>exact(ql' h2).elim
   |_=>exact eL' rfl
  cases hx:d0' x with
  |true=>exact hG' (sE e R h1) (sG t R h2) (m3' hx) hw (df' h3)
  |false=>
   obtain⟨elt,own,t',it,q,r,rfl,ee,gens,scope,p2,rfl⟩:=k9' h1 h0 hx
   have D:=(sE0 _ R h1).2
   obtain⟨tg',iter,ifs,nx,scope',pos',D,hi,he,hu,hsw⟩:=D
   cases t with
   |name i=>
    cases tg with
    |Name y py=>
     obtain⟨b,hb⟩:=hsw y py pos.line
     cases b with
     |true=>
      replace h2:=f7' h2
      obtain⟨g1,g2,g3⟩:=bM' h2.1
      obtain⟨g4,g5⟩:=R.locb h2.2
      exact iI' D hi (by rw[R.hN];exact R.nd) (by rw[R.hN];exact g1) g4 g5 (hu _) hb
     |false=>exact hG' (sE _ R h1) (sG _ R h2) hb hw (df' h3)
    |_=>exact aq' h2
   |tup ts=>
    cases tg with
    |Tuple a b c=>exact aq' h4
    |_=>exact aq' h2
   |sub o i=>
    cases tg with
    |Subscript a b c=>exact hG' (sE _ R h1) (sG _ R h2) rfl hw (df' h3)
    |_=>exact aq' h2
 | .setc2 i elt own t it q ws t2 it2 q2,C,B,X,sc,s,R,hk,h=>by
  refine xJ' h fun y py ee tg iter ifs a tg2 iter2 ifs2 a2 scope p2 pos e0 g=>?_
  clear h
  subst e0
  revert g
  intro h
  simp only[ag,decide_eq_true_eq,bq,bM]at h
  obtain⟨⟨⟨⟨⟨⟨⟨⟨⟨⟨⟨⟨⟨⟨⟨⟨⟨⟨hh,hnm⟩,hsc⟩,helt⟩,hown⟩,rfl⟩,h1⟩,h2⟩,h3⟩,h4⟩,h5⟩,rfl⟩,f1⟩,f2⟩,f3⟩,f4⟩,f5⟩,f6⟩,f7⟩:=h
  have hnm':=hnm
  replace hnm:=f7' hnm
  obtain⟨g1,g2,g3⟩:=bM' hnm.1
  obtain⟨g4,g5⟩:=R.locb hnm.2
  rw[show tS C (.setc2 i elt own t it q ws t2 it2 q2)=(jh' (tt' own (tI C it) (tG C t) (tQo C q) (gE' (tI C it2) (aY' ws (tG C t2) (tQo C q2) (fQ' (tE C elt))))) (cO' i)) from rfl]
  refine p7' (nx:=fun D env=>aO' (.SetComp ee [⟨tg,iter,ifs,0⟩,⟨tg2,iter2,ifs2,0⟩] scope p2) 0 iter2 (.ref D) env) pX' (fun _=>rfl) mA' fb' p6' ⟨R.compSc hsc,?_,⟨_,rfl⟩,aT' h3,R.calm hh,fun _ _ _=>⟨rfl,rfl⟩,fun _ _ _ _=>⟨rfl,rfl⟩,fun _ _ _ _ _=>k8' _ _ _ _ _ _ _ _ _ _ _ _ _ _,fun _ _ _ _ _=>rfl,bG' hown,?_⟩ (sI it R h1 h2) (by rw[R.hN];exact R.nd) (by rw[R.hN];exact g1) g4 g5 (sG (.name i) R hnm') rfl rfl ⟨_,rfl⟩
  .rw[R.hN];exact(cD' hsc).2.2.2.2
  .intro s0 H0 ex D
   have R':=R.comp hh hsc s0 H0 ex
   refine⟨sG t R' h4,sQo q R' h5,ws,f7,?_⟩
   exact dr' (nx:=do let v <- eval ee (X.comp scope s0 H0 ex).env;standAt ee.pos;let _ <- call (.builtin "set.add") [.ref D,v]) rfl (R.calm hh) (fun _=>rfl) (fun _=>rfl) (fun _=>rfl) (fun _=>rfl) (fun _=>rfl) (fun _=>rfl) ⟨_,rfl,rfl⟩ (aT' f3) (sI it2 R' f1 f2) (sG t2 R' f4) (bG' f6) (sQo q2 R' f5) (j4' rfl (sE elt R' helt)) (by simp) fb'
 | .dctc tup i k v own t it q,C,B,X,sc,s,R,hk,h=>by
  refine xK' h fun y py ke ve tg iter ifs a scope p2 pos e0 g=>?_
  clear h
  subst e0
  revert g
  intro h
  simp only[ag,decide_eq_true_eq,bq]at h
  obtain⟨⟨⟨⟨⟨⟨⟨⟨⟨⟨⟨hh,hnm⟩,hsc⟩,hke⟩,hve⟩,hown⟩,rfl⟩,h1⟩,h2⟩,h3⟩,h4⟩,h5⟩:=h
  have hnm':=hnm
  replace hnm:=f7' hnm
  obtain⟨g1,g2,g3⟩:=bM' hnm.1
  obtain⟨g4,g5⟩:=R.locb hnm.2
  rw[show tS C (.dctc tup i k v own t it q)=(if tup then jh' (tv' own (tI C it) (tG C t) (tQo C q) (tE C k) (tE C v)) (cO' i)else jh' (tu' own (tI C it) (tG C t) (tQo C q) (tE C k) (tE C v)) (cO' i)) from rfl]
  cases tup with
  |false=>
   refine p7' (Is:=s0' X.prog X.w) (nx:=fun D env=>tW' ke ve D env) hO' (fun _=>rfl) j5' fT' s1' ⟨R.compSc hsc,?_,⟨[],rfl⟩,aT' h3,R.calm hh,fun _ _ _=>⟨rfl,rfl⟩,fun _ _ _ _=>⟨rfl,rfl⟩,fun _ _ _ _ _=>rfl,fun _ _ _ _ _=>rfl,bG' hown,?_⟩ (sI it R h1 h2) (by rw[R.hN];exact R.nd) (by rw[R.hN];exact g1) g4 g5 (sG (.name i) R hnm') rfl rfl ⟨_,rfl⟩
   .rw[R.hN];exact(cD' hsc).2.2.2.2
   .intro s0 H0 ex D
    have R':=R.comp hh hsc s0 H0 ex
    exact⟨sG t R' h4,sQo q R' h5,[],by simp,j6' rfl (sE k R' hke) (sE v R' hve)⟩
  |true=>
   refine p7' (Is:=s7' X.prog X.w) (nx:=fun D env=>tW' ke ve D env) hO' (fun _=>rfl) j7' fU' s9' ⟨R.compSc hsc,?_,⟨[],rfl⟩,aT' h3,R.calm hh,fun _ _ _=>⟨rfl,rfl⟩,fun _ _ _ _=>⟨rfl,rfl⟩,fun _ _ _ _ _=>rfl,fun _ _ _ _ _=>rfl,bG' hown,?_⟩ (sI it R h1 h2) (by rw[R.hN];exact R.nd) (by rw[R.hN];exact g1) g4 g5 (sG (.name i) R hnm') rfl rfl ⟨_,rfl⟩
   .rw[R.hN];exact(cD' hsc).2.2.2.2
   .intro s0 H0 ex D
    have R':=R.comp hh hsc s0 H0 ex
    exact⟨sG t R' h4,sQo q R' h5,[],by simp,j8' R'.hu1 rfl (sE k R' hke) (sE v R' hve)⟩
 | .dput o i e,C,B,X,sc,s,R,hk,h=>by
  refine xL' h fun eo ei w1 ee w2 e0 g=>?_
  clear h
  subst e0
  revert g
  intro h
  simp only[ag]at h
  obtain⟨⟨⟨⟨h1,h2⟩,h3⟩,h4⟩,h5⟩:=h
  rw[show tS C (.dput o i e)=(kl' (tE C o) (tE C i) (tE C e)) from rfl]
  refine mG' R.hu1 (sE o R h1) (sE i R h2) (sE e R h4) ?_
  cases ee<;>first|rfl|cases h5
 | .aug i sub e,C,B,X,sc,s,R,hk,h=>by
  refine xM' h fun x w1 op ee w2 e0 g=>?_
  clear h
  subst e0
  revert g
  intro h
  simp only[ag,decide_eq_true_eq]at h
  obtain⟨⟨⟨h1,h2⟩,h3⟩,rfl⟩:=h
  obtain⟨g1,g2,g3⟩:=bM' h1
  obtain⟨g4,g5⟩:=R.locb h2
  rw[show tS C (.aug i sub e)=(wL' i (tE C e) (ipI fun i j=>if sub then i-j else i+j)) from rfl]
  cases sub with
  |true=>exact oh' (by rw[R.hN];exact R.nd) (by rw[R.hN];exact g1) g4 (sE e R h3) sa' g5
  |false=>exact oh' (by rw[R.hN];exact R.nd) (by rw[R.hN];exact g1) g4 (sE e R h3) r9' g5
 | .ite q a b,C,B,X,sc,s,R,hk,h=>by
  refine xN' h fun x ss rs w1 e0 g=>?_
  clear h
  subst e0
  revert g
  intro h
  simp only[ag]at h
  rw[show tS C (.ite q a b)=(wG' (tQ C q) (tSs C a) (tSs C b)) from rfl]
  exact wH' (sQ q R h.1.1).1 (sSs a R hk h.1.2) (sSs b R hk h.2)
 | .whl q b,C,B,X,sc,s,R,hk,h=>by
  refine xO' h fun x ss w1 e0 g=>?_
  clear h
  subst e0
  revert g
  intro h
  simp only[ag]at h
  rw[show tS C (.whl q b)=(jo' (tQ C q) (tSs C b)) from rfl]
  exact mb' R.own (sQ q R h.1).1 (sSs b R hk h.2)
 | .for_ t it b,C,B,X,sc,s,R,hk,h=>by
  refine xP' h fun tg iter ss w1 e0 g=>?_
  clear h
  subst e0
  revert g
  intro h
  simp only[ag,bq]at h
  obtain⟨⟨⟨⟨⟨h1,h2⟩,h3⟩,h4⟩,h5⟩,hh⟩:=h
  rw[show tS C (.for_ t it b)=(wM' (tI C it) (tG C t) (tSs C b)) from rfl]
  exact sb' R.own (R.calm hh) (sI it R h1 h2) (sG t R h4) (sSs b R hk h5) (aT' h3)
theorem sSs:∀(c:Css) {C:Rc} {B:List Str} {X:Cx} {sc:Scope} {ss:List Stmt},Rok C B X sc->X.env.scope.kind=.function->mSs C.N B sc c ss=true->PSs X ss (tSs C c)
 | .nil,C,B,X,sc,ss,R,hk,h=>by
  refine xQ' h fun e0 g=>?_
  clear h
  subst e0
  revert g
  intro h
  rw[show tSs C .nil=(pl') from rfl];exact pm'
 | .cons c r,C,B,X,sc,ss,R,hk,h=>by
  refine xR' h fun x xs e0 g=>?_
  clear h
  subst e0
  revert g
  intro h
  simp only[ag]at h
  rw[show tSs C (.cons c r)=(wE' (tS C c) (tSs C r)) from rfl]
  exact l9' (sS c R hk h.1) (sSs r R hk h.2)
end
section
variable {P:Program} {w:World} {K:W.Frag} {mg:Str->Option Value} {base:Heap}
structure Ask (P:Program) (w:World) (K:W.Frag) (mg:Str->Option Value) (base:Heap) (k:Nat) (C:Rc):Prop where
 fs:∀y sp',C.fs y=some sp'->∃f' fd' ps',(FnOk P w K mg base CX0 k f' fd' ps' sp'\/FnOk P w K mg base (CX1 P w mg) k f' fd' ps' sp'/\rR' y∈C.B)/\mg y=some (.ref f')/\W.keepIn K (.ref f')=true/\ed' K fd' ps' []
 B:∀y∈C.B,mg y=none
 mrk:mg "~"=none/\mg "^"=none/\mg "%"=none
 cl:∀c Ca,C.cl c=some Ca->mg c=some (.ref Ca)/\W.nsIn K mainGlobals c=some (some (.ref Ca))
 nt:tld C.B=false
 nh:hat C.B=false
theorem qm' {x qual:Str} {st:Stmt} {f:Addr} {fd:FuncData} {ps:List Str} {k:Nat} {sp:Sp} (F:Fun K x qual st f fd) (C:Rc) (S:FnScope C.N ps (ab' st)) (hK:C.K=K) (code:Css) (hm:mSs C.N C.B (ab' st) code (am' st)=true)
  (len:∀vs H Q E,sp vs H Q E->vs.length=ps.length) (ask:Ask P w K mg base k C) (hxk:C.xk=fun _=>E0)
  (hbody:∀vs H Q E,sp vs H Q E->tSs C code { nx:=fun _ H'=>Q .non H',rt:=Q } (aQ' C.N vs) H):FnOk P w K mg base CX0 (k+1) f fd ps sp:=by
 obtain⟨oc,od,kV,doc,pm,an,cdv,ct,osl,rfl,lk,hcd⟩:=F.ex
 refine w0' lk hcd S len fun A outer s H vs Q E hr h=>⟨_,(show PSs (rL' CX0 P w K mg base C.N qual (ab' st) f cdv A outer s H E).nox (am' st) (tSs C code) from sSs code (sc:=ab' st) (B:=C.B) ?_ S.kind hm).nox,hbody vs H Q E h⟩
 refine⟨rfl,S.nd,hK.symm,PassesOwn.never,fun _=>rfl,hr.units,hr.gd,fun _ e=>e,fun _ e=>⟨e,rfl⟩,fun _ e=>.inr e,fun _ e=>e,fun y sp' e _ _=>?_,ask.B,ask.mrk,ask.cl,fun _=>⟨rfl,fun _=>rfl,rfl,rfl,sW' hcd⟩,fun _=>ask.nh,fun _ _ nm Ca pins σ H s e t _ _ _ _ _ _ z=>?_⟩
 .obtain⟨f',fd',ps',h1,h2,h3,h4⟩:=ask.fs y sp' e
  rcases h1 with h1|⟨h1,hb⟩
  .exact⟨f',fd',ps',k,CX0,h1,hr,h2,h3,h4,.inl rfl,oH'⟩
  .refine⟨f',fd',ps',k,_,h1,hr,h2,h3,h4,.inr ⟨rfl,hb⟩,?_⟩
   rintro pins σ H s e s' I ⟨ea,T,Ca,nm,H',_,_,_,_,_,_,_,_,_,_,_,z⟩
   rw[hxk]at z
   exact z.elim
 .rw[hxk]at z
  exact z.elim
end
def m4' (a:Addr) (k:Nat) (h:Heap):Prop:=∃(x y z:Int) (t1 t2 t3:Tok) (n:Nat),h.get? a=some { cls:=.type "list",data:=.seq #[.int x t1,.int y t2,.int z t3] n }/\0<=x/\0<=y/\y<2 ^ 62/\0<=z/\z<=k
def fn' (a:Addr) (k:Nat):HO:=.ext (m4' a k)
def ge' (x y z:Int):HO:=.lst [.int x,.int y,.int z]
theorem tX' {a:Addr} {n k:Nat} (e:fn' a n=fn' a k):n<=k:=by
 have e1:m4' a n=m4' a k:=HO.ext.inj e
 let o:Obj:={ cls:=.type "list",data:=.seq #[.int 0 0,.int 0 0,.int n 0] 0 }
 let h0:Heap:={ (default:Heap)with objs:=Array.replicate a default }
 have hs:h0.objs.size=a:=Array.size_replicate
 have g:(h0.push o).get? a=some o:=by
  have:=am h0 (o:=o) rfl
  rw[hs]at this
  exact this
 have q:m4' a n (h0.push o):=⟨0,0,n,0,0,0,0,g,by omega,by omega,by decide,by omega,by omega⟩
 rw[e1]at q
 obtain⟨x,y,z,t1,t2,t3,m,g2,_,_,_,_,hz⟩:=q
 rw[g]at g2
 have g3:=Option.some.inj g2
 have g4:(#[.int 0 0,.int 0 0,.int n 0]:Array Value)=#[.int x t1,.int y t2,.int z t3]:=by
  have:o.data=_:=congrArg Obj.data g3
  injection this
 have g6:=congrArg Array.toList g4
 simp only[List.cons.injEq,Value.int.injEq]at g6
 have g5:(n:Int)=z:=g6.2.2.1.1
 omega
theorem la' {P:Program} {w:World} {H:Hp} {h:Heap} {b:Addr} {x y z:Int} {k:Nat} (hok:HOk P w H h) (e:H b=some (ge' x y z)) (hx:0<=x) (hy:0<=y) (hy2:y<2 ^ 62) (hz:0<=z) (hk:z<=k):HOk P w (upd H b (fn' b k)) h:=by
 intro c o ec
 by_cases hc:c=b
 .subst hc
  rw[aa']at ec
  cases ec
  obtain⟨_,its,n,rv,g⟩:=(show av' P w H h c (.lst _) from hok c _ e)
  cases rv with
  |cons r1 r=>
   cases r with
   |cons r2 r=>
    cases r with
    |cons r3 r=>
     cases r
     obtain⟨t1,rfl⟩:=r1
     obtain⟨t2,rfl⟩:=r2
     obtain⟨t3,rfl⟩:=r3
     refine⟨⟨x,y,z,t1,t2,t3,n,g,hx,hy,hy2,hz,hk⟩,⟨_,g⟩,fun h1 h2 q kk=>?_⟩
     obtain⟨x,y,z,t1,t2,t3,n,g,r⟩:=q
     exact⟨x,y,z,t1,t2,t3,n,kk _ g,r⟩
 .rw[ad' hc]at ec
  have ne:∀d u,H d=some u->(∀xs,u≠.lst xs)->d≠b:=fun d u q nu z=>by subst z;rw[e]at q;cases q;exact nu _ rfl
  exact(hok c o ec).stay (fun _ _ _ q=>q) (fun d q=>by rw[ad' (ne d _ q fun _ z=>by cases z)];exact q) fun d xs q=>by rw[ad' (ne d _ q fun _ z=>by cases z)];exact q
theorem m5' {P:Program} {w:World} {H:Hp} {h:Heap} {b:Addr} {k:Nat} (hok:HOk P w H h) (e:H b=some (fn' b k)):∃x y z:Int,0<=x/\0<=y/\y<2 ^ 62/\0<=z/\z<=k/\HOk P w (upd H b (ge' x y z)) h:=by
 obtain⟨⟨x,y,z,t1,t2,t3,n,g,hx,hy,hy2,hz,hk⟩,_,_⟩:=(show av' P w H h b (.ext _) from hok b _ e)
 refine⟨x,y,z,hx,hy,hy2,hz,hk,fun c o ec=>?_⟩
 by_cases hc:c=b
 .subst hc
  rw[aa']at ec
  cases ec
  exact⟨by show 3<=sizeLine;decide,[.int x t1,.int y t2,.int z t3],n,.cons ⟨_,rfl⟩ (.cons ⟨_,rfl⟩ (.cons ⟨_,rfl⟩ .nil)),g⟩
 .rw[ad' hc]at ec
  have ne:∀d u,H d=some u->(∀φ,u≠.ext φ)->d≠b:=fun d u q nu z=>by subst z;rw[e]at q;cases q;exact nu _ rfl
  exact(hok c o ec).stay (fun _ _ _ q=>q) (fun d q=>by rw[ad' (ne d _ q fun _ z=>by cases z)];exact q) fun d xs q=>by rw[ad' (ne d _ q fun _ z=>by cases z)];exact q
theorem m6' {fs ex:List Addr} {H H':Hp} {h h':Heap} {b:Addr} {xs:List V} {o:HO} (u:Un fs ex H H' h h') (e:H' b=some (.lst xs)):Un fs ex H (upd H' b o) h h' where
 keep:=u.keep
 slot:=u.slot
 free:=fun c ob q n hx=>by
  have z:=u.free c ob q n hx
  rw[ad' (fun z2=>by subst z2;rw[e]at z;cases z)]
  exact z
 there:=u.there
 tups:=fun c ys q=>by
  have z:=u.tups c ys q
  rw[ad' (fun z2=>by subst z2;rw[e]at z;cases z)]
  exact z
 frzs:=fun c ob ys q=>by
  have z:=u.frzs c ob ys q
  rw[ad' (fun z2=>by subst z2;rw[e]at z;cases z)]
  exact z
 tbls:=fun c ps q=>by
  obtain⟨m,z⟩:=u.tbls c ps q
  exact⟨m,by rw[ad' (fun z2=>by subst z2;rw[e]at z;cases z)];exact z⟩
theorem qn' {fs ex:List Addr} {H H':Hp} {h h':Heap} {b:Addr} {φ:Heap->Prop} {o:HO} (u:Un fs ex (upd H b o) H' h h') (e:H b=some (.ext φ)):Un fs ex H H' h h':=by
 have ne:∀c,H c=none->c≠b:=fun c n z=>by subst z;rw[e]at n;cases n
 have ne2:∀c v,H c=some v->(∀ψ,v≠.ext ψ)->c≠b:=fun c v q nv z=>by subst z;rw[e]at q;cases q;exact nv _ rfl
 exact⟨fun c ob q n=>u.keep c ob q (by rw[ad' (ne c n)];exact n),fun c ob q n=>u.slot c ob q (by rw[ad' (ne c n)];exact n),fun c ob q n=>u.free c ob q (by rw[ad' (ne c n)];exact n),u.there,
  fun c ys q=>u.tups c ys (by rw[ad' (ne2 c _ q fun _ z=>by cases z)];exact q),fun c ob ys q=>u.frzs c ob ys (by rw[ad' (ne2 c _ q fun _ z=>by cases z)];exact q),fun c ps q=>u.tbls c ps (by rw[ad' (ne2 c _ q fun _ z=>by cases z)];exact q)⟩
section
variable {P:Program} {w:World} {K:W.Frag} {mg:Str->Option Value} {base:Heap} {k:Nat} {f:Addr} {fd:FuncData} {ps:List Str} {sp sp':Sp}
def zc' (Q:VK) (v:V) (H:Hp):Prop:=∃b x y z m,H b=some (ge' x y z)/\0<=x/\0<=y/\y<2 ^ 62/\0<=z/\z<=((m:Nat):Int)/\Q v (upd H b (fn' b m))
theorem lb' (F:FnOk P w K mg base CX0 k f fd ps sp) (h:∀vs H Q E,sp' vs H Q E->sp vs H (zc' Q) E):FnOk P w K mg base CX0 k f fd ps sp':=by
 refine⟨fun vs H Q E q=>F.len vs H _ E (h _ _ _ _ q),fun A outer s H args us vs Q E hr e0 hb hv hs=>?_⟩
 refine codeAny_mono (F.run A outer s H args us vs _ E hr e0 hb hv (h _ _ _ _ hs)) fun r s' hq=>?_
 cases r with
 |error e=>exact hq
 |ok fl=>
  cases fl with
  |next=>exact hq
  |brk=>exact hq
  |cont=>exact hq
  |ret u=>
   obtain⟨v,H',os,bare,un,hok,rv,b,x,y,z,m,eb,hx,hy,hy2,hz,hm,q⟩:=hq
   exact⟨v,_,os,bare,m6' un eb,la' hok eb hx hy hy2 hz hm,rv,q⟩
theorem qo' (F:FnOk P w K mg base CX0 k f fd ps sp) (h:∀vs H Q E,sp' vs H Q E->∃b n,H b=some (fn' b n)/\∀x y z,0<=x->0<=y->y<2 ^ 62->0<=z->z<=((n:Nat):Int)->sp vs (upd H b (ge' x y z)) Q E) (len:∀vs H Q E,sp' vs H Q E->vs.length=ps.length):FnOk P w K mg base CX0 k f fd ps sp':=by
 refine⟨len,fun A outer s H args us vs Q E hr e0 hb hv hs=>?_⟩
 obtain⟨b,n,eb,hsp⟩:=h _ _ _ _ hs
 obtain⟨x,y,z,hx,hy,hy2,hz,hn,hok⟩:=m5' e0.hok eb
 have ne:∀c,H c=none->c≠b:=fun c n z=>by subst z;rw[eb]at n;cases n
 have e1:Env0 P w K mg base A outer s (upd H b (ge' x y z)):=⟨e0.frames,e0.mod,fun c o e=>⟨(e0.bs c o e).1,by rw[ad' (ne c (e0.bs c o e).2)];exact(e0.bs c o e).2⟩,e0.bsz,e0.funs,fun c hc=>by rw[ad' (ne c (e0.frf c hc))];exact e0.frf c hc,hok,e0.bare⟩
 refine codeAny_mono (F.run A outer s _ args us vs Q E hr e1 hb hv (hsp x y z hx hy hy2 hz hn)) fun r s' hq=>?_
 cases r with
 |error e=>exact hq
 |ok fl=>
  cases fl with
  |next=>exact hq
  |brk=>exact hq
  |cont=>exact hq
  |ret u=>
   obtain⟨v,H',os,bare,un,hok,rv,q⟩:=hq
   exact⟨v,H',os,bare,qn' un eb,hok,rv,q⟩
end
structure Go (c:Nat) (H H':Hp):Prop where
 box:∀a n,H a=some (fn' a n)->∃m,m<=n+c/\H' a=some (fn' a m)
 oth:∀a o,H a=some o->(∀φ,o≠.ext φ)->H' a=some o
 free:∀a,H' a=none->H a=none
theorem Go.of_same {c:Nat} {H H':Hp} (h:aw' H H'):Go c H H':=⟨fun a n e=>⟨n,by omega,h a _ e⟩,fun a o e _=>h a o e,fun a e=>h.free e⟩
theorem Go.refl {c:Nat} {H:Hp}:Go c H H:=.of_same (aw'.refl H)
theorem Go.trans {c d:Nat} {H H1 H2:Hp} (a:Go c H H1) (b:Go d H1 H2):Go (c+d) H H2:=⟨fun p n e=>by
  obtain⟨m,hm,e1⟩:=a.box p n e
  obtain⟨m',hm',e2⟩:=b.box p m e1
  exact⟨m',by omega,e2⟩,fun p o e no=>b.oth p o (a.oth p o e no) no,fun p e=>a.free p (b.free p e)⟩
theorem Go.mono {c d:Nat} {H H1:Hp} (a:Go c H H1) (h:c<=d):Go d H H1:=⟨fun p n e=>by
  obtain⟨m,hm,e1⟩:=a.box p n e
  exact⟨m,by omega,e1⟩,a.oth,a.free⟩
theorem Go.lst {c:Nat} {H H1:Hp} (a:Go c H H1) {p:Addr} {xs:List V} (e:H p=some (.lst xs)):H1 p=some (.lst xs):=a.oth p _ e fun _ z=>by cases z
theorem Go.seq {c:Nat} {K:W.Frag} {H H1:Hp} (g:Go c H H1) {a:Addr} {xs:List V} (h:SqL K H a xs):SqL K H1 a xs:=by
 rcases h with(h|⟨o,h⟩)|h
 .exact .inl (.inl (g.lst h))
 .exact .inl (.inr ⟨o,g.oth _ _ h fun _ z=>by cases z⟩)
 .exact .inr h
theorem Go.new {c:Nat} {H:Hp} {p:Addr} (h:H p=none) (o:HO):Go c H (upd H p o):=.of_same fun b u q=>by rw[ad' (aj' q h)];exact q
theorem Go.draw {H:Hp} {b:Addr} {n m:Nat} (e:H b=some (fn' b n)) (h:m<=n+1) (o:HO):Go 1 H (upd (upd H b o) b (fn' b m)):=by
 rw[gx']
 refine⟨fun p k q=>?_,fun p u q no=>?_,fun p q=>?_⟩
 .by_cases hp:p=b
  .subst hp
   rw[e]at q
   have:=tX' (Option.some.inj q)
   exact⟨m,by omega,aa'⟩
  .exact⟨k,by omega,by rw[ad' hp];exact q⟩
 .rw[ad']
  .exact q
  .intro z
   subst z
   rw[e]at q
   cases q
   exact no _ rfl
 .by_cases hp:p=b
  .subst hp
   rw[aa']at q
   cases q
  .rw[ad' hp]at q
   exact q
section
variable {C:Rc} {σ:L2.St} {H:Hp} {Q:VK} {D:Ends} {Qb:Bool->Hp->Prop}
def kV (o:Option (Option V)) (H:Hp) (Q:VK):Prop:=∃v,o=some (some v)/\Q v H
theorem qp' {v:V}:kV (some (some v)) H Q=Q v H:=propext ⟨fun⟨u,e,q⟩=>by cases e;exact q,fun q=>⟨v,rfl,q⟩⟩
theorem tY' {i:Nat}:tE C (.var i) σ H Q=kV σ[i]? H Q:=rfl
theorem lc' {n:Int}:tE C (.int n) σ H Q=Q (.int n) H:=rfl
theorem xT' {b:Bool}:tE C (.bl b) σ H Q=Q (.bl b) H:=rfl
theorem tZ':tE C .non σ H Q=Q .non H:=rfl
theorem t0' {x:Str}:tE C (.str x) σ H Q=Q (.str x) H:=rfl
theorem xU' {x:String}:tE C (.ty x) σ H Q=Q (.ty x) H:=rfl
def kB1 (C:Rc) (σ:L2.St) (op:Operator) (b:Ce) (Q:VK):VK:=fun x H=>tE C b σ H fun y H2=>gU' C.K op x y H2 Q
def kB2 (C:Rc) (op:Operator) (x:V) (Q:VK):VK:=fun y H=>gU' C.K op x y H Q
theorem t1' {op:Operator} {a b:Ce}:tE C (.bin op a b) σ H Q=tE C a σ H (kB1 C σ op b Q):=rfl
theorem t2' {op:Operator} {b:Ce} {x:V}:kB1 C σ op b Q x H=tE C b σ H (kB2 C op x Q):=rfl
theorem t3' {op:Operator} {x y:V}:kB2 C op x Q y H=gU' C.K op x y H Q:=rfl
def kC1 (C:Rc) (σ:L2.St) (op:CmpOp) (b:Ce) (Q:VK):VK:=fun x H=>tE C b σ H fun y H2=>bu' C.K op x y H2 Q
def kC2 (C:Rc) (op:CmpOp) (x:V) (Q:VK):VK:=fun y H=>bu' C.K op x y H Q
theorem t4' {op:CmpOp} {a b:Ce}:tE C (.cmp op a b) σ H Q=tE C a σ H (kC1 C σ op b Q):=rfl
theorem t5' {op:CmpOp} {b:Ce} {x:V}:kC1 C σ op b Q x H=tE C b σ H (kC2 C op x Q):=rfl
theorem t6' {op:CmpOp} {x y:V}:kC2 C op x Q y H=bu' C.K op x y H Q:=rfl
def kI1 (C:Rc) (σ:L2.St) (b:Ce) (Q:VK):VK:=fun x H=>tE C b σ H fun y H2=>mU' C.K x y H2 Q
def kI2 (C:Rc) (x:V) (Q:VK):VK:=fun y H=>mU' C.K x y H Q
theorem t7' {a b:Ce}:tE C (.idx a b) σ H Q=tE C a σ H (kI1 C σ b Q):=rfl
theorem t8' {b:Ce} {x:V}:kI1 C σ b Q x H=tE C b σ H (kI2 C x Q):=rfl
theorem t9' {x y:V}:kI2 C x Q y H=mU' C.K x y H Q:=rfl
def zd' (Q:VK):VK:=fun x H=>rU (fun i=>.int (-i)) x H Q
theorem ua' {a:Ce}:tE C (.neg a) σ H Q=tE C a σ H (zd' Q):=rfl
theorem m7' {i:Int}:zd' Q (.int i) H=Q (.int (-i)) H:=propext ⟨fun⟨u,e,q⟩=>by cases e;exact q,fun q=>⟨i,rfl,q⟩⟩
def kT (Qb:Bool->Hp->Prop):VK:=fun x H=>∃k,x=.bl k/\Qb k H
theorem xV' {k:Bool}:kT Qb (.bl k) H=Qb k H:=propext ⟨fun⟨u,e,q⟩=>by cases e;exact q,fun q=>⟨k,rfl,q⟩⟩
theorem ub' {op:CmpOp} {a b:Ce}:tQ C (.cmp op a b) σ H Qb=tE C a σ H (kC1 C σ op b (kT Qb)):=rfl
def uc' (Qb:Bool->Hp->Prop):Bool->Hp->Prop:=fun c H=>Qb (!c) H
theorem ud' {q:Cq}:tQ C (.not q) σ H Qb=tQ C q σ H (uc' Qb):=rfl
theorem m8' {c:Bool}:uc' Qb c H=Qb (!c) H:=rfl
def qq' (C:Rc) (σ:L2.St) (b:Cq) (Qb:Bool->Hp->Prop):Bool->Hp->Prop:=fun c H=>if c=true then tQ C b σ H Qb else Qb false H
def xW' (C:Rc) (σ:L2.St) (b:Cq) (Qb:Bool->Hp->Prop):Bool->Hp->Prop:=fun c H=>if c=true then Qb true H else tQ C b σ H Qb
theorem ue' {a b:Cq}:tQ C (.and a b) σ H Qb=tQ C a σ H (qq' C σ b Qb):=rfl
theorem xX' {a b:Cq}:tQ C (.or a b) σ H Qb=tQ C a σ H (xW' C σ b Qb):=rfl
theorem qr' {b:Cq}:qq' C σ b Qb true H=tQ C b σ H Qb:=rfl
theorem qs' {b:Cq}:qq' C σ b Qb false H=Qb false H:=rfl
theorem uf' {b:Cq}:xW' C σ b Qb true H=Qb true H:=rfl
theorem ug' {b:Cq}:xW' C σ b Qb false H=tQ C b σ H Qb:=rfl
variable {K:W.Frag} {i j:Int} {x y:Str}
theorem xY':gU' K .Add (.int i) (.int j) H Q=Q (.int (i+j)) H:=rfl
theorem xZ':gU' K .Sub (.int i) (.int j) H Q=Q (.int (i-j)) H:=propext ⟨fun⟨_,_,e,e',q⟩=>by cases e;cases e';exact q,fun q=>⟨_,_,rfl,rfl,q⟩⟩
theorem x0':gU' K .Mult (.int i) (.int j) H Q=(tJ' i j/\Q (.int (i*j)) H):=rfl
theorem uh':gU' K .Mult (.str x) (.int j) H Q=(-1000000<=j/\j<=1000000/\x.length*j.toNat<=1000000/\Q (.str (Txt.mul x j)) H):=rfl
theorem x1':gU' K .Mod (.int i) (.int j) H Q=(0<j/\Q (.int (i % j)) H):=propext ⟨fun⟨_,_,e,e',c,q⟩=>by cases e;cases e';exact⟨c,q⟩,fun q=>⟨_,_,rfl,rfl,q.1,q.2⟩⟩
theorem x2':gU' K .FloorDiv (.int i) (.int j) H Q=(tI' i j/\Q (.int (i / j)) H):=propext ⟨fun⟨_,_,e,e',c,q⟩=>by cases e;cases e';exact⟨c,q⟩,fun q=>⟨_,_,rfl,rfl,q.1,q.2⟩⟩
theorem x3':gU' K .Pow (.int i) (.int j) H Q=(wR' i j/\Q (.int (i ^ j.toNat)) H):=propext ⟨fun⟨_,_,e,e',c,q⟩=>by cases e;cases e';exact⟨c,q⟩,fun q=>⟨_,_,rfl,rfl,q.1,q.2⟩⟩
theorem zX':bu' K .Lt (.int i) (.int j) H Q=Q (.bl (decide (i<j))) H:=propext ⟨fun⟨_,_,e,e',q⟩=>by cases e;cases e';exact q,fun q=>⟨_,_,rfl,rfl,q⟩⟩
theorem zY':bu' K .LtE (.int i) (.int j) H Q=Q (.bl (decide (i<=j))) H:=propext ⟨fun⟨_,_,e,e',q⟩=>by cases e;cases e';exact q,fun q=>⟨_,_,rfl,rfl,q⟩⟩
theorem zZ':bu' K .Gt (.int i) (.int j) H Q=Q (.bl (decide (j<i))) H:=propext ⟨fun⟨_,_,e,e',q⟩=>by cases e;cases e';exact q,fun q=>⟨_,_,rfl,rfl,q⟩⟩
theorem z0':bu' K .GtE (.int i) (.int j) H Q=Q (.bl (decide (j<=i))) H:=propext ⟨fun⟨_,_,e,e',q⟩=>by cases e;cases e';exact q,fun q=>⟨_,_,rfl,rfl,q⟩⟩
theorem z1':bu' K .Eq (.int i) (.int j) H Q=Q (.bl (decide (i=j))) H:=by
 have e:decide (V.int i=V.int j)=decide (i=j):=by simp
 exact propext ⟨fun q=>e ▸ q.2,fun q=>⟨rfl,e.symm ▸ q⟩⟩
theorem x4':bu' K .Eq (.str x) (.str y) H Q=Q (.bl (decide (x=y))) H:=by
 have e:decide (V.str x=V.str y)=decide (x=y):=by simp
 exact propext ⟨fun q=>e ▸ q.2,fun q=>⟨rfl,e.symm ▸ q⟩⟩
theorem ui' {a:Addr}:mU' K (.ref a) (.int i) H Q=(gB' K (.ref a) (.int i) H Q\/hJ' K (.ref a) (.int i) H Q):=rfl
def rS' (C:Rc) (r:Css) (D:Ends):Ends:={ D with nx:=tSs C r D }
theorem uj':tSs C .nil D σ H=D.nx σ H:=rfl
theorem g3' {s:Cs} {r:Css}:tSs C (.cons s r) D σ H=tS C s (rS' C r D) σ H:=rfl
theorem ie' {r:Css}:(rS' C r D).nx σ H=tSs C r D σ H:=rfl
theorem uk' {r:Css}:(rS' C r D).rt=D.rt:=rfl
theorem ul' {r:Css}:(rS' C r D).bk=D.bk:=rfl
theorem um' {r:Css}:(rS' C r D).ct=D.ct:=rfl
theorem un' {e:Ce}:tS C (.ret e) D σ H=tE C e σ H D.rt:=rfl
def uo' (D:Ends) (σ:L2.St):VK:=fun _ H=>D.nx σ H
theorem up' {e:Ce}:tS C (.expr e) D σ H=tE C e σ H (uo' D σ):=rfl
theorem m9' {v:V}:uo' D σ v H=D.nx σ H:=rfl
def ze' (i:Nat) (D:Ends) (σ:L2.St):VK:=fun x H=>D.nx (σ.set i (some x)) H
theorem x5' {i:Nat} {e:Ce}:tS C (.asg (.name i) e) D σ H=tE C e σ H (ze' i D σ):=rfl
theorem qt' {i:Nat} {v:V}:ze' i D σ v H=D.nx (σ.set i (some v)) H:=rfl
def uq' (C:Rc) (o i:Ce) (D:Ends) (σ:L2.St):VK:=fun v H=>tE C o σ H fun p H1=>tE C i σ H1 fun k H2=>ee' p k v H2 fun H3=>D.nx σ H3
def ur' (C:Rc) (i:Ce) (v:V) (D:Ends) (σ:L2.St):VK:=fun p H1=>tE C i σ H1 fun k H2=>ee' p k v H2 fun H3=>D.nx σ H3
def us' (p v:V) (D:Ends) (σ:L2.St):VK:=fun k H2=>ee' p k v H2 fun H3=>D.nx σ H3
theorem x6' {o i e:Ce}:tS C (.asg (.sub o i) e) D σ H=tE C e σ H (uq' C o i D σ):=rfl
theorem na' {o i:Ce} {v:V}:uq' C o i D σ v H=tE C o σ H (ur' C i v D σ):=rfl
theorem nb' {i:Ce} {v p:V}:ur' C i v D σ p H=tE C i σ H (us' p v D σ):=rfl
theorem nc' {v p k:V}:us' p v D σ k H=ee' p k v H (D.nx σ):=rfl
def kIf (C:Rc) (a b:Css) (D:Ends) (σ:L2.St):Bool->Hp->Prop:=fun c H=>if c=true then tSs C a D σ H else tSs C b D σ H
theorem z2' {q:Cq} {a b:Css}:tS C (.ite q a b) D σ H=tQ C q σ H (kIf C a b D σ):=rfl
theorem x7' {a b:Css}:kIf C a b D σ true H=tSs C a D σ H:=rfl
theorem x9' {a b:Css}:kIf C a b D σ false H=tSs C b D σ H:=rfl
theorem bs' {p:Prop} [Decidable p] {F:Bool->Hp->Prop} (h1:p->F true H) (h2:¬p->F false H):F (decide p) H:=by
 by_cases h:p
 .rw[decide_eq_true h];exact h1 h
 .rw[decide_eq_false h];exact h2 h
end
section
variable {C:Rc} {σ:L2.St} {H:Hp} {Q:VK} {D:Ends} {Qb:Bool->Hp->Prop} {Qs:List V->Hp->Prop}
def kA1 (C:Rc) (σ:L2.St) (r:Ces) (Qs:List V->Hp->Prop):VK:=fun x H=>tA C r σ H fun xs H2=>Qs (x :: xs) H2
def kA2 (x:V) (Qs:List V->Hp->Prop):List V->Hp->Prop:=fun xs H=>Qs (x :: xs) H
theorem ya':tA C .nil σ H Qs=Qs [] H:=rfl
theorem ut' {e:Ce} {r:Ces}:tA C (.cons e r) σ H Qs=tE C e σ H (kA1 C σ r Qs):=rfl
theorem uu' {r:Ces} {x:V}:kA1 C σ r Qs x H=tA C r σ H (kA2 x Qs):=rfl
theorem uv' {x:V} {xs:List V}:kA2 x Qs xs H=Qs (x :: xs) H:=rfl
def ww' (Q:VK):List V->Hp->Prop:=fun xs H=>xs.length<=sizeLine/\∀p,H p=none->Q (.ref p) (upd H p (.tup xs))
def zf' (Q:VK):List V->Hp->Prop:=fun xs H=>xs.length<=sizeLine/\∀p,H p=none->Q (.ref p) (upd H p (.lst xs))
theorem uw' {es:Ces}:tE C (.tup es) σ H Q=tA C es σ H (ww' Q):=rfl
theorem ux' {es:Ces}:tE C (.lst es) σ H Q=tA C es σ H (zf' Q):=rfl
theorem qu' {xs:List V}:ww' Q xs H=(xs.length<=sizeLine/\∀p,H p=none->Q (.ref p) (upd H p (.tup xs))):=rfl
theorem qv' {xs:List V}:zf' Q xs H=(xs.length<=sizeLine/\∀p,H p=none->Q (.ref p) (upd H p (.lst xs))):=rfl
def nd' (o:Option Sp) (E:XK) (Q:VK):List V->Hp->Prop:=fun vs H=>match o with
 |some sp=>sp (vs++[]) H Q E
 |none=>False
theorem qw' {f:Str} {es:Ces} {sp:Sp} (h:C.fs f=some sp):tE C (.call f es) σ H Q=tA C es σ H (nd' (some sp) (C.xk σ) Q):=by
 show(match C.fs f with|some sp=>mj' sp [] (C.xk σ) (tA C es) σ H Q|none=>False)=_
 rw[h]
 rfl
theorem ne' {sp:Sp} {E:XK} {vs:List V}:nd' (some sp) E Q vs H=sp vs H Q E:=by
 show sp (vs++[]) H Q E=_
 rw[cA]
def yb' (C:Rc) (f:Bf) (Q:VK):List V->Hp->Prop:=fun vs H=>dm' C.K f vs H Q
theorem uy' {f:Bf} {es:Ces}:tE C (.blt f es) σ H Q=tA C es σ H (yb' C f Q):=rfl
theorem qx' {f:Bf} {vs:List V}:yb' C f Q vs H=dm' C.K f vs H Q:=rfl
def uz' (C:Rc) (σ:L2.St) (m:Mf) (es:Ces) (Q:VK):VK:=fun x H=>tyV C.K (f3' m) x H/\tA C es σ H fun xs H2=>oB' C.K m x xs H2 Q
def uA' (C:Rc) (m:Mf) (x:V) (Q:VK):List V->Hp->Prop:=fun xs H=>oB' C.K m x xs H Q
theorem uB' {m:Mf} {o:Ce} {es:Ces}:tE C (.met m o es) σ H Q=tE C o σ H (uz' C σ m es Q):=rfl
theorem nf' {m:Mf} {es:Ces} {x:V}:uz' C σ m es Q x H=(tyV C.K (f3' m) x H/\tA C es σ H (uA' C m x Q)):=rfl
theorem ng' {m:Mf} {x:V} {xs:List V}:uA' C m x Q xs H=oB' C.K m x xs H Q:=rfl
def yc' (C:Rc) (σ:L2.St) (a b:Ce) (Q:VK):Bool->Hp->Prop:=fun c H=>if c=true then tE C a σ H Q else tE C b σ H Q
theorem uC' {q:Cq} {a b:Ce}:tE C (.ife q a b) σ H Q=tQ C q σ H (yc' C σ a b Q):=rfl
theorem uD' {a b:Ce}:yc' C σ a b Q true H=tE C a σ H Q:=rfl
theorem uE' {a b:Ce}:yc' C σ a b Q false H=tE C b σ H Q:=rfl
def uF' (Q:VK):VK:=fun x H=>∃c,x=.bl c/\Q (.bl (!c)) H
theorem uG' {a:Ce}:tE C (.not a) σ H Q=tE C a σ H (uF' Q):=rfl
theorem nh' {c:Bool}:uF' Q (.bl c) H=Q (.bl (!c)) H:=propext ⟨fun⟨u,e,q⟩=>by cases e;exact q,fun q=>⟨c,rfl,q⟩⟩
def qy' (C:Rc) (σ:L2.St) (b:Ce) (Q:VK):VK:=fun x H=>∃c,x=.bl c/\if c=true then tE C b σ H Q else Q (.bl false) H
def yd' (C:Rc) (σ:L2.St) (b:Ce) (Q:VK):VK:=fun x H=>∃c,x=.bl c/\if c=true then Q (.bl true) H else tE C b σ H Q
theorem uH' {a b:Ce}:tE C (.and a b) σ H Q=tE C a σ H (qy' C σ b Q):=rfl
theorem uI' {a b:Ce}:tE C (.or a b) σ H Q=tE C a σ H (yd' C σ b Q):=rfl
theorem qz' {b:Ce}:qy' C σ b Q (.bl true) H=tE C b σ H Q:=propext ⟨fun⟨u,e,q⟩=>by cases e;exact q,fun q=>⟨_,rfl,q⟩⟩
theorem qA' {b:Ce}:qy' C σ b Q (.bl false) H=Q (.bl false) H:=propext ⟨fun⟨u,e,q⟩=>by cases e;exact q,fun q=>⟨_,rfl,q⟩⟩
theorem oI' {b:Ce}:yd' C σ b Q (.bl true) H=Q (.bl true) H:=propext ⟨fun⟨u,e,q⟩=>by cases e;exact q,fun q=>⟨_,rfl,q⟩⟩
theorem oJ' {b:Ce}:yd' C σ b Q (.bl false) H=tE C b σ H Q:=propext ⟨fun⟨u,e,q⟩=>by cases e;exact q,fun q=>⟨_,rfl,q⟩⟩
def zg' (C:Rc) (Qb:Bool->Hp->Prop):VK:=fun x H=>∃k,sk' C.K x H k/\Qb k H
theorem uJ' {e:Ce}:tQ C (.val e) σ H Qb=tE C e σ H (zg' C Qb):=rfl
theorem qB' {b:Bool}:zg' C Qb (.bl b) H=Qb b H:=propext ⟨fun⟨u,e,q⟩=>by
  have e:u=b:=e
  subst e
  exact q,fun q=>⟨b,rfl,q⟩⟩
def uK' (C:Rc) (σ:L2.St) (lo hi:Co) (Q:VK):VK:=fun x H=>tO C lo σ H fun l H2=>tO C hi σ H2 fun u H3=>rSl C.K x l u H3 Q
def uL' (C:Rc) (σ:L2.St) (hi:Co) (x:V) (Q:VK):Option Int->Hp->Prop:=fun l H=>tO C hi σ H fun u H3=>rSl C.K x l u H3 Q
def uM' (C:Rc) (x:V) (l:Option Int) (Q:VK):Option Int->Hp->Prop:=fun u H=>rSl C.K x l u H Q
theorem uN' {a:Ce} {lo hi:Co}:tE C (.cut a lo hi) σ H Q=tE C a σ H (uK' C σ lo hi Q):=rfl
theorem ni' {lo hi:Co} {x:V}:uK' C σ lo hi Q x H=tO C lo σ H (uL' C σ hi x Q):=rfl
theorem nj' {hi:Co} {x:V} {l:Option Int}:uL' C σ hi x Q l H=tO C hi σ H (uM' C x l Q):=rfl
theorem nk' {x:V} {l u:Option Int}:uM' C x l Q u H=rSl C.K x l u H Q:=rfl
variable {Qo:Option Int->Hp->Prop}
def nl' (Qo:Option Int->Hp->Prop):VK:=fun x H=>∃i,x=.int i/\Qo (some i) H
theorem uO':tO C .none σ H Qo=Qo none H:=rfl
theorem uP' {e:Ce}:tO C (.some e) σ H Qo=tE C e σ H (nl' Qo):=rfl
theorem ld' {i:Int}:nl' Qo (.int i) H=Qo (some i) H:=propext ⟨fun⟨u,e,q⟩=>by cases e;exact q,fun q=>⟨i,rfl,q⟩⟩
theorem uQ' {K:W.Frag} {a:Addr} {l u:Option Int}:rSl K (.ref a) l u H Q=(wg' K (.ref a) l u H Q\/wf' K (.ref a) l u H Q\/wt' K (.ref a) l u H Q):=rfl
def zh' (i:Nat) (sub:Bool) (x:V) (D:Ends) (σ:L2.St):VK:=fun y H=>∃a b,x=.int a/\y=.int b/\D.nx (σ.set i (some (.int (if sub then a-b else a+b)))) H
theorem ye' {i:Nat} {sub:Bool} {e:Ce} {a:Int} (h:σ[i]?=some (some (.int a))):tS C (.aug i sub e) D σ H=tE C e σ H (zh' i sub (.int a) D σ):=by
 show(∃x,σ[i]?=some (some x)/\tE C e σ H fun y H1=>(ipI fun i j=>if sub then i-j else i+j) x y H1 fun z H2=>D.nx (σ.set i (some z)) H2)=_
 rw[h]
 exact propext ⟨fun⟨x,e,q⟩=>by cases e;exact q,fun q=>⟨_,rfl,q⟩⟩
theorem nm' {i:Nat} {sub:Bool} {a b:Int}:zh' i sub (.int a) D σ (.int b) H=D.nx (σ.set i (some (.int (if sub then a-b else a+b)))) H:=propext ⟨fun⟨_,_,e,e',q⟩=>by cases e;cases e';exact q,fun q=>⟨_,_,rfl,rfl,q⟩⟩
def yf' (C:Rc) (σ:L2.St) (i j:Nat) (b:Ce) (D:Ends):VK:=fun v H=>tE C b σ H fun w H1=>D.nx ((σ.set i (some v)).set j (some w)) H1
def uR' (σ:L2.St) (i j:Nat) (v:V) (D:Ends):VK:=fun w H=>D.nx ((σ.set i (some v)).set j (some w)) H
theorem nn' {i j:Nat} {b:Ce} {v:V}:yf' C σ i j b D v H=tE C b σ H (uR' σ i j v D):=rfl
theorem no' {i j:Nat} {v w:V}:uR' σ i j v D w H=D.nx ((σ.set i (some v)).set j (some w)) H:=rfl
end
def cb (b:Bool):Nat:=if b then 49 else 48
def tx (l:List Bool):Str:=⟨(l.map cb).toArray⟩
theorem le' {a:List Bool}:(tx a).length=a.length:=by show(a.map cb).toArray.size=_;simp
theorem uS' {a:List Bool}:(tx a).cps.toList=a.map cb:=rfl
theorem qC' {a:List Bool}:(tx a).cps.size=a.length:=by show(a.map cb).toArray.size=_;simp
theorem uT' {a:List Bool} {i:Nat}:(tx a).cps[i]?=a[i]?.map cb:=by show(a.map cb).toArray[i]?=_;simp
theorem uU' {a b:List Bool}:tx a++tx b=tx (a++b):=by
 show(⟨(a.map cb).toArray++(b.map cb).toArray⟩:Str)=⟨((a++b).map cb).toArray⟩
 simp
theorem yg':(PySem.Str.ofString "01")=tx [false,true]:=by decide +kernel
theorem oK' {c:Bool}:PySem.intText? (tx [c])=some (if c then 1 else 0):=by cases c<;>decide +kernel
set_option tactic.hygienic true in
theorem uV' {a:List Bool} {n:Nat}:Txt.mul (tx a) n=tx (aC n a).flatten:=by
 unfold Txt.mul
 have key:∀(n:Nat) (acc:List Bool),(aC n (tx a).cps).foldl (·++·) (tx acc).cps=(tx (acc++(aC n a).flatten)).cps:=by
  intro n
  induction n with
  |zero=>intro acc;simp
  |succ n ih=>
   intro acc
   rw[bC,List.foldl_cons]
   have e:(tx acc).cps++(tx a).cps=(tx (acc++a)).cps:=congrArg Str.cps (uU' (a:=acc) (b:=a))
   rw[e,ih,bC,bD,aT]
 split
 .have:n=0:=by omega
  subst this
  rfl
 .split
  .rename_i h1 h2
   simp only[aS,beq_iff_eq]at h2
   rcases h2 with h2|h2
   .have:n=1:=by omega
    subst this
    simp
   .rw[le']at h2
    have e:a=[]:=List.length_eq_zero_iff.mp h2
    subst e
    congr 1
    induction n with
    |zero=>rfl
    |succ n ih=>simp
  .have:=key n []
   show(⟨_⟩:Str)=_
   simp only[bN]
   exact congrArg Str.mk (this.trans (by rw[List.nil_append];rfl))
theorem as' {N:List Str} {vs:List V} {n:Nat} (h:N.length=n):L2.aQ' N vs=vs.map some++aC (n-vs.length) none:=by subst h;rfl
section
variable {C:Rc} {σ:L2.St} {H:Hp} {Q:VK} {D:Ends} {Qb:Bool->Hp->Prop}
theorem uW' {i:Nat} {v:V} {R:L2.St->Hp->Prop}:tG C (.name i) v σ H R=R (σ.set i (some v)) H:=rfl
theorem d1' {i j:Nat} {a:Addr} {x y:V} {R:L2.St->Hp->Prop} (h:SqT C.K H a [x,y]) (q:R ((σ.set i (some x)).set j (some y)) H):tG C (.tup (.cons (.name i) (.cons (.name j) .nil))) (.ref a) σ H R:=
 ⟨a,[x,y],rfl,.inl h,rfl,_,_,rfl,_,_,rfl,rfl,q⟩
theorem uX' {i j k:Nat} {a:Addr} {x y z:V} {R:L2.St->Hp->Prop} (h:SqT C.K H a [x,y,z]) (q:R (((σ.set i (some x)).set j (some y)).set k (some z)) H):tG C (.tup (.cons (.name i) (.cons (.name j) (.cons (.name k) .nil)))) (.ref a) σ H R:=
 ⟨a,[x,y,z],rfl,.inl h,rfl,_,_,rfl,_,_,rfl,_,_,rfl,rfl,q⟩
def oL' (C:Rc) (t:Ct) (b:Css) (D:Ends) (σ:L2.St) (J:It) (H1:Hp):Prop:=∃W:Nat->Nat->L2.St->Hp->Prop,(∃m,W 0 m σ H1)/\∀i m σ H,W i m σ H->
 (J.stop i H/\D.nx σ H)\/(J.go i H/\∃N:L2.St->Hp->Prop,(∀σ' H',N σ' H'->∃m',m'<m/\W (i+1) m' σ' H')/\∀x H',J.yld i H x H'->tG C t x σ H' fun σ2 H2=>tSs C b { D with nx:=N,ct:=N,bk:=D.nx } σ2 H2)
theorem yh' {t:Ct} {it:Ci} {b:Css}:tS C (.for_ t it b) D σ H=tI C it σ H (oL' C t b D σ):=rfl
def kIv (C:Rc) (R:It->Hp->Prop):VK:=fun x H1=>
 (∃a,x=.ref a/\(∃xs,SqL C.K H1 a xs)/\R (Itl C.K a) H1)\/(∃a,x=.ref a/\(∃xs,SqT C.K H1 a xs)/\R (Itt C.K a) H1)\/∃z,x=.str z/\R (Its z) H1
theorem yi' {e:Ce} {R:It->Hp->Prop}:tI C (.val e) σ H R=tE C e σ H (kIv C R):=rfl
def kR1 (R:It->Hp->Prop):VK:=fun x H1=>∃j:Int,x=.int j/\-(2 ^ 62)<=j/\j<2 ^ 62/\R (Itr 0 j.toNat) H1
theorem np' {e:Ce} {R:It->Hp->Prop}:tI C (.range1 e) σ H R=tE C e σ H fun x H1=>∃j:Int,[x]=[.int j]/\-(2 ^ 62)<=j/\j<2 ^ 62/\R (Itr 0 j.toNat) H1:=rfl
theorem lf' {e:Ce} {R:It->Hp->Prop}:tI C (.range1 e) σ H R=tE C e σ H (kR1 R):=by
 rw[np']
 congr 1
 funext x H1
 unfold kR1
 simp only[List.cons.injEq,and_true]
def wx' (R:It->Hp->Prop) (x:V):VK:=fun y H1=>∃i j:Int,x=.int i/\y=.int j/\(-(2 ^ 62)<=i/\i<2 ^ 62/\-(2 ^ 62)<=j/\j<2 ^ 62)/\R (Itr i (j-i).toNat) H1
def yj' (C:Rc) (σ:L2.St) (e:Ce) (R:It->Hp->Prop):VK:=fun x H1=>tE C e σ H1 (wx' R x)
theorem lg' {a b:Ce} {R:It->Hp->Prop}:tI C (.range2 a b) σ H R=tE C a σ H (yj' C σ b R):=by
 show(tE C a σ H fun x H1=>tE C b σ H1 fun y H2=>∃i j:Int,[x,y]=[.int i,.int j]/\(-(2 ^ 62)<=i/\i<2 ^ 62/\-(2 ^ 62)<=j/\j<2 ^ 62)/\R (Itr i (j-i).toNat) H2)=_
 congr 1
 funext x H1
 unfold yj'
 congr 1
 funext y H2
 unfold wx'
 simp only[List.cons.injEq,and_true,and_assoc]
theorem qD' {e:Ce} {R:It->Hp->Prop} {x:V}:yj' C σ e R x H=tE C e σ H (wx' R x):=rfl
def kZ2 (C:Rc) (R:It->Hp->Prop) (x:V):VK:=fun y H1=>∃(k j:Bool) (a b:Addr),x=.ref a/\y=.ref b/\(∃xs,Sq k C.K H1 a xs)/\(∃ys,Sq j C.K H1 b ys)/\R (rN' k j C.K a b) H1
def kZ1 (C:Rc) (σ:L2.St) (e:Ce) (R:It->Hp->Prop):VK:=fun x H1=>tE C e σ H1 (kZ2 C R x)
theorem yk' {a b:Ce} {R:It->Hp->Prop}:tI C (.zip a b) σ H R=tE C a σ H (kZ1 C σ b R):=by
 show(tE C a σ H fun x H1=>tE C b σ H1 fun y H2=>∃(k j:Bool) (p q:Addr),[x,y]=[.ref p,.ref q]/\(∃xs,Sq k C.K H2 p xs)/\(∃ys,Sq j C.K H2 q ys)/\R (rN' k j C.K p q) H2)=_
 congr 1
 funext x H1
 unfold kZ1
 congr 1
 funext y H2
 unfold kZ2
 simp only[List.cons.injEq,and_true,and_assoc]
theorem uY' {e:Ce} {R:It->Hp->Prop} {x:V}:kZ1 C σ e R x H=tE C e σ H (kZ2 C R x):=rfl
def kEn (C:Rc) (R:It->Hp->Prop):VK:=fun x H1=>(∃a,x=.ref a/\(∃xs,SqL C.K H1 a xs)/\R (Ite C.K a) H1)\/(∃z,x=.str z/\R (wi' z) H1)\/∃a,x=.ref a/\(∃xs,SqT C.K H1 a xs)/\R (wj' C.K a) H1
theorem uZ' {a:Ce} {R:It->Hp->Prop}:tI C (.enum a) σ H R=tE C a σ H (kEn C R):=by
 show(tE C a σ H fun x H1=>∃y,[x]=[y]/\((∃a,y=.ref a/\(∃xs,SqL C.K H1 a xs)/\R (Ite C.K a) H1)\/(∃z,y=.str z/\R (wi' z) H1)\/∃a,y=.ref a/\(∃xs,SqT C.K H1 a xs)/\R (wj' C.K a) H1))=_
 congr 1
 funext x H1
 unfold kEn
 exact propext ⟨fun⟨y,e,q⟩=>by cases e;exact q,fun q=>⟨x,rfl,q⟩⟩
theorem if' {R:It->Hp->Prop} {a:Addr} {xs:List V} (h:SqL C.K H a xs) (q:R (Ite C.K a) H):kEn C R (.ref a) H:=.inl ⟨a,rfl,⟨xs,h⟩,q⟩
theorem lh' {R:It->Hp->Prop} {z:Str} (q:R (Its z) H):kIv C R (.str z) H:=.inr (.inr ⟨z,rfl,q⟩)
theorem a6' {R:It->Hp->Prop} {a:Addr} {xs:List V} (h:SqL C.K H a xs) (q:R (Itl C.K a) H):kIv C R (.ref a) H:=.inl ⟨a,rfl,⟨xs,h⟩,q⟩
theorem bN' {R:It->Hp->Prop} {a:Addr} {xs:List V} (h:SqT C.K H a xs) (q:R (Itt C.K a) H):kIv C R (.ref a) H:=.inr (.inl ⟨a,rfl,⟨xs,h⟩,q⟩)
theorem nq' {R:It->Hp->Prop} {j:Int} (h0:-(2 ^ 62)<=j) (h1:j<2 ^ 62) (q:R (Itr 0 j.toNat) H):kR1 R (.int j) H:=⟨j,rfl,h0,h1,q⟩
theorem u0' {R:It->Hp->Prop} {i j:Int} (h0:-(2 ^ 62)<=i) (h1:i<2 ^ 62) (h2:-(2 ^ 62)<=j) (h3:j<2 ^ 62) (q:R (Itr i (j-i).toNat) H):wx' R (.int i) (.int j) H:=⟨i,j,rfl,rfl,⟨h0,h1,h2,h3⟩,q⟩
theorem qE' {R:It->Hp->Prop} {a b:Addr} {xs ys:List V} (h:SqL C.K H a xs) (h2:SqL C.K H b ys) (q:R (Itz false C.K a b) H):kZ2 C R (.ref a) (.ref b) H:=⟨false,false,a,b,rfl,rfl,⟨xs,h⟩,⟨ys,h2⟩,q⟩
theorem qF' {R:It->Hp->Prop} {a b:Addr} {xs ys:List V} (h:SqT C.K H a xs) (h2:SqT C.K H b ys) (q:R (Itz true C.K a b) H):kZ2 C R (.ref a) (.ref b) H:=⟨true,true,a,b,rfl,rfl,⟨xs,h⟩,⟨ys,h2⟩,q⟩
theorem yl' {a:Addr} {xs:List V} {t:Ct} {b:Css} (Pv:Nat->L2.St->Hp->Prop) (h0:Pv 0 σ H) (hl:∀i σ H,i<=xs.length->Pv i σ H->SqL C.K H a xs)
  (hs:∀i x σ H,xs[i]?=some x->Pv i σ H->tG C t x σ H (tSs C b { D with nx:=Pv (i+1),ct:=Pv (i+1),bk:=D.nx })) (hd:∀σ H,Pv xs.length σ H->D.nx σ H):oL' C t b D σ (Itl C.K a) H:=mc' Pv h0 hl hs hd
theorem u1' {a:Addr} {xs:List V} {t:Ct} {b:Css} (Pv:Nat->L2.St->Hp->Prop) (h0:Pv 0 σ H) (hl:∀i σ H,i<=xs.length->Pv i σ H->SqT C.K H a xs)
  (hs:∀i x σ H,xs[i]?=some x->Pv i σ H->tG C t x σ H (tSs C b { D with nx:=Pv (i+1),ct:=Pv (i+1),bk:=D.nx })) (hd:∀σ H,Pv xs.length σ H->D.nx σ H):oL' C t b D σ (Itt C.K a) H:=pv' Pv h0 hl hs hd
theorem li' {lo:Int} {n:Nat} {t:Ct} {b:Css} (Pv:Nat->L2.St->Hp->Prop) (h0:Pv 0 σ H)
  (hs:∀i σ H,i<n->Pv i σ H->tG C t (.int (lo+i)) σ H (tSs C b { D with nx:=Pv (i+1),ct:=Pv (i+1),bk:=D.nx })) (hd:∀σ H,Pv n σ H->D.nx σ H):oL' C t b D σ (Itr lo n) H:=jt' Pv h0 hs hd
theorem ym' {z:Str} {t:Ct} {b:Css} (Pv:Nat->L2.St->Hp->Prop) (h0:Pv 0 σ H)
  (hs:∀i c σ H,z.cps[i]?=some c->Pv i σ H->tG C t (.str ⟨#[c]⟩) σ H (tSs C b { D with nx:=Pv (i+1),ct:=Pv (i+1),bk:=D.nx })) (hd:∀σ H,Pv z.cps.size σ H->D.nx σ H):oL' C t b D σ (Its z) H:=by
 refine⟨fun i m σ H=>m=z.cps.size-i/\i<=z.cps.size/\Pv i σ H,⟨z.cps.size,by simp,aO _,h0⟩,?_⟩
 rintro i m σ H ⟨rfl,hi,p⟩
 by_cases hlt:i<z.cps.size
 .refine .inr ⟨hlt,Pv (i+1),fun σ' H' p'=>⟨z.cps.size-(i+1),by omega,rfl,hlt,p'⟩,fun x H' y=>?_⟩
  obtain⟨e,c,hc,rfl⟩:=y
  subst e
  exact hs i c σ _ hc p
 .have e:i=z.cps.size:=by omega
  subst e
  exact .inl ⟨ah _,hd σ H p⟩
theorem yn' {a:Addr} {xs:List V} {t:Ct} {b:Css} (Pv:Nat->L2.St->Hp->Prop) (h0:Pv 0 σ H) (hl:∀i σ H,i<=xs.length->Pv i σ H->SqL C.K H a xs)
  (hs:∀i x σ H p,xs[i]?=some x->H p=none->Pv i σ H->tG C t (.ref p) σ (upd H p (.tup [.int i,x])) (tSs C b { D with nx:=Pv (i+1),ct:=Pv (i+1),bk:=D.nx })) (hd:∀σ H,Pv xs.length σ H->D.nx σ H):oL' C t b D σ (Ite C.K a) H:=by
 refine⟨fun i m σ H=>m=xs.length-i/\i<=xs.length/\Pv i σ H,⟨xs.length,by simp,aO _,h0⟩,?_⟩
 rintro i m σ H ⟨rfl,hi,p⟩
 have q:=hl i σ H hi p
 by_cases hlt:i<xs.length
 .refine .inr ⟨⟨xs,xs[i],q,by simp[hlt]⟩,Pv (i+1),fun σ' H' p'=>⟨xs.length-(i+1),by omega,rfl,hlt,p'⟩,fun x H' y=>?_⟩
  obtain⟨ad,v,rfl,hn,y,rfl⟩:=y
  exact hs i v σ _ ad (y xs q) hn p
 .have e:i=xs.length:=by omega
  subst e
  exact .inl ⟨⟨xs,q,rfl⟩,hd σ H p⟩
theorem u2' {l:List Bool} {t:Ct} {b:Css} (Pv:Nat->L2.St->Hp->Prop) (h0:Pv 0 σ H)
  (hs:∀i c σ H,l[i]?=some c->Pv i σ H->tG C t (.str (tx [c])) σ H (tSs C b { D with nx:=Pv (i+1),ct:=Pv (i+1),bk:=D.nx })) (hd:∀σ H,Pv l.length σ H->D.nx σ H):oL' C t b D σ (Its (tx l)) H:=by
 refine ym' Pv h0 (fun i c σ H hc p=>?_) fun σ H p=>hd σ H (by rw[qC']at p;exact p)
 rw[uT']at hc
 cases hl:l[i]? with
 |none=>rw[hl]at hc;cases hc
 |some d=>
  rw[hl]at hc
  cases hc
  exact hs i d σ H hl p
def wy' (C:Rc) (b:Css) (D:Ends) (N:L2.St->Hp->Prop) (σ:L2.St):Bool->Hp->Prop:=fun c H1=>if c=true then ∃N':L2.St->Hp->Prop,(∀σ' H',N' σ' H'->N σ' H')/\tSs C b { D with nx:=N',ct:=N',bk:=D.nx } σ H1 else D.nx σ H1
theorem oM' {q:Cq} {b:Css} (Pv:Nat->L2.St->Hp->Prop) (m:Nat) (h0:Pv m σ H) (hs:∀m σ H,Pv m σ H->tQ C q σ H (wy' C b D (fun σ' H'=>∃m',m'<m/\Pv m' σ' H') σ)):tS C (.whl q b) D σ H:=⟨Pv,⟨m,h0⟩,hs⟩
theorem oN' {b:Css} {N:L2.St->Hp->Prop} (h:tSs C b { D with nx:=N,ct:=N,bk:=D.nx } σ H):wy' C b D N σ true H:=⟨N,fun _ _ q=>q,h⟩
theorem oO' {b:Css} {N:L2.St->Hp->Prop} (h:D.nx σ H):wy' C b D N σ false H:=by unfold wy';rw[if_neg (by decide)];exact h
def g4' (xs:List V) (P:List V->Hp->Prop):VK:=fun v H=>xs.length<sizeLine/\P (xs++[v]) H
def kCT (C:Rc) (elt:Ce) (xs:List V) (P:List V->Hp->Prop) (σ:L2.St):Bool->Hp->Prop:=fun ok H=>if ok=true then tE C elt σ H (g4' xs P)else P xs H
def kCG (C:Rc) (elt:Ce) (q:Cqo) (xs:List V) (P:List V->Hp->Prop):L2.St->Hp->Prop:=fun σ H=>tQo C q σ H (kCT C elt xs P σ)
theorem yo' {elt:Ce} {xs:List V} {P:List V->Hp->Prop}:kCG C elt .none xs P σ H=tE C elt σ H (g4' xs P):=rfl
theorem yp' {elt:Ce} {q:Cq} {xs:List V} {P:List V->Hp->Prop}:kCG C elt (.some q) xs P σ H=tQ C q σ H (kCT C elt xs P σ):=rfl
theorem yq' {elt:Ce} {xs:List V} {P:List V->Hp->Prop}:kCT C elt xs P σ true H=tE C elt σ H (g4' xs P):=rfl
theorem yr' {elt:Ce} {xs:List V} {P:List V->Hp->Prop}:kCT C elt xs P σ false H=P xs H:=rfl
theorem nr' {xs:List V} {P:List V->Hp->Prop} {v:V}:g4' xs P v H=(xs.length<sizeLine/\P (xs++[v]) H):=rfl
def ns' (Q:VK) (xs:List V) (H2:Hp):Prop:=∀p,H2 p=none->Q (.ref p) (upd H2 p (.lst xs))
def gf' (C:Rc) (elt:Ce) (own:List Nat) (t:Ct) (q:Cqo) (σ:L2.St) (Q:VK) (J:It) (H1:Hp):Prop:=aY' own (tG C t) (tQo C q) (dL' (tE C elt)) J σ [] H1 (ns' Q)
theorem qG' {elt:Ce} {own:List Nat} {t:Ct} {it:Ci} {q:Cqo}:tE C (.comp elt own t it q .nil) σ H Q=tI C it σ H (gf' C elt own t q σ Q):=rfl
theorem d2' {elt:Ce} {own:List Nat} {t:Ct} {q:Cqo} {J:It} {n:Nat} (Pv:Nat->List V->Hp->Prop) (h0:Pv 0 [] H) (hgo:∀i xs H,i<n->Pv i xs H->J.go i H) (hstop:∀xs H,Pv n xs H->J.stop n H)
  (hs:∀i xs H x H' (R:List V->Hp->Prop),i<n->Pv i xs H->J.yld i H x H'->(∀ys H2,Pv (i+1) ys H2->R ys H2)->tG C t x (clr own σ) H' (kCG C elt q xs R)) (hd:∀xs H,Pv n xs H->ns' Q xs H):gf' C elt own t q σ Q J H:=by
 refine⟨fun i m xs H=>m=n-i/\i<=n/\Pv i xs H,⟨n,by simp,aO _,h0⟩,?_⟩
 rintro i m xs H ⟨rfl,hi,p⟩
 by_cases hlt:i<n
 .refine .inr ⟨hgo i xs H hlt p,fun x H' y=>?_⟩
  exact hs i xs H x H' (fun c H4=>∃m',m'<n-i/\(m'=n-(i+1)/\i+1<=n/\Pv (i+1) c H4)) hlt p y fun ys H2 p2=>⟨n-(i+1),by omega,rfl,hlt,p2⟩
 .have e:i=n:=by omega
  subst e
  exact .inl ⟨hstop xs H p,hd xs H p⟩
theorem eM' {elt:Ce} {own:List Nat} {t:Ct} {q:Cqo} {a:Addr} {vs:List V} (Pv:Nat->List V->Hp->Prop) (h0:Pv 0 [] H) (hl:∀i xs H,Pv i xs H->SqL C.K H a vs)
  (hs:∀i xs H x (R:List V->Hp->Prop),vs[i]?=some x->Pv i xs H->(∀ys H2,Pv (i+1) ys H2->R ys H2)->tG C t x (clr own σ) H (kCG C elt q xs R)) (hd:∀xs H,Pv vs.length xs H->ns' Q xs H):gf' C elt own t q σ Q (Itl C.K a) H:=
 d2' (n:=vs.length) Pv h0 (fun i xs H hi p=>⟨vs,vs[i],hl i xs H p,by simp[hi]⟩) (fun xs H p=>⟨vs,hl _ xs H p,ah _⟩) (fun i xs H x H' R hi p y k=>by
  obtain⟨e,y⟩:=y
  subst e
  exact hs i xs H' x R (y vs (hl i xs H' p)) p k) hd
theorem oP' {elt:Ce} {own:List Nat} {t:Ct} {q:Cqo} {a:Addr} {vs:List V} (Pv:Nat->List V->Hp->Prop) (h0:Pv 0 [] H) (hl:∀i xs H,Pv i xs H->SqT C.K H a vs)
  (hs:∀i xs H x (R:List V->Hp->Prop),vs[i]?=some x->Pv i xs H->(∀ys H2,Pv (i+1) ys H2->R ys H2)->tG C t x (clr own σ) H (kCG C elt q xs R)) (hd:∀xs H,Pv vs.length xs H->ns' Q xs H):gf' C elt own t q σ Q (Itt C.K a) H:=
 d2' (n:=vs.length) Pv h0 (fun i xs H hi p=>⟨vs,vs[i],hl i xs H p,by simp[hi]⟩) (fun xs H p=>⟨vs,hl _ xs H p,ah _⟩) (fun i xs H x H' R hi p y k=>by
  obtain⟨e,y⟩:=y
  subst e
  exact hs i xs H' x R (y vs (hl i xs H' p)) p k) hd
theorem u3' {elt:Ce} {own:List Nat} {t:Ct} {q:Cqo} {k j:Bool} {a b:Addr} {vs ws:List V} (hw:vs.length=ws.length) (Pv:Nat->List V->Hp->Prop) (h0:Pv 0 [] H) (hl:∀i xs H,Pv i xs H->Sq k C.K H a vs/\Sq j C.K H b ws)
  (hs:∀i xs H x y p (R:List V->Hp->Prop),vs[i]?=some x->ws[i]?=some y->H p=none->Pv i xs H->(∀ys H2,Pv (i+1) ys H2->R ys H2)->tG C t (.ref p) (clr own σ) (upd H p (.tup [x,y])) (kCG C elt q xs R)) (hd:∀xs H,Pv vs.length xs H->ns' Q xs H):gf' C elt own t q σ Q (rN' k j C.K a b) H:=
 d2' (n:=vs.length) Pv h0 (fun i xs H hi p=>⟨vs,ws,vs[i],ws[i],(hl i xs H p).1,(hl i xs H p).2,by simp[hi],by simp[hw ▸ hi]⟩) (fun xs H p=>⟨vs,ws,(hl _ xs H p).1,(hl _ xs H p).2,.inl (ah _)⟩) (fun i xs H x H' R hi p y kk=>by
  obtain⟨ad,u,v,rfl,hn,y1,y2,rfl⟩:=y
  exact hs i xs H u v ad R (y1 vs (hl i xs H p).1) (y2 ws (hl i xs H p).2) hn p kk) hd
theorem u4' {elt:Ce} {own:List Nat} {t:Ct} {q:Cqo} {a:Addr} {vs:List V} (Pv:Nat->List V->Hp->Prop) (h0:Pv 0 [] H) (hl:∀i xs H,Pv i xs H->SqL C.K H a vs)
  (hs:∀i xs H x p (R:List V->Hp->Prop),vs[i]?=some x->H p=none->Pv i xs H->(∀ys H2,Pv (i+1) ys H2->R ys H2)->tG C t (.ref p) (clr own σ) (upd H p (.tup [.int i,x])) (kCG C elt q xs R)) (hd:∀xs H,Pv vs.length xs H->ns' Q xs H):gf' C elt own t q σ Q (Ite C.K a) H:=
 d2' (n:=vs.length) Pv h0 (fun i xs H hi p=>⟨vs,vs[i],hl i xs H p,by simp[hi]⟩) (fun xs H p=>⟨vs,hl _ xs H p,rfl⟩) (fun i xs H x H' R hi p y k=>by
  obtain⟨ad,v,rfl,hn,y,rfl⟩:=y
  exact hs i xs H v ad R (y vs (hl i xs H p)) hn p k) hd
end
section
variable {C:Rc} {K:W.Frag} {σ:L2.St} {H:Hp} {Q:VK} {D:Ends} {Qb:Bool->Hp->Prop}
theorem ao' {f:Str} {es:Ces} {sp:Sp} (h:C.fs f=some sp) (q:tA C es σ H (nd' (some sp) (C.xk σ) Q)):tE C (.call f es) σ H Q:=by
 rw[qw' h]
 exact q
theorem dg' {a:Addr} {xs:List V} (h:SqL K H a xs) (q:Q (.int xs.length) H):dm' K .len [.ref a] H Q:=⟨_,_,rfl,.inl ⟨xs,h,rfl⟩,q⟩
theorem d3' {a:Addr} {xs:List V} (h:SqT K H a xs) (q:Q (.int xs.length) H):dm' K .len [.ref a] H Q:=⟨_,_,rfl,.inr ⟨xs,h,rfl⟩,q⟩
theorem u5' {i:Int}:dm' K .abs [.int i] H Q=Q (.int (if i<0 then -i else i)) H:=propext ⟨fun⟨u,e,q⟩=>by cases e;exact q,fun q=>⟨_,rfl,q⟩⟩
theorem i6' {i:Int}:dm' K .int [.int i] H Q=Q (.int i) H:=rfl
theorem lj' {k:Bool}:dm' K .int [.bl k] H Q=Q (.int (if k then 1 else 0)) H:=rfl
theorem lk' {c:Bool}:dm' K .int [.str (tx [c])] H Q=Q (.int (if c then 1 else 0)) H:=propext ⟨fun⟨n,e,_,q⟩=>by rw[oK']at e;cases e;exact q,fun q=>⟨_,oK',by rw[le',List.length_singleton];decide,q⟩⟩
theorem qH' {i j:Int}:dm' K .min [.int i,.int j] H Q=Q (.int (if j<i then j else i)) H:=rfl
theorem oQ' {a:Addr} {bs:List Bool} (h:SqL K H a (bs.map V.bl)) (q:Q (.bl (bs.all id)) H):dm' K .all [.ref a] H Q:=⟨a,bs,rfl,h,q⟩
theorem u6' {x:V} {T c:String} (h:a4' H x=some T) (hT:T∈bS') (hc:c∈["bool","int","str","list","tuple","dict"]) (q:Q (.bl (isT T c)) H):dm' K .isinstance [x,.ty c] H Q:=.inl (.inl ⟨x,T,c,rfl,h,hT,hc,q⟩)
theorem qI' {x:V} {T c d:String} {p:Addr} (h:a4' H x=some T) (hT:T∈bS') (hp:H p=some (.tup [.ty c,.ty d])) (hc:c∈["bool","int","str","list","tuple","dict"]) (hd:d∈["bool","int","str","list","tuple","dict"]) (q:Q (.bl (isT T c || isT T d)) H):dm' K .isinstance [x,.ref p] H Q:=
 .inl <| .inr ⟨x,T,p,[c,d],rfl,h,hT,hp,fun e he=>by
  simp only[ak,aq,or_false]at he
  rcases he with rfl|rfl
  .exact hc
  .exact hd,by simpa using q⟩
theorem a7' {a:Addr} {xs:List V} {i:Int} {v:V} (h:SqL K H a xs) (e:atI xs i=some v) (q:Q v H):gB' K (.ref a) (.int i) H Q\/hJ' K (.ref a) (.int i) H Q:=.inl ⟨a,xs,i,v,rfl,rfl,h,e,q⟩
theorem aL' {a:Addr} {xs:List V} {i:Int} {v:V} (h:SqT K H a xs) (e:atI xs i=some v) (q:Q v H):gB' K (.ref a) (.int i) H Q\/hJ' K (.ref a) (.int i) H Q:=.inr ⟨a,xs,i,v,rfl,rfl,h,e,q⟩
theorem qJ' {α β:Type} {f:α->β} {xs:List α} {i:Int}:atI (xs.map f) i=(atI xs i).map f:=by
 unfold atI
 rw[af]
 cases ixN xs.length i with
 |none=>rfl
 |some j=>simp
theorem qK' {l:List Bool} {i:Int} {c:Bool} (hl:l.length<=sizeLine) (e:atI l i=some c) (q:Q (.str (tx [c])) H):mU' K (.str (tx l)) (.int i) H Q:=by
 refine⟨by rw[le'];exact hl,cb c,?_,q⟩
 rw[uS',qJ',e]
 rfl
theorem qL' {a:Addr} {u v:V} {k:Bool} (h:SqT K H a [u,v]) (q:Q (if k then v else u) H):gB' K (.ref a) (.int (if k then 1 else 0)) H Q\/hJ' K (.ref a) (.int (if k then 1 else 0)) H Q:=by
 refine aL' h ?_ q
 cases k<;>rfl
theorem u7' {x y:V} (h:rK' x y=true):bu' K .Eq x y H Q=Q (.bl (decide (x=y))) H:=by
 have e:bu' K .Eq x y H Q=rEq x y H Q:=by
  unfold bu'
  dsimp only
  split
  .cases h
  .rfl
 rw[e]
 exact propext ⟨fun⟨_,q⟩=>q,fun q=>⟨h,q⟩⟩
theorem oR' {a b:Addr} {n:Nat} (h:Dq H n (.ref a) (.ref b)) (hn:n<=8) (q:Q (.bl true) H):bu' K .Eq (.ref a) (.ref b) H Q:=.inr (.inl ⟨n,hn,h,⟨a,b,rfl,rfl⟩,q⟩)
theorem u8' {a b:Addr} {n:Nat} (h:Dq H n (.ref a) (.ref b)) (hn:n<=8) (q:Q (.bl false) H):bu' K .NotEq (.ref a) (.ref b) H Q:=.inr (.inl ⟨n,hn,h,⟨a,b,rfl,rfl⟩,q⟩)
theorem gg' {j:Int} (q:∀p,H p=none->Q (.ref p) (upd H p (.rng 0 j))):dm' K .range [.int j] H Q:=⟨0,j,.inr ⟨rfl,rfl⟩,q⟩
theorem ig' {r:Addr} {i j:Int} (h:H r=some (.rng i j)) (h1:-(2 ^ 62)<=i) (h2:i<2 ^ 62) (h3:-(2 ^ 62)<=j) (h4:j<2 ^ 62) (hz:(j-i).toNat<=sizeLine) (q:∀p,H p=none->Q (.ref p) (upd H p (.lst (rgs i (j-i).toNat)))):dm' K .list [.ref r] H Q:=.inr ⟨r,i,j,rfl,h,⟨h1,h2,h3,h4⟩,hz,q⟩
theorem fo' {a:Addr} {xs:List V} (h:SqL K H a xs) (q:∀p,H p=none->Q (.ref p) (upd H p (.tup xs))):dm' K .tuple [.ref a] H Q:=⟨a,xs,rfl,.inl ⟨h,q⟩⟩
theorem yt' {x y:Bool}:bu' K .Eq (.bl x) (.bl y) H Q=Q (.bl (x == y)) H:=by
 rw[u7' rfl]
 cases x<;>cases y<;>rfl
theorem yu' {x y:Bool}:bu' K .NotEq (.bl x) (.bl y) H Q=Q (.bl (x != y)) H:=by
 have e:bu' K .NotEq (.bl x) (.bl y) H Q=Q (.bl (!decide (V.bl x=V.bl y))) H:=propext ⟨fun⟨_,q⟩=>q,fun q=>⟨rfl,q⟩⟩
 rw[e]
 cases x<;>cases y<;>rfl
theorem yv' {x y:Int}:bu' K .NotEq (.int x) (.int y) H Q=Q (.bl (!decide (x=y))) H:=by
 have e:bu' K .NotEq (.int x) (.int y) H Q=Q (.bl (!decide (V.int x=V.int y))) H:=propext ⟨fun⟨_,q⟩=>q,fun q=>⟨rfl,q⟩⟩
 rw[e]
 congr 3
 simp only[V.int.injEq]
theorem z3' {x:V}:bu' K .Is x .non H Q=Q (.bl (decide (x=.non))) H:=propext ⟨fun⟨_,q⟩=>q,fun q=>⟨rfl,q⟩⟩
theorem qM' {x:V}:bu' K .IsNot x .non H Q=Q (.bl (!decide (x=.non))) H:=propext ⟨fun⟨_,q⟩=>q,fun q=>⟨rfl,q⟩⟩
def kG (C:Rc) (t:Ct) (D:Ends) (σ:L2.St):VK:=fun v H=>tG C t v σ H D.nx
theorem eu' {t:Ct} {e:Ce}:tS C (.asg t e) D σ H=tE C e σ H (kG C t D σ):=rfl
theorem g5' {i j:Nat} {a:Addr} {x y:V} (h:SqT C.K H a [x,y]) (q:D.nx ((σ.set i (some x)).set j (some y)) H):kG C (.tup (.cons (.name i) (.cons (.name j) .nil))) D σ (.ref a) H:=d1' h q
theorem ll' {i j k:Nat} {a:Addr} {x y z:V} (h:SqT C.K H a [x,y,z]) (q:D.nx (((σ.set i (some x)).set j (some y)).set k (some z)) H):kG C (.tup (.cons (.name i) (.cons (.name j) (.cons (.name k) .nil)))) D σ (.ref a) H:=uX' h q
theorem qN' {a:Addr} {xs:List V} {lo hi:Option Int} (h:SqT K H a xs) (hn:¬(HT.sIx xs.length 0 lo=0/\HT.sIx xs.length xs.length hi=xs.length)) (q:∀p,H p=none->Q (.ref p) (upd H p (.tup (oj' xs lo hi)))):wg' K (.ref a) lo hi H Q\/wf' K (.ref a) lo hi H Q\/wt' K (.ref a) lo hi H Q:=.inr (.inl ⟨a,xs,rfl,h,hn,q⟩)
theorem oS' {a:Addr} {xs:List V} {y:V} (h:H a=some (.lst xs)) (hz:xs.length<sizeLine) (q:Q .non (upd H a (.lst (xs++[y])))):oB' K .append (.ref a) [y] H Q:=⟨a,xs,y,rfl,rfl,h,hz,q⟩
theorem u9' {a:Addr} {xs:List V} (h:H a=some (.lst xs)) (q:Q .non (upd H a (.lst xs.reverse))):oB' K .reverse (.ref a) [] H Q:=⟨a,xs,rfl,rfl,h,q⟩
theorem tyL {a:Addr} {xs:List V} {m:Mf} (h:H a=some (.lst xs)) (hm:f3' m="list"):tyV K (f3' m) (.ref a) H:=.inl ⟨hm,xs,SqL.of h⟩
theorem af' {H:Hp} {p:Addr} (h:H p=none) (o:HO):aw' H (upd H p o):=fun b u q=>by rw[ad' (aj' q h)];exact q
theorem snw {H:Hp} {p:Addr} (h:H p=none) (o:HO):aw' H (upd H p o)/\upd H p o p=some o:=⟨af' h o,aa'⟩
theorem ak' {α:Type} {l:List α} {i:Nat} {c:α} (hc:l[i]?=some c):i<l.length:=by
 rcases cQ i l.length with h|h
 .exact h
 .rw[aR.mpr h]at hc;cases hc
def wz' (C:Rc) (σ:L2.St) (b:Ce) (Q:VK):VK:=fun x H=>(x=.non/\tE C b σ H Q)\/∃i:Int,x=.int i/\if i=0 then tE C b σ H Q else Q (.int i) H
theorem va' {a b:Ce}:tE C (.orv a b) σ H Q=tE C a σ H (wz' C σ b Q):=rfl
theorem vb' {b:Ce} (q:tE C b σ H Q):wz' C σ b Q .non H:=.inl ⟨rfl,q⟩
theorem vc' {b:Ce} {i:Int} (hi:i≠0) (q:Q (.int i) H):wz' C σ b Q (.int i) H:=.inr ⟨i,rfl,by rw[if_neg hi];exact q⟩
theorem oT':tE C .dnn σ H Q=(∀p,H p=none->Q (.ref p) (upd H p (cv' p []))):=rfl
theorem oU':tE C .dnt σ H Q=(∀p,H p=none->Q (.ref p) (upd H p (.dT []))):=rfl
def zi' (x:V) (Q:VK):VK:=fun y H=>∃a v,x=.ref a/\e4' H a y (some v)/\Q v H
def z4' (C:Rc) (σ:L2.St) (b:Ce) (Q:VK):VK:=fun x H=>tE C b σ H (zi' x Q)
theorem qO' {b:Ce} {x:V}:z4' C σ b Q x H=tE C b σ H (zi' x Q):=rfl
end
end R3
namespace R3
open PySem PySem.Spec PyProof.Rows L2 PySem.Builtin PySem.Builtin.Str
section
variable {K:W.Frag} {H:Hp} {Q:VK}
end
section
variable {C:Rc} {K:W.Frag} {σ:L2.St} {H:Hp} {Q:VK} {D:Ends} {Qb:Bool->Hp->Prop} {i j:Int}
theorem qP' {i:Nat} {e:Ce} {r:Css} (h:∀K:VK,(∀v H',tSs C r D (σ.set i (some v)) H'->K v H')->tE C e σ H K):tSs C (.cons (.asg (.name i) e) r) D σ H:=h _ fun _ _ q=>q
theorem ev' {s:Cs} {r:Css} (h:∀N:L2.St->Hp->Prop,(∀σ' H',tSs C r D σ' H'->N σ' H')->tS C s { D with nx:=N } σ H):tSs C (.cons s r) D σ H:=h _ fun _ _ q=>q
def zj' (R:It->Hp->Prop) (x y:V):VK:=fun z H1=>∃i j c:Int,x=.int i/\y=.int j/\z=.int c/\(-(2 ^ 60)<=i/\i<2 ^ 60/\-(2 ^ 60)<=j/\j<2 ^ 60/\(0<c/\c<2 ^ 29\/c=-1))/\R (Itc i c (w9' i j c)) H1
def yw' (C:Rc) (σ:L2.St) (e:Ce) (R:It->Hp->Prop) (x:V):VK:=fun y H1=>tE C e σ H1 (zj' R x y)
def z5' (C:Rc) (σ:L2.St) (e e':Ce) (R:It->Hp->Prop):VK:=fun x H1=>tE C e σ H1 (yw' C σ e' R x)
theorem qQ' {e e':Ce} {R:It->Hp->Prop} {x:V}:z5' C σ e e' R x H=tE C e σ H (yw' C σ e' R x):=rfl
theorem qR' {e:Ce} {R:It->Hp->Prop} {x y:V}:yw' C σ e R x y H=tE C e σ H (zj' R x y):=rfl
def kDk (R:It->Hp->Prop):VK:=fun x H1=>DkV x H1 R\/DtV x H1 R\/DnV x H1 R
theorem z6' {e:Ce} {R:It->Hp->Prop}:tI C (.dk e) σ H R=tE C e σ H (kDk R):=rfl
theorem vd' {R:It->Hp->Prop} {d:Addr} {kvs:List (List Key×V)} (h:Rd H d (.dT kvs)) (q:∀o (as:List Addr),as.length=kvs.length->(∀(i:Nat) a kv,as[i]?=some a->kvs[i]?=some kv->H a=some (.tup (kv.1.map L2.kV)))->R (oy' d o (as.map V.ref)) (upd H d (.frz o (.dT kvs)))):kDk R (.ref d) H:=.inr (.inl ⟨d,kvs,rfl,h,fun o as h1 h2 _=>q o as h1 h2⟩)
theorem ve' {d:Addr} {o:Obj} {ks:List V} {t:Ct} {b:Css} (Pv:Nat->L2.St->Hp->Prop) (h0:Pv 0 σ H) (hl:∀i σ H,Pv i σ H->Fz H d o)
  (hs:∀i x σ H,ks[i]?=some x->Pv i σ H->tG C t x σ H (tSs C b { D with nx:=Pv (i+1),ct:=Pv (i+1),bk:=D.nx })) (hd:∀σ H,Pv ks.length σ H->D.nx σ H):oL' C t b D σ (oy' d o ks) H:=by
 refine⟨fun i m σ H=>m=ks.length-i/\i<=ks.length/\Pv i σ H,⟨ks.length,by simp,aO _,h0⟩,?_⟩
 rintro i m σ H ⟨rfl,hi,p⟩
 by_cases hlt:i<ks.length
 .refine .inr ⟨⟨hlt,hl i σ H p⟩,Pv (i+1),fun σ' H' p'=>⟨ks.length-(i+1),by omega,rfl,hlt,p'⟩,fun x H' y=>?_⟩
  obtain⟨e,y⟩:=y
  subst e
  exact hs i x σ _ y p
 .have e:i=ks.length:=by omega
  exact .inl ⟨⟨by omega,hl i σ H p⟩,hd σ H (e ▸ p)⟩
theorem qS' {elt:Ce} {own:List Nat} {t:Ct} {q:Cqo} {d:Addr} {o:Obj} {ks:List V} (Pv:Nat->List V->Hp->Prop) (h0:Pv 0 [] H) (hl:∀i xs H,Pv i xs H->Fz H d o)
  (hs:∀i xs H x (R:List V->Hp->Prop),ks[i]?=some x->Pv i xs H->(∀ys H2,Pv (i+1) ys H2->R ys H2)->tG C t x (clr own σ) H (kCG C elt q xs R)) (hd:∀xs H,Pv ks.length xs H->ns' Q xs H):gf' C elt own t q σ Q (oy' d o ks) H:=
 d2' (n:=ks.length) Pv h0 (fun i xs H hi p=>⟨hi,hl i xs H p⟩) (fun xs H p=>⟨ah _,hl _ xs H p⟩) (fun i xs H x H' R hi p y k=>by
  obtain⟨e,y⟩:=y
  subst e
  exact hs i xs H' x R y p k) hd
def yx' (C:Rc) (elt:Ce) (ws:List Nat) (t2:Ct) (q2:Cqo) (xs:List V) (P:List V->Hp->Prop) (σ:L2.St) (J:It) (H1:Hp):Prop:=aY' ws (tG C t2) (tQo C q2) (dL' (tE C elt)) J σ xs H1 P
def wA' (C:Rc) (elt:Ce) (ws:List Nat) (t2:Ct) (it2:Ci) (q2:Cqo) (xs:List V) (P:List V->Hp->Prop) (σ:L2.St):Bool->Hp->Prop:=fun ok H=>if ok=true then tI C it2 σ H (yx' C elt ws t2 q2 xs P σ)else P xs H
def zk' (C:Rc) (elt:Ce) (q:Cqo) (ws:List Nat) (t2:Ct) (it2:Ci) (q2:Cqo) (xs:List V) (P:List V->Hp->Prop):L2.St->Hp->Prop:=fun σ H=>tQo C q σ H (wA' C elt ws t2 it2 q2 xs P σ)
theorem vf' {elt:Ce} {ws:List Nat} {t2:Ct} {it2:Ci} {q2:Cqo} {xs:List V} {P:List V->Hp->Prop}:zk' C elt .none ws t2 it2 q2 xs P σ H=tI C it2 σ H (yx' C elt ws t2 q2 xs P σ):=rfl
theorem vg' {elt:Ce} {q:Cq} {ws:List Nat} {t2:Ct} {it2:Ci} {q2:Cqo} {xs:List V} {P:List V->Hp->Prop}:zk' C elt (.some q) ws t2 it2 q2 xs P σ H=tQ C q σ H (wA' C elt ws t2 it2 q2 xs P σ):=rfl
theorem vh' {elt:Ce} {ws:List Nat} {t2:Ct} {it2:Ci} {q2:Cqo} {xs:List V} {P:List V->Hp->Prop}:wA' C elt ws t2 it2 q2 xs P σ true H=tI C it2 σ H (yx' C elt ws t2 q2 xs P σ):=rfl
theorem vi' {elt:Ce} {ws:List Nat} {t2:Ct} {it2:Ci} {q2:Cqo} {xs:List V} {P:List V->Hp->Prop}:wA' C elt ws t2 it2 q2 xs P σ false H=P xs H:=rfl
def vj' (C:Rc) (elt:Ce) (own:List Nat) (t:Ct) (q:Cqo) (ws:List Nat) (t2:Ct) (it2:Ci) (q2:Cqo) (σ:L2.St) (Q:VK) (J:It) (H1:Hp):Prop:=aY' own (tG C t) (tQo C q) (gE' (tI C it2) (aY' ws (tG C t2) (tQo C q2) (dL' (tE C elt)))) J σ [] H1 (ns' Q)
theorem nt' {elt:Ce} {own:List Nat} {t:Ct} {it:Ci} {q:Cqo} {ws:List Nat} {t2:Ct} {it2:Ci} {q2:Cqo}:tE C (.comp elt own t it q (.cons ws t2 it2 q2 .nil)) σ H Q=tI C it σ H (vj' C elt own t q ws t2 it2 q2 σ Q):=rfl
end
section
variable {C:Rc} {σ:L2.St} {H:Hp} {Q:VK} {D:Ends}
structure ClsG (C:Rc) (r:Str) (Cr:Addr) (L:List Str):Prop where
 own:C.cl r=some Cr
 e:∃Ce,C.cl "RunError"=some Ce/\W.exmOne C.K (.ref Cr) (.ref Ce)=some true
 ex:W.excIn C.K Cr bmV "ValueError.__new__"=true
 x:XCls C.K Cr
 kv:W.kitOne C.K (.ref Cr) (.type "ValueError")=some true
 k:∀c∈L,∃Cc,C.cl c=some Cc/\W.kitOne C.K (.ref Cr) (.ref Cc)=some (decide (c=r))
end
def aX' (l:List (Str×Sp)) (y:Str):Option Sp:=l.lookup y
theorem ae' {x:Str} {s:Sp} {l:List (Str×Sp)}:aX' ((x,s) :: l) x=some s:=by unfold aX';simp
theorem ac' {x y:Str} {s:Sp} {l:List (Str×Sp)} (h:(y == x)=false):aX' ((x,s) :: l) y=aX' l y:=by
 unfold aX'
 rw[bA,h]
theorem eN' {y:Str} {s:Sp}:∀{l:List (Str×Sp)},aX' l y=some s->(y,s)∈l
 | [],h=>by cases h
 |(x,t) :: l,h=>by
  unfold aX' at h
  rw[bA]at h
  cases e:y == x with
  |true=>
   rw[e]at h
   cases h
   rw[eq_of_beq e]
   exact ay ..
  |false=>
   rw[e]at h
   exact aw _ (eN' h)
theorem aF' {P:Program} {w:World} {K:W.Frag} {mg:Str->Option Value} {base:Heap} {k:Nat} {l:List (Str×Sp)} (h:∀p∈l,∃f' fd' ps',FnOk P w K mg base CX0 k f' fd' ps' p.2/\mg p.1=some (.ref f')/\W.keepIn K (.ref f')=true/\ed' K fd' ps' []):
  ∀y sp',aX' l y=some sp'->∃f' fd' ps',FnOk P w K mg base CX0 k f' fd' ps' sp'/\mg y=some (.ref f')/\W.keepIn K (.ref f')=true/\ed' K fd' ps' []:=fun y sp' e=>h (y,sp') (eN' e)
theorem ar' {P:Program} {w:World} {K:W.Frag} {mg:Str->Option Value} {base:Heap} {x qual:Str} {st:Stmt} {f:Addr} {fd:FuncData} {ps:List Str} {k:Nat} {sp:Sp} (F:Fun K x qual st f fd) (C:Rc) (S:FnScope C.N ps (ab' st)) (hK:C.K=K) (code:Css) (hm:mSs C.N C.B (ab' st) code (am' st)=true)
  (len:∀vs H Q E,sp vs H Q E->vs.length=ps.length)
  (hfs:∀y sp',C.fs y=some sp'->∃f' fd' ps',FnOk P w K mg base CX0 k f' fd' ps' sp'/\mg y=some (.ref f')/\W.keepIn K (.ref f')=true/\ed' K fd' ps' []) (hB:∀y∈C.B,mg y=none) (hmk:mg "~"=none/\mg "^"=none/\mg "%"=none) (nt:tld C.B=false) (nh:hat C.B=false) (hxk:C.xk=fun _=>E0) (hcl:C.cl=fun _=>none)
  (hbody:∀vs H Q E,sp vs H Q E->tSs C code { nx:=fun _ H'=>Q .non H',rt:=Q } (aQ' C.N vs) H):FnOk P w K mg base CX0 (k+1) f fd ps sp:=
 qm' F C S hK code hm len ⟨fun y sp' e=>by
  obtain⟨f',fd',ps',h1,h2⟩:=hfs y sp' e
  exact⟨f',fd',ps',.inl h1,h2⟩,hB,hmk,(fun c Ca e=>by rw[hcl]at e;cases e),nt,nh⟩ hxk hbody
theorem mC {α:Type} {P:α->Prop} {a:α} {l:List α} (h:P a/\∀x∈l,P x):∀x∈a :: l,P x:=List.forall_mem_cons.mpr h
theorem mN {α:Type} {P:α->Prop}:∀x∈([]:List α),P x:=fun y hy=>absurd hy aq
theorem l4' {α:Type} {P:List α->Prop} (h:∀x0,P [x0]):∀us:List α,us.length=1->P us
 | [x0],_=>h x0
theorem nu' {α:Type} {P:List α->Prop} (h:∀x0 x1,P [x0,x1]):∀us:List α,us.length=2->P us
 | [x0,x1],_=>h x0 x1
theorem vk' {α:Type} {P:List α->Prop} (h:∀x0 x1 x2,P [x0,x1,x2]):∀us:List α,us.length=3->P us
 | [x0,x1,x2],_=>h x0 x1 x2
def bO' {α β:Type} (R:α->β->Prop):List α->List β->Prop
 | [],[]=>True
 |a :: as,b :: bs=>R a b/\bO' R as bs
 |_,_=>False
section
variable {α β:Type} {R S:α->β->Prop}
theorem bO'.mono (h:∀a b,R a b->S a b):∀{as:List α} {bs:List β},bO' R as bs->bO' S as bs
 | [],[],_=>trivial
 |_ :: _,_ :: _,q=>⟨h _ _ q.1,bO'.mono h q.2⟩
 | [],_ :: _,q=>q.elim
 |_ :: _,[],q=>q.elim
theorem bO'.len:∀{as:List α} {bs:List β},bO' R as bs->as.length=bs.length
 | [],[],_=>rfl
 |_ :: _,_ :: _,q=>by simp[bO'.len q.2]
 | [],_ :: _,q=>q.elim
 |_ :: _,[],q=>q.elim
theorem bO'.app:∀{as cs:List α} {bs ds:List β},bO' R as bs->bO' R cs ds->bO' R (as++cs) (bs++ds)
 | [],_,[],_,_,q=>q
 |_ :: _,_,_ :: _,_,p,q=>⟨p.1,bO'.app p.2 q⟩
 | [],_,_ :: _,_,p,_=>p.elim
 |_ :: _,_,[],_,p,_=>p.elim
theorem bO'.snoc {a:α} {b:β} {as:List α} {bs:List β} (h:bO' R as bs) (r:R a b):bO' R (as++[a]) (bs++[b]):=h.app ⟨r,trivial⟩
theorem bO'.get:∀{as:List α} {bs:List β} {i:Nat} {b:β},bO' R as bs->bs[i]?=some b->∃a,as[i]?=some a/\R a b
 | [],[],_,_,_,e=>by cases e
 |a :: _,_ :: _,0,_,q,e=>by cases e;exact⟨a,rfl,q.1⟩
 |_ :: as,_ :: bs,i+1,b,q,e=>by
  obtain⟨a,h1,h2⟩:=bO'.get (i:=i) (b:=b) q.2 (by simpa using e)
  exact⟨a,by simpa using h1,h2⟩
 | [],_ :: _,_,_,q,_=>q.elim
 |_ :: _,[],_,_,q,_=>q.elim
theorem bO'.getL:∀{as:List α} {bs:List β} {i:Nat} {a:α},bO' R as bs->as[i]?=some a->∃b,bs[i]?=some b/\R a b
 | [],[],_,_,_,e=>by cases e
 |_ :: _,b :: _,0,_,q,e=>by cases e;exact⟨b,rfl,q.1⟩
 |_ :: as,_ :: bs,i+1,a,q,e=>by
  obtain⟨b,h1,h2⟩:=bO'.getL (i:=i) (a:=a) q.2 (by simpa using e)
  exact⟨b,by simpa using h1,h2⟩
 | [],_ :: _,_,_,q,_=>q.elim
 |_ :: _,[],_,_,q,_=>q.elim
end
def ii' {α:Type} (au':TL α) (b:α) (P:α->Hp->Prop) (σ:L2.St):Bool->Hp->Prop:=fun ok H=>if ok=true then au' σ b H P else P b H
def g6' {α:Type} (tc:TT) (au':TL α) (b:α) (P:α->Hp->Prop):L2.St->Hp->Prop:=fun σ H=>tc σ H (ii' au' b P σ)
def kCl {α:Type} (own:List Nat) (g:TG) (tc:TT) (au':TL α) (σ:L2.St) (a:α) (N:α->Hp->Prop) (J:It) (H:Hp):Prop:=aY' own g tc au' J σ a H N
section
variable {C:Rc} {σ:L2.St} {H:Hp} {Q:VK} {D:Ends} {α:Type}
theorem qT' {au':TL α} {b:α} {P:α->Hp->Prop}:g6' (tQo C .none) au' b P σ H=au' σ b H P:=rfl
theorem qU' {q:Cq} {au':TL α} {b:α} {P:α->Hp->Prop}:g6' (tQo C (.some q)) au' b P σ H=tQ C q σ H (ii' au' b P σ):=rfl
theorem nv' {au':TL α} {b:α} {P:α->Hp->Prop}:ii' au' b P σ true H=au' σ b H P:=rfl
theorem nw' {au':TL α} {b:α} {P:α->Hp->Prop}:ii' au' b P σ false H=P b H:=rfl
theorem nx' {own:List Nat} {g:TG} {tc:TT} {au':TL α} {J:It} {a:α} {N:α->Hp->Prop} {n:Nat} (Pv:Nat->α->Hp->Prop) (h0:Pv 0 a H) (hgo:∀i b H,i<n->Pv i b H->J.go i H) (hstop:∀b H,Pv n b H->J.stop n H)
  (hs:∀i b H x H' (R:α->Hp->Prop),i<n->Pv i b H->J.yld i H x H'->(∀c H2,Pv (i+1) c H2->R c H2)->g x (clr own σ) H' (g6' tc au' b R)) (hd:∀b H,Pv n b H->N b H):kCl own g tc au' σ a N J H:=by
 refine⟨fun i m b H=>m=n-i/\i<=n/\Pv i b H,⟨n,by simp,aO _,h0⟩,?_⟩
 rintro i m b H ⟨rfl,hi,p⟩
 by_cases hlt:i<n
 .refine .inr ⟨hgo i b H hlt p,fun x H' y=>?_⟩
  exact hs i b H x H' (fun c H4=>∃m',m'<n-i/\(m'=n-(i+1)/\i+1<=n/\Pv (i+1) c H4)) hlt p y fun ys H2 p2=>⟨n-(i+1),by omega,rfl,hlt,p2⟩
 .have e:i=n:=by omega
  subst e
  exact .inl ⟨hstop b H p,hd b H p⟩
theorem zl' {own:List Nat} {g:TG} {tc:TT} {au':TL α} {b0:α} {N:α->Hp->Prop} {a:Addr} {vs:List V} (Pv:Nat->α->Hp->Prop) (h0:Pv 0 b0 H) (hl:∀i b H,Pv i b H->SqL C.K H a vs)
  (hs:∀i b H x (R:α->Hp->Prop),vs[i]?=some x->Pv i b H->(∀c H2,Pv (i+1) c H2->R c H2)->g x (clr own σ) H (g6' tc au' b R)) (hd:∀b H,Pv vs.length b H->N b H):kCl own g tc au' σ b0 N (Itl C.K a) H:=
 nx' (n:=vs.length) Pv h0 (fun i xs H hi p=>⟨vs,vs[i],hl i xs H p,by simp[hi]⟩) (fun xs H p=>⟨vs,hl _ xs H p,ah _⟩) (fun i xs H x H' R hi p y k=>by
  obtain⟨e,y⟩:=y
  subst e
  exact hs i xs H' x R (y vs (hl i xs H' p)) p k) hd
theorem zm' {own:List Nat} {g:TG} {tc:TT} {au':TL α} {b0:α} {N:α->Hp->Prop} {a:Addr} {vs:List V} (Pv:Nat->α->Hp->Prop) (h0:Pv 0 b0 H) (hl:∀i b H,Pv i b H->SqT C.K H a vs)
  (hs:∀i b H x (R:α->Hp->Prop),vs[i]?=some x->Pv i b H->(∀c H2,Pv (i+1) c H2->R c H2)->g x (clr own σ) H (g6' tc au' b R)) (hd:∀b H,Pv vs.length b H->N b H):kCl own g tc au' σ b0 N (Itt C.K a) H:=
 nx' (n:=vs.length) Pv h0 (fun i xs H hi p=>⟨vs,vs[i],hl i xs H p,by simp[hi]⟩) (fun xs H p=>⟨vs,hl _ xs H p,ah _⟩) (fun i xs H x H' R hi p y k=>by
  obtain⟨e,y⟩:=y
  subst e
  exact hs i xs H' x R (y vs (hl i xs H' p)) p k) hd
theorem zn' {own:List Nat} {g:TG} {tc:TT} {au':TL α} {b0:α} {N:α->Hp->Prop} {a:Addr} {vs:List V} (Pv:Nat->α->Hp->Prop) (h0:Pv 0 b0 H) (hl:∀i b H,Pv i b H->SqL C.K H a vs)
  (hs:∀i b H x p (R:α->Hp->Prop),vs[i]?=some x->H p=none->Pv i b H->(∀c H2,Pv (i+1) c H2->R c H2)->g (.ref p) (clr own σ) (upd H p (.tup [.int i,x])) (g6' tc au' b R)) (hd:∀b H,Pv vs.length b H->N b H):kCl own g tc au' σ b0 N (Ite C.K a) H:=
 nx' (n:=vs.length) Pv h0 (fun i xs H hi p=>⟨vs,vs[i],hl i xs H p,by simp[hi]⟩) (fun xs H p=>⟨vs,hl _ xs H p,rfl⟩) (fun i xs H x H' R hi p y k=>by
  obtain⟨ad,v,rfl,hn,y,rfl⟩:=y
  exact hs i xs H v ad R (y vs (hl i xs H p)) hn p k) hd
theorem z7' {own:List Nat} {g:TG} {tc:TT} {au':TL α} {b0:α} {N:α->Hp->Prop} {lo:Int} {n:Nat} (Pv:Nat->α->Hp->Prop) (h0:Pv 0 b0 H)
  (hs:∀i b H (R:α->Hp->Prop),i<n->Pv i b H->(∀c H2,Pv (i+1) c H2->R c H2)->g (.int (lo+i)) (clr own σ) H (g6' tc au' b R)) (hd:∀b H,Pv n b H->N b H):kCl own g tc au' σ b0 N (Itr lo n) H:=
 nx' (n:=n) Pv h0 (fun i xs H hi p=>hi) (fun xs H p=>ah _) (fun i xs H x H' R hi p y k=>by
  obtain⟨e,rfl⟩:=y
  subst e
  exact hs i xs H' R hi p k) hd
theorem ny' {elt:Ce} {own:List Nat} {t:Ct} {it:Ci} {q:Cqo} {ws:List Nat} {t2:Ct} {it2:Ci} {q2:Cqo} {r:Cc}:tE C (.comp elt own t it q (.cons ws t2 it2 q2 r)) σ H Q=tI C it σ H (kCl own (tG C t) (tQo C q) (tR C (.cons ws t2 it2 q2 r) (dL' (tE C elt))) σ [] (ns' Q)):=rfl
theorem qV' {ws:List Nat} {t:Ct} {it:Ci} {q:Cqo} {r:Cc} {em:TL (List V)} {b:List V} {P:List V->Hp->Prop}:tR C (.cons ws t it q r) em σ b H P=tI C it σ H (kCl ws (tG C t) (tQo C q) (tR C r em) σ b P):=rfl
theorem vl' {em:TL (List V)} {b:List V} {P:List V->Hp->Prop}:tR C .nil em σ b H P=em σ b H P:=rfl
theorem qW' {elt:Ce} {b:List V} {P:List V->Hp->Prop}:dL' (tE C elt) σ b H P=tE C elt σ H (g4' b P):=rfl
def yy' (b:(Option Int->Bool)×Nat) (P:(Option Int->Bool)×Nat->Hp->Prop):VK:=fun v H=>∃k,v=kO k/\b.2<4000/\P (fun j=>b.1 j || decide (j=k),b.2+1) H
theorem nz' {elt:Ce} {b:(Option Int->Bool)×Nat} {P:(Option Int->Bool)×Nat->Hp->Prop}:fQ' (tE C elt) σ b H P=tE C elt σ H (yy' b P):=rfl
theorem qX' {it:Ci} {own:List Nat} {g:TG} {tc:TT} {au':TL α} {b:α} {P:α->Hp->Prop}:gE' (tI C it) (aY' own g tc au') σ b H P=tI C it σ H (kCl own g tc au' σ b P):=rfl
def yz' (i:Nat) (D:Ends) (σ:L2.St):(Option Int->Bool)×Nat->Hp->Prop:=fun a H2=>True/\∀p,H2 p=none->D.nx (σ.set i (some (.ref p))) (upd H2 p (eF' p a.1 a.2))
theorem qY' {i:Nat} {elt:Ce} {own:List Nat} {t:Ct} {it:Ci} {q:Cqo} {ws:List Nat} {t2:Ct} {it2:Ci} {q2:Cqo}:tS C (.setc2 i elt own t it q ws t2 it2 q2) D σ H=tI C it σ H (kCl own (tG C t) (tQo C q) (gE' (tI C it2) (aY' ws (tG C t2) (tQo C q2) (fQ' (tE C elt)))) σ (fun _=>false,0) (yz' i D σ)):=rfl
theorem vm' {K:W.Frag} {a:Addr} {ns:List Int} (h:SqL K H a (ns.map V.int)) (hl:ns.length<=3999) (q:∀p,H p=none->Q (.ref p) (upd H p (eF' p (inL ns) ns.length))):dm' K .set [.ref a] H Q:=⟨a,ns,rfl,h,hl,q⟩
def yA' (i:Nat) (D:Ends) (σ:L2.St):List (Key×V)->Hp->Prop:=fun a H2=>True/\∀p,H2 p=none->D.nx (σ.set i (some (.ref p))) (upd H2 p (.dK a))
def yB' (i:Nat) (D:Ends) (σ:L2.St):KTL->Hp->Prop:=fun a H2=>okT a H2/\∀p,H2 p=none->D.nx (σ.set i (some (.ref p))) (upd H2 p (.dT (plT a)))
theorem qZ' {i:Nat} {k v:Ce} {own:List Nat} {t:Ct} {it:Ci} {q:Cqo}:tS C (.dctc false i k v own t it q) D σ H=tI C it σ H (kCl own (tG C t) (tQo C q) (hP' (tE C k) (tE C v)) σ [] (yA' i D σ)):=rfl
theorem q0' {i:Nat} {k v:Ce} {own:List Nat} {t:Ct} {it:Ci} {q:Cqo}:tS C (.dctc true i k v own t it q) D σ H=tI C it σ H (kCl own (tG C t) (tQo C q) (hQ' (tE C k) (tE C v)) σ [] (yB' i D σ)):=rfl
def zo' (a:List (Key×V)) (P:List (Key×V)->Hp->Prop) (y:V):VK:=fun v H2=>∃k,y=L2.kV k/\a.length<sizeLine/\P (eg' a k v) H2
def zp' (C:Rc) (σ:L2.St) (v:Ce) (a:List (Key×V)) (P:List (Key×V)->Hp->Prop):VK:=fun y H1=>tE C v σ H1 (zo' a P y)
theorem nA' {k v:Ce} {a:List (Key×V)} {P:List (Key×V)->Hp->Prop}:hP' (tE C k) (tE C v) σ a H P=tE C k σ H (zp' C σ v a P):=rfl
theorem q1' {v:Ce} {a:List (Key×V)} {P:List (Key×V)->Hp->Prop} {y:V}:zp' C σ v a P y H=tE C v σ H (zo' a P y):=rfl
def zq' (a:KTL) (P:KTL->Hp->Prop) (y:V):VK:=fun v H2=>∃(k:List Key) (b:Addr),y=.ref b/\H2 b=some (.tup (k.map L2.kV))/\okT a H2/\(∀x∈a,x.1≠k)/\a.length<sizeLine/\P (a++[(k,b,v)]) H2
def zr' (C:Rc) (σ:L2.St) (v:Ce) (a:KTL) (P:KTL->Hp->Prop):VK:=fun y H1=>tE C v σ H1 (zq' a P y)
theorem nB' {k v:Ce} {a:KTL} {P:KTL->Hp->Prop}:hQ' (tE C k) (tE C v) σ a H P=tE C k σ H (zr' C σ v a P):=rfl
theorem q2' {v:Ce} {a:KTL} {P:KTL->Hp->Prop} {y:V}:zr' C σ v a P y H=tE C v σ H (zq' a P y):=rfl
def yC' (b:List (List Int×Addr)) (P:List (List Int×Addr)->Hp->Prop):VK:=fun v H'=>∃(k:List Int) (p:Addr),v=.ref p/\H' p=some (.tup (k.map V.int))/\Trk H' b/\b.length<4000/\P (y8' b k p) H'
theorem nC' {elt:Ce} {b:List (List Int×Addr)} {P:List (List Int×Addr)->Hp->Prop}:tC' (tE C elt) σ b H P=tE C elt σ H (yC' b P):=rfl
def i7' (neg:Bool) (y:V) (Q:VK):VK:=fun x H2=>(∃a o,x=.ref a/\e4' H2 a y o/\Q (.bl (if neg then !o.isSome else o.isSome)) H2)\/wn' neg y x H2 Q\/wq' neg y x H2 Q
def q3' (C:Rc) (σ:L2.St) (neg:Bool) (b:Ce) (Q:VK):VK:=fun y H1=>tE C b σ H1 (i7' neg y Q)
theorem vn' {neg:Bool} {a b:Ce}:tE C (.din neg a b) σ H Q=tE C a σ H (q3' C σ neg b Q):=rfl
theorem vo' {neg:Bool} {a b:Ce} {Qb:Bool->Hp->Prop}:tQ C (.din neg a b) σ H Qb=tE C a σ H (q3' C σ neg b (kT Qb)):=rfl
theorem nD' {neg:Bool} {b:Ce} {y:V}:q3' C σ neg b Q y H=tE C b σ H (i7' neg y Q):=rfl
theorem lm' {neg:Bool} {k:Option Int} {y:V} {p:Addr} {S:Option Int->Bool} {n:Nat} (hy:y=kO k) (h:H p=some (eF' p S n)) (q:Q (.bl (if neg then !(S k)else S k)) H):i7' neg y Q (.ref p) H:=.inr (.inl ⟨k,p,S,n,hy,rfl,h,q⟩)
theorem q4' {neg:Bool} {k:List Int} {b D:Addr} {L:List NK} (h:H b=some (.tup (k.map V.int))) (hk:hT k≠NH) (hD:H D=some (cv' D L)) (ht:fx' H L) (q:Q (.bl (if neg then !decide (some k∈L.map (aQ Prod.fst))else decide (some k∈L.map (aQ Prod.fst)))) H):i7' neg (.ref b) Q (.ref D) H:=.inr (.inr (.inl ⟨k,b,D,L,rfl,h,hk,rfl,hD,ht,q⟩))
theorem q5' {neg:Bool} {D:Addr} (h:NoR H D) (q:Q (.bl neg) H):i7' neg .non Q (.ref D) H:=.inr (.inr (.inr ⟨rfl,D,rfl,h,q⟩))
theorem vp' {neg:Bool} {y:V} {p:Addr} {o:Option V} (h:e4' H p y o) (q:Q (.bl (if neg then !o.isSome else o.isSome)) H):i7' neg y Q (.ref p) H:=.inl ⟨p,o,rfl,h,q⟩
def gh' (a:Addr) (Q:VK):VK:=fun y H2=>(∃o,e4' H2 a y o/\Q (o.getD .non) H2)\/(y=.non/\NoN H2 a/\Q .non H2)
def vq' (C:Rc) (σ:L2.St) (b:Ce) (Q:VK):VK:=fun x H1=>∃a,x=.ref a/\IsD H1 a/\tE C b σ H1 (gh' a Q)
theorem vr' {a b:Ce}:tE C (.dgt a b) σ H Q=tE C a σ H (vq' C σ b Q):=rfl
def oV' (a:Addr) (y:V) (Q:VK):VK:=fun z H3=>∃o,e4' H3 a y o/\Q (o.getD z) H3
def vs' (C:Rc) (σ:L2.St) (c:Ce) (a:Addr) (Q:VK):VK:=fun y H2=>tE C c σ H2 (oV' a y Q)
theorem ln' {c:Ce} {a:Addr} {y:V}:vs' C σ c a Q y H=tE C c σ H (oV' a y Q):=rfl
theorem dh' {b:Ce} {p:Addr} (h:IsD H p) (q:tE C b σ H (gh' p Q)):vq' C σ b Q (.ref p) H:=⟨p,rfl,h,q⟩
theorem g7' {p:Addr} {y:V} {o:Option V} (h:e4' H p y o) (q:Q (o.getD .non) H):gh' p Q y H:=.inl ⟨o,h,q⟩
theorem g8' {p:Addr} (h:NoN H p) (q:Q .non H):gh' p Q .non H:=.inr ⟨rfl,h,q⟩
end
section
variable {C:Rc} {σ:L2.St} {H:Hp} {Q:VK} {Qb:Bool->Hp->Prop}
def kW1 (C:Rc) (σ:L2.St) (k:Zf) (b:Ce) (Q:VK):VK:=fun x H=>tE C b σ H fun y H'=>rZf k x y H' Q
def kW2 (k:Zf) (x:V) (Q:VK):VK:=fun y H=>rZf k x y H Q
theorem vt' {k:Zf} {b:Ce} {x:V}:kW1 C σ k b Q x H=tE C b σ H (kW2 k x Q):=rfl
theorem nE' {K:W.Frag} {a:Addr} {kvs:List (List Key×V)} {n:Nat} (h:Rd H a (.dT kvs)) (hk:∀kv∈kvs,∃is:List Int,kv.1=is.map Key.inl/\is.length=n+1) (hu:(kvs.map fun kv=>unK kv.1).Pairwise fun x y=>aR' (kI y) (kI x)=false) (q:∀(l:Addr) (as:List Addr),H l=none->as.length=kvs.length->(∀(i:Nat) b kv,as[i]?=some b->kvs[i]?=some kv->H b=some (.tup (kv.1.map L2.kV)))->Q (.ref l) (upd H l (.lst (as.map V.ref)))):dm' K .sortU [.ref a] H Q:=⟨a,kvs,n,rfl,h,hk,hu,q⟩
theorem ij' {K:W.Frag} {a:Addr} {kvs:List (List Key×V)} (h:Rd H a (.dT kvs)) (q:Q (.int kvs.length) H):dm' K .lenD [.ref a] H Q:=.inr ⟨a,kvs,rfl,h,q⟩
section
variable {D:Ends}
def z8' (x y z:V) (sub:Bool) (D:Ends) (σ:L2.St):VK:=fun w H4=>ipI (fun i j=>if sub then i-j else i+j) z w H4 fun u H5=>ee' x y u H5 fun H6=>D.nx σ H6
def zs' (C:Rc) (e:Ce) (sub:Bool) (x:V) (D:Ends) (σ:L2.St):VK:=fun y H2=>gB' C.K x y H2 fun z H3=>tE C e σ H3 (z8' x y z sub D σ)
def z9' (C:Rc) (i:Ce) (sub:Bool) (e:Ce) (D:Ends) (σ:L2.St):VK:=fun x H1=>tE C i σ H1 (zs' C e sub x D σ)
theorem q6' {i e:Ce} {sub:Bool} {x:V}:z9' C i sub e D σ x H=tE C i σ H (zs' C e sub x D σ):=rfl
def vu' (x v:V) (D:Ends) (σ:L2.St):VK:=fun y H3=>(∃a H4,x=.ref a/\pK' H3 a y v H4/\D.nx σ H4)\/∃(a:Addr) (L:List NK) (q:NK),x=.ref a/\v=.bl true/\H3 a=some (cv' a L)/\fx' H3 L/\L.length<4000/\tc' H3 y q/\D.nx σ (upd H3 a (cv' a (ec' L q)))
theorem nF' {a:Addr} {L:List NK} {q:NK} {y:V} (h:H a=some (cv' a L)) (ht:fx' H L) (hz:L.length<4000) (hk:tc' H y q) (k:D.nx σ (upd H a (cv' a (ec' L q)))):vu' (.ref a) (.bl true) D σ y H:=.inr ⟨a,L,q,rfl,rfl,h,ht,hz,hk,k⟩
theorem nG' {a b:Addr} {kvs:List (List Key×V)} {ks:List Key} {v:V} (h:H a=some (.dT kvs)) (hb:H b=some (.tup (ks.map L2.kV))) (hz:kvs.length<sizeLine) (k:D.nx σ (upd H a (.dT (eg' kvs ks v)))):vu' (.ref a) v D σ (.ref b) H:=.inl ⟨a,_,rfl,pK'.t h hb hz,k⟩
def yD' (C:Rc) (i:Ce) (v:V) (D:Ends) (σ:L2.St):VK:=fun x H2=>tE C i σ H2 (vu' x v D σ)
def zt' (C:Rc) (o i:Ce) (D:Ends) (σ:L2.St):VK:=fun v H1=>tE C o σ H1 (yD' C i v D σ)
theorem vv' {o i e:Ce}:tS C (.dput o i e) D σ H=tE C e σ H (zt' C o i D σ):=rfl
theorem q8' {o i:Ce} {v:V}:zt' C o i D σ v H=tE C o σ H (yD' C i v D σ):=rfl
theorem q9' {i:Ce} {v x:V}:yD' C i v D σ x H=tE C i σ H (vu' x v D σ):=rfl
end
def zu' (f:Yf) (Q:VK):VK:=fun x H=>rYf f [x] H Q
theorem oW' {f:Yf} {a:Ce}:tE C (.cal f a) σ H Q=tE C a σ H (zu' f Q):=rfl
def zv' (C:Rc) (Q:VK) (x:V):VK:=fun y H1=>∃(k j:Bool) (a b:Addr) (xs ys:List V),[x,y]=[.ref a,.ref b]/\Sq k C.K H1 a xs/\Sq j C.K H1 b ys/\xs.length=ys.length/\
 ∀(l:Addr) (as:List Addr) (H':Hp),H1 l=none->(∀b u,H1 b=some u->H' b=some u)->(∀p∈as,H1 p=none)->H' l=some (.lst (as.map V.ref))->as.length=xs.length->(∀(i:Nat) p x y,as[i]?=some p->xs[i]?=some x->ys[i]?=some y->H' p=some (.tup [x,y]))->Q (.ref l) H'
def Aa' (C:Rc) (σ:L2.St) (b:Ce) (Q:VK):VK:=fun x H1=>tE C b σ H1 (zv' C Q x)
theorem ra' {b:Ce} {x:V}:Aa' C σ b Q x H=tE C b σ H (zv' C Q x):=rfl
def yE' (C:Rc) (σ:L2.St) (b:Ce) (Q:VK):VK:=fun x H1=>tE C b σ H1 (nl' fun l H2=>∃(a:Addr) (xs:List V) (n:Nat),x=.ref a/\l=some (n:Int)/\0<n/\SqL C.K H2 a xs/\∀p,H2 p=none->Q (.ref p) (upd H2 p (.lst (y9' xs n))))
theorem nH' {b:Ce} {x:V}:yE' C σ b Q x H=tE C b σ H (nl' fun l H2=>∃(a:Addr) (xs:List V) (n:Nat),x=.ref a/\l=some (n:Int)/\0<n/\SqL C.K H2 a xs/\∀p,H2 p=none->Q (.ref p) (upd H2 p (.lst (y9' xs n)))):=rfl
def zw' (C:Rc) (Q:VK) (x:V):VK:=fun y H1=>∃(k j:Bool) (a b:Addr) (ps:List (Str×Str)),[x,y]=[.ref a,.ref b]/\Sq k C.K H1 a (ps.map fun q=>V.str q.1)/\Sq j C.K H1 b (ps.map fun q=>V.str q.2)/\ps.length<64/\
 ∀(l:Addr) (as:List (Addr×Str×Str)) (H':Hp),H1 l=none->(∀b u,H1 b=some u->H' b=some u)->H' l=some (.lst (as.map fun q=>V.ref q.1))->(as.map fun q=>q.2).Perm ps->(as.Pairwise fun x y=>aR' [.inr y.2.1,.inr y.2.2] [.inr x.2.1,.inr x.2.2]=false)->(∀q∈as,H' q.1=some (.tup [.str q.2.1,.str q.2.2]))->Q (.ref l) H'
def Ab' (C:Rc) (σ:L2.St) (b:Ce) (Q:VK):VK:=fun x H1=>tE C b σ H1 (zw' C Q x)
theorem rb' {b:Ce} {x:V}:Ab' C σ b Q x H=tE C b σ H (zw' C Q x):=rfl
def zx' (a:Addr) (y:V) (Q:VK):VK:=fun z H3=>∃o,e4' H3 a y o/\(∀v,o=some v->Q v H3)/\(o=none->∃H4,pK' H3 a y z H4/\Q z H4)
def Ac' (C:Rc) (σ:L2.St) (c:Ce) (a:Addr) (Q:VK):VK:=fun y H2=>tE C c σ H2 (zx' a y Q)
theorem rc' {c:Ce} {a:Addr} {y:V}:Ac' C σ c a Q y H=tE C c σ H (zx' a y Q):=rfl
end
end R3
section
open PySem PySem.Spec PyProof.Rows L2 R3
local macro_rules | `(tactic| symm) => `(tactic| try walk_at "sy")
set_option hygiene false in
local macro_rules | `(tactic| walk_at "sy") => `(tactic| simp only [z6', ra', rb', rc', nH', oU', oT', va', vt', vv', q8', q9', q6', ny', qV', vl', qW', vn', vo', nD', vr', ln', qY', qZ', q0', nz', nC', qX', nA', q1', nB', q2', qT', qU', nv', nw', tY', lc', xT', tZ', t0', xU', t1', t2', t3', t4', t5', t6', t7', t8', t9', ua', m7', xV', ub', ud', m8', ue', xX', qr', qs', uf', ug', qQ', qR', vf', vg', vh', vi', nt', xY', xZ', x0', uh', x1', x2', x3', zX', zY', zZ', z0', z1', x4', yt', yu', yv', qO', z3', qM', ui', uj', g3', ie', uk', ul', um', un', up', m9', x5', qt', x6', na', nb', nc', z2', x7', x9', qp', uu', uv', ya', ut', uw', ux', qu', qv', ne', uy', qx', uB', nf', ng', uC', uD', uE', uG', nh', uH', uI', qz', qA', oI', oJ', uJ', qB', uN', ni', nj', nk', uO', uP', ld', uQ', nm', nn', no', u5', i6', lj', lk', qH', yg', yh', yi', lf', lg', qD', yk', uY', uZ', uW', qG', yo', yp', yq', yr', nr', clr, List.foldl_cons, List.foldl_nil, L2.aQ', aL, List.map_nil, aV, cC, List.cons_append, List.nil_append, aC, Nat.reduceSub, Nat.reduceAdd, List.set_cons_zero, List.set_cons_succ, List.getElem?_cons_zero, List.getElem?_cons_succ, reduceCtorEq, decide_true, decide_false, eq_self, Bool.not_true, Bool.not_false, bne_self_eq_false, BEq.rfl])
namespace LW
open PySem PySem.Spec PyProof.Rows L2 R3
def c0':Css:=(.cons (.ite (.cmp .Lt (.var 1) (.blt .len (.cons (.var 0) .nil))) (.cons (.ret (.idx (.var 0) (.var 1)))
  .nil) .nil)
  (.cons (.ret (.int 0))
  .nil))
def nI':Css:=(.cons (.asg (.name 2) (.call "_law_cell_at" (.cons (.var 0) (.cons (.var 1) .nil))))
  (.cons (.ret (.lst (.cons (.bin .Mult (.blt .abs (.cons (.var 2) .nil)) (.blt .int (.cons (.cmp .GtE (.blt .abs (.cons (.var 2) .nil)) (.bin .Pow (.int 10) (.int 18))) .nil))) (.cons (.bin .Add (.bin .Add (.bin .Mod (.var 2) (.int 2305843009213693951)) (.bin .Mult (.int 39373) (.var 1))) (.int 17)) (.cons (.int 0) .nil)))))
  .nil))
def ik':Css:=(.cons (.ite (.cmp .Gt (.idx (.var 0) (.int 0)) (.int 0)) (.cons (.asg (.name 2) (.bin .Mod (.idx (.var 0) (.int 0)) (.var 1)))
  (.cons (.asg (.sub (.var 0) (.int 0)) (.bin .FloorDiv (.idx (.var 0) (.int 0)) (.var 1)))
  (.cons (.ret (.var 2))
  .nil))) .nil)
  (.cons (.asg (.sub (.var 0) (.int 2)) (.bin .Add (.idx (.var 0) (.int 2)) (.int 1)))
  (.cons (.asg (.name 3) (.bin .Mod (.bin .Mult (.bin .Add (.idx (.var 0) (.int 1)) (.bin .Mult (.int 48271) (.idx (.var 0) (.int 2)))) (.bin .Add (.int 39373) (.idx (.var 0) (.int 2)))) (.int 2147483647)))
  (.cons (.asg (.name 4) (.bin .Mod (.bin .Mult (.bin .Add (.var 3) (.idx (.var 0) (.int 2))) (.bin .Add (.bin .Mod (.var 3) (.int 40009)) (.int 7))) (.int 2147483629)))
  (.cons (.ret (.bin .Mod (.bin .FloorDiv (.bin .Mod (.bin .Add (.bin .Mult (.var 4) (.int 48271)) (.var 3)) (.int 2147483587)) (.int 64)) (.var 1)))
  .nil)))))
def gi':Css:=(.cons (.ite (.val (.blt .isinstance (.cons (.var 1) (.cons (.tup (.cons (.ty "list") (.cons (.ty "tuple") .nil))) .nil)))) (.cons (.ite (.or (.cmp .NotEq (.blt .isinstance (.cons (.var 0) (.cons (.ty "list") .nil))) (.blt .isinstance (.cons (.var 1) (.cons (.ty "list") .nil)))) (.cmp .NotEq (.blt .isinstance (.cons (.var 0) (.cons (.ty "tuple") .nil))) (.blt .isinstance (.cons (.var 1) (.cons (.ty "tuple") .nil))))) (.cons (.ret (.bl false))
  .nil) .nil)
  (.cons (.ret (.and (.cmp .Eq (.blt .len (.cons (.var 0) .nil)) (.blt .len (.cons (.var 1) .nil))) (.blt .all (.cons (.comp (.call "_law_same" (.cons (.var 2) (.cons (.var 3) .nil))) [2,3] (.tup (.cons (.name 2) (.cons (.name 3) .nil))) (.zip (.var 0) (.var 1)) .none .nil) .nil))))
  .nil)) .nil)
  (.cons (.ite (.or (.cmp .Is (.var 1) .non) (.val (.blt .isinstance (.cons (.var 1) (.cons (.ty "str") .nil))))) (.cons (.ret (.and (.cmp .Eq (.var 0) (.var 1)) (.cmp .Eq (.blt .isinstance (.cons (.var 0) (.cons (.ty "str") .nil))) (.blt .isinstance (.cons (.var 1) (.cons (.ty "str") .nil))))))
  .nil) .nil)
  (.cons (.ite (.val (.blt .isinstance (.cons (.var 1) (.cons (.ty "bool") .nil)))) (.cons (.ret (.and (.blt .isinstance (.cons (.var 0) (.cons (.ty "bool") .nil))) (.cmp .Eq (.var 0) (.var 1))))
  .nil) .nil)
  (.cons (.ret (.and (.blt .isinstance (.cons (.var 0) (.cons (.ty "int") .nil))) (.and (.not (.blt .isinstance (.cons (.var 0) (.cons (.ty "bool") .nil)))) (.cmp .Eq (.var 0) (.var 1)))))
  .nil))))
def eO' (K:W.Frag):Sp:=fun vs H Q _=>∃(a:Addr) (ns:List Int) (k:Int),vs=[.ref a,.int k]/\SqL K H a (ns.map V.int)/\0<=k/\∀c:Int,Q (.int c) H
theorem nJ' {ns:List Int} {k:Int} (h0:0<=k) (h1:k<ns.length):∃c:Int,atI (ns.map V.int) k=some (.int c):=by
 obtain⟨j,rfl⟩:=bp h0
 have hk:j<ns.length:=by omega
 exact⟨ns[j],dD' (by rw[au,ac hk];rfl)⟩
theorem lo' {C:Rc} (hN:C.N.length=2):∀vs H Q E,eO' C.K vs H Q E->tSs C c0' { nx:=fun _ H'=>Q .non H',rt:=Q } (L2.aQ' C.N vs) H:=by
 intro vs H Q E h
 obtain⟨a,ns,k,rfl,hs,hk,q⟩:=h
 rw[as' hN]
 unfold c0'
 symm
 refine dg' hs ?_
 rw[af]
 symm
 refine bs' (fun c=>?_) fun _=>?_
 .obtain⟨v,hv⟩:=nJ' hk c
  symm
  exact a7' hs hv (q v)
 .symm
  exact q 0
def lp' (K:W.Frag):Sp:=fun vs H Q _=>∃(a:Addr) (ns:List Int) (k:Int),vs=[.ref a,.int k]/\SqL K H a (ns.map V.int)/\0<=k/\k<=1000/\∀(p:Addr) (x y:Int),H p=none->0<=x->0<=y->y<2 ^ 62->Q (.ref p) (upd H p (ge' x y 0))
theorem nK' {C:Rc} (hN:C.N.length=3) (hf:C.fs "_law_cell_at"=some (eO' C.K)):∀vs H Q E,lp' C.K vs H Q E->tSs C nI' { nx:=fun _ H'=>Q .non H',rt:=Q } (L2.aQ' C.N vs) H:=by
 intro vs H Q E h
 obtain⟨a,ns,k,rfl,hs,hk,hk2,q⟩:=h
 rw[as' hN]
 unfold nI'
 symm
 refine ao' hf ?_
 symm
 refine⟨a,ns,k,rfl,hs,hk,fun c=>?_⟩
 symm
 have hm0:0<=c % 2305843009213693951:=Int.emod_nonneg _ (by decide)
 have hm1:c % 2305843009213693951<2305843009213693951:=cy _ (by decide)
 refine⟨⟨by decide,by decide,by decide⟩,?_,by decide,.inl ⟨by decide,by decide⟩,by decide,fun p hp=>q p _ _ hp ?_ ?_ ?_⟩
 .refine .inr (.inl ⟨?_,?_⟩)<;>split<;>split<;>decide
 .split<;>split<;>omega
 .omega
 .omega
section
variable {K:W.Frag} {H:Hp} {b:Addr} {x y z:Int} {Q:VK}
theorem ix0 (h:H b=some (ge' x y z)) (q:Q (.int x) H):gB' K (.ref b) (.int 0) H Q\/hJ' K (.ref b) (.int 0) H Q:=.inl ⟨b,_,0,_,rfl,rfl,SqL.of h,rfl,q⟩
theorem ix1 (h:H b=some (ge' x y z)) (q:Q (.int y) H):gB' K (.ref b) (.int 1) H Q\/hJ' K (.ref b) (.int 1) H Q:=.inl ⟨b,_,1,_,rfl,rfl,SqL.of h,rfl,q⟩
theorem ix2 (h:H b=some (ge' x y z)) (q:Q (.int z) H):gB' K (.ref b) (.int 2) H Q\/hJ' K (.ref b) (.int 2) H Q:=.inl ⟨b,_,2,_,rfl,rfl,SqL.of h,rfl,q⟩
theorem st0 {u:Int} {Q:Hp->Prop} (h:H b=some (ge' x y z)) (q:Q (upd H b (ge' u y z))):ee' (.ref b) (.int 0) (.int u) H Q:=⟨b,_,0,0,rfl,rfl,h,rfl,q⟩
theorem st2 {u:Int} {Q:Hp->Prop} (h:H b=some (ge' x y z)) (q:Q (upd H b (ge' x y u))):ee' (.ref b) (.int 2) (.int u) H Q:=⟨b,_,2,2,rfl,rfl,h,rfl,q⟩
end
def fp':Sp:=fun vs H Q _=>∃(b:Addr) (x y z m:Int),vs=[.ref b,.int m]/\H b=some (ge' x y z)/\0<=x/\0<=y/\y<2 ^ 62/\0<=z/\z<=2 ^ 40/\0<m/\m<4611686018427387904/\
 ∀(r x' z':Int),0<=r->r<m->0<=x'->0<=z'->z'<=z+1->Q (.int r) (upd H b (ge' x' y z'))
theorem lq' {C:Rc} (hN:C.N.length=5):∀vs H Q E,fp' vs H Q E->tSs C ik' { nx:=fun _ H'=>Q .non H',rt:=Q } (L2.aQ' C.N vs) H:=by
 intro vs H Q E h
 obtain⟨b,x,y,z,m,rfl,hb,hx,hy,hy2,hz,hz2,hm,hm2,q⟩:=h
 rw[as' hN]
 unfold ik'
 walk_at "sy"
 refine ix0 hb ?_
 walk_at "sy"
 refine bs' (fun c=>?_) fun _=>?_
 .walk_at "sy"
  refine ix0 hb ?_
  walk_at "sy"
  refine⟨hm,?_⟩
  refine ix0 hb ?_
  walk_at "sy"
  refine⟨⟨hm,.inr (ai ((Nat.log2_lt (by omega)).mpr (show m.natAbs<2 ^ 62 by omega)) (by decide))⟩,st0 hb ?_⟩
  walk_at "sy"
  exact q _ _ _ (Int.emod_nonneg _ (by omega)) (cy _ hm) (Int.ediv_nonneg hx (by omega)) hz (by omega)
 .walk_at "sy"
  refine ix2 hb ?_
  walk_at "sy"
  refine st2 hb ?_
  have hb':upd H b (ge' x y (z+1)) b=some (ge' x y (z+1)):=aa'
  walk_at "sy"
  refine ix1 hb' ?_
  walk_at "sy"
  refine ix2 hb' ?_
  walk_at "sy"
  refine⟨.inl ⟨by decide,by decide⟩,?_⟩
  refine ix2 hb' ?_
  walk_at "sy"
  refine⟨.inr (.inl ⟨by omega,by omega⟩),by decide,?_⟩
  refine ix2 hb' ?_
  walk_at "sy"
  generalize (y+48271*(z+1))*(39373+(z+1)) % 2147483647=once
  have ho0:0<=once % 40009:=Int.emod_nonneg _ (by decide)
  have ho1:once % 40009<40009:=cy _ (by decide)
  refine⟨by decide,.inr (.inl ⟨by omega,by omega⟩),by decide,.inr (.inl ⟨by decide,by decide⟩),by decide,⟨by decide,by decide⟩,hm,?_⟩
  exact q _ _ _ (Int.emod_nonneg _ (by omega)) (cy _ hm) hx (by omega) (by omega)
def il':Sp:=fun vs H Q _=>∃(b:Addr) (n:Nat) (m:Int),vs=[.ref b,.int m]/\H b=some (fn' b n)/\n<=2 ^ 40/\0<m/\m<4611686018427387904/\∀(r:Int) (H':Hp),0<=r->r<m->Go 1 H H'->Q (.int r) H'
theorem rd' {P:Program} {w:World} {K:W.Frag} {mg:Str->Option Value} {base:Heap} {k:Nat} {f:Addr} {fd:FuncData} {ps:List Str} (hp:ps.length=2) (F:FnOk P w K mg base CX0 k f fd ps fp'):FnOk P w K mg base CX0 k f fd ps il':=by
 refine qo' (lb' (sp':=fun vs H Q E=>fp' vs H (zc' Q) E) F fun _ _ _ _ h=>h) (fun vs H Q E h=>?_) fun vs H Q E h=>?_
 .obtain⟨b,n,m,rfl,hb,hn,hm,hm2,q⟩:=h
  refine⟨b,n,hb,fun x y z hx hy hy2 hz hzn=>⟨b,x,y,z,m,rfl,aa',hx,hy,hy2,hz,by omega,hm,hm2,fun r x' z' h1 h2 h3 h4 h5=>?_⟩⟩
  refine⟨b,x',y,z',n+1,aa',h3,hy,hy2,h4,by omega,?_⟩
  refine q r _ h1 h2 ?_
  rw[gx']
  exact Go.draw hb (ah _) _
 .obtain⟨b,n,m,rfl,_⟩:=h
  rw[hp]
  rfl
def lr' (K:W.Frag):Sp:=fun vs H Q _=>∃(a:Addr) (ns:List Int) (k:Int),vs=[.ref a,.int k]/\SqL K H a (ns.map V.int)/\0<=k/\k<=1000/\∀(p:Addr),H p=none->Q (.ref p) (upd H p (fn' p 0))
theorem vw' {P:Program} {w:World} {K:W.Frag} {mg:Str->Option Value} {base:Heap} {k:Nat} {f:Addr} {fd:FuncData} {ps:List Str} (F:FnOk P w K mg base CX0 k f fd ps (lp' K)):FnOk P w K mg base CX0 k f fd ps (lr' K):=by
 refine lb' F fun vs H Q E h=>?_
 obtain⟨a,ns,k,rfl,hs,h0,h1,q⟩:=h
 refine⟨a,ns,k,rfl,hs,h0,h1,fun p x y hp hx hy hy2=>⟨p,x,y,0,0,aa',hx,hy,hy2,by omega,by omega,?_⟩⟩
 rw[gx']
 exact q p hp
theorem _root_.R3.Go.boxed {c n:Nat} {H H':Hp} {b:Addr} (g:Go c H H') (h:H b=some (fn' b n)) (hn:n+c<=2 ^ 40):∃m,H' b=some (fn' b m)/\m<=n+c/\m<=2 ^ 40:=by
 obtain⟨m,hm,e⟩:=g.box b n h
 exact⟨m,e,hm,by omega⟩
def Sc:V->Bool
 | .non=>true
 | .bl _=>true
 | .int _=>true
 | .str _=>true
 |_=>false
def Eqv (H:Hp):Nat->V->V->Prop
 |0,v,w=>v=w/\Sc v=true
 |n+1,v,w=>(v=w/\Sc v=true)\/∃a b xs ys,v=.ref a/\w=.ref b/\((H a=some (.lst xs)/\H b=some (.lst ys))\/(H a=some (.tup xs)/\H b=some (.tup ys)))/\xs.length<=sizeLine/\xs.length=ys.length/\∀(i:Nat) x y,xs[i]?=some x->ys[i]?=some y->Eqv H n x y
theorem Eqv.mono {H H':Hp} (s:aw' H H'):∀{n:Nat} {v w:V},Eqv H n v w->Eqv H' n v w
 |0,_,_,h=>h
 |n+1,v,w,h=>by
  rcases h with h|⟨a,b,xs,ys,rfl,rfl,hab,hz,hl,he⟩
  .exact .inl h
  .refine .inr ⟨a,b,xs,ys,rfl,rfl,?_,hz,hl,fun i x y h1 h2=>Eqv.mono s (he i x y h1 h2)⟩
   rcases hab with⟨h1,h2⟩|⟨h1,h2⟩
   .exact .inl ⟨s _ _ h1,s _ _ h2⟩
   .exact .inr ⟨s _ _ h1,s _ _ h2⟩
theorem Eqv.int {H:Hp} {n:Nat} {i:Int}:Eqv H n (.int i) (.int i):=by
 cases n
 .exact⟨rfl,rfl⟩
 .exact .inl ⟨rfl,rfl⟩
theorem zy' {v:V} (h:Sc v=true):dSc v=true:=by cases v<;>first|(cases h;done)|rfl
theorem Eqv.dq {H:Hp}:∀{n:Nat} {v w:V},Eqv H n v w->Dq H n v w
 |0,_,_,h=>⟨h.1,zy' h.2⟩
 |n+1,v,w,h=>by
  rcases h with h|⟨a,b,xs,ys,rfl,rfl,hab,hz,hl,he⟩
  .exact .inl ⟨h.1,zy' h.2⟩
  .exact .inr ⟨a,b,xs,ys,rfl,rfl,hab,hl,fun i x y h1 h2=>(he i x y h1 h2).dq⟩
def cx' (n:Nat):Sp:=fun vs H Q _=>∃v w,vs=[v,w]/\Eqv H n v w/\∀H',aw' H H'->Q (.bl true) H'
section
variable {K:W.Frag} {H:Hp} {Q:VK}
theorem cN' {x:V} {T c:String} {k:Bool} (h:a4' H x=some T) (hk:isT T c=k) (hT:T∈bS') (hc:c∈["bool","int","str","list","tuple","dict"]) (q:Q (.bl k) H):dm' K .isinstance [x,.ty c] H Q:=u6' h hT hc (by rw[hk];exact q)
theorem rT' {x:V} {T c d:String} {p:Addr} {k:Bool} (h:a4' H x=some T) (hp:H p=some (.tup [.ty c,.ty d])) (hk:(isT T c || isT T d)=k) (hT:T∈bS') (hc:c∈["bool","int","str","list","tuple","dict"]) (hd:d∈["bool","int","str","list","tuple","dict"]) (q:Q (.bl k) H):dm' K .isinstance [x,.ref p] H Q:=qI' h hT hp hc hd (by rw[hk];exact q)
theorem i8' {x:V} (h:rK' x x=true) (q:Q (.bl true) H):bu' K .Eq x x H Q:=by
 rw[u7' h,decide_eq_true rfl]
 exact q
end
theorem gj' {C:Rc} {n:Nat} (hN:C.N.length=4) (hS:∀m,n=m+1->C.fs "_law_same"=some (cx' m)):∀vs H Q E,cx' n vs H Q E->tSs C gi' { nx:=fun _ H'=>Q .non H',rt:=Q } (L2.aQ' C.N vs) H:=by
 intro vs H Q E h
 obtain⟨v,w,rfl,he,q⟩:=h
 rw[as' hN]
 unfold gi'
 have hcase:(v=w/\Sc v=true)\/∃m a b xs ys,n=m+1/\v=.ref a/\w=.ref b/\((H a=some (.lst xs)/\H b=some (.lst ys))\/(H a=some (.tup xs)/\H b=some (.tup ys)))/\xs.length<=sizeLine/\xs.length=ys.length/\∀(i:Nat) x y,xs[i]?=some x->ys[i]?=some y->Eqv H m x y:=by
  cases n with
  |zero=>exact .inl he
  |succ m=>
   rcases he with h|⟨a,b,xs,ys,h⟩
   .exact .inl h
   .exact .inr ⟨m,a,b,xs,ys,rfl,h⟩
 walk_at "sy"
 refine⟨by decide,fun p hp=>?_⟩
 have sp:=af' hp (.tup [.ty "list",.ty "tuple"])
 have hpp:upd H p (.tup [.ty "list",.ty "tuple"]) p=some (.tup [.ty "list",.ty "tuple"]):=aa'
 generalize upd H p (.tup [.ty "list",.ty "tuple"])=H1 at sp hpp ⊢
 rcases hcase with⟨rfl,hsc⟩|⟨m,a,b,xs,ys,rfl,rfl,rfl,hab,hz,hl,hel⟩
 .cases v with
  |byt _=>cases hsc
  |flt _=>cases hsc
  |ref _=>cases hsc
  |ty _=>cases hsc
  |non=>
   refine rT' (T:="NoneType") rfl hpp (k:=false) rfl (by decide) (by decide) (by decide) ?_
   walk_at "sy"
   refine i8' rfl ?_
   walk_at "sy"
   refine cN' (T:="NoneType") rfl (k:=false) rfl (by decide) (by decide) ?_
   walk_at "sy"
   refine cN' (T:="NoneType") rfl (k:=false) rfl (by decide) (by decide) ?_
   walk_at "sy"
   exact q H1 sp
  |bl c=>
   refine rT' (T:="bool") rfl hpp (k:=false) rfl (by decide) (by decide) (by decide) ?_
   walk_at "sy"
   refine cN' (T:="bool") rfl (k:=false) rfl (by decide) (by decide) ?_
   walk_at "sy"
   refine cN' (T:="bool") rfl (k:=true) rfl (by decide) (by decide) ?_
   walk_at "sy"
   refine cN' (T:="bool") rfl (k:=true) rfl (by decide) (by decide) ?_
   walk_at "sy"
   exact q H1 sp
  |int i=>
   refine rT' (T:="int") rfl hpp (k:=false) rfl (by decide) (by decide) (by decide) ?_
   walk_at "sy"
   refine cN' (T:="int") rfl (k:=false) rfl (by decide) (by decide) ?_
   walk_at "sy"
   refine cN' (T:="int") rfl (k:=false) rfl (by decide) (by decide) ?_
   walk_at "sy"
   refine cN' (T:="int") rfl (k:=true) rfl (by decide) (by decide) ?_
   walk_at "sy"
   refine cN' (T:="int") rfl (k:=false) rfl (by decide) (by decide) ?_
   walk_at "sy"
   exact q H1 sp
  |str x=>
   refine rT' (T:="str") rfl hpp (k:=false) rfl (by decide) (by decide) (by decide) ?_
   walk_at "sy"
   refine cN' (T:="str") rfl (k:=true) rfl (by decide) (by decide) ?_
   walk_at "sy"
   refine cN' (T:="str") rfl (k:=true) rfl (by decide) (by decide) ?_
   walk_at "sy"
   refine cN' (T:="str") rfl (k:=true) rfl (by decide) (by decide) ?_
   walk_at "sy"
   exact q H1 sp
 .have fin:∀(J:Bool),(Sq J C.K H1 a xs/\Sq J C.K H1 b ys)->(∀H',aw' H1 H'->Sq J C.K H' a xs/\Sq J C.K H' b ys) ->
    gf' C (.call "_law_same" (.cons (.var 2) (.cons (.var 3) .nil))) [2,3] (.tup (.cons (.name 2) (.cons (.name 3) .nil))) .none [some (.ref a),some (.ref b),none,none] (kA1 C [some (.ref a),some (.ref b),none,none] .nil (yb' C .all Q)) (Itz J C.K a b) H1:=by
   intro J h0 hk
   refine u3' hl (fun i zs H'=>zs=aC i (.bl true)/\aw' H1 H') ⟨rfl,aw'.refl _⟩ (fun i zs H' p=>hk H' p.2) ?_ ?_
   .rintro i zs H' x y p R hx hy hp' ⟨rfl,s⟩ hR
    refine d1' (SqT.of aa') ?_
    walk_at "sy"
    refine ao' (hS m rfl) ?_
    walk_at "sy"
    have s2:=s.trans (af' hp' (.tup [x,y]))
    refine⟨x,y,rfl,(hel i x y hx hy).mono (sp.trans s2),fun H2 s3=>?_⟩
    walk_at "sy"
    have hi:i<xs.length:=by
     rcases cQ i xs.length with h|h
     .exact h
     .rw[aR.mpr h]at hx;cases hx
    refine⟨by rw[List.length_replicate];omega,hR _ _ ⟨?_,s2.trans s3⟩⟩
    rw[List.replicate_succ',List.append_cancel_left_eq]
   .rintro zs H' ⟨rfl,s⟩ p hp'
    walk_at "sy"
    have e:aC xs.length (V.bl true)=(aC xs.length true).map V.bl:=by simp
    refine oQ' (bs:=aC xs.length true) (SqL.of (by rw[<- e];exact aa')) ?_
    rw[show(aC xs.length true).all id=true by simp]
    exact q _ ((sp.trans s).trans (af' hp' _))
  rcases hab with⟨ha,hb⟩|⟨ha,hb⟩
  .have ha1:=sp _ _ ha
   have hb1:=sp _ _ hb
   have ta:a4' H1 (.ref a)=some "list":=by simp only[a4',ha1]
   have tb:a4' H1 (.ref b)=some "list":=by simp only[a4',hb1]
   refine rT' tb hpp (k:=true) rfl (by decide) (by decide) (by decide) ?_
   walk_at "sy"
   refine cN' ta (k:=true) rfl (by decide) (by decide) ?_
   walk_at "sy"
   refine cN' tb (k:=true) rfl (by decide) (by decide) ?_
   walk_at "sy"
   refine cN' ta (k:=false) rfl (by decide) (by decide) ?_
   walk_at "sy"
   refine cN' tb (k:=false) rfl (by decide) (by decide) ?_
   walk_at "sy"
   refine dg' (SqL.of ha1) ?_
   walk_at "sy"
   refine dg' (SqL.of hb1) ?_
   rw[hl]
   walk_at "sy"
   exact qE' (SqL.of ha1) (SqL.of hb1) (fin false ⟨SqL.of ha1,SqL.of hb1⟩ fun H' s=>⟨SqL.of (s _ _ ha1),SqL.of (s _ _ hb1)⟩)
  .have ha1:=sp _ _ ha
   have hb1:=sp _ _ hb
   have ta:a4' H1 (.ref a)=some "tuple":=by simp only[a4',ha1]
   have tb:a4' H1 (.ref b)=some "tuple":=by simp only[a4',hb1]
   refine rT' tb hpp (k:=true) rfl (by decide) (by decide) (by decide) ?_
   walk_at "sy"
   refine cN' ta (k:=false) rfl (by decide) (by decide) ?_
   walk_at "sy"
   refine cN' tb (k:=false) rfl (by decide) (by decide) ?_
   walk_at "sy"
   refine cN' ta (k:=true) rfl (by decide) (by decide) ?_
   walk_at "sy"
   refine cN' tb (k:=true) rfl (by decide) (by decide) ?_
   walk_at "sy"
   refine d3' (SqT.of ha1) ?_
   walk_at "sy"
   refine d3' (SqT.of hb1) ?_
   rw[hl]
   walk_at "sy"
   exact qF' (SqT.of ha1) (SqT.of hb1) (fin true ⟨SqT.of ha1,SqT.of hb1⟩ fun H' s=>⟨SqT.of (s _ _ ha1),SqT.of (s _ _ hb1)⟩)
end LW
namespace LW
open PySem PySem.Spec PyProof.Rows L2 R3
abbrev Rm:=Option Nat×Option Nat
def oV:Option Nat->V
 |none=>.non
 |some n=>.int n
def Tp (H H':Hp):Prop:=∀a xs,H a=some (.tup xs)->H' a=some (.tup xs)
theorem Tp.refl {H:Hp}:Tp H H:=fun _ _ h=>h
theorem Tp.trans {H H1 H2:Hp} (a:Tp H H1) (b:Tp H1 H2):Tp H H2:=fun c x h=>b c x (a c x h)
theorem ag' {H H':Hp} (s:aw' H H'):Tp H H':=fun a xs h=>s _ _ h
theorem vx' {H:Hp} {p:Addr} {xs:List V} (h:H p=some (.lst xs)) (o:HO):Tp H (upd H p o):=fun a ys e=>by
 rw[ad' (fun z=>by subst z;rw[h]at e;cases e)]
 exact e
def eP' (H:Hp) (v:V) (r:Rm):Prop:=∃p,v=.ref p/\H p=some (.tup [oV r.1,oV r.2])
theorem eP'.mono {H H':Hp} {v:V} {r:Rm} (t:Tp H H') (h:eP' H v r):eP' H' v r:=by
 obtain⟨p,e,h⟩:=h
 exact⟨p,e,t _ _ h⟩
def bv' (H:Hp):List V->List Rm->Prop
 | [],[]=>True
 |v :: vs,r :: rs=>eP' H v r/\bv' H vs rs
 |_,_=>False
theorem bv'.mono {H H':Hp} (t:Tp H H'):∀{vs:List V} {M:List Rm},bv' H vs M->bv' H' vs M
 | [],[],_=>trivial
 |v :: vs,r :: rs,h=>⟨h.1.mono t,bv'.mono t h.2⟩
 | [],_ :: _,h=>h.elim
 |_ :: _,[],h=>h.elim
theorem bv'.len {H:Hp}:∀{vs:List V} {M:List Rm},bv' H vs M->vs.length=M.length
 | [],[],_=>rfl
 |v :: vs,r :: rs,h=>by simp[bv'.len h.2]
 | [],_ :: _,h=>h.elim
 |_ :: _,[],h=>h.elim
theorem bv'.snoc {H:Hp} {v:V} {r:Rm} (hr:eP' H v r):∀{vs:List V} {M:List Rm},bv' H vs M->bv' H (vs++[v]) (M++[r])
 | [],[],_=>⟨hr,trivial⟩
 |v :: vs,r :: rs,h=>⟨h.1,bv'.snoc hr h.2⟩
 | [],_ :: _,h=>h.elim
 |_ :: _,[],h=>h.elim
theorem bv'.get {H:Hp}:∀{vs:List V} {M:List Rm} {i:Nat} {r:Rm},bv' H vs M->M[i]?=some r->∃p,vs[i]?=some (.ref p)/\H p=some (.tup [oV r.1,oV r.2])
 | [],[],i,r,_,e=>by cases e
 |v :: vs,r :: rs,0,r',h,e=>by
  cases e
  obtain⟨p,rfl,hp⟩:=h.1
  exact⟨p,rfl,hp⟩
 |v :: vs,r :: rs,i+1,r',h,e=>bv'.get (i:=i) h.2 (by simpa using e)
 | [],_ :: _,_,_,h,_=>h.elim
 |_ :: _,[],_,_,h,_=>h.elim
def IsM (H:Hp) (a:Addr) (M:List Rm):Prop:=∃vs,H a=some (.tup vs)/\bv' H vs M
theorem IsM.mono {H H':Hp} {a:Addr} {M:List Rm} (t:Tp H H') (h:IsM H a M):IsM H' a M:=by
 obtain⟨vs,h1,h2⟩:=h
 exact⟨vs,t _ _ h1,h2.mono t⟩
def OkR (N:Nat) (r:Rm):Prop:=(∀n,r.1=some n->n<N)/\∀n,r.2=some n->n<N
def OkM (M:List Rm):Prop:=∀r∈M,OkR M.length r
def nV (n:Nat):V:=.int n
theorem nL' {H:Hp} {P:Rm->Prop}:∀{vs:List V},(∀m,m<vs.length->∃r v,P r/\vs[m]?=some v/\eP' H v r)->∃M,bv' H vs M/\∀r∈M,P r
 | [],_=>⟨[],trivial,fun r hr=>by cases hr⟩
 |v :: vs,h=>by
  obtain⟨r,v',ho,e,hr⟩:=h 0 (by simp)
  cases e
  obtain⟨M,h1,h2⟩:=nL' (vs:=vs) fun m hm=>by
   obtain⟨r,v,h1,h2,h3⟩:=h (m+1) (by simpa using hm)
   exact⟨r,v,h1,by simpa using h2,h3⟩
  exact⟨r :: M,⟨hr,h1⟩,fun x hx=>by
   rcases ak.mp hx with rfl|hx
   .exact ho
   .exact h2 x hx⟩
end LW
namespace LW
open PySem PySem.Spec PyProof.Rows L2 R3
def dt':Css:=(.cons (.asg (.name 3) (.var 1))
  (.cons (.for_ (.name 4) (.val (.var 2)) (.cons (.ite (.cmp .Is (.var 3) .non) (.cons (.ret .non)
  .nil) .nil)
  (.cons (.asg (.name 3) (.idx (.idx (.var 0) (.var 3)) (.blt .int (.cons (.var 4) .nil))))
  .nil)))
  (.cons (.ret (.var 3))
  .nil)))
def stp (M:List Rm) (r:Nat) (c:Bool):Option Nat:=match M[r]? with
 |some rm=>if c then rm.2 else rm.1
 |none=>none
def wk (M:List Rm) (o:Option Nat) (row:List Bool):Option Nat:=row.foldl (fun o c=>o.bind fun r=>stp M r c) o
theorem ls' {M:List Rm} {row:List Bool}:wk M none row=none:=by
 induction row with
 |nil=>rfl
 |cons c row ih=>exact ih
theorem oX' {M:List Rm} {o:Option Nat} {a b:List Bool}:wk M o (a++b)=wk M (wk M o a) b:=by unfold wk;rw[List.foldl_append]
theorem re' {M:List Rm} {o:Option Nat} {row:List Bool} {i:Nat} {c:Bool} (h:row[i]?=some c):wk M o (row.take (i+1))=(wk M o (row.take i)).bind fun r=>stp M r c:=by
 rw[bB,h]
 show wk M o (row.take i++[c])=_
 rw[oX']
 rfl
theorem vy' {M:List Rm} {o:Option Nat} {row:List Bool} {i:Nat} (h:wk M o (row.take i)=none):wk M o row=none:=by
 rw[<- bw i row,oX',h,ls']
theorem vz' {M:List Rm} (hM:OkM M) {r:Nat} {c:Bool} {n:Nat} (h:stp M r c=some n):n<M.length:=by
 unfold stp at h
 cases e:M[r]? with
 |none=>rw[e]at h;cases h
 |some rm=>
  rw[e]at h
  have:=hM rm (av e)
  cases c
  .exact this.1 n h
  .exact this.2 n h
theorem vA' {M:List Rm} (hM:OkM M):∀{row:List Bool} {o:Option Nat} {n:Nat},(∀m,o=some m->m<M.length)->wk M o row=some n->n<M.length
 | [],o,n,ho,h=>ho n h
 |c :: row,o,n,ho,h=>vA' hM (row:=row) (o:=o.bind fun r=>stp M r c) (fun m hm=>by
   cases o with
   |none=>cases hm
   |some r=>exact vz' hM hm) h
theorem rf' {C:Rc} {H:Hp} {a:Addr} {M:List Rm} {r:Nat} {c:Bool} {Q:VK} (hM:IsM H a M) (hr:r<M.length) (q:∀p,(∀Q':VK,Q' (oV (stp M r c)) H->gB' C.K (.ref p) (.int (if c then 1 else 0)) H Q'\/hJ' C.K (.ref p) (.int (if c then 1 else 0)) H Q')->Q (.ref p) H):gB' C.K (.ref a) (.int r) H Q\/hJ' C.K (.ref a) (.int r) H Q:=by
 obtain⟨vs,ha,hv⟩:=hM
 obtain⟨p,hp,hpt⟩:=hv.get (ac hr)
 refine aL' (SqT.of ha) (v:=.ref p) (dD' hp) (q p fun Q' q'=>?_)
 refine qL' (SqT.of hpt) ?_
 have e:stp M r c=if c then M[r].2 else M[r].1:=by unfold stp;rw[ac hr]
 rw[e]at q'
 cases c<;>exact q'
def eQ':Sp:=fun vs H Q _=>∃(a:Addr) (M:List Rm) (r:Nat) (row:List Bool),vs=[.ref a,.int r,.str (tx row)]/\IsM H a M/\OkM M/\r<M.length/\Q (oV (wk M (some r) row)) H
theorem lu' {C:Rc} (hN:C.N.length=5):∀vs H Q E,eQ' vs H Q E->tSs C dt' { nx:=fun _ H'=>Q .non H',rt:=Q } (L2.aQ' C.N vs) H:=by
 intro vs H Q E h
 obtain⟨a,M,r,row,rfl,hM,hO,hr,q⟩:=h
 rw[as' hN]
 unfold dt'
 walk_at "sy"
 refine lh' (u2' (fun i σ H'=>H'=H/\∃x,σ=[some (.ref a),some (.int r),some (.str (tx row)),some (oV (wk M (some r) (row.take i))),x]) ⟨rfl,none,rfl⟩ ?_ ?_)
 .rintro i c σ H' hc ⟨rfl,x,rfl⟩
  walk_at "sy"
  cases e:wk M (some r) (row.take i)with
  |none=>
   simp only[oV]
   walk_at "sy"
   rw[vy' e]at q
   exact q
  |some m=>
   have hm:=vA' hO (fun k hk=>by cases hk;exact hr) e
   simp only[oV]
   walk_at "sy"
   refine rf' (c:=c) hM hm fun p hp=>?_
   walk_at "sy"
   refine hp _ ?_
   walk_at "sy"
   refine⟨trivial,some (.str (tx [c])),?_⟩
   rw[re' hc,e]
   rfl
 .rintro σ H' ⟨rfl,x,rfl⟩
  rw[bj]
  walk_at "sy"
  exact q
end LW
namespace LW
open PySem PySem.Spec PyProof.Rows L2 R3
theorem gk' {H H':Hp} {a:Addr} {o:HO} (s:aw' H H') (h:H a=none):aw' H (upd H' a o):=fun b u q=>by
 rw[ad' (aj' q h)]
 exact s b u q
def ow (f:Nat->Nat):Option Nat->Nat
 |none=>0
 |some m=>f m
end LW
namespace TM
open PySem PySem.Spec PyProof.Rows L2 R3 LW
def bV':Css:=(.cons (.asg (.name 2) (.blt .set (.cons (.var 1) .nil)))
  (.cons (.setc2 3 (.var 5) [4,5] (.name 4) (.val (.var 1)) .none [5] (.name 5) (.val (.idx (.var 0) (.var 4))) .none)
  (.cons (.ret (.comp (.var 4) [4] (.name 4) (.val (.var 1)) (.some (.and (.din false (.var 4) (.var 3)) (.or (.din false (.idx (.idx (.var 0) (.var 4)) (.int 0)) (.var 2)) (.din false (.idx (.idx (.var 0) (.var 4)) (.int 1)) (.var 2))))) .nil))
  .nil)))
def bW':Css:=(.cons (.dctc false 2 (.var 4) (.var 3) [3,4] (.tup (.cons (.name 3) (.cons (.name 4) .nil))) (.enum (.var 1)) .none)
  (.cons (.ret (.blt .tuple (.cons (.comp (.tup (.cons (.dgt (.var 2) (.idx (.idx (.var 0) (.var 4)) (.int 0))) (.cons (.dgt (.var 2) (.idx (.idx (.var 0) (.var 4)) (.int 1))) .nil))) [4] (.name 4) (.val (.var 1)) .none .nil) .nil)))
  .nil))
def bX':Css:=(.cons (.asg (.name 1) (.blt .list (.cons (.blt .range (.cons (.blt .len (.cons (.var 0) .nil)) .nil)) .nil)))
  (.cons (.asg (.name 2) (.call "lasting" (.cons (.var 0) (.cons (.var 1) .nil))))
  (.cons (.whl (.cmp .Lt (.blt .len (.cons (.var 2) .nil)) (.blt .len (.cons (.var 1) .nil))) (.cons (.asg (.name 1) (.var 2))
  (.cons (.asg (.name 2) (.call "lasting" (.cons (.var 0) (.cons (.var 1) .nil))))
  .nil)))
  (.cons (.ret (.tup (.cons (.call "part_of" (.cons (.var 0) (.cons (.var 1) .nil))) (.cons (.var 1) .nil))))
  .nil))))
def oI (o:Option Nat):Option Int:=o.map Int.ofNat
theorem nM' {o:Option Nat}:oV o=kO (oI o):=by cases o<;>rfl
theorem oY' {a b:Option Nat} (h:oI a=oI b):a=b:=by
 cases a<;>cases b<;>simp[oI]at h ⊢
 omega
def fs1 (M:List Rm) (r:Nat):Option Nat:=(M[r]?.getD (none,none)).1
def fs2 (M:List Rm) (r:Nat):Option Nat:=(M[r]?.getD (none,none)).2
theorem d4' {C:Rc} {H:Hp} {a:Addr} {M:List Rm} {r:Nat} {Q:VK} (hM:IsM H a M) (hr:r<M.length) (q:∀p,H p=some (.tup [oV (fs1 M r),oV (fs2 M r)])->Q (.ref p) H):gB' C.K (.ref a) (.int r) H Q\/hJ' C.K (.ref a) (.int r) H Q:=by
 obtain⟨vs,ha,hv⟩:=hM
 obtain⟨p,hp,hpt⟩:=hv.get (ac hr)
 refine aL' (SqT.of ha) (v:=.ref p) (dD' hp) (q p ?_)
 unfold fs1 fs2
 rw[ac hr]
 exact hpt
def ldS (M:List Rm) (rs:List Nat):Option Int->Bool:=fun k=>rs.any fun r=>decide (k=oI (fs1 M r)) || decide (k=oI (fs2 M r))
theorem nN' {M:List Rm} {rs:List Nat} {r:Nat}:ldS M (rs++[r])=fun k=>(ldS M rs k || decide (k=oI (fs1 M r))) || decide (k=oI (fs2 M r)):=by
 funext k
 unfold ldS
 rw[List.any_append]
 simp[Bool.or_assoc]
def inR (rs:List Nat) (o:Option Nat):Bool:=match o with
 |some n=>rs.contains n
 |none=>false
theorem oZ' {rs:List Nat} {o:Option Nat}:inL (rs.map Int.ofNat) (oI o)=inR rs o:=by
 cases o with
 |none=>rfl
 |some n=>
  show(rs.map Int.ofNat).contains (Int.ofNat n)=rs.contains n
  induction rs with
  |nil=>rfl
  |cons a rs ih=>
   rw[aL,List.contains_cons,List.contains_cons,ih]
   congr 1
   by_cases h:n=a
   .subst h;simp
   .rw[beq_eq_false_iff_ne.mpr h,beq_eq_false_iff_ne.mpr (fun z=>h (Int.ofNat.inj z))]
def c1' (M:List Rm) (rs:List Nat) (r:Nat):Bool:=ldS M rs (some (r:Int))&&(inR rs (fs1 M r) || inR rs (fs2 M r))
def lst (M:List Rm) (rs:List Nat):List Nat:=rs.filter (c1' M rs)
theorem rg' {rs:List Nat}:(rs.map Int.ofNat).map V.int=rs.map nV:=by rw[bi];rfl
def gl':Sp:=fun vs H Q _=>∃(a l:Addr) (M:List Rm) (rs:List Nat),vs=[.ref a,.ref l]/\IsM H a M/\H l=some (.lst (rs.map nV))/\(∀r∈rs,r<M.length)/\rs.length<=500/\∀(p:Addr) (H':Hp),H p=none->aw' H H'->H' p=some (.lst ((lst M rs).map nV))->Q (.ref p) H'
theorem lv' {C:Rc} (hN:C.N.length=6):∀vs H Q E,gl' vs H Q E->tSs C bV' { nx:=fun _ H'=>Q .non H',rt:=Q } (L2.aQ' C.N vs) H:=by
 intro vs H Q E h
 obtain⟨a,l,M,rs,rfl,hM,hl,hrs,hlen,q⟩:=h
 rw[as' hN]
 unfold bV'
 symm
 refine vm' (ns:=rs.map Int.ofNat) (SqL.of (by rw[rg'];exact hl)) (by rw[af];omega) fun p hp=>?_
 have s1:=af' hp (eF' p (inL (rs.map Int.ofNat)) (rs.map Int.ofNat).length)
 have hp1:upd H p (eF' p (inL (rs.map Int.ofNat)) (rs.map Int.ofNat).length) p=some (eF' p (inL (rs.map Int.ofNat)) (rs.map Int.ofNat).length):=aa'
 generalize upd H p (eF' p (inL (rs.map Int.ofNat)) (rs.map Int.ofNat).length)=H1 at s1 hp1 ⊢
 have hl1:=s1 _ _ hl
 have hM1:=hM.mono (ag' s1)
 symm
 refine a6' (SqL.of hl1) (zl' (vs:=rs.map nV) (fun i b H'=>b.1=ldS M (rs.take i)/\b.2=2*i/\H'=H1) ⟨rfl,rfl,rfl⟩ (fun i b H' pv=>SqL.of (by rw[pv.2.2];exact hl1)) ?_ ?_)
 .rintro i ⟨S,n⟩ H' x R hx ⟨hS,hn,hH⟩ hR
  subst hH
  rw[au]at hx
  cases er:rs[i]? with
  |none=>rw[er]at hx;cases hx
  |some r=>
  rw[er]at hx
  cases hx
  have hi:=ak' er
  have hrM:=hrs r (av er)
  dsimp only at hS hn
  subst hS hn
  simp only[nV]
  symm
  refine d4' hM1 hrM fun pr hpr=>?_
  symm
  refine bN' (SqT.of hpr) (zm' (vs:=[oV (fs1 M r),oV (fs2 M r)]) (fun j b H''=>b.1=(fun k=>(if j=0 then ldS M (rs.take i) k else if j=1 then(ldS M (rs.take i) k || decide (k=oI (fs1 M r)))else(ldS M (rs.take i) k || decide (k=oI (fs1 M r))) || decide (k=oI (fs2 M r))))/\b.2=2*i+j/\H''=H') ⟨rfl,rfl,rfl⟩ (fun j b H' pv=>SqT.of (by rw[pv.2.2];exact hpr)) ?_ ?_)
  .rintro j ⟨S,n⟩ H' x R2 hx ⟨hS,hn,rfl⟩ hR2
   dsimp only at hS hn
   subst hS hn
   have hj:j=0\/j=1:=by
    have:=ak' hx
    simp only[aV,cC]at this
    omega
   rcases hj with rfl|rfl
   .simp only[List.getElem?_cons_zero,Option.some.injEq]at hx
    subst hx
    symm
    refine⟨oI (fs1 M r),nM',by omega,hR2 _ _ ⟨?_,rfl,rfl⟩⟩
    funext k
    simp
   .simp only[List.getElem?_cons_succ,List.getElem?_cons_zero,Option.some.injEq]at hx
    subst hx
    symm
    refine⟨oI (fs2 M r),nM',by omega,hR2 _ _ ⟨?_,rfl,rfl⟩⟩
    funext k
    simp
  .rintro⟨S,n⟩ H' ⟨hS,hn,rfl⟩
   dsimp only at hS hn
   subst hS hn
   refine hR _ _ ⟨?_,by simp;omega,rfl⟩
   rw[show rs.take (i+1)=rs.take i++[r] by rw[bB,er];rfl,nN']
   rfl
 .rintro⟨S,n⟩ H' ⟨hS,hn,rfl⟩
  dsimp only at hS hn
  rw[af,bj]at hS
  subst hS
  refine⟨trivial,fun p2 hp2=>?_⟩
  dsimp only
  have s2:=af' hp2 (eF' p2 (ldS M rs) n)
  have hp22:upd H' p2 (eF' p2 (ldS M rs) n) p2=some (eF' p2 (ldS M rs) n):=aa'
  generalize upd H' p2 (eF' p2 (ldS M rs) n)=H2 at s2 hp22 ⊢
  have hl2:=s2 _ _ hl1
  have hp12:=s2 _ _ hp1
  have hM2:=hM1.mono (ag' s2)
  symm
  refine a6' (SqL.of hl2) (eM' (vs:=rs.map nV) (fun i xs H'=>xs=((rs.take i).filter (c1' M rs)).map nV/\H'=H2) ⟨rfl,rfl⟩ (fun i xs H' pv=>SqL.of (by rw[pv.2];exact hl2)) ?_ ?_)
  .rintro i xs H' x R hx ⟨rfl,rfl⟩ hR
   rw[au]at hx
   cases er:rs[i]? with
   |none=>rw[er]at hx;cases hx
   |some r=>
   rw[er]at hx
   cases hx
   have hi:=ak' er
   have hrM:=hrs r (av er)
   have et:(rs.take (i+1)).filter (c1' M rs)=(rs.take i).filter (c1' M rs)++[r].filter (c1' M rs):=by rw[bB,er,List.filter_append];rfl
   have hfl:((rs.take i).filter (c1' M rs)).length<=500:=aM (bZ ..) (by rw[aI];omega)
   have yes:c1' M rs r=true->R (((rs.take i).filter (c1' M rs)).map nV++[nV r]) H':=fun h=>hR _ _ ⟨by rw[et,List.filter_cons,if_pos h,aK];rfl,rfl⟩
   have no:c1' M rs r=false->R (((rs.take i).filter (c1' M rs)).map nV) H':=fun h=>hR _ _ ⟨by rw[et,List.filter_cons,if_neg (by rw[h];decide)];simp,rfl⟩
   have e1:=oZ' (rs:=rs) (o:=fs1 M r)
   have e2:=oZ' (rs:=rs) (o:=fs2 M r)
   unfold c1' at yes no
   simp only[nV]at yes ⊢
   symm
   refine lm' (k:=some (r:Int)) rfl hp22 ?_
   simp only[aP,if_false]
   cases hld:ldS M rs (some (r:Int))with
   |false=>
    rw[hld]at no
    symm
    exact no rfl
   |true=>
    rw[hld]at yes no
    symm
    refine d4' hM2 hrM fun pr hpr=>?_
    symm
    refine aL' (SqT.of hpr) (v:=oV (fs1 M r)) rfl ?_
    symm
    refine lm' nM' hp12 ?_
    simp only[aP,if_false]
    rw[e1]
    cases h1:inR rs (fs1 M r)with
    |true=>
     rw[h1]at yes
     symm
     exact⟨by rw[af];exact ap' (by omega),yes rfl⟩
    |false=>
     rw[h1]at yes no
     symm
     refine d4' hM2 hrM fun pr hpr=>?_
     symm
     refine aL' (SqT.of hpr) (v:=oV (fs2 M r)) rfl ?_
     symm
     refine lm' nM' hp12 ?_
     simp only[aP,if_false]
     rw[e2]
     cases h2:inR rs (fs2 M r)with
     |true=>
      rw[h2]at yes
      symm
      exact⟨by rw[af];exact ap' (by omega),yes rfl⟩
     |false=>
      rw[h2]at no
      symm
      exact no rfl
  .rintro xs H' ⟨rfl,rfl⟩ p3 hp3
   rw[af,bj]
   have hfin:upd H' p3 (.lst ((rs.filter (c1' M rs)).map nV)) p3=some (.lst ((lst M rs).map nV)):=aa'
   exact q p3 _ ((s1.trans s2).free hp3) (s1.trans (s2.trans (af' hp3 _))) hfin
theorem i9' {i:Nat} (h:i<=1000):hashInt (i:Int)=i:=by
 unfold hashInt rawHash
 have e:(((i:Int).natAbs:Nat):Int) % ((2 ^ 61-1:Nat):Int)=i:=by
  rw[Int.natAbs_natCast]
  exact Int.emod_eq_of_lt (by omega) (Int.ofNat_lt.mpr (show i<2 ^ 61-1 by omega))
 dsimp only
 rw[e]
 have h1:¬((i:Int)<0):=by omega
 have h2:((i:Int) == -1)=false:=by rw[beq_eq_false_iff_ne];omega
 simp only[h1,if_false,h2,aP]
def TbK (n m:Nat) (kvs:List (Key×V)):Prop:=∀kv∈kvs,∃r j:Nat,kv=(.inl (r:Int),.int j)/\r<n/\j<m
theorem TbK.non {H:Hp} {p:Addr} {n m:Nat} {kvs:List (Key×V)} (h:TbK n m kvs) (hn:n<=1000) (hp:H p=some (.dK kvs)):NoN H p:=.inl ⟨kvs,hp,fun kv hkv=>by
 obtain⟨r,j,rfl,hr,_⟩:=h kv hkv
 exact⟨r,rfl,by rw[i9' (by omega)];show(r:Int)≠0xFCA86420;omega⟩⟩
theorem vB' {M:List Rm} {rs:List Nat}:(lst M rs).length<=rs.length:=bZ ..
theorem lw' {M:List Rm} {rs:List Nat} {r:Nat} (h:r∈lst M rs):r∈rs:=(br.mp h).1
theorem o0' {n:Nat}:rgs 0 n=(aF n).map nV:=by
 unfold rgs
 apply cr
 intro k _
 show V.int (0+(k:Int))=V.int k
 rw[Int.zero_add]
end TM
namespace BD
open PySem PySem.Spec PyProof.Rows L2 R3 LW TM
def aI':Css:=(.cons (.asg (.tup (.cons (.name 1) (.cons (.name 2) (.cons (.name 3) (.cons (.name 4) (.cons (.name 5) .nil)))))) (.var 0))
  (.cons (.asg (.name 6) (.ife (.cmp .Is (.var 5) .non) (.lst (.cons (.int 0) .nil)) (.blt .list (.cons (.blt .range (.cons (.bin .Add (.var 5) (.int 1)) .nil)) .nil))))
  (.cons (.ret (.comp (.tup (.cons (.var 7) (.cons (.var 9) (.cons (.var 10) .nil)))) [7,8,9,10] (.tup (.cons (.name 7) (.cons (.name 8) .nil))) (.val (.tup (.cons (.tup (.cons (.int 0) (.cons (.var 2) .nil))) (.cons (.tup (.cons (.int 1) (.cons (.var 4) .nil))) .nil)))) .none (.cons [9,10] (.name 9) (.range2 (.int 1) (.bin .Add (.var 8) (.int 1))) .none (.cons [10] (.name 10) (.val (.var 6)) .none .nil))))
  .nil)))
def a8':Css:=(.cons (.asg (.tup (.cons (.name 3) (.cons (.name 4) (.cons (.name 5) (.cons (.name 6) (.cons (.name 7) .nil)))))) (.var 0))
  (.cons (.asg (.tup (.cons (.name 8) (.cons (.name 9) (.cons (.name 10) .nil)))) (.var 1))
  (.cons (.ite (.cmp .IsNot (.var 7) .non) (.cons (.aug 10 false (.ife (.cmp .Eq (.var 2) (.int 1)) (.int 1) (.neg (.int 1))))
  .nil) .nil)
  (.cons (.ite (.cmp .Eq (.var 2) (.var 8)) (.cons (.ret (.tup (.cons (.var 2) (.cons (.bin .Add (.var 9) (.int 1)) (.cons (.var 10) .nil)))))
  .nil) .nil)
  (.cons (.ite (.cmp .Lt (.var 9) (.ife (.cmp .Eq (.var 8) (.int 1)) (.var 5) (.var 3))) (.cons (.ret .non)
  .nil) .nil)
  (.cons (.ret (.tup (.cons (.var 2) (.cons (.int 1) (.cons (.var 10) .nil)))))
  .nil))))))
def az':Css:=(.cons (.dctc true 2 (.var 4) (.var 3) [3,4] (.tup (.cons (.name 3) (.cons (.name 4) .nil))) (.enum (.var 1)) .none)
  (.cons (.ret (.blt .tuple (.cons (.comp (.tup (.cons (.dgt (.var 2) (.call "room_behind" (.cons (.var 0) (.cons (.var 4) (.cons (.int 0) .nil))))) (.cons (.dgt (.var 2) (.call "room_behind" (.cons (.var 0) (.cons (.var 4) (.cons (.int 1) .nil))))) .nil))) [4] (.name 4) (.val (.var 1)) .none .nil) .nil)))
  .nil))
def be':Css:=(.cons (.asg (.tup (.cons (.name 1) (.cons (.name 2) .nil))) (.call "trimmed" (.cons (.call "machine_in_bounds" (.cons (.var 0) (.cons (.call "rooms_in_bounds" (.cons (.var 0) .nil)) .nil))) .nil)))
  (.cons (.ret (.var 1))
  .nil))
structure IsB (H:Hp) (p:Addr) (l0 h0 l1 h1:Nat) (sp:Option Nat):Prop where
 at':H p=some (.tup [nV l0,nV h0,nV l1,nV h1,oV sp])
 b0:h0<=8
 b1:h1<=8
 bs:∀s,sp=some s->s<=16
theorem IsB.mono {H H':Hp} {p:Addr} {l0 h0 l1 h1:Nat} {sp:Option Nat} (h:IsB H p l0 h0 l1 h1 sp) (t:Tp H H'):IsB H' p l0 h0 l1 h1 sp:=⟨t _ _ h.at',h.b0,h.b1,h.bs⟩
theorem o1' {C:Rc} {H:Hp} {σ:L2.St} {i j k m n:Nat} {a:Addr} {x y z u v:V} {R:L2.St->Hp->Prop} (h:SqT C.K H a [x,y,z,u,v]) (q:R (((((σ.set i (some x)).set j (some y)).set k (some z)).set m (some u)).set n (some v)) H):tG C (.tup (.cons (.name i) (.cons (.name j) (.cons (.name k) (.cons (.name m) (.cons (.name n) .nil)))))) (.ref a) σ H R:=
 ⟨a,[x,y,z,u,v],rfl,.inl h,rfl,_,_,rfl,_,_,rfl,_,_,rfl,_,_,rfl,_,_,rfl,rfl,q⟩
abbrev K3:=Nat×Nat×Nat
def d5' (H:Hp) (v:V) (k:K3):Prop:=∃p,v=.ref p/\H p=some (.tup [nV k.1,nV k.2.1,nV k.2.2])
theorem d5'.mono {H H':Hp} (s:aw' H H') {v:V} {k:K3} (h:d5' H v k):d5' H' v k:=by
 obtain⟨p,e,hp⟩:=h
 exact⟨p,e,s _ _ hp⟩
def r1 (lv:List Nat) (b pl:Nat):List K3:=lv.map fun l=>(b,pl,l)
def r2 (lv:List Nat) (b:Nat) (h:Nat):List K3:=(aF h).flatMap fun j=>r1 lv b (j+1)
def rk (lv:List Nat) (h0 h1:Nat):List K3:=r2 lv 0 h0++r2 lv 1 h1
def lvs:Option Nat->List Nat
 |none=>[0]
 |some s=>aF (s+1)
theorem d6' {lv:List Nat} {b h:Nat}:r2 lv b (h+1)=r2 lv b h++r1 lv b (h+1):=by
 unfold r2
 rw[List.range_succ,List.flatMap_append]
 simp
theorem eR' {lv:List Nat} {b:Nat}:∀{h},(r2 lv b h).length=h*lv.length
 |0=>by rw[Nat.zero_mul];rfl
 |h+1=>by rw[d6',aB,eR',Nat.add_mul,Nat.one_mul];unfold r1;rw[af]
theorem ca' {lv:List Nat} {b h:Nat} {k:K3}:k∈r2 lv b h->k.1=b/\1<=k.2.1/\k.2.1<=h/\k.2.2∈lv:=by
 unfold r2 r1
 intro hk
 obtain⟨j,hj,hk⟩:=cO.mp hk
 obtain⟨l,hl,rfl⟩:=az.mp hk
 have:=aJ.mp hj
 exact⟨rfl,by show 1<=j+1;omega,by show j+1<=h;omega,hl⟩
theorem gm' {α β:Type} {f:α->β} (hf:∀x y,f x=f y->x=y):∀{l:List α},l.Nodup->(l.map f).Nodup
 | [],_=>cc
 |a :: l,h=>by
  rw[bu]at h
  rw[aL,bu]
  refine⟨fun z=>?_,gm' hf h.2⟩
  obtain⟨x,hx,e⟩:=az.mp z
  rw[hf _ _ e]at hx
  exact h.1 hx
theorem rh' {lv:List Nat} (hl:lv.Nodup) {b:Nat}:∀{h},(r2 lv b h).Nodup
 |0=>cc
 |h+1=>by
  rw[d6',cG]
  refine⟨rh' hl,gm' (fun x y e=>by injection e with _ e;injection e) hl,fun x hx y hy e=>?_⟩
  subst e
  have h1:=(ca' hx).2.2.1
  unfold r1 at hy
  obtain⟨l,_,rfl⟩:=az.mp hy
  have:h+1<=h:=h1
  omega
theorem ja' {lv:List Nat} (hl:lv.Nodup) {h0 h1:Nat}:(rk lv h0 h1).Nodup:=by
 unfold rk
 rw[cG]
 refine⟨rh' hl,rh' hl,fun x hx y hy e=>?_⟩
 subst e
 have a:=(ca' hx).1
 have b:=(ca' hy).1
 omega
theorem eS' {sp:Option Nat}:(lvs sp).Nodup:=by
 cases sp with
 |none=>exact bu.mpr ⟨aq,cc⟩
 |some s=>exact List.nodup_range
theorem lx' {sp:Option Nat} (h:∀s,sp=some s->s<=16):(lvs sp).length<=17/\∀l∈lvs sp,l<=16:=by
 cases sp with
 |none=>exact⟨by decide,fun l hl=>by have:l=0:=(by simpa[lvs]using hl);omega⟩
 |some s=>
  have:=h s rfl
  refine⟨by show(aF (s+1)).length<=17;rw[bg];omega,fun l hl=>?_⟩
  have:=aJ.mp (show l∈aF (s+1) from hl)
  omega
theorem ew' {sp:Option Nat} {h0 h1:Nat} (hs:∀s,sp=some s->s<=16) (a0:h0<=8) (a1:h1<=8):(rk (lvs sp) h0 h1).length<=272/\∀k∈rk (lvs sp) h0 h1,k.1<2/\k.2.1<9/\k.2.2<17:=by
 obtain⟨h,hm⟩:=lx' hs
 constructor
 .unfold rk
  rw[aB,eR',eR']
  have e0:h0*(lvs sp).length<=8*17:=Nat.mul_le_mul a0 h
  have e1:h1*(lvs sp).length<=8*17:=Nat.mul_le_mul a1 h
  omega
 .intro k hk
  unfold rk at hk
  rcases aH.mp hk with hk|hk
  .obtain⟨e,_,e2,e3⟩:=ca' hk
   have:=hm _ e3
   omega
  .obtain⟨e,_,e2,e3⟩:=ca' hk
   have:=hm _ e3
   omega
def gn':Sp:=fun vs H Q _=>∃(bd:Addr) (l0 h0 l1 h1:Nat) (sp:Option Nat),vs=[.ref bd]/\IsB H bd l0 h0 l1 h1 sp/\∀(p:Addr) (xs:List V) (H':Hp),aw' H H'->H' p=some (.lst xs)->bO' (d5' H') xs (rk (lvs sp) h0 h1)->Q (.ref p) H'
theorem bi' {H H':Hp} (s:aw' H H') {xs:List V} {ks:List K3} (h:bO' (d5' H) xs ks):bO' (d5' H') xs ks:=h.mono fun _ _ z=>z.mono s
theorem nO' {C:Rc} (hN:C.N.length=11):∀vs H Q E,gn' vs H Q E->tSs C aI' { nx:=fun _ H'=>Q .non H',rt:=Q } (L2.aQ' C.N vs) H:=by
 intro vs H Q E h
 obtain⟨bd,l0,h0,l1,h1,sp,rfl,hB,q⟩:=h
 rw[as' hN]
 unfold aI'
 symm
 rw[eu']
 symm
 refine o1' (C:=C) (SqT.of hB.at') ?_
 simp only[ie',List.set_cons_zero,List.set_cons_succ]
 obtain⟨hlv,hlm⟩:=lx' hB.bs
 refine qP' fun K hK=>?_
 have au':∀(pl:Addr) (H1:Hp),aw' H H1->H1 pl=some (.lst ((lvs sp).map nV))->K (.ref pl) H1:=by
  intro pl H1 s1 hpl
  refine hK _ _ ?_
  symm
  refine⟨by show 2<=sizeLine;decide,fun q0 hq0=>?_⟩
  have t0:=af' hq0 (.tup [.int 0,nV h0])
  have e0:upd H1 q0 (.tup [.int 0,nV h0]) q0=some (.tup [.int 0,nV h0]):=aa'
  generalize upd H1 q0 (.tup [.int 0,nV h0])=H2 at t0 e0 ⊢
  symm
  refine⟨by show 2<=sizeLine;decide,fun q1 hq1=>?_⟩
  have t1:=af' hq1 (.tup [.int 1,nV h1])
  have e1:upd H2 q1 (.tup [.int 1,nV h1]) q1=some (.tup [.int 1,nV h1]):=aa'
  generalize upd H2 q1 (.tup [.int 1,nV h1])=H3 at t1 e1 ⊢
  symm
  refine⟨by show 2<=sizeLine;decide,fun q2 hq2=>?_⟩
  have t2:=af' hq2 (.tup [.ref q0,.ref q1])
  have e2:upd H3 q2 (.tup [.ref q0,.ref q1]) q2=some (.tup [.ref q0,.ref q1]):=aa'
  generalize upd H3 q2 (.tup [.ref q0,.ref q1])=H4 at t2 e2 ⊢
  have s4:aw' H1 H4:=t0.trans (t1.trans t2)
  have e04:=t2 _ _ (t1 _ _ e0)
  have e14:=t2 _ _ e1
  have hpl4:=s4 _ _ hpl
  have hrk:=(ew' hB.bs hB.b0 hB.b1 (h0:=h0) (h1:=h1)).1
  refine bN' (SqT.of e2) (zm' (vs:=[.ref q0,.ref q1]) (fun i xs H'=>aw' H4 H'/\bO' (d5' H') xs (if i=0 then[]else if i=1 then r2 (lvs sp) 0 h0 else rk (lvs sp) h0 h1)) ⟨aw'.refl _,trivial⟩ (fun i xs H' pv=>SqT.of (pv.1 _ _ e2)) ?_ ?_)
  .rintro i xs H5 x R hx ⟨s5,hA⟩ hR
   have hi2:i=0\/i=1:=by
    have:=ak' hx
    simp only[aV,cC]at this
    omega
   obtain⟨qq,b,hh,rfl,hqq,hh8,pre,hpre,hpost,hb⟩:∃(qq:Addr) (b hh:Nat),x=.ref qq/\H5 qq=some (.tup [.int b,nV hh])/\hh<=8/\∃pre,bO' (d5' H5) xs pre/\(∀ys H6,aw' H4 H6->bO' (d5' H6) ys (pre++r2 (lvs sp) b hh)->R ys H6)/\(pre++r2 (lvs sp) b hh).length<=272:=by
    rcases hi2 with rfl|rfl
    .cases hx
     refine⟨q0,0,h0,rfl,s5 _ _ e04,hB.b0,[],hA,fun ys H6 s6 h6=>hR _ _ ⟨s6,h6⟩,?_⟩
     rw[List.nil_append]
     unfold rk at hrk
     rw[aB]at hrk
     omega
    .cases hx
     exact⟨q1,1,h1,rfl,s5 _ _ e14,hB.b1,r2 (lvs sp) 0 h0,hA,fun ys H6 s6 h6=>hR _ _ ⟨s6,h6⟩,hrk⟩
   refine d1' (C:=C) (SqT.of hqq) ?_
   simp only[nV]
   symm
   rw[aB,eR']at hb
   have hap:=hpre.len
   refine u0' (by omega) (by omega) (by omega) (by omega) (z7' (n:=((hh:Int)+1-1).toNat) (fun j ys H6=>aw' H4 H6/\bO' (d5' H6) ys (pre++r2 (lvs sp) b j)) ⟨s5,by simpa[r2]using hpre⟩ ?_ ?_)
   .rintro j ys H6 R2 hj ⟨s6,h6⟩ hR2
    have hjh:j<hh:=by omega
    have hjl:j*(lvs sp).length+(lvs sp).length<=hh*(lvs sp).length:=by
     have:=Nat.mul_le_mul_right (lvs sp).length hjh
     rw[Nat.succ_mul]at this
     exact this
    symm
    refine a6' (SqL.of (s6 _ _ hpl4)) (zl' (vs:=(lvs sp).map nV) (fun m zs H7=>aw' H4 H7/\bO' (d5' H7) zs (pre++r2 (lvs sp) b j++r1 ((lvs sp).take m) b (j+1))) ⟨s6,by simpa[r1]using h6⟩ (fun m zs H7 pv=>SqL.of (pv.1 _ _ hpl4)) ?_ ?_)
    .rintro m zs H7 x R3 hx ⟨s7,h7⟩ hR3
     rw[au]at hx
     cases er:(lvs sp)[m]? with
     |none=>rw[er]at hx;cases hx
     |some lv=>
     rw[er]at hx
     cases hx
     have hm:=ak' er
     have h7l:=h7.len
     rw[aB,aB,eR']at h7l
     unfold r1 at h7l
     rw[af,aI]at h7l
     simp only[nV]
     symm
     refine⟨by show 3<=sizeLine;decide,fun q8 hq8=>?_⟩
     have t8:=af' hq8 (.tup [.int b,.int (1+j),.int lv])
     have e8:upd H7 q8 (.tup [.int b,.int (1+j),.int lv]) q8=some (.tup [nV b,nV (j+1),nV lv]):=by
      rw[aa']
      show some (HO.tup [.int b,.int (1+(j:Int)),.int lv])=some (HO.tup [.int b,.int ((j+1:Nat):Int),.int lv])
      rw[show(1:Int)+j=((j+1:Nat):Int) by omega]
     generalize upd H7 q8 (.tup [.int b,.int (1+j),.int lv])=H8 at t8 e8 ⊢
     refine⟨ap' (by omega),hR3 _ _ ⟨s7.trans t8,?_⟩⟩
     rw[show r1 ((lvs sp).take (m+1)) b (j+1)=r1 ((lvs sp).take m) b (j+1)++[(b,j+1,lv)] by unfold r1;rw[bB,er,aK];rfl,<- aT]
     exact(bi' t8 h7).snoc ⟨q8,rfl,e8⟩
    .rintro zs H7 ⟨s7,h7⟩
     rw[af,bj,aT,<- d6']at h7
     exact hR2 _ _ ⟨s7,h7⟩
   .rintro ys H6 ⟨s6,h6⟩
    rw[show((hh:Int)+1-1).toNat=hh by omega]at h6
    exact hpost ys H6 s6 h6
  .rintro xs H5 ⟨s5,hA⟩ p9 hp9
   have s9:=af' hp9 (.lst xs)
   exact q p9 xs _ (s1.trans (s4.trans (s5.trans s9))) aa' (bi' s9 hA)
 symm
 cases sp with
 |none=>
  simp only[oV]
  symm
  refine⟨by decide,fun pl hpl=>?_⟩
  exact au' pl _ (af' hpl _) aa'
 |some s=>
  have hs:=hB.bs s rfl
  simp only[oV]
  symm
  refine gg' fun pr hpr=>?_
  symm
  refine ig' aa' (by omega) (by omega) (by omega) (by omega) (bK (ap' (by omega))) fun pl hpl=>?_
  rw[show((s:Int)+1-0).toNat=s+1 by omega,o0']
  exact au' pl _ ((af' hpr _).trans (af' hpl _)) aa'
theorem vC':∀b:Fin 2,∀p:Fin 9,∀l:Fin 17,reduceHash (Builtin.Tuple.tupleHashOf [hashInt (b.val:Int),hashInt (p.val:Int),hashInt (l.val:Int)])≠NH:=by decide +kernel
def kI (k:K3):List Int:=[(k.1:Int),(k.2.1:Int),(k.2.2:Int)]
def kK (k:K3):List Key:=(kI k).map Key.inl
theorem eT' {a b:K3} (h:kK a=kK b):a=b:=by
 obtain⟨a1,a2,a3⟩:=a
 obtain⟨b1,b2,b3⟩:=b
 unfold kK kI at h
 simp only[aL,List.map_nil,List.cons.injEq,Key.inl.injEq,and_true]at h
 obtain⟨h1,h2,h3⟩:=h
 rw[show a1=b1 by omega,show a2=b2 by omega,show a3=b3 by omega]
theorem ly' {k:K3}:(kK k).map L2.kV=[nV k.1,nV k.2.1,nV k.2.2]:=rfl
theorem lz' {ks:List K3} {i:Nat} {k:K3} (h:ks.Nodup) (hk:ks[i]?=some k):k∉ks.take i:=by
 intro hm
 have hi:=ak' hk
 have e:ks=ks.take i++k :: ks.drop (i+1):=by
  have h1:=bw i ks
  rw[List.drop_eq_getElem_cons hi]at h1
  rw[ac hi]at hk
  rw[Option.some.inj hk]at h1
  exact h1.symm
 rw[e,cG]at h
 exact h.2.2 k hm k ay rfl
theorem cj' {ks:List K3} {i:Nat} {k:K3} (hk:ks[i]?=some k):ks.take (i+1)=ks.take i++[k]:=by rw[bB,hk];rfl
def TbT (ks:List K3) (m:Nat) (a:KTL):Prop:=∀x∈a,∃(k:K3) (j:Nat),k∈ks/\x.1=kK k/\x.2.2=.int j/\j<m
theorem TbT.non {H:Hp} {p:Addr} {ks:List K3} {m:Nat} {a:KTL} (h:TbT ks m a) (hk:∀k∈ks,k.1<2/\k.2.1<9/\k.2.2<17) (hp:H p=some (.dT (plT a))):NoN H p:=.inr ⟨plT a,hp,fun kv hkv=>by
 obtain⟨x,hx,rfl⟩:=az.mp hkv
 obtain⟨k,j,hks,e,_⟩:=h x hx
 obtain⟨h1,h2,h3⟩:=hk k hks
 exact⟨kI k,e,vC' ⟨k.1,h1⟩ ⟨k.2.1,h2⟩ ⟨k.2.2,h3⟩⟩⟩
end BD
namespace BE
open PySem PySem.Spec PyProof.Rows L2 R3 LW TM BD
def lvl (sp:Option Nat) (lv c:Nat):Int:=match sp with
 |none=>lv
 |some _=>(lv:Int)+if c=1 then 1 else -1
def bh (l0 l1:Nat) (sp:Option Nat) (k:K3) (c:Nat):Option (List Int):=
 if c=k.1 then some [(c:Int),(k.2.1:Int)+1,lvl sp k.2.2 c]else if k.2.1<(if k.1=1 then l1 else l0)then none else some [(c:Int),1,lvl sp k.2.2 c]
def lA':Sp:=fun vs H Q _=>∃(bd rm:Addr) (l0 h0 l1 h1:Nat) (sp:Option Nat) (k:K3) (c:Nat),vs=[.ref bd,.ref rm,.int c]/\IsB H bd l0 h0 l1 h1 sp/\H rm=some (.tup [nV k.1,nV k.2.1,nV k.2.2])/\(bh l0 l1 sp k c=none->∀H',aw' H H'->Q .non H')/\∀z,bh l0 l1 sp k c=some z->∀(p:Addr) (H':Hp),aw' H H'->H' p=some (.tup (z.map V.int))->Q (.ref p) H'
theorem nP' {C:Rc} (hN:C.N.length=11):∀vs H Q E,lA' vs H Q E->tSs C a8' { nx:=fun _ H'=>Q .non H',rt:=Q } (L2.aQ' C.N vs) H:=by
 intro vs H Q E h
 obtain⟨bd,rm,l0,h0,l1,h1,sp,⟨b,pl,lv⟩,c,rfl,hB,hrm,q1,q2⟩:=h
 rw[as' hN]
 unfold a8'
 symm
 rw[eu']
 symm
 refine o1' (C:=C) (SqT.of hB.at') ?_
 symm
 rw[eu']
 symm
 refine ll' (SqT.of hrm) ?_
 simp only[nV,ie',List.set_cons_zero,List.set_cons_succ]
 refine ev' fun N hNx=>?_
 have au':∀lev:Int,lvl sp lv c=lev->N [some (.ref bd),some (.ref rm),some (.int c),some (.int l0),some (.int h0),some (.int l1),some (.int h1),some (oV sp),some (.int b),some (.int pl),some (.int lev)] H:=by
  intro lev hlev
  refine hNx _ _ ?_
  have e:bh l0 l1 sp (b,pl,lv) c=if c=b then some [(c:Int),(pl:Int)+1,lev]else if pl<(if b=1 then l1 else l0)then none else some [(c:Int),1,lev]:=by
   unfold bh
   rw[<- hlev]
  symm
  refine bs' (fun hq=>?_) fun hq=>?_
  .have hq:c=b:=by omega
   symm
   refine⟨by show 3<=sizeLine;decide,fun p hp=>?_⟩
   exact q2 _ (by rw[e,if_pos hq]) p _ (af' hp _) aa'
  have hq:¬c=b:=by omega
  symm
  refine bs' (fun hb=>?_) fun hb=>?_
  .have hb:b=1:=by omega
   symm
   refine bs' (fun hq2=>?_) fun hq2=>?_
   .symm
    exact q1 (by rw[e,if_neg hq,if_pos hb,if_pos (by omega)]) _ (aw'.refl _)
   .symm
    refine⟨by show 3<=sizeLine;decide,fun p hp=>?_⟩
    exact q2 _ (by rw[e,if_neg hq,if_pos hb,if_neg (by omega)]) p _ (af' hp _) aa'
  .have hb:¬b=1:=by omega
   symm
   refine bs' (fun hq2=>?_) fun hq2=>?_
   .symm
    exact q1 (by rw[e,if_neg hq,if_neg hb,if_pos (by omega)]) _ (aw'.refl _)
   .symm
    refine⟨by show 3<=sizeLine;decide,fun p hp=>?_⟩
    exact q2 _ (by rw[e,if_neg hq,if_neg hb,if_neg (by omega)]) p _ (af' hp _) aa'
 cases sp with
 |none=>
  simp only[oV]
  symm
  exact au' _ rfl
 |some s=>
  simp only[oV]
  symm
  rw[ye' (a:=(lv:Int)) rfl]
  symm
  refine bs' (fun hq=>?_) fun hq=>?_
  .symm
   exact au' _ (by show(lv:Int)+(if c=1 then 1 else -1)=_;(rw[if_pos (by omega)]<;>rfl))
  .symm
   exact au' _ (by show(lv:Int)+(if c=1 then 1 else -1)=_;(rw[if_neg (by omega)]<;>rfl))
def ixK (ks:List K3) (z:Option (List Int)):Option Nat:=match z with
 |none=>none
 |some z=>ks.findIdx? fun k=>decide (BD.kI k=z)
def plN (ks:List K3) (m:Nat):List (List Key×V):=(aF m).map fun i:Nat=>(kK (ks[i]?.getD (0,0,0)),V.int i)
theorem im' {ks:List K3} {m:Nat} {k:K3} (h:ks[m]?=some k):plN ks (m+1)=plN ks m++[(kK k,V.int m)]:=by
 unfold plN
 rw[List.range_succ,aK]
 simp[h]
theorem g9' {ks:List K3} {z:List Int} (h:∀k∈ks,BD.kI k≠z):ixK ks (some z)=none:=by
 show ks.findIdx? _=none
 rw[List.findIdx?_eq_none_iff]
 intro k hk
 exact decide_eq_false (h k hk)
theorem ha' {ks:List K3} {z:List Int} {i:Nat} {k:K3} (hn:ks.Nodup) (hk:ks[i]?=some k) (hz:BD.kI k=z):ixK ks (some z)=some i:=by
 show ks.findIdx? _=some i
 have hi:=ak' hk
 rw[List.findIdx?_eq_some_iff_getElem]
 refine⟨hi,?_,fun j hj=>?_⟩
 .rw[ac hi]at hk
  rw[Option.some.inj hk]
  exact decide_eq_true hz
 .have hjl:j<ks.length:=by omega
  intro hd
  have hd:=of_decide_eq_true hd
  have e:kK ks[j]=kK k:=by unfold kK;rw[hd,hz]
  have e2:=eT' e
  have h1:ks[j]?=some k:=by rw[ac hjl,e2]
  have:=lz' hn hk
  exact this (av (l:=ks.take i) (i:=j) (by rw[List.getElem?_take,if_pos hj];exact h1))
theorem lB':∀{a b:List Int},(a.map Key.inl:List Key)=b.map Key.inl->a=b
 | [],[],_=>rfl
 | [],_ :: _,h=>by cases h
 |_ :: _,[],h=>by cases h
 |x :: a,y :: b,h=>by
  rw[aL,aL]at h
  injection h with h1 h2
  injection h1 with h1
  rw[h1,lB' h2]
theorem lC' {ks:List K3} (hn:ks.Nodup) (z:List Int):(ef' (plN ks ks.length) (z.map Key.inl)).getD .non=oV (ixK ks (some z)):=by
 have e0:ef' (plN ks ks.length) (z.map Key.inl)=((aF ks.length).find? fun i=>decide (kK (ks[i]?.getD (0,0,0))=z.map Key.inl)).map fun i:Nat=>V.int (i:Int):=by
  unfold ef' plN
  rw[List.find?_map,Option.map_map]
  rfl
 rw[e0]
 cases e:(aF ks.length).find? fun i=>decide (kK (ks[i]?.getD (0,0,0))=z.map Key.inl)with
 |none=>
  rw[List.find?_eq_none]at e
  rw[g9' fun k hk hz=>?_]
  .rfl
  .obtain⟨i,hi⟩:=cg hk
   refine e i (aJ.mpr (ak' hi)) (decide_eq_true ?_)
   rw[hi]
   show(BD.kI k).map Key.inl=_
   rw[hz]
 |some i=>
  have h0:=List.find?_some e
  have h1:=of_decide_eq_true h0
  have h2:=aJ.mp (List.mem_of_find?_eq_some e)
  have h3:ks[i]?=some ks[i]:=ac h2
  rw[h3]at h1
  rw[ha' hn h3 (lB' h1)]
  rfl
def mx (l0 l1:Nat) (sp:Option Nat) (ks:List K3) (k:K3):Rm:=(ixK ks (bh l0 l1 sp k 0),ixK ks (bh l0 l1 sp k 1))
def do':Sp:=fun vs H Q _=>∃(bd l:Addr) (l0 h0 l1 h1:Nat) (sp:Option Nat) (xs:List V),vs=[.ref bd,.ref l]/\IsB H bd l0 h0 l1 h1 sp/\H l=some (.lst xs)/\bO' (d5' H) xs (rk (lvs sp) h0 h1)/\∀(p:Addr) (H':Hp),aw' H H'->IsM H' p ((rk (lvs sp) h0 h1).map (mx l0 l1 sp (rk (lvs sp) h0 h1)))->Q (.ref p) H'
theorem lD' {C:Rc} (hN:C.N.length=5) (hR:C.fs "room_behind"=some lA'):∀vs H Q E,do' vs H Q E->tSs C az' { nx:=fun _ H'=>Q .non H',rt:=Q } (L2.aQ' C.N vs) H:=by
 intro vs H Q E h
 obtain⟨bd,l,l0,h0,l1,h1,sp,xs,rfl,hB,hl,hA,q⟩:=h
 rw[as' hN]
 unfold az'
 obtain⟨hrl,hrb⟩:=ew' hB.bs hB.b0 hB.b1 (h0:=h0) (h1:=h1)
 have hnd:=ja' (eS' (sp:=sp)) (h0:=h0) (h1:=h1)
 generalize hks:rk (lvs sp) h0 h1=ks at hA q hrl hrb hnd
 have hxl:=hA.len
 symm
 refine if' (SqL.of hl) (zn' (vs:=xs) (fun i b H'=>i<=ks.length/\plT b=plN ks i/\TbT (ks.take i) ks.length b/\okT b H'/\b.length=i/\aw' H H') ⟨aO _,rfl,fun x h=>absurd h aq,fun x h=>absurd h aq,rfl,aw'.refl _⟩ (fun i b H' pv=>SqL.of (pv.2.2.2.2.2 _ _ hl)) ?_ ?_)
 .rintro i b H1 x p R hx hp ⟨_,hpl,hb,hok,hbl,s1⟩ hR'
  obtain⟨k,hk,pk,rfl,hpk⟩:=hA.getL hx
  have hi:=ak' hk
  refine d1' (SqT.of aa') ?_
  have t2:=af' hp (.tup [.int i,.ref pk])
  have s2:=s1.trans t2
  generalize upd H1 p (.tup [.int i,.ref pk])=H2 at t2 s2 ⊢
  have ok2:okT b H2:=fun y hy=>t2 _ _ (hok y hy)
  symm
  refine⟨kK k,pk,rfl,by rw[ly'];exact s2 _ _ hpk,ok2,fun y hy e=>?_,ap' (by omega),hR' _ _ ⟨hi,?_,fun y hy=>?_,fun y hy=>?_,by simp[hbl],s2⟩⟩
  .obtain⟨k',j,hk',e',_⟩:=hb y hy
   have ek:k'=k:=eT' (e'.symm.trans e)
   subst ek
   exact lz' hnd hk hk'
  .rw[im' hk,<- hpl]
   unfold plT
   rw[aK]
   rfl
  .rw[cj' hk]
   rcases aH.mp hy with hy|hy
   .obtain⟨k',j,hk',e'⟩:=hb y hy
    exact⟨k',j,ba _ hk',e'⟩
   .have:y=(kK k,pk,V.int i):=by simpa using hy
    subst this
    exact⟨k,i,aj _ (aY.mpr rfl),rfl,rfl,hi⟩
  .rcases aH.mp hy with hy|hy
   .exact ok2 y hy
   .have:y=(kK k,pk,V.int i):=by simpa using hy
    subst this
    show H2 pk=some (.tup ((kK k).map L2.kV))
    rw[ly']
    exact s2 _ _ hpk
 .rintro a H1 ⟨_,hpl,hb,hok,hal,s1⟩
  rw[hxl,bj]at hb
  rw[hxl]at hpl
  refine⟨hok,fun p hp=>?_⟩
  have s2:=s1.trans (af' hp (.dT (plT a)))
  have hp2:upd H1 p (.dT (plT a)) p=some (.dT (plT a)):=aa'
  generalize upd H1 p (.dT (plT a))=H2 at s2 hp2 ⊢
  have get0:∀{H3:Hp} {Q':VK},aw' H2 H3->Q' (oV (ixK ks none)) H3->gh' p Q' .non H3:=fun s3 q'=>g8' (hb.non hrb (s3 _ _ hp2)) q'
  have get1:∀{H3:Hp} {Q':VK} {pz:Addr} {z:List Int},aw' H2 H3->H3 pz=some (.tup (z.map V.int))->Q' (oV (ixK ks (some z))) H3->gh' p Q' (.ref pz) H3:=by
   intro H3 Q' pz z s3 hz q'
   refine g7' (e4'.t (k:=z.map Key.inl) (s3 _ _ hp2) (by rw[hz,bi];rfl)) ?_
   rw[hpl,lC' hnd]
   exact q'
  symm
  refine a6' (SqL.of (s2 _ _ hl)) (eM' (vs:=xs) (fun i ys H'=>i<=ks.length/\bv' H' ys ((ks.take i).map (mx l0 l1 sp ks))/\aw' H2 H') ⟨aO _,trivial,aw'.refl _⟩ (fun i ys H' pv=>SqL.of (pv.2.2 _ _ (s2 _ _ hl))) ?_ ?_)
  .rintro i ys H3 x R hx ⟨_,hR',s3⟩ hRR
   obtain⟨k,hk,pk,rfl,hpk⟩:=hA.getL hx
   have hi:=ak' hk
   have s23:=s2.trans s3
   symm
   refine dh' (.inr ⟨plT a,.inl (s3 _ _ hp2)⟩) ?_
   refine ao' hR ?_
   symm
   have half:∀(H4:Hp),aw' H3 H4->kA1 C (List.set (clr [4] [some (.ref bd),some (.ref l),some (.ref p),none,none]) 4 (some (.ref pk))) (.cons (.dgt (.var 2) (.call "room_behind" (.cons (.var 0) (.cons (.var 4) (.cons (.int 1) .nil))))) .nil) (ww' (g4' ys R)) (oV (ixK ks (bh l0 l1 sp k 0))) H4:=by
    intro H4 s34
    have s4:=s3.trans s34
    symm
    refine dh' (.inr ⟨plT a,.inl (s4 _ _ hp2)⟩) ?_
    refine ao' hR ?_
    symm
    have second:∀(H5:Hp),aw' H4 H5->kA1 C (List.set (clr [4] [some (.ref bd),some (.ref l),some (.ref p),none,none]) 4 (some (.ref pk))) .nil (kA2 (oV (ixK ks (bh l0 l1 sp k 0))) (ww' (g4' ys R))) (oV (ixK ks (bh l0 l1 sp k 1))) H5:=by
     intro H5 s45
     symm
     refine⟨by show 2<=sizeLine;decide,fun p6 hp6=>?_⟩
     have s6:=af' hp6 (.tup [oV (ixK ks (bh l0 l1 sp k 0)),oV (ixK ks (bh l0 l1 sp k 1))])
     have h6:upd H5 p6 (.tup [oV (ixK ks (bh l0 l1 sp k 0)),oV (ixK ks (bh l0 l1 sp k 1))]) p6=some (.tup [oV (ixK ks (bh l0 l1 sp k 0)),oV (ixK ks (bh l0 l1 sp k 1))]):=aa'
     generalize upd H5 p6 (.tup [oV (ixK ks (bh l0 l1 sp k 0)),oV (ixK ks (bh l0 l1 sp k 1))])=H6 at s6 h6 ⊢
     have hyl:=hR'.len
     rw[af,aI]at hyl
     refine⟨ap' (by omega),hRR _ _ ⟨hi,?_,(s4.trans s45).trans s6⟩⟩
     rw[cj' hk,aK]
     exact(hR'.mono (ag' (s34.trans (s45.trans s6)))).snoc ⟨p6,rfl,h6⟩
    refine⟨bd,pk,l0,h0,l1,h1,sp,k,1,rfl,hB.mono (ag' (s2.trans s4)),(s2.trans s4) _ _ hpk,fun e H5 s45=>get0 (s4.trans s45) (by rw[<- e];exact second H5 s45),fun z e pz H5 s45 hz=>get1 (s4.trans s45) hz (by rw[<- e];exact second H5 s45)⟩
   refine⟨bd,pk,l0,h0,l1,h1,sp,k,0,rfl,hB.mono (ag' s23),s23 _ _ hpk,fun e H4 s34=>get0 (s3.trans s34) (by rw[<- e];exact half H4 s34),fun z e pz H4 s34 hz=>get1 (s3.trans s34) hz (by rw[<- e];exact half H4 s34)⟩
  .rintro ys H3 ⟨_,hR',s3⟩ p5 hp5
   rw[hxl,bj]at hR'
   symm
   have h5:upd H3 p5 (.lst ys) p5=some (.lst ys):=aa'
   have s5:=af' hp5 (.lst ys)
   generalize upd H3 p5 (.lst ys)=H5 at h5 s5 ⊢
   refine fo' (SqL.of h5) fun p6 hp6=>?_
   have s6:=af' hp6 (.tup ys)
   exact q p6 _ (s2.trans (s3.trans (s5.trans s6))) ⟨ys,aa',hR'.mono (ag' (s5.trans s6))⟩
def Sus (M:List Rm) (S:List Nat):Prop:=∀r∈S,r<M.length/\(∃r'∈S,fs1 M r'=some r\/fs2 M r'=some r)/\∃r'∈S,fs1 M r=some r'\/fs2 M r=some r'
theorem fq' {M:List Rm} {S rs:List Nat} (h:Sus M S) (hs:∀r∈S,r∈rs):∀r∈S,r∈lst M rs:=by
 intro r hr
 obtain⟨_,⟨r1,hr1,e1⟩,⟨r2,hr2,e2⟩⟩:=h r hr
 refine br.mpr ⟨hs r hr,?_⟩
 unfold c1'
 rw[ag]
 constructor
 .unfold ldS
  rw[bQ]
  refine⟨r1,hs r1 hr1,?_⟩
  rw[aS]
  rcases e1 with e|e
  .left;rw[e];exact decide_eq_true rfl
  .right;rw[e];exact decide_eq_true rfl
 .rw[aS]
  rcases e2 with e|e
  .left;rw[e];exact cD.mpr (hs r2 hr2)
  .right;rw[e];exact cD.mpr (hs r2 hr2)
end BE
namespace TE
open PySem PySem.Spec PyProof.Rows L2 R3 LW TM BD BE
def ixR (rs:List Nat):Option Nat->Option Nat
 |none=>none
 |some n=>if n∈rs then some (rs.idxOf n)else none
theorem in' {rs:List Nat} {n:Nat}:ixR rs (some n)=if n∈rs then some (rs.idxOf n)else none:=rfl
theorem vD' {rs:List Nat} (h:rs.Nodup) {i j:Nat} {hi:i<rs.length} {hj:j<rs.length} (e:rs[i]=rs[j]):i=j:=by
 rcases Nat.lt_trichotomy i j with z|z|z
 .exact absurd e (aX.mp h i j hi hj z)
 .exact z
 .exact absurd e.symm (aX.mp h j i hj hi z)
def prt (M:List Rm) (rs:List Nat):List Rm:=rs.map fun r=>(ixR rs (fs1 M r),ixR rs (fs2 M r))
def ziR:List Nat->Nat->List (Key×V)
 | [],_=>[]
 |r :: rs,k=>((Key.inl (r:Int):Key),V.int k) :: ziR rs (k+1)
theorem io' {r:Nat}:∀{rs:List Nat} {k:Nat},ziR (rs++[r]) k=ziR rs k++[((Key.inl (r:Int):Key),V.int (k+rs.length:Nat))]
 | [],k=>by simp[ziR]
 |a :: rs,k=>by
  show _ :: ziR (rs++[r]) (k+1)=_ :: (ziR rs (k+1)++_)
  rw[io',aV,show k+1+rs.length=k+(rs.length+1) by omega]
theorem ri' {a b:Nat}:((Key.inl (a:Int):Key)=Key.inl (b:Int))↔a=b:=⟨fun h=>by injection h with h;omega,fun h=>by rw[h]⟩
theorem hh' {x:Nat}:∀{rs:List Nat} {k:Nat},ef' (ziR rs k) (Key.inl (x:Int))=if x∈rs then some (V.int (k+rs.idxOf x:Nat))else none
 | [],k=>by simp[ziR,ef']
 |r :: rs,k=>by
  by_cases h:r=x
  .subst h
   rw[show ziR (r :: rs) k=((Key.inl (r:Int):Key),V.int k) :: ziR rs (k+1) from rfl,cQ' rfl]
   simp
  .rw[show ziR (r :: rs) k=((Key.inl (r:Int):Key),V.int k) :: ziR rs (k+1) from rfl,cR' (fun z=>h (ri'.mp z)),hh']
   have hx:¬x=r:=fun z=>h z.symm
   have e1:(r == x)=false:=by rw[beq_eq_false_iff_ne];exact h
   simp only[ak,hx,false_or]
   rw[List.idxOf_cons,e1]
   split
   .simp only[cond_false]
    rw[show k+1+rs.idxOf x=k+(rs.idxOf x+1) by omega]
   .rfl
theorem lE':∀{rs:List Nat} {k:Nat},(ziR rs k).length=rs.length
 | [],_=>rfl
 |_ :: rs,k=>by show(ziR rs (k+1)).length+1=_;rw[lE'];rfl
theorem o2' {n:Nat}:∀{rs:List Nat} {k m:Nat},(∀r∈rs,r<n)->k+rs.length<=m->TbK n m (ziR rs k)
 | [],_,_,_,_=>fun kv h=>absurd h aq
 |r :: rs,k,m,h,hm=>fun kv hkv=>by
  rw[aV]at hm
  rcases ak.mp hkv with rfl|hkv
  .exact⟨r,k,rfl,h r (by simp),by omega⟩
  .exact o2' (k:=k+1) (fun x hx=>h x (by simp[hx])) (by omega) kv hkv
theorem o3' {C:Rc} {H:Hp} {Q:VK} {p:Addr} {n:Nat} {rs:List Nat} {o:Option Nat} (h:∀r∈rs,r<n) (hn:n<=1000) (hp:H p=some (.dK (ziR rs 0))) (q:Q (oV (ixR rs o)) H):gh' p Q (oV o) H:=by
 cases o with
 |none=>exact g8' ((o2' (m:=rs.length) h (by omega)).non hn hp) q
 |some x=>
  refine g7' (e4'.k (k:=.inl (x:Int)) hp) ?_
  rw[hh']
  rw[in']at q
  by_cases hx:x∈rs
  .rw[if_pos hx]at q ⊢
   rw[Nat.zero_add]
   exact q
  .rw[if_neg hx]at q ⊢
   exact q
def d7':Sp:=fun vs H Q _=>∃(a l:Addr) (M:List Rm) (rs:List Nat),vs=[.ref a,.ref l]/\IsM H a M/\M.length<=500/\H l=some (.lst (rs.map nV))/\(∀r∈rs,r<M.length)/\rs.Nodup/\rs.length<=500/\∀(p:Addr) (H':Hp),aw' H H'->IsM H' p (prt M rs)->Q (.ref p) H'
theorem jb' {C:Rc} (hN:C.N.length=5):∀vs H Q E,d7' vs H Q E->tSs C bW' { nx:=fun _ H'=>Q .non H',rt:=Q } (L2.aQ' C.N vs) H:=by
 intro vs H Q E h
 obtain⟨a,l,M,rs,rfl,hM,hM5,hl,hrs,hnd,hlen,q⟩:=h
 rw[as' hN]
 unfold bW'
 symm
 refine if' (SqL.of hl) (zn' (vs:=rs.map nV) (fun i b H'=>b=ziR (rs.take i) 0/\i<=rs.length/\aw' H H') ⟨rfl,aO _,aw'.refl _⟩ (fun i b H' pv=>SqL.of (pv.2.2 _ _ hl)) ?_ ?_)
 .rintro i b H1 x p R hx hp ⟨rfl,hi0,s1⟩ hR
  rw[au]at hx
  cases er:rs[i]? with
  |none=>rw[er]at hx;cases hx
  |some r=>
  rw[er]at hx
  cases hx
  have hi:=ak' er
  refine d1' (SqT.of aa') ?_
  have s2:=s1.trans (af' hp (.tup [.int i,nV r]))
  generalize upd H1 p (.tup [.int i,nV r])=H2 at s2 ⊢
  simp only[nV]
  symm
  have et:rs.take (i+1)=rs.take i++[r]:=by rw[bB,er];rfl
  have hno:r∉rs.take i:=fun hm=>by
   obtain⟨j,hj,ej⟩:=cf.mp hm
   rw[aI]at hj
   rw[cH]at ej
   have er':rs[i]'hi=r:=by rw[ac hi]at er;exact Option.some.inj er
   have:=vD' hnd (hi:=by omega) (hj:=hi) (ej.trans er'.symm)
   omega
  refine⟨.inl (r:Int),rfl,by rw[lE',aI];exact ap' (by omega),hR _ _ ⟨?_,by omega,s2⟩⟩
  rw[e3' _ (by rw[hh',if_neg hno]),et,io',aI,Nat.min_eq_left (by omega),Nat.zero_add]
 .rintro kvs H1 ⟨rfl,_,s1⟩
  rw[af,bj]
  refine⟨trivial,fun p hp=>?_⟩
  have s2:=s1.trans (af' hp (.dK (ziR rs 0)))
  have hp2:upd H1 p (.dK (ziR rs 0)) p=some (.dK (ziR rs 0)):=aa'
  generalize upd H1 p (.dK (ziR rs 0))=H2 at s2 hp2 ⊢
  symm
  refine a6' (SqL.of (s2 _ _ hl)) (eM' (vs:=rs.map nV) (fun i xs H'=>bv' H' xs ((rs.take i).map fun r=>(ixR rs (fs1 M r),ixR rs (fs2 M r)))/\i<=rs.length/\aw' H2 H') ⟨trivial,aO _,aw'.refl _⟩ (fun i xs H' pv=>SqL.of (pv.2.2 _ _ (s2 _ _ hl))) ?_ ?_)
  .rintro i xs H3 x R hx ⟨hR',hi0,s3⟩ hR
   rw[au]at hx
   cases er:rs[i]? with
   |none=>rw[er]at hx;cases hx
   |some r=>
   rw[er]at hx
   cases hx
   have hi:=ak' er
   have hrM:=hrs r (av er)
   have hM3:=hM.mono (ag' (s2.trans s3))
   have hp3:=s3 _ _ hp2
   simp only[nV]
   symm
   refine dh' (.inl ⟨_,.inl hp3⟩) ?_
   symm
   refine d4' hM3 hrM fun pr hpr=>?_
   symm
   refine aL' (SqT.of hpr) (v:=oV (fs1 M r)) rfl ?_
   refine o3' (C:=C) hrs (by omega) hp3 ?_
   symm
   refine dh' (.inl ⟨_,.inl hp3⟩) ?_
   symm
   refine d4' hM3 hrM fun pr hpr=>?_
   symm
   refine aL' (SqT.of hpr) (v:=oV (fs2 M r)) rfl ?_
   refine o3' (C:=C) hrs (by omega) hp3 ?_
   symm
   refine⟨by show 2<=sizeLine;decide,fun p4 hp4=>?_⟩
   have s4:=af' hp4 (.tup [oV (ixR rs (fs1 M r)),oV (ixR rs (fs2 M r))])
   have h4:upd H3 p4 (.tup [oV (ixR rs (fs1 M r)),oV (ixR rs (fs2 M r))]) p4=some (.tup [oV (ixR rs (fs1 M r)),oV (ixR rs (fs2 M r))]):=aa'
   generalize upd H3 p4 (.tup [oV (ixR rs (fs1 M r)),oV (ixR rs (fs2 M r))])=H4 at s4 h4 ⊢
   have hxl:=hR'.len
   rw[af,aI]at hxl
   refine⟨ap' (by omega),hR _ _ ⟨?_,by omega,s3.trans s4⟩⟩
   rw[bB,er,aK]
   exact(hR'.mono (ag' s4)).snoc ⟨p4,rfl,h4⟩
  .rintro xs H3 ⟨hR',_,s3⟩ p5 hp5
   rw[af,bj]at hR'
   symm
   have h5:upd H3 p5 (.lst xs) p5=some (.lst xs):=aa'
   have s5:=af' hp5 (.lst xs)
   generalize upd H3 p5 (.lst xs)=H5 at h5 s5 ⊢
   refine fo' (SqL.of h5) fun p6 hp6=>?_
   have s6:=af' hp6 (.tup xs)
   exact q p6 _ (s2.trans (s3.trans (s5.trans s6))) ⟨xs,aa',hR'.mono (ag' (s5.trans s6))⟩
structure Rs (M:List Rm) (rs:List Nat):Prop where
 rise:rs.Pairwise (· < ·)
 lt:∀r∈rs,r<M.length
 fix:lst M rs=rs
 all:∀S,Sus M S->∀r∈S,r∈rs
theorem lF' {rs:List Nat} (h:rs.Pairwise (· < ·)):rs.Nodup:=h.imp fun {a b} z=>ax z
theorem ip':∀{a b:List Nat},a.Pairwise (· < ·)->b.Pairwise (· < ·)->(∀x,x∈a↔x∈b)->a=b
 | [],[],_,_,_=>rfl
 | [],y :: b,_,_,h=>absurd ((h y).mpr (by simp)) aq
 |x :: a,[],_,_,h=>absurd ((h x).mp (by simp)) aq
 |x :: a,y :: b,ha,hb,h=>by
  rw[List.pairwise_cons]at ha hb
  have e:x=y:=by
   rcases ak.mp ((h x).mp (by simp))with e|e
   .exact e
   .rcases ak.mp ((h y).mpr (by simp))with e'|e'
    .exact e'.symm
    .have:=hb.1 x e
     have:=ha.1 y e'
     omega
  subst e
  congr 1
  refine ip' ha.2 hb.2 fun z=>?_
  have:=h z
  simp only[ak]at this
  constructor
  .intro hz
   rcases this.mp (.inr hz)with e|e
   .have:=ha.1 z hz;omega
   .exact e
  .intro hz
   rcases this.mpr (.inr hz)with e|e
   .have:=hb.1 z hz;omega
   .exact e
theorem rj' {M:List Rm} {rs:List Nat} (hl:∀r∈rs,r<M.length) (h:lst M rs=rs):Sus M rs:=by
 intro r hr
 have h2:r∈lst M rs:=by rw[h];exact hr
 have h3:=(br.mp h2).2
 unfold c1' at h3
 rw[ag,aS]at h3
 refine⟨hl r hr,?_,?_⟩
 .obtain⟨r',hr',e⟩:=bQ.mp h3.1
  refine⟨r',hr',?_⟩
  rw[aS,decide_eq_true_eq,decide_eq_true_eq]at e
  rcases e with e|e
  .exact .inl (oY' (b:=some r) (by rw[<- e];rfl))
  .exact .inr (oY' (b:=some r) (by rw[<- e];rfl))
 .have key:∀o,inR rs o=true->∃r'∈rs,o=some r':=fun o ho=>by
   cases o with
   |none=>cases ho
   |some n=>exact⟨n,cD.mp ho,rfl⟩
  rcases h3.2 with e|e
  .obtain⟨r',hr',e'⟩:=key _ e
   exact⟨r',hr',.inl e'⟩
  .obtain⟨r',hr',e'⟩:=key _ e
   exact⟨r',hr',.inr e'⟩
theorem Rs.sus {M:List Rm} {rs:List Nat} (h:Rs M rs):Sus M rs:=rj' h.lt h.fix
theorem Rs.uniq {M:List Rm} {rs rs':List Nat} (h:Rs M rs) (h':Rs M rs'):rs=rs':=ip' h.rise h'.rise fun x=>⟨fun z=>h'.all _ h.sus x z,fun z=>h.all _ h'.sus x z⟩
set_option tactic.hygienic true in
theorem d8' {α:Type} {p:α->Bool}:∀{l:List α},l.length<=(l.filter p).length->l.filter p=l
 | [],_=>rfl
 |a :: l,h=>by
  rw[List.filter_cons]at h ⊢
  have:=bZ p l
  split at h
  .rename_i hp
   rw[if_pos hp]
   rw[aV,aV]at h
   rw[d8' (by omega)]
  .rw[aV]at h
   omega
def ck':Sp:=fun vs H Q _=>∃(a:Addr) (M:List Rm),vs=[.ref a]/\IsM H a M/\M.length<=500/\∀(p p' l:Addr) (rs:List Nat) (H':Hp),aw' H H'->H l=none->H' p=some (.tup [.ref p',.ref l])->H' l=some (.lst (rs.map nV))->IsM H' p' (prt M rs)->Rs M rs->Q (.ref p) H'
theorem jc' {C:Rc} (hN:C.N.length=3) (hL:C.fs "lasting"=some gl') (hP:C.fs "part_of"=some d7'):∀vs H Q E,ck' vs H Q E->tSs C bX' { nx:=fun _ H'=>Q .non H',rt:=Q } (L2.aQ' C.N vs) H:=by
 intro vs H Q E h
 obtain⟨a,M,rfl,hM,hM5,q⟩:=h
 rw[as' hN]
 unfold bX'
 obtain⟨mv,hmv,hmr⟩:=id hM
 symm
 refine d3' (SqT.of hmv) ?_
 rw[hmr.len]
 symm
 refine gg' fun pr hpr=>?_
 symm
 have hsz:((M.length:Int)-0).toNat<=sizeLine:=bK (ap' (by omega))
 refine ig' aa' (by omega) (by omega) (by omega) (by omega) hsz fun p1 hp1=>?_
 rw[show((M.length:Int)-0).toNat=M.length by omega,o0']
 have s1:=(af' hpr (.rng 0 M.length)).trans (af' hp1 (.lst ((aF M.length).map nV)))
 have h1:upd (upd H pr (.rng 0 M.length)) p1 (.lst ((aF M.length).map nV)) p1=some (.lst ((aF M.length).map nV)):=aa'
 have f1:H p1=none:=(af' hpr (.rng 0 M.length)).free hp1
 generalize upd (upd H pr (.rng 0 M.length)) p1 (.lst ((aF M.length).map nV))=H1 at s1 h1 ⊢
 symm
 refine ao' hL ?_
 symm
 refine⟨a,p1,M,aF M.length,rfl,hM.mono (ag' s1),h1,fun r hr=>aJ.mp hr,by rw[bg];omega,fun p2 H2 hp2 s2 h2=>?_⟩
 symm
 refine oM' (fun m σ H'=>aw' H H'/\∃(l1 l2:Addr) (rs:List Nat),σ=[some (.ref a),some (.ref l1),some (.ref l2)]/\H l1=none/\H l2=none/\H' l1=some (.lst (rs.map nV))/\H' l2=some (.lst ((lst M rs).map nV))/\(∀r∈rs,r<M.length)/\rs.Pairwise (· < ·)/\rs.length<=M.length/\(∀S,Sus M S->∀r∈S,r∈rs)/\m=rs.length) _ ⟨s1.trans s2,p1,p2,aF M.length,rfl,f1,s1.free hp2,s2 _ _ h1,h2,fun r hr=>aJ.mp hr,List.pairwise_lt_range,by rw[bg];omega,fun S hS r hr=>aJ.mpr (hS r hr).1,rfl⟩ ?_
 rintro m σ H3 ⟨s3,l1,l2,rs,rfl,f1,f2,hl1,hl2,hrs,hri,hrl,hSr,rfl⟩
 symm
 refine dg' (SqL.of hl2) ?_
 symm
 refine dg' (SqL.of hl1) ?_
 rw[af,af]
 symm
 have hle:=vB' (M:=M) (rs:=rs)
 refine bs' (fun hc=>oN' ?_) fun hc=>oO' ?_
 .symm
  refine ao' hL ?_
  symm
  refine⟨a,l2,M,lst M rs,rfl,hM.mono (ag' s3),hl2,fun r hr=>hrs r (lw' hr),by omega,fun p4 H4 hp4 s4 h4=>?_⟩
  symm
  exact⟨(lst M rs).length,by omega,s3.trans s4,l2,p4,lst M rs,rfl,f2,s3.free hp4,s4 _ _ hl2,h4,fun r hr=>hrs r (lw' hr),hri.sublist List.filter_sublist,by omega,fun S hS=>fq' hS (hSr S hS),rfl⟩
 .symm
  refine ao' hP ?_
  symm
  refine⟨a,l1,M,rs,rfl,hM.mono (ag' s3),hM5,hl1,hrs,lF' hri,by omega,fun p4 H4 s4 hM4=>?_⟩
  symm
  refine⟨by show 2<=sizeLine;decide,fun p5 hp5=>?_⟩
  have s5:=af' hp5 (.tup [.ref p4,.ref l1])
  exact q p5 p4 l1 rs _ (s3.trans (s4.trans s5)) f1 aa' (s5 _ _ (s4 _ _ hl1)) (hM4.mono (ag' s5)) ⟨hri,hrs,d8' (by have:¬((lst M rs).length:Int)<rs.length:=hc;unfold lst at this;omega),hSr⟩
end TE
namespace SR
open PySem PySem.Spec PyProof.Rows L2 R3 LW
section
variable {K:W.Frag} {H:Hp} {Q:VK}
end
def tn (l:List Bool) (n:Nat):List Bool:=(l.take n).map (!·)++l.drop n
end SR
namespace CK
open PySem PySem.Spec PyProof.Rows L2 R3 LW SR
def bk':Css:=(.cons (.ret (.and (.blt .isinstance (.cons (.var 0) (.cons (.ty "int") .nil))) (.not (.blt .isinstance (.cons (.var 0) (.cons (.ty "bool") .nil))))))
  .nil)
def bl':Css:=(.cons (.ret (.and (.call "is_number" (.cons (.var 0) .nil)) (.chn .LtE .LtE (.var 1) (.var 0) (.var 2))))
  .nil)
def bY':Css:=(.cons (.ret (.and (.blt .isinstance (.cons (.var 0) (.cons (.ty "tuple") .nil))) (.cmp .Eq (.blt .len (.cons (.var 0) .nil)) (.int 2))))
  .nil)
def bZ':Css:=(.cons (.ret (.or (.cmp .Is (.var 0) .non) (.call "is_within" (.cons (.var 0) (.cons (.int 0) (.cons (.bin .Sub (.var 1) (.int 1)) .nil))))))
  .nil)
def b0':Css:=(.cons (.ret (.and (.call "is_pair" (.cons (.var 0) .nil)) (.and (.call "is_lead" (.cons (.idx (.var 0) (.int 0)) (.cons (.var 1) .nil))) (.call "is_lead" (.cons (.idx (.var 0) (.int 1)) (.cons (.var 1) .nil))))))
  .nil)
def bf':Css:=(.cons (.ite (.not (.val (.blt .isinstance (.cons (.var 0) (.cons (.ty "tuple") .nil))))) (.cons (.ret (.bl false))
  .nil) .nil)
  (.cons (.ret (.blt .all (.cons (.comp (.call "is_room" (.cons (.var 1) (.cons (.blt .len (.cons (.var 0) .nil)) .nil))) [1] (.name 1) (.val (.var 0)) .none .nil) .nil)))
  .nil))
def Val (H:Hp) (v:V):Prop:=(∃i,v=.int i)\/((∀i,v≠.int i)/\∃T∈["NoneType","bool","str","list","tuple"],a4' H v=some T)
def isN:V->Bool
 | .int _=>true
 |_=>false
theorem vE' {v:V} (h:∀i,v≠.int i):isN v=false:=by
 cases v with
 |int i=>exact absurd rfl (h i)
 |_=>rfl
def d9':Sp:=fun vs H Q _=>∃v,vs=[v]/\Val H v/\Q (.bl (isN v)) H
theorem jd' {C:Rc} (hN:C.N.length=1):∀vs H Q E,d9' vs H Q E->tSs C bk' { nx:=fun _ H'=>Q .non H',rt:=Q } (L2.aQ' C.N vs) H:=by
 intro vs H Q E h
 obtain⟨v,rfl,hv,q⟩:=h
 rw[as' hN]
 unfold bk'
 symm
 rcases hv with⟨i,rfl⟩|⟨h0,T,hT,hv⟩
 .refine cN' (T:="int") rfl (k:=true) rfl (by decide) (by decide) ?_
  symm
  refine cN' (T:="int") rfl (k:=false) rfl (by decide) (by decide) ?_
  symm
  exact q
 .rw[vE' h0]at q
  simp only[ak,aq,or_false]at hT
  rcases hT with rfl|rfl|rfl|rfl|rfl
  .refine cN' hv (k:=false) rfl (by decide) (by decide) ?_
   symm
   exact q
  .refine cN' hv (k:=true) rfl (by decide) (by decide) ?_
   symm
   refine cN' hv (k:=true) rfl (by decide) (by decide) ?_
   symm
   exact q
  .refine cN' hv (k:=false) rfl (by decide) (by decide) ?_
   symm
   exact q
  .refine cN' hv (k:=false) rfl (by decide) (by decide) ?_
   symm
   exact q
  .refine cN' hv (k:=false) rfl (by decide) (by decide) ?_
   symm
   exact q
theorem rk' {C:Rc} {σ:L2.St} {H:Hp} {Q:VK} {c1 c2 c3:Ce} {a n m:Int} (h1:∀Q,Q (V.int a) H->tE C c1 σ H Q) (h2:∀Q,Q (V.int n) H->tE C c2 σ H Q) (h3:∀Q,Q (V.int m) H->tE C c3 σ H Q) (ha:a<=n) (hb:n<=m) (q:Q (.bl true) H):tE C (.chn .LtE .LtE c1 c2 c3) σ H Q:=by
 show di' (bu' C.K .LtE) (bu' C.K .LtE) (tE C c1) (tE C c2) (tE C c3) σ H Q
 unfold di'
 refine h1 _ (h2 _ ⟨a,n,rfl,rfl,true,?_,?_⟩)
 .show V.bl (decide (a<=n))=_
  rw[decide_eq_true ha]
 .rw[if_pos rfl]
  refine h3 _ ⟨n,m,rfl,rfl,?_⟩
  show Q (V.bl (decide (n<=m))) H
  rw[decide_eq_true hb]
  exact q
def c2':Sp:=fun vs H Q _=>∃(i lo hi:Int),vs=[.int i,.int lo,.int hi]/\lo<=i/\i<=hi/\Q (.bl true) H
theorem ht' {C:Rc} (hN:C.N.length=3) (hI:C.fs "is_number"=some d9'):∀vs H Q E,c2' vs H Q E->tSs C bl' { nx:=fun _ H'=>Q .non H',rt:=Q } (L2.aQ' C.N vs) H:=by
 intro vs H Q E h
 obtain⟨i,lo,hi,rfl,h1,h2,q⟩:=h
 rw[as' hN]
 unfold bl'
 symm
 refine ao' hI ?_
 symm
 refine⟨_,rfl,.inl ⟨i,rfl⟩,?_⟩
 simp only[isN]
 symm
 exact rk' (a:=lo) (n:=i) (m:=hi) (fun Q q=>by symm;exact q) (fun Q q=>by symm;exact q) (fun Q q=>by symm;exact q) h1 h2 q
def go':Sp:=fun vs H Q _=>∃p x y,vs=[.ref p]/\H p=some (.tup [x,y])/\Q (.bl true) H
theorem lG' {C:Rc} (hN:C.N.length=1):∀vs H Q E,go' vs H Q E->tSs C bY' { nx:=fun _ H'=>Q .non H',rt:=Q } (L2.aQ' C.N vs) H:=by
 intro vs H Q E h
 obtain⟨p,x,y,rfl,hp,q⟩:=h
 rw[as' hN]
 unfold bY'
 symm
 refine cN' (T:="tuple") (by simp only[a4',hp]) (k:=true) rfl (by decide) (by decide) ?_
 symm
 refine d3' (SqT.of hp) ?_
 symm
 exact q
def gp':Sp:=fun vs H Q _=>∃(o:Option Nat) (N:Nat),vs=[oV o,.int N]/\(∀x,o=some x->x<N)/\Q (.bl true) H
theorem lH' {C:Rc} (hN:C.N.length=2) (hW:C.fs "is_within"=some c2'):∀vs H Q E,gp' vs H Q E->tSs C bZ' { nx:=fun _ H'=>Q .non H',rt:=Q } (L2.aQ' C.N vs) H:=by
 intro vs H Q E h
 obtain⟨o,N,rfl,ho,q⟩:=h
 rw[as' hN]
 unfold bZ'
 cases o with
 |none=>
  simp only[oV]
  symm
  exact q
 |some x=>
  have:=ho x rfl
  simp only[oV]
  symm
  refine ao' hW ?_
  symm
  refine⟨_,_,_,rfl,by omega,by omega,?_⟩
  symm
  exact q
def gq':Sp:=fun vs H Q _=>∃(p:Addr) (r:Rm) (N:Nat),vs=[.ref p,.int N]/\H p=some (.tup [oV r.1,oV r.2])/\OkR N r/\Q (.bl true) H
theorem lI' {C:Rc} (hN:C.N.length=2) (hP:C.fs "is_pair"=some go') (hL:C.fs "is_lead"=some gp'):∀vs H Q E,gq' vs H Q E->tSs C b0' { nx:=fun _ H'=>Q .non H',rt:=Q } (L2.aQ' C.N vs) H:=by
 intro vs H Q E h
 obtain⟨p,r,N,rfl,hp,hr,q⟩:=h
 rw[as' hN]
 unfold b0'
 symm
 refine ao' hP ?_
 symm
 refine⟨p,_,_,rfl,hp,?_⟩
 symm
 refine ao' hL ?_
 symm
 refine aL' (SqT.of hp) (v:=oV r.1) rfl ?_
 symm
 refine⟨r.1,N,rfl,hr.1,?_⟩
 symm
 refine ao' hL ?_
 symm
 refine aL' (SqT.of hp) (v:=oV r.2) rfl ?_
 symm
 refine⟨r.2,N,rfl,hr.2,?_⟩
 symm
 exact q
def je':Sp:=fun vs H Q _=>∃(a:Addr) (M:List Rm),vs=[.ref a]/\IsM H a M/\OkM M/\M.length<=500/\∀H',aw' H H'->Q (.bl true) H'
theorem nQ' {C:Rc} (hN:C.N.length=2) (hR:C.fs "is_room"=some gq'):∀vs H Q E,je' vs H Q E->tSs C bf' { nx:=fun _ H'=>Q .non H',rt:=Q } (L2.aQ' C.N vs) H:=by
 intro vs H Q E h
 obtain⟨a,M,rfl,hM,hO,hl,q⟩:=h
 obtain⟨mv,hmv,hmr⟩:=id hM
 have hml:=hmr.len
 rw[as' hN]
 unfold bf'
 symm
 refine cN' (T:="tuple") (by simp only[a4',hmv]) (k:=true) rfl (by decide) (by decide) ?_
 symm
 refine bN' (SqT.of hmv) (oP' (vs:=mv) (fun i xs H'=>xs=(aC i true).map V.bl/\i<=M.length/\H'=H) ⟨rfl,aO _,rfl⟩ (fun i xs H' pv=>SqT.of (by rw[pv.2.2];exact hmv)) ?_ ?_)
 .rintro i xs H' x R hx ⟨rfl,hi,rfl⟩ hR'
  have hi':i<M.length:=by rw[<- hml];exact ak' hx
  obtain⟨pr,epr,hpr⟩:=hmr.get (ac hi')
  rw[hx]at epr
  cases epr
  symm
  refine ao' hR ?_
  symm
  refine d3' (SqT.of hmv) ?_
  symm
  refine⟨pr,M[i],M.length,by rw[hml],hpr,hO _ (cu hi'),?_⟩
  symm
  refine⟨by rw[af,List.length_replicate];exact ap' (by omega),hR' _ _ ⟨?_,by omega,rfl⟩⟩
  rw[List.replicate_succ',aK]
  rfl
 .rintro xs H' ⟨rfl,_,rfl⟩ p hp
  symm
  refine oQ' (SqL.of aa') ?_
  have e:(aC mv.length true).all id=true:=by simp
  rw[e]
  exact q _ (af' hp _)
def Lt (H:Hp) (a:Addr) (vs:List V):Prop:=H a=some (.lst vs)\/H a=some (.tup vs)
end CK
namespace K04
open PySem PySem.Spec PyProof.Rows L2 R3 LW
def du':Css:=(.cons (.ite (.cmp .Eq (.call "_law_take" (.cons (.var 0) (.cons (.int 8) .nil))) (.int 0)) (.cons (.asg (.name 1) (.lst (.cons (.bin .Add (.int 1) (.call "_law_take" (.cons (.var 0) (.cons (.int 8) .nil)))) (.cons (.bin .Add (.int 1) (.call "_law_take" (.cons (.var 0) (.cons (.int 8) .nil)))) .nil))))
  (.cons (.asg (.name 2) (.comp (.bin .Add (.var 3) (.call "_law_take" (.cons (.var 0) (.cons (.bin .Sub (.int 9) (.var 3)) .nil)))) [3] (.name 3) (.val (.var 1)) .none .nil))
  (.cons (.ret (.tup (.cons (.idx (.var 1) (.int 0)) (.cons (.idx (.var 2) (.int 0)) (.cons (.idx (.var 1) (.int 1)) (.cons (.idx (.var 2) (.int 1)) (.cons (.idx (.lst (.cons .non (.cons .non (.cons (.bin .Add (.int 3) (.call "_law_take" (.cons (.var 0) (.cons (.int 14) .nil)))) .nil)))) (.call "_law_take" (.cons (.var 0) (.cons (.int 3) .nil)))) .nil)))))))
  .nil))) .nil)
  (.cons (.asg (.name 1) (.lst (.cons (.bin .Add (.int 1) (.call "_law_take" (.cons (.var 0) (.cons (.int 2) .nil)))) (.cons (.bin .Add (.int 1) (.call "_law_take" (.cons (.var 0) (.cons (.int 2) .nil)))) .nil))))
  (.cons (.asg (.name 2) (.comp (.bin .Add (.var 3) (.call "_law_take" (.cons (.var 0) (.cons (.int 4) .nil)))) [3] (.name 3) (.val (.var 1)) .none .nil))
  (.cons (.ret (.tup (.cons (.idx (.var 1) (.int 0)) (.cons (.idx (.var 2) (.int 0)) (.cons (.idx (.var 1) (.int 1)) (.cons (.idx (.var 2) (.int 1)) (.cons (.idx (.lst (.cons .non (.cons .non (.cons (.bin .Add (.int 1) (.call "_law_take" (.cons (.var 0) (.cons (.int 6) .nil)))) .nil)))) (.call "_law_take" (.cons (.var 0) (.cons (.int 3) .nil)))) .nil)))))))
  .nil))))
open SR TM BD BE TE
theorem vF' {C:Rc} {H:Hp} {Q:VK} {a:Addr} {y r:Int} (h:H a=some (.lst [.non,.non,.int y])) (h0:0<=r) (h1:r<3) (hy:0<=y) (q:∀o:Option Nat,(∀s,o=some s->(s:Int)=y)->Q (oV o) H):gB' C.K (.ref a) (.int r) H Q\/hJ' C.K (.ref a) (.int r) H Q:=by
 obtain⟨k,rfl⟩:=bp h0
 have hk:k=0\/k=1\/k=2:=by omega
 rcases hk with rfl|rfl|rfl
 .exact a7' (SqL.of h) (v:=.non) rfl (q none fun _ z=>(nomatch z))
 .exact a7' (SqL.of h) (v:=.non) rfl (q none fun _ z=>(nomatch z))
 .refine a7' (SqL.of h) (v:=.int y) rfl ?_
  have:=q (some y.toNat) fun s z=>by cases z;omega
  rw[show oV (some y.toNat)=.int y by show V.int (y.toNat:Int)=_;rw[Int.toNat_of_nonneg hy]]at this
  exact this
def bP':Sp:=fun vs H Q _=>∃(b:Addr) (n:Nat),vs=[.ref b]/\H b=some (fn' b n)/\n<=2 ^ 39/\∀(p:Addr) (l0 h0 l1 h1:Nat) (sp:Option Nat) (H':Hp),Go 20 H H'->IsB H' p l0 h0 l1 h1 sp->1<=l0->l0<=h0->1<=l1->l1<=h1->Q (.ref p) H'
theorem gr' {C:Rc} (hN:C.N.length=4) (hT:C.fs "_law_take"=some il'):∀vs H Q E,bP' vs H Q E->tSs C du' { nx:=fun _ H'=>Q .non H',rt:=Q } (L2.aQ' C.N vs) H:=by
 intro vs H Q E h
 obtain⟨b,n,rfl,hb,hn,q⟩:=h
 rw[as' hN]
 unfold du'
 symm
 refine ao' hT ?_
 symm
 refine⟨b,n,_,rfl,hb,by omega,by omega,by omega,fun r0 H0 h00 h01 g0=>?_⟩
 obtain⟨n0,hb0,hn0,_⟩:=g0.boxed hb (by omega)
 symm
 refine bs' (fun hq=>?_) fun hq=>?_
 .symm
  refine ao' hT ?_
  symm
  refine⟨b,n0,_,rfl,hb0,by omega,by omega,by omega,fun r1 H1 h10 h11 g1=>?_⟩
  obtain⟨r1,rfl⟩:=bp h10
  obtain⟨n1,hb1,hn1,_⟩:=g1.boxed hb0 (by omega)
  symm
  refine ao' hT ?_
  symm
  refine⟨b,n1,_,rfl,hb1,by omega,by omega,by omega,fun r2 H2 h20 h21 g2=>?_⟩
  obtain⟨r2,rfl⟩:=bp h20
  obtain⟨n2,hb2,hn2,_⟩:=g2.boxed hb1 (by omega)
  symm
  refine⟨by decide,fun pl hpl=>?_⟩
  have g3:Go 3 H (upd H2 pl (.lst [.int (1+r1),.int (1+r2)])):=(((g0.trans g1).trans g2).trans (Go.new (c:=0) hpl _)).mono (by omega)
  have hpl3:upd H2 pl (.lst [.int (1+r1),.int (1+r2)]) pl=some (.lst ([1+r1,1+r2].map nV)):=by
   rw[aa']
   show some (HO.lst [.int (1+(r1:Int)),.int (1+(r2:Int))])=some (HO.lst [.int ((1+r1:Nat):Int),.int ((1+r2:Nat):Int)])
   rw[show(1:Int)+r1=((1+r1:Nat):Int) by omega,show(1:Int)+r2=((1+r2:Nat):Int) by omega]
  generalize upd H2 pl (.lst [.int (1+r1),.int (1+r2)])=H3 at g3 hpl3 ⊢
  symm
  refine a6' (SqL.of hpl3) (eM' (vs:=[1+r1,1+r2].map nV) (fun i xs H'=>(∃hs:List Nat,xs=hs.map nV/\hs.length=i/\i<=2/\bO' (fun(h lo:Nat)=>lo<=h/\h<=8) hs ([1+r1,1+r2].take i))/\Go i H3 H') ⟨⟨[],rfl,rfl,by omega,trivial⟩,Go.refl⟩ (fun i xs H' pv=>SqL.of (pv.2.lst hpl3)) ?_ ?_)
  .rintro i xs H4 x R hx ⟨⟨hs,rfl,hsl,hi2,hs8⟩,g4⟩ hR
   rw[au]at hx
   cases er:[1+r1,1+r2][i]? with
   |none=>rw[er]at hx;cases hx
   |some lo=>
   rw[er]at hx
   cases hx
   have hi:=ak' er
   simp only[aV,cC]at hi
   have hlo:lo<=8:=by
    have:=av er
    simp only[ak,aq,or_false]at this
    rcases this with rfl|rfl<;>omega
   obtain⟨n4,hb4,hn4,_⟩:=(g3.trans g4).boxed hb (by omega)
   simp only[nV]
   symm
   refine ao' hT ?_
   symm
   refine⟨b,n4,_,rfl,hb4,by omega,by omega,by omega,fun r5 H5 h50 h51 g5=>?_⟩
   obtain⟨r5,rfl⟩:=bp h50
   symm
   refine⟨by rw[af];exact ap' (by omega),hR _ _ ⟨⟨hs++[lo+r5],by rw[aK];rfl,by simp[hsl],by omega,by rw[bB,er];exact hs8.snoc ⟨by omega,by omega⟩⟩,g4.trans g5⟩⟩
  .rintro xs H4 ⟨⟨hs,rfl,hsl,_,hs8⟩,g4⟩ ph hph
   have hsl:hs.length=2:=hsl
   have g4:Go 2 H3 H4:=g4
   obtain⟨y1,y2,rfl⟩:∃y1 y2,hs=[y1,y2]:=by
    match hs,hsl with
    | [y1,y2],_=>exact⟨y1,y2,rfl⟩
   obtain⟨⟨a1,a2⟩,⟨b1,b2⟩,_⟩:=hs8
   have g5:Go 5 H (upd H4 ph (.lst ([y1,y2].map nV))):=((g3.trans g4).trans (Go.new (c:=0) hph _)).mono (by omega)
   have hph5:upd H4 ph (.lst ([y1,y2].map nV)) ph=some (.lst ([y1,y2].map nV)):=aa'
   have hpl5:=(Go.new (c:=0) hph (.lst ([y1,y2].map nV))).lst (g4.lst hpl3)
   generalize upd H4 ph (.lst ([y1,y2].map nV))=H5 at g5 hph5 hpl5 ⊢
   obtain⟨n5,hb5,hn5,_⟩:=g5.boxed hb (by omega)
   symm
   refine a7' (SqL.of hpl5) (v:=nV (1+r1)) rfl ?_
   symm
   refine a7' (SqL.of hph5) (v:=nV y1) rfl ?_
   symm
   refine a7' (SqL.of hpl5) (v:=nV (1+r2)) rfl ?_
   symm
   refine a7' (SqL.of hph5) (v:=nV y2) rfl ?_
   symm
   refine ao' hT ?_
   symm
   refine⟨b,n5,_,rfl,hb5,by omega,by omega,by omega,fun r6 H6 h60 h61 g6=>?_⟩
   symm
   refine⟨by decide,fun p7 hp7=>?_⟩
   have g7:Go 6 H (upd H6 p7 (.lst [.non,.non,.int (3+r6)])):=((g5.trans g6).trans (Go.new (c:=0) hp7 _)).mono (by omega)
   have h7:upd H6 p7 (.lst [.non,.non,.int (3+r6)]) p7=some (.lst [.non,.non,.int (3+r6)]):=aa'
   generalize upd H6 p7 (.lst [.non,.non,.int (3+r6)])=H7 at g7 h7 ⊢
   obtain⟨n7,hb7,hn7,_⟩:=g7.boxed hb (by omega)
   refine ao' hT ?_
   symm
   refine⟨b,n7,_,rfl,hb7,by omega,by omega,by omega,fun r8 H8 h80 h81 g8=>?_⟩
   symm
   refine vF' (g8.lst h7) h80 h81 (by omega) fun sp hsp=>?_
   symm
   refine⟨by show 5<=sizeLine;decide,fun p9 hp9=>?_⟩
   refine q p9 (1+r1) y1 (1+r2) y2 sp _ (((g7.trans g8).trans (Go.new (c:=0) hp9 _)).mono (by omega)) ⟨aa',a2,b2,fun s z=>?_⟩ (by omega) a1 (by omega) b1
   have:=hsp s z
   omega
 .symm
  refine ao' hT ?_
  symm
  refine⟨b,n0,_,rfl,hb0,by omega,by omega,by omega,fun r1 H1 h10 h11 g1=>?_⟩
  obtain⟨r1,rfl⟩:=bp h10
  obtain⟨n1,hb1,hn1,_⟩:=g1.boxed hb0 (by omega)
  symm
  refine ao' hT ?_
  symm
  refine⟨b,n1,_,rfl,hb1,by omega,by omega,by omega,fun r2 H2 h20 h21 g2=>?_⟩
  obtain⟨r2,rfl⟩:=bp h20
  obtain⟨n2,hb2,hn2,_⟩:=g2.boxed hb1 (by omega)
  symm
  refine⟨by decide,fun pl hpl=>?_⟩
  have g3:Go 3 H (upd H2 pl (.lst [.int (1+r1),.int (1+r2)])):=(((g0.trans g1).trans g2).trans (Go.new (c:=0) hpl _)).mono (by omega)
  have hpl3:upd H2 pl (.lst [.int (1+r1),.int (1+r2)]) pl=some (.lst ([1+r1,1+r2].map nV)):=by
   rw[aa']
   show some (HO.lst [.int (1+(r1:Int)),.int (1+(r2:Int))])=some (HO.lst [.int ((1+r1:Nat):Int),.int ((1+r2:Nat):Int)])
   rw[show(1:Int)+r1=((1+r1:Nat):Int) by omega,show(1:Int)+r2=((1+r2:Nat):Int) by omega]
  generalize upd H2 pl (.lst [.int (1+r1),.int (1+r2)])=H3 at g3 hpl3 ⊢
  symm
  refine a6' (SqL.of hpl3) (eM' (vs:=[1+r1,1+r2].map nV) (fun i xs H'=>(∃hs:List Nat,xs=hs.map nV/\hs.length=i/\i<=2/\bO' (fun(h lo:Nat)=>lo<=h/\h<=8) hs ([1+r1,1+r2].take i))/\Go i H3 H') ⟨⟨[],rfl,rfl,by omega,trivial⟩,Go.refl⟩ (fun i xs H' pv=>SqL.of (pv.2.lst hpl3)) ?_ ?_)
  .rintro i xs H4 x R hx ⟨⟨hs,rfl,hsl,hi2,hs8⟩,g4⟩ hR
   rw[au]at hx
   cases er:[1+r1,1+r2][i]? with
   |none=>rw[er]at hx;cases hx
   |some lo=>
   rw[er]at hx
   cases hx
   have hi:=ak' er
   simp only[aV,cC]at hi
   have hlo:lo<=2:=by
    have:=av er
    simp only[ak,aq,or_false]at this
    rcases this with rfl|rfl<;>omega
   obtain⟨n4,hb4,hn4,_⟩:=(g3.trans g4).boxed hb (by omega)
   simp only[nV]
   symm
   refine ao' hT ?_
   symm
   refine⟨b,n4,_,rfl,hb4,by omega,by omega,by omega,fun r5 H5 h50 h51 g5=>?_⟩
   obtain⟨r5,rfl⟩:=bp h50
   symm
   refine⟨by rw[af];exact ap' (by omega),hR _ _ ⟨⟨hs++[lo+r5],by rw[aK];rfl,by simp[hsl],by omega,by rw[bB,er];exact hs8.snoc ⟨by omega,by omega⟩⟩,g4.trans g5⟩⟩
  .rintro xs H4 ⟨⟨hs,rfl,hsl,_,hs8⟩,g4⟩ ph hph
   have hsl:hs.length=2:=hsl
   have g4:Go 2 H3 H4:=g4
   obtain⟨y1,y2,rfl⟩:∃y1 y2,hs=[y1,y2]:=by
    match hs,hsl with
    | [y1,y2],_=>exact⟨y1,y2,rfl⟩
   obtain⟨⟨a1,a2⟩,⟨b1,b2⟩,_⟩:=hs8
   have g5:Go 5 H (upd H4 ph (.lst ([y1,y2].map nV))):=((g3.trans g4).trans (Go.new (c:=0) hph _)).mono (by omega)
   have hph5:upd H4 ph (.lst ([y1,y2].map nV)) ph=some (.lst ([y1,y2].map nV)):=aa'
   have hpl5:=(Go.new (c:=0) hph (.lst ([y1,y2].map nV))).lst (g4.lst hpl3)
   generalize upd H4 ph (.lst ([y1,y2].map nV))=H5 at g5 hph5 hpl5 ⊢
   obtain⟨n5,hb5,hn5,_⟩:=g5.boxed hb (by omega)
   symm
   refine a7' (SqL.of hpl5) (v:=nV (1+r1)) rfl ?_
   symm
   refine a7' (SqL.of hph5) (v:=nV y1) rfl ?_
   symm
   refine a7' (SqL.of hpl5) (v:=nV (1+r2)) rfl ?_
   symm
   refine a7' (SqL.of hph5) (v:=nV y2) rfl ?_
   symm
   refine ao' hT ?_
   symm
   refine⟨b,n5,_,rfl,hb5,by omega,by omega,by omega,fun r6 H6 h60 h61 g6=>?_⟩
   symm
   refine⟨by decide,fun p7 hp7=>?_⟩
   have g7:Go 6 H (upd H6 p7 (.lst [.non,.non,.int (1+r6)])):=((g5.trans g6).trans (Go.new (c:=0) hp7 _)).mono (by omega)
   have h7:upd H6 p7 (.lst [.non,.non,.int (1+r6)]) p7=some (.lst [.non,.non,.int (1+r6)]):=aa'
   generalize upd H6 p7 (.lst [.non,.non,.int (1+r6)])=H7 at g7 h7 ⊢
   obtain⟨n7,hb7,hn7,_⟩:=g7.boxed hb (by omega)
   refine ao' hT ?_
   symm
   refine⟨b,n7,_,rfl,hb7,by omega,by omega,by omega,fun r8 H8 h80 h81 g8=>?_⟩
   symm
   refine vF' (g8.lst h7) h80 h81 (by omega) fun sp hsp=>?_
   symm
   refine⟨by show 5<=sizeLine;decide,fun p9 hp9=>?_⟩
   refine q p9 (1+r1) y1 (1+r2) y2 sp _ (((g7.trans g8).trans (Go.new (c:=0) hp9 _)).mono (by omega)) ⟨aa',a2,b2,fun s z=>?_⟩ (by omega) a1 (by omega) b1
   have:=hsp s z
   omega
theorem vG' {n:Nat} {l:List Nat} (h:l.Nodup) (hs:∀i∈l,i<n):l.length<=n:=by
 have:=tw' (l:=l.map Int.ofNat) (b:=(aF n).map Int.ofNat) (gm' (fun x y e=>Int.ofNat.inj e) h) fun i hi=>by
  obtain⟨x,hx,rfl⟩:=az.mp hi
  exact List.mem_map_of_mem (aJ.mpr (hs x hx))
 rw[af,af,bg]at this
 exact this
end K04
namespace K06
open PySem PySem.Spec PyProof.Rows L2 R3 LW
def b1':List Str:=["thing"]
def bm':List Str:=["bool","int","isinstance"]
def b2':List Str:=["thing","low","high"]
def bn':List Str:=[]
def cF':List Str:=["thing"]
def b3':List Str:=["isinstance","len","tuple"]
def cG':List Str:=["thing","many"]
def b4':List Str:=[]
def cH':List Str:=["thing","many"]
def b5':List Str:=[]
def bH':List Str:=["thing","room"]
def bg':List Str:=["all","isinstance","len","tuple"]
def fr':List Str:=["machine","room","row","here","bit"]
def dv':List Str:=["int"]
def cI':List Str:=["machine","rooms","inside","led_to","room","lead"]
def b6':List Str:=["set"]
def cJ':List Str:=["machine","numbers","anew","at","room"]
def b7':List Str:=["enumerate","tuple"]
def cK':List Str:=["machine","numbers","fewer"]
def b8':List Str:=["len","list","range"]
def a0':List Str:=["bounds","low0","high0","low1","high1","spread","levels","bit","high","place","level"]
def aJ':List Str:=["list","range"]
def bt':List Str:=["bounds","room","bit","low0","high0","low1","high1","spread","last","place","level"]
def a9':List Str:=[]
def aU':List Str:=["bounds","rooms","numbers","at","room"]
def aA':List Str:=["enumerate","tuple"]
def cl':List Str:=["bounds","rooms","less","numbers","number"]
def bC':List Str:=[]
def bD':Css:=(.cons (.asg (.name 1) (.call "rooms_in_bounds" (.cons (.var 0) .nil)))
  (.cons (.asg (.tup (.cons (.name 2) (.cons (.name 3) .nil))) (.call "trimmed" (.cons (.call "machine_in_bounds" (.cons (.var 0) (.cons (.var 1) .nil))) .nil)))
  (.cons (.ret (.comp (.idx (.var 1) (.var 4)) [4] (.name 4) (.val (.var 3)) .none .nil))
  .nil)))
def bI':List Str:=["bounds","less","numbers"]
def bh':List Str:=[]
def c3':List Str:=["_law_script","_law_k"]
def cm':List Str:=["len"]
def nR':List Str:=["_law_script","_law_k","_law_cell"]
def lJ':List Str:=["abs","int"]
def lK':List Str:=["_law_box_here","_law_many","_law_found","_law_once","_law_twice"]
def iq':List Str:=[]
def ft':List Str:=["_law_box_here","_law_lows","_law_highs","_law_low"]
def dw':List Str:=[]
def fu':List Str:=["_law_bounds_here","_law_state","_law_bit","_law_own","_law_place","_law_level"]
def dx':List Str:=[]
def dy':Css:=(.cons (.asg (.tup (.cons (.name 3) (.cons (.name 4) (.cons (.name 5) .nil)))) (.var 1))
  (.cons (.ite (.cmp .IsNot (.idx (.var 0) (.int 4)) .non) (.cons (.asg (.name 5) (.bin .Add (.var 5) (.idx (.lst (.cons (.neg (.int 1)) (.cons (.int 1) .nil))) (.var 2))))
  (.cons (.ite (.or (.cmp .Lt (.var 5) (.int 0)) (.cmp .Gt (.var 5) (.idx (.var 0) (.int 4)))) (.cons (.ret .non)
  .nil) .nil)
  .nil)) .nil)
  (.cons (.ite (.cmp .Eq (.var 2) (.var 3)) (.cons (.ret (.ife (.cmp .LtE (.bin .Add (.var 4) (.int 1)) (.idx (.lst (.cons (.idx (.var 0) (.int 1)) (.cons (.idx (.var 0) (.int 3)) .nil))) (.var 2))) (.tup (.cons (.var 2) (.cons (.bin .Add (.var 4) (.int 1)) (.cons (.var 5) .nil)))) .non))
  .nil) .nil)
  (.cons (.ret (.ife (.cmp .GtE (.var 4) (.idx (.lst (.cons (.idx (.var 0) (.int 0)) (.cons (.idx (.var 0) (.int 2)) .nil))) (.var 3))) (.tup (.cons (.var 2) (.cons (.int 1) (.cons (.var 5) .nil)))) .non))
  .nil))))
def hv':List Str:=["_law_bounds_here","_law_left","_law_state"]
def fv':List Str:=[]
def fw':Css:=(.cons (.ret (.or (.din false (.call "_law_behind" (.cons (.var 0) (.cons (.var 2) (.cons (.int 0) .nil)))) (.var 1)) (.din false (.call "_law_behind" (.cons (.var 0) (.cons (.var 2) (.cons (.int 1) .nil)))) (.var 1))))
  .nil)
def ea':List Str:=["_law_bounds_here","_law_left","_law_bit","_law_place","_law_level","_law_size","_law_led","_law_state"]
def c4':List Str:=["dict","len","range"]
def c5':Css:=(.cons (.asg (.name 1) .dnt)
  (.cons (.for_ (.name 2) (.val (.tup (.cons (.int 0) (.cons (.int 1) .nil)))) (.cons (.for_ (.name 3) (.range2 (.int 1) (.bin .Add (.idx (.lst (.cons (.idx (.var 0) (.int 1)) (.cons (.idx (.var 0) (.int 3)) .nil))) (.var 2)) (.int 1))) (.cons (.for_ (.name 4) (.range1 (.bin .Add (.orv (.idx (.var 0) (.int 4)) (.int 0)) (.int 1))) (.cons (.dput (.var 1) (.tup (.cons (.var 2) (.cons (.var 3) (.cons (.var 4) .nil)))) (.bl true))
  .nil))
  .nil))
  .nil))
  (.cons (.asg (.name 5) (.neg (.int 1)))
  (.cons (.whl (.cmp .NotEq (.var 5) (.blt .lenD (.cons (.var 1) .nil))) (.cons (.asg (.name 5) (.blt .lenD (.cons (.var 1) .nil)))
  (.cons (.asg (.name 6) .dnn)
  (.cons (.for_ (.name 7) (.dk (.var 1)) (.cons (.for_ (.name 2) (.val (.tup (.cons (.int 0) (.cons (.int 1) .nil)))) (.cons (.dput (.var 6) (.call "_law_behind" (.cons (.var 0) (.cons (.var 7) (.cons (.var 2) .nil)))) (.bl true))
  .nil))
  .nil))
  (.cons (.asg (.name 1) (.cal .dct (.comp (.tup (.cons (.var 7) (.cons (.bl true) .nil))) [7] (.name 7) (.dk (.var 1)) (.some (.and (.din false (.var 7) (.var 6)) (.val (.call "_law_leads" (.cons (.var 0) (.cons (.var 1) (.cons (.var 7) .nil))))))) .nil)))
  .nil)))))
  (.cons (.ret (.var 1))
  .nil)))))
def eU':List Str:=["_law_found","_law_due_here","_law_one","_law_other"]
def c6':List Str:=["all","bool","int","isinstance","len","list","str","tuple","zip"]
def rl':List Str:=["_law_bounds_here","_law_rooms","_law_numbers","_law_number","_law_room","_law_made","_law_bit"]
def nS':List Str:=["dict","enumerate","sorted","tuple"]
def nT':Css:=(.cons (.asg (.name 1) (.blt .sortU (.cons (.call "_law_lasting" (.cons (.var 0) .nil)) .nil)))
  (.cons (.asg (.name 2) (.cal .dct (.comp (.tup (.cons (.var 4) (.cons (.var 3) .nil))) [3,4] (.tup (.cons (.name 3) (.cons (.name 4) .nil))) (.enum (.var 1)) .none .nil)))
  (.cons (.asg (.name 5) (.lst .nil))
  (.cons (.for_ (.name 4) (.val (.var 1)) (.cons (.expr (.met .append (.var 5) (.cons (.blt .tuple (.cons (.comp (.dgt (.var 2) (.call "_law_behind" (.cons (.var 0) (.cons (.var 4) (.cons (.var 6) .nil))))) [6] (.name 6) (.val (.tup (.cons (.int 0) (.cons (.int 1) .nil)))) .none .nil) .nil)) .nil)))
  .nil))
  (.cons (.ret (.tup (.cons (.var 1) (.cons (.blt .tuple (.cons (.var 5) .nil)) .nil))))
  .nil)))))
def nU':List Str:=["_law_script","_law_k","_law_box_here","_law_bounds_here","_law_rooms","_law_due_here","_law_turn","_law_found","_law_number","_law_room","_law_more","_law_there"]
def lL':List Str:=["enumerate","len","min","range"]
def nV':Css:=(.cons (.for_ (.name 1) (.range1 (.bin .Add (.int 1) (.blt .min (.cons (.int 4) (.cons (.blt .len (.cons (.var 0) .nil)) .nil))))) (.cons (.asg (.name 2) (.call "_law_box" (.cons (.var 0) (.cons (.var 1) .nil))))
  (.cons (.asg (.name 3) (.call "_law_bounds" (.cons (.var 2) .nil)))
  (.cons (.asg (.tup (.cons (.name 4) (.cons (.name 5) .nil))) (.call "_law_due" (.cons (.var 3) .nil)))
  (.cons (.for_ (.name 6) (.range1 (.int 2)) (.cons (.asg (.name 7) (.call "rooms_of" (.cons (.var 3) .nil)))
  (.cons (.ite (.or (.not (.val (.call "_law_same" (.cons (.var 7) (.cons (.var 4) .nil))))) (.not (.val (.call "_law_same" (.cons (.call "machine_of" (.cons (.var 3) .nil)) (.cons (.var 5) .nil)))))) (.cons (.ret (.bl false))
  .nil) .nil)
  (.cons (.expr (.met .reverse (.var 7) .nil))
  (.cons (.expr (.met .append (.var 7) (.cons (.tup (.cons (.int 0) (.cons (.int 9) (.cons (.int 9) .nil)))) .nil)))
  .nil)))))
  (.cons (.ite (.cmp .IsNot (.call "is_machine" (.cons (.var 5) .nil)) (.bl true)) (.cons (.ret (.bl false))
  .nil) .nil)
  (.cons (.for_ (.tup (.cons (.name 8) (.cons (.name 9) .nil))) (.enum (.var 4)) (.cons (.for_ (.name 10) (.range1 (.bin .Add (.bin .Sub (.idx (.lst (.cons (.idx (.var 3) (.int 1)) (.cons (.idx (.var 3) (.int 3)) .nil))) (.idx (.var 9) (.int 0))) (.idx (.var 9) (.int 1))) (.int 1))) (.cons (.asg (.name 11) (.call "walk" (.cons (.var 5) (.cons (.var 8) (.cons (.bin .Mult (.idx (.str "01") (.idx (.var 9) (.int 0))) (.var 10)) .nil)))))
  (.cons (.ite (.and (.cmp .IsNot (.var 11) .non) (.cmp .NotEq (.cut (.idx (.var 4) (.var 11)) .none (.some (.int 2))) (.tup (.cons (.idx (.var 9) (.int 0)) (.cons (.bin .Add (.idx (.var 9) (.int 1)) (.var 10)) .nil))))) (.cons (.ret (.bl false))
  .nil) .nil)
  .nil)))
  .nil))
  .nil)))))))
  (.cons (.ret (.and (.cmp .Eq (.call "machine_of" (.cons (.tup (.cons (.int 1) (.cons (.int 1) (.cons (.int 2) (.cons (.int 2) (.cons (.int 1) .nil)))))) .nil)) (.tup .nil)) (.cmp .Eq (.call "rooms_of" (.cons (.tup (.cons (.int 1) (.cons (.int 1) (.cons (.int 1) (.cons (.int 1) (.cons (.int 1) .nil)))))) .nil)) (.lst (.cons (.tup (.cons (.int 0) (.cons (.int 1) (.cons (.int 0) .nil)))) (.cons (.tup (.cons (.int 1) (.cons (.int 1) (.cons (.int 1) .nil)))) .nil))))))
  .nil))
open TM BD BE TE
def ot (sp:Option Nat) (l:Int):Bool:=match sp with
 |none=>false
 |some m=>decide (l<0) || decide (l > m)
def lb (l0 h0 l1 h1:Nat) (sp:Option Nat) (k:K3) (c:Nat):Option K3:=
 if ot sp (lvl sp k.2.2 c)=true then none
 else if c=k.1 then(if k.2.1+1<=(if c=1 then h1 else h0)then some (c,k.2.1+1,(lvl sp k.2.2 c).toNat)else none)
 else if(if k.1=1 then l1 else l0)<=k.2.1 then some (c,1,(lvl sp k.2.2 c).toNat)else none
theorem at2 {x y:V} {c:Nat} (hc:c<2):atI [x,y] (c:Int)=some (if c=1 then y else x):=by
 rcases(by omega:c=0\/c=1)with rfl|rfl
 .rfl
 .rfl
def c7':Sp:=fun vs H Q _=>∃(bd rm:Addr) (l0 h0 l1 h1:Nat) (sp:Option Nat) (k:K3) (c:Nat),vs=[.ref bd,.ref rm,.int c]/\IsB H bd l0 h0 l1 h1 sp/\H rm=some (.tup [nV k.1,nV k.2.1,nV k.2.2])/\c<2/\k.1<2/\(lb l0 h0 l1 h1 sp k c=none->∀H',aw' H H'->Q .non H')/\∀k',lb l0 h0 l1 h1 sp k c=some k'->∀(p:Addr) (H':Hp),aw' H H'->H' p=some (.tup [nV k'.1,nV k'.2.1,nV k'.2.2])->Q (.ref p) H'
theorem nW' {C:Rc} (hN:C.N.length=6):∀vs H Q E,c7' vs H Q E->tSs C dy' { nx:=fun _ H'=>Q .non H',rt:=Q } (L2.aQ' C.N vs) H:=by
 intro vs H Q E h
 obtain⟨bd,rm,l0,h0,l1,h1,sp,⟨b,pl,lv⟩,c,rfl,hB,hrm,hc,hb,q1,q2⟩:=h
 have hb:b<2:=hb
 rw[as' hN]
 unfold dy'
 symm
 rw[eu']
 symm
 refine ll' (SqT.of hrm) ?_
 simp only[nV,ie',List.set_cons_zero,List.set_cons_succ]
 symm
 refine aL' (SqT.of hB.at') (v:=oV sp) rfl ?_
 generalize hD:rS' C _ _=D
 have au':∀(lev:Nat) (H1:Hp),lvl sp lv c=lev->(∀m,sp=some m->lev<=m)->aw' H H1->D.nx [some (.ref bd),some (.ref rm),some (.int c),some (.int b),some (.int pl),some (.int lev)] H1:=by
  intro lev H1 hlev hm s1
  have hB1:=(hB.mono (ag' s1)).at'
  have e:lb l0 h0 l1 h1 sp (b,pl,lv) c=if c=b then(if pl+1<=(if c=1 then h1 else h0)then some (c,pl+1,lev)else none)else if(if b=1 then l1 else l0)<=pl then some (c,1,lev)else none:=by
   unfold lb
   dsimp only
   rw[hlev,bN,if_neg]
   cases sp with
   |none=>exact fun z=>by cases z
   |some m=>
    have:=hm m rfl
    unfold ot
    rw[aS,decide_eq_true_eq,decide_eq_true_eq]
    omega
  rw[<- hD]
  symm
  refine bs' (fun hq=>?_) fun hq=>?_
  .have hq:c=b:=by omega
   subst hq
   rw[if_pos rfl]at e
   symm
   refine aL' (SqT.of hB1) (v:=nV h0) rfl ?_
   symm
   refine aL' (SqT.of hB1) (v:=nV h1) rfl ?_
   symm
   refine⟨by decide,fun p hp=>?_⟩
   obtain⟨s2,h2⟩:=snw hp (.lst [nV h0,nV h1])
   generalize upd H1 p _=H2 at s2 h2 ⊢
   refine a7' (SqL.of h2) (at2 hc) ?_
   rw[show(if c=1 then nV h1 else nV h0)=V.int ((if c=1 then h1 else h0:Nat):Int) by split<;>rfl]
   symm
   refine bs' (fun hx=>?_) fun hx=>?_
   .symm
    refine⟨by decide,fun p3 hp3=>?_⟩
    obtain⟨s3,h3⟩:=snw hp3 (.tup [.int c,.int ((pl:Int)+1),.int lev])
    exact q2 (c,pl+1,lev) (by rw[e,if_pos (by omega)]) p3 _ (s1.trans (s2.trans s3)) h3
   .symm
    exact q1 (by rw[e,if_neg (by omega)]) _ (s1.trans s2)
  .have hq:¬c=b:=by omega
   rw[if_neg hq]at e
   symm
   refine aL' (SqT.of hB1) (v:=nV l0) rfl ?_
   symm
   refine aL' (SqT.of hB1) (v:=nV l1) rfl ?_
   symm
   refine⟨by decide,fun p hp=>?_⟩
   obtain⟨s2,h2⟩:=snw hp (.lst [nV l0,nV l1])
   generalize upd H1 p _=H2 at s2 h2 ⊢
   refine a7' (SqL.of h2) (at2 hb) ?_
   rw[show(if b=1 then nV l1 else nV l0)=V.int ((if b=1 then l1 else l0:Nat):Int) by split<;>rfl]
   symm
   refine bs' (fun hx=>?_) fun hx=>?_
   .symm
    refine⟨by decide,fun p3 hp3=>?_⟩
    obtain⟨s3,h3⟩:=snw hp3 (.tup [.int c,.int 1,.int lev])
    exact q2 (c,1,lev) (by rw[e,if_pos (by omega)]) p3 _ (s1.trans (s2.trans s3)) h3
   .symm
    exact q1 (by rw[e,if_neg (by omega)]) _ (s1.trans s2)
 cases sp with
 |none=>
  simp only[oV]
  symm
  exact au' lv H rfl (fun m z=>nomatch z) (aw'.refl _)
 |some m=>
  simp only[oV]
  symm
  refine⟨by decide,fun p hp=>?_⟩
  obtain⟨s2,h2⟩:=snw hp (.lst [.int (-1),.int 1])
  generalize upd H p _=H2 at s2 h2 ⊢
  refine a7' (SqL.of h2) (at2 hc) ?_
  rw[show(if c=1 then V.int 1 else V.int (-1))=V.int (if c=1 then 1 else -1) by split<;>rfl]
  symm
  have e2:lvl (some m) lv c=(lv:Int)+if c=1 then 1 else -1:=rfl
  rw[<- e2]
  have out:(lvl (some m) lv c<0\/lvl (some m) lv c > m)->lb l0 h0 l1 h1 (some m) (b,pl,lv) c=none:=fun z=>by
   unfold lb
   exact if_pos (by unfold ot;rw[aS,decide_eq_true_eq,decide_eq_true_eq];exact z)
  have hrt:D.rt=Q:=by rw[<- hD];rfl
  refine bs' (fun hx=>?_) fun hx=>?_
  .symm
   rw[hrt]
   exact q1 (out (.inl hx)) _ s2
  .symm
   refine aL' (SqT.of ((hB.mono (ag' s2)).at')) (v:=oV (some m)) rfl ?_
   simp only[oV]
   symm
   refine bs' (fun hy=>?_) fun hy=>?_
   .symm
    rw[hrt]
    exact q1 (out (.inr hy)) _ s2
   .symm
    have:=au' (lvl (some m) lv c).toNat H2 (by omega) (fun m' z=>by cases z;omega) s2
    rw[show(((lvl (some m) lv c).toNat:Nat):Int)=lvl (some m) lv c by omega]at this
    exact this
def dK3 (ks:List K3):List (List Key×V):=ks.map fun k=>(kK k,V.bl true)
def eV' (k:K3):Prop:=k.1<2/\k.2.1<9/\k.2.2<17
theorem hw' {a b:K3} (h:BD.kI a=BD.kI b):a=b:=by
 obtain⟨a1,a2,a3⟩:=a
 obtain⟨b1,b2,b3⟩:=b
 unfold BD.kI at h
 simp only[List.cons.injEq]at h
 obtain⟨h1,h2,h3,_⟩:=h
 have h1:(a1:Int)=b1:=h1
 have h2:(a2:Int)=b2:=h2
 have h3:(a3:Int)=b3:=h3
 congr 1
 .omega
 .congr 1<;>omega
theorem eT' {a b:K3} (h:kK a=kK b):a=b:=hw' (List.map_inj_right (fun x y z=>by injection z) |>.mp h)
theorem hy' {k:K3}:∀{ks:List K3},ef' (dK3 ks) (kK k)=if k∈ks then some (.bl true)else none
 | []=>by simp[dK3,ef']
 |a :: ks=>by
  by_cases h:a=k
  .subst h
   rw[show dK3 (a :: ks)=(kK a,V.bl true) :: dK3 ks from rfl,cQ' rfl]
   simp
  .rw[show dK3 (a :: ks)=(kK a,V.bl true) :: dK3 ks from rfl,cR' (fun z=>h (eT' z)),hy']
   have hx:¬k=a:=fun z=>h z.symm
   simp only[ak,hx,false_or]
theorem cs' {k:K3} (h:eV' k):hT (BD.kI k)≠NH:=vC' ⟨k.1,h.1⟩ ⟨k.2.1,h.2.1⟩ ⟨k.2.2,h.2.2⟩
theorem rm' {H:Hp} {p:Addr} {ks:List K3} (hs:∀k∈ks,eV' k) (h:Rd H p (.dT (dK3 ks))):NoR H p:=⟨_,h,fun kv hkv=>by
 obtain⟨k,hk,rfl⟩:=az.mp hkv
 exact⟨BD.kI k,rfl,cs' (hs k hk)⟩⟩
def inK (ks:List K3):Option K3->Bool
 |none=>false
 |some k=>decide (k∈ks)
theorem nX' {H:Hp} {p:Addr} {k:K3} (h:H p=some (.tup [nV k.1,nV k.2.1,nV k.2.2])):H p=some (.tup ((kK k).map L2.kV)):=h
theorem hA' {H H':Hp} {a:Addr} {o:HO} (s:aw' H H') (h:Rd H a o):Rd H' a o:=by
 rcases h with h|⟨z,h⟩
 .exact .inl (s _ _ h)
 .exact .inr ⟨z,s _ _ h⟩
theorem o4' {C:Rc} (hBe:C.fs "_law_behind"=some c7') {H:Hp} {Q:VK} {bd D rm:Addr} {l0 h0 l1 h1:Nat} {sp:Option Nat} {ks:List K3} {k:K3} {c:Nat} (hB:IsB H bd l0 h0 l1 h1 sp) (hD:Rd H D (.dT (dK3 ks))) (hs:∀k∈ks,eV' k) (hrm:H rm=some (.tup [nV k.1,nV k.2.1,nV k.2.2])) (hk:k.1<2) (hc:c<2)
  (q:∀H',aw' H H'->Q (.bl (inK ks (lb l0 h0 l1 h1 sp k c))) H'):tE C (.din false (.call "_law_behind" (.cons (.var 0) (.cons (.var 2) (.cons (.int (c:Int)) .nil)))) (.var 1)) [some (.ref bd),some (.ref D),some (.ref rm)] H Q:=by
 symm
 refine ao' hBe ?_
 symm
 refine⟨bd,rm,l0,h0,l1,h1,sp,k,c,rfl,hB,hrm,hc,hk,fun e H1 s1=>?_,fun k' e p H1 s1 hp=>?_⟩
 .have:=q H1 s1
  rw[e]at this
  symm
  exact q5' (rm' hs (hA' s1 hD)) this
 .have:=q H1 s1
  rw[e]at this
  symm
  refine vp' (.inr ⟨_,kK k',p,hA' s1 hD,rfl,nX' hp,rfl⟩) ?_
  rw[hy']
  by_cases hin:k'∈ks
  .rw[show inK ks (some k')=true from decide_eq_true hin]at this
   rw[if_pos hin]
   exact this
  .rw[show inK ks (some k')=false from decide_eq_false hin]at this
   rw[if_neg hin]
   exact this
def rU':Sp:=fun vs H Q _=>∃(bd D rm:Addr) (l0 h0 l1 h1:Nat) (sp:Option Nat) (ks:List K3) (k:K3),vs=[.ref bd,.ref D,.ref rm]/\IsB H bd l0 h0 l1 h1 sp/\Rd H D (.dT (dK3 ks))/\(∀k∈ks,eV' k)/\H rm=some (.tup [nV k.1,nV k.2.1,nV k.2.2])/\k.1<2/\∀H',aw' H H'->Q (.bl (inK ks (lb l0 h0 l1 h1 sp k 0) || inK ks (lb l0 h0 l1 h1 sp k 1))) H'
theorem rn' {C:Rc} (hN:C.N.length=3) (hBe:C.fs "_law_behind"=some c7'):∀vs H Q E,rU' vs H Q E->tSs C fw' { nx:=fun _ H'=>Q .non H',rt:=Q } (L2.aQ' C.N vs) H:=by
 intro vs H Q E h
 obtain⟨bd,D,rm,l0,h0,l1,h1,sp,ks,k,rfl,hB,hD,hs,hrm,hk,q⟩:=h
 rw[as' hN]
 unfold fw'
 rw[g3',un',uI']
 refine o4' (c:=0) hBe hB hD hs hrm hk (by decide) fun H1 s1=>?_
 cases e:inK ks (lb l0 h0 l1 h1 sp k 0)with
 |true=>
  rw[oI']
  have:=q H1 s1
  rw[e]at this
  exact this
 |false=>
  rw[oJ']
  refine o4' (c:=1) hBe (hB.mono (ag' s1)) (hA' s1 hD) hs (s1 _ _ hrm) hk (by decide) fun H2 s2=>?_
  have:=q H2 (s1.trans s2)
  rw[e]at this
  exact this
theorem lM' {sp:Option Nat} {l:Nat}:l∈lvs sp↔match sp with
  |none=>l=0
  |some m=>l<=m:=by
 cases sp with
 |none=>simp[lvs]
 |some m=>
  show l∈aF (m+1)↔l<=m
  rw[aJ]
  omega
theorem eb' {sp:Option Nat} {h0 h1:Nat} {k:K3}:k∈rk (lvs sp) h0 h1↔k.1<2/\1<=k.2.1/\k.2.1<=(if k.1=1 then h1 else h0)/\k.2.2∈lvs sp:=by
 have key:∀{b h:Nat} {k:K3},k.1=b->1<=k.2.1->k.2.1<=h->k.2.2∈lvs sp->k∈r2 (lvs sp) b h:=by
  rintro b h ⟨k1,k2,k3⟩ e1 e2 e3 e4
  subst e1
  have e2:1<=k2:=e2
  have e3:k2<=h:=e3
  unfold r2 r1
  refine cO.mpr ⟨k2-1,aJ.mpr (by omega),az.mpr ⟨k3,e4,?_⟩⟩
  show(k1,k2-1+1,k3)=(k1,k2,k3)
  rw[Nat.sub_add_cancel e2]
 unfold rk
 rw[aH]
 constructor
 .rintro(h|h)
  .obtain⟨e1,e2,e3,e4⟩:=ca' h
   rw[e1]
   exact⟨by decide,e2,e3,e4⟩
  .obtain⟨e1,e2,e3,e4⟩:=ca' h
   rw[e1]
   exact⟨by decide,e2,e3,e4⟩
 .rintro⟨e1,e2,e3,e4⟩
  by_cases h:k.1=1
  .rw[if_pos h]at e3
   exact .inr (key h e2 e3 e4)
  .rw[if_neg h]at e3
   exact .inl (key (by omega) e2 e3 e4)
theorem o5' {α:Type} [BEq α] [LawfulBEq α] {l:List α} (h:l.Nodup) {i:Nat} {a:α} (e:l[i]?=some a):l.idxOf a=i:=by
 have hm:=av e
 have hi:=bY hm
 have e2:=List.getElem_idxOf hi
 obtain⟨hl,e⟩:=aG.mp e
 rcases Nat.lt_trichotomy (l.idxOf a) i with z|z|z
 .exact absurd (e2.trans e.symm) (aX.mp h _ _ hi hl z)
 .exact z
 .exact absurd (e.trans e2.symm) (aX.mp h _ _ hl hi z)
theorem bJ' {α:Type} [BEq α] [LawfulBEq α] {l:List α} {a:α} (h:a∈l):l[l.idxOf a]?=some a:=by
 have hi:=bY h
 rw[ac hi,List.getElem_idxOf hi]
section
variable {l0 h0 l1 h1:Nat} {sp:Option Nat}
theorem lN' (a0:1<=h0) (a1:1<=h1) {k:K3} (hk:k∈rk (lvs sp) h0 h1) {c:Nat} (hc:c<2):
  (∀k',lb l0 h0 l1 h1 sp k c=some k'->k'∈rk (lvs sp) h0 h1)/\ixK (rk (lvs sp) h0 h1) (bh l0 l1 sp k c)=(lb l0 h0 l1 h1 sp k c).map (rk (lvs sp) h0 h1).idxOf:=by
 obtain⟨b,pl,lv⟩:=k
 have hnd:=ja' (eS' (sp:=sp)) (h0:=h0) (h1:=h1)
 obtain⟨e1,e2,e3,e4⟩:=eb'.mp hk
 have e1:b<2:=e1
 have e2:1<=pl:=e2
 have e4:lv∈lvs sp:=e4
 have none_of:∀z:List Int,(∀k∈rk (lvs sp) h0 h1,BD.kI k≠z)->ixK (rk (lvs sp) h0 h1) (some z)=none:=fun z h=>g9' h
 have some_of:∀k':K3,k'∈rk (lvs sp) h0 h1->ixK (rk (lvs sp) h0 h1) (some (BD.kI k'))=some ((rk (lvs sp) h0 h1).idxOf k'):=fun k' h=>ha' hnd (bJ' h) rfl
 by_cases ho:ot sp (lvl sp lv c)=true
 .have el:lb l0 h0 l1 h1 sp (b,pl,lv) c=none:=by unfold lb;exact if_pos ho
  rw[el]
  refine⟨fun _ z=>(by cases z),?_⟩
  cases sp with
  |none=>cases ho
  |some m=>
   unfold ot at ho
   rw[aS,decide_eq_true_eq,decide_eq_true_eq]at ho
   have no:∀x y:Int,ixK (rk (lvs (some m)) h0 h1) (some [x,y,lvl (some m) lv c])=none:=fun x y=>none_of _ fun k' hk' z=>by
    have h3:=lM'.mp (eb'.mp hk').2.2.2
    have h3:k'.2.2<=m:=h3
    unfold BD.kI at z
    simp only[List.cons.injEq]at z
    obtain⟨_,_,z,_⟩:=z
    omega
   unfold bh
   split
   .exact no _ _
   .by_cases hz:pl<(if b=1 then l1 else l0)
    .rw[show(if(b,pl,lv).2.1<(if(b,pl,lv).1=1 then l1 else l0)then none else some [(c:Int),1,lvl (some m) (b,pl,lv).2.2 c])=none from if_pos hz]
     rfl
    .rw[show(if(b,pl,lv).2.1<(if(b,pl,lv).1=1 then l1 else l0)then none else some [(c:Int),1,lvl (some m) (b,pl,lv).2.2 c])=_ from if_neg hz]
     exact no _ _
 .have hl:∃n:Nat,lvl sp lv c=n/\n∈lvs sp:=by
   cases sp with
   |none=>exact⟨lv,rfl,e4⟩
   |some m=>
    unfold ot at ho
    rw[aS,decide_eq_true_eq,decide_eq_true_eq]at ho
    exact⟨(lvl (some m) lv c).toNat,by omega,lM'.mpr (show(lvl (some m) lv c).toNat<=m by omega)⟩
  obtain⟨n,hn,hn2⟩:=hl
  have el:lb l0 h0 l1 h1 sp (b,pl,lv) c=if c=b then(if pl+1<=(if c=1 then h1 else h0)then some (c,pl+1,n)else none)else if(if b=1 then l1 else l0)<=pl then some (c,1,n)else none:=by
   unfold lb
   rw[if_neg ho]
   show(if c=b then(if pl+1<=_ then some (c,pl+1,(lvl sp lv c).toNat)else none)else if _ then some (c,1,(lvl sp lv c).toNat)else none)=_
   rw[hn,bN]
  have eb:bh l0 l1 sp (b,pl,lv) c=if c=b then some [(c:Int),(pl:Int)+1,(n:Int)]else if pl<(if b=1 then l1 else l0)then none else some [(c:Int),1,(n:Int)]:=by
   unfold bh
   dsimp only
   rw[hn]
  rw[el,eb]
  by_cases hcb:c=b
  .rw[if_pos hcb,if_pos hcb]
   by_cases hp:pl+1<=(if c=1 then h1 else h0)
   .rw[if_pos hp]
    have hm:((c,pl+1,n):K3)∈rk (lvs sp) h0 h1:=eb'.mpr ⟨hc,by show 1<=pl+1;omega,hp,hn2⟩
    refine⟨fun k' z=>(by cases z;exact hm),?_⟩
    have:=some_of _ hm
    unfold BD.kI at this
    rw[show((pl:Int)+1)=((pl+1:Nat):Int) by omega]
    exact this
   .rw[if_neg hp]
    refine⟨fun k' z=>(by cases z),none_of _ fun k' hk' z=>?_⟩
    have h3:=(eb'.mp hk').2.2.1
    unfold BD.kI at z
    simp only[List.cons.injEq]at z
    obtain⟨z1,z2,_⟩:=z
    have z1:k'.1=c:=by omega
    rw[z1]at h3
    omega
  .rw[if_neg hcb,if_neg hcb]
   by_cases hp:pl<(if b=1 then l1 else l0)
   .rw[if_pos hp,if_neg (by omega)]
    exact⟨fun k' z=>(by cases z),rfl⟩
   .rw[if_neg hp,if_pos (by omega)]
    have hm:((c,1,n):K3)∈rk (lvs sp) h0 h1:=eb'.mpr ⟨hc,ah 1,(by show 1<=if c=1 then h1 else h0;split<;>omega),hn2⟩
    refine⟨fun k' z=>(by cases z;exact hm),?_⟩
    exact some_of _ hm
def nxl (l0 h0 l1 h1:Nat) (sp:Option Nat) (F:List K3):List K3:=F.filter fun k=>(F.any fun q=>decide (lb l0 h0 l1 h1 sp q 0=some k) || decide (lb l0 h0 l1 h1 sp q 1=some k))&&(inK F (lb l0 h0 l1 h1 sp k 0) || inK F (lb l0 h0 l1 h1 sp k 1))
def MxA (l0 h0 l1 h1:Nat) (sp:Option Nat):List Rm:=(rk (lvs sp) h0 h1).map (mx l0 l1 sp (rk (lvs sp) h0 h1))
theorem lO' {l0 l1:Nat} (a0:1<=h0) (a1:1<=h1) {r:Nat} {k:K3} (hk:(rk (lvs sp) h0 h1)[r]?=some k):fs1 (MxA l0 h0 l1 h1 sp) r=(lb l0 h0 l1 h1 sp k 0).map (rk (lvs sp) h0 h1).idxOf/\fs2 (MxA l0 h0 l1 h1 sp) r=(lb l0 h0 l1 h1 sp k 1).map (rk (lvs sp) h0 h1).idxOf:=by
 have hm:=av hk
 unfold fs1 fs2 MxA
 rw[au,hk]
 exact⟨(lN' a0 a1 hm (by decide)).2,(lN' a0 a1 hm (by decide)).2⟩
def Cov (l0 h0 l1 h1:Nat) (sp:Option Nat) (F:List K3):Prop:=∀S,Sus (MxA l0 h0 l1 h1 sp) S->∀r∈S,∀k,(rk (lvs sp) h0 h1)[r]?=some k->k∈F
theorem o6' {ks:List K3} {a b:K3} (ha:a∈ks) (h:ks.idxOf a=ks.idxOf b):a=b\/b∉ks:=by
 by_cases hb:b∈ks
 .left
  have e1:=bJ' ha
  rw[h,bJ' hb]at e1
  exact(Option.some.inj e1).symm
 .exact .inr hb
theorem nY' {l0 l1:Nat} (a0:1<=h0) (a1:1<=h1) {k q:K3} {c r:Nat} (hq:q∈rk (lvs sp) h0 h1) (hc:c<2) (hk:(rk (lvs sp) h0 h1)[r]?=some k) (h:(lb l0 h0 l1 h1 sp q c).map (rk (lvs sp) h0 h1).idxOf=some r):lb l0 h0 l1 h1 sp q c=some k:=by
 cases e:lb l0 h0 l1 h1 sp q c with
 |none=>rw[e]at h;cases h
 |some k'=>
  rw[e]at h
  injection h with h
  have h:(rk (lvs sp) h0 h1).idxOf k'=r:=h
  have hm:=(lN' a0 a1 hq hc).1 k' e
  have:=bJ' hm
  rw[h,hk]at this
  rw[Option.some.inj this]
theorem Cov.nx (a0:1<=h0) (a1:1<=h1) {F:List K3} (h:Cov l0 h0 l1 h1 sp F):Cov l0 h0 l1 h1 sp (nxl l0 h0 l1 h1 sp F):=by
 intro S hS r hr k hk
 obtain⟨_,⟨r1,hr1,e1⟩,⟨r2,hr2,e2⟩⟩:=hS r hr
 have getS:∀x∈S,∃q,(rk (lvs sp) h0 h1)[x]?=some q:=fun x hx=>by
  have:=(hS x hx).1
  unfold MxA at this
  rw[af]at this
  exact⟨_,ac this⟩
 obtain⟨q1,hq1⟩:=getS r1 hr1
 obtain⟨q2,hq2⟩:=getS r2 hr2
 have f1:=h S hS r1 hr1 q1 hq1
 have f2:=h S hS r2 hr2 q2 hq2
 refine br.mpr ⟨h S hS r hr k hk,?_⟩
 rw[ag,bQ,aS]
 obtain⟨g1,g2⟩:=lO' (l0:=l0) (l1:=l1) a0 a1 hq1
 obtain⟨g3,g4⟩:=lO' (l0:=l0) (l1:=l1) a0 a1 hk
 have hm1:=av hq1
 have hm:=av hk
 constructor
 .refine⟨q1,f1,?_⟩
  rw[aS,decide_eq_true_eq,decide_eq_true_eq]
  rcases e1 with e|e
  .rw[g1]at e;exact .inl (nY' a0 a1 hm1 (by decide) hk e)
  .rw[g2]at e;exact .inr (nY' a0 a1 hm1 (by decide) hk e)
 .rcases e2 with e|e
  .rw[g3]at e;left;rw[nY' a0 a1 hm (by decide) hq2 e];exact decide_eq_true f2
  .rw[g4]at e;right;rw[nY' a0 a1 hm (by decide) hq2 e];exact decide_eq_true f2
structure Lsd (l0 h0 l1 h1:Nat) (sp:Option Nat) (F:List K3):Prop where
 sub:F.Sublist (rk (lvs sp) h0 h1)
 fix:nxl l0 h0 l1 h1 sp F=F
 all:Cov l0 h0 l1 h1 sp F
theorem nZ' {ks F:List K3} (hn:ks.Nodup) (h:F.Sublist ks):(F.map ks.idxOf).Pairwise (· < ·):=by
 have e:ks.map ks.idxOf=aF ks.length:=by
  apply bE
  intro i
  rw[au]
  cases e:ks[i]? with
  |none=>rw[bx (by rw[bg];exact aR.mp e)];rfl
  |some k=>rw[cq (ak' e)];exact congrArg some (o5' hn e)
 have:=h.map ks.idxOf
 rw[e]at this
 exact List.pairwise_lt_range.sublist this
theorem Lsd.mem {F:List K3} (h:Lsd l0 h0 l1 h1 sp F) {k:K3} (hk:k∈F):k∈rk (lvs sp) h0 h1:=h.sub.subset hk
theorem Lsd.rs (a0:1<=h0) (a1:1<=h1) {F:List K3} (h:Lsd l0 h0 l1 h1 sp F):Rs (MxA l0 h0 l1 h1 sp) (F.map (rk (lvs sp) h0 h1).idxOf):=by
 have hnd:=ja' (eS' (sp:=sp)) (h0:=h0) (h1:=h1)
 have hlt:∀r∈F.map (rk (lvs sp) h0 h1).idxOf,r<(MxA l0 h0 l1 h1 sp).length:=fun r hr=>by
  obtain⟨k,hk,rfl⟩:=az.mp hr
  unfold MxA
  rw[af]
  exact bY (h.mem hk)
 have hs:Sus (MxA l0 h0 l1 h1 sp) (F.map (rk (lvs sp) h0 h1).idxOf):=by
  intro r hr
  refine⟨hlt r hr,?_⟩
  obtain⟨k,hk,rfl⟩:=az.mp hr
  have hk2:k∈nxl l0 h0 l1 h1 sp F:=by rw[h.fix];exact hk
  have hk3:=(br.mp hk2).2
  rw[ag,bQ,aS]at hk3
  obtain⟨⟨q,hq,e1⟩,e2⟩:=hk3
  rw[aS,decide_eq_true_eq,decide_eq_true_eq]at e1
  obtain⟨g1,g2⟩:=lO' (l0:=l0) (l1:=l1) a0 a1 (bJ' (h.mem hq))
  obtain⟨g3,g4⟩:=lO' (l0:=l0) (l1:=l1) a0 a1 (bJ' (h.mem hk))
  refine⟨⟨_,az.mpr ⟨q,hq,rfl⟩,?_⟩,?_⟩
  .rcases e1 with e|e
   .left;rw[g1,e];rfl
   .right;rw[g2,e];rfl
  .have key:∀o:Option K3,inK F o=true->∃q,q∈F/\o=some q:=fun o ho=>by
    cases o with
    |none=>cases ho
    |some q=>exact⟨q,of_decide_eq_true ho,rfl⟩
   rcases e2 with e|e
   .obtain⟨q,hq,e⟩:=key _ e
    exact⟨_,az.mpr ⟨q,hq,rfl⟩,.inl (by rw[g3,e];rfl)⟩
   .obtain⟨q,hq,e⟩:=key _ e
    exact⟨_,az.mpr ⟨q,hq,rfl⟩,.inr (by rw[g4,e];rfl)⟩
 refine⟨nZ' hnd h.sub,hlt,?_,fun S hS r hr=>?_⟩
 .unfold lst
  rw[List.filter_eq_self]
  intro r hr
  have:=fq' hs (rs:=F.map (rk (lvs sp) h0 h1).idxOf) (fun _ z=>z) r hr
  exact(br.mp this).2
 .have hr2:=(hS r hr).1
  unfold MxA at hr2
  rw[af]at hr2
  have e:=ac hr2
  exact az.mpr ⟨_,h.all S hS r hr _ e,o5' hnd e⟩
def ixF (F:List K3):Option K3->Option Nat
 |none=>none
 |some k=>if k∈F then some (F.idxOf k)else none
def gs' (l0 h0 l1 h1:Nat) (sp:Option Nat) (F:List K3):List Rm:=F.map fun k=>(ixF F (lb l0 h0 l1 h1 sp k 0),ixF F (lb l0 h0 l1 h1 sp k 1))
theorem lP' {ks:List K3} (hn:ks.Nodup) {k:K3} (hk:k∈ks):∀{F:List K3},(∀q∈F,q∈ks)->(F.map ks.idxOf).idxOf (ks.idxOf k)=F.idxOf k
 | [],_=>rfl
 |q :: F,h=>by
  rw[aL,List.idxOf_cons,List.idxOf_cons,lP' hn hk fun x hx=>h x (aw _ hx)]
  have hq:=h q ay
  by_cases e:q=k
  .subst e;simp
  .have e2:ks.idxOf q≠ks.idxOf k:=fun z=>by
    rcases o6' hq z with z|z
    .exact e z
    .exact z hk
   rw[beq_eq_false_iff_ne.mpr e,beq_eq_false_iff_ne.mpr e2]
theorem Lsd.prt (a0:1<=h0) (a1:1<=h1) {F:List K3} (h:Lsd l0 h0 l1 h1 sp F):prt (MxA l0 h0 l1 h1 sp) (F.map (rk (lvs sp) h0 h1).idxOf)=gs' l0 h0 l1 h1 sp F:=by
 have hnd:=ja' (eS' (sp:=sp)) (h0:=h0) (h1:=h1)
 unfold TE.prt gs'
 rw[bi]
 apply cr
 intro k hk
 obtain⟨g1,g2⟩:=lO' (l0:=l0) (l1:=l1) a0 a1 (bJ' (h.mem hk))
 have key:∀c,c<2->ixR (F.map (rk (lvs sp) h0 h1).idxOf) ((lb l0 h0 l1 h1 sp k c).map (rk (lvs sp) h0 h1).idxOf)=ixF F (lb l0 h0 l1 h1 sp k c):=fun c hc=>by
  cases e:lb l0 h0 l1 h1 sp k c with
  |none=>rfl
  |some q=>
   have hq:=(lN' a0 a1 (h.mem hk) hc).1 q e
   show ixR _ (some _)=if q∈F then some (F.idxOf q)else none
   rw[in',lP' hnd hq fun x hx=>h.mem hx]
   by_cases hin:q∈F
   .rw[if_pos hin,if_pos (az.mpr ⟨q,hin,rfl⟩)]
   .rw[if_neg hin,if_neg fun z=>?_]
    obtain⟨x,hx,e⟩:=az.mp z
    rcases o6' (h.mem hx) e with e|e
    .exact hin (e ▸ hx)
    .exact e hq
 show(ixR _ (fs1 _ _),ixR _ (fs2 _ _))=_
 rw[g1,g2,key 0 (by decide),key 1 (by decide)]
end
theorem so {H H':Hp} {p:Addr} {o:HO} (h:H p=none) (s:aw' H H'):aw' H (upd H' p o):=fun b u q=>by rw[ad' (aj' q h)];exact s _ _ q
theorem tpo {H:Hp} {p:Addr} {o o':HO} (h:H p=some o) (ho:∀xs,o≠.tup xs):Tp H (upd H p o'):=fun a xs e=>by
 rw[ad']
 .exact e
 .rintro rfl
  rw[h]at e
  exact ho xs (Option.some.inj e)
theorem ir' {sp:Option Nat}:lvs sp=aF (sp.getD 0+1):=by
 cases sp with
 |none=>rfl
 |some s=>rfl
theorem ro' {F:List K3} {k:K3} (h:k∉F):eg' (dK3 F) (kK k) (.bl true)=dK3 (F++[k]):=by
 rw[e3' _ (by rw[hy',if_neg h])]
 unfold dK3
 rw[aK]
 rfl
theorem cL' {F:List K3}:(dK3 F).length=F.length:=by unfold dK3;rw[af]
theorem rp' {m b pl j:Nat} (hj:j<m):(r1 (aF m) b pl).take (j+1)=(r1 (aF m) b pl).take j++[(b,pl,j)]:=by
 rw[bB]
 congr 1
 unfold r1
 rw[au,cq hj]
 rfl
theorem vH' {m b pl:Nat}:(r1 (aF m) b pl).length=m:=by unfold r1;rw[af,bg]
theorem vI' {m b pl j:Nat} {k:K3} (h:k∈(r1 (aF m) b pl).take j):k.2.1=pl/\k.2.2<j:=by
 obtain⟨i,e⟩:=cg h
 rw[List.getElem?_take]at e
 by_cases hi:i<j
 .rw[if_pos hi]at e
  unfold r1 at e
  rw[au]at e
  by_cases hm:i<m
  .rw[cq hm]at e
   cases e
   exact⟨rfl,hi⟩
  .rw[bx (by rw[bg];omega)]at e
   cases e
 .rw[if_neg hi]at e
  cases e
def Bas (sp:Option Nat) (h0 h1:Nat) (i:Nat):List K3:=if i=0 then[]else if i=1 then r2 (lvs sp) 0 h0 else rk (lvs sp) h0 h1
theorem rq' {sp:Option Nat} {h0 h1 i j m:Nat} (hi:i<2):((i,j+1,m):K3)∉Bas sp h0 h1 i++r2 (lvs sp) i j++(r1 (lvs sp) i (j+1)).take m:=by
 intro h
 rw[aT,aH,aH]at h
 rcases h with h|h|h
 .rcases(by omega:i=0\/i=1)with rfl|rfl
  .exact absurd h aq
  .have:=(ca' (show((1,j+1,m):K3)∈r2 (lvs sp) 0 h0 from h)).1
   exact absurd this (by show ¬1=0;decide)
 .have:=(ca' h).2.2.1
  have:j+1<=j:=this
  omega
 .rw[ir']at h
  have:=(vI' h).2
  have:m<m:=this
  omega
theorem rr' {sp:Option Nat} {h0 h1 i j m:Nat} (a0:h0<=8) (a1:h1<=8) (as:∀s,sp=some s->s<=16) (hj:j<=8):(Bas sp h0 h1 i++r2 (lvs sp) i j++(r1 (lvs sp) i (j+1)).take m).length<1000:=by
 have hl:=(lx' as).1
 have h2:∀b h,h<=8->(r2 (lvs sp) b h).length<=136:=fun b h hh=>by
  rw[eR']
  exact aM (Nat.mul_le_mul hh hl) (by decide)
 have h3:((r1 (lvs sp) i (j+1)).take m).length<=17:=by
  rw[aI]
  unfold r1
  rw[af]
  omega
 have h4:(Bas sp h0 h1 i).length<=272:=by
  unfold Bas
  split
  .exact aO _
  .split
   .have:=h2 0 h0 a0;omega
   .unfold rk
    have e0:=h2 0 h0 a0
    have e1:=h2 1 h1 a1
    rw[aB]
    omega
 have h5:=h2 i j hj
 rw[aB,aB]
 omega
def cn':Sp:=fun vs H Q _=>∃(bd:Addr) (l0 h0 l1 h1:Nat) (sp:Option Nat),vs=[.ref bd]/\IsB H bd l0 h0 l1 h1 sp/\1<=h0/\1<=h1/\∀(p:Addr) (F:List K3) (H':Hp),H p=none->aw' H H'->H' p=some (.dT (dK3 F))->Lsd l0 h0 l1 h1 sp F->Q (.ref p) H'
def vJ':Cs:=.for_ (.name 2) (.val (.tup (.cons (.int 0) (.cons (.int 1) .nil)))) (.cons (.for_ (.name 3) (.range2 (.int 1) (.bin .Add (.idx (.lst (.cons (.idx (.var 0) (.int 1)) (.cons (.idx (.var 0) (.int 3)) .nil))) (.var 2)) (.int 1))) (.cons (.for_ (.name 4) (.range1 (.bin .Add (.orv (.idx (.var 0) (.int 4)) (.int 0)) (.int 1))) (.cons (.dput (.var 1) (.tup (.cons (.var 2) (.cons (.var 3) (.cons (.var 4) .nil)))) (.bl true)) .nil)) .nil)) .nil)
theorem lQ' {C:Rc} {D:Ends} {H H0:Hp} {bd d:Addr} {l0 h0 l1 h1:Nat} {sp:Option Nat} (hB:IsB H bd l0 h0 l1 h1 sp) (hd:H d=none) (sH:aw' H H0) (hd0:H0 d=some (.dT []))
  (q:∀(x2 x3 x4:Option V) (H':Hp),aw' H H'->H' d=some (.dT (dK3 (rk (lvs sp) h0 h1)))->D.nx [some (.ref bd),some (.ref d),x2,x3,x4,none,none,none] H'):tS C vJ' D [some (.ref bd),some (.ref d),none,none,none,none,none,none] H0:=by
 unfold vJ'
 symm
 refine⟨by decide,fun p0 hp0=>?_⟩
 obtain⟨s0,e0⟩:=snw hp0 (.tup [.int 0,.int 1])
 have f0:=sH.free hp0
 have hd1:=s0 _ _ hd0
 have sH1:=sH.trans s0
 generalize upd H0 p0 _=H1 at s0 e0 hd1 sH1 ⊢
 refine bN' (SqT.of e0) (u1' (xs:=[.int 0,.int 1]) (fun i σ H'=>(∃x2 x3 x4,σ=[some (.ref bd),some (.ref d),x2,x3,x4,none,none,none])/\aw' H H'/\H' p0=some (.tup [.int 0,.int 1])/\H' d=some (.dT (dK3 (Bas sp h0 h1 i)))) ⟨⟨_,_,_,rfl⟩,sH1,e0,hd1⟩ (fun i σ H' _ pv=>SqT.of pv.2.2.1) ?_ ?_)
 .rintro i x σ H2 hx ⟨⟨x2,x3,x4,rfl⟩,s2,e2,hd2⟩
  obtain⟨hi,rfl⟩:i<2/\x=.int i:=by
   match i,hx with
   |0,hx=>cases hx;exact⟨by decide,rfl⟩
   |1,hx=>cases hx;exact⟨by decide,rfl⟩
   |i+2,hx=>cases hx
  symm
  have hB2:=(hB.mono (ag' s2)).at'
  refine aL' (SqT.of hB2) (v:=nV h0) rfl ?_
  symm
  refine aL' (SqT.of hB2) (v:=nV h1) rfl ?_
  symm
  refine⟨by decide,fun p3 hp3=>?_⟩
  obtain⟨s3,e3⟩:=snw hp3 (.lst [nV h0,nV h1])
  have s3':=s2.trans s3
  have e2':=s3 _ _ e2
  have hd3:=s3 _ _ hd2
  generalize upd H2 p3 _=H3 at s3 e3 s3' e2' hd3 ⊢
  refine a7' (SqL.of e3) (at2 hi) ?_
  obtain⟨hh,hhe⟩:∃hh:Nat,hh=if i=1 then h1 else h0:=⟨_,rfl⟩
  rw[show(if i=1 then nV h1 else nV h0)=V.int (hh:Int) by rw[hhe];split<;>rfl]
  have hh8:hh<=8:=by rw[hhe];have:=hB.b0;have:=hB.b1;split<;>omega
  symm
  refine u0' (by decide) (by decide) (by omega) (by omega) ?_
  rw[show((hh:Int)+1-1).toNat=hh by omega]
  refine li' (fun j σ H'=>(∃x3 x4,σ=[some (.ref bd),some (.ref d),some (.int i),x3,x4,none,none,none])/\aw' H H'/\H' p0=some (.tup [.int 0,.int 1])/\H' d=some (.dT (dK3 (Bas sp h0 h1 i++r2 (lvs sp) i j)))) ⟨⟨_,_,rfl⟩,s3',e2',by rw[show r2 (lvs sp) i 0=[] from rfl,cA];exact hd3⟩ ?_ ?_
  .rintro j σ H4 hj ⟨⟨x3,x4,rfl⟩,s4,e4,hd4⟩
   symm
   refine aL' (SqT.of (hB.mono (ag' s4)).at') (v:=oV sp) rfl ?_
   have key:∀Q':VK,Q' (.int ((sp.getD 0:Nat):Int)) H4->wz' C [some (.ref bd),some (.ref d),some (.int i),some (.int (1+(j:Int))),x4,none,none,none] (.int 0) Q' (oV sp) H4:=by
    intro Q' q'
    cases sp with
    |none=>
     refine vb' ?_
     rw[lc']
     exact q'
    |some s=>
     by_cases hs:(s:Int)=0
     .refine .inr ⟨(s:Int),rfl,?_⟩
      rw[if_pos hs,lc',<- hs]
      exact q'
     .exact vc' hs q'
   refine key _ ?_
   obtain⟨m,hm⟩:∃m,m=sp.getD 0:=⟨_,rfl⟩
   have hm16:m<=16:=by
    rw[hm]
    cases sp with
    |none=>exact aO _
    |some s=>exact hB.bs s rfl
   rw[<- hm]
   symm
   refine nq' (by omega) (by omega) ?_
   rw[show((m:Int)+1).toNat=m+1 by omega]
   refine li' (fun u σ H'=>(∃x4,σ=[some (.ref bd),some (.ref d),some (.int i),some (.int (1+(j:Int))),x4,none,none,none])/\aw' H H'/\H' p0=some (.tup [.int 0,.int 1])/\H' d=some (.dT (dK3 (Bas sp h0 h1 i++r2 (lvs sp) i j++(r1 (lvs sp) i (j+1)).take u)))) ⟨⟨_,rfl⟩,s4,e4,by rw[List.take_zero,cA];exact hd4⟩ ?_ ?_
   .rintro u σ H5 hu ⟨⟨x4,rfl⟩,s5,e5,hd5⟩
    symm
    refine⟨by decide,fun p6 hp6=>?_⟩
    obtain⟨s6,e6⟩:=snw hp6 (.tup [.int i,.int (1+(j:Int)),.int (0+(u:Int))])
    have s6':=s5.trans s6
    have e5':=s6 _ _ e5
    have hd6:=s6 _ _ hd5
    generalize upd H5 p6 _=H6 at s6 e6 s6' e5' hd6 ⊢
    refine nG' (ks:=kK (i,j+1,u)) hd6 (by rw[e6,ly'];simp only[nV];rw[show((j+1:Nat):Int)=1+(j:Int) by omega,Int.zero_add]) (ap' (by rw[cL'];exact bK (rr' hB.b0 hB.b1 hB.bs (aM (bK hj) hh8)))) ?_
    refine⟨⟨_,rfl⟩,so hd s6',?_,?_⟩
    .rw[ad']
     .exact e5'
     .rintro rfl;rw[hd6]at e5';cases e5'
    .rw[aa',ro' (rq' hi),aT]
     have:(r1 (lvs sp) i (j+1)).take (u+1)=(r1 (lvs sp) i (j+1)).take u++[(i,j+1,u)]:=by
      rw[ir',<- hm]
      exact rp' hu
     rw[this,aT]
   .rintro σ H5 ⟨⟨x4,rfl⟩,s5,e5,hd5⟩
    refine⟨⟨_,_,rfl⟩,s5,e5,?_⟩
    rw[hd5,d6',aT,List.take_of_length_le (by rw[ir',<- hm,vH'];exact ah _)]
  .rintro σ H4 ⟨⟨x3,x4,rfl⟩,s4,e4,hd4⟩
   refine⟨⟨_,_,_,rfl⟩,s4,e4,?_⟩
   rw[hd4,hhe]
   rcases(by omega:i=0\/i=1)with rfl|rfl
   .rfl
   .rfl
 .rintro σ H2 ⟨⟨x2,x3,x4,rfl⟩,s2,e2,hd2⟩
  exact q x2 x3 x4 H2 s2 hd2
set_option tactic.hygienic true in
theorem n0' {L:List NK} {q:NK} {z:Option (List Int)}:z∈(ec' L q).map (aQ Prod.fst)↔z∈L.map (aQ Prod.fst)\/z=q.map Prod.fst:=by
 unfold ec'
 split
 .rename_i h
  exact⟨.inl,fun x=>x.elim id fun e=>by rw[e];exact h⟩
 .rw[aK,aH]
  simp
theorem rt' {L:List NK} {q:NK}:(ec' L q).length<=L.length+1:=by
 unfold ec'
 split
 .omega
 .rw[aB];exact ah _
theorem ru' {H:Hp} {L:List NK} {q:NK} (h:fx' H L) (hq:∀x,q=some x->H x.2=some (.tup (x.1.map V.int))):fx' H (ec' L q):=by
 intro x hx
 unfold ec' at hx
 split at hx
 .exact h x hx
 .rcases aH.mp hx with hx|hx
  .exact h x hx
  .exact hq x (aY.mp hx).symm
theorem eW' {H H':Hp} {L:List NK} (h:fx' H L) (t:Tp H H'):fx' H' L:=fun q hq=>t _ _ (h q hq)
def Led (l0 h0 l1 h1:Nat) (sp:Option Nat) (P:List (K3×Nat)) (L:List NK):Prop:=∀z,z∈L.map (aQ Prod.fst)↔∃q∈P,z=(lb l0 h0 l1 h1 sp q.1 q.2).map BD.kI
theorem Led.put {l0 h0 l1 h1:Nat} {sp:Option Nat} {P:List (K3×Nat)} {L:List NK} {q:NK} {k:K3} {c:Nat} (h:Led l0 h0 l1 h1 sp P L) (hq:q.map Prod.fst=(lb l0 h0 l1 h1 sp k c).map BD.kI):Led l0 h0 l1 h1 sp (P++[(k,c)]) (ec' L q):=by
 intro z
 rw[n0',h z,hq]
 constructor
 .rintro(⟨x,hx,e⟩|e)
  .exact⟨x,ba _ hx,e⟩
  .exact⟨(k,c),aj _ (aY.mpr rfl),e⟩
 .rintro⟨x,hx,e⟩
  rcases aH.mp hx with hx|hx
  .exact .inl ⟨x,hx,e⟩
  .rw[aY.mp hx]at e
   exact .inr e
def prs (F:List K3):List (K3×Nat):=F.flatMap fun k=>[(k,0),(k,1)]
theorem n1' {F:List K3} {k:K3}:prs (F++[k])=prs F++[(k,0),(k,1)]:=by unfold prs;rw[List.flatMap_append];rfl
theorem iu' {o:Option K3} {k:K3}:some (BD.kI k)=o.map BD.kI↔o=some k:=by
 cases o with
 |none=>exact⟨fun z=>(by cases z),fun z=>(by cases z)⟩
 |some x=>exact⟨fun z=>(by injection z with z;rw[hw' z]),fun z=>(by cases z;rfl)⟩
theorem Led.any {l0 h0 l1 h1:Nat} {sp:Option Nat} {F:List K3} {L:List NK} (h:Led l0 h0 l1 h1 sp (prs F) L) (k:K3):decide (some (BD.kI k)∈L.map (aQ Prod.fst))=F.any fun q=>decide (lb l0 h0 l1 h1 sp q 0=some k) || decide (lb l0 h0 l1 h1 sp q 1=some k):=by
 rw[cz,decide_eq_true_eq,h,bQ]
 unfold prs
 constructor
 .rintro⟨q,hq,e⟩
  obtain⟨x,hx,hq⟩:=cO.mp hq
  refine⟨x,hx,?_⟩
  rw[aS,decide_eq_true_eq,decide_eq_true_eq]
  rcases ak.mp hq with rfl|hq
  .exact .inl (iu'.mp e)
  .rw[aY.mp hq]at e
   exact .inr (iu'.mp e)
 .rintro⟨x,hx,e⟩
  rw[aS,decide_eq_true_eq,decide_eq_true_eq]at e
  rcases e with e|e
  .exact⟨(x,0),cO.mpr ⟨x,hx,by simp⟩,iu'.mpr e⟩
  .exact⟨(x,1),cO.mpr ⟨x,hx,by simp⟩,iu'.mpr e⟩
theorem hB' {H:Hp} {p:Addr} {k:K3} (h:H p=some (.tup [nV k.1,nV k.2.1,nV k.2.2])):H p=some (.tup ((BD.kI k).map V.int)):=h
theorem o7' {F:List K3} {i:Nat} {k:K3} (h:F[i]?=some k):(dK3 F)[i]?=some (kK k,V.bl true):=by unfold dK3;rw[au,h];rfl
theorem lR' {F:List K3} {as:List Addr} {i:Nat} {x:V} (hl:as.length=(dK3 F).length) (h:(as.map V.ref)[i]?=some x):∃k a,F[i]?=some k/\x=.ref a/\as[i]?=some a:=by
 rw[au]at h
 cases e:as[i]? with
 |none=>rw[e]at h;cases h
 |some a=>
  rw[e]at h
  cases h
  have hi:=ak' e
  rw[hl,cL']at hi
  exact⟨F[i],a,ac hi,rfl,rfl⟩
section
variable {l0 h0 l1 h1:Nat} {sp:Option Nat} {C:Rc}
def zz':Cs:=.for_ (.name 7) (.dk (.var 1)) (.cons (.for_ (.name 2) (.val (.tup (.cons (.int 0) (.cons (.int 1) .nil)))) (.cons (.dput (.var 6) (.call "_law_behind" (.cons (.var 0) (.cons (.var 7) (.cons (.var 2) .nil)))) (.bl true)) .nil)) .nil)
theorem n2' {D:Ends} {H H0:Hp} {bd d e:Addr} {F:List K3} {x2 x3 x4 x5 x7:Option V} (hBe:C.fs "_law_behind"=some c7') (hB:IsB H bd l0 h0 l1 h1 sp) (a0:1<=h0) (a1:1<=h1) (hF:∀k∈F,k∈rk (lvs sp) h0 h1) (hFl:F.length<=300) (hd:H d=none) (he:H e=none) (hde:d≠e) (sH:aw' H H0) (hd0:H0 d=some (.dT (dK3 F))) (he0:H0 e=some (cv' e []))
  (q:∀(x2 x7:Option V) (H':Hp) (L:List NK) (o:Obj),aw' H H'->H' d=some (.frz o (.dT (dK3 F)))->H' e=some (cv' e L)->fx' H' L->Led l0 h0 l1 h1 sp (prs F) L->D.nx [some (.ref bd),some (.ref d),x2,x3,x4,x5,some (.ref e),x7] H'):tS C zz' D [some (.ref bd),some (.ref d),x2,x3,x4,x5,some (.ref e),x7] H0:=by
 unfold zz'
 have hsm:∀k∈F,eV' k:=fun k hk=>(ew' hB.bs hB.b0 hB.b1).2 k (hF k hk)
 symm
 refine vd' (.inl hd0) fun o as hal has=>?_
 have hs1:aw' H (upd H0 d (.frz o (.dT (dK3 F)))):=so hd sH
 have hd1:upd H0 d (.frz o (.dT (dK3 F))) d=some (.frz o (.dT (dK3 F))):=aa'
 have he1:upd H0 d (.frz o (.dT (dK3 F))) e=some (cv' e []):=by rw[ad' (Ne.symm hde)];exact he0
 have ha1:∀(i:Nat) a k,as[i]?=some a->F[i]?=some k->upd H0 d (.frz o (.dT (dK3 F))) a=some (.tup [nV k.1,nV k.2.1,nV k.2.2]):=fun i a k h1 h2=>tpo hd0 (fun xs z=>by cases z) _ _ (has i a _ h1 (o7' h2))
 generalize upd H0 d (.frz o (.dT (dK3 F)))=H1 at hs1 hd1 he1 ha1
 refine ve' (ks:=as.map V.ref) (fun i σ H'=>(∃x2 x7,σ=[some (.ref bd),some (.ref d),x2,x3,x4,x5,some (.ref e),x7])/\aw' H H'/\Tp H1 H'/\H' d=some (.frz o (.dT (dK3 F)))/\∃L,H' e=some (cv' e L)/\fx' H' L/\L.length<=2*i/\Led l0 h0 l1 h1 sp (prs (F.take i)) L) ⟨⟨_,_,rfl⟩,hs1,Tp.refl,hd1,[],he1,fun _ z=>absurd z aq,ah _,fun z=>⟨fun z=>absurd z aq,fun⟨_,z,_⟩=>absurd z aq⟩⟩ (fun i σ H' pv=>⟨_,pv.2.2.2.1⟩) ?_ ?_
 .rintro i x σ H2 hx ⟨⟨x2,x7,rfl⟩,s2,t2,hd2,L,he2,hL2,hl2,hLd2⟩
  obtain⟨k,a,hk,rfl,ha⟩:=lR' hal hx
  have hi:=ak' hk
  have hkm:=av hk
  symm
  refine⟨by decide,fun p0 hp0=>?_⟩
  obtain⟨s3,e3⟩:=snw hp0 (.tup [.int 0,.int 1])
  have s3':=s2.trans s3
  have t3:=t2.trans (ag' s3)
  have hd3:=s3 _ _ hd2
  have he3:=s3 _ _ he2
  have hL3:=eW' hL2 (ag' s3)
  generalize upd H2 p0 _=H3 at s3 e3 s3' t3 hd3 he3 hL3 ⊢
  refine bN' (SqT.of e3) (u1' (xs:=[.int 0,.int 1]) (fun j σ H'=>(∃x2,σ=[some (.ref bd),some (.ref d),x2,x3,x4,x5,some (.ref e),some (.ref a)])/\aw' H H'/\Tp H1 H'/\H' d=some (.frz o (.dT (dK3 F)))/\H' p0=some (.tup [.int 0,.int 1])/\∃L,H' e=some (cv' e L)/\fx' H' L/\L.length<=2*i+j/\Led l0 h0 l1 h1 sp (prs (F.take i)++[(k,0),(k,1)].take j) L) ⟨⟨_,rfl⟩,s3',t3,hd3,e3,L,he3,hL3,hl2,by rw[List.take_zero,cA];exact hLd2⟩ (fun j σ H' _ pv=>SqT.of pv.2.2.2.2.1) ?_ ?_)
  .rintro j x σ H4 hx ⟨⟨x2,rfl⟩,s4,t4,hd4,e4,L,he4,hL4,hl4,hLd4⟩
   obtain⟨hj,rfl⟩:j<2/\x=.int j:=by
    match j,hx with
    |0,hx=>cases hx;exact⟨by decide,rfl⟩
    |1,hx=>cases hx;exact⟨by decide,rfl⟩
    |j+2,hx=>cases hx
   have etk:[(k,0),(k,1)].take (j+1)=[(k,0),(k,1)].take j++[(k,j)]:=by
    match j,hj with
    |0,_=>rfl
    |1,_=>rfl
   symm
   refine ao' hBe ?_
   symm
   have fin:∀(y:V) (qk:NK) (H5:Hp),aw' H4 H5->tc' H5 y qk->qk.map Prod.fst=(lb l0 h0 l1 h1 sp k j).map BD.kI->(∀x,qk=some x->H5 x.2=some (.tup (x.1.map V.int)))->vu' (.ref e) (.bl true) { D with nx:=fun σ H'=>(∃x2,σ=[some (.ref bd),some (.ref d),x2,x3,x4,x5,some (.ref e),some (.ref a)])/\aw' H H'/\Tp H1 H'/\H' d=some (.frz o (.dT (dK3 F)))/\H' p0=some (.tup [.int 0,.int 1])/\∃L,H' e=some (cv' e L)/\fx' H' L/\L.length<=2*i+(j+1)/\Led l0 h0 l1 h1 sp (prs (F.take i)++[(k,0),(k,1)].take (j+1)) L } [some (.ref bd),some (.ref d),some (.int j),x3,x4,x5,some (.ref e),some (.ref a)] y H5:=by
    intro y qk H5 s5 hy hqk hqt
    have he5:=s5 _ _ he4
    have t6:Tp H5 (upd H5 e (cv' e (ec' L qk))):=tpo he5 (fun xs z=>by unfold cv' at z;cases z)
    refine nF' he5 (eW' hL4 (ag' s5)) (by omega) hy ⟨⟨_,rfl⟩,so he (s4.trans s5),(t4.trans (ag' s5)).trans t6,?_,t6 _ _ (s5 _ _ e4),ec' L qk,aa',eW' (ru' (eW' hL4 (ag' s5)) hqt) t6,?_,?_⟩
    .rw[ad' hde];exact s5 _ _ hd4
    .have:=rt' (L:=L) (q:=qk)
     omega
    .rw[etk,<- aT]
     exact hLd4.put hqk
   refine⟨bd,a,l0,h0,l1,h1,sp,k,j,rfl,hB.mono (ag' s4),t4 _ _ (ha1 i a k ha hk),hj,(hsm k hkm).1,fun el H5 s5=>?_,fun k' el p H5 s5 hp=>?_⟩
   .refine fin .non none H5 s5 (.inl ⟨rfl,rfl⟩) (by rw[el];rfl) (fun _ z=>by cases z)
   .have hk':=(lN' (l0:=l0) (l1:=l1) a0 a1 (hF k hkm) hj).1 k' el
    refine fin (.ref p) (some (BD.kI k',p)) H5 s5 (.inr ⟨_,_,rfl,rfl,hB' hp,cs' ((ew' hB.bs hB.b0 hB.b1).2 k' hk')⟩) (by rw[el];rfl) (fun x z=>by cases z;exact hB' hp)
  .rintro σ H4 ⟨⟨x2,rfl⟩,s4,t4,hd4,e4,L,he4,hL4,hl4,hLd4⟩
   refine⟨⟨_,_,rfl⟩,s4,t4,hd4,L,he4,hL4,hl4,?_⟩
   rw[cj' hk,n1']
   exact hLd4
 .rintro σ H2 ⟨⟨x2,x7,rfl⟩,s2,t2,hd2,L,he2,hL2,hl2,hLd2⟩
  rw[af,hal,cL',bj]at hLd2
  exact q x2 x7 H2 L o s2 hd2 he2 hL2 hLd2
end
theorem rv':∀{L:PL},(L.map fun x=>x.2.1).Nodup->kb' L=L.map fun x=>(x.2.1,x.2.2.2):=by
 intro L h
 have key:∀(n:Nat) (L:PL),L.length=n->(L.map fun x=>x.2.1).Nodup->kb' L=L.map fun x=>(x.2.1,x.2.2.2):=by
  intro n
  induction n with
  |zero=>
   intro L hn _
   rw[List.eq_nil_of_length_eq_zero hn]
   rfl
  |succ n ih=>
   intro L hn hd
   rcases List.eq_nil_or_concat L with rfl|⟨L',x,rfl⟩
   .cases hn
   rw[List.concat_eq_append]at hn hd ⊢
   rw[aK]at hd
   rw[aB]at hn
   have hd2:=cG.mp hd
   rw[fY',ih L' (by simpa using hn) hd2.1,e3',aK]
   .rfl
   .unfold ef'
    rw[Option.map_eq_none_iff,List.find?_eq_none]
    intro y hy e
    obtain⟨z,hz,rfl⟩:=az.mp hy
    exact hd2.2.2 _ (az.mpr ⟨z,hz,rfl⟩) _ (az.mpr ⟨x,aY.mpr rfl,rfl⟩) (of_decide_eq_true e)
 exact key _ L rfl h
structure Pl (H:Hp) (L:PL) (kvs:List (List Key×V)):Prop where
 at':∀x∈L,H x.1=some (.tup [.ref x.2.2.1,x.2.2.2])/\H x.2.2.1=some (.tup (x.2.1.map L2.kV))
 is:(L.map fun x=>(x.2.1,x.2.2.2))=kvs
theorem Pl.mono {H H':Hp} {L:PL} {kvs:List (List Key×V)} (h:Pl H L kvs) (t:Tp H H'):Pl H' L kvs:=⟨fun x hx=>⟨t _ _ (h.at' x hx).1,t _ _ (h.at' x hx).2⟩,h.is⟩
theorem Pl.nil {H:Hp}:Pl H [] []:=⟨fun _ z=>absurd z aq,rfl⟩
theorem Pl.snoc {H:Hp} {L:PL} {kvs:List (List Key×V)} {p a:Addr} {k:List Key} {v:V} (h:Pl H L kvs) (hp:H p=some (.tup [.ref a,v])) (ha:H a=some (.tup (k.map L2.kV))):Pl H (L++[(p,k,a,v)]) (kvs++[(k,v)]):=⟨fun x hx=>by
 rcases aH.mp hx with hx|hx
 .exact h.at' x hx
 .rw[aY.mp hx]
  exact⟨hp,ha⟩,by rw[aK,h.is];rfl⟩
theorem Pl.len {H:Hp} {L:PL} {kvs:List (List Key×V)} (h:Pl H L kvs):L.length=kvs.length:=by rw[<- h.is,af]
theorem lS' {H:Hp} {Q:VK} {p:Addr} {L:PL} {kvs:List (List Key×V)} (h:Pl H L kvs) (hn:(kvs.map Prod.fst).Nodup) (hp:H p=some (.lst (L.map fun x=>V.ref x.1))) (q:∀d,H d=none->Q (.ref d) (upd H d (.dT kvs))):zu' .dct Q (.ref p) H:=by
 refine⟨p,L,rfl,hp,h.at',fun d hd=>?_⟩
 have e:kb' L=kvs:=by
  rw[rv' (by rw[<- h.is,bi]at hn;exact hn)]
  exact h.is
 rw[e]
 exact q d hd
theorem n3' {F:List K3} (h:F.Nodup):((dK3 F).map Prod.fst).Nodup:=by
 unfold dK3
 rw[bi]
 exact gm' (fun x y z=>eT' z) h
section
variable {l0 h0 l1 h1:Nat} {sp:Option Nat} {C:Rc}
def kp (l0 h0 l1 h1:Nat) (sp:Option Nat) (F:List K3) (k:K3):Bool:=(F.any fun q=>decide (lb l0 h0 l1 h1 sp q 0=some k) || decide (lb l0 h0 l1 h1 sp q 1=some k))&&(inK F (lb l0 h0 l1 h1 sp k 0) || inK F (lb l0 h0 l1 h1 sp k 1))
theorem o8' {F:List K3}:nxl l0 h0 l1 h1 sp F=F.filter (kp l0 h0 l1 h1 sp F):=rfl
def vK':Ce:=.cal .dct (.comp (.tup (.cons (.var 7) (.cons (.bl true) .nil))) [7] (.name 7) (.dk (.var 1)) (.some (.and (.din false (.var 7) (.var 6)) (.val (.call "_law_leads" (.cons (.var 0) (.cons (.var 1) (.cons (.var 7) .nil))))))) .nil)
theorem lT' {Q:VK} {H H0:Hp} {bd d e:Addr} {F:List K3} {L:List NK} {o0:Obj} {x2 x3 x4 x5 x7:Option V} (hLd:C.fs "_law_leads"=some rU') (hB:IsB H bd l0 h0 l1 h1 sp) (hF:∀k∈F,k∈rk (lvs sp) h0 h1) (hn:F.Nodup) (hFl:F.length<=300) (hd:H d=none) (he:H e=none) (hde:d≠e) (sH:aw' H H0) (hd0:H0 d=some (.frz o0 (.dT (dK3 F)))) (he0:H0 e=some (cv' e L)) (hL:fx' H0 L) (hLed:Led l0 h0 l1 h1 sp (prs F) L)
  (q:∀(p:Addr) (H':Hp),H p=none->aw' H H'->H' p=some (.dT (dK3 (nxl l0 h0 l1 h1 sp F)))->Q (.ref p) H'):tE C vK' [some (.ref bd),some (.ref d),x2,x3,x4,x5,some (.ref e),x7] H0 Q:=by
 unfold vK'
 have hsm:∀k∈F,eV' k:=fun k hk=>(ew' hB.bs hB.b0 hB.b1).2 k (hF k hk)
 (try rw[oW'])
 symm
 refine vd' (.inr ⟨_,hd0⟩) fun o as hal has=>?_
 have hs1:aw' H (upd H0 d (.frz o (.dT (dK3 F)))):=so hd sH
 have hd1:upd H0 d (.frz o (.dT (dK3 F))) d=some (.frz o (.dT (dK3 F))):=aa'
 have he1:upd H0 d (.frz o (.dT (dK3 F))) e=some (cv' e L):=by rw[ad' (Ne.symm hde)];exact he0
 have t0:Tp H0 (upd H0 d (.frz o (.dT (dK3 F)))):=tpo hd0 (fun xs z=>by cases z)
 have ha1:∀(i:Nat) a k,as[i]?=some a->F[i]?=some k->upd H0 d (.frz o (.dT (dK3 F))) a=some (.tup [nV k.1,nV k.2.1,nV k.2.2]):=fun i a k h1 h2=>t0 _ _ (has i a _ h1 (o7' h2))
 have hL1:=eW' hL t0
 generalize upd H0 d (.frz o (.dT (dK3 F)))=H1 at hs1 hd1 he1 ha1 hL1
 refine qS' (ks:=as.map V.ref) (fun i xs H'=>aw' H1 H'/\∃L':PL,xs=(L'.map fun x=>V.ref x.1)/\Pl H' L' (dK3 ((F.take i).filter (kp l0 h0 l1 h1 sp F)))) ⟨aw'.refl _,[],rfl,Pl.nil⟩ (fun i xs H' pv=>⟨_,pv.1 _ _ hd1⟩) ?_ ?_
 .rintro i xs H2 x R hx ⟨s2,L',rfl,hP⟩ hR
  obtain⟨k,a,hk,rfl,ha⟩:=lR' hal hx
  have hi:=ak' hk
  have hkm:=av hk
  have hak:=s2 _ _ (ha1 i a k ha hk)
  have hsk:=hsm k hkm
  have etk:(F.take (i+1)).filter (kp l0 h0 l1 h1 sp F)=(F.take i).filter (kp l0 h0 l1 h1 sp F)++if kp l0 h0 l1 h1 sp F k then[k]else[]:=by
   rw[cj' hk,List.filter_append]
   congr 1
   rw[List.filter_cons]
   split
   .rfl
   .rfl
  symm
  refine q4' (hB' hak) (cs' hsk) (s2 _ _ he1) (eW' hL1 (ag' s2)) ?_
  rw[if_neg (by decide),hLed.any]
  have skip:kp l0 h0 l1 h1 sp F k=false->∀H3,aw' H2 H3->R (L'.map fun x=>V.ref x.1) H3:=fun hf H3 s3=>hR _ _ ⟨s2.trans s3,L',rfl,by
   rw[etk,hf]
   simp only[aP,if_false,cA]
   exact hP.mono (ag' s3)⟩
  cases ea:(F.any fun q=>decide (lb l0 h0 l1 h1 sp q 0=some k) || decide (lb l0 h0 l1 h1 sp q 1=some k))with
  |false=>
   symm
   exact skip (by unfold kp;rw[ea];rfl) H2 (aw'.refl _)
  |true=>
   symm
   refine ao' hLd ?_
   symm
   refine⟨bd,d,a,l0,h0,l1,h1,sp,F,k,rfl,hB.mono (ag' (hs1.trans s2)),.inr ⟨_,s2 _ _ hd1⟩,hsm,hak,hsk.1,fun H3 s3=>?_⟩
   cases eb:(inK F (lb l0 h0 l1 h1 sp k 0) || inK F (lb l0 h0 l1 h1 sp k 1))with
   |false=>
    symm
    exact skip (by unfold kp;rw[ea,eb];rfl) H3 s3
   |true=>
    symm
    refine⟨by decide,fun p4 hp4=>?_⟩
    obtain⟨s4,e4⟩:=snw hp4 (.tup [.ref a,.bl true])
    generalize upd H3 p4 _=H4 at s4 e4 ⊢
    have hll:=hP.len
    have:=bZ (kp l0 h0 l1 h1 sp F) (F.take i)
    rw[cL']at hll
    rw[aI]at this
    refine⟨ap' (by rw[af];omega),hR _ _ ⟨s2.trans (s3.trans s4),L'++[(p4,kK k,a,.bl true)],by rw[aK];rfl,?_⟩⟩
    rw[etk,show kp l0 h0 l1 h1 sp F k=true by unfold kp;rw[ea,eb];rfl,if_pos rfl]
    unfold dK3
    rw[aK]
    exact(hP.mono (ag' (s3.trans s4))).snoc e4 (by rw[ly'];exact s4 _ _ (s3 _ _ hak))
 .rintro xs H2 ⟨s2,L',rfl,hP⟩ p hp
  rw[af,hal,cL',bj,<- o8']at hP
  obtain⟨s3,e3⟩:=snw hp (.lst (L'.map fun x=>V.ref x.1))
  have hP3:=hP.mono (ag' s3)
  have hs3:=hs1.trans (s2.trans s3)
  generalize upd H2 p _=H3 at s3 e3 hP3 hs3 ⊢
  refine lS' hP3 (n3' (hn.sublist List.filter_sublist)) e3 fun d' hd'=>?_
  exact q d' _ (hs3.free hd') (hs3.trans (af' hd' _)) aa'
theorem gt' (hN:C.N.length=8) (hBe:C.fs "_law_behind"=some c7') (hLd:C.fs "_law_leads"=some rU'):∀vs H Q E,cn' vs H Q E->tSs C c5' { nx:=fun _ H'=>Q .non H',rt:=Q } (L2.aQ' C.N vs) H:=by
 intro vs H Q E h
 obtain⟨bd,l0,h0,l1,h1,sp,rfl,hB,a0,a1,q⟩:=h
 have hnd:=ja' (eS' (sp:=sp)) (h0:=h0) (h1:=h1)
 have hkl:=(ew' hB.bs hB.b0 hB.b1).1
 rw[as' hN]
 unfold c5'
 refine ev' fun N0 hN0=>?_
 rw[eu',oU']
 intro d hd
 obtain⟨s1,e1⟩:=snw hd (.dT [])
 generalize upd H d _=H1 at s1 e1 ⊢
 refine hN0 _ _ ?_
 refine ev' fun N1 hN1=>?_
 refine lQ' (l0:=l0) (l1:=l1) hB hd s1 e1 fun x2 x3 x4 H2 s2 e2=>hN1 _ _ ?_
 symm
 refine oM' (fun m σ H'=>∃(d:Addr) (F:List K3) (x2 x3 x4 x6 x7:Option V) (z:Int),σ=[some (.ref bd),some (.ref d),x2,x3,x4,some (.int z),x6,x7]/\H d=none/\aw' H H'/\H' d=some (.dT (dK3 F))/\F.Sublist (rk (lvs sp) h0 h1)/\Cov l0 h0 l1 h1 sp F/\((z=-1/\m=1000)\/∃G,F=nxl l0 h0 l1 h1 sp G/\z=(G.length:Int)/\m=G.length)) 1000 ⟨d,_,x2,x3,x4,_,_,_,rfl,hd,s2,e2,List.Sublist.refl _,fun S hS r hr k hk=>av hk,.inl ⟨rfl,rfl⟩⟩ ?_
 rintro m σ H3 ⟨d,F,x2,x3,x4,x6,x7,z,rfl,hd,s3,e3,hsub,hcov,hz⟩
 have hFl:=hsub.length_le
 have hFn:=hsub.nodup hnd
 symm
 refine ij' (.inl e3) ?_
 rw[cL']
 symm
 rw[show(!decide (z=(F.length:Int)))=decide (¬z=(F.length:Int)) by simp]
 refine bs' (fun hc=>oN' ?_) fun hc=>oO' ?_
 .refine ev' fun N3 hN3=>?_
  symm
  refine ij' (.inl e3) ?_
  rw[cL']
  symm
  refine hN3 _ _ ?_
  refine ev' fun N4 hN4=>?_
  rw[eu',oT']
  intro e he
  obtain⟨s4,e4⟩:=snw he (cv' e [])
  have hed:d≠e:=by rintro rfl;rw[e3]at he;cases he
  have f4:=s3.free he
  have s4':=s3.trans s4
  have e34:=s4 _ _ e3
  generalize upd H3 e _=H4 at s4 e4 s4' e34 ⊢
  refine hN4 _ _ ?_
  refine ev' fun N5 hN5=>?_
  refine n2' hBe hB a0 a1 (fun k hk=>hsub.subset hk) (by omega) hd f4 hed s4' e34 e4 fun x2 x7 H5 L o s5 hd5 he5 hL5 hLed=>hN5 _ _ ?_
  rw[g3',eu']
  refine lT' hLd hB (fun k hk=>hsub.subset hk) hFn (by omega) hd f4 hed s5 hd5 he5 hL5 hLed fun p H6 hp s6 e6=>?_
  symm
  refine⟨F.length,?_,p,_,_,_,_,_,_,_,rfl,hp,s6,e6,(List.filter_sublist).trans hsub,hcov.nx a0 a1,.inr ⟨F,rfl,rfl,rfl⟩⟩
  rcases hz with⟨_,rfl⟩|⟨G,rfl,rfl,rfl⟩
  .omega
  .have:=bZ (kp l0 h0 l1 h1 sp G) G
   rw[<- o8']at this
   omega
 .symm
  rcases hz with⟨rfl,_⟩|⟨G,rfl,rfl,_⟩
  .omega
  .have e:nxl l0 h0 l1 h1 sp G=G:=d8' (show G.length<=(nxl l0 h0 l1 h1 sp G).length by omega)
   rw[e]at e3 hcov hsub
   exact q d G H3 hd s3 e3 ⟨hsub,e,hcov⟩
end
def lt3 (a b:K3):Prop:=a.1<b.1\/(a.1=b.1/\(a.2.1<b.2.1\/(a.2.1=b.2.1/\a.2.2<b.2.2)))
theorem rx' {m b:Nat}:∀{h:Nat},(r2 (aF m) b h).Pairwise lt3
 |0=>List.Pairwise.nil
 |h+1=>by
  rw[d6']
  refine bJ.mpr ⟨rx',?_,fun x hx y hy=>?_⟩
  .unfold r1
   rw[ck]
   exact List.pairwise_lt_range.imp fun {a c} z=>.inr ⟨rfl,.inr ⟨rfl,z⟩⟩
  .obtain⟨e1,_,e2,_⟩:=ca' hx
   unfold r1 at hy
   obtain⟨l,_,rfl⟩:=az.mp hy
   exact .inr ⟨e1,.inl (by show x.2.1<h+1;omega)⟩
theorem yF' {sp:Option Nat} {h0 h1:Nat}:(rk (lvs sp) h0 h1).Pairwise lt3:=by
 unfold rk
 rw[ir']
 refine bJ.mpr ⟨rx',rx',fun x hx y hy=>.inl ?_⟩
 have:=(ca' hx).1
 have:=(ca' hy).1
 omega
set_option tactic.hygienic true in
theorem Ad' {a b:K3} (h:lt3 a b):aR' (L2.kI (BD.kI b)) (L2.kI (BD.kI a))=false:=by
 obtain⟨a1,a2,a3⟩:=a
 obtain⟨b1,b2,b3⟩:=b
 unfold lt3 at h
 dsimp only at h
 show aR' [.inl (b1:Int),.inl (b2:Int),.inl (b3:Int)] [.inl (a1:Int),.inl (a2:Int),.inl (a3:Int)]=false
 unfold aR'
 split
 .rename_i e
  have e:(b1:Int)=a1:=Sum.inl.inj e
  unfold aR'
  split
  .rename_i e2
   have e2:(b2:Int)=a2:=Sum.inl.inj e2
   unfold aR'
   split
   .rename_i e3
    have e3:(b3:Int)=a3:=Sum.inl.inj e3
    omega
   .exact decide_eq_false (by omega)
  .exact decide_eq_false (by omega)
 .exact decide_eq_false (by omega)
theorem up3 {F:List K3} (hF:F.Pairwise lt3):((dK3 F).map fun kv=>unK kv.1).Pairwise fun x y=>aR' (L2.kI y) (L2.kI x)=false:=by
 have e:((dK3 F).map fun kv=>unK kv.1)=F.map BD.kI:=by
  unfold dK3
  rw[bi]
  rfl
 rw[e,ck]
 exact hF.imp fun {a b} z=>Ad' z
theorem o9' {H:Hp}:∀{F:List K3} {as:List Addr},as.length=(dK3 F).length->(∀(i:Nat) b kv,as[i]?=some b->(dK3 F)[i]?=some kv->H b=some (.tup (kv.1.map L2.kV)))->bO' (d5' H) (as.map V.ref) F
 | [],[],_,_=>trivial
 | [],_ :: _,h,_=>by cases h
 |k :: F,[],h,_=>by cases h
 |k :: F,a :: as,hl,h=>⟨⟨a,rfl,h 0 a (kK k,.bl true) rfl rfl⟩,o9' (Nat.succ.inj hl) fun i b kv h1 h2=>h (i+1) b kv h1 h2⟩
theorem vL' {F:List K3} (hn:F.Nodup) {k:K3}:ixK F (some (BD.kI k))=ixF F (some k):=by
 by_cases h:k∈F
 .rw[show ixF F (some k)=if k∈F then some (F.idxOf k)else none from rfl,if_pos h]
  exact ha' hn (bJ' h) rfl
 .rw[show ixF F (some k)=if k∈F then some (F.idxOf k)else none from rfl,if_neg h]
  exact g9' fun x hx z=>h (hw' z ▸ hx)
theorem n4' {F:List K3} (hn:F.Nodup) {m:Nat} (hm:m<=F.length):((plN F m).map Prod.fst).Nodup:=by
 have e:(plN F m).map Prod.fst=(F.take m).map kK:=by
  unfold plN
  rw[bi]
  apply bE
  intro i
  rw[au,au,List.getElem?_take]
  by_cases hi:i<m
  .rw[cq hi,if_pos hi,ac (by omega)]
   show some (kK (F[i]?.getD (0,0,0)))=_
   rw[ac (by omega)]
   rfl
  .rw[if_neg hi,bx (by rw[bg];omega)]
   rfl
 rw[e]
 exact gm' (fun x y z=>BD.eT' z) (hn.sublist (List.take_sublist _ _))
section
variable {l0 h0 l1 h1:Nat} {sp:Option Nat} {C:Rc}
def jf':Sp:=fun vs H Q _=>∃(bd:Addr) (l0 h0 l1 h1:Nat) (sp:Option Nat),vs=[.ref bd]/\IsB H bd l0 h0 l1 h1 sp/\1<=h0/\1<=h1/\∀(p l m:Addr) (xs:List V) (F:List K3) (H':Hp),aw' H H'->H' p=some (.tup [.ref l,.ref m])->H' l=some (.lst xs)->bO' (d5' H') xs F->IsM H' m (gs' l0 h0 l1 h1 sp F)->Lsd l0 h0 l1 h1 sp F->Q (.ref p) H'
theorem n5' (hN:C.N.length=7) (hBe:C.fs "_law_behind"=some c7') (hLa:C.fs "_law_lasting"=some cn'):∀vs H Q E,jf' vs H Q E->tSs C nT' { nx:=fun _ H'=>Q .non H',rt:=Q } (L2.aQ' C.N vs) H:=by
 intro vs H Q E h
 obtain⟨bd,l0,h0,l1,h1,sp,rfl,hB,a0,a1,q⟩:=h
 have hnd:=ja' (eS' (sp:=sp)) (h0:=h0) (h1:=h1)
 obtain⟨hkl,hks⟩:=ew' hB.bs hB.b0 hB.b1 (h0:=h0) (h1:=h1)
 rw[as' hN]
 unfold nT'
 refine ev' fun N0 hN0=>?_
 symm
 refine ao' hLa ?_
 symm
 refine⟨bd,l0,h0,l1,h1,sp,rfl,hB,a0,a1,fun d F H1 hd s1 e1 hL=>?_⟩
 have hFl:=hL.sub.length_le
 have hFn:=hL.sub.nodup hnd
 symm
 refine nE' (n:=2) (.inl e1) (fun kv hkv=>?_) (up3 (yF'.sublist hL.sub)) fun l as hl has hat=>?_
 .obtain⟨k,_,rfl⟩:=az.mp hkv
  exact⟨BD.kI k,rfl,rfl⟩
 have hA:=o9' has hat
 generalize as.map V.ref=xs at hA
 obtain⟨s2,e2⟩:=snw hl (.lst xs)
 have hA2:=bi' s2 hA
 have s2':=s1.trans s2
 generalize upd H1 l _=H2 at s2 e2 hA2 s2' ⊢
 have hxl:=hA2.len
 symm
 refine hN0 _ _ ?_
 refine ev' fun N1 hN1=>?_
 rw[eu']
 (try rw[oW'])
 symm
 refine if' (SqL.of e2) (u4' (vs:=xs) (fun i ys H'=>aw' H2 H'/\i<=F.length/\∃L':PL,ys=(L'.map fun x=>V.ref x.1)/\Pl H' L' (plN F i)) ⟨aw'.refl _,aO _,[],rfl,Pl.nil⟩ (fun i ys H' pv=>SqL.of (pv.1 _ _ e2)) ?_ ?_)
 .rintro i ys H3 x p R hx hp ⟨s3,_,L',rfl,hP⟩ hR
  obtain⟨k,hk,pk,rfl,hpk⟩:=hA2.getL hx
  have hi:=ak' hk
  refine d1' (SqT.of aa') ?_
  have s4:=af' hp (.tup [.int i,.ref pk])
  generalize upd H3 p (.tup [.int i,.ref pk])=H4 at s4 ⊢
  symm
  refine⟨by decide,fun p5 hp5=>?_⟩
  obtain⟨s5,e5⟩:=snw hp5 (.tup [.ref pk,.int i])
  generalize upd H4 p5 _=H5 at s5 e5 ⊢
  have hll:=hP.len
  unfold plN at hll
  rw[af,bg]at hll
  refine⟨ap' (by rw[af];omega),hR _ _ ⟨s3.trans (s4.trans s5),hi,L'++[(p5,kK k,pk,.int i)],by rw[aK];rfl,?_⟩⟩
  rw[im' hk]
  exact(hP.mono (ag' (s4.trans s5))).snoc e5 (by rw[ly'];exact s5 _ _ (s4 _ _ (s3 _ _ hpk)))
 .rintro ys H3 ⟨s3,_,L',rfl,hP⟩ p hp
  rw[hxl]at hP
  obtain⟨s4,e4⟩:=snw hp (.lst (L'.map fun x=>V.ref x.1))
  have hP4:=hP.mono (ag' s4)
  have s4':=s3.trans s4
  generalize upd H3 p _=H4 at s4 e4 hP4 s4' ⊢
  refine lS' hP4 (n4' hFn (ah _)) e4 fun dn hdn=>?_
  obtain⟨s5,e5⟩:=snw hdn (.dT (plN F F.length))
  have s5':=s4'.trans s5
  generalize upd H4 dn _=H5 at s5 e5 s5' ⊢
  symm
  refine hN1 _ _ ?_
  refine ev' fun N2 hN2=>?_
  symm
  refine⟨by decide,fun pm hpm=>?_⟩
  obtain⟨s6,e6⟩:=snw hpm (.lst [])
  have s6':=s5'.trans s6
  have e56:=s6 _ _ e5
  generalize upd H5 pm _=H6 at s6 e6 s6' e56 ⊢
  refine hN2 _ _ ?_
  have fpm:H5 pm=none:=hpm
  have getD:∀{H7:Hp} {Q':VK} {k:K3} {c:Nat} {σ:L2.St},aw' H5 H7->k∈F->c<2->∀{rm:Addr},H7 rm=some (.tup [nV k.1,nV k.2.1,nV k.2.2])->(∀H8,aw' H7 H8->Q' (oV (ixF F (lb l0 h0 l1 h1 sp k c))) H8)->nd' (some c7') (C.xk σ) (gh' dn Q') [.ref bd,.ref rm,.int c] H7:=by
   intro H7 Q' k c σ s7 hk hc rm hrm q'
   have hd7:=s7 _ _ e5
   refine⟨bd,rm,l0,h0,l1,h1,sp,k,c,rfl,hB.mono (ag' (s2'.trans (s5'.trans s7))),hrm,hc,(hks k (hL.mem hk)).1,fun el H8 s8=>?_,fun k' el pz H8 s8 hz=>?_⟩
   .refine g8' (.inr ⟨_,s8 _ _ hd7,fun kv hkv=>?_⟩) (by have:=q' H8 s8;rw[el]at this;exact this)
    unfold plN at hkv
    obtain⟨i,hi,rfl⟩:=az.mp hkv
    rw[aJ]at hi
    refine⟨_,rfl,?_⟩
    rw[ac hi]
    exact cs' (hks _ (hL.mem (cu hi)))
   .refine g7' (e4'.t (k:=(BD.kI k').map Key.inl) (s8 _ _ hd7) (by rw[hz];rfl)) ?_
    rw[lC' hFn,vL' hFn]
    have:=q' H8 s8
    rw[el]at this
    exact this
  refine ev' fun N3 hN3=>?_
  symm
  have e26:=s6' _ _ e2
  refine a6' (SqL.of e26) (yl' (xs:=xs) (fun i σ H'=>(∃x3 x4 x6,σ=[some (.ref bd),some (.ref l),some (.ref dn),x3,x4,some (.ref pm),x6])/\aw' H5 H'/\i<=F.length/\∃ys,H' pm=some (.lst ys)/\bv' H' ys ((F.take i).map fun k=>(ixF F (lb l0 h0 l1 h1 sp k 0),ixF F (lb l0 h0 l1 h1 sp k 1)))) ⟨⟨_,_,_,rfl⟩,s6,aO _,[],e6,trivial⟩ (fun i σ H' _ pv=>SqL.of (pv.2.1 _ _ (s5' _ _ e2))) ?_ ?_)
  .rintro i x σ H7 hx ⟨⟨x3,x4,x6,rfl⟩,s7,_,ys,e7,hR7⟩
   obtain⟨k,hk,pk,rfl,hpk⟩:=hA2.getL hx
   have hi:=ak' hk
   have hkm:=av hk
   have hpk7:=s7 _ _ (s5' _ _ hpk)
   symm
   refine⟨tyL e7 rfl,?_⟩
   refine⟨by decide,fun p8 hp8=>?_⟩
   obtain⟨s8,e8⟩:=snw hp8 (.tup [.int 0,.int 1])
   have e78:=s8 _ _ e7
   have hR8:=hR7.mono (ag' s8)
   have s8':=s7.trans s8
   have hpk8:=s8 _ _ hpk7
   generalize upd H7 p8 _=H8 at s8 e8 e78 hR8 s8' hpk8 ⊢
   refine bN' (SqT.of e8) (oP' (vs:=[.int 0,.int 1]) (fun j zs H'=>aw' H8 H'/\zs=([oV (ixF F (lb l0 h0 l1 h1 sp k 0)),oV (ixF F (lb l0 h0 l1 h1 sp k 1))]:List V).take j) ⟨aw'.refl _,rfl⟩ (fun j zs H' pv=>SqT.of (pv.1 _ _ e8)) ?_ ?_)
   .rintro j zs H9 x R hx ⟨s9,rfl⟩ hR
    match j,hx with
    |0,hx=>
     cases hx
     symm
     refine dh' (.inr ⟨_,.inl ((s8'.trans s9) _ _ e5)⟩) ?_
     refine ao' hBe ?_
     symm
     refine getD (c:=0) (σ:=[]) (s8'.trans s9) hkm (by decide) (s9 _ _ hpk8) fun H10 s10=>?_
     exact⟨ap' (by rw[aI];exact aM (Nat.min_le_left _ _) (by decide)),hR _ _ ⟨s9.trans s10,rfl⟩⟩
    |1,hx=>
     cases hx
     symm
     refine dh' (.inr ⟨_,.inl ((s8'.trans s9) _ _ e5)⟩) ?_
     refine ao' hBe ?_
     symm
     refine getD (c:=1) (σ:=[]) (s8'.trans s9) hkm (by decide) (s9 _ _ hpk8) fun H10 s10=>?_
     exact⟨ap' (by rw[aI];exact aM (Nat.min_le_left _ _) (by decide)),hR _ _ ⟨s9.trans s10,rfl⟩⟩
    |j+2,hx=>cases hx
   .rintro zs H9 ⟨s9,ez⟩ p10 hp10
    have ez:zs=[oV (ixF F (lb l0 h0 l1 h1 sp k 0)),oV (ixF F (lb l0 h0 l1 h1 sp k 1))]:=ez
    subst ez
    symm
    obtain⟨s10,e10⟩:=snw hp10 (.lst [oV (ixF F (lb l0 h0 l1 h1 sp k 0)),oV (ixF F (lb l0 h0 l1 h1 sp k 1))])
    have s10':=s9.trans s10
    generalize upd H9 p10 _=H10 at s10 e10 s10' ⊢
    refine fo' (SqL.of e10) fun p11 hp11=>?_
    obtain⟨s11,e11⟩:=snw hp11 (.tup [oV (ixF F (lb l0 h0 l1 h1 sp k 0)),oV (ixF F (lb l0 h0 l1 h1 sp k 1))])
    have s11':=s10'.trans s11
    generalize upd H10 p11 _=H11 at s11 e11 s11' ⊢
    have e711:=s11' _ _ e78
    have hyl:=hR7.len
    rw[af,aI]at hyl
    symm
    refine oS' e711 (ap' (by omega)) ?_
    have t12:Tp H11 (upd H11 pm (.lst (ys++[.ref p11]))):=vx' e711 _
    symm
    refine⟨⟨_,_,_,rfl⟩,so fpm (s8'.trans s11'),hi,_,aa',?_⟩
    rw[cj' hk,aK]
    exact((hR8.mono (ag' s11')).mono t12).snoc ⟨p11,rfl,t12 _ _ e11⟩
  .rintro σ H7 ⟨⟨x3,x4,x6,rfl⟩,s7,_,ys,e7,hR7⟩
   rw[hxl,bj]at hR7
   refine hN3 _ _ ?_
   symm
   refine fo' (SqL.of e7) fun p8 hp8=>?_
   obtain⟨s8,e8⟩:=snw hp8 (.tup ys)
   have hR8:=hR7.mono (ag' s8)
   have s8':=s7.trans s8
   generalize upd H7 p8 _=H8 at s8 e8 hR8 s8' ⊢
   symm
   refine⟨by decide,fun p9 hp9=>?_⟩
   obtain⟨s9,e9⟩:=snw hp9 (.tup [.ref l,.ref p8])
   generalize upd H8 p9 _=H9 at s9 e9 ⊢
   have sA:=s5'.trans (s8'.trans s9)
   exact q p9 l p8 xs F H9 (s2'.trans sA) e9 (sA _ _ e2) (bi' sA hA2) ⟨ys,s9 _ _ e8,hR8.mono (ag' s9)⟩ hL
end
def eX':Sp:=fun vs H Q _=>∃(bd:Addr) (l0 h0 l1 h1:Nat) (sp:Option Nat),vs=[.ref bd]/\IsB H bd l0 h0 l1 h1 sp/\∀(p:Addr) (rs:List Nat) (H':Hp),aw' H H'->IsM H' p (prt (MxA l0 h0 l1 h1 sp) rs)->Rs (MxA l0 h0 l1 h1 sp) rs->Q (.ref p) H'
theorem lU' {C:Rc} (hN:C.N.length=3) (hT:C.fs "trimmed"=some ck') (hM:C.fs "machine_in_bounds"=some do') (hR:C.fs "rooms_in_bounds"=some gn'):∀vs H Q E,eX' vs H Q E->tSs C be' { nx:=fun _ H'=>Q .non H',rt:=Q } (L2.aQ' C.N vs) H:=by
 intro vs H Q E h
 obtain⟨bd,l0,h0,l1,h1,sp,rfl,hB,q⟩:=h
 rw[as' hN]
 unfold be'
 have hrl:=(ew' hB.bs hB.b0 hB.b1 (h0:=h0) (h1:=h1)).1
 symm
 rw[eu']
 refine ao' hT ?_
 symm
 refine ao' hM ?_
 symm
 refine ao' hR ?_
 symm
 refine⟨bd,l0,h0,l1,h1,sp,rfl,hB,fun p xs H1 s1 hp hxs=>?_⟩
 symm
 refine⟨bd,p,l0,h0,l1,h1,sp,xs,rfl,hB.mono (ag' s1),hp,hxs,fun p2 H2 s2 hM2=>?_⟩
 symm
 refine⟨p2,_,rfl,hM2,by rw[af];omega,fun p3 p' l rs H3 s3 _ hp3 hl hM3 hRs=>?_⟩
 refine g5' (SqT.of hp3) ?_
 symm
 exact q p' rs H3 (s1.trans (s2.trans s3)) hM3 hRs
def rks (sp:Option Nat) (h0 h1:Nat) (rs:List Nat):List K3:=rs.map fun r=>(rk (lvs sp) h0 h1)[r]?.getD (0,0,0)
def jg':Sp:=fun vs H Q _=>∃(bd:Addr) (l0 h0 l1 h1:Nat) (sp:Option Nat),vs=[.ref bd]/\IsB H bd l0 h0 l1 h1 sp/\∀(p:Addr) (xs:List V) (rs:List Nat) (H':Hp),aw' H H'->H p=none->H' p=some (.lst xs)->Rs (MxA l0 h0 l1 h1 sp) rs->bO' (d5' H') xs (rks sp h0 h1 rs)->Q (.ref p) H'
theorem iv' {H:Hp} {xs:List V} {ks:List K3} (h:bO' (d5' H) xs ks):∀{rs:List Nat},(∀r∈rs,r<ks.length)->bO' (d5' H) (rs.map fun r=>xs[r]?.getD .non) (rs.map fun r=>ks[r]?.getD (0,0,0))
 | [],_=>trivial
 |r :: rs,hr=>by
  have e:=ac (hr r ay)
  obtain⟨x,e2,hx⟩:=h.get e
  refine⟨?_,iv' h fun q hq=>hr q (aw _ hq)⟩
  show d5' H (xs[r]?.getD .non) (ks[r]?.getD (0,0,0))
  rw[e,e2]
  exact hx
theorem n6' {C:Rc} (hN:C.N.length=5) (hT:C.fs "trimmed"=some ck') (hM:C.fs "machine_in_bounds"=some do') (hR:C.fs "rooms_in_bounds"=some gn'):∀vs H Q E,jg' vs H Q E->tSs C bD' { nx:=fun _ H'=>Q .non H',rt:=Q } (L2.aQ' C.N vs) H:=by
 intro vs H Q E h
 obtain⟨bd,l0,h0,l1,h1,sp,rfl,hB,q⟩:=h
 rw[as' hN]
 unfold bD'
 have hrl:=(ew' hB.bs hB.b0 hB.b1 (h0:=h0) (h1:=h1)).1
 symm
 refine ao' hR ?_
 symm
 refine⟨bd,l0,h0,l1,h1,sp,rfl,hB,fun p xs H1 s1 hp hxs=>?_⟩
 symm
 rw[eu']
 refine ao' hT ?_
 symm
 refine ao' hM ?_
 symm
 refine⟨bd,p,l0,h0,l1,h1,sp,xs,rfl,hB.mono (ag' s1),hp,hxs,fun p2 H2 s2 hM2=>?_⟩
 symm
 refine⟨p2,_,rfl,hM2,by rw[af];omega,fun p3 p' l rs H3 s3 _ hp3 hl hM3 hRs=>?_⟩
 refine g5' (SqT.of hp3) ?_
 symm
 have s13:=s2.trans s3
 have hp3':=s13 _ _ hp
 have hxs3:=bi' s13 hxs
 have hrl2:∀r∈rs,r<xs.length:=fun r hr=>by
  have:=hRs.lt r hr
  unfold MxA at this
  rw[af]at this
  rw[hxs.len]
  exact this
 have hrn:rs.length<=300:=by
  have:=K04.vG' (lF' hRs.rise) hRs.lt
  unfold MxA at this
  rw[af]at this
  omega
 refine a6' (SqL.of hl) (eM' (vs:=rs.map nV) (fun i ys H'=>H'=H3/\ys=(rs.take i).map fun r=>xs[r]?.getD .non) ⟨rfl,rfl⟩ (fun i ys H' pv=>by rw[pv.1];exact SqL.of hl) ?_ ?_)
 .rintro i x ys H' R hx ⟨rfl,rfl⟩ hR'
  rw[au]at hx
  cases e:rs[i]? with
  |none=>rw[e]at hx;cases hx
  |some r=>
   rw[e]at hx
   cases hx
   have hi:=ak' e
   simp only[nV]
   symm
   have hr:=hrl2 r (av e)
   refine a7' (SqL.of hp3') (dD' (ac hr)) ?_
   refine⟨ap' (by rw[af,aI];omega),hR' _ _ ⟨rfl,?_⟩⟩
   rw[bB,e,aK]
   show _=_++[xs[r]?.getD .non]
   rw[ac hr]
   rfl
 .rintro ys H' ⟨rfl,rfl⟩ p4 hp4
  rw[af,bj]
  symm
  obtain⟨s4,e4⟩:=snw hp4 (.lst (rs.map fun r=>xs[r]?.getD .non))
  refine q p4 _ rs _ (s1.trans (s13.trans s4)) ((s1.trans s13).free hp4) e4 hRs ?_
  unfold rks
  exact iv' (bi' s4 hxs3) fun r hr=>by rw[<- hxs.len];exact hrl2 r hr
section
variable {l0 h0 l1 h1:Nat} {sp:Option Nat}
theorem pa' (a0:1<=h0) (a1:1<=h1) {F:List K3} (h:Lsd l0 h0 l1 h1 sp F) {rs:List Nat} (hR:Rs (MxA l0 h0 l1 h1 sp) rs):rks sp h0 h1 rs=F/\prt (MxA l0 h0 l1 h1 sp) rs=gs' l0 h0 l1 h1 sp F:=by
 have e:rs=F.map (rk (lvs sp) h0 h1).idxOf:=hR.uniq (h.rs a0 a1)
 rw[e]
 refine⟨?_,h.prt a0 a1⟩
 unfold rks
 rw[bi]
 have:∀k∈F,((fun r=>(rk (lvs sp) h0 h1)[r]?.getD (0,0,0))∘(rk (lvs sp) h0 h1).idxOf) k=k:=fun k hk=>by
  show(rk (lvs sp) h0 h1)[(rk (lvs sp) h0 h1).idxOf k]?.getD (0,0,0)=k
  rw[bJ' (h.mem hk)]
  rfl
 exact(cr this).trans (List.map_id _)
theorem vM' {F:List K3} {r t:Nat} {k:K3} {c:Bool} (hk:F[r]?=some k) (h:stp (gs' l0 h0 l1 h1 sp F) r c=some t):∃k',F[t]?=some k'/\lb l0 h0 l1 h1 sp k (if c then 1 else 0)=some k':=by
 unfold stp gs' at h
 rw[au,hk]at h
 have key:∀o:Option K3,ixF F o=some t->∃k',F[t]?=some k'/\o=some k':=fun o ho=>by
  cases o with
  |none=>cases ho
  |some k'=>
   have ho:(if k'∈F then some (F.idxOf k')else none)=some t:=ho
   by_cases hin:k'∈F
   .rw[if_pos hin]at ho
    cases ho
    exact⟨k',bJ' hin,rfl⟩
   .rw[if_neg hin]at ho
    cases ho
 cases c with
 |false=>exact key _ h
 |true=>exact key _ h
theorem vN' {k k':K3} (h:lb l0 h0 l1 h1 sp k k.1=some k'):k'.1=k.1/\k'.2.1=k.2.1+1:=by
 unfold lb at h
 split at h
 .cases h
 .rw[if_pos rfl]at h
  by_cases z:k.2.1+1<=(if k.1=1 then h1 else h0)
  .rw[if_pos z]at h
   cases h
   exact⟨rfl,rfl⟩
  .rw[if_neg z]at h
   cases h
theorem pb' {F:List K3} (hF:∀k∈F,k.1<2):∀{m r t:Nat} {k:K3},F[r]?=some k->wk (gs' l0 h0 l1 h1 sp F) (some r) (aC m (decide (k.1=1)))=some t->∃k',F[t]?=some k'/\k'.1=k.1/\k'.2.1=k.2.1+m
 |0,r,t,k,hk,h=>by cases h;exact⟨k,hk,rfl,rfl⟩
 |m+1,r,t,k,hk,h=>by
  have h:wk (gs' l0 h0 l1 h1 sp F) (stp (gs' l0 h0 l1 h1 sp F) r (decide (k.1=1))) (aC m (decide (k.1=1)))=some t:=h
  cases e:stp (gs' l0 h0 l1 h1 sp F) r (decide (k.1=1))with
  |none=>rw[e,ls']at h;cases h
  |some r'=>
   rw[e]at h
   obtain⟨k1,hk1,el⟩:=vM' hk e
   have h2:=hF k (av hk)
   rw[show(if decide (k.1=1)=true then 1 else 0)=k.1 by by_cases z:k.1=1<;>simp[z]<;>omega]at el
   obtain⟨e1,e2⟩:=vN' el
   rw[<- e1]at h
   obtain⟨k',a,b,c⟩:=pb' hF hk1 h
   exact⟨k',a,b.trans e1,by omega⟩
theorem pc' {F:List K3}:OkM (gs' l0 h0 l1 h1 sp F):=by
 intro r hr
 obtain⟨k,hk,rfl⟩:=az.mp hr
 have hl:(gs' l0 h0 l1 h1 sp F).length=F.length:=by unfold gs';rw[af]
 have key:∀o:Option K3,∀x,ixF F o=some x->x<(gs' l0 h0 l1 h1 sp F).length:=fun o x ho=>by
  cases o with
  |none=>cases ho
  |some k'=>
   have ho:(if k'∈F then some (F.idxOf k')else none)=some x:=ho
   by_cases hin:k'∈F
   .rw[if_pos hin]at ho
    cases ho
    rw[hl]
    exact bY hin
   .rw[if_neg hin]at ho
    cases ho
 exact⟨key _,key _⟩
end
theorem vO' {H:Hp} {v w:V} {k:K3} {n:Nat} (h1:d5' H v k) (h2:d5' H w k):Eqv H (n+1) v w:=by
 obtain⟨p,rfl,hp⟩:=h1
 obtain⟨p',rfl,hp'⟩:=h2
 refine .inr ⟨p,p',_,_,rfl,rfl,.inr ⟨hp,hp'⟩,by simp[sizeLine],rfl,fun i x y e1 e2=>?_⟩
 cases e1.symm.trans e2
 match i,e1 with
 |0,e1=>cases e1;exact Eqv.int
 |1,e1=>cases e1;exact Eqv.int
 |2,e1=>cases e1;exact Eqv.int
 |i+3,e1=>cases e1
theorem lV' {H:Hp} {a b:Addr} {xs ys:List V} {ks:List K3} (h1:H a=some (.lst xs)) (h2:H b=some (.lst ys)) (a1:bO' (d5' H) xs ks) (a2:bO' (d5' H) ys ks) (hz:ks.length<=500):Eqv H 2 (.ref a) (.ref b):=by
 refine .inr ⟨a,b,xs,ys,rfl,rfl,.inl ⟨h1,h2⟩,by rw[a1.len];exact bK (ap' (by omega)),a1.len.trans a2.len.symm,fun i x y e1 e2=>?_⟩
 obtain⟨k,hk,hx⟩:=a1.getL e1
 obtain⟨k',hk',hy⟩:=a2.getL e2
 cases hk.symm.trans hk'
 exact vO' hx hy
theorem ry' {H:Hp}:∀{vs ws:List V} {M:List Rm},bv' H vs M->bv' H ws M->∀(i:Nat) x y,vs[i]?=some x->ws[i]?=some y->Eqv H 1 x y:=by
 intro vs ws M h1 h2 i x y hx hy
 have hi:i<M.length:=by rw[<- h1.len];exact ak' hx
 obtain⟨p,e1,hp⟩:=h1.get (ac hi)
 obtain⟨p',e2,hp'⟩:=h2.get (ac hi)
 cases hx.symm.trans e1
 cases hy.symm.trans e2
 refine .inr ⟨p,p',_,_,rfl,rfl,.inr ⟨hp,hp'⟩,by show 2<=sizeLine;decide,rfl,fun j u v hu hv=>?_⟩
 cases hu.symm.trans hv
 have ho:∀o:Option Nat,Eqv H 0 (oV o) (oV o):=fun o=>by cases o<;>exact⟨rfl,rfl⟩
 match j,hu with
 |0,hu=>cases hu;exact ho _
 |1,hu=>cases hu;exact ho _
 |j+2,hu=>cases hu
theorem vP' {H:Hp} {a b:Addr} {M:List Rm} (h1:IsM H a M) (h2:IsM H b M) (hM:M.length<=500):Eqv H 2 (.ref a) (.ref b):=by
 obtain⟨vs,e1,r1⟩:=h1
 obtain⟨ws,e2,r2⟩:=h2
 exact .inr ⟨a,b,vs,ws,rfl,rfl,.inr ⟨e1,e2⟩,by rw[r1.len];exact bK (ap' (by omega)),r1.len.trans r2.len.symm,ry' r1 r2⟩
theorem rz' {K:W.Frag} {H:Hp} {Q:VK} {x b:Bool} (q:Q (.bl (!decide (V.bl x=.bl b))) H):bu' K .IsNot (.bl x) (.bl b) H Q:=⟨b,rfl,rfl,q⟩
def itn (M:List Rm):Nat->List Nat->List Nat
 |0,rs=>rs
 |n+1,rs=>itn M n (lst M rs)
theorem hC' {M:List Rm}:∀{n:Nat} {rs:List Nat},(itn M n rs).Sublist rs
 |0,rs=>List.Sublist.refl _
 |n+1,rs=>(hC' (n:=n) (rs:=lst M rs)).trans List.filter_sublist
theorem lW' {M:List Rm} {S:List Nat} (h:Sus M S):∀{n:Nat} {rs:List Nat},(∀r∈S,r∈rs)->∀r∈S,r∈itn M n rs
 |0,rs,k=>k
 |n+1,rs,k=>lW' h (n:=n) (fq' h k)
theorem lX' {M:List Rm} {n:Nat} (hf:lst M (itn M n (aF M.length))=itn M n (aF M.length)):Rs M (itn M n (aF M.length)):=
 ⟨List.Pairwise.sublist hC' List.pairwise_lt_range,fun r hr=>aJ.mp (hC'.subset hr),hf,fun S hS r hr=>lW' hS (fun r hr=>aJ.mpr (hS r hr).1) r hr⟩
theorem Ae' {rs:List Nat} (h:Rs (MxA 1 1 2 2 (some 1)) rs):prt (MxA 1 1 2 2 (some 1)) rs=[]:=by
 rw[h.uniq (lX' (n:=8) (by decide +kernel))]
 decide +kernel
theorem Af' {rs:List Nat} (h:Rs (MxA 1 1 1 1 (some 1)) rs):rks (some 1) 1 1 rs=[(0,1,0),(1,1,1)]:=by
 rw[h.uniq (lX' (n:=8) (by decide +kernel))]
 decide +kernel
def lY' (K:W.Frag):Sp:=fun vs H Q _=>∃(a:Addr) (ns:List Int),vs=[.ref a]/\SqL K H a (ns.map V.int)/\ns.length<=63/\∀H',Q (.bl true) H'
structure FsLaw (C:Rc):Prop where
 box:C.fs "_law_box"=some (lr' C.K)
 bounds:C.fs "_law_bounds"=some K04.bP'
 due:C.fs "_law_due"=some jf'
 rof:C.fs "rooms_of"=some jg'
 mof:C.fs "machine_of"=some eX'
 same:C.fs "_law_same"=some (cx' 2)
 ism:C.fs "is_machine"=some CK.je'
 walk:C.fs "walk"=some eQ'
theorem n7' {C:Rc} (hN:C.N.length=12) (F:FsLaw C):∀vs H Q E,lY' C.K vs H Q E->tSs C nV' { nx:=fun _ H'=>Q .non H',rt:=Q } (L2.aQ' C.N vs) H:=by
 intro vs H Q E h
 obtain⟨a,ns,rfl,hs,h63,q⟩:=h
 rw[as' hN]
 unfold nV'
 symm
 refine dg' hs ?_
 rw[af]
 symm
 obtain⟨N,eN,hN1,hN2⟩:∃N:Int,N=1+(if(ns.length:Int)<4 then(ns.length:Int)else 4)/\1<=N/\N<=5:=by
  refine⟨_,rfl,?_,?_⟩<;>split<;>omega
 rw[<- eN]
 refine nq' (by omega) (by omega) (li' (fun i σ H'=>(∃x1 x2 x3 x4 x5 x6 x7 x8 x9 x10 x11,σ=[some (.ref a),x1,x2,x3,x4,x5,x6,x7,x8,x9,x10,x11])/\SqL C.K H' a (ns.map V.int)) ⟨⟨_,_,_,_,_,_,_,_,_,_,_,rfl⟩,hs⟩ ?_ ?_)
 .rintro i σ H0 hi ⟨⟨x1,x2,x3,x4,x5,x6,x7,x8,x9,x10,x11,rfl⟩,hs0⟩
  have hi:i<5:=by omega
  symm
  refine ao' F.box ?_
  symm
  refine⟨a,ns,_,rfl,hs0,by omega,by omega,fun b hb=>?_⟩
  have hs1:=(af' hb (fn' b 0)).seq hs0
  have hb1:upd H0 b (fn' b 0) b=some (fn' b 0):=aa'
  generalize upd H0 b (fn' b 0)=H1 at hs1 hb1 ⊢
  symm
  refine ao' F.bounds ?_
  symm
  refine⟨b,0,rfl,hb1,by omega,fun p l0 h0 l1 h1 sp H2 g2 hB a0 b0 a1 b1=>?_⟩
  have hs2:=g2.seq hs1
  symm
  refine ao' F.due ?_
  symm
  refine⟨p,l0,h0,l1,h1,sp,rfl,hB,by omega,by omega,fun pd l m xs G H3 s3 hpd hl hA hM hL=>?_⟩
  have hs3:=s3.seq hs2
  have hB3:=hB.mono (ag' s3)
  have hGl:G.length<=300:=by
   have:=hL.sub.length_le
   have:=(ew' hB.bs hB.b0 hB.b1 (h0:=h0) (h1:=h1)).1
   omega
  have hDl:(gs' l0 h0 l1 h1 sp G).length=G.length:=by unfold gs';rw[af]
  have hG2:∀k∈G,k.1<2:=fun k hk=>(eb'.mp (hL.mem hk)).1
  refine g5' (SqT.of hpd) ?_
  symm
  refine nq' (by decide) (by decide) (li' (fun j σ H'=>(∃y6 y7,σ=[some (.ref a),some (.int (0+i)),some (.ref b),some (.ref p),some (.ref l),some (.ref m),y6,y7,x8,x9,x10,x11])/\aw' H3 H') ⟨⟨_,_,rfl⟩,aw'.refl _⟩ ?_ ?_)
  .rintro j σ H4 hj ⟨⟨y6,y7,rfl⟩,s4⟩
   symm
   refine ao' F.rof ?_
   symm
   refine⟨p,l0,h0,l1,h1,sp,rfl,hB3.mono (ag' s4),fun f ys rs H5 s5 hf0 hf hR hAf=>?_⟩
   rw[(pa' (by omega) (by omega) hL hR).1]at hAf
   have s35:=s4.trans s5
   have f3:=s4.free hf0
   symm
   refine ao' F.same ?_
   symm
   refine⟨.ref f,.ref l,rfl,lV' hf (s35 _ _ hl) hAf (bi' s35 hA) (by omega),fun H6 s6=>?_⟩
   symm
   refine ao' F.same ?_
   symm
   refine ao' F.mof ?_
   symm
   have s36:=s35.trans s6
   refine⟨p,l0,h0,l1,h1,sp,rfl,hB3.mono (ag' s36),fun m2 rs2 H7 s7 hM7 hR2=>?_⟩
   rw[(pa' (by omega) (by omega) hL hR2).2]at hM7
   have s37:=s36.trans s7
   symm
   refine⟨.ref m2,.ref m,rfl,vP' hM7 (hM.mono (ag' s37)) (by omega),fun H8 s8=>?_⟩
   have hf8:=s8 _ _ (s7 _ _ (s6 _ _ hf))
   have s38:=s37.trans s8
   symm
   refine⟨tyL hf8 rfl,u9' hf8 ?_⟩
   have s39:aw' H3 (upd H8 f (.lst ys.reverse)):=gk' s38 f3
   have hf9:upd H8 f (.lst ys.reverse) f=some (.lst ys.reverse):=aa'
   generalize upd H8 f (.lst ys.reverse)=H9 at s39 hf9 ⊢
   symm
   refine⟨tyL hf9 rfl,?_⟩
   refine⟨by decide,fun pt hpt=>?_⟩
   obtain⟨s10,e10⟩:=snw hpt (.tup [.int 0,.int 9,.int 9])
   have hf10:=s10 _ _ hf9
   have s310:=s39.trans s10
   generalize upd H9 pt _=H10 at s10 e10 hf10 s310 ⊢
   refine oS' hf10 (by rw[List.length_reverse,hAf.len];exact ap' (by omega)) ?_
   symm
   exact⟨⟨_,_,rfl⟩,gk' s310 f3⟩
  .rintro σ H4 ⟨⟨y6,y7,rfl⟩,s4⟩
   symm
   refine ao' F.ism ?_
   symm
   refine⟨m,_,rfl,hM.mono (ag' s4),pc',by omega,fun H5 s5=>?_⟩
   symm
   refine rz' ?_
   symm
   have s35:=s4.trans s5
   refine if' (SqL.of (s35 _ _ hl)) (yn' (xs:=xs) (fun r σ H'=>(∃z8 z9 z10 z11,σ=[some (.ref a),some (.int (0+i)),some (.ref b),some (.ref p),some (.ref l),some (.ref m),y6,y7,z8,z9,z10,z11])/\aw' H3 H') ⟨⟨_,_,_,_,rfl⟩,s35⟩ (fun r σ H' _ pv=>SqL.of (pv.2 _ _ hl)) ?_ ?_)
   .rintro r x σ H6 pe hx hpe ⟨⟨z8,z9,z10,z11,rfl⟩,s6⟩
    obtain⟨k,hk,pk,rfl,hpk⟩:=hA.getL hx
    have hr:=ak' hk
    have hk2:=hG2 k (av hk)
    have hk3:=(eb'.mp (hL.mem (av hk))).2.2.1
    have hb8:(if k.1=1 then h1 else h0)<=8:=by have:=hB.b0;have:=hB.b1;split<;>omega
    refine d1' (SqT.of aa') ?_
    have s7:=s6.trans (af' hpe (.tup [.int r,.ref pk]))
    generalize upd H6 pe (.tup [.int r,.ref pk])=H7 at s7 ⊢
    symm
    refine aL' (SqT.of (s7 _ _ hB3.at')) (v:=nV h0) rfl ?_
    symm
    refine aL' (SqT.of (s7 _ _ hB3.at')) (v:=nV h1) rfl ?_
    symm
    refine⟨by decide,fun p8 hp8=>?_⟩
    obtain⟨s8,e8⟩:=snw hp8 (.lst [nV h0,nV h1])
    have s78:=s7.trans s8
    generalize upd H7 p8 _=H8 at s8 e8 s78 ⊢
    refine aL' (SqT.of (s78 _ _ hpk)) (v:=nV k.1) rfl ?_
    simp only[nV]
    symm
    refine a7' (SqL.of e8) (at2 hk2) ?_
    rw[show(if k.1=1 then nV h1 else nV h0)=V.int ((if k.1=1 then h1 else h0:Nat):Int) by split<;>rfl]
    symm
    refine aL' (SqT.of (s78 _ _ hpk)) (v:=nV k.2.1) rfl ?_
    simp only[nV]
    symm
    refine nq' (by omega) (by omega) (li' (fun u σ H'=>(∃z10 z11,σ=[some (.ref a),some (.int (0+i)),some (.ref b),some (.ref p),some (.ref l),some (.ref m),y6,y7,some (.int r),some (.ref pk),z10,z11])/\aw' H3 H') ⟨⟨_,_,rfl⟩,s78⟩ ?_ ?_)
    .rintro u σ H9 hu ⟨⟨z10,z11,rfl⟩,s9⟩
     have hu:u<=8:=by omega
     symm
     refine ao' F.walk ?_
     symm
     refine aL' (SqT.of (s9 _ _ hpk)) (v:=nV k.1) rfl ?_
     simp only[nV]
     symm
     refine qK' (l:=[false,true]) (c:=decide (k.1=1)) (by decide) (by rcases(by omega:k.1=0\/k.1=1)with z|z<;>rw[z]<;>rfl) ?_
     symm
     rw[show(0:Int)+(u:Int)=(u:Int) by omega]
     refine⟨by omega,by omega,by show 1*_<=_;omega,?_⟩
     rw[uV']
     have erep:(aC u [decide (k.1=1)]).flatten=aC u (decide (k.1=1)):=by
      generalize u=u
      induction u with
      |zero=>rfl
      |succ k ih=>rw[bC,bD,ih];rfl
     rw[erep]
     symm
     refine⟨m,_,r,_,rfl,hM.mono (ag' s9),pc',by rw[hDl];exact hr,?_⟩
     cases ew:wk (gs' l0 h0 l1 h1 sp G) (some r) (aC u (decide (k.1=1)))with
     |none=>
      simp only[oV]
      symm
      exact⟨⟨_,_,rfl⟩,s9⟩
     |some t=>
      obtain⟨k',hk',e1,e2⟩:=pb' hG2 hk ew
      obtain⟨x',hx',pk',rfl,hpk'⟩:=hA.get hk'
      simp only[oV]
      symm
      refine a7' (SqL.of (s9 _ _ hl)) (dD' hx') ?_
      symm
      refine qN' (SqT.of (s9 _ _ hpk')) (by simp[HT.sIx]) fun p10 hp10=>?_
      rw[show oj' [nV k'.1,nV k'.2.1,nV k'.2.2] none (some 2)=[nV k'.1,nV k'.2.1] from rfl]
      obtain⟨s10,e10⟩:=snw hp10 (.tup [nV k'.1,nV k'.2.1])
      have s310:=s9.trans s10
      generalize upd H9 p10 _=H10 at s10 e10 s310 ⊢
      symm
      refine aL' (SqT.of (s310 _ _ hpk)) (v:=nV k.1) rfl ?_
      symm
      refine aL' (SqT.of (s310 _ _ hpk)) (v:=nV k.2.1) rfl ?_
      simp only[nV]
      symm
      refine⟨by decide,fun p11 hp11=>?_⟩
      obtain⟨s11,e11⟩:=snw hp11 (.tup [.int k.1,.int ((k.2.1:Int)+(u:Int))])
      have s311:=s310.trans s11
      have e1011:=s11 _ _ e10
      generalize upd H10 p11 _=H11 at s11 e11 s311 e1011 ⊢
      rw[e1,e2]at e1011
      refine u8' (n:=1) (.inr ⟨p10,p11,_,_,rfl,rfl,.inr ⟨e1011,e11⟩,rfl,fun i x y ex ey=>?_⟩) (by decide) ?_
      .match i,ex,ey with
       |0,ex,ey=>cases ex;cases ey;exact⟨rfl,rfl⟩
       |1,ex,ey=>
        cases ex;cases ey
        exact⟨by simp only[nV];congr 1,rfl⟩
       |i+2,ex,ey=>cases ex
      .symm
       exact⟨⟨_,_,rfl⟩,s311⟩
    .rintro σ H9 ⟨⟨z10,z11,rfl⟩,s9⟩
     exact⟨⟨_,_,_,_,rfl⟩,s9⟩
   .rintro σ H6 ⟨⟨z8,z9,z10,z11,rfl⟩,s6⟩
    exact⟨⟨_,_,_,_,_,_,_,_,_,_,_,rfl⟩,s6.seq hs3⟩
 .rintro σ H0 ⟨⟨x1,x2,x3,x4,x5,x6,x7,x8,x9,x10,x11,rfl⟩,hs0⟩
  symm
  refine ao' F.mof ?_
  symm
  refine⟨by decide,fun pb hpb=>?_⟩
  obtain⟨s1,e1⟩:=snw hpb (.tup [.int 1,.int 1,.int 2,.int 2,.int 1])
  generalize upd H0 pb _=H1 at s1 e1 ⊢
  refine⟨pb,1,1,2,2,some 1,rfl,⟨e1,by decide,by decide,fun s z=>by cases z;decide⟩,fun m rs H2 s2 hM hR=>?_⟩
  rw[Ae' hR]at hM
  obtain⟨vs,hm,hv⟩:=hM
  have hv:vs=[]:=List.eq_nil_of_length_eq_zero hv.len
  subst hv
  symm
  refine⟨by decide,fun pe hpe=>?_⟩
  obtain⟨s3,e3⟩:=snw hpe (.tup [])
  have hm3:=s3 _ _ hm
  generalize upd H2 pe _=H3 at s3 e3 hm3 ⊢
  refine oR' (n:=1) (.inr ⟨m,pe,[],[],rfl,rfl,.inr ⟨hm3,e3⟩,rfl,fun i x y ex ey=>by cases ex⟩) (by decide) ?_
  symm
  refine ao' F.rof ?_
  symm
  refine⟨by decide,fun pc hpc=>?_⟩
  obtain⟨s4,e4⟩:=snw hpc (.tup [.int 1,.int 1,.int 1,.int 1,.int 1])
  generalize upd H3 pc _=H4 at s4 e4 ⊢
  refine⟨pc,1,1,1,1,some 1,rfl,⟨e4,by decide,by decide,fun s z=>by cases z;decide⟩,fun f ys rs H5 s5 _ hf hR hAf=>?_⟩
  rw[Af' hR]at hAf
  symm
  refine⟨by decide,fun q1 hq1=>?_⟩
  symm
  refine⟨by decide,fun q2 hq2=>?_⟩
  symm
  refine⟨by decide,fun q3 hq3=>?_⟩
  obtain⟨t1,k1⟩:=snw hq1 (.tup [.int 0,.int 1,.int 0])
  generalize upd H5 q1 _=H6 at t1 k1 hq2 hq3 ⊢
  obtain⟨t2,k2⟩:=snw hq2 (.tup [.int 1,.int 1,.int 1])
  generalize upd H6 q2 _=H7 at t2 k2 hq3 ⊢
  obtain⟨t3,k3⟩:=snw hq3 (.lst [.ref q1,.ref q2])
  generalize upd H7 q3 _=H8 at t3 k3 ⊢
  have t:=t1.trans (t2.trans t3)
  have A2:bO' (d5' H8) [.ref q1,.ref q2] [(0,1,0),(1,1,1)]:=⟨⟨q1,rfl,t3 _ _ (t2 _ _ k1)⟩,⟨q2,rfl,t3 _ _ k2⟩,trivial⟩
  refine oR' (lV' (t _ _ hf) k3 (bi' t hAf) A2 (by decide)).dq (by decide) ?_
  exact q _
end K06
namespace K06
open PySem PySem.Spec PyProof.Rows L2 R3 LW CK TM BD BE TE
def top (i:Nat):Stmt:=PySem.Challenge.pw_runbound_k06_machines_of_bounds.main.body.getD i (.Pass ⟨0,0,0,0⟩)
theorem rA':mSs b1' bm' (ab' (top 1)) bk' (am' (top 1))=true:=by decide +kernel
theorem n8':FnScope b1' ["thing"] (ab' (top 1)):=⟨rfl,rfl,rfl,by decide +kernel,rfl,by decide +kernel,by decide +kernel⟩
theorem n9':mSs b2' bn' (ab' (top 2)) bl' (am' (top 2))=true:=by decide +kernel
theorem lZ':FnScope b2' ["thing","low","high"] (ab' (top 2)):=⟨rfl,rfl,rfl,by decide +kernel,rfl,by decide +kernel,by decide +kernel⟩
theorem vQ':mSs cF' b3' (ab' (top 3)) bY' (am' (top 3))=true:=by decide +kernel
theorem rB':FnScope cF' ["thing"] (ab' (top 3)):=⟨rfl,rfl,rfl,by decide +kernel,rfl,by decide +kernel,by decide +kernel⟩
theorem vR':mSs cG' b4' (ab' (top 5)) bZ' (am' (top 5))=true:=by decide +kernel
theorem rC':FnScope cG' ["thing","many"] (ab' (top 5)):=⟨rfl,rfl,rfl,by decide +kernel,rfl,by decide +kernel,by decide +kernel⟩
theorem vS':mSs cH' b5' (ab' (top 6)) b0' (am' (top 6))=true:=by decide +kernel
theorem rD':FnScope cH' ["thing","many"] (ab' (top 6)):=⟨rfl,rfl,rfl,by decide +kernel,rfl,by decide +kernel,by decide +kernel⟩
theorem yG':mSs bH' bg' (ab' (top 7)) bf' (am' (top 7))=true:=by decide +kernel
theorem vT':FnScope bH' ["thing"] (ab' (top 7)):=⟨rfl,rfl,rfl,by decide +kernel,rfl,by decide +kernel,by decide +kernel⟩
theorem vU':mSs fr' dv' (ab' (top 8)) dt' (am' (top 8))=true:=by decide +kernel
theorem rE':FnScope fr' ["machine","room","row"] (ab' (top 8)):=⟨rfl,rfl,rfl,by decide +kernel,rfl,by decide +kernel,by decide +kernel⟩
theorem vV':mSs cI' b6' (ab' (top 9)) bV' (am' (top 9))=true:=by decide +kernel
theorem rF':FnScope cI' ["machine","rooms"] (ab' (top 9)):=⟨rfl,rfl,rfl,by decide +kernel,rfl,by decide +kernel,by decide +kernel⟩
theorem vW':mSs cJ' b7' (ab' (top 10)) bW' (am' (top 10))=true:=by decide +kernel
theorem rG':FnScope cJ' ["machine","numbers"] (ab' (top 10)):=⟨rfl,rfl,rfl,by decide +kernel,rfl,by decide +kernel,by decide +kernel⟩
theorem vX':mSs cK' b8' (ab' (top 11)) bX' (am' (top 11))=true:=by decide +kernel
theorem rH':FnScope cK' ["machine"] (ab' (top 11)):=⟨rfl,rfl,rfl,by decide +kernel,rfl,by decide +kernel,by decide +kernel⟩
theorem yH':mSs a0' aJ' (ab' (top 13)) aI' (am' (top 13))=true:=by decide +kernel
theorem vY':FnScope a0' ["bounds"] (ab' (top 13)):=⟨rfl,rfl,rfl,by decide +kernel,rfl,by decide +kernel,by decide +kernel⟩
theorem Ag':mSs bt' a9' (ab' (top 14)) a8' (am' (top 14))=true:=by decide +kernel
theorem yI':FnScope bt' ["bounds","room","bit"] (ab' (top 14)):=⟨rfl,rfl,rfl,by decide +kernel,rfl,by decide +kernel,by decide +kernel⟩
theorem yJ':mSs aU' aA' (ab' (top 15)) az' (am' (top 15))=true:=by decide +kernel
theorem vZ':FnScope aU' ["bounds","rooms"] (ab' (top 15)):=⟨rfl,rfl,rfl,by decide +kernel,rfl,by decide +kernel,by decide +kernel⟩
theorem yK':mSs cl' bC' (ab' (top 16)) bD' (am' (top 16))=true:=by decide +kernel
theorem v0':FnScope cl' ["bounds"] (ab' (top 16)):=⟨rfl,rfl,rfl,by decide +kernel,rfl,by decide +kernel,by decide +kernel⟩
theorem yL':mSs bI' bh' (ab' (top 17)) be' (am' (top 17))=true:=by decide +kernel
theorem v1':FnScope bI' ["bounds"] (ab' (top 17)):=⟨rfl,rfl,rfl,by decide +kernel,rfl,by decide +kernel,by decide +kernel⟩
theorem v2':mSs c3' cm' (ab' (top 19)) c0' (am' (top 19))=true:=by decide +kernel
theorem rI':FnScope c3' ["_law_script","_law_k"] (ab' (top 19)):=⟨rfl,rfl,rfl,by decide +kernel,rfl,by decide +kernel,by decide +kernel⟩
theorem yM':mSs nR' lJ' (ab' (top 20)) nI' (am' (top 20))=true:=by decide +kernel
theorem v3':FnScope nR' ["_law_script","_law_k"] (ab' (top 20)):=⟨rfl,rfl,rfl,by decide +kernel,rfl,by decide +kernel,by decide +kernel⟩
theorem v4':mSs lK' iq' (ab' (top 21)) ik' (am' (top 21))=true:=by decide +kernel
theorem rJ':FnScope lK' ["_law_box_here","_law_many"] (ab' (top 21)):=⟨rfl,rfl,rfl,by decide +kernel,rfl,by decide +kernel,by decide +kernel⟩
theorem oa':mSs ft' dw' (ab' (top 22)) K04.du' (am' (top 22))=true:=by decide +kernel
theorem l0':FnScope ft' ["_law_box_here"] (ab' (top 22)):=⟨rfl,rfl,rfl,by decide +kernel,rfl,by decide +kernel,by decide +kernel⟩
theorem yN':mSs fu' dx' (ab' (top 23)) dy' (am' (top 23))=true:=by decide +kernel
theorem v5':FnScope fu' ["_law_bounds_here","_law_state","_law_bit"] (ab' (top 23)):=⟨rfl,rfl,rfl,by decide +kernel,rfl,by decide +kernel,by decide +kernel⟩
theorem yO':mSs hv' fv' (ab' (top 24)) fw' (am' (top 24))=true:=by decide +kernel
theorem v6':FnScope hv' ["_law_bounds_here","_law_left","_law_state"] (ab' (top 24)):=⟨rfl,rfl,rfl,by decide +kernel,rfl,by decide +kernel,by decide +kernel⟩
theorem yP':mSs ea' c4' (ab' (top 25)) c5' (am' (top 25))=true:=by decide +kernel
theorem v7':FnScope ea' ["_law_bounds_here"] (ab' (top 25)):=⟨rfl,rfl,rfl,by decide +kernel,rfl,by decide +kernel,by decide +kernel⟩
theorem pd':mSs eU' c6' (ab' (top 26)) gi' (am' (top 26))=true:=by decide +kernel
theorem l3':FnScope eU' ["_law_found","_law_due_here"] (ab' (top 26)):=⟨rfl,rfl,rfl,by decide +kernel,rfl,by decide +kernel,by decide +kernel⟩
theorem yQ':mSs rl' nS' (ab' (top 27)) nT' (am' (top 27))=true:=by decide +kernel
theorem v8':FnScope rl' ["_law_bounds_here"] (ab' (top 27)):=⟨rfl,rfl,rfl,by decide +kernel,rfl,by decide +kernel,by decide +kernel⟩
theorem yR':mSs nU' lL' (ab' (top 28)) nV' (am' (top 28))=true:=by decide +kernel
theorem v9':FnScope nU' ["_law_script"] (ab' (top 28)):=⟨rfl,rfl,rfl,by decide +kernel,rfl,by decide +kernel,by decide +kernel⟩
set_option hygiene false in
local macro_rules | `(tactic| walk_at "o") => `(tactic| (intro vs H Q E h; repeat (first | (obtain ⟨rfl, _⟩ := h; rfl) | (obtain ⟨_, h⟩ := h))))
def FnD (K:W.Frag) (x:Str) (st:Stmt):Prop:=∃(f:Addr) (fd:FuncData),W.nsIn K mainGlobals x=some (some (.ref f))/\Fun K x x st f fd
theorem aM' {K:W.Frag} {x:Str} {st:Stmt} {f:Addr} {oc:Value} {od an:Option Addr} {osl:Array (Option Value)} {kV doc pm cdv ct:Value} (a:W.nsIn K mainGlobals x=some (some (.ref f))) (l:K.lookup f=some ⟨oc,od,.func (W.fnOf x x (cy' st) (am' st) (ab' st) .none kV doc pm an cdv ct),osl⟩) (c:W.codeIn K cdv x=true) (k:W.keepIn K (.ref f)=true):FnD K x st:=⟨f,_,a,sB' l c k⟩
theorem wa' {l:W.OpenLaw} {w:World} {K:W.Frag} {h:Heap} {mg:Str->Option Value} {fa:Addr} (X:K.In h) (G:h.Ns mainGlobals mg) (hfa:mg "law"=some (.ref fa))
  (p1:FnD K "is_number" (top 1))
  (p2:FnD K "is_within" (top 2))
  (p3:FnD K "is_pair" (top 3))
  (p4:FnD K "is_lead" (top 5))
  (p5:FnD K "is_room" (top 6))
  (p6:FnD K "is_machine" (top 7))
  (p7:FnD K "walk" (top 8))
  (p8:FnD K "lasting" (top 9))
  (p9:FnD K "part_of" (top 10))
  (p10:FnD K "trimmed" (top 11))
  (p11:FnD K "rooms_in_bounds" (top 13))
  (p12:FnD K "room_behind" (top 14))
  (p13:FnD K "machine_in_bounds" (top 15))
  (p14:FnD K "rooms_of" (top 16))
  (p15:FnD K "machine_of" (top 17))
  (p16:FnD K "_law_cell_at" (top 19))
  (p17:FnD K "_law_box" (top 20))
  (p18:FnD K "_law_take" (top 21))
  (p19:FnD K "_law_bounds" (top 22))
  (p20:FnD K "_law_behind" (top 23))
  (p21:FnD K "_law_leads" (top 24))
  (p22:FnD K "_law_lasting" (top 25))
  (p23:FnD K "_law_same" (top 26))
  (p24:FnD K "_law_due" (top 27))
  (p25:FnD K "law" (top 28))
  (z1:W.nsIn K mainGlobals "~"=some none)
  (z2:W.nsIn K mainGlobals "^"=some none)
  (z3:W.nsIn K mainGlobals "%"=some none)
  (z4:W.nsIn K mainGlobals "bool"=some none)
  (z5:W.nsIn K mainGlobals "int"=some none)
  (z6:W.nsIn K mainGlobals "isinstance"=some none)
  (z7:W.nsIn K mainGlobals "len"=some none)
  (z8:W.nsIn K mainGlobals "tuple"=some none)
  (z9:W.nsIn K mainGlobals "all"=some none)
  (z10:W.nsIn K mainGlobals "set"=some none)
  (z11:W.nsIn K mainGlobals "enumerate"=some none)
  (z12:W.nsIn K mainGlobals "list"=some none)
  (z13:W.nsIn K mainGlobals "range"=some none)
  (z14:W.nsIn K mainGlobals "abs"=some none)
  (z15:W.nsIn K mainGlobals "dict"=some none)
  (z16:W.nsIn K mainGlobals "str"=some none)
  (z17:W.nsIn K mainGlobals "zip"=some none)
  (z18:W.nsIn K mainGlobals "sorted"=some none)
  (z19:W.nsIn K mainGlobals "min"=some none):
  ∃fd:FuncData,(∀(s:Shared) (v:Value),BindsTo s fd ⟨[v],[]⟩ [("_law_script",v)])/\∀base:Heap,K.In base->base.Ns mainGlobals mg->FnOk l.prog w K mg base CX0 60 fa fd ["_law_script"] (lY' K):=by
 obtain⟨f1,g1,a1,F1⟩:=p1
 obtain⟨f2,g2,a2,F2⟩:=p2
 obtain⟨f3,g3,a3,F3⟩:=p3
 obtain⟨f4,g4,a4,F4⟩:=p4
 obtain⟨f5,g5,a5,F5⟩:=p5
 obtain⟨f6,g6,a6,F6⟩:=p6
 obtain⟨f7,g7,a7,F7⟩:=p7
 obtain⟨f8,g8,a8,F8⟩:=p8
 obtain⟨f9,g9,a9,F9⟩:=p9
 obtain⟨f10,g10,a10,F10⟩:=p10
 obtain⟨f11,g11,a11,F11⟩:=p11
 obtain⟨f12,g12,a12,F12⟩:=p12
 obtain⟨f13,g13,a13,F13⟩:=p13
 obtain⟨f14,g14,a14,F14⟩:=p14
 obtain⟨f15,g15,a15,F15⟩:=p15
 obtain⟨f16,g16,a16,F16⟩:=p16
 obtain⟨f17,g17,a17,F17⟩:=p17
 obtain⟨f18,g18,a18,F18⟩:=p18
 obtain⟨f19,g19,a19,F19⟩:=p19
 obtain⟨f20,g20,a20,F20⟩:=p20
 obtain⟨f21,g21,a21,F21⟩:=p21
 obtain⟨f22,g22,a22,F22⟩:=p22
 obtain⟨f23,g23,a23,F23⟩:=p23
 obtain⟨f24,g24,a24,F24⟩:=p24
 obtain⟨f25,g25,a25,F25⟩:=p25
 obtain⟨oc23,od23,kV23,dc23,pm23,an23,cd23,ct23,sl23,rfl,l23,c23⟩:=F23.ex
 obtain⟨oc25,od25,kV25,dc25,pm25,an25,cd25,ct25,sl25,rfl,l25,c25⟩:=F25.ex
 have e:=hfa.symm.trans (W.mg_of X G a25)
 cases e
 have b1:=F1.binds (ps:=["thing"]) fun _ _ _ _ _ _ us hl=>l4' (P:=fun us=>bindArgs _ ({ pos:=us }:Args)=pure (bI _ us)) (fun _=>rfl) us hl
 have m1:=W.mg_of X G a1
 have b2:=F2.binds (ps:=["thing","low","high"]) fun _ _ _ _ _ _ us hl=>vk' (P:=fun us=>bindArgs _ ({ pos:=us }:Args)=pure (bI _ us)) (fun _ _ _=>rfl) us hl
 have m2:=W.mg_of X G a2
 have b3:=F3.binds (ps:=["thing"]) fun _ _ _ _ _ _ us hl=>l4' (P:=fun us=>bindArgs _ ({ pos:=us }:Args)=pure (bI _ us)) (fun _=>rfl) us hl
 have m3:=W.mg_of X G a3
 have b4:=F4.binds (ps:=["thing","many"]) fun _ _ _ _ _ _ us hl=>nu' (P:=fun us=>bindArgs _ ({ pos:=us }:Args)=pure (bI _ us)) (fun _ _=>rfl) us hl
 have m4:=W.mg_of X G a4
 have b5:=F5.binds (ps:=["thing","many"]) fun _ _ _ _ _ _ us hl=>nu' (P:=fun us=>bindArgs _ ({ pos:=us }:Args)=pure (bI _ us)) (fun _ _=>rfl) us hl
 have m5:=W.mg_of X G a5
 have b6:=F6.binds (ps:=["thing"]) fun _ _ _ _ _ _ us hl=>l4' (P:=fun us=>bindArgs _ ({ pos:=us }:Args)=pure (bI _ us)) (fun _=>rfl) us hl
 have m6:=W.mg_of X G a6
 have b7:=F7.binds (ps:=["machine","room","row"]) fun _ _ _ _ _ _ us hl=>vk' (P:=fun us=>bindArgs _ ({ pos:=us }:Args)=pure (bI _ us)) (fun _ _ _=>rfl) us hl
 have m7:=W.mg_of X G a7
 have b8:=F8.binds (ps:=["machine","rooms"]) fun _ _ _ _ _ _ us hl=>nu' (P:=fun us=>bindArgs _ ({ pos:=us }:Args)=pure (bI _ us)) (fun _ _=>rfl) us hl
 have m8:=W.mg_of X G a8
 have b9:=F9.binds (ps:=["machine","numbers"]) fun _ _ _ _ _ _ us hl=>nu' (P:=fun us=>bindArgs _ ({ pos:=us }:Args)=pure (bI _ us)) (fun _ _=>rfl) us hl
 have m9:=W.mg_of X G a9
 have b10:=F10.binds (ps:=["machine"]) fun _ _ _ _ _ _ us hl=>l4' (P:=fun us=>bindArgs _ ({ pos:=us }:Args)=pure (bI _ us)) (fun _=>rfl) us hl
 have m10:=W.mg_of X G a10
 have b11:=F11.binds (ps:=["bounds"]) fun _ _ _ _ _ _ us hl=>l4' (P:=fun us=>bindArgs _ ({ pos:=us }:Args)=pure (bI _ us)) (fun _=>rfl) us hl
 have m11:=W.mg_of X G a11
 have b12:=F12.binds (ps:=["bounds","room","bit"]) fun _ _ _ _ _ _ us hl=>vk' (P:=fun us=>bindArgs _ ({ pos:=us }:Args)=pure (bI _ us)) (fun _ _ _=>rfl) us hl
 have m12:=W.mg_of X G a12
 have b13:=F13.binds (ps:=["bounds","rooms"]) fun _ _ _ _ _ _ us hl=>nu' (P:=fun us=>bindArgs _ ({ pos:=us }:Args)=pure (bI _ us)) (fun _ _=>rfl) us hl
 have m13:=W.mg_of X G a13
 have b14:=F14.binds (ps:=["bounds"]) fun _ _ _ _ _ _ us hl=>l4' (P:=fun us=>bindArgs _ ({ pos:=us }:Args)=pure (bI _ us)) (fun _=>rfl) us hl
 have m14:=W.mg_of X G a14
 have b15:=F15.binds (ps:=["bounds"]) fun _ _ _ _ _ _ us hl=>l4' (P:=fun us=>bindArgs _ ({ pos:=us }:Args)=pure (bI _ us)) (fun _=>rfl) us hl
 have m15:=W.mg_of X G a15
 have b16:=F16.binds (ps:=["_law_script","_law_k"]) fun _ _ _ _ _ _ us hl=>nu' (P:=fun us=>bindArgs _ ({ pos:=us }:Args)=pure (bI _ us)) (fun _ _=>rfl) us hl
 have m16:=W.mg_of X G a16
 have b17:=F17.binds (ps:=["_law_script","_law_k"]) fun _ _ _ _ _ _ us hl=>nu' (P:=fun us=>bindArgs _ ({ pos:=us }:Args)=pure (bI _ us)) (fun _ _=>rfl) us hl
 have m17:=W.mg_of X G a17
 have b18:=F18.binds (ps:=["_law_box_here","_law_many"]) fun _ _ _ _ _ _ us hl=>nu' (P:=fun us=>bindArgs _ ({ pos:=us }:Args)=pure (bI _ us)) (fun _ _=>rfl) us hl
 have m18:=W.mg_of X G a18
 have b19:=F19.binds (ps:=["_law_box_here"]) fun _ _ _ _ _ _ us hl=>l4' (P:=fun us=>bindArgs _ ({ pos:=us }:Args)=pure (bI _ us)) (fun _=>rfl) us hl
 have m19:=W.mg_of X G a19
 have b20:=F20.binds (ps:=["_law_bounds_here","_law_state","_law_bit"]) fun _ _ _ _ _ _ us hl=>vk' (P:=fun us=>bindArgs _ ({ pos:=us }:Args)=pure (bI _ us)) (fun _ _ _=>rfl) us hl
 have m20:=W.mg_of X G a20
 have b21:=F21.binds (ps:=["_law_bounds_here","_law_left","_law_state"]) fun _ _ _ _ _ _ us hl=>vk' (P:=fun us=>bindArgs _ ({ pos:=us }:Args)=pure (bI _ us)) (fun _ _ _=>rfl) us hl
 have m21:=W.mg_of X G a21
 have b22:=F22.binds (ps:=["_law_bounds_here"]) fun _ _ _ _ _ _ us hl=>l4' (P:=fun us=>bindArgs _ ({ pos:=us }:Args)=pure (bI _ us)) (fun _=>rfl) us hl
 have m22:=W.mg_of X G a22
 have b23:=F23.binds (ps:=["_law_found","_law_due_here"]) fun _ _ _ _ _ _ us hl=>nu' (P:=fun us=>bindArgs _ ({ pos:=us }:Args)=pure (bI _ us)) (fun _ _=>rfl) us hl
 have m23:=W.mg_of X G a23
 have b24:=F24.binds (ps:=["_law_bounds_here"]) fun _ _ _ _ _ _ us hl=>l4' (P:=fun us=>bindArgs _ ({ pos:=us }:Args)=pure (bI _ us)) (fun _=>rfl) us hl
 have m24:=W.mg_of X G a24
 have m25:=W.mg_of X G a25
 have n1:=W.mg_none_of X G z1
 have n2:=W.mg_none_of X G z2
 have n3:=W.mg_none_of X G z3
 have n4:=W.mg_none_of X G z4
 have n5:=W.mg_none_of X G z5
 have n6:=W.mg_none_of X G z6
 have n7:=W.mg_none_of X G z7
 have n8:=W.mg_none_of X G z8
 have n9:=W.mg_none_of X G z9
 have n10:=W.mg_none_of X G z10
 have n11:=W.mg_none_of X G z11
 have n12:=W.mg_none_of X G z12
 have n13:=W.mg_none_of X G z13
 have n14:=W.mg_none_of X G z14
 have n15:=W.mg_none_of X G z15
 have n16:=W.mg_none_of X G z16
 have n17:=W.mg_none_of X G z17
 have n18:=W.mg_none_of X G z18
 have n19:=W.mg_none_of X G z19
 refine⟨W.fnOf "law" "law" (cy' (top 28)) (am' (top 28)) (ab' (top 28)) .none kV25 dc25 pm25 an25 cd25 ct25,fun s v=>.of_eq rfl,fun base _ _=>?_⟩
 have O1:=ar' (P:=l.prog) (w:=w) (mg:=mg) (base:=base) (k:=0) F1 { N:=b1',B:=bm',K:=K,fs:=aX' [] } n8' rfl bk' rA' (sp:=d9') (by walk_at "o") (aF' mN) (mC ⟨n4,(mC ⟨n5,(mC ⟨n6,mN⟩)⟩)⟩) ⟨n1,n2,n3⟩ (show tld bm'=false by decide +kernel) (show hat bm'=false by decide +kernel) rfl rfl (jd' rfl  )
 have O2:=ar' (P:=l.prog) (w:=w) (mg:=mg) (base:=base) (k:=1) F2 { N:=b2',B:=bn',K:=K,fs:=aX' [("is_number",d9')] } lZ' rfl bl' n9' (sp:=c2') (by walk_at "o") (aF' (mC ⟨⟨_,_,_,(O1).mono (by omega),m1,F1.kp,b1⟩,mN⟩)) mN ⟨n1,n2,n3⟩ (show tld bn'=false by decide +kernel) (show hat bn'=false by decide +kernel) rfl rfl (ht' rfl (show aX' _ "is_number"=some (d9') from ae') )
 have O3:=ar' (P:=l.prog) (w:=w) (mg:=mg) (base:=base) (k:=0) F3 { N:=cF',B:=b3',K:=K,fs:=aX' [] } rB' rfl bY' vQ' (sp:=go') (by walk_at "o") (aF' mN) (mC ⟨n6,(mC ⟨n7,(mC ⟨n8,mN⟩)⟩)⟩) ⟨n1,n2,n3⟩ (show tld b3'=false by decide +kernel) (show hat b3'=false by decide +kernel) rfl rfl (lG' rfl  )
 have O4:=ar' (P:=l.prog) (w:=w) (mg:=mg) (base:=base) (k:=2) F4 { N:=cG',B:=b4',K:=K,fs:=aX' [("is_within",c2')] } rC' rfl bZ' vR' (sp:=gp') (by walk_at "o") (aF' (mC ⟨⟨_,_,_,(O2).mono (by omega),m2,F2.kp,b2⟩,mN⟩)) mN ⟨n1,n2,n3⟩ (show tld b4'=false by decide +kernel) (show hat b4'=false by decide +kernel) rfl rfl (lH' rfl (show aX' _ "is_within"=some (c2') from ae') )
 have O5:=ar' (P:=l.prog) (w:=w) (mg:=mg) (base:=base) (k:=3) F5 { N:=cH',B:=b5',K:=K,fs:=aX' [("is_pair",go'),("is_lead",gp')] } rD' rfl b0' vS' (sp:=gq') (by walk_at "o") (aF' (mC ⟨⟨_,_,_,(O3).mono (by omega),m3,F3.kp,b3⟩,(mC ⟨⟨_,_,_,(O4).mono (by omega),m4,F4.kp,b4⟩,mN⟩)⟩)) mN ⟨n1,n2,n3⟩ (show tld b5'=false by decide +kernel) (show hat b5'=false by decide +kernel) rfl rfl (lI' rfl (show aX' _ "is_pair"=some (go') from ae') (show aX' _ "is_lead"=some (gp') from((ac' (by decide +kernel)).trans ae')) )
 have O6:=ar' (P:=l.prog) (w:=w) (mg:=mg) (base:=base) (k:=4) F6 { N:=bH',B:=bg',K:=K,fs:=aX' [("is_room",gq')] } vT' rfl bf' yG' (sp:=je') (by walk_at "o") (aF' (mC ⟨⟨_,_,_,(O5).mono (by omega),m5,F5.kp,b5⟩,mN⟩)) (mC ⟨n9,(mC ⟨n6,(mC ⟨n7,(mC ⟨n8,mN⟩)⟩)⟩)⟩) ⟨n1,n2,n3⟩ (show tld bg'=false by decide +kernel) (show hat bg'=false by decide +kernel) rfl rfl (nQ' rfl (show aX' _ "is_room"=some (gq') from ae') )
 have O7:=ar' (P:=l.prog) (w:=w) (mg:=mg) (base:=base) (k:=0) F7 { N:=fr',B:=dv',K:=K,fs:=aX' [] } rE' rfl dt' vU' (sp:=eQ') (by walk_at "o") (aF' mN) (mC ⟨n5,mN⟩) ⟨n1,n2,n3⟩ (show tld dv'=false by decide +kernel) (show hat dv'=false by decide +kernel) rfl rfl (lu' rfl  )
 have O8:=ar' (P:=l.prog) (w:=w) (mg:=mg) (base:=base) (k:=0) F8 { N:=cI',B:=b6',K:=K,fs:=aX' [] } rF' rfl bV' vV' (sp:=gl') (by walk_at "o") (aF' mN) (mC ⟨n10,mN⟩) ⟨n1,n2,n3⟩ (show tld b6'=false by decide +kernel) (show hat b6'=false by decide +kernel) rfl rfl (lv' rfl  )
 have O9:=ar' (P:=l.prog) (w:=w) (mg:=mg) (base:=base) (k:=0) F9 { N:=cJ',B:=b7',K:=K,fs:=aX' [] } rG' rfl bW' vW' (sp:=d7') (by walk_at "o") (aF' mN) (mC ⟨n11,(mC ⟨n8,mN⟩)⟩) ⟨n1,n2,n3⟩ (show tld b7'=false by decide +kernel) (show hat b7'=false by decide +kernel) rfl rfl (jb' rfl  )
 have O10:=ar' (P:=l.prog) (w:=w) (mg:=mg) (base:=base) (k:=1) F10 { N:=cK',B:=b8',K:=K,fs:=aX' [("lasting",gl'),("part_of",d7')] } rH' rfl bX' vX' (sp:=ck') (by walk_at "o") (aF' (mC ⟨⟨_,_,_,(O8).mono (by omega),m8,F8.kp,b8⟩,(mC ⟨⟨_,_,_,(O9).mono (by omega),m9,F9.kp,b9⟩,mN⟩)⟩)) (mC ⟨n7,(mC ⟨n12,(mC ⟨n13,mN⟩)⟩)⟩) ⟨n1,n2,n3⟩ (show tld b8'=false by decide +kernel) (show hat b8'=false by decide +kernel) rfl rfl (jc' rfl (show aX' _ "lasting"=some (gl') from ae') (show aX' _ "part_of"=some (d7') from((ac' (by decide +kernel)).trans ae')) )
 have O11:=ar' (P:=l.prog) (w:=w) (mg:=mg) (base:=base) (k:=0) F11 { N:=a0',B:=aJ',K:=K,fs:=aX' [] } vY' rfl aI' yH' (sp:=gn') (by walk_at "o") (aF' mN) (mC ⟨n12,(mC ⟨n13,mN⟩)⟩) ⟨n1,n2,n3⟩ (show tld aJ'=false by decide +kernel) (show hat aJ'=false by decide +kernel) rfl rfl (nO' rfl  )
 have O12:=ar' (P:=l.prog) (w:=w) (mg:=mg) (base:=base) (k:=0) F12 { N:=bt',B:=a9',K:=K,fs:=aX' [] } yI' rfl a8' Ag' (sp:=lA') (by walk_at "o") (aF' mN) mN ⟨n1,n2,n3⟩ (show tld a9'=false by decide +kernel) (show hat a9'=false by decide +kernel) rfl rfl (nP' rfl  )
 have O13:=ar' (P:=l.prog) (w:=w) (mg:=mg) (base:=base) (k:=1) F13 { N:=aU',B:=aA',K:=K,fs:=aX' [("room_behind",lA')] } vZ' rfl az' yJ' (sp:=do') (by walk_at "o") (aF' (mC ⟨⟨_,_,_,(O12).mono (by omega),m12,F12.kp,b12⟩,mN⟩)) (mC ⟨n11,(mC ⟨n8,mN⟩)⟩) ⟨n1,n2,n3⟩ (show tld aA'=false by decide +kernel) (show hat aA'=false by decide +kernel) rfl rfl (lD' rfl (show aX' _ "room_behind"=some (lA') from ae') )
 have O14:=ar' (P:=l.prog) (w:=w) (mg:=mg) (base:=base) (k:=2) F14 { N:=cl',B:=bC',K:=K,fs:=aX' [("trimmed",ck'),("machine_in_bounds",do'),("rooms_in_bounds",gn')] } v0' rfl bD' yK' (sp:=jg') (by walk_at "o") (aF' (mC ⟨⟨_,_,_,(O10).mono (by omega),m10,F10.kp,b10⟩,(mC ⟨⟨_,_,_,(O13).mono (by omega),m13,F13.kp,b13⟩,(mC ⟨⟨_,_,_,(O11).mono (by omega),m11,F11.kp,b11⟩,mN⟩)⟩)⟩)) mN ⟨n1,n2,n3⟩ (show tld bC'=false by decide +kernel) (show hat bC'=false by decide +kernel) rfl rfl (n6' rfl (show aX' _ "trimmed"=some (ck') from ae') (show aX' _ "machine_in_bounds"=some (do') from((ac' (by decide +kernel)).trans ae')) (show aX' _ "rooms_in_bounds"=some (gn') from((ac' (by decide +kernel)).trans ((ac' (by decide +kernel)).trans ae'))) )
 have O15:=ar' (P:=l.prog) (w:=w) (mg:=mg) (base:=base) (k:=2) F15 { N:=bI',B:=bh',K:=K,fs:=aX' [("trimmed",ck'),("machine_in_bounds",do'),("rooms_in_bounds",gn')] } v1' rfl be' yL' (sp:=eX') (by walk_at "o") (aF' (mC ⟨⟨_,_,_,(O10).mono (by omega),m10,F10.kp,b10⟩,(mC ⟨⟨_,_,_,(O13).mono (by omega),m13,F13.kp,b13⟩,(mC ⟨⟨_,_,_,(O11).mono (by omega),m11,F11.kp,b11⟩,mN⟩)⟩)⟩)) mN ⟨n1,n2,n3⟩ (show tld bh'=false by decide +kernel) (show hat bh'=false by decide +kernel) rfl rfl (lU' rfl (show aX' _ "trimmed"=some (ck') from ae') (show aX' _ "machine_in_bounds"=some (do') from((ac' (by decide +kernel)).trans ae')) (show aX' _ "rooms_in_bounds"=some (gn') from((ac' (by decide +kernel)).trans ((ac' (by decide +kernel)).trans ae'))) )
 have O16:=ar' (P:=l.prog) (w:=w) (mg:=mg) (base:=base) (k:=0) F16 { N:=c3',B:=cm',K:=K,fs:=aX' [] } rI' rfl c0' v2' (sp:=eO' K) (by walk_at "o") (aF' mN) (mC ⟨n7,mN⟩) ⟨n1,n2,n3⟩ (show tld cm'=false by decide +kernel) (show hat cm'=false by decide +kernel) rfl rfl (lo' (C:={ N:=c3',B:=cm',K:=K,fs:=aX' [] }) rfl  )
 have O17:=vw' (ar' (P:=l.prog) (w:=w) (mg:=mg) (base:=base) (k:=1) F17 { N:=nR',B:=lJ',K:=K,fs:=aX' [("_law_cell_at",eO' K)] } v3' rfl nI' yM' (sp:=lp' K) (by walk_at "o") (aF' (mC ⟨⟨_,_,_,(O16).mono (by omega),m16,F16.kp,b16⟩,mN⟩)) (mC ⟨n14,(mC ⟨n5,mN⟩)⟩) ⟨n1,n2,n3⟩ (show tld lJ'=false by decide +kernel) (show hat lJ'=false by decide +kernel) rfl rfl (nK' (C:={ N:=nR',B:=lJ',K:=K,fs:=aX' [("_law_cell_at",eO' K)] }) rfl (show aX' _ "_law_cell_at"=some (eO' K) from ae') ))
 have O18:=rd' rfl (ar' (P:=l.prog) (w:=w) (mg:=mg) (base:=base) (k:=0) F18 { N:=lK',B:=iq',K:=K,fs:=aX' [] } rJ' rfl ik' v4' (sp:=fp') (by walk_at "o") (aF' mN) mN ⟨n1,n2,n3⟩ (show tld iq'=false by decide +kernel) (show hat iq'=false by decide +kernel) rfl rfl (lq' rfl  ))
 have O19:=ar' (P:=l.prog) (w:=w) (mg:=mg) (base:=base) (k:=1) F19 { N:=ft',B:=dw',K:=K,fs:=aX' [("_law_take",il')] } l0' rfl K04.du' oa' (sp:=K04.bP') (by walk_at "o") (aF' (mC ⟨⟨_,_,_,(O18).mono (by omega),m18,F18.kp,b18⟩,mN⟩)) mN ⟨n1,n2,n3⟩ (show tld dw'=false by decide +kernel) (show hat dw'=false by decide +kernel) rfl rfl (K04.gr' rfl (show aX' _ "_law_take"=some (il') from ae') )
 have O20:=ar' (P:=l.prog) (w:=w) (mg:=mg) (base:=base) (k:=0) F20 { N:=fu',B:=dx',K:=K,fs:=aX' [] } v5' rfl dy' yN' (sp:=c7') (by walk_at "o") (aF' mN) mN ⟨n1,n2,n3⟩ (show tld dx'=false by decide +kernel) (show hat dx'=false by decide +kernel) rfl rfl (nW' rfl  )
 have O21:=ar' (P:=l.prog) (w:=w) (mg:=mg) (base:=base) (k:=1) F21 { N:=hv',B:=fv',K:=K,fs:=aX' [("_law_behind",c7')] } v6' rfl fw' yO' (sp:=rU') (by walk_at "o") (aF' (mC ⟨⟨_,_,_,(O20).mono (by omega),m20,F20.kp,b20⟩,mN⟩)) mN ⟨n1,n2,n3⟩ (show tld fv'=false by decide +kernel) (show hat fv'=false by decide +kernel) rfl rfl (rn' rfl (show aX' _ "_law_behind"=some (c7') from ae') )
 have O22:=ar' (P:=l.prog) (w:=w) (mg:=mg) (base:=base) (k:=2) F22 { N:=ea',B:=c4',K:=K,fs:=aX' [("_law_behind",c7'),("_law_leads",rU')] } v7' rfl c5' yP' (sp:=cn') (by walk_at "o") (aF' (mC ⟨⟨_,_,_,(O20).mono (by omega),m20,F20.kp,b20⟩,(mC ⟨⟨_,_,_,(O21).mono (by omega),m21,F21.kp,b21⟩,mN⟩)⟩)) (mC ⟨n15,(mC ⟨n7,(mC ⟨n13,mN⟩)⟩)⟩) ⟨n1,n2,n3⟩ (show tld c4'=false by decide +kernel) (show hat c4'=false by decide +kernel) rfl rfl (gt' rfl (show aX' _ "_law_behind"=some (c7') from ae') (show aX' _ "_law_leads"=some (rU') from((ac' (by decide +kernel)).trans ae')) )
 have O23:∀n,FnOk l.prog w K mg base CX0 (n+0+1) f23 (W.fnOf "_law_same" "_law_same" (cy' (top 26)) (am' (top 26)) (ab' (top 26)) .none kV23 dc23 pm23 an23 cd23 ct23) ["_law_found","_law_due_here"] (cx' n):=by
  intro n
  induction n with
  |zero=>exact ar' (P:=l.prog) (w:=w) (mg:=mg) (base:=base) (k:=0+0) F23 { N:=eU',B:=c6',K:=K,fs:=aX' [] } l3' rfl gi' pd' (by walk_at "o") (aF' mN) (mC ⟨n9,(mC ⟨n4,(mC ⟨n5,(mC ⟨n6,(mC ⟨n7,(mC ⟨n12,(mC ⟨n16,(mC ⟨n8,(mC ⟨n17,mN⟩)⟩)⟩)⟩)⟩)⟩)⟩)⟩)⟩) ⟨n1,n2,n3⟩ (show tld c6'=false by decide +kernel) (show hat c6'=false by decide +kernel) rfl rfl (gj' (C:={ N:=eU',B:=c6',K:=K,fs:=aX' [] }) rfl (fun m h=>absurd h (by omega)) )
  |succ m ih=>exact ar' (P:=l.prog) (w:=w) (mg:=mg) (base:=base) (k:=m+0+1) F23 { N:=eU',B:=c6',K:=K,fs:=aX' [("_law_same",cx' m)] } l3' rfl gi' pd' (by walk_at "o") (aF' (mC ⟨⟨_,_,_,(ih).mono (by omega),m23,F23.kp,b23⟩,mN⟩)) (mC ⟨n9,(mC ⟨n4,(mC ⟨n5,(mC ⟨n6,(mC ⟨n7,(mC ⟨n12,(mC ⟨n16,(mC ⟨n8,(mC ⟨n17,mN⟩)⟩)⟩)⟩)⟩)⟩)⟩)⟩)⟩) ⟨n1,n2,n3⟩ (show tld c6'=false by decide +kernel) (show hat c6'=false by decide +kernel) rfl rfl (gj' (C:={ N:=eU',B:=c6',K:=K,fs:=aX' [("_law_same",cx' m)] }) rfl (fun m h=>by cases h;exact(show aX' _ "_law_same"=some (cx' m) from ae')) )
 have O24:=ar' (P:=l.prog) (w:=w) (mg:=mg) (base:=base) (k:=3) F24 { N:=rl',B:=nS',K:=K,fs:=aX' [("_law_behind",c7'),("_law_lasting",cn')] } v8' rfl nT' yQ' (sp:=jf') (by walk_at "o") (aF' (mC ⟨⟨_,_,_,(O20).mono (by omega),m20,F20.kp,b20⟩,(mC ⟨⟨_,_,_,(O22).mono (by omega),m22,F22.kp,b22⟩,mN⟩)⟩)) (mC ⟨n15,(mC ⟨n11,(mC ⟨n18,(mC ⟨n8,mN⟩)⟩)⟩)⟩) ⟨n1,n2,n3⟩ (show tld nS'=false by decide +kernel) (show hat nS'=false by decide +kernel) rfl rfl (n5' rfl (show aX' _ "_law_behind"=some (c7') from ae') (show aX' _ "_law_lasting"=some (cn') from((ac' (by decide +kernel)).trans ae')) )
 exact ar' (P:=l.prog) (w:=w) (mg:=mg) (base:=base) (k:=59) F25 { N:=nU',B:=lL',K:=K,fs:=aX' [("_law_box",lr' K),("_law_bounds",K04.bP'),("_law_due",jf'),("rooms_of",jg'),("machine_of",eX'),("_law_same",cx' 2),("is_machine",je'),("walk",eQ')] } v9' rfl nV' yR' (sp:=lY' K) (by walk_at "o") (aF' (mC ⟨⟨_,_,_,(O17).mono (by omega),m17,F17.kp,b17⟩,(mC ⟨⟨_,_,_,(O19).mono (by omega),m19,F19.kp,b19⟩,(mC ⟨⟨_,_,_,(O24).mono (by omega),m24,F24.kp,b24⟩,(mC ⟨⟨_,_,_,(O14).mono (by omega),m14,F14.kp,b14⟩,(mC ⟨⟨_,_,_,(O15).mono (by omega),m15,F15.kp,b15⟩,(mC ⟨⟨_,_,_,(O23 2).mono (by omega),m23,F23.kp,b23⟩,(mC ⟨⟨_,_,_,(O6).mono (by omega),m6,F6.kp,b6⟩,(mC ⟨⟨_,_,_,(O7).mono (by omega),m7,F7.kp,b7⟩,mN⟩)⟩)⟩)⟩)⟩)⟩)⟩)⟩)) (mC ⟨n11,(mC ⟨n7,(mC ⟨n19,(mC ⟨n13,mN⟩)⟩)⟩)⟩) ⟨n1,n2,n3⟩ (show tld lL'=false by decide +kernel) (show hat lL'=false by decide +kernel) rfl rfl (n7' (C:={ N:=nU',B:=lL',K:=K,fs:=aX' [("_law_box",lr' K),("_law_bounds",K04.bP'),("_law_due",jf'),("rooms_of",jg'),("machine_of",eX'),("_law_same",cx' 2),("is_machine",je'),("walk",eQ')] }) rfl ⟨(show aX' _ "_law_box"=some (lr' K) from ae'),(show aX' _ "_law_bounds"=some (K04.bP') from((ac' (by decide +kernel)).trans ae')),(show aX' _ "_law_due"=some (jf') from((ac' (by decide +kernel)).trans ((ac' (by decide +kernel)).trans ae'))),(show aX' _ "rooms_of"=some (jg') from((ac' (by decide +kernel)).trans ((ac' (by decide +kernel)).trans ((ac' (by decide +kernel)).trans ae')))),(show aX' _ "machine_of"=some (eX') from((ac' (by decide +kernel)).trans ((ac' (by decide +kernel)).trans ((ac' (by decide +kernel)).trans ((ac' (by decide +kernel)).trans ae'))))),(show aX' _ "_law_same"=some (cx' 2) from((ac' (by decide +kernel)).trans ((ac' (by decide +kernel)).trans ((ac' (by decide +kernel)).trans ((ac' (by decide +kernel)).trans ((ac' (by decide +kernel)).trans ae')))))),(show aX' _ "is_machine"=some (je') from((ac' (by decide +kernel)).trans ((ac' (by decide +kernel)).trans ((ac' (by decide +kernel)).trans ((ac' (by decide +kernel)).trans ((ac' (by decide +kernel)).trans ((ac' (by decide +kernel)).trans ae'))))))),(show aX' _ "walk"=some (eQ') from((ac' (by decide +kernel)).trans ((ac' (by decide +kernel)).trans ((ac' (by decide +kernel)).trans ((ac' (by decide +kernel)).trans ((ac' (by decide +kernel)).trans ((ac' (by decide +kernel)).trans ((ac' (by decide +kernel)).trans ae'))))))))⟩ )
theorem walk {l:W.OpenLaw} {q:Program} {loose:List Str} {XP:(Str->Option Value)->Heap->Prop} {d:DefRec} {K:Params->W.Frag} {bs:List Addr} {m t:Nat} (hn:l.most=some 63) (hdf:d.params.defaults=[]) (e:∀P,bs=(K P).map (·.1))
  (F:∀(w:World) (mg:Str->Option Value) (fa:Addr) (h:Heap),(K w.params).In h->h.Ns mainGlobals mg->mg d.name=some (.ref fa)->
   ∃fd:FuncData,(∀(s:Shared) (u:Value),BindsTo s fd ⟨[u],[]⟩ [("_law_script",u)])/\∀base:Heap,(K w.params).In base->base.Ns mainGlobals mg->FnOk l.prog w (K w.params) mg base CX0 60 fa fd ["_law_script"] (lY' (K w.params))):
  W.WalkX q loose XP (W.X.obsZ bs) (W.X.valZ K m t) l.row.toRowW d [] (fun f vs=>PySem.call f vs):=
 fun w s₀ s₁ mg mb G y a o pm cd doc dV kV h1 h2 h3 h4 h5 h6 args vals cs La=>L2.pJ' (YP:=fun w h=>(K w.params).In h) (n:=63) (k:=60) (x:="_law_script") (CX:=fun _=>CX0) (sp:=fun w=>lY' (K w.params)) hn (by decide) hdf ⟨rfl,by decide,by decide,rfl⟩ (fun _ _ Y=>Y) F (fun _ _ a ns hl _ hS=>⟨a,ns,rfl,hS,hl,fun _=>rfl⟩) (fun _ _ _ _ _ z=>z) w s₀ s₁ mg mb G (W.InK.keeps w _ _ (W.X.z_facts e y).2.1 La.keeps) a o pm cd doc dV kV h1 h2 h3 h4 h5 h6 args vals cs
end K06
end
open PySem PySem.W PyProof.Rows
noncomputable def PySem.W.Fast.tw12994583051899786508:Nat:=0
noncomputable def PySem.W.Fast.tw16674291015212004842:Nat:=0
noncomputable def PySem.W.Fast.tw5089977103003857812:Nat:=0
noncomputable def PySem.W.Fast.tw17536353538845517913:Nat:=0
noncomputable def PySem.W.Fast.tw10091783638379323309:Nat:=0
noncomputable def PySem.W.Fast.tw17865447063679098036:Nat:=0
noncomputable def PySem.W.Fast.tw10428670003798928048:Nat:=0
noncomputable def PySem.W.Fast.tw456442870041508131:Nat:=0
noncomputable def PySem.W.Fast.tw3246528088081642185:Nat:=0
noncomputable def PySem.W.Fast.tw16573225969656410681:Nat:=0
noncomputable def PySem.W.Fast.tw68763258715542894:Nat:=0
noncomputable def PySem.W.Fast.tw14946092450837982959:Nat:=0
noncomputable def PySem.W.Fast.tw13878952766159401836:Nat:=0
noncomputable def PySem.W.Fast.tw8087889065053617093:Nat:=0
noncomputable def PySem.W.Fast.tw164542966468214946:Nat:=0
noncomputable def PySem.W.Fast.tw2200576270150507036:Nat:=0
noncomputable def PySem.W.Fast.tw78469464275003856:Nat:=0
noncomputable def PySem.W.Fast.tw5152512953688679472:Nat:=0
noncomputable def PySem.W.Fast.tw13115856433199615479:Nat:=0
noncomputable def PySem.W.Fast.tw6351667821795070791:Nat:=0
noncomputable def PySem.W.Fast.tw5719464333239657788:Nat:=0
noncomputable def PySem.W.Fast.tw15763966300408328847:Nat:=0
noncomputable def PySem.W.Fast.tw989080805926979612:Nat:=0
noncomputable def PySem.W.Fast.tw13469132998106462777:Nat:=0
noncomputable def PySem.W.Fast.tw17886315766045267654:Nat:=0
noncomputable def PySem.W.Fast.tw4047296628805425058:Nat:=0
noncomputable def PySem.W.Fast.tw10947283621203006379:Nat:=0
noncomputable def PySem.W.Fast.tw15981416841170987:Nat:=0
noncomputable def PySem.W.Fast.tw9906762311551575193:Nat:=0
noncomputable def PySem.W.Fast.tw5499968754174715794:Nat:=0
noncomputable def PySem.W.Fast.tw18150291813031127093:Nat:=0
noncomputable def PySem.W.Fast.tw16219439988197562002:Nat:=0
noncomputable def PySem.W.Fast.tw938259692658807789:Nat:=0
set_option maxRecDepth 100000 in
set_option maxHeartbeats 0 in
theorem PySem.Challenge.cw_runbound_k06_machines_of_bounds_holds : PySem.Challenge.rw_runbound_k06_machines_of_bounds.Holds := by
 w_on; o_law; z_head; (case hw => w_witness2)
 k_fill
 refine K06.walk (l := PySem.Challenge.rw_runbound_k06_machines_of_bounds) rfl rfl (fun _ => rfl) ?F
 case F =>
  intro w mg fa h KX G hmg
  refine' K06.wa' KX G hmg (K06.aM' ?a1 ?l1 ?c1 ?k1) (K06.aM' ?a2 ?l2 ?c2 ?k2) (K06.aM' ?a3 ?l3 ?c3 ?k3) (K06.aM' ?a4 ?l4 ?c4 ?k4) (K06.aM' ?a5 ?l5 ?c5 ?k5) (K06.aM' ?a6 ?l6 ?c6 ?k6) (K06.aM' ?a7 ?l7 ?c7 ?k7) (K06.aM' ?a8 ?l8 ?c8 ?k8) (K06.aM' ?a9 ?l9 ?c9 ?k9) (K06.aM' ?a10 ?l10 ?c10 ?k10) (K06.aM' ?a11 ?l11 ?c11 ?k11) (K06.aM' ?a12 ?l12 ?c12 ?k12) (K06.aM' ?a13 ?l13 ?c13 ?k13) (K06.aM' ?a14 ?l14 ?c14 ?k14) (K06.aM' ?a15 ?l15 ?c15 ?k15) (K06.aM' ?a16 ?l16 ?c16 ?k16) (K06.aM' ?a17 ?l17 ?c17 ?k17) (K06.aM' ?a18 ?l18 ?c18 ?k18) (K06.aM' ?a19 ?l19 ?c19 ?k19) (K06.aM' ?a20 ?l20 ?c20 ?k20) (K06.aM' ?a21 ?l21 ?c21 ?k21) (K06.aM' ?a22 ?l22 ?c22 ?k22) (K06.aM' ?a23 ?l23 ?c23 ?k23) (K06.aM' ?a24 ?l24 ?c24 ?k24) (K06.aM' ?a25 ?l25 ?c25 ?k25) ?z1 ?z2 ?z3 ?z4 ?z5 ?z6 ?z7 ?z8 ?z9 ?z10 ?z11 ?z12 ?z13 ?z14 ?z15 ?z16 ?z17 ?z18 ?z19 
  (case a1 => k_is); (case l1 => k_is); (case c1 => k_is); (case k1 => k_is)
  (case a2 => k_is); (case l2 => k_is); (case c2 => k_is); (case k2 => k_is)
  (case a3 => k_is); (case l3 => k_is); (case c3 => k_is); (case k3 => k_is)
  (case a4 => k_is); (case l4 => k_is); (case c4 => k_is); (case k4 => k_is)
  (case a5 => k_is); (case l5 => k_is); (case c5 => k_is); (case k5 => k_is)
  (case a6 => k_is); (case l6 => k_is); (case c6 => k_is); (case k6 => k_is)
  (case a7 => k_is); (case l7 => k_is); (case c7 => k_is); (case k7 => k_is)
  (case a8 => k_is); (case l8 => k_is); (case c8 => k_is); (case k8 => k_is)
  (case a9 => k_is); (case l9 => k_is); (case c9 => k_is); (case k9 => k_is)
  (case a10 => k_is); (case l10 => k_is); (case c10 => k_is); (case k10 => k_is)
  (case a11 => k_is); (case l11 => k_is); (case c11 => k_is); (case k11 => k_is)
  (case a12 => k_is); (case l12 => k_is); (case c12 => k_is); (case k12 => k_is)
  (case a13 => k_is); (case l13 => k_is); (case c13 => k_is); (case k13 => k_is)
  (case a14 => k_is); (case l14 => k_is); (case c14 => k_is); (case k14 => k_is)
  (case a15 => k_is); (case l15 => k_is); (case c15 => k_is); (case k15 => k_is)
  (case a16 => k_is); (case l16 => k_is); (case c16 => k_is); (case k16 => k_is)
  (case a17 => k_is); (case l17 => k_is); (case c17 => k_is); (case k17 => k_is)
  (case a18 => k_is); (case l18 => k_is); (case c18 => k_is); (case k18 => k_is)
  (case a19 => k_is); (case l19 => k_is); (case c19 => k_is); (case k19 => k_is)
  (case a20 => k_is); (case l20 => k_is); (case c20 => k_is); (case k20 => k_is)
  (case a21 => k_is); (case l21 => k_is); (case c21 => k_is); (case k21 => k_is)
  (case a22 => k_is); (case l22 => k_is); (case c22 => k_is); (case k22 => k_is)
  (case a23 => k_is); (case l23 => k_is); (case c23 => k_is); (case k23 => k_is)
  (case a24 => k_is); (case l24 => k_is); (case c24 => k_is); (case k24 => k_is)
  (case a25 => k_is); (case l25 => k_is); (case c25 => k_is); (case k25 => k_is)
  (case z1 => k_is)
  (case z2 => k_is)
  (case z3 => k_is)
  (case z4 => k_is)
  (case z5 => k_is)
  (case z6 => k_is)
  (case z7 => k_is)
  (case z8 => k_is)
  (case z9 => k_is)
  (case z10 => k_is)
  (case z11 => k_is)
  (case z12 => k_is)
  (case z13 => k_is)
  (case z14 => k_is)
  (case z15 => k_is)
  (case z16 => k_is)
  (case z17 => k_is)
  (case z18 => k_is)
  (case z19 => k_is)