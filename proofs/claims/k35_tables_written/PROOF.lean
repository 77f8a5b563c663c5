import PyProof.Rows.All
import Wide.All
import OpenK.AllK
import Wide.FinOn
import Lean
import PyProof.EqAt
import PyProof.EqKinds
import PyProof.TupleCall
import KE.KDictList
import PyProof.Rows.TupAdd
import PyProof.Rows.SortStr
import PyProof.Rows.SortWalk
import PyProof.CollectIter
import PyProof.Rows.Tup
import PyProof.TupleOfSeq
import PyProof.ReprRoads
import PyProof.CallStr
import PyProof.SeqRoads2
import KE.KSortTup
import PyProof.SetRoads
import PyProof.Rows.SetFrom
import PyProof.TupleKey
import PyProof.IsRules
import KE.KSetDisp
import PyProof.Rows.SortShell
import PyProof.DictFindH
import KE.KUnpack
import PyProof.IsiH_list
import PyProof.FactsAll.dict_1
import PySem.Challenge.RW_runbound_k35_tables_written
local macro_rules | `(⋯) => `(by first | decide +kernel | omega | (dsimp only; decide +kernel) | walk_at "b" | walk_at "o")
open PySem renaming wpAny_bind → aa,wpAny_pure → am,wpAny_field → aW,wpAny_holding → aX,wpAny_newObj_type → bc,wpAny_callSpecial?_slot → bn,wpAny_call_entry → bw,wpAny_pyIter_tuple → bF,wpAny_standAt → bO,wpAny_seqItems → bP,wpAny_setField_rec → bW,wpAny_truthy_bool → bZ,wpAny_of_eq → cu,wpAny_passesOwn → cv,wpAny_rule → cU,wpAny_loadPart_at → cY,wpAny_mono → df
open List renaming length_map → ac,getElem?_eq_getElem → af,mem_append_right → ak,mem_cons → al,size_toArray → ao,not_mem_nil → ap,mem_cons_of_mem → au,mem_cons_self → ax,replicate → ay,getElem?_map → aA,length_append → aB,mem_append → aD,map_cons → aE,range → aF,map_append → aG,getElem?_eq_some_iff → aH,length_take → aJ,mem_of_getElem? → aL,length_cons → aQ,mem_map → aR,mem_range → aU,take_length → aV,zip → aY,mem_append_left → aZ,flatten_cons → ba,lookup_cons → bb,take_succ → bh,map_map → bi,take_append_drop → bj,append_assoc → bp,getElem?_eq_none_iff → bq,replicate_succ → bv,length_range → bx,take_of_length_le → bB,mem_of_find?_eq_some → bC,getElem?_range → bD,getElem?_set_ne → bH,all_eq_true → bI,getD_eq_getElem?_getD → bK,map_congr_left → bM,pairwise_iff_getElem → bQ,append_nil → bR,nodup_cons → bT,getElem?_eq_none → bV,pairwise_append → bY,filterMap_cons → cf,foldl_cons → cg,length_nil → ci,length_replicate → cm,any_cons → cq,getElem?_append_left → cr,ext_getElem? → cw,range_succ → cy,length_eq_zero_iff → cB,getElem?_cons_zero → cE,length_drop → cG,getElem_mem → cH,getElem?_set_self → cI,pairwise_cons → cJ,set_cons_zero → cL,set_cons_succ → cN,nil_append → cP,find?_cons → cQ,getElem_drop → cV,pairwise_map → cX,flatMap_cons → cZ,mem_iff_getElem → dc,all_cons → dg
open PySem.Heap renaming get?_push_of_some → ae,lt_size → aq,get?_push_size → av,size_push → bg,SameBut → ck,get?_update_self → cn
open Bool renaming and_eq_true → ag,false_ne_true → aw,not_eq_true' → aO,false_eq_true → aT,eq_iff_iff → cO
open Nat renaming lt_of_lt_of_le → ai,le_refl → aj,ne_of_lt → az,le_add_right → aK,le_trans → aN,zero_le → aP,lt_irrefl → aS,ne_of_gt → bu,lt_of_le_of_lt → bA,le_of_lt → bE,mul_assoc → bG,pow_succ → bJ,lt_succ_of_lt → bL,mul_le_mul_left → bN,mul_comm → bU,add_mul → bX,le_of_lt_succ → ce,mod_eq_of_lt → cj,not_lt_zero → cz,lt_or_ge → cA,add_sub_cancel_left → cC,le_mul_of_pos_right → cF,one_mul → cR,mul_le_mul_right → de
open Array renaming length_toList → aC,getElem?_eq_getElem → aM,toList_append → bo,toList_push → cW,mem_toList_iff → da
open Int renaming eq_ofNat_of_zero_le → aI,toNat_natCast → bf,emod_lt_of_pos → cK
set_option genSizeOf false
set_option Elab.async false
set_option compiler.extract_closed false
set_option linter.all false
set_option maxRecDepth 100000
set_option tactic.hygienic false
namespace L2
open PySem PySem.Spec PyProof.Rows
section
variable {prog:Program} {w:World} {A:Around} {E:Value->Shared->Prop} {s:Shared}
theorem b9' (s:Shared):s.TypeIs .none "NoneType":=rfl
theorem eU' {Q:Int->Shared->Prop} (h:Q 0xFCA86420 { s with toks:=s.toks+1 }):wpAny (model prog w) A (pyHash .none) Q E s:=by
 unfold pyHash
 have hv:[Value.none].any Value.onHeap=false:=rfl
 refine aa ?_
 rw[cRoomFor,if_neg (by rw[hv];exact aw)];refine am ?_
 refine aa (wpAny_specialOf (b9' s) F.slot_NoneType_hash.lookup ?_)
 show wpAny _ _ (if(some (Value.builtin "NoneType.__hash__") == some Value.none)=true then _ else _) Q E s
 rw[if_neg (by rw[beq_builtin_none];exact aw)]
 refine aa (wpAny_specialOf (b9' s) F.slot_NoneType_hash.lookup ?_)
 show wpAny _ _ (callSpecialIfBoundUnlessNone? (.none) "__hash__" _ >>= _) Q E s
 refine aa (wpAny_callSpecialIfBoundUnlessNone?_slot (b9' s) F.slot_NoneType_hash
  (bw F.slot_NoneType_hash (b9' s) F.entry_NoneType_hash
   (show wpAny _ _ (do ret (<- mkInt 0xFCA86420)) _ _ s from wpAny_ret_mkInt ?_) (F.args_NoneType_hash_1 _)))
 exact am h
end
inductive Key where
 |inl (i:Int)|inr (x:Str)|non
 deriving DecidableEq
def kw':Key->Value->Bool
 | .inl k,v=>Value.isInt k v
 | .inr x,v=>Value.isStrOf x v
 | .non,.none=>true
 | .non,_=>false
def Bw' (w:World):Key->Int
 | .inl k=>hashInt k
 | .inr x=>hashStr w x
 | .non=>0xFCA86420
theorem aT':∀{k:Key} {v:Value},kw' k v=true->(∃i t,k=Key.inl i/\v=Value.int i t)\/(∃x t,k=Key.inr x/\v=Value.str x t)\/(k=Key.non/\v=Value.none)
 | .inl i,v,h=>by
  obtain⟨t,e⟩:=Value.isInt_shape (k:=i) (v:=v) h
  exact .inl ⟨i,t,rfl,e⟩
 | .inr x,v,h=>by
  obtain⟨t,e⟩:=Value.isStrOf_shape (x:=x) (v:=v) h
  exact .inr (.inl ⟨x,t,rfl,e⟩)
 | .non,v,h=>by cases v<;>first|exact .inr (.inr ⟨rfl,rfl⟩)|cases h
theorem lp' (i:Int) (t:Tok):kw' (.inl i) (.int i t)=true:=by simp[kw',Value.isInt]
theorem lq' (x:Str) (t:Tok):kw' (.inr x) (.str x t)=true:=by simp[kw',Value.isStrOf]
theorem uK' (a b:Int):decide ((Key.inl a:Key)=Key.inl b)=(a == b):=by
 by_cases e:a=b
 .rw[e,decide_eq_true rfl,beq_self_eq_true]
 .rw[decide_eq_false (fun q=>e (Key.inl.inj q)),beq_eq_false_iff_ne.mpr e]
theorem uL' (a b:Str):decide ((Key.inr a:Key)=Key.inr b)=decide (a=b):=by
 by_cases e:a=b
 .rw[e,decide_eq_true rfl,decide_eq_true rfl]
 .rw[decide_eq_false (fun q=>e (Key.inr.inj q)),decide_eq_false e]
theorem fF' {a b:Key} (h:a≠b):decide (a=b)=false:=decide_eq_false h
def ax' (prog:Program) (w:World):PySem.KeyKind prog w Key where
 is:=kw'
 hash:=Bw' w
 inj:=fun v a b ha hb=>by
  rcases aT' ha with⟨i,t,rfl,rfl⟩|⟨x,t,rfl,rfl⟩|⟨rfl,rfl⟩<;>rcases aT' hb with⟨j,u,rfl,e⟩|⟨y,u,rfl,e⟩|⟨rfl,e⟩<;>
   first|rfl|(injection e with e1 _;rw[e1])|exact nomatch e
 byValue:=fun k v h=>by
  rcases aT' h with⟨i,t,rfl,rfl⟩|⟨x,t,rfl,rfl⟩|⟨rfl,rfl⟩<;>rfl
 pyHash:=fun hv h=>by
  rcases aT' hv with⟨i,t,rfl,rfl⟩|⟨x,t,rfl,rfl⟩|⟨rfl,rfl⟩
  .exact wpAny_pyHash_int h
  .exact wpAny_pyHash_str h
  .exact eU' h
 eqBool:=fun {A E s a b u v Q} hu hv h=>by
  rcases aT' hu with⟨i,t,rfl,rfl⟩|⟨x,t,rfl,rfl⟩|⟨rfl,rfl⟩
  .rcases aT' hv with⟨j,u,rfl,rfl⟩|⟨y,u,rfl,rfl⟩|⟨rfl,rfl⟩
   .rw[uK']at h;exact wpAny_eqBool_int h
   .rw[fF' (a:=Key.inl i) (b:=Key.inr y) (fun q=>nomatch q)]at h;exact SeqAt.EqAt.int_str i t y u _ _ _ _ h
   .rw[fF' (a:=Key.inl i) (b:=Key.non) (fun q=>nomatch q)]at h;exact SeqAt.EqAt.int_none i t _ _ _ _ h
  .rcases aT' hv with⟨j,u,rfl,rfl⟩|⟨y,u,rfl,rfl⟩|⟨rfl,rfl⟩
   .rw[fF' (a:=Key.inr x) (b:=Key.inl j) (fun q=>nomatch q)]at h;exact SeqAt.EqAt.str_int x t j u _ _ _ _ h
   .rw[uL']at h;exact wpAny_eqBool_str h
   .rw[fF' (a:=Key.inr x) (b:=Key.non) (fun q=>nomatch q)]at h;exact SeqAt.EqAt.str_none x t _ _ _ _ h
  .rcases aT' hv with⟨j,u,rfl,rfl⟩|⟨y,u,rfl,rfl⟩|⟨rfl,rfl⟩
   .rw[fF' (a:=Key.non) (b:=Key.inl j) (fun q=>nomatch q)]at h;exact SeqAt.EqAt.none_int j u _ _ _ _ h
   .rw[fF' (a:=Key.non) (b:=Key.inr y) (fun q=>nomatch q)]at h;exact SeqAt.EqAt.none_str y u _ _ _ _ h
   .rw[decide_eq_true rfl]at h;exact SeqAt.EqAt.same .none _ _ _ _ h
 «strs»:=fun k x t v h=>by
  rcases aT' h with⟨i,u,rfl,e⟩|⟨y,u,rfl,e⟩|⟨rfl,e⟩
  .exact nomatch e
  .injection e with e1 _
   subst e1
   cases v<;>rfl
  .exact nomatch e
theorem iy' (prog:Program) (w:World) (i:Int) (t:Tok):(ax' prog w).is (.inl i) (.int i t)=true:=lp' i t
theorem iz' (prog:Program) (w:World) (x:Str) (t:Tok):(ax' prog w).is (.inr x) (.str x t)=true:=lq' x t
inductive V where
 |non|bl (b:Bool)|int (i:Int)|str (x:Str)|byt (b:Array UInt8)|flt (b:UInt64)|ref (a:Addr)|ty (n:String)
 deriving DecidableEq
def aP':V->Value->Prop
 | .non,u=>u=Value.none
 | .bl b,u=>u=Value.bool b
 | .int i,u=>∃t,u=Value.int i t
 | .str x,u=>∃t,u=Value.str x t
 | .byt b,u=>∃t,u=Value.bytes b t
 | .flt b,u=>∃t,u=Value.float b t
 | .ref a,u=>u=Value.ref a
 | .ty n,u=>u=Value.type n
abbrev aQ':List V->List Value->Prop:=Paired aP'
theorem aQ'.length {xs:List V} {us:List Value} (r:aQ' xs us):xs.length=us.length:=Paired.length r
theorem aQ'.get:∀{xs:List V} {us:List Value} {i:Nat} {x:V},aQ' xs us->xs[i]?=some x->∃u,us[i]?=some u/\aP' x u
 |_,_,_,_,.nil,e=>by simp at e
 |_,_,0,_,.cons r _,e=>by simp at e;subst e;exact⟨_,rfl,r⟩
 |_,_,i+1,x,.cons _ t,e=>by
  obtain⟨u,h1,h2⟩:=aQ'.get (i:=i) (x:=x) t (by simpa using e)
  exact⟨u,by simpa using h1,h2⟩
theorem aQ'.set {x:V} {u:Value} (r:aP' x u):∀{xs:List V} {us:List Value} (i:Nat),aQ' xs us->aQ' (xs.set i x) (us.set i u)
 |_,_,_,.nil=>.nil
 |_,_,0,.cons _ t=>.cons r t
 |_,_,i+1,.cons q t=>.cons q (aQ'.set r i t)
theorem aQ'.append:∀{xs ys:List V} {us ws:List Value},aQ' xs us->aQ' ys ws->aQ' (xs++ys) (us++ws)
 |_,_,_,_,.nil,s=>s
 |_,_,_,_,.cons r t,s=>.cons r (aQ'.append t s)
theorem aQ'.take:∀{xs:List V} {us:List Value} (n:Nat),aQ' xs us->aQ' (xs.take n) (us.take n)
 |_,_,0,_=>.nil
 |_,_,_+1,.nil=>.nil
 |_,_,n+1,.cons r t=>.cons r (aQ'.take n t)
theorem aQ'.drop:∀{xs:List V} {us:List Value} (n:Nat),aQ' xs us->aQ' (xs.drop n) (us.drop n)
 |_,_,0,r=>r
 |_,_,_+1,.nil=>.nil
 |_,_,n+1,.cons _ t=>aQ'.drop n t
def lr':Option V->Option Value->Prop
 |some v,some u=>aP' v u
 |none,none=>True
 |_,_=>False
def KV {κ:Type}:List (κ×V)->List (κ×Value)->Prop:=Paired fun(p:κ×V) (q:κ×Value)=>p.1=q.1/\aP' p.2 q.2
def kV:Key->V
 | .inl i=>.int i
 | .inr x=>.str x
 | .non=>.non
inductive HO where
 |lst (xs:List V)
 |tup (xs:List V)
 |dK (kvs:List (Key×V))|dT (kvs:List (List Key×V))
 |set (S:Int->Bool) (n:Nat)
 |ins (C dx:Addr) (fs:List (Str×V))
 |own (x:Addr)
 |xd (fs:List (Str×V))
 |met (f x:Addr)
 |rng (lo hi:Int)
 |frz (o:Obj) (u:HO)
 |tbl (ps:Array Value)
 |ext (φ:Heap->Prop)
abbrev Hp:=Addr->Option HO
def upd (H:Hp) (a:Addr) (o:HO):Hp:=fun b=>if b=a then some o else H b
theorem ac' {H:Hp} {a:Addr} {o:HO}:upd H a o a=some o:=by unfold upd;rw[if_pos rfl]
theorem ae' {H:Hp} {a b:Addr} {o:HO} (h:b≠a):upd H a o b=H b:=by unfold upd;rw[if_neg h]
theorem iA' {H:Hp} {a:Addr} {o u:HO}:upd (upd H a o) a u=upd H a u:=by
 funext b;unfold upd;split<;>rfl
theorem ah' {H:Hp} {a b:Addr} {o:HO} (h:H a=some o) (h':H b=none):a≠b:=by
 intro e;subst e;rw[h]at h';cases h'
def qn' (h:Heap) (a:Addr) (items:Array Value):Prop:=∃o,h.get? a=some o/\o.cls=.type "tuple"/\(∃n,o.data=.seq items n)/\o.dict=none
theorem qn'.tup {h:Heap} {a:Addr} {items:Array Value} (x:qn' h a items):IsTup h a items:=let⟨o,e,c,⟨n,d⟩,_⟩:=x;⟨o,e,c,n,d⟩
theorem qn'.new (h:Heap) (items:Array Value):qn' (h.push { cls:=.type "tuple",data:=.seq items }) h.objs.size items:=⟨_,av _ rfl,rfl,⟨_,rfl⟩,rfl⟩
section
variable (P:Program) (w:World)
def aE' (H:Hp) (h:Heap) (a:Addr):HO->Prop
 | .lst xs=>xs.length<=sizeLine/\∃(its:List Value) (n:Nat),aQ' xs its/\h.get? a=some { cls:=.type "list",data:=.seq its.toArray n }
 | .tup xs=>xs.length<=sizeLine/\∃its:List Value,aQ' xs its/\qn' h a its.toArray
 | .dK kvs=>kvs.length<=sizeLine/\(a == sysModules)=false/\∃vs,KV kvs vs/\h.DictOf (ax' P w) a vs
 | .dT kvs=>kvs.length<=sizeLine/\(a == sysModules)=false/\∃xs:List (List Key×Addr×Value),
   Paired (fun(p:List Key×V) (q:List Key×Addr×Value)=>p.1=q.1/\H q.2.1=some (.tup (p.1.map kV))/\aP' p.2 q.2.2) kvs xs/\
   ∃o es ep,h.get? a=some o/\o.ExactDict/\o.data=.dict es ep/\es.toList=xs.map (entryOfKey (tupleKind (ax' P w)))/\(xs.map (·.1)).Nodup
 | .set S n=>h.SetOf (intKind P w) a S n
 | .ins C dx fs=>H dx=some (.own a)/\fs.length<=1000/\dx≠a/\h.get? a=some (W.instObj C dx)/\
   ∃mA,h.Ns1 dx mA/\(∀f,lr' (fs.lookup f) (mA f))/\PySem.Within mA (fs.map (·.1))
 | .own _=>∃o,h.get? a=some o
 | .xd fs=>∃mA,h.Ns1 a mA/\∀f,lr' (fs.lookup f) (mA f)
 | .rng lo hi=>∃t u v,h.get? a=some { cls:=.type "range",data:=.fields #[.int lo t,.int hi u,.int 1 v] }
 | .frz o u=>h.get? a=some o/\aE' H h a u
 | .tbl ps=>h.get? a=some { cls:=.none,data:=.fields ps }
 | .met f x=>h.get? a=some (W.methodObj (.ref f) (.ref x))
 | .ext φ=>φ h/\(∃o,h.get? a=some o)/\∀h1 h2:Heap,φ h1->(∀o,h1.get? a=some o->h2.get? a=some o)->φ h2
def HOk (H:Hp) (h:Heap):Prop:=∀a o,H a=some o->aE' P w H h a o
end
section
variable {P:Program} {w:World} {H H':Hp} {h h':Heap} {a:Addr} {o:HO}
theorem aE'.lt (x:aE' P w H h a o):a<h.objs.size:=by
 cases o with
 |lst xs=>obtain⟨_,_,_,_,e⟩:=x;exact aq e
 |tup xs=>obtain⟨_,_,_,p⟩:=x;exact p.tup.lt
 |dK kvs=>obtain⟨_,_,_,_,o,_,_,e,_⟩:=x;exact aq e
 |dT kvs=>obtain⟨_,_,_,_,o,_,_,e,_⟩:=x;exact aq e
 |set S n=>obtain⟨o,_,_,_,e,_⟩:=x;exact aq e
 |ins C dx fs=>obtain⟨_,_,_,e,_⟩:=x;exact aq e
 |own y=>obtain⟨_,e⟩:=x;exact aq e
 |xd fs=>obtain⟨_,⟨_,_,_,e,_⟩,_⟩:=x;exact aq e
 |rng lo hi=>obtain⟨_,_,_,e⟩:=x;exact aq e
 |frz ob u=>obtain⟨e,_⟩:=x;exact aq e
 |tbl ps=>exact aq (show h.get? a=some _ from x)
 |met f y=>exact aq (show h.get? a=some _ from x)
 |ext φ=>obtain⟨_,⟨_,e⟩,_⟩:=x;exact aq e
theorem Paired.mapP {α β:Type} {F G:α->β->Prop}:∀{l₁:List α} {l₂:List β},Paired F l₁ l₂->(∀a b,F a b->G a b)->Paired G l₁ l₂
 |_,_,.nil,_=>.nil
 |_,_,.cons r t,f=>.cons (f _ _ r) (Paired.mapP t f)
theorem aE'.stay (x:aE' P w H h a o) (k:∀b u,(b=a\/H b=some (.own a))->h.get? b=some u->h'.get? b=some u)
  (ho:∀b,H b=some (.own a)->H' b=some (.own a)) (ht:∀b xs,H b=some (.tup xs)->H' b=some (.tup xs)):aE' P w H' h' a o:=by
 induction o with
 |lst xs=>obtain⟨z,its,n,r,e⟩:=x;exact⟨z,its,n,r,k _ _ (.inl rfl) e⟩
 |tup xs=>obtain⟨z,its,r,ob,e,c⟩:=x;exact⟨z,its,r,ob,k _ _ (.inl rfl) e,c⟩
 |dK kvs=>obtain⟨z,y,vs,r,ob,es,ep,e,c⟩:=x;exact⟨z,y,vs,r,ob,es,ep,k _ _ (.inl rfl) e,c⟩
 |dT kvs=>
  obtain⟨z,y,xs,r,ob,es,ep,e,c⟩:=x
  exact⟨z,y,xs,Paired.mapP r fun p q z=>⟨z.1,ht _ _ z.2.1,z.2.2⟩,ob,es,ep,k _ _ (.inl rfl) e,c⟩
 |set S n=>obtain⟨ob,es,ep,t,e,c⟩:=x;exact⟨ob,es,ep,t,k _ _ (.inl rfl) e,c⟩
 |ins C dx fs=>
  obtain⟨d,z,ne,e,mA,⟨od,es,ep,e2,c⟩,r⟩:=x
  exact⟨ho _ d,z,ne,k _ _ (.inl rfl) e,mA,⟨od,es,ep,k _ _ (.inr d) e2,c⟩,r⟩
 |own y=>obtain⟨ob,e⟩:=x;exact⟨ob,k _ _ (.inl rfl) e⟩
 |xd fs=>obtain⟨mA,⟨od,es,ep,e,c⟩,r⟩:=x;exact⟨mA,⟨od,es,ep,k _ _ (.inl rfl) e,c⟩,r⟩
 |rng lo hi=>obtain⟨t,u,v,e⟩:=x;exact⟨t,u,v,k _ _ (.inl rfl) e⟩
 |frz ob u ih=>obtain⟨e,q⟩:=x;exact⟨k _ _ (.inl rfl) e,ih q⟩
 |tbl ps=>
  have e:h.get? a=some { cls:=.none,data:=.fields ps }:=x
  show h'.get? a=some { cls:=.none,data:=.fields ps }
  exact k a _ (.inl rfl) e
 |met f y=>
  have e:h.get? a=some (W.methodObj (.ref f) (.ref y)):=x
  show h'.get? a=some (W.methodObj (.ref f) (.ref y))
  exact k a _ (.inl rfl) e
 |ext φ=>obtain⟨p,⟨o,e⟩,st⟩:=x;exact⟨st _ _ p fun o q=>k _ _ (.inl rfl) q,⟨o,k _ _ (.inl rfl) e⟩,st⟩
theorem HOk.lt (x:HOk P w H h) (e:H a=some o):a<h.objs.size:=(x a o e).lt
theorem HOk.fresh (x:HOk P w H h) (e:h.objs.size<=a):H a=none:=by
 cases q:H a with
 |none=>rfl
 |some u=>exact absurd (ai (x.lt q) e) (aS _)
theorem HOk.kept (x:HOk P w H h) (k:∀b u,h.get? b=some u->h'.get? b=some u):HOk P w H h':=fun a o e=>
 (x a o e).stay (fun b u _ q=>k b u q) (fun _ q=>q) fun _ _ q=>q
theorem HOk.laid (x:HOk P w H h) (k:∀b u,h.get? b=some u->h'.get? b=some u) (hp:h.objs.size<=a) (new:aE' P w (upd H a o) h' a o):HOk P w (upd H a o) h':=fun b u e=>by
 have hn:=x.fresh hp
 by_cases hb:b=a
 .subst hb;rw[ac']at e;cases e;exact new
 .rw[ae' hb]at e
  exact(x b u e).stay (fun c v _ q=>k c v q) (fun c q=>by rw[ae' (ah' q hn)];exact q) fun c xs q=>by rw[ae' (ah' q hn)];exact q
end
def Rd (H:Hp) (a:Addr) (u:HO):Prop:=H a=some u\/∃o,H a=some (.frz o u)
theorem Rd.ok {P:Program} {w:World} {H:Hp} {h:Heap} {a:Addr} {u:HO} (r:Rd H a u) (x:HOk P w H h):aE' P w H h a u:=by
 rcases r with r|⟨o,r⟩
 .exact x a u r
 .obtain⟨_,q⟩:=x a _ r
  exact q
def Mut:Option HO->Prop
 |some (.lst _)=>True
 |some (.dK _)=>True
 |some (.dT _)=>True
 |some (.set _ _)=>True
 |some (.ins _ _ _)=>True
 |some (.ext _)=>True
 |_=>False
section
variable {P:Program} {w:World} {H:Hp} {h h':Heap} {x e:Addr} {o':HO}
theorem HOk.write (ok:HOk P w H h) (mu:Mut (H x)) (he:e=x\/H e=some (.own x)) (k:∀b u,b≠e->h.get? b=some u->h'.get? b=some u) (heo:∃u,h'.get? e=some u)
  (new:aE' P w (upd H x o') h' x o'):HOk P w (upd H x o') h':=fun b u q=>by
 have nown:∀c y,H c=some (.own y)->c≠x:=fun c y r z=>by subst z;rw[r]at mu;exact mu
 have ntup:∀c xs,H c=some (.tup xs)->c≠x:=fun c xs r z=>by subst z;rw[r]at mu;exact mu
 by_cases hb:b=x
 .subst hb;rw[ac']at q;cases q;exact new
 .rw[ae' hb]at q
  by_cases hbe:b=e
  .have q':H b=some (.own x):=by
    rcases he with z|z
    .exact absurd (hbe.trans z) hb
    .rw[hbe];exact z
   rw[q]at q';cases q'
   obtain⟨v,hv⟩:=heo
   exact⟨v,by rw[hbe];exact hv⟩
  .refine(ok b u q).stay (fun c v hc r=>k c v ?_ r) (fun c r=>by rw[ae' (nown c b r)];exact r) fun c xs r=>by rw[ae' (ntup c xs r)];exact r
   rcases hc with rfl|hc
   .exact hbe
   .rintro rfl
    rcases he with z|z
    .exact nown c b hc z
    .rw[hc]at z;cases z;exact hb rfl
end
structure Un (fs ex:List Addr) (H H':Hp) (h h':Heap):Prop where
 keep:∀b o,h.get? b=some o->H b=none->b∉fs->b∉ex->h'.get? b=some o
 slot:∀b o,h.get? b=some o->H b=none->b∈fs->b∉ex->∃sl,h'.get? b=some { o with slots:=sl }
 free:∀b o,h.get? b=some o->H b=none->b∉ex->H' b=none
 there:∀b o,h.get? b=some o->b∉ex->∃o',h'.get? b=some o'
 tups:∀b xs,H b=some (.tup xs)->H' b=some (.tup xs)
 frzs:∀b o u,H b=some (.frz o u)->H' b=some (.frz o u)
 tbls:∀b ps,H b=some (.tbl ps)->∃more,H' b=some (.tbl (ps++more))
section
variable {fs fs' ex ex':List Addr} {H H1 H2:Hp} {h h1 h2 h':Heap} {a x e:Addr} {o:HO}
theorem Un.any (u:Un fs ex H H1 h h1) {b:Addr} {ob:Obj} (q:h.get? b=some ob) (n:H b=none) (hx:b∉ex):∃sl,h1.get? b=some { ob with slots:=sl }:=by
 by_cases hb:b∈fs
 .exact u.slot b ob q n hb hx
 .exact⟨ob.slots,u.keep b ob q n hb hx⟩
theorem Un.kept (k:∀b u,h.get? b=some u->h'.get? b=some u):Un fs ex H H h h':=
 ⟨fun b ob q _ _ _=>k b ob q,fun b ob q _ _ _=>⟨ob.slots,k b ob q⟩,fun _ _ _ n _=>n,fun b ob q _=>⟨ob,k b ob q⟩,fun _ _ q=>q,fun _ _ _ q=>q,fun _ ps q=>⟨#[],by rw[q];simp⟩⟩
theorem Un.refl:Un fs ex H H h h:=Un.kept fun _ _ q=>q
theorem Un.laid (k:∀b u,h.get? b=some u->h'.get? b=some u) (hp:h.objs.size<=a) (hn:H a=none):Un fs ex H (upd H a o) h h' where
 keep:=fun b u q _ _ _=>k b u q
 slot:=fun b u q _ _ _=>⟨u.slots,k b u q⟩
 free:=fun b u q n _=>by rw[ae' (az (ai (aq q) hp))];exact n
 there:=fun b u q _=>⟨u,k b u q⟩
 tups:=fun b xs q=>by rw[ae' (ah' q hn)];exact q
 frzs:=fun b u xs q=>by rw[ae' (ah' q hn)];exact q
 tbls:=fun b ps q=>⟨#[],by rw[ae' (ah' q hn),q];simp⟩
theorem Un.write (mu:Mut (H x)) (he:e=x\/H e=some (.own x)) (k:∀b u,b≠e->h.get? b=some u->h'.get? b=some u) (heo:∃u,h'.get? e=some u):Un fs ex H (upd H x o) h h':=by
 have hx:∀b,H b=none->b≠x:=fun b n z=>by subst z;rw[n]at mu;exact mu
 have hb:∀b,H b=none->b≠e:=fun b n z=>by
  subst z
  rcases he with r|r
  .exact hx b n r
  .rw[n]at r;cases r
 have hm:∀b u,H b=some u->¬Mut (some u)->b≠x:=fun b u q nm z=>by subst z;rw[q]at mu;exact nm mu
 refine⟨fun b u q n _ _=>k b u (hb b n) q,fun b u q n _ _=>⟨u.slots,k b u (hb b n) q⟩,fun b u q n _=>by rw[ae' (hx b n)];exact n,fun b u q _=>?_,
  fun b xs q=>by rw[ae' (hm b _ q fun z=>z)];exact q,fun b u xs q=>by rw[ae' (hm b _ q fun z=>z)];exact q,fun b ps q=>⟨#[],by rw[ae' (hm b _ q fun z=>z),q];simp⟩⟩
 by_cases hbe:b=e
 .subst hbe;exact heo
 .exact⟨u,k b u hbe q⟩
end
def trk (h:Heap) (H:Hp):List Addr:=(aF h.objs.size).filter fun a=>(H a).isSome
def oB' (h:Heap) (H:Hp):Heap:=W.hideAll h (trk h H)
theorem ls' (h:Heap) (H:Hp):(oB' h H).objs.size=h.objs.size:=W.hideAll_size _ _
theorem oC' {h:Heap} {H:Hp} {b:Addr} {o:Obj} (e:h.get? b=some o) (n:H b=none):(oB' h H).get? b=some o:=
 W.hideAll_get _ e fun hm=>by
  have q:(H b).isSome=true:=(List.mem_filter.mp hm).2
  rw[n]at q;simp at q
theorem r8' {h:Heap} {H:Hp} {b:Addr} {o:Obj} (e:(oB' h H).get? b=some o):h.get? b=some o/\H b=none:=by
 have e':h.get? b=some o:=W.of_hideAll (trk h H) e
 refine⟨e',?_⟩
 cases q:H b with
 |none=>rfl
 |some x=>
  have hm:b∈trk h H:=List.mem_filter.mpr ⟨aU.mpr (aq e'),by simp[q]⟩
  have z:(oB' h H).get? b=none:=W.hideAll_none (trk h H) hm
  rw[z]at e;cases e
def r9' (g h:Heap) (L:Addr):List (Addr×Obj):=(aF h.objs.size).filterMap fun a=>if a=L\/(g.get? a).isSome=true then none else(h.get? a).map fun o=>(a,o)
def aF' (g h:Heap) (L d:Addr):List (Addr×Obj):=(r9' g h L).filter fun p=>decide (p.1≠d)
structure Mod (K:W.Frag) (mg:Str->Option Value) (base:Heap):Prop where
 kin:K.In base
 glob:base.Ns mainGlobals mg
 blt:∃mb,base.Ns builtinsNs mb/\∀x:Str,x≠"__name__"->mb x=bootBuiltins x
 nolimit:base.NoLimit
set_option genInjectivity false
structure Cx where
 prog:Program
 w:World
 K:W.Frag
 mg:Str->Option Value
 base:Heap
 A:Around
 N:List Str
 s₀:Shared
 H₀:Hp
 env:Env
 outer:List Env
 stack:List Env
 ex:List Addr
 fn:Str->Bool
 calm:Bool
 pn:List (Addr×Obj)
 xe:Value->Shared->Prop
set_option genInjectivity true
def frs (l:List Env):List Addr:=l.filterMap (·.frame)
abbrev Cx.fs (X:Cx):List Addr:=frs X.outer
def Vis (sc:Scope) (x:Str):Prop:=sc.names.lookup x=some .local\/sc.names.lookup x=some .cell\/sc.names.lookup x=some .free
def Loc (sc:Scope) (x:Str):Prop:=sc.names.lookup x=some .local\/sc.names.lookup x=some .cell
def Bx' (env:Env) (h:Heap) (m:Str->Option Value) (x:Str) (u:Value):Prop:=
 (env.kindOf x=some .local/\m x=some u)\/((env.kindOf x=some .cell\/env.kindOf x=some .free)/\∃c,env.cells.lookup x=some c/\h.IsCell c (some u))
structure Cx.Ok (X:Cx):Prop where
 mod:Mod X.K X.mg X.base
 kind:X.env.scope.kind=.function
 glob:X.env.globals=mainGlobals
 blt:X.env.builtins=builtinsNs
 above:X.s₀.heap.objs.size<=X.env.locals
 inj:∀x y c,X.env.cells.lookup x=some c->X.env.cells.lookup y=some c->x=y
 has:∀x,(X.env.kindOf x=some .cell\/X.env.kindOf x=some .free)->∃c,X.env.cells.lookup x=some c
 cab:∀x c,X.fn x=true->X.env.cells.lookup x=some c->X.s₀.heap.objs.size<=c
 hd:X.calm=true->X.A.handled=none
 frames:X.A.frames=some X.stack
 stk:X.stack=X.outer\/(X.stack=X.env :: X.outer/\X.env.frame=some X.env.locals)
 exf:∀b∈X.ex,b≠X.env.locals/\∀x c,X.env.cells.lookup x=some c->c≠b
 bs:∀b o,X.base.get? b=some o->X.s₀.heap.get? b=some o/\X.H₀ b=none
 bsz:X.base.objs.size<=X.s₀.heap.objs.size
 noex:∀b o,X.base.get? b=some o->b∉X.ex
 exfs:∀b∈X.ex,b∉X.fs
 funs:X.s₀.heap.FunFrames X.base X.outer
 frf:∀b∈X.fs,X.H₀ b=none
structure Inv (X:Cx) (p_:List (Addr×Obj)) (σ:List (Option V)) (H:Hp) (s:Shared):Prop where
 ok:X.Ok
 os:s.os=X.s₀.os
 bare:AllBare s.gens
 base:Un X.fs X.ex X.H₀ H X.s₀.heap s.heap
 loc:∃m,s.heap.Ns X.env.locals m/\∀(i:Nat) (x:Str) (v:V),X.N[i]?=some x->σ[i]?=some (some v)->Vis X.env.scope x->∃u,aP' v u/\Bx' X.env s.heap m x u
 cell:∀x c,X.env.cells.lookup x=some c->∃v,s.heap.IsCell c v
 free:H X.env.locals=none
 freeC:∀x c,X.env.cells.lookup x=some c->H c=none
 pin:∀p∈X.pn++p_,s.heap.get? p.1=some p.2/\H p.1=none/\p.1≠X.env.locals/\p.1∉X.fs/\∀v,p.2.data≠.cell v
 hok:HOk X.prog X.w H s.heap
 len:σ.length=X.N.length
section
variable {X:Cx} {p_:List (Addr×Obj)} {σ:List (Option V)} {H H':Hp} {s:Shared} {h':Heap}
theorem Cx.Ok.nofr (ok:X.Ok) {b:Addr} {o:Obj} (e:X.base.get? b=some o):b∉X.fs:=fun hb=>by
 have:=(ok.funs.mem hb).1
 rw[e]at this;cases this
theorem Inv.bs (I:Inv X p_ σ H s):∀b o,X.base.get? b=some o->s.heap.get? b=some o/\H b=none:=fun b o e=>
 ⟨I.base.keep b o (I.ok.bs b o e).1 (I.ok.bs b o e).2 (I.ok.nofr e) (I.ok.noex b o e),I.base.free b o (I.ok.bs b o e).1 (I.ok.bs b o e).2 (I.ok.noex b o e)⟩
theorem Inv.bk (I:Inv X p_ σ H s):∀b o,X.base.get? b=some o->s.heap.get? b=some o:=fun b o e=>(I.bs b o e).1
theorem Inv.mod (I:Inv X p_ σ H s):Mod X.K X.mg X.base:=I.ok.mod
theorem Inv.kIn (I:Inv X p_ σ H s):X.K.In s.heap:=I.ok.mod.kin.keeps I.bk
theorem Inv.fr (I:Inv X p_ σ H s):∃m,Fr X.base X.env.locals s.heap m:=
 let⟨m,hn,_⟩:=I.loc
 ⟨m,hn,I.bk,aN I.ok.bsz I.ok.above⟩
theorem Inv.lt (I:Inv X p_ σ H s):X.env.locals<s.heap.objs.size:=let⟨_,hn,_⟩:=I.loc;hn.lt
theorem Inv.sz (I:Inv X p_ σ H s):X.s₀.heap.objs.size<=s.heap.objs.size:=aN I.ok.above (bE I.lt)
theorem Inv.nofs (I:Inv X p_ σ H s) {a:Addr} (h:s.heap.objs.size<=a):a∉X.fs:=fun hb=>by
 obtain⟨_,o,ho,_⟩:=I.ok.funs.mem hb
 exact absurd (ai (aq ho) (aN I.sz h)) (aS _)
theorem Inv.cne (I:Inv X p_ σ H s):∀x c,X.env.cells.lookup x=some c->c≠X.env.locals:=fun x c e z=>by
 obtain⟨v,o,ho,hd⟩:=I.cell x c e
 obtain⟨m,⟨o',es,ep,ho',hd',_⟩,_⟩:=I.loc
 rw[z,ho']at ho;cases ho;rw[hd']at hd;cases hd
theorem Inv.funs (I:Inv X p_ σ H s):s.heap.FunFrames X.base X.outer:=by
 have all:∀(l:List Env),(∀b∈frs l,b∈X.fs)->X.s₀.heap.FunFrames X.base l->s.heap.FunFrames X.base l:=by
  intro l
  induction l with
  |nil=>intro _ _;trivial
  |cons env r ih=>
   intro hs hl
   obtain⟨hk,⟨L,o,hf,hn,ho,hd⟩,hr⟩:=hl
   have hL:L∈X.fs:=hs L (by unfold frs;rw[cf,hf];exact ax)
   obtain⟨sl,e⟩:=I.base.slot L o ho (I.ok.frf L hL) hL fun z=>I.ok.exfs L z hL
   exact⟨hk,⟨L,_,hf,hn,e,hd⟩,ih (fun b hb=>hs b (by unfold frs;rw[cf,hf];exact au _ hb)) hr⟩
 exact all X.outer (fun _ hb=>hb) I.ok.funs
theorem Inv.stack (I:Inv X p_ σ H s):s.heap.FunFrames X.base X.stack:=by
 rcases I.ok.stk with e|⟨e,hf⟩
 .rw[e];exact I.funs
 .rw[e]
  obtain⟨m,hn,_⟩:=I.loc
  refine .cons (by rw[I.ok.kind];decide) hf hn ?_ I.funs
  exact Heap.get?_none_of_le (aN I.ok.bsz I.ok.above)
theorem Inv.stkSub (I:Inv X p_ σ H s):∀b∈frs X.stack,b∈X.env.locals :: X.fs:=fun b hb=>by
 rcases I.ok.stk with e|⟨e,hf⟩
 .rw[e]at hb;exact au _ hb
 .rw[e]at hb
  unfold frs at hb
  rw[cf,hf]at hb
  exact hb
theorem Inv.stkFree (I:Inv X p_ σ H s):∀b∈frs X.stack,H b=none:=fun b hb=>by
 rcases al.mp (I.stkSub b hb)with e|hb
 .rw[e];exact I.free
 .obtain⟨_,o,ho,_⟩:=I.ok.funs.mem hb
  exact I.base.free b o ho (I.ok.frf b hb) fun z=>I.ok.exfs b z hb
theorem Inv.step {g':Array GenState} {t':Nat} {d':Drawn} {ch:List Addr} (I:Inv X p_ σ H s)
  (hch:∀b∈ch,(b∈X.ex\/X.s₀.heap.objs.size<=b)/\b≠X.env.locals/\(∀x c,X.env.cells.lookup x=some c->c≠b)/\∀p∈X.pn++p_,p.1≠b)
  (keep:∀b o,b≠X.env.locals->b∉X.fs->b∉ch->s.heap.get? b=some o->H b=none->h'.get? b=some o)
  (slot:∀b o,b≠X.env.locals->b∈X.fs->b∉ch->s.heap.get? b=some o->H b=none->∃sl,h'.get? b=some { o with slots:=sl }) (free:∀b o,b∉ch->s.heap.get? b=some o->H b=none->H' b=none)
  (there:∀b o,b∉ch->s.heap.get? b=some o->∃o',h'.get? b=some o')
  (tups:∀b xs,H b=some (.tup xs)->H' b=some (.tup xs)) (frzs:∀b o u,H b=some (.frz o u)->H' b=some (.frz o u)) (tbls:∀b ps,H b=some (.tbl ps)->∃more,H' b=some (.tbl (ps++more)))
  (ns:∀m,s.heap.Ns X.env.locals m->h'.Ns X.env.locals m) (hok:HOk X.prog X.w H' h') (hg:AllBare g'):
  Inv X p_ σ H' { s with heap:=h',gens:=g',drawn:=d',toks:=t' }:=by
 have neL:∀b o,X.s₀.heap.get? b=some o->b≠X.env.locals:=fun b o e=>az (ai (aq e) I.ok.above)
 have neC:∀b o,X.s₀.heap.get? b=some o->b∉X.ex->b∉ch:=fun b o e hx hb=>by
  rcases(hch b hb).1 with z|z
  .exact hx z
  .exact absurd (ai (aq e) z) (aS _)
 have cellK:∀x c,X.env.cells.lookup x=some c->∀v,s.heap.IsCell c v->h'.IsCell c v:=fun x c e v ⟨o,ho,hd⟩=>by
  have nch:c∉ch:=fun z=>(hch c z).2.2.1 x c e rfl
  by_cases hc:c∈X.fs
  .obtain⟨sl,q⟩:=slot c o (I.cne x c e) hc nch ho (I.freeC x c e)
   exact⟨_,q,hd⟩
  .exact⟨o,keep c o (I.cne x c e) hc nch ho (I.freeC x c e),hd⟩
 refine⟨I.ok,I.os,hg,⟨fun b o e n hb hx=>?_,fun b o e n hb hx=>?_,fun b o e n hx=>?_,fun b o e hx=>?_,fun b xs e=>tups b xs (I.base.tups b xs e),fun b o xs e=>frzs b o xs (I.base.frzs b o xs e),fun b ps e=>?_⟩,?_,fun x c e=>?_,?_,fun x c e=>?_,fun p hp=>?_,hok,I.len⟩
 .exact keep b o (neL b o e) hb (neC b o e hx) (I.base.keep b o e n hb hx) (I.base.free b o e n hx)
 .obtain⟨sl,e1⟩:=I.base.slot b o e n hb hx
  obtain⟨sl',e2⟩:=slot b _ (neL b o e) hb (neC b o e hx) e1 (I.base.free b o e n hx)
  exact⟨sl',e2⟩
 .obtain⟨o',e1⟩:=I.base.there b o e hx
  exact free b o' (neC b o e hx) e1 (I.base.free b o e n hx)
 .obtain⟨o',e1⟩:=I.base.there b o e hx
  exact there b o' (neC b o e hx) e1
 .obtain⟨m1,e1⟩:=I.base.tbls b ps e
  obtain⟨m2,e2⟩:=tbls b _ e1
  exact⟨m1++m2,by rw[e2,Array.append_assoc]⟩
 .obtain⟨m,hn,hl⟩:=I.loc
  refine⟨m,ns m hn,fun i x v e1 e2 e3=>?_⟩
  obtain⟨u,r,l⟩:=hl i x v e1 e2 e3
  refine⟨u,r,?_⟩
  rcases l with l|⟨k,c,e,z⟩
  .exact .inl l
  .exact .inr ⟨k,c,e,cellK x c e _ z⟩
 .obtain⟨v,z⟩:=I.cell x c e
  exact⟨v,cellK x c e v z⟩
 .obtain⟨m,⟨o,_,_,ho,_⟩,_⟩:=I.loc
  exact free _ o (fun z=>(hch _ z).2.1 rfl) ho I.free
 .obtain⟨v,o,ho,hd⟩:=I.cell x c e
  exact free c o (fun z=>(hch c z).2.2.1 x c e rfl) ho (I.freeC x c e)
 .obtain⟨e,n,ne,nf,d⟩:=I.pin p hp
  have nch:p.1∉ch:=fun z=>(hch p.1 z).2.2.2 p hp rfl
  exact⟨keep p.1 p.2 ne nf nch e n,free p.1 p.2 nch e n,ne,nf,d⟩
theorem Inv.un {t':Nat} (I:Inv X p_ σ H s) (u:Un X.fs [] H H' s.heap h') (hok:HOk X.prog X.w H' h'):Inv X p_ σ H' { s with heap:=h',toks:=t' }:=by
 obtain⟨m,⟨o,es,ep,ho,r⟩,_⟩:=id I.loc
 obtain⟨sl,hL⟩:=u.any ho I.free (by simp)
 exact I.step (g':=s.gens) (d':=s.drawn) (ch:=[]) (fun _ z=>nomatch z) (fun b o _ hb _ e n=>u.keep b o e n hb (by simp)) (fun b o _ hb _ e n=>u.slot b o e n hb (by simp)) (fun b o _ e n=>u.free b o e n (by simp)) (fun b o _ e=>u.there b o e (by simp)) u.tups u.frzs u.tbls (fun m' hm=>by
  obtain⟨o',es',ep',ho',r'⟩:=hm
  rw[ho]at ho';cases ho'
  exact⟨_,es',ep',hL,r'⟩) hok I.bare
theorem Inv.call {g':Array GenState} {t':Nat} {d':Drawn} {ch:List Addr} (I:Inv X p_ σ H s) (u:Un (frs X.stack) ch H H' s.heap h') (hok:HOk X.prog X.w H' h') (hg:AllBare g')
  (hch:∀b∈ch,(b∈X.ex\/X.s₀.heap.objs.size<=b)/\b≠X.env.locals/\(∀x c,X.env.cells.lookup x=some c->c≠b)/\∀p∈X.pn++p_,p.1≠b):
  Inv X p_ σ H' { s with heap:=h',gens:=g',drawn:=d',toks:=t' }:=by
 obtain⟨m,⟨o,es,ep,ho,r⟩,_⟩:=id I.loc
 obtain⟨sl,hL⟩:=u.any ho I.free fun z=>(hch _ z).2.1 rfl
 exact I.step (ch:=ch) hch (fun b o hL hb hc e n=>u.keep b o e n (fun z=>(al.mp (I.stkSub b z)).elim hL hb) hc) (fun b o _ _ hc e n=>u.any e n hc) (fun b o hc e n=>u.free b o e n hc) (fun b o hc e=>u.there b o e hc) u.tups u.frzs u.tbls (fun m' hm=>by
  obtain⟨o',es',ep',ho',r'⟩:=hm
  rw[ho]at ho';cases ho'
  exact⟨_,es',ep',hL,r'⟩) hok hg
theorem Inv.turned {t':Nat} {it:Addr} (I:Inv X p_ σ H s) (k:∀b o,b≠it->s.heap.get? b=some o->h'.get? b=some o) (hn:H it=none) (hL:it≠X.env.locals)
  (h1:it∈X.ex\/X.s₀.heap.objs.size<=it) (h2:∀x c,X.env.cells.lookup x=some c->c≠it) (h3:∀p∈X.pn++p_,p.1≠it):Inv X p_ σ H { s with heap:=h',toks:=t' }:=by
 have nit:∀b u,H b=some u->b≠it:=fun b u e z=>by rw[z,hn]at e;cases e
 refine I.step (g':=s.gens) (d':=s.drawn) (ch:=[it]) (fun b hb=>?_) (fun b o _ _ hc e _=>k b o (fun z=>hc (by simp[z])) e) (fun b o _ _ hc e _=>⟨o.slots,k b o (fun z=>hc (by simp[z])) e⟩) (fun _ _ _ _ n=>n)
  (fun b o hc e=>⟨o,k b o (fun z=>hc (by simp[z])) e⟩) (fun _ _ e=>e) (fun _ _ _ e=>e) (fun b ps e=>⟨#[],by rw[e];simp⟩) (fun m hm=>?_) (fun b u e=>?_) I.bare
 .have e:b=it:=by simpa using hb
  subst e
  exact⟨h1,hL,h2,h3⟩
 .obtain⟨o,es,ep,ho,r⟩:=hm
  exact⟨o,es,ep,k _ o (Ne.symm hL) ho,r⟩
 .refine(I.hok b u e).stay (fun c v hc q=>k c v ?_ q) (fun _ q=>q) fun _ _ q=>q
  rcases hc with z|z
  .rw[z];exact nit b u e
  .exact nit c _ z
theorem Inv.tok (I:Inv X p_ σ H s) (t:Nat):Inv X p_ σ H { s with toks:=t }:=I.un (h':=s.heap) (t':=t) Un.refl I.hok
theorem Inv.kept {t':Nat} (I:Inv X p_ σ H s) (k:∀b u,s.heap.get? b=some u->h'.get? b=some u):Inv X p_ σ H { s with heap:=h',toks:=t' }:=I.un (Un.kept k) (I.hok.kept k)
theorem Inv.laid {a:Addr} {o:HO} {t':Nat} (I:Inv X p_ σ H s) (k:∀b u,s.heap.get? b=some u->h'.get? b=some u) (hp:s.heap.objs.size<=a) (new:aE' X.prog X.w (upd H a o) h' a o):
  Inv X p_ σ (upd H a o) { s with heap:=h',toks:=t' }:=I.un (Un.laid k hp (I.hok.fresh hp)) (I.hok.laid k hp new)
theorem Inv.write {x e:Addr} {o:HO} {t':Nat} (I:Inv X p_ σ H s) (mu:Mut (H x)) (he:e=x\/H e=some (.own x)) (k:∀b u,b≠e->s.heap.get? b=some u->h'.get? b=some u) (heo:∃u,h'.get? e=some u)
  (new:aE' X.prog X.w (upd H x o) h' x o):Inv X p_ σ (upd H x o) { s with heap:=h',toks:=t' }:=I.un (Un.write mu he k heo) (I.hok.write mu he k heo new)
theorem Inv.weak {σ':List (Option V)} (I:Inv X p_ σ H s) (hl:σ'.length=σ.length) (w:∀(i:Nat) v,σ'[i]?=some (some v)->σ[i]?=some (some v)):Inv X p_ σ' H s:=
 ⟨I.ok,I.os,I.bare,I.base,let⟨m,hn,hl'⟩:=I.loc;⟨m,hn,fun i x v e1 e2 e3=>hl' i x v e1 (w i v e2) e3⟩,I.cell,I.free,I.freeC,I.pin,I.hok,hl.trans I.len⟩
theorem Inv.pins_of {p_':List (Addr×Obj)} (I:Inv X p_ σ H s) (h:∀p∈p_',s.heap.get? p.1=some p.2/\H p.1=none/\p.1≠X.env.locals/\p.1∉X.fs/\∀v,p.2.data≠.cell v):Inv X p_' σ H s:=
 ⟨I.ok,I.os,I.bare,I.base,I.loc,I.cell,I.free,I.freeC,fun p hp=>(aD.mp hp).elim (fun z=>I.pin p (aZ _ z)) (h p),I.hok,I.len⟩
theorem eD' {N:List Str} (hN:N.Nodup) {i j:Nat} {x:Str} (a:N[i]?=some x) (b:N[j]?=some x):i=j:=by
 obtain⟨h1,e1⟩:=aH.mp a
 obtain⟨h2,e2⟩:=aH.mp b
 exact(List.getElem_inj hN).mp (e1.trans e2.symm)
theorem dH' {M:Model} {A:Around} {E:Value->Shared->Prop} {i:Nat} {x:Str} {v:V} {u:Value} {Q:Unit->Shared->Prop} (I:Inv X p_ σ H s) (hN:X.N.Nodup) (hi:X.N[i]?=some x) (hx:Loc X.env.scope x) (r:aP' v u)
  (h:∀s',Inv X p_ (σ.set i (some v)) H s'->(∃a,ck a s.heap s'.heap/\(a=X.env.locals\/X.env.cells.lookup x=some a))->Q () s') (hf:X.fn x=true\/X.env.scope.names.lookup x=some .local:=by first|exact .inl rfl|exact .inr rfl|assumption):wpAny M A (storeName X.env x u) Q E s:=by
 obtain⟨m,hn,hl⟩:=id I.loc
 have hcls:(X.env.scope.kind == .class || (X.env.scope.kind == .module&&X.env.locals != X.env.globals))=false:=by rw[I.ok.kind];rfl
 have hiσ:i<σ.length:=by rw[I.len];exact(aH.mp hi).1
 have cne:=I.cne
 have tracked:∀{a:Addr} {h':Heap},(∃o,s.heap.get? a=some o/\H a=none)->ck a s.heap h'->HOk X.prog X.w H h':=fun {a h'} ha hs b ob e=>by
  obtain⟨_,_,hfree⟩:=ha
  refine(I.hok b ob e).stay (fun c w' hc q=>(hs.2 c ?_).trans q) (fun _ q=>q) fun _ _ q=>q
  rintro rfl
  rcases hc with rfl|hc
  .rw[hfree]at e;cases e
  .rw[hfree]at hc;cases hc
 rcases hx with hk|hk
 .refine wpAny_storeName_local hk hn (fun h' hn' hs=>?_) hcls
  obtain⟨oL,_,_,hoL,_⟩:=id hn
  refine h _ ⟨I.ok,I.os,I.bare,⟨fun b o e n hb hx=>?_,fun b o e n hb hx=>?_,I.base.free,fun b o e hx=>?_,I.base.tups,I.base.frzs,I.base.tbls⟩,⟨_,hn',fun j y v' e1 e2 e3=>?_⟩,fun y c e=>?_,I.free,I.freeC,fun p hp=>?_,tracked ⟨oL,hoL,I.free⟩ hs,by simpa using I.len⟩ ⟨_,hs,.inl rfl⟩
  .exact(hs.2 b (az (ai (aq e) I.ok.above))).trans (I.base.keep b o e n hb hx)
  .obtain⟨sl,e1⟩:=I.base.slot b o e n hb hx
   exact⟨sl,(hs.2 b (az (ai (aq e) I.ok.above))).trans e1⟩
  .obtain⟨o',e1⟩:=I.base.there b o e hx
   exact⟨o',(hs.2 b (az (ai (aq e) I.ok.above))).trans e1⟩
  .by_cases hj:j=i
   .subst hj
    rw[hi]at e1;cases e1
    rw[cI hiσ]at e2
    cases e2
    exact⟨u,r,.inl ⟨hk,by simp⟩⟩
   .rw[bH (Ne.symm hj)]at e2
    obtain⟨u',r',q⟩:=hl j y v' e1 e2 e3
    refine⟨u',r',?_⟩
    rcases q with⟨k,e⟩|⟨k,c,e,z⟩
    .refine .inl ⟨k,?_⟩
     have:y≠x:=fun e=>hj (eD' hN e1 (e ▸ hi))
     simp[this,e]
    .exact .inr ⟨k,c,e,z.sameBut hs (cne y c e)⟩
  .obtain⟨w',z⟩:=I.cell y c e
   exact⟨w',z.sameBut hs (cne y c e)⟩
  .obtain⟨e,n,ne,nf,d⟩:=I.pin p hp
   exact⟨(hs.2 p.1 ne).trans e,n,ne,nf,d⟩
 .have hfn:X.fn x=true:=by
   rcases hf with z|z
   .exact z
   .rw[z]at hk;cases hk
  obtain⟨c,hc⟩:=I.ok.has x (.inl hk)
  obtain⟨w',z⟩:=I.cell x c hc
  refine wpAny_storeName_cell I.ok.kind hk hc z (fun h' hc' hs=>?_)
  obtain⟨oc,hoc,hocd⟩:=id z
  refine h { s with heap:=h' } ⟨I.ok,I.os,I.bare,⟨fun b o e n hb hx=>?_,fun b o e n hb hx=>?_,I.base.free,fun b o e hx=>?_,I.base.tups,I.base.frzs,I.base.tbls⟩,⟨m,hn.sameBut hs (Ne.symm (cne x c hc)),fun j y v' e1 e2 e3=>?_⟩,fun y c' e=>?_,I.free,I.freeC,fun p hp=>?_,tracked ⟨oc,hoc,I.freeC x c hc⟩ hs,by simpa using I.len⟩ ⟨c,hs,.inr hc⟩
  .exact(hs.2 b (az (ai (aq e) (I.ok.cab x c hfn hc)))).trans (I.base.keep b o e n hb hx)
  .obtain⟨sl,e1⟩:=I.base.slot b o e n hb hx
   exact⟨sl,(hs.2 b (az (ai (aq e) (I.ok.cab x c hfn hc)))).trans e1⟩
  .obtain⟨o',e1⟩:=I.base.there b o e hx
   exact⟨o',(hs.2 b (az (ai (aq e) (I.ok.cab x c hfn hc)))).trans e1⟩
  .by_cases hj:j=i
   .subst hj
    rw[hi]at e1;cases e1
    rw[cI hiσ]at e2
    cases e2
    exact⟨u,r,.inr ⟨.inl hk,c,hc,hc'⟩⟩
   .rw[bH (Ne.symm hj)]at e2
    obtain⟨u',r',q⟩:=hl j y v' e1 e2 e3
    refine⟨u',r',?_⟩
    rcases q with q|⟨k,c',e,z'⟩
    .exact .inl q
    .refine .inr ⟨k,c',e,z'.sameBut hs ?_⟩
     rintro rfl
     exact hj (eD' hN e1 (I.ok.inj _ _ _ e hc ▸ hi))
  .by_cases hcc:c'=c
   .subst hcc;exact⟨_,hc'⟩
   .obtain⟨w2,z2⟩:=I.cell y c' e
    exact⟨w2,z2.sameBut hs hcc⟩
  .obtain⟨e,n,ne,nf,d⟩:=I.pin p hp
   refine⟨(hs.2 p.1 ?_).trans e,n,ne,nf,d⟩
   intro q
   rw[q,hoc]at e
   have q':oc=p.2:=Option.some.inj e
   exact d w' (by rw[<- q'];exact hocd)
theorem eE' {M:Model} {A:Around} {E:Value->Shared->Prop} {i:Nat} {x:Str} {v:V} {u:Value} {Q:Unit->Shared->Prop} (I:Inv X p_ σ H s) (hN:X.N.Nodup) (hi:X.N[i]?=some x) (hx:Loc X.env.scope x) (r:aP' v u)
  (h:∀s',Inv X p_ (σ.set i (some v)) H s'->Q () s') (hf:X.fn x=true\/X.env.scope.names.lookup x=some .local:=by first|exact .inl rfl|exact .inr rfl|assumption):wpAny M A (storeName X.env x u) Q E s:=
 dH' I hN hi hx r (fun s' I' _=>h s' I') hf
theorem Inv.call' {s':Shared} {ch:List Addr} (I:Inv X p_ σ H s) (ho:s'.os=s.os) (u:Un (frs X.stack) ch H H' s.heap s'.heap) (hok:HOk X.prog X.w H' s'.heap) (hg:AllBare s'.gens)
  (hch:∀b∈ch,(b∈X.ex\/X.s₀.heap.objs.size<=b)/\b≠X.env.locals/\(∀x c,X.env.cells.lookup x=some c->c≠b)/\∀p∈X.pn++p_,p.1≠b):Inv X p_ σ H' s':=by
 obtain⟨h',g',d',t',o'⟩:=s'
 have e:o'=s.os:=ho
 subst e
 exact I.call (g':=g') (t':=t') (d':=d') u hok hg hch
end
abbrev XK:=Value->Option Addr->Hp->Prop
abbrev St:=List (Option V)
abbrev VK:=V->Hp->Prop
abbrev TE:=St->Hp->VK->Prop
abbrev TT:=St->Hp->(Bool->Hp->Prop)->Prop
abbrev TA:=St->Hp->(List V->Hp->Prop)->Prop
structure Ends where
 nx:St->Hp->Prop
 rt:VK
 bk:St->Hp->Prop:=fun _ _=>False
 ct:St->Hp->Prop:=fun _ _=>False
abbrev TS:=Ends->St->Hp->Prop
def EP (X:Cx) (p_:List (Addr×Obj)) (σ:St) (Q:VK) (u:Value) (s':Shared):Prop:=∃v H',Inv X p_ σ H' s'/\aP' v u/\Q v H'
def TP (X:Cx) (p_:List (Addr×Obj)) (σ:St) (Q:Bool->Hp->Prop) (b:Bool) (s':Shared):Prop:=∃H',Inv X p_ σ H' s'/\Q b H'
def AP (X:Cx) (p_:List (Addr×Obj)) (σ:St) (Q:List V->Hp->Prop) (us:List Value) (s':Shared):Prop:=∃vs H',Inv X p_ σ H' s'/\aQ' vs us/\Q vs H'
def SP (X:Cx) (p_:List (Addr×Obj)) (D:Ends) (f:Flow) (s':Shared):Prop:=
 match f with
 | .next=>∃σ' H',Inv X p_ σ' H' s'/\D.nx σ' H'
 | .brk=>∃σ' H',Inv X p_ σ' H' s'/\D.bk σ' H'
 | .cont=>∃σ' H',Inv X p_ σ' H' s'/\D.ct σ' H'
 | .ret u=>∃v σ' H',Inv X p_ σ' H' s'/\aP' v u/\D.rt v H'
def PE (X:Cx) (e:Expr) (t:TE):Prop:=
 ∀(p_:List (Addr×Obj)) (s:Shared) (σ:St) (H:Hp) (Q:VK),Inv X p_ σ H s->t σ H Q->wpAny (model X.prog X.w) X.A (eval e X.env) (EP X p_ σ Q) X.xe s
def PT (X:Cx) (e:Expr) (t:TT):Prop:=
 ∀(p_:List (Addr×Obj)) (s:Shared) (σ:St) (H:Hp) (Q:Bool->Hp->Prop),Inv X p_ σ H s->t σ H Q->wpAny (model X.prog X.w) X.A (isTrue e X.env (eval e X.env)) (TP X p_ σ Q) X.xe s
def PW (X:Cx) (e:Expr) (t:TT):Prop:=
 ∀(whole:Sem Value) (p_:List (Addr×Obj)) (s:Shared) (σ:St) (H:Hp) (Q:Bool->Hp->Prop),Inv X p_ σ H s->t σ H Q->wpAny (model X.prog X.w) X.A (isTrue e X.env whole) (TP X p_ σ Q) X.xe s
theorem PW.pt {X:Cx} {e:Expr} {t:TT} (h:PW X e t):PT X e t:=h _
def PA (X:Cx) (es:List Expr) (t:TA):Prop:=
 ∀(pos:Pos) (p_:List (Addr×Obj)) (s:Shared) (σ:St) (H:Hp) (Q:List V->Hp->Prop),Inv X p_ σ H s->t σ H Q->wpAny (model X.prog X.w) X.A (spliced (backTo pos (starEach es X.env))) (AP X p_ σ Q) X.xe s
def PS (X:Cx) (st:Stmt) (t:TS):Prop:=
 ∀(p_:List (Addr×Obj)) (s:Shared) (σ:St) (H:Hp) (D:Ends),Inv X p_ σ H s->t D σ H->wpAny (model X.prog X.w) X.A (exec st X.env) (SP X p_ D) X.xe s
def PSs (X:Cx) (st:List Stmt) (t:TS):Prop:=
 ∀(p_:List (Addr×Obj)) (s:Shared) (σ:St) (H:Hp) (D:Ends),Inv X p_ σ H s->t D σ H->wpAny (model X.prog X.w) X.A (execs st X.env) (SP X p_ D) X.xe s
theorem thn {α:Type} {t:Sem α} {Q Q':α->Shared->Prop} {M:Model} {A:Around} {E:Value->Shared->Prop} {s:Shared} (h:wpAny M A t Q E s) (hQ:∀a s,Q a s->Q' a s):wpAny M A t Q' E s:=df h hQ fun _ _ x=>x
section
variable {X:Cx}
theorem bin {a b:Expr} {ta tb:TE} (ha:PE X a ta) (hb:PE X b tb) {p_:List (Addr×Obj)} {s:Shared} {σ:St} {H:Hp} {R:V->V->Hp->Prop} (I:Inv X p_ σ H s) (h:ta σ H fun x H1=>tb σ H1 fun y H2=>R x y H2)
  {α:Type} {Q:α->Shared->Prop} {f:Value->Value->Sem α}
  (hf:∀v u s2 x y H2,Inv X p_ σ H2 s2->aP' x v->aP' y u->R x y H2->wpAny (model X.prog X.w) X.A (f v u) Q X.xe s2):
  wpAny (model X.prog X.w) X.A (eval a X.env) (fun v s₁=>wpAny (model X.prog X.w) X.A (eval b X.env) (fun u s₂=>wpAny (model X.prog X.w) X.A (f v u) Q X.xe s₂) X.xe s₁) X.xe s:=by
 refine thn (ha p_ s σ H _ I h) fun v s1 ⟨x,H1,I1,r1,q1⟩=>?_
 refine thn (hb p_ s1 σ H1 _ I1 q1) fun u s2 ⟨y,H2,I2,r2,q2⟩=>?_
 exact hf v u s2 x y H2 I2 r1 r2 q2
def yl' (i:Nat):TE:=fun σ H Q=>∃v,σ[i]?=some (some v)/\Q v H
def tC (v:V):TE:=fun _ H Q=>Q v H
theorem qo' {i:Nat} {x:Str} {pos:Pos} (hN:X.N[i]?=some x) (hv:Vis X.env.scope x) (hd:(x == ("__debug__":Str))=false:=by decide) (hcd:(x == ("__classdict__":Str))=false:=by decide):PE X (.Name x pos) (yl' i):=by
 intro p_ s σ H Q I h
 obtain⟨v,e,h⟩:=h
 obtain⟨m,hn,hl⟩:=I.loc
 obtain⟨u,r,l⟩:=hl i x v hN e hv
 have fin:EP X p_ σ Q u s:=⟨v,H,I,r,h⟩
 rcases l with⟨hk,hm⟩|⟨hk,c,hc,hcell⟩
 .exact wpAny_Name (wpAny_loadName_local I.ok.kind hk hn hm fin) hd
 .rcases hk with hk|hk
  .exact wpAny_Name (wpAny_loadName_cell I.ok.kind hk hc hcell fin) hd
  .exact wpAny_Name (wpAny_loadName_free I.ok.kind hk hc hcell fin hcd) hd
theorem uM' {i j pos}:PE X (.Constant (.int i) j pos) (tC (.int i)):=fun _ _ _ H _ I h=>wpAny_Constant_int ⟨.int i,H,I.tok _,⟨_,rfl⟩,h⟩
theorem yM' {b j pos}:PE X (.Constant (.bool b) j pos) (tC (.bl b)):=fun _ _ _ H _ I h=>Constant_bool ⟨.bl b,H,I,rfl,h⟩
theorem uN' {j pos}:PE X (.Constant .none j pos) (tC .non):=fun _ _ _ H _ I h=>Constant_none ⟨.non,H,I,rfl,h⟩
theorem uO' {x j pos}:PE X (.Constant (.str x) j pos) (tC (.str x)):=fun _ _ _ H _ I h=>Calls.Constant_str ⟨.str x,H,I.tok _,⟨_,rfl⟩,h⟩
def Gl (X:Cx) (x:Str):Prop:=X.env.kindOf x=some .globalImplicit
theorem f3' {E:Value->Shared->Prop} {p_:List (Addr×Obj)} {s:Shared} {σ:St} {H:Hp} {x:Str} {u:Value} {pos:Pos} {Q:Value->Shared->Prop} (I:Inv X p_ σ H s) (hg:Gl X x) (hm:X.mg x=some u) (h:Q u s)
  (hd:(x == ("__debug__":Str))=false:=by decide):wpAny (model X.prog X.w) X.A (eval (.Name x pos) X.env) Q E s:=
 Calls.Name_function_global I.ok.kind hg (Calls.loadGlobal_global (by rw[I.ok.glob];exact I.mod.glob.keeps I.bk) hm h) hd
theorem cT' {E:Value->Shared->Prop} {p_:List (Addr×Obj)} {s:Shared} {σ:St} {H:Hp} {x:Str} {u:Value} {pos:Pos} {Q:Value->Shared->Prop} (I:Inv X p_ σ H s) (hg:Gl X x) (hm:X.mg x=none) (hv:bootBuiltins x=some u) (h:Q u s)
  (hn:x≠"__name__":=by decide) (hd:(x == ("__debug__":Str))=false:=by decide):wpAny (model X.prog X.w) X.A (eval (.Name x pos) X.env) Q E s:=by
 obtain⟨mb,h1,h2⟩:=I.mod.blt
 exact Calls.Name_function_global I.ok.kind hg (Calls.loadGlobal_builtin (by rw[I.ok.glob];exact I.mod.glob.keeps I.bk) hm (by rw[I.ok.blt];exact h1.keeps I.bk) ((h2 x hn).trans hv) h) hd
theorem sa' {x:Str} {v:V} {u:Value} {pos:Pos} (hg:Gl X x) (hm:X.mg x=none) (hv:bootBuiltins x=some u) (r:aP' v u) (hn:x≠"__name__":=by decide) (hd:(x == ("__debug__":Str))=false:=by decide):PE X (.Name x pos) (tC v):=
 fun _ _ _ H _ I h=>cT' I hg hm hv ⟨v,H,I,r,h⟩ hn hd
variable {a b:Expr} {ta tb:TE} {pos:Pos}
def PC (X:Cx) (op:CmpOp) (a b:Expr) (t:TE):Prop:=
 ∀(p_:List (Addr×Obj)) (s:Shared) (σ:St) (H:Hp) (Q:VK),Inv X p_ σ H s->t σ H Q->
  wpAny (model X.prog X.w) X.A (eval a X.env) (fun v s₁=>wpAny (model X.prog X.w) X.A (eval b X.env) (fun u s₂=>wpAny (model X.prog X.w) X.A (compareOp op v u) (EP X p_ σ Q) X.xe s₂) X.xe s₁) X.xe s
def tB (t:TE):TT:=fun σ H Q=>t σ H fun x H1=>∃c,x=.bl c/\Q c H1
theorem qp' {op:CmpOp} {t:TE} (h:PC X op a b t) (h1:behindInMarks op b=false:=by rfl):PE X (.Compare a [op] [b] pos) t:=fun p_ s σ H Q I hw=>wpAny_Compare1 (h p_ s σ H Q I hw) h1
theorem qq' {op:CmpOp} {t:TE} (h:PC X op a b t) (h1:behindInMarks op b=false:=by rfl):PT X (.Compare a [op] [b] pos) (tB t):=by
 intro p_ s σ H Q I hw
 refine wpAny_isTrue_Compare1 (thn (h p_ s σ H _ I hw) fun v s1 h1=>thn h1 fun u s2 h2=>thn h2 fun c s3 ⟨x,H1,I1,r1,q1⟩=>?_) h1
 obtain⟨d,rfl,q⟩:=q1
 cases r1
 exact bZ ⟨H1,I1,q⟩
variable {tA tB':TT} {aF':List Expr}
def uP' (t u:TT):TT:=fun σ H Q=>t σ H fun c H1=>if c=true then u σ H1 Q else Q false H1
def tOr (t u:TT):TT:=fun σ H Q=>t σ H fun c H1=>if c=true then Q true H1 else u σ H1 Q
def yN' (t:TT):TT:=fun σ H Q=>t σ H fun c H1=>Q (!c) H1
theorem sb' (ha:PT X a tA):PW X (.BoolOp .And [a] pos) tA:=by
 intro wh p_ s σ H Q I h
 refine isTrue_and (thn (ha p_ s σ H Q I h) fun c s1 e=>?_)
 cases c with
 |true=>exact isTrue_and_nil e
 |false=>exact e
theorem uQ' (ha:PT X a tA):PW X (.BoolOp .Or [a] pos) tA:=by
 intro wh p_ s σ H Q I h
 refine isTrue_or (thn (ha p_ s σ H Q I h) fun c s1 e=>?_)
 cases c with
 |false=>exact isTrue_or_nil e
 |true=>exact e
theorem qr' (ha:PT X a tA) (hb:PW X (.BoolOp .And (b :: aF') pos) tB'):PW X (.BoolOp .And (a :: b :: aF') pos) (uP' tA tB'):=by
 intro wh p_ s σ H Q I h
 refine isTrue_and (thn (ha p_ s σ H _ I h) fun c s1 ⟨H1,I1,q1⟩=>?_)
 cases c with
 |true=>exact hb wh p_ s1 σ H1 Q I1 q1
 |false=>exact⟨H1,I1,q1⟩
theorem uR' (ha:PT X a tA) (hb:PW X (.BoolOp .Or (b :: aF') pos) tB'):PW X (.BoolOp .Or (a :: b :: aF') pos) (tOr tA tB'):=by
 intro wh p_ s σ H Q I h
 refine isTrue_or (thn (ha p_ s σ H _ I h) fun c s1 ⟨H1,I1,q1⟩=>?_)
 cases c with
 |true=>exact⟨H1,I1,q1⟩
 |false=>exact hb wh p_ s1 σ H1 Q I1 q1
theorem uS' (ha:PT X a tA):PT X (.UnaryOp .Not a pos) (yN' tA):=by
 intro p_ s σ H Q I h
 exact isTrue_not (ha p_ s σ H (fun c H1=>Q (!c) H1) I h)
def oD' (ta tb:TE):TE:=fun σ H Q=>ta σ H fun x H1=>∃c,x=.bl c/\if c=true then tb σ H1 Q else Q (.bl false) H1
def ym' (ta tb:TE):TE:=fun σ H Q=>ta σ H fun x H1=>∃c,x=.bl c/\if c=true then Q (.bl true) H1 else tb σ H1 Q
def sc' (ta:TE):TE:=fun σ H Q=>ta σ H fun x H1=>∃c,x=.bl c/\Q (.bl (!c)) H1
theorem qs' {op} {t:TE} (h:PE X a t):PE X (.BoolOp op [a] pos) t:=fun p_ s σ H Q I hw=>BoolOp_one (h p_ s σ H Q I hw)
theorem qt' (ha:PE X a ta) (hb:PE X (.BoolOp .And (b :: aF') pos) tb):PE X (.BoolOp .And (a :: b :: aF') pos) (oD' ta tb):=by
 intro p_ s σ H Q I h
 refine BoolOp_and (thn (ha p_ s σ H _ I h) fun v s1 ⟨x,H1,I1,r1,q1⟩=>?_)
 obtain⟨c,rfl,q1⟩:=q1
 cases r1
 refine bZ ?_
 cases c with
 |true=>exact hb p_ s1 σ H1 Q I1 q1
 |false=>exact⟨.bl false,H1,I1,rfl,q1⟩
theorem uT' (ha:PE X a ta) (hb:PE X (.BoolOp .Or (b :: aF') pos) tb):PE X (.BoolOp .Or (a :: b :: aF') pos) (ym' ta tb):=by
 intro p_ s σ H Q I h
 refine BoolOp_or (thn (ha p_ s σ H _ I h) fun v s1 ⟨x,H1,I1,r1,q1⟩=>?_)
 obtain⟨c,rfl,q1⟩:=q1
 cases r1
 refine bZ ?_
 cases c with
 |false=>exact hb p_ s1 σ H1 Q I1 q1
 |true=>exact⟨.bl true,H1,I1,rfl,q1⟩
theorem uU' (ha:PE X a ta):PE X (.UnaryOp .Not a pos) (sc' ta):=by
 intro p_ s σ H Q I h
 refine UnaryOp_ (thn (ha p_ s σ H _ I h) fun v s1 ⟨x,H1,I1,r1,q1⟩=>?_)
 obtain⟨c,rfl,q1⟩:=q1
 cases r1
 exact not_of (bZ ⟨.bl (!c),H1,I1,rfl,q1⟩)
def tIf (t:TT) (ta tb:TE):TE:=fun σ H Q=>t σ H fun c H1=>if c=true then ta σ H1 Q else tb σ H1 Q
theorem oE' {c:Expr} (hc:PT X c tA) (ha:PE X a ta) (hb:PE X b tb):PE X (.IfExp c a b pos) (tIf tA ta tb):=by
 intro p_ s σ H Q I h
 refine wpAny_IfExp (thn (hc p_ s σ H _ I h) fun d s1 ⟨H1,I1,q1⟩=>?_)
 cases d with
 |true=>exact ha p_ s1 σ H1 Q I1 q1
 |false=>exact hb p_ s1 σ H1 Q I1 q1
end
def SqL (K:W.Frag) (H:Hp) (a:Addr) (xs:List V):Prop:=
 Rd H a (.lst xs)\/
  ∃(o:Obj) (its:Array Value) (n:Nat),K.lookup a=some o/\o.cls=.type "list"/\o.dict=none/\o.data=.seq its n/\its.size<=sizeLine/\aQ' xs its.toList
def SqT (K:W.Frag) (H:Hp) (a:Addr) (xs:List V):Prop:=
 Rd H a (.tup xs)\/
  ∃(o:Obj) (its:Array Value) (n:Nat),K.lookup a=some o/\o.cls=.type "tuple"/\o.data=.seq its n/\its.size<=sizeLine/\aQ' xs its.toList
def By':Value->Option V
 | .none=>some .non
 | .bool b=>some (.bl b)
 | .int i _=>some (.int i)
 | .str x _=>some (.str x)
 | .bytes b _=>some (.byt b)
 | .float b _=>some (.flt b)
 | .ref a=>some (.ref a)
 | .type n=>some (.ty n)
 |_=>none
theorem aP'.abs {x:V} {u:Value} (r:aP' x u):By' u=some x:=by
 cases x with
 |non=>cases r;rfl
 |bl _=>cases r;rfl
 |int _=>obtain⟨t,rfl⟩:=r;rfl
 |str _=>obtain⟨t,rfl⟩:=r;rfl
 |byt _=>obtain⟨t,rfl⟩:=r;rfl
 |flt _=>obtain⟨t,rfl⟩:=r;rfl
 |ref _=>cases r;rfl
 |ty _=>cases r;rfl
theorem aP'.inj {x y:V} {u:Value} (r:aP' x u) (q:aP' y u):x=y:=Option.some.inj (r.abs.symm.trans q.abs)
theorem aQ'.inj:∀{xs ys:List V} {us:List Value},aQ' xs us->aQ' ys us->xs=ys
 |_,_,_,.nil,.nil=>rfl
 |_,_,_,.cons r t,.cons r' t'=>by rw[r.inj r',aQ'.inj t t']
section
variable {X:Cx} {p_:List (Addr×Obj)} {σ:St} {H:Hp} {s:Shared} {a:Addr} {xs ys:List V}
theorem SqL.of {K:W.Frag} (h:H a=some (.lst xs)):SqL K H a xs:=.inl (.inl h)
theorem SqT.of {K:W.Frag} (h:H a=some (.tup xs)):SqT K H a xs:=.inl (.inl h)
theorem Inv.list (I:Inv X p_ σ H s) (h:SqL X.K H a xs):∃its:List Value,aQ' xs its/\PlainL s.heap a its.toArray/\xs.length<=sizeLine:=by
 rcases h with h|⟨o,its,n,hk,hc,hd,hs,hz,r⟩
 .obtain⟨z,its,n,r,e⟩:=h.ok I.hok
  exact⟨its,r,⟨_,n,e,rfl,rfl,rfl⟩,z⟩
 .refine⟨its.toList,r,⟨o,n,I.kIn a o hk,hc,hd,by simpa using hs⟩,?_⟩
  have e:=r.length
  simp only[aC]at e
  omega
theorem Inv.tuple (I:Inv X p_ σ H s) (h:SqT X.K H a xs):∃its:List Value,aQ' xs its/\IsTup s.heap a its.toArray/\xs.length<=sizeLine:=by
 rcases h with h|⟨o,its,n,hk,hc,hs,hz,r⟩
 .obtain⟨z,its,r,p⟩:=h.ok I.hok
  exact⟨its,r,p.tup,z⟩
 .refine⟨its.toList,r,⟨o,I.kIn a o hk,hc,n,by simpa using hs⟩,?_⟩
  have e:=r.length
  simp only[aC]at e
  omega
theorem Inv.list_inj (I:Inv X p_ σ H s) (h:SqL X.K H a xs) (h':SqL X.K H a ys):xs=ys:=by
 obtain⟨its,r,⟨o,n,e,_,_,d⟩,_⟩:=I.list h
 obtain⟨its',r',⟨o',n',e',_,_,d'⟩,_⟩:=I.list h'
 rw[e]at e';cases e'
 rw[d]at d'
 injection d' with d1 _
 have:its=its':=by simpa using congrArg Array.toList d1
 subst this
 exact r.inj r'
theorem Inv.tuple_inj (I:Inv X p_ σ H s) (h:SqT X.K H a xs) (h':SqT X.K H a ys):xs=ys:=by
 obtain⟨its,r,⟨o,e,_,n,d⟩,_⟩:=I.tuple h
 obtain⟨its',r',⟨o',e',_,n',d'⟩,_⟩:=I.tuple h'
 rw[e]at e';cases e'
 rw[d]at d'
 injection d' with d1 _
 have:its=its':=by simpa using congrArg Array.toList d1
 subst this
 exact r.inj r'
end
abbrev Cx.wish (X:Cx) (E:Value->Shared->Prop):Cx:={ X with xe:=E }
abbrev Cx.nox (X:Cx):Cx:=X.wish fun _ _=>False
theorem Cx.Ok.wish {X:Cx} (ok:X.Ok) (E:Value->Shared->Prop):(X.wish E).Ok:=
 ⟨ok.mod,ok.kind,ok.glob,ok.blt,ok.above,ok.inj,ok.has,ok.cab,ok.hd,ok.frames,ok.stk,ok.exf,ok.bs,ok.bsz,ok.noex,ok.exfs,ok.funs,ok.frf⟩
theorem Cx.Ok.unwish {X:Cx} {E:Value->Shared->Prop} (ok:(X.wish E).Ok):X.Ok:=
 ⟨ok.mod,ok.kind,ok.glob,ok.blt,ok.above,ok.inj,ok.has,ok.cab,ok.hd,ok.frames,ok.stk,ok.exf,ok.bs,ok.bsz,ok.noex,ok.exfs,ok.funs,ok.frf⟩
section
variable {X:Cx} {p_:List (Addr×Obj)} {σ:St} {H:Hp} {s:Shared} {E:Value->Shared->Prop}
theorem Inv.wish (I:Inv X p_ σ H s) (E:Value->Shared->Prop):Inv (X.wish E) p_ σ H s:=⟨I.ok.wish E,I.os,I.bare,I.base,I.loc,I.cell,I.free,I.freeC,I.pin,I.hok,I.len⟩
theorem Inv.unwish (I:Inv (X.wish E) p_ σ H s):Inv X p_ σ H s:=⟨I.ok.unwish,I.os,I.bare,I.base,I.loc,I.cell,I.free,I.freeC,I.pin,I.hok,I.len⟩
theorem SP.unwish {D:Ends} {f:Flow} {s':Shared} (h:SP (X.wish E) p_ D f s'):SP X p_ D f s':=by
 cases f with
 |next=>obtain⟨σ',H',I,q⟩:=h;exact⟨σ',H',I.unwish,q⟩
 |brk=>obtain⟨σ',H',I,q⟩:=h;exact⟨σ',H',I.unwish,q⟩
 |cont=>obtain⟨σ',H',I,q⟩:=h;exact⟨σ',H',I.unwish,q⟩
 |ret u=>obtain⟨v,σ',H',I,r,q⟩:=h;exact⟨v,σ',H',I.unwish,r,q⟩
theorem PSs.nox {st:List Stmt} {t:TS} (h:PSs X.nox st t):PSs X st t:=fun p_ s σ H D I hw=>
 df (h p_ s σ H D (I.wish _) hw) (fun _ _ q=>q.unwish) fun _ _ z=>False.elim z
end
section
variable {X:Cx} {st:Stmt} {aF':List Stmt} {t u:TS} {e:Expr} {te:TE} {pos:Pos}
def sd':TS:=fun D σ H=>D.nx σ H
def yO' (t u:TS):TS:=fun D σ H=>t { D with nx:=u D } σ H
theorem se':PSs X [] sd':=fun _ _ σ H _ I h=>wpAny_execs_nil ⟨σ,H,I,h⟩
theorem oF' (h1:PS X st t) (h2:PSs X aF' u):PSs X (st :: aF') (yO' t u):=by
 intro p_ s σ H D I h
 refine wpAny_execs_cons (thn (h1 p_ s σ H { D with nx:=u D } I h) fun f s1 q=>?_)
 cases f with
 |next=>
  obtain⟨σ',H',I',q⟩:=q
  exact h2 p_ s1 σ' H' D I' q
 |ret v=>exact q
 |brk=>exact q
 |cont=>exact q
theorem Inv.quiet {p_:List (Addr×Obj)} {σ:St} {H:Hp} {s:Shared} (I:Inv X p_ σ H s):interactive X.env=false:=by simp[interactive,I.ok.kind]
def sf' (te:TE):TS:=fun D σ H=>te σ H fun _ H1=>D.nx σ H1
theorem sg' (he:PE X e te) (hs:swapsWith e none pos.line X.env=pure false:=by rfl):PS X (.Expr e pos) (sf' te):=by
 intro p_ s σ H D I h
 exact wpAny_Expr_any (thn (he p_ s σ H _ I h) fun v s1 ⟨x,H1,I1,r1,q1⟩=>⟨σ,H1,I1,q1⟩) I.quiet hs
def yP' (te:TE):TS:=fun D σ H=>te σ H D.rt
theorem uV' (he:PE X e te):PS X (.Return (some e) pos) (yP' te):=by
 intro p_ s σ H D I h
 exact wpAny_Return_some (thn (he p_ s σ H _ I h) fun v s1 ⟨x,H1,I1,r1,q1⟩=>⟨x,σ,H1,I1,r1,q1⟩)
def yQ' (c:TT) (t u:TS):TS:=fun D σ H=>c σ H fun b H1=>if b=true then t D σ H1 else u D σ H1
theorem yR' {c:Expr} {a b:List Stmt} {tc:TT} (hc:PT X c tc) (ha:PSs X a t) (hb:PSs X b u):PS X (.If c a b pos) (yQ' tc t u):=by
 intro p_ s σ H D I h
 refine wpAny_If (thn (hc p_ s σ H _ I h) fun d s1 ⟨H1,I1,q1⟩=>?_)
 cases d with
 |true=>exact ha p_ s1 σ H1 D I1 q1
 |false=>exact hb p_ s1 σ H1 D I1 q1
def lu':TS:=fun _ _ _=>False
theorem oG':PS X st lu':=fun _ _ _ _ _ _ h=>h.elim
end
abbrev TG:=V->St->Hp->(St->Hp->Prop)->Prop
abbrev TGs:=List V->St->Hp->(St->Hp->Prop)->Prop
def PG (X:Cx) (target:Expr) (t:TG):Prop:=
 ∀(p_:List (Addr×Obj)) (s:Shared) (σ:St) (H:Hp) (v:V) (u:Value) (Q:St->Hp->Prop),Inv X p_ σ H s->aP' v u->t v σ H Q->
  wpAny (model X.prog X.w) X.A (assign target X.env u) (fun _ s'=>∃σ' H',Inv X p_ σ' H' s'/\Q σ' H') X.xe s
def PGs (X:Cx) (ts:List Expr) (t:TGs):Prop:=
 ∀(p_:List (Addr×Obj)) (s:Shared) (σ:St) (H:Hp) (vs:List V) (us:List Value) (Q:St->Hp->Prop),Inv X p_ σ H s->aQ' vs us->t vs σ H Q->
  wpAny (model X.prog X.w) X.A (assignInOrder ((assignEach ts X.env).map (·.2)) us) (fun _ s'=>∃σ' H',Inv X p_ σ' H' s'/\Q σ' H') X.xe s
abbrev yS':=V->V->V->Hp->(Hp->Prop)->Prop
def AH' (X:Cx) (t:yS'):Prop:=
 ∀(p_:List (Addr×Obj)) (s:Shared) (σ:St) (H:Hp) (o i v:V) (ov iv u:Value) (Q:Hp->Prop),Inv X p_ σ H s->aP' o ov->aP' i iv->aP' v u->t o i v H Q->
  wpAny (model X.prog X.w) X.A (setItem ov iv u) (fun _ s'=>∃H',Inv X p_ σ H' s'/\Q H') X.xe s
abbrev TIp:=V->V->Hp->VK->Prop
def PIp (X:Cx) (op:Operator) (t:TIp):Prop:=
 ∀(p_:List (Addr×Obj)) (s:Shared) (σ:St) (H:Hp) (x y:V) (v u:Value) (Q:VK),Inv X p_ σ H s->aP' x v->aP' y u->t x y H Q->
  wpAny (model X.prog X.w) X.A (inplaceOp op v u) (EP X p_ σ Q) X.xe s
section
variable {X:Cx} {pos:Pos}
def dI' (i:Nat):TG:=fun v σ H Q=>Q (σ.set i (some v)) H
theorem sh' {i:Nat} {x:Str} (hN:X.N.Nodup) (hi:X.N[i]?=some x) (hx:Loc X.env.scope x) (hf:X.fn x=true\/X.env.scope.names.lookup x=some .local:=by first|exact .inl rfl|exact .inr rfl|assumption):PG X (.Name x pos) (dI' i):=by
 intro p_ s σ H v u Q I r h
 exact wpAny_assign_Name (eE' I hN hi hx r (fun s' I'=>⟨_,H,I',h⟩) hf)
def yT':TGs:=fun vs σ H Q=>vs=[]/\Q σ H
def si' (t:TG) (u:TGs):TGs:=fun vs σ H Q=>∃v r,vs=v :: r/\t v σ H fun σ' H'=>u r σ' H' Q
theorem sj':PGs X [] yT':=by
 intro p_ s σ H vs us Q I r h
 obtain⟨e,h⟩:=h
 subst e
 cases r
 exact assignInOrder_nil ⟨σ,H,I,h⟩
theorem oH' {e:Expr} {es:List Expr} {t:TG} {u:TGs} (h1:PG X e t) (h2:PGs X es u)
  (hs:(assignEach (e :: es) X.env).map (·.2)=assign e X.env :: (assignEach es X.env).map (·.2):=by rfl):PGs X (e :: es) (si' t u):=by
 intro p_ s σ H vs us Q I r h
 obtain⟨v,vr,e1,h⟩:=h
 subst e1
 cases r with
 |cons r rr=>
  rw[hs]
  refine assignInOrder_cons (thn (h1 p_ s σ H _ _ _ I r h) fun _ s1 ⟨σ1,H1,I1,q1⟩=>?_)
  exact h2 p_ s1 σ1 H1 _ _ Q I1 rr q1
def Bz' (K:W.Frag) (n:Nat) (t:TGs):TG:=fun v σ H Q=>∃a xs,v=.ref a/\SqT K H a xs/\xs.length=n/\t xs σ H Q
theorem uW' {es:List Expr} {k:Nat} {t:TGs} {n:Nat} (hc:X.calm=true) (h:PGs X es t)
  (hn:(assignEach es X.env).length=n:=by rfl) (hst:(assignEach es X.env).findIdx? (·.1)=none:=by rfl):PG X (.Tuple es k pos) (Bz' X.K n t):=by
 intro p_ s σ H v u Q I r hw
 obtain⟨a,xs,e1,hq,hl,hw⟩:=hw
 subst e1
 cases r
 obtain⟨its,rv,ht,hz⟩:=I.tuple hq
 refine assign_Tuple_tuple (I.ok.hd hc) ht (by simp[hn,<- hl,rv.length]) hst fun h' hx=>?_
 have I1:Inv X p_ σ H { s with heap:=h' }:=I.kept (t':=s.toks) fun b o e=>hx b o (az (aq e)) e
 exact h p_ _ σ H xs _ Q I1 (by simpa using rv) hw
def yU' (to ti:TE) (t:yS'):TG:=fun v σ H Q=>to σ H fun o H1=>ti σ H1 fun i H2=>t o i v H2 fun H3=>Q σ H3
theorem uX' {o i:Expr} {to ti:TE} {t:yS'} (ho:PE X o to) (hi:PE X i ti) (hs:AH' X t)
  (ha:∀v,assign (.Subscript o i pos) X.env v=(do
   let ov <- holding [v] (eval o X.env)
   let iv <- holding [v,ov] (eval i X.env)
   standAt pos
   holding [v,ov,iv] (setItem ov iv v)
   release [v,ov,iv] []):=by intro _;rfl):PG X (.Subscript o i pos) (yU' to ti t):=by
 intro p_ s σ H v u Q I r h
 rw[ha]
 refine aa (aX (thn (ho p_ s σ H _ I h) fun ov s1 ⟨x,H1,I1,r1,q1⟩=>?_))
 refine aa (aX (thn (hi p_ s1 σ H1 _ I1 q1) fun iv s2 ⟨y,H2,I2,r2,q2⟩=>?_))
 refine aa (bO (aa (aX (thn (hs p_ s2 σ H2 x y v ov iv u _ I2 r1 r2 r q2) fun _ s3 ⟨H3,I3,q3⟩=>?_))))
 exact wpAny_release ⟨σ,H3,I3,q3⟩
def lk' (te:TE) (g:TG):TS:=fun D σ H=>te σ H fun x H1=>g x σ H1 D.nx
theorem jo' {tg e:Expr} {te:TE} {g:TG} (he:PE X e te) (hg:PG X tg g) (hs:swapsWithSole [tg] e pos.line X.env=pure false:=by rfl) (hw:swappedStores [tg] e X.env=pure none:=by rfl)
  (h1:(assignEach [tg] X.env).map (·.2)=[assign tg X.env]:=by rfl):PS X (.Assign [tg] e pos) (lk' te g):=by
 intro p_ s σ H D I h
 refine wpAny_Assign_stores (thn (he p_ s σ H _ I h) fun v s1 ⟨x,H1,I1,r1,q1⟩=>?_) hs hw
 rw[h1]
 exact thn (hg p_ s1 σ H1 x v _ I1 r1 q1) fun _ s2 q=>q
def yV' (i j:Nat) (ta:TA):TS:=fun D σ H=>ta σ H fun vs H1=>∃v w,vs=[v,w]/\D.nx ((σ.set i (some v)).set j (some w)) H1
theorem uY' {i j:Nat} {x y:Str} {a b:Expr} {ta:TA} {px py pt:Pos} {kt k2 pt2} (hc:X.calm=true) (hN:X.N.Nodup) (hi:X.N[i]?=some x) (hj:X.N[j]?=some y) (hij:i≠j)
  (hx:X.env.scope.names.lookup x=some .local) (hy:X.env.scope.names.lookup y=some .local) (ha:PA X [a,b] ta)
  (hw:swappedStores [.Tuple [.Name x px,.Name y py] kt pt] (.Tuple [a,b] k2 pt2) X.env=pure (some [x,y]))
  (hs:swapsWithSole [.Tuple [.Name x px,.Name y py] kt pt] (.Tuple [a,b] k2 pt2) pos.line X.env=pure false:=by rfl):
  PS X (.Assign [.Tuple [.Name x px,.Name y py] kt pt] (.Tuple [a,b] k2 pt2) pos) (yV' i j ta):=by
 intro p_ s σ H D I h
 rw[exec_Assign_arm]
 refine aa (bO ?_)
 rw[hs]
 refine aa (am ?_)
 rw[if_neg (by decide)]
 refine aa (Tuple_ (thn (ha _ p_ s σ H _ I h) fun us s1 ⟨vs,H1,I1,r1,q1⟩=>?_))
 obtain⟨v,w,e1,q1⟩:=q1
 subst e1
 obtain⟨u1,u2,rfl,rv,rw'⟩:∃u1 u2,us=[u1,u2]/\aP' v u1/\aP' w u2:=by
  cases r1 with
  |cons p q=>
   cases q with
   |cons p' q'=>
    cases q'
    exact⟨_,_,rfl,p,p'⟩
 refine bc ?_ (by show 2<=sizeLine;decide)
 have I2:Inv X p_ σ H1 { s1 with heap:=s1.heap.push { cls:=.type "tuple",data:=.seq [u1,u2].toArray } }:=I1.kept (t':=s1.toks) fun b o e=>ae _ e
 rw[hw]
 refine aa (am ?_)
 show wpAny (model X.prog X.w) X.A (do rule "assign.swapped-stores";let items <- unpackItems (.ref s1.heap.objs.size) 2 none;assignInOrder [fun v=>bindName X.env y v,fun v=>bindName X.env x v] items.reverse;pure Flow.next) _ _ _
 refine aa (cU (aa (unpackItems_tuple (items:=#[u1,u2]) (I.ok.hd hc) (IsTup.new s1.heap _) fun h' hx'=>?_)))
 have I3:=I2.kept (h':=h') (t':=s1.toks) fun b o e=>hx' b o (az (aq e)) e
 show wpAny _ _ (assignInOrder [fun v=>bindName X.env y v,fun v=>bindName X.env x v] [u2,u1] >>= fun _=>pure Flow.next) _ _ _
 refine aa (assignInOrder_cons (wpAny_bindName (eE' I3 hN hj (.inl hy) rw' (fun s2 I4=>?_) (.inr hy))))
 refine assignInOrder_cons (wpAny_bindName (eE' I4 hN hi (.inl hx) rv (fun s3 I5=>assignInOrder_nil (am ?_)) (.inr hx)))
 rw[List.set_comm _ _ (Ne.symm hij)]at I5
 exact⟨_,H1,I5,q1⟩
def yW' (i:Nat) (te:TE) (ti:TIp):TS:=fun D σ H=>∃x,σ[i]?=some (some x)/\te σ H fun y H1=>ti x y H1 fun z H2=>D.nx (σ.set i (some z)) H2
theorem qu' {i:Nat} {x:Str} {e:Expr} {te:TE} {op:Operator} {ti:TIp} {pos':Pos} (hN:X.N.Nodup) (hi:X.N[i]?=some x) (hx:Loc X.env.scope x) (he:PE X e te) (ho:PIp X op ti) (hf:X.fn x=true\/X.env.scope.names.lookup x=some .local:=by first|exact .inl rfl|exact .inr rfl|assumption):
  PS X (.AugAssign (.Name x pos') op e pos) (yW' i te ti):=by
 intro p_ s σ H D I h
 obtain⟨v,e1,h⟩:=h
 obtain⟨m,hn,hl⟩:=I.loc
 have vis:Vis X.env.scope x:=by rcases hx with k|k;exact .inl k;exact .inr (.inl k)
 obtain⟨u,r,l⟩:=hl i x v hi e1 vis
 refine wpAny_AugAssign_Name ?_
 have go:wpAny (model X.prog X.w) X.A (eval e X.env) (fun w s₂=>wpAny (model X.prog X.w) X.A (inplaceOp op u w) (fun r s₃=>wpAny (model X.prog X.w) X.A (storeName X.env x r) (fun _=>SP X p_ D .next) X.xe s₃) X.xe s₂) X.xe s:=by
  refine thn (he p_ s σ H _ I h) fun w s1 ⟨y,H1,I1,r1,q1⟩=>?_
  refine thn (ho p_ s1 σ H1 v y u w _ I1 r r1 q1) fun z s2 ⟨zv,H2,I2,r2,q2⟩=>?_
  exact eE' I2 hN hi hx r2 (fun s3 I3=>⟨_,H2,I3,q2⟩) hf
 rcases l with⟨hk,hm⟩|⟨hk,c,hc,hcell⟩
 .exact wpAny_loadName_local I.ok.kind hk hn hm go
 .rcases hk with hk|hk
  .exact wpAny_loadName_cell I.ok.kind hk hc hcell go
  .rcases hx with k|k
   .have:X.env.scope.names.lookup x=some .free:=hk
    rw[k]at this;cases this
   .have:X.env.scope.names.lookup x=some .free:=hk
    rw[k]at this;cases this
def ipI (f:Int->Int->Int):TIp:=fun x y H Q=>∃i j,x=.int i/\y=.int j/\Q (.int (f i j)) H
theorem uZ':PIp X .Add (ipI fun i j=>i+j):=by
 intro p_ s σ H x y v u Q I r1 r2 h
 obtain⟨i,j,e1,e2,q⟩:=h
 subst e1;subst e2
 obtain⟨t,rfl⟩:=r1
 obtain⟨t',rfl⟩:=r2
 exact iadd_int ⟨.int _,H,I.tok _,⟨_,rfl⟩,q⟩
theorem u0':PIp X .Sub (ipI fun i j=>i-j):=by
 intro p_ s σ H x y v u Q I r1 r2 h
 obtain⟨i,j,e1,e2,q⟩:=h
 subst e1;subst e2
 obtain⟨t,rfl⟩:=r1
 obtain⟨t',rfl⟩:=r2
 exact isub_int ⟨.int _,H,I.tok _,⟨_,rfl⟩,q⟩
end
section
variable {X:Cx} {pos:Pos}
def lv' (c:TT) (tb:TS):TS:=fun D σ H=>∃W:Nat->St->Hp->Prop,(∃m,W m σ H)/\∀m σ H,W m σ H->
 c σ H fun b H1=>if b=true then ∃N:St->Hp->Prop,(∀σ' H',N σ' H'->∃m',m'<m/\W m' σ' H')/\tb { D with nx:=N,ct:=N,bk:=D.nx } σ H1 else D.nx σ H1
theorem oI' {c:Expr} {body:List Stmt} {tc:TT} {tb:TS} (hp:PassesOwn (model X.prog X.w) X.A X.env X.xe) (hc:PT X c tc) (hb:PSs X body tb):PS X (.While c body [] pos) (lv' tc tb):=by
 intro p_ s σ H D I h
 obtain⟨W,⟨m0,w0⟩,turn⟩:=h
 refine wpAny_While (codeAny_whileLoop (fun n s'=>∃σ' H',Inv X p_ σ' H' s'/\W n σ' H') ?_ m0 ⟨σ,H,I,w0⟩)
 rintro n s1 ⟨σ1,H1,I1,w1⟩
 refine cv hp (thn (hc p_ s1 σ1 H1 _ I1 (turn n σ1 H1 w1)) fun b s2 ⟨H2,I2,q2⟩=>?_)
 cases b with
 |true=>
  obtain⟨N,hN,q2⟩:=q2
  rw[if_pos rfl]
  refine cv hp (thn (hb p_ s2 σ1 H2 _ I2 q2) fun f s3 q3=>?_)
  cases f with
  |next=>
   obtain⟨σ3,H3,I3,n3⟩:=q3
   obtain⟨m',hm,w3⟩:=hN σ3 H3 n3
   exact⟨m',hm,σ3,H3,I3,w3⟩
  |cont=>
   obtain⟨σ3,H3,I3,n3⟩:=q3
   obtain⟨m',hm,w3⟩:=hN σ3 H3 n3
   exact⟨m',hm,σ3,H3,I3,w3⟩
  |brk=>exact q3
  |ret v=>exact q3
 |false=>
  rw[if_neg aw]
  exact wpAny_execs_nil ⟨σ1,H2,I2,q2⟩
end
structure It where
 go:Nat->Hp->Prop
 yld:Nat->Hp->V->Hp->Prop
 stop:Nat->Hp->Prop
def dG' (X:Cx) (p_:List (Addr×Obj)) (H:Hp) (b:Addr):Prop:=
 H b=none/\b≠X.env.locals/\b∉X.fs/\(b∈X.ex\/X.s₀.heap.objs.size<=b)/\(∀x c,X.env.cells.lookup x=some c->c≠b)/\∀p∈X.pn++p_,p.1≠b
theorem Inv.fpOk {X:Cx} {p_:List (Addr×Obj)} {σ:St} {H H':Hp} {s:Shared} {b:Addr} (I:Inv X p_ σ H s) (hb:s.heap.objs.size<=b) (hn:H' b=none):dG' X p_ H' b:=by
 refine⟨hn,bu (ai I.lt hb),I.nofs hb,.inr (aN I.sz hb),fun x c e z=>?_,fun p hp z=>?_⟩
 .obtain⟨v,q⟩:=I.cell x c e
  exact absurd (ai q.lt (by rw[z];exact hb)) (aS _)
 .exact absurd (ai (aq (I.pin p hp).1) (by rw[z];exact hb)) (aS _)
structure Turn (P:Program) (w:World) (K:W.Frag) (tg:Expr) (J:It) (fp:List Addr) (it:Addr) (tn:Nat->Heap->Prop):Prop where
 mem:it∈fp
 obj:∀i h,tn i h->∀b∈fp,∃o,h.get? b=some o/\∀v,o.data≠.cell v
 keep:∀i h h',tn i h->(∀b∈fp,∀o,h.get? b=some o->h'.get? b=some o)->tn i h'
 item:∀(X:Cx),X.prog=P->X.w=w->X.K=K->X.calm=true->∀(i:Nat) (p_:List (Addr×Obj)) (s:Shared) (σ:St) (H:Hp) (E:Value->Shared->Prop),Inv X p_ σ H s->(∀b∈fp,dG' X p_ H b)->tn i s.heap->J.go i H->
  wpAny (model P w) X.A (pyNext (.ref it)) (fun r s1=>∃u,r=some u/\
   wpAny (model P w) X.A (letOwnedTupleGo tg (.ref it) u) (fun _ s2=>∃x H',Inv X p_ σ H' s2/\aP' x u/\J.yld i H x H'/\tn (i+1) s2.heap/\∀b∈fp,H' b=none) E s1) E s
 done:∀(X:Cx),X.prog=P->X.w=w->X.K=K->X.calm=true->∀(i:Nat) (p_:List (Addr×Obj)) (s:Shared) (σ:St) (H:Hp) (E:Value->Shared->Prop),Inv X p_ σ H s->(∀b∈fp,dG' X p_ H b)->tn i s.heap->J.stop i H->
  wpAny (model P w) X.A (pyNext (.ref it)) (fun r s1=>r=none/\Inv X p_ σ H s1) E s
 self:∀(A:Around) (i:Nat) (s:Shared) (Q:Value->Shared->Prop) (E:Value->Shared->Prop),tn i s.heap->Q (.ref it) s->wpAny (model P w) A (pyIter (.ref it)) Q E s
abbrev TI:=St->Hp->(It->Hp->Prop)->Prop
def PIE (X:Cx) (p_:List (Addr×Obj)) (σ:St) (tg:Expr) (R:It->Hp->Prop) (itv:Value) (s2:Shared):Prop:=
 ∃(it:Addr) (fp:List Addr) (tn:Nat->Heap->Prop) (J:It) (H':Hp),itv=.ref it/\Inv X p_ σ H' s2/\Turn X.prog X.w X.K tg J fp it tn/\tn 0 s2.heap/\(∀b∈fp,dG' X p_ H' b)/\R J H'
def PI (X:Cx) (tg iter:Expr) (wi:TI):Prop:=
 ∀(p_:List (Addr×Obj)) (s:Shared) (σ:St) (H:Hp) (R:It->Hp->Prop),Inv X p_ σ H s->wi σ H R->
  wpAny (model X.prog X.w) X.A (eval iter X.env) (fun v s1=>wpAny (model X.prog X.w) X.A (pyIter v) (PIE X p_ σ tg R) X.xe s1) X.xe s
theorem kx' {M:Model} {A:Around} {E:Value->Shared->Prop} {s:Shared} {tg:Expr} {it:Addr} {u:Value} {o:Obj} {n:String} {vs:Array Value} {Q:Unit->Shared->Prop} (ho:s.heap.get? it=some o) (hc:o.cls=.type n) (hd:o.data=.fields vs)
  (hn:["enumerate","zip","dict_itemiterator","dict_reverseitemiterator","odict_iterator","itertools.zip_longest","itertools.pairwise"].contains n=false) (hQ:Q () s):wpAny M A (letOwnedTupleGo tg (.ref it) u) Q E s:=by
 unfold letOwnedTupleGo
 cases tg<;>first
  |exact am hQ
  |(cases u<;>first
    |exact am hQ
    |(refine aa (wpAny_load ho ?_)
      rw[hc,hd]
      show wpAny M A (if(["enumerate","zip","dict_itemiterator","dict_reverseitemiterator","odict_iterator","itertools.zip_longest","itertools.pairwise"].contains n&&vs[0]? == some (rawInt _))=true then _ else _) Q E s
      rw[if_neg (by intro h;rw[hn,Bool.false_and]at h;cases h)]
      exact am hQ))
def Itl (K:W.Frag) (a:Addr):It:=
 ⟨fun i H=>∃xs x,SqL K H a xs/\xs[i]?=some x,fun i H x H'=>H'=H/\∀xs,SqL K H a xs->xs[i]?=some x,fun i H=>∃xs,SqL K H a xs/\xs.length<=i⟩
def Itt (K:W.Frag) (a:Addr):It:=
 ⟨fun i H=>∃xs x,SqT K H a xs/\xs[i]?=some x,fun i H x H'=>H'=H/\∀xs,SqT K H a xs->xs[i]?=some x,fun i H=>∃xs,SqT K H a xs/\xs.length<=i⟩
def Itr (lo:Int) (n:Nat):It:=⟨fun i _=>i<n,fun i H x H'=>H'=H/\x=.int (lo+i),fun i _=>n<=i⟩
theorem lw' {P:Program} {w:World} {K:W.Frag} {tg:Expr} (a it:Addr):Turn P w K tg (Itl K a) [it] it (fun i h=>h.IsListIter it a i) where
 mem:=by simp
 obj:=fun i h st b hb=>by
  have e:b=it:=by simpa using hb
  subst e
  obtain⟨o,e,c,d⟩:=st
  exact⟨o,e,fun v z=>by rw[d]at z;cases z⟩
 keep:=fun i h h' st k=>st.at fun o e=>k it (by simp) o e
 item:=by
  intro X hP hw hK hc i p_ s σ H E I hf st hg
  subst hP hw hK
  obtain⟨xs,x,hq,hx⟩:=hg
  obtain⟨its,rv,p,hz⟩:=I.list hq
  obtain⟨u,hu,ru⟩:=rv.get hx
  obtain⟨f0,f1,f2,f3,f4,f5⟩:=hf it (by simp)
  refine wpAny_pyNext_list_item st p.isList (x:=u) (by simpa using hu) fun h' st' sb=>?_
  have I1:Inv X p_ σ H { s with heap:=h' }:=I.turned (t':=s.toks) (fun b o hb e=>(sb.2 b hb).trans e) f0 f1 f3 f4 f5
  obtain⟨o,e,c,d⟩:=id st'
  exact⟨u,rfl,kx' (s:={ s with heap:=h' }) e c d (by decide) ⟨x,H,I1,ru,⟨rfl,fun ys hy=>by rw[I.list_inj hy hq];exact hx⟩,st',fun b hb=>(hf b hb).1⟩⟩
 done:=by
  intro X hP hw hK hc i p_ s σ H E I hf st hg
  subst hP hw hK
  obtain⟨xs,hq,hx⟩:=hg
  obtain⟨its,rv,p,hz⟩:=I.list hq
  obtain⟨f0,f1,f2,f3,f4,f5⟩:=hf it (by simp)
  have hl:=rv.length
  exact wpAny_pyNext_list_end (I.ok.hd hc) st p.isList (by simp;omega) fun h' eb=>⟨rfl,I.turned (t':=s.toks) (fun b o hb e=>eb b o hb e) f0 f1 f3 f4 f5⟩
 self:=fun _ _ _ _ _ st h=>wpAny_pyIter_listiter st h
theorem ky' {P:Program} {w:World} {K:W.Frag} {tg:Expr} (a it:Addr):Turn P w K tg (Itt K a) [it] it (fun i h=>h.IsTupleIter it a i) where
 mem:=by simp
 obj:=fun i h st b hb=>by
  have e:b=it:=by simpa using hb
  subst e
  obtain⟨o,e,c,d⟩:=st
  exact⟨o,e,fun v z=>by rw[d]at z;cases z⟩
 keep:=fun i h h' st k=>st.at fun o e=>k it (by simp) o e
 item:=by
  intro X hP hw hK hc i p_ s σ H E I hf st hg
  subst hP hw hK
  obtain⟨xs,x,hq,hx⟩:=hg
  obtain⟨its,rv,p,hz⟩:=I.tuple hq
  obtain⟨u,hu,ru⟩:=rv.get hx
  obtain⟨f0,f1,f2,f3,f4,f5⟩:=hf it (by simp)
  refine wpAny_pyNext_tuple_item st (show s.heap.IsTuple a its.toArray from p) (x:=u) (by simpa using hu) fun h' st' sb=>?_
  have I1:Inv X p_ σ H { s with heap:=h' }:=I.turned (t':=s.toks) (fun b o hb e=>(sb.2 b hb).trans e) f0 f1 f3 f4 f5
  obtain⟨o,e,c,d⟩:=id st'
  exact⟨u,rfl,kx' (s:={ s with heap:=h' }) e c d (by decide) ⟨x,H,I1,ru,⟨rfl,fun ys hy=>by rw[I.tuple_inj hy hq];exact hx⟩,st',fun b hb=>(hf b hb).1⟩⟩
 done:=by
  intro X hP hw hK hc i p_ s σ H E I hf st hg
  subst hP hw hK
  obtain⟨xs,hq,hx⟩:=hg
  obtain⟨its,rv,p,hz⟩:=I.tuple hq
  obtain⟨f0,f1,f2,f3,f4,f5⟩:=hf it (by simp)
  have hl:=rv.length
  exact wpAny_pyNext_tuple_end (I.ok.hd hc) st (show s.heap.IsTuple a its.toArray from p) (by simp;omega) fun h' eb=>⟨rfl,I.turned (t':=s.toks) (fun b o hb e=>eb b o hb e) f0 f1 f3 f4 f5⟩
 self:=fun _ _ _ _ _ st h=>wpAny_pyIter_tupleiter st h
theorem kz' {P:Program} {w:World} {K:W.Frag} {tg:Expr} (it:Addr) (lo:Int) (n:Nat):Turn P w K tg (Itr lo n) [it] it (fun i h=>IsRangeIter h it (lo+(i:Nat)*1) ((n:Int)-(i:Nat)) 1) where
 mem:=by simp
 obj:=fun i h st b hb=>by
  have e:b=it:=by simpa using hb
  subst e
  exact⟨_,st,fun v z=>by
   have z':Data.fields _=Data.cell v:=z
   cases z'⟩
 keep:=fun i h h' st k=>k it (by simp) _ st
 item:=by
  intro X hP hw hK hc i p_ s σ H E I hf st hg
  subst hP hw hK
  obtain⟨f0,f1,f2,f3,f4,f5⟩:=hf it (by simp)
  have W:=Walks.range (prog:=X.prog) (w:=X.w) (I.ok.hd hc) it lo 1 n
  refine W.item i s _ _ hg st fun v h' tk hv st' kk=>?_
  obtain⟨t,rfl⟩:=hv
  have I1:Inv X p_ σ H { s with heap:=h',toks:=tk }:=I.turned (fun b o hb e=>kk b o (by simpa using hb) e) f0 f1 f3 f4 f5
  refine⟨_,rfl,kx' (s:={ s with heap:=h',toks:=tk }) (n:="range_iterator") st' rfl rfl (by decide) ⟨.int (lo+i),H,I1,⟨t,?_⟩,⟨rfl,rfl⟩,st',fun b hb=>(hf b hb).1⟩⟩
  rw[Int.mul_one]
 done:=by
  intro X hP hw hK hc i p_ s σ H E I hf st hg
  subst hP hw hK
  obtain⟨f0,f1,f2,f3,f4,f5⟩:=hf it (by simp)
  exact wpAny_pyNext_range_end (I.ok.hd hc) st (by have:n<=i:=hg;omega) fun h' eb=>⟨rfl,I.turned (t':=s.toks) (fun b o hb e=>eb b o hb e) f0 f1 f3 f4 f5⟩
 self:=fun _ _ _ _ _ st h=>wpAny_pyIter_rangeiter st h
section
variable {X:Cx} {tg:Expr}
theorem jp' {p_:List (Addr×Obj)} {σ:St} {H:Hp} {s:Shared} {R:It->Hp->Prop} {E:Value->Shared->Prop} {lo hi:Int} {t u v:Tok} {tk:Nat} (I:Inv X p_ σ H s) (h1:-(2 ^ 62)<=lo) (h2:lo<2 ^ 62) (h3:-(2 ^ 62)<=hi) (h4:hi<2 ^ 62)
  (q:R (Itr lo (hi-lo).toNat) H):wpAny (model X.prog X.w) X.A (pyIter (.ref s.heap.objs.size)) (PIE X p_ σ tg R) E { s with heap:=s.heap.push { cls:=.type "range",data:=.fields #[.int lo t,.int hi u,.int 1 v] },toks:=tk }:=by
 refine wpAny_pyIter_range (IsRange.new ..) (small_one h1 h2 h3 h4) ?_
 have I1:Inv X p_ σ H { s with heap:=s.heap.push { cls:=.type "range",data:=.fields #[.int lo t,.int hi u,.int 1 v] },toks:=tk }:=I.kept fun b o e=>ae _ e
 refine⟨(s.heap.push { cls:=.type "range",data:=.fields #[.int lo t,.int hi u,.int 1 v] }).objs.size,[(s.heap.push { cls:=.type "range",data:=.fields #[.int lo t,.int hi u,.int 1 v] }).objs.size],_,_,H,rfl,
  I1.kept (t':=tk) fun b o e=>ae _ e,kz' _ lo (hi-lo).toNat,?_,fun b hb=>?_,q⟩
 .have e1:lo+((0:Nat):Int)*1=lo:=by simp
  have e2:(((hi-lo).toNat:Nat):Int)-((0:Nat):Int)=Builtin.Range.rangeSize lo hi 1:=by rw[rangeSize_one];split<;>omega
  show IsRangeIter _ _ (lo+((0:Nat):Int)*1) ((((hi-lo).toNat:Nat):Int)-((0:Nat):Int)) 1
  rw[e1,e2]
  exact av _ rfl
 .have e:b=(s.heap.push { cls:=.type "range",data:=.fields #[.int lo t,.int hi u,.int 1 v] }).objs.size:=by simpa using hb
  subst e
  exact I1.fpOk (aj _) (I1.hok.fresh (aj _))
def sk' (ta:TA):TI:=fun σ H R=>ta σ H fun vs H1=>∃j:Int,vs=[.int j]/\-(2 ^ 62)<=j/\j<2 ^ 62/\R (Itr 0 j.toNat) H1
def sm' (ta:TA):TI:=fun σ H R=>ta σ H fun vs H1=>∃i j:Int,vs=[.int i,.int j]/\(-(2 ^ 62)<=i/\i<2 ^ 62/\-(2 ^ 62)<=j/\j<2 ^ 62)/\R (Itr i (j-i).toNat) H1
theorem lx' {a:Expr} {ta:TA} {p pos:Pos} (hg:Gl X "range") (hm:X.mg "range"=none) (ha:PA X [a] ta) (hs:starEach [a] X.env=[(false,eval a X.env)]:=by rfl):PI X tg (.Call (.Name "range" p) [a] [] pos) (sk' ta):=by
 intro p_ s σ H R I h
 refine Call_ (cT' I hg hm boot_range (PyProof.Rows.callWith_type1 (thn (ha pos p_ s σ H _ I h) fun us s1 ⟨vs,H1,I1,r1,q1⟩=>?_) hs rfl))
 obtain⟨j,e,q1,q2,q⟩:=q1
 subst e
 cases r1 with
 |cons r rr=>
  cases rr
  obtain⟨t,rfl⟩:=r
  exact call_range_1 (jp' I1 ⋯ ⋯ q1 q2 (by simpa using q))
theorem ly' {a b:Expr} {ta:TA} {p pos:Pos} (hg:Gl X "range") (hm:X.mg "range"=none) (ha:PA X [a,b] ta) (hs:starEach [a,b] X.env=[(false,eval a X.env),(false,eval b X.env)]:=by rfl) (hs2:starEach [b] X.env=[(false,eval b X.env)]:=by rfl):
  PI X tg (.Call (.Name "range" p) [a,b] [] pos) (sm' ta):=by
 intro p_ s σ H R I h
 refine Call_ (cT' I hg hm boot_range (PyProof.Rows.callWith_type1 (thn (ha pos p_ s σ H _ I h) fun us s1 ⟨vs,H1,I1,r1,q1⟩=>?_) (by rw[hs,hs2]) (by rw[hs2];rfl)))
 obtain⟨i,j,e,⟨q1,q2,q3,q4⟩,q⟩:=q1
 subst e
 cases r1 with
 |cons r rr=>
  cases rr with
  |cons r' rr=>
   cases rr
   obtain⟨t,rfl⟩:=r
   obtain⟨t',rfl⟩:=r'
   exact call_range_2 (jp' I1 q1 q2 q3 q4 q)
def yX' (wi:TI) (g:TG) (tb:TS):TS:=fun D σ H=>wi σ H fun J H1=>∃W:Nat->Nat->St->Hp->Prop,(∃m,W 0 m σ H1)/\∀i m σ H,W i m σ H->
 (J.stop i H/\D.nx σ H)\/(J.go i H/\∃N:St->Hp->Prop,(∀σ' H',N σ' H'->∃m',m'<m/\W (i+1) m' σ' H')/\∀x H',J.yld i H x H'->g x σ H' fun σ2 H2=>tb { D with nx:=N,ct:=N,bk:=D.nx } σ2 H2)
def ca' (fp:List Addr) (h:Heap):List (Addr×Obj):=fp.filterMap fun b=>(h.get? b).map fun o=>(b,o)
theorem aS' {fp:List Addr} {h:Heap} {b:Addr} {o:Obj} (hb:b∈fp) (e:h.get? b=some o):(b,o)∈ca' fp h:=List.mem_filterMap.mpr ⟨b,hb,by rw[e];rfl⟩
theorem eV' {fp:List Addr} {h:Heap} {p:Addr×Obj} (hp:p∈ca' fp h):p.1∈fp/\h.get? p.1=some p.2:=by
 obtain⟨b,hb,e⟩:=List.mem_filterMap.mp hp
 cases q:h.get? b with
 |none=>rw[q]at e;cases e
 |some o=>
  rw[q]at e
  have e':(b,o)=p:=Option.some.inj e
  subst e'
  exact⟨hb,q⟩
theorem Inv.pinned {p_:List (Addr×Obj)} {σ:St} {H:Hp} {s:Shared} {fp:List Addr} (I:Inv X p_ σ H s) (hf:∀b∈fp,dG' X p_ H b) (ho:∀b∈fp,∃o,s.heap.get? b=some o/\∀v,o.data≠.cell v):Inv X (p_++ca' fp s.heap) σ H s:=
 I.pins_of fun p hp=>(aD.mp hp).elim (fun z=>I.pin p (ak _ z)) fun z=>by
  obtain⟨hb,e⟩:=eV' z
  obtain⟨f0,f1,f2,_⟩:=hf p.1 hb
  obtain⟨o,e',d⟩:=ho p.1 hb
  rw[e]at e';cases e'
  exact⟨e,f0,f1,f2,d⟩
theorem Inv.unpinned {p_ pl:List (Addr×Obj)} {σ:St} {H:Hp} {s:Shared} (I:Inv X (p_++pl) σ H s):Inv X p_ σ H s:=I.pins_of fun p hp=>I.pin p (ak _ (aZ _ hp))
theorem u1' {iter:Expr} {body:List Stmt} {wi:TI} {g:TG} {tb:TS} {pos:Pos} (hp:PassesOwn (model X.prog X.w) X.A X.env X.xe) (hc:X.calm=true) (hi:PI X tg iter wi) (hg:PG X tg g) (hb:PSs X body tb)
  (hs:∀x,foldedSetIterable iter X.env x=pure x:=by intro _;rfl):PS X (.For tg iter body [] pos) (yX' wi g tb):=by
 intro p_ s σ H D I h
 refine wpAny_For (thn (hi p_ s σ H _ I h) fun v s1 h1=>thn h1 fun itv s2 h2=>?_) hs
 obtain⟨it,fp,tn,J,H2,e,I2,T,st2,f2,W,⟨m0,w0⟩,turn⟩:=h2
 subst e
 have stat:∀{H':Hp},(∀b∈fp,H' b=none)->∀b∈fp,dG' X p_ H' b:=fun hn b hb=>⟨hn b hb,(f2 b hb).2⟩
 refine codeAny_forLoop_any (fun n s'=>∃i σ' H',Inv X p_ σ' H' s'/\tn i s'.heap/\(∀b∈fp,H' b=none)/\W i n σ' H') ?_ m0 ⟨0,σ,H2,I2,st2,fun b hb=>(f2 b hb).1,w0⟩
 rintro n s3 ⟨i,σ3,H3,I3,st3,fr3,w3⟩
 rcases turn i n σ3 H3 w3 with⟨stop,qn⟩|⟨go,N,hN,step⟩
 .refine cv hp (thn (T.done X rfl rfl rfl hc i p_ s3 σ3 H3 X.xe I3 (stat fr3) st3 stop) fun r s4 ⟨hr,I4⟩=>?_)
  subst hr
  exact wpAny_execs_nil ⟨σ3,H3,I4,qn⟩
 .refine cv hp (thn (T.item X rfl rfl rfl hc i p_ s3 σ3 H3 X.xe I3 (stat fr3) st3 go) fun r s4 ⟨u,hr,h4⟩=>?_)
  subst hr
  refine cv hp (thn h4 fun _ s5 ⟨x,H5,I5,r5,y5,st5,fr5⟩=>?_)
  have I5':=I5.pinned (stat fr5) (T.obj _ _ st5)
  refine cv hp (thn (hg _ s5 σ3 H5 x u _ I5' r5 (step x H5 y5)) fun _ s6 ⟨σ6,H6,I6,q6⟩=>?_)
  refine cv hp (thn (hb _ s6 σ6 H6 _ I6 q6) fun f s7 q7=>?_)
  have again:∀{σ7:St} {H7:Hp},Inv X (p_++ca' fp s5.heap) σ7 H7 s7->N σ7 H7->∃m,m<n/\∃i σ' H',Inv X p_ σ' H' s7/\tn i s7.heap/\(∀b∈fp,H' b=none)/\W i m σ' H':=fun {σ7 H7} I7 n7=>by
   obtain⟨m',hm,w7⟩:=hN σ7 H7 n7
   refine⟨m',hm,i+1,σ7,H7,I7.unpinned,T.keep _ _ _ st5 fun b hb o e=>(I7.pin (b,o) (ak _ (ak _ (aS' hb e)))).1,fun b hb=>?_,w7⟩
   obtain⟨o,e,d⟩:=T.obj _ _ st5 b hb
   exact(I7.pin (b,o) (ak _ (ak _ (aS' hb e)))).2.1
  cases f with
  |next=>obtain⟨σ7,H7,I7,n7⟩:=q7;exact again I7 n7
  |cont=>obtain⟨σ7,H7,I7,n7⟩:=q7;exact again I7 n7
  |brk=>obtain⟨σ7,H7,I7,q7⟩:=q7;exact⟨σ7,H7,I7.unpinned,q7⟩
  |ret v=>obtain⟨x7,σ7,H7,I7,r7,q7⟩:=q7;exact⟨x7,σ7,H7,I7.unpinned,r7,q7⟩
end
theorem oJ' {K:W.Frag} {a:Addr} {xs:List V} {g:TG} {tb:TS} {D:Ends} {σ:St} {H:Hp} (Pv:Nat->St->Hp->Prop) (h0:Pv 0 σ H) (hl:∀i σ H,i<=xs.length->Pv i σ H->SqL K H a xs)
  (hs:∀i x σ H,xs[i]?=some x->Pv i σ H->g x σ H fun σ2 H2=>tb { D with nx:=Pv (i+1),ct:=Pv (i+1),bk:=D.nx } σ2 H2) (hd:∀σ H,Pv xs.length σ H->D.nx σ H):
  ∃W:Nat->Nat->St->Hp->Prop,(∃m,W 0 m σ H)/\∀i m σ H,W i m σ H->
   ((Itl K a).stop i H/\D.nx σ H)\/((Itl K a).go i H/\∃N:St->Hp->Prop,(∀σ' H',N σ' H'->∃m',m'<m/\W (i+1) m' σ' H')/\∀x H',(Itl K a).yld i H x H'->g x σ H' fun σ2 H2=>tb { D with nx:=N,ct:=N,bk:=D.nx } σ2 H2):=by
 refine⟨fun i m σ H=>m=xs.length-i/\i<=xs.length/\Pv i σ H,⟨xs.length,by simp,aP _,h0⟩,?_⟩
 rintro i m σ H ⟨rfl,hi,p⟩
 have q:=hl i σ H hi p
 by_cases hlt:i<xs.length
 .refine .inr ⟨⟨xs,xs[i],q,by simp[hlt]⟩,Pv (i+1),fun σ' H' p'=>⟨xs.length-(i+1),⋯,rfl,hlt,p'⟩,fun x H' y=>?_⟩
  obtain⟨e,y⟩:=y
  subst e
  exact hs i x σ _ (y xs q) p
 .have e:i=xs.length:=by omega
  subst e
  exact .inl ⟨⟨xs,q,aj _⟩,hd σ H p⟩
theorem sn' {K:W.Frag} {a:Addr} {xs:List V} {g:TG} {tb:TS} {D:Ends} {σ:St} {H:Hp} (Pv:Nat->St->Hp->Prop) (h0:Pv 0 σ H) (hl:∀i σ H,i<=xs.length->Pv i σ H->SqT K H a xs)
  (hs:∀i x σ H,xs[i]?=some x->Pv i σ H->g x σ H fun σ2 H2=>tb { D with nx:=Pv (i+1),ct:=Pv (i+1),bk:=D.nx } σ2 H2) (hd:∀σ H,Pv xs.length σ H->D.nx σ H):
  ∃W:Nat->Nat->St->Hp->Prop,(∃m,W 0 m σ H)/\∀i m σ H,W i m σ H->
   ((Itt K a).stop i H/\D.nx σ H)\/((Itt K a).go i H/\∃N:St->Hp->Prop,(∀σ' H',N σ' H'->∃m',m'<m/\W (i+1) m' σ' H')/\∀x H',(Itt K a).yld i H x H'->g x σ H' fun σ2 H2=>tb { D with nx:=N,ct:=N,bk:=D.nx } σ2 H2):=by
 refine⟨fun i m σ H=>m=xs.length-i/\i<=xs.length/\Pv i σ H,⟨xs.length,by simp,aP _,h0⟩,?_⟩
 rintro i m σ H ⟨rfl,hi,p⟩
 have q:=hl i σ H hi p
 by_cases hlt:i<xs.length
 .refine .inr ⟨⟨xs,xs[i],q,by simp[hlt]⟩,Pv (i+1),fun σ' H' p'=>⟨xs.length-(i+1),⋯,rfl,hlt,p'⟩,fun x H' y=>?_⟩
  obtain⟨e,y⟩:=y
  subst e
  exact hs i x σ _ (y xs q) p
 .have e:i=xs.length:=by omega
  subst e
  exact .inl ⟨⟨xs,q,aj _⟩,hd σ H p⟩
theorem lz' {lo:Int} {n:Nat} {g:TG} {tb:TS} {D:Ends} {σ:St} {H:Hp} (Pv:Nat->St->Hp->Prop) (h0:Pv 0 σ H)
  (hs:∀i σ H,i<n->Pv i σ H->g (.int (lo+i)) σ H fun σ2 H2=>tb { D with nx:=Pv (i+1),ct:=Pv (i+1),bk:=D.nx } σ2 H2) (hd:∀σ H,Pv n σ H->D.nx σ H):
  ∃W:Nat->Nat->St->Hp->Prop,(∃m,W 0 m σ H)/\∀i m σ H,W i m σ H->
   ((Itr lo n).stop i H/\D.nx σ H)\/((Itr lo n).go i H/\∃N:St->Hp->Prop,(∀σ' H',N σ' H'->∃m',m'<m/\W (i+1) m' σ' H')/\∀x H',(Itr lo n).yld i H x H'->g x σ H' fun σ2 H2=>tb { D with nx:=N,ct:=N,bk:=D.nx } σ2 H2):=by
 refine⟨fun i m σ H=>m=n-i/\i<=n/\Pv i σ H,⟨n,by simp,aP _,h0⟩,?_⟩
 rintro i m σ H ⟨rfl,hi,p⟩
 by_cases hlt:i<n
 .refine .inr ⟨hlt,Pv (i+1),fun σ' H' p'=>⟨n-(i+1),⋯,rfl,hlt,p'⟩,fun x H' y=>?_⟩
  obtain⟨e,y⟩:=y
  subst e y
  exact hs i σ _ hlt p
 .have e:i=n:=by omega
  subst e
  exact .inl ⟨aj _,hd σ H p⟩
abbrev R2:=V->V->Hp->VK->Prop
def OpR (X:Cx) (f:Value->Value->Sem Value) (r:R2):Prop:=
 ∀(p_:List (Addr×Obj)) (s:Shared) (σ:St) (H:Hp) (x y:V) (v u:Value) (Q:VK),Inv X p_ σ H s->aP' x v->aP' y u->r x y H Q->
  wpAny (model X.prog X.w) X.A (f v u) (EP X p_ σ Q) X.xe s
def UnR (X:Cx) (f:Value->Sem Value) (r:V->Hp->VK->Prop):Prop:=
 ∀(p_:List (Addr×Obj)) (s:Shared) (σ:St) (H:Hp) (x:V) (v:Value) (Q:VK),Inv X p_ σ H s->aP' x v->r x H Q->
  wpAny (model X.prog X.w) X.A (f v) (EP X p_ σ Q) X.xe s
def a4' (X:Cx) (f:Value) (r:List V->Hp->VK->Prop):Prop:=
 ∀(p_:List (Addr×Obj)) (s:Shared) (σ:St) (H:Hp) (xs:List V) (us:List Value) (Q:VK),Inv X p_ σ H s->aQ' xs us->r xs H Q->
  wpAny (model X.prog X.w) X.A (call f us) (EP X p_ σ Q) X.xe s
def BA' (X:Cx) (r:V->Hp->(Bool->Hp->Prop)->Prop):Prop:=
 ∀(p_:List (Addr×Obj)) (s:Shared) (σ:St) (H:Hp) (x:V) (v:Value) (Q:Bool->Hp->Prop),Inv X p_ σ H s->aP' x v->r x H Q->
  wpAny (model X.prog X.w) X.A (truthy v) (TP X p_ σ Q) X.xe s
def tOp (r:R2) (ta tb:TE):TE:=fun σ H Q=>ta σ H fun x H1=>tb σ H1 fun y H2=>r x y H2 Q
def tUn (r:V->Hp->VK->Prop) (ta:TE):TE:=fun σ H Q=>ta σ H fun x H1=>r x H1 Q
def rI (C:Int->Int->Prop) (g:Int->Int->V):R2:=fun x y H Q=>∃i j,x=.int i/\y=.int j/\C i j/\Q (g i j) H
def rI0 (g:Int->Int->V):R2:=fun x y H Q=>∃i j,x=.int i/\y=.int j/\Q (g i j) H
def rU (g:Int->V):V->Hp->VK->Prop:=fun x H Q=>∃i,x=.int i/\Q (g i) H
section
variable {X:Cx} {a b c:Expr} {ta tb tc:TE} {pos:Pos}
theorem yY' (ha:PE X a ta) (hb:PE X b tb) {p_:List (Addr×Obj)} {s:Shared} {σ:St} {H:Hp} {R:V->V->Hp->Prop} (I:Inv X p_ σ H s)
  (h:ta σ H fun x H1=>tb σ H1 fun y H2=>R x y H2) {Q:Value->Shared->Prop} {f:Value->Value->Sem Value}
  (hf:∀v u s2 x y H2,Inv X p_ σ H2 s2->aP' x v->aP' y u->R x y H2->wpAny (model X.prog X.w) X.A (f v u) Q X.xe s2):
  wpAny (model X.prog X.w) X.A (eval a X.env) (fun v s₁=>wpAny (model X.prog X.w) X.A (eval b X.env) (fun u s₂=>wpAny (model X.prog X.w) X.A (f v u) Q X.xe s₂) X.xe s₁) X.xe s:=by
 refine thn (ha p_ s σ H _ I h) fun v s1 ⟨x,H1,I1,r1,q1⟩=>?_
 refine thn (hb p_ s1 σ H1 _ I1 q1) fun u s2 ⟨y,H2,I2,r2,q2⟩=>?_
 exact hf v u s2 x y H2 I2 r1 r2 q2
theorem yZ' {op:Operator} {r:R2} (ho:OpR X (binaryOp op) r) (ha:PE X a ta) (hb:PE X b tb):PE X (.BinOp a op b pos) (tOp r ta tb):=by
 intro p_ s σ H Q I h
 exact wpAny_BinOp (yY' ha hb I h fun v u s2 x y H2 I2 rx ry q=>ho p_ s2 σ H2 x y v u Q I2 rx ry q)
theorem y0' {op:UnaryOp} {r:V->Hp->VK->Prop} (ho:UnR X (unaryOp op) r) (ha:PE X a ta):PE X (.UnaryOp op a pos) (tUn r ta):=by
 intro p_ s σ H Q I h
 exact UnaryOp_ (thn (ha p_ s σ H _ I h) fun v s1 ⟨x,H1,I1,r1,q1⟩=>ho p_ s1 σ H1 x v Q I1 r1 q1)
theorem opI {f:Value->Value->Sem Value} {C:Int->Int->Prop} {g:Int->Int->Int}
  (rule:∀(i j:Int) (t u:Tok) (s:Shared) (Q:Value->Shared->Prop) (E:Value->Shared->Prop),C i j->Q (.int (g i j) s.toks) { s with toks:=s.toks+1 }->wpAny (model X.prog X.w) X.A (f (.int i t) (.int j u)) Q E s):
  OpR X f (rI C fun i j=>.int (g i j)):=by
 intro p_ s σ H x y v u Q I rx ry h
 obtain⟨i,j,rfl,rfl,hc,q⟩:=h
 obtain⟨t,rfl⟩:=rx
 obtain⟨t',rfl⟩:=ry
 exact rule i j t t' s _ _ hc ⟨.int (g i j),H,I.tok _,⟨_,rfl⟩,q⟩
theorem y1' {f:Value->Value->Sem Value} {g:Int->Int->Int}
  (rule:∀(i j:Int) (t u:Tok) (s:Shared) (Q:Value->Shared->Prop) (E:Value->Shared->Prop),Q (.int (g i j) s.toks) { s with toks:=s.toks+1 }->wpAny (model X.prog X.w) X.A (f (.int i t) (.int j u)) Q E s):
  OpR X f (rI0 fun i j=>.int (g i j)):=by
 intro p_ s σ H x y v u Q I rx ry h
 obtain⟨i,j,rfl,rfl,q⟩:=h
 obtain⟨t,rfl⟩:=rx
 obtain⟨t',rfl⟩:=ry
 exact rule i j t t' s _ _ ⟨.int (g i j),H,I.tok _,⟨_,rfl⟩,q⟩
theorem yn' {f:Value->Value->Sem Value} {g:Int->Int->Bool}
  (rule:∀(i j:Int) (t u:Tok) (s:Shared) (Q:Value->Shared->Prop) (E:Value->Shared->Prop),Q (.bool (g i j)) s->wpAny (model X.prog X.w) X.A (f (.int i t) (.int j u)) Q E s):
  OpR X f (rI0 fun i j=>.bl (g i j)):=by
 intro p_ s σ H x y v u Q I rx ry h
 obtain⟨i,j,rfl,rfl,q⟩:=h
 obtain⟨t,rfl⟩:=rx
 obtain⟨t',rfl⟩:=ry
 exact rule i j t t' s _ _ ⟨.bl (g i j),H,I,rfl,q⟩
def BB' (i j:Int):Prop:=0<j/\j<1073741824
def y2' (i j:Int):Prop:=0<=j/\j<=1000000/\i.natAbs<2 ^ 64
def yo' (i j:Int):Prop:=(-(2 ^ 64)<i/\i<2 ^ 64)\/(-(2 ^ 64)<j/\j<2 ^ 64)
theorem yo'.ok {i j:Int} (h:yo' i j):IntMulOk i j:=by
 rcases h with⟨h1,h2⟩|⟨h1,h2⟩
 .exact .of_left (intBits_le_64 h1 h2)
 .exact .of_right (intBits_le_64 h1 h2)
theorem fG' (k:Nat):(0:Int)<=2 ^ k:=by
 rw[two_pow_cast]
 exact Int.natCast_nonneg _
theorem u2':OpR X (binaryOp .Add) (rI0 fun i j=>.int (i+j)):=y1' fun _ _ _ _ _ _ _ q=>add_int q
theorem u3':OpR X (binaryOp .Sub) (rI0 fun i j=>.int (i-j)):=y1' fun _ _ _ _ _ _ _ q=>sub_int q
theorem so':OpR X (binaryOp .FloorDiv) (rI BB' fun i j=>.int (i / j)):=opI fun i j _ _ _ _ _ hc q=>by
 have h1:(0:Int)<j:=hc.1
 have h2:j<1073741824:=hc.2
 exact floordiv_int ⋯ (by rw[Int.fdiv_eq_ediv_of_nonneg i ⋯];exact q) (.inl (PyProof.noPylong_small ⋯))
theorem u4':OpR X (binaryOp .Mod) (rI (fun _ j=>0<j) fun i j=>.int (i % j)):=opI fun i j _ _ _ _ _ hc q=>by
 have h1:(0:Int)<j:=hc
 exact mod_int' ⋯ (by rw[Int.fmod_eq_emod_of_nonneg i ⋯];exact q)
theorem u5':OpR X (binaryOp .Pow) (rI y2' fun i j=>.int (i ^ j.toNat)):=opI fun _ _ _ _ _ _ _ hc q=>pow_int_small hc.1 hc.2.1 hc.2.2 q
theorem u6':OpR X (binaryOp .RShift) (rI (fun _ j=>0<=j) fun i j=>.int (i / 2 ^ j.toNat)):=opI fun i j _ _ _ _ _ hc q=>
 rshift_int hc (by rw[Int.fdiv_eq_ediv_of_nonneg i (fG' _)];exact q)
theorem u7':OpR X (binaryOp .BitAnd) (rI0 fun i j=>.int (Builtin.bitAnd i j)):=y1' fun _ _ _ _ _ _ _ q=>and_int q
theorem unI {f:Value->Sem Value} {g:Int->Int}
  (rule:∀(i:Int) (t:Tok) (s:Shared) (Q:Value->Shared->Prop) (E:Value->Shared->Prop),Q (.int (g i) s.toks) { s with toks:=s.toks+1 }->wpAny (model X.prog X.w) X.A (f (.int i t)) Q E s):
  UnR X f (rU fun i=>.int (g i)):=by
 intro p_ s σ H x v Q I rx h
 obtain⟨i,rfl,q⟩:=h
 obtain⟨t,rfl⟩:=rx
 exact rule i t s _ _ ⟨.int (g i),H,I.tok _,⟨_,rfl⟩,q⟩
theorem u8':UnR X (unaryOp .USub) (rU fun i=>.int (-i)):=unI fun _ _ _ _ _ q=>neg_int q
end
def u9':V->V->Bool
 | .non,.non=>true | .non,.int _=>true | .int _,.non=>true | .non,.bl _=>true | .bl _,.non=>true | .non,.str _=>true | .str _,.non=>true
 | .int _,.int _=>true | .bl _,.bl _=>true | .str _,.str _=>true | .byt _,.byt _=>true
 | .int _,.str _=>true | .str _,.int _=>true | .bl _,.str _=>true | .str _,.bl _=>true
 |_,_=>false
def rEq:R2:=fun x y H Q=>u9' x y=true/\Q (.bl (decide (x=y))) H
def rNe:R2:=fun x y H Q=>u9' x y=true/\Q (.bl (!decide (x=y))) H
theorem iB' {i j:Int}:decide (V.int i=V.int j)=(i == j):=by
 rw[cO]
 simp
theorem qv' {i j:Bool}:decide (V.bl i=V.bl j)=(i == j):=by
 rw[cO]
 simp
theorem lA' {i j:Str}:decide (V.str i=V.str j)=(i == j):=by
 rw[cO]
 simp
theorem lB' {i j:Array UInt8}:decide (V.byt i=V.byt j)=(i.toList == j.toList):=by
 rw[cO]
 cases i
 cases j
 simp
section
variable {X:Cx} {a b c:Expr} {ta tb tc:TE} {pos:Pos}
theorem aG' {p_:List (Addr×Obj)} {σ:St} {H:Hp} {s:Shared} {Q:VK} {k k':Bool} (I:Inv X p_ σ H s) (q:Q (.bl k) H) (e:k=k'):EP X p_ σ Q (.bool k') s:=by
 subst e
 exact⟨.bl k,H,I,rfl,q⟩
theorem y3':OpR X (compareOp .Eq) rEq:=by
 intro p_ s σ H x y v u Q I rx ry h
 obtain⟨hs,q⟩:=h
 cases x with
 |non=>
  cases rx
  cases y with
  |non=>cases ry;exact PySem.EqNone.eq_none_none (aG' I q (by simp))
  |bl j=>cases ry;exact PySem.EqNone.eq_none_bool (aG' I q (by simp))
  |int j=>obtain⟨t',rfl⟩:=ry;exact PySem.EqNone.eq_none_int (aG' I q (by simp))
  |str j=>obtain⟨t',rfl⟩:=ry;exact PySem.EqNone.eq_none_str (aG' I q (by simp))
  |_=>exact absurd (show false=true from hs) aw
 |bl i=>
  cases rx
  cases y with
  |non=>cases ry;exact PySem.EqNone.eq_bool_none (aG' I q (by simp))
  |bl j=>cases ry;exact eq_bool (aG' I q qv')
  |str j=>obtain⟨t',rfl⟩:=ry;exact PySem.EqMixed.eq_bool_str (aG' I q (by simp))
  |_=>exact absurd (show false=true from hs) aw
 |int i=>
  obtain⟨t,rfl⟩:=rx
  cases y with
  |non=>cases ry;exact PySem.EqNone.eq_int_none (aG' I q (by simp))
  |int j=>obtain⟨t',rfl⟩:=ry;exact eq_int (aG' I q iB')
  |str j=>obtain⟨t',rfl⟩:=ry;exact PySem.EqMixed.eq_int_str (aG' I q (by simp))
  |_=>exact absurd (show false=true from hs) aw
 |str i=>
  obtain⟨t,rfl⟩:=rx
  cases y with
  |non=>cases ry;exact PySem.EqNone.eq_str_none (aG' I q (by simp))
  |bl j=>cases ry;exact PySem.EqMixed.eq_str_bool (aG' I q (by simp))
  |int j=>obtain⟨t',rfl⟩:=ry;exact PySem.EqMixed.eq_str_int (aG' I q (by simp))
  |str j=>obtain⟨t',rfl⟩:=ry;exact eq_str (aG' I q lA')
  |_=>exact absurd (show false=true from hs) aw
 |byt i=>
  obtain⟨t,rfl⟩:=rx
  cases y with
  |byt j=>obtain⟨t',rfl⟩:=ry;exact W.eq_bytes (aG' I q lB')
  |_=>exact absurd (show false=true from hs) aw
 |_=>cases y<;>exact absurd (show false=true from hs) aw
theorem y4':OpR X (compareOp .NotEq) rNe:=by
 intro p_ s σ H x y v u Q I rx ry h
 obtain⟨hs,q⟩:=h
 cases x with
 |non=>
  cases rx
  cases y with
  |non=>cases ry;exact PySem.EqNone.ne_none_none (aG' I q (by simp))
  |bl j=>cases ry;exact PySem.EqNone.ne_none_bool (aG' I q (by simp))
  |int j=>obtain⟨t',rfl⟩:=ry;exact PySem.EqNone.ne_none_int (aG' I q (by simp))
  |str j=>obtain⟨t',rfl⟩:=ry;exact PySem.EqNone.ne_none_str (aG' I q (by simp))
  |_=>exact absurd (show false=true from hs) aw
 |bl i=>
  cases rx
  cases y with
  |non=>cases ry;exact PySem.EqNone.ne_bool_none (aG' I q (by simp))
  |bl j=>cases ry;exact ne_bool (aG' I q (congrArg not qv'))
  |str j=>obtain⟨t',rfl⟩:=ry;exact PySem.EqMixed.ne_bool_str (aG' I q (by simp))
  |_=>exact absurd (show false=true from hs) aw
 |int i=>
  obtain⟨t,rfl⟩:=rx
  cases y with
  |non=>cases ry;exact PySem.EqNone.ne_int_none (aG' I q (by simp))
  |int j=>obtain⟨t',rfl⟩:=ry;exact ne_int (aG' I q (congrArg not iB'))
  |str j=>obtain⟨t',rfl⟩:=ry;exact PySem.EqMixed.ne_int_str (aG' I q (by simp))
  |_=>exact absurd (show false=true from hs) aw
 |str i=>
  obtain⟨t,rfl⟩:=rx
  cases y with
  |non=>cases ry;exact PySem.EqNone.ne_str_none (aG' I q (by simp))
  |bl j=>cases ry;exact PySem.EqMixed.ne_str_bool (aG' I q (by simp))
  |int j=>obtain⟨t',rfl⟩:=ry;exact PySem.EqMixed.ne_str_int (aG' I q (by simp))
  |str j=>obtain⟨t',rfl⟩:=ry;exact ne_str (aG' I q (congrArg not lA'))
  |_=>exact absurd (show false=true from hs) aw
 |byt i=>
  obtain⟨t,rfl⟩:=rx
  cases y with
  |byt j=>obtain⟨t',rfl⟩:=ry;exact W.ne_bytes (aG' I q (congrArg not lB'))
  |_=>exact absurd (show false=true from hs) aw
 |_=>cases y<;>exact absurd (show false=true from hs) aw
theorem y5':OpR X (compareOp .Lt) (rI0 fun i j=>.bl (decide (i<j))):=yn' fun _ _ _ _ _ _ _ q=>lt_int q
theorem y6':OpR X (compareOp .LtE) (rI0 fun i j=>.bl (decide (i<=j))):=yn' fun _ _ _ _ _ _ _ q=>le_int q
theorem y7':OpR X (compareOp .Gt) (rI0 fun i j=>.bl (decide (j<i))):=yn' fun _ _ _ _ _ _ _ q=>gt_int q
theorem y8':OpR X (compareOp .GtE) (rI0 fun i j=>.bl (decide (j<=i))):=yn' fun _ _ _ _ _ _ _ q=>ge_int q
theorem va':OpR X (compareOp .Is) (fun x y H Q=>y=.non/\Q (.bl (decide (x=.non))) H):=by
 intro p_ s σ H x y v u Q I rx ry h
 obtain⟨rfl,q⟩:=h
 cases ry
 refine is_none_gen (aG' I q ?_)
 cases x<;>first
  |(cases rx;rfl)
  |(obtain⟨t,rfl⟩:=rx;rfl)
theorem sq':OpR X (compareOp .IsNot) (fun x y H Q=>y=.non/\Q (.bl (!decide (x=.non))) H):=by
 intro p_ s σ H x y v u Q I rx ry h
 obtain⟨rfl,q⟩:=h
 cases ry
 refine isnot_none_gen (aG' I q ?_)
 cases x<;>first
  |(cases rx;rfl)
  |(obtain⟨t,rfl⟩:=rx;rfl)
theorem OpR.or {f:Value->Value->Sem Value} {r r':R2} (h:OpR X f r) (h':OpR X f r'):OpR X f (fun x y H Q=>r x y H Q\/r' x y H Q):=by
 intro p_ s σ H x y v u Q I rx ry q
 rcases q with q|q
 .exact h p_ s σ H x y v u Q I rx ry q
 .exact h' p_ s σ H x y v u Q I rx ry q
theorem sr' {op:CmpOp} {r:R2} (ho:OpR X (compareOp op) r) (ha:PE X a ta) (hb:PE X b tb) (hm:behindInMarks op b=false):PE X (.Compare a [op] [b] pos) (tOp r ta tb):=by
 intro p_ s σ H Q I h
 exact wpAny_Compare1 (yY' ha hb I h fun v u s2 x y H2 I2 rx ry q=>ho p_ s2 σ H2 x y v u Q I2 rx ry q) hm
def lC' (t:TE):TT:=fun σ H Q=>t σ H fun x H'=>∃k,x=.bl k/\Q k H'
theorem su' {op:CmpOp} {r:R2} (ho:OpR X (compareOp op) r) (ha:PE X a ta) (hb:PE X b tb) (hm:behindInMarks op b=false):PT X (.Compare a [op] [b] pos) (lC' (tOp r ta tb)):=by
 intro p_ s σ H Q I h
 refine wpAny_isTrue_Compare1 (thn (ha p_ s σ H _ I h) fun v s1 ⟨x,H1,I1,r1,q1⟩=>thn (hb p_ s1 σ H1 _ I1 q1) fun u s2 ⟨y,H2,I2,r2,q2⟩=>
  thn (ho p_ s2 σ H2 x y v u _ I2 r1 r2 q2) fun c s3 ⟨z,H3,I3,r3,k,e,q3⟩=>?_) hm
 subst e
 cases r3
 exact bZ ⟨H3,I3,q3⟩
def vb' (K:W.Frag) (x:V) (H:Hp) (k:Bool):Prop:=
 match x with
 | .non=>k=false
 | .bl b=>k=b
 | .int i=>k=(i != 0)
 | .str y=>y.length<=sizeLine/\k=((y.length:Int) != 0)
 | .byt y=>y.size<=sizeLine/\k=((y.size:Int) != 0)
 | .ref p=>(∃xs,SqL K H p xs/\k=!xs.isEmpty)\/(∃xs,SqT K H p xs/\k=!xs.isEmpty)\/∃kvs,H p=some (.dK kvs)/\k=!kvs.isEmpty
 |_=>False
theorem kA' {κ:Type} {kvs:List (κ×V)} {vs:List (κ×Value)} (r:KV kvs vs):(!vs.isEmpty)=!kvs.isEmpty:=by
 cases r<;>rfl
theorem fH' {xs:List V} {its:List Value} (r:aQ' xs its):(!its.toArray.isEmpty)=!xs.isEmpty:=by
 cases r<;>simp
theorem fI':(sizeLine:Nat)<2 ^ 63:=by rw[sizeLine_eq];decide
theorem vc':BA' X (fun x H Q=>∃k,vb' X.K x H k/\Q k H):=by
 intro p_ s σ H x v Q I rx h
 obtain⟨k,e,q⟩:=h
 have hl:=fI'
 have hs:sizeLine=16777216:=sizeLine_eq
 cases x with
 |non=>
  cases rx
  have e':k=false:=e
  subst e'
  exact truthy_none ⟨H,I,q⟩
 |bl b=>
  cases rx
  have e':k=b:=e
  subst e'
  exact bZ ⟨H,I,q⟩
 |int i=>
  obtain⟨t,rfl⟩:=rx
  have e':k=(i != 0):=e
  subst e'
  exact PySem.P.truthy_int ⟨H,I,q⟩
 |str y=>
  obtain⟨t,rfl⟩:=rx
  obtain⟨hy,e'⟩:y.length<=sizeLine/\k=((y.length:Int) != 0):=e
  subst e'
  exact PySem.P.truthy_str ⋯ ⟨H,I.tok _,q⟩
 |byt y=>
  obtain⟨t,rfl⟩:=rx
  obtain⟨hy,e'⟩:y.size<=sizeLine/\k=((y.size:Int) != 0):=e
  subst e'
  exact W.truthy_bytes ⋯ ⟨H,I.tok _,q⟩
 |ref p=>
  cases rx
  have e':(∃xs,SqL X.K H p xs/\k=!xs.isEmpty)\/(∃xs,SqT X.K H p xs/\k=!xs.isEmpty)\/∃kvs,H p=some (.dK kvs)/\k=!kvs.isEmpty:=e
  rcases e' with⟨xs,hx,e'⟩|⟨xs,hx,e'⟩|⟨kvs,hx,e'⟩
  .subst e'
   obtain⟨its,r,pl,hz⟩:=I.list hx
   have hlen:=r.length
   exact wpAny_truthy_list pl.isList (by simp only[ao];omega) ⟨H,I.tok _,by rw[fH' r];exact q⟩
  .subst e'
   obtain⟨its,r,pl,hz⟩:=I.tuple hx
   have hlen:=r.length
   exact truthy_tuple pl (by simp only[ao];omega) ⟨H,I.tok _,by rw[fH' r];exact q⟩
  .subst e'
   obtain⟨hz,hS,vs,r,m⟩:kvs.length<=sizeLine/\(p == sysModules)=false/\∃vs,KV kvs vs/\s.heap.DictOf (ax' X.prog X.w) p vs:=I.hok p _ hx
   have hlen:kvs.length=vs.length:=Paired.length r
   exact wpAny_truthy_dict hS m ⋯ ⟨H,I.tok _,by rw[kA' r];exact q⟩
 |_=>exact(show False from e).elim
theorem oK' (ha:PE X a ta) (he:∀whole,isTrue a X.env whole=(do let v <- whole;standAt a.pos;holding [v] (truthy v))):
  PT X a (fun σ H Q=>ta σ H fun x H'=>∃k,vb' X.K x H' k/\Q k H'):=by
 intro p_ s σ H Q I h
 exact isTrue_plain (thn (ha p_ s σ H _ I h) fun v s1 ⟨x,H1,I1,r1,q1⟩=>vc' p_ s1 σ H1 x v Q I1 r1 q1) (he _)
theorem kB':OpR X (binaryOp .Add) (fun x y H Q=>∃i j,x=.str i/\y=.str j/\i.length+j.length<=sizeLine/\Q (.str (i++j)) H):=by
 intro p_ s σ H x y v u Q I rx ry h
 obtain⟨i,j,rfl,rfl,hz,q⟩:=h
 obtain⟨t,rfl⟩:=rx
 obtain⟨t',rfl⟩:=ry
 exact add_str (fun t' tk=>⟨.str (i++j),H,I.tok _,⟨_,rfl⟩,q⟩) hz
theorem er' {x:V} {us:List Value} (r:aQ' [x] us):∃u,us=[u]/\aP' x u:=by
 cases r with
 |cons r1 r2=>cases r2;exact⟨_,rfl,r1⟩
theorem iC' {x y:V} {us:List Value} (r:aQ' [x,y] us):∃u w',us=[u,w']/\aP' x u/\aP' y w':=by
 cases r with
 |cons r1 r2=>
  cases r2 with
  |cons r3 r4=>cases r4;exact⟨_,_,rfl,r1,r3⟩
theorem oL':a4' X (.builtin "abs") (fun xs H Q=>∃i,xs=[.int i]/\Q (.int (if i<0 then -i else i)) H):=by
 intro p_ s σ H xs us Q I r h
 obtain⟨i,rfl,q⟩:=h
 obtain⟨u,rfl,t,rfl⟩:=er' r
 exact call_abs_int fun u tk=>⟨.int (if i<0 then -i else i),H,I.tok _,⟨_,rfl⟩,q⟩
theorem lD' (hc:X.calm=true):a4' X (.builtin "max") (fun xs H Q=>∃i j,xs=[.int i,.int j]/\Q (.int (if j > i then j else i)) H):=by
 intro p_ s σ H xs us Q I r h
 obtain⟨i,j,rfl,q⟩:=h
 obtain⟨u,w',rfl,⟨t,rfl⟩,⟨t',rfl⟩⟩:=iC' r
 refine max_two_ints (I.ok.hd hc) fun h' tk k=>⟨_,H,I.kept k,?_,q⟩
 by_cases hj:j > i
 .rw[if_pos hj,if_pos hj];exact⟨_,rfl⟩
 .rw[if_neg hj,if_neg hj];exact⟨_,rfl⟩
theorem lE' (hc:X.calm=true):a4' X (.builtin "min") (fun xs H Q=>∃i j,xs=[.int i,.int j]/\Q (.int (if j<i then j else i)) H):=by
 intro p_ s σ H xs us Q I r h
 obtain⟨i,j,rfl,q⟩:=h
 obtain⟨u,w',rfl,⟨t,rfl⟩,⟨t',rfl⟩⟩:=iC' r
 refine min_two_ints (I.ok.hd hc) fun h' tk k=>⟨_,H,I.kept k,?_,q⟩
 by_cases hj:j<i
 .rw[if_pos hj,if_pos hj];exact⟨_,rfl⟩
 .rw[if_neg hj,if_neg hj];exact⟨_,rfl⟩
theorem lF':a4' X (.type "int") (fun xs H Q=>(∃i,xs=[.int i]/\Q (.int i) H)\/∃k,xs=[.bl k]/\Q (.int (if k then 1 else 0)) H):=by
 intro p_ s σ H xs us Q I r h
 rcases h with⟨i,rfl,q⟩|⟨k,rfl,q⟩
 .obtain⟨u,rfl,t,rfl⟩:=er' r
  exact call_int_int ⟨.int i,H,I,⟨_,rfl⟩,q⟩
 .obtain⟨u,rfl,r1⟩:=er' r
  cases r1
  exact call_int_bool ⟨.int (if k then 1 else 0),H,I.tok _,⟨_,rfl⟩,q⟩
theorem gP':a4' X (.type "str") (fun xs H Q=>∃i,xs=[.int i]/\i.natAbs.log2<1920/\Q (.str (toString i)) H):=by
 intro p_ s σ H xs us Q I r h
 obtain⟨i,rfl,hz,q⟩:=h
 obtain⟨u,rfl,t,rfl⟩:=er' r
 exact PySem.P.str_of_int hz ⟨.str _,H,I.tok _,⟨_,rfl⟩,q⟩
def AI' (K:W.Frag) (x:V) (H:Hp) (n:Nat):Prop:=
 match x with
 | .str y=>y.length<=sizeLine/\n=y.length
 | .byt y=>y.size<=sizeLine/\n=y.size
 | .ref p=>(∃xs,SqL K H p xs/\n=xs.length)\/∃xs,SqT K H p xs/\n=xs.length
 |_=>False
theorem oM':a4' X (.builtin "len") (fun xs H Q=>∃x n,xs=[x]/\AI' X.K x H n/\Q (.int n) H):=by
 intro p_ s σ H xs us Q I r h
 obtain⟨x,n,rfl,e,q⟩:=h
 obtain⟨u,rfl,rx⟩:=er' r
 have hl:=fI'
 have hs:sizeLine=16777216:=sizeLine_eq
 cases x with
 |str y=>
  obtain⟨t,rfl⟩:=rx
  obtain⟨hy,e'⟩:y.length<=sizeLine/\n=y.length:=e
  subst e'
  exact len_str ⋯ ⟨.int _,H,I.tok _,⟨_,rfl⟩,q⟩
 |byt y=>
  obtain⟨t,rfl⟩:=rx
  obtain⟨hy,e'⟩:y.size<=sizeLine/\n=y.size:=e
  subst e'
  exact W.len_bytes ⋯ ⟨.int _,H,I.tok _,⟨_,rfl⟩,q⟩
 |ref p=>
  cases rx
  have e':(∃xs,SqL X.K H p xs/\n=xs.length)\/∃xs,SqT X.K H p xs/\n=xs.length:=e
  rcases e' with⟨xs,hx,e'⟩|⟨xs,hx,e'⟩
  .subst e'
   obtain⟨its,r',pl,hz⟩:=I.list hx
   have hlen:=r'.length
   exact Calls.call_len_list pl.isList (by simp only[ao];omega) ⟨.int xs.length,H,I.tok _,⟨_,by simp only[ao];rw[hlen]⟩,q⟩
  .subst e'
   obtain⟨its,r',pl,hz⟩:=I.tuple hx
   have hlen:=r'.length
   exact len_tuple pl (by simp only[ao];omega) ⟨.int xs.length,H,I.tok _,⟨_,by simp only[ao];rw[hlen]⟩,q⟩
 |_=>exact(show False from e).elim
end
structure ObjM (h:Heap) (x dx C:Addr) (mA:Str->Option Value):Prop where
 obj:h.get? x=some (W.instObj C dx)
 ns:h.Ns1 dx mA
 ne:dx≠x
set_option tactic.hygienic true in
theorem lG' {h:Heap} {dx:Addr} {mA:Str->Option Value} (n:h.Ns1 dx mA):∃od,h.get? dx=some od/\∀name,W.lookIn name od=some (mA name):=by
 obtain⟨o,es,ep,ho,hd,hk,_,hm⟩:=n
 refine⟨o,ho,fun name=>?_⟩
 have e:=hm name
 unfold nsFind findBy at e
 rw[<- Array.find?_toList]at e
 unfold W.lookIn
 rw[hd]
 dsimp only
 split
 .rename_i y q
  rw[q]at e
  exact congrArg some e
 .rename_i q
  rw[q]at e
  have a:es.toList.any (·.refKey)=false:=by
   rw[List.any_eq_false]
   intro y hy
   obtain⟨z,t,hkey⟩:=hk y (da.mp hy)
   simp[DictEntry.refKey,hkey]
  have a':¬es.toList.any (·.refKey)=true:=by rw[a];exact aw
  rw[if_neg a']
  exact congrArg some e
theorem ObjM.look {h:Heap} {x dx C:Addr} {mA:Str->Option Value} (I:ObjM h x dx C mA):∃od,W.InstAt h x (W.instObj C dx) C (some od)/\∀name,W.lookIn name od=some (mA name):=
 let⟨od,ho,hl⟩:=lG' I.ns
 ⟨od,⟨I.obj,rfl,rfl,ho⟩,hl⟩
section
variable {P:Program} {w:World} {H H':Hp} {h h':Heap} {a C dx:Addr} {fs fs':List (Str×V)}
theorem sv' (hok:HOk P w H h) (e:H a=some (.ins C dx fs)):∃mA,ObjM h a dx C mA/\(∀f,lr' (fs.lookup f) (mA f))/\PySem.Within mA (fs.map (·.1))/\fs.length<=1000/\H dx=some (.own a):=by
 obtain⟨d,z,ne,ob,mA,n,r,q⟩:=(show aE' P w H h a (.ins C dx fs) from hok a _ e)
 exact⟨mA,⟨ob,n,ne⟩,r,q,z,d⟩
end
structure Cls (K:W.Frag) (C:Addr):Prop where
 pg:W.plainGet K C Str.empty=true
 hd:W.hasDictIn K C=true
 po:W.plainOver K C=true
 sa:W.findIn K (.ref C) "__setattr__"=some (some (.builtin "object.__setattr__"))
theorem Cls.get {K:W.Frag} {C:Addr} (c:Cls K C) (f:Str):W.plainGet K C f=true:=c.pg
section
variable {X:Cx} {p_:List (Addr×Obj)} {σ:St} {H:Hp} {s:Shared} {A:Around} {E:Value->Shared->Prop} {Q:Value->Shared->Prop} {c:Value} {b:Bool}
inductive TyOf (K:W.Frag) (H:Hp):V->Value->Prop where
 |non:TyOf K H .non (.type "NoneType")
 |bl (x:Bool):TyOf K H (.bl x) (.type "bool")
 |int (i:Int):TyOf K H (.int i) (.type "int")
 |str (x:Str):TyOf K H (.str x) (.type "str")
 |flt (x:UInt64):TyOf K H (.flt x) (.type "float")
 |lst {a:Addr} {xs:List V} (e:H a=some (.lst xs)):TyOf K H (.ref a) (.type "list")
 |frz {a:Addr} {o:Obj} {xs:List V} (e:H a=some (.frz o (.lst xs))):TyOf K H (.ref a) (.type "list")
 |tup {a:Addr} {xs:List V} (e:H a=some (.tup xs)):TyOf K H (.ref a) (.type "tuple")
 |dK {a:Addr} {kvs:List (Key×V)} (e:H a=some (.dK kvs)):TyOf K H (.ref a) (.type "dict")
 |dT {a:Addr} {kvs:List (List Key×V)} (e:H a=some (.dT kvs)):TyOf K H (.ref a) (.type "dict")
 |ins {a C dx:Addr} {fs:List (Str×V)} (e:H a=some (.ins C dx fs)) (cl:Cls K C) (ha:W.findIn K (.ref C) "__class__"=some (some (.builtin "object.__class__")))
   (hn:W.specialIn K (.builtin "object.__class__") "__get__"=some (some (.builtin "getset_descriptor.__get__"))) (htk:W.takesIn K (.builtin "object.__class__")=some true)
   (hm:W.mroIn K C (.type "object")=some true):TyOf K H (.ref a) (.ref C)
theorem lH' {x:V} {u t:Value} (I:Inv X p_ σ H s) (rx:aP' x u) (ty:TyOf X.K H x t) (e:W.kitOne X.K t c=some b) (h:∀tk,Q (.bool b) { s with toks:=tk }):
  wpAny (model X.prog X.w) A (call (.builtin "isinstance") [u,c]) Q E s:=by
 cases ty with
 |non=>cases(show u=Value.none from rx);exact W.kia_one W.kitx_none I.kIn True.intro e (fun z=>nomatch z) h
 |bl y=>cases(show u=Value.bool y from rx);exact W.kia_one W.kitx_bool I.kIn True.intro e (fun z=>nomatch z) h
 |int i=>obtain⟨t,q⟩:=(show ∃t,u=Value.int i t from rx);cases q;exact W.kia_one W.kitx_int I.kIn True.intro e (fun z=>nomatch z) h
 |str y=>obtain⟨t,q⟩:=(show ∃t,u=Value.str y t from rx);cases q;exact W.kia_one W.kitx_str I.kIn True.intro e (fun z=>nomatch z) h
 |flt y=>obtain⟨t,q⟩:=(show ∃t,u=Value.float y t from rx);cases q;exact W.kia_one W.kitx_float I.kIn True.intro e (fun z=>nomatch z) h
 | @lst a xs ea=>
  cases(show u=Value.ref a from rx)
  obtain⟨_,_,n,_,h1⟩:=(show aE' X.prog X.w H s.heap a (.lst xs) from I.hok a _ ea)
  exact W.kia_one W.kitx_list I.kIn ⟨_,h1,rfl⟩ e (fun z=>nomatch z) h
 | @frz a ob xs ea=>
  cases(show u=Value.ref a from rx)
  obtain⟨_,_,_,n,_,h1⟩:=(show aE' X.prog X.w H s.heap a (.frz ob (.lst xs)) from I.hok a _ ea)
  exact W.kia_one W.kitx_list I.kIn ⟨_,h1,rfl⟩ e (fun z=>nomatch z) h
 | @tup a xs ea=>
  cases(show u=Value.ref a from rx)
  obtain⟨_,_,_,p⟩:=(show aE' X.prog X.w H s.heap a (.tup xs) from I.hok a _ ea)
  obtain⟨o,h1,h2,_⟩:=p
  exact W.kia_one W.kitx_tuple I.kIn ⟨o,h1,h2⟩ e (fun z=>nomatch z) h
 | @dK a kvs ea=>
  cases(show u=Value.ref a from rx)
  obtain⟨_,_,vs,_,p⟩:=(show aE' X.prog X.w H s.heap a (.dK kvs) from I.hok a _ ea)
  obtain⟨o,es,ep,h1,h2,_⟩:=p
  exact W.kia_one W.kitx_dict I.kIn ⟨o,h1,h2.1⟩ e (fun z=>nomatch z) h
 | @dT a kvs ea=>
  cases(show u=Value.ref a from rx)
  obtain⟨_,_,xs,_,o,es,ep,h1,h2,_⟩:=(show aE' X.prog X.w H s.heap a (.dT kvs) from I.hok a _ ea)
  exact W.kia_one W.kitx_dict I.kIn ⟨o,h1,h2.1⟩ e (fun z=>nomatch z) h
 | @ins a C dx fs ea cl ha hn htk hm=>
  cases(show u=Value.ref a from rx)
  obtain⟨mA,O,_⟩:=sv' I.hok ea
  obtain⟨od,J,_⟩:=O.look
  exact W.kia_one (W.kitx_own (cl.get _) cl.hd ha hn htk hm) I.kIn J e (fun z=>nomatch z) h
end
structure Room (k:Nat) (A:Around):Prop where
 hd:A.handled=none
 dp:A.depth+3*k+5<recursionLimit
 un:A.units+16*k+200<cLine
 gd:A.guards=some []
theorem Room.mono {j k:Nat} {A:Around} (r:Room k A) (h:j<=k):Room j A:=⟨r.hd,by have:=r.dp;omega,by have:=r.un;omega,r.gd⟩
theorem Room.deeper {k:Nat} {A:Around} (r:Room (k+1) A) (env:Env):Room k (A.deeper env):=
 ⟨r.hd,by have:=r.dp;show A.depth+1+3*k+5<_;omega,by have:=r.un;show A.units+3+16*k+200<_;omega,r.gd⟩
theorem Room.depth {k:Nat} {A:Around} (r:Room k A):A.depth<recursionLimit:=by have:=r.dp;omega
theorem Room.units {k:Nat} {A:Around} (r:Room k A):A.units+64<cLine:=by have:=r.un;omega
def fy':TA:=fun _ H Q=>Q [] H
def bh' (ta:TE) (tr:TA):TA:=fun σ H Q=>ta σ H fun x H1=>tr σ H1 fun xs H2=>Q (x :: xs) H2
section
variable {X:Cx} {e:Expr} {es:List Expr} {te:TE} {t:TA} {pos:Pos}
theorem dJ':PA X [] fy':=fun _ _ _ _ H Q I h=>Calls.spliced_nil ⟨[],H,I,.nil,h⟩
theorem bq' (ha:PE X e te) (hr:PA X es t) (hs:starEach (e :: es) X.env=(false,eval e X.env) :: starEach es X.env:=by rfl):PA X (e :: es) (bh' te t):=by
 intro pos p_ s σ H Q I h
 rw[hs]
 show wpAny _ _ (spliced ((false,eval e X.env) :: backTo pos (starEach es X.env))) _ _ s
 refine Calls.spliced_cons (thn (ha p_ s σ H _ I h) fun u s1 ⟨x,H1,I1,r1,q1⟩=>?_)
 exact thn (hr pos p_ s1 σ H1 _ I1 q1) fun us s2 ⟨xs,H2,I2,r2,q2⟩=>⟨x :: xs,H2,I2,.cons r1 r2,q2⟩
def y9' (t:TA):TE:=fun σ H Q=>t σ H fun xs H1=>xs.length<=sizeLine/\∀p,H1 p=none->Q (.ref p) (upd H1 p (.tup xs))
def za' (t:TA):TE:=fun σ H Q=>t σ H fun xs H1=>xs.length<=sizeLine/\∀p,H1 p=none->Q (.ref p) (upd H1 p (.lst xs))
theorem vd' {x1} (h:PA X es t):PE X (.Tuple es x1 pos) (y9' t):=by
 intro p_ s σ H Q I hq
 refine wpAny_Tuple_spliced (thn (h pos p_ s σ H _ I hq) fun us s1 ⟨xs,H1,I1,r,z,q⟩=>⟨by rw[<- r.length];exact z,?_⟩)
 have hf:H1 s1.heap.objs.size=none:=I1.hok.fresh (aj _)
 refine⟨.ref s1.heap.objs.size,upd H1 s1.heap.objs.size (.tup xs),I1.laid (t':=s1.toks) (fun b u e=>ae _ e) (aj _) ?_,rfl,q _ hf⟩
 exact⟨z,us,r,⟨_,av _ rfl,rfl,⟨_,rfl⟩,rfl⟩⟩
theorem ve' (h:PA X es t):PE X (.List es pos) (za' t):=by
 intro p_ s σ H Q I hq
 refine wpAny_List_spliced (thn (h pos p_ s σ H _ I hq) fun us s1 ⟨xs,H1,I1,r,z,q⟩=>⟨by rw[<- r.length];exact z,?_⟩)
 have hf:H1 s1.heap.objs.size=none:=I1.hok.fresh (aj _)
 refine⟨.ref s1.heap.objs.size,upd H1 s1.heap.objs.size (.lst xs),I1.laid (t':=s1.toks) (fun b u e=>ae _ e) (aj _) ?_,rfl,q _ hf⟩
 exact⟨z,us,0,r,av _ rfl⟩
end
abbrev Sp:=List V->Hp->VK->XK->Prop
abbrev CXT:=List Env->Hp->Shared->XK->Value->Shared->Prop
structure Env0 (P:Program) (w:World) (K:W.Frag) (mg:Str->Option Value) (base:Heap) (A:Around) (outer:List Env) (s:Shared) (H:Hp):Prop where
 frames:A.frames=some outer
 mod:Mod K mg base
 bs:∀b o,base.get? b=some o->s.heap.get? b=some o/\H b=none
 bsz:base.objs.size<=s.heap.objs.size
 funs:s.heap.FunFrames base outer
 frf:∀b∈frs outer,H b=none
 hok:HOk P w H s.heap
 bare:AllBare s.gens
def CE (outer:List Env) (P:Program) (w:World) (H:Hp) (s:Shared) (Q:VK) (u:Value) (s':Shared):Prop:=
 ∃v H',s'.os=s.os/\AllBare s'.gens/\Un (frs outer) [] H H' s.heap s'.heap/\HOk P w H' s'.heap/\aP' v u/\Q v H'
def CR (CX:CXT) (outer:List Env) (P:Program) (w:World) (H:Hp) (s:Shared) (Q:VK) (E:XK) (r:Result) (s':Shared):Prop:=
 match r with
 | .ok (.ret u)=>CE outer P w H s Q u s'
 | .ok _=>False
 | .error e=>CX outer H s E e s'
structure FnOk (P:Program) (w:World) (K:W.Frag) (mg:Str->Option Value) (base:Heap) (CX:CXT) (k:Nat) (f:Addr) (fd:FuncData) (ps:List Str) (sp:Sp):Prop where
 len:∀vs H Q E,sp vs H Q E->vs.length=ps.length
 run:∀(A:Around) (outer:List Env) (s:Shared) (H:Hp) (args:Args) (us:List Value) (vs:List V) (Q:VK) (E:XK),Room k A->Env0 P w K mg base A outer s H->BindsTo s fd args (ps.zip us)->aQ' vs us->sp vs H Q E->
  codeAny (model P w) A (.call (.ref f) args) (CR CX outer P w H s Q E) s
theorem FnOk.mono {P:Program} {w:World} {K:W.Frag} {mg:Str->Option Value} {base:Heap} {CX:CXT} {j k:Nat} {f:Addr} {fd:FuncData} {ps:List Str} {sp:Sp} (F:FnOk P w K mg base CX j f fd ps sp) (h:j<=k):
  FnOk P w K mg base CX k f fd ps sp:=⟨F.len,fun A outer s H args us vs Q E hr=>F.run A outer s H args us vs Q E (hr.mono h)⟩
section
variable {X:Cx} {p_:List (Addr×Obj)} {σ:St} {H:Hp} {s s':Shared}
theorem Inv.env0 (I:Inv X p_ σ H s):Env0 X.prog X.w X.K X.mg X.base X.A X.stack s H:=
 ⟨I.ok.frames,I.ok.mod,I.bs,aN I.ok.bsz I.sz,I.stack,I.stkFree,I.hok,I.bare⟩
theorem Inv.after {Q:VK} {u:Value} (I:Inv X p_ σ H s) (h:CE X.stack X.prog X.w H s Q u s'):EP X p_ σ Q u s':=by
 obtain⟨v,H',os,bare,un,hok,r,q⟩:=h
 obtain⟨hh,g,d,t,os'⟩:=s'
 obtain rfl:os'=s.os:=os
 exact⟨v,H',I.call (h':=hh) (g':=g) (d':=d) (t':=t) (ch:=[]) un hok bare (fun b z=>absurd z (by simp)),r,q⟩
end
def oN' (sp:Sp) (dvs:List V) (E:XK) (t:TA):TE:=fun σ H Q=>t σ H fun vs H1=>sp (vs++dvs) H1 Q E
def et' (K:W.Frag) (fd:FuncData) (ps:List Str) (ds:List Value):Prop:=
 ∀(s:Shared) (us:List Value),K.In s.heap->(us++ds).length=ps.length->BindsTo s fd ⟨us,[]⟩ (ps.zip (us++ds))
theorem et'.all {K:W.Frag} {fd:FuncData} {ps:List Str} (h:∀us:List Value,us.length=ps.length->bindArgs fd ⟨us,[]⟩=pure (ps.zip us)):et' K fd ps []:=fun s us _ hl=>by
 rw[bR]at hl ⊢
 exact .of_eq (h us hl)
structure FnScope (N P:List Str) (sc:Scope):Prop where
 kind:sc.kind=.function
 co:sc.isCoroutine=false
 gen:sc.isGenerator=false
 nd:N.Nodup
 pre:N.take P.length=P
 par:∀x∈P,sc.names.lookup x=some .local\/sc.names.lookup x=some .cell
 nofree:∀y∈sc.names,y.2≠.free
theorem gQ' {kindOf:Str->Option NameKind} {x:Str}:∀{binds:List (Str×Value)} {m:Str->Option Value},(∀v,(x,v)∉binds)->bindL kindOf binds m x=m x
 | [],_,_=>rfl
 |(n,v) :: r,m,h=>by
  unfold bindL
  rw[gQ' fun w hw=>h w (au _ hw)]
  split
  .have:x≠n:=by rintro rfl;exact h v ax
   simp[this]
  .rfl
theorem gR' {kindOf:Str->Option NameKind} {x:Str}:∀{binds:List (Str×Value)} {m:Str->Option Value},(∀v,(x,v)∉binds)->bindC kindOf binds m x=m x
 | [],_,_=>rfl
 |(n,v) :: r,m,h=>by
  unfold bindC
  rw[gR' fun w hw=>h w (au _ hw)]
  split
  .rfl
  .have:x≠n:=by rintro rfl;exact h v ax
   simp[this]
theorem gS' {kindOf:Str->Option NameKind} {x:Str} {v:Value}:∀{P:List Str} {vs:List Value} {i:Nat} {m:Str->Option Value},P.Nodup->P[i]?=some x->vs[i]?=some v->kindOf x=some .local->
  bindL kindOf (P.zip vs) m x=some v
 | [],_,_,_,_,h,_,_=>by simp at h
 |_ :: _,[],_,_,_,_,h,_=>by simp at h
 |p :: P,w :: vs,0,m,nd,h1,h2,hk=>by
  simp at h1 h2;subst h1;subst h2
  show bindL kindOf ((p,w) :: P.zip vs) m p=_
  unfold bindL
  rw[gQ' fun v hv=>(bT.mp nd).1 (List.of_mem_zip hv).1,if_pos hk]
  simp
 |p :: P,w :: vs,i+1,m,nd,h1,h2,hk=>by
  show bindL kindOf ((p,w) :: P.zip vs) m x=_
  unfold bindL
  exact gS' (i:=i) (bT.mp nd).2 (by simpa using h1) (by simpa using h2) hk
theorem gT' {kindOf:Str->Option NameKind} {x:Str} {v:Value}:∀{P:List Str} {vs:List Value} {i:Nat} {m:Str->Option Value},P.Nodup->P[i]?=some x->vs[i]?=some v->kindOf x≠some .local->
  bindC kindOf (P.zip vs) m x=some v
 | [],_,_,_,_,h,_,_=>by simp at h
 |_ :: _,[],_,_,_,_,h,_=>by simp at h
 |p :: P,w :: vs,0,m,nd,h1,h2,hk=>by
  simp at h1 h2;subst h1;subst h2
  show bindC kindOf ((p,w) :: P.zip vs) m p=_
  unfold bindC
  rw[gR' fun v hv=>(bT.mp nd).1 (List.of_mem_zip hv).1,if_neg hk]
  simp
 |p :: P,w :: vs,i+1,m,nd,h1,h2,hk=>by
  show bindC kindOf ((p,w) :: P.zip vs) m x=_
  unfold bindC
  exact gT' (i:=i) (bT.mp nd).2 (by simpa using h1) (by simpa using h2) hk
def aA' (N:List Str) (vs:List V):St:=vs.map some++ay (N.length-vs.length) none
def sw' (CX:CXT) (P:Program) (w:World) (K:W.Frag) (mg:Str->Option Value) (base:Heap) (N:List Str) (qual:Str) (scope:Scope) (f:Addr) (cd:Value) (A:Around) (outer:List Env) (s:Shared) (H:Hp) (E:XK):Cx where
 prog:=P
 w:=w
 K:=K
 mg:=mg
 base:=base
 A:=A.deeper (envOfC qual scope s.heap.objs.size f cd)
 N:=N
 s₀:=s
 H₀:=H
 env:=envOfC qual scope s.heap.objs.size f cd
 outer:=outer
 stack:=envOfC qual scope s.heap.objs.size f cd :: outer
 ex:=[]
 calm:=true
 fn:=fun _=>true
 pn:=[]
 xe:=fun e s'=>wpAny (model P w) (A.deeper (envOfC qual scope s.heap.objs.size f cd)) (leaving (envOfC qual scope s.heap.objs.size f cd) e) (fun _ s''=>CX outer H s E e s'') (fun e' s''=>CX outer H s E e' s'') s'
theorem f4' {sc:Scope} {n:Nat} {x:Str} (h:sc.names.lookup x=some .cell):∃c,(cellsFrom n sc.names []).lookup x=some c:=by
 have q:=W.cellsFrom_some sc.names n [] (.inl h)
 exact Option.isSome_iff_exists.mp q
theorem lI' {CX:CXT} {P:Program} {w:World} {K:W.Frag} {mg:Str->Option Value} {base:Heap} {N ps:List Str} {qual:Str} {scope:Scope} {f:Addr} {cd:Value} {A:Around} {outer:List Env} {s s1:Shared} {H:Hp} {E:XK} {us:List Value} {vs:List V}
  (S:FnScope N ps scope) (hd:A.handled=none) (e0:Env0 P w K mg base A outer s H) (hl:vs.length=ps.length) (r:aQ' vs us)
  (x:InCallC s s.heap.objs.size (bindL (envOfC qual scope s.heap.objs.size f cd).kindOf (ps.zip us) fun _=>none) (cellsFrom (s.heap.objs.size+1) scope.names []) (bindC (envOfC qual scope s.heap.objs.size f cd).kindOf (ps.zip us) fun _=>none) s1):
  Inv (sw' CX P w K mg base N qual scope f cd A outer s H E) [] (aA' N vs) H s1:=by
 have hpl:ps.length<=N.length:=by have:=congrArg List.length S.pre;rw[aJ]at this;omega
 obtain⟨h1,tk,rfl,hk⟩:=x.done
 have noA:∀b:Addr,b∉(sw' CX P w K mg base N qual scope f cd A outer s H E).ex:=fun b z=>absurd (show b∈([]:List Addr) from z) (by simp)
 refine⟨⟨e0.mod,S.kind,rfl,rfl,aj _,fun y z c h1 h2=>?_,fun y hy=>?_,fun y c _ h=>?_,fun _=>hd,Around.frames_deeper e0.frames,.inr ⟨rfl,rfl⟩,fun b z=>absurd z (noA b),e0.bs,e0.bsz,fun b _ _=>noA b,fun b z=>absurd z (noA b),e0.funs,e0.frf⟩,
  rfl,e0.bare,Un.kept hk,⟨_,x.toInCall.ns,fun i y v h1 h2 h3=>?_⟩,fun y c h=>⟨_,x.cell y c h⟩,e0.hok.fresh (aj _),fun y c h=>?_,fun p hp=>absurd (show p∈([]:List (Addr×Obj)) from hp) (by simp),e0.hok.kept hk,?_⟩
 .exact name_of_addr x.apart (PySem.mem_of_lookup h1) (PySem.mem_of_lookup h2)
 .have hy:scope.names.lookup y=some .cell\/scope.names.lookup y=some .free:=hy
  rcases hy with hy|hy
  .exact f4' hy
  .exact absurd rfl (S.nofree _ (PySem.mem_of_lookup hy))
 .exact bE (x.above y c (PySem.mem_of_lookup h))
 .have hi:i<vs.length:=by
   unfold aA' at h2
   by_cases hi:i<vs.length
   .exact hi
   .rw[List.getElem?_append_right (by simpa using hi)]at h2
    rw[List.getElem?_replicate]at h2
    split at h2<;>cases h2
  have ha:vs[i]?=some v:=by
   unfold aA' at h2
   rw[cr (by simpa using hi),aA]at h2
   cases e:vs[i]? with
   |none=>rw[e]at h2;cases h2
   |some a=>rw[e]at h2;cases h2;rfl
  obtain⟨u,hu,rv⟩:=r.get ha
  have hp:ps[i]?=some y:=by
   rw[<- S.pre,List.getElem?_take_of_lt ⋯];exact h1
  have ndP:ps.Nodup:=by rw[<- S.pre];exact S.nd.sublist (List.take_sublist _ _)
  refine⟨u,rv,?_⟩
  rcases S.par y (aL hp)with k|k
  .exact .inl ⟨k,gS' ndP hp hu k⟩
  .obtain⟨c,e⟩:=f4' (n:=s.heap.objs.size+1) k
   refine .inr ⟨.inl k,c,e,?_⟩
   have q:=x.cell y c e
   rw[gT' ndP hp hu (by show scope.names.lookup y≠_;rw[k];decide)]at q
   exact q
 .exact e0.hok.fresh (bE (x.above y c (PySem.mem_of_lookup h)))
 .unfold aA'
  show _=N.length
  rw[aB,ac,cm]
  omega
theorem vf' {CX:CXT} {P:Program} {w:World} {K:W.Frag} {mg:Str->Option Value} {base:Heap} {k:Nat} {f:Addr} {name qual:Str} {params:Arguments} {body:List Stmt} {scope:Scope} {dV kV doc pm cdv ct oc:Value} {an od:Option Addr}
  {osl:Array (Option Value)} {N ps:List Str} {sp:Sp} (lk:K.lookup f=some ⟨oc,od,.func (W.fnOf name qual params body scope dV kV doc pm an cdv ct),osl⟩) (hcd:W.codeIn K cdv qual=true) (S:FnScope N ps scope)
  (len:∀vs H Q E,sp vs H Q E->vs.length=ps.length)
  (hbody:∀(A:Around) (outer:List Env) (s:Shared) (H:Hp) (vs:List V) (Q:VK) (E:XK),Room k (A.deeper (envOfC qual scope s.heap.objs.size f cdv))->sp vs H Q E->
   ∃t,PSs (sw' CX P w K mg base N qual scope f cdv A outer s H E) body t/\t { nx:=fun _ H'=>Q .non H',rt:=Q } (aA' N vs) H):
  FnOk P w K mg base CX (k+1) f (W.fnOf name qual params body scope dV kV doc pm an cdv ct) ps sp:=by
 refine⟨len,fun A outer s H args us vs Q E hr e0 hb r hsp=>?_⟩
 have hl:=len _ _ _ _ hsp
 have KX:K.In s.heap:=e0.mod.kin.keeps fun b o e=>(e0.bs b o e).1
 have lim:s.heap.NoLimit:=e0.mod.nolimit.keeps fun b o e=>(e0.bs b o e).1
 have hkind:∀y∈ps.zip us,scope.names.lookup y.1=some .local\/(scope.names.lookup y.1=some .cell/\((cellsFrom (s.heap.objs.size+1) scope.names []).lookup y.1).isSome=true):=fun⟨n,v⟩ hy=>by
  rcases S.par n (List.of_mem_zip hy).1 with q|q
  .exact .inl q
  .exact .inr ⟨q,W.cellsFrom_some _ _ _ (.inl q)⟩
 refine codeAny_call_function hr.depth (KX _ _ lk) rfl S.co S.gen rfl (W.codeRec_of KX hcd) (hb _ _ _ _ ?_)
 refine wpAny_newFunctionEnv_cells S.kind hkind fun env he s1 x=>?_
 subst he
 refine⟨lim.keeps x.toInCall.keep,codeAny_func ?_⟩
 obtain⟨t,ht,hq⟩:=hbody A outer s H vs Q E (hr.deeper _) hsp
 have I:Inv (sw' CX P w K mg base N qual scope f cdv A outer s H E) [] (aA' N vs) H s1:=lI' S hr.hd e0 hl r x
 refine df (ht [] s1 (aA' N vs) H _ I hq) (fun fl s' hs=>?_) fun e s' hs=>hs
 have fin:∀{σ':St} {H':Hp} {v:V} {u:Value},Inv (sw' CX P w K mg base N qual scope f cdv A outer s H E) [] σ' H' s'->aP' v u->Q v H'->CE outer P w H s Q u s':=
  fun {σ' H' v u} J rv q=>⟨v,H',J.os,J.bare,J.base,J.hok,rv,q⟩
 cases fl with
 |ret u=>
  obtain⟨v,σ',H',J,rv,q⟩:=hs
  exact fin J rv q
 |next=>
  obtain⟨σ',H',J,q⟩:=hs
  exact fin (v:=V.non) (u:=Value.none) J rfl q
 |brk=>
  obtain⟨_,_,_,q⟩:=hs
  exact False.elim q
 |cont=>
  obtain⟨_,_,_,q⟩:=hs
  exact False.elim q
section
variable {X:Cx} {x:Str} {p pos:Pos} {e:Expr} {es:List Expr} {t:TA} {id T:String} {r:List V->Hp->VK->Prop}
def tCB (r:List V->Hp->VK->Prop) (t:TA):TE:=fun σ H Q=>t σ H fun vs H1=>r vs H1 Q
theorem oO' (hc:a4' X (.builtin id) r) (hg:Gl X x) (hm:X.mg x=none) (hv:bootBuiltins x=some (.builtin id)) (ha:PA X (e :: es) t) (hn:x≠"__name__":=by decide) (hdb:(x == ("__debug__":Str))=false:=by decide)
  (he:starEach (e :: es) X.env=(false,eval e X.env) :: starEach es X.env:=by rfl) (hpl:(backTo pos (starEach es X.env)).any (·.1)=false:=by rfl):PE X (.Call (.Name x p) (e :: es) [] pos) (tCB r t):=by
 intro p_ s σ H Q I h
 refine wpAny_Call_Name_kw (cT' I hg hm hv ?_ hn hdb)
 exact PyProof.Rows.callWith_builtin1 (thn (ha pos p_ s σ H _ I h) fun us s1 ⟨vs,H1,I1,r1,q1⟩=>hc p_ s1 σ H1 vs us Q I1 r1 q1) he hpl
theorem lJ' (hc:a4' X (.type T) r) (hg:Gl X x) (hm:X.mg x=none) (hv:bootBuiltins x=some (.type T)) (ha:PA X (e :: es) t) (hn:x≠"__name__":=by decide) (hdb:(x == ("__debug__":Str))=false:=by decide)
  (he:starEach (e :: es) X.env=(false,eval e X.env) :: starEach es X.env:=by rfl) (hpl:(backTo pos (starEach es X.env)).any (·.1)=false:=by rfl):PE X (.Call (.Name x p) (e :: es) [] pos) (tCB r t):=by
 intro p_ s σ H Q I h
 refine wpAny_Call_Name_kw (cT' I hg hm hv ?_ hn hdb)
 exact PyProof.Rows.callWith_type1 (thn (ha pos p_ s σ H _ I h) fun us s1 ⟨vs,H1,I1,r1,q1⟩=>hc p_ s1 σ H1 vs us Q I1 r1 q1) he hpl
end
end L2
namespace HT
open PySem PyProof.Rows
section
open PySem.SeqAt
open PySem.AutoSeq1 (wpAny_loadPart')
open PySem.MeetsSeq PySem.MeetsSeq2 PySem.MeetsSeq3
end
section
variable {prog:Program} {w:World} {A:Around} {E:Value->Shared->Prop} {s:Shared}
theorem sx' {t b:Addr} {vs ws:List Value} {Q:Value->Shared->Prop} (ht:IsTup s.heap t vs.toArray) (hb:IsTup s.heap b ws.toArray) (hv:vs≠[])
  (h1:ws=[]->Q (.ref t) s) (h2:ws≠[]->Q (.ref s.heap.objs.size) { s with heap:=s.heap.push { cls:=.type "tuple",data:=.seq (vs++ws).toArray } })
  (hsz:vs.length+ws.length<=sizeLine):wpAny (model prog w) A (binaryOp .Add (.ref t) (.ref b)) Q E s:=by
 obtain⟨⟨cls,dd,data,sl⟩,ho,hc,n,hd⟩:=id ht
 obtain⟨⟨cls2,dd2,data2,sl2⟩,ho2,hc2,n2,hd2⟩:=id hb
 simp only at hc hd hc2 hd2
 subst hc hd hc2 hd2
 have e:vs.toArray++ws.toArray=(vs++ws).toArray:=by simp
 by_cases hw:ws=[]
 .exact concat_meets ⟨_,ho,rfl⟩ ⟨_,ho2,rfl⟩ noFill_tuple_add seq_tuple_add PySem.F.slot_tuple_add PySem.F.entry_tuple_add (PySem.F.args_tuple_add_2 _ _)
   (tuple_addW1 t b vs.toArray ws.toArray n n2 dd dd2 sl sl2 (by simpa using hv) (by simp[hw])) ⟨ho,ho2,h1 hw⟩
 .refine concat_meets ⟨_,ho,rfl⟩ ⟨_,ho2,rfl⟩ noFill_tuple_add seq_tuple_add PySem.F.slot_tuple_add PySem.F.entry_tuple_add (PySem.F.args_tuple_add_2 _ _)
   (tuple_addW2 t b vs.toArray ws.toArray n n2 dd dd2 sl sl2 (by simpa using hv) (by simpa using hw) (by rw[ao,ao];exact hsz)) ⟨ho,ho2,?_⟩
  rw[e]
  exact h2 hw
def sIx (n d:Nat):Option Int->Nat
 |none=>d
 |some v=>if v<0 then(v+(n:Int)).toNat else min v.toNat n
theorem oP' (n d:Nat):sIx n d none=d:=rfl
theorem sy' (n d k:Nat):sIx n d (some (k:Int))=min k n:=by
 show(if(k:Int)<0 then((k:Int)+(n:Int)).toNat else min (k:Int).toNat n)=min k n
 rw[if_neg ⋯,bf]
theorem vg' (n d:Nat) (hd:d<=n) (o:Option Int):sIx n d o<=n:=by
 cases o with
 |none=>exact hd
 |some v=>
  show(if v<0 then(v+(n:Int)).toNat else min v.toNat n)<=n
  by_cases hv:v<0
  .rw[if_pos hv];omega
  .rw[if_neg hv];exact Nat.min_le_right _ _
theorem lK' (v:Int) (n d:Nat):(if v<0 then max (v+(n:Int)) 0 else min v (n:Int))=((sIx n d (some v):Nat):Int):=by
 show(if v<0 then max (v+(n:Int)) 0 else min v (n:Int))=(((if v<0 then(v+(n:Int)).toNat else min v.toNat n):Nat):Int)
 by_cases hv:v<0
 .simp only[if_pos hv];omega
 .simp only[if_neg hv];omega
theorem kC' (lo hi:Option Int) (n:Nat):Builtin.Slice.sliceAdjust lo hi 1 (n:Int)=(((sIx n 0 lo:Nat):Int),((sIx n n hi:Nat):Int)):=by
 have h1:¬((1:Int)<0):=by omega
 unfold Builtin.Slice.sliceAdjust
 simp only[h1,if_false]
 refine Prod.ext ?_ ?_
 .cases lo with
  |none=>rfl
  |some v=>exact lK' v n 0
 .cases hi with
  |none=>rfl
  |some v=>exact lK' v n n
theorem kD' (i j:Nat):Builtin.Slice.slicePlaces (i:Int) (j:Int) 1=j-i:=by
 unfold Builtin.Slice.slicePlaces
 have h1:(1:Int) > 0:=by omega
 simp only[h1,if_true,Int.ediv_one]
 split<;>omega
theorem fJ' {v:Value} {o:Option Int} {Q:Option Int->Shared->Prop} (p:IsPart v o) (h:Q o s):wpAny (model prog w) A (Builtin.Slice.slicePartIndex v) Q E s:=by
 cases p with
 |none=>exact slicePart_none h
 |int i t=>exact slicePart_int h
theorem cQ' {sl:Addr} {vl vu:Value} {lo hi:Option Int} {n:Nat} {Q:Int×Int×Nat->Shared->Prop} (hs:s.heap.IsSliceOf sl vl vu .none) (pl:IsPart vl lo) (pu:IsPart vu hi)
  (h:Q (((sIx n 0 lo:Nat):Int),1,sIx n n hi-sIx n 0 lo) s):wpAny (model prog w) A (Builtin.Slice.sliceApplied (.ref sl) (pure (n:Int))) Q E s:=by
 obtain⟨os,hos,hcs,hds⟩:=id hs
 unfold Builtin.Slice.sliceApplied Builtin.Slice.sliceFields
 refine aa (aa (aW hos hds (x:=vl) rfl (aa (aW hos hds (x:=vu) rfl (aa (aW hos hds (x:=.none) rfl (am ?_)))))))
 refine aa (slicePart_none ?_)
 show wpAny _ _ (if((1:Int) == 0)=true then _ else _) _ _ s
 rw[if_neg (by decide)]
 refine aa (fJ' pl (aa (fJ' pu (aa (am ?_)))))
 show wpAny _ _ (match Builtin.Slice.sliceAdjust lo hi 1 (n:Int)with|(lo,hi)=>pure (lo,(1:Int),Builtin.Slice.slicePlaces lo hi 1)) _ _ s
 rw[kC' lo hi n]
 show wpAny _ _ (pure (((sIx n 0 lo:Nat):Int),(1:Int),Builtin.Slice.slicePlaces ((sIx n 0 lo:Nat):Int) ((sIx n n hi:Nat):Int) 1)) _ _ s
 rw[kD']
 exact am h
theorem oQ' (xs:Array Value) (i k:Nat):((aF k).filterMap fun(m:Nat)=>xs[((i:Int)+(m:Int)*1).toNat]?).toArray=((xs.toList.drop i).take k).toArray:=by
 have e:(fun(m:Nat)=>xs[((i:Int)+(m:Int)*1).toNat]?)=fun m=>xs[i+m]?:=by
  funext m
  have:((i:Int)+(m:Int)*1).toNat=i+m:=by omega
  rw[this]
 rw[e]
 have:=pick_run xs i k
 rw[List.filterMap_map]at this
 have e2:((fun x=>xs[x]?)∘fun x=>i+x)=fun m=>xs[i+m]?:=rfl
 rw[e2]at this
 rw[this]
theorem d7' {t sl:Addr} {items:Array Value} {vl vu:Value} {lo hi:Option Int} {Q:Value->Shared->Prop} (ht:IsTup s.heap t items) (hs:s.heap.IsSliceOf sl vl vu .none) (pl:IsPart vl lo) (pu:IsPart vu hi)
  (hw:¬(sIx items.size 0 lo=0/\sIx items.size items.size hi=items.size))
  (h:Q (.ref s.heap.objs.size) { s with heap:=s.heap.push { cls:=.type "tuple",data:=.seq ((items.toList.drop (sIx items.size 0 lo)).take (sIx items.size items.size hi-sIx items.size 0 lo)).toArray } })
  (hsz:items.size<=sizeLine):wpAny (model prog w) A (getItem (.ref t) (.ref sl)) Q E s:=by
 have htake:sizeOk (.seq ((items.toList.drop (sIx items.size 0 lo)).take (sIx items.size items.size hi-sIx items.size 0 lo)).toArray):=by
  show((items.toList.drop (sIx items.size 0 lo)).take (sIx items.size items.size hi-sIx items.size 0 lo)).toArray.size<=sizeLine
  rw[ao,aJ,cG,aC]
  omega
 have hj:sIx items.size items.size hi<=items.size:=vg' _ _ (aj _) hi
 obtain⟨os,hos,hcs,hds⟩:=id hs
 have hTs:s.TypeIs (.ref sl) "slice":=⟨os,hos,hcs⟩
 unfold getItem
 try with_reducible refine aX ?_
 first|refine aa (am ?_)|skip
 refine aa (wpAny_sequenceKey ht.typeIs (by decide) ?_)
 refine aa (bn (name:=Str.ofString "__getitem__") ht.typeIs PyProof.Rows.slot_tuple_getitem
  (bw PyProof.Rows.slot_tuple_getitem ht.typeIs entry_tuple_getitem ?_ (args_tuple_getitem _ _)))
 show wpAny _ _ (Builtin.Tuple.tupleItemsOf (.ref t) >>= _) _ _ s
 refine aa (tupleItemsOf_ ht ?_)
 refine aa (wpAny_typeOf hTs ?_)
 rw[if_pos (by decide)]
 refine aa (cQ' hs pl pu ?_)
 have hno:¬((((sIx items.size 0 lo:Nat):Int) == 0&&(1:Int) == 1&&(sIx items.size items.size hi-sIx items.size 0 lo) == items.size)=true):=by
  intro q
  rw[ag,ag]at q
  have q1:((sIx items.size 0 lo:Nat):Int)=0:=eq_of_beq q.1.1
  have q2:sIx items.size items.size hi-sIx items.size 0 lo=items.size:=eq_of_beq q.2
  exact hw ⟨⋯,⋯⟩
 show wpAny _ _ (if(((sIx items.size 0 lo:Nat):Int) == 0&&(1:Int) == 1&&(sIx items.size items.size hi-sIx items.size 0 lo) == items.size)=true then _ else _) _ _ s
 rw[if_neg hno,oQ']
 first
  |exact aa (m:=Builtin.Tuple.tupleExact _) (bc (am ⟨_,rfl,am h⟩) htake)
  |exact aa (m:=Builtin.Tuple.tupleExact _) (bc (aa (am (am ⟨_,rfl,am h⟩))) htake)
  |exact aa (aa (m:=Builtin.Tuple.tupleExact _) (bc (am (am ⟨_,rfl,am h⟩)) htake))
  |exact aa (aa (m:=Builtin.Tuple.tupleExact _) (bc (am ⟨_,rfl,am h⟩) htake))
end
end HT
namespace L2
open PySem PySem.Spec PyProof.Rows
abbrev TO:=St->Hp->(Option Int->Hp->Prop)->Prop
def PO (X:Cx) (e:Option Expr) (t:TO):Prop:=
 ∀(p_:List (Addr×Obj)) (s:Shared) (σ:St) (H:Hp) (Q:Option Int->Hp->Prop),Inv X p_ σ H s->t σ H Q->
  wpAny (model X.prog X.w) X.A (evalPart e X.env) (fun u s'=>∃o H',Inv X p_ σ H' s'/\IsPart u o/\Q o H') X.xe s
def iD':TO:=fun _ H Q=>Q none H
def sz' (t:TE):TO:=fun σ H Q=>t σ H fun x H1=>∃i,x=.int i/\Q (some i) H1
theorem d8' {ns:List Int}:∀{us:List Value},aQ' (ns.map V.int) us->IntsAre us ns:=by
 induction ns with
 |nil=>intro us r;rw[List.map_nil]at r;cases r;exact .nil
 |cons n ns ih=>
  intro us r
  rw[aE]at r
  cases r with
  |cons r1 r2=>
   obtain⟨t,e⟩:=r1
   subst e
   exact .cons n t (ih r2)
section
variable {X:Cx} {e:Expr} {te:TE} {lo hi:Option Expr} {tl th:TO} {pos p2:Pos}
theorem sA':PO X none iD':=by
 intro p_ s σ H Q I h
 rw[evalPart_none]
 exact am ⟨none,H,I,.none,h⟩
theorem sB' (h:PE X e te):PO X (some e) (sz' te):=by
 intro p_ s σ H Q I hw
 rw[evalPart_some]
 refine thn (h p_ s σ H _ I hw) fun u s1 ⟨x,H1,I1,r1,q1⟩=>?_
 obtain⟨i,rfl,q⟩:=q1
 obtain⟨t,rfl⟩:=r1
 exact⟨some i,H1,I1,.int i t,q⟩
def SlR (X:Cx) (r:V->Option Int->Option Int->Hp->VK->Prop):Prop:=
 ∀(p_:List (Addr×Obj)) (s:Shared) (σ:St) (H:Hp) (x:V) (v vl vu:Value) (lo hi:Option Int) (sl:Addr) (Q:VK),Inv X p_ σ H s->aP' x v->s.heap.IsSliceOf sl vl vu .none->IsPart vl lo->IsPart vu hi->r x lo hi H Q->
  ∃T id,typeLookup (.type T) "__getitem__"=pure (some (.builtin id))/\s.TypeIs v T/\wpAny (model X.prog X.w) X.A (getItem v (.ref sl)) (EP X p_ σ Q) X.xe s
theorem SlR.or {r r':V->Option Int->Option Int->Hp->VK->Prop} (h:SlR X r) (h':SlR X r'):SlR X (fun x lo hi H Q=>r x lo hi H Q\/r' x lo hi H Q):=by
 intro p_ s σ H x v vl vu lo hi sl Q I rx hs pl pu q
 rcases q with q|q
 .exact h p_ s σ H x v vl vu lo hi sl Q I rx hs pl pu q
 .exact h' p_ s σ H x v vl vu lo hi sl Q I rx hs pl pu q
def tSl (r:V->Option Int->Option Int->Hp->VK->Prop) (te:TE) (tl th:TO):TE:=fun σ H Q=>te σ H fun x H1=>tl σ H1 fun l H2=>th σ H2 fun u H3=>r x l u H3 Q
theorem oR' {r:V->Option Int->Option Int->Hp->VK->Prop} (hr:SlR X r) (he:PE X e te) (hl:PO X lo tl) (hu:PO X hi th):PE X (.Subscript e (.Slice lo hi none p2) pos) (tSl r te tl th):=by
 intro p_ s σ H Q I h
 refine Subscript_ (thn (he p_ s σ H _ I h) fun v s1 ⟨x,H1,I1,r1,q1⟩=>?_)
 refine wpAny_Slice (thn (hl p_ s1 σ H1 _ I1 q1) fun vl s2 ⟨l,H2,I2,pl,q2⟩=>thn (hu p_ s2 σ H2 _ I2 q2) fun vu s3 ⟨u,H3,I3,pu,q3⟩=>?_)
 rw[evalPart_none]
 refine am ?_
 have I4:Inv X p_ σ H3 { s3 with heap:=s3.heap.push { cls:=.type "slice",data:=.fields #[vl,vu,.none] } }:=I3.kept (t':=s3.toks) fun b ob q=>ae _ q
 obtain⟨T,id,hT,ht,hg⟩:=hr p_ { s3 with heap:=s3.heap.push { cls:=.type "slice",data:=.fields #[vl,vu,.none] } } σ H3 x v vl vu l u s3.heap.objs.size Q I4 r1 (Heap.IsSliceOf.new ..) pl pu q3
 show wpAny (model X.prog X.w) X.A (subscriptTail e (.Slice lo hi none p2) v (.ref s3.heap.objs.size)) (EP X p_ σ Q) X.xe { s3 with heap:=s3.heap.push { cls:=.type "slice",data:=.fields #[vl,vu,.none] } }
 exact tail_any (ops:=[.ref s3.heap.objs.size,v]) ht hT hg (by with_unfolding_all rfl)
def kE' (xs:List V) (lo hi:Option Int):List V:=(xs.drop (HT.sIx xs.length 0 lo)).take (HT.sIx xs.length xs.length hi-HT.sIx xs.length 0 lo)
theorem eW' (xs:List V) (lo hi:Option Int):(kE' xs lo hi).length<=xs.length:=by
 unfold kE'
 rw[aJ,cG]
 omega
def yp' (K:W.Frag):V->Option Int->Option Int->Hp->VK->Prop:=fun x lo hi H Q=>∃a xs,x=.ref a/\SqT K H a xs/\
 ¬(HT.sIx xs.length 0 lo=0/\HT.sIx xs.length xs.length hi=xs.length)/\∀p,H p=none->Q (.ref p) (upd H p (.tup (kE' xs lo hi)))
theorem vh':SlR X (yp' X.K):=by
 intro p_ s σ H x v vl vu lo hi sl Q I rx hs pl pu h
 obtain⟨a,xs,rfl,hx,hw,q⟩:=h
 cases rx
 obtain⟨its,r,ht,hz⟩:=I.tuple hx
 have hlen:its.toArray.size=xs.length:=by rw[ao];exact r.length.symm
 refine⟨"tuple",_,PyProof.Rows.slot_tuple_getitem.lookup,ht.typeIs,?_⟩
 refine HT.d7' ht hs pl pu (by rw[hlen];exact hw) ?_ (by rw[hlen];exact hz)
 rw[hlen]
 refine⟨.ref s.heap.objs.size,_,I.laid (t':=s.toks) (o:=.tup (kE' xs lo hi)) (fun b ob q=>ae _ q) (aj _) ?_,rfl,q _ (I.hok.fresh (aj _))⟩
 exact⟨aN (eW' xs lo hi) hz,_,(r.drop (HT.sIx xs.length 0 lo)).take (HT.sIx xs.length xs.length hi-HT.sIx xs.length 0 lo),qn'.new _ _⟩
def vi' (K:W.Frag):R2:=fun x y H Q=>∃a b xs ys,x=.ref a/\y=.ref b/\SqT K H a xs/\SqT K H b ys/\xs≠[]/\xs.length+ys.length<=sizeLine/\
 (ys=[]->Q (.ref a) H)/\(ys≠[]->∀p,H p=none->Q (.ref p) (upd H p (.tup (xs++ys))))
theorem aQ'.nil_iff {xs:List V} {us:List Value} (r:aQ' xs us):us=[]↔xs=[]:=by
 cases r with
 |nil=>simp
 |cons _ _=>simp
theorem sC':OpR X (binaryOp .Add) (vi' X.K):=by
 intro p_ s σ H x y v u Q I rx ry h
 obtain⟨a,b,xs,ys,rfl,rfl,ha,hb,hx,hz,q1,q2⟩:=h
 cases rx
 cases ry
 obtain⟨its,r1,p1,_⟩:=I.tuple ha
 obtain⟨its2,r2,p2,_⟩:=I.tuple hb
 refine HT.sx' p1 p2 (fun z=>hx (r1.nil_iff.mp z)) (fun z=>⟨.ref a,H,I,rfl,q1 (r2.nil_iff.mp z)⟩) (fun z=>?_) (by rw[<- r1.length,<- r2.length];exact hz)
 refine⟨.ref s.heap.objs.size,_,I.laid (t':=s.toks) (o:=.tup (xs++ys)) (fun b ob q=>ae _ q) (aj _) ?_,rfl,q2 (fun w=>z (r2.nil_iff.mpr w)) _ (I.hok.fresh (aj _))⟩
 exact⟨by rw[aB];exact hz,_,r1.append r2,qn'.new _ _⟩
end
def ixN (n:Nat) (i:Int):Option Nat:=if 0<=i then(if i<n then some i.toNat else none)else if -(n:Int)<=i then some (i+n).toNat else none
def atI {α:Type} (xs:List α) (i:Int):Option α:=(ixN xs.length i).bind fun j=>xs[j]?
theorem lL' {n:Nat} {i:Int} {j:Nat} (h:ixN n i=some j):seqIndex? i n=some j/\j<n/\-(n:Int)<=i/\i<n:=by
 unfold ixN at h
 by_cases h0:0<=i
 .rw[if_pos h0]at h
  by_cases h1:i<n
  .rw[if_pos h1]at h
   have e:i.toNat=j:=Option.some.inj h
   exact⟨by rw[seqIndex_of h0 h1,e],⋯,⋯,h1⟩
  .rw[if_neg h1]at h;cases h
 .rw[if_neg h0]at h
  by_cases h1:-(n:Int)<=i
  .rw[if_pos h1]at h
   have e:(i+n).toNat=j:=Option.some.inj h
   exact⟨by rw[seqIndex_neg ⋯ h1,e],⋯,h1,⋯⟩
  .rw[if_neg h1]at h;cases h
theorem iE' {α:Type} {xs:List α} {i:Int} {v:α} (h:atI xs i=some v):∃j,seqIndex? i xs.length=some j/\xs[j]?=some v/\j<xs.length/\-(xs.length:Int)<=i/\i<xs.length:=by
 unfold atI at h
 cases e:ixN xs.length i with
 |none=>rw[e]at h;cases h
 |some j=>
  rw[e]at h
  obtain⟨h1,h2,h3,h4⟩:=lL' e
  exact⟨j,h1,h,h2,h3,h4⟩
theorem cU' {α:Type} {xs:List α} {j:Nat} {v:α} (h:xs[j]?=some v):atI xs (j:Int)=some v:=by
 have hj:j<xs.length:=(aH.mp h).1
 have e:ixN xs.length (j:Int)=some j:=by
  unfold ixN
  rw[if_pos ⋯,if_pos ⋯];simp
 unfold atI;rw[e];exact h
def lM' (b:Expr):Prop:=∀o i,subscripted b false o i=operate [o,i] (getItem o i)
def IxR (X:Cx) (r:R2):Prop:=
 ∀(value slice:Expr) (p_:List (Addr×Obj)) (s:Shared) (σ:St) (H:Hp) (x y:V) (v u:Value) (Q:VK),Inv X p_ σ H s->aP' x v->aP' y u->r x y H Q->
  subscripted slice false v u=operate [v,u] (getItem v u)->wpAny (model X.prog X.w) X.A (subscriptTail value slice v u) (EP X p_ σ Q) X.xe s
def MtR (X:Cx) (id:String) (r:V->List V->Hp->VK->Prop):Prop:=
 ∀(p_:List (Addr×Obj)) (s:Shared) (σ:St) (H:Hp) (x:V) (xs:List V) (v:Value) (us:List Value) (Q:VK),Inv X p_ σ H s->aP' x v->aQ' xs us->r x xs H Q->
  wpAny (model X.prog X.w) X.A (call (.builtin id) (v :: us)) (EP X p_ σ Q) X.xe s
section
variable {X:Cx} {a b:Expr} {ta tb:TE} {pos:Pos}
theorem IxR.or {r r':R2} (h:IxR X r) (h':IxR X r'):IxR X (fun x y H Q=>r x y H Q\/r' x y H Q):=by
 intro value slice p_ s σ H x y v u Q I rx ry q hs
 rcases q with q|q
 .exact h value slice p_ s σ H x y v u Q I rx ry q hs
 .exact h' value slice p_ s σ H x y v u Q I rx ry q hs
theorem zb' {r:R2} (hr:IxR X r) (ha:PE X a ta) (hb:PE X b tb) (hs:lM' b):PE X (.Subscript a b pos) (tOp r ta tb):=by
 intro p_ s σ H Q I h
 exact Subscript_ (yY' ha hb I h fun v u s2 x y H2 I2 rx ry q=>hr a b p_ s2 σ H2 x y v u Q I2 rx ry q (hs _ _))
def gN' (K:W.Frag):R2:=fun x y H Q=>∃p xs i v,x=.ref p/\y=.int i/\SqL K H p xs/\atI xs i=some v/\Q v H
def gU' (K:W.Frag):R2:=fun x y H Q=>∃p xs i v,x=.ref p/\y=.int i/\SqT K H p xs/\atI xs i=some v/\Q v H
def AJ':R2:=fun x y H Q=>∃z i c,x=.str z/\y=.int i/\z.length<=sizeLine/\atI z.cps.toList i=some c/\Q (.str ⟨#[c]⟩) H
theorem sD':IxR X (gN' X.K):=by
 intro value slice p_ s σ H x y v u Q I rx ry h hs
 obtain⟨p,xs,i,z,rfl,rfl,hq,he,q⟩:=h
 cases rx
 obtain⟨t,rfl⟩:=ry
 obtain⟨its,r,pl,hz⟩:=I.list hq
 obtain⟨j,h1,h2,h3,h4,h5⟩:=iE' he
 obtain⟨w,ew,rw'⟩:=r.get h2
 have hl:=r.length
 have hn:=fI'
 have fin:EP X p_ σ Q w s:=⟨z,H,I,rw',q⟩
 by_cases h0:0<=i
 .have hj:i.toNat=j:=by
   rw[seqIndex_of h0 h5]at h1
   exact Option.some.inj h1
  exact item_listR pl.isList h0 ⋯ (by rw[hj];simpa using ew) fin hs
 .have hj:(i+(its.toArray.size:Int)).toNat=j:=by
   rw[seqIndex_neg ⋯ h4]at h1
   rw[ao,<- hl]
   exact Option.some.inj h1
  exact subscriptTail_builtinR (x:=w) pl.isList.typeIs slot_list_getitem.lookup
   (wpAny_getItem_list_neg (Q:=fun r s'=>r=w/\EP X p_ σ Q r s') pl.isList ⋯ (by rw[ao]<;>omega) ⋯ (by rw[hj];simpa using ew) ⟨rfl,fin⟩) hs
theorem vj':IxR X (gU' X.K):=by
 intro value slice p_ s σ H x y v u Q I rx ry h hs
 obtain⟨p,xs,i,z,rfl,rfl,hq,he,q⟩:=h
 cases rx
 obtain⟨t,rfl⟩:=ry
 obtain⟨its,r,pl,hz⟩:=I.tuple hq
 obtain⟨j,h1,h2,h3,h4,h5⟩:=iE' he
 obtain⟨w,ew,rw'⟩:=r.get h2
 have hl:=r.length
 have hn:=fI'
 have fin:EP X p_ σ Q w s:=⟨z,H,I,rw',q⟩
 exact subscriptTail_builtinR (x:=w) pl.typeIs slot_tuple_getitem.lookup
  (getItem_tuple (j:=j) (Q:=fun r s'=>r=w/\EP X p_ σ Q r s') pl ⋯ ⋯ (by rw[ao,<- hl];exact h1) (by simpa using ew) ⟨rfl,fin⟩) hs
theorem vk':IxR X AJ':=by
 intro value slice p_ s σ H x y v u Q I rx ry h hs
 obtain⟨z,i,c,rfl,rfl,hz,he,q⟩:=h
 obtain⟨t,rfl⟩:=rx
 obtain⟨t',rfl⟩:=ry
 obtain⟨j,h1,h2,h3,h4,h5⟩:=iE' he
 have hl:z.cps.toList.length=z.length:=by simp[Str.length]
 rw[hl]at h1 h4 h5
 have hn:=fI'
 exact tail_any (typeIs_str s z t) slot_str_getitem.lookup (getItem_str (c:=c) (by
  have e1:decide (i < -(2 ^ 63:Int))=false:=decide_eq_false ⋯
  have e2:decide (i ≥ 2 ^ 63)=false:=decide_eq_false ⋯
  rw[e1,e2,Bool.or_false]) (by rw[h1];simpa using h2) ⟨.str ⟨#[c]⟩,H,I.tok _,⟨_,rfl⟩,q⟩) hs
def rIx (K:W.Frag):R2:=fun x y H Q=>gN' K x y H Q\/gU' K x y H Q\/AJ' x y H Q
theorem vl':IxR X (rIx X.K):=sD'.or (vj'.or vk')
theorem kF' (its:List Value) (n j:Nat) (u:Value):Obj.mapSeq (·.setIfInBounds j u) { cls:=.type "list",data:=.seq its.toArray n }={ cls:=.type "list",data:=.seq (its.set j u).toArray n }:=by
 simp[Obj.mapSeq]
theorem Inv.lst {p_:List (Addr×Obj)} {σ:St} {H:Hp} {s:Shared} {p:Addr} {xs:List V} (I:Inv X p_ σ H s) (h:H p=some (.lst xs)):
  ∃(its:List Value) (n:Nat),aQ' xs its/\s.heap.get? p=some { cls:=.type "list",data:=.seq its.toArray n }/\xs.length<=sizeLine:=by
 obtain⟨z,its,n,r,e⟩:=I.hok p _ h
 exact⟨its,n,r,e,z⟩
theorem Inv.lstUpd {p_:List (Addr×Obj)} {σ:St} {H:Hp} {s:Shared} {p:Addr} {xs ys:List V} {its its':List Value} {n n':Nat} {f:Obj->Obj} (I:Inv X p_ σ H s) (h:H p=some (.lst xs))
  (ho:s.heap.get? p=some { cls:=.type "list",data:=.seq its.toArray n }) (hf:f { cls:=.type "list",data:=.seq its.toArray n }={ cls:=.type "list",data:=.seq its'.toArray n' }) (r:aQ' ys its') (hz:ys.length<=sizeLine) (t:Nat):
  Inv X p_ σ (upd H p (.lst ys)) { s with heap:=s.heap.update p f,toks:=t }:=by
 have e:(s.heap.update p f).get? p=some { cls:=.type "list",data:=.seq its'.toArray n' }:=by
  rw[cn f ho (by rw[hf]<;>rfl),hf]
 refine I.write (x:=p) (e:=p) (by rw[h];trivial) (.inl rfl) (fun b u hb q=>(Heap.get?_update_other _ _ (Ne.symm hb)).trans q) ⟨_,e⟩ ?_
 exact⟨hz,its',n',r,e⟩
def ew':V->V->V->Hp->(Hp->Prop)->Prop:=fun o i v H Q=>∃p xs k j,o=.ref p/\i=.int k/\H p=some (.lst xs)/\ixN xs.length k=some j/\Q (upd H p (.lst (xs.set j v)))
theorem oS':AH' X ew':=by
 intro p_ s σ H o i v ov iv u Q I ro ri rv h
 obtain⟨p,xs,k,j,rfl,rfl,hp,hj,q⟩:=h
 cases ro
 obtain⟨t,rfl⟩:=ri
 obtain⟨its,n,r,ho,hz⟩:=I.lst hp
 obtain⟨h1,h2,h3,h4⟩:=lL' hj
 have hl:=r.length
 have hn:=fI'
 have I':Inv X p_ σ (upd H p (.lst (xs.set j v))) { s with heap:=s.heap.update p (Obj.mapSeq (·.setIfInBounds j u)) }:=
  I.lstUpd hp ho (kF' its n j u) (r.set rv j) (by rw[List.length_set];exact hz) s.toks
 by_cases h0:0<=k
 .have hk:k.toNat=j:=by
   rw[seqIndex_of h0 h4]at h1
   exact Option.some.inj h1
  exact W.ki_setAt ho h0 ⋯ (by rw[ao,<- hl];exact h4) (by rw[hk];exact⟨_,I',q⟩)
 .have hk:(k+(its.toArray.size:Int)).toNat=j:=by
   rw[seqIndex_neg ⋯ h3]at h1
   rw[ao,<- hl]
   exact Option.some.inj h1
  exact W.ki_setBack ho ⋯ (by rw[ao,<- hl];exact h3) ⋯ (by rw[hk];exact⟨_,I',q⟩)
theorem gV' (lo hi:Option Int) (n:Nat):(sliceBounds lo hi none n).1=((HT.sIx n 0 lo:Nat):Int)/\(sliceBounds lo hi none n).2.1=((HT.sIx n n hi:Nat):Int)/\(sliceBounds lo hi none n).2.2=1:=by
 refine⟨?_,?_,rfl⟩
 .cases lo with
  |none=>simp[sliceBounds,HT.sIx]
  |some i=>
   simp only[sliceBounds,HT.sIx,Option.getD_none,show(1:Int) > 0 by decide,if_true]
   by_cases h:i<0
   .simp only[h,if_true]<;>omega
   .simp only[h,if_false]<;>omega
 .cases hi with
  |none=>simp[sliceBounds,HT.sIx]
  |some i=>
   simp only[sliceBounds,HT.sIx,Option.getD_none,show(1:Int) > 0 by decide,if_true]
   by_cases h:i<0
   .simp only[h,if_true]<;>omega
   .simp only[h,if_false]<;>omega
theorem f5' (its:List Value) (lo hi:Option Int):slicePick its.toArray lo hi none=((its.drop (HT.sIx its.length 0 lo)).take (HT.sIx its.length its.length hi-HT.sIx its.length 0 lo)).toArray:=by
 obtain⟨h1,h2,h3⟩:=gV' lo hi its.toArray.size
 unfold slicePick
 rw[h1,h2,h3]
 simp only[sliceRange_one,pick_run,ao]<;>rfl
def yq' (K:W.Frag):V->Option Int->Option Int->Hp->VK->Prop:=fun x lo hi H Q=>∃a xs,x=.ref a/\SqL K H a xs/\∀p,H p=none->Q (.ref p) (upd H p (.lst (kE' xs lo hi)))
theorem sE':SlR X (yq' X.K):=by
 intro p_ s σ H x v vl vu lo hi sl Q I rx hs pl pu h
 obtain⟨a,xs,rfl,hx,q⟩:=h
 cases rx
 obtain⟨its,r,ht,hz⟩:=I.list hx
 have hlen:=r.length
 refine⟨"list",_,slot_list_getitem.lookup,ht.isList.typeIs,?_⟩
 refine wpAny_getItem_list_slice ht.isList hs pl pu .none (by simp) ?_ (by rw[ao]<;>omega)
 rw[f5',<- hlen]
 refine⟨.ref s.heap.objs.size,_,I.laid (t':=s.toks) (o:=.lst (kE' xs lo hi)) (fun b ob q=>ae _ q) (aj _) ?_,rfl,q _ (I.hok.fresh (aj _))⟩
 exact⟨aN (eW' xs lo hi) hz,_,0,(r.drop (HT.sIx xs.length 0 lo)).take (HT.sIx xs.length xs.length hi-HT.sIx xs.length 0 lo),av _ rfl⟩
def gW':V->Bool
 | .non=>true
 | .bl _=>true
 | .int _=>true
 | .str _=>true
 |_=>false
def eqV:V->V->Bool
 | .non,.non=>true
 | .bl a,.bl b=>a == b
 | .bl a,.int b=>(if a then 1 else 0) == b
 | .int a,.bl b=>a == (if b then 1 else 0)
 | .int a,.int b=>a == b
 | .str a,.str b=>a == b
 |_,_=>false
theorem vm' {A:Around} {s:Shared} {y x:V} {u v:Value} (ry:aP' y u) (rx:aP' x v) (fy:gW' y=true) (fx:gW' x=true):SeqAt.EqAt A s u v (eqV y x):=by
 cases y with
 |non=>
  cases ry
  cases x with
  |non=>cases rx;exact SeqAt.EqAt.same _
  |bl b=>cases rx;exact SeqAt.EqAt.none_bool b
  |int b=>obtain⟨t,rfl⟩:=rx;exact SeqAt.EqAt.none_int b t
  |str b=>obtain⟨t,rfl⟩:=rx;exact SeqAt.EqAt.none_str b t
  |_=>exact absurd (show false=true from fx) aw
 |bl a=>
  cases ry
  cases x with
  |non=>cases rx;exact SeqAt.EqAt.bool_none a
  |bl b=>cases rx;exact SeqAt.EqAt.bool_bool a b
  |int b=>obtain⟨t,rfl⟩:=rx;exact SeqAt.EqAt.bool_int a b t
  |str b=>obtain⟨t,rfl⟩:=rx;exact SeqAt.EqAt.bool_str a b t
  |_=>exact absurd (show false=true from fx) aw
 |int a=>
  obtain⟨t',rfl⟩:=ry
  cases x with
  |non=>cases rx;exact SeqAt.EqAt.int_none a t'
  |bl b=>cases rx;exact SeqAt.EqAt.int_bool a t' b
  |int b=>obtain⟨t,rfl⟩:=rx;exact SeqAt.EqAt.int_int a t' b t
  |str b=>obtain⟨t,rfl⟩:=rx;exact SeqAt.EqAt.int_str a t' b t
  |_=>exact absurd (show false=true from fx) aw
 |str a=>
  obtain⟨t',rfl⟩:=ry
  cases x with
  |non=>cases rx;exact SeqAt.EqAt.str_none a t'
  |bl b=>cases rx;exact SeqAt.EqAt.str_bool a t' b
  |int b=>obtain⟨t,rfl⟩:=rx;exact SeqAt.EqAt.str_int a t' b t
  |str b=>obtain⟨t,rfl⟩:=rx;exact SeqAt.EqAt.str_str a t' b t
  |_=>exact absurd (show false=true from fx) aw
 |_=>exact absurd (show false=true from fy) aw
def eqU (x:V) (u:Value):Bool:=match u with
 | .none=>eqV .non x
 | .bool b=>eqV (.bl b) x
 | .int i _=>eqV (.int i) x
 | .str z _=>eqV (.str z) x
 |_=>false
theorem qw' {x y:V} {u:Value} (r:aP' y u) (f:gW' y=true):eqU x u=eqV y x:=by
 cases y with
 |non=>cases r;rfl
 |bl b=>cases r;rfl
 |int i=>obtain⟨t,rfl⟩:=r;rfl
 |str z=>obtain⟨t,rfl⟩:=r;rfl
 |_=>exact absurd (show false=true from f) aw
theorem eX' {x:V}:∀{xs:List V} {us:List Value},aQ' xs us->xs.all gW'=true->us.any (eqU x)=xs.any fun y=>eqV y x
 |_,_,.nil,_=>rfl
 |y :: xs,u :: us,.cons r t,f=>by
  rw[dg,ag]at f
  rw[cq,cq,qw' r f.1,eX' t f.2]
theorem dK' {A:Around} {s:Shared} {x:V} {v:Value} (rx:aP' x v) (fx:gW' x=true):∀{xs:List V} {us:List Value},aQ' xs us->xs.all gW'=true->∀u∈us,SeqAt.EqAt A s u v (eqU x u)
 |_,_,.nil,_=>fun u hu=>by cases hu
 |y :: xs,u :: us,.cons r t,f=>fun u' hu=>by
  rw[dg,ag]at f
  rcases al.mp hu with rfl|hu
  .rw[qw' r f.1];exact vm' r rx f.1 fx
  .exact dK' rx fx t f.2 u' hu
def inV (x:V) (xs:List V):Bool:=xs.any fun y=>eqV y x
def rIn (K:W.Frag) (neg:Bool):R2:=fun x y H Q=>∃p xs,y=.ref p/\(SqL K H p xs\/SqT K H p xs)/\gW' x=true/\xs.all gW'=true/\Q (.bl (if neg then !inV x xs else inV x xs)) H
theorem lN':OpR X (compareOp .In) (rIn X.K false):=by
 intro p_ s σ H x y v u Q I rx ry h
 obtain⟨p,xs,rfl,hq,fx,fs,q⟩:=h
 cases ry
 rcases hq with hq|hq
 .obtain⟨its,r,pl,hz⟩:=I.list hq
  refine SeqAt.in_listAt (eqU x) pl.isList (fun w hw=>dK' rx fx r fs w (by simpa using hw)) ⟨.bl _,H,I,rfl,?_⟩
  rw[show its.toArray.any (eqU x)=its.any (eqU x) by simp,eX' r fs]
  exact q
 .obtain⟨its,r,pl,hz⟩:=I.tuple hq
  refine SeqAt.in_tupleAt (eqU x) pl (fun w hw=>dK' rx fx r fs w (by simpa using hw)) ⟨.bl _,H,I,rfl,?_⟩
  rw[show its.toArray.any (eqU x)=its.any (eqU x) by simp,eX' r fs]
  exact q
theorem gX':OpR X (compareOp .NotIn) (rIn X.K true):=by
 intro p_ s σ H x y v u Q I rx ry h
 obtain⟨p,xs,rfl,hq,fx,fs,q⟩:=h
 cases ry
 rcases hq with hq|hq
 .obtain⟨its,r,pl,hz⟩:=I.list hq
  refine SeqAt.notIn_listAt (eqU x) pl.isList (fun w hw=>dK' rx fx r fs w (by simpa using hw)) ⟨.bl _,H,I,rfl,?_⟩
  rw[show its.toArray.any (eqU x)=its.any (eqU x) by simp,eX' r fs]
  exact q
 .obtain⟨its,r,pl,hz⟩:=I.tuple hq
  refine SeqAt.notIn_tupleAt (eqU x) pl (fun w hw=>dK' rx fx r fs w (by simpa using hw)) ⟨.bl _,H,I,rfl,?_⟩
  rw[show its.toArray.any (eqU x)=its.any (eqU x) by simp,eX' r fs]
  exact q
theorem a4'.or {f:Value} {r r':List V->Hp->VK->Prop} (h:a4' X f r) (h':a4' X f r'):a4' X f (fun xs H Q=>r xs H Q\/r' xs H Q):=by
 intro p_ s σ H xs us Q I rs q
 rcases q with q|q
 .exact h p_ s σ H xs us Q I rs q
 .exact h' p_ s σ H xs us Q I rs q
theorem gY':a4' X (.type "list") (fun xs H Q=>∃p ys,xs=[.ref p]/\(SqL X.K H p ys\/SqT X.K H p ys)/\∀l,H l=none->Q (.ref l) (upd H l (.lst ys))):=by
 intro p_ s σ H xs us Q I r h
 obtain⟨p,ys,rfl,hq,q⟩:=h
 obtain⟨u,rfl,rx⟩:=er' r
 cases rx
 have fin:∀(its:List Value),aQ' ys its->ys.length<=sizeLine->∀(h':Heap) (c':Nat),(∀b o',s.heap.get? b=some o'->h'.get? b=some o')->
   h'.get? s.heap.objs.size=some { cls:=.type "list",dict:=none,data:=.seq its.toArray c',slots:=#[] }->EP X p_ σ Q (.ref s.heap.objs.size) { s with heap:=h' }:=fun its r' hz h' c' kp e=>
  ⟨.ref s.heap.objs.size,_,I.laid (t':=s.toks) kp (aj _) (show aE' X.prog X.w _ h' _ (.lst ys) from⟨hz,its,c',r',e⟩),rfl,q _ (I.hok.fresh (aj _))⟩
 rcases hq with hq|hq
 .obtain⟨its,r',pl,hz⟩:=I.list hq
  have hlen:=r'.length
  obtain⟨o,ho,hc,n,hd⟩:=pl.isList
  exact call_list_seq p (.inl rfl) ho hc hd (fun h' c' kp e=>fin its r' hz h' c' kp e) (by simp only[ao]<;>omega)
 .obtain⟨its,r',pl,hz⟩:=I.tuple hq
  have hlen:=r'.length
  obtain⟨o,ho,hc,n,hd⟩:=pl
  exact call_list_seq p (.inr rfl) ho hc hd (fun h' c' kp e=>fin its r' hz h' c' kp e) (by simp only[ao]<;>omega)
theorem f6':a4' X (.type "tuple") (fun xs H Q=>∃p ys,xs=[.ref p]/\((SqL X.K H p ys/\∀l,H l=none->Q (.ref l) (upd H l (.tup ys)))\/(SqT X.K H p ys/\Q (.ref p) H))):=by
 intro p_ s σ H xs us Q I r h
 obtain⟨p,ys,rfl,h⟩:=h
 obtain⟨u,rfl,rx⟩:=er' r
 cases rx
 rcases h with⟨hq,q⟩|⟨hq,q⟩
 .obtain⟨its,r',pl,hz⟩:=I.list hq
  have hlen:=r'.length
  refine call_tuple_list pl.isList (fun h' kp=>?_) (by simp only[ao]<;>omega)
  have I1:Inv X p_ σ H { s with heap:=h' }:=I.kept (t':=s.toks) kp
  have I2:Inv X p_ σ (upd H h'.objs.size (.tup ys)) { s with heap:=h'.push { cls:=.type "tuple",data:=.seq its.toArray } }:=
   I1.laid (t':=s.toks) (fun b o e=>ae _ e) (aj _) (show aE' X.prog X.w _ _ _ (.tup ys) from⟨hz,its,r',qn'.new _ _⟩)
  exact⟨.ref h'.objs.size,_,I2,rfl,q _ (I1.hok.fresh (aj _))⟩
 .obtain⟨its,r',pl,hz⟩:=I.tuple hq
  exact call_tuple_same pl ⟨.ref p,H,I,rfl,q⟩
def tyV (K:W.Frag) (T:String) (x:V) (H:Hp):Prop:=match x with
 | .str _=>T="str"
 | .int _=>T="int"
 | .ref p=>(T="list"/\∃xs,SqL K H p xs)\/(T="tuple"/\((∃o,K.lookup p=some o/\o.cls=.type "tuple"/\o.dict=none)\/∃xs,H p=some (.tup xs)))\/
   (T="dict"/\((∃kvs,H p=some (.dK kvs))\/∃kvs,H p=some (.dT kvs)))\/(T="set"/\∃S n,H p=some (.set S n))
 |_=>False
theorem qx' {p_:List (Addr×Obj)} {σ:St} {H:Hp} {s:Shared} {T:String} {x:V} {v:Value} (I:Inv X p_ σ H s) (r:aP' x v) (ty:tyV X.K T x H):
  s.TypeIs v T/\∀a,v=.ref a->∃ob,s.heap.get? a=some ob/\ob.dict=none:=by
 cases x with
 |str z=>
  obtain⟨t,rfl⟩:=r
  cases(show T="str" from ty)
  exact⟨typeIs_str s z t,fun _ e=>nomatch e⟩
 |int i=>
  obtain⟨t,rfl⟩:=r
  cases(show T="int" from ty)
  exact⟨typeIs_int s i t,fun _ e=>nomatch e⟩
 |ref p=>
  cases r
  rcases ty with⟨rfl,xs,hq⟩|⟨rfl,⟨o,hk,hc,hd⟩|⟨xs,hk⟩⟩|⟨rfl,hk⟩|⟨rfl,S,n,hk⟩
  .obtain⟨its,_,pl,_⟩:=I.list hq
   refine⟨pl.isList.typeIs,fun a e=>?_⟩
   cases e
   obtain⟨o,n,e,c,hd,_⟩:=pl
   exact⟨o,e,hd⟩
  .refine⟨⟨o,I.kIn p o hk,hc⟩,fun a e=>?_⟩
   cases e
   exact⟨o,I.kIn _ o hk,hd⟩
  .obtain⟨_,_,_,o,e,c,_,hd⟩:=I.hok p _ hk
   refine⟨⟨o,e,c⟩,fun a e2=>?_⟩
   cases e2
   exact⟨o,e,hd⟩
  .have z:∃o,s.heap.get? p=some o/\o.ExactDict:=by
    rcases hk with⟨kvs,hk⟩|⟨kvs,hk⟩
    .obtain⟨_,_,_,_,o,_,_,e,ex,_⟩:=I.hok p _ hk
     exact⟨o,e,ex⟩
    .obtain⟨_,_,_,_,o,_,_,e,ex,_⟩:=I.hok p _ hk
     exact⟨o,e,ex⟩
   obtain⟨o,e,ex⟩:=z
   refine⟨⟨o,e,ex.1⟩,fun a e2=>?_⟩
   cases e2
   exact⟨o,e,ex.2.1⟩
  .obtain⟨o,_,_,_,e,ex,_⟩:=I.hok p _ hk
   refine⟨⟨o,e,ex.1⟩,fun a e2=>?_⟩
   cases e2
   exact⟨o,e,ex.2.1⟩
 |_=>exact False.elim ty
def BC' (K:W.Frag) (T:String) (r:V->List V->Hp->VK->Prop) (to:TE):TE:=fun σ H Q=>to σ H fun x H1=>tyV K T x H1/\r x [] H1 Q
def tBM (K:W.Frag) (T:String) (r:V->List V->Hp->VK->Prop) (to:TE) (t:TA):TE:=fun σ H Q=>to σ H fun x H1=>tyV K T x H1/\t σ H1 fun xs H2=>r x xs H2 Q
variable {o e:Expr} {es:List Expr} {to:TE} {t:TA} {name:Str} {apos cpos:Pos} {T id:String} {r:V->List V->Hp->VK->Prop}
theorem vn' (pa:PlainAttrs T) (slot:Slot T name id) (hty:typeOf (.builtin id)=pure (.type "method_descriptor")) (hm:MtR X id r) (ho:PE X o to)
  (hbase:attributeBase o name X.env (eval o X.env)=eval o X.env:=by rfl) (hline:(apos.endLine == cpos.line)=true:=by rfl):PE X (.Call (.Attribute o name apos) [] [] cpos) (BC' X.K T r to):=by
 intro p_ s σ H Q I h
 refine wpAny_Call_method0_late hbase hline (thn (ho p_ s σ H _ I h) fun v s1 ⟨x,H1,I1,r1,ty,q1⟩=>?_)
 obtain⟨h1,h2⟩:=qx' I1 r1 ty
 exact⟨T,id,pa,slot,hty,h1,h2,Calls.callWith_builtin rfl (PySem.evalArgs_none (hm p_ s1 σ H1 x [] v [] Q I1 r1 .nil q1))⟩
theorem zc' (pa:PlainAttrs T) (slot:Slot T name id) (hty:typeOf (.builtin id)=pure (.type "method_descriptor")) (hm:MtR X id r) (ho:PE X o to) (ha:PA X (e :: es) t)
  (hbase:attributeBase o name X.env (eval o X.env)=eval o X.env:=by rfl)
  (hfew:((backTo cpos (starEach (e :: es) X.env)).all (fun x=>!x.1)&&(backToKw cpos (keywordEach [] X.env)).all (fun x=>x.1.isSome)
   && decide ((e :: es).length+([]:List Keyword).length+(if([]:List Keyword).isEmpty then 0 else 1)<30))=true:=by rfl)
  (hline:(apos.endLine == cpos.line)=true:=by rfl) (hs:starEach (e :: es) X.env=(false,eval e X.env) :: starEach es X.env:=by rfl) (hplain:(backTo cpos (starEach es X.env)).any (·.1)=false:=by rfl):
  PE X (.Call (.Attribute o name apos) (e :: es) [] cpos) (tBM X.K T r to t):=by
 intro p_ s σ H Q I h
 refine wpAny_Call_method_late hbase hfew hline rfl (thn (ho p_ s σ H _ I h) fun v s1 ⟨x,H1,I1,r1,ty,q1⟩=>?_)
 obtain⟨h1,h2⟩:=qx' I1 r1 ty
 refine⟨T,id,pa,slot,hty,h1,h2,?_⟩
 have hA:=ha cpos p_ s1 σ H1 _ I1 q1
 rw[hs]at hA ⊢
 refine Calls.callWith_builtin (by show(false || (backTo cpos (starEach es X.env)).any (·.1))=false;rw[hplain]<;>rfl) (Calls.evalArgs_plain ?_)
 exact thn hA fun us s2 ⟨vs,H2,I2,r2,q2⟩=>hm p_ s2 σ H2 x vs v us Q I2 r1 r2 q2
end
def MtM (X:Cx) (id:String) (r:V->List V->Hp->VK->Prop):Prop:=
 ∀(p_:List (Addr×Obj)) (s:Shared) (σ:St) (H:Hp) (x:V) (xs:List V) (v:Value) (us:List Value) (Q:VK),Inv X p_ σ H s->aP' x v->aQ' xs us->r x xs H Q->
  wpAny (model X.prog X.w) X.A (call (.builtin id) (v :: us)) (EP X p_ σ Q) X.xe s
theorem aQ'.one:∀{x:V} {us:List Value},aQ' [x] us->∃u,us=[u]/\aP' x u
 |_,_,.cons r .nil=>⟨_,rfl,r⟩
theorem aQ'.zero:∀{us:List Value},aQ' [] us->us=[]
 |_,.nil=>rfl
theorem aQ'.rep {xs:List V} {us:List Value} (h:aQ' xs us):∀k:Nat,aQ' (ay k xs).flatten (ay k us).flatten
 |0=>.nil
 |k+1=>by
  rw[bv,bv,ba,ba]
  exact aQ'.append h (aQ'.rep h k)
theorem gZ' (its:List Value):∀(k:Nat) (acc:List Value),
  List.foldl (fun x1 x2=>x1++x2) acc.toArray (ay k its.toArray)=(acc++(ay k its).flatten).toArray
 |0,acc=>by simp
 |k+1,acc=>by
  have e:acc.toArray++its.toArray=(acc++its).toArray:=by simp
  have e2:(acc++its)++(ay k its).flatten=acc++(ay (k+1) its).flatten:=by
   rw[bv,ba,bp]
  rw[<- e2,<- gZ' its k (acc++its),<- e,bv,cg]
section
variable {X:Cx} {p_:List (Addr×Obj)} {σ:St} {H:Hp} {s:Shared} {l b:Addr} {xs ys zs:List V}
theorem Inv.lset {its its':List Value} {n:Nat} {f:Array Value->Array Value} {t':Nat} (I:Inv X p_ σ H s) (hH:H l=some (.lst xs))
  (e:s.heap.get? l=some { cls:=.type "list",data:=.seq its.toArray n }) (hf:f its.toArray=its'.toArray) (hv:aQ' ys its') (hz:ys.length<=sizeLine):
  Inv X p_ σ (upd H l (.lst ys)) { s with heap:=s.heap.update l (Obj.mapSeq f),toks:=t' }:=by
 have q:=PySem.IsL.update e f
 rw[hf]at q
 refine I.write (x:=l) (e:=l) (by rw[hH];exact trivial) (.inl rfl) (fun b' u hb hu=>(Heap.get?_update_other s.heap (Obj.mapSeq f) (Ne.symm hb)).trans hu) ⟨_,q⟩ ?_
 exact⟨hz,its',_,hv,q⟩
theorem Inv.lnew {its:List Value} {t':Nat} (I:Inv X p_ σ H s) (hv:aQ' ys its) (hz:ys.length<=sizeLine):
  Inv X p_ σ (upd H s.heap.objs.size (.lst ys)) { s with heap:=s.heap.push { cls:=.type "list",data:=.seq its.toArray },toks:=t' }:=
 I.laid (fun _ _ q=>ae _ q) (aj _) ⟨hz,its,0,hv,av _ rfl⟩
theorem Inv.fresh (I:Inv X p_ σ H s):H s.heap.objs.size=none:=I.hok.fresh (aj _)
theorem Inv.lstM (I:Inv X p_ σ H s) (hH:H l=some (.lst xs)):xs.length<=sizeLine/\∃(its:List Value) (n:Nat),aQ' xs its/\xs.length=its.length/\s.heap.get? l=some { cls:=.type "list",data:=.seq its.toArray n }:=by
 obtain⟨z,its,n,r,e⟩:=I.hok l _ hH
 exact⟨z,its,n,r,r.length,e⟩
theorem jq' {n:Nat} (h:n<=sizeLine):Builtin.List.listTooLong n=false:=by
 unfold Builtin.List.listTooLong
 exact decide_eq_false ⋯
end
section
variable {X:Cx}
def lO':V->List V->Hp->VK->Prop:=fun x vs H Q=>∃l xs y,x=.ref l/\vs=[y]/\H l=some (.lst xs)/\xs.length<sizeLine/\Q .non (upd H l (.lst (xs++[y])))
theorem lP':MtM X "list.append" lO':=by
 intro p_ s σ H x vs v us Q I rx rv h
 obtain⟨l,xs,y,rfl,rfl,hH,hz,q⟩:=h
 cases rx
 obtain⟨u,rfl,ru⟩:=rv.one
 obtain⟨z,its,n,r,hl,e⟩:=I.lstM hH
 refine call_meets F.slot_list_append ⟨_,e,rfl⟩ F.entry_list_append (F.args_list_append_2 _ _) (PySem.list_append l its.toArray n u (by rw[ao];omega)) ⟨e,?_⟩
 refine⟨.non,_,I.lset (its':=its++[u]) hH e (by simp) (r.append (.cons ru .nil)) ?_,rfl,q⟩
 rw[aB,List.length_singleton]
 omega
def lQ':V->List V->Hp->VK->Prop:=fun x vs H Q=>∃l b xs zs,x=.ref l/\vs=[.ref b]/\H l=some (.lst xs)/\H b=some (.lst zs)/\xs.length+zs.length<=sizeLine/\Q .non (upd H l (.lst (xs++zs)))
theorem lR':MtM X "list.extend" lQ':=by
 intro p_ s σ H x vs v us Q I rx rv h
 obtain⟨l,b,xs,zs,rfl,rfl,hH,hB,hz,q⟩:=h
 cases rx
 obtain⟨u,rfl,ru⟩:=rv.one
 cases ru
 obtain⟨z,its,n,r,hl,e⟩:=I.lstM hH
 obtain⟨z2,its2,n2,r2,hl2,e2⟩:=I.lstM hB
 have hsz:its.toArray.size+its2.toArray.size<=sizeLine:=by rw[ao,ao];omega
 have hlong:¬(!its.toArray.isEmpty&&Builtin.List.listTooLong (its.toArray.size+its2.toArray.size))=true:=by
  rw[jq' hsz,Bool.and_false]
  exact aw
 refine call_meets F.slot_list_extend ⟨_,e,rfl⟩ F.entry_list_extend (F.args_list_extend_2 _ _)
  (AutoSeq1.list_extend_list_list_0 l its.toArray n b its2.toArray n2 hlong (by rw[ao];omega) ⋯) ⟨e,e2,?_⟩
 refine⟨.non,_,I.lset (its':=its++its2) hH e (by simp) (r.append r2) ?_,rfl,q⟩
 rw[aB]
 omega
def AK':R2:=fun x y H Q=>∃l b xs zs,x=.ref l/\y=.ref b/\H l=some (.lst xs)/\H b=some (.lst zs)/\xs.length+zs.length<=sizeLine/\∀p,H p=none->Q (.ref p) (upd H p (.lst (xs++zs)))
theorem vo':OpR X (binaryOp .Add) AK':=by
 intro p_ s σ H x y v u Q I rx ry h
 obtain⟨l,b,xs,zs,rfl,rfl,hH,hB,hz,q⟩:=h
 cases rx
 cases ry
 obtain⟨z,its,n,r,hl,e⟩:=I.lstM hH
 obtain⟨z2,its2,n2,r2,hl2,e2⟩:=I.lstM hB
 refine PySem.P.add_list e e2 ?_ (by rw[ao,ao];omega)
 have ea:its.toArray++its2.toArray=(its++its2).toArray:=by simp
 rw[ea]
 exact⟨.ref _,_,I.lnew (t':=s.toks) (r.append r2) (by rw[aB];omega),rfl,q _ I.fresh⟩
def AL':R2:=fun x y H Q=>∃l k xs,x=.ref l/\y=.int k/\H l=some (.lst xs)/\-(2 ^ 63)<=k/\k<2 ^ 63/\xs.length*k.toNat<=sizeLine/\
 ∀p,H p=none->Q (.ref p) (upd H p (.lst (ay k.toNat xs).flatten))
theorem sF' {α:Type} (xs:List α) (k:Nat):(ay k xs).flatten.length=k*xs.length:=by
 induction k with
 |zero=>simp
 |succ k ih=>rw[bv,ba,aB,ih,Nat.succ_mul,Nat.add_comm]
theorem vp':OpR X (binaryOp .Mult) AL':=by
 intro p_ s σ H x y v u Q I rx ry h
 obtain⟨l,k,xs,rfl,rfl,hH,h1,h2,hz,q⟩:=h
 cases rx
 obtain⟨t,rfl⟩:=ry
 obtain⟨z,its,n,r,hl,e⟩:=I.lstM hH
 have hlen:its.toArray.size*k.toNat<=sizeLine:=by rw[ao,<- hl];exact hz
 have hcap:¬its.toArray.size*k.toNat > (2 ^ 63-1) / 8:=by
  have:(sizeLine:Nat)<=(2 ^ 63-1) / 8:=by decide
  omega
 have hfit:¬(!Builtin.List.listFitsIndex k)=true:=by
  rw[fitsIndex_both h1 h2]
  exact aw
 have hlong:¬Builtin.List.listTooLong (its.toArray.size*k.toNat)=true:=by
  rw[jq' hlen]
  exact aw
 have hnew:List.foldl (fun x1 x2=>x1++x2) #[] (ay (if its.toArray.isEmpty=true then 0 else k.toNat) its.toArray)=(ay k.toNat its).flatten.toArray:=by
  have f0:∀m:Nat,List.foldl (fun x1 x2=>x1++x2) #[] (ay m its.toArray)=(ay m its).flatten.toArray:=fun m=>by
   have:=gZ' its m []
   rw[cP]at this
   exact this
  rw[f0]
  cases its with
  |nil=>simp
  |cons a r'=>rw[if_neg (by simp)]
 refine wpAny_binaryOp_repeat_ref (T:="list") (U:="int") (by decide) ⟨_,e,rfl⟩ (fun s'=>typeIs_int s' k t) noFill_list_mul F.fills_int_mul F.slot_int_rmul repeat_list F.slot_int_index.lookup
  (call_meets F.slot_int_rmul (typeIs_int s k t) F.entry_int_rmul (F.args_int_rmul_2 _ _) (int___rmul___int_list k t l its.toArray n)
   ⟨e,rfl,⟨_,e,rfl⟩,call_meets F.slot_list_mul ⟨_,e,rfl⟩ F.entry_list_mul (F.args_list_mul_2 _ _) (AutoListH.list___mul___list_int_3 l its.toArray n k t hfit hcap hlong) ⟨e,?_⟩⟩)
 rw[hnew]
 exact⟨.ref _,_,I.lnew (t':=s.toks) (r.rep k.toNat) (by rw[sF',bU];exact hz),rfl,q _ I.fresh⟩
end
end L2
namespace Att
open PySem PySem.W PySem.Calls PyProof.Rows
theorem eY' {P:Params} {h:Heap}:∀(ns:List Int) (vs:List Value),WellAll P h vs (ns.map WData.int)->IntsAre vs ns:=by
 intro ns
 induction ns with
 |nil=>
  intro vs w
  rw[List.map_nil]at w
  cases w
  exact .nil
 |cons n ns ih=>
  intro vs w
  rw[aE]at w
  cases w with
  |cons a b=>
   cases a
   exact .cons _ _ (ih _ b)
theorem lS' {l:OpenLaw} {n:Nat} (hn:l.most=some n) {P:Params} {h:Heap} {args:List WData} {vals:List Value}
  (hpre:l.row.toRowW.claim.pre args=true) (hwl:WellAll P h vals args):
  ∃a vs ns,vals=[Value.ref a]/\args=[WData.list (ns.map WData.int)]/\h.get? a=some { cls:=.type "list",data:=.seq vs.toArray }/\IntsAre vs ns/\ns.length<=n:=by
 have hsh:WShape.hasAll [] args [.list .int]=true:=(pre_splitW hpre).1
 have hc:l.pre.holds [] { args:=args }=true:=(pre_splitW hpre).2
 obtain⟨d,r,rfl,h1,h2⟩:=hasAllW_cons hsh
 obtain rfl:=hasAllW_nil h2
 obtain⟨xs,rfl,h3⟩:=hasW_list h1
 obtain⟨ns,rfl⟩:=items_int h3
 have hlen:ns.length<=n:=by
  unfold OpenLaw.pre at hc
  have h4:(WTm.not (.lt (.lit (.int (n:Int))) (.len (.arg 0)))).holds [] { args:=[.list (ns.map .int)] }=true:=by
   have h4:=(holds_andW hc).1
   rw[hn]at h4
   exact h4
  have h5:=condW_of h4 (w_not (w_lt w_lit (w_len_list (w_arg rfl))))
  rw[ac]at h5
  refine Nat.le_of_not_lt fun q=>?_
  have q':(n:Int)<((ns.length:Nat):Int):=by omega
  first
   |(rw[decide_eq_true q']at h5;exact absurd h5 (by decide))
   |(simp at h5;omega)
 cases hwl with
 |cons w1 w2=>
  cases w2
  cases w1 with
  |list ho hall=>exact⟨_,_,ns,rfl,rfl,ho,eY' ns _ hall,hlen⟩
theorem lT' (l:OpenLaw) (args:List WData):l.row.toRowW.claim.post args (.bool true) args=true:=
 postW_of (r:=l.row.toRowW) (X:=(true == true))
  (show WShape.has [] (.bool true) .bool=true by first|rfl|decide|simp[WShape.has,WShape.arms,WShape.armsAll])
  (show(WTm.eq .res (.lit (.bool true))).value [] { args:=args,res:=some (.bool true),after:=args }=some (.bool (true == true)) from w_eq_bool (w_res rfl) w_lit) rfl
theorem iF' {l:OpenLaw} {n:Nat} {q:Program} {loose:List Str} {XP:(Str->Option Value)->Heap->Prop} {YP:World->Heap->Prop} {d:DefRec}
  (hn:l.most=some n) (hdf:d.params.defaults=[])
  (call:∀(w:World) (s₀ s₁:Shared) (mg mb:Str->Option Value) (fa:Addr) (o:Obj) (pm cd doc:Value) (a:Addr) (vs:List Value) (ns:List Int),
   Ground q loose [] XP w s₀ mg mb s₁.heap->YP w s₁.heap->
   s₁.heap.get? fa=some o->o.data=.func (docDef d.name d.params d.body d.scope pm cd doc)->s₁.heap.CodeRec cd d.name->mg d.name=some (.ref fa)->
   s₁.heap.get? a=some { cls:=.type "list",data:=.seq vs.toArray }->IntsAre vs ns->ns.length<=n->s₁.gens=#[]->
   codeAny (model l.prog w) callerA (.call (.ref fa) ⟨[.ref a],[]⟩) (fun r s'=>r=.ok (.ret (.bool true))/\OldK s₁.heap s'.heap/\s'.os=s₁.os/\AllBare s'.gens) s₁):
  WalkO q loose XP YP l.row.toRowW d [] (fun f vs=>PySem.call f vs):=by
 intro w s₀ s₁ mg mb G Y fa o pm cd doc dV kV ho hd hcd hD hmg hg args vals as hpre hlay hrd hwl hlo
 obtain rfl:dV=.none:=Dflts.none hD hdf
 obtain rfl:kV=.none:=Dflts.noKw hD
 obtain⟨a,vs,ns,rfl,rfl,hobj,hints,hlen⟩:=lS' hn hpre hwl
 refine enter_call (codeAny_mono (call w s₀ s₁ mg mb fa o pm cd doc a vs ns G Y ho (fd_plain hd) hcd hmg hobj hints hlen hg) fun r s' hq=>?_)
 obtain⟨rfl,h2,h3,h4⟩:=hq
 exact⟨.inl ⟨.bool true,.bool true,[],rfl,fun _=>rfl,.bool true,lT' l _,fun _=>⟨List.Pairwise.nil,fun _ hm=>(nomatch hm)⟩⟩,h2,h3,h4⟩
end Att
namespace L2
open PySem PySem.Spec PyProof.Rows
theorem g0':∀{vs:List Value} {ns:List Int},IntsAre vs ns->aQ' (ns.map V.int) vs
 |_,_,.nil=>.nil
 |_,_,.cons n t h=>.cons ⟨t,rfl⟩ (g0' h)
def zd' (H:Hp):Prop:=∀b,H b=none\/∃o xs,H b=some (.frz o (.lst xs))
theorem oT' {P:Program} {w:World} {K:W.Frag} {mg mb:Str->Option Value} {CX:CXT} {k:Nat} {fa a:Addr} {fd:FuncData} {x:Str} {sp:Sp} {s₁:Shared} {vs:List Value} {ns:List Int}
  (KX:K.In s₁.heap) (hns:s₁.heap.Ns mainGlobals mg) (hb:s₁.heap.Ns builtinsNs mb) (hbb:∀x:Str,x≠"__name__"->mb x=bootBuiltins x) (hlim:s₁.heap.NoLimit) (hg:s₁.gens=#[])
  (ha:s₁.heap.get? a=some { cls:=.type "list",data:=.seq vs.toArray }) (hi:IntsAre vs ns) (hl:ns.length<=sizeLine) (hr:Room k callerA)
  (F:∀base:Heap,K.In base->base.Ns mainGlobals mg->FnOk P w K mg base CX k fa fd [x] sp) (hbind:∀(s:Shared) (u:Value),BindsTo s fd ⟨[u],[]⟩ [(x,u)])
  (hsp:∀H:Hp,zd' H->SqL K H a (ns.map V.int)->sp [.ref a] H (fun v _=>v=.bl true) fun _ _ _=>False)
  (hCX:∀H e s',CX [] H s₁ (fun _ _ _=>False) e s'->False):
  codeAny (model P w) callerA (.call (.ref fa) ⟨[.ref a],[]⟩) (fun r s'=>r=.ok (.ret (.bool true))/\OldK s₁.heap s'.heap/\s'.os=s₁.os/\AllBare s'.gens) s₁:=by
 have rv:=g0' hi
 have lenV:=hi.length
 have core:∀H:Hp,zd' H->SqL K H a (ns.map V.int)->HOk P w H s₁.heap->(∀b,H b≠none->b=a)->(H a≠none->K.lookup a=none)->
   codeAny (model P w) callerA (.call (.ref fa) ⟨[.ref a],[]⟩) (fun r s'=>r=.ok (.ret (.bool true))/\OldK s₁.heap s'.heap/\s'.os=s₁.os/\AllBare s'.gens) s₁:=by
  intro H hO hS hok hA hK
  have base_of:∀{b:Addr} {o:Obj},s₁.heap.get? b=some o->H b=none->(oB' s₁.heap H).get? b=some o:=fun e n=>oC' e n
  have noA:∀{b:Addr} {o:Obj} {es:Array DictEntry} {ep:Nat},s₁.heap.get? b=some o->o.data=.dict es ep->H b=none:=fun {b o es ep} e d=>by
   cases q:H b with
   |none=>rfl
   |some u=>
    have e':b=a:=hA b (by rw[q];simp)
    subst e'
    rw[ha]at e;cases e
    have d':Data.seq vs.toArray _=Data.dict es ep:=d
    cases d'
  have nsK:∀{b:Addr} {m:Str->Option Value},s₁.heap.Ns b m->(oB' s₁.heap H).Ns b m:=fun {b m} ⟨o,es,ep,e,d,r⟩=>⟨o,es,ep,base_of e (noA e d),d,r⟩
  have hKb:K.In (oB' s₁.heap H):=fun b o e=>base_of (KX b o e) (by
   cases q:H b with
   |none=>rfl
   |some u=>
    have e':b=a:=hA b (by rw[q];simp)
    subst e'
    rw[hK (by rw[q];simp)]at e;cases e)
  have hM:Mod K mg (oB' s₁.heap H):=⟨hKb,nsK hns,⟨mb,nsK hb,hbb⟩,let⟨mc,h1,h2⟩:=hlim;⟨mc,nsK h1,h2⟩⟩
  have e0:Env0 P w K mg (oB' s₁.heap H) callerA [] s₁ H:=⟨rfl,hM,fun b o e=>r8' e,Nat.le_of_eq (ls' _ _),trivial,fun b hb=>absurd (show b∈([]:List Addr) from hb) (by simp),hok,.of_eq hg⟩
  refine codeAny_mono ((F _ hKb (nsK hns)).run callerA [] s₁ H ⟨[.ref a],[]⟩ [.ref a] [.ref a] _ _ hr e0 (hbind s₁ (.ref a)) (.cons rfl .nil) (hsp H hO hS)) fun r s' h=>?_
  cases r with
  |error e=>exact(hCX H e s' h).elim
  |ok fl=>
   cases fl with
   |next=>exact False.elim h
   |brk=>exact False.elim h
   |cont=>exact False.elim h
   |ret u=>
    obtain⟨v,H',os,bare,un,hok',r',q⟩:=h
    have q':v=.bl true:=q
    subst q'
    obtain rfl:u=Value.bool true:=r'
    refine⟨rfl,OldK.of_keep fun b o e=>?_,os,bare⟩
    cases q:H b with
    |none=>exact un.keep b o e q (by intro z;exact absurd (show b∈([]:List Addr) from z) (by simp)) (by simp)
    |some u=>
     rcases hO b with z|⟨ob,xs,z⟩
     .rw[q]at z;cases z
     .have z2:=un.frzs b ob _ z
      obtain⟨e1,_⟩:=hok b _ z
      obtain⟨e2,_⟩:=hok' b _ z2
      rw[e]at e1;cases e1
      exact e2
 cases hk:K.lookup a with
 |some o=>
  have e:=KX a o hk
  rw[ha]at e
  cases e
  refine core (fun _=>none) (fun _=>.inl rfl) (.inr ⟨_,vs.toArray,_,hk,rfl,rfl,rfl,by rw[ao,lenV];exact hl,by simpa using rv⟩) (fun b u z=>by have z':(none:Option HO)=some u:=z;cases z') (fun b z=>absurd rfl z) fun z=>absurd rfl z
 |none=>
  refine core (fun b=>if b=a then some (.frz { cls:=.type "list",data:=.seq vs.toArray } (.lst (ns.map V.int)))else none) (fun b=>?_) (.inl (.inr ⟨{ cls:=.type "list",data:=.seq vs.toArray },if_pos rfl⟩)) (fun b u z=>?_) (fun b z=>?_) fun _=>hk
  .by_cases hb:b=a
   .exact .inr ⟨_,_,if_pos hb⟩
   .exact .inl (if_neg hb)
  .by_cases hb:b=a
   .have z':=(if_pos hb).symm.trans z
    cases z'
    subst hb
    exact⟨ha,by rw[ac];exact hl,vs,_,rv,ha⟩
   .have z':=(if_neg hb).symm.trans z
    cases z'
  .by_cases hb:b=a
   .exact hb
   .exact absurd (if_neg hb) z
theorem sG' {l:W.OpenLaw} {n k:Nat} {q:Program} {loose:List Str} {XP:(Str->Option Value)->Heap->Prop} {YP:World->Heap->Prop} {d:DefRec} {K:Params->W.Frag} {CX:World->CXT} {sp:World->Sp} {x:Str}
  (hn:l.most=some n) (hn2:n<=sizeLine) (hdf:d.params.defaults=[]) (hr:Room k callerA)
  (hY:∀(w:World) (h:Heap),YP w h->(K w.params).In h)
  (F:∀(w:World) (mg:Str->Option Value) (fa:Addr) (h:Heap),(K w.params).In h->h.Ns mainGlobals mg->mg d.name=some (.ref fa)->
   ∃fd:FuncData,(∀(s:Shared) (u:Value),BindsTo s fd ⟨[u],[]⟩ [(x,u)])/\
    ∀base:Heap,(K w.params).In base->base.Ns mainGlobals mg->FnOk l.prog w (K w.params) mg base (CX w) k fa fd [x] (sp w))
  (hsp:∀(w:World) (H:Hp) (a:Addr) (ns:List Int),ns.length<=n->zd' H->SqL (K w.params) H a (ns.map V.int)->sp w [.ref a] H (fun v _=>v=.bl true) fun _ _ _=>False)
  (hCX:∀(w:World) (H:Hp) (s:Shared) (e:Value) (s':Shared),CX w [] H s (fun _ _ _=>False) e s'->False):
  W.WalkO q loose XP YP l.row.toRowW d [] (fun f vs=>PySem.call f vs):=by
 refine Att.iF' hn hdf fun w s₀ s₁ mg mb fa o pm cd doc a vs ns G Y ho hd hcd hmg hobj hints hlen hg=>?_
 have KX:=hY w _ Y
 obtain⟨fd,hb,hF⟩:=F w mg fa _ KX G.T.g hmg
 exact oT' KX G.T.g G.T.b G.T.builtins G.T.nolimit hg hobj hints (aN hlen hn2) hr hF hb (fun H hO hS=>hsp w H a ns hlen hO hS) fun H e s'=>hCX w H s₁ e s'
def d9' (s:Stmt):Arguments:=match s with
 | .FunctionDef _ a _ _ _ _ _ _ _ _=>a
 |_=>{ posonlyargs:=[],args:=[],vararg:=none,kwonlyargs:=[],kw_defaults:=[],kwarg:=none,defaults:=[] }
def al' (s:Stmt):List Stmt:=match s with
 | .FunctionDef _ _ b _ _ _ _ _ _ _=>b
 |_=>[]
def ab' (s:Stmt):Scope:=match s with
 | .FunctionDef _ _ _ _ _ _ sc _ _ _=>sc
 |_=>{ kind:=.function,names:=[],isGenerator:=false,isCoroutine:=false }
abbrev CX0:CXT:=fun _ _ _ _ _ _=>False
abbrev E0:XK:=fun _ _ _=>False
structure Fun (K:W.Frag) (x qual:Str) (st:Stmt) (f:Addr) (fd:FuncData):Prop where
 ex:∃(oc:Value) (od:Option Addr) (kV doc pm:Value) (an:Option Addr) (cdv ct:Value) (osl:Array (Option Value)),
  fd=W.fnOf x qual (d9' st) (al' st) (ab' st) .none kV doc pm an cdv ct/\K.lookup f=some ⟨oc,od,.func fd,osl⟩/\W.codeIn K cdv qual=true
 kp:W.keepIn K (.ref f)=true
section
variable {P:Program} {w:World} {K:W.Frag} {mg:Str->Option Value} {base:Heap}
theorem Fun.binds {x qual:Str} {st:Stmt} {f:Addr} {fd:FuncData} {ps:List Str} (F:Fun K x qual st f fd)
  (h:∀(kV doc pm:Value) (an:Option Addr) (cdv ct:Value) (us:List Value),us.length=ps.length->bindArgs (W.fnOf x qual (d9' st) (al' st) (ab' st) .none kV doc pm an cdv ct) ⟨us,[]⟩=pure (ps.zip us)):et' K fd ps []:=by
 obtain⟨oc,od,kV,doc,pm,an,cdv,ct,osl,rfl,lk,hcd⟩:=F.ex
 exact .all (h kV doc pm an cdv ct)
theorem vq' {x qual:Str} {st:Stmt} {f:Addr} {oc:Value} {od an:Option Addr} {osl:Array (Option Value)} {kV doc pm cdv ct:Value} (l:K.lookup f=some ⟨oc,od,.func (W.fnOf x qual (d9' st) (al' st) (ab' st) .none kV doc pm an cdv ct),osl⟩)
  (c:W.codeIn K cdv qual=true) (k:W.keepIn K (.ref f)=true):Fun K x qual st f (W.fnOf x qual (d9' st) (al' st) (ab' st) .none kV doc pm an cdv ct):=⟨⟨oc,od,kV,doc,pm,an,cdv,ct,osl,rfl,l,c⟩,k⟩
end
theorem ak' {n:Nat} (h:n<=1000):n<sizeLine:=bA h (by decide)
def aD' (H H':Hp):Prop:=∀b o,H b=some o->H' b=some o
theorem aD'.refl (H:Hp):aD' H H:=fun _ _ h=>h
theorem aD'.trans {H H1 H2:Hp} (a:aD' H H1) (b:aD' H1 H2):aD' H H2:=fun c o h=>b c o (a c o h)
theorem aD'.free {H H':Hp} (e:aD' H H') {l:Addr} (h:H' l=Option.none):H l=Option.none:=by
 cases q:H l with
 |none=>rfl
 |some o=>
  rw[e l o q]at h
  cases h
theorem aD'.seq {K:W.Frag} {H H':Hp} {a:Addr} {xs:List V} (e:aD' H H') (h:SqL K H a xs):SqL K H' a xs:=by
 rcases h with(h|⟨o,h⟩)|h
 .exact .inl (.inl (e _ _ h))
 .exact .inl (.inr ⟨o,e _ _ h⟩)
 .exact .inr h
def cv' (cells:List (Str×Addr)):List (Str×NameKind)->List (Str×Addr)->List (Str×Addr)
 | [],acc=>acc
 |(n,k) :: r,acc=>if k == .free then cv' cells r ((n,(cells.lookup n).getD 0) :: acc)else cv' cells r acc
def g1' (env:Env) (x:Str×NameKind) (r:List (Str×Addr)):Sem (ForInStep (List (Str×Addr))):=
 match x with|(name,kind)=>if(kind == .free)=true then(do let a <- cellOf env name;pure (ForInStep.yield ((name,a) :: r)))else pure (ForInStep.yield r)
theorem vr' {env:Env}:∀(names:List (Str×NameKind)) (acc:List (Str×Addr)),(∀n,(n,NameKind.free)∈names->∃c,env.cells.lookup n=some c)->
   forIn names acc (g1' env)=(pure (cv' env.cells names acc):Sem _):=by
  intro names
  induction names with
  |nil=>intro acc _;rfl
  |cons x r ih=>
   intro acc hh
   obtain⟨n,k⟩:=x
   rw[List.forIn_cons]
   have hr:=fun m hm=>hh m (au _ hm)
   by_cases hk:k=.free
   .subst hk
    obtain⟨c,hc⟩:=hh n ax
    have e1:cellOf env n=(pure c:Sem Addr):=by unfold cellOf;rw[hc]
    have e2:g1' env (n,NameKind.free) acc=pure (ForInStep.yield ((n,c) :: acc)):=by
     unfold g1'
     dsimp only
     rw[if_pos (by rfl),e1]
     rfl
    rw[e2]
    have e3:=ih ((n,c) :: acc) hr
    have e4:cv' env.cells ((n,NameKind.free) :: r) acc=cv' env.cells r ((n,c) :: acc):=by
     show(if(NameKind.free == NameKind.free)=true then _ else _)=_
     rw[if_pos (by rfl),hc]
     rfl
    rw[e4,<- e3]
    rfl
   .have hb:(k == NameKind.free)=false:=by simpa using hk
    have e2:g1' env (n,k) acc=pure (ForInStep.yield acc):=by
     unfold g1'
     dsimp only
     rw[if_neg (by rw[hb];exact aw)]
    rw[e2]
    have e4:cv' env.cells ((n,k) :: r) acc=cv' env.cells r acc:=by
     show(if(k == NameKind.free)=true then _ else _)=_
     rw[if_neg (by rw[hb];exact aw)]
    rw[e4,<- ih acc hr]
    rfl
theorem lU' {env:Env} {scope:Scope} (h:∀n,(n,NameKind.free)∈scope.names->∃c,env.cells.lookup n=some c):closureFor scope env=pure (cv' env.cells scope.names []):=by
 have e:=vr' (env:=env) scope.names [] h
 unfold closureFor
 have q:∀f:Str×NameKind->List (Str×Addr)->Sem (ForInStep (List (Str×Addr))),(∀x r,f x r=g1' env x r)->(forIn scope.names ([]:List (Str×Addr)) f >>= fun r=>pure r)=(pure (cv' env.cells scope.names []):Sem _):=by
  intro f hf
  have:f=g1' env:=funext fun x=>funext fun r=>hf x r
  rw[this,e]
  rfl
 refine q _ fun x r=>?_
 obtain⟨n,k⟩:=x
 unfold g1'
 first|done|(dsimp only;done)|(dsimp only;cases hk:k == NameKind.free<;>simp[hk])
set_option tactic.hygienic true in
theorem eZ' {cells:List (Str×Addr)}:∀{names:List (Str×NameKind)} {acc:List (Str×Addr)} {n:Str} {c:Addr},(n,c)∈cv' cells names acc->(n,c)∈acc\/((n,NameKind.free)∈names/\c=(cells.lookup n).getD 0)
 | [],_,_,_,h=>.inl h
 |(m,k) :: r,acc,n,c,h=>by
  unfold cv' at h
  split at h
  .rename_i hk
   have hk':k=.free:=by simpa using hk
   subst hk'
   rcases eZ' h with q|⟨q,e⟩
   .rcases al.mp q with q|q
    .cases q;exact .inr ⟨ax,rfl⟩
    .exact .inl q
   .exact .inr ⟨au _ q,e⟩
  .rcases eZ' h with q|⟨q,e⟩
   .exact .inl q
   .exact .inr ⟨au _ q,e⟩
set_option tactic.hygienic true in
theorem e0' {cells:List (Str×Addr)}:∀{names:List (Str×NameKind)} {acc:List (Str×Addr)} {n:Str},((n,NameKind.free)∈names\/∃c,(n,c)∈acc)->∃c,(n,c)∈cv' cells names acc
 | [],_,_,h=>by
  rcases h with h|h
  .simp at h
  .exact h
 |(m,k) :: r,acc,n,h=>by
  unfold cv'
  split
  .rename_i hk
   refine e0' ?_
   rcases h with h|⟨c,h⟩
   .rcases al.mp h with h|h
    .cases h;exact .inr ⟨_,ax⟩
    .exact .inl h
   .exact .inr ⟨c,au _ h⟩
  .rename_i hk
   refine e0' ?_
   rcases h with h|h
   .rcases al.mp h with h|h
    .cases h;exact absurd rfl hk
    .exact .inl h
   .exact .inr h
theorem aU':∀(names:List (Str×NameKind)) (n:Nat) (acc:List (Str×Addr)),cellsFrom n names acc=cellsFrom n names []++acc
 | [],_,_=>rfl
 |(x,k) :: r,n,acc=>by
  unfold cellsFrom
  split
  .rw[aU' r (n+1) ((x,n) :: acc),aU' r (n+1) [(x,n)],bp]
   rfl
  .exact aU' r n acc
theorem cb' {α:Type}:∀{l:List (Str×α)} {n:Str} {c:α},(n,c)∈l->∃c',l.lookup n=some c'
 |(k,v) :: r,n,c,h=>by
  rw[bb]
  cases hb:n == k with
  |true=>exact⟨v,rfl⟩
  |false=>
   rcases al.mp h with e|h
   .cases e;simp at hb
   .exact cb' h
theorem cm' {env:Env}:∀{names:List (Str×NameKind)} {x:Str} {k':NameKind},
  (names.map fun(n,k)=>if(k == NameKind.free&&env.scope.kind == .function&&env.kindOf n == some .cell)then(n,NameKind.cell)else(n,k)).lookup x=some k'->∃k,names.lookup x=some k/\(k'=k\/(k=.free/\k'=.cell))
 | [],_,_,h=>by simp at h
 |(n,k) :: r,x,k',h=>by
  have ih:=@cm' env r x k'
  rw[aE]at h
  by_cases hc:(k == NameKind.free&&env.scope.kind == .function&&env.kindOf n == some .cell)=true
  .have e1:(match ((n,k):Str×NameKind)with|(n,k)=>if(k == NameKind.free&&env.scope.kind == .function&&env.kindOf n == some .cell)=true then(n,NameKind.cell)else(n,k))=(n,NameKind.cell):=if_pos hc
   rw[e1,bb]at h
   rw[bb]
   cases hx:x == n with
   |true=>
    rw[hx]at h
    cases h
    refine⟨k,rfl,.inr ⟨?_,rfl⟩⟩
    simp only[ag]at hc
    exact beq_iff_eq.mp hc.1.1
   |false=>rw[hx]at h;exact ih h
  .have e1:(match ((n,k):Str×NameKind)with|(n,k)=>if(k == NameKind.free&&env.scope.kind == .function&&env.kindOf n == some .cell)=true then(n,NameKind.cell)else(n,k))=(n,k):=if_neg hc
   rw[e1,bb]at h
   rw[bb]
   cases hx:x == n with
   |true=>rw[hx]at h;cases h;exact⟨k,rfl,.inl rfl⟩
   |false=>rw[hx]at h;exact ih h
theorem bw' {env:Env}:∀{names:List (Str×NameKind)} {x:Str} {k:NameKind},names.lookup x=some k ->
  ∃k',(names.map fun(n,k)=>if(k == NameKind.free&&env.scope.kind == .function&&env.kindOf n == some .cell)then(n,NameKind.cell)else(n,k)).lookup x=some k'/\(k'=k\/(k=.free/\k'=.cell))
 | [],_,_,h=>by simp at h
 |(n,k0) :: r,x,k,h=>by
  have ih:=@bw' env r x k
  rw[aE]
  by_cases hc:(k0 == NameKind.free&&env.scope.kind == .function&&env.kindOf n == some .cell)=true
  .have e1:(match ((n,k0):Str×NameKind)with|(n,k)=>if(k == NameKind.free&&env.scope.kind == .function&&env.kindOf n == some .cell)=true then(n,NameKind.cell)else(n,k))=(n,NameKind.cell):=if_pos hc
   rw[e1,bb]
   rw[bb]at h
   cases hx:x == n with
   |true=>
    rw[hx]at h
    cases h
    refine⟨_,rfl,.inr ⟨?_,rfl⟩⟩
    simp only[ag]at hc
    exact beq_iff_eq.mp hc.1.1
   |false=>rw[hx]at h;exact ih h
  .have e1:(match ((n,k0):Str×NameKind)with|(n,k)=>if(k == NameKind.free&&env.scope.kind == .function&&env.kindOf n == some .cell)=true then(n,NameKind.cell)else(n,k))=(n,k0):=if_neg hc
   rw[e1,bb]
   rw[bb]at h
   cases hx:x == n with
   |true=>rw[hx]at h;cases h;exact⟨_,rfl,.inl rfl⟩
   |false=>rw[hx]at h;exact ih h
section
variable {M:Model} {A:Around} {E:Value->Shared->Prop} {s:Shared}
abbrev bm' (h:Heap) (names:List (Str×NameKind)):Heap:=pushCells (h.push { cls:=.type "dict",data:=.dict #[] }) names
theorem dL' {scope:Scope} {globals:Addr} {cl:List (Str×Addr)} {qual:Str} {env:Env} {Q:Env->Shared->Prop}
  (h:Q (newEnv scope s.heap.objs.size globals (cellsFrom (s.heap.objs.size+1) scope.names cl) qual none .none (some env) builtinsNs) { s with heap:=bm' s.heap scope.names }):
  wpAny M A (newFunctionEnv scope globals cl [] qual none .none (some env)) Q E s:=by
 simp only[newFunctionEnv,Option.isSome_some,if_true]
 refine aa (wpAny_alloc ?_)
 refine aa (wpAny_layCells _ (fun name kind cells=>by cases hkc:kind == NameKind.cell<;>simp[hkc]) _ _ _ _ ?_)
 rw[show({ s with heap:=s.heap.push { cls:=.type "dict",data:=.dict #[] } }:Shared).heap.objs.size=s.heap.objs.size+1 from bg ..]
 exact aa (am (am h))
end
def Cx.comp (X:Cx) (scope:Scope) (s₀:Shared) (H₀:Hp) (ex:List Addr):Cx:=
 { X with
  s₀:=s₀,H₀:=H₀
  env:={ newEnv scope s₀.heap.objs.size X.env.globals (cellsFrom (s₀.heap.objs.size+1) scope.names (cv' X.env.cells scope.names [])) X.env.qual none .none (some X.env) builtinsNs with scope:=relabel scope X.env }
  outer:=X.stack,ex:=ex,fn:=fun x=>((cellsFrom (s₀.heap.objs.size+1) scope.names []).lookup x).isSome,pn:=[],xe:=fun _ _=>False }
structure CompSc (X:Cx) (scope:Scope):Prop where
 kind:scope.kind=.function
 names:∀x∈scope.names,x.2=.local->scope.names.lookup x.1=some .local
 one:∀n,(n,NameKind.cell)∈scope.names->scope.names.lookup n=some .cell
 free:∀n,(n,NameKind.free)∈scope.names->X.env.kindOf n=some .cell\/X.env.kindOf n=some .free
set_option tactic.hygienic true in
theorem cA':∀{names:List (Str×NameKind)} {n:Nat} {x:Str} {c:Addr},(x,c)∈cellsFrom n names []->(x,NameKind.cell)∈names
 | [],_,_,_,h=>by simp[cellsFrom]at h
 |(y,k) :: r,n,x,c,h=>by
  unfold cellsFrom at h
  split at h
  .rename_i hk
   have hk':k=.cell:=by simpa using hk
   subst hk'
   rw[aU']at h
   rcases aD.mp h with h|h
   .exact au _ (cA' h)
   .have h':(x,c)=(y,n):=by simpa using h
    cases h'
    exact ax
  .exact au _ (cA' h)
def clr (own:List Nat) (σ:St):St:=own.foldl (fun σ i=>σ.set i none) σ
theorem e1':∀(own:List Nat) (σ:St),(clr own σ).length=σ.length
 | [],_=>rfl
 |i :: r,σ=>by
  show(clr r (σ.set i none)).length=_
  rw[e1' r,List.length_set]
theorem e3':∀{own:List Nat} {σ:St} {i:Nat} {v:V},(clr own σ)[i]?=some (some v)->σ[i]?=some (some v)/\i∉own
 | [],_,_,_,h=>⟨h,by simp⟩
 |j :: r,σ,i,v,h=>by
  obtain⟨h1,h2⟩:=e3' (own:=r) (σ:=σ.set j none) h
  by_cases e:j=i
  .subst e
   rw[List.getElem?_set]at h1
   simp at h1
  .rw[bH e]at h1
   exact⟨h1,by simp;exact⟨fun z=>e z.symm,h2⟩⟩
theorem iG':∀{own:List Nat} {σ:St} {i:Nat},i∉own->(clr own σ)[i]?=σ[i]?
 | [],_,_,_=>rfl
 |j :: r,σ,i,h=>by
  have h1:i≠j:=fun z=>h (by simp[z])
  have h2:i∉r:=fun z=>h (by simp[z])
  show(clr r (σ.set j none))[i]?=_
  rw[iG' h2,bH (Ne.symm h1)]
section
variable {X:Cx} {p_:List (Addr×Obj)} {σ:St} {H H':Hp} {s s':Shared} {scope:Scope} {ex:List Addr} {own:List Nat}
theorem kG' (I:Inv X p_ σ H s) (S:CompSc X scope):
  (∀x c,(cv' X.env.cells scope.names []).lookup x=some c->X.env.cells.lookup x=some c)/\
  (∀x,(x,NameKind.free)∈scope.names->∃c,(cv' X.env.cells scope.names []).lookup x=some c)/\
  CellsOk (bm' s.heap scope.names) (s.heap.objs.size+1) (cellsFrom (s.heap.objs.size+1) scope.names []):=by
 have hc:∀x c,(x,c)∈cv' X.env.cells scope.names []->X.env.cells.lookup x=some c:=fun x c h=>by
  rcases eZ' h with z|⟨z,e⟩
  .simp at z
  .obtain⟨c',e'⟩:=I.ok.has x (S.free x z)
   rw[e',Option.getD_some]at e
   rw[e',e]
 refine⟨fun x c h=>hc x c (PySem.mem_of_lookup h),fun x h=>?_,?_⟩
 .obtain⟨c,q⟩:=e0' (cells:=X.env.cells) (acc:=[]) (.inl h)
  exact cb' q
 .have q:=cellsFrom_ok scope.names (s.heap.push { cls:=.type "dict",data:=.dict #[] }) (s.heap.objs.size+1) [] ⟨fun _ _ hm=>(nomatch hm),List.Pairwise.nil⟩ (by rw[bg];exact aj _)
  rw[bg]at q
  exact q
theorem fK' (I:Inv X p_ σ H s) (hex:∀b∈ex,dG' X p_ H b) (hlt:∀b∈ex,b<s.heap.objs.size) (S:CompSc X scope)
  (hown:∀i x,X.N[i]?=some x->(scope.names.lookup x=some .local\/scope.names.lookup x=some .cell)->i∈own):
  Inv (X.comp scope s H ex) [] (clr own σ) H { s with heap:=bm' s.heap scope.names }:=by
 obtain⟨hcl,hcf,ok⟩:=kG' I S
 have lk:∀x c,(X.comp scope s H ex).env.cells.lookup x=some c->(cellsFrom (s.heap.objs.size+1) scope.names []).lookup x=some c\/((cellsFrom (s.heap.objs.size+1) scope.names []).lookup x=none/\X.env.cells.lookup x=some c):=fun x c h=>by
  have h':(cellsFrom (s.heap.objs.size+1) scope.names (cv' X.env.cells scope.names [])).lookup x=some c:=h
  rw[aU',List.lookup_append]at h'
  cases q:(cellsFrom (s.heap.objs.size+1) scope.names []).lookup x with
  |some d=>rw[q]at h';exact .inl h'
  |none=>rw[q]at h';exact .inr ⟨rfl,hcl x c h'⟩
 have newC:∀x c,(cellsFrom (s.heap.objs.size+1) scope.names []).lookup x=some c->(bm' s.heap scope.names).IsCell c none/\s.heap.objs.size+1<=c:=fun x c h=>ok.empty x c (PySem.mem_of_lookup h)
 have oldC:∀x c,X.env.cells.lookup x=some c->c<s.heap.objs.size:=fun x c h=>let⟨_,q⟩:=I.cell x c h;q.lt
 have keep:∀b o,s.heap.get? b=some o->(bm' s.heap scope.names).get? b=some o:=fun b o e=>pushCells_keeps _ _ b o (ae _ e)
 have fresh:∀b,s.heap.objs.size<=b->H b=none:=fun b hb=>I.hok.fresh hb
 have loc0:(X.comp scope s H ex).env.locals=s.heap.objs.size:=rfl
 refine⟨⟨I.ok.mod,S.kind,I.ok.glob,?_,aj _,fun x y c h1 h2=>?_,fun x hx=>?_,fun x c hf h=>?_,I.ok.hd,I.ok.frames,.inl rfl,fun b hb=>?_,I.bs,aN I.ok.bsz I.sz,fun b o e hb=>?_,fun b hb=>?_,I.stack,I.stkFree⟩,
  rfl,I.bare,Un.kept keep,⟨fun _=>none,?_,fun i x v h1 h2 h3=>?_⟩,fun x c h=>?_,fresh _ (aj _),fun x c h=>?_,fun p hp=>absurd (show p∈([]:List (Addr×Obj)) from hp) (by simp),I.hok.kept keep,?_⟩
 .show X.env.builtins=_
  exact I.ok.blt
 .rcases lk x c h1 with q1|⟨_,q1⟩<;>rcases lk y c h2 with q2|⟨_,q2⟩
  .exact name_of_addr ok.apart (PySem.mem_of_lookup q1) (PySem.mem_of_lookup q2)
  .exact absurd (ai (oldC y c q2) (aN (Nat.le_succ _) (newC x c q1).2)) (aS _)
  .exact absurd (ai (oldC x c q1) (aN (Nat.le_succ _) (newC y c q2).2)) (aS _)
  .exact I.ok.inj x y c q1 q2
 .have hx':(relabel scope X.env).names.lookup x=some .cell\/(relabel scope X.env).names.lookup x=some .free:=hx
  have fin:∀k,scope.names.lookup x=some k->(k=.cell\/k=.free)->∃c,(cellsFrom (s.heap.objs.size+1) scope.names (cv' X.env.cells scope.names [])).lookup x=some c:=fun k hk hkk=>by
   rw[aU',List.lookup_append]
   rcases hkk with rfl|rfl
   .obtain⟨c,q⟩:=f4' (n:=s.heap.objs.size+1) hk
    exact⟨c,by rw[q];rfl⟩
   .obtain⟨c,q⟩:=hcf x (PySem.mem_of_lookup hk)
    cases z:(cellsFrom (s.heap.objs.size+1) scope.names []).lookup x with
    |some d=>exact⟨d,rfl⟩
    |none=>exact⟨c,by rw[q];rfl⟩
  rcases hx' with hx'|hx'<;>obtain⟨k,hk,e⟩:=cm' hx'
  .rcases e with e|⟨e,_⟩
   .exact fin k hk (.inl e.symm)
   .exact fin k hk (.inr e)
  .rcases e with e|⟨e,_⟩
   .exact fin k hk (.inr e.symm)
   .exact fin k hk (.inr e)
 .rcases lk x c h with q|⟨q,_⟩
  .have:=(newC x c q).2
   show s.heap.objs.size<=c
   omega
  .have hf':((cellsFrom (s.heap.objs.size+1) scope.names []).lookup x).isSome=true:=hf
   rw[q]at hf'
   cases hf'
 .refine⟨?_,fun x c h=>?_⟩
  .show b≠s.heap.objs.size
   exact az (hlt b hb)
  .rcases lk x c h with q|⟨_,q⟩
   .intro e
    rw[e]at q
    exact absurd (ai (hlt b hb) (aN (Nat.le_succ _) (newC x b q).2)) (aS _)
   .exact(hex b hb).2.2.2.2.1 x c q
 .rcases(hex b hb).2.2.2.1 with z|z
  .exact I.ok.noex b o e z
  .exact absurd (ai (aq e) (aN I.ok.bsz z)) (aS _)
 .intro z
  rcases al.mp (I.stkSub b z)with e|e
  .exact(hex b hb).2.1 e
  .exact(hex b hb).2.2.1 e
 .show(bm' s.heap scope.names).Ns s.heap.objs.size _
  exact(Heap.Ns.new s.heap (.type "dict")).keeps (pushCells_keeps _ _)
 .obtain⟨h2,hno⟩:=e3' h2
  have h3':(relabel scope X.env).names.lookup x=some .local\/(relabel scope X.env).names.lookup x=some .cell\/(relabel scope X.env).names.lookup x=some .free:=h3
  have h3k:∃k',(relabel scope X.env).names.lookup x=some k'/\(k'=.local\/k'=.cell\/k'=.free):=by
   rcases h3' with z|z|z
   .exact⟨_,z,.inl rfl⟩
   .exact⟨_,z,.inr (.inl rfl)⟩
   .exact⟨_,z,.inr (.inr rfl)⟩
  obtain⟨k',hk',hkk⟩:=h3k
  obtain⟨k,hk,e⟩:=cm' hk'
  have hfree:k=.free:=by
   rcases e with e|⟨e,_⟩
   .subst e
    rcases hkk with z|z|z
    .subst z;exact absurd (hown i x h1 (.inl hk)) hno
    .subst z;exact absurd (hown i x h1 (.inr hk)) hno
    .exact z
   .exact e
  subst hfree
  have hm:=PySem.mem_of_lookup hk
  have hv:Vis X.env.scope x:=by
   rcases S.free x hm with z|z
   .exact .inr (.inl z)
   .exact .inr (.inr z)
  obtain⟨m,hn,hl⟩:=I.loc
  obtain⟨u,r,l⟩:=hl i x v h1 h2 hv
  refine⟨u,r,?_⟩
  have hkind:(X.comp scope s H ex).env.kindOf x=some .cell\/(X.comp scope s H ex).env.kindOf x=some .free:=by
   show(relabel scope X.env).names.lookup x=some .cell\/(relabel scope X.env).names.lookup x=some .free
   rcases e with e|⟨_,e⟩
   .subst e;exact .inr hk'
   .subst e;exact .inl hk'
  have hcc:∃c,X.env.cells.lookup x=some c/\s.heap.IsCell c (some u):=by
   rcases l with⟨kk,_⟩|⟨_,c,e1,e2⟩
   .rcases S.free x hm with z|z
    .rw[z]at kk;cases kk
    .rw[z]at kk;cases kk
   .exact⟨c,e1,e2⟩
  obtain⟨c,e1,e2⟩:=hcc
  refine .inr ⟨hkind,c,?_,e2.keeps keep⟩
  show(cellsFrom (s.heap.objs.size+1) scope.names (cv' X.env.cells scope.names [])).lookup x=some c
  rw[aU',List.lookup_append]
  have hnone:(cellsFrom (s.heap.objs.size+1) scope.names []).lookup x=none:=by
   cases z:(cellsFrom (s.heap.objs.size+1) scope.names []).lookup x with
   |none=>rfl
   |some d=>
    exfalso
    have q1:=S.one x (cA' (PySem.mem_of_lookup z))
    rw[hk]at q1
    cases q1
  obtain⟨c',q⟩:=hcf x hm
  have q':=hcl x c' q
  rw[e1]at q'
  cases q'
  rw[hnone,q]
  rfl
 .rcases lk x c h with q|⟨_,q⟩
  .exact⟨_,(newC x c q).1⟩
  .obtain⟨v,z⟩:=I.cell x c q
   exact⟨v,z.keeps keep⟩
 .rcases lk x c h with q|⟨_,q⟩
  .have:=(newC x c q).2
   exact fresh c ⋯
  .exact I.freeC x c q
 .rw[e1']
  exact I.len
end
section
variable {X:Cx} {p_:List (Addr×Obj)} {σ:St} {H H':Hp} {s s':Shared} {scope:Scope} {ex:List Addr} {own:List Nat}
theorem sH' {P:Program} {w:World} {h h':Heap} {a:Addr} (x:HOk P w H h) (hn:H a=none) (hs:∀b o,b≠a->h.get? b=some o->h'.get? b=some o):HOk P w H h':=fun b ob e=>
 (x b ob e).stay (fun c w' hc q=>hs c w' (by
  rintro rfl
  rcases hc with rfl|hc
  .rw[hn]at e;cases e
  .rw[hn]at hc;cases hc) q) (fun _ q=>q) fun _ _ q=>q
theorem eF' {σ':St} {p_':List (Addr×Obj)} {h':Heap} (I:Inv X p_ σ H s) (hex:∀b∈ex,dG' X p_ H b) (J:Inv (X.comp scope s H ex) p_' σ' H' s') (hs:ck s.heap.objs.size s'.heap h'):
  Inv X p_ σ H' { s' with heap:=h' }:=by
 have ne:∀b o,s.heap.get? b=some o->b≠s.heap.objs.size:=fun b o e=>az (aq e)
 have u:Un (frs X.stack) ex H H' s.heap s'.heap:=J.base
 have hf:H' s.heap.objs.size=none:=J.free
 refine I.call' (s':={ s' with heap:=h' }) (ch:=ex) J.os ⟨fun b o e n hb hx=>?_,fun b o e n hb hx=>?_,u.free,fun b o e hx=>?_,u.tups,u.frzs,u.tbls⟩ (sH' J.hok hf fun b o hb e=>(hs.2 b hb).trans e) J.bare fun b hb=>?_
 .exact(hs.2 b (ne b o e)).trans (u.keep b o e n hb hx)
 .obtain⟨sl,q⟩:=u.slot b o e n hb hx
  exact⟨sl,(hs.2 b (ne b o e)).trans q⟩
 .obtain⟨o',q⟩:=u.there b o e hx
  exact⟨o',(hs.2 b (ne b o e)).trans q⟩
 .obtain⟨f0,f1,f2,f3,f4,f5⟩:=hex b hb
  exact⟨f3,f1,f4,f5⟩
end
def PTs (X:Cx) (ifs:List Expr) (t:TT):Prop:=∀(p_:List (Addr×Obj)) (s:Shared) (σ:St) (H:Hp) (Q:Bool->Hp->Prop),Inv X p_ σ H s->t σ H Q->
 wpAny (model X.prog X.w) X.A (forIn ifs true fun c r=>if r=true then do let ok <- isTrue c X.env (eval c X.env);pure (ForInStep.yield ok)else pure (ForInStep.yield r)) (TP X p_ σ Q) X.xe s
theorem sI' {X:Cx}:PTs X [] (fun _ H Q=>Q true H):=fun p_ s σ H Q I h=>wpAny_tests_nil ⟨H,I,h⟩
theorem sJ' {X:Cx} {c:Expr} {t:TT} (hc:PT X c t):PTs X [c] t:=fun p_ s σ H Q I h=>wpAny_tests_one (hc p_ s σ H Q I h)
def Ext (ws:List Nat) (σ σ':St):Prop:=σ'.length=σ.length/\∀j,j∉ws->σ'[j]?=σ[j]?
theorem Ext.refl {ws:List Nat} {σ:St}:Ext ws σ σ:=⟨rfl,fun _ _=>rfl⟩
theorem Ext.trans {ws:List Nat} {σ σ1 σ2:St} (a:Ext ws σ σ1) (b:Ext ws σ1 σ2):Ext ws σ σ2:=⟨b.1.trans a.1,fun j hj=>(b.2 j hj).trans (a.2 j hj)⟩
theorem Ext.mono {ws ws':List Nat} {σ σ1:St} (a:Ext ws σ σ1) (h:∀j∈ws,j∈ws'):Ext ws' σ σ1:=⟨a.1,fun j hj=>a.2 j fun z=>hj (h j z)⟩
theorem Ext.clr {ws:List Nat} {σ:St}:Ext ws σ (clr ws σ):=⟨e1' _ _,fun j hj=>iG' hj⟩
theorem Ext.back {ws:List Nat} {σ σ':St} (a:Ext ws (L2.clr ws σ) σ') (i:Nat) (v:V) (h:(L2.clr ws σ)[i]?=some (some v)):σ'[i]?=some (some v):=by
 obtain⟨_,q⟩:=e3' h
 rw[a.2 i q]
 exact h
def uE' (ws:List Nat) (g:TG):Prop:=∀(x:V) (σ:St) (H:Hp) (Q:St->Hp->Prop),g x σ H Q->g x σ H fun σ2 H2=>Q σ2 H2/\Ext ws σ σ2
theorem lV' {i:Nat} {ws:List Nat} (h:i∈ws):uE' ws (dI' i):=fun x σ H Q q=>⟨q,by simp,fun j hj=>by
 have:i≠j:=fun z=>hj (z ▸ h)
 rw[bH this]⟩
def ba' (e:Expr) (d:Nat) (tg iter:Expr) (ifs:List Expr) (nx:Sem Unit) (it acc:Value) (env:Env):Sem Fin:=do
 standAt iter.pos
 match <- pyNext it with
 |none=>pure (.done .next)
 |some v=>
  letOwnedTupleGo tg it v
  assign tg env v
  let mut ok:=true
  for c in ifs do
   if ok then ok <- isTrue c env (eval c env)
  if ok then nx
  again (.compLoop e d it acc env)
abbrev TL (α:Type):=St->α->Hp->(α->Hp->Prop)->Prop
def cB' {α:Type} (X:Cx) (D:Addr) (Is:α->Obj->Prop) (ws:List Nat) (code:Sem Unit) (t:TL α):Prop:=
 ∀(p_:List (Addr×Obj)) (s:Shared) (σ:St) (H:Hp) (a:α) (o:Obj) (N:α->Hp->Prop),Inv X p_ σ H s->dG' X p_ H D->s.heap.get? D=some o->Is a o->t σ a H N->
  wpAny (model X.prog X.w) X.A code (fun _ s'=>∃σ' a' o' H',Inv X p_ σ' H' s'/\Ext ws σ σ'/\s'.heap.get? D=some o'/\Is a' o'/\H' D=none/\N a' H') (fun _ _=>False) s
def bi' {α:Type} (ws:List Nat) (g:TG) (tc:TT) (aF':TL α) (J:It):TL α:=fun σ a H1 N=>
 ∃W:Nat->Nat->α->Hp->Prop,(∃m,W 0 m a H1)/\∀i m b H,W i m b H->
  (J.stop i H/\N b H)\/(J.go i H/\∀x H',J.yld i H x H'->g x (clr ws σ) H' fun σ2 H2=>tc σ2 H2 fun ok H3=>
   if ok=true then aF' σ2 b H3 (fun c H4=>∃m',m'<m/\W (i+1) m' c H4)else ∃m',m'<m/\W (i+1) m' b H3)
theorem e4' {α:Type} {Is:α->Obj->Prop} {X:Cx} {e:Expr} {d:Nat} {tg iter:Expr} {ifs:List Expr} {nx:Sem Unit} {it D:Addr} {fp:List Addr} {tn:Nat->Heap->Prop} {J:It} {g:TG} {tc:TT} {aF':TL α} {ws ws':List Nat}
  (hxe:X.xe=fun _ _=>False) (hcalm:X.calm=true)
  (hq:(Code.compLoop e d (.ref it) (.ref D) X.env).quiet=true) (hu:X.A.under (Code.compLoop e d (.ref it) (.ref D) X.env)=X.A)
  (hT:(model X.prog X.w).den (.compLoop e d (.ref it) (.ref D) X.env)=(ba' e d tg iter ifs nx (.ref it) (.ref D) X.env).onRaise (fun x=>do noteFrame x X.env;theTreesLotGoes x))
  (T:Turn X.prog X.w X.K tg J fp it tn) (hg:PG X tg g) (hge:uE' ws g) (ht:PTs X ifs tc) (hn:cB' X D Is ws' nx aF') (hws:∀j∈ws',j∈ws) (hIs:∀a o,Is a o->∀v,o.data≠.cell v) (hDf:D∉fp)
  {p_:List (Addr×Obj)} {s:Shared} {σ:St} {H:Hp} {a:α} {o:Obj} {N:α->Hp->Prop} (I:Inv X p_ σ H s) (hf:∀b∈fp,dG' X p_ H b) (hD:dG' X p_ H D) (ho:s.heap.get? D=some o) (ha:Is a o) (h0:tn 0 s.heap)
  (hw:bi' ws g tc aF' J σ a H N):
  codeAny (model X.prog X.w) X.A (.compLoop e d (.ref it) (.ref D) X.env) (fun r s'=>r=.ok .next/\∃a' o' H',Inv X p_ (clr ws σ) H' s'/\s'.heap.get? D=some o'/\Is a' o'/\H' D=none/\N a' H') s:=by
 obtain⟨W,⟨m0,w0⟩,turn⟩:=hw
 have stat:∀{H':Hp} {pl:List (Addr×Obj)},(∀b∈D :: fp,H' b=none)->(∀b∈D :: fp,dG' X p_ H' b):=fun {H' pl} hn b hb=>by
  rcases al.mp hb with rfl|hb'
  .exact⟨hn _ ax,hD.2⟩
  .exact⟨hn b hb,(hf b hb').2⟩
 refine codeAny_loop hq (fun n s'=>∃i b ob H',Inv X p_ (clr ws σ) H' s'/\tn i s'.heap/\(∀b∈D :: fp,H' b=none)/\s'.heap.get? D=some ob/\Is b ob/\W i n b H') ?_ m0
  ⟨0,a,o,H,I.weak (e1' _ _) (fun i v q=>(e3' q).1),h0,fun b hb=>by
   rcases al.mp hb with rfl|hb'
   .exact hD.1
   .exact(hf b hb').1,ho,ha,w0⟩
 rintro n s3 ⟨i,b,ob,H3,I3,st3,fr3,o3,is3,w3⟩
 rw[hu,hT]
 refine wpAny_noted ?_
 have hE:∀{β:Type} {c:Sem β} {Q:β->Shared->Prop} {s:Shared} {E:Value->Shared->Prop},wpAny (model X.prog X.w) X.A c Q (fun _ _=>False) s->wpAny (model X.prog X.w) X.A c Q E s:=fun h=>df h (fun _ _ q=>q) fun _ _ q=>q.elim
 refine hE ?_
 unfold ba'
 refine aa (bO (aa ?_))
 have hxeE:∀{β:Type} {c:Sem β} {Q:β->Shared->Prop} {s:Shared},wpAny (model X.prog X.w) X.A c Q X.xe s->wpAny (model X.prog X.w) X.A c Q (fun _ _=>False) s:=fun h=>by rw[hxe]at h;exact h
 have pD:Inv X (p_++ca' [D] s3.heap) (clr ws σ) H3 s3:=I3.pinned (fun b hb=>by
  have e:b=D:=by simpa using hb
  subst e
  exact stat (pl:=[]) fr3 b ax) (fun b hb=>by
  have e:b=D:=by simpa using hb
  subst e
  exact⟨ob,o3,hIs _ _ is3⟩)
 have mD:(D,ob)∈ca' [D] s3.heap:=aS' (by simp) o3
 have fpD:∀{H':Hp},(∀b∈fp,H' b=none)->∀b∈fp,dG' X (p_++ca' [D] s3.heap) H' b:=fun {H'} hn b hb=>by
  obtain⟨_,f1,f2,f3,f4,f5⟩:=hf b hb
  refine⟨hn b hb,f1,f2,f3,f4,fun p hp=>?_⟩
  rcases aD.mp hp with q|q
  .exact f5 p (aZ _ q)
  .rcases aD.mp q with q|q
   .exact f5 p (ak _ q)
   .have e:p.1=D:=by simpa using(eV' q).1
    rw[e]
    rintro rfl
    exact hDf hb
 have fr3':∀b∈fp,H3 b=none:=fun b hb=>fr3 b (au _ hb)
 rcases turn i n b H3 w3 with⟨stop,qn⟩|⟨go,step⟩
 .refine thn (T.done X rfl rfl rfl hcalm i _ s3 _ H3 _ pD (fpD fr3') st3 stop) fun r s4 ⟨hr,I4⟩=>?_
  subst hr
  have q4:=I4.pin (D,ob) (ak _ (ak _ mD))
  exact am ⟨rfl,b,ob,H3,I4.unpinned,q4.1,is3,q4.2.1,qn⟩
 .refine thn (T.item X rfl rfl rfl hcalm i _ s3 _ H3 _ pD (fpD fr3') st3 go) fun r s4 ⟨u,hr,h4⟩=>?_
  subst hr
  refine aa (thn h4 fun _ s5 ⟨x,H5,I5,r5,y5,st5,fr5⟩=>?_)
  have I5':=I5.pinned (fpD fr5) (T.obj _ _ st5)
  refine aa (thn (hxeE (hg _ s5 _ H5 x u _ I5' r5 (hge x _ H5 _ (step x H5 y5)))) fun _ s6 ⟨σ6,H6,I6,q6,x6⟩=>?_)
  refine aa (thn (hxeE (ht _ s6 σ6 H6 _ I6 q6)) fun ok s7 ⟨H7,I7,q7⟩=>?_)
  have q7D:=I7.pin (D,ob) (ak _ (aZ _ (ak _ mD)))
  have q7f:∀b∈fp,∀o,s5.heap.get? b=some o->s7.heap.get? b=some o/\H7 b=none:=fun b hb o e =>
   let q:=I7.pin (b,o) (ak _ (ak _ (aS' hb e)))
   ⟨q.1,q.2.1⟩
  have st7:tn (i+1) s7.heap:=T.keep _ _ _ st5 fun b hb o e=>(q7f b hb o e).1
  have fr7:∀b∈fp,H7 b=none:=fun b hb=>by
   obtain⟨o,e,_⟩:=T.obj _ _ st5 b hb
   exact(q7f b hb o e).2
  have I7':Inv X p_ σ6 H7 s7:=I7.unpinned.unpinned
  cases ok with
  |false=>
   have q7':∃m',m'<n/\W (i+1) m' b H7:=q7
   obtain⟨m',hm,w7⟩:=q7'
   refine am ⟨rfl,m',hm,i+1,b,ob,H7,I7'.weak ?_ x6.back,st7,fun c hc=>?_,q7D.1,is3,w7⟩
   .rw[x6.1]
   .rcases al.mp hc with rfl|hc'
    .exact q7D.2.1
    .exact fr7 c hc'
  |true=>
   have I7p:=I7'.pinned (fun b hb=>stat (pl:=[]) (fun c hc=>by
    rcases al.mp hc with rfl|hc'
    .exact q7D.2.1
    .exact fr7 c hc') b (au _ hb)) (T.obj _ _ st7)
   have fD:dG' X (p_++ca' fp s7.heap) H7 D:=by
    obtain⟨_,f1,f2,f3,f4,f5⟩:=hD
    refine⟨q7D.2.1,f1,f2,f3,f4,fun p hp=>?_⟩
    rcases aD.mp hp with q|q
    .exact f5 p (aZ _ q)
    .rcases aD.mp q with q|q
     .exact f5 p (ak _ q)
     .intro z
      exact hDf (z ▸ (eV' q).1)
   refine aa (thn (hn _ s7 σ6 H7 b ob _ I7p fD q7D.1 is3 q7) fun _ s8 ⟨σ8,b8,o8,H8,I8,x8,e8,is8,n8,m',hm,w8⟩=>?_)
   have q8f:∀b∈fp,∀o,s7.heap.get? b=some o->s8.heap.get? b=some o/\H8 b=none:=fun b hb o e =>
    let q:=I8.pin (b,o) (ak _ (ak _ (aS' hb e)))
    ⟨q.1,q.2.1⟩
   have x8':Ext ws (clr ws σ) σ8:=x6.trans (x8.mono hws)
   refine am ⟨rfl,m',hm,i+1,b8,o8,H8,I8.unpinned.weak (by rw[x8'.1]) x8'.back,T.keep _ _ _ st7 fun b hb o e=>(q8f b hb o e).1,fun c hc=>?_,e8,is8,w8⟩
   rcases al.mp hc with rfl|hc'
   .exact n8
   .obtain⟨o,e,_⟩:=T.obj _ _ st7 c hc'
    exact(q8f c hc' o e).2
def IsL (xs:List V) (o:Obj):Prop:=xs.length<=sizeLine/\∃(its:List Value) (n:Nat),aQ' xs its/\o={ cls:=.type "list",data:=.seq its.toArray n }
theorem dM' (xs:List V) (o:Obj) (h:IsL xs o) (v:Option Value):o.data≠.cell v:=by
 obtain⟨_,its,n,_,rfl⟩:=h
 intro z
 cases z
def e5' (te:TE):TL (List V):=fun σ xs H N=>te σ H fun v H'=>xs.length<sizeLine/\N (xs++[v]) H'
theorem f7' {X:Cx} {D:Addr} {elt:Expr} {te:TE} (hxe:X.xe=fun _ _=>False) (he:PE X elt te):cB' X D IsL [] (do let _ <- call (.builtin "list.append") [.ref D,<- eval elt X.env]) (e5' te):=by
 intro p_ s σ H xs o N I hD ho hi hq
 have I1:Inv X (p_++ca' [D] s.heap) σ H s:=I.pinned (fun b hb=>by
  have e:b=D:=by simpa using hb
  subst e
  exact hD) (fun b hb=>by
  have e:b=D:=by simpa using hb
  subst e
  exact⟨o,ho,dM' _ _ hi⟩)
 have h1:=he _ s σ H _ I1 hq
 rw[hxe]at h1
 refine aa (thn h1 fun u s1 ⟨v,H1,J1,r1,z1,n1⟩=>?_)
 have q1:=J1.pin (D,o) (ak _ (ak _ (aS' (by simp) ho)))
 obtain⟨zx,its,n,rv,rfl⟩:=hi
 have hl:=rv.length
 refine aa (wpAny_list_append_plain (items:=its.toArray) ⟨n,q1.1⟩ (fun h' hp hs=>?_) (by rw[ao,<- hl];exact zx))
 obtain⟨_,f1,f2,f3,f4,f5⟩:=hD
 have J2:Inv X p_ σ H1 { s1 with heap:=h' }:=J1.unpinned.turned (it:=D) (t':=s1.toks) (fun b o hb e=>(hs.2 b hb).trans e) q1.2.1 f1 f3 f4 f5
 obtain⟨n',hp⟩:=hp
 refine am ⟨σ,xs++[v],_,H1,J2,Ext.refl,hp,⟨?_,its++[u],n',rv.append (.cons r1 .nil),?_⟩,q1.2.1,n1⟩
 .rw[aB];exact z1
 .simp
def a0' (e:Expr) (d:Nat) (iter:Expr) (acc:Value) (env:Env):Sem Unit:=do
 let x <- eval iter env
 standAt iter.pos
 let x <- foldedSetIterable iter env x
 let _ <- runOwn (.compStart e (d+1) (<- holding [x] (pyIter x)) acc env) env
theorem f8' {M:Model} {A:Around} {e:Expr} {d:Nat} {it acc:Value} {env:Env} {R:Result->Shared->Prop} {s:Shared}
  (hq:(Code.compStart e d it acc env).quiet=true) (hu:A.under (Code.compStart e d it acc env)=A) (hql:∀it',(Code.compLoop e d it' acc env).quiet=true)
  (hden:M.den (.compStart e d it acc env)=(compStart e d it acc env).onRaise (fun x=>do noteFrame x env;standAt theWindowsPlace)) (hg:∃g,(clausesOf e)[d]?=some g/\g.is_async=0)
  (h0:codeAny M A (.compLoop e d it acc env) R s) (h1:∀E,wpAny M A (pyIter it) (fun it' s'=>it'=it/\s'=s) E s):codeAny M A (.compStart e d it acc env) R s:=by
 refine codeAny_of_tree ?_
 rw[hu,hden]
 refine wpAny_notedAt ?_
 obtain⟨g,eg,ea⟩:=hg
 unfold compStart
 rw[eg]
 have e1:((some g:Option Comprehension).elim false (fun x=>x.is_async != 0))=false:=by
  show(g.is_async != 0)=false
  rw[ea];rfl
 rw[e1]
 show wpAny _ _ (ask >>= _) _ _ s
 refine aa (wpAny_askSetting (wpAny_ite ?_))
 have fin:wpAny M A (again (.compLoop e d it acc env)) (fun fin s'=>match fin with | .done f=>R (.ok f) s' | .again c=>c.quiet=true/\codeAny M A c R s') (notedBy M A env fun x s'=>R (.error x) s') s:=am ⟨hql it,h0⟩
 split
 .first
   |exact fin
   |exact aa fin
   |exact aa (am fin)
 .refine aa (cU ?_)
  refine aa (bO ?_)
  refine aa (df (h1 _) (fun it' s' q=>?_) fun _ _ q=>q)
  obtain⟨rfl,rfl⟩:=q
  exact fin
theorem jr' (own:List Nat) (σ:St):clr own (clr own σ)=clr own σ:=by
 apply cw
 intro i
 by_cases h:i∈own
 .have z:∀τ:St,(clr own τ)[i]?=none\/(clr own τ)[i]?=some none:=fun τ=>by
   cases q:(clr own τ)[i]? with
   |none=>exact .inl rfl
   |some o=>
    cases o with
    |none=>exact .inr rfl
    |some v=>exact absurd h (e3' q).2
  have hl:(clr own (clr own σ)).length=(clr own σ).length:=e1' _ _
  rcases z (clr own σ)with a|a<;>rcases z σ with b|b<;>rw[a,b]
  .have q1:=bq.mp a
   have q2:=(aH.mp b).1
   omega
  .have q1:=bq.mp b
   have q2:=(aH.mp a).1
   omega
 .rw[iG' h]
def iH' {α:Type} (wi:TI) (c:It->TL α):TL α:=fun σ a H N=>wi σ H fun J H1=>c J σ a H1 N
theorem eG' {α:Type} {Is:α->Obj->Prop} {X:Cx} {e:Expr} {d:Nat} {tg iter:Expr} {ifs:List Expr} {nx:Sem Unit} {D:Addr} {wi:TI} {g:TG} {tc:TT} {aF':TL α} {ws ws':List Nat}
  (hxe:X.xe=fun _ _=>False) (hcalm:X.calm=true)
  (hq:∀it,(Code.compLoop e (d+1) it (.ref D) X.env).quiet=true) (hu:∀it,X.A.under (Code.compLoop e (d+1) it (.ref D) X.env)=X.A)
  (hq':∀it,(Code.compStart e (d+1) it (.ref D) X.env).quiet=true) (hu':∀it,X.A.under (Code.compStart e (d+1) it (.ref D) X.env)=X.A)
  (hT:∀it,(model X.prog X.w).den (.compLoop e (d+1) it (.ref D) X.env)=(ba' e (d+1) tg iter ifs nx it (.ref D) X.env).onRaise (fun x=>do noteFrame x X.env;theTreesLotGoes x))
  (hS:∀it,(model X.prog X.w).den (.compStart e (d+1) it (.ref D) X.env)=(compStart e (d+1) it (.ref D) X.env).onRaise (fun x=>do noteFrame x X.env;standAt theWindowsPlace))
  (hcl:∃g,(clausesOf e)[d+1]?=some g/\g.is_async=0) (hfs:∀x,foldedSetIterable iter X.env x=pure x)
  (hi:PI X tg iter wi) (hg:PG X tg g) (hge:uE' ws g) (ht:PTs X ifs tc) (hn:cB' X D Is ws' nx aF') (hws:∀j∈ws',j∈ws) (hIs:∀a o,Is a o->∀v,o.data≠.cell v):
  cB' X D Is ws (a0' e d iter (.ref D) X.env) (iH' wi (bi' ws g tc aF')):=by
 intro p_ s σ H a o N I hD ho ha hw
 have I1:Inv X (p_++ca' [D] s.heap) σ H s:=I.pinned (fun b hb=>by
  have e:b=D:=by simpa using hb
  subst e
  exact hD) (fun b hb=>by
  have e:b=D:=by simpa using hb
  subst e
  exact⟨o,ho,hIs _ _ ha⟩)
 have h1:=hi _ s σ H _ I1 hw
 rw[hxe]at h1
 unfold a0'
 refine aa (thn h1 fun v s1 h2=>?_)
 refine aa (bO (aa (cu (hfs v) ?_)))
 refine aa (aX (thn h2 fun itv s2 h3=>?_))
 obtain⟨it,fp,tn,J,H2,rfl,I2,T,st2,f2,hc⟩:=h3
 have mD:(D,o)∈ca' [D] s.heap:=aS' (by simp) ho
 have q2:=I2.pin (D,o) (ak _ (ak _ mD))
 have hDf:D∉fp:=fun z=>(f2 D z).2.2.2.2.2 (D,o) (ak _ (ak _ mD)) rfl
 have f2':∀b∈fp,dG' X p_ H2 b:=fun b hb=>by
  obtain⟨f0,f1,f2,f3,f4,f5⟩:=f2 b hb
  exact⟨f0,f1,f2,f3,f4,fun p hp=>f5 p (by
   rcases aD.mp hp with z|z
   .exact aZ _ z
   .exact ak _ (aZ _ z))⟩
 have L:=e4' (Is:=Is) (D:=D) hxe hcalm (hq _) (hu _) (hT _) T hg hge ht hn hws hIs hDf I2.unpinned f2' ⟨q2.2.1,hD.2⟩ q2.1 ha st2 hc
 have L2:=f8' (hq' _) (hu' _) hq (hS _) hcl L (fun E=>T.self X.A 0 s2 _ E st2 ⟨rfl,rfl⟩)
 refine aa (wpAny_runOwn (codeAny_mono L2 fun r s3 h3=>?_))
 obtain⟨rfl,a',o',H',J',e',is',n',hN⟩:=h3
 exact am ⟨_,a',o',H',J',Ext.clr,e',is',n',hN⟩
def iI' (own:List Nat) (wi:TI) (g:TG) (tc:TT) (aF':TL (List V)):TE:=fun σ H Q=>wi σ H fun J H1=>bi' own g tc aF' J σ [] H1 fun xs H2=>∀p,H2 p=none->Q (.ref p) (upd H2 p (.lst xs))
structure CompIn (X:Cx) (e:Expr) (scope:Scope) (tg:Expr) (iter:Expr) (ifs:List Expr) (nx:Addr->Env->Sem Unit) (g:TG) (tc:TT) (aF':TL (List V)) (own:List Nat):Prop where
 sc:CompSc X scope
 ow:∀i x,X.N[i]?=some x->(scope.names.lookup x=some .local\/scope.names.lookup x=some .cell)->i∈own
 cl:∃gs,clausesOf e=⟨tg,iter,ifs,0⟩ :: gs
 fs:∀x,foldedSetIterable iter X.env x=pure x
 calm:X.calm=true
 q:∀it D env,(Code.compLoop e 0 it (.ref D) env).quiet=true/\(Code.compStart e 0 it (.ref D) env).quiet=true
 u:∀A it D env,Around.under A (Code.compLoop e 0 it (.ref D) env)=A/\Around.under A (Code.compStart e 0 it (.ref D) env)=A
 T:∀P w it D env,(model P w).den (.compLoop e 0 it (.ref D) env)=(ba' e 0 tg iter ifs (nx D env) it (.ref D) env).onRaise (fun x=>do noteFrame x env;theTreesLotGoes x)
 S:∀P w it D env,(model P w).den (.compStart e 0 it (.ref D) env)=(compStart e 0 it (.ref D) env).onRaise (fun x=>do noteFrame x env;standAt theWindowsPlace)
 ge:uE' own g
 inn:∀s0 H0 ex D,PG (X.comp scope s0 H0 ex) tg g/\PTs (X.comp scope s0 H0 ex) ifs tc/\∃ws',(∀j∈ws',j∈own)/\cB' (X.comp scope s0 H0 ex) D IsL ws' (nx D (X.comp scope s0 H0 ex).env) aF'
section
variable {X:Cx} {e:Expr} {scope:Scope} {tg iter:Expr} {ifs:List Expr} {nx:Addr->Env->Sem Unit} {g:TG} {tc:TT} {aF':TL (List V)} {own:List Nat} {wi:TI}
theorem js' (C:CompIn X e scope tg iter ifs nx g tc aF' own) (hi:PI X tg iter wi) {p_:List (Addr×Obj)} {s:Shared} {σ:St} {H:Hp} {R:V->Hp->Prop} (I:Inv X p_ σ H s) (hw:iI' own wi g tc aF' σ H R)
  {use:Option (Value->Sem Unit)} {Q:Value->Shared->Prop} {pos:Pos}
  (fin:∀(s3 s':Shared) (H0 H':Hp) (ex:List Addr) (D:Addr) (xs:List V) (o:Obj) (σ':St),Inv X p_ σ H0 s3->(∀b∈ex,dG' X p_ H0 b)->Inv (X.comp scope s3 H0 ex) [] σ' H' s'->s'.heap.get? D=some o->D<s3.heap.objs.size->X.s₀.heap.objs.size<=D->dG' X p_ H0 D->IsL xs o->H' D=none->R (.ref D) (upd H' D (.lst xs))->
   compPost (model X.prog X.w) X.A X.xe use Q (.ref D) s3.heap.objs.size (.ok .next) s'):
  wpAny (model X.prog X.w) X.A (comprehension e scope X.env pos (newList []) false (eval iter X.env) use) Q X.xe s:=by
 obtain⟨gs,hcl⟩:=C.cl
 refine wpAny_comprehension_free hcl C.fs (lU' fun n hn=>I.ok.has n (C.sc.free n hn)) C.sc.kind C.sc.names ?_
 refine thn (hi p_ s σ H _ I hw) fun v s1 h1=>thn h1 fun itv s2 h2=>?_
 obtain⟨it,fp,tn,J,H2,rfl,I2,T,st2,f2,hc⟩:=h2
 refine bc (dL' ?_)
 have keep:∀b o,s2.heap.get? b=some o->(s2.heap.push { cls:=.type "list",dict:=none,data:=.seq ([]:List Value).toArray }).get? b=some o:=fun b o e=>ae _ e
 have I3:Inv X p_ σ H2 { s2 with heap:=s2.heap.push { cls:=.type "list",dict:=none,data:=.seq ([]:List Value).toArray } }:=I2.kept (t':=s2.toks) keep
 have hsz:(s2.heap.push { cls:=.type "list",dict:=none,data:=.seq ([]:List Value).toArray }).objs.size=s2.heap.objs.size+1:=bg ..
 have fD:dG' X p_ H2 s2.heap.objs.size:=I2.fpOk (aj _) (I2.hok.fresh (aj _))
 have hlt:∀b∈fp,b<s2.heap.objs.size:=fun b hb=>by
  obtain⟨o,e,_⟩:=T.obj _ _ st2 b hb
  exact aq e
 have hDf:s2.heap.objs.size∉fp:=fun z=>aS _ (hlt _ z)
 have hex:∀b∈s2.heap.objs.size :: fp,dG' X p_ H2 b:=fun b hb=>by
  rcases al.mp hb with rfl|hb
  .exact fD
  .exact f2 b hb
 generalize hs3:({ s2 with heap:=s2.heap.push { cls:=.type "list",dict:=none,data:=.seq ([]:List Value).toArray } }:Shared)=s3 at *
 have hs3s:s3.heap.objs.size=s2.heap.objs.size+1:=by rw[<- hs3];exact hsz
 have hlt3:∀b∈s2.heap.objs.size :: fp,b<s3.heap.objs.size:=fun b hb=>by
  rw[hs3s]
  rcases al.mp hb with rfl|hb
  .exact Nat.lt_succ_self _
  .exact bL (hlt b hb)
 have J0:=fK' (own:=own) I3 hex hlt3 C.sc C.ow
 obtain⟨c1,c2,ws',c4,c5⟩:=C.inn s3 H2 (s2.heap.objs.size :: fp) s2.heap.objs.size
 have kp:∀b o,s2.heap.get? b=some o->(bm' s3.heap scope.names).get? b=some o:=fun b o e=>pushCells_keeps _ _ b o (ae _ (by rw[<- hs3];exact keep b o e))
 have oD:(bm' s3.heap scope.names).get? s2.heap.objs.size=some { cls:=.type "list",dict:=none,data:=.seq ([]:List Value).toArray }:=pushCells_keeps _ _ _ _ (ae _ (by rw[<- hs3];exact av _ rfl))
 have stat:∀b∈s2.heap.objs.size :: fp,dG' (X.comp scope s3 H2 (s2.heap.objs.size :: fp)) [] H2 b:=fun b hb=>
  ⟨(hex b hb).1,(J0.ok.exf b hb).1,J0.ok.exfs b hb,.inl hb,(J0.ok.exf b hb).2,fun p hp=>absurd (show p∈([]:List (Addr×Obj)) from hp) (by simp)⟩
 have T':Turn (X.comp scope s3 H2 (s2.heap.objs.size :: fp)).prog (X.comp scope s3 H2 (s2.heap.objs.size :: fp)).w (X.comp scope s3 H2 (s2.heap.objs.size :: fp)).K tg J fp it tn:=T
 have hc':bi' own g tc aF' J (clr own σ) [] H2 (fun xs H2=>∀p,H2 p=none->R (.ref p) (upd H2 p (.lst xs))):=by
  obtain⟨W,w0,turn⟩:=hc
  refine⟨W,w0,?_⟩
  rw[jr']
  exact turn
 have st3:tn 0 ({ s3 with heap:=bm' s3.heap scope.names }:Shared).heap:=T.keep _ _ _ st2 fun b hb o e=>kp b o e
 have L:=e4' (X:=X.comp scope s3 H2 (s2.heap.objs.size :: fp)) (Is:=IsL) (D:=s2.heap.objs.size) rfl C.calm (C.q _ _ _).1 (C.u _ _ _ _).1 (C.T _ _ _ _ _) T' c1 C.ge c2 c5 c4 dM' hDf J0
  (fun b hb=>stat b (au _ hb)) (stat _ ax) oD ⟨aP _,[],0,.nil,rfl⟩ st3 hc'
 have L2:=f8' (C.q _ _ _).2 (C.u _ _ _ _).2 (fun it'=>(C.q it' _ _).1) (C.S _ _ _ _ _) ⟨_,by rw[hcl];rfl,rfl⟩ L (fun E=>T.self _ 0 _ _ E st3 ⟨rfl,rfl⟩)
 refine codeAny_mono L2 fun r s' h=>?_
 obtain⟨rfl,xs,o',H',J',e',is',n',hN⟩:=h
 exact fin s3 s' H2 H' _ _ xs o' _ I3 hex J' e' (hlt3 _ ax) I2.sz fD is' n' (hN _ n')
end
section
variable {X:Cx} {p_:List (Addr×Obj)} {σ:St} {H H':Hp} {s s':Shared} {D:Addr} {o:HO}
theorem Inv.track (I:Inv X p_ σ H s) (f:dG' X p_ H D) (h0:X.s₀.heap.objs.size<=D) (new:aE' X.prog X.w (upd H D o) s.heap D o):Inv X p_ σ (upd H D o) s:=by
 obtain⟨f0,f1,f2,f3,f4,f5⟩:=f
 have ne:∀b ob,X.s₀.heap.get? b=some ob->b≠D:=fun b ob e=>az (ai (aq e) h0)
 have neT:∀b u,H b=some u->b≠D:=fun b u e z=>by rw[z,f0]at e;cases e
 refine⟨I.ok,I.os,I.bare,⟨I.base.keep,I.base.slot,fun b ob e n hx=>by rw[ae' (ne b ob e)];exact I.base.free b ob e n hx,I.base.there,fun b xs e=>?_,fun b ob u e=>?_,fun b ps e=>?_⟩,I.loc,I.cell,?_,fun x c e=>?_,fun p hp=>?_,fun b u e=>?_,I.len⟩
 .have q:=I.base.tups b xs e
  rw[ae' (neT b _ q)];exact q
 .have q:=I.base.frzs b ob u e
  rw[ae' (neT b _ q)];exact q
 .obtain⟨m,q⟩:=I.base.tbls b ps e
  exact⟨m,by rw[ae' (neT b _ q)];exact q⟩
 .rw[ae' (Ne.symm f1)];exact I.free
 .rw[ae' (f4 x c e)];exact I.freeC x c e
 .obtain⟨e,n,r⟩:=I.pin p hp
  refine⟨e,?_,r⟩
  rw[ae' (f5 p hp)];exact n
 .by_cases hb:b=D
  .subst hb
   rw[ac']at e;cases e
   exact new
  .rw[ae' hb]at e
   exact(I.hok b u e).stay (fun _ _ _ q=>q) (fun c q=>by rw[ae' (neT c _ q)];exact q) fun c xs q=>by rw[ae' (neT c _ q)];exact q
end
section
variable {X:Cx} {e:Expr} {scope:Scope} {tg iter:Expr} {ifs:List Expr} {nx:Addr->Env->Sem Unit} {g:TG} {tc:TT} {aF':TL (List V)} {own:List Nat} {wi:TI}
theorem iJ' (C:CompIn X e scope tg iter ifs nx g tc aF' own) (hi:PI X tg iter wi) {pos:Pos} (he:eval e X.env=comprehension e scope X.env pos (newList []) false (eval iter X.env)):PE X e (iI' own wi g tc aF'):=by
 intro p_ s σ H Q I hw
 rw[he]
 refine js' C hi I hw fun s3 s' H0 H' ex D xs o σ' I3 hex J e' hlt h0 fD is' n' hR=>?_
 obtain⟨m,hn,_⟩:=J.loc
 refine⟨m,hn,fun h' hs=>?_⟩
 have J2:=eF' I3 hex J hs
 obtain⟨z,its,n,rv,rfl⟩:=is'
 have neC:D≠s3.heap.objs.size:=az hlt
 refine⟨.ref D,upd H' D (.lst xs),J2.track (o:=.lst xs) ⟨n',fD.2⟩ h0 ⟨z,its,n,rv,(hs.2 D neC).trans e'⟩,rfl,hR⟩
theorem kH' (C:CompIn X e scope tg iter ifs nx g tc aF' own) (hi:PI X tg iter wi) {i:Nat} {y:Str} {py pos pos2:Pos} (hN:X.N.Nodup) (hy:X.N[i]?=some y) (hx:Loc X.env.scope y) (hf:X.fn y=true\/X.env.scope.names.lookup y=some .local)
  (he:evalThenUse e X.env (assign (.Name y py) X.env)=(do let _ <- comprehension e scope X.env pos2 (newList []) false (eval iter X.env) (some (assign (.Name y py) X.env))))
  (hsw:swapsWith e (some (.Name y py)) pos.line X.env=pure true):PS X (.Assign [.Name y py] e pos) (lk' (iI' own wi g tc aF') (dI' i)):=by
 intro p_ s σ H D I hw
 rw[exec_Assign_Name_used _ _ _ _ hsw]
 refine aa (bO (aa ?_))
 rw[he]
 refine aa (thn (Q:=fun _ s'=>SP X p_ D .next s') (js' C hi I hw fun s3 s' H0 H' ex D' xs o σ' I3 hex J e' hlt h0 fD is' n' hR=>?_) fun _ s' q=>am (am q))
 obtain⟨m,hn,_⟩:=J.loc
 have J2:Inv X p_ σ H' s':=eF' I3 hex J (Heap.SameBut.refl ..)
 obtain⟨z,its,n,rv,rfl⟩:=is'
 have neC:D'≠s3.heap.objs.size:=az hlt
 have J3:Inv X p_ σ (upd H' D' (.lst xs)) s':=J2.track ⟨n',fD.2⟩ h0 ⟨z,its,n,rv,e'⟩
 have fC:dG' X p_ H0 s3.heap.objs.size:=I3.fpOk (aj _) (I3.hok.fresh (aj _))
 refine wpAny_assign_Name (dH' J3 hN hy hx (v:=.ref D') rfl (fun s'' J4 hs=>?_) hf)
 obtain⟨a,hsa,ha⟩:=hs
 have haC:s3.heap.objs.size≠a:=by
  rcases ha with rfl|ha
  .exact fC.2.1
  .exact fun q=>fC.2.2.2.2.1 _ _ ha q.symm
 have hn':s'.heap.Ns s3.heap.objs.size m:=hn
 refine⟨m,hn'.sameBut hsa haC,fun h' hs'=>?_⟩
 have J5:Inv X p_ (σ.set i (some (.ref D'))) (upd H' D' (.lst xs)) { s'' with heap:=h' }:=J4.turned (it:=s3.heap.objs.size) (t':=s''.toks) (fun b ob hb q=>(hs'.2 b hb).trans q) (by rw[ae' (Ne.symm neC)];exact J.free) fC.2.1 fC.2.2.2.1 fC.2.2.2.2.1 fC.2.2.2.2.2
 exact⟨_,_,J5,hR⟩
end
def cS':Bool->Heap->Addr->Addr->Nat->Prop
 |true,h,it,a,i=>h.IsTupleIter it a i
 |false,h,it,a,i=>h.IsListIter it a i
def ey':Bool->Heap->Addr->Array Value->Prop
 |true,h,a,xs=>h.IsTuple a xs
 |false,h,a,xs=>h.IsList a xs
def lW':Bool->String
 |true=>"tuple_iterator"
 |false=>"list_iterator"
theorem cS'.obj {k:Bool} {h:Heap} {it a:Addr} {i:Nat} (x:cS' k h it a i):∃o,h.get? it=some o/\o.data=.fields #[.ref a,.int i 0]:=by
 cases k
 .obtain⟨o,e,_,d⟩:=x;exact⟨o,e,d⟩
 .obtain⟨o,e,_,d⟩:=x;exact⟨o,e,d⟩
theorem cS'.at {k:Bool} {h h':Heap} {it a:Addr} {i:Nat} (x:cS' k h it a i) (hk:∀o,h.get? it=some o->h'.get? it=some o):cS' k h' it a i:=by
 cases k
 .obtain⟨o,e,r⟩:=x;exact⟨o,hk o e,r⟩
 .obtain⟨o,e,r⟩:=x;exact⟨o,hk o e,r⟩
theorem ey'.at {k:Bool} {h h':Heap} {a:Addr} {xs:Array Value} (x:ey' k h a xs) (hk:∀o,h.get? a=some o->h'.get? a=some o):ey' k h' a xs:=by
 cases k
 .obtain⟨o,e,r⟩:=x;exact⟨o,hk o e,r⟩
 .obtain⟨o,e,r⟩:=x;exact⟨o,hk o e,r⟩
theorem ey'.lt {k:Bool} {h:Heap} {a:Addr} {xs:Array Value} (x:ey' k h a xs):a<h.objs.size:=by
 cases k
 .obtain⟨o,e,r⟩:=x;exact aq e
 .obtain⟨o,e,r⟩:=x;exact aq e
section
variable {prog:Program} {w:World} {A:Around} {E:Value->Shared->Prop} {s:Shared}
theorem bG' {k:Bool} {it l:Addr} {i:Nat} {items:Array Value} {x:Value} {Q:Value->Shared->Prop} (hit:cS' k s.heap it l i) (hl:ey' k s.heap l items) (hx:items[i]?=some x)
  (hQ:∀h',cS' k h' it l (i+1)->ck it s.heap h'->Q x { s with heap:=h' }):wpAny (model prog w) A (Builtin.SmallTypes.nextOf (.ref it)) Q E s:=by
 cases k
 .exact wpAny_nextOf_list_item hit hl hx hQ
 .have hit:s.heap.IsTupleIter it l i:=hit
  have hl:s.heap.IsTuple l items:=hl
  obtain⟨o,ho,hc,hd⟩:=id hit
  obtain⟨ol,hol,_,nl,hdl⟩:=hl
  unfold Builtin.SmallTypes.nextOf
  refine aa (bn (name:=Str.ofString "__next__") hit.typeIs F.slot_tuple_iterator_next
   (bw F.slot_tuple_iterator_next hit.typeIs F.entry_tuple_iterator_next ?_ (F.args_tuple_iterator_next_1 _)))
  show wpAny _ _ (field (.ref it) 0 >>= _) _ _ s
  refine aa (aW ho hd (x:=.ref l) rfl ?_)
  show wpAny _ _ (if(Value.ref l == Value.none)=true then _ else _) _ _ s
  rw[if_neg (show ¬((Value.ref l == Value.none)=true) from aw)]
  show wpAny _ _ (field (.ref it) 1 >>= _) _ _ s
  refine aa (aW ho hd (x:=.int i 0) rfl ?_)
  show wpAny _ _ (seqItems? (.ref l) >>= _) _ _ s
  refine aa (bP hol hdl ?_)
  simp only[bf,hx]
  refine aa (wpAny_setField ho hd (by simp) (am ⟨x,rfl,am (hQ _ ?_ (Heap.SameBut.update ..))⟩))
  exact⟨_,cn _ ho (Obj.isFreed_of_fields (Obj.data_mapFields hd _)),(Obj.cls_mapFields ..).trans hc,by
   rw[Obj.data_mapFields hd];simp[rawInt]⟩
theorem c9' {k:Bool} {it l:Addr} {i:Nat} {items:Array Value} {Q:Value->Shared->Prop} (hh:A.handled=none) (hit:cS' k s.heap it l i) (hl:ey' k s.heap l items) (hx:items[i]?=none)
  (hE:∀h' e,Heap.ExtBut it s.heap h'->(∃o,h'.get? e=some o/\o.cls=.type "StopIteration")->E (.ref e) { s with heap:=h' }):wpAny (model prog w) A (Builtin.SmallTypes.nextOf (.ref it)) Q E s:=by
 cases k
 .exact wpAny_nextOf_list_end hh hit hl hx hE
 .have hit:s.heap.IsTupleIter it l i:=hit
  have hl:s.heap.IsTuple l items:=hl
  obtain⟨o,ho,hc,hd⟩:=id hit
  obtain⟨ol,hol,_,nl,hdl⟩:=hl
  unfold Builtin.SmallTypes.nextOf
  refine aa (bn (name:=Str.ofString "__next__") hit.typeIs F.slot_tuple_iterator_next
   (bw F.slot_tuple_iterator_next hit.typeIs F.entry_tuple_iterator_next ?_ (F.args_tuple_iterator_next_1 _)))
  show wpAny _ _ (field (.ref it) 0 >>= _) _ _ s
  refine aa (aW ho hd (x:=.ref l) rfl ?_)
  show wpAny _ _ (if(Value.ref l == Value.none)=true then _ else _) _ _ s
  rw[if_neg (show ¬((Value.ref l == Value.none)=true) from aw)]
  show wpAny _ _ (field (.ref it) 1 >>= _) _ _ s
  refine aa (aW ho hd (x:=.int i 0) rfl ?_)
  show wpAny _ _ (seqItems? (.ref l) >>= _) _ _ s
  refine aa (bP hol hdl ?_)
  simp only[bf,hx]
  refine aa (cU (aa (wpAny_setField ho hd (by simp) ?_)))
  show wpAny _ _ (newExc (.type "StopIteration") [] >>= _) _ _ _
  refine aa ?_
  simp only[newExc,newTuple]
  refine aa (bc ?_ (by size_fits))
  refine aa (m:=firstArgMember _ _) (cu (a:=Value.none) (by first|rfl|(simp only[firstArgMember];rfl)) ?_)
  refine bc ?_ (by size_fits)
  simp only[raiseNew]
  refine aa (wpAny_handled ?_)
  first|rw[show A.in1.handled=none from hh]|rw[hh]
  refine aa (am (wpAny_throw ?_))
  exact hE _ _ (((Heap.SameBut.update ..).extBut.push _).push _) ⟨_,av _ rfl,rfl⟩
end
abbrev zH1 (k:Bool) (h:Heap) (l1:Addr):Heap:=h.push { cls:=.type (lW' k),data:=.fields #[.ref l1,.int 0 0] }
abbrev zH2 (k j:Bool) (h:Heap) (l1 l2:Addr):Heap:=(zH1 k h l1).push { cls:=.type (lW' j),data:=.fields #[.ref l2,.int 0 0] }
abbrev zH3 (k j:Bool) (h:Heap) (l1 l2:Addr):Heap:=(zH2 k j h l1 l2).push { cls:=.type "tuple",data:=.seq #[.ref h.objs.size,.ref (zH1 k h l1).objs.size] }
abbrev zH4 (k j:Bool) (h:Heap) (l1 l2:Addr):Heap:=(zH3 k j h l1 l2).push { cls:=.type "tuple",data:=.seq #[.none,.none] }
abbrev zH5 (k j:Bool) (h:Heap) (l1 l2:Addr):Heap:=(zH4 k j h l1 l2).push { cls:=.type "zip",data:=.fields #[.none,.bool false,.bool false,.ref (zH2 k j h l1 l2).objs.size,.ref (zH3 k j h l1 l2).objs.size] }
set_option maxHeartbeats 4000000 in
theorem lX' (k j:Bool) (l1 l2:Addr) (xs ys:Array Value):
  Meets (Builtin.«zip.__new__» ⟨[.type "zip",.ref l1,.ref l2],[]⟩) (fun _ R s=>ey' k s.heap l1 xs/\ey' j s.heap l2 ys/\
   R (.ok (.ret (.ref (zH4 k j s.heap l1 l2).objs.size))) { s with heap:=zH5 k j s.heap l1 l2 }):=by
 cases k<;>cases j
 .exact meets_zip_new l1 l2 xs ys
 .exact .of_wp fun prog w A R s h=>by
   obtain⟨hp,g,d,tk,os⟩:=s;obtain⟨hl1,hl2,h⟩:=h
   have hsub:=sub_zip
   have hL1:Heap.IsList (Shared.heap ⟨hp,g,d,tk,os⟩) l1 xs:=hl1
   have hL2:Heap.IsTuple (Shared.heap ⟨hp.push { cls:=.type "list_iterator",data:=.fields #[.ref l1,.int 0 0] },g,d,tk,os⟩) l2 ys:=Heap.IsTuple.push hl2 _
   wp_walk using wpAny_pyIter_list hL1,bF hL2
   exact⟨_,rfl,h⟩
 .exact .of_wp fun prog w A R s h=>by
   obtain⟨hp,g,d,tk,os⟩:=s;obtain⟨hl1,hl2,h⟩:=h
   have hsub:=sub_zip
   have hL1:Heap.IsTuple (Shared.heap ⟨hp,g,d,tk,os⟩) l1 xs:=hl1
   have hL2:Heap.IsList (Shared.heap ⟨hp.push { cls:=.type "tuple_iterator",data:=.fields #[.ref l1,.int 0 0] },g,d,tk,os⟩) l2 ys:=Heap.IsList.push hl2 _
   wp_walk using bF hL1,wpAny_pyIter_list hL2
   exact⟨_,rfl,h⟩
 .exact .of_wp fun prog w A R s h=>by
   obtain⟨hp,g,d,tk,os⟩:=s;obtain⟨hl1,hl2,h⟩:=h
   have hsub:=sub_zip
   have hL1:Heap.IsTuple (Shared.heap ⟨hp,g,d,tk,os⟩) l1 xs:=hl1
   have hL2:Heap.IsTuple (Shared.heap ⟨hp.push { cls:=.type "tuple_iterator",data:=.fields #[.ref l1,.int 0 0] },g,d,tk,os⟩) l2 ys:=Heap.IsTuple.push hl2 _
   wp_walk using bF hL1,bF hL2
   exact⟨_,rfl,h⟩
section
variable {prog:Program} {w:World} {A:Around} {E:Value->Shared->Prop} {s:Shared}
theorem lY' {k j:Bool} {l1 l2:Addr} {xs ys:Array Value} {Q:Value->Shared->Prop} (hl1:ey' k s.heap l1 xs) (hl2:ey' j s.heap l2 ys)
  (h:∀h',IsZip h' (s.heap.objs.size+4) (s.heap.objs.size+2) (s.heap.objs.size+3) .none->IsPair h' (s.heap.objs.size+2) (.ref s.heap.objs.size) (.ref (s.heap.objs.size+1))->
   IsPair h' (s.heap.objs.size+3) .none .none->cS' k h' s.heap.objs.size l1 0->cS' j h' (s.heap.objs.size+1) l2 0->h'.objs.size=s.heap.objs.size+5->
   (∀c o,s.heap.get? c=some o->h'.get? c=some o)->Q (.ref (s.heap.objs.size+4)) { s with heap:=h' }):
  wpAny (model prog w) A (call (.type "zip") [.ref l1,.ref l2]) Q E s:=by
 refine callType_new F.called_zip (by decide) (F.typeCall_zip_2 _ _) (F.newCall_zip_2 _ _) (fun obj=>F.args_object_init_3 obj _ _) F.entry_zip_new
  (lX' k j l1 l2 xs ys) ⟨hl1,hl2,?_⟩
 have z1:(zH1 k s.heap l1).objs.size=s.heap.objs.size+1:=bg ..
 have z2:(zH2 k j s.heap l1 l2).objs.size=s.heap.objs.size+2:=by rw[bg,z1]
 have z3:(zH3 k j s.heap l1 l2).objs.size=s.heap.objs.size+3:=by rw[bg,z2]
 have z4:(zH4 k j s.heap l1 l2).objs.size=s.heap.objs.size+4:=by rw[bg,z3]
 have z5:(zH5 k j s.heap l1 l2).objs.size=s.heap.objs.size+5:=by rw[bg,z4]
 have g5:(zH5 k j s.heap l1 l2).get? (zH4 k j s.heap l1 l2).objs.size=some _:=av _ rfl
 have g4:(zH5 k j s.heap l1 l2).get? (zH3 k j s.heap l1 l2).objs.size=some _:=ae _ (av _ rfl)
 have g3:(zH5 k j s.heap l1 l2).get? (zH2 k j s.heap l1 l2).objs.size=some _:=ae _ (ae _ (av _ rfl))
 have g2:(zH5 k j s.heap l1 l2).get? (zH1 k s.heap l1).objs.size=some { cls:=.type (lW' j),data:=.fields #[.ref l2,.int 0 0] }:=ae _ (ae _ (ae _ (av _ rfl)))
 have g1:(zH5 k j s.heap l1 l2).get? s.heap.objs.size=some { cls:=.type (lW' k),data:=.fields #[.ref l1,.int 0 0] }:=ae _ (ae _ (ae _ (ae _ (av _ rfl))))
 have gk:∀c o,s.heap.get? c=some o->(zH5 k j s.heap l1 l2).get? c=some o:=fun c o e=>ae _ (ae _ (ae _ (ae _ (ae _ e))))
 have mk:∀(c:Bool) (it l:Addr),(zH5 k j s.heap l1 l2).get? it=some { cls:=.type (lW' c),data:=.fields #[.ref l,.int 0 0] }->cS' c (zH5 k j s.heap l1 l2) it l 0:=fun c it l e=>by
  cases c
  .exact⟨_,e,rfl,rfl⟩
  .exact⟨_,e,rfl,rfl⟩
 show _/\_
 rw[z2,z3,z4]at g5
 rw[z1,z2]at g3
 rw[z3]at g4
 rw[z1]at g2
 rw[z4]
 exact⟨⟨_,g5,rfl⟩,h _ g5 g3 g4 (mk k _ _ g1) (mk j _ _ g2) z5 gk⟩
theorem jt' {k j:Bool} {z TI TO i1 i2 l1 l2:Addr} {k1 k2:Nat} {xs ys:Array Value} {x y a b:Value} {Q:Option Value->Shared->Prop} (D:ZipApart z TI TO i1 i2 l1 l2)
  (hz:IsZip s.heap z TI TO .none) (hTI:IsPair s.heap TI (.ref i1) (.ref i2)) (hTO:IsPair s.heap TO a b)
  (h1:cS' k s.heap i1 l1 k1) (h2:cS' j s.heap i2 l2 k2) (hl1:ey' k s.heap l1 xs) (hl2:ey' j s.heap l2 ys) (hx:xs[k1]?=some x) (hy:ys[k2]?=some y)
  (hQ:∀h',IsZip h' z TI TO (rawInt s.heap.objs.size)->IsPair h' TO x y->cS' k h' i1 l1 (k1+1)->cS' j h' i2 l2 (k2+1)->IsPair h' s.heap.objs.size x y->h'.objs.size=s.heap.objs.size+1->
   (∀c o,c≠z->c≠TO->c≠i1->c≠i2->s.heap.get? c=some o->h'.get? c=some o)->Q (some (.ref s.heap.objs.size)) { s with heap:=h' }):
  wpAny (model prog w) A (pyNext (.ref z)) Q E s:=by
 have hT:s.TypeIs (.ref z) "zip":=⟨_,hz,rfl⟩
 unfold pyNext
 refine aa (wpAny_attempt (bn (name:=Str.ofString "__next__") hT F.slot_zip_next
  (bw F.slot_zip_next hT F.entry_zip_next ?_ (F.args_zip_next_1 _))))
 show wpAny _ _ (field (.ref z) 2 >>= _) _ _ _
 refine aa (aW hz rfl (x:=.bool false) rfl ?_)
 show wpAny _ _ (field (.ref z) 3 >>= _) _ _ _
 refine aa (aW hz rfl (x:=.ref TI) rfl ?_)
 refine aa (bP hTI rfl ?_)
 show wpAny _ _ (Builtin.SmallTypes.ownedTupleIsFree (.ref z) >>= _) _ _ _
 refine aa ?_
 unfold Builtin.SmallTypes.ownedTupleIsFree
 refine aa (aW hz rfl (x:=.none) rfl (am ?_))
 simp only[if_true]
 refine aa (cU ?_)
 refine aa (aW hz rfl (x:=.ref TO) rfl ?_)
 refine aa (bW hz (by simp) fun h₁ hz₁ hs₁=>?_)
 replace hz₁:IsZip h₁ z TI TO .ellipsis:=hz₁
 refine aa ?_
 simp only[List.zipIdx_cons,List.zipIdx_nil,List.forIn_cons,List.forIn_nil]
 refine aa (aa (wpAny_onRaise ?_))
 show wpAny _ _ (Builtin.SmallTypes.nextOf (.ref i1) >>= _) _ _ _
 refine aa (bG' (h1.at fun o e=>hs₁.extBut _ _ D.i1z e) (hl1.at fun o e=>hs₁.extBut _ _ D.l1z e) hx fun h₂ h1₂ hs₂=>am ?_)
 have hTO₂:IsPair h₂ TO a b:=hs₂.extBut _ _ D.TOi1 (hs₁.extBut _ _ D.TOz hTO)
 refine aa (bP hTO₂ rfl ?_)
 refine aa (wpAny_updateSeq_pair hTO₂ fun h₃ hTO₃ hs₃=>?_)
 replace hTO₃:IsPair h₃ TO x b:=hTO₃
 refine aa (wpAny_letGo (am ?_))
 refine aa (aa (wpAny_onRaise ?_))
 show wpAny _ _ (Builtin.SmallTypes.nextOf (.ref i2) >>= _) _ _ _
 refine aa (bG' (h2.at fun o e=>hs₃.extBut _ _ D.TOi2.symm (hs₂.extBut _ _ D.i12.symm (hs₁.extBut _ _ D.i2z e)))
  (hl2.at fun o e=>hs₃.extBut _ _ D.l2TO (hs₂.extBut _ _ D.l2i1 (hs₁.extBut _ _ D.l2z e))) hy fun h₄ h2₄ hs₄=>am ?_)
 have hTO₄:IsPair h₄ TO x b:=hs₄.extBut _ _ D.TOi2 hTO₃
 refine aa (bP hTO₄ rfl ?_)
 refine aa (wpAny_updateSeq_pair hTO₄ fun h₅ hTO₅ hs₅=>?_)
 replace hTO₅:IsPair h₅ TO x y:=hTO₅
 refine aa (wpAny_letGo (am (am ?_)))
 refine aa (bP hTO₅ rfl ?_)
 refine aa (wpAny_newTuple ?_)
 have hsz:h₅.objs.size=s.heap.objs.size:=by rw[hs₅.1,hs₄.1,hs₃.1,hs₂.1,hs₁.1]
 have hz₅:IsZip h₅ z TI TO .ellipsis:=hs₅.extBut _ _ D.TOz.symm (hs₄.extBut _ _ D.i2z.symm (hs₃.extBut _ _ D.TOz.symm (hs₂.extBut _ _ D.i1z.symm hz₁)))
 have hk₅:∀c o,c≠z->c≠TO->c≠i1->c≠i2->s.heap.get? c=some o->h₅.get? c=some o:=fun c o c1 c2 c3 c4 e=>
  hs₅.extBut _ _ c2 (hs₄.extBut _ _ c4 (hs₃.extBut _ _ c2 (hs₂.extBut _ _ c3 (hs₁.extBut _ _ c1 e))))
 have h1₅:cS' k h₅ i1 l1 (k1+1):=h1₂.at fun o e=>hs₅.extBut _ _ D.TOi1.symm (hs₄.extBut _ _ D.i12 (hs₃.extBut _ _ D.TOi1.symm e))
 have h2₅:cS' j h₅ i2 l2 (k2+1):=h2₄.at fun o e=>hs₅.extBut _ _ D.TOi2.symm e
 have hzlt:z<h₅.objs.size:=aq hz₅
 show wpAny _ _ (Builtin.SmallTypes.ownedTupleHandOut (.ref z) (.ref h₅.objs.size) >>= _) _ _ _
 refine aa ?_
 unfold Builtin.SmallTypes.ownedTupleHandOut
 have hz₆:IsZip (h₅.push { cls:=.type "tuple",data:=.seq #[x,y] }) z TI TO .ellipsis:=ae _ hz₅
 refine aa (bW hz₆ (by simp) fun h₇ hz₇ hs₇=>?_)
 replace hz₇:IsZip h₇ z TI TO (rawInt h₅.objs.size):=hz₇
 refine bW hz₇ (by simp) fun h₈ hz₈ hs₈=>?_
 replace hz₈:IsZip h₈ z TI TO (rawInt h₅.objs.size):=hz₈
 have up:∀c o,c≠z->h₅.get? c=some o->h₈.get? c=some o:=fun c o c1 e=>hs₈.extBut _ _ c1 (hs₇.extBut _ _ c1 (ae _ e))
 have hT₈:IsPair h₈ h₅.objs.size x y:=hs₈.extBut _ _ (bu hzlt) (hs₇.extBut _ _ (bu hzlt) (av _ rfl))
 have hz8:h₈.objs.size=h₅.objs.size+1:=by rw[hs₈.1,hs₇.1,bg]
 rw[hsz]at hz₈ hT₈ hz8
 refine am ⟨_,rfl,am ?_⟩
 show Q (some (.ref h₅.objs.size)) _
 rw[hsz]
 exact hQ h₈ hz₈ (up _ _ D.TOz hTO₅) (h1₅.at fun o e=>up _ o D.i1z e) (h2₅.at fun o e=>up _ o D.i2z e) hT₈ hz8 fun c o c1 c2 c3 c4 e=>up c o c1 (hk₅ c o c1 c2 c3 c4 e)
theorem lZ' {k j:Bool} {z TI TO i1 i2 l1 l2:Addr} {k1 k2:Nat} {xs ys:Array Value} {a b:Value} {Q:Option Value->Shared->Prop} (hh:A.handled=none) (D:ZipApart z TI TO i1 i2 l1 l2)
  (hz:IsZip s.heap z TI TO .none) (hTI:IsPair s.heap TI (.ref i1) (.ref i2)) (hTO:IsPair s.heap TO a b)
  (h1:cS' k s.heap i1 l1 k1) (h2:cS' j s.heap i2 l2 k2) (hl1:ey' k s.heap l1 xs) (hl2:ey' j s.heap l2 ys) (hend:xs[k1]?=none\/ys[k2]?=none)
  (hQ:∀h',(∀c o,c≠z->c≠TO->c≠i1->c≠i2->s.heap.get? c=some o->h'.get? c=some o)->Q none { s with heap:=h' }):wpAny (model prog w) A (pyNext (.ref z)) Q E s:=by
 have hT:s.TypeIs (.ref z) "zip":=⟨_,hz,rfl⟩
 unfold pyNext
 refine aa (wpAny_attempt (bn (name:=Str.ofString "__next__") hT F.slot_zip_next
  (bw F.slot_zip_next hT F.entry_zip_next ?_ (F.args_zip_next_1 _))))
 have fin:∀(h':Heap) (e:Addr),(∀c o,c≠z->c≠TO->c≠i1->c≠i2->s.heap.get? c=some o->h'.get? c=some o)->(∃o,h'.get? e=some o/\o.cls=.type "StopIteration")->
   wpAny (model prog w) A (do if <- isInstance (.ref e) (.type "StopIteration")then pure none else throw (.ref e)) Q E { s with heap:=h' }:=fun h' e hk ⟨o,ho,hc⟩=>
  aa (wpAny_isInstance (T:="StopIteration") (b:=true) ⟨o,ho,hc⟩ isSubtype_stop (am (hQ _ hk)))
 show wpAny _ _ (field (.ref z) 2 >>= _) _ _ _
 refine aa (aW hz rfl (x:=.bool false) rfl ?_)
 show wpAny _ _ (field (.ref z) 3 >>= _) _ _ _
 refine aa (aW hz rfl (x:=.ref TI) rfl ?_)
 refine aa (bP hTI rfl ?_)
 show wpAny _ _ (Builtin.SmallTypes.ownedTupleIsFree (.ref z) >>= _) _ _ _
 refine aa ?_
 unfold Builtin.SmallTypes.ownedTupleIsFree
 refine aa (aW hz rfl (x:=.none) rfl (am ?_))
 simp only[if_true]
 refine aa (cU ?_)
 refine aa (aW hz rfl (x:=.ref TO) rfl ?_)
 refine aa (bW hz (by simp) fun h₁ hz₁ hs₁=>?_)
 replace hz₁:IsZip h₁ z TI TO .ellipsis:=hz₁
 refine aa ?_
 simp only[List.zipIdx_cons,List.zipIdx_nil,List.forIn_cons,List.forIn_nil]
 refine aa (aa (wpAny_onRaise ?_))
 show wpAny _ _ (Builtin.SmallTypes.nextOf (.ref i1) >>= _) _ _ _
 have a1:=h1.at (h':=h₁) fun o e=>hs₁.extBut _ _ D.i1z e
 have b1:=hl1.at (h':=h₁) fun o e=>hs₁.extBut _ _ D.l1z e
 cases hx:xs[k1]? with
 |none=>
  refine aa (c9' (by first|exact hh|rfl) a1 b1 hx fun h₂ e hs₂ he=>?_)
  obtain⟨oe,hoe,hce⟩:=he
  have hz₂:IsZip h₂ z TI TO .ellipsis:=hs₂ _ _ D.i1z.symm hz₁
  have hez:e≠z:=fun x=>by subst x;rw[hz₂]at hoe;cases hoe;simp at hce
  refine bW hz₂ (by simp) fun h₃ _ hs₃=>fin h₃ e (fun c o c1 _ c3 _ x=>hs₃.extBut _ _ c1 (hs₂ _ _ c3 (hs₁.extBut _ _ c1 x))) ⟨oe,hs₃.extBut _ _ hez hoe,hce⟩
 |some x=>
  have hy:ys[k2]?=none:=by rcases hend with h|h;rw[hx]at h;cases h;exact h
  refine aa (bG' a1 b1 hx fun h₂ h1₂ hs₂=>am ?_)
  have hTO₂:IsPair h₂ TO a b:=hs₂.extBut _ _ D.TOi1 (hs₁.extBut _ _ D.TOz hTO)
  refine aa (bP hTO₂ rfl ?_)
  refine aa (wpAny_updateSeq_pair hTO₂ fun h₃ hTO₃ hs₃=>?_)
  refine aa (wpAny_letGo (am ?_))
  refine aa (aa (wpAny_onRaise ?_))
  show wpAny _ _ (Builtin.SmallTypes.nextOf (.ref i2) >>= _) _ _ _
  refine aa (c9' (by first|exact hh|rfl) (h2.at fun o e=>hs₃.extBut _ _ D.TOi2.symm (hs₂.extBut _ _ D.i12.symm (hs₁.extBut _ _ D.i2z e)))
   (hl2.at fun o e=>hs₃.extBut _ _ D.l2TO (hs₂.extBut _ _ D.l2i1 (hs₁.extBut _ _ D.l2z e))) hy fun h₄ e hs₄ he=>?_)
  obtain⟨oe,hoe,hce⟩:=he
  have hz₄:IsZip h₄ z TI TO .ellipsis:=hs₄ _ _ D.i2z.symm (hs₃.extBut _ _ D.TOz.symm (hs₂.extBut _ _ D.i1z.symm hz₁))
  have hez:e≠z:=fun x=>by subst x;rw[hz₄]at hoe;cases hoe;simp at hce
  refine bW hz₄ (by simp) fun h₅ _ hs₅=>fin h₅ e (fun c o c1 c2 c3 c4 x=>hs₅.extBut _ _ c1 (hs₄ _ _ c4 (hs₃.extBut _ _ c2 (hs₂.extBut _ _ c3 (hs₁.extBut _ _ c1 x))))) ⟨oe,hs₅.extBut _ _ hez hoe,hce⟩
end
section
variable {prog:Program} {w:World} {A:Around} {E:Value->Shared->Prop} {s:Shared}
theorem ea' {M:Model} {a:Addr} {Q:Option Obj->Shared->Prop} (h:Q (s.heap.get? a) s):wpAny M A (loadIfAlive a) Q E s:=fun Γ p _=>by
 show Sem.wp M Γ (Sem.loadIfAlive a Sem.pure) _ _ p s
 rw[Sem.wp_loadIfAlive]
 exact h
def sK' (h:Heap) (z TI TO:Addr) (f0 f1:Value):Prop:=h.get? z=some { cls:=.type "zip",data:=.fields #[f0,f1,.bool false,.ref TI,.ref TO] }
theorem ju' {b1:Bool} {z TI TO T:Addr} {oT:Obj} {Q:Bool->Shared->Prop} (hz:sK' s.heap z TI TO (rawInt T) (.bool b1)) (hT:s.heap.get? T=some oT)
  (hQ:∀h',sK' h' z TI TO (rawInt T) (.bool true)->ck z s.heap h'->Q false { s with heap:=h' }):wpAny (model prog w) A (Builtin.SmallTypes.ownedTupleIsFree (.ref z)) Q E s:=by
 unfold Builtin.SmallTypes.ownedTupleIsFree
 refine aa (aW hz rfl (x:=rawInt T) rfl ?_)
 have eT:((T:Int)).toNat=T:=bf T
 simp only[rawInt]
 rw[eT]
 refine aa (ea' ?_)
 rw[hT]
 simp only[Option.isNone_some,aT,if_false]
 refine aa (aW hz rfl (x:=.bool b1) rfl ?_)
 cases b1 with
 |true=>
  rw[if_neg (by decide)]
  exact am (hQ s.heap hz ⟨rfl,fun _ _=>rfl⟩)
 |false=>
  rw[if_pos (by decide)]
  refine aa (bW hz (by simp) fun h' hz' hs'=>am (hQ h' hz' hs'))
theorem l0' {k j b1:Bool} {z TI TO i1 i2 l1 l2 T:Addr} {k1 k2:Nat} {xs ys:Array Value} {x y:Value} {oT:Obj} {Q:Option Value->Shared->Prop} (D:ZipApart z TI TO i1 i2 l1 l2)
  (hz:sK' s.heap z TI TO (rawInt T) (.bool b1)) (hT:s.heap.get? T=some oT) (hTI:IsPair s.heap TI (.ref i1) (.ref i2))
  (h1:cS' k s.heap i1 l1 k1) (h2:cS' j s.heap i2 l2 k2) (hl1:ey' k s.heap l1 xs) (hl2:ey' j s.heap l2 ys) (hx:xs[k1]?=some x) (hy:ys[k2]?=some y)
  (hQ:∀h',sK' h' z TI TO (rawInt T) (.bool true)->cS' k h' i1 l1 (k1+1)->cS' j h' i2 l2 (k2+1)->IsPair h' s.heap.objs.size x y->h'.objs.size=s.heap.objs.size+1->
   (∀c o,c≠z->c≠i1->c≠i2->s.heap.get? c=some o->h'.get? c=some o)->Q (some (.ref s.heap.objs.size)) { s with heap:=h' }):
  wpAny (model prog w) A (pyNext (.ref z)) Q E s:=by
 have hTz:s.TypeIs (.ref z) "zip":=⟨_,hz,rfl⟩
 unfold pyNext
 refine aa (wpAny_attempt (bn (name:=Str.ofString "__next__") hTz F.slot_zip_next
  (bw F.slot_zip_next hTz F.entry_zip_next ?_ (F.args_zip_next_1 _))))
 show wpAny _ _ (field (.ref z) 2 >>= _) _ _ _
 refine aa (aW hz rfl (x:=.bool false) rfl ?_)
 show wpAny _ _ (field (.ref z) 3 >>= _) _ _ _
 refine aa (aW hz rfl (x:=.ref TI) rfl ?_)
 refine aa (bP hTI rfl ?_)
 show wpAny _ _ (Builtin.SmallTypes.ownedTupleIsFree (.ref z) >>= _) _ _ _
 refine aa (ju' hz hT fun h₁ hz₁ hs₁=>?_)
 simp only[aT,if_false]
 rw[<- Array.forIn_toList]
 simp only[List.forIn_cons,List.forIn_nil]
 have hTI₁:IsPair h₁ TI (.ref i1) (.ref i2):=hs₁.extBut _ _ D.TIz hTI
 refine aa (aa (aa (aX ?_)))
 show wpAny _ _ (Builtin.SmallTypes.nextOf (.ref i1) >>= _) _ _ _
 refine aa (bG' (s:={ s with heap:=h₁ }) (h1.at fun o e=>hs₁.extBut _ _ D.i1z e) (hl1.at fun o e=>hs₁.extBut _ _ D.l1z e) hx fun h₂ h1₂ hs₂=>am ?_)
 refine am ?_
 dsimp only
 refine aa (aa (aX ?_))
 show wpAny _ _ (Builtin.SmallTypes.nextOf (.ref i2) >>= _) _ _ _
 refine aa (bG' (s:={ s with heap:=h₂ }) (h2.at fun o e=>hs₂.extBut _ _ D.i12.symm (hs₁.extBut _ _ D.i2z e)) (hl2.at fun o e=>hs₂.extBut _ _ D.l2i1 (hs₁.extBut _ _ D.l2z e)) hy fun h₃ h2₃ hs₃=>am ?_)
 refine am ?_
 dsimp only
 refine am ?_
 dsimp only
 refine aa (wpAny_newTuple (hsz:=by show 2<=sizeLine;decide) ?_)
 have hsz:h₃.objs.size=s.heap.objs.size:=by rw[hs₃.1,hs₂.1,hs₁.1]
 refine am ⟨_,rfl,am ?_⟩
 show Q (some (.ref h₃.objs.size)) _
 rw[hsz]
 have up:∀c o,h₃.get? c=some o->(h₃.push { cls:=.type "tuple",data:=.seq #[x,y] }).get? c=some o:=fun c o e=>ae _ e
 refine hQ _ (up _ _ (hs₃.extBut _ _ D.i2z.symm (hs₂.extBut _ _ D.i1z.symm hz₁))) (h1₂.at fun o e=>up _ _ (hs₃.extBut _ _ D.i12 e)) (h2₃.at fun o e=>up _ _ e) ?_ (by rw[bg,hsz]) fun c o c1 c2 c3 e=>up _ _ (hs₃.extBut _ _ c3 (hs₂.extBut _ _ c2 (hs₁.extBut _ _ c1 e)))
 have:=av h₃ (o:={ cls:=.type "tuple",data:=.seq #[x,y] }) rfl
 rw[hsz]at this
 exact this
theorem oU' {k j b1:Bool} {z TI TO i1 i2 l1 l2 T:Addr} {k1 k2:Nat} {xs ys:Array Value} {oT:Obj} {Q:Option Value->Shared->Prop} (hh:A.handled=none) (D:ZipApart z TI TO i1 i2 l1 l2)
  (hz:sK' s.heap z TI TO (rawInt T) (.bool b1)) (hT:s.heap.get? T=some oT) (hTI:IsPair s.heap TI (.ref i1) (.ref i2))
  (h1:cS' k s.heap i1 l1 k1) (h2:cS' j s.heap i2 l2 k2) (hl1:ey' k s.heap l1 xs) (hl2:ey' j s.heap l2 ys) (hend:xs[k1]?=none)
  (hQ:∀h',(∀c o,c≠z->c≠i1->c≠i2->s.heap.get? c=some o->h'.get? c=some o)->Q none { s with heap:=h' }):wpAny (model prog w) A (pyNext (.ref z)) Q E s:=by
 have hTz:s.TypeIs (.ref z) "zip":=⟨_,hz,rfl⟩
 unfold pyNext
 refine aa (wpAny_attempt (bn (name:=Str.ofString "__next__") hTz F.slot_zip_next
  (bw F.slot_zip_next hTz F.entry_zip_next ?_ (F.args_zip_next_1 _))))
 show wpAny _ _ (field (.ref z) 2 >>= _) _ _ _
 refine aa (aW hz rfl (x:=.bool false) rfl ?_)
 show wpAny _ _ (field (.ref z) 3 >>= _) _ _ _
 refine aa (aW hz rfl (x:=.ref TI) rfl ?_)
 refine aa (bP hTI rfl ?_)
 show wpAny _ _ (Builtin.SmallTypes.ownedTupleIsFree (.ref z) >>= _) _ _ _
 refine aa (ju' hz hT fun h₁ hz₁ hs₁=>?_)
 simp only[aT,if_false]
 rw[<- Array.forIn_toList]
 simp only[List.forIn_cons,List.forIn_nil]
 refine aa (aa (aa (aX ?_)))
 show wpAny _ _ (Builtin.SmallTypes.nextOf (.ref i1) >>= _) _ _ _
 refine aa (c9' (s:={ s with heap:=h₁ }) (by first|exact hh|rfl) (h1.at fun o e=>hs₁.extBut _ _ D.i1z e) (hl1.at fun o e=>hs₁.extBut _ _ D.l1z e) hend fun h₂ e hs₂ he=>?_)
 obtain⟨oe,hoe,hce⟩:=he
 refine aa (wpAny_isInstance (T:="StopIteration") (b:=true) ⟨oe,hoe,hce⟩ isSubtype_stop (am (hQ _ ?_)))
 exact fun c o c1 c2 c3 x=>hs₂ _ _ c2 (hs₁.extBut _ _ c1 x)
structure Zst (h0:Heap) (B:Nat) (k j:Bool) (z TI TO i1 i2 l1 l2 S:Addr) (xs ys:Array Value) (i:Nat) (h:Heap):Prop where
 zs:(i=0/\IsZip h z TI TO .none/\∃a b,IsPair h TO a b)\/(0<i/\∃b1,sK' h z TI TO (rawInt B) (.bool b1))
 ti:IsPair h TI (.ref i1) (.ref i2)
 h1:cS' k h i1 l1 i
 h2:cS' j h i2 l2 i
 o1:ey' k h l1 xs
 o2:ey' j h l2 ys
 sz:h.objs.size=B+i
 pr:∀m,m<i->∃x y,xs[m]?=some x/\ys[m]?=some y/\IsPair h (B+m) x y
 kp:∀c o,h0.get? c=some o->h.get? c=some o
structure Zap (h0:Heap) (B:Nat) (z TI TO i1 i2 l1 l2 S:Addr):Prop where
 D:ZipApart z TI TO i1 i2 l1 l2
 bz:z<B
 bTO:TO<B
 b1:i1<B
 b2:i2<B
 bS:S<B
 Sz:S≠z
 STI:S≠TI
 STO:S≠TO
 S1:S≠i1
 S2:S≠i2
 Sl1:S≠l1
 Sl2:S≠l2
 nz:h0.objs.size<=z
 nTO:h0.objs.size<=TO
 n1:h0.objs.size<=i1
 n2:h0.objs.size<=i2
 nS:h0.objs.size<=S
def iK' (B i:Nat):Array Value:=((aF i).map fun m=>Value.ref (B+m)).toArray
theorem l3' {B i:Nat}:(iK' B i).push (.ref (B+i))=iK' B (i+1):=by unfold iK';rw[cy,aG];simp
theorem Zst.drawn {h0:Heap} {B:Nat} {k j:Bool} {z TI TO i1 i2 l1 l2 S:Addr} {xs ys:Array Value} {i:Nat} {Q:Option Value->Shared->Prop} (P:Zap h0 B z TI TO i1 i2 l1 l2 S) (Z:Zst h0 B k j z TI TO i1 i2 l1 l2 S xs ys i s.heap) (hi:i<xs.size) (hij:i<ys.size)
  (hQ:∀h',Zst h0 B k j z TI TO i1 i2 l1 l2 S xs ys (i+1) h'->(∀o,s.heap.get? S=some o->h'.get? S=some o)->Q (some (.ref (B+i))) { s with heap:=h' }):wpAny (model prog w) A (pyNext (.ref z)) Q E s:=by
 obtain⟨zs,ti,h1,h2,o1,o2,sz,pr,kp⟩:=Z
 have hx:xs[i]?=some xs[i]:=aM hi
 have hy:ys[i]?=some ys[i]:=aM hij
 have fin:∀h' b1,sK' h' z TI TO (rawInt B) (.bool b1)->cS' k h' i1 l1 (i+1)->cS' j h' i2 l2 (i+1)->IsPair h' s.heap.objs.size xs[i] ys[i]->h'.objs.size=s.heap.objs.size+1->(∀c o,c≠z->c≠TO->c≠i1->c≠i2->s.heap.get? c=some o->h'.get? c=some o)->Q (some (.ref s.heap.objs.size)) { s with heap:=h' }:=by
  intro h' b1 q1 q2 q3 q4 q5 q6
  rw[sz]at q4 q5 ⊢
  refine hQ h' ⟨.inr ⟨⋯,b1,q1⟩,q6 _ _ P.D.TIz P.D.TITO P.D.TIi1 P.D.TIi2 ti,q2,q3,o1.at fun o e=>q6 _ _ P.D.l1z P.D.l1TO P.D.l1i1 P.D.l1i2 e,o2.at fun o e=>q6 _ _ P.D.l2z P.D.l2TO P.D.l2i1 P.D.l2i2 e,by rw[q5,Nat.add_assoc],fun m hm=>?_,fun c o e=>?_⟩ fun o e=>q6 _ _ P.Sz P.STO P.S1 P.S2 e
  .by_cases hmi:m=i
   .subst hmi
    exact⟨_,_,hx,hy,q4⟩
   .obtain⟨x,y,e1,e2,e3⟩:=pr m ⋯
    exact⟨x,y,e1,e2,q6 _ _ (bu (ai P.bz (aK _ _))) (bu (ai P.bTO (aK _ _))) (bu (ai P.b1 (aK _ _))) (bu (ai P.b2 (aK _ _))) e3⟩
  .have hc:=aq e
   exact q6 _ _ (az (ai hc P.nz)) (az (ai hc P.nTO)) (az (ai hc P.n1)) (az (ai hc P.n2)) (kp _ _ e)
 rcases zs with⟨e0,hz,a,b,hTO⟩|⟨e0,b1,hz⟩
 .refine jt' P.D hz ti hTO h1 h2 o1 o2 hx hy fun h' q1 _ q2 q3 q4 q5 q6=>fin h' false ?_ q2 q3 q4 q5 q6
  rw[show B=s.heap.objs.size by omega]
  exact q1
 .obtain⟨x0,y0,_,_,hT⟩:=pr 0 e0
  exact l0' P.D hz hT ti h1 h2 o1 o2 hx hy fun h' q1 q2 q3 q4 q5 q6=>fin h' true q1 q2 q3 q4 q5 fun c o c1 _ c3 c4 e=>q6 c o c1 c3 c4 e
theorem Zst.over {h0:Heap} {B:Nat} {k j:Bool} {z TI TO i1 i2 l1 l2 S:Addr} {xs ys:Array Value} {i:Nat} {Q:Option Value->Shared->Prop} (hh:A.handled=none) (P:Zap h0 B z TI TO i1 i2 l1 l2 S) (Z:Zst h0 B k j z TI TO i1 i2 l1 l2 S xs ys i s.heap) (hi:xs.size=i)
  (hQ:∀h',(∀m,m<i->∃x y,xs[m]?=some x/\ys[m]?=some y/\IsPair h' (B+m) x y)->(∀c o,h0.get? c=some o->h'.get? c=some o)->(∀o,s.heap.get? S=some o->h'.get? S=some o)->Q none { s with heap:=h' }):wpAny (model prog w) A (pyNext (.ref z)) Q E s:=by
 obtain⟨zs,ti,h1,h2,o1,o2,sz,pr,kp⟩:=Z
 have hx:xs[i]?=none:=by rw[Array.getElem?_eq_none_iff];omega
 have fin:∀h',(∀c o,c≠z->c≠TO->c≠i1->c≠i2->s.heap.get? c=some o->h'.get? c=some o)->Q none { s with heap:=h' }:=by
  intro h' q6
  refine hQ h' (fun m hm=>?_) (fun c o e=>?_) fun o e=>q6 _ _ P.Sz P.STO P.S1 P.S2 e
  .obtain⟨x,y,e1,e2,e3⟩:=pr m hm
   exact⟨x,y,e1,e2,q6 _ _ (bu (ai P.bz (aK _ _))) (bu (ai P.bTO (aK _ _))) (bu (ai P.b1 (aK _ _))) (bu (ai P.b2 (aK _ _))) e3⟩
  .have hc:=aq e
   exact q6 _ _ (az (ai hc P.nz)) (az (ai hc P.nTO)) (az (ai hc P.n1)) (az (ai hc P.n2)) (kp _ _ e)
 rcases zs with⟨e0,hz,a,b,hTO⟩|⟨e0,b1,hz⟩
 .exact lZ' hh P.D hz ti hTO h1 h2 o1 o2 (.inl hx) fun h' q=>fin h' q
 .obtain⟨x0,y0,_,_,hT⟩:=pr 0 e0
  exact oU' hh P.D hz hT ti h1 h2 o1 o2 hx fun h' q=>fin h' fun c o c1 _ c3 c4 e=>q c o c1 c3 c4 e
theorem Zst.keepS {h0:Heap} {B:Nat} {k j:Bool} {z TI TO i1 i2 l1 l2 S:Addr} {xs ys:Array Value} {i:Nat} {h h':Heap} (P:Zap h0 B z TI TO i1 i2 l1 l2 S) (Z:Zst h0 B k j z TI TO i1 i2 l1 l2 S xs ys i h) (hs:ck S h h'):Zst h0 B k j z TI TO i1 i2 l1 l2 S xs ys i h':=by
 obtain⟨zs,ti,h1,h2,o1,o2,sz,pr,kp⟩:=Z
 have q:∀c o,c≠S->h.get? c=some o->h'.get? c=some o:=fun c o hc e=>(hs.2 c hc).trans e
 refine⟨?_,q _ _ P.STI.symm ti,h1.at fun o e=>q _ _ P.S1.symm e,h2.at fun o e=>q _ _ P.S2.symm e,o1.at fun o e=>q _ _ P.Sl1.symm e,o2.at fun o e=>q _ _ P.Sl2.symm e,by rw[hs.1];exact sz,fun m hm=>?_,fun c o e=>?_⟩
 .rcases zs with⟨e0,hz,a,b,hTO⟩|⟨e0,b1,hz⟩
  .exact .inl ⟨e0,q _ _ P.Sz.symm hz,a,b,q _ _ P.STO.symm hTO⟩
  .exact .inr ⟨e0,b1,q _ _ P.Sz.symm hz⟩
 .obtain⟨x,y,e1,e2,e3⟩:=pr m hm
  exact⟨x,y,e1,e2,q _ _ (bu (ai P.bS (aK _ _))) e3⟩
 .exact q _ _ (az (ai (aq e) P.nS)) (kp _ _ e)
theorem oV' {R:Result->Shared->Prop} {h0:Heap} {B:Nat} {k j:Bool} {z TI TO i1 i2 l1 l2 S:Addr} {xs ys:Array Value} {n:Nat} {res:Value} (hh:A.in1.handled=none) (P:Zap h0 B z TI TO i1 i2 l1 l2 S) (hxs:xs.size=n) (hys:ys.size=n) (hn:n<=sizeLine):
  ∀(m i:Nat) (s:Shared) (c:Nat),n-i=m->i<=n->Zst h0 B k j z TI TO i1 i2 l1 l2 S xs ys i s.heap->s.heap.get? S=some { cls:=.type "list",dict:=none,data:=.seq (iK' B i) c,slots:=#[] }->
   (∀h' c',(∀m,m<n->∃x y,xs[m]?=some x/\ys[m]?=some y/\IsPair h' (B+m) x y)->(∀c o,h0.get? c=some o->h'.get? c=some o)->h'.get? S=some { cls:=.type "list",dict:=none,data:=.seq (iK' B n) c',slots:=#[] }->R (.ok (.ret res)) { s with heap:=h' })->
   codeAny (model prog w) A (.builtin "list.extend.loop" ⟨[.ref S,.ref z,res],[]⟩) R s:=by
 intro m
 induction m with
 |zero=>
  intro i s c hk hi Z hS hR
  have hin:i=n:=by omega
  subst hin
  refine codeAny_builtin PySem.F.entry_extend_loop ?_
  rw[Around.under_plainId PySem.F.plain_extend_loop _]
  show wpAny _ A.in1 (pyNext (.ref z) >>= _) _ _ s
  refine aa (Z.over hh P hxs fun h' q1 q2 q3=>?_)
  exact am (hR h' c q1 q2 (q3 _ hS))
 |succ m ih=>
  intro i s c hk hi Z hS hR
  refine codeAny_builtin PySem.F.entry_extend_loop ?_
  rw[Around.under_plainId PySem.F.plain_extend_loop _]
  show wpAny _ A.in1 (pyNext (.ref z) >>= _) _ _ s
  refine aa (Z.drawn P ⋯ ⋯ fun h' Z' q3=>?_)
  have hS':=q3 _ hS
  have hasz:(iK' B i).size=i:=by unfold iK';simp
  show wpAny _ A.in1 (updateSeq S (·.push (.ref (B+i))) >>= _) _ _ _
  have hS2:=cn (Obj.mapSeq (·.push (Value.ref (B+i)))) hS' rfl
  obtain⟨c',hS3⟩:∃c',(h'.update S (Obj.mapSeq (·.push (Value.ref (B+i))))).get? S=some { cls:=.type "list",dict:=none,data:=.seq (iK' B (i+1)) c',slots:=#[] }:=⟨_,by rw[<- l3'];exact hS2⟩
  refine aa (wpAny_updateSeq (s:={ s with heap:=h' }) hS' rfl (am ⟨plainId_quiet PySem.F.plain_extend_loop _,ih (i+1) _ c' ⋯ ⋯ (Z'.keepS P (Heap.SameBut.update ..)) hS3 fun h'' c'' q1 q2 q3=>hR h'' c'' q1 q2 q3⟩) (by rw[hasz];omega) (by show((iK' B i).push _).size<=sizeLine+1;rw[Array.size_push,hasz];omega))
end
def Its (x:Str):It:=⟨fun i _=>i<x.cps.size,fun i H v H'=>H'=H/\∃c,x.cps[i]?=some c/\v=.str ⟨#[c]⟩,fun i _=>x.cps.size<=i⟩
theorem oW' {P:Program} {w:World} {K:W.Frag} {tg:Expr} (it:Addr) (x:Str) (ty:String) (t:Tok) (hty:ty="str_ascii_iterator"\/ty="str_iterator"):
  Turn P w K tg (Its x) [it] it (fun i h=>h.IsStrIter it ty x t i) where
 mem:=by simp
 obj:=fun i h st b hb=>by
  have e:b=it:=by simpa using hb
  subst e
  obtain⟨o,e,c,d⟩:=st
  exact⟨o,e,fun v z=>by rw[d]at z;cases z⟩
 keep:=fun i h h' st k=>by
  obtain⟨o,e,r⟩:=st
  exact⟨o,k it (by simp) o e,r⟩
 item:=by
  intro X hP hw hK hc i p_ s σ H E I hf st hg
  subst hP hw hK
  obtain⟨f0,f1,f2,f3,f4,f5⟩:=hf it (by simp)
  have hg':i<x.cps.size:=hg
  have hx:x.cps[i]?=some x.cps[i]:=by simp[hg']
  have fin:∀h',h'.IsStrIter it ty x t (i+1)->ck it s.heap h'->∃u,some (Value.str ⟨#[x.cps[i]]⟩ s.toks)=some u/\
    wpAny (model X.prog X.w) X.A (letOwnedTupleGo tg (.ref it) u) (fun _ s2=>∃y H',Inv X p_ σ H' s2/\aP' y u/\(Its x).yld i H y H'/\s2.heap.IsStrIter it ty x t (i+1)/\∀b∈[it],H' b=none) E { s with heap:=h',toks:=s.toks+1 }:=fun h' st' sb=>by
   have I1:Inv X p_ σ H { s with heap:=h',toks:=s.toks+1 }:=I.turned (fun b o hb e=>(sb.2 b hb).trans e) f0 f1 f3 f4 f5
   obtain⟨o,e,c,d⟩:=id st'
   refine⟨_,rfl,kx' (s:={ s with heap:=h',toks:=s.toks+1 }) e c d ?_ ⟨.str ⟨#[x.cps[i]]⟩,H,I1,⟨_,rfl⟩,⟨rfl,_,hx,rfl⟩,st',fun b hb=>(hf b hb).1⟩⟩
   rcases hty with rfl|rfl<;>decide
  rcases hty with rfl|rfl
  .exact wpAny_pyNext_ascii_item st hx fin
  .exact wpAny_pyNext_wide_item st hx fin
 done:=by
  intro X hP hw hK hc i p_ s σ H E I hf st hg
  subst hP hw hK
  obtain⟨f0,f1,f2,f3,f4,f5⟩:=hf it (by simp)
  have hg':x.cps.size<=i:=hg
  have hx:x.cps[i]?=none:=by simp[hg']
  have fin:∀h',Heap.ExtBut it s.heap h'->(none:Option Value)=none/\Inv X p_ σ H { s with heap:=h' }:=fun h' eb=>⟨rfl,I.turned (t':=s.toks) (fun b o hb e=>eb b o hb e) f0 f1 f3 f4 f5⟩
  rcases hty with rfl|rfl
  .exact wpAny_pyNext_ascii_end (I.ok.hd hc) st hx fin
  .exact wpAny_pyNext_wide_end (I.ok.hd hc) st hx fin
 self:=fun _ _ _ _ _ st h=>by
  rcases hty with rfl|rfl
  .exact wpAny_pyIter_striter_ascii st h
  .exact wpAny_pyIter_striter_wide st h
def Sq (k:Bool) (K:W.Frag) (H:Hp) (a:Addr) (xs:List V):Prop:=match k with
 |true=>SqT K H a xs
 |false=>SqL K H a xs
theorem Inv.sq {X:Cx} {p_:List (Addr×Obj)} {σ:St} {H:Hp} {s:Shared} {k:Bool} {a:Addr} {xs:List V} (I:Inv X p_ σ H s) (h:Sq k X.K H a xs):∃its:List Value,aQ' xs its/\ey' k s.heap a its.toArray/\xs.length<=sizeLine:=by
 cases k
 .obtain⟨its,r,p,z⟩:=I.list h
  exact⟨its,r,p.isList,z⟩
 .obtain⟨its,r,p,z⟩:=I.tuple h
  exact⟨its,r,p,z⟩
theorem Inv.sq_inj {X:Cx} {p_:List (Addr×Obj)} {σ:St} {H:Hp} {s:Shared} {k:Bool} {a:Addr} {xs ys:List V} (I:Inv X p_ σ H s) (h:Sq k X.K H a xs) (h':Sq k X.K H a ys):xs=ys:=by
 cases k
 .exact I.list_inj h h'
 .exact I.tuple_inj h h'
def vt' (k j:Bool) (K:W.Frag) (a b:Addr):It:=
 ⟨fun i H=>∃xs ys x y,Sq k K H a xs/\Sq j K H b ys/\xs[i]?=some x/\ys[i]?=some y,
  fun i H v H'=>∃p x y,v=.ref p/\H p=none/\(∀xs,Sq k K H a xs->xs[i]?=some x)/\(∀ys,Sq j K H b ys->ys[i]?=some y)/\H'=upd H p (.tup [x,y]),
  fun i H=>∃xs ys,Sq k K H a xs/\Sq j K H b ys/\(xs.length<=i\/ys.length<=i)⟩
abbrev Itz (k:Bool) (K:W.Frag) (a b:Addr):It:=vt' k k K a b
def zTn (k j:Bool) (z TI TO i1 i2 l1 l2:Addr) (i:Nat) (h:Heap):Prop:=
 IsZip h z TI TO .none/\IsPair h TI (.ref i1) (.ref i2)/\(∃a b,IsPair h TO a b)/\cS' k h i1 l1 i/\cS' j h i2 l2 i
theorem oX' {P:Program} {w:World} {K:W.Frag} {elts:List Expr} {kt:Nat} {pt:Pos} {k j:Bool} {z TI TO i1 i2 l1 l2:Addr} (D:ZipApart z TI TO i1 i2 l1 l2):
  Turn P w K (.Tuple elts kt pt) (vt' k j K l1 l2) [z,TI,TO,i1,i2] z (zTn k j z TI TO i1 i2 l1 l2) where
 mem:=by simp
 obj:=fun i h st b hb=>by
  obtain⟨hz,hTI,⟨_,_,hTO⟩,h1,h2⟩:=st
  simp only[al,ap,or_false]at hb
  rcases hb with rfl|rfl|rfl|rfl|rfl
  .exact⟨_,hz,fun v=>(nomatch ·)⟩
  .exact⟨_,hTI,fun v=>(nomatch ·)⟩
  .exact⟨_,hTO,fun v=>(nomatch ·)⟩
  .obtain⟨o,e,d⟩:=h1.obj
   exact⟨o,e,fun v q=>by rw[d]at q;cases q⟩
  .obtain⟨o,e,d⟩:=h2.obj
   exact⟨o,e,fun v q=>by rw[d]at q;cases q⟩
 keep:=fun i h h' st kk=>by
  obtain⟨hz,hTI,⟨a,b,hTO⟩,h1,h2⟩:=st
  exact⟨kk z (by simp) _ hz,kk TI (by simp) _ hTI,⟨a,b,kk TO (by simp) _ hTO⟩,h1.at fun o e=>kk i1 (by simp) o e,h2.at fun o e=>kk i2 (by simp) o e⟩
 item:=by
  intro X hP hw hK hc i p_ s σ H E I hf st hg
  subst hP hw hK
  obtain⟨xs,ys,x,y,hxs,hys,hx,hy⟩:=hg
  obtain⟨hz,hTI,⟨a,b,hTO⟩,h1,h2⟩:=st
  obtain⟨us,rus,ous,_⟩:=I.sq hxs
  obtain⟨vs,rvs,ovs,_⟩:=I.sq hys
  obtain⟨u,hu,ru⟩:=rus.get hx
  obtain⟨v,hv,rv⟩:=rvs.get hy
  refine jt' D hz hTI hTO h1 h2 ous ovs (x:=u) (y:=v) (by simpa using hu) (by simpa using hv) fun h' hz' hTO' h1' h2' hT hsz hk=>?_
  refine⟨_,rfl,wpAny_letOwnedTupleGo_zip (s:={ s with heap:=h' }) hz' fun h'' hz'' hs=>?_⟩
  have hs':ck z h' h'':=hs
  have zlt:z<s.heap.objs.size:=aq hz
  have neT:s.heap.objs.size≠z:=bu zlt
  have hkk:∀c o,c∉[z,TO,i1,i2]->s.heap.get? c=some o->h''.get? c=some o:=fun c o hc e=>by
   simp only[al,ap,or_false,not_or]at hc
   exact(hs'.2 c hc.1).trans (hk c o hc.1 hc.2.1 hc.2.2.1 hc.2.2.2 e)
  have sub:∀c∈[z,TO,i1,i2],c∈[z,TI,TO,i1,i2]:=fun c hc=>by
   simp only[al,ap,or_false]at hc ⊢
   rcases hc with h|h|h|h
   .exact .inl h
   .exact .inr (.inr (.inl h))
   .exact .inr (.inr (.inr (.inl h)))
   .exact .inr (.inr (.inr (.inr h)))
  have hTn:H s.heap.objs.size=none:=I.hok.fresh (aj _)
  have trk:∀c o,H c=some o->c∉[z,TO,i1,i2]:=fun c o e hc=>by rw[(hf c (sub c hc)).1]at e;cases e
  have I1:Inv X p_ σ (upd H s.heap.objs.size (.tup [x,y])) { s with heap:=h'' }:=by
   refine I.step (g':=s.gens) (d':=s.drawn) (t':=s.toks) (ch:=[z,TO,i1,i2]) (fun c hc=>?_) (fun c o _ _ hc e _=>hkk c o hc e) (fun c o _ _ hc e _=>⟨o.slots,hkk c o hc e⟩)
    (fun c o _ e n=>by rw[ae' (az (aq e))];exact n) (fun c o hc e=>⟨o,hkk c o hc e⟩) (fun c ps e=>by rw[ae' (ah' e hTn)];exact e) (fun c o p e=>by rw[ae' (ah' e hTn)];exact e)
    (fun c ps e=>⟨#[],by rw[ae' (ah' e hTn),e];simp⟩) (fun m hm=>?_) (fun c o e=>?_) I.bare
   .obtain⟨f0,f1,f2,f3,f4,f5⟩:=hf c (sub c hc)
    exact⟨f3,f1,f4,f5⟩
   .obtain⟨oo,es,ep,ho,r⟩:=hm
    exact⟨oo,es,ep,hkk _ oo (fun hc=>(hf _ (sub _ hc)).2.1 rfl) ho,r⟩
   .by_cases hb:c=s.heap.objs.size
    .subst hb
     rw[ac']at e;cases e
     exact⟨by show 2<=sizeLine;decide,[u,v],.cons ru (.cons rv .nil),⟨_,(hs'.2 _ neT).trans hT,rfl,⟨_,rfl⟩,rfl⟩⟩
    .rw[ae' hb]at e
     refine(I.hok c o e).stay (fun d q hd eq=>hkk d q ?_ eq) (fun d q=>by rw[ae' (ah' q hTn)];exact q) fun d qs q=>by rw[ae' (ah' q hTn)];exact q
     rcases hd with rfl|hd
     .exact trk _ _ e
     .exact trk _ _ hd
  refine⟨.ref s.heap.objs.size,_,I1,rfl,⟨s.heap.objs.size,x,y,rfl,hTn,fun xs' h'=>by rw[I.sq_inj h' hxs];exact hx,fun ys' h'=>by rw[I.sq_inj h' hys];exact hy,rfl⟩,⟨hz'',?_,⟨u,v,?_⟩,?_,?_⟩,fun c hc=>?_⟩
  .exact(hs'.2 TI D.TIz).trans (hk TI _ D.TIz D.TITO D.TIi1 D.TIi2 hTI)
  .exact(hs'.2 TO D.TOz).trans hTO'
  .exact h1'.at fun o e=>(hs'.2 i1 D.i1z).trans e
  .exact h2'.at fun o e=>(hs'.2 i2 D.i2z).trans e
  .rw[ae']
   .exact(hf c hc).1
   .intro q
    subst q
    simp only[al,ap,or_false]at hc
    rcases hc with q|q|q|q|q
    .exact neT q
    .exact aS _ (q ▸ aq hTI)
    .exact aS _ (q ▸ aq hTO)
    .obtain⟨o,e,_⟩:=h1.obj
     exact aS _ (q ▸ aq e)
    .obtain⟨o,e,_⟩:=h2.obj
     exact aS _ (q ▸ aq e)
 done:=by
  intro X hP hw hK hc i p_ s σ H E I hf st hg
  subst hP hw hK
  obtain⟨xs,ys,hxs,hys,hend⟩:=hg
  obtain⟨hz,hTI,⟨a,b,hTO⟩,h1,h2⟩:=st
  obtain⟨us,rus,ous,_⟩:=I.sq hxs
  obtain⟨vs,rvs,ovs,_⟩:=I.sq hys
  have l1':=rus.length
  have l2':=rvs.length
  refine lZ' (I.ok.hd hc) D hz hTI hTO h1 h2 ous ovs ?_ fun h' hk=>⟨rfl,?_⟩
  .rcases hend with q|q
   .exact .inl (by simp;omega)
   .exact .inr (by simp;omega)
  have sub:∀c∈[z,TO,i1,i2],c∈[z,TI,TO,i1,i2]:=fun c hc=>by
   simp only[al,ap,or_false]at hc ⊢
   rcases hc with h|h|h|h
   .exact .inl h
   .exact .inr (.inr (.inl h))
   .exact .inr (.inr (.inr (.inl h)))
   .exact .inr (.inr (.inr (.inr h)))
  have hkk:∀c o,c∉[z,TO,i1,i2]->s.heap.get? c=some o->h'.get? c=some o:=fun c o hc e=>by
   simp only[al,ap,or_false,not_or]at hc
   exact hk c o hc.1 hc.2.1 hc.2.2.1 hc.2.2.2 e
  have trk:∀c o,H c=some o->c∉[z,TO,i1,i2]:=fun c o e hc=>by rw[(hf c (sub c hc)).1]at e;cases e
  refine I.step (g':=s.gens) (d':=s.drawn) (t':=s.toks) (ch:=[z,TO,i1,i2]) (fun c hc=>?_) (fun c o _ _ hc e _=>hkk c o hc e) (fun c o _ _ hc e _=>⟨o.slots,hkk c o hc e⟩)
    (fun c o _ e n=>n) (fun c o hc e=>⟨o,hkk c o hc e⟩) (fun c ps e=>e) (fun c o p e=>e) (fun c ps e=>⟨#[],by rw[e];simp⟩) (fun m hm=>?_) (fun c o e=>?_) I.bare
  .obtain⟨f0,f1,f2,f3,f4,f5⟩:=hf c (sub c hc)
   exact⟨f3,f1,f4,f5⟩
  .obtain⟨oo,es,ep,ho,r⟩:=hm
   exact⟨oo,es,ep,hkk _ oo (fun hc=>(hf _ (sub _ hc)).2.1 rfl) ho,r⟩
  .refine(I.hok c o e).stay (fun d q hd eq=>hkk d q ?_ eq) (fun d q=>q) fun d qs q=>q
   rcases hd with rfl|hd
   .exact trk _ _ e
   .exact trk _ _ hd
 self:=fun _ _ _ _ _ st h=>wpAny_pyIter_zip st.1 h
section
variable {X:Cx} {tg:Expr}
def ze' (K:W.Frag) (tl:TE):TI:=fun σ H R=>tl σ H fun x H1=>
 (∃a,x=.ref a/\(∃xs,SqL K H1 a xs)/\R (Itl K a) H1)\/(∃a,x=.ref a/\(∃xs,SqT K H1 a xs)/\R (Itt K a) H1)\/∃z,x=.str z/\R (Its z) H1
theorem vu' {l:Expr} {tl:TE} (hl:PE X l tl):PI X tg l (ze' X.K tl):=by
 intro p_ s σ H R I h
 refine thn (hl p_ s σ H _ I h) fun v s1 ⟨x,H1,I1,r1,q1⟩=>?_
 rcases q1 with⟨a,e,⟨xs,hq⟩,q⟩|⟨a,e,⟨xs,hq⟩,q⟩|⟨z,e,q⟩
 .subst e
  cases r1
  obtain⟨its,rv,p,hz⟩:=I1.list hq
  refine wpAny_pyIter_list p.isList ?_
  refine⟨s1.heap.objs.size,[s1.heap.objs.size],_,_,H1,rfl,I1.kept (t':=s1.toks) fun b o e=>ae _ e,lw' a _,⟨_,av _ rfl,rfl,rfl⟩,fun b hb=>?_,q⟩
  have e:b=s1.heap.objs.size:=by simpa using hb
  subst e
  exact I1.fpOk (aj _) (I1.hok.fresh (aj _))
 .subst e
  cases r1
  obtain⟨its,rv,p,hz⟩:=I1.tuple hq
  refine bF (show s1.heap.IsTuple a its.toArray from p) ?_
  refine⟨s1.heap.objs.size,[s1.heap.objs.size],_,_,H1,rfl,I1.kept (t':=s1.toks) fun b o e=>ae _ e,ky' a _,⟨_,av _ rfl,rfl,rfl⟩,fun b hb=>?_,q⟩
  have e:b=s1.heap.objs.size:=by simpa using hb
  subst e
  exact I1.fpOk (aj _) (I1.hok.fresh (aj _))
 .subst e
  obtain⟨t,rfl⟩:=r1
  have fin:∀(ty:String),(ty="str_ascii_iterator"\/ty="str_iterator")->PIE X p_ σ tg R (.ref s1.heap.objs.size) { s1 with heap:=s1.heap.push { cls:=.type ty,data:=.fields #[.str z t,.int 0 0] } }:=fun ty hty=>by
   refine⟨s1.heap.objs.size,[s1.heap.objs.size],_,_,H1,rfl,I1.kept (t':=s1.toks) fun b o e=>ae _ e,oW' _ z ty t hty,⟨_,av _ rfl,rfl,rfl⟩,fun b hb=>?_,q⟩
   have e:b=s1.heap.objs.size:=by simpa using hb
   subst e
   exact I1.fpOk (aj _) (I1.hok.fresh (aj _))
  cases ha:z.cps.all (· < 128)
  .exact wpAny_pyIter_wide ha (fin _ (.inr rfl))
  .exact wpAny_pyIter_ascii ha (fin _ (.inl rfl))
def zf' (K:W.Frag) (ta:TA):TI:=fun σ H R=>ta σ H fun vs H1=>∃(k j:Bool) (a b:Addr),vs=[.ref a,.ref b]/\(∃xs,Sq k K H1 a xs)/\(∃ys,Sq j K H1 b ys)/\R (vt' k j K a b) H1
theorem vv' {a b:Expr} {ta:TA} {p pos:Pos} {elts:List Expr} {kt:Nat} {pt:Pos} (hg:Gl X "zip") (hm:X.mg "zip"=none) (ha:PA X [a,b] ta) (hs:starEach [a,b] X.env=[(false,eval a X.env),(false,eval b X.env)]) (hs2:starEach [b] X.env=[(false,eval b X.env)]):
  PI X (.Tuple elts kt pt) (.Call (.Name "zip" p) [a,b] [] pos) (zf' X.K ta):=by
 intro p_ s σ H R I h
 refine Call_ (cT' I hg hm boot_zip (PyProof.Rows.callWith_type1 (thn (ha pos p_ s σ H _ I h) fun us s1 ⟨vs,H1,I1,r1,q1⟩=>?_) (by rw[hs,hs2]) (by rw[hs2];rfl)))
 obtain⟨k,j,a,b,e,⟨xs,hxs⟩,⟨ys,hys⟩,q⟩:=q1
 subst e
 cases r1 with
 |cons r rr=>
  cases rr with
  |cons r' rr=>
   cases rr
   cases r
   cases r'
   obtain⟨us,rus,ous,_⟩:=I1.sq hxs
   obtain⟨vs,rvs,ovs,_⟩:=I1.sq hys
   refine lY' ous ovs fun h' hz hTI hTO h1 h2 hsz hk=>wpAny_pyIter_zip hz ?_
   refine⟨s1.heap.objs.size+4,[s1.heap.objs.size+4,s1.heap.objs.size+2,s1.heap.objs.size+3,s1.heap.objs.size,s1.heap.objs.size+1],_,_,H1,rfl,I1.kept (t':=s1.toks) hk,oX' (k:=k) (j:=j) (PyProof.Rows.zipApart_new ous.lt ovs.lt),⟨hz,hTI,⟨_,_,hTO⟩,h1,h2⟩,fun c hc=>?_,q⟩
   have hle:s1.heap.objs.size<=c:=by
    simp only[al,ap,or_false]at hc
    rcases hc with rfl|rfl|rfl|rfl|rfl
    .exact aK _ _
    .exact aK _ _
    .exact aK _ _
    .exact aj _
    .exact aK _ _
   exact I1.fpOk hle (I1.hok.fresh hle)
end
section
variable {prog:Program} {w:World} {A:Around} {E:Value->Shared->Prop} {s:Shared}
theorem l4':typeLookup (.type "zip") "__len__"=pure none:=by rw[typeLookup_type,builtinLookup_eq_fast];kernel_rfl
theorem kI':typeLookup (.type "zip") "__length_hint__"=pure none:=by rw[typeLookup_type,builtinLookup_eq_fast];kernel_rfl
theorem oY' {r:Addr} {Q:Bool->Shared->Prop} (hT:s.TypeIs (.ref r) "zip") (h:Q true s):wpAny (model prog w) A (Builtin.List.listLengthHint (.ref r)) Q E s:=by
 unfold Builtin.List.listLengthHint
 refine aa (wpAny_specialOf hT l4' ?_)
 dsimp only
 rw[if_neg (by decide),if_neg (by decide)]
 refine aa (wpAny_specialOf hT kI' ?_)
 exact am h
theorem kJ' {R:Result->Shared->Prop} {h0:Heap} {B:Nat} {k j:Bool} {z TI TO i1 i2 l1 l2 S:Addr} {xs ys:Array Value} {n c₀:Nat} {res:Value} (hh:A.in1.handled=none) (P:Zap h0 B z TI TO i1 i2 l1 l2 S) (hxs:xs.size=n) (hys:ys.size=n) (hn:n<=sizeLine)
  (Z:Zst h0 B k j z TI TO i1 i2 l1 l2 S xs ys 0 s.heap) (hS:s.heap.get? S=some { cls:=.type "list",data:=.seq #[] c₀ })
  (hR:∀h' c',(∀m,m<n->∃x y,xs[m]?=some x/\ys[m]?=some y/\IsPair h' (B+m) x y)->(∀c o,h0.get? c=some o->h'.get? c=some o)->h'.get? S=some { cls:=.type "list",dict:=none,data:=.seq (iK' B n) c',slots:=#[] }->R (.ok (.ret res)) { s with heap:=h' }):
  wpAny (model prog w) A.in1 (Builtin.List.listExtendWith (.ref S) (.ref z) res)
   (fun fin s'=>match fin with | .done f=>R (.ok f) s' | .again c'=>c'.quiet=true/\codeAny (model prog w) A c' R s') (fun e s'=>R (.error e) s') s:=by
 have hz:IsZip s.heap z TI TO .none:=by
  rcases Z.zs with⟨_,hz,_⟩|⟨e0,_⟩
  .exact hz
  .omega
 have hT:s.TypeIs (.ref z) "zip":=⟨_,hz,rfl⟩
 unfold Builtin.List.listExtendWith
 refine aa (wpAny_typeOf (T:="zip") hT ?_)
 have h1:Builtin.List.listSameRef (.ref S) (.ref z)=false:=by simp[Builtin.List.listSameRef,P.Sz]
 simp only[h1,show(Value.type "zip" == Value.type "list")=false by decide,show(Value.type "zip" == Value.type "tuple")=false by decide,Bool.or_false,aT,if_false]
 refine aa (wpAny_pyIter_zip hz ?_)
 refine aa (aX (oY' hT ?_))
 rw[if_pos (by rfl)]
 refine aa (cU ?_)
 refine aa ?_
 show wpAny _ _ (updateSeq S (·.push .none) >>= fun _=>updateSeq S (·.pop)) _ _ _
 refine aa (wpAny_updateSeq hS rfl ?_)
 have hS₂:=cn (Obj.mapSeq (·.push Value.none)) hS rfl
 refine wpAny_updateSeq (hz:=by seq_fits) hS₂ rfl ?_
 have hS₃:=cn (Obj.mapSeq (·.pop)) hS₂ rfl
 have Z2:=(Z.keepS P (Heap.SameBut.update ..)).keepS P (Heap.SameBut.update (s.heap.update S (Obj.mapSeq (·.push Value.none))) S (Obj.mapSeq (·.pop)))
 exact am ⟨plainId_quiet PySem.F.plain_extend_loop _,oV' hh P hxs hys hn n 0 _ _ ⋯ (aP _) Z2 hS₃ fun h' c' q1 q2 q3=>hR h' c' q1 q2 q3⟩
end
section
variable {X:Cx} {p_:List (Addr×Obj)} {σ:St} {H H':Hp} {s:Shared} {h':Heap}
theorem Inv.laidN {t':Nat} (I:Inv X p_ σ H s) (k:∀b u,s.heap.get? b=some u->h'.get? b=some u) (sub:∀b u,H b=some u->H' b=some u) (fr:∀b,H b=none->b<s.heap.objs.size->H' b=none)
  (new:∀b u,H' b=some u->H b=some u\/aE' X.prog X.w H' h' b u):Inv X p_ σ H' { s with heap:=h',toks:=t' }:=by
 refine I.step (g':=s.gens) (d':=s.drawn) (t':=t') (ch:=[]) (fun c hc=>absurd hc ap) (fun c o _ _ _ e _=>k c o e) (fun c o _ _ _ e _=>⟨o.slots,k c o e⟩)
  (fun c o _ e n=>fr c n (aq e)) (fun c o _ e=>⟨o,k c o e⟩) (fun c ps e=>sub _ _ e) (fun c o p e=>sub _ _ e) (fun c ps e=>⟨#[],by rw[sub _ _ e];simp⟩) (fun m hm=>?_) (fun c o e=>?_) I.bare
 .obtain⟨oo,es,ep,ho,r⟩:=hm
  exact⟨oo,es,ep,k _ oo ho,r⟩
 .rcases new c o e with e0|h
  .exact(I.hok c o e0).stay (fun d q hd eq=>k d q eq) (fun d q=>sub _ _ q) fun d qs q=>sub _ _ q
  .exact h
end
def Itd (go:Nat->Hp->Prop) (val:Nat->Hp->V->Prop) (stop:Nat->Hp->Prop):It:=
 ⟨go,fun i H v H'=>∃p x,v=.ref p/\H p=none/\val i H x/\H'=upd H p (.tup [.int i,x]),stop⟩
structure EnSrc (P:Program) (w:World) (K:W.Frag) (e it:Addr) (Sx:Nat->Heap->Prop) (go:Nat->Hp->Prop) (val:Nat->Hp->V->Prop) (stop:Nat->Hp->Prop):Prop where
 ne:e≠it
 obj:∀i h,Sx i h->∃o,h.get? it=some o/\∀v,o.data≠.cell v
 keep:∀i h h',Sx i h->(∀o,h.get? it=some o->h'.get? it=some o)->Sx i h'
 item:∀(X:Cx),X.prog=P->X.w=w->X.K=K->X.calm=true->∀(i:Nat) (p_:List (Addr×Obj)) (s:Shared) (σ:St) (H:Hp),Inv X p_ σ H s->H e=none->H it=none->e<s.heap.objs.size->(∃old,IsEnum s.heap e it i old)->Sx i s.heap->go i H->
  ∃n Pd Sd fp,Draws P w X.A.in1 it fp n Pd Sd/\e∉fp/\i<n/\Sd i s.heap/\(∀j h,Sd j h->Sx j h)/\∀u,Pd i u->∃x,aP' x u/\val i H x
 done:∀(X:Cx),X.prog=P->X.w=w->X.K=K->X.calm=true->∀(i:Nat) (p_:List (Addr×Obj)) (s:Shared) (σ:St) (H:Hp),Inv X p_ σ H s->H e=none->H it=none->(∃old,IsEnum s.heap e it i old)->Sx i s.heap->stop i H->
  ∃Pd Sd fp,Draws P w X.A.in1 it fp i Pd Sd/\Sd i s.heap
theorem e6' {P:Program} {w:World} {K:W.Frag} {elts:List Expr} {kt:Nat} {pt:Pos} {e it:Addr} {Sx:Nat->Heap->Prop} {go:Nat->Hp->Prop} {val:Nat->Hp->V->Prop} {stop:Nat->Hp->Prop} (S:EnSrc P w K e it Sx go val stop):
  Turn P w K (.Tuple elts kt pt) (Itd go val stop) [e,it] e (fun i h=>(∃old,IsEnum h e it i old)/\Sx i h) where
 mem:=by simp
 obj:=fun i h st b hb=>by
  obtain⟨⟨old,he⟩,hs⟩:=st
  simp only[al,ap,or_false]at hb
  rcases hb with rfl|rfl
  .exact⟨_,he,fun v=>(nomatch ·)⟩
  .exact S.obj i h hs
 keep:=fun i h h' st kk=>by
  obtain⟨⟨old,he⟩,hs⟩:=st
  exact⟨⟨old,kk e (by simp) _ he⟩,S.keep i h h' hs fun o q=>kk it (by simp) o q⟩
 item:=by
  intro X hP hw hK hc i p_ s σ H E I hf st hg
  have hfe:=hf e (by simp)
  have hfi:=hf it (by simp)
  obtain⟨n,Pd,Sd,fp,D,hefp,hin,hsd,hsub,hval⟩:=S.item X hP hw hK hc i p_ s σ H I hfe.1 hfi.1 (aq st.1.choose_spec) st.1 st.2 hg
  obtain⟨⟨old,he⟩,hs⟩:=st
  subst hP hw hK
  refine wpAny_pyNext_enum_itemD D he hsd hin S.ne hefp fun u h' tk hPu ho hs' hT hsz hk=>?_
  obtain⟨x,rx,vx⟩:=hval u hPu
  refine⟨_,rfl,wpAny_letOwnedTupleGo_enum (s:={ s with heap:=h',toks:=tk+1 }) ho fun h'' he'' hb=>?_⟩
  have hb':ck e h' h'':=hb
  have elt:e<s.heap.objs.size:=aq he
  have neT:s.heap.objs.size≠e:=bu elt
  have hTn:H s.heap.objs.size=none:=I.hok.fresh (aj _)
  have hkk:∀c o,c∉[e,it]->s.heap.get? c=some o->h''.get? c=some o:=fun c o hc q=>by
   simp only[al,ap,or_false,not_or]at hc
   exact(hb'.2 c hc.1).trans (hk c o hc.1 hc.2 q)
  have trk:∀c o,H c=some o->c∉[e,it]:=fun c o q hc=>by rw[(hf c hc).1]at q;cases q
  have I1:Inv X p_ σ (upd H s.heap.objs.size (.tup [.int i,x])) { s with heap:=h'',toks:=tk+1 }:=by
   refine I.step (g':=s.gens) (d':=s.drawn) (t':=tk+1) (ch:=[e,it]) (fun c hc=>?_) (fun c o _ _ hc q _=>hkk c o hc q) (fun c o _ _ hc q _=>⟨o.slots,hkk c o hc q⟩)
    (fun c o _ q n=>by rw[ae' (az (aq q))];exact n) (fun c o hc q=>⟨o,hkk c o hc q⟩) (fun c ps q=>by rw[ae' (ah' q hTn)];exact q) (fun c o p q=>by rw[ae' (ah' q hTn)];exact q)
    (fun c ps q=>⟨#[],by rw[ae' (ah' q hTn),q];simp⟩) (fun m hm=>?_) (fun c o q=>?_) I.bare
   .obtain⟨f0,f1,f2,f3,f4,f5⟩:=hf c hc
    exact⟨f3,f1,f4,f5⟩
   .obtain⟨oo,es,ep,ho,r⟩:=hm
    exact⟨oo,es,ep,hkk _ oo (fun hc=>(hf _ hc).2.1 rfl) ho,r⟩
   .by_cases hb:c=s.heap.objs.size
    .subst hb
     rw[ac']at q;cases q
     exact⟨by show 2<=sizeLine;decide,[.int i tk,u],.cons ⟨_,rfl⟩ (.cons rx .nil),⟨_,(hb'.2 _ neT).trans hT,rfl,⟨_,rfl⟩,rfl⟩⟩
    .rw[ae' hb]at q
     refine(I.hok c o q).stay (fun d q hd eq=>hkk d q ?_ eq) (fun d q=>by rw[ae' (ah' q hTn)];exact q) fun d qs q=>by rw[ae' (ah' q hTn)];exact q
     rcases hd with rfl|hd
     .exact trk _ _ (by assumption)
     .exact trk _ _ hd
  refine⟨.ref s.heap.objs.size,_,I1,rfl,⟨s.heap.objs.size,x,rfl,hTn,vx,rfl⟩,⟨⟨_,he''⟩,S.keep _ _ _ (hsub _ _ hs') fun o q=>(hb'.2 it (Ne.symm S.ne)).trans q⟩,fun c hc=>?_⟩
  rw[ae']
  .exact(hf c hc).1
  .intro q
   subst q
   simp only[al,ap,or_false]at hc
   rcases hc with q|q
   .exact neT q
   .obtain⟨o,e1,_⟩:=S.obj _ _ hs
    exact aS _ (q ▸ aq e1)
 done:=by
  intro X hP hw hK hc i p_ s σ H E I hf st hg
  have hfe:=hf e (by simp)
  have hfi:=hf it (by simp)
  obtain⟨Pd,Sd,fp,D,hsd⟩:=S.done X hP hw hK hc i p_ s σ H I hfe.1 hfi.1 st.1 st.2 hg
  obtain⟨⟨old,he⟩,hs⟩:=st
  subst hP hw hK
  refine wpAny_pyNext_enum_endD D he hsd fun h' hx=>⟨rfl,?_⟩
  obtain⟨f0,f1,f2,f3,f4,f5⟩:=hfi
  exact I.turned (t':=s.toks) (fun b o hb q=>hx b o hb q) f0 f1 f3 f4 f5
 self:=fun _ _ _ _ _ st h=>by
  obtain⟨⟨old,he⟩,_⟩:=st
  exact wpAny_pyIter_enum he h
def Ite (K:W.Frag) (a:Addr):It:=Itd (fun i H=>∃xs x,SqL K H a xs/\xs[i]?=some x) (fun i H x=>∀xs,SqL K H a xs->xs[i]?=some x) (fun i H=>∃xs,SqL K H a xs/\xs.length=i)
theorem sL' {P:Program} {w:World} {K:W.Frag} {e it a:Addr} (ne:e≠it) (na:a≠e) (nai:a≠it):EnSrc P w K e it (fun i h=>h.IsListIter it a i) (fun i H=>∃xs x,SqL K H a xs/\xs[i]?=some x) (fun i H x=>∀xs,SqL K H a xs->xs[i]?=some x) (fun i H=>∃xs,SqL K H a xs/\xs.length=i) where
 ne:=ne
 obj:=fun i h st=>by
  obtain⟨o,q,c,d⟩:=st
  exact⟨o,q,fun v z=>by rw[d]at z;cases z⟩
 keep:=fun i h h' st k=>st.at k
 item:=by
  intro X hP hw hK hc i p_ s σ H I _ _ _ _ st hg
  obtain⟨xs,x,hxs,hx⟩:=hg
  subst hP hw hK
  obtain⟨its,rv,p,hz⟩:=I.list hxs
  have hl:=rv.length
  obtain⟨u,hu,ru⟩:=rv.get hx
  refine⟨_,_,_,_,Draws.list (show X.A.in1.handled=none from I.ok.hd hc) it a nai its.toArray,?_,?_,⟨st,p.isList⟩,fun j h q=>q.1,fun u' hu'=>⟨x,?_,fun ys hys=>by rw[I.list_inj hys hxs];exact hx⟩⟩
  .simp only[al,ap,or_false,not_or]
   exact⟨ne,Ne.symm na⟩
  .have:=(aH.mp hx).1
   simp;omega
  .have e2:its[i]?=some u':=by simpa using hu'
   rw[hu]at e2
   cases e2
   exact ru
 done:=by
  intro X hP hw hK hc i p_ s σ H I _ _ _ st hg
  obtain⟨xs,hxs,hx⟩:=hg
  subst hP hw hK
  obtain⟨its,rv,p,hz⟩:=I.list hxs
  have hl:=rv.length
  have e:i=its.toArray.size:=by simp;omega
  subst e
  exact⟨_,_,_,Draws.list (show X.A.in1.handled=none from I.ok.hd hc) it a nai its.toArray,st,p.isList⟩
def uF' (z:Str):It:=Itd (fun i _=>i<z.cps.size) (fun i _ v=>∃c,z.cps[i]?=some c/\v=.str ⟨#[c]⟩) (fun i _=>z.cps.size=i)
theorem vw' {P:Program} {w:World} {K:W.Frag} {e it:Addr} {z:Str} {t:Tok} {ty:String} (hty:ty="str_ascii_iterator"\/ty="str_iterator") (ne:e≠it):EnSrc P w K e it (fun i h=>h.IsStrIter it ty z t i) (fun i _=>i<z.cps.size) (fun i _ v=>∃c,z.cps[i]?=some c/\v=.str ⟨#[c]⟩) (fun i _=>z.cps.size=i) where
 ne:=ne
 obj:=fun i h st=>by
  obtain⟨o,q,c,d⟩:=st
  exact⟨o,q,fun v z=>by rw[d]at z;cases z⟩
 keep:=fun i h h' st k=>by
  obtain⟨o,q,r⟩:=st
  exact⟨o,k o q,r⟩
 item:=by
  intro X hP hw hK hc i p_ s σ H I _ _ _ _ st hg
  subst hP hw hK
  have hh:X.A.in1.handled=none:=I.ok.hd hc
  rcases hty with rfl|rfl
  .refine⟨_,_,_,_,Draws.strAscii hh it z t,by simpa using ne,hg,st,fun j h q=>q,fun u hu=>?_⟩
   obtain⟨c,t',hc',rfl⟩:=hu
   exact⟨.str ⟨#[c]⟩,⟨_,rfl⟩,c,hc',rfl⟩
  .refine⟨_,_,_,_,Draws.strWide hh it z t,by simpa using ne,hg,st,fun j h q=>q,fun u hu=>?_⟩
   obtain⟨c,t',hc',rfl⟩:=hu
   exact⟨.str ⟨#[c]⟩,⟨_,rfl⟩,c,hc',rfl⟩
 done:=by
  intro X hP hw hK hc i p_ s σ H I _ _ _ st hg
  subst hP hw hK
  have hh:X.A.in1.handled=none:=I.ok.hd hc
  have hg':z.cps.size=i:=hg
  subst hg'
  rcases hty with rfl|rfl
  .exact⟨_,_,_,Draws.strAscii hh it z t,st⟩
  .exact⟨_,_,_,Draws.strWide hh it z t,st⟩
theorem g2' {prog:Program} {w:World} {A:Around} (hh:A.handled=none) (it l:Addr) (hne:l≠it) (items:Array Value):
  Draws prog w A it [it,l] items.size (fun i v=>items[i]?=some v) (fun i h=>cS' true h it l i/\ey' true h l items) where
 live:=fun _ _ st=>let⟨o,ho,_⟩:=st.1.obj;⟨o,ho⟩
 frame:=fun _ _ _ st hk=>⟨st.1.at fun o e=>hk it (by simp) o e,st.2.at fun o e=>hk l (by simp) o e⟩
 item:=fun i s Q E hi st hQ=>by
  refine bG' st.1 st.2 (x:=items[i]) (by simp[hi]) fun h' hit' hs'=>?_
  exact hQ _ h' s.toks (by simp[hi]) ⟨hit',st.2.at fun o e=>hs'.extBut l o hne e⟩ hs'
 done:=fun s Q E st hE=>c9' hh st.1 st.2 (by simp) hE
set_option tactic.hygienic true in
open AutoSeq1 (wpAny_loadPart') in
theorem dg' (l:Addr) (items:Array Value) (n:Nat) (dct:Option Addr) (sl:Array (Option Value)):
  Meets (Builtin.«enumerate.__new__» ⟨[.type "enumerate",.ref l],[]⟩) (fun _ R s=>s.heap.get? l=some { cls:=.type "tuple",dict:=dct,data:=.seq items n,slots:=sl }/\
   R (.ok (.ret (.ref (s.heap.push { cls:=.type "tuple_iterator",data:=.fields #[.ref l,.int 0 0] }).objs.size)))
    { s with heap:=(s.heap.push { cls:=.type "tuple_iterator",data:=.fields #[.ref l,.int 0 0] }).push { cls:=.type "enumerate",data:=.fields #[.none,.bool false,.ref s.heap.objs.size,rawInt 0,.none,.none] } }):=
 .of_wp fun prog w A R s h=>by
  obtain⟨hp,g,d,tk,os⟩:=s;obtain⟨hl,h⟩:=h
  have hsub:=sub_enumerate
  have hL:Heap.IsTuple (Shared.heap ⟨hp,g,d,tk,os⟩) l items:=⟨_,hl,rfl,n,rfl⟩
  wp_walk using wpAny_loadPart' hl
  refine wpAny_stack_any fun st=>am ?_
  split
  .rename_i c _ _ _ _ _
   cases(c == Value.type "enumerate")
   .wp_walk using wpAny_loadPart' hl,bF hL
    exact⟨_,rfl,h⟩
   .wp_walk using wpAny_loadPart' hl,bF hL
    exact⟨_,rfl,h⟩
  .wp_walk using wpAny_loadPart' hl,bF hL
   exact⟨_,rfl,h⟩
theorem dh' {prog:Program} {w:World} {A:Around} {E:Value->Shared->Prop} {s:Shared} {l:Addr} {items:Array Value} {Q:Value->Shared->Prop} (hL:s.heap.IsTuple l items)
  (h:∀h',IsEnum h' (s.heap.objs.size+1) s.heap.objs.size 0 .none->cS' true h' s.heap.objs.size l 0->h'.objs.size=s.heap.objs.size+2->
   (∀b o,s.heap.get? b=some o->h'.get? b=some o)->Q (.ref (s.heap.objs.size+1)) { s with heap:=h' }):
  wpAny (model prog w) A (call (.type "enumerate") [.ref l]) Q E s:=by
 obtain⟨⟨c,dct,dt,sl⟩,hl,hc,n,hd⟩:=hL
 replace hc:c=.type "tuple":=hc
 replace hd:dt=.seq items n:=hd
 subst hc hd
 refine callType_new F.called_enumerate (by decide) (F.typeCall_enumerate_1 _) (F.newCall_enumerate_1 _) (fun obj=>F.args_object_init_2 obj _) F.entry_enumerate_new
  (dg' l items n dct sl) ⟨hl,?_⟩
 have hz:(s.heap.push { cls:=.type "tuple_iterator",data:=.fields #[.ref l,.int 0 0] }).objs.size=s.heap.objs.size+1:=bg ..
 show _/\_
 rw[hz]
 have he:IsEnum ((s.heap.push { cls:=.type "tuple_iterator",data:=.fields #[.ref l,.int 0 0] }).push
   { cls:=.type "enumerate",data:=.fields #[.none,.bool false,.ref s.heap.objs.size,rawInt 0,.none,.none] }) (s.heap.objs.size+1) s.heap.objs.size 0 .none:=by
  have:=av (s.heap.push { cls:=.type "tuple_iterator",data:=.fields #[.ref l,.int 0 0] })
   (o:={ cls:=.type "enumerate",data:=.fields #[.none,.bool false,.ref s.heap.objs.size,rawInt 0,.none,.none] }) rfl
  rw[hz]at this;exact this
 refine⟨⟨_,he,rfl⟩,h _ he ⟨_,ae _ (av _ rfl),rfl,rfl⟩ (by rw[bg,hz]) fun b o x=>ae _ (ae _ x)⟩
def yr' (K:W.Frag) (a:Addr):It:=Itd (fun i H=>∃xs x,SqT K H a xs/\xs[i]?=some x) (fun i H x=>∀xs,SqT K H a xs->xs[i]?=some x) (fun i H=>∃xs,SqT K H a xs/\xs.length=i)
theorem vx' {P:Program} {w:World} {K:W.Frag} {e it a:Addr} (ne:e≠it) (na:a≠e) (nai:a≠it):EnSrc P w K e it (fun i h=>cS' true h it a i) (fun i H=>∃xs x,SqT K H a xs/\xs[i]?=some x) (fun i H x=>∀xs,SqT K H a xs->xs[i]?=some x) (fun i H=>∃xs,SqT K H a xs/\xs.length=i) where
 ne:=ne
 obj:=fun i h st=>by
  obtain⟨o,q,d⟩:=st.obj
  exact⟨o,q,fun v z=>by rw[d]at z;cases z⟩
 keep:=fun i h h' st k=>st.at k
 item:=by
  intro X hP hw hK hc i p_ s σ H I _ _ _ _ st hg
  obtain⟨xs,x,hxs,hx⟩:=hg
  subst hP hw hK
  obtain⟨its,rv,p,hz⟩:=I.tuple hxs
  have hl:=rv.length
  obtain⟨u,hu,ru⟩:=rv.get hx
  refine⟨_,_,_,_,g2' (show X.A.in1.handled=none from I.ok.hd hc) it a nai its.toArray,?_,?_,⟨st,p⟩,fun j h q=>q.1,fun u' hu'=>⟨x,?_,fun ys hys=>by rw[I.tuple_inj hys hxs];exact hx⟩⟩
  .simp only[al,ap,or_false,not_or]
   exact⟨ne,Ne.symm na⟩
  .have:=(aH.mp hx).1
   simp;omega
  .have e2:its[i]?=some u':=by simpa using hu'
   rw[hu]at e2
   cases e2
   exact ru
 done:=by
  intro X hP hw hK hc i p_ s σ H I _ _ _ st hg
  obtain⟨xs,hxs,hx⟩:=hg
  subst hP hw hK
  obtain⟨its,rv,p,hz⟩:=I.tuple hxs
  have hl:=rv.length
  have e:i=its.toArray.size:=by simp;omega
  subst e
  exact⟨_,_,_,g2' (show X.A.in1.handled=none from I.ok.hd hc) it a nai its.toArray,st,p⟩
section
variable {X:Cx}
def sM' (K:W.Frag) (tl:TE):TI:=fun σ H R=>bh' tl fy' σ H fun vs H1=>∃x,vs=[x]/\
 ((∃a,x=.ref a/\(∃xs,SqL K H1 a xs)/\R (Ite K a) H1)\/(∃z,x=.str z/\R (uF' z) H1)\/∃a,x=.ref a/\(∃xs,SqT K H1 a xs)/\R (yr' K a) H1)
theorem fz':bootBuiltins "enumerate"=some (.type "enumerate"):=⋯
theorem sN' {a:Expr} {tl:TE} {p pos:Pos} {elts:List Expr} {kt:Nat} {pt:Pos} (hg:Gl X "enumerate") (hm:X.mg "enumerate"=none) (ha:PA X [a] (bh' tl fy')) (hs:starEach [a] X.env=[(false,eval a X.env)]):
  PI X (.Tuple elts kt pt) (.Call (.Name "enumerate" p) [a] [] pos) (sM' X.K tl):=by
 intro p_ s σ H R I h
 have h':bh' tl fy' σ H (fun vs H1=>∃x,vs=[x]/\((∃a,x=.ref a/\(∃xs,SqL X.K H1 a xs)/\R (Ite X.K a) H1)\/(∃z,x=.str z/\R (uF' z) H1)\/∃a,x=.ref a/\(∃xs,SqT X.K H1 a xs)/\R (yr' X.K a) H1)):=h
 refine Call_ (cT' I hg hm fz' (PyProof.Rows.callWith_type1 (thn (ha pos p_ s σ H _ I h') fun us s1 ⟨vs,H1,I1,r1,q1⟩=>?_) (by rw[hs];rfl) (by rfl)))
 obtain⟨x,e,q1⟩:=q1
 subst e
 cases r1 with
 |cons r rr=>
  cases rr
  rcases q1 with⟨a,rfl,⟨xs,hxs⟩,q⟩|⟨z,rfl,q⟩|⟨a,rfl,⟨xs,hxs⟩,q⟩
  .cases r
   obtain⟨its,rv,pl,hz⟩:=I1.list hxs
   refine call_enumerate_list pl.isList fun h' he hit hsz hk=>wpAny_pyIter_enum he ?_
   have la:a<s1.heap.objs.size:=by
    obtain⟨o,q,_⟩:=pl.isList
    exact aq q
   refine⟨s1.heap.objs.size+1,[s1.heap.objs.size+1,s1.heap.objs.size],_,_,H1,rfl,I1.kept (t':=s1.toks) hk,e6' (sL' (Nat.succ_ne_self _) (az (bL la)) (az la)),⟨⟨_,he⟩,hit⟩,fun c hc=>?_,q⟩
   have hle:s1.heap.objs.size<=c:=by
    simp only[al,ap,or_false]at hc
    rcases hc with rfl|rfl<;>omega
   exact I1.fpOk hle (I1.hok.fresh hle)
  .obtain⟨t,rfl⟩:=r
   refine call_enumerate_str fun h' he hit hsz hk=>wpAny_pyIter_enum he ?_
   have hty:strIterType z="str_ascii_iterator"\/strIterType z="str_iterator":=by
    unfold strIterType
    split
    .exact .inl rfl
    .exact .inr rfl
   refine⟨s1.heap.objs.size+1,[s1.heap.objs.size+1,s1.heap.objs.size],_,_,H1,rfl,I1.kept (t':=s1.toks) hk,e6' (vw' hty (Nat.succ_ne_self _)),⟨⟨_,he⟩,hit⟩,fun c hc=>?_,q⟩
   have hle:s1.heap.objs.size<=c:=by
    simp only[al,ap,or_false]at hc
    rcases hc with rfl|rfl<;>omega
   exact I1.fpOk hle (I1.hok.fresh hle)
  .cases r
   obtain⟨its,rv,pl,hz⟩:=I1.tuple hxs
   refine dh' (show s1.heap.IsTuple a its.toArray from pl) fun h' he hit hsz hk=>wpAny_pyIter_enum he ?_
   have la:a<s1.heap.objs.size:=by
    obtain⟨o,q,_⟩:=pl
    exact aq q
   refine⟨s1.heap.objs.size+1,[s1.heap.objs.size+1,s1.heap.objs.size],_,_,H1,rfl,I1.kept (t':=s1.toks) hk,e6' (vx' (Nat.succ_ne_self _) (az (bL la)) (az la)),⟨⟨_,he⟩,hit⟩,fun c hc=>?_,q⟩
   have hle:s1.heap.objs.size<=c:=by
    simp only[al,ap,or_false]at hc
    rcases hc with rfl|rfl<;>omega
   exact I1.fpOk hle (I1.hok.fresh hle)
end
section
variable {X:Cx}
theorem f9':a4' X (.type "int") (fun xs H Q=>∃x n,xs=[.str x]/\PySem.intText? x=some n/\x.length<=640/\Q (.int n) H):=by
 intro p_ s σ H xs us Q I r h
 obtain⟨x,n,rfl,hn,hl,q⟩:=h
 obtain⟨u,rfl,t,rfl⟩:=er' r
 exact W.KIN.call_text hn hl ⟨.int n,H,I.tok _,⟨_,rfl⟩,q⟩
def AM':List V->Hp->VK->Prop:=fun xs H Q=>((∃i,xs=[.int i]/\Q (.int i) H)\/∃k,xs=[.bl k]/\Q (.int (if k then 1 else 0)) H)\/∃x n,xs=[.str x]/\PySem.intText? x=some n/\x.length<=640/\Q (.int n) H
theorem l5':a4' X (.type "int") AM':=lF'.or f9'
def zg':R2:=fun x y H Q=>∃a n,x=.str a/\y=.int n/\-1000000<=n/\n<=1000000/\a.length*n.toNat<=1000000/\Q (.str (Txt.mul a n)) H
theorem kK':OpR X (binaryOp .Mult) zg':=by
 intro p_ s σ H x y v u Q I rx ry h
 obtain⟨a,n,rfl,rfl,h1,h2,h3,q⟩:=h
 obtain⟨t,rfl⟩:=rx
 obtain⟨t',rfl⟩:=ry
 refine SB.mul ⟨?_,fun hn hc=>?_,fun hn hc=>?_⟩ fun t' k=>⟨.str (Txt.mul a n),H,I.tok _,⟨_,rfl⟩,q⟩
 .have e1:¬n < -(2 ^ 63:Int):=by omega
  have e2:¬n ≥ 2 ^ 63:=by omega
  simp[e1,e2]
  omega
 .have hn0:0<n:=by omega
  intro hgt
  have h4:(a.length:Int)*n<=1000000:=by
   have:((a.length*n.toNat:Nat):Int)<=1000000:=by omega
   rw[Int.natCast_mul,Int.toNat_of_nonneg ⋯]at this
   exact this
  have h5:=(Int.ediv_lt_iff_lt_mul hn0).mp hgt
  omega
 .have e:Builtin.Str.tooLong (a.length*n.toNat)=false:=by
   unfold Builtin.Str.tooLong
   have:sizeLine=16777216:=sizeLine_eq
   simp
   omega
  exact e
def vy' (K:W.Frag):V->List V->Hp->VK->Prop:=fun x xs H Q=>∃(sep:Str) (p:Addr) (ys:List Str),x=.str sep/\xs=[.ref p]/\(SqL K H p (ys.map V.str)\/SqT K H p (ys.map V.str))/\(ys.map (·.length)).sum+ys.length*sep.length<=16777216/\Q (.str (Txt.join sep ys)) H
theorem da':∀{ys:List Str} {us:List Value},aQ' (ys.map V.str) us->StrsAre us ys
 | [],us,h=>by
  have e:=h.zero
  subst e
  exact .nil
 |y :: ys,_,.cons r t=>by
  obtain⟨k,rfl⟩:=r
  exact .cons y k (da' t)
theorem sO':MtR X "str.join" (vy' X.K):=by
 intro p_ s σ H x xs v us Q I rx rv h
 obtain⟨sep,p,ys,rfl,rfl,hs,hz,q⟩:=h
 obtain⟨t,rfl⟩:=rx
 obtain⟨u,rfl,ru⟩:=rv.one
 cases ru
 rcases hs with hs|hs
 .obtain⟨its,r,pl,_⟩:=I.list hs
  exact join_list pl.isList (da' r) hz fun t' k=>⟨.str _,H,I.tok _,⟨_,rfl⟩,q⟩
 .obtain⟨its,r,pl,_⟩:=I.tuple hs
  exact join_tuple pl (da' r) hz fun t' k=>⟨.str _,H,I.tok _,⟨_,rfl⟩,q⟩
def BD':V->Option Int->Option Int->Hp->VK->Prop:=fun x lo hi H Q=>∃a,x=.str a/\a.length<=sizeLine/\Q (.str (Txt.slice a lo hi)) H
theorem vz':SlR X BD':=by
 intro p_ s σ H x v vl vu lo hi sl Q I rx hs pl pu h
 obtain⟨a,rfl,hz,q⟩:=h
 obtain⟨t,rfl⟩:=rx
 have fin:∀(l u:Option (Int×Tok)),l.map (·.1)=lo->u.map (·.1)=hi->s.heap.IsSlice sl l u none->wpAny (model X.prog X.w) X.A (getItem (.str a t) (.ref sl)) (EP X p_ σ Q) X.xe s:=by
  intro l u e1 e2 hsl
  refine wpAny_getItem_str_slice (l:=l) (u:=u) (st:=none) hsl rfl ?_
  refine post_val_or_str ?_
  subst e1 e2
  exact⟨aN (Txt.slice_le a _ _) hz,fun t' k=>⟨.str _,H,I.tok _,⟨_,rfl⟩,q⟩⟩
 refine⟨"str",_,F.slot_str_getitem.lookup,typeIs_str _ _ _,?_⟩
 cases pl with
 |none=>
  cases pu with
  |none=>exact fin none none rfl rfl hs
  |int j u=>exact fin none (some (j,u)) rfl rfl hs
 |int i t1=>
  cases pu with
  |none=>exact fin (some (i,t1)) none rfl rfl hs
  |int j u=>exact fin (some (i,t1)) (some (j,u)) rfl rfl hs
def g3' (H:Hp):V->Option String
 | .non=>some "NoneType"
 | .bl _=>some "bool"
 | .int _=>some "int"
 | .str _=>some "str"
 | .ref a=>match H a with
  |some (.lst _)=>some "list"
  |some (.tup _)=>some "tuple"
  |some (.dK _)=>some "dict"
  |some (.dT _)=>some "dict"
  |some (.frz _ (.lst _))=>some "list"
  |_=>none
 |_=>none
set_option tactic.hygienic true in
theorem l6' {K:W.Frag} {H:Hp} {x:V} {T:String} (h:g3' H x=some T):TyOf K H x (.type T):=by
 cases x with
 |non=>cases h;exact .non
 |bl b=>cases h;exact .bl b
 |int i=>cases h;exact .int i
 |str y=>cases h;exact .str y
 |byt _=>cases h
 |flt _=>cases h
 |ty _=>cases h
 |ref a=>
  have h:(match H a with
   |some (.lst _)=>some "list"
   |some (.tup _)=>some "tuple"
   |some (.dK _)=>some "dict"
   |some (.dT _)=>some "dict"
   |some (.frz _ (.lst _))=>some "list"
   |_=>none)=some T:=h
  split at h
  .rename_i e;cases h;exact .lst e
  .rename_i e;cases h;exact .tup e
  .rename_i e;cases h;exact .dK e
  .rename_i e;cases h;exact .dT e
  .rename_i e;cases h;exact .frz e
  .cases h
def isT (T c:String):Bool:=T == c || (T == "bool"&&c == "int")
def eb':List String:=["NoneType","bool","int","str","list","tuple","dict"]
theorem ei' (K:W.Frag):∀T∈eb',∀c∈["bool","int","str","list","tuple","dict"],W.kitOne K (.type T) (.type c)=some (isT T c):=by
 intro T hT c hc
 simp only[eb',al,ap,or_false]at hT hc
 rcases hT with rfl|rfl|rfl|rfl|rfl|rfl|rfl<;>rcases hc with rfl|rfl|rfl|rfl|rfl|rfl<;>rfl
def AN':List V->Hp->VK->Prop:=fun xs H Q=>
 (∃x T c,xs=[x,.ty c]/\g3' H x=some T/\T∈eb'/\c∈["bool","int","str","list","tuple","dict"]/\Q (.bl (isT T c)) H)\/
 (∃(x:V) (T:String) (p:Addr) (cs:List String),xs=[x,.ref p]/\g3' H x=some T/\T∈eb'/\H p=some (.tup (cs.map V.ty))/\(∀c∈cs,c∈["bool","int","str","list","tuple","dict"])/\Q (.bl (cs.any (isT T))) H)
theorem l7':∀{cs:List String} {us:List Value},aQ' (cs.map V.ty) us->us=cs.map Value.type
 | [],us,h=>h.zero
 |c :: cs,_,.cons r t=>by
  have r':_=Value.type c:=r
  rw[r',l7' t]
  rfl
theorem ej' (K:W.Frag) {T:String} (hT:T∈eb'):∀{cs:List String},(∀c∈cs,c∈["bool","int","str","list","tuple","dict"])->W.kitAny K (.type T) (cs.map Value.type)=some (cs.any (isT T))
 | [],_=>rfl
 |c :: cs,h=>by
  have h1:=ei' K T hT c (h c ax)
  have h2:=ej' K hT (cs:=cs) fun c' hc'=>h c' (au _ hc')
  show(match W.kitOne K (.type T) (.type c)with|some true=>some true|some false=>W.kitAny K (.type T) (cs.map Value.type)|none=>none)=_
  rw[h1]
  cases hb:isT T c
  .rw[cq,hb]
   exact h2
  .rw[cq,hb]
   rfl
set_option tactic.hygienic true in
theorem kL' {p_:List (Addr×Obj)} {σ:St} {H:Hp} {s:Shared} {Q:Value->Shared->Prop} {E:Value->Shared->Prop} {b:Bool} {x:V} {u:Value} {T:String} {p:Addr} {dd:Option Addr} {its:List Value} {n:Nat} {sl:Array (Option Value)} (I:Inv X p_ σ H s) (rx:aP' x u) (ty:g3' H x=some T)
  (hp:s.heap.get? p=some ⟨.type "tuple",dd,.seq its.toArray n,sl⟩) (e:W.kitAny X.K (.type T) its=some b) (h:∀tk,Q (.bool b) { s with toks:=tk }):
  wpAny (model X.prog X.w) X.A (call (.builtin "isinstance") [u,.ref p]) Q E s:=by
 cases x with
 |non=>cases ty;cases(show u=Value.none from rx);exact W.kia_tup W.kitx_none I.kIn True.intro hp e (fun z=>nomatch z) h
 |bl y=>cases ty;cases(show u=Value.bool y from rx);exact W.kia_tup W.kitx_bool I.kIn True.intro hp e (fun z=>nomatch z) h
 |int i=>cases ty;obtain⟨t,q⟩:=(show ∃t,u=Value.int i t from rx);cases q;exact W.kia_tup W.kitx_int I.kIn True.intro hp e (fun z=>nomatch z) h
 |str y=>cases ty;obtain⟨t,q⟩:=(show ∃t,u=Value.str y t from rx);cases q;exact W.kia_tup W.kitx_str I.kIn True.intro hp e (fun z=>nomatch z) h
 |byt _=>cases ty
 |flt _=>cases ty
 |ty _=>cases ty
 |ref a=>
  cases(show u=Value.ref a from rx)
  have ty:(match H a with
   |some (.lst _)=>some "list"
   |some (.tup _)=>some "tuple"
   |some (.dK _)=>some "dict"
   |some (.dT _)=>some "dict"
   |some (.frz _ (.lst _))=>some "list"
   |_=>none)=some T:=ty
  split at ty
  .rename_i xs ea
   cases ty
   obtain⟨_,_,n,_,h1⟩:=(show aE' X.prog X.w H s.heap a (.lst xs) from I.hok a _ ea)
   exact W.kia_tup W.kitx_list I.kIn ⟨_,h1,rfl⟩ hp e (fun z=>nomatch z) h
  .rename_i xs ea
   cases ty
   obtain⟨_,_,_,o,h1,h2,_⟩:=(show aE' X.prog X.w H s.heap a (.tup xs) from I.hok a _ ea)
   exact W.kia_tup W.kitx_tuple I.kIn ⟨o,h1,h2⟩ hp e (fun z=>nomatch z) h
  .rename_i kvs ea
   cases ty
   obtain⟨_,_,vs,_,o,es,ep,h1,h2,_⟩:=(show aE' X.prog X.w H s.heap a (.dK kvs) from I.hok a _ ea)
   exact W.kia_tup W.kitx_dict I.kIn ⟨o,h1,h2.1⟩ hp e (fun z=>nomatch z) h
  .rename_i kvs ea
   cases ty
   obtain⟨_,_,xs,_,o,es,ep,h1,h2,_⟩:=(show aE' X.prog X.w H s.heap a (.dT kvs) from I.hok a _ ea)
   exact W.kia_tup W.kitx_dict I.kIn ⟨o,h1,h2.1⟩ hp e (fun z=>nomatch z) h
  .rename_i ob xs ea
   cases ty
   obtain⟨_,_,_,n,_,h1⟩:=(show aE' X.prog X.w H s.heap a (.frz ob (.lst xs)) from I.hok a _ ea)
   exact W.kia_tup W.kitx_list I.kIn ⟨_,h1,rfl⟩ hp e (fun z=>nomatch z) h
  .cases ty
theorem oZ':a4' X (.builtin "isinstance") AN':=by
 intro p_ s σ H xs us Q I r h
 rcases h with⟨x,T,c,rfl,hT,hk,hc,q⟩|⟨x,T,p,cs,rfl,hT,hk,hp,hc,q⟩
 .obtain⟨u,w',rfl,r1,r2⟩:=iC' r
  have r2:w'=Value.type c:=r2
  subst r2
  exact lH' I r1 (l6' hT) (ei' X.K T hk c hc) fun tk=>⟨.bl _,H,I.tok _,rfl,q⟩
 .obtain⟨u,w',rfl,r1,r2⟩:=iC' r
  have r2:w'=Value.ref p:=r2
  subst r2
  obtain⟨_,its,rv,o,h1,h2,⟨n,h3⟩,_⟩:=(show aE' X.prog X.w H s.heap p (.tup (cs.map V.ty)) from I.hok p _ hp)
  have e:=l7' rv
  subst e
  obtain⟨oc,od,dat,osl⟩:=o
  have h2:oc=_:=h2
  have h3:dat=_:=h3
  subst h2 h3
  exact kL' I r1 hT h1 (ej' X.K hk hc) fun tk=>⟨.bl _,H,I.tok _,rfl,q⟩
def AO' (K:W.Frag) (any:Bool):List V->Hp->VK->Prop:=fun xs H Q=>∃(p:Addr) (bs:List Bool),xs=[.ref p]/\SqL K H p (bs.map V.bl)/\Q (.bl (if any then bs.any id else bs.all id)) H
theorem g4':∀{bs:List Bool} {us:List Value} {i:Nat} {v:Value},aQ' (bs.map V.bl) us->us[i]?=some v->∃b,bs[i]?=some b/\v=.bool b
 | [],us,i,v,h,e=>by rw[h.zero]at e;simp at e
 |b :: bs,_,0,v,.cons r t,e=>by
  have r:_=Value.bool b:=r
  simp at e
  exact⟨b,rfl,by rw[<- e];exact r⟩
 |b :: bs,_,i+1,v,.cons r t,e=>by
  obtain⟨b',h1,h2⟩:=g4' (i:=i) t (by simpa using e)
  exact⟨b',by simpa using h1,h2⟩
theorem l8' (bs:List Bool):(aF bs.length).all (fun i=>bs.getD i false)=bs.all id:=by
 rw[cO,bI,bI]
 constructor
 .intro h b hb
  obtain⟨i,hi,rfl⟩:=dc.mp hb
  have:=h i (aU.mpr hi)
  simpa[bK,hi]using this
 .intro h i hi
  have hi:=aU.mp hi
  have:=h bs[i] (cH hi)
  simpa[bK,hi]using this
theorem l9' (hc:X.calm=true):a4' X (.builtin "all") (AO' X.K false):=by
 intro p_ s σ H xs us Q I r h
 obtain⟨p,bs,rfl,hs,q⟩:=h
 obtain⟨u,rfl,ru⟩:=er' r
 cases ru
 obtain⟨its,rv,pl,hz⟩:=I.list hs
 have hlen:its.toArray.size=bs.length:=by
  have:=rv.length
  rw[ac]at this
  rw[ao,this]
 refine call_all_walk (wpAny_pyIter_list pl.isList ?_)
 have hlt:p<s.heap.objs.size:=by obtain⟨o,n,e,_⟩:=pl;exact aq e
 refine⟨s.heap.objs.size,_,_,_,_,_,fun i=>bs.getD i false,rfl,Walks.list (A:=X.A.in1) (I.ok.hd hc) _ p (az hlt) its.toArray,⟨⟨_,av _ rfl,rfl,rfl⟩,Heap.IsList.push pl.isList _⟩,?_,fun h' tk hk=>?_⟩
 .intro i v s' Q' E' hv hq
  obtain⟨b,hb,rfl⟩:=g4' rv (i:=i) (by simpa using hv)
  refine bZ ?_
  have e:bs.getD i false=b:=by rw[bK,hb];rfl
  have hq':Q' (bs.getD i false) s':=hq
  rw[e]at hq'
  exact hq'
 .rw[hlen,l8']
  exact⟨.bl _,H,I.kept fun b o e=>hk b o (by simp;exact az (aq e)) (ae _ e),rfl,q⟩
def o0' (K:W.Frag) (mx:Bool):List V->Hp->VK->Prop:=fun xs H Q=>∃(p:Addr) (ns:List Int),xs=[.ref p]/\SqL K H p (ns.map V.int)/\ns≠[]/\∀M,M∈ns->(∀a∈ns,if mx then a<=M else M<=a)->Q (.int M) H
theorem ma' (hc:X.calm=true):a4' X (.builtin "max") (o0' X.K true):=by
 intro p_ s σ H xs us Q I r h
 obtain⟨p,ns,rfl,hs,hne,q⟩:=h
 obtain⟨u,rfl,ru⟩:=er' r
 cases ru
 obtain⟨its,rv,pl,hz⟩:=I.list hs
 have hi:=d8' rv
 obtain⟨xs,e⟩:=hi.allInts.items
 have hns:ns=xs.toList.map (·.1):=by
  rw[<- hi.numsOf,<- nums_intItems,<- e]
 have hsz:0<xs.size:=by
  have h3:=List.length_pos_iff.mpr hne
  rw[hns,ac,aC]at h3
  exact h3
 have hl:=pl.isList
 rw[e]at hl
 refine max_intList (I.ok.hd hc) hl hsz fun v h' tk hv hk=>?_
 obtain⟨t,rfl⟩:=intItems_at hv
 obtain⟨h1,h2⟩:=argBest_gt (numAt xs) (xs.size-1)
 refine⟨.int _,H,I.kept hk,⟨t,rfl⟩,q _ ?_ fun a ha=>?_⟩
 .rw[hns,numAt_eq];exact getD_mem (by rw[ac,aC];omega)
 .rw[hns]at ha
  obtain⟨j,hj,rfl⟩:=mem_getD ha
  rw[ac,aC]at hj
  rw[if_pos rfl,<- numAt_eq];exact h2 j ⋯
theorem mb' (hc:X.calm=true):a4' X (.builtin "min") (o0' X.K false):=by
 intro p_ s σ H xs us Q I r h
 obtain⟨p,ns,rfl,hs,hne,q⟩:=h
 obtain⟨u,rfl,ru⟩:=er' r
 cases ru
 obtain⟨its,rv,pl,hz⟩:=I.list hs
 have hi:=d8' rv
 obtain⟨xs,e⟩:=hi.allInts.items
 have hns:ns=xs.toList.map (·.1):=by
  rw[<- hi.numsOf,<- nums_intItems,<- e]
 have hsz:0<xs.size:=by
  have h3:=List.length_pos_iff.mpr hne
  rw[hns,ac,aC]at h3
  exact h3
 have hl:=pl.isList
 rw[e]at hl
 refine min_intList (I.ok.hd hc) hl hsz fun v h' tk hv hk=>?_
 obtain⟨t,rfl⟩:=intItems_at hv
 obtain⟨h1,h2⟩:=argBest_lt (numAt xs) (xs.size-1)
 refine⟨.int _,H,I.kept hk,⟨t,rfl⟩,q _ ?_ fun a ha=>?_⟩
 .rw[hns,numAt_eq];exact getD_mem (by rw[ac,aC];omega)
 .rw[hns]at ha
  obtain⟨j,hj,rfl⟩:=mem_getD ha
  rw[ac,aC]at hj
  rw[if_neg (by decide),<- numAt_eq];exact h2 j ⋯
end
section
variable {X:Cx}
def mc':V->List V->Hp->VK->Prop:=fun x vs H Q=>∃l xs y,∃i:Nat,x=.ref l/\vs=[.int i,y]/\H l=some (.lst xs)/\xs.length<sizeLine/\i<=xs.length/\Q .non (upd H l (.lst (xs.take i++y :: xs.drop i)))
set_option tactic.hygienic true in
theorem md':MtM X "list.insert" mc':=by
 intro p_ s σ H x vs v us Q I rx rv h
 obtain⟨l,xs,y,i,rfl,rfl,hH,hz,hi,q⟩:=h
 cases rx
 cases rv with
 |cons r1 rv=>
  cases rv with
  |cons r2 rv=>
   cases rv
   obtain⟨t,rfl⟩:=r1
   rename_i u
   obtain⟨z,its,n,r,hl,e⟩:=I.lstM hH
   have hb:i<2 ^ 62:=bA hi (bA z (show 2 ^ 24<2 ^ 62 from Nat.pow_lt_pow_right (by decide) (by decide)))
   have hfit:¬(!Builtin.List.listFitsIndex (i:Int))=true:=by
    unfold Builtin.List.listFitsIndex
    simp
    omega
   have hsz:its.toArray.size<=sizeLine:=by rw[ao];exact hl ▸ z
   generalize hj:(i:Int)=j at hfit
   have M:=AutoListH.list_insert_list_int_val_1 l its.toArray n j t u hfit hsz
   refine call_meets F.slot_list_insert ⟨_,e,rfl⟩ F.entry_list_insert (F.args_list_insert_3 _ _ _) M ⟨e,?_⟩
   subst hj
   refine⟨.non,_,I.lset (its':=its.take i++u :: its.drop i) hH e ?_ ((r.take i).append (.cons r2 (r.drop i))) ?_,rfl,q⟩
   .have hn:¬((i:Int)<0):=by omega
    simp only[hn,if_false,bf,ao]
    rw[Nat.min_eq_left ⋯]
    simp
    exact bB (by simp)
   .simp
    omega
open PySem.SeqAt in
theorem ga' {A:Around} {s:Shared} {x y:V} {u v:Value} (rx:aP' x u) (ry:aP' y v) (h:u9' x y=true/\(∀b,x≠.byt b)\/x=y/\∃a,x=.ref a):EqAt A s u v (decide (x=y)):=by
 rcases h with⟨h,hb⟩|⟨rfl,a,rfl⟩
 .cases x with
  |non=>cases y with
   |non=>cases rx;cases ry;exact EqAt.same _
   |bl b=>cases rx;cases ry;exact EqAt.none_bool _
   |int b=>cases rx;obtain⟨t,rfl⟩:=ry;exact EqAt.none_int _ _
   |str b=>cases rx;obtain⟨t,rfl⟩:=ry;exact EqAt.none_str _ _
   |_=>cases h
  |bl a=>cases y with
   |non=>cases rx;cases ry;exact EqAt.bool_none _
   |bl b=>cases rx;cases ry;have:=EqAt.bool_bool (A:=A) (s:=s) a b;cases a<;>cases b<;>exact this
   |str b=>cases rx;obtain⟨t,rfl⟩:=ry;exact EqAt.bool_str _ _ _
   |_=>cases h
  |int a=>cases y with
   |non=>obtain⟨t,rfl⟩:=rx;cases ry;exact EqAt.int_none _ _
   |int b=>obtain⟨t,rfl⟩:=rx;obtain⟨t',rfl⟩:=ry;rw[iB'];exact EqAt.int_int _ _ _ _
   |str b=>obtain⟨t,rfl⟩:=rx;obtain⟨t',rfl⟩:=ry;exact EqAt.int_str _ _ _ _
   |_=>cases h
  |str a=>cases y with
   |non=>obtain⟨t,rfl⟩:=rx;cases ry;exact EqAt.str_none _ _
   |bl b=>obtain⟨t,rfl⟩:=rx;cases ry;exact EqAt.str_bool _ _ _
   |int b=>obtain⟨t,rfl⟩:=rx;obtain⟨t',rfl⟩:=ry;exact EqAt.str_int _ _ _ _
   |str b=>
    obtain⟨t,rfl⟩:=rx
    obtain⟨t',rfl⟩:=ry
    have e:decide (V.str a=V.str b)=(a == b):=by
     by_cases hab:a=b
     .subst hab;simp
     .rw[decide_eq_false (by intro z;cases z;exact hab rfl)];simp[hab]
    rw[e]
    exact EqAt.str_str _ _ _ _
   |_=>cases h
  |byt b=>exact absurd rfl (hb b)
  |_=>cases y<;>cases h
 .cases rx
  cases ry
  rw[decide_eq_true rfl]
  exact EqAt.same _
def LEq (xs ys:List V):Prop:=∀(i:Nat) x y,xs[i]?=some x->ys[i]?=some y->u9' x y=true/\(∀b,x≠.byt b)\/x=y/\∃a,x=.ref a
def yt' (K:W.Frag) (neg:Bool):V->V->Hp->VK->Prop:=fun x y H Q=>∃p q xs ys,x=.ref p/\y=.ref q/\SqL K H p xs/\SqL K H q ys/\(xs.length=ys.length->LEq xs ys)/\Q (.bl (if neg then !decide (xs=ys)else decide (xs=ys))) H
theorem me' {xs ys:List V} (h:xs.length=ys.length):(aF xs.length).all (fun i=>decide (xs[i]?=ys[i]?))=decide (xs=ys):=by
 by_cases e:xs=ys
 .subst e
  simp
 .rw[decide_eq_false e,Bool.eq_false_iff]
  intro q
  rw[bI]at q
  apply e
  apply cw
  intro i
  rcases cA i xs.length with hi|hi
  .exact of_decide_eq_true (q i (aU.mpr hi))
  .rw[bq.mpr hi,bq.mpr ⋯]
open PySem.SeqAt in
theorem vA' (hu:X.A.units<cLine):OpR X (compareOp .Eq) (yt' X.K false):=by
 intro p_ s σ H x y v u Q I rx ry h
 obtain⟨p,q,xs,ys,rfl,rfl,hp,hq,he,k⟩:=h
 cases rx
 cases ry
 obtain⟨its,r1,pl1,_⟩:=I.list hp
 obtain⟨its2,r2,pl2,_⟩:=I.list hq
 have l1:=r1.length
 have l2:=r2.length
 by_cases hl:xs.length=ys.length
 .refine eq_listAt (e:=fun i=>decide (xs[i]?=ys[i]?)) pl1.isList pl2.isList (by simp;omega) hu (fun j h1 h2=>?_) ?_
  .have j1:j<xs.length:=by simp at h1;omega
   have j2:j<ys.length:=by omega
   have g1:xs[j]?=some xs[j]:=af j1
   have g2:ys[j]?=some ys[j]:=af j2
   obtain⟨u1,e1,ru1⟩:=r1.get g1
   obtain⟨u2,e2,ru2⟩:=r2.get g2
   have f1:its.toArray[j]=u1:=by simp at h1 ⊢;rw[af h1]at e1;exact Option.some.inj e1
   have f2:its2.toArray[j]=u2:=by simp at h2 ⊢;rw[af h2]at e2;exact Option.some.inj e2
   rw[f1,f2,g1,g2]
   have e3:decide (some xs[j]=some ys[j])=decide (xs[j]=ys[j]):=by simp
   rw[e3]
   exact ga' ru1 ru2 (he hl j _ _ g1 g2)
  .have e4:(aF its.toArray.size).all (fun i=>decide (xs[i]?=ys[i]?))=decide (xs=ys):=by
    rw[ao,<- l1];exact me' hl
   rw[e4]
   exact⟨.bl _,H,I,rfl,k⟩
 .refine eq_list_lengthsAt pl1.isList pl2.isList (by simp;omega) hu ?_
  rw[decide_eq_false (fun z=>hl (by rw[z]))]at k
  exact⟨.bl false,H,I,rfl,k⟩
open PySem.SeqAt in
theorem vB' (hu:X.A.units<cLine):OpR X (compareOp .NotEq) (yt' X.K true):=by
 intro p_ s σ H x y v u Q I rx ry h
 obtain⟨p,q,xs,ys,rfl,rfl,hp,hq,he,k⟩:=h
 cases rx
 cases ry
 obtain⟨its,r1,pl1,_⟩:=I.list hp
 obtain⟨its2,r2,pl2,_⟩:=I.list hq
 have l1:=r1.length
 have l2:=r2.length
 obtain⟨⟨cls,dd,data,sl⟩,ho,hc,n,hd⟩:=pl1.isList
 obtain⟨⟨cls2,dd2,data2,sl2⟩,ho2,hc2,n2,hd2⟩:=pl2.isList
 simp only at hc hd hc2 hd2
 subst hc hd hc2 hd2
 by_cases hl:xs.length=ys.length
 .refine richCompare_meets_room (op:=.NotEq) ⟨_,ho,rfl⟩ ⟨_,ho2,rfl⟩ F.slot_list_ne F.entry_list_ne (F.args_list_ne_2 _ _) (list_neAt p q its.toArray its2.toArray n n2 dd dd2 sl sl2 (by simp;omega) (fun i=>decide (xs[i]?=ys[i]?))) ⟨ho,ho2,fun j h1 h2=>?_,?_⟩ hu
  .have j1:j<xs.length:=by simp at h1;omega
   have j2:j<ys.length:=by omega
   have g1:xs[j]?=some xs[j]:=af j1
   have g2:ys[j]?=some ys[j]:=af j2
   obtain⟨u1,e1,ru1⟩:=r1.get g1
   obtain⟨u2,e2,ru2⟩:=r2.get g2
   have f1:its.toArray[j]=u1:=by simp at h1 ⊢;rw[af h1]at e1;exact Option.some.inj e1
   have f2:its2.toArray[j]=u2:=by simp at h2 ⊢;rw[af h2]at e2;exact Option.some.inj e2
   rw[f1,f2,g1,g2]
   have e3:decide (some xs[j]=some ys[j])=decide (xs[j]=ys[j]):=by simp
   rw[e3]
   exact ga' ru1 ru2 (he hl j _ _ g1 g2)
  .have e4:(aF its.toArray.size).all (fun i=>decide (xs[i]?=ys[i]?))=decide (xs=ys):=by
    rw[ao,<- l1];exact me' hl
   rw[e4]
   exact(show Value.bool (!decide (xs=ys))≠Value.notImplemented/\EP X p_ σ Q (Value.bool (!decide (xs=ys))) s from⟨(fun x=>nomatch x),⟨.bl _,H,I,rfl,k⟩⟩)
 .refine richCompare_meets_room (op:=.NotEq) ⟨_,ho,rfl⟩ ⟨_,ho2,rfl⟩ F.slot_list_ne F.entry_list_ne (F.args_list_ne_2 _ _) (list_ne_lengthsAt p q its.toArray its2.toArray n n2 dd dd2 sl sl2 (by simp;omega)) ⟨ho,ho2,?_⟩ hu
  rw[decide_eq_false (fun z=>hl (by rw[z]))]at k
  exact(show Value.bool true≠Value.notImplemented/\EP X p_ σ Q (Value.bool true) s from⟨(fun x=>nomatch x),⟨.bl true,H,I,rfl,k⟩⟩)
def rgs (i:Int) (n:Nat):List V:=(aF n).map fun(k:Nat)=>V.int (i+(k:Int))
def AP':List V->Hp->VK->Prop:=fun xs H Q=>∃i j:Int,(xs=[.int i,.int j]\/(i=0/\xs=[.int j]))/\∀p,H p=none->Q (.ref p) (upd H p (.rng i j))
theorem o1':a4' X (.type "range") AP':=by
 intro p_ s σ H xs us Q I rv h
 obtain⟨i,j,hx,q⟩:=h
 have hn:H s.heap.objs.size=none:=I.hok.fresh (aj _)
 rcases hx with rfl|⟨rfl,rfl⟩
 .cases rv with
  |cons r1 rv=>
   cases rv with
   |cons r2 rv=>
    cases rv
    obtain⟨t,rfl⟩:=r1
    obtain⟨u,rfl⟩:=r2
    exact call_range_2 ⟨.ref s.heap.objs.size,_,I.laid (t':=s.toks+1) (fun _ _ e=>ae _ e) (aj _) (o:=.rng i j) ⟨t,u,s.toks,av _ rfl⟩,rfl,q _ hn⟩
 .cases rv with
  |cons r1 rv=>
   cases rv
   obtain⟨t,rfl⟩:=r1
   exact call_range_1 ⟨.ref s.heap.objs.size,_,I.laid (t':=s.toks+1+1) (fun _ _ e=>ae _ e) (aj _) (o:=.rng 0 j) ⟨s.toks,t,s.toks+1,av _ rfl⟩,rfl,q _ hn⟩
def AQ':List V->Hp->VK->Prop:=fun xs H Q=>∃r i j,xs=[.ref r]/\H r=some (.rng i j)/\(-(2 ^ 62)<=i/\i<2 ^ 62/\-(2 ^ 62)<=j/\j<2 ^ 62)/\(j-i).toNat<=sizeLine/\∀p,H p=none->Q (.ref p) (upd H p (.lst (rgs i (j-i).toNat)))
theorem o2' (hc:X.calm=true):a4' X (.type "list") AQ':=by
 intro p_ s σ H xs us Q I rv h
 obtain⟨r,i,j,rfl,hr,⟨h1,h2,h3,h4⟩,hz,q⟩:=h
 cases rv with
 |cons r1 rv=>
  cases rv
  cases r1
  obtain⟨t,u,v,e⟩:=(show aE' X.prog X.w H s.heap r (.rng i j) from I.hok r _ hr)
  refine call_list_range (n:=(j-i).toNat) (I.ok.hd hc) e (small_one h1 h2 h3 h4) (by rw[rangeSize_one];split<;>omega) hz fun h' tk' acc' c' hk hS hit=>?_
  obtain⟨hsz,hv⟩:=hit
  have hn:H s.heap.objs.size=none:=I.hok.fresh (aj _)
  have key:∀(n:Nat) (l:List Value) (f:Nat->Int),l.length=n->(∀k v,l[k]?=some v->∃t,v=Value.int (f k) t)->aQ' ((aF n).map fun k=>V.int (f k)) l:=by
   intro n
   induction n with
   |zero=>intro l f hl hv;have:l=[]:=cB.mp hl;subst this;exact .nil
   |succ n ih=>
    intro l f hl hv
    cases l with
    |nil=>cases hl
    |cons x r=>
     rw[List.range_succ_eq_map,aE,bi]
     refine .cons (hv 0 x rfl) ?_
     exact ih r (fun k=>f (k+1)) (by simpa using hl) fun k v hk=>hv (k+1) v (by simpa using hk)
  refine⟨.ref s.heap.objs.size,_,I.laid (t':=tk') hk (aj _) (o:=.lst (rgs i (j-i).toNat)) ⟨by unfold rgs;rw[ac,bx];exact hz,acc'.toList,c',?_,hS⟩,rfl,q _ hn⟩
  refine key _ _ (fun k=>i+(k:Int)) (by rw[aC];exact hsz) fun k v hk=>?_
  obtain⟨t,e⟩:=hv k v (by simpa using hk)
  exact⟨t,by rw[e];simp⟩
end
section
variable {X:Cx}
theorem sP':OpR X (binaryOp .Mult) (rI IntMulOk fun i j=>.int (i*j)):=opI fun _ _ _ _ _ _ _ hc q=>mul_int q hc
def AR':V->Bool
 | .ty _=>false
 | .byt _=>false
 | .flt _=>false
 |_=>true
def yu' (neg:Bool):R2:=fun x y H Q=>∃b,y=.bl b/\AR' x=true/\Q (.bl (if neg then !decide (x=.bl b)else decide (x=.bl b))) H
theorem vC' {x:V} {v:Value} {b:Bool} (r:aP' x v) (h:AR' x=true):plainIs v (.bool b)=true/\(v == Value.bool b)=decide (x=.bl b):=by
 cases x with
 |non=>cases r;exact⟨rfl,rfl⟩
 |bl a=>cases r;refine⟨rfl,?_⟩;cases a<;>cases b<;>rfl
 |int i=>obtain⟨t,rfl⟩:=r;exact⟨rfl,rfl⟩
 |str i=>obtain⟨t,rfl⟩:=r;exact⟨rfl,rfl⟩
 |ref a=>cases r;exact⟨rfl,rfl⟩
 |_=>cases h
theorem vD':OpR X (compareOp .Is) (yu' false):=by
 intro p_ s σ H x y v u Q I rx ry h
 obtain⟨b,rfl,hp,q⟩:=h
 cases ry
 obtain⟨h1,h2⟩:=vC' (b:=b) rx hp
 exact wpAny_is_plain h1 ⟨.bl _,H,I,by rw[h2];rfl,q⟩
theorem mf':OpR X (compareOp .IsNot) (yu' true):=by
 intro p_ s σ H x y v u Q I rx ry h
 obtain⟨b,rfl,hp,q⟩:=h
 cases ry
 obtain⟨h1,h2⟩:=vC' (b:=b) rx hp
 exact wpAny_isNot_plain h1 ⟨.bl _,H,I,by rw[h2];rfl,q⟩
theorem o3':OpR X (binaryOp .FloorDiv) (rI (fun _ j=>0<j/\j.natAbs.log2<9000) fun i j=>.int (i / j)):=opI fun i j _ _ _ _ _ hc q=>by
 refine floordiv_int ⋯ ?_ (.inl (PyProof.noPylong_of_log2 hc.2))
 rw[Int.fdiv_eq_ediv_of_nonneg i ⋯]
 exact q
end
section
variable {κ:Type} [DecidableEq κ]
def ix' (kvs:List (κ×V)) (k:κ):Option V:=(kvs.find? fun kv=>decide (kv.1=k)).map (·.2)
def iL' (kvs:List (κ×V)) (k:κ) (v:V):List (κ×V):=
 if(kvs.any fun kv=>decide (kv.1=k))=true then kvs.map (fun kv=>if kv.1=k then(kv.1,v)else kv)else kvs++[(k,v)]
theorem gb' {p:κ×V} {r:List (κ×V)} {k:κ} (e:p.1=k):ix' (p :: r) k=some p.2:=by simp[ix',cQ,e]
theorem gc' {p:κ×V} {r:List (κ×V)} {k:κ} (e:¬p.1=k):ix' (p :: r) k=ix' r k:=by simp[ix',cQ,e]
theorem e7' (kvs:List (κ×V)) (k:κ) (v:V):(iL' kvs k v).length<=kvs.length+1:=by
 unfold iL'
 split
 .rw[ac];omega
 .rw[aB,aQ,ci];omega
theorem lr'.isSome_eq {o:Option V} {u:Option Value} (r:lr' o u):o.isSome=u.isSome:=by
 cases o with
 |none=>cases u with
  |none=>rfl
  |some _=>exact(show False from r).elim
 |some _=>cases u with
  |none=>exact(show False from r).elim
  |some _=>rfl
theorem lr'.getD {o:Option V} {u:Option Value} {d:V} {d':Value} (r:lr' o u) (rd:aP' d d'):aP' (o.getD d) (u.getD d'):=by
 cases o with
 |none=>cases u with
  |none=>exact rd
  |some _=>exact(show False from r).elim
 |some _=>cases u with
  |none=>exact(show False from r).elim
  |some _=>exact r
theorem KV.val {kvs:List (κ×V)} {vs:List (κ×Value)} (r:KV kvs vs) (k:κ):lr' (ix' kvs k) (valueAt vs k):=by
 unfold KV at r
 induction r with
 |nil=>exact True.intro
 | @cons p q ps qs h t ih=>
  obtain⟨h1,h2⟩:=h
  by_cases e:p.1=k
  .have e':q.1=k:=h1.symm.trans e
   have b:valueAt (q :: qs) k=some q.2:=by simp[valueAt,cQ,e']
   rw[gb' e,b];exact h2
  .have e':¬q.1=k:=fun z=>e (h1.trans z)
   have b:valueAt (q :: qs) k=valueAt qs k:=by simp[valueAt,cQ,e']
   rw[gc' e,b];exact ih
theorem KV.any {kvs:List (κ×V)} {vs:List (κ×Value)} (r:KV kvs vs) (k:κ):(kvs.any fun kv=>decide (kv.1=k))=vs.any fun kv=>decide (kv.1=k):=by
 unfold KV at r
 induction r with
 |nil=>rfl
 |cons h t ih=>rw[cq,cq,ih,h.1]
theorem KV.repl {kvs:List (κ×V)} {vs:List (κ×Value)} (r:KV kvs vs) (k:κ) {y:V} {u:Value} (ry:aP' y u):
  KV (kvs.map fun kv=>if kv.1=k then(kv.1,y)else kv) (vs.map fun kv=>if kv.1=k then(kv.1,u)else kv):=by
 unfold KV at r ⊢
 induction r with
 |nil=>exact .nil
 | @cons p q ps qs h t ih=>
  rw[aE,aE]
  refine .cons ?_ ih
  obtain⟨h1,h2⟩:=h
  by_cases e:p.1=k
  .rw[if_pos e,if_pos (h1.symm.trans e)];exact⟨h1,ry⟩
  .rw[if_neg e,if_neg (fun z=>e (h1.trans z))];exact⟨h1,h2⟩
theorem KV.put {kvs:List (κ×V)} {vs:List (κ×Value)} (r:KV kvs vs) (k:κ) {y:V} {u:Value} (ry:aP' y u):KV (iL' kvs k y) (stored vs k u):=by
 unfold iL' stored
 rw[r.any k]
 by_cases e:(vs.any fun kv=>decide (kv.1=k))=true
 .rw[if_pos e,if_pos e];exact r.repl k ry
 .rw[if_neg e,if_neg e];exact Paired.snoc r ⟨rfl,ry⟩
theorem KV.keys {kvs:List (κ×V)} {vs:List (κ×Value)} (r:KV kvs vs):kvs.map (·.1)=vs.map (·.1):=by
 unfold KV at r
 induction r with
 |nil=>rfl
 |cons h t ih=>rw[aE,aE,ih,h.1]
theorem KV.length {kvs:List (κ×V)} {vs:List (κ×Value)} (r:KV kvs vs):kvs.length=vs.length:=Paired.length r
end
theorem mg' {P:Program} {w:World} {k:Key} {u:Value} (r:aP' (kV k) u):(ax' P w).is k u=true:=by
 cases k with
 |inl i=>obtain⟨t,e⟩:=(show ∃t,u=Value.int i t from r);subst e;exact iy' P w i t
 |inr x=>obtain⟨t,e⟩:=(show ∃t,u=Value.str x t from r);subst e;exact iz' P w x t
 |non=>obtain rfl:u=Value.none:=r;rfl
theorem g5' {P:Program} {w:World}:∀{ks:List Key} {us:List Value},aQ' (ks.map kV) us->ItemsAre (ax' P w) ks us
 | [],_,r=>by rw[List.map_nil]at r;cases r;exact .nil
 |k :: ks,_,r=>by
  rw[aE]at r
  cases r with
  |cons h t=>exact .cons (mg' h) (g5' t)
abbrev KT (H:Hp):List (List Key×V)->List (List Key×Addr×Value)->Prop:=Paired fun p q=>p.1=q.1/\H q.2.1=some (.tup (p.1.map kV))/\aP' p.2 q.2.2
theorem KT.val {H:Hp} {kvs:List (List Key×V)} {xs:List (List Key×Addr×Value)} (r:KT H kvs xs) (k:List Key):lr' (ix' kvs k) ((atKey xs k).map (·.2)):=by
 induction r with
 |nil=>exact True.intro
 | @cons p q ps qs h t ih=>
  obtain⟨h1,_,h2⟩:=h
  by_cases e:p.1=k
  .have e':q.1=k:=h1.symm.trans e
   have b:atKey (q :: qs) k=some q.2:=by simp[atKey,cQ,e']
   rw[gb' e,b];exact h2
  .have e':¬q.1=k:=fun z=>e (h1.trans z)
   have b:atKey (q :: qs) k=atKey qs k:=by simp[atKey,cQ,e']
   rw[gc' e,b];exact ih
section
variable {P:Program} {w:World} {H:Hp} {h:Heap} {a:Addr}
theorem vE' {u:HO} (ok:HOk P w H h) (e:Rd H a u):aE' P w H h a u:=e.ok ok
theorem mh' {kvs:List (Key×V)} (ok:HOk P w H h) (e:Rd H a (.dK kvs)):kvs.length<=sizeLine/\(a == sysModules)=false/\∃vs,KV kvs vs/\h.DictOf (ax' P w) a vs:=
 show aE' P w H h a (.dK kvs) from vE' ok e
theorem zh' {kvs:List (Key×V)} (ok:HOk P w H h) (e:H a=some (.dK kvs)):kvs.length<=sizeLine/\(a == sysModules)=false/\∃vs,KV kvs vs/\h.DictOf (ax' P w) a vs:=mh' ok (.inl e)
theorem fL' {ks:List Key} (ok:HOk P w H h) (e:H a=some (.tup (ks.map kV))):(tupleKind (ax' P w)).is h ks a:=by
 obtain⟨_,its,r,o,h1,h2,⟨n,h3⟩,_⟩:=(show aE' P w H h a (.tup (ks.map kV)) from ok a _ e)
 exact⟨o,its.toArray,n,h1,h2,h3,by simpa using g5' r⟩
theorem mi' {kvs:List (List Key×V)} (ok:HOk P w H h) (e:Rd H a (.dT kvs)):kvs.length<=sizeLine/\(a == sysModules)=false/\
  ∃xs,KT H kvs xs/\h.DictOfH (tupleKind (ax' P w)) a xs:=by
 obtain⟨z,y,xs,r,o,es,ep,h1,h2,h3,h4,h5⟩:=(show aE' P w H h a (.dT kvs) from vE' ok e)
 refine⟨z,y,xs,r,o,es,ep,h1,h2,h3,h4,fun x hx=>?_,h5⟩
 have all:∀{l:List (List Key×V)} {m:List (List Key×Addr×Value)},KT H l m->∀x∈m,(tupleKind (ax' P w)).is h x.1 x.2.1:=by
  intro l m q
  induction q with
  |nil=>intro x hx;exact nomatch hx
  | @cons p q ps qs hq t ih=>
   intro x hx
   rcases al.mp hx with e|hx
   .subst e
    exact fL' ok (by rw[<- hq.1];exact hq.2.1)
   .exact ih x hx
 exact all r x hx
theorem zi' {kvs:List (List Key×V)} (ok:HOk P w H h) (e:H a=some (.dT kvs)):kvs.length<=sizeLine/\(a == sysModules)=false/\
  ∃xs,KT H kvs xs/\h.DictOfH (tupleKind (ax' P w)) a xs:=mi' ok (.inl e)
end
def g6' (H:Hp) (a:Addr) (y:V) (r:Option V):Prop:=
 (∃kvs k,Rd H a (.dK kvs)/\y=kV k/\r=ix' kvs k)\/∃kvs k b,Rd H a (.dT kvs)/\y=.ref b/\H b=some (.tup (k.map kV))/\r=ix' kvs k
theorem g6'.k {H:Hp} {a:Addr} {kvs:List (Key×V)} {k:Key} (e:H a=some (.dK kvs)):g6' H a (kV k) (ix' kvs k):=.inl ⟨kvs,k,.inl e,rfl,rfl⟩
theorem g6'.t {H:Hp} {a b:Addr} {kvs:List (List Key×V)} {k:List Key} (e:H a=some (.dT kvs)) (eb:H b=some (.tup (k.map kV))):g6' H a (.ref b) (ix' kvs k):=.inr ⟨kvs,k,b,.inl e,rfl,eb,rfl⟩
section
variable {X:Cx} {p_:List (Addr×Obj)} {σ:St} {H:Hp} {s:Shared} {a:Addr} {y v:V} {u r:Value} {o:Option V} {A:Around} {E:Value->Shared->Prop}
theorem Inv.big (I:Inv X p_ σ H s):sysModules<s.heap.objs.size:=by
 have h:mainGlobals<s.heap.objs.size:=(I.mod.glob.keeps I.bk).lt
 exact Nat.lt_trans (by decide) h
theorem BE' {Q:Value->Shared->Prop} (hu:A.units+1<cLine) (I:Inv X p_ σ H s) (g:g6' H a y o) (ry:aP' y u) (h:∀s',Inv X p_ σ H s'->Q (.bool o.isSome) s'):
  wpAny (model X.prog X.w) A (compareOp .In u (.ref a)) Q E s:=by
 rcases g with⟨kvs,k,e,ey,l⟩|⟨kvs,k,b,e,ey,eb,l⟩
 .subst ey
  obtain⟨z,hd,vs,rel,dd⟩:=mh' I.hok e
  refine wpAny_in_of (mg' ry) hd dd.mapOf ?_
  rw[<- (rel.val k).isSome_eq,<- l]
  exact h _ (I.tok _)
 .subst ey
  cases(show u=Value.ref b from ry)
  obtain⟨z,hd,xs,rel,dd⟩:=mi' I.hok e
  refine wpAny_in_heap (tupleKind_room_in1 hu) (fL' I.hok eb) hd dd ?_
  have q:=(rel.val k).isSome_eq
  rw[Option.isSome_map]at q
  rw[<- q,<- l]
  exact h _ (I.tok _)
theorem sQ' {Q:Value->Shared->Prop} (hu:A.units+1<cLine) (I:Inv X p_ σ H s) (g:g6' H a y o) (ry:aP' y u) (h:∀s',Inv X p_ σ H s'->Q (.bool (!o.isSome)) s'):
  wpAny (model X.prog X.w) A (compareOp .NotIn u (.ref a)) Q E s:=by
 rcases g with⟨kvs,k,e,ey,l⟩|⟨kvs,k,b,e,ey,eb,l⟩
 .subst ey
  obtain⟨z,hd,vs,rel,dd⟩:=mh' I.hok e
  refine wpAny_notIn_of (mg' ry) hd dd.mapOf ?_
  rw[<- (rel.val k).isSome_eq,<- l]
  exact h _ (I.tok _)
 .subst ey
  cases(show u=Value.ref b from ry)
  obtain⟨z,hd,xs,rel,dd⟩:=mi' I.hok e
  refine wpAny_notIn_heap (tupleKind_room_in1 hu) (fL' I.hok eb) hd dd ?_
  have q:=(rel.val k).isSome_eq
  rw[Option.isSome_map]at q
  rw[<- q,<- l]
  exact h _ (I.tok _)
end
structure M1 (X:Cx) (o:Expr) (m:Str) (apos:Pos) (e:Expr) (cpos:Pos):Prop where
 base:attributeBase o m X.env (eval o X.env)=eval o X.env
 few:((backTo cpos (starEach [e] X.env)).all (fun x=>!x.1)&&(backToKw cpos (keywordEach [] X.env)).all (fun x=>x.1.isSome)
  && decide (([e]:List Expr).length+([]:List Keyword).length+(if([]:List Keyword).isEmpty then 0 else 1)<30))=true
 line:(apos.endLine == cpos.line)=true
 trees:backTo cpos (starEach [e] X.env)=[(false,eval e X.env)]
def IsD (H:Hp) (a:Addr):Prop:=(∃kvs,Rd H a (.dK kvs))\/∃kvs,Rd H a (.dT kvs)
theorem vG' {X:Cx} {p_:List (Addr×Obj)} {σ:St} {H:Hp} {s:Shared} {a:Addr} (I:Inv X p_ σ H s) (d:IsD H a):
  s.TypeIs (.ref a) "dict"/\(∀b,Value.ref a=.ref b->∃ob,s.heap.get? b=some ob/\ob.dict=none)/\(a == sysModules)=false:=by
 rcases d with⟨kvs,e⟩|⟨kvs,e⟩
 .obtain⟨_,hd,vs,_,dd⟩:=mh' I.hok e
  refine⟨dd.typeIs,fun b q=>?_,hd⟩
  cases q
  obtain⟨ob,_,_,h1,h2,_⟩:=dd
  exact⟨ob,h1,h2.2.1⟩
 .obtain⟨_,hd,xs,_,dd⟩:=mi' I.hok e
  refine⟨dd.typeIs,fun b q=>?_,hd⟩
  cases q
  obtain⟨ob,_,_,h1,h2,_⟩:=dd
  exact⟨ob,h1,h2.2.1⟩
section
variable {X:Cx} {p_:List (Addr×Obj)} {σ:St} {H:Hp} {s:Shared} {a:Addr} {y d:V} {u r:Value} {o:Option V} {A:Around} {E:Value->Shared->Prop}
theorem vH' {Q:Value->Shared->Prop} (hu:A.units+1<cLine) (I:Inv X p_ σ H s) (g:g6' H a y o) (ry:aP' y u) (h:∀w' s',Inv X p_ σ H s'->aP' (o.getD .non) w'->Q w' s'):
  wpAny (model X.prog X.w) A (call (.builtin "dict.get") [.ref a,u]) Q E s:=by
 rcases g with⟨kvs,k,e,ey,l⟩|⟨kvs,k,b,e,ey,eb,l⟩
 .subst ey
  obtain⟨z,hd,vs,rel,dd⟩:=mh' I.hok e
  refine call_meetsIn PySem.F.slot_dict_get dd.typeIs PySem.F.entry_dict_get (PySem.F.args_dict_get_2 _ _) (meets_dict_get (ax' X.prog X.w) a (mg' ry) hd) ⟨_,dd.mapOf,h _ _ (I.tok _) ?_⟩
  rw[l]
  exact(rel.val k).getD rfl
 .subst ey
  cases(show u=Value.ref b from ry)
  obtain⟨z,hd,xs,rel,dd⟩:=mi' I.hok e
  refine call_meetsIn PySem.F.slot_dict_get dd.typeIs PySem.F.entry_dict_get (PySem.F.args_dict_get_2 _ _) (meetsH_dict_get (tupleKind (ax' X.prog X.w)) a b hd) ⟨tupleKind_room_in1 hu,k,xs,fL' I.hok eb,dd,h _ _ (I.tok _) ?_⟩
  rw[l]
  exact(rel.val k).getD rfl
end
def Itc (lo c:Int) (n:Nat):It:=⟨fun i _=>i<n,fun i H x H'=>H'=H/\x=.int (lo+i*c),fun i _=>n<=i⟩
theorem e8' {P:Program} {w:World} {K:W.Frag} {tg:Expr} (it:Addr) (lo c:Int) (n:Nat):Turn P w K tg (Itc lo c n) [it] it (fun i h=>IsRangeIter h it (lo+(i:Nat)*c) ((n:Int)-(i:Nat)) c) where
 mem:=by simp
 obj:=fun i h st b hb=>by
  have e:b=it:=by simpa using hb
  subst e
  exact⟨_,st,fun v z=>by
   have z':Data.fields _=Data.cell v:=z
   cases z'⟩
 keep:=fun i h h' st k=>k it (by simp) _ st
 item:=by
  intro X hP hw hK hc i p_ s σ H E I hf st hg
  subst hP hw hK
  obtain⟨f0,f1,f2,f3,f4,f5⟩:=hf it (by simp)
  have W:=Walks.range (prog:=X.prog) (w:=X.w) (I.ok.hd hc) it lo c n
  refine W.item i s _ _ hg st fun v h' tk hv st' kk=>?_
  obtain⟨t,rfl⟩:=hv
  have I1:Inv X p_ σ H { s with heap:=h',toks:=tk }:=I.turned (fun b o hb e=>kk b o (by simpa using hb) e) f0 f1 f3 f4 f5
  exact⟨_,rfl,kx' (s:={ s with heap:=h',toks:=tk }) (n:="range_iterator") st' rfl rfl (by decide) ⟨.int (lo+i*c),H,I1,⟨t,rfl⟩,⟨rfl,rfl⟩,st',fun b hb=>(hf b hb).1⟩⟩
 done:=by
  intro X hP hw hK hc i p_ s σ H E I hf st hg
  subst hP hw hK
  obtain⟨f0,f1,f2,f3,f4,f5⟩:=hf it (by simp)
  exact wpAny_pyNext_range_end (I.ok.hd hc) st (by have:n<=i:=hg;omega) fun h' eb=>⟨rfl,I.turned (t':=s.toks) (fun b o hb e=>eb b o hb e) f0 f1 f3 f4 f5⟩
 self:=fun _ _ _ _ _ st h=>wpAny_pyIter_rangeiter st h
section
variable {prog:Program} {w:World} {A:Around} {E:Value->Shared->Prop} {s:Shared}
theorem dm' {r:Addr} {a b:Int} {t u v:Tok} {Q:Value->Shared->Prop} (hr:IsRange s.heap r a b 1 t u v) (h1:-(2 ^ 62)<=a) (h2:a<2 ^ 62) (h3:-(2 ^ 62)<=b) (h4:b<2 ^ 62)
  (h:Q (.ref s.heap.objs.size) { s with heap:=s.heap.push { cls:=.type "range_iterator",data:=.fields #[rawInt (a+(Builtin.Range.rangeSize a b 1-1)*1),rawInt (Builtin.Range.rangeSize a b 1),rawInt (-1)] } }):wpAny (model prog w) A (call (.builtin "range.__reversed__") [.ref r]) Q E s:=by
 have hT:s.TypeIs (.ref r) "range":=⟨_,hr,rfl⟩
 refine bw F.slot_range_reversed hT F.entry_range_reversed ?_ (F.args_range_reversed_1 _)
 unfold Builtin.«range.__reversed__»
 refine aa (cu (a:=Value.ref r) rfl ?_)
 unfold Builtin.Range.rangeFields
 refine aa (aa (aW hr rfl (x:=.int a t) rfl ?_))
 refine aa (cu (a:=some a) rfl ?_)
 refine aa (aW hr rfl (x:=.int b u) rfl ?_)
 refine aa (cu (a:=some b) rfl ?_)
 refine aa (aW hr rfl (x:=.int 1 v) rfl ?_)
 refine aa (cu (a:=some 1) rfl ?_)
 refine am ?_
 dsimp only
 have hsz:Builtin.Range.rangeSize a b 1=if a<b then b-a else 0:=by rw[rangeSize_one]
 have hfit:(Builtin.Range.rangeFitsLong a&&Builtin.Range.rangeFitsLong b&&Builtin.Range.rangeFitsLong 1&&Builtin.Range.rangeFitsLong (-1)&&Builtin.Range.rangeFitsLong (a-1)&&Builtin.Range.rangeFitsLong (Builtin.Range.rangeSize a b 1))=true:=by
  rw[hsz]
  unfold Builtin.Range.rangeFitsLong
  split<;>simp<;>omega
 rw[hfit]
 simp only[Bool.not_true,aT,if_false,if_true]
 refine aa ?_
 unfold newFields
 exact bc (am ⟨_,rfl,h⟩)
theorem dn' {r:Addr} {a b:Int} {t u v:Tok} {Q₁:Value->Shared->Prop} (hr:IsRange s.heap r a b 1 t u v) (h1:-(2 ^ 62)<=a) (h2:a<2 ^ 62) (h3:-(2 ^ 62)<=b) (h4:b<2 ^ 62)
  (h:Q₁ (.ref s.heap.objs.size) { s with heap:=s.heap.push { cls:=.type "range_iterator",data:=.fields #[rawInt (a+(Builtin.Range.rangeSize a b 1-1)*1),rawInt (Builtin.Range.rangeSize a b 1),rawInt (-1)] } }):
  codeAny (model prog w) A (.call (.builtin "reversed.__new__") ⟨[.type "reversed",.ref r],[]⟩) (wants Q₁ E) s:=by
 have hT:s.TypeIs (.ref r) "range":=⟨_,hr,rfl⟩
 refine codeAny_of_tree ?_
 show wpAny _ A.in1 (do checkBuiltinCall "reversed.__new__" ⟨[.type "reversed",.ref r],[]⟩;again (.builtin "reversed.__new__" ⟨[.type "reversed",.ref r],[]⟩)) _ _ s
 refine aa (cu (F.newCall_reversed_1 _) (am ⟨plainId_quiet F.plain_reversed_new _,codeAny_builtin F.entry_reversed_new ?_⟩))
 rw[Around.under_plainId F.plain_reversed_new _]
 unfold Builtin.«reversed.__new__»
 refine aa (cu (newClass_reversed _) ?_)
 try dsimp only
 refine aa (cu (a:=()) (by first|rfl|kernel_rfl) ?_)
 refine aa (cu (a:=()) (by first|rfl|kernel_rfl) ?_)
 try dsimp only
 refine aa (wpAny_specialOf hT F.slot_range_reversed.lookup ?_)
 try dsimp only
 refine aa (cu (F.slot_range_reversed.bind _) ?_)
 try dsimp only
 first
 |rw[if_neg (show ¬((Value.builtin "range.__reversed__" == Value.none)=true) from aw)]
 |(show wpAny _ _ (if(Value.builtin "range.__reversed__" == Value.none)=true then _ else _) _ _ _;rw[if_neg (show ¬((Value.builtin "range.__reversed__" == Value.none)=true) from aw)])
 refine aa (cU ?_)
 refine aa (m:=runValue (.call (.builtin "range.__reversed__") ⟨[.ref r],[]⟩)) (show wpAny _ _ (call (.builtin "range.__reversed__") [.ref r]) _ _ _ from dm' hr h1 h2 h3 h4 ?_)
 first
 |exact am h
 |exact aa (am (am h))
theorem ez':isSubtype (.type "range_iterator") (.type "reversed")=pure false:=by rw[isSubtype_type];kernel_rfl
theorem do' {r:Addr} {a b:Int} {t u v:Tok} {Q:Value->Shared->Prop} (hr:IsRange s.heap r a b 1 t u v) (h1:-(2 ^ 62)<=a) (h2:a<2 ^ 62) (h3:-(2 ^ 62)<=b) (h4:b<2 ^ 62)
  (h:Q (.ref s.heap.objs.size) { s with heap:=s.heap.push { cls:=.type "range_iterator",data:=.fields #[rawInt (a+(Builtin.Range.rangeSize a b 1-1)*1),rawInt (Builtin.Range.rangeSize a b 1),rawInt (-1)] } }):
  wpAny (model prog w) A (call (.type "reversed") [.ref r]) Q E s:=by
 refine callType_other (U:="range_iterator") (Q₁:=fun obj s₁=>obj=.ref s.heap.objs.size/\s₁={ s with heap:=s.heap.push { cls:=.type "range_iterator",data:=.fields #[rawInt (a+(Builtin.Range.rangeSize a b 1-1)*1),rawInt (Builtin.Range.rangeSize a b 1),rawInt (-1)] } }) ⋯ F.create_reversed ⟨_,_,F.mro_reversed⟩ F.made_reversed ez' (F.typeCall_reversed_1 _) (dn' hr h1 h2 h3 h4 ⟨rfl,rfl⟩) ?_
 rintro obj s₁ ⟨rfl,rfl⟩
 exact⟨⟨_,av _ rfl,rfl⟩,h⟩
end
def yv' (K:W.Frag) (a:Addr) (n:Nat):It:=
 ⟨fun i H=>i<n/\∃xs,SqL K H a xs/\xs.length=n,fun i H x H'=>H'=H/\∀xs,SqL K H a xs->xs[n-1-i]?=some x,fun i H=>n=i⟩
theorem g7' {P:Program} {w:World} {K:W.Frag} {tg:Expr} (a it:Addr) (n:Nat):Turn P w K tg (yv' K a n) [it] it (fun i h=>i<=n/\h.IsRevIter it a ((n:Int)-1-(i:Int))) where
 mem:=by simp
 obj:=fun i h st b hb=>by
  have e:b=it:=by simpa using hb
  subst e
  obtain⟨o,e,c,d⟩:=st.2
  exact⟨o,e,fun v z=>by rw[d]at z;cases z⟩
 keep:=fun i h h' st k=>⟨st.1,st.2.at fun o e=>k it (by simp) o e⟩
 item:=by
  intro X hP hw hK hc i p_ s σ H E I hf st hg
  subst hP hw hK
  obtain⟨hi,xs,hq,hx⟩:=hg
  obtain⟨its,rv,p,hz⟩:=I.list hq
  have hg1:xs[n-1-i]?=some (xs[n-1-i]'⋯):=af _
  obtain⟨u,hu,ru⟩:=rv.get hg1
  obtain⟨f0,f1,f2,f3,f4,f5⟩:=hf it (by simp)
  have e:(n:Int)-1-(i:Int)=((n-1-i:Nat):Int):=by omega
  have st2:=st.2
  rw[e]at st2
  refine wpAny_pyNext_rev_item st2 p.isList (x:=u) (by simpa using hu) fun h' st' sb=>?_
  have I1:Inv X p_ σ H { s with heap:=h' }:=I.turned (t':=s.toks) (fun b o hb e=>(sb.2 b hb).trans e) f0 f1 f3 f4 f5
  obtain⟨o,e1,c,d⟩:=id st'
  have e2:((n-1-i:Nat):Int)-1=(n:Int)-1-((i+1:Nat):Int):=by omega
  rw[e2]at st'
  exact⟨u,rfl,kx' (s:={ s with heap:=h' }) e1 c d (by decide) ⟨_,H,I1,ru,⟨rfl,fun ys hy=>by rw[I.list_inj hy hq];exact hg1⟩,⟨hi,st'⟩,fun b hb=>(hf b hb).1⟩⟩
 done:=by
  intro X hP hw hK hc i p_ s σ H E I hf st hg
  subst hP hw hK
  have hg':n=i:=hg
  subst hg'
  obtain⟨f0,f1,f2,f3,f4,f5⟩:=hf it (by simp)
  have e:(n:Int)-1-(n:Int)=-1:=by omega
  have st2:=st.2
  rw[e]at st2
  exact wpAny_pyNext_rev_end (I.ok.hd hc) st2 fun h' eb=>⟨rfl,I.turned (t':=s.toks) (fun b o hb e=>eb b o hb e) f0 f1 f3 f4 f5⟩
 self:=fun _ _ _ _ _ st h=>wpAny_pyIter_revIter st.2 h
section
variable {X:Cx} {tg:Expr}
def yw' (K:W.Frag) (x:V) (H1:Hp) (R:It->Hp->Prop):Prop:=
 (∃p i j,x=.ref p/\H1 p=some (.rng i j)/\(-(2 ^ 62)<=i/\i<2 ^ 62/\-(2 ^ 62)<=j/\j<2 ^ 62)/\R (Itc (i+((j-i).toNat:Int)-1) (-1) (j-i).toNat) H1)\/∃a xs,x=.ref a/\SqL K H1 a xs/\R (yv' K a xs.length) H1
def zj' (K:W.Frag) (tl:TE):TI:=fun σ H R=>bh' tl fy' σ H fun vs H1=>∃x,vs=[x]/\yw' K x H1 R
theorem gd':bootBuiltins "reversed"=some (.type "reversed"):=⋯
theorem vI' {a:Expr} {tl:TE} {p pos:Pos} (hg:Gl X "reversed") (hm:X.mg "reversed"=none) (ha:PA X [a] (bh' tl fy')) (hs:starEach [a] X.env=[(false,eval a X.env)]):
  PI X tg (.Call (.Name "reversed" p) [a] [] pos) (zj' X.K tl):=by
 intro p_ s σ H R I h
 have h':bh' tl fy' σ H (fun vs H1=>∃x,vs=[x]/\yw' X.K x H1 R):=h
 refine Call_ (cT' I hg hm gd' (PyProof.Rows.callWith_type1 (thn (ha pos p_ s σ H _ I h') fun us s1 ⟨vs,H1,I1,r1,q1⟩=>?_) (by rw[hs];rfl) (by rfl)))
 obtain⟨x,e,q1⟩:=q1
 subst e
 cases r1 with
 |cons r rr=>
  cases rr
  rcases q1 with⟨p,i,j,rfl,hp,⟨h1,h2,h3,h4⟩,q⟩|⟨a,xs,rfl,hxs,q⟩
  .cases r
   obtain⟨t,u,v,hr⟩:=(show aE' X.prog X.w H1 s1.heap p (.rng i j) from I1.hok p _ hp)
   refine do' hr h1 h2 h3 h4 ?_
   have e1:i+(Builtin.Range.rangeSize i j 1-1)*1=(i+((j-i).toNat:Int)-1)+((0:Nat):Int)*(-1):=by
    rw[rangeSize_one];split<;>omega
   have e2:Builtin.Range.rangeSize i j 1=(((j-i).toNat:Nat):Int)-((0:Nat):Int):=by rw[rangeSize_one];split<;>omega
   have it0:IsRangeIter (s1.heap.push { cls:=.type "range_iterator",data:=.fields #[rawInt (i+(Builtin.Range.rangeSize i j 1-1)*1),rawInt (Builtin.Range.rangeSize i j 1),rawInt (-1)] }) s1.heap.objs.size ((i+((j-i).toNat:Int)-1)+((0:Nat):Int)*(-1)) ((((j-i).toNat:Nat):Int)-((0:Nat):Int)) (-1):=by
    rw[<- e1,<- e2]
    exact av _ rfl
   refine wpAny_pyIter_rangeiter it0 ?_
   refine⟨s1.heap.objs.size,[s1.heap.objs.size],_,_,H1,rfl,I1.kept (t':=s1.toks) (fun b o e=>ae _ e),e8' _ _ _ _,it0,fun b hb=>?_,q⟩
   have e:b=s1.heap.objs.size:=by simpa using hb
   subst e
   exact I1.fpOk (aj _) (I1.hok.fresh (aj _))
  .cases r
   obtain⟨its,rv,pl,hz⟩:=I1.list hxs
   refine call_reversed_list pl.isList ?_
   have hl:=rv.length
   have it0:(s1.heap.push (revObj a ((its.toArray.size:Int)-1))).IsRevIter s1.heap.objs.size a ((xs.length:Int)-1-((0:Nat):Int)):=by
    have e:(its.toArray.size:Int)-1=(xs.length:Int)-1-((0:Nat):Int):=by simp;omega
    rw[<- e]
    exact⟨_,av _ rfl,rfl,rfl⟩
   refine wpAny_pyIter_revIter it0 ?_
   refine⟨s1.heap.objs.size,[s1.heap.objs.size],_,_,H1,rfl,I1.kept (t':=s1.toks) (fun b o e=>ae _ e),g7' a _ xs.length,⟨aP _,it0⟩,fun b hb=>?_,q⟩
   have e:b=s1.heap.objs.size:=by simpa using hb
   subst e
   exact I1.fpOk (aj _) (I1.hok.fresh (aj _))
def eA' (i j c:Int):Nat:=if i<j then((j-i-1) / c+1).toNat else 0
def e9' (i j c:Int):Nat:=if c=-1 then(i-j).toNat else eA' i j c
theorem g8' {i j c:Int} (h:0<c):e9' i j c=eA' i j c:=if_neg ⋯
def sR' (ta:TA):TI:=fun σ H R=>ta σ H fun vs H1=>∃i j c:Int,vs=[.int i,.int j,.int c]/\(-(2 ^ 60)<=i/\i<2 ^ 60/\-(2 ^ 60)<=j/\j<2 ^ 60/\(0<c/\c<2 ^ 29\/c=-1))/\R (Itc i c (e9' i j c)) H1
theorem dN' {i j c:Int} (hc:0<c):Builtin.Range.rangeSize i j c=(eA' i j c:Int):=by
 unfold Builtin.Range.rangeSize eA'
 rw[if_pos (show c > 0 from hc)]
 split
 .have:=Int.ediv_nonneg (a:=j-i-1) (b:=c) ⋯ ⋯
  omega
 .rfl
theorem o4' {i j c:Int} (hc:0<c) (h:i<=j):(eA' i j c:Int)<=j-i:=by
 unfold eA'
 split
 .have h0:=Int.ediv_nonneg (a:=j-i-1) (b:=c) ⋯ ⋯
  have h1:=Int.ediv_le_self (a:=j-i-1) c ⋯
  omega
 .omega
theorem kM' {i j c:Int} (h1:-(2 ^ 60)<=i) (h2:i<2 ^ 60) (h3:-(2 ^ 60)<=j) (h4:j<2 ^ 60) (h5:0<c) (h6:c<2 ^ 29):Builtin.Range.small i j c=true:=by
 unfold Builtin.Range.small
 rw[dN' h5,if_pos (show c > 0 from h5)]
 have hn:(eA' i j c:Int)<=2 ^ 62:=by
  rcases Int.lt_or_le i j with h|h
  .have:=o4' (i:=i) (j:=j) h5 ⋯;omega
  .have:eA' i j c=0:=by unfold eA';rw[if_neg ⋯]
   rw[this];decide
 unfold Builtin.Range.rangeFitsLong
 simp
 omega
theorem dO' {i j c:Int} (hc:0<c/\c<2 ^ 29\/c=-1):Builtin.Range.rangeSize i j c=(e9' i j c:Int):=by
 rcases hc with hc|rfl
 .rw[g8' hc.1];exact dN' hc.1
 .unfold Builtin.Range.rangeSize e9'
  rw[if_neg (show ¬(-1:Int) > 0 by decide),if_pos rfl]
  split
  .have:(i-j-1) / (-(-1:Int))=i-j-1:=by simp
   omega
  .omega
theorem mj' {i j c:Int} (h1:-(2 ^ 60)<=i) (h2:i<2 ^ 60) (h3:-(2 ^ 60)<=j) (h4:j<2 ^ 60) (hc:0<c/\c<2 ^ 29\/c=-1):Builtin.Range.small i j c=true:=by
 rcases hc with hc|rfl
 .exact kM' h1 h2 h3 h4 hc.1 hc.2
 .unfold Builtin.Range.small
  rw[dO' (.inr rfl),if_neg (show ¬(-1:Int) > 0 by decide)]
  have hn:(e9' i j (-1):Int)<=2 ^ 62:=by unfold e9';rw[if_pos rfl];omega
  unfold Builtin.Range.rangeFitsLong
  simp
  omega
theorem ml' {a b c:Expr} {ta:TA} {p pos:Pos} (hg:Gl X "range") (hm:X.mg "range"=none) (ha:PA X [a,b,c] ta) (hs:starEach [a,b,c] X.env=[(false,eval a X.env),(false,eval b X.env),(false,eval c X.env)]) (hs2:starEach [b,c] X.env=[(false,eval b X.env),(false,eval c X.env)]):
  PI X tg (.Call (.Name "range" p) [a,b,c] [] pos) (sR' ta):=by
 intro p_ s σ H R I h
 refine Call_ (cT' I hg hm boot_range (PyProof.Rows.callWith_type1 (thn (ha pos p_ s σ H _ I h) fun us s1 ⟨vs,H1,I1,r1,q1⟩=>?_) (by rw[hs,hs2]) (by rw[hs2];rfl)))
 obtain⟨i,j,k,e,⟨q1,q2,q3,q4,q5⟩,q⟩:=q1
 subst e
 cases r1 with
 |cons r rr=>
  cases rr with
  |cons r' rr=>
   cases rr with
   |cons r'' rr=>
    cases rr
    obtain⟨t,rfl⟩:=r
    obtain⟨t',rfl⟩:=r'
    obtain⟨t'',rfl⟩:=r''
    refine call_range_3 ⋯ ?_ (Or.inl (PyProof.noPylong_small ⋯))
    refine wpAny_pyIter_range (IsRange.new ..) (mj' q1 q2 q3 q4 q5) ?_
    have I2:Inv X p_ σ H1 { s1 with heap:=s1.heap.push { cls:=.type "range",data:=.fields #[.int i t,.int j t',.int k t''] } }:=I1.kept (t':=s1.toks) fun b o e=>ae _ e
    refine⟨(s1.heap.push { cls:=.type "range",data:=.fields #[.int i t,.int j t',.int k t''] }).objs.size,[(s1.heap.push { cls:=.type "range",data:=.fields #[.int i t,.int j t',.int k t''] }).objs.size],_,_,H1,rfl,I2.kept (t':=s1.toks) (fun b o e=>ae _ e),e8' _ i k (e9' i j k),?_,fun b hb=>?_,q⟩
    .have e1:i+((0:Nat):Int)*k=i:=by simp
     have e2:((e9' i j k:Nat):Int)-((0:Nat):Int)=Builtin.Range.rangeSize i j k:=by rw[dO' q5];omega
     show IsRangeIter _ _ (i+((0:Nat):Int)*k) (((e9' i j k:Nat):Int)-((0:Nat):Int)) k
     rw[e1,e2]
     exact av _ rfl
    .have e:b=(s1.heap.push { cls:=.type "range",data:=.fields #[.int i t,.int j t',.int k t''] }).objs.size:=by simpa using hb
     subst e
     exact I2.fpOk (aj _) (I2.hok.fresh (aj _))
end
section
variable {X:Cx}
theorem sS' {i:Int} (h:0<=i):Builtin.bitAnd i 1=i % 2:=by
 rw[PyProof.Rows.bitAnd_pp h (by decide)]
 have e:(1:Int).toNat=1:=rfl
 rw[e,Nat.and_one_is_mod]
 omega
theorem sT':OpR X (binaryOp .BitAnd) (rI (fun i j=>0<=i/\j=1) fun i _=>.int (i % 2)):=by
 intro p_ s σ H x y v u Q I rx ry h
 obtain⟨i,j,rfl,rfl,⟨h0,rfl⟩,q⟩:=h
 refine u7' p_ s σ H _ _ v u Q I rx ry ⟨i,1,rfl,rfl,?_⟩
 have q':Q (.int (i % 2)) H:=q
 rw[<- sS' h0]at q'
 exact q'
def inT (x y:Str):Bool:=!(Builtin.Str.occurrences x y 0 x.length 1).isEmpty
def yx' (neg:Bool):R2:=fun x y H Q=>∃a b,x=.str a/\y=.str b/\Q (.bl (if neg then !inT b a else inT b a)) H
theorem vJ':OpR X (compareOp .In) (yx' false):=by
 intro p_ s σ H x y v u Q I rx ry h
 obtain⟨a,b,rfl,rfl,q⟩:=h
 obtain⟨t,rfl⟩:=rx
 obtain⟨t',rfl⟩:=ry
 exact in_str ⟨.bl _,H,I,rfl,q⟩
theorem mm':OpR X (compareOp .NotIn) (yx' true):=by
 intro p_ s σ H x y v u Q I rx ry h
 obtain⟨a,b,rfl,rfl,q⟩:=h
 obtain⟨t,rfl⟩:=rx
 obtain⟨t',rfl⟩:=ry
 have q':Q (.bl (!inT b a)) H:=q
 refine notIn_str ⟨.bl (!inT b a),H,I,?_,q'⟩
 show Value.bool _=Value.bool _
 simp[inT]
def mn':V->List V->Hp->VK->Prop:=fun x vs H Q=>∃i,x=.int i/\vs=[]/\Q (.int (Builtin.Int.intBits i)) H
theorem mo':MtR X "int.bit_length" mn':=by
 intro p_ s σ H x vs v us Q I rx rv h
 obtain⟨i,rfl,rfl,q⟩:=h
 obtain⟨t,rfl⟩:=rx
 rw[rv.zero]
 exact call_int_bit_length ⟨.int _,H,I.tok _,⟨_,rfl⟩,q⟩
end
section
variable {X:Cx}
def AT' (x y:Str):Bool:=decide (y.cps.toList<x.cps.toList)
def AU':R2:=fun x y H Q=>∃a b,x=.str a/\y=.str b/\Q (.bl (AT' a b)) H
theorem vK':OpR X (compareOp .Gt) AU':=by
 intro p_ s σ H x y v u Q I rx ry h
 obtain⟨a,b,rfl,rfl,k⟩:=h
 obtain⟨t,rfl⟩:=rx
 obtain⟨t',rfl⟩:=ry
 exact PySem.P.gt_str ⟨.bl _,H,I,rfl,k⟩
def dSc:V->Bool
 | .int _=>true
 | .str _=>true
 | .bl _=>true
 | .non=>true
 |_=>false
def Dq (H:Hp):Nat->V->V->Prop
 |0,v,w=>v=w/\dSc v=true
 |n+1,v,w=>(v=w/\dSc v=true)\/∃a b xs ys,v=.ref a/\w=.ref b/\((H a=some (.lst xs)/\H b=some (.lst ys))\/(H a=some (.tup xs)/\H b=some (.tup ys)))/\xs.length=ys.length/\∀(i:Nat) x y,xs[i]?=some x->ys[i]?=some y->Dq H n x y
open PySem.SeqAt in
theorem vL' {A:Around} {s:Shared} {x:V} {u v:Value} (h:dSc x=true) (r1:aP' x u) (r2:aP' x v):EqAt A s u v true:=by
 have:=ga' (A:=A) (s:=s) r1 r2 (.inl (by cases x<;>first|(cases h;done)|exact⟨rfl,fun b=>by intro z;cases z⟩))
 rw[decide_eq_true rfl]at this
 exact this
theorem db' {n:Nat}:(aF n).all (fun _=>true)=true:=by simp
theorem jw' {its:List Value} {j:Nat} {u:Value} (e:its[j]?=some u) (h:j<its.toArray.size):its.toArray[j]=u:=by
 simp at h ⊢
 rw[af h]at e
 exact Option.some.inj e
open PySem.SeqAt in
theorem dc' {n:Nat} {H:Hp} {A:Around} {s:Shared} {xs ys:List V} {its its2:List Value} (ih:∀x y u v,Dq H n x y->aP' x u->aP' y v->EqAt A.in1 s u v true) (hl:xs.length=ys.length) (r1:aQ' xs its) (r2:aQ' ys its2)
  (he:∀(i:Nat) x y,xs[i]?=some x->ys[i]?=some y->Dq H n x y):∀j (h1:j<its.toArray.size) (h2:j<its2.toArray.size),EqAt A.in1 s its.toArray[j] its2.toArray[j] ((fun _=>true) j):=by
 intro j h1 h2
 have l1:=r1.length
 have j1:j<xs.length:=by simp at h1;omega
 have j2:j<ys.length:=by omega
 have g1:xs[j]?=some xs[j]:=af j1
 have g2:ys[j]?=some ys[j]:=af j2
 obtain⟨u1,e1,ru1⟩:=r1.get g1
 obtain⟨u2,e2,ru2⟩:=r2.get g2
 rw[jw' e1 h1,jw' e2 h2]
 exact ih _ _ _ _ (he j _ _ g1 g2) ru1 ru2
open PySem.SeqAt in
theorem vM' {p_:List (Addr×Obj)} {σ:L2.St} {H:Hp} {s:Shared} (I:Inv X p_ σ H s):∀(n:Nat) (A:Around) (x y:V) (u v:Value),A.units+n<cLine->Dq H n x y->aP' x u->aP' y v->EqAt A s u v true:=by
 intro n
 induction n with
 |zero=>
  rintro A x y u v hu ⟨rfl,hs⟩ r1 r2
  exact vL' hs r1 r2
 |succ n ih=>
  rintro A x y u v hu h rx ry
  rcases h with⟨rfl,hs⟩|⟨a,b,xs,ys,rfl,rfl,hab,hl,he⟩
  .exact vL' hs rx ry
  cases rx
  cases ry
  by_cases hne:a=b
  .subst hne;exact EqAt.same _
  have ih':∀x y u v,Dq H n x y->aP' x u->aP' y v->EqAt A.in1 s u v true:=fun x y u v=>ih A.in1 x y u v (by show A.units+1+n<cLine;omega)
  rcases hab with⟨h1,h2⟩|⟨h1,h2⟩
  .obtain⟨its,r1,pl1,_⟩:=I.list (SqL.of h1)
   obtain⟨its2,r2,pl2,_⟩:=I.list (SqL.of h2)
   have l1:=r1.length
   have l2:=r2.length
   have:=RcAt.lists pl1.isList pl2.isList (by simp;omega) ⋯ (dc' ih' hl r1 r2 he)
   rw[db']at this
   exact EqAt.of_refs hne this
  .obtain⟨its,r1,pl1,_⟩:=I.tuple (SqT.of h1)
   obtain⟨its2,r2,pl2,_⟩:=I.tuple (SqT.of h2)
   have l1:=r1.length
   have l2:=r2.length
   have:=RcAt.tuples pl1 pl2 ⋯ (dc' ih' hl r1 r2 he)
   rw[db']at this
   have e:(true&&its.toArray.size == its2.toArray.size)=true:=by simp;omega
   rw[e]at this
   exact EqAt.of_refs hne this
def AV':R2:=fun x y H Q=>∃a b xs ys,x=.ref a/\y=.ref b/\H a=some (.tup xs)/\H b=some (.tup ys)/\xs.length=ys.length/\LEq xs ys/\Q (.bl (decide (xs=ys))) H
open PySem.SeqAt in
theorem vN' (hu:X.A.units+64<cLine):OpR X (compareOp .Eq) AV':=by
 intro p_ s σ H x y v u Q I rx ry h
 obtain⟨p,q,xs,ys,rfl,rfl,hp,hq,hl,he,k⟩:=h
 cases rx
 cases ry
 obtain⟨its,r1,pl1,_⟩:=I.tuple (SqT.of hp)
 obtain⟨its2,r2,pl2,_⟩:=I.tuple (SqT.of hq)
 have l1:=r1.length
 have l2:=r2.length
 refine eq_tupleAt (e:=fun i=>decide (xs[i]?=ys[i]?)) pl1 pl2 ⋯ (fun j h1 h2=>?_) ?_
 .have j1:j<xs.length:=by simp at h1;omega
  have j2:j<ys.length:=by omega
  have g1:xs[j]?=some xs[j]:=af j1
  have g2:ys[j]?=some ys[j]:=af j2
  obtain⟨u1,e1,ru1⟩:=r1.get g1
  obtain⟨u2,e2,ru2⟩:=r2.get g2
  rw[jw' e1 h1,jw' e2 h2,g1,g2]
  have e3:decide (some xs[j]=some ys[j])=decide (xs[j]=ys[j]):=by simp
  rw[e3]
  exact ga' ru1 ru2 (he j _ _ g1 g2)
 .have e4:(aF (min its.toArray.size its2.toArray.size)).all (fun i=>decide (xs[i]?=ys[i]?))=decide (xs=ys):=by
   rw[ao,ao,<- l1,<- l2,<- hl,Nat.min_self];exact me' hl
  have e5:(its.toArray.size == its2.toArray.size)=true:=by simp;omega
  rw[e4,e5,Bool.and_true]
  exact⟨.bl _,H,I,rfl,k⟩
def yy' (neg:Bool):R2:=fun x y H Q=>(∃n,n<=8/\Dq H n x y/\(∃a b,x=.ref a/\y=.ref b)/\Q (.bl (!neg)) H)\/(neg=false/\AV' x y H Q)
theorem Dq.open {H:Hp} {n:Nat} {a b:Addr} (h:Dq H n (.ref a) (.ref b)):∃m xs ys,n=m+1/\((H a=some (.lst xs)/\H b=some (.lst ys))\/(H a=some (.tup xs)/\H b=some (.tup ys)))/\xs.length=ys.length/\∀(i:Nat) x y,xs[i]?=some x->ys[i]?=some y->Dq H m x y:=by
 cases n with
 |zero=>exact(aw h.2).elim
 |succ m=>
  rcases h with⟨_,hs⟩|⟨a',b',xs,ys,e1,e2,hab,hl,he⟩
  .cases hs
  .cases e1;cases e2;exact⟨m,xs,ys,rfl,hab,hl,he⟩
open PySem.SeqAt in
theorem vO' (hu:X.A.units+64<cLine):OpR X (compareOp .Eq) (yy' false):=by
 intro p_ s σ H x y v u Q I rx ry h
 rcases h with h|⟨_,h⟩
 case inr=>exact vN' hu p_ s σ H x y v u Q I rx ry h
 obtain⟨n,hn,hd,⟨a,b,rfl,rfl⟩,k⟩:=h
 cases rx
 cases ry
 obtain⟨m,xs,ys,rfl,hab,hl,he⟩:=hd.open
 have ih':∀x y u v,Dq H m x y->aP' x u->aP' y v->EqAt X.A.in1 s u v true:=fun x y u v=>vM' I m X.A.in1 x y u v (by show X.A.units+1+m<cLine;omega)
 rcases hab with⟨h1,h2⟩|⟨h1,h2⟩
 .obtain⟨its,r1,pl1,_⟩:=I.list (SqL.of h1)
  obtain⟨its2,r2,pl2,_⟩:=I.list (SqL.of h2)
  have l1:=r1.length
  have l2:=r2.length
  refine eq_listAt pl1.isList pl2.isList (by simp;omega) ⋯ (dc' ih' hl r1 r2 he) ?_
  rw[db']
  exact⟨.bl true,H,I,rfl,k⟩
 .obtain⟨its,r1,pl1,_⟩:=I.tuple (SqT.of h1)
  obtain⟨its2,r2,pl2,_⟩:=I.tuple (SqT.of h2)
  have l1:=r1.length
  have l2:=r2.length
  refine eq_tupleAt pl1 pl2 ⋯ (dc' ih' hl r1 r2 he) ?_
  have e:(true&&its.toArray.size == its2.toArray.size)=true:=by simp;omega
  rw[db',e]
  exact⟨.bl true,H,I,rfl,k⟩
open PySem.SeqAt in
theorem vP' (hu:X.A.units+64<cLine):OpR X (compareOp .NotEq) (yy' true):=by
 intro p_ s σ H x y v u Q I rx ry h
 rcases h with h|⟨hf,_⟩
 case inr=>cases hf
 obtain⟨n,hn,hd,⟨a,b,rfl,rfl⟩,k⟩:=h
 cases rx
 cases ry
 obtain⟨m,xs,ys,rfl,hab,hl,he⟩:=hd.open
 have ih':∀x y u v,Dq H m x y->aP' x u->aP' y v->EqAt X.A.in1 s u v true:=fun x y u v=>vM' I m X.A.in1 x y u v (by show X.A.units+1+m<cLine;omega)
 have hend:EP X p_ σ Q (Value.bool false) s:=⟨.bl false,H,I,rfl,k⟩
 rcases hab with⟨h1,h2⟩|⟨h1,h2⟩
 .obtain⟨its,r1,pl1,_⟩:=I.list (SqL.of h1)
  obtain⟨its2,r2,pl2,_⟩:=I.list (SqL.of h2)
  have l1:=r1.length
  have l2:=r2.length
  obtain⟨⟨cls,dd,data,sl⟩,ho,hc,n1,hd1⟩:=pl1.isList
  obtain⟨⟨cls2,dd2,data2,sl2⟩,ho2,hc2,n2,hd2⟩:=pl2.isList
  simp only at hc hd1 hc2 hd2
  subst hc hd1 hc2 hd2
  refine richCompare_meets_room (op:=.NotEq) ⟨_,ho,rfl⟩ ⟨_,ho2,rfl⟩ F.slot_list_ne F.entry_list_ne (F.args_list_ne_2 _ _) (list_neAt a b its.toArray its2.toArray n1 n2 dd dd2 sl sl2 (by simp;omega) (fun _=>true)) ⟨ho,ho2,dc' ih' hl r1 r2 he,?_⟩ ⋯
  rw[db']
  exact(show Value.bool false≠Value.notImplemented/\EP X p_ σ Q (Value.bool false) s from⟨(fun x=>nomatch x),hend⟩)
 .obtain⟨its,r1,pl1,_⟩:=I.tuple (SqT.of h1)
  obtain⟨its2,r2,pl2,_⟩:=I.tuple (SqT.of h2)
  have l1:=r1.length
  have l2:=r2.length
  obtain⟨⟨cls,dd,data,sl⟩,ho,hc,n1,hd1⟩:=id pl1
  obtain⟨⟨cls2,dd2,data2,sl2⟩,ho2,hc2,n2,hd2⟩:=id pl2
  simp only at hc hd1 hc2 hd2
  subst hc hd1 hc2 hd2
  refine richCompare_meets_room (op:=.NotEq) ⟨_,ho,rfl⟩ ⟨_,ho2,rfl⟩ F.slot_tuple_ne F.entry_tuple_ne (F.args_tuple_ne_2 _ _) (tuple_neAt a b its.toArray its2.toArray n1 n2 dd dd2 sl sl2 (fun _=>true)) ⟨ho,ho2,dc' ih' hl r1 r2 he,?_⟩ ⋯
  have e:(true&&its.toArray.size == its2.toArray.size)=true:=by simp;omega
  rw[db',e]
  exact(show Value.bool false≠Value.notImplemented/\EP X p_ σ Q (Value.bool false) s from⟨(fun x=>nomatch x),hend⟩)
end
end L2
namespace HT
open PySem PyProof.Rows
open PySem.SeqAt
open PySem.MeetsSeq PySem.MeetsSeq2 PySem.MeetsSeq3
section
variable {prog:Program} {w:World} {A:Around} {E:Value->Shared->Prop} {s:Shared}
theorem o5' {t b:Addr} {ws:List Value} {Q:Value->Shared->Prop} (ht:IsTup s.heap t #[]) (hb:IsTup s.heap b ws.toArray) (h0:Q (.ref b) s):wpAny (model prog w) A (binaryOp .Add (.ref t) (.ref b)) Q E s:=by
 obtain⟨⟨cls,dd,data,sl⟩,ho,hc,n,hd⟩:=id ht
 obtain⟨⟨cls2,dd2,data2,sl2⟩,ho2,hc2,n2,hd2⟩:=id hb
 simp only at hc hd hc2 hd2
 subst hc hd hc2 hd2
 exact concat_meets ⟨_,ho,rfl⟩ ⟨_,ho2,rfl⟩ noFill_tuple_add seq_tuple_add PySem.F.slot_tuple_add PySem.F.entry_tuple_add (PySem.F.args_tuple_add_2 _ _)
  (tuple_addW0 t b #[] ws.toArray n n2 dd dd2 sl sl2 rfl) ⟨ho,ho2,h0⟩
end
end HT
namespace L2
open PySem PySem.Spec PyProof.Rows
section
variable {X:Cx}
def qy' (K:W.Frag):R2:=fun x y H Q=>∃a b ys,x=.ref a/\y=.ref b/\SqT K H a []/\SqT K H b ys/\Q (.ref b) H
theorem o6':OpR X (binaryOp .Add) (qy' X.K):=by
 intro p_ s σ H x y v u Q I rx ry h
 obtain⟨a,b,ys,rfl,rfl,ha,hb,q⟩:=h
 cases rx
 cases ry
 obtain⟨its,r1,p1,_⟩:=I.tuple ha
 obtain⟨its2,r2,p2,_⟩:=I.tuple hb
 have e:its=[]:=r1.nil_iff.mpr rfl
 subst e
 exact HT.o5' p1 p2 ⟨.ref b,H,I,rfl,q⟩
end
end L2
namespace L2
open PySem PySem.Spec PyProof.Rows PySem.Calls PySem.NumText
def B2 (x:PySem.Str) (n:Int):Prop:=(x.cps.all (· < 128))=true/\(x.cps.toList.takeWhile (· != 0)).length<=640/\(int_private% "readNumeral") 0 2 (x.cps.toList.takeWhile (· != 0))=(int_private% "Numeral.value") n/\((x.cps.toList.takeWhile (· != 0)).length == x.cps.toList.length)=true
theorem o7' {M:Model} {A:Around} {E:Value->Shared->Prop} {s:Shared} {Q:Value->Shared->Prop} {v:Value} {text:List Nat} {n:Int}
  (hs:(text.takeWhile (· != 0)).length<=640) (hr:(int_private% "readNumeral") 0 2 (text.takeWhile (· != 0))=(int_private% "Numeral.value") n)
  (ha:((text.takeWhile (· != 0)).length == text.length)=true) (h:Q (.int n s.toks) { s with toks:=s.toks+1 }):
  wpAny M A ((int_private% "intFromText") v text 2) Q E s:=by
 obtain⟨hp,g,d,tk,os⟩:=s
 repeat (any_goals (first
  |assumption
  |(with_reducible refine wpAny_ite_true (decide_eq_true hs) ?_)
  |(with_reducible refine wpAny_ite_true (decide_eq_true ha) ?_)
  |wp_step))
 all_goals (try rw[hr])
 all_goals (try dsimp only)
 repeat (any_goals (first
  |assumption
  |(with_reducible refine wpAny_ite_true (decide_eq_true hs) ?_)
  |(with_reducible refine wpAny_ite_true (decide_eq_true ha) ?_)
  |wp_step))
set_option maxHeartbeats 4000000 in
theorem iM' {x:PySem.Str} {u v:Tok} {n:Int} (hb:B2 x n):Gives (Builtin.«int.__new__» ⟨[.type "int",.str x u,.int 2 v],[]⟩) (.int n):=
 .of_wp fun M A E s Q h=>by
  obtain⟨hp,g,d,tk,os⟩:=s
  have f1:=F.conv_sub_int
  have f2:=F.madeHere_int
  have f6:typeOf (.str x u)=pure (.type "str"):=rfl
  have hk:=W.KIN.Hid.mk hb
  clear hb
  repeat (any_goals (first
   |assumption
   |((with_reducible show wpAny _ _ ((int_private% "intFromText") _ _ _) _ _ _);rw[if_pos hk.out.1];refine o7' hk.out.2.1 hk.out.2.2.1 hk.out.2.2.2 ?_)
   |wp_step))
  all_goals first|exact⟨_,rfl,h⟩|skip
theorem fA' (a b:Value):checkTypeCall "int" ⟨[a,b],[]⟩=pure ():=by kernel_rfl
theorem ge' (a b:Value):checkBuiltinCall "int.__new__" ⟨[.type "int",a,b],[]⟩=pure ():=by kernel_rfl
section
variable {X:Cx}
def vQ':List V->Hp->VK->Prop:=fun xs H Q=>∃x n,xs=[.str x,.int 2]/\B2 x n/\Q (.int n) H
theorem mp':a4' X (.type "int") vQ':=by
 intro p_ s σ H xs us Q I r h
 obtain⟨x,n,rfl,hb,q⟩:=h
 obtain⟨u,v,rfl,⟨t,rfl⟩,⟨t',rfl⟩⟩:=iC' r
 exact callType_new F.called_int F.newNe_int (fA' _ _) (ge' _ _) (fun obj=>F.args_object_init_3 obj _ _) F.entry_int_new (iM' hb).meets (show(Made.int n).post _ s from⟨rfl,⟨.int n,H,I.tok _,⟨_,rfl⟩,q⟩⟩)
theorem mq':a4' X (.type "int") (fun xs H Q=>AM' xs H Q\/vQ' xs H Q):=l5'.or mp'
end
theorem ek':∀{ss:List PySem.Str} {us:List Value},StrsAre us ss->aQ' (ss.map V.str) us
 |_,_,.nil=>.nil
 |_,_,.cons y t r=>.cons ⟨t,rfl⟩ (ek' r)
section
variable {X:Cx}
def qz' (K:W.Frag):List V->Hp->VK->Prop:=fun xs H Q=>∃(p:Addr) (ss:List PySem.Str),xs=[.ref p]/\SqL K H p (ss.map V.str)/\ss.length<64/\∀(l:Addr) (ss':List PySem.Str),H l=none->ss'.Perm ss->sortedS ss'=true->Q (.ref l) (upd H l (.lst (ss'.map V.str)))
theorem kN':a4' X (.builtin "sorted") (qz' X.K):=by
 intro p_ s σ H xs us Q I rv h
 obtain⟨a,ss,rfl,hs,hl,q⟩:=h
 obtain⟨u,rfl,r1⟩:=er' rv
 cases r1
 obtain⟨its,r,pl,hz⟩:=I.list hs
 have hlen:=r.length
 rw[ac]at hlen
 refine sorted_strs pl.isList (da' r) ⋯ fun out ss' a1 a2 a3=>?_
 obtain⟨e,he⟩:=sortedAll_at s.heap its out
 have hn:H (s.heap.objs.size+1)=none:=I.hok.fresh (Nat.le_succ _)
 refine⟨.ref (s.heap.objs.size+1),_,I.laid (a:=s.heap.objs.size+1) (o:=.lst (ss'.map V.str)) (h':=sortedAll s.heap its out) (t':=s.toks) (fun _ _=>sortedAll_old) (Nat.le_succ _) ⟨?_,out.toList,e,ek' a1,?_⟩,rfl,q _ ss' hn a2 a3⟩
 .rw[ac,a2.length_eq]
  exact aN (bE hl) (by decide)
 .rw[he]
end
end L2
namespace HT
open PySem PyProof.Rows
section
variable {prog:Program} {w:World} {A:Around} {E:Value->Shared->Prop} {s:Shared}
theorem dp' {t sl:Addr} {items:Array Value} {vl vu:Value} {lo hi:Option Int} {Q:Value->Shared->Prop} (ht:IsTup s.heap t items) (hs:s.heap.IsSliceOf sl vl vu .none) (pl:IsPart vl lo) (pu:IsPart vu hi)
  (hw:sIx items.size 0 lo=0/\sIx items.size items.size hi=items.size)
  (h:Q (.ref t) s):wpAny (model prog w) A (getItem (.ref t) (.ref sl)) Q E s:=by
 obtain⟨os,hos,hcs,hds⟩:=id hs
 have hTs:s.TypeIs (.ref sl) "slice":=⟨os,hos,hcs⟩
 unfold getItem
 try with_reducible refine aX ?_
 first|refine aa (am ?_)|skip
 refine aa (wpAny_sequenceKey ht.typeIs (by decide) ?_)
 refine aa (bn (name:=Str.ofString "__getitem__") ht.typeIs PyProof.Rows.slot_tuple_getitem
  (bw PyProof.Rows.slot_tuple_getitem ht.typeIs entry_tuple_getitem ?_ (args_tuple_getitem _ _)))
 show wpAny _ _ (Builtin.Tuple.tupleItemsOf (.ref t) >>= _) _ _ s
 refine aa (tupleItemsOf_ ht ?_)
 refine aa (wpAny_typeOf hTs ?_)
 rw[if_pos (by decide)]
 refine aa (cQ' hs pl pu ?_)
 have hyes:(((sIx items.size 0 lo:Nat):Int) == 0&&(1:Int) == 1&&(sIx items.size items.size hi-sIx items.size 0 lo) == items.size)=true:=by
  rw[hw.1,hw.2]
  simp
 show wpAny _ _ (if(((sIx items.size 0 lo:Nat):Int) == 0&&(1:Int) == 1&&(sIx items.size items.size hi-sIx items.size 0 lo) == items.size)=true then _ else _) _ _ s
 rw[if_pos hyes]
 obtain⟨ot,hot,hct,nt,hdt⟩:=id ht
 refine aa (df (Q:=fun b s'=>b=true/\s'=s) (E:=E) ?_ ?_ (fun _ _ z=>z))
 .unfold Builtin.Tuple.tupleIsExact
  exact aa (wpAny_typeOf ht.typeIs (am ⟨rfl,rfl⟩))
 .rintro b s' ⟨rfl,rfl⟩
  rw[if_pos rfl]
  exact aa (cU (am ⟨_,rfl,am h⟩))
end
end HT
namespace L2
open PySem PySem.Spec PyProof.Rows
section
variable {X:Cx}
def yz' (K:W.Frag):V->Option Int->Option Int->Hp->VK->Prop:=fun x lo hi H Q=>∃a xs,x=.ref a/\SqT K H a xs/\(HT.sIx xs.length 0 lo=0/\HT.sIx xs.length xs.length hi=xs.length)/\Q (.ref a) H
theorem o8':SlR X (yz' X.K):=by
 intro p_ s σ H x v vl vu lo hi sl Q I rx hs pl pu h
 obtain⟨a,xs,rfl,hx,hw,q⟩:=h
 cases rx
 obtain⟨its,r,ht,hz⟩:=I.tuple hx
 have hlen:its.toArray.size=xs.length:=by rw[ao];exact r.length.symm
 refine⟨"tuple",_,PyProof.Rows.slot_tuple_getitem.lookup,ht.typeIs,?_⟩
 exact HT.dp' ht hs pl pu (by rw[hlen];exact hw) ⟨.ref a,H,I,rfl,q⟩
end
end L2
namespace L2
open PySem PySem.Spec PyProof.Rows
def sU' (ss:List PySem.Str):Prop:=ss.Pairwise fun a b=>¬b.cps.toList<a.cps.toList
end L2
namespace So
open PySem PySem.Spec PyProof.Rows
def sV':Bool->Keyed->Array Keyed->Nat->Nat->Nat->StateT SortSt Sem (Option Nat):=sortPriv% PySem.Builtin.gallop
section
variable {M:Model} {A:Around} {E:Value->Shared->Prop} {s:Shared} {O:KeyOrd} {ky:Keyed->O.α} {P:Keyed->Prop} {kd:SortKind}
structure Cmp (M:Model) (A:Around) (E:Value->Shared->Prop) (s:Shared) (O:KeyOrd) (ky:Keyed->O.α) (P:Keyed->Prop) (kd:SortKind):Prop where
 lt:∀{x y:Keyed} {st:SortSt} {Q:Option Bool->SortSt->Prop},P x->P y->kindOf st=kd->Q (some (O.blt (ky x) (ky y))) st->wpS M A E s (lt' x y) Q st
theorem ec' {σ β γ:Type} {a b:Nat} {f:Nat->β->StateT σ Sem (ForInStep β)} {g:β->StateT σ Sem γ} {Q:γ->σ->Prop} {c:β} {st:σ} (I:Nat->β->σ->Prop) (D:β->σ->Prop) (init:I a c st)
  (step:∀i c st,a<=i->i<b->I i c st->wpS M A E s (f i c) (fun r st'=>match r with | .done c'=>D c' st' | .yield c'=>I (i+1) c' st') st)
  (last:∀c st,I (max a b) c st->D c st) (post:∀c st,D c st->wpS M A E s (g c) Q st):wpS M A E s (forIn [a:b] c f >>= g) Q st:=
 wpS_bind (wpS_mono (wpS_forRange I step last init) post)
theorem jx' {a:Array Keyed} {i:Nat} {x:Keyed} {Q:Keyed->SortSt->Prop} {st:SortSt} (e:a[i]?=some x) (h:Q x st):wpS M A E s (elem' a i) Q st:=by
 rw[elem'_eq,e];exact wpS_pure h
end
end So
namespace So
open PySem PySem.Spec PyProof.Rows
section
variable {M:Model} {A:Around} {E:Value->Shared->Prop} {s:Shared} {O:KeyOrd} {ky:Keyed->O.α} {P:Keyed->Prop} {kd:SortKind}
def Rk (O:KeyOrd) (ky:Keyed->O.α) (p q:Keyed):Prop:=O.kle (ky p) (ky q)
theorem mr' {a:Array Keyed} {i:Nat} (h:i<a.size):∃p,a[i]?=some p/\p∈a.toList:=⟨a[i],by simp,by simp⟩
theorem mt' (l:List Keyed) (i k:Nat):l.drop i=(l.drop i).take k++l.drop (i+k):=by
 rw[<- List.drop_drop,bj]
end
end So
namespace So
open PySem PySem.Spec PyProof.Rows
section
variable {M:Model} {A:Around} {E:Value->Shared->Prop} {s:Shared} {O:KeyOrd} {ky:Keyed->O.α} {P:Keyed->Prop} {kd:SortKind} {x y:Array Keyed}
theorem bx' {β γ:Type} {t:Std.Legacy.Range} {c:β} {f g:Nat->β->StateT SortSt Sem (ForInStep β)} {u v:β->StateT SortSt Sem γ} (h:∀n c,f n c=g n c) (k:∀c,u c=v c):(forIn t c f >>= u)=(forIn t c g >>= v):=by
 rw[show f=g from funext fun n=>funext fun c=>h n c,show u=v from funext k]
theorem aq' {α β:Type} {m:StateT SortSt Sem α} {u v:α->StateT SortSt Sem β} (h:∀a,u a=v a):(m >>= u)=(m >>= v):=by rw[show u=v from funext h]
theorem bI' {α:Type} {c:Prop} [Decidable c] {a b d e:α} (h:a=d) (k:b=e):(if c then a else b)=(if c then d else e):=by rw[h,k]
end
end So
namespace So
open PySem PySem.Spec PyProof.Rows
end So
namespace So
open PySem PySem.Spec PyProof.Rows
def cT (lo n nrem:Nat):StateT SortSt Sem (Option Nat):=do
 reverseSlice' lo (lo+n)
 let r <- forIn [n:nrem] ((none,n):Option (Option Nat)×Nat) fun _ r=>do
  let x <- ltAt' (lo+r.2) (lo+r.2-1)
  match x with
  |some b=>if b=true then pure (ForInStep.done (none,r.2))else pure (ForInStep.yield (none,r.2+1))
  |_=>pure (ForInStep.done (some none,r.2))
 match r.1 with
 |some v=>pure v
 |none=>pure (some r.2)
def cS (lo n e:Nat):StateT SortSt Sem (ForInStep (Option (Option Nat)×Nat×Nat)):=do
 let x <- ltAt' (lo+n) (lo+n-1)
 match x with
 |some b=>
  if b=true then
   if e > 0 then do
    reverseSlice' (lo+n-(e+1)) (lo+n)
    pure (ForInStep.yield (none,n+1,0))
   else pure (ForInStep.yield (none,n+1,0))
  else do
   let x <- ltAt' (lo+n-1) (lo+n)
   match x with
   |some b=>if b=true then pure (ForInStep.done (none,n,e))else pure (ForInStep.yield (none,n+1,e+1))
   |_=>pure (ForInStep.done (some none,n,e))
 |_=>pure (ForInStep.done (some none,n,e))
def cD (lo n nrem:Nat):StateT SortSt Sem (Option Nat):=do
 liftM (rule "list.sort.descending-run")
 let r <- forIn [n+1:nrem] ((none,n+1,0):Option (Option Nat)×Nat×Nat) fun _ r=>cS lo r.2.1 r.2.2
 match r.1 with
 |some v=>pure v
 |none=>if r.2.2 > 0 then(reverseSlice' (lo+r.2.1-(r.2.2+1)) (lo+r.2.1) >>= fun _=>cT lo r.2.1 nrem)else cT lo r.2.1 nrem
def cM (lo nrem:Nat):StateT SortSt Sem (Option Nat):=do
 let r <- forIn [1:nrem] ((none,1):Option (Option Nat)×Nat) fun _ r=>do
  let x <- ltAt' (lo+r.2) (lo+r.2-1)
  match x with
  |some b=>if b=true then pure (ForInStep.done (none,r.2))else pure (ForInStep.yield (none,r.2+1))
  |_=>pure (ForInStep.done (some none,r.2))
 match r.1 with
 |some v=>pure v
 |none=>if(r.2 == nrem)=true then pure (some r.2)else if r.2 > 1 then(ltAt' lo (lo+r.2-1) >>= fun x=>match x with
   |some b=>if b=true then pure (some r.2)else(reverseSlice' lo (lo+r.2) >>= fun _=>cD lo r.2 nrem)
   |_=>pure none)else cD lo r.2 nrem
theorem ha' (lo nrem:Nat):countRun' lo nrem=cM lo nrem:=by
 refine(countRun'_eq lo nrem).trans ?_
 refine bx' (fun n c=>?_) fun c=>?_
 .refine aq' fun x=>?_
  cases x<;>rfl
 obtain⟨c0,n⟩:=c
 cases c0
 .refine bI' rfl (bI' (aq' fun x=>?_) ?_)
  .cases x with
   |none=>rfl
   |some b=>
    refine bI' rfl (aq' fun _=>?_)
    refine aq' fun _=>bx' (fun n c=>?_) fun c=>?_
    .refine aq' fun x=>?_
     cases x with
     |none=>rfl
     |some b=>exact bI' rfl (aq' fun x=>by cases x<;>rfl)
    .obtain⟨c0,n,e⟩:=c
     cases c0
     .refine bI' (aq' fun _=>aq' fun _=>bx' (fun n c=>aq' fun x=>by cases x<;>rfl) fun c=>by obtain⟨c0,n⟩:=c;cases c0<;>rfl) (aq' fun _=>bx' (fun n c=>aq' fun x=>by cases x<;>rfl) fun c=>by obtain⟨c0,n⟩:=c;cases c0<;>rfl)
     .rfl
  .refine aq' fun _=>bx' (fun n c=>?_) fun c=>?_
   .refine aq' fun x=>?_
    cases x with
    |none=>rfl
    |some b=>exact bI' rfl (aq' fun x=>by cases x<;>rfl)
   .obtain⟨c0,n,e⟩:=c
    cases c0
    .refine bI' (aq' fun _=>aq' fun _=>bx' (fun n c=>aq' fun x=>by cases x<;>rfl) fun c=>by obtain⟨c0,n⟩:=c;cases c0<;>rfl) (aq' fun _=>bx' (fun n c=>aq' fun x=>by cases x<;>rfl) fun c=>by obtain⟨c0,n⟩:=c;cases c0<;>rfl)
    .rfl
 .rfl
section
variable {M:Model} {A:Around} {E:Value->Shared->Prop} {s:Shared} {O:KeyOrd} {ky:Keyed->O.α} {P:Keyed->Prop} {kd:SortKind} {st0:SortSt} {lo nrem:Nat}
def ke (ky:Keyed->O.α) (a:Array Keyed) (i:Nat):O.α:=ky ((a[i]?).getD (Value.none,Value.none))
theorem dQ' {a b:Array Keyed} {i j:Nat} (h:a[i]?=b[j]?):ke ky a i=ke ky b j:=by unfold ke;rw[h]
theorem pa' {a:Array Keyed} {i:Nat} {p:Keyed} (h:a[i]?=some p):ke ky a i=ky p:=by unfold ke;rw[h];rfl
theorem dR' {a:Array Keyed} {i j:Nat} (hj:j<=a.size) (k:Nat):ke ky (mirror a i j ((j-i) / 2)) k=if i<=k/\k<j then ke ky a (i+j-1-k)else ke ky a k:=by
 have e:=getElem?_mirror_all (i:=i) hj k
 by_cases c:i<=k/\k<j
 .rw[if_pos c]at e ⊢;exact dQ' e
 .rw[if_neg c]at e ⊢;exact dQ' e
theorem hh' {a:Array Keyed} {src d:Nat} (hs:src<a.size) (hd:d<=src) (k:Nat):
  ke ky (bubble a src d) k=if k=src-d then ke ky a src else if src-d<k/\k<=src then ke ky a (k-1)else ke ky a k:=by
 have e:=getElem?_bubble hs d hd k
 by_cases c:k=src-d
 .rw[if_pos c]at e ⊢;exact dQ' e
 .rw[if_neg c]at e ⊢
  by_cases c2:src-d<k/\k<=src
  .rw[if_pos c2]at e ⊢;exact dQ' e
  .rw[if_neg c2]at e ⊢;exact dQ' e
structure Sb (st0:SortSt) (lo:Nat) (st:SortSt):Prop where
 perm:(arrOf st).Perm (arrOf st0)
 same:∀i,i<lo->(arrOf st)[i]?=(arrOf st0)[i]?
 kind:kindOf st=kindOf st0
 fail:failedOf st=failedOf st0
 pend:pendingOf st=pendingOf st0
theorem Sb.rfl' (st0:SortSt) (lo:Nat):Sb st0 lo st0:=⟨Array.Perm.refl _,fun _ _=>rfl,rfl,rfl,rfl⟩
theorem Sb.size {st:SortSt} (B:Sb st0 lo st):(arrOf st).size=(arrOf st0).size:=B.perm.size_eq
theorem Sb.mirror {st:SortSt} (B:Sb st0 lo st) {i j:Nat} (h:lo<=i):Sb st0 lo (setArr st (mirror (arrOf st) i j ((j-i) / 2))):=by
 refine⟨(mirror_perm _ _ _ _).trans B.perm,fun k hk=>?_,B.kind,B.fail,B.pend⟩
 rw[<- B.same k hk]
 show(PyProof.Rows.mirror (arrOf st) i j ((j-i) / 2))[k]?=_
 by_cases hj:j<=(arrOf st).size
 .rw[getElem?_mirror_all hj,if_neg ⋯]
 .have go:∀(l:List Nat),(∀n∈l,2*n+1<j-i+1)->∀a:Array Keyed,(l.foldl (fun a n=>a.swapIfInBounds (i+n) (j-1-n)) a)[k]?=a[k]?:=by
   intro l
   induction l with
   |nil=>intro _ a;rfl
   |cons n l ih=>
    intro hl a
    rw[cg,ih (fun m hm=>hl m (au _ hm))]
    have hn:=hl n (ax ..)
    by_cases h1:i+n<a.size
    .by_cases h2:j-1-n<a.size
     .rw[getElem?_swapIB h1 h2,if_neg ⋯,if_neg ⋯]
     .rw[Array.swapIfInBounds_def];simp[h1,h2]
    .rw[Array.swapIfInBounds_def];simp[h1]
  exact go _ (fun n hn=>by have:=aU.mp hn;omega) _
theorem Sb.bubble {st:SortSt} (B:Sb st0 lo st) {src d:Nat} (hs:src<(arrOf st).size) (h:lo<=src-d) (hd:d<=src):Sb st0 lo (setArr st (bubble (arrOf st) src d)):=by
 refine⟨(bubble_perm _ _ _).trans B.perm,fun k hk=>?_,B.kind,B.fail,B.pend⟩
 rw[<- B.same k hk]
 show(PyProof.Rows.bubble (arrOf st) src d)[k]?=_
 rw[getElem?_bubble hs d hd,if_neg ⋯,if_neg ⋯]
theorem Sb.lt (C:Cmp M A E s O ky P kd) {st:SortSt} {i j:Nat} {Q:Option Bool->SortSt->Prop} (kst:kindOf st0=kd) (pa:∀p∈(arrOf st0).toList,P p) (B:Sb st0 lo st) (hi:i<(arrOf st0).size) (hj:j<(arrOf st0).size)
  (h:Q (some (O.blt (ke ky (arrOf st) i) (ke ky (arrOf st) j))) st):wpS M A E s (ltAt' i j) Q st:=by
 obtain⟨p,ep,mp⟩:=mr' (a:=arrOf st) (i:=i) (by rw[B.size];exact hi)
 obtain⟨q,eq,mq⟩:=mr' (a:=arrOf st) (i:=j) (by rw[B.size];exact hj)
 have pm:=Array.perm_iff_toList_perm.mp B.perm
 rw[ltAt'_eq]
 refine wpS_bind (wpS_get ?_)
 refine wpS_bind (jx' ep (wpS_bind (jx' eq (C.lt (pa p (pm.mem_iff.mp mp)) (pa q (pm.mem_iff.mp mq)) (B.kind.trans kst) ?_))))
 rw[pa' ep,pa' eq]at h
 exact h
def Si (ky:Keyed->O.α) (lo:Nat) (a:Array Keyed) (n:Nat):Prop:=∀i j,i<=j->j<n->O.kle (ke ky a (lo+i)) (ke ky a (lo+j))
def Ni (ky:Keyed->O.α) (lo:Nat) (a:Array Keyed) (n:Nat):Prop:=∀i j,i<=j->j<n->O.kle (ke ky a (lo+j)) (ke ky a (lo+i))
theorem Si.more {a:Array Keyed} {n:Nat} (h:Si ky lo a n) (h1:1<=n) (g:O.kle (ke ky a (lo+(n-1))) (ke ky a (lo+n))):Si ky lo a (n+1):=by
 intro i j hij hj
 by_cases c:j<n
 .exact h i j hij c
 .have e:j=n:=by omega
  subst e
  by_cases c2:i=j
  .subst c2;exact KeyOrd.kle_refl _
  .exact KeyOrd.kle_trans (h i (j-1) ⋯ ⋯) g
theorem Ni.more {a:Array Keyed} {n:Nat} (h:Ni ky lo a n) (h1:1<=n) (g:O.kle (ke ky a (lo+n)) (ke ky a (lo+(n-1)))):Ni ky lo a (n+1):=by
 intro i j hij hj
 by_cases c:j<n
 .exact h i j hij c
 .have e:j=n:=by omega
  subst e
  by_cases c2:i=j
  .subst c2;exact KeyOrd.kle_refl _
  .exact KeyOrd.kle_trans g (h i (j-1) ⋯ ⋯)
theorem gf' {st:SortSt} {i j:Nat} {Q:Unit->SortSt->Prop} (h:Q () (setArr st (mirror (arrOf st) i j ((j-i) / 2)))):wpS M A E s (reverseSlice' i j) Q st:=by
 rw[reverseSlice'_eq];exact wpS_modify h
theorem jy' (C:Cmp M A E s O ky P kd) {st:SortSt} {n:Nat} {β:Type} {Q:β->SortSt->Prop} {g:Option (Option Nat)×Nat->StateT SortSt Sem β} (kst:kindOf st0=kd) (pa:∀p∈(arrOf st0).toList,P p) (hn:lo+nrem<=(arrOf st0).size) (h1:1<=n) (hnn:n<=nrem) (B:Sb st0 lo st)
  (S:Si ky lo (arrOf st) n) (h:∀m,n<=m->m<=nrem->Si ky lo (arrOf st) m->(m=nrem\/O.klt (ke ky (arrOf st) (lo+m)) (ke ky (arrOf st) (lo+(m-1))))->wpS M A E s (g (none,m)) Q st):
  wpS M A E s (forIn [n:nrem] (none,n) (fun _ r=>do
   let x <- ltAt' (lo+r.2) (lo+r.2-1)
   match x with
   |some b=>if b=true then pure (ForInStep.done (none,r.2))else pure (ForInStep.yield (none,r.2+1))
   |_=>pure (ForInStep.done (some none,r.2))) >>= g) Q st:=by
 refine ec' (fun x c st'=>st=st'/\c=(none,x)/\Si ky lo (arrOf st) x) (fun c st'=>st=st'/\∃m,c=(none,m)/\n<=m/\m<=nrem/\Si ky lo (arrOf st) m/\(m=nrem\/O.klt (ke ky (arrOf st) (lo+m)) (ke ky (arrOf st) (lo+(m-1))))) ⟨rfl,rfl,S⟩ ?_ ?_ ?_
 .rintro x c st' hx1 hx2 ⟨rfl,rfl,S'⟩
  dsimp only
  refine wpS_bind (B.lt C kst pa ⋯ ⋯ ?_)
  rw[show lo+x-1=lo+(x-1) by omega]
  cases hb:O.blt (ke ky (arrOf st) (lo+x)) (ke ky (arrOf st) (lo+(x-1)))
  .exact wpS_pure ⟨rfl,rfl,S'.more ⋯ hb⟩
  .exact wpS_pure ⟨rfl,x,rfl,hx1,⋯,S',.inr hb⟩
 .rintro c st' ⟨rfl,rfl,S'⟩
  rw[show max n nrem=nrem by omega]at S' ⊢
  exact⟨rfl,nrem,rfl,hnn,aj _,S',.inl rfl⟩
 .rintro c st' ⟨rfl,m,rfl,a1,a2,a3,a4⟩
  exact h m a1 a2 a3 a4
theorem vR' (C:Cmp M A E s O ky P kd) {Q:Option Nat->SortSt->Prop} {st4:SortSt} {x:Nat} (kst:kindOf st0=kd) (pa:∀p∈(arrOf st0).toList,P p) (hn:lo+nrem<=(arrOf st0).size) (h:∀m st',Sb st0 lo st'->1<=m->m<=nrem->Si ky lo (arrOf st') m->Q (some m) st')
  (B4:Sb st0 lo st4) (N4:Ni ky lo (arrOf st4) x) (hx1:1<=x) (hn4:x<=nrem):wpS M A E s (cT lo x nrem) Q st4:=by
 unfold cT
 refine wpS_bind (gf' ?_)
 have B5:=B4.mirror (i:=lo) (j:=lo+x) (aj _)
 have hz5:lo+x<=(arrOf st4).size:=by rw[B4.size];omega
 have S5:∀i j,i<=j->j<x->O.kle (ke ky (mirror (arrOf st4) lo (lo+x) ((lo+x-lo) / 2)) (lo+i)) (ke ky (mirror (arrOf st4) lo (lo+x) ((lo+x-lo) / 2)) (lo+j)):=fun i j hij hj=>by
  rw[dR' hz5,dR' hz5,if_pos ⋯,if_pos ⋯]
  have:=N4 (x-1-j) (x-1-i) ⋯ ⋯
  rw[show lo+(lo+x)-1-(lo+i)=lo+(x-1-i) by omega,show lo+(lo+x)-1-(lo+j)=lo+(x-1-j) by omega]
  exact this
 refine jy' C kst pa hn ⋯ hn4 B5 S5 fun m hm1 hm2 hm3 _=>?_
 exact wpS_pure (h m _ B5 ⋯ hm2 hm3)
def CsP (ky:Keyed->O.α) (st0:SortSt) (lo nrem x:Nat):ForInStep (Option (Option Nat)×Nat×Nat)->SortSt->Prop:=fun r st'=>match r with
 | .done c=>∃x e,c=(none,x,e)/\1<=x/\x<=nrem/\Sb st0 lo st'/\Ni ky lo (arrOf st') x/\e+1<=x/\∀i,x-(e+1)<=i->i<x->ke ky (arrOf st') (lo+i)=ke ky (arrOf st') (lo+(x-1))
 | .yield c=>∃e,c=(none,x,e)/\Sb st0 lo st'/\Ni ky lo (arrOf st') x/\e+1<=x/\∀i,x-(e+1)<=i->i<x->ke ky (arrOf st') (lo+i)=ke ky (arrOf st') (lo+(x-1))
set_option tactic.hygienic true in
theorem qB' {a:Array Keyed} {x e:Nat} (hz:lo+x<=a.size) (he:e+1<=x) (heq:∀i,x-(e+1)<=i->i<x->ke ky a (lo+i)=ke ky a (lo+(x-1))) (k:Nat):ke ky (mirror a (lo+x-(e+1)) (lo+x) ((lo+x-(lo+x-(e+1))) / 2)) k=ke ky a k:=by
 rw[dR' hz]
 split
 .rename_i hh
  have u1:=heq (lo+x-(e+1)+(lo+x)-1-k-lo) ⋯ ⋯
  have u2:=heq (k-lo) ⋯ ⋯
  rw[show lo+(lo+x-(e+1)+(lo+x)-1-k-lo)=lo+x-(e+1)+(lo+x)-1-k by omega]at u1
  rw[show lo+(k-lo)=k by omega]at u2
  rw[u1,u2]
 .rfl
theorem zl' (C:Cmp M A E s O ky P kd) {st3:SortSt} {x e:Nat} (kst:kindOf st0=kd) (pa:∀p∈(arrOf st0).toList,P p) (hn:lo+nrem<=(arrOf st0).size) (hx1:1<=x) (hx2:x<nrem)
  (B3:Sb st0 lo st3) (N3:Ni ky lo (arrOf st3) x) (he:e+1<=x) (heq:∀i,x-(e+1)<=i->i<x->ke ky (arrOf st3) (lo+i)=ke ky (arrOf st3) (lo+(x-1))):wpS M A E s (cS lo x e) (CsP ky st0 lo nrem (x+1)) st3:=by
 have hz3:lo+x<=(arrOf st3).size:=by rw[B3.size];omega
 have sub:lo+x-1=lo+(x-1):=by omega
 unfold cS
 rw[sub]
 refine wpS_bind (B3.lt C kst pa ⋯ ⋯ ?_)
 cases hb:O.blt (ke ky (arrOf st3) (lo+x)) (ke ky (arrOf st3) (lo+(x-1)))
 .refine wpS_bind (B3.lt C kst pa ⋯ ⋯ ?_)
  cases hb2:O.blt (ke ky (arrOf st3) (lo+(x-1))) (ke ky (arrOf st3) (lo+x))
  .have hx0:ke ky (arrOf st3) (lo+x)=ke ky (arrOf st3) (lo+(x-1)):=KeyOrd.kle_antisymm hb2 hb
   refine wpS_pure ⟨e+1,rfl,B3,N3.more ⋯ (by rw[hx0];exact KeyOrd.kle_refl _),⋯,fun i h1 h2=>?_⟩
   rw[show x+1-1=x by omega]
   by_cases hix:i=x
   .subst hix;rfl
   .rw[hx0];exact heq i ⋯ ⋯
  .exact wpS_pure ⟨x,e,rfl,⋯,⋯,B3,N3,he,heq⟩
 .have N5:=N3.more ⋯ (KeyOrd.kle_of_klt hb)
  show wpS M A E s (if e > 0 then _ else _) _ _
  by_cases hq:e > 0
  .rw[if_pos hq]
   refine wpS_bind (gf' (wpS_pure ⟨0,rfl,B3.mirror ⋯,?_,⋯,fun i h1 h2=>by congr 1;omega⟩))
   have hk:=qB' hz3 he heq
   intro i j hij hj
   show O.kle (ke ky (mirror (arrOf st3) _ _ _) _) (ke ky (mirror (arrOf st3) _ _ _) _)
   rw[hk,hk]
   exact N5 i j hij hj
  .rw[if_neg hq]
   exact wpS_pure ⟨0,rfl,B3,N5,⋯,fun i h1 h2=>by congr 1;omega⟩
theorem vS' (C:Cmp M A E s O ky P kd) {Q:Option Nat->SortSt->Prop} {st2:SortSt} {n:Nat} (kst:kindOf st0=kd) (pa:∀p∈(arrOf st0).toList,P p) (hn:lo+nrem<=(arrOf st0).size) (h:∀m st',Sb st0 lo st'->1<=m->m<=nrem->Si ky lo (arrOf st') m->Q (some m) st')
  (B2:Sb st0 lo st2) (N2:Ni ky lo (arrOf st2) (n+1)) (hn2:n+1<=nrem):wpS M A E s (cD lo n nrem) Q st2:=by
 unfold cD
 refine wpS_bind (wpS_lift (cU ⟨rfl,?_⟩))
 refine ec' (fun x c st'=>CsP ky st0 lo nrem x (.yield c) st') (fun c st'=>CsP ky st0 lo nrem 0 (.done c) st') ⟨0,rfl,B2,N2,⋯,fun i h1 h2=>by congr 1;omega⟩ ?_ ?_ ?_
 .rintro x c st3 hx1 hx2 ⟨e,rfl,B3,N3,he,heq⟩
  exact wpS_mono (zl' (x:=x) (e:=e) C kst pa hn ⋯ hx2 B3 N3 he heq) fun r st' hh=>by cases r<;>exact hh
 .rintro c st3 ⟨e,rfl,B3,N3,he,heq⟩
  exact⟨_,e,rfl,⋯,⋯,B3,N3,he,heq⟩
 .rintro c st3 ⟨x,e,rfl,hx1,hx2,B3,N3,he,heq⟩
  have hz3:lo+x<=(arrOf st3).size:=by rw[B3.size];omega
  show wpS M A E s (if e > 0 then _ else _) _ _
  by_cases hq:e > 0
  .rw[if_pos hq]
   refine wpS_bind (gf' ?_)
   have hk:=qB' hz3 he heq
   refine vR' (x:=x) C kst pa hn h (B3.mirror (i:=lo+x-(e+1)) (j:=lo+x) ⋯) (fun i j hij hj=>?_) hx1 hx2
   show O.kle (ke ky (mirror (arrOf st3) _ _ _) _) (ke ky (mirror (arrOf st3) _ _ _) _)
   rw[hk,hk]
   exact N3 i j hij hj
  .rw[if_neg hq]
   exact vR' C kst pa hn h B3 N3 hx1 hx2
theorem iN' (C:Cmp M A E s O ky P kd) {Q:Option Nat->SortSt->Prop} (kst:kindOf st0=kd) (pa:∀p∈(arrOf st0).toList,P p) (hn:lo+nrem<=(arrOf st0).size) (h1:1<=nrem)
  (h:∀m st',Sb st0 lo st'->1<=m->m<=nrem->Si ky lo (arrOf st') m->Q (some m) st'):wpS M A E s (countRun' lo nrem) Q st0:=by
 rw[ha']
 unfold cM
 have B0:=Sb.rfl' st0 lo
 refine jy' C kst pa hn (aj 1) h1 B0 (fun i j hij hj=>by have e:i=j:=⋯;subst e;exact KeyOrd.kle_refl _) fun n hn1 hn2 S1 hor=>?_
 dsimp only
 by_cases c1:n=nrem
 .rw[if_pos (by simpa using c1)]
  exact wpS_pure (h n st0 B0 hn1 hn2 S1)
 rw[if_neg (by simpa using c1)]
 have hlt:=hor.resolve_left c1
 by_cases c2:n > 1
 .rw[if_pos c2]
  refine wpS_bind (B0.lt C kst pa ⋯ ⋯ ?_)
  rw[show lo+n-1=lo+(n-1) by omega]
  cases hb:O.blt (ke ky (arrOf st0) lo) (ke ky (arrOf st0) (lo+(n-1)))
  .dsimp only
   simp only[aT,if_false]
   have hz:lo+n<=(arrOf st0).size:=by omega
   have hall:∀k,k<n->ke ky (arrOf st0) (lo+k)=ke ky (arrOf st0) (lo+(n-1)):=fun k hk=>
    KeyOrd.kle_antisymm (S1 k (n-1) ⋯ ⋯) (KeyOrd.kle_trans hb (S1 0 k ⋯ hk))
   refine wpS_bind (gf' ?_)
   have B2:=B0.mirror (i:=lo) (j:=lo+n) (aj _)
   have N2:Ni ky lo (arrOf (setArr st0 (mirror (arrOf st0) lo (lo+n) ((lo+n-lo) / 2)))) (n+1):=fun i j hij hj=>by
    have hk:∀k,ke ky (mirror (arrOf st0) lo (lo+n) ((lo+n-lo) / 2)) k=ke ky (arrOf st0) k:=fun k=>by
     rw[dR' hz]
     split
     .have u1:=hall (lo+(lo+n)-1-k-lo) ⋯
      have u2:=hall (k-lo) ⋯
      rw[show lo+(lo+(lo+n)-1-k-lo)=lo+(lo+n)-1-k by omega]at u1
      rw[show lo+(k-lo)=k by omega]at u2
      rw[u1,u2]
     .rfl
    show O.kle (ke ky (mirror (arrOf st0) _ _ _) _) (ke ky (mirror (arrOf st0) _ _ _) _)
    rw[hk,hk]
    by_cases hj2:j<n
    .rw[hall i ⋯,hall j hj2];exact KeyOrd.kle_refl _
    .have e:j=n:=by omega
     subst e
     by_cases hi2:i=j
     .subst hi2;exact KeyOrd.kle_refl _
     .rw[hall i ⋯];exact KeyOrd.kle_of_klt hlt
   exact vS' C kst pa hn h B2 N2 ⋯
  .dsimp only
   simp only[if_true]
   exact wpS_pure (h n st0 B0 hn1 hn2 S1)
 .rw[if_neg c2]
  have e:n=1:=by omega
  subst e
  have B2:=B0
  have N2:Ni ky lo (arrOf st0) (1+1):=fun i j hij hj=>by
   by_cases hi2:i=j
   .subst hi2;exact KeyOrd.kle_refl _
   .have e1:i=0:=by omega
    have e2:j=1:=by omega
    subst e1;subst e2
    exact KeyOrd.kle_of_klt hlt
  exact vS' C kst pa hn h B2 N2 ⋯
end
end So
namespace So
open PySem PySem.Spec PyProof.Rows
section
variable {M:Model} {A:Around} {E:Value->Shared->Prop} {s:Shared} {O:KeyOrd} {ky:Keyed->O.α} {P:Keyed->Prop} {kd:SortKind} {st0:SortSt} {lo nrem:Nat}
theorem gg' (C:Cmp M A E s O ky P kd) {st:SortSt} {n ok:Nat} {Q:Bool->SortSt->Prop} (kst:kindOf st0=kd) (pa:∀p∈(arrOf st0).toList,P p) (hn:lo+n<=(arrOf st0).size) (hok:ok<=n) (B:Sb st0 lo st)
  (S:Si ky lo (arrOf st) ok) (h:∀st',Sb st0 lo st'->Si ky lo (arrOf st') n->Q true st'):wpS M A E s (binarySort' lo n ok) Q st:=by
 rw[binarySort'_eq]
 refine ec' (fun k c st'=>c=(none,())/\Sb st0 lo st'/\Si ky lo (arrOf st') (min k n)) (fun c st'=>c=(none,())/\Sb st0 lo st'/\Si ky lo (arrOf st') n) ⟨rfl,B,fun i j hij hj=>?_⟩ ?_ ?_ ?_
 .by_cases c:ok=0
  .have e:i=j:=by omega
   subst e;exact KeyOrd.kle_refl _
  .exact S i j hij ⋯
 .rintro k c st1 hk1 hk2 ⟨rfl,B1,S1⟩
  rw[show min k n=k by omega]at S1
  have hz:lo+k<(arrOf st1).size:=by rw[B1.size];omega
  refine ec' (fun x c st'=>st1=st'/\∃l r,c=(none,l,r)/\l<=r/\r<=k/\r-l<=k-x/\(∀i,i<l->O.kle (ke ky (arrOf st1) (lo+i)) (ke ky (arrOf st1) (lo+k)))/\(∀i,r<=i->i<k->O.klt (ke ky (arrOf st1) (lo+k)) (ke ky (arrOf st1) (lo+i))))
   (fun c st'=>st1=st'/\∃l,c=(none,l,l)/\l<=k/\(∀i,i<l->O.kle (ke ky (arrOf st1) (lo+i)) (ke ky (arrOf st1) (lo+k)))/\(∀i,l<=i->i<k->O.klt (ke ky (arrOf st1) (lo+k)) (ke ky (arrOf st1) (lo+i))))
   ⟨rfl,0,k,rfl,⋯,⋯,⋯,fun i hi=>by omega,fun i h1 h2=>by omega⟩ ?_ ?_ ?_
  .rintro x c st2 _ hx ⟨rfl,l,r,rfl,a1,a2,a3,a4,a5⟩
   dsimp only
   by_cases g:l ≥ r
   .rw[if_pos g]
    have e:l=r:=by omega
    subst e
    exact wpS_pure ⟨rfl,l,rfl,a2,a4,a5⟩
   .rw[if_neg g]
    refine wpS_bind (B1.lt C kst pa ⋯ ⋯ ?_)
    cases hb:O.blt (ke ky (arrOf st1) (lo+k)) (ke ky (arrOf st1) (lo+(l+r) / 2))
    .dsimp only
     simp only[aT,if_false]
     exact wpS_pure ⟨rfl,(l+r) / 2+1,r,rfl,⋯,a2,⋯,fun i h1=>KeyOrd.kle_trans (S1 i ((l+r) / 2) ⋯ ⋯) hb,a5⟩
    .dsimp only
     simp only[if_true]
     exact wpS_pure ⟨rfl,l,(l+r) / 2,rfl,⋯,⋯,⋯,a4,fun i h1 h2=>KeyOrd.klt_of_klt_of_kle hb (S1 _ _ h1 h2)⟩
  .rintro c st2 ⟨rfl,l,r,rfl,a1,a2,a3,a4,a5⟩
   have e:l=r:=by omega
   subst e
   exact⟨rfl,l,rfl,a2,a4,a5⟩
  .rintro c st2 ⟨rfl,l,rfl,a2,a4,a5⟩
   dsimp only
   rw[moveDown'_eq]
   refine wpS_bind (wpS_modify (wpS_pure ⟨rfl,B1.bubble hz ⋯ ⋯,?_⟩))
   rw[show min (k+1) n=k+1 by omega]
   intro i j hij hj
   show O.kle (ke ky (bubble (arrOf st1) (lo+k) (lo+k-(lo+l))) (lo+i)) (ke ky (bubble (arrOf st1) (lo+k) (lo+k-(lo+l))) (lo+j))
   rw[hh' hz ⋯,hh' hz ⋯,show lo+k-(lo+k-(lo+l))=lo+l by omega]
   have f:∀m,lo+l<lo+m->lo+m-1=lo+(m-1):=fun m _=>by omega
   by_cases i1:i=l
   .subst i1
    rw[if_pos rfl]
    by_cases j1:j=i
    .subst j1;rw[if_pos rfl];exact KeyOrd.kle_refl _
    .rw[if_neg ⋯,if_pos ⋯,f j ⋯]
     exact KeyOrd.kle_of_klt (a5 _ ⋯ ⋯)
   .rw[if_neg ⋯]
    by_cases i2:l<i
    .rw[if_pos ⋯,if_neg ⋯,if_pos ⋯,f i ⋯,f j ⋯]
     exact S1 _ _ ⋯ ⋯
    .rw[if_neg ⋯]
     by_cases j1:j=l
     .subst j1;rw[if_pos rfl];exact a4 i ⋯
     .rw[if_neg ⋯]
      by_cases j2:l<j
      .rw[if_pos ⋯,f j ⋯]
       exact S1 _ _ ⋯ ⋯
      .rw[if_neg ⋯]
       exact S1 _ _ hij ⋯
 .rintro c st1 ⟨rfl,B1,S1⟩
  rw[show min (max (max ok 1) n) n=n by omega]at S1
  exact⟨rfl,B1,S1⟩
 .rintro c st1 ⟨rfl,B1,S1⟩
  exact wpS_pure (h st1 B1 S1)
end
end So
namespace So
open PySem PySem.Spec PyProof.Rows
def sP (lo n:Nat):StateT SortSt Sem (ForInStep (Option Unit×Nat)):=do
 modify fun s=>setPending s ((pendingOf s).push (lo,n,0))
 pure (ForInStep.yield (none,lo+n))
def sT (z lo n:Nat):StateT SortSt Sem (ForInStep (Option Unit×Nat)):=do
 let st <- get
 match (pendingOf st).back? with
 |some (s1,n1,_)=>do
  let r <- forIn [0:z] ((none,()):Option Unit×Unit) fun _ _=>do
   let st <- get
   match (if(pendingOf st).size > 1 then(pendingOf st)[(pendingOf st).size-2]? else none)with
   |some (_,_,older)=>(if older<=power' z (2*s1+n1) (2*s1+n1+n1+n) z then pure (ForInStep.done (none,()))else mergeAt' ((pendingOf st).size-2) >>= fun b=>if(!b)=true then pure (ForInStep.done (some (),()))else pure (ForInStep.yield (none,())))
   |_=>pure (ForInStep.done (none,()))
  match r.1 with
  |some v=>pure (ForInStep.done (some v,lo))
  |none=>do
   modify fun s=>setPending s ((pendingOf s).modify ((pendingOf s).size-1) fun(x:Nat×Nat×Nat)=>(x.1,x.2.1,power' z (2*s1+n1) (2*s1+n1+n1+n) z))
   sP lo n
 |_=>sP lo n
def sB (z mr lo:Nat):StateT SortSt Sem (ForInStep (Option Unit×Nat)):=
 if lo ≥ z then pure (ForInStep.done (none,lo))else countRun' lo (z-lo) >>= fun x=>match x with
  |some m=>if m<mr then(liftM (rule "list.sort.binary-insertion") >>= fun(_:Unit)=>binarySort' lo (min (z-lo) mr) m >>= fun b=>if(!b)=true then pure (ForInStep.done (some (),lo))else sT z lo (min (z-lo) mr))else sT z lo m
  |_=>pure (ForInStep.done (some (),lo))
def sC (z:Nat):StateT SortSt Sem (ForInStep (Option Unit×Unit)):=do
 let st <- get
 if(pendingOf st).size<=1 then pure (ForInStep.done (none,()))
 else mergeAt' (if(if(pendingOf st).size-2 > 0 then((pendingOf st)[(pendingOf st).size-2-1]?).map (·.2.1)else none).any (fun x=>decide (x<((pendingOf st)[(pendingOf st).size-2+1]?.elim 0 (·.2.1))))=true then(pendingOf st).size-2-1 else(pendingOf st).size-2) >>= fun b=>
  if(!b)=true then pure (ForInStep.done (some (),()))else pure (ForInStep.yield (none,()))
def sM:StateT SortSt Sem Unit:=do
 let st <- get
 let r <- forIn [0:(arrOf st).size] ((none,0):Option Unit×Nat) fun _ r=>sB (arrOf st).size (minRun' (arrOf st).size (arrOf st).size 0) r.2
 match r.1 with
 |some v=>pure v
 |none=>do
  let u <- forIn [0:(arrOf st).size] ((none,()):Option Unit×Unit) fun _ _=>sC (arrOf st).size
  match u.1 with
  |some v=>pure v
  |none=>pure ()
theorem hr':sortRuns'=sM:=by
 refine sortRuns'_eq.trans ?_
 refine aq' fun st=>bx' (fun n c=>?_) fun c=>?_
 .refine bI' rfl (aq' fun x=>?_)
  cases x with
  |none=>rfl
  |some m=>
   refine bI' (aq' fun _=>aq' fun b=>bI' rfl (aq' fun st2=>?_)) (aq' fun st2=>?_)
   .cases h:(pendingOf st2).back? with
    |none=>rfl
    |some p=>
     obtain⟨s1,n1,w⟩:=p
     refine bx' (fun n c=>aq' fun st3=>?_) fun c=>?_
     .dsimp only
      cases(if(pendingOf st3).size > 1 then(pendingOf st3)[(pendingOf st3).size-2]? else none)<;>rfl
     .obtain⟨c0,c1⟩:=c
      cases c0<;>rfl
   .cases h:(pendingOf st2).back? with
    |none=>rfl
    |some p=>
     obtain⟨s1,n1,w⟩:=p
     refine bx' (fun n c=>aq' fun st3=>?_) fun c=>?_
     .dsimp only
      cases(if(pendingOf st3).size > 1 then(pendingOf st3)[(pendingOf st3).size-2]? else none)<;>rfl
     .obtain⟨c0,c1⟩:=c
      cases c0<;>rfl
 .obtain⟨c0,c1⟩:=c
  cases c0
  .refine bx' (fun n c=>rfl) fun c=>?_
   obtain⟨c0,c1⟩:=c
   cases c0<;>rfl
  .rfl
section
variable {M:Model} {A:Around} {E:Value->Shared->Prop} {s:Shared} {O:KeyOrd} {ky:Keyed->O.α} {P:Keyed->Prop} {kd:SortKind} {st0:SortSt} {lo nrem:Nat}
theorem Sb.split {U T:List Keyed} {st:SortSt} {n:Nat} (B:Sb st0 lo st) (e:(arrOf st0).toList=U++T) (hl:U.length=lo) (hn:lo+n<=(arrOf st0).size) (S:Si ky lo (arrOf st) n):
  ∃l T',(arrOf st).toList=U++(l++T')/\l.length=n/\l.Pairwise (Rk O ky):=by
 have hz:(arrOf st).toList.length=(arrOf st0).size:=by rw[aC];exact B.size
 have eU:(arrOf st).toList.take lo=U:=by
  apply cw
  intro i
  by_cases hi:i<lo
  .rw[List.getElem?_take_of_lt hi]
   have h1:=B.same i hi
   have h2:(arrOf st0).toList[i]?=U[i]?:=by rw[e,cr ⋯]
   rw[<- h2];simpa using h1
  .rw[bV (by rw[aJ];omega),bV ⋯]
 refine⟨((arrOf st).toList.drop lo).take n,(arrOf st).toList.drop (lo+n),?_,by rw[aJ,cG];omega,?_⟩
 .rw[<- eU,<- mt',bj]
 .rw[bQ]
  intro i j hi hj hij
  have hj':j<n:=by rw[aJ]at hj;omega
  have:=S i j ⋯ hj'
  have a1:(arrOf st)[lo+i]?=some (((arrOf st).toList.drop lo).take n)[i]:=by
   rw[List.getElem_take,cV,aM (by simp at hz;omega)];simp
  have a2:(arrOf st)[lo+j]?=some (((arrOf st).toList.drop lo).take n)[j]:=by
   rw[List.getElem_take,cV,aM (by simp at hz;omega)];simp
  rw[pa' a1,pa' a2]at this
  exact this
end
end So
namespace So
open PySem PySem.Spec PyProof.Rows
section
variable {M:Model} {A:Around} {E:Value->Shared->Prop} {s:Shared} {O:KeyOrd} {ky:Keyed->O.α} {P:Keyed->Prop} {kd:SortKind}
theorem kO' {n:Nat} (h:n<64):minRun' n n 0=n:=by
 cases n with
 |zero=>rfl
 |succ n=>rw[minRun'_succ,if_pos h,Nat.add_zero]
theorem ht' (C:Cmp M A E s O ky P kd) {a0:Array Keyed} {st:SortSt} {Q:Unit->SortSt->Prop} (h64:a0.size<64) (ha:arrOf st=a0) (hk:kindOf st=kd) (hf:failedOf st=none) (hp:pendingOf st=#[]) (pa:∀p∈a0.toList,P p)
  (h:∀st',(arrOf st').toList.Perm a0.toList->(arrOf st').toList.Pairwise (Rk O ky)->failedOf st'=none->Q () st'):wpS M A E s sortRuns' Q st:=by
 rw[hr']
 refine wpS_bind (wpS_get ?_)
 rw[ha,kO' h64]
 have fin:∀st',((arrOf st').toList.Perm a0.toList/\(arrOf st').toList.Pairwise (Rk O ky)/\failedOf st'=none/\(pendingOf st').size<=1)->∀(c:Option Unit×Nat),c.1=none->wpS M A E s (match c.1 with
   |some v=>pure v
   |none=>do
    let u <- forIn [0:a0.size] ((none,()):Option Unit×Unit) fun _ _=>sC a0.size
    match u.1 with
    |some v=>pure v
    |none=>pure ()) Q st':=by
  intro st' ⟨h1,h2,h3,h4⟩ c hc
  rw[hc]
  dsimp only
  refine ec' (fun x c st2=>c=(none,())/\st2=st') (fun c st2=>c=(none,())/\st2=st') ⟨rfl,rfl⟩ ?_ (fun _ _ hh=>hh) ?_
  .rintro x c st2 _ _ ⟨rfl,rfl⟩
   unfold sC
   refine wpS_bind (wpS_get ?_)
   rw[if_pos h4]
   exact wpS_pure ⟨rfl,rfl⟩
  .rintro c st2 ⟨rfl,rfl⟩
   exact wpS_pure (h st2 h1 h2 h3)
 refine ec' (fun x c st'=>(x=0/\c=(none,0)/\st'=st)\/(c=(none,a0.size)/\(arrOf st').toList.Perm a0.toList/\(arrOf st').toList.Pairwise (Rk O ky)/\failedOf st'=none/\(pendingOf st').size<=1))
  (fun c st'=>c.1=none/\(arrOf st').toList.Perm a0.toList/\(arrOf st').toList.Pairwise (Rk O ky)/\failedOf st'=none/\(pendingOf st').size<=1) (.inl ⟨rfl,rfl,rfl⟩) ?_ ?_ (fun c st' ⟨hc,hh⟩=>fin st' hh c hc)
 .rintro x c st1 _ hx (⟨rfl,rfl,rfl⟩|⟨rfl,hh⟩)
  .show wpS M A E s (sB a0.size a0.size 0) _ _
   have hsz:(arrOf st1).size=a0.size:=by rw[ha]
   unfold sB
   rw[if_neg ⋯]
   have tl:∀{st3:SortSt},Sb st1 0 st3->Si ky 0 (arrOf st3) a0.size->wpS M A E s (sT a0.size 0 a0.size) (fun r st'=>match r with
     | .done c'=>c'.1=none/\(arrOf st').toList.Perm a0.toList/\(arrOf st').toList.Pairwise (Rk O ky)/\failedOf st'=none/\(pendingOf st').size<=1
     | .yield c'=>(0+1=0/\c'=(none,0)/\st'=st1)\/(c'=(none,a0.size)/\(arrOf st').toList.Perm a0.toList/\(arrOf st').toList.Pairwise (Rk O ky)/\failedOf st'=none/\(pendingOf st').size<=1)) st3:=by
    intro st3 B3 S3
    unfold sT
    refine wpS_bind (wpS_get ?_)
    have hpe:pendingOf st3=#[]:=by rw[B3.pend];exact hp
    rw[hpe]
    show wpS M A E s (sP 0 a0.size) _ _
    obtain⟨l,T',ar3,ll,ls⟩:=B3.split (U:=[]) (T:=(arrOf st1).toList) rfl rfl (n:=a0.size) ⋯ S3
    have hT:T'=[]:=by
     have h2:=congrArg List.length ar3
     rw[aC,B3.size,hsz]at h2
     simp at h2
     exact List.eq_nil_of_length_eq_zero ⋯
    subst hT
    refine wpS_bind (wpS_modify (wpS_pure (.inr ⟨by rw[Nat.zero_add],?_,?_,B3.fail.trans hf,?_⟩)))
    .show(arrOf st3).toList.Perm a0.toList
     rw[<- ha]
     exact Array.perm_iff_toList_perm.mp B3.perm
    .show(arrOf st3).toList.Pairwise (Rk O ky)
     rw[ar3]
     simpa using ls
    .show((pendingOf st3).push _).size<=1
     rw[hpe]
     exact aj _
   have pa1:∀p∈(arrOf st1).toList,P p:=by rw[ha];exact pa
   refine wpS_bind (iN' C hk pa1 ⋯ ⋯ fun m st2 B2 hm1 hm2 S2=>?_)
   show wpS M A E s (if m<a0.size then _ else _) _ _
   by_cases c2:m<a0.size
   .rw[if_pos c2]
    refine wpS_bind (wpS_lift (cU ⟨rfl,?_⟩))
    refine wpS_bind (gg' C hk pa1 (n:=min (a0.size-0) a0.size) ⋯ ⋯ B2 S2 fun st3 B3 S3=>?_)
    have e:min (a0.size-0) a0.size=a0.size:=by omega
    rw[e]at S3 ⊢
    exact wpS_mono (tl B3 S3) fun r st' hh=>by cases r<;>exact hh
   .rw[if_neg c2]
    have e:m=a0.size:=by omega
    subst e
    exact wpS_mono (tl B2 S2) fun r st' hh=>by cases r<;>exact hh
  .show wpS M A E s (sB a0.size a0.size a0.size) _ _
   unfold sB
   rw[if_pos (aj _)]
   exact wpS_pure ⟨rfl,hh⟩
 .rintro c st1 (⟨hx,rfl,rfl⟩|⟨rfl,hh⟩)
  .have h0:a0.size=0:=by omega
   have ht:(arrOf st1).toList=[]:=by rw[ha];exact List.eq_nil_of_length_eq_zero (by rw[aC];exact h0)
   refine⟨rfl,by rw[ha],by rw[ht];exact .nil,hf,by rw[hp];exact aP _⟩
  .exact⟨rfl,hh⟩
end
end So
namespace L2
open PySem PySem.Spec PyProof.Rows So
section
variable {prog:Program} {w:World} {A:Around} {E:Value->Shared->Prop} {s:Shared}
def yA' (prog:Program) (w:World) (h0:Heap) (a:Addr) (vs:List Value) (O:KeyOrd) (kv:Value->O.α):Prop:=
 2<=vs.length->∃κ:SortKind,∀(A:Around) (s:Shared),(∀b o,b≠a->h0.get? b=some o->s.heap.get? b=some o)->
  (∀(E:Value->Shared->Prop) (Q:SortKind->Shared->Prop),Q κ s->wpAny (model prog w) A (keyKind' vs.toArray) Q E s)/\
  ∀x y,x∈vs->y∈vs->∀(E:Value->Shared->Prop) (Q:Bool->Shared->Prop),Q (O.blt (kv x) (kv y)) s->wpAny (model prog w) A (keyLt' κ x y) Q E s
theorem sW' {O:KeyOrd} {kv:Value->O.α} {κ:SortKind} {vs:List Value} (h:∀x y,x∈vs->y∈vs->∀(E:Value->Shared->Prop) (Q:Bool->Shared->Prop),Q (O.blt (kv x) (kv y)) s->wpAny (model prog w) A (keyLt' κ x y) Q E s):
  Cmp (model prog w) A E s O (fun p=>kv p.1) (fun p=>p.1∈vs) κ:=by
 refine⟨fun {x y st Q} hx hy hk q=>?_⟩
 rw[lt'_eq]
 refine wpS_bind (wpS_get ?_)
 rw[hk]
 refine wpS_bind (wpS_lift (wpAny_attempt (h x.1 y.1 hx hy _ _ ⟨rfl,?_⟩)))
 exact wpS_pure q
theorem pb' {O:KeyOrd} {kv:Value->O.α} {a:Addr} {vs:List Value} {n:Nat} {P:Fin->Shared->Prop} (ho:s.heap.get? a=some (seqObj "list" vs.toArray n)) (hu:yA' prog w s.heap a vs O kv) (hz:vs.length<=sizeLine)
  (run:∀(s':Shared) (κ:SortKind),Cmp (model prog w) A E s' O (fun p=>kv p.1) (fun p=>p.1∈vs) κ->wpS (model prog w) A E s' sortRuns' (fun _ st'=>(arrOf st').toList.Perm (pairsOf vs).toList/\(arrOf st').toList.Pairwise (Rk O fun p=>kv p.1)/\failedOf st'=none) (SortSt.mk' κ (pairsOf vs) #[] 7 none))
  (h:∀out:List Value,out.Perm vs->(out.Pairwise fun x y=>O.kle (kv x) (kv y))->P (.done (.ret .none)) { s with heap:=sortedHeap s.heap a vs out.toArray }):wpAny (model prog w) A (Builtin.«list.sort» ⟨[.ref a],[]⟩) P E s:=by
 rw[list_sort_plain]
 have ha:a<s.heap.objs.size:=aq ho
 refine aa (listItems_at ho rfl (aa (listUpdate_at ho rfl ?_)))
 obtain⟨e1,ho1⟩:∃e1,(s.heap.update a (Obj.mapSeq fun _=>#[])).get? a=some (seqObj "list" #[] e1):=⟨_,get?_update_seq ho (fun _=>#[])⟩
 refine aa (seqEpoch_at ho1 rfl (aa (wpAny_newTuple (aa (wpAny_newList (aX ?_))))))
 have ho6:(((s.heap.update a (Obj.mapSeq fun _=>#[])).push (seqObj "tuple" vs.toArray 0)).push (seqObj "list" #[] 0)).get? a=some (seqObj "list" #[] e1):=by
  rw[Heap.get?_push_ne _ _ _ (by rw[size_push',Heap.size_update];exact az (bL ha)),Heap.get?_push_ne _ _ _ (by rw[Heap.size_update];exact az ha)]
  exact ho1
 have keep:∀b o,b≠a->s.heap.get? b=some o->(((s.heap.update a (Obj.mapSeq fun _=>#[])).push (seqObj "tuple" vs.toArray 0)).push (seqObj "list" #[] 0)).get? b=some o:=fun b o hb q=>by
  have hlt:b<s.heap.objs.size:=aq q
  rw[Heap.get?_push_ne _ _ _ (by rw[size_push',Heap.size_update];exact az (bL hlt)),Heap.get?_push_ne _ _ _ (by rw[Heap.size_update];exact az hlt),Heap.get?_update_ne _ _ _ _ hb]
  exact q
 show wpAny (model prog w) A _ P E { s with heap:=((s.heap.update a (Obj.mapSeq fun _=>#[])).push (seqObj "tuple" vs.toArray 0)).push (seqObj "list" #[] 0) }
 dsimp only
 by_cases h2:vs.toArray.size<2
 .rw[if_pos h2,if_pos h2]
  refine aa (am ?_)
  rw[StateT.run_pure]
  refine aa (am ?_)
  dsimp only
  refine aa (seqEpoch_at ho6 rfl (aa (listUpdate_at ho6 rfl ?_ (hsz2:=by rw[Array.size_map];show(pairsOf vs).size<=_;rw[pairsOf_size];exact Nat.le_succ_of_le hz))))
  simp only[bne_self_eq_false,aT,if_false]
  refine am ?_
  have e2:(pairsOf vs).map (·.2)=vs.toArray:=by
   apply Array.toList_inj.mp
   rw[Array.toList_map,pairsOf_toList,List.map_snd_zip (aj _)]
  have fin:=h vs (List.Perm.refl _) (by
   match vs,h2 with
   | [],_=>exact .nil
   | [x],_=>simp
   |_ :: _ :: _,h2=>simp at h2;omega)
  rw[<- e2]at fin
  exact fin
 .rw[if_neg h2,if_neg h2]
  have h2':2<=vs.length:=by rw[ao]at h2;omega
  obtain⟨κ,hκ⟩:=hu h2'
  obtain⟨k1,k2⟩:=hκ A { s with heap:=((s.heap.update a (Obj.mapSeq fun _=>#[])).push (seqObj "tuple" vs.toArray 0)).push (seqObj "list" #[] 0) } keep
  refine aa (k1 _ _ ?_)
  refine aa (df (run _ κ (sW' k2)) ?_ fun _ _ e=>e)
  rintro⟨⟨⟩,st'⟩ s' ⟨rfl,hp,hs,hf⟩
  dsimp only
  have hl:(arrOf st').size=vs.length:=by
   have:=hp.length_eq
   rw[aC,aC,pairsOf_size]at this
   exact this
  refine aa (seqEpoch_at ho6 rfl (aa (listUpdate_at ho6 rfl ?_ (hsz2:=by rw[Array.size_map];show(arrOf st').size<=_;rw[hl];exact Nat.le_succ_of_le hz))))
  rw[hf]
  simp only[bne_self_eq_false,aT,if_false]
  refine am ?_
  have hm:∀p,p∈(arrOf st').toList->p.1=p.2:=fun p hp'=>(mem_zip_self (by rw[<- pairsOf_toList];exact hp.mem_iff.mp hp')).1
  have fin:=h ((arrOf st').toList.map (·.2)) (by
   have:=hp.map (·.2)
   rw[pairsOf_toList,List.map_snd_zip (aj _)]at this
   exact this) (by
   rw[cX]
   refine List.Pairwise.imp_of_mem (fun {x y} hx hy r=>?_) hs
   rw[<- hm x hx,<- hm y hy]
   exact r)
  have e3:((arrOf st').toList.map (·.2)).toArray=(arrOf st').map (·.2):=by
   apply Array.toList_inj.mp
   rw[Array.toList_map]
  rw[e3]at fin
  exact fin
theorem pc' {O:KeyOrd} {kv:Value->O.α} {a:Addr} {vs:List Value} {n:Nat} {P:Fin->Shared->Prop} (ho:s.heap.get? a=some (seqObj "list" vs.toArray n)) (hu:yA' prog w s.heap a vs O kv) (hz:vs.length<64)
  (h:∀out:List Value,out.Perm vs->(out.Pairwise fun x y=>O.kle (kv x) (kv y))->P (.done (.ret .none)) { s with heap:=sortedHeap s.heap a vs out.toArray }):wpAny (model prog w) A (Builtin.«list.sort» ⟨[.ref a],[]⟩) P E s:=
 pb' ho hu (aN (bE hz) (by decide)) (fun s' κ C=>ht' C (a0:=pairsOf vs) (by rw[pairsOf_size];exact hz) rfl rfl rfl rfl (fun p hp=>by rw[pairsOf_toList]at hp;exact(mem_zip_self hp).2) fun st' a1 a2 a3=>⟨a1,a2,a3⟩) h
end
abbrev Itm:Type:=Int ⊕ PySem.Str
def mu':Itm->Itm->Bool
 | .inl i,.inl j=>decide (i<j)
 | .inl _,.inr _=>true
 | .inr _,.inl _=>false
 | .inr x,.inr y=>decide (x.cps.toList<y.cps.toList)
def br':List Itm->List Itm->Bool
 | [],[]=>false
 | [],_ :: _=>true
 |_ :: _,[]=>false
 |a :: l,b :: m=>if a=b then br' l m else mu' a b
theorem mv' {x y:PySem.Str} (h:x.cps.toList=y.cps.toList):x=y:=by
 cases x;cases y;congr 1;exact Array.toList_inj.mp h
theorem iO' (a:Itm):mu' a a=false:=by cases a<;>simp[mu',List.lt_irrefl]
theorem kP' {a b c:Itm} (h1:mu' a b=true) (h2:mu' b c=true):mu' a c=true:=by
 cases a<;>cases b<;>cases c<;>simp only[mu',decide_eq_true_eq,aT]at *<;>first|omega|exact List.lt_trans h1 h2
theorem kQ' {a b:Itm} (h1:mu' a b=false) (h2:mu' b a=false):a=b:=by
 cases a<;>cases b<;>simp only[mu',decide_eq_false_iff_not,Bool.true_eq_false]at *
 .congr 1;omega
 .congr 1;exact mv' (List.le_antisymm (List.not_lt.mp h2) (List.not_lt.mp h1))
theorem el':∀a:List Itm,br' a a=false
 | []=>rfl
 |a :: l=>by rw[br',if_pos rfl];exact el' l
theorem dq':∀{a b c:List Itm},br' a b=true->br' b c=true->br' a c=true
 | [],[],_,h,_=>by simp[br']at h
 | [],_ :: _,[],_,h=>by simp[br']at h
 | [],_ :: _,_ :: _,_,_=>rfl
 |_ :: _,[],_,h,_=>by simp[br']at h
 |_ :: _,_ :: _,[],_,h=>by simp[br']at h
 |a :: l,b :: m,c :: n,h1,h2=>by
  rw[br']at h1 h2 ⊢
  by_cases e1:a=b
  .subst e1
   rw[if_pos rfl]at h1
   by_cases e2:a=c
   .subst e2;rw[if_pos rfl]at h2 ⊢;exact dq' h1 h2
   .rw[if_neg e2]at h2 ⊢;exact h2
  .rw[if_neg e1]at h1
   by_cases e2:b=c
   .subst e2;rw[if_neg e1];exact h1
   .rw[if_neg e2]at h2
    have h3:=kP' h1 h2
    by_cases e3:a=c
    .subst e3;rw[iO']at h3;cases h3
    .rw[if_neg e3];exact h3
theorem dr':∀{a b:List Itm},br' a b=false->br' b a=false->a=b
 | [],[],_,_=>rfl
 | [],_ :: _,h,_=>by simp[br']at h
 |_ :: _,[],_,h=>by simp[br']at h
 |a :: l,b :: m,h1,h2=>by
  rw[br']at h1 h2
  by_cases e:a=b
  .subst e
   rw[if_pos rfl]at h1 h2
   rw[dr' h1 h2]
  .rw[if_neg e]at h1
   rw[if_neg (Ne.symm e)]at h2
   exact absurd (kQ' h1 h2) e
theorem mw' {a b c:List Itm} (h:br' a c=true):br' a b=true\/br' b c=true:=by
 cases h1:br' a b
 .cases h2:br' b c
  .cases h3:br' b a
   .have:=dr' h1 h3;subst this;rw[h2]at h;cases h
   .have:=dq' h3 h;rw[h2]at this;cases this
  .exact .inr rfl
 .exact .inl rfl
def qC':KeyOrd:=⟨List Itm,br',el',fun _ _ _=>dq',fun _ _ _=>mw',fun _ _=>dr'⟩
def uH':Itm->Value->Prop
 | .inl i,v=>∃t,v=.int i t
 | .inr x,v=>∃t,v=.str x t
inductive ItsAre:List Value->List Itm->Prop
 |nil:ItsAre [] []
 |cons {v:Value} {a:Itm} {vs:List Value} {l:List Itm}:uH' a v->ItsAre vs l->ItsAre (v :: vs) (a :: l)
theorem ItsAre.len:∀{vs:List Value} {l:List Itm},ItsAre vs l->vs.length=l.length
 |_,_,.nil=>rfl
 |_,_,.cons _ r=>by simp[r.len]
def shp (l:List Itm):List Bool:=l.map Sum.isLeft
def Tps (h:Heap) (q:Addr×List Itm):Prop:=∃o xs n,h.get? q.1=some o/\o.cls=.type "tuple"/\o.data=.seq xs n/\ItsAre xs.toList q.2
section
variable {prog:Program} {w:World} {A:Around} {E:Value->Shared->Prop} {s:Shared}
theorem vT' {p q:Value} {b:Bool} {a c:Itm} {Q:Bool->Shared->Prop} (h1:uH' a p) (h2:uH' c q) (hs:a.isLeft=c.isLeft) (h:Q (mu' a c) s):wpAny (model prog w) A (oneLt' b p q) Q E s:=by
 cases a<;>cases c<;>simp at hs
 .obtain⟨t,rfl⟩:=h1;obtain⟨u,rfl⟩:=h2
  cases b
  .exact W.kat_one _ _ (PyProof.Rows.lt_int h)
  .exact oneLt_int h
 .obtain⟨t,rfl⟩:=h1;obtain⟨u,rfl⟩:=h2
  cases b
  .exact W.kat_one _ _ (PyProof.Rows.lt_str h)
  .exact oneLt_str h
set_option tactic.hygienic true in
theorem zm' {p q:Value} {a c:Itm} {Q:Bool->Shared->Prop} (h1:uH' a p) (h2:uH' c q) (hs:a.isLeft=c.isLeft) (h:Q (decide (a=c)) s):wpAny (model prog w) A (eqBool p q) Q E s:=by
 cases a<;>cases c<;>simp at hs
 .obtain⟨t,rfl⟩:=h1;obtain⟨u,rfl⟩:=h2
  refine wpAny_eqBool_int ?_
  rename_i i j
  have e:(i == j)=decide ((Sum.inl i:Itm)=Sum.inl j):=by
   by_cases c:i=j
   .subst c;simp
   .simp[c]
  rw[e];exact h
 .obtain⟨t,rfl⟩:=h1;obtain⟨u,rfl⟩:=h2
  refine wpAny_eqBool_str ?_
  simpa using h
theorem mx' {Q:Bool->Shared->Prop}:∀{xs ys:List Value} {l m:List Itm} {i:Nat},ItsAre xs l->ItsAre ys m->shp l=shp m->Q (br' l m) s->W.KatLex prog w A true false Q (xs.zip ys) i s
 |_,_,_,_,i,.nil,.nil,_,h=>W.kat_nil h
 |_,_,_,_,i,.nil,.cons _ _,hs,_=>by simp[shp]at hs
 |_,_,_,_,i,.cons _ _,.nil,hs,_=>by simp[shp]at hs
 |_,_,a :: l,c :: m,i,.cons h1 r1,.cons h2 r2,hs,h=>by
  have hs1:a.isLeft=c.isLeft:=by simp[shp]at hs;exact hs.1
  have hs2:shp l=shp m:=by simp[shp]at hs ⊢;exact hs.2
  rw[List.zip_cons_cons]
  refine W.kat_cons (zm' h1 h2 hs1 ?_)
  rw[br']at h
  by_cases e:a=c
  .rw[if_pos e]at h
   rw[decide_eq_true e]
   exact W.kat_yes (mx' r1 r2 hs2 h)
  .rw[if_neg e]at h
   rw[decide_eq_false e]
   exact W.kat_no (vT' h1 h2 hs1 h)
end
def yB' (qs:List (Addr×List Itm)):Value->List Itm
 | .ref a=>((qs.find? fun q=>q.1 == a).map (·.2)).getD []
 |_=>[]
set_option tactic.hygienic true in
theorem sX' {vs:List Value}:∀{l m:List Itm},ItsAre vs l->ItsAre vs m->l=m:=by
 induction vs with
 |nil=>intro l m h1 h2;cases h1;cases h2;rfl
 |cons v vs ih=>
  intro l m h1 h2
  cases h1 with
  |cons a1 r1=>
   cases h2 with
   |cons a2 r2=>
    rw[ih r1 r2]
    congr 1
    rename_i a l b m
    cases a<;>cases b<;>(obtain⟨t,e1⟩:=a1;obtain⟨u,e2⟩:=a2;rw[e1]at e2;cases e2)<;>rfl
theorem iP' {h:Heap} {qs:List (Addr×List Itm)} (hq:∀q∈qs,Tps h q) {q:Addr×List Itm} (hm:q∈qs):yB' qs (.ref q.1)=q.2:=by
 show((qs.find? fun x=>x.1 == q.1).map (·.2)).getD []=q.2
 cases e:qs.find? fun x=>x.1 == q.1 with
 |none=>exact absurd (List.find?_eq_none.mp e q hm) (by simp)
 |some r=>
  have h1:=List.find?_some e
  have h2:=bC e
  obtain⟨o,xs,n,ho,_,hd,hi⟩:=hq q hm
  obtain⟨o',xs',n',ho',_,hd',hi'⟩:=hq r h2
  have e1:r.1=q.1:=by simpa using h1
  rw[e1,ho]at ho'
  cases ho'
  rw[hd]at hd'
  cases hd'
  show r.2=q.2
  exact sX' hi' hi
set_option tactic.hygienic true in
theorem fa' {h:Heap} {sh:List Bool} {b:Bool}:∀{qs:List (Addr×List Itm)},(∀q∈qs,Tps h q)->(∀q∈qs,shp q.2=b :: sh)->∃fs,W.KatTups h (qs.map fun q=>Value.ref q.1) fs/\fs.length=qs.length/\∀f∈fs,∃a,uH' a f/\a.isLeft=b
 | [],_,_=>⟨[],trivial,rfl,fun _ h=>absurd h ap⟩
 |q :: qs,hq,hs=>by
  obtain⟨fs,h1,h2,h3⟩:=fa' (qs:=qs) (fun x hx=>hq x (by simp[hx])) fun x hx=>hs x (by simp[hx])
  obtain⟨o,xs,n,ho,hc,hd,hi⟩:=hq q (by simp)
  have hsq:=hs q (by simp)
  obtain⟨qa,ql⟩:=q
  cases ql with
  |nil=>simp[shp]at hsq
  |cons a l=>
   generalize hxl:xs.toList=xl at hi
   cases hi with
   |cons ha hr=>
    rename_i v vr
    have hx0:xs[0]?=some v:=by
     have:xs.toList[0]?=some v:=by rw[hxl];rfl
     simpa using this
    exact⟨v :: fs,W.KatTups.cons ho hc hd hx0 h1,by simp[h2],fun f hf=>by
     rcases al.mp hf with rfl|hf
     .exact⟨a,ha,by simp[shp]at hsq;exact hsq.1⟩
     .exact h3 f hf⟩
theorem pd' {prog:Program} {w:World} {h0:Heap} {a:Addr} {qs:List (Addr×List Itm)} {sh:List Bool} {b:Bool} (hq:∀q∈qs,Tps h0 q) (hne:∀q∈qs,q.1≠a) (hs:∀q∈qs,shp q.2=b :: sh):yA' prog w h0 a (qs.map fun q=>Value.ref q.1) qC' (yB' qs):=by
 intro h2
 refine⟨tuples' true,fun A s keep=>?_⟩
 have hq':∀q∈qs,Tps s.heap q:=fun q hm=>let⟨o,xs,n,ho,r⟩:=hq q hm;⟨o,xs,n,keep _ _ (hne q hm) ho,r⟩
 refine⟨fun E Q h=>?_,fun x y hx hy E Q h=>?_⟩
 .obtain⟨fs,h1,h3,h4⟩:=fa' hq' hs
  cases b
  .refine W.kat_kind (T:=.type "str") h1 (by rw[h3];rw[ac]at h2;omega) (fun v hv=>?_) rfl h
   obtain⟨x,hx,hb⟩:=h4 v hv
   cases x<;>simp at hb
   obtain⟨t,rfl⟩:=hx
   exact .now
  .refine W.kat_kind (T:=.type "int") h1 (by rw[h3];rw[ac]at h2;omega) (fun v hv=>?_) rfl h
   obtain⟨x,hx,hb⟩:=h4 v hv
   cases x<;>simp at hb
   obtain⟨t,rfl⟩:=hx
   exact .now
 .obtain⟨qx,mx,rfl⟩:=aR.mp hx
  obtain⟨qy,my,rfl⟩:=aR.mp hy
  rw[iP' hq' mx,iP' hq' my]at h
  obtain⟨ox,xs,n,hox,_,hdx,hix⟩:=hq' qx mx
  obtain⟨oy,ys,m,hoy,_,hdy,hiy⟩:=hq' qy my
  refine W.kat_lt hox hdx hoy hdy ?_
  have hl:¬xs.size<ys.size:=by
   have h3:=hix.len
   have h4:=hiy.len
   have h5:=congrArg List.length ((hs qx mx).trans (hs qy my).symm)
   simp only[shp,ac]at h5
   rw[aC]at h3 h4
   omega
  rw[decide_eq_false hl]
  exact mx' hix hiy ((hs qx mx).trans (hs qy my).symm) h
end L2
namespace PySem
namespace Ts
open SetTable
def u (x:Nat):Nat->Nat
 |0=>x
 |n+1=>5*u x n+1
end Ts
end PySem
namespace PySem
namespace Ts
open SetTable
section
variable {prog:Program} {w:World} {A:Around} {E:Value->Shared->Prop} {s:Shared}
theorem mF' {α β:Type} {f:α->β}:∀{l l':List β},l.Perm l'->∀{L:List α},l'=L.map f->∃L2:List α,L2.Perm L/\l=L2.map f:=by
 intro l l' h
 induction h with
 |nil=>intro L e;exact⟨L,.refl _,e⟩
 |cons x _ ih=>
  intro L e
  cases L with
  |nil=>cases e
  |cons a L=>
   rw[aE]at e
   injection e with e1 e2
   obtain⟨L2,h1,h2⟩:=ih e2
   exact⟨a :: L2,h1.cons a,by rw[aE,e1,h2]⟩
 |swap x y l=>
  intro L e
  cases L with
  |nil=>cases e
  |cons a L=>
   cases L with
   |nil=>cases e
   |cons b L=>
    rw[aE,aE]at e
    injection e with e1 e2
    injection e2 with e2 e3
    exact⟨b :: a :: L,.swap _ _ _,by rw[aE,aE,e1,e2,e3]⟩
 |trans _ _ ih1 ih2=>
  intro L e
  obtain⟨L2,h1,h2⟩:=ih2 e
  obtain⟨L3,h3,h4⟩:=ih1 h2
  exact⟨L3,h3.trans h1,h4⟩
end
end Ts
end PySem
namespace L2
open PySem PySem.Spec PyProof.Rows PySem.Ts So
section
variable {prog:Program} {w:World} {A:Around} {E:Value->Shared->Prop} {s:Shared}
theorem gj' {R:Result->Shared->Prop} {h0:Heap} {B:Nat} {k j:Bool} {z TI TO i1 i2 l1 l2 S:Addr} {xs ys:Array Value} {n c₀:Nat} (hh:A.handled=none) (P:Zap h0 B z TI TO i1 i2 l1 l2 S) (hxs:xs.size=n) (hys:ys.size=n) (hn:n<=sizeLine)
  (Z:Zst h0 B k j z TI TO i1 i2 l1 l2 S xs ys 0 s.heap) (hS:s.heap.get? S=some { cls:=.type "list",data:=.seq #[] c₀ })
  (hR:∀h' c',(∀m,m<n->∃x y,xs[m]?=some x/\ys[m]?=some y/\IsPair h' (B+m) x y)->(∀c o,h0.get? c=some o->h'.get? c=some o)->h'.get? S=some { cls:=.type "list",dict:=none,data:=.seq (iK' B n) c',slots:=#[] }->R (.ok (.ret (.ref S))) { s with heap:=h' }):
  codeAny (model prog w) A (.builtin "list.__iadd__" ⟨[.ref S,.ref z],[]⟩) R s:=by
 refine codeAny_builtin F.entry_list_iadd ?_
 rw[Around.under_plainId F.plain_list_iadd _]
 show wpAny _ A.in1 (Builtin.List.listExtendWith (.ref S) (.ref z) (.ref S)) _ _ _
 exact kJ' (A:=A) (by simp[hh]) P hxs hys hn Z hS hR
theorem iR' {h0:Heap} {k j:Bool} {l1 l2:Addr} {xs ys:Array Value} {n:Nat} {Q:List Value->Shared->Prop} (hh:A.handled=none) (hxs:xs.size=n) (hys:ys.size=n) (hn:n<=sizeLine)
  (o1:ey' k h0 l1 xs) (o2:ey' j h0 l2 ys)
  (hz:IsZip s.heap (h0.objs.size+4) (h0.objs.size+2) (h0.objs.size+3) .none) (hTI:IsPair s.heap (h0.objs.size+2) (.ref h0.objs.size) (.ref (h0.objs.size+1))) (hTO:IsPair s.heap (h0.objs.size+3) .none .none)
  (h1:cS' k s.heap h0.objs.size l1 0) (h2:cS' j s.heap (h0.objs.size+1) l2 0) (hsz:s.heap.objs.size=h0.objs.size+5) (hk:∀c o,h0.get? c=some o->s.heap.get? c=some o)
  (hQ:∀h',(∀m,m<n->∃x y,xs[m]?=some x/\ys[m]?=some y/\IsPair h' (h0.objs.size+6+m) x y)->(∀c o,h0.get? c=some o->h'.get? c=some o)->h0.objs.size+5<h'.objs.size->Q (iK' (h0.objs.size+6) n).toList { s with heap:=h' }):
  wpAny (model prog w) A (collect (.ref (h0.objs.size+4))) Q E s:=by
 unfold collect
 refine aa (wpAny_runValue (codeAny_builtin F.entry_proto_collect ?_))
 rw[Around.under_plainId F.plain_proto_collect _]
 show wpAny _ A.in1 (newList [] >>= fun l=>again (.builtin "list.__iadd__" ⟨[l,.ref (h0.objs.size+4)],[]⟩)) _ _ s
 refine aa (bc ?_)
 refine am ⟨plainId_quiet F.plain_list_iadd _,?_⟩
 have hS:(s.heap.push { cls:=.type "list",data:=.seq ([]:List Value).toArray }).get? s.heap.objs.size=some { cls:=.type "list",data:=.seq ([]:List Value).toArray }:=av _ rfl
 have lt1:l1<h0.objs.size:=o1.lt
 have lt2:l2<h0.objs.size:=o2.lt
 rw[hsz]at hS ⊢
 have P:Zap h0 (h0.objs.size+6) (h0.objs.size+4) (h0.objs.size+2) (h0.objs.size+3) h0.objs.size (h0.objs.size+1) l1 l2 (h0.objs.size+5):=by
  have e:∀a b:Nat,a≠b->(show Addr from a)≠(show Addr from b):=fun a b h=>h
  have lt1':(l1:Nat)<h0.objs.size:=lt1
  have lt2':(l2:Nat)<h0.objs.size:=lt2
  refine⟨⟨?_,?_,?_,?_,?_,?_,?_,?_,?_,?_,?_,?_,?_,?_,?_,?_,?_,?_⟩,?_,?_,?_,?_,?_,?_,?_,?_,?_,?_,?_,?_,?_,?_,?_,?_,?_⟩<;>first|(apply e;omega;done)|exact az lt1|exact az lt2|exact az (ai lt1 (aK _ _))|exact az (ai lt2 (aK _ _))|exact bu (ai lt1 (aK _ _))|exact bu (ai lt2 (aK _ _))|(show(_:Nat)<_;omega)|(show(_:Nat)<=_;omega)
 have Z0:Zst h0 (h0.objs.size+6) k j (h0.objs.size+4) (h0.objs.size+2) (h0.objs.size+3) h0.objs.size (h0.objs.size+1) l1 l2 (h0.objs.size+5) xs ys 0 (s.heap.push { cls:=.type "list",data:=.seq ([]:List Value).toArray }):=by
  have up:∀c o,s.heap.get? c=some o->(s.heap.push { cls:=.type "list",data:=.seq ([]:List Value).toArray }).get? c=some o:=fun c o e=>ae _ e
  exact⟨.inl ⟨rfl,up _ _ hz,_,_,up _ _ hTO⟩,up _ _ hTI,h1.at fun o e=>up _ _ e,h2.at fun o e=>up _ _ e,o1.at fun o e=>up _ _ (hk _ _ e),o2.at fun o e=>up _ _ (hk _ _ e),by rw[bg,hsz],fun m hm=>absurd hm (cz _),fun c o e=>up _ _ (hk _ _ e)⟩
 refine gj' (s:={ s with heap:=s.heap.push { cls:=.type "list",data:=.seq ([]:List Value).toArray } }) hh P hxs hys hn Z0 hS fun h' c' q1 q2 q3=>?_
 dsimp only
 refine aa (wpAny_load q3 ?_)
 exact am (hQ h' q1 q2 (aq q3))
end
section
variable {X:Cx}
def zr' (K:W.Frag) (ta:TA):TE:=fun σ H Q=>ta σ H fun vs H1=>∃(k j:Bool) (a b:Addr) (ps:List (Str×Str)),vs=[.ref a,.ref b]/\Sq k K H1 a (ps.map fun q=>V.str q.1)/\Sq j K H1 b (ps.map fun q=>V.str q.2)/\ps.length<64/\
 ∀(l:Addr) (as:List (Addr×Str×Str)) (H':Hp),H1 l=none->(∀b u,H1 b=some u->H' b=some u)->H' l=some (.lst (as.map fun q=>V.ref q.1))->(as.map fun q=>q.2).Perm ps->(as.Pairwise fun x y=>br' [.inr y.2.1,.inr y.2.2] [.inr x.2.1,.inr x.2.2]=false)->(∀q∈as,H' q.1=some (.tup [.str q.2.1,.str q.2.2]))->Q (.ref l) H'
theorem mG':∀(l:List (Addr×Str×Str)),aQ' (l.map fun q=>V.ref q.1) (l.map fun q=>Value.ref q.1)
 | []=>.nil
 |a :: l=>.cons rfl (mG' l)
theorem vZ' {a b:Expr} {ta:TA} {p p2 pos pos2:Pos} (hc:X.calm=true) (hg1:Gl X "sorted") (hm1:X.mg "sorted"=none) (hg2:Gl X "zip") (hm2:X.mg "zip"=none) (ha:PA X [a,b] ta) (hs:starEach [a,b] X.env=[(false,eval a X.env),(false,eval b X.env)]) (hs2:starEach [b] X.env=[(false,eval b X.env)]):
  PE X (.Call (.Name "sorted" p) [.Call (.Name "zip" p2) [a,b] [] pos2] [] pos) (zr' X.K ta):=by
 intro p_ s σ H Q I h
 refine wpAny_Call_Name_kw (cT' I hg1 hm1 (u:=.builtin "sorted") rfl ?_)
 refine PyProof.Rows.callWith_builtin1 ?_ rfl rfl
 show wpAny _ _ (spliced [(false,eval (.Call (.Name "zip" p2) [a,b] [] pos2) X.env)]) _ _ s
 refine Calls.spliced_cons ?_
 refine Call_ (cT' I hg2 hm2 boot_zip (PyProof.Rows.callWith_type1 (thn (ha pos2 p_ s σ H _ I h) fun us s1 ⟨vs,H1,I1,r1,k,j,l1,l2,ps,e,hxs,hys,h64,q⟩=>?_) (by rw[hs,hs2]) (by rw[hs2];rfl)))
 subst e
 cases r1 with
 |cons r rr=>
  cases rr with
  |cons r' rr=>
   cases rr
   cases r
   cases r'
   obtain⟨us,rus,ous,hz1⟩:=I1.sq hxs
   obtain⟨ws,rws,ows,hz2⟩:=I1.sq hys
   have e1:=rus.length
   have e2:=rws.length
   rw[ac]at e1 e2 hz1 hz2
   refine lY' ous ows fun h' hz hTI hTO h1 h2 hsz hk=>Calls.spliced_nil ?_
   refine Calls.call_function_entry kind_sorted plain_sorted entry_sorted (args_sorted1 _) ?_
   unfold Builtin.«sorted»
   refine aa (m:=checkCount "sorted" 1 1 _) (am (aa (iR' (A:=X.A.in1) (n:=ps.length) (h0:=s1.heap) (s:={ s1 with heap:=h' }) (I.ok.hd hc) (by rw[ao,<- e1]) (by rw[ao,<- e2]) hz1 ous ows hz hTI hTO h1 h2 hsz hk fun h'' q1 q2 q3=>aa (wpAny_newList ?_ ?_))))
   .clear hz hTI hTO h1 h2 hsz hk
    generalize hBd:s1.heap.objs.size+6=B at q1 ⊢
    generalize has:((aF ps.length).map fun m=>(((B+m:Nat):Addr),(ps[m]?).getD (⟨#[]⟩,⟨#[]⟩)))=as0
    have hvs:(iK' B ps.length).toList=as0.map fun q=>Value.ref q.1:=by
     rw[<- has]
     unfold iK'
     rw[bi]
     rfl
    have has2:(as0.map fun q=>q.2)=ps:=by
     rw[<- has,bi]
     refine cw fun i=>?_
     rw[aA]
     rcases cA i ps.length with hi|hi
     .rw[bD hi,af hi]
      simp[af hi]
     .rw[bV (by simpa using hi),bV hi]
      rfl
    have htp:∀q∈as0,∃u v,IsPair h'' q.1 u v/\(∃t,u=Value.str q.2.1 t)/\(∃t,v=Value.str q.2.2 t)/\B<=q.1:=fun q hq=>by
     rw[<- has]at hq
     obtain⟨m,hm,rfl⟩:=aR.mp hq
     have hm:=aU.mp hm
     obtain⟨u,v,eu,ev,hp⟩:=q1 m hm
     obtain⟨u',eu',ru⟩:=rus.get (i:=m) (x:=V.str ps[m].1) (by rw[aA,af hm];rfl)
     obtain⟨v',ev',rv⟩:=rws.get (i:=m) (x:=V.str ps[m].2) (by rw[aA,af hm];rfl)
     have eu2:us[m]?=some u:=by simpa using eu
     have ev2:ws[m]?=some v:=by simpa using ev
     rw[eu2]at eu'
     rw[ev2]at ev'
     cases eu'
     cases ev'
     rw[af hm]
     exact⟨u,v,hp,ru,rv,aK _ _⟩
    generalize hqs:as0.map (fun q=>(q.1,([.inr q.2.1,.inr q.2.2]:List Itm)))=qs
    have hqv:(as0.map fun q=>Value.ref q.1)=qs.map fun q=>Value.ref q.1:=by rw[<- hqs,bi];rfl
    have hP:∀q∈qs,Tps h'' q:=fun q hq=>by
     rw[<- hqs]at hq
     obtain⟨p,hp,rfl⟩:=aR.mp hq
     obtain⟨u,v,g1,g2,g3,_⟩:=htp p hp
     exact⟨_,#[u,v],_,g1,rfl,rfl,.cons g2 (.cons g3 .nil)⟩
    have hsh:∀q∈qs,shp q.2=false :: [false]:=fun q hq=>by
     rw[<- hqs]at hq
     obtain⟨p,hp,rfl⟩:=aR.mp hq
     rfl
    rw[hvs]
    have hoL:(h''.push (seqObj "list" (as0.map fun q=>Value.ref q.1).toArray 0)).get? h''.objs.size=some (seqObj "list" (as0.map fun q=>Value.ref q.1).toArray 0):=av _ rfl
    have hany:yA' X.prog X.w (h''.push (seqObj "list" (as0.map fun q=>Value.ref q.1).toArray 0)) h''.objs.size (as0.map fun q=>Value.ref q.1) qC' (yB' qs):=by
     rw[hqv]
     refine pd' (fun q hq=>?_) (fun q hq=>?_) hsh
     .obtain⟨o,xs,n,g1,r⟩:=hP q hq
      exact⟨o,xs,n,ae _ g1,r⟩
     .obtain⟨o,xs,n,g1,r⟩:=hP q hq
      exact az (aq g1)
    have hl0:as0.length=ps.length:=by rw[<- has2,ac]
    refine aa (aX (bw slot_list_sort ⟨_,hoL,rfl⟩ entry_list_sort (pc' hoL hany (by rw[ac,hl0];exact h64) fun out a1 a2=>⟨_,rfl,am ⟨_,rfl,?_⟩⟩) (args_list_sort _)))
    obtain⟨as,hp3,rfl⟩:=mF' a1 rfl
    obtain⟨e',he'⟩:=sortedHeap_at (out:=(as.map fun q=>Value.ref q.1).toArray) hoL
    generalize hfin:sortedHeap (h''.push (seqObj "list" (as0.map fun q=>Value.ref q.1).toArray 0)) h''.objs.size (as0.map fun q=>Value.ref q.1) (as.map fun q=>Value.ref q.1).toArray=hE at he' ⊢
    have kE:∀b o,h''.get? b=some o->hE.get? b=some o:=fun b o eb=>by
     have hlt:=aq eb
     rw[<- hfin,sortedHeap_old (az hlt) (by rw[size_push'];exact bL hlt)]
     exact ae _ eb
    have hlt0:∀q∈as,B<=q.1/\q.1<h''.objs.size:=fun q hq=>by
     obtain⟨u,v,g1,_,_,g4⟩:=htp q (hp3.mem_iff.mp hq)
     exact⟨g4,aq g1⟩
    have hB:∀b u,H1 b=some u->b<s1.heap.objs.size:=fun b u e=>by
     rcases cA b s1.heap.objs.size with z|z
     .exact z
     .rw[I1.hok.fresh z]at e;cases e
    have hnd:∀x∈as0,∀y∈as0,x.1=y.1->x=y:=fun x hx y hy e=>by
     rw[<- has]at hx hy
     obtain⟨m,_,rfl⟩:=aR.mp hx
     obtain⟨n,_,rfl⟩:=aR.mp hy
     have:m=n:=Nat.add_left_cancel (show B+m=B+n from e)
     rw[this]
    let H':Hp:=fun b=>if b=h''.objs.size then some (.lst (as.map fun q=>V.ref q.1))else match as.find? (fun q=>q.1 == b)with
     |some q=>some (.tup [.str q.2.1,.str q.2.2])
     |none=>H1 b
    have lstP:H' h''.objs.size=some (.lst (as.map fun q=>V.ref q.1)):=if_pos rfl
    have tupP:∀q∈as,H' q.1=some (.tup [.str q.2.1,.str q.2.2]):=fun q hq=>by
     show(if q.1=h''.objs.size then _ else _)=_
     rw[if_neg (az (hlt0 q hq).2)]
     cases hf:as.find? (fun p=>p.1 == q.1)with
     |none=>exact absurd (List.find?_eq_none.mp hf q hq) (by simp)
     |some p=>
      have:=hnd p (hp3.mem_iff.mp (bC hf)) q (hp3.mem_iff.mp hq) (by simpa using List.find?_some hf)
      rw[this]
    have old:∀b,b<s1.heap.objs.size->H' b=H1 b:=fun b hb=>by
     have hb':(b:Nat)<s1.heap.objs.size:=hb
     show(if b=h''.objs.size then _ else _)=_
     rw[if_neg (fun z=>by rw[z]at hb';exact aS _ (Nat.lt_trans hb' (bA (aK _ _) q3)))]
     cases hf:as.find? (fun p=>p.1 == b)with
     |none=>rfl
     |some p=>
      exfalso
      have e:p.1=b:=by simpa using List.find?_some hf
      have:=(hlt0 p (bC hf)).1
      rw[e,<- hBd]at this
      exact aS _ (ai hb' (aN (aK _ _) this))
    have sub:∀b u,H1 b=some u->H' b=some u:=fun b u e=>by rw[old b (hB b u e)];exact e
    have hk5:∀b o,s1.heap.get? b=some o->hE.get? b=some o:=fun b o e=>kE b o (q2 b o e)
    have hsorted:as.Pairwise fun x y=>br' [.inr y.2.1,.inr y.2.2] [.inr x.2.1,.inr x.2.2]=false:=by
     rw[cX]at a2
     refine List.Pairwise.imp_of_mem (fun {x y} hx hy k=>?_) a2
     have hkey:∀x∈as,yB' qs (.ref x.1)=[.inr x.2.1,.inr x.2.2]:=fun x hx=>by
      have:(x.1,([.inr x.2.1,.inr x.2.2]:List Itm))∈qs:=by rw[<- hqs];exact aR.mpr ⟨x,hp3.mem_iff.mp hx,rfl⟩
      exact iP' hP this
     have:=k
     unfold KeyOrd.kle at this
     rw[hkey x hx,hkey y hy]at this
     exact this
    refine⟨.ref h''.objs.size,H',I1.laidN (t':=s1.toks) (h':=hE) hk5 sub (fun b e hb=>by rw[old b hb];exact e) fun b u e=>?_,rfl,q _ as H' (I1.hok.fresh (bE (bA (aK _ _) q3))) sub lstP (by rw[<- has2];exact hp3.map _) hsorted tupP⟩
    by_cases hl:b=h''.objs.size
    .subst hl
     right
     rw[lstP]at e
     cases e
     refine⟨by rw[ac,hp3.length_eq,hl0];exact hz1,as.map fun q=>Value.ref q.1,e',?_,he'⟩
     exact mG' as
    .cases hf:as.find? (fun p=>p.1 == b)with
     |none=>
      left
      have:H' b=H1 b:=by
       show(if b=h''.objs.size then _ else _)=_
       rw[if_neg hl,hf]
      rw[<- this]
      exact e
     |some p=>
      right
      have e0:p.1=b:=by simpa using List.find?_some hf
      have hm:=bC hf
      subst e0
      rw[tupP p hm]at e
      cases e
      obtain⟨u,v,g1,g2,g3,_⟩:=htp p (hp3.mem_iff.mp hm)
      exact⟨by show 2<=sizeLine;decide,[u,v],.cons g2 (.cons g3 .nil),⟨_,kE _ _ g1,rfl,⟨_,rfl⟩,rfl⟩⟩
   .unfold iK'
    simpa using hz1
end
end L2
namespace L2
open PySem PySem.Spec PyProof.Rows
def gk' (h:Heap) (a:Addr):Heap:=h.update a fun o=>{ o with data:=.freed }
def qD' (h:Heap) (S:List Addr):Heap:=S.foldl gk' h
theorem jA' {h:Heap} {a:Addr}:(gk' h a).get? a=none:=by
 unfold gk'
 cases e:((h.update a fun o=>{ o with data:=.freed }).get? a)with
 |none=>rfl
 |some o=>
  obtain⟨e1,e2⟩:=Heap.get?_some_iff.mp e
  obtain⟨objs,l⟩:=h
  simp only[Heap.update,Array.getElem?_modify,if_true]at e1
  cases e3:objs[a]? with
  |none=>rw[e3]at e1;cases e1
  |some x=>
   rw[e3]at e1
   have:o={ x with data:=.freed }:=(Option.some.inj e1).symm
   subst this
   cases e2
theorem jB' {h:Heap} {a b:Addr} (hb:b≠a):(gk' h a).get? b=h.get? b:=Heap.get?_update_other _ _ (Ne.symm hb)
theorem kS' {h:Heap} {a b:Addr} (e:h.get? b=none):(gk' h a).get? b=none:=by
 by_cases hb:b=a
 .subst hb;exact jA'
 .rw[jB' hb];exact e
theorem hw':∀{S:List Addr} {h:Heap} {b:Addr},h.get? b=none->(qD' h S).get? b=none
 | [],_,_,e=>e
 |a :: S,h,b,e=>hw' (S:=S) (h:=gk' h a) (kS' e)
theorem cC':∀{S:List Addr} {h:Heap} {b:Addr},b∈S->(qD' h S).get? b=none
 |a :: S,h,b,hb=>by
  rcases al.mp hb with rfl|hb
  .exact hw' (S:=S) (h:=gk' h b) jA'
  .exact cC' (S:=S) (h:=gk' h a) hb
theorem eH':∀{S:List Addr} {h:Heap} {b:Addr},b∉S->(qD' h S).get? b=h.get? b
 | [],_,_,_=>rfl
 |a :: S,h,b,hb=>by
  rw[al,not_or]at hb
  show(qD' (gk' h a) S).get? b=_
  rw[eH' hb.2,jB' hb.1]
theorem de' {S:List Addr} {h:Heap}:(qD' h S).StaysIn h:=fun b o e=>by
 by_cases hb:b∈S
 .rw[cC' hb]at e;cases e
 .rw[eH' hb]at e;exact e
theorem b5' {h base:Heap} {S:List Addr}:∀{l:List Env},h.FunFrames base l->(∀b∈frs l,b∈S)->h.FunFrames (qD' h S) l
 | [],_,_=>trivial
 |env :: r,⟨hk,⟨L,o,hf,hn,ho,hd⟩,hr⟩,hS=>by
  have e:frs (env :: r)=L :: frs r:=by show List.filterMap _ _=_;rw[cf,hf];rfl
  rw[e]at hS
  exact⟨hk,⟨L,o,hf,cC' (hS L ax),ho,hd⟩,b5' hr fun b hb=>hS b (au _ hb)⟩
def qE' (h:Heap) (e:Addr) (cls:Value) (T:Addr):Prop:=∃oe vs oT ts a0,h.get? e=some oe/\(oe.cls=cls/\vs[0]?=some a0)/\oe.data=.fields vs/\vs[1]?=some (.ref T)/\T≠e/\h.get? T=some oT/\oT.data=.fields ts/\ts[3]?=some .none
structure LeftX (F S:List Addr) (e:Addr) (cls:Value) (h h':Heap):Prop where
 keep:∀b o,b∉F->b∉S->h.get? b=some o->h'.get? b=some o
 slot:∀b o,b∈F->h.get? b=some o->∃sl,h'.get? b=some { o with slots:=sl }
 there:∀b o,b∉S->h.get? b=some o->∃o',h'.get? b=some o'
 exc:∃T,(h.get? T=none\/T∈S)/\qE' h' e cls T
theorem gl' {h h':Heap} {base0:Heap} {l:List Env} {e:Addr} {cls a0:Value} {S:List Addr} (hl:h.FunFrames base0 l) (heS:e∈S) (hS:∀b∈S,b∉frs l/\∃o vs,h.get? b=some o/\o.data=.fields vs) (L:Heap.LeftW (qD' h (S++frs l)) l e cls a0 h h'):LeftX (frs l) S e cls h h':=by
 obtain⟨k1,k2,⟨oe,vs,T,oT,ts,he,hc,hd,h1,hnT,hTe,hT,hdT,h3⟩,k4⟩:=L
 have keep:∀b o,b∉frs l->b∉S->h.get? b=some o->h'.get? b=some o:=fun b o hF hs eb=>k1 b o (by rw[eH' (by simp[hF,hs])];exact eb)
 have slot:∀b o,b∈frs l->h.get? b=some o->∃sl,h'.get? b=some { o with slots:=sl }:=fun b o hb eb=>by
  obtain⟨_,o',ho',hnf⟩:=hl.mem hb
  rw[eb]at ho'
  cases ho'
  exact k4 b o eb hnf
 refine⟨keep,slot,fun b o hs eb=>?_,T,?_,oe,vs,oT,ts,a0,he,hc,hd,h1,hTe,hT,hdT,h3⟩
 .by_cases hF:b∈frs l
  .obtain⟨sl,z⟩:=slot b o hF eb
   exact⟨_,z⟩
  .exact⟨o,keep b o hF hs eb⟩
 .by_cases hTS:T∈S
  .exact .inr hTS
  .left
   cases e0:h.get? T with
   |none=>rfl
   |some o=>
    by_cases hF:T∈frs l
    .obtain⟨_,o',ho',hnf⟩:=hl.mem hF
     obtain⟨sl,z⟩:=k4 T o' ho' hnf
     rw[hT]at z
     cases z
     exact absurd hdT (hnf ts)
    .rw[eH' (by simp[hTS,hF]),e0]at hnT
     cases hnT
section
variable {M:Model} {A:Around} {E:Value->Shared->Prop} {s:Shared}
theorem iS' {env:Env} {outer:List Env} {base0:Heap} {L e:Addr} {oe:Obj} {vs:Array Value} {Q:Unit->Shared->Prop} (hfr:A.frames=some (env :: outer)) (hl:s.heap.FunFrames base0 (env :: outer)) (hf:env.frame=some L)
  (he:s.heap.get? e=some oe) (hd:oe.data=.fields vs) (h1:vs[1]?=some .none) {a0:Value} (h0:vs[0]?=some a0) (h:∀h',LeftX (frs (env :: outer)) [e] e oe.cls s.heap h'->Q () { s with heap:=h' }):wpAny M A (leaving env (.ref e)) Q E s:=by
 have hef:e∉frs (env :: outer):=fun hb=>by
  obtain⟨_,o',ho',hnf⟩:=hl.mem hb
  rw[he]at ho';cases ho'
  exact hnf vs hd
 refine wpAny_leaving_firstW hfr (b5' hl (S:=[e]++frs (env :: outer)) fun b hb=>ak _ hb) hf he de' (cC' (by simp)) hd h1 h0 fun h' hL=>h h' ?_
 refine gl' hl (by simp) (fun b hb=>?_) hL
 have:b=e:=by simpa using hb
 subst this
 exact⟨hef,oe,vs,he,hd⟩
theorem kT' {env:Env} {outer:List Env} {base0:Heap} {L e T:Addr} {cls:Value} {Q:Unit->Shared->Prop} (hfr:A.frames=some (env :: outer)) (hl:s.heap.FunFrames base0 (env :: outer)) (hf:env.frame=some L)
  (hx:qE' s.heap e cls T) (h:∀h',LeftX (frs (env :: outer)) [e,T] e cls s.heap h'->Q () { s with heap:=h' }):wpAny M A (leaving env (.ref e)) Q E s:=by
 obtain⟨oe,vs,oT,ts,a0,he,hc,hd,h1,hTe,hT,hdT,h3⟩:=id hx
 have nof:∀b o vs,s.heap.get? b=some o->o.data=.fields vs->b∉frs (env :: outer):=fun b o vs eb db hb=>by
  obtain⟨_,o',ho',hnf⟩:=hl.mem hb
  rw[eb]at ho';cases ho'
  exact hnf vs db
 refine wpAny_leaving_nextW hfr (b5' hl (S:=[e,T]++frs (env :: outer)) fun b hb=>ak _ hb) hf ⟨oe,vs,T,oT,ts,he,hc,hd,h1,cC' (by simp),hTe,hT,hdT,h3⟩ de' (cC' (by simp)) fun h' hL=>h h' ?_
 refine gl' hl (by simp) (fun b hb=>?_) hL
 simp only[al,ap,or_false]at hb
 rcases hb with rfl|rfl
 .exact⟨nof _ oe vs he hd,oe,vs,he,hd⟩
 .exact⟨nof _ oT ts hT hdT,oT,ts,hT,hdT⟩
theorem mH' {env:Env} {outer:List Env} {base0:Heap} {L e T:Addr} {cls:Value} {Q:Unit->Shared->Prop} (hfr:A.frames=some (env :: outer)) (hl:s.heap.FunFrames base0 (env :: outer)) (hf:env.frame=some L)
  (hx:qE' s.heap e cls T) (h:∀h',LeftX (frs (env :: outer)) [e,T] e cls s.heap h'->Q () { s with heap:=h' }):wpAny M A (noteFrame (.ref e) env) (fun _ s₂=>wpAny M A (setFlight (.ref e) none) Q E s₂) E s:=by
 obtain⟨oe,vs,oT,ts,a0,he,hc,hd,h1,hTe,hT,hdT,h3⟩:=id hx
 have nof:∀b o vs,s.heap.get? b=some o->o.data=.fields vs->b∉frs (env :: outer):=fun b o vs eb db hb=>by
  obtain⟨_,o',ho',hnf⟩:=hl.mem hb
  rw[eb]at ho';cases ho'
  exact hnf vs db
 refine wpAny_noteFrame_onW hfr (b5' hl (S:=[e,T]++frs (env :: outer)) fun b hb=>ak _ hb) hf ⟨oe,vs,T,oT,ts,he,hc,hd,h1,cC' (by simp),hTe,hT,hdT,h3⟩ de' (cC' (by simp)) fun h1' hN=>?_
 obtain⟨k1,k2,k3,k4⟩:=hN
 refine wpAny_setFlight_noneW (s:={ s with heap:=h1' }) k1 k2 k3 fun h2 m1 m2 m3 m4=>h h2 ?_
 refine gl' hl (by simp) (fun b hb=>?_) ⟨m1,m2,m3,fun b o hb hnf=>?_⟩
 .simp only[al,ap,or_false]at hb
  rcases hb with rfl|rfl
  .exact⟨nof _ oe vs he hd,oe,vs,he,hd⟩
  .exact⟨nof _ oT ts hT hdT,oT,ts,hT,hdT⟩
 .obtain⟨sl,z⟩:=k4 b o hb hnf
  exact⟨sl,m4 b _ z hnf⟩
end
set_option tactic.hygienic true in
theorem qF' {K:W.Frag} {cd:Value} {q:Str} (e:W.codeIn K cd q=true):W.kdsCode K cd=true:=by
 unfold W.codeIn at e
 unfold W.kdsCode
 split at e
 .split at e
  .rename_i h
   dsimp only
   rw[h]
  .cases e
 .cases e
structure FnCx (X:Cx):Prop where
 ex:X.ex=[]
 fn:∀x,X.fn x=true
 stk:X.stack=X.env :: X.outer
 fr:X.env.frame=some X.env.locals
 cd:W.kdsCode X.K X.env.code=true
theorem FnCx.frs {X:Cx} (F:FnCx X):L2.frs X.stack=X.env.locals :: X.fs:=by
 rw[F.stk]
 show List.filterMap _ _=_
 rw[cf,F.fr]
 rfl
section
variable {X:Cx} {p_:List (Addr×Obj)} {σ:St} {H:Hp} {s:Shared}
theorem Inv.gone0 (I:Inv X p_ σ H s) (F:FnCx X) {b:Addr} (h:s.heap.get? b=none):X.s₀.heap.get? b=none:=by
 cases e:X.s₀.heap.get? b with
 |none=>rfl
 |some o=>
  obtain⟨o',e'⟩:=I.base.there b o e (by rw[F.ex];exact ap)
  rw[h]at e';cases e'
theorem iT' {P:Program} {w:World} {H:Hp} {h:Heap} (k:HOk P w H h) {b:Addr} {u:HO} (e:H b=some u):∃o,h.get? b=some o:=by
 have z:=k b u e
 cases u with
 |lst xs=>obtain⟨_,_,_,_,e⟩:=z;exact⟨_,e⟩
 |tup xs=>obtain⟨_,_,_,p⟩:=z;obtain⟨o,e,_⟩:=p;exact⟨o,e⟩
 |dK kvs=>obtain⟨_,_,vs,_,o,_,_,e,_⟩:=z;exact⟨o,e⟩
 |dT kvs=>obtain⟨_,_,xs,_,o,_,_,e,_⟩:=z;exact⟨o,e⟩
 |set S n=>obtain⟨o,_,_,_,e,_⟩:=z;exact⟨o,e⟩
 |ins C dx fs=>obtain⟨_,_,_,e,_⟩:=z;exact⟨_,e⟩
 |own x=>exact z
 |xd fs=>obtain⟨_,⟨o,_,_,e,_⟩,_⟩:=z;exact⟨o,e⟩
 |rng lo hi=>obtain⟨_,_,_,e⟩:=z;exact⟨_,e⟩
 |frz o u=>exact⟨o,z.1⟩
 |tbl ps=>exact⟨_,z⟩
 |met f x=>exact⟨_,z⟩
 |ext φ=>exact z.2.1
theorem Inv.gone (I:Inv X p_ σ H s) {b:Addr} (h:s.heap.get? b=none):H b=none:=by
 cases e:H b with
 |none=>rfl
 |some u=>
  obtain⟨o,q⟩:=iT' I.hok e
  rw[h]at q;cases q
theorem Inv.left {S:List Addr} {e:Addr} {cls:Value} {h2:Heap} (I:Inv X p_ σ H s) (F:FnCx X) (L:LeftX (frs X.stack) S e cls s.heap h2)
  (hS:∀b∈S,H b=none/\X.s₀.heap.get? b=none/\(∀p∈X.pn++p_,p.1≠b)/\∃o vs,s.heap.get? b=some o/\o.data=.fields vs):Inv X p_ σ H { s with heap:=h2 }:=by
 have hF:=F.frs
 have nfs:∀{b:Addr},b≠X.env.locals->b∉X.fs->b∉frs X.stack:=fun {b} h1 h2 hb=>by
  rw[hF]at hb
  rcases al.mp hb with z|z
  .exact h1 z
  .exact h2 z
 have cell_ok:∀x c oc v,X.env.cells.lookup x=some c->s.heap.get? c=some oc->oc.data=.cell v->h2.get? c=some oc:=fun x c oc v hx ho hd=>by
  refine L.keep c oc (nfs (I.cne x c hx) fun hb=>?_) (fun hb=>?_) ho
  .obtain⟨_,o,eo,_⟩:=I.ok.funs.mem hb
   exact aS _ (ai (aq eo) (I.ok.cab x c (F.fn x) hx))
  .obtain⟨_,_,_,o,vs,eo,ed⟩:=hS c hb
   rw[ho]at eo;cases eo
   rw[hd]at ed;cases ed
 refine⟨I.ok,I.os,I.bare,⟨fun b o e0 n hb hx=>?_,fun b o e0 n hb hx=>?_,I.base.free,fun b o e0 hx=>?_,I.base.tups,I.base.frzs,I.base.tbls⟩,?_,fun x c hx=>?_,I.free,I.freeC,fun p hp=>?_,fun b u e=>?_,I.len⟩
 .have e1:=I.base.keep b o e0 n hb hx
  refine L.keep b o (nfs (az (ai (aq e0) I.ok.above)) hb) (fun z=>?_) e1
  rw[(hS b z).2.1]at e0;cases e0
 .obtain⟨sl,e1⟩:=I.base.slot b o e0 n hb hx
  obtain⟨sl2,e2⟩:=L.slot b _ (by rw[hF];exact au _ hb) e1
  exact⟨sl2,e2⟩
 .obtain⟨o',e1⟩:=I.base.there b o e0 hx
  exact L.there b o' (fun z=>by rw[(hS b z).2.1]at e0;cases e0) e1
 .obtain⟨m,⟨o,es,ep,ho,hd,r⟩,hl⟩:=I.loc
  obtain⟨sl,e2⟩:=L.slot X.env.locals o (by rw[hF];exact ax) ho
  refine⟨m,⟨_,es,ep,e2,hd,r⟩,fun i x v h1 h2 h3=>?_⟩
  obtain⟨u,ru,q⟩:=hl i x v h1 h2 h3
  refine⟨u,ru,?_⟩
  rcases q with q|⟨k,c,hc,oc,ho,hd⟩
  .exact .inl q
  .exact .inr ⟨k,c,hc,oc,cell_ok x c oc _ hc ho hd,hd⟩
 .obtain⟨v,oc,ho,hd⟩:=I.cell x c hx
  exact⟨v,oc,cell_ok x c oc v hx ho hd,hd⟩
 .obtain⟨e,n,ne,nf,d⟩:=I.pin p hp
  exact⟨L.keep p.1 p.2 (nfs ne nf) (fun z=>(hS p.1 z).2.2.1 p hp rfl) e,n,ne,nf,d⟩
 .refine(I.hok b u e).stay (fun c v hc q=>?_) (fun _ q=>q) fun _ _ q=>q
  have tr:∃u',H c=some u':=by
   rcases hc with z|z
   .exact⟨u,by rw[z];exact e⟩
   .exact⟨_,z⟩
  obtain⟨u',hu⟩:=tr
  refine L.keep c v (fun hb=>?_) (fun hb=>?_) q
  .rw[I.stkFree c hb]at hu;cases hu
  .rw[(hS c hb).1]at hu;cases hu
def CX1 (P:Program) (w:World) (mg:Str->Option Value):CXT:=fun outer H s E e s'=>∃(ea T Ca:Addr) (nm:Str) (H':Hp),e=.ref ea/\mg nm=some (.ref Ca)/\s'.os=s.os/\AllBare s'.gens/\Un (frs outer) [] H H' s.heap s'.heap/\HOk P w H' s'.heap/\
 qE' s'.heap ea (.ref Ca) T/\H' ea=none/\H' T=none/\s.heap.get? ea=none/\s.heap.get? T=none/\E (.str nm 0) none H'
theorem mI' {h:Heap} {e T:Addr} {cls:Value} (x:qE' h e cls T):∃o vs,h.get? e=some o/\o.data=.fields vs:=by
 obtain⟨oe,vs,_,_,_,he,_,hd,_⟩:=x
 exact⟨oe,vs,he,hd⟩
theorem mJ' {h:Heap} {e T:Addr} {cls:Value} (x:qE' h e cls T):∃o vs,h.get? T=some o/\o.data=.fields vs:=by
 obtain⟨_,_,oT,ts,_,_,_,_,_,_,hT,hdT,_⟩:=x
 exact⟨oT,ts,hT,hdT⟩
theorem iU' {h:Heap} {e T:Addr} {cls:Value} (x:qE' h e cls T):T≠e:=by
 obtain⟨_,_,_,_,_,_,_,_,_,ne,_⟩:=x
 exact ne
theorem gm' {E:XK} {nm:Str} {e Ca t:Addr} (I:Inv X p_ σ H s) (F:FnCx X) (hm:X.mg nm=some (.ref Ca)) (hn:H e=none) (h0:X.s₀.heap.get? e=none) (hpin:∀p∈X.pn++p_,p.1≠e)
  (he:s.heap.get? e=some { cls:=.ref Ca,data:=.fields #[.ref t,.none,.none,.none,.bool false,.none] }) (hE:E (.str nm 0) none H):
  wpAny (model X.prog X.w) X.A (leaving X.env (.ref e)) (fun _ s''=>CX1 X.prog X.w X.mg X.outer X.H₀ X.s₀ E (.ref e) s'') (fun e' s''=>CX1 X.prog X.w X.mg X.outer X.H₀ X.s₀ E e' s'') s:=by
 have hfr:X.A.frames=some (X.env :: X.outer):=by rw[<- F.stk];exact I.ok.frames
 have hst:s.heap.FunFrames X.base (X.env :: X.outer):=by rw[<- F.stk];exact I.stack
 refine iS' (a0:=.ref t) hfr hst F.fr he rfl (by simp) (by simp) fun h2 L=>?_
 rw[<- F.stk]at L
 have I2:=I.left F L fun b hb=>by
  have:b=e:=by simpa using hb
  subst this
  exact⟨hn,h0,hpin,_,_,he,rfl⟩
 obtain⟨T,hT,hx⟩:=L.exc
 have hTg:s.heap.get? T=none:=hT.resolve_right fun z=>iU' hx (by simpa using z)
 exact⟨e,T,Ca,nm,H,rfl,hm,I2.os,I2.bare,by have:=I2.base;rw[F.ex]at this;exact this,I2.hok,hx,hn,I.gone hTg,h0,I.gone0 F hTg,hE⟩
theorem gn' {E:XK} {s':Shared} {e:Value} (I:Inv X p_ σ H s) (F:FnCx X) (c:CX1 X.prog X.w X.mg X.stack H s E e s'):
  wpAny (model X.prog X.w) X.A (leaving X.env e) (fun _ s''=>CX1 X.prog X.w X.mg X.outer X.H₀ X.s₀ E e s'') (fun e' s''=>CX1 X.prog X.w X.mg X.outer X.H₀ X.s₀ E e' s'') s':=by
 obtain⟨ea,T,Ca,nm,H',rfl,hm,ho,hb,un,hok,hx,hn,hnT,hg,hgT,hE⟩:=c
 have I1:Inv X p_ σ H' s':=I.call' ho un hok hb fun b hb=>absurd hb ap
 have hfr:X.A.frames=some (X.env :: X.outer):=by rw[<- F.stk];exact I.ok.frames
 have hst:s'.heap.FunFrames X.base (X.env :: X.outer):=by rw[<- F.stk];exact I1.stack
 refine kT' hfr hst F.fr hx fun h2 L=>?_
 rw[<- F.stk]at L
 have pne:∀b,s.heap.get? b=none->∀p∈X.pn++p_,p.1≠b:=fun b hb p hp z=>by
  have:=(I.pin p hp).1
  rw[z,hb]at this;cases this
 have I2:=I1.left F L fun b hb=>by
  simp only[al,ap,or_false]at hb
  rcases hb with rfl|rfl
  .exact⟨hn,I.gone0 F hg,pne _ hg,mI' hx⟩
  .exact⟨hnT,I.gone0 F hgT,pne _ hgT,mJ' hx⟩
 obtain⟨T2,hT2,hx2⟩:=L.exc
 have key:H' T2=none/\X.s₀.heap.get? T2=none:=by
  rcases hT2 with z|z
  .exact⟨I1.gone z,I1.gone0 F z⟩
  .simp only[al,ap,or_false]at z
   rcases z with z|z
   .exact absurd z (iU' hx2)
   .rw[z];exact⟨hnT,I.gone0 F hgT⟩
 exact⟨ea,T2,Ca,nm,H',rfl,hm,I2.os,I2.bare,by have:=I2.base;rw[F.ex]at this;exact this,I2.hok,hx2,hn,key.1,I.gone0 F hg,key.2,hE⟩
end
def bmV:List Value:=[.type "ValueError",.type "Exception",.type "BaseException",.type "object"]
section
variable {X:Cx}
set_option tactic.hygienic true in
theorem v0' {nm:Str} {Ca:Addr} {y:Str} {k} {np p cpos pos:Pos} {wish:St->Hp->Prop} (F:FnCx X) (hc:X.calm=true) (hg:Gl X nm) (hm:X.mg nm=some (.ref Ca)) (hns:W.nsIn X.K mainGlobals nm=some (some (.ref Ca))) (hexc:W.excIn X.K Ca bmV "ValueError.__new__"=true)
  (hd:(nm == ("__debug__":Str))=false)
  (hx:∀p_ σ H s e t,Inv X p_ σ H s->H e=none->X.s₀.heap.get? e=none->(∀p∈X.pn++p_,p.1≠e)->s.heap.get? e=some { cls:=.ref Ca,data:=.fields #[.ref t,.none,.none,.none,.bool false,.none] }->wish σ H->X.xe (.ref e) s):
  PS X (.Raise (some (.Call (.Name nm np) [.Constant (.str y) k p] [] cpos)) none pos) (fun _ σ H=>wish σ H):=by
 intro p_ s σ H D I h
 have cls:∀s':Shared,X.K.In s'.heap->∃bm N nm' q bs hdct sn sub ab col dd k0 k1 k2 k3 k5 mN,s'.heap.get? Ca=some (excClassObj nm' q Ca N bs bm hdct sn sub ab col dd k0 k1 k2 k3 k5 "ValueError.__new__")/\s'.heap.Ns N mN/\mN "__init__"=none/\OwnTail s'.heap bmV bm:=by
  intro s' KX
  have q:=hexc
  unfold W.excIn at q
  split at q
  .rename_i dd cd sl ho
   split at q
   .rename_i C' bm k0 k1 k2 k3 n k5 hm hs
    simp only[ag,beq_iff_eq,aO]at q
    obtain⟨⟨⟨⟨⟨rfl,rfl⟩,hdel⟩,ht⟩,hok⟩,hni⟩:=q
    obtain⟨nm',bs,mro,ns,qn,hd',sn,sub,ab,col,del⟩:=cd
    dsimp only at hm hdel hok hni
    subst hm hdel
    have hsl:sl=#[k0,k1,k2,k3,some (.builtin "ValueError.__new__"),k5]:=by
     obtain⟨l⟩:=sl
     simp only at hs
     rw[hs]
    subst hsl
    exact⟨bm,ns,nm',qn,bs,hd',sn,sub,ab,col,dd,k0,k1,k2,k3,k5,_,KX _ _ ho,.of_isNs (W.isNs_of_in KX hok),W.nsMap_none_of_in KX hok hni,W.tail_of_in KX ht⟩
   .cases q
  .cases q
 obtain⟨bm,N,nm',q,bs,hdct,sn,sub,ab,col,dd,k0,k1,k2,k3,k5,mN,hC,hN,hni,T⟩:=cls s I.kIn
 refine wpAny_Raise_call_subT (C:=Ca) (nm:=nm') (q:=q) (N:=N) (bs:=bs) (bm:=bm) (hdct:=hdct) (sn:=sn) (sub:=sub) (ab:=ab) (col:=col) (dd:=dd) (k0:=k0) (k1:=k1) (k2:=k2) (k3:=k3) (k5:=k5)
  PySem.F.excBase_ValueError (mN:=mN) (T.hasType PySem.F.excBase_ValueError.hasBase) (I.ok.hd hc) rfl hni (f3' I hg hm ⟨rfl,?_⟩ hd)
 refine Calls.evalArgs_plain ?_
 refine PyProof.Rows.spliced_more (Calls.Constant_str (PyProof.Rows.spliced_none ?_))
 refine⟨rfl,by show 1<=sizeLine;decide,hC,hN,T,fun h' e M=>?_⟩
 obtain⟨t,he,_,_⟩:=M.there
 have I2:Inv X p_ σ H { s with heap:=h',toks:=s.toks+1 }:=I.kept (t':=s.toks+1) M.keeps
 refine hx p_ σ H _ e t I2 (I.gone M.new) (I.gone0 F M.new) (fun p hp z=>?_) he h
 have:=(I.pin p hp).1
 rw[z,M.new]at this;cases this
end
def Cx.tryX (X:Cx) (p_:List (Addr×Obj)) (D:Ends) (hs:List ExceptHandler):Cx:={ X with
 pn:=X.pn++p_
 xe:=fun e s'=>wpAny (model X.prog X.w) X.A (noteFrame e X.env) (fun _ s₂=>wpAny (model X.prog X.w) X.A (setFlight e none) (fun _ s₃=>wpAny (model X.prog X.w) X.A (handleBy e X.env hs) (SP X p_ D) X.xe s₃) X.xe s₂) X.xe s' }
section
variable {X:Cx} {p_:List (Addr×Obj)} {σ:St} {H:Hp} {s:Shared} {D:Ends} {hs:List ExceptHandler}
theorem Inv.toTry (I:Inv X p_ σ H s):Inv (X.tryX p_ D hs) [] σ H s:=⟨⟨I.ok.mod,I.ok.kind,I.ok.glob,I.ok.blt,I.ok.above,I.ok.inj,I.ok.has,I.ok.cab,I.ok.hd,I.ok.frames,I.ok.stk,I.ok.exf,I.ok.bs,I.ok.bsz,I.ok.noex,I.ok.exfs,I.ok.funs,I.ok.frf⟩,I.os,I.bare,I.base,I.loc,I.cell,I.free,I.freeC,fun p hp=>I.pin p (by simpa[Cx.tryX]using hp),I.hok,I.len⟩
theorem Inv.fromTry {p_':List (Addr×Obj)} (I:Inv (X.tryX p_ D hs) p_' σ H s):Inv X p_ σ H s:=⟨⟨I.ok.mod,I.ok.kind,I.ok.glob,I.ok.blt,I.ok.above,I.ok.inj,I.ok.has,I.ok.cab,I.ok.hd,I.ok.frames,I.ok.stk,I.ok.exf,I.ok.bs,I.ok.bsz,I.ok.noex,I.ok.exfs,I.ok.funs,I.ok.frf⟩,I.os,I.bare,I.base,I.loc,I.cell,I.free,I.freeC,fun p hp=>I.pin p (aZ _ hp),I.hok,I.len⟩
theorem s5' {body:List Stmt} {h₀:ExceptHandler} {pos:Pos} {t:Ends->TS} (hb:∀p_ D,PSs (X.tryX p_ D [h₀]) body (t D)):PS X (.Try body [h₀] [] [] pos) (fun D σ H=>t D D σ H):=by
 intro p_ s σ H D I h
 refine wpAny_Try_except (df (hb p_ D [] s σ H D I.toTry h) (fun f s1 q=>?_) fun e s1 q=>q)
 cases f with
 |next=>
  obtain⟨σ',H',I',q⟩:=q
  exact wpAny_execs_nil ⟨σ',H',I'.fromTry,q⟩
 |brk=>
  obtain⟨σ',H',I',q⟩:=q
  exact⟨σ',H',I'.fromTry,q⟩
 |cont=>
  obtain⟨σ',H',I',q⟩:=q
  exact⟨σ',H',I'.fromTry,q⟩
 |ret u=>
  obtain⟨v,σ',H',I',rv,q⟩:=q
  exact⟨v,σ',H',I'.fromTry,rv,q⟩
def Cx.inX (X:Cx) (e:Addr):Cx:={ X with A:=X.A.mark (some (.ref e)),calm:=false,xe:=fun _ _=>False }
theorem Inv.toX {e:Addr} (I:Inv X p_ σ H s):Inv (X.inX e) p_ σ H s:=⟨⟨I.ok.mod,I.ok.kind,I.ok.glob,I.ok.blt,I.ok.above,I.ok.inj,I.ok.has,I.ok.cab,(fun h=>by cases h),I.ok.frames,I.ok.stk,I.ok.exf,I.ok.bs,I.ok.bsz,I.ok.noex,I.ok.exfs,I.ok.funs,I.ok.frf⟩,I.os,I.bare,I.base,I.loc,I.cell,I.free,I.freeC,I.pin,I.hok,I.len⟩
theorem Inv.fromX {e:Addr} (hd:X.calm=true->X.A.handled=none) (I:Inv (X.inX e) p_ σ H s):Inv X p_ σ H s:=⟨⟨I.ok.mod,I.ok.kind,I.ok.glob,I.ok.blt,I.ok.above,I.ok.inj,I.ok.has,I.ok.cab,hd,I.ok.frames,I.ok.stk,I.ok.exf,I.ok.bs,I.ok.bsz,I.ok.noex,I.ok.exfs,I.ok.funs,I.ok.frf⟩,I.os,I.bare,I.base,I.loc,I.cell,I.free,I.freeC,I.pin,I.hok,I.len⟩
def hy' (e Ca:Addr) (h:Heap):Prop:=∃o vs,h.get? e=some o/\o.cls=.ref Ca/\o.data=.fields vs
def gO' (e Ca:Addr):HO:=.ext (hy' e Ca)
theorem Inv.trackX {e Ca:Addr} (I:Inv X p_ σ H s) (hn:H e=none) (hφ:hy' e Ca s.heap) (h0:X.s₀.heap.get? e=none) (hp:∀p∈X.pn++p_,p.1≠e) (F:FnCx X):Inv X p_ σ (upd H e (gO' e Ca)) s:=by
 obtain⟨o,vs,ho,hc,hd⟩:=id hφ
 have hl:X.env.locals≠e:=by
  obtain⟨m,⟨o',es,ep,ho',hd',_⟩,_⟩:=I.loc
  intro z
  rw[z,ho]at ho'
  cases ho'
  rw[hd]at hd';cases hd'
 have hcell:∀x c,X.env.cells.lookup x=some c->c≠e:=fun x c hx z=>by
  obtain⟨v,oc,ho',hd'⟩:=I.cell x c hx
  rw[z,ho]at ho'
  cases ho'
  rw[hd]at hd';cases hd'
 have ne:∀b u,H b=some u->b≠e:=fun b u q z=>by rw[z,hn]at q;cases q
 refine⟨I.ok,I.os,I.bare,⟨I.base.keep,I.base.slot,fun b o e0 n hx=>?_,I.base.there,fun b xs q=>?_,fun b o u q=>?_,fun b ps q=>?_⟩,I.loc,I.cell,?_,fun x c hx=>?_,fun p hpp=>?_,fun b u q=>?_,I.len⟩
 .rw[ae' (fun z=>by rw[z,h0]at e0;cases e0)]
  exact I.base.free b o e0 n hx
 .have:=I.base.tups b xs q
  rw[ae' (ne _ _ this)];exact this
 .have:=I.base.frzs b o u q
  rw[ae' (ne _ _ this)];exact this
 .obtain⟨m,z⟩:=I.base.tbls b ps q
  exact⟨m,by rw[ae' (ne _ _ z)];exact z⟩
 .rw[ae' hl];exact I.free
 .rw[ae' (hcell x c hx)];exact I.freeC x c hx
 .obtain⟨e1,n1,r1⟩:=I.pin p hpp
  exact⟨e1,by rw[ae' (hp p hpp)];exact n1,r1⟩
 .by_cases hb:b=e
  .subst hb
   rw[ac']at q
   cases q
   refine⟨hφ,⟨o,ho⟩,fun h1 h2 q k=>?_⟩
   obtain⟨o,vs,ho,r⟩:=q
   exact⟨o,vs,k _ ho,r⟩
  .rw[ae' hb]at q
   exact(I.hok b u q).stay (fun _ _ _ z=>z) (fun c z=>by rw[ae' (ne _ _ z)];exact z) fun c xs z=>by rw[ae' (ne _ _ z)];exact z
theorem BF' {M:Model} {A:Around} {E:Value->Shared->Prop} {l:List Env} {base0:Heap} {e T:Addr} {cls:Value} {Q:Unit->Shared->Prop} (hl:s.heap.FunFrames base0 l) (hx:qE' s.heap e cls T) (h:∀h',LeftX (frs l) [e,T] e cls s.heap h'->Q () { s with heap:=h' }):wpAny M A (setFlight (.ref e) none) Q E s:=by
 obtain⟨oe,vs,oT,ts,a0,he,hc,hd,h1,hTe,hT,hdT,h3⟩:=id hx
 have nof:∀b o vs,s.heap.get? b=some o->o.data=.fields vs->b∉frs l:=fun b o vs eb db hb=>by
  obtain⟨_,o',ho',hnf⟩:=hl.mem hb
  rw[eb]at ho';cases ho'
  exact hnf vs db
 refine wpAny_setFlight_noneW (base:=qD' s.heap ([e,T]++frs l)) (l:=l) de' (b5' hl fun b hb=>ak _ hb) ⟨oe,vs,T,oT,ts,he,hc,hd,h1,cC' (by simp),hTe,hT,hdT,h3⟩ fun h2 m1 m2 m3 m4=>h h2 ?_
 refine gl' hl (by simp) (fun b hb=>?_) ⟨m1,m2,m3,fun b o hb hnf=>⟨o.slots,m4 b o hb hnf⟩⟩
 simp only[al,ap,or_false]at hb
 rcases hb with rfl|rfl
 .exact⟨nof _ oe vs he hd,oe,vs,he,hd⟩
 .exact⟨nof _ oT ts hT hdT,oT,ts,hT,hdT⟩
theorem mK' {M:Model} {A:Around} {E:Value->Shared->Prop} {i:Nat} {x:Str} {pos:Pos} {Q:Unit->Shared->Prop} (I:Inv X p_ σ H s) (hN:X.N.Nodup) (hi:X.N[i]?=some x) (hk:X.env.scope.names.lookup x=some .local)
  (h:∀s',Inv X p_ (σ.set i none) H s'->Q () s'):wpAny M A (do bindName X.env x .none;unbindBehindTheSuite X.env x pos) Q E s:=by
 obtain⟨m,hn,hl⟩:=id I.loc
 have hcls:(X.env.scope.kind == .class || (X.env.scope.kind == .module&&X.env.locals != X.env.globals))=false:=by rw[I.ok.kind];rfl
 have hiσ:i<σ.length:=by rw[I.len];exact(aH.mp hi).1
 have cne:=I.cne
 obtain⟨oL,_,_,hoL,_⟩:=id hn
 refine wpAny_nameGoes_keeps hk hn hcls fun h' v hn' hs=>?_
 have tracked:HOk X.prog X.w H h':=fun b ob e=>by
  refine(I.hok b ob e).stay (fun c w' hc q=>(hs.2 c ?_).trans q) (fun _ q=>q) fun _ _ q=>q
  rintro rfl
  rcases hc with z|z
  .rw[<- z,I.free]at e;cases e
  .rw[I.free]at z;cases z
 refine h _ ⟨I.ok,I.os,I.bare,⟨fun b o e n hb hx=>?_,fun b o e n hb hx=>?_,I.base.free,fun b o e hx=>?_,I.base.tups,I.base.frzs,I.base.tbls⟩,⟨_,hn',fun j y v' e1 e2 e3=>?_⟩,fun y c e=>?_,I.free,I.freeC,fun p hp=>?_,tracked,by simpa using I.len⟩
 .exact(hs.2 b (az (ai (aq e) I.ok.above))).trans (I.base.keep b o e n hb hx)
 .obtain⟨sl,e1⟩:=I.base.slot b o e n hb hx
  exact⟨sl,(hs.2 b (az (ai (aq e) I.ok.above))).trans e1⟩
 .obtain⟨o',e1⟩:=I.base.there b o e hx
  exact⟨o',(hs.2 b (az (ai (aq e) I.ok.above))).trans e1⟩
 .by_cases hj:j=i
  .subst hj
   rw[cI hiσ]at e2
   cases e2
  .rw[bH (Ne.symm hj)]at e2
   obtain⟨u',r',q⟩:=hl j y v' e1 e2 e3
   refine⟨u',r',?_⟩
   rcases q with⟨k,e⟩|⟨k,c,e,z⟩
   .refine .inl ⟨k,?_⟩
    have:y≠x:=fun e=>hj (eD' hN e1 (e ▸ hi))
    simp[this,e]
   .exact .inr ⟨k,c,e,z.sameBut hs (cne y c e)⟩
 .obtain⟨w',z⟩:=I.cell y c e
  exact⟨w',z.sameBut hs (cne y c e)⟩
 .obtain⟨e,n,ne,nf,d⟩:=I.pin p hp
  exact⟨(hs.2 p.1 ne).trans e,n,ne,nf,d⟩
theorem mL' {p_':List (Addr×Obj)} {s':Shared} {E':XK} {e:Value} {c n:Str} {Cc:Addr} {i:Nat} {b₀:Stmt} {suite:List Stmt} {np pos:Pos} {th:TS} (I:Inv (X.tryX p_ D [.ExceptHandler (some (.Name c np)) (some n) (b₀ :: suite) pos]) p_' σ H s) (F:FnCx X) (hc:X.calm=true)
  (hN:X.N.Nodup) (hi:X.N[i]?=some n) (hloc:X.env.scope.names.lookup n=some .local) (hcg:Gl X c) (hcm:X.mg c=some (.ref Cc)) (hcd:(c == ("__debug__":Str))=false)
  (hsuite:∀e,PSs (X.inX e) (b₀ :: suite) th)
  (hW:∀nm Ca H',X.mg nm=some (.ref Ca)->E' (.str nm 0) none H'->W.exmOne X.K (.ref Ca) (.ref Cc)=some true/\∀e,H' e=none->th { nx:=fun σ2 H2=>D.nx (σ2.set i none) H2,rt:=D.rt } (σ.set i (some (.ref e))) (upd H' e (gO' e Ca)))
  (cx:CX1 X.prog X.w X.mg X.stack H s E' e s'):(X.tryX p_ D [.ExceptHandler (some (.Name c np)) (some n) (b₀ :: suite) pos]).xe e s':=by
 obtain⟨ea,T,Ca,nm,H',rfl,hm,ho,hb,un,hok,hx,hn,hnT,hg,hgT,hE⟩:=cx
 obtain⟨hexm,hth⟩:=hW nm Ca H' hm hE
 have I0:Inv X p_ σ H s:=I.fromTry
 have I1:Inv X p_ σ H' s':=I0.call' ho un hok hb fun b hb=>absurd hb ap
 have hfr:X.A.frames=some (X.env :: X.outer):=by rw[<- F.stk];exact I0.ok.frames
 have hst:s'.heap.FunFrames X.base (X.env :: X.outer):=by rw[<- F.stk];exact I1.stack
 have pne:∀b,s.heap.get? b=none->∀p∈X.pn++p_,p.1≠b:=fun b hb p hp z=>by
  have:=(I0.pin p hp).1
  rw[z,hb]at this;cases this
 refine mH' hfr hst F.fr hx fun h2 L=>?_
 rw[<- F.stk]at L
 have I2:=I1.left F L fun b hb=>by
  simp only[al,ap,or_false]at hb
  rcases hb with rfl|rfl
  .exact⟨hn,I0.gone0 F hg,pne _ hg,mI' hx⟩
  .exact⟨hnT,I0.gone0 F hgT,pne _ hgT,mJ' hx⟩
 obtain⟨T2,hT2,hx2⟩:=L.exc
 obtain⟨oe,vs,oT,ts,a0,he,⟨hcls,h0⟩,hd,h1,hTe,hT,hdT,h3⟩:=id hx2
 have keyT:H' T2=none/\X.s₀.heap.get? T2=none/\∀p∈X.pn++p_,p.1≠T2:=by
  rcases hT2 with z|z
  .exact⟨I1.gone z,I1.gone0 F z,fun p hp q=>by
    have:=(I1.pin p hp).1
    rw[q,z]at this;cases this⟩
  .simp only[al,ap,or_false]at z
   rcases z with z|z
   .exact absurd z (iU' hx2)
   .rw[z];exact⟨hnT,I0.gone0 F hgT,pne _ hgT⟩
 refine wpAny_handleBy_cons (codeAny_handlers_test (f3' (X:=X.inX ea) I2.toX hcg hcm ?_ hcd)) (by intro q;cases q)
 have LT:W.Looks (model X.prog X.w) h2 (typeOf (.ref ea)) (.ref Ca):=hcls ▸ (W.Looks.ld he).andThen .now
 refine(W.exm_one (K:=X.K) I2.kIn LT hexm) _ _ _ _ (fun _ _ z=>z) ?_
 show codeAny _ _ _ _ _
 refine codeAny_handlers_suite_as ?_
 have hst2:h2.FunFrames X.base X.stack:=I2.stack
 refine BF' (s:={ s' with heap:=h2 }) hst2 hx2 fun h3' L3=>?_
 have I3:=I2.left F L3 fun b hb=>by
  simp only[al,ap,or_false]at hb
  rcases hb with rfl|rfl
  .exact⟨hn,I0.gone0 F hg,pne _ hg,mI' hx2⟩
  .exact⟨keyT.1,keyT.2.1,keyT.2.2,mJ' hx2⟩
 obtain⟨T3,_,hx3⟩:=L3.exc
 refine dH' (v:=.ref ea) I3 hN hi (.inl hloc) rfl (fun s4 I4 hsb=>?_) (.inr hloc)
 obtain⟨oe3,vs3,_,_,_,he3,⟨hcls3,_⟩,hd3,_⟩:=id hx3
 have hea4:hy' ea Ca s4.heap:=by
  obtain⟨a,hsb,ha⟩:=hsb
  have hne:ea≠a:=by
   rintro rfl
   rcases ha with z|z
   .obtain⟨m,⟨o',es,ep,ho',hd',_⟩,_⟩:=I3.loc
    rw[<- z,he3]at ho'
    cases ho'
    rw[hd3]at hd';cases hd'
   .obtain⟨v,oc,ho',hd'⟩:=I3.cell _ _ z
    rw[he3]at ho'
    cases ho'
    rw[hd3]at hd';cases hd'
  exact⟨oe3,vs3,(hsb.2 ea hne).trans he3,hcls3,hd3⟩
 have I5:=I4.trackX hn hea4 (I0.gone0 F hg) (pne _ hg) F
 refine df (hsuite ea p_ s4 _ _ _ I5.toX (hth ea hn)) (fun f s5 q5=>?_) fun _ _ z=>z.elim
 cases f with
 |next=>
  obtain⟨σ5,H5,I5,q⟩:=q5
  exact mK' (I5.fromX I0.ok.hd) hN hi hloc fun s6 I6=>⟨_,_,I6,q⟩
 |brk=>obtain⟨_,_,_,q⟩:=q5;exact q.elim
 |cont=>obtain⟨_,_,_,q⟩:=q5;exact q.elim
 |ret u=>
  obtain⟨v,σ5,H5,I5,r,q⟩:=q5
  exact mK' (I5.fromX I0.ok.hd) hN hi hloc fun s6 I6=>⟨v,_,_,I6,r,q⟩
end
end L2
namespace L2
open PySem PySem.Spec PyProof.Rows PySem.W
structure XCls (K:Frag) (C:Addr):Prop where
 ga:findIn K (.ref C) "__getattribute__"=some (some (.builtin "BaseException.__getattribute__"))
 gt:findIn K (.ref C) "__getattr__"=some none
 cl:findIn K (.ref C) "__class__"=some (some (.builtin "object.__class__"))
 be:subIn K (.ref C) (.type "BaseException")=some true
 ob:subIn K (.ref C) (.type "object")=some true
 is:(clsIn K C).isSome=true
section
variable {prog:Program} {w:World} {A:Around} {E:Value->Shared->Prop} {K:Frag} {h:Heap} {g:Array GenState} {d:Drawn} {t:Nat} {os:OsState} {a C:Addr} {o:Obj}
theorem mM':plainId "BaseException.__getattribute__"=true:=⋯
theorem pg' (v:Value):bindSpecial (.builtin "BaseException.__getattribute__") v=pure (.builtin "BaseException.__getattribute__",[v]):=by
 have k1:builtinKind "BaseException.__getattribute__"=some .slot:=⋯
 have k2:withoutEnding? "BaseException.__getattribute__" "#opaque"=none:=⋯
 have k3:withoutEnding? "BaseException.__getattribute__" "#data"=none:=⋯
 simp only[bindSpecial,typeOf,builtinType,k2,k3,k1]
 rfl
theorem zs' {R:Result->Shared->Prop} (X:K.In h) (hx:h.get? a=some o) (hc:o.cls=.ref C) (x:XCls K C) (hq:R (.ok (.ret (.ref C))) ⟨h,g,d,t,os⟩):
  codeAny (model prog w) A (.call (.builtin "getset_descriptor.__get__") ⟨[.builtin "object.__class__",.ref a,.ref C],[]⟩) R ⟨h,g,d,t,os⟩:=by
 have ty:(⟨h,g,d,t,os⟩:Shared).TypeIs (.builtin "object.__class__") "getset_descriptor":=F.typeOf_object_class
 have L1:Looks (model prog w) h (isSubtype (.ref C) (.type (".".intercalate ("object.__class__".cutAt '.').dropLast))) true:=by rw[F.owner_object_class];exact looks_subIn X x.ob
 refine codeAny_call_builtin F.slot_gs_get.plain F.entry_gs_get ?_
 refine F.slot_gs_get.check _ _ _ _ _ _ _ _ ty (F.args_gs_get _ _ _) ?_
 repeat (any_goals (first|assumption|(with_reducible refine cY hx ?_;rw[hc])|(with_reducible refine L1.at ?_)|wp_step))
 constructor
 .exact Code.quiet_builtin _ ⋯
 refine codeAny_builtin F.entry_object_class ?_
 repeat (any_goals (first|assumption|(with_reducible refine cY hx ?_;rw[hc])|wp_step))
theorem s6' {tk:Tok} {Q:Fin->Shared->Prop} (X:K.In h) (hx:h.get? a=some o) (hc:o.cls=.ref C) (x:XCls K C) (hq:Q (.done (.ret (.ref C))) ⟨h,g,d,t,os⟩):
  wpAny (model prog w) A (Builtin.«object.__getattribute__» ⟨[.ref a,.str "__class__" tk],[]⟩) Q E ⟨h,g,d,t,os⟩:=by
 have ty:(⟨h,g,d,t,os⟩:Shared).TypeIs (.builtin "object.__class__") "getset_descriptor":=F.typeOf_object_class
 have f5:=F.typeOf_object_class
 have f6:=F.slot_gs_get.lookup
 have f7:=F.slot_gs_set.lookup
 have L1:=looks_findIn (M:=model prog w) X x.cl
 repeat (any_goals (first|assumption|(with_reducible refine cY hx ?_;rw[hc])|(with_reducible refine L1.at ?_)|wp_step))
 refine zs' X hx hc x ?_
 repeat (any_goals (first|assumption|wp_step))
theorem s7' {M:Model} {v:Value} {Q:Unit->Shared->Prop} (X:K.In h) (hx:h.get? a=some o) (hc:o.cls=.ref C) (x:XCls K C) (hq:Q () ⟨h,g,d,t,os⟩):wpAny M A (checkBuiltinCall "BaseException.__getattribute__" ⟨[.ref a,v],[]⟩) Q E ⟨h,g,d,t,os⟩:=by
 have k1:builtinKind "BaseException.__getattribute__"=some .slot:=⋯
 have k2:splitId "BaseException.__getattribute__"=some ("BaseException","__getattribute__"):=⋯
 have k3:=F.args_bexc_ga (.ref a) v
 have L1:=looks_subIn (M:=M) X x.be
 simp only[checkBuiltinCall,k1,k2]
 refine aa ?_
 unfold isInstance
 repeat (first|(with_reducible refine cY hx ?_;rw[hc])|(with_reducible refine L1.at ?_)|wp_step)
 exact hq
theorem v1' {tk:Tok} {R:Result->Shared->Prop} (X:K.In h) (hx:h.get? a=some o) (hc:o.cls=.ref C) (x:XCls K C) (hq:R (.ok (.ret (.ref C))) ⟨h,g,d,t,os⟩):
  codeAny (model prog w) A (.call (.builtin "BaseException.__getattribute__") ⟨[.ref a,.str "__class__" tk],[]⟩) R ⟨h,g,d,t,os⟩:=by
 refine codeAny_call_builtin mM' F.entry_bexc_ga (s7' X hx hc x ?_)
 exact s6' X hx hc x hq
theorem BG' {tk:Tok} {fill expr:Bool} {Q:Value->Shared->Prop} (X:K.In h) (hx:h.get? a=some o) (hc:o.cls=.ref C) (x:XCls K C) (hq:Q (.ref C) ⟨h,g,d,t,os⟩):
  wpAny (model prog w) A (getAttrBy (.ref a) (.str "__class__" tk) fill expr) Q E ⟨h,g,d,t,os⟩:=by
 have L1:=looks_findIn (M:=model prog w) X x.ga
 have L2':=looks_findIn (M:=model prog w) X x.gt
 have b0:=pg' (.ref a)
 have z0:(expr&&onTheHeap (Value.builtin "BaseException.__getattribute__"))=false:=by cases expr<;>rfl
 repeat (any_goals (first|assumption|(with_reducible refine cY hx ?_;rw[hc])|(with_reducible refine L1.at ?_)|(with_reducible refine L2'.at ?_)|wp_step))
 refine v1' X hx hc x ?_
 repeat (any_goals (first|assumption|wp_step))
theorem v2' {Q:Option Value->Shared->Prop} (X:K.In h) (hx:h.get? a=some o) (hc:o.cls=.ref C) (x:XCls K C) (hq:Q (some (.ref C)) ⟨h,g,d,t+1,os⟩):
  wpAny (model prog w) A (getAttr? (.ref a) "__class__") Q E ⟨h,g,d,t,os⟩:=by
 unfold getAttr?
 repeat (any_goals (first|assumption|with_reducible apply BG' X hx hc x|wp_step))
set_option tactic.hygienic true in
theorem qG' {C:Addr} (e:(clsIn K C).isSome=true):∃o cd,K.lookup C=some o/\o.data=.cls cd:=by
 unfold clsIn at e
 split at e
 .rename_i c0 d0 cd0 sl0 ho
  exact⟨_,cd0,ho,rfl⟩
 .cases e
theorem mN' {e Ca:Addr} (x:XCls K Ca):KitX K (.ref e) (.ref Ca) (hy' e Ca) where
 ty:=fun M h _ ⟨o,vs,h1,h2,_⟩=>by
  rw[<- h2]
  exact(Looks.ld h1).andThen .now
 it:=fun M h X _=>by
  obtain⟨o,cd,h1,h2⟩:=qG' x.is
  intro A' Q' E' s' k q
  unfold isType loadHead
  refine aa (wpAny_loadPart (k _ _ (X _ _ h1)) (am ?_))
  rw[h2]
  exact q
 ne:=fun h tp dd its n sl X htp=>by
  obtain⟨o,cd,h1,h2⟩:=qG' x.is
  cases b:(Value.ref Ca == Value.ref tp)with
  |false=>rfl
  |true=>
   have z:Ca=tp:=Value.ref.inj (beq_iff_eq.mp b)
   subst z
   have q:=(X _ _ h1).symm.trans htp
   cases q
   cases h2
 ca:=fun {_ _ _ _ _ s} X ⟨o,vs,h1,h2,_⟩ q=>by
  obtain⟨h,g,d,t,os⟩:=s
  exact v2' X h1 h2 x q
end
end L2
namespace L2
open PySem PySem.Spec PyProof.Rows PySem.W
section
variable {X:Cx}
def zt':V->Option Value
 | .ref a=>some (.ref a)
 | .ty T=>some (.type T)
 |_=>none
theorem mO' {x:V} {u v:Value} (h:zt' x=some v) (r:aP' x u):u=v:=by
 cases x<;>first|(cases h;done)|(cases h;exact r)
def ph':List V->List Value->Prop
 | [],[]=>True
 |x :: xs,v :: vs=>zt' x=some v/\ph' xs vs
 |_,_=>False
theorem jC':∀{xs:List V} {us vs:List Value},ph' xs vs->aQ' xs us->us=vs
 | [],_,[],_,.nil=>rfl
 |x :: xs,_,v :: vs,h,.cons r t=>by rw[mO' h.1 r,jC' h.2 t]
 | [],_,_ :: _,h,_=>h.elim
 |_ :: _,_,[],h,_=>h.elim
def AX' (K:Frag):List V->Hp->VK->Prop:=fun xs H Q=>∃(e Ca:Addr) (b:Bool),H e=some (gO' e Ca)/\XCls K Ca/\((∃c v,xs=[.ref e,c]/\zt' c=some v/\kitOne K (.ref Ca) v=some b)\/∃p cs vs,xs=[.ref e,.ref p]/\H p=some (.tup cs)/\ph' cs vs/\kitAny K (.ref Ca) vs=some b)/\Q (.bl b) H
theorem pi':a4' X (.builtin "isinstance") (AX' X.K):=by
 intro p_ s σ H xs us Q I r h
 obtain⟨e,Ca,b,he,x,hk,q⟩:=h
 have ho:hy' e Ca s.heap:=(show aE' X.prog X.w H s.heap e (gO' e Ca) from I.hok e _ he).1
 rcases hk with⟨c,v,rfl,hc,hb⟩|⟨p,cs,vs,rfl,hp,hc,hb⟩
 .obtain⟨u,w',rfl,r1,r2⟩:=iC' r
  have r1:u=Value.ref e:=r1
  subst r1
  rw[mO' hc r2]
  exact kia_one (mN' x) I.kIn ho hb (fun z=>nomatch z) fun tk=>⟨.bl _,H,I.tok _,rfl,q⟩
 .obtain⟨u,w',rfl,r1,r2⟩:=iC' r
  have r1:u=Value.ref e:=r1
  have r2:w'=Value.ref p:=r2
  subst r1 r2
  obtain⟨_,its,rv,o,h1,h2,⟨n,h3⟩,_⟩:=(show aE' X.prog X.w H s.heap p (.tup cs) from I.hok p _ hp)
  rw[jC' hc rv]at h3
  obtain⟨oc,od,dat,osl⟩:=o
  have h2:oc=_:=h2
  have h3:dat=_:=h3
  subst h2 h3
  exact kia_tup (mN' x) I.kIn ho h1 hb (fun z=>nomatch z) fun tk=>⟨.bl _,H,I.tok _,rfl,q⟩
end
def AY':Option Int->Value->Bool
 |some k,v=>Value.isInt k v
 |none,.none=>true
 |none,_=>false
theorem bb':∀{k:Option Int} {v:Value},AY' k v=true->(∃i t,k=some i/\v=Value.int i t)\/(k=none/\v=Value.none)
 |some i,v,h=>by
  obtain⟨t,e⟩:=Value.isInt_shape (k:=i) (v:=v) h
  exact .inl ⟨i,t,rfl,e⟩
 |none,v,h=>by cases v<;>first|exact .inr ⟨rfl,rfl⟩|cases h
def okH:Option Int->Int
 |some k=>hashInt k
 |none=>0xFCA86420
def kU' (prog:Program) (w:World):PySem.KeyKind prog w (Option Int) where
 is:=AY'
 hash:=okH
 inj:=fun v a b ha hb=>by
  rcases bb' ha with⟨i,t,rfl,rfl⟩|⟨rfl,rfl⟩
  .rcases bb' hb with⟨j,u,rfl,e⟩|⟨rfl,e⟩
   .injection e with e1 _;rw[e1]
   .exact nomatch e
  .rcases bb' hb with⟨j,u,rfl,e⟩|⟨rfl,e⟩
   .exact nomatch e
   .rfl
 byValue:=fun k v h=>by
  rcases bb' h with⟨i,t,rfl,rfl⟩|⟨rfl,rfl⟩<;>rfl
 pyHash:=fun hv h=>by
  rcases bb' hv with⟨i,t,rfl,rfl⟩|⟨rfl,rfl⟩
  .exact wpAny_pyHash_int h
  .exact eU' h
 eqBool:=fun {A E s a b u v Q} hu hv h=>by
  rcases bb' hu with⟨i,t,rfl,rfl⟩|⟨rfl,rfl⟩
  .rcases bb' hv with⟨j,u,rfl,rfl⟩|⟨rfl,rfl⟩
   .have e:decide ((some i:Option Int)=some j)=(i == j):=by
     by_cases q:i=j
     .subst q;simp
     .rw[decide_eq_false (fun z=>q (Option.some.inj z)),(beq_eq_false_iff_ne.mpr q)]
    rw[e]at h
    exact wpAny_eqBool_int h
   .exact SeqAt.EqAt.int_none i t _ _ _ _ h
  .rcases bb' hv with⟨j,u,rfl,rfl⟩|⟨rfl,rfl⟩
   .exact SeqAt.EqAt.none_int j u _ _ _ _ h
   .exact SeqAt.EqAt.same .none _ _ _ _ h
 «strs»:=fun k x t v h=>by
  rcases bb' h with⟨i,u,rfl,e⟩|⟨rfl,e⟩<;>exact nomatch e
end L2
namespace L2
open PySem PySem.Spec PyProof.Rows
def fb' {α:Type} (own:List Nat) (wi:TI) (g:TG) (tc:TT) (aF':TL α) (a0:α) (ho:Addr->α->HO) (ok:α->Hp->Prop):TE:=fun σ H Q=>wi σ H fun J H1=>bi' own g tc aF' J σ a0 H1 fun xs H2=>ok xs H2/\∀p,H2 p=none->Q (.ref p) (upd H2 p (ho p xs))
structure CompInG {α:Type} (Is:α->Obj->Prop) (X:Cx) (e:Expr) (scope:Scope) (tg:Expr) (iter:Expr) (ifs:List Expr) (nx:Addr->Env->Sem Unit) (g:TG) (tc:TT) (aF':TL α) (own:List Nat):Prop where
 sc:CompSc X scope
 ow:∀i x,X.N[i]?=some x->(scope.names.lookup x=some .local\/scope.names.lookup x=some .cell)->i∈own
 cl:∃gs,clausesOf e=⟨tg,iter,ifs,0⟩ :: gs
 fs:∀x,foldedSetIterable iter X.env x=pure x
 calm:X.calm=true
 q:∀it D env,(Code.compLoop e 0 it (.ref D) env).quiet=true/\(Code.compStart e 0 it (.ref D) env).quiet=true
 u:∀A it D env,Around.under A (Code.compLoop e 0 it (.ref D) env)=A/\Around.under A (Code.compStart e 0 it (.ref D) env)=A
 T:∀P w it D env,(model P w).den (.compLoop e 0 it (.ref D) env)=(ba' e 0 tg iter ifs (nx D env) it (.ref D) env).onRaise (fun x=>do noteFrame x env;theTreesLotGoes x)
 S:∀P w it D env,(model P w).den (.compStart e 0 it (.ref D) env)=(compStart e 0 it (.ref D) env).onRaise (fun x=>do noteFrame x env;standAt theWindowsPlace)
 ge:uE' own g
 inn:∀s0 H0 ex D,PG (X.comp scope s0 H0 ex) tg g/\PTs (X.comp scope s0 H0 ex) ifs tc/\∃ws',(∀j∈ws',j∈own)/\cB' (X.comp scope s0 H0 ex) D Is ws' (nx D (X.comp scope s0 H0 ex).env) aF'
section
variable {X:Cx} {e:Expr} {scope:Scope} {tg iter:Expr} {ifs:List Expr} {nx:Addr->Env->Sem Unit} {g:TG} {tc:TT} {α:Type} {Is:α->Obj->Prop} {aF':TL α} {own:List Nat} {wi:TI} {a0:α} {o0:Bool->Obj} {newAcc:Sem Value} {ho:Addr->α->HO} {ok:α->Hp->Prop}
theorem hA' (hnew:∀(s:Shared) (Q:Value->Shared->Prop),(∀led,Q (.ref s.heap.objs.size) { s with heap:=s.heap.push (o0 led) })->wpAny (model X.prog X.w) X.A newAcc Q X.xe s) (hfr:∀led,(o0 led).isFreed=false) (ha0:∀led,Is a0 (o0 led)) (hda:∀(a:α) (o:Obj),Is a o->∀v:Option Value,o.data≠.cell v) (C:CompInG Is X e scope tg iter ifs nx g tc aF' own) (hi:PI X tg iter wi) {p_:List (Addr×Obj)} {s:Shared} {σ:St} {H:Hp} {R:V->Hp->Prop} (I:Inv X p_ σ H s) (hw:fb' own wi g tc aF' a0 ho ok σ H R)
  {use:Option (Value->Sem Unit)} {Q:Value->Shared->Prop} {pos:Pos}
  (fin:∀(s3 s':Shared) (H0 H':Hp) (ex:List Addr) (D:Addr) (xs:α) (o:Obj) (σ':St),Inv X p_ σ H0 s3->(∀b∈ex,dG' X p_ H0 b)->Inv (X.comp scope s3 H0 ex) [] σ' H' s'->s'.heap.get? D=some o->D<s3.heap.objs.size->X.s₀.heap.objs.size<=D->dG' X p_ H0 D->(D == sysModules)=false->Is xs o->H' D=none->ok xs H'->R (.ref D) (upd H' D (ho D xs))->
   compPost (model X.prog X.w) X.A X.xe use Q (.ref D) s3.heap.objs.size (.ok .next) s'):
  wpAny (model X.prog X.w) X.A (comprehension e scope X.env pos newAcc false (eval iter X.env) use) Q X.xe s:=by
 obtain⟨gs,hcl⟩:=C.cl
 refine wpAny_comprehension_free hcl C.fs (lU' fun n hn=>I.ok.has n (C.sc.free n hn)) C.sc.kind C.sc.names ?_
 refine thn (hi p_ s σ H _ I hw) fun v s1 h1=>thn h1 fun itv s2 h2=>?_
 obtain⟨it,fp,tn,J,H2,rfl,I2,T,st2,f2,hc⟩:=h2
 refine hnew _ _ fun led=>dL' ?_
 have keep:∀b o,s2.heap.get? b=some o->(s2.heap.push (o0 led)).get? b=some o:=fun b o e=>ae _ e
 have I3:Inv X p_ σ H2 { s2 with heap:=s2.heap.push (o0 led) }:=I2.kept (t':=s2.toks) keep
 have hsz:(s2.heap.push (o0 led)).objs.size=s2.heap.objs.size+1:=bg ..
 have fD:dG' X p_ H2 s2.heap.objs.size:=I2.fpOk (aj _) (I2.hok.fresh (aj _))
 have hlt:∀b∈fp,b<s2.heap.objs.size:=fun b hb=>by
  obtain⟨o,e,_⟩:=T.obj _ _ st2 b hb
  exact aq e
 have hDf:s2.heap.objs.size∉fp:=fun z=>aS _ (hlt _ z)
 have hex:∀b∈s2.heap.objs.size :: fp,dG' X p_ H2 b:=fun b hb=>by
  rcases al.mp hb with rfl|hb
  .exact fD
  .exact f2 b hb
 generalize hs3:({ s2 with heap:=s2.heap.push (o0 led) }:Shared)=s3 at *
 have hs3s:s3.heap.objs.size=s2.heap.objs.size+1:=by rw[<- hs3];exact hsz
 have hlt3:∀b∈s2.heap.objs.size :: fp,b<s3.heap.objs.size:=fun b hb=>by
  rw[hs3s]
  rcases al.mp hb with rfl|hb
  .exact Nat.lt_succ_self _
  .exact bL (hlt b hb)
 have J0:=fK' (own:=own) I3 hex hlt3 C.sc C.ow
 obtain⟨c1,c2,ws',c4,c5⟩:=C.inn s3 H2 (s2.heap.objs.size :: fp) s2.heap.objs.size
 have kp:∀b o,s2.heap.get? b=some o->(bm' s3.heap scope.names).get? b=some o:=fun b o e=>pushCells_keeps _ _ b o (ae _ (by rw[<- hs3];exact keep b o e))
 have oD:(bm' s3.heap scope.names).get? s2.heap.objs.size=some (o0 led):=pushCells_keeps _ _ _ _ (ae _ (by rw[<- hs3];exact av _ (hfr led)))
 have stat:∀b∈s2.heap.objs.size :: fp,dG' (X.comp scope s3 H2 (s2.heap.objs.size :: fp)) [] H2 b:=fun b hb=>
  ⟨(hex b hb).1,(J0.ok.exf b hb).1,J0.ok.exfs b hb,.inl hb,(J0.ok.exf b hb).2,fun p hp=>absurd (show p∈([]:List (Addr×Obj)) from hp) (by simp)⟩
 have T':Turn (X.comp scope s3 H2 (s2.heap.objs.size :: fp)).prog (X.comp scope s3 H2 (s2.heap.objs.size :: fp)).w (X.comp scope s3 H2 (s2.heap.objs.size :: fp)).K tg J fp it tn:=T
 have hc':bi' own g tc aF' J (clr own σ) a0 H2 (fun xs H2=>ok xs H2/\∀p,H2 p=none->R (.ref p) (upd H2 p (ho p xs))):=by
  obtain⟨W,w0,turn⟩:=hc
  refine⟨W,w0,?_⟩
  rw[jr']
  exact turn
 have st3:tn 0 ({ s3 with heap:=bm' s3.heap scope.names }:Shared).heap:=T.keep _ _ _ st2 fun b hb o e=>kp b o e
 have L:=e4' (X:=X.comp scope s3 H2 (s2.heap.objs.size :: fp)) (Is:=Is) (D:=s2.heap.objs.size) rfl C.calm (C.q _ _ _).1 (C.u _ _ _ _).1 (C.T _ _ _ _ _) T' c1 C.ge c2 c5 c4 hda hDf J0
  (fun b hb=>stat b (au _ hb)) (stat _ ax) oD (ha0 led) st3 hc'
 have L2:=f8' (C.q _ _ _).2 (C.u _ _ _ _).2 (fun it'=>(C.q it' _ _).1) (C.S _ _ _ _ _) ⟨_,by rw[hcl];rfl,rfl⟩ L (fun E=>T.self _ 0 _ _ E st3 ⟨rfl,rfl⟩)
 refine codeAny_mono L2 fun r s' h=>?_
 obtain⟨rfl,xs,o',H',J',e',is',n',hN⟩:=h
 exact fin s3 s' H2 H' _ _ xs o' _ I3 hex J' e' (hlt3 _ ax) I2.sz fD (beq_eq_false_iff_ne.mpr (bu I2.big)) is' n' hN.1 (hN.2 _ n')
end
section
variable {X:Cx} {e:Expr} {scope:Scope} {tg iter:Expr} {ifs:List Expr} {nx:Addr->Env->Sem Unit} {g:TG} {tc:TT} {α:Type} {Is:α->Obj->Prop} {aF':TL α} {own:List Nat} {wi:TI} {a0:α} {o0:Bool->Obj} {newAcc:Sem Value} {ho:Addr->α->HO} {ok:α->Hp->Prop}
theorem pj' (hnew:∀(s:Shared) (Q:Value->Shared->Prop),(∀led,Q (.ref s.heap.objs.size) { s with heap:=s.heap.push (o0 led) })->wpAny (model X.prog X.w) X.A newAcc Q X.xe s) (hfr:∀led,(o0 led).isFreed=false) (ha0:∀led,Is a0 (o0 led)) (hda:∀(a:α) (o:Obj),Is a o->∀v:Option Value,o.data≠.cell v)
  (hfin:∀(a:α) (o:Obj) (D:Addr) (H:Hp) (h:Heap),Is a o->h.get? D=some o->(D == sysModules)=false->H D=none->ok a H->HOk X.prog X.w H h->aE' X.prog X.w (upd H D (ho D a)) h D (ho D a)) (C:CompInG Is X e scope tg iter ifs nx g tc aF' own) (hi:PI X tg iter wi) {pos:Pos} (he:eval e X.env=comprehension e scope X.env pos newAcc false (eval iter X.env)):PE X e (fb' own wi g tc aF' a0 ho ok):=by
 intro p_ s σ H Q I hw
 rw[he]
 refine hA' hnew hfr ha0 hda C hi I hw fun s3 s' H0 H' ex D xs o σ' I3 hex J e' hlt h0 fD sy is' n' hok' hR=>?_
 obtain⟨m,hn,_⟩:=J.loc
 refine⟨m,hn,fun h' hs=>?_⟩
 have J2:=eF' I3 hex J hs
 have neC:D≠s3.heap.objs.size:=az hlt
 refine⟨.ref D,upd H' D (ho D xs),J2.track (o:=ho D xs) ⟨n',fD.2⟩ h0 (hfin xs o D H' _ is' ((hs.2 D neC).trans e') sy n' hok' J2.hok),rfl,hR⟩
theorem iV' (hnew:∀(s:Shared) (Q:Value->Shared->Prop),(∀led,Q (.ref s.heap.objs.size) { s with heap:=s.heap.push (o0 led) })->wpAny (model X.prog X.w) X.A newAcc Q X.xe s) (hfr:∀led,(o0 led).isFreed=false) (ha0:∀led,Is a0 (o0 led)) (hda:∀(a:α) (o:Obj),Is a o->∀v:Option Value,o.data≠.cell v)
  (hfin:∀(a:α) (o:Obj) (D:Addr) (H:Hp) (h:Heap),Is a o->h.get? D=some o->(D == sysModules)=false->H D=none->ok a H->HOk X.prog X.w H h->aE' X.prog X.w (upd H D (ho D a)) h D (ho D a)) (C:CompInG Is X e scope tg iter ifs nx g tc aF' own) (hi:PI X tg iter wi) {i:Nat} {y:Str} {py pos pos2:Pos} (hN:X.N.Nodup) (hy:X.N[i]?=some y) (hx:Loc X.env.scope y) (hf:X.fn y=true\/X.env.scope.names.lookup y=some .local)
  (he:evalThenUse e X.env (assign (.Name y py) X.env)=(do let _ <- comprehension e scope X.env pos2 newAcc false (eval iter X.env) (some (assign (.Name y py) X.env))))
  (hsw:swapsWith e (some (.Name y py)) pos.line X.env=pure true):PS X (.Assign [.Name y py] e pos) (lk' (fb' own wi g tc aF' a0 ho ok) (dI' i)):=by
 intro p_ s σ H D I hw
 rw[exec_Assign_Name_used _ _ _ _ hsw]
 refine aa (bO (aa ?_))
 rw[he]
 refine aa (thn (Q:=fun _ s'=>SP X p_ D .next s') (hA' hnew hfr ha0 hda C hi I hw fun s3 s' H0 H' ex D' xs o σ' I3 hex J e' hlt h0 fD sy is' n' hok' hR=>?_) fun _ s' q=>am (am q))
 obtain⟨m,hn,_⟩:=J.loc
 have J2:Inv X p_ σ H' s':=eF' I3 hex J (Heap.SameBut.refl ..)
 have neC:D'≠s3.heap.objs.size:=az hlt
 have J3:Inv X p_ σ (upd H' D' (ho D' xs)) s':=J2.track ⟨n',fD.2⟩ h0 (hfin xs o D' H' _ is' e' sy n' hok' J2.hok)
 have fC:dG' X p_ H0 s3.heap.objs.size:=I3.fpOk (aj _) (I3.hok.fresh (aj _))
 refine wpAny_assign_Name (dH' J3 hN hy hx (v:=.ref D') rfl (fun s'' J4 hs=>?_) hf)
 obtain⟨a,hsa,ha⟩:=hs
 have haC:s3.heap.objs.size≠a:=by
  rcases ha with rfl|ha
  .exact fC.2.1
  .exact fun q=>fC.2.2.2.2.1 _ _ ha q.symm
 have hn':s'.heap.Ns s3.heap.objs.size m:=hn
 refine⟨m,hn'.sameBut hsa haC,fun h' hs'=>?_⟩
 have J5:Inv X p_ (σ.set i (some (.ref D'))) (upd H' D' (ho D' xs)) { s'' with heap:=h' }:=J4.turned (it:=s3.heap.objs.size) (t':=s''.toks) (fun b ob hb q=>(hs'.2 b hb).trans q) (by rw[ae' (Ne.symm neC)];exact J.free) fC.2.1 fC.2.2.2.1 fC.2.2.2.2.1 fC.2.2.2.2.2
 exact⟨_,_,J5,hR⟩
end
def kO:Option Int->V
 |some i=>.int i
 |none=>.non
theorem kV' {P:Program} {w:World} {k:Option Int} {u:Value} (r:aP' (kO k) u):(kU' P w).is k u=true/\u.scannable=true:=by
 cases k with
 |none=>cases r;exact⟨rfl,rfl⟩
 |some i=>
  obtain⟨t,rfl⟩:=r
  exact⟨by show Value.isInt i (.int i t)=true;simp[Value.isInt],rfl⟩
def IsS (a:(Option Int->Bool)×Nat) (o:Obj):Prop:=a.2<=4000/\(∃es ep t,o.data=.set es ep t)/\∃m,m<=a.2/\∀(P:Program) (w:World),o.SetObjOf (kU' P w) a.1 m
theorem qH' {P:Program} {w:World} {S:Option Int->Bool} {n m:Nat} {o:Obj} (h:o.SetObjOf (kU' P w) S m) (hm:m<=n) (hn:n<=4000):IsS (S,n) o:=⟨hn,⟨_,_,_,h.2.choose_spec.choose_spec.choose_spec.1⟩,m,hm,fun P' w'=>h.transport (knd':=kU' P' w') rfl rfl⟩
theorem go' (a:(Option Int->Bool)×Nat) (o:Obj) (h:IsS a o) (v:Option Value):o.data≠.cell v:=by
 obtain⟨_,⟨es,ep,t,hd⟩,_⟩:=h
 rw[hd]
 exact fun z=>nomatch z
def fN' (D:Addr) (S:Option Int->Bool) (n:Nat):HO:=.ext fun h=>∃o,h.get? D=some o/\IsS (S,n) o
theorem mQ' {P:Program} {w:World} {H:Hp} {h:Heap} {D:Addr} {S:Option Int->Bool} {n:Nat} {o:Obj} (e:h.get? D=some o) (i:IsS (S,n) o):aE' P w H h D (fN' D S n):=
 ⟨⟨o,e,i⟩,⟨o,e⟩,fun h1 h2 ⟨o',e',i'⟩ k=>⟨o',k o' e',i'⟩⟩
section
variable {X:Cx}
theorem mR' {s:Shared} {D:Addr} {a:(Option Int->Bool)×Nat} {o:Obj} (e:s.heap.get? D=some o) (i:IsS a o):∃m,m<=a.2/\s.heap.SetOf (kU' X.prog X.w) D a.1 m:=by
 obtain⟨hn,_,m,hm,h⟩:=i
 exact⟨m,hm,(h X.prog X.w).setOf e (bA (aN hm hn) (by decide))⟩
def yC' (neg:Bool):R2:=fun x y H Q=>∃k D S n,x=kO k/\y=.ref D/\H D=some (fN' D S n)/\Q (.bl (if neg then !(S k)else S k)) H
theorem v4':OpR X (compareOp .In) (yC' false):=by
 intro p_ s σ H x y v u Q I rx ry h
 obtain⟨k,D,S,n,rfl,rfl,hD,q⟩:=h
 cases ry
 obtain⟨o,e,i⟩:=(show aE' X.prog X.w H s.heap D (fN' D S n) from I.hok D _ hD).1
 obtain⟨m,_,hS⟩:=mR' (X:=X) e i
 exact wpAny_inSet_of (kV' rx).1 (kV' (P:=X.prog) (w:=X.w) rx).2 hS ⟨.bl (S k),H,I.tok _,rfl,q⟩
theorem mS':OpR X (compareOp .NotIn) (yC' true):=by
 intro p_ s σ H x y v u Q I rx ry h
 obtain⟨k,D,S,n,rfl,rfl,hD,q⟩:=h
 cases ry
 obtain⟨o,e,i⟩:=(show aE' X.prog X.w H s.heap D (fN' D S n) from I.hok D _ hD).1
 obtain⟨m,_,hS⟩:=mR' (X:=X) e i
 exact wpAny_notInSet_of (kV' rx).1 (kV' (P:=X.prog) (w:=X.w) rx).2 hS ⟨.bl (!S k),H,I.tok _,rfl,q⟩
def inL (ns:List Int):Option Int->Bool
 |some i=>ns.contains i
 |none=>false
def qI' (K:W.Frag):List V->Hp->VK->Prop:=fun xs H Q=>∃a ns,xs=[.ref a]/\SqL K H a (ns.map V.int)/\ns.length<=3999/\∀p,H p=none->Q (.ref p) (upd H p (fN' p (inL ns) ns.length))
theorem mT' (hc:X.calm=true):a4' X (.type "set") (qI' X.K):=by
 intro p_ s σ H xs us Q I rv h
 obtain⟨a,ns,rfl,hs,hl,q⟩:=h
 cases rv with
 |cons r1 rv=>
  cases rv
  cases r1
  obtain⟨its,r,pl,hz⟩:=I.list hs
  have hlen:=r.length
  rw[ac]at hlen
  refine call_set_list (I.ok.hd hc) pl.isList (d8' r) (by rw[ao,<- hlen];exact bA (Nat.succ_le_succ hl) (by decide)) fun h' tk hS hk=>?_
  have hn:H s.heap.objs.size=none:=I.hok.fresh (aj _)
  obtain⟨o,ho,hso⟩:=hS.objOf
  have fl:=firstMet_length_le (fun i=>ns.getD i 0) its.toArray.size
  have key:o.SetObjOf (kU' X.prog X.w) (inL ns) (firstMet (fun i=>ns.getD i 0) its.toArray.size).length:=by
   obtain⟨hex,es,ep,t,hd,hel,hmem,hsz,hf⟩:=hso
   refine⟨hex,es,ep,t,hd,fun e he=>?_,fun k=>?_,hsz,hf⟩
   .obtain⟨⟨j,hj,hh⟩,hsc⟩:=hel e he
    exact⟨⟨some j,hj,hh⟩,hsc⟩
   .cases k with
    |none=>
     constructor
     .intro z;cases z
     .rintro⟨e,he,hi⟩
      obtain⟨⟨j,hj,hh⟩,hsc⟩:=hel e he
      obtain⟨t',et⟩:=Value.isInt_shape hj
      rw[et]at hi
      cases hi
    |some i=>
     have:=hmem i
     dsimp only at this
     rw[firstMet_any]at this
     refine Iff.trans ?_ this
     show ns.contains i=true↔_
     have en:(aF its.toArray.size).map (fun i=>ns.getD i 0)=ns:=by
      rw[ao,<- hlen]
      apply cw
      intro j
      rw[aA]
      by_cases hj:j<ns.length
      .rw[bD hj]
       simp[List.getD,hj]
      .rw[bq.mpr (by simpa using hj),bq.mpr ⋯]
       rfl
     rw[en,List.contains_eq_any_beq]
     constructor
     .intro z
      rw[List.any_eq_true]at z ⊢
      obtain⟨x,hx,e⟩:=z
      exact⟨x,hx,by rw[beq_iff_eq]at e ⊢;exact e.symm⟩
     .intro z
      rw[List.any_eq_true]at z ⊢
      obtain⟨x,hx,e⟩:=z
      exact⟨x,hx,by rw[beq_iff_eq]at e ⊢;exact e.symm⟩
  refine⟨.ref s.heap.objs.size,_,I.laid (t':=tk) (fun b o hb=>hk b o (aq hb) hb) (aj _) (o:=fN' s.heap.objs.size (inL ns) ns.length) (mQ' ho (qH' key (aN fl (by rw[ao,hlen];exact aj _)) ⋯)),rfl,q _ hn⟩
def hB' (te:TE):TL ((Option Int->Bool)×Nat):=fun σ a H N=>te σ H fun v H'=>∃k,v=kO k/\a.2<4000/\N (fun j=>a.1 j || decide (j=k),a.2+1) H'
theorem mU' {D:Addr} {elt:Expr} {te:TE} (hxe:X.xe=fun _ _=>False) (he:PE X elt te):cB' X D IsS [] (do let v <- eval elt X.env;standAt elt.pos;let _ <- call (.builtin "set.add") [.ref D,v]) (hB' te):=by
 intro p_ s σ H a o N I hD ho hi hq
 have I1:Inv X (p_++ca' [D] s.heap) σ H s:=I.pinned (fun b hb=>by
  have e:b=D:=by simpa using hb
  subst e
  exact hD) (fun b hb=>by
  have e:b=D:=by simpa using hb
  subst e
  exact⟨o,ho,go' _ _ hi⟩)
 have h1:=he _ s σ H _ I1 hq
 rw[hxe]at h1
 refine aa (thn h1 fun u s1 ⟨v,H1,J1,r1,k,ek,z1,n1⟩=>?_)
 subst ek
 have q1:=J1.pin (D,o) (ak _ (ak _ (aS' (by simp) ho)))
 obtain⟨m,hm,hS⟩:=mR' (X:=X) q1.1 hi
 refine aa (bO (aa (call_set_add (kV' r1).1 (kV' (P:=X.prog) (w:=X.w) r1).2 hS (bA (Nat.succ_le_of_lt (bA hm z1)) (by decide)) fun h' hs hS'=>?_)))
 obtain⟨_,f1,f2,f3,f4,f5⟩:=hD
 obtain⟨o',ho',hso⟩:=hS'.objOf
 have J2:Inv X p_ σ H1 { s1 with heap:=h',toks:=s1.toks+1 }:=J1.unpinned.turned (it:=D) (t':=s1.toks+1) (fun b o hb e=>(hs.2 b hb).trans e) q1.2.1 f1 f3 f4 f5
 exact am ⟨σ,_,o',H1,J2,Ext.refl,ho',qH' hso (by split<;>omega) ⋯,q1.2.1,n1⟩
theorem s8' {A:Around} {E:Value->Shared->Prop} (s:Shared) (Q:Value->Shared->Prop) (h:∀led,Q (.ref s.heap.objs.size) { s with heap:=s.heap.push { cls:=.type "set",dict:=none,data:=.set #[] 0 (.fresh 0 0 led) } }):wpAny (model X.prog X.w) A (newSet (.type "set")) Q E s:=by
 unfold newSet setsByText
 refine aa (aa (wpAny_askSetting (am ?_)))
 exact bc (h _)
theorem pk' (led:Bool):IsS (fun _=>false,0) { cls:=.type "set",dict:=none,data:=.set #[] 0 (.fresh 0 0 led) }:=⟨aP _,⟨_,_,_,rfl⟩,0,aj _,fun _ _=>setObjOf_fresh led⟩
end
abbrev NH:Int:=0xFCA86420
section
variable {prog:Program} {w:World} {A:Around} {E:Value->Shared->Prop} {s:Shared}
theorem mV' {d:Addr} {o:Obj} {es:Array DictEntry} {ep:Nat} {Q:Option Nat->Shared->Prop} (ho:s.heap.get? d=some o) (hd:o.data=.dict es ep) (hno:∀e∈es.toList,e.hash≠NH) (h:Q none s):
  wpAny (model prog w) A (dictFind d .none NH) Q E s:=by
 have hp:placesWithHash es.size (fun i=>es[i]?.map (·.hash)) NH=[]:=by
  unfold placesWithHash
  rw[List.filter_eq_nil_iff]
  intro i hi hc
  dsimp only at hc
  cases he:es[i]? with
  |none=>rw[he]at hc;cases hc
  |some e=>
   rw[he]at hc
   have hm:e∈es.toList:=da.mpr (Array.mem_of_getElem? he)
   exact hno e hm (by simpa using hc)
 unfold dictFind
 try with_reducible refine aX ?_
 refine aa (wpAny_dictEntries ho hd ?_)
 dsimp only
 rw[hp]
 rw[if_pos (show((Value.none :: ([]:List Nat).filterMap (fun i=>es[i]?.map (·.key))).all carriedByValue)=true by rfl)]
 unfold dictWalkPlain
 simp only[List.forIn_nil,pure_bind,bind_pure]
 exact am h
theorem fB' {d:Addr} (hd:(d == sysModules)=false):
  MeetsIn prog w (Builtin.«dict.get» ⟨[.ref d,.none],[]⟩) (fun _ R s=>∃o es ep,s.heap.get? d=some o/\o.data=.dict es ep/\(∀e∈es.toList,e.hash≠NH)/\R (.ok (.ret .none)) { s with toks:=s.toks+1 }):=
 .of_wp fun A R s ⟨o,es,ep,h1,h2,h3,h⟩=>by
  show wpAny _ _ (dictGet d .none >>= _) _ _ s
  refine aa ?_
  unfold dictGet
  try with_reducible refine aX ?_
  refine aa (eU' (aa (mV' (s:={ s with toks:=s.toks+1 }) h1 h2 h3 (am ?_))))
  show wpAny _ _ (Builtin.Dict.missed d .none >>= _) _ _ _
  exact aa (wpAny_missed_other hd (am ⟨.none,rfl,h⟩))
end
theorem hC' {P:Program} {w:World} {k:Key}:∀{es:List DictEntry} {vs:List (Key×Value)} {en:DictEntry},Pairs (ax' P w) es vs->en∈es->(ax' P w).is k en.key=true->k∈vs.map (·.1)
 |_,_,_,.nil,h,_=>by cases h
 |_,_,en,.cons (e:=e) (kv:=kv) h1 h2 r,h,hk=>by
  rcases al.mp h with rfl|h
  .rw[(ax' P w).inj _ _ _ hk h1]
   exact ax
  .exact au _ (hC' r h hk)
theorem cd' {α β:Type} {F:α->β->Prop}:∀{xs:List α} {ys:List β} {y:β},Paired F xs ys->y∈ys->∃x∈xs,F x y
 |_,_,_,.nil,h=>by cases h
 |_,_,y,.cons h1 r,h=>by
  rcases al.mp h with rfl|h
  .exact⟨_,ax,h1⟩
  .obtain⟨x,hx,hf⟩:=cd' r h
   exact⟨x,au _ hx,hf⟩
def NoN (H:Hp) (a:Addr):Prop:=(∃kvs,H a=some (.dK kvs)/\∀kv∈kvs,∃i:Int,kv.1=.inl i/\hashInt i≠NH)\/
 ∃kvs,H a=some (.dT kvs)/\∀kv∈kvs,∃is:List Int,kv.1=is.map Key.inl/\reduceHash (Builtin.Tuple.tupleHashOf (is.map hashInt))≠NH
theorem NoN.at {X:Cx} {p_:List (Addr×Obj)} {σ:St} {H:Hp} {s:Shared} {a:Addr} (I:Inv X p_ σ H s) (h:NoN H a):(a == sysModules)=false/\s.TypeIs (.ref a) "dict"/\∃o es ep,s.heap.get? a=some o/\o.data=.dict es ep/\∀e∈es.toList,e.hash≠NH:=by
 rcases h with⟨kvs,e,hk⟩|⟨kvs,e,hk⟩
 .obtain⟨z,hd,vs,rel,dd⟩:=zh' I.hok e
  refine⟨hd,dd.typeIs,?_⟩
  obtain⟨o,es,ep,h1,_,h3,h4,h5,_⟩:=dd
  refine⟨o,es,ep,h1,h3,fun en hen=>?_⟩
  obtain⟨k,hk1,hk2⟩:=h4 en (da.mp hen)
  have hin:k∈kvs.map (·.1):=by
   rw[rel.keys]
   exact hC' h5 hen hk1
  obtain⟨kv,hkv,rfl⟩:=aR.mp hin
  obtain⟨i,ei,hi⟩:=hk kv hkv
  rw[hk2,ei]
  exact hi
 .obtain⟨z,hd,xs,rel,dd⟩:=zi' I.hok e
  refine⟨hd,dd.typeIs,?_⟩
  obtain⟨o,es,ep,h1,_,h3,h4,_⟩:=dd
  refine⟨o,es,ep,h1,h3,fun en hen=>?_⟩
  rw[h4]at hen
  obtain⟨x,hx,rfl⟩:=aR.mp hen
  obtain⟨kv,hkv,hp⟩:=cd' rel hx
  obtain⟨is,ei,hi⟩:=hk kv hkv
  show(tupleKind (ax' X.prog X.w)).hash x.1≠NH
  rw[<- hp.1,ei]
  show reduceHash (Builtin.Tuple.tupleHashOf ((is.map Key.inl).map (ax' X.prog X.w).hash))≠NH
  rw[bi]
  exact hi
theorem v5' {X:Cx} {p_:List (Addr×Obj)} {σ:St} {H:Hp} {s:Shared} {a:Addr} {A:Around} {E:Value->Shared->Prop} {Q:Value->Shared->Prop} (I:Inv X p_ σ H s) (g:NoN H a) (h:∀s',Inv X p_ σ H s'->Q .none s'):
  wpAny (model X.prog X.w) A (call (.builtin "dict.get") [.ref a,.none]) Q E s:=by
 obtain⟨hd,ht,o,es,ep,h1,h2,h3⟩:=g.at I
 exact call_meetsIn PySem.F.slot_dict_get ht PySem.F.entry_dict_get (PySem.F.args_dict_get_2 _ _) (fB' hd) ⟨o,es,ep,h1,h2,h3,h _ (I.tok _)⟩
def v6' (P:Program) (w:World) (kvs:List (Key×V)) (o:Obj):Prop:=kvs.length<=sizeLine/\∃vs es ep,KV kvs vs/\o.ExactDict/\o.data=.dict es ep/\KeysOf (ax' P w) es/\Pairs (ax' P w) es.toList vs/\(vs.map (·.1)).Nodup
theorem hD' {P:Program} {w:World} (a:List (Key×V)) (o:Obj) (h:v6' P w a o) (v:Option Value):o.data≠.cell v:=by
 obtain⟨_,_,es,ep,_,_,hd,_⟩:=h
 rw[hd]
 exact fun z=>nomatch z
theorem jE' {X:Cx} {A:Around} {E:Value->Shared->Prop} (s:Shared) (Q:Value->Shared->Prop) (h:∀_led:Bool,Q (.ref s.heap.objs.size) { s with heap:=s.heap.push { cls:=.type "dict",dict:=none,data:=.dict #[] } }):wpAny (model X.prog X.w) A newDict Q E s:=bc (h true)
theorem mW' {P:Program} {w:World} (_led:Bool):v6' P w [] { cls:=.type "dict",dict:=none,data:=.dict #[] }:=
 ⟨aP _,[],#[],0,.nil,⟨rfl,rfl,rfl⟩,rfl,fun e he=>by simp at he,.nil,List.nodup_nil⟩
theorem v7' {P:Program} {w:World} (a:List (Key×V)) (o:Obj) (D:Addr) (H:Hp) (h:Heap) (i:v6' P w a o) (e:h.get? D=some o) (sy:(D == sysModules)=false) (_:H D=none) (_:True) (_:HOk P w H h):aE' P w (upd H D (.dK a)) h D (.dK a):=by
 obtain⟨z,vs,es,ep,h1,h2,h3,h4,h5,h6⟩:=i
 exact⟨z,sy,vs,h1,o,es,ep,e,h2,h3,h4,h5,h6⟩
section
variable {X:Cx}
def jF' (tk tv:TE):TL (List (Key×V)):=fun σ a H N=>tk σ H fun y H1=>tv σ H1 fun v H2=>∃k,y=kV k/\a.length<sizeLine/\N (iL' a k v) H2
theorem mX' {D:Addr} {ke ve:Expr} {tk tv:TE} (hxe:X.xe=fun _ _=>False) (hk:PE X ke tk) (hv:PE X ve tv):cB' X D (v6' X.prog X.w) [] (do
   let kv <- eval ke X.env
   let vv <- holding [kv] (eval ve X.env)
   match Value.ref D with
   | .ref d=>do
    standAt { ke.pos with endLine:=ve.pos.endLine,endCol:=ve.pos.endCol }
    holding [kv,vv] (dictSet d kv vv)
   |_=>unsupported "internal:dictcomp") (jF' tk tv):=by
 intro p_ s σ H a o N I hD ho hi hq
 have pinD:∀{s1:Shared} {pins1:List (Addr×Obj)} {H1:Hp},Inv X pins1 σ H1 s1->dG' X pins1 H1 D->s1.heap.get? D=some o->Inv X (pins1++ca' [D] s1.heap) σ H1 s1:=fun J f e=>J.pinned (fun b hb=>by
  have z:b=D:=by simpa using hb
  subst z
  exact f) (fun b hb=>by
  have z:b=D:=by simpa using hb
  subst z
  exact⟨o,e,hD' _ _ hi⟩)
 have h1:=hk _ s σ H _ (pinD I hD ho) hq
 rw[hxe]at h1
 refine aa (thn h1 fun u s1 ⟨y,H1,J1,r1,hq1⟩=>?_)
 have q1:=J1.pin (D,o) (ak _ (ak _ (aS' (by simp) ho)))
 have h2:=hv _ s1 σ H1 _ J1 hq1
 rw[hxe]at h2
 refine aa (aX (thn h2 fun u2 s2 ⟨v,H2,J2,r2,k,ek,z2,n2⟩=>?_))
 subst ek
 have q2:=J2.pin (D,o) (ak _ (ak _ (aS' (by simp) ho)))
 obtain⟨z,vs,es,ep,g1,g2,g3,g4,g5,g6⟩:=hi
 have dd:s2.heap.DictOf (ax' X.prog X.w) D vs:=⟨o,es,ep,q2.1,g2,g3,g4,g5,g6⟩
 refine aa (bO (aX (wpAny_dictSet_pairs (hsz:=by rw[<- g1.length];exact z) (mg' r1) dd fun h' dd' hs=>?_)))
 obtain⟨_,f1,f2,f3,f4,f5⟩:=hD
 obtain⟨o',es',ep',d1,d2,d3,d4,d5,d6⟩:=dd'
 have J3:Inv X p_ σ H2 { s2 with heap:=h',toks:=s2.toks+1 }:=J2.unpinned.turned (it:=D) (t':=s2.toks+1) (fun b o hb e=>(hs.2 b hb).trans e) q2.2.1 f1 f3 f4 f5
 exact⟨σ,_,o',H2,J3,Ext.refl,d1,⟨aN (e7' a k v) z2,_,es',ep',g1.put k r2,d2,d3,d4,d5,d6⟩,q2.2.1,n2⟩
end
abbrev KTL:=List (List Key×Addr×V)
def v8' (P:Program) (w:World) (a:KTL) (o:Obj):Prop:=a.length<=sizeLine/\∃(xs:List (List Key×Addr×Value)) (es:Array DictEntry) (ep:Nat),Paired (fun(p:List Key×Addr×V) (q:List Key×Addr×Value)=>p.1=q.1/\p.2.1=q.2.1/\aP' p.2.2 q.2.2) a xs/\o.ExactDict/\o.data=.dict es ep/\es.toList=xs.map (entryOfKey (tupleKind (ax' P w)))/\(xs.map (·.1)).Nodup
theorem hE' {P:Program} {w:World} (a:KTL) (o:Obj) (h:v8' P w a o) (v:Option Value):o.data≠.cell v:=by
 obtain⟨_,_,es,ep,_,_,hd,_⟩:=h
 rw[hd]
 exact fun z=>nomatch z
theorem mY' {P:Program} {w:World} (_led:Bool):v8' P w [] { cls:=.type "dict",dict:=none,data:=.dict #[] }:=
 ⟨aP _,[],#[],0,.nil,⟨rfl,rfl,rfl⟩,rfl,rfl,List.nodup_nil⟩
def okT (a:KTL) (H:Hp):Prop:=∀x∈a,H x.2.1=some (.tup (x.1.map kV))
def plT (a:KTL):List (List Key×V):=a.map fun x=>(x.1,x.2.2)
theorem fO' {H:Hp}:∀{a:KTL} {xs:List (List Key×Addr×Value)},Paired (fun(p:List Key×Addr×V) (q:List Key×Addr×Value)=>p.1=q.1/\p.2.1=q.2.1/\aP' p.2.2 q.2.2) a xs->okT a H->Paired (fun(p:List Key×V) (q:List Key×Addr×Value)=>p.1=q.1/\H q.2.1=some (.tup (p.1.map kV))/\aP' p.2 q.2.2) (plT a) xs
 |_,_,.nil,_=>.nil
 |_,_,.cons h r,ok=>.cons ⟨h.1,by rw[<- h.2.1];exact ok _ ax,h.2.2⟩ (fO' r fun x hx=>ok x (au _ hx))
theorem v9' {P:Program} {w:World} (a:KTL) (o:Obj) (D:Addr) (H:Hp) (h:Heap) (i:v8' P w a o) (e:h.get? D=some o) (sy:(D == sysModules)=false) (hD:H D=none) (ok:okT a H) (_:HOk P w H h):aE' P w (upd H D (.dT (plT a))) h D (.dT (plT a)):=by
 obtain⟨z,xs,es,ep,h1,h2,h3,h4,h5⟩:=i
 refine⟨by unfold plT;rw[ac];exact z,sy,xs,fO' h1 fun x hx=>?_,o,es,ep,e,h2,h3,h4,h5⟩
 rw[ae' (ah' (ok x hx) hD)]
 exact ok x hx
section
variable {X:Cx}
def jG' (tk tv:TE):TL KTL:=fun σ a H N=>tk σ H fun y H1=>tv σ H1 fun v H2=>∃(k:List Key) (b:Addr),y=.ref b/\H2 b=some (.tup (k.map kV))/\okT a H2/\(∀x∈a,x.1≠k)/\a.length<sizeLine/\N (a++[(k,b,v)]) H2
theorem mZ' {D:Addr} {ke ve:Expr} {tk tv:TE} (hu:X.A.units+1<cLine) (hxe:X.xe=fun _ _=>False) (hk:PE X ke tk) (hv:PE X ve tv):cB' X D (v8' X.prog X.w) [] (do
   let kv <- eval ke X.env
   let vv <- holding [kv] (eval ve X.env)
   match Value.ref D with
   | .ref d=>do
    standAt { ke.pos with endLine:=ve.pos.endLine,endCol:=ve.pos.endCol }
    holding [kv,vv] (dictSet d kv vv)
   |_=>unsupported "internal:dictcomp") (jG' tk tv):=by
 intro p_ s σ H a o N I hD ho hi hq
 have pinD:∀{s1:Shared} {pins1:List (Addr×Obj)} {H1:Hp},Inv X pins1 σ H1 s1->dG' X pins1 H1 D->s1.heap.get? D=some o->Inv X (pins1++ca' [D] s1.heap) σ H1 s1:=fun J f e=>J.pinned (fun b hb=>by
  have z:b=D:=by simpa using hb
  subst z
  exact f) (fun b hb=>by
  have z:b=D:=by simpa using hb
  subst z
  exact⟨o,e,hE' _ _ hi⟩)
 have h1:=hk _ s σ H _ (pinD I hD ho) hq
 rw[hxe]at h1
 refine aa (thn h1 fun u s1 ⟨y,H1,J1,r1,hq1⟩=>?_)
 have h2:=hv _ s1 σ H1 _ J1 hq1
 rw[hxe]at h2
 refine aa (aX (thn h2 fun u2 s2 ⟨v,H2,J2,r2,k,b,ek,eb,ok,nw,z2,n2⟩=>?_))
 subst ek
 cases(show u=Value.ref b from r1)
 have q2:=J2.pin (D,o) (ak _ (ak _ (aS' (by simp) ho)))
 obtain⟨z,xs,es,ep,g1,g2,g3,g4,g5⟩:=hi
 have hxl:=Paired.length g1
 have dd:s2.heap.DictOfH (tupleKind (ax' X.prog X.w)) D xs:=⟨o,es,ep,q2.1,g2,g3,g4,fun x hx=>by
  obtain⟨p,hp,e1,e2,_⟩:=cd' g1 hx
  rw[<- e1,<- e2]
  exact fL' J2.hok (ok p hp),g5⟩
 refine aa (bO (aX (wpAny_dictSet_heap (hsz:=by rw[<- hxl];exact z) (show X.A.units<cLine from Nat.lt_of_succ_lt hu) (fL' J2.hok eb) dd fun h' dd' hs=>?_)))
 obtain⟨_,f1,f2,f3,f4,f5⟩:=hD
 have hnew:∀x∈xs,x.1≠k:=fun x hx e=>by
  obtain⟨p,hp,e1,_⟩:=cd' g1 hx
  exact nw p hp (e1.trans e)
 rw[storedH_new (by unfold atKey;rw[List.find?_eq_none.mpr (fun x hx=>by simpa using hnew x hx)];rfl)]at dd'
 obtain⟨o',es',ep',d1,d2,d3,d4,d5,d6⟩:=dd'
 have J3:Inv X p_ σ H2 { s2 with heap:=h',toks:=s2.toks+(tupleKind (ax' X.prog X.w)).draws k }:=J2.unpinned.turned (it:=D) (t':=s2.toks+(tupleKind (ax' X.prog X.w)).draws k) (fun b o hb e=>(hs.2 b hb).trans e) q2.2.1 f1 f3 f4 f5
 exact⟨σ,_,o',H2,J3,Ext.refl,d1,⟨by rw[aB];exact z2,_,es',ep',Paired.snoc g1 ⟨rfl,rfl,r2⟩,d2,d3,d4,d6⟩,q2.2.1,n2⟩
end
def zu' (neg:Bool) (ty td:TE):TE:=fun σ H Q=>ty σ H fun y H1=>td σ H1 fun x H2=>(∃a o,x=.ref a/\g6' H2 a y o/\Q (.bl (if neg then !o.isSome else o.isSome)) H2)\/yC' neg y x H2 Q
def m0' (td ty:TE):TE:=fun σ H Q=>td σ H fun x H1=>∃a,x=.ref a/\IsD H1 a/\ty σ H1 fun y H2=>(∃o,g6' H2 a y o/\Q (o.getD .non) H2)\/(y=.non/\NoN H2 a/\Q .non H2)
section
variable {X:Cx} {o e f i:Expr} {apos cpos:Pos} {td ty tx:TE}
theorem qJ' (hu:X.A.units+1<cLine) (hi:PE X i ty) (ho:PE X o td):PC X .In i o (zu' false ty td):=by
 intro p_ s σ H Q I h
 refine thn (hi p_ s σ H _ I h) fun iv s1 ⟨y,H1,I1,ry,q1⟩=>thn (ho p_ s1 σ H1 _ I1 q1) fun u s2 ⟨x,H2,I2,rx,q2⟩=>?_
 rcases q2 with⟨a,ov,ex,g,q2⟩|q2
 .subst ex
  obtain rfl:u=Value.ref a:=rx
  exact BE' hu I2 g ry fun s3 I3=>⟨.bl ov.isSome,H2,I3,rfl,q2⟩
 .exact v4' p_ s2 σ H2 y x iv u Q I2 ry rx q2
theorem hF' (hu:X.A.units+1<cLine) (hi:PE X i ty) (ho:PE X o td):PC X .NotIn i o (zu' true ty td):=by
 intro p_ s σ H Q I h
 refine thn (hi p_ s σ H _ I h) fun iv s1 ⟨y,H1,I1,ry,q1⟩=>thn (ho p_ s1 σ H1 _ I1 q1) fun u s2 ⟨x,H2,I2,rx,q2⟩=>?_
 rcases q2 with⟨a,ov,ex,g,q2⟩|q2
 .subst ex
  obtain rfl:u=Value.ref a:=rx
  exact sQ' hu I2 g ry fun s3 I3=>⟨.bl (!ov.isSome),H2,I3,rfl,q2⟩
 .exact mS' p_ s2 σ H2 y x iv u Q I2 ry rx q2
theorem pl' (hu:X.A.units+1<cLine) (ho:PE X o td) (he:PE X e ty) (m:M1 X o "get" apos e cpos):PE X (.Call (.Attribute o "get" apos) [e] [] cpos) (m0' td ty):=by
 intro p_ s σ H Q I h
 refine wpAny_Call_method m.base m.few m.line PySem.F.plainAttrs_dict PySem.F.slot_dict_get PySem.F.type_dict_get (thn (ho p_ s σ H _ I h) fun u s1 ⟨x,H1,I1,rx,a,ex,d,q1⟩=>?_)
 subst ex
 obtain rfl:u=Value.ref a:=rx
 obtain⟨t1,t2,_⟩:=vG' I1 d
 refine⟨t1,t2,?_⟩
 rw[m.trees]
 refine Calls.callWith_builtin rfl (Calls.evalArgs_plain (Calls.spliced_cons (thn (he p_ s1 σ H1 _ I1 q1) fun iv s2 ⟨y,H2,I2,ry,q2⟩=>Calls.spliced_nil ?_)))
 rcases q2 with⟨ov,g,q2⟩|⟨ey,g,q2⟩
 .exact vH' hu I2 g ry fun w' s3 I3 rw'=>⟨_,H2,I3,rw',q2⟩
 .subst ey
  obtain rfl:iv=Value.none:=ry
  exact v5' I2 g fun s3 I3=>⟨.non,H2,I3,rfl,q2⟩
end
abbrev wa' (own:List Nat) (wi:TI) (g:TG) (tc:TT) (aF':TL ((Option Int->Bool)×Nat)):TE:=fb' own wi g tc aF' (fun _=>false,0) (fun p a=>fN' p a.1 a.2) fun _ _=>True
abbrev wb' (own:List Nat) (wi:TI) (g:TG) (tc:TT) (tk tv:TE):TE:=fb' own wi g tc (jF' tk tv) [] (fun _ a=>.dK a) fun _ _=>True
abbrev wc' (own:List Nat) (wi:TI) (g:TG) (tc:TT) (tk tv:TE):TE:=fb' own wi g tc (jG' tk tv) [] (fun _ a=>.dT (plT a)) okT
section
variable {X:Cx} {e:Expr} {scope:Scope} {tg iter:Expr} {ifs:List Expr} {nx:Addr->Env->Sem Unit} {g:TG} {tc:TT} {own:List Nat} {wi:TI}
theorem s9' {P:Program} {w:World} (a:(Option Int->Bool)×Nat) (o:Obj) (D:Addr) (H:Hp) (h:Heap) (i:IsS a o) (e:h.get? D=some o) (_:(D == sysModules)=false) (_:H D=none) (_:True) (_:HOk P w H h):aE' P w (upd H D (fN' D a.1 a.2)) h D (fN' D a.1 a.2):=mQ' e i
theorem ta' {α:Type} {Is:α->Obj->Prop} {aF':TL α} {a0:α} {o0:Bool->Obj} {newAcc:Sem Value} {ho:Addr->α->HO} {ok:α->Hp->Prop} {i:Nat} {y:Str} {py pos pos2:Pos}
  (hnew:∀(s:Shared) (Q:Value->Shared->Prop),(∀led,Q (.ref s.heap.objs.size) { s with heap:=s.heap.push (o0 led) })->wpAny (model X.prog X.w) X.A newAcc Q X.xe s) (hfr:∀led,(o0 led).isFreed=false) (ha0:∀led,Is a0 (o0 led)) (hda:∀(a:α) (o:Obj),Is a o->∀v:Option Value,o.data≠.cell v)
  (hfin:∀(a:α) (o:Obj) (D:Addr) (H:Hp) (h:Heap),Is a o->h.get? D=some o->(D == sysModules)=false->H D=none->ok a H->HOk X.prog X.w H h->aE' X.prog X.w (upd H D (ho D a)) h D (ho D a))
  (C:CompInG Is X e scope tg iter ifs nx g tc aF' own) (hi:PI X tg iter wi) (hN:X.N.Nodup) (hy:X.N[i]?=some y) (hx:Loc X.env.scope y) (hf:X.fn y=true\/X.env.scope.names.lookup y=some .local)
  (hG:PG X (.Name y py) (dI' i))
  (he:eval e X.env=comprehension e scope X.env pos2 newAcc false (eval iter X.env))
  (he2:evalThenUse e X.env (assign (.Name y py) X.env)=(do let _ <- comprehension e scope X.env pos2 newAcc false (eval iter X.env) (some (assign (.Name y py) X.env))))
  (hsw:∃b,swapsWith e (some (.Name y py)) pos.line X.env=pure b):PS X (.Assign [.Name y py] e pos) (lk' (fb' own wi g tc aF' a0 ho ok) (dI' i)):=by
 obtain⟨b,hb⟩:=hsw
 cases b with
 |true=>exact iV' hnew hfr ha0 hda hfin C hi hN hy hx hf he2 hb
 |false=>exact jo' (pj' hnew hfr ha0 hda hfin C hi he) hG hb rfl
end
end L2
namespace L2
open PySem PySem.Spec PyProof.Rows PySem.SeqAt
section
variable {X:Cx} {pos:Pos}
def zx' (K:W.Frag) (n:Nat) (t:TGs):TG:=fun v σ H Q=>∃a xs,v=.ref a/\(SqT K H a xs\/SqL K H a xs)/\xs.length=n/\t xs σ H Q
theorem we' {es:List Expr} {k:Nat} {t:TGs} {n:Nat} (hc:X.calm=true) (h:PGs X es t)
  (hn:(assignEach es X.env).length=n:=by rfl) (hst:(assignEach es X.env).findIdx? (·.1)=none:=by rfl):PG X (.Tuple es k pos) (zx' X.K n t):=by
 intro p_ s σ H v u Q I r hw
 obtain⟨a,xs,e1,hq,hl,hw⟩:=hw
 rcases hq with hq|hq
 .exact uW' hc h hn hst p_ s σ H v u Q I r ⟨a,xs,e1,hq,hl,hw⟩
 .subst e1
  cases r
  obtain⟨its,rv,pl,hz⟩:=I.list hq
  rw[assign_Tuple]
  refine aa (bO ?_)
  unfold unpack
  rw[hn,hst]
  have e:n=its.toArray.size:=by simp[<- hl,rv.length]
  rw[e]
  refine aa (aX (W.kun_itemsOf (I.ok.hd hc) pl.isList fun h' hx=>?_))
  have I1:Inv X p_ σ H { s with heap:=h' }:=I.kept (t':=s.toks) fun b o e=>hx b o (az (aq e)) e
  exact h p_ _ σ H xs _ Q I1 (by simpa using rv) hw
end
end L2
namespace L2
open PySem PySem.Spec PyProof.Rows
section
variable {prog:Program} {w:World} {A:Around} {R:Result->Shared->Prop} {I:Addr} {fp wr:List Addr} {G:Array GenState->Array GenState->Prop} {n:Nat} {St:Nat->Shared->Prop}
abbrev kT (prog:Program) (w:World):=tupleKind (ax' prog w)
end
section
variable {prog:Program} {w:World} {A:Around} {E:Value->Shared->Prop} {s:Shared}
set_option maxRecDepth 100000 in
set_option maxHeartbeats 3200000 in
end
end L2
namespace R3
open PySem PySem.Spec PyProof.Rows L2
inductive Bf where
 |len|abs|int|str|isinstance|all|max|min|list|tuple|range|set|sorted
 deriving DecidableEq
inductive Mf where
 |append|extend|join|insert|bitlen
 deriving DecidableEq
set_option genInjectivity false
mutual
inductive Ce where
 |var (i:Nat)|int (n:Int)|bl (b:Bool)|non|str (x:Str)|ty (n:String)
 |bin (op:Operator) (a b:Ce)
 |neg (a:Ce)|not (a:Ce)
 |and (a b:Ce)|or (a b:Ce)
 |cmp (op:CmpOp) (a b:Ce)
 |ife (q:Cq) (a b:Ce)
 |tup (es:Ces)|lst (es:Ces)
 |idx (a b:Ce)
 |cut (a:Ce) (lo hi:Co)
 |call (f:Str) (es:Ces)
 |blt (f:Bf) (es:Ces)
 |met (m:Mf) (o:Ce) (es:Ces)
 |comp (elt:Ce) (own:List Nat) (t:Ct) (it:Ci) (q:Cqo) (r:Cc)
 |din (neg:Bool) (a b:Ce)|dgt (a b:Ce)
 |cls (c:Str)
 |szp (a b:Ce)
inductive Ces where
 |nil|cons (e:Ce) (r:Ces)
inductive Cq where
 |val (e:Ce)|not (q:Cq)|and (a b:Cq)|or (a b:Cq)|cmp (op:CmpOp) (a b:Ce)|din (neg:Bool) (a b:Ce)
inductive Cqo where
 |none|some (q:Cq)
inductive Co where
 |none|some (e:Ce)
inductive Ci where
 |val (e:Ce)|range1 (a:Ce)|range2 (a b:Ce)|zip (a b:Ce)|enum (a:Ce)|range3 (a b c:Ce)|rev (a:Ce)
inductive Ct where
 |name (i:Nat)|tup (ts:Cts)|sub (o i:Ce)
inductive Cts where
 |nil|cons (t:Ct) (r:Cts)
inductive Cc where
 |nil|cons (ws:List Nat) (t:Ct) (it:Ci) (q:Cqo) (r:Cc)
end
mutual
inductive Cs where
 |expr (e:Ce)|ret (e:Ce)|asg (t:Ct) (e:Ce)|par (i j:Nat) (a b:Ce)|aug (i:Nat) (sub:Bool) (e:Ce)
 |ite (q:Cq) (a b:Css)|whl (q:Cq) (b:Css)|for_ (t:Ct) (it:Ci) (b:Css)|raise_
 |rse (nm:Str)|try_ (b:Css) (c:Str) (i:Nat) (su:Css)
 |setc2 (i:Nat) (elt:Ce) (own:List Nat) (t:Ct) (it:Ci) (q:Cqo) (ws:List Nat) (t2:Ct) (it2:Ci) (q2:Cqo)|dctc (tup:Bool) (i:Nat) (k v:Ce) (own:List Nat) (t:Ct) (it:Ci) (q:Cqo)
inductive Css where
 |nil|cons (s:Cs) (r:Css)
end
set_option genInjectivity true
def A1' (i j:Int):Prop:=0<=j/\j<=1000000/\i.natAbs<2 ^ 250*2 ^ 250*2 ^ 250
def wf' (_ j:Int):Prop:=0<j/\(j<1073741824\/j.natAbs.log2<9000)
def wg' (i j:Int):Prop:=(-(2 ^ 64)<i/\i<2 ^ 64)\/(-(2 ^ 64)<j/\j<2 ^ 64)\/IntMulOk i j
section
variable (K:W.Frag)
def fC':Operator->R2
 | .Add=>fun x y H Q=>match x,y with
  | .int i,.int j=>Q (.int (i+j)) H
  | .str i,.str j=>i.length+j.length<=sizeLine/\Q (.str (i++j)) H
  |x,y=>AK' x y H Q\/vi' K x y H Q\/qy' K x y H Q
 | .Sub=>rI0 fun i j=>.int (i-j)
 | .Mult=>fun x y H Q=>match x,y with
  | .int i,.int j=>wg' i j/\Q (.int (i*j)) H
  | .str a,.int n=>-1000000<=n/\n<=1000000/\a.length*n.toNat<=1000000/\Q (.str (Txt.mul a n)) H
  |x,y=>AL' x y H Q
 | .Mod=>rI (fun _ j=>0<j) fun i j=>.int (i % j)
 | .FloorDiv=>rI wf' fun i j=>.int (i / j)
 | .Pow=>rI y2' fun i j=>.int (i ^ j.toNat)
 | .LShift=>rI A1' fun i j=>.int (i*2 ^ j.toNat)
 | .RShift=>rI (fun _ j=>0<=j) fun i j=>.int (i / 2 ^ j.toNat)
 | .BitAnd=>rI (fun i j=>0<=i/\j=1) fun i _=>.int (i % 2)
 |_=>fun _ _ _ _=>False
def dS':CmpOp->R2
 | .Eq=>fun x y H Q=>match x,y with
  | .ref a,.ref b=>yt' K false (.ref a) (.ref b) H Q\/yy' false (.ref a) (.ref b) H Q
  |x,y=>rEq x y H Q
 | .NotEq=>fun x y H Q=>match x,y with
  | .ref a,.ref b=>yt' K true (.ref a) (.ref b) H Q\/yy' true (.ref a) (.ref b) H Q
  |x,y=>rNe x y H Q
 | .Lt=>rI0 fun i j=>.bl (decide (i<j))
 | .LtE=>rI0 fun i j=>.bl (decide (i<=j))
 | .Gt=>fun x y H Q=>match x with
  | .str a=>AU' (.str a) y H Q
  |x=>rI0 (fun i j=>.bl (decide (j<i))) x y H Q
 | .GtE=>rI0 fun i j=>.bl (decide (j<=i))
 | .Is=>fun x y H Q=>match y with
  | .bl b=>yu' false x (.bl b) H Q
  |y=>y=.non/\Q (.bl (decide (x=.non))) H
 | .IsNot=>fun x y H Q=>match y with
  | .bl b=>yu' true x (.bl b) H Q
  |y=>y=.non/\Q (.bl (!decide (x=.non))) H
 | .In=>fun x y H Q=>match y with
  | .str b=>yx' false x (.str b) H Q
  |y=>rIn K false x y H Q
 | .NotIn=>fun x y H Q=>match y with
  | .str b=>yx' true x (.str b) H Q
  |y=>rIn K true x y H Q
def di':Bf->List V->Hp->VK->Prop
 | .len=>fun xs H Q=>∃x n,xs=[x]/\AI' K x H n/\Q (.int n) H
 | .abs=>fun xs H Q=>∃i,xs=[.int i]/\Q (.int (if i<0 then -i else i)) H
 | .int=>fun xs H Q=>match xs with
  | [.int i]=>Q (.int i) H
  | [.bl k]=>Q (.int (if k then 1 else 0)) H
  | [.str x]=>∃n,PySem.intText? x=some n/\x.length<=640/\Q (.int n) H
  | [.str x,.int j]=>j=2/\∃n,B2 x n/\Q (.int n) H
  |_=>False
 | .str=>fun xs H Q=>∃i,xs=[.int i]/\i.natAbs.log2<1920/\Q (.str (toString i)) H
 | .isinstance=>fun xs H Q=>AN' xs H Q\/AX' K xs H Q
 | .all=>AO' K false
 | .max=>fun xs H Q=>match xs with
  | [.int i,.int j]=>Q (.int (if j > i then j else i)) H
  |xs=>o0' K true xs H Q
 | .min=>fun xs H Q=>match xs with
  | [.int i,.int j]=>Q (.int (if j<i then j else i)) H
  |xs=>o0' K false xs H Q
 | .list=>fun xs H Q=>(∃p ys,xs=[.ref p]/\(SqL K H p ys\/SqT K H p ys)/\∀l,H l=none->Q (.ref l) (upd H l (.lst ys)))\/AQ' xs H Q
 | .range=>AP'
 | .set=>qI' K
 | .sorted=>qz' K
 | .tuple=>fun xs H Q=>∃p ys,xs=[.ref p]/\((SqL K H p ys/\∀l,H l=none->Q (.ref l) (upd H l (.tup ys)))\/(SqT K H p ys/\Q (.ref p) H))
def ll':Mf->V->List V->Hp->VK->Prop
 | .append=>lO'
 | .extend=>lQ'
 | .join=>vy' K
 | .insert=>mc'
 | .bitlen=>mn'
def hG':Mf->String
 | .join=>"str"
 | .bitlen=>"int"
 |_=>"list"
def m1':Mf->Str
 | .append=>"append"
 | .extend=>"extend"
 | .join=>"join"
 | .insert=>"insert"
 | .bitlen=>"bit_length"
def fe':Bf->Str
 | .len=>"len"
 | .abs=>"abs"
 | .int=>"int"
 | .str=>"str"
 | .isinstance=>"isinstance"
 | .all=>"all"
 | .max=>"max"
 | .min=>"min"
 | .list=>"list"
 | .tuple=>"tuple"
 | .range=>"range"
 | .set=>"set"
 | .sorted=>"sorted"
def pm':R2:=fun x y H Q=>match x,y with
 | .str z,.int i=>z.length<=sizeLine/\∃c,atI z.cps.toList i=some c/\Q (.str ⟨#[c]⟩) H
 |x,y=>gN' K x y H Q\/gU' K x y H Q
def rSl:V->Option Int->Option Int->Hp->VK->Prop:=fun x lo hi H Q=>match x with
 | .str a=>a.length<=sizeLine/\Q (.str (Txt.slice a lo hi)) H
 |x=>yq' K x lo hi H Q\/yp' K x lo hi H Q\/yz' K x lo hi H Q
end
structure Rc where
 N:List Str
 B:List Str
 K:W.Frag
 fs:Str->Option Sp
 xk:L2.St->XK:=fun _=>E0
 cl:Str->Option Addr:=fun _=>none
def pn' (neg:Bool) (ty td:TE):TE:=zu' neg ty td
def po':Cts->Nat
 | .nil=>0
 | .cons _ r=>po' r+1
mutual
def tE (C:Rc):Ce->TE
 | .var i=>yl' i
 | .int n=>tC (.int n)
 | .bl b=>tC (.bl b)
 | .non=>tC .non
 | .str x=>tC (.str x)
 | .ty n=>tC (.ty n)
 | .bin op a b=>tOp (fC' C.K op) (tE C a) (tE C b)
 | .neg a=>tUn (rU fun i=>.int (-i)) (tE C a)
 | .not a=>sc' (tE C a)
 | .and a b=>oD' (tE C a) (tE C b)
 | .or a b=>ym' (tE C a) (tE C b)
 | .cmp op a b=>tOp (dS' C.K op) (tE C a) (tE C b)
 | .ife q a b=>tIf (tQ C q) (tE C a) (tE C b)
 | .tup es=>y9' (tA C es)
 | .lst es=>za' (tA C es)
 | .idx a b=>tOp (pm' C.K) (tE C a) (tE C b)
 | .cut a lo hi=>tSl (rSl C.K) (tE C a) (tO C lo) (tO C hi)
 | .call f es=>fun σ H Q=>match C.fs f with
  |some sp=>oN' sp [] (C.xk σ) (tA C es) σ H Q
  |none=>False
 | .blt f es=>tCB (di' C.K f) (tA C es)
 | .met m o es=>tBM C.K (hG' m) (ll' C.K m) (tE C o) (tA C es)
 | .din neg a b=>pn' neg (tE C a) (tE C b)
 | .dgt a b=>m0' (tE C a) (tE C b)
 | .szp a b=>zr' C.K (bh' (tE C a) (bh' (tE C b) fy'))
 | .cls c=>fun _ H Q=>∃Ca,C.cl c=some Ca/\Q (.ref Ca) H
 | .comp elt own t it q r=>iI' own (tI C it) (tG C t) (tQo C q) (tR C r (e5' (tE C elt)))
def tA (C:Rc):Ces->TA
 | .nil=>fy'
 | .cons e r=>bh' (tE C e) (tA C r)
def tQ (C:Rc):Cq->TT
 | .val e=>fun σ H Q=>tE C e σ H fun x H'=>∃k,vb' C.K x H' k/\Q k H'
 | .not q=>yN' (tQ C q)
 | .and a b=>uP' (tQ C a) (tQ C b)
 | .or a b=>tOr (tQ C a) (tQ C b)
 | .cmp op a b=>lC' (tOp (dS' C.K op) (tE C a) (tE C b))
 | .din neg a b=>lC' (pn' neg (tE C a) (tE C b))
def tQo (C:Rc):Cqo->TT
 | .none=>fun _ H Q=>Q true H
 | .some q=>tQ C q
def tO (C:Rc):Co->TO
 | .none=>iD'
 | .some e=>sz' (tE C e)
def tI (C:Rc):Ci->TI
 | .val e=>ze' C.K (tE C e)
 | .range1 a=>sk' (bh' (tE C a) fy')
 | .range2 a b=>sm' (bh' (tE C a) (bh' (tE C b) fy'))
 | .zip a b=>zf' C.K (bh' (tE C a) (bh' (tE C b) fy'))
 | .enum a=>sM' C.K (tE C a)
 | .range3 a b c=>sR' (bh' (tE C a) (bh' (tE C b) (bh' (tE C c) fy')))
 | .rev a=>zj' C.K (tE C a)
def tG (C:Rc):Ct->TG
 | .name i=>dI' i
 | .tup ts=>zx' C.K (po' ts) (tGs C ts)
 | .sub o i=>yU' (tE C o) (tE C i) ew'
def tGs (C:Rc):Cts->TGs
 | .nil=>yT'
 | .cons t r=>si' (tG C t) (tGs C r)
def tR (C:Rc):Cc->TL (List V)->TL (List V)
 | .nil,em=>em
 | .cons ws t it q r,em=>iH' (tI C it) (bi' ws (tG C t) (tQo C q) (tR C r em))
end
mutual
def tS (C:Rc):Cs->TS
 | .expr e=>sf' (tE C e)
 | .ret e=>yP' (tE C e)
 | .asg t e=>lk' (tE C e) (tG C t)
 | .par i j a b=>yV' i j (bh' (tE C a) (bh' (tE C b) fy'))
 | .aug i sub e=>yW' i (tE C e) (ipI fun i j=>if sub then i-j else i+j)
 | .ite q a b=>yQ' (tQ C q) (tSs C a) (tSs C b)
 | .whl q b=>lv' (tQ C q) (tSs C b)
 | .for_ t it b=>yX' (tI C it) (tG C t) (tSs C b)
 | .raise_=>lu'
 | .rse nm=>fun _ σ H=>(∃Ca,C.cl nm=some Ca/\W.excIn C.K Ca bmV "ValueError.__new__"=true)/\C.xk σ (.str nm 0) none H
 | .try_ b c i su=>fun D σ H=>tSs { C with xk:=fun σ' en _ H'=>∃nm Ca Cc,en=.str nm 0/\C.cl nm=some Ca/\C.cl c=some Cc/\W.exmOne C.K (.ref Ca) (.ref Cc)=some true/\∀e,H' e=none->tSs { C with xk:=fun _=>E0 } su { nx:=fun σ2 H2=>D.nx (σ2.set i none) H2,rt:=D.rt } (σ'.set i (some (.ref e))) (upd H' e (gO' e Ca)) } b D σ H
 | .setc2 i elt own t it q ws t2 it2 q2=>lk' (wa' own (tI C it) (tG C t) (tQo C q) (iH' (tI C it2) (bi' ws (tG C t2) (tQo C q2) (hB' (tE C elt))))) (dI' i)
 | .dctc tup i k v own t it q=>if tup then lk' (wc' own (tI C it) (tG C t) (tQo C q) (tE C k) (tE C v)) (dI' i)else lk' (wb' own (tI C it) (tG C t) (tQo C q) (tE C k) (tE C v)) (dI' i)
def tSs (C:Rc):Css->TS
 | .nil=>sd'
 | .cons s r=>yO' (tS C s) (tSs C r)
end
def vis (sc:Scope) (x:Str):Bool:=match sc.names.lookup x with
 |some .local=>true
 |some .cell=>true
 |some .free=>true
 |_=>false
def locb (sc:Scope) (x:Str):Bool:=match sc.names.lookup x with
 |some .local=>true
 |some .cell=>true
 |_=>false
def glb (sc:Scope) (x:Str):Bool:=decide (sc.names.lookup x=some .globalImplicit)
def em' (N:List Str) (i:Nat) (x:Str):Bool:=decide (N[i]?=some x)&&!(x == ("__debug__":Str))&&!(x == ("__classdict__":Str))
def az':Expr->Bool
 | .Starred ..=>false
 |_=>true
def bg':Expr->Bool
 | .Set ..=>false
 |_=>true
def eI':Expr->Bool
 | .Slice ..=>false
 |_=>true
def m2':Expr->Bool
 | .Call _ [] _ _=>false
 |_=>true
def qK':Expr->Bool
 | .UnaryOp .Not _ _=>false
 | .BoolOp ..=>false
 | .IfExp ..=>false
 | .Compare ..=>false
 |_=>true
def hH':List String:=["list","tuple","str","bool","int","dict","ValueError"]
def lm' (N:List Str) (sc scope:Scope) (own:List Nat):Bool:=
 decide (scope.kind=.function)&&
 scope.names.all (fun x=>(decide (x.2≠.local) || decide (scope.names.lookup x.1=some .local))&&(decide (x.2≠.cell) || decide (scope.names.lookup x.1=some .cell))&&
  (decide (x.2≠.free) || decide (sc.names.lookup x.1=some .cell) || decide (sc.names.lookup x.1=some .free)))&&
 (aF N.length).all (fun i=>match N[i]? with
  |some x=>(decide (scope.names.lookup x≠some .local)&&decide (scope.names.lookup x≠some .cell)) || decide (i∈own)
  |none=>true)
def hI':Ci->Expr->Bool
 | .zip _ _,.Tuple ..=>true
 | .zip _ _,_=>false
 | .enum _,.Tuple ..=>true
 | .enum _,_=>false
 |_,_=>true
mutual
def gp' (own:List Nat):Ct->Bool
 | .name i=>decide (i∈own)
 | .tup ts=>m3' own ts
 | .sub _ _=>false
def m3' (own:List Nat):Cts->Bool
 | .nil=>true
 | .cons t r=>gp' own t&&m3' own r
end
def tld (B:List Str):Bool:=decide (("~":Str)∈B)
def hat (B:List Str):Bool:=decide (("^":Str)∈B)
def pct (B:List Str):Bool:=decide (("%":Str)∈B)
def m4' (x:Str):Str:=⟨#[33]++x.cps⟩
theorem au' {P:Prop} (h:false=true):P:=(aw h).elim
theorem hJ' {a b:Bool} (h:(a&&b)=true):a=true/\b=true:=by
 cases a with
 |true=>exact⟨rfl,h⟩
 |false=>exact au' h
def zy' (e:Expr) (f:Expr->Expr->Bool):Bool:=match e with
 | .BoolOp .And [x,y] _=>f x y
 | .BoolOp .And (x :: y :: z :: r) pos=>f x (.BoolOp .And (y :: z :: r) pos)
 |_=>false
theorem m5' {e:Expr} {f:Expr->Expr->Bool} (h:zy' e f=true):(∃x y pos,e=.BoolOp .And [x,y] pos/\f x y=true)\/∃x y z r pos,e=.BoolOp .And (x :: y :: z :: r) pos/\f x (.BoolOp .And (y :: z :: r) pos)=true:=by
 cases e with
 |BoolOp o vs pos=>
  cases o with
  |And=>
   cases vs with
   |nil=>exact au' h
   |cons x r=>
    cases r with
    |nil=>exact au' h
    |cons y r=>
     cases r with
     |nil=>exact .inl ⟨x,y,pos,rfl,h⟩
     |cons z r=>exact .inr ⟨x,y,z,r,pos,rfl,h⟩
  |_=>exact au' h
 |_=>exact au' h
def vOr (e:Expr) (f:Expr->Expr->Bool):Bool:=match e with
 | .BoolOp .Or [x,y] _=>f x y
 | .BoolOp .Or (x :: y :: z :: r) pos=>f x (.BoolOp .Or (y :: z :: r) pos)
 |_=>false
theorem qL' {e:Expr} {f:Expr->Expr->Bool} (h:vOr e f=true):(∃x y pos,e=.BoolOp .Or [x,y] pos/\f x y=true)\/∃x y z r pos,e=.BoolOp .Or (x :: y :: z :: r) pos/\f x (.BoolOp .Or (y :: z :: r) pos)=true:=by
 cases e with
 |BoolOp o vs pos=>
  cases o with
  |Or=>
   cases vs with
   |nil=>exact au' h
   |cons x r=>
    cases r with
    |nil=>exact au' h
    |cons y r=>
     cases r with
     |nil=>exact .inl ⟨x,y,pos,rfl,h⟩
     |cons z r=>exact .inr ⟨x,y,z,r,pos,rfl,h⟩
  |_=>exact au' h
 |_=>exact au' h
def aX' {α:Type} (z:List α) (f:Bool):Bool:=match z with
 | []=>f
 |_=>false
theorem an' {α:Type} {z:List α} {f:Bool} (h:aX' z f=true):z=[]/\f=true:=by
 cases z with
 |nil=>exact⟨rfl,h⟩
 |_=>exact au' h
def ay' {α:Type} (z:List α) (f:α->List α->Bool):Bool:=match z with
 |x :: r=>f x r
 |_=>false
theorem ai' {α:Type} {z:List α} {f:α->List α->Bool} (h:ay' z f=true):∃x r,z=x :: r/\f x r=true:=by
 cases z with
 |cons x r=>exact⟨x,r,rfl,h⟩
 |_=>exact au' h
def jH' {α:Type} (z:Option α) (f:Bool):Bool:=match z with
 |none=>f
 |_=>false
theorem ff' {α:Type} {z:Option α} {f:Bool} (h:jH' z f=true):z=none/\f=true:=by
 cases z with
 |none=>exact⟨rfl,h⟩
 |_=>exact au' h
def fP' {α:Type} (z:Option α) (f:α->Bool):Bool:=match z with
 |some x=>f x
 |_=>false
theorem cV' {α:Type} {z:Option α} {f:α->Bool} (h:fP' z f=true):∃x,z=some x/\f x=true:=by
 cases z with
 |some x=>exact⟨x,rfl,h⟩
 |_=>exact au' h
def fD' (z:Comprehension) (f:Expr->Expr->List Expr->Int->Bool):Bool:=f z.target z.iter z.ifs z.is_async
theorem bU' {z:Comprehension} {f:Expr->Expr->List Expr->Int->Bool} (h:fD' z f=true):∃a b c d,z=⟨a,b,c,d⟩/\f a b c d=true:=by
 cases z
 exact⟨_,_,_,_,rfl,h⟩
def bs' (z:Expr) (f:Str->Pos->Bool):Bool:=match z with
 | .Name x0 x1=>f x0 x1
 |_=>false
theorem aC' {z f} (h:bs' z f=true):∃x0 x1,z=.Name x0 x1/\f x0 x1=true:=by
 cases z with
 |Name x0 x1=>exact⟨x0,x1,rfl,h⟩
 |_=>exact au' h
def bH' (z:Expr) (f:Const->Nat->Pos->Bool):Bool:=match z with
 | .Constant x0 x1 x2=>f x0 x1 x2
 |_=>false
theorem bj' {z f} (h:bH' z f=true):∃x0 x1 x2,z=.Constant x0 x1 x2/\f x0 x1 x2=true:=by
 cases z with
 |Constant x0 x1 x2=>exact⟨x0,x1,x2,rfl,h⟩
 |_=>exact au' h
def qM' (z:Const) (f:Int->Bool):Bool:=match z with
 | .int x0=>f x0
 |_=>false
theorem m6' {z f} (h:qM' z f=true):∃x0,z=.int x0/\f x0=true:=by
 cases z with
 |int x0=>exact⟨x0,rfl,h⟩
 |_=>exact au' h
def m7' (z:Const) (f:Bool->Bool):Bool:=match z with
 | .bool x0=>f x0
 |_=>false
theorem kW' {z f} (h:m7' z f=true):∃x0,z=.bool x0/\f x0=true:=by
 cases z with
 |bool x0=>exact⟨x0,rfl,h⟩
 |_=>exact au' h
def m8' (z:Const) (f:Bool):Bool:=match z with
 | .none=>f
 |_=>false
theorem kX' {z f} (h:m8' z f=true):z=.none/\f=true:=by
 cases z with
 |none=>exact⟨rfl,h⟩
 |_=>exact au' h
def m9' (z:Const) (f:Str->Bool):Bool:=match z with
 | .str x0=>f x0
 |_=>false
theorem hK' {z f} (h:m9' z f=true):∃x0,z=.str x0/\f x0=true:=by
 cases z with
 |str x0=>exact⟨x0,rfl,h⟩
 |_=>exact au' h
def jI' (z:Expr) (f:Expr->Operator->Expr->Pos->Bool):Bool:=match z with
 | .BinOp x0 x1 x2 x3=>f x0 x1 x2 x3
 |_=>false
theorem iW' {z f} (h:jI' z f=true):∃x0 x1 x2 x3,z=.BinOp x0 x1 x2 x3/\f x0 x1 x2 x3=true:=by
 cases z with
 |BinOp x0 x1 x2 x3=>exact⟨x0,x1,x2,x3,rfl,h⟩
 |_=>exact au' h
def ed' (z:Expr) (f:UnaryOp->Expr->Pos->Bool):Bool:=match z with
 | .UnaryOp x0 x1 x2=>f x0 x1 x2
 |_=>false
theorem dT' {z f} (h:ed' z f=true):∃x0 x1 x2,z=.UnaryOp x0 x1 x2/\f x0 x1 x2=true:=by
 cases z with
 |UnaryOp x0 x1 x2=>exact⟨x0,x1,x2,rfl,h⟩
 |_=>exact au' h
def na' (z:UnaryOp) (f:Bool):Bool:=match z with
 | .USub=>f
 |_=>false
theorem kY' {z f} (h:na' z f=true):z=.USub/\f=true:=by
 cases z with
 |USub=>exact⟨rfl,h⟩
 |_=>exact au' h
def qN' (z:UnaryOp) (f:Bool):Bool:=match z with
 | .Not=>f
 |_=>false
theorem nb' {z f} (h:qN' z f=true):z=.Not/\f=true:=by
 cases z with
 |Not=>exact⟨rfl,h⟩
 |_=>exact au' h
def fQ' (z:Expr) (f:Expr->List CmpOp->List Expr->Pos->Bool):Bool:=match z with
 | .Compare x0 x1 x2 x3=>f x0 x1 x2 x3
 |_=>false
theorem gq' {z f} (h:fQ' z f=true):∃x0 x1 x2 x3,z=.Compare x0 x1 x2 x3/\f x0 x1 x2 x3=true:=by
 cases z with
 |Compare x0 x1 x2 x3=>exact⟨x0,x1,x2,x3,rfl,h⟩
 |_=>exact au' h
def jJ' (z:Expr) (f:Expr->Expr->Expr->Pos->Bool):Bool:=match z with
 | .IfExp x0 x1 x2 x3=>f x0 x1 x2 x3
 |_=>false
theorem iX' {z f} (h:jJ' z f=true):∃x0 x1 x2 x3,z=.IfExp x0 x1 x2 x3/\f x0 x1 x2 x3=true:=by
 cases z with
 |IfExp x0 x1 x2 x3=>exact⟨x0,x1,x2,x3,rfl,h⟩
 |_=>exact au' h
def eJ' (z:Expr) (f:List Expr->Nat->Pos->Bool):Bool:=match z with
 | .Tuple x0 x1 x2=>f x0 x1 x2
 |_=>false
theorem ds' {z f} (h:eJ' z f=true):∃x0 x1 x2,z=.Tuple x0 x1 x2/\f x0 x1 x2=true:=by
 cases z with
 |Tuple x0 x1 x2=>exact⟨x0,x1,x2,rfl,h⟩
 |_=>exact au' h
def nc' (z:Expr) (f:List Expr->Pos->Bool):Bool:=match z with
 | .List x0 x1=>f x0 x1
 |_=>false
theorem kZ' {z f} (h:nc' z f=true):∃x0 x1,z=.List x0 x1/\f x0 x1=true:=by
 cases z with
 |List x0 x1=>exact⟨x0,x1,rfl,h⟩
 |_=>exact au' h
def cW' (z:Expr) (f:Expr->Expr->Pos->Bool):Bool:=match z with
 | .Subscript x0 x1 x2=>f x0 x1 x2
 |_=>false
theorem cX' {z f} (h:cW' z f=true):∃x0 x1 x2,z=.Subscript x0 x1 x2/\f x0 x1 x2=true:=by
 cases z with
 |Subscript x0 x1 x2=>exact⟨x0,x1,x2,rfl,h⟩
 |_=>exact au' h
def jK' (z:Expr) (f:Option Expr->Option Expr->Option Expr->Pos->Bool):Bool:=match z with
 | .Slice x0 x1 x2 x3=>f x0 x1 x2 x3
 |_=>false
theorem iY' {z f} (h:jK' z f=true):∃x0 x1 x2 x3,z=.Slice x0 x1 x2 x3/\f x0 x1 x2 x3=true:=by
 cases z with
 |Slice x0 x1 x2 x3=>exact⟨x0,x1,x2,x3,rfl,h⟩
 |_=>exact au' h
def cn' (z:Expr) (f:Expr->List Expr->List Keyword->Pos->Bool):Bool:=match z with
 | .Call x0 x1 x2 x3=>f x0 x1 x2 x3
 |_=>false
theorem bc' {z f} (h:cn' z f=true):∃x0 x1 x2 x3,z=.Call x0 x1 x2 x3/\f x0 x1 x2 x3=true:=by
 cases z with
 |Call x0 x1 x2 x3=>exact⟨x0,x1,x2,x3,rfl,h⟩
 |_=>exact au' h
def cY' (z:Expr) (f:Expr->Str->Pos->Bool):Bool:=match z with
 | .Attribute x0 x1 x2=>f x0 x1 x2
 |_=>false
theorem cZ' {z f} (h:cY' z f=true):∃x0 x1 x2,z=.Attribute x0 x1 x2/\f x0 x1 x2=true:=by
 cases z with
 |Attribute x0 x1 x2=>exact⟨x0,x1,x2,rfl,h⟩
 |_=>exact au' h
def fg' (z:Expr) (f:Expr->Expr->List Comprehension->Scope->Pos->Bool):Bool:=match z with
 | .DictComp x0 x1 x2 x3 x4=>f x0 x1 x2 x3 x4
 |_=>false
theorem fE' {z f} (h:fg' z f=true):∃x0 x1 x2 x3 x4,z=.DictComp x0 x1 x2 x3 x4/\f x0 x1 x2 x3 x4=true:=by
 cases z with
 |DictComp x0 x1 x2 x3 x4=>exact⟨x0,x1,x2,x3,x4,rfl,h⟩
 |_=>exact au' h
def cD' (z:Expr) (f:Expr->List Comprehension->Scope->Pos->Bool):Bool:=match z with
 | .ListComp x0 x1 x2 x3=>f x0 x1 x2 x3
 |_=>false
theorem co' {z f} (h:cD' z f=true):∃x0 x1 x2 x3,z=.ListComp x0 x1 x2 x3/\f x0 x1 x2 x3=true:=by
 cases z with
 |ListComp x0 x1 x2 x3=>exact⟨x0,x1,x2,x3,rfl,h⟩
 |_=>exact au' h
def nd' (z:Stmt) (f:Expr->Pos->Bool):Bool:=match z with
 | .Expr x0 x1=>f x0 x1
 |_=>false
theorem k0' {z f} (h:nd' z f=true):∃x0 x1,z=.Expr x0 x1/\f x0 x1=true:=by
 cases z with
 |Expr x0 x1=>exact⟨x0,x1,rfl,h⟩
 |_=>exact au' h
def hL' (z:Stmt) (f:Option Expr->Pos->Bool):Bool:=match z with
 | .Return x0 x1=>f x0 x1
 |_=>false
theorem hM' {z f} (h:hL' z f=true):∃x0 x1,z=.Return x0 x1/\f x0 x1=true:=by
 cases z with
 |Return x0 x1=>exact⟨x0,x1,rfl,h⟩
 |_=>exact au' h
def c0' (z:Stmt) (f:List Expr->Expr->Pos->Bool):Bool:=match z with
 | .Assign x0 x1 x2=>f x0 x1 x2
 |_=>false
theorem ce' {z f} (h:c0' z f=true):∃x0 x1 x2,z=.Assign x0 x1 x2/\f x0 x1 x2=true:=by
 cases z with
 |Assign x0 x1 x2=>exact⟨x0,x1,x2,rfl,h⟩
 |_=>exact au' h
def fR' (z:Expr) (f:Expr->List Comprehension->Scope->Pos->Bool):Bool:=match z with
 | .SetComp x0 x1 x2 x3=>f x0 x1 x2 x3
 |_=>false
theorem gr' {z f} (h:fR' z f=true):∃x0 x1 x2 x3,z=.SetComp x0 x1 x2 x3/\f x0 x1 x2 x3=true:=by
 cases z with
 |SetComp x0 x1 x2 x3=>exact⟨x0,x1,x2,x3,rfl,h⟩
 |_=>exact au' h
def jL' (z:Stmt) (f:Option Expr->Option Expr->Pos->Bool):Bool:=match z with
 | .Raise x0 x1 x2=>f x0 x1 x2
 |_=>false
theorem iZ' {z f} (h:jL' z f=true):∃x0 x1 x2,z=.Raise x0 x1 x2/\f x0 x1 x2=true:=by
 cases z with
 |Raise x0 x1 x2=>exact⟨x0,x1,x2,rfl,h⟩
 |_=>exact au' h
def qO' (z:Stmt) (f:List Stmt->List ExceptHandler->List Stmt->List Stmt->Pos->Bool):Bool:=match z with
 | .Try x0 x1 x2 x3 x4=>f x0 x1 x2 x3 x4
 |_=>false
theorem ne' {z f} (h:qO' z f=true):∃x0 x1 x2 x3 x4,z=.Try x0 x1 x2 x3 x4/\f x0 x1 x2 x3 x4=true:=by
 cases z with
 |Try x0 x1 x2 x3 x4=>exact⟨x0,x1,x2,x3,x4,rfl,h⟩
 |_=>exact au' h
def cR' (z:ExceptHandler) (f:Option Expr->Option Str->List Stmt->Pos->Bool):Bool:=match z with
 | .ExceptHandler x0 x1 x2 x3=>f x0 x1 x2 x3
theorem dt' {z f} (h:cR' z f=true):∃x0 x1 x2 x3,z=.ExceptHandler x0 x1 x2 x3/\f x0 x1 x2 x3=true:=by
 cases z with
 |ExceptHandler x0 x1 x2 x3=>exact⟨x0,x1,x2,x3,rfl,h⟩
def en' (z:Stmt) (f:Expr->Operator->Expr->Pos->Bool):Bool:=match z with
 | .AugAssign x0 x1 x2 x3=>f x0 x1 x2 x3
 |_=>false
theorem fh' {z f} (h:en' z f=true):∃x0 x1 x2 x3,z=.AugAssign x0 x1 x2 x3/\f x0 x1 x2 x3=true:=by
 cases z with
 |AugAssign x0 x1 x2 x3=>exact⟨x0,x1,x2,x3,rfl,h⟩
 |_=>exact au' h
def wh' (z:Stmt) (f:Expr->List Stmt->List Stmt->Pos->Bool):Bool:=match z with
 | .If x0 x1 x2 x3=>f x0 x1 x2 x3
 |_=>false
theorem pp' {z f} (h:wh' z f=true):∃x0 x1 x2 x3,z=.If x0 x1 x2 x3/\f x0 x1 x2 x3=true:=by
 cases z with
 |If x0 x1 x2 x3=>exact⟨x0,x1,x2,x3,rfl,h⟩
 |_=>exact au' h
def jM' (z:Stmt) (f:Expr->List Stmt->List Stmt->Pos->Bool):Bool:=match z with
 | .While x0 x1 x2 x3=>f x0 x1 x2 x3
 |_=>false
theorem i0' {z f} (h:jM' z f=true):∃x0 x1 x2 x3,z=.While x0 x1 x2 x3/\f x0 x1 x2 x3=true:=by
 cases z with
 |While x0 x1 x2 x3=>exact⟨x0,x1,x2,x3,rfl,h⟩
 |_=>exact au' h
def qP' (z:Stmt) (f:Expr->Expr->List Stmt->List Stmt->Pos->Bool):Bool:=match z with
 | .For x0 x1 x2 x3 x4=>f x0 x1 x2 x3 x4
 |_=>false
theorem nf' {z f} (h:qP' z f=true):∃x0 x1 x2 x3 x4,z=.For x0 x1 x2 x3 x4/\f x0 x1 x2 x3 x4=true:=by
 cases z with
 |For x0 x1 x2 x3 x4=>exact⟨x0,x1,x2,x3,x4,rfl,h⟩
 |_=>exact au' h
def v1 (zz:Expr) (f:Str->Bool):Bool:=bs' zz fun y1 y2=>f y1
theorem yE' {zz f} {P:Prop} (h:v1 zz f=true) (k:∀x w1,zz=.Name x w1->f x=true->P):P:=by
 obtain⟨y1,y2,e0,h⟩:=aC' h
 exact k y1 y2 (by rw[e0]) h
def v2 (zz:Expr) (f:Int->Bool):Bool:=bH' zz fun y1 y2 y3=>qM' y1 fun y4=>f y4
theorem BK' {zz f} {P:Prop} (h:v2 zz f=true) (k:∀m w1 w2,zz=.Constant (.int m) w1 w2->f m=true->P):P:=by
 obtain⟨y1,y2,y3,e0,h⟩:=bj' h
 obtain⟨y4,e1,h⟩:=m6' h
 exact k y4 y2 y3 (by rw[e0,e1]) h
def v3 (zz:Expr) (f:Bool->Bool):Bool:=bH' zz fun y1 y2 y3=>m7' y1 fun y4=>f y4
theorem BL' {zz f} {P:Prop} (h:v3 zz f=true) (k:∀c w1 w2,zz=.Constant (.bool c) w1 w2->f c=true->P):P:=by
 obtain⟨y1,y2,y3,e0,h⟩:=bj' h
 obtain⟨y4,e1,h⟩:=kW' h
 exact k y4 y2 y3 (by rw[e0,e1]) h
def v4 (zz:Expr) (f:Bool):Bool:=bH' zz fun y1 y2 y3=>m8' y1 (f)
theorem BM' {zz f} {P:Prop} (h:v4 zz f=true) (k:∀w1 w2,zz=.Constant .none w1 w2->f=true->P):P:=by
 obtain⟨y1,y2,y3,e0,h⟩:=bj' h
 obtain⟨e1,h⟩:=kX' h
 exact k y2 y3 (by rw[e0,e1]) h
def v5 (zz:Expr) (f:Str->Bool):Bool:=bH' zz fun y1 y2 y3=>m9' y1 fun y4=>f y4
theorem BN' {zz f} {P:Prop} (h:v5 zz f=true) (k:∀y w1 w2,zz=.Constant (.str y) w1 w2->f y=true->P):P:=by
 obtain⟨y1,y2,y3,e0,h⟩:=bj' h
 obtain⟨y4,e1,h⟩:=hK' h
 exact k y4 y2 y3 (by rw[e0,e1]) h
def v6 (zz:Expr) (f:Expr->Operator->Expr->Bool):Bool:=jI' zz fun y1 y2 y3 y4=>f y1 y2 y3
theorem BO' {zz f} {P:Prop} (h:v6 zz f=true) (k:∀ea op' eb w1,zz=.BinOp ea op' eb w1->f ea op' eb=true->P):P:=by
 obtain⟨y1,y2,y3,y4,e0,h⟩:=iW' h
 exact k y1 y2 y3 y4 (by rw[e0]) h
def v7 (zz:Expr) (f:Expr->Bool):Bool:=ed' zz fun y1 y2 y3=>na' y1 (f y2)
theorem BP' {zz f} {P:Prop} (h:v7 zz f=true) (k:∀ea w1,zz=.UnaryOp .USub ea w1->f ea=true->P):P:=by
 obtain⟨y1,y2,y3,e0,h⟩:=dT' h
 obtain⟨e1,h⟩:=kY' h
 exact k y2 y3 (by rw[e0,e1]) h
def v8 (zz:Expr) (f:Expr->Bool):Bool:=ed' zz fun y1 y2 y3=>qN' y1 (f y2)
theorem A2' {zz f} {P:Prop} (h:v8 zz f=true) (k:∀ea w1,zz=.UnaryOp .Not ea w1->f ea=true->P):P:=by
 obtain⟨y1,y2,y3,e0,h⟩:=dT' h
 obtain⟨e1,h⟩:=nb' h
 exact k y2 y3 (by rw[e0,e1]) h
def v9 (zz:Expr) (f:Expr->CmpOp->Expr->Bool):Bool:=fQ' zz fun y1 y2 y3 y4=>ay' y2 fun y5 y6=>aX' y6 (ay' y3 fun y7 y8=>aX' y8 (f y1 y5 y7))
theorem yF' {zz f} {P:Prop} (h:v9 zz f=true) (k:∀ea op' eb w1,zz=.Compare ea (op' :: []) (eb :: []) w1->f ea op' eb=true->P):P:=by
 obtain⟨y1,y2,y3,y4,e0,h⟩:=gq' h
 obtain⟨y5,y6,e1,h⟩:=ai' h
 obtain⟨e2,h⟩:=an' h
 obtain⟨y7,y8,e3,h⟩:=ai' h
 obtain⟨e4,h⟩:=an' h
 exact k y1 y5 y7 y4 (by rw[e0,e1,e2,e3,e4]) h
def v11 (zz:Expr) (f:Expr->Expr->Expr->Bool):Bool:=jJ' zz fun y1 y2 y3 y4=>f y1 y2 y3
theorem zz' {zz f} {P:Prop} (h:v11 zz f=true) (k:∀eq ea eb w1,zz=.IfExp eq ea eb w1->f eq ea eb=true->P):P:=by
 obtain⟨y1,y2,y3,y4,e0,h⟩:=iX' h
 exact k y1 y2 y3 y4 (by rw[e0]) h
def v12 (zz:Expr) (f:List Expr->Bool):Bool:=eJ' zz fun y1 y2 y3=>f y1
theorem wi' {zz f} {P:Prop} (h:v12 zz f=true) (k:∀xs w1 w2,zz=.Tuple xs w1 w2->f xs=true->P):P:=by
 obtain⟨y1,y2,y3,e0,h⟩:=ds' h
 exact k y1 y2 y3 (by rw[e0]) h
def v13 (zz:Expr) (f:List Expr->Bool):Bool:=nc' zz fun y1 y2=>f y1
theorem zA' {zz f} {P:Prop} (h:v13 zz f=true) (k:∀xs w1,zz=.List xs w1->f xs=true->P):P:=by
 obtain⟨y1,y2,e0,h⟩:=kZ' h
 exact k y1 y2 (by rw[e0]) h
def v14 (zz:Expr) (f:Expr->Expr->Bool):Bool:=cW' zz fun y1 y2 y3=>f y1 y2
theorem wj' {zz f} {P:Prop} (h:v14 zz f=true) (k:∀ea eb w1,zz=.Subscript ea eb w1->f ea eb=true->P):P:=by
 obtain⟨y1,y2,y3,e0,h⟩:=cX' h
 exact k y1 y2 y3 (by rw[e0]) h
def v15 (zz:Expr) (f:Expr->Option Expr->Option Expr->Bool):Bool:=cW' zz fun y1 y2 y3=>jK' y2 fun y4 y5 y6 y7=>jH' y6 (f y1 y4 y5)
theorem zB' {zz f} {P:Prop} (h:v15 zz f=true) (k:∀ea l h w1 w2,zz=.Subscript ea (.Slice l h none w1) w2->f ea l h=true->P):P:=by
 obtain⟨y1,y2,y3,e0,h⟩:=cX' h
 obtain⟨y4,y5,y6,y7,e1,h⟩:=iY' h
 obtain⟨e2,h⟩:=ff' h
 exact k y1 y4 y5 y7 y3 (by rw[e0,e1,e2]) h
def v16 (zz:Expr) (f:Str->Expr->List Expr->Bool):Bool:=cn' zz fun y1 y2 y3 y4=>bs' y1 fun y5 y6=>ay' y2 fun y7 y8=>aX' y3 (f y5 y7 y8)
theorem wk' {zz f} {P:Prop} (h:v16 zz f=true) (k:∀x w1 e r w2,zz=.Call (.Name x w1) (e :: r) [] w2->f x e r=true->P):P:=by
 obtain⟨y1,y2,y3,y4,e0,h⟩:=bc' h
 obtain⟨y5,y6,e1,h⟩:=aC' h
 obtain⟨y7,y8,e2,h⟩:=ai' h
 obtain⟨e3,h⟩:=an' h
 exact k y5 y6 y7 y8 y4 (by rw[e0,e1,e2,e3]) h
def v17 (zz:Expr) (f:Expr->Str->Pos->List Expr->Pos->Bool):Bool:=cn' zz fun y1 y2 y3 y4=>cY' y1 fun y5 y6 y7=>aX' y3 (f y5 y6 y7 y2 y4)
theorem zC' {zz f} {P:Prop} (h:v17 zz f=true) (k:∀eo nm apos args pos,zz=.Call (.Attribute eo nm apos) args [] pos->f eo nm apos args pos=true->P):P:=by
 obtain⟨y1,y2,y3,y4,e0,h⟩:=bc' h
 obtain⟨y5,y6,y7,e1,h⟩:=cZ' h
 obtain⟨e2,h⟩:=an' h
 exact k y5 y6 y7 y2 y4 (by rw[e0,e1,e2]) h
def v20 (zz:Expr) (f:Expr->Str->Pos->Expr->Pos->Bool):Bool:=cn' zz fun y1 y2 y3 y4=>cY' y1 fun y5 y6 y7=>ay' y2 fun y8 y9=>aX' y9 (aX' y3 (f y5 y6 y7 y8 y4))
theorem zD' {zz f} {P:Prop} (h:v20 zz f=true) (k:∀eo nm apos y pos,zz=.Call (.Attribute eo nm apos) (y :: []) [] pos->f eo nm apos y pos=true->P):P:=by
 obtain⟨y1,y2,y3,y4,e0,h⟩:=bc' h
 obtain⟨y5,y6,y7,e1,h⟩:=cZ' h
 obtain⟨y8,y9,e2,h⟩:=ai' h
 obtain⟨e3,h⟩:=an' h
 obtain⟨e4,h⟩:=an' h
 exact k y5 y6 y7 y8 y4 (by rw[e0,e1,e2,e3,e4]) h
def v23 (zz:Expr) (f:Str->Expr->Bool):Bool:=cn' zz fun y1 y2 y3 y4=>bs' y1 fun y5 y6=>ay' y2 fun y7 y8=>aX' y8 (aX' y3 (f y5 y7))
theorem tb' {zz f} {P:Prop} (h:v23 zz f=true) (k:∀x w1 y w2,zz=.Call (.Name x w1) (y :: []) [] w2->f x y=true->P):P:=by
 obtain⟨y1,y2,y3,y4,e0,h⟩:=bc' h
 obtain⟨y5,y6,e1,h⟩:=aC' h
 obtain⟨y7,y8,e2,h⟩:=ai' h
 obtain⟨e3,h⟩:=an' h
 obtain⟨e4,h⟩:=an' h
 exact k y5 y6 y7 y4 (by rw[e0,e1,e2,e3,e4]) h
def v84 (zz:Expr) (f:Str->Str->Expr->Expr->Bool):Bool:=cn' zz fun y1 y2 y3 y4=>bs' y1 fun y5 y6=>ay' y2 fun y7 y8=>cn' y7 fun y9 y10 y11 y12=>bs' y9 fun y13 y14=>ay' y10 fun y15 y16=>ay' y16 fun y17 y18=>aX' y18 (aX' y11 (aX' y8 (aX' y3 (f y5 y13 y15 y17))))
theorem zE' {zz f} {P:Prop} (h:v84 zz f=true) (k:∀n1 w1 n2 w2 y y' w3 w4,zz=.Call (.Name n1 w1) ((.Call (.Name n2 w2) (y :: (y' :: [])) [] w3) :: []) [] w4->f n1 n2 y y'=true->P):P:=by
 obtain⟨y1,y2,y3,y4,e0,h⟩:=bc' h
 obtain⟨y5,y6,e1,h⟩:=aC' h
 obtain⟨y7,y8,e2,h⟩:=ai' h
 obtain⟨y9,y10,y11,y12,e3,h⟩:=bc' h
 obtain⟨y13,y14,e4,h⟩:=aC' h
 obtain⟨y15,y16,e5,h⟩:=ai' h
 obtain⟨y17,y18,e6,h⟩:=ai' h
 obtain⟨e7,h⟩:=an' h
 obtain⟨e8,h⟩:=an' h
 obtain⟨e9,h⟩:=an' h
 obtain⟨e10,h⟩:=an' h
 exact k y5 y6 y13 y14 y15 y17 y12 y4 (by rw[e0,e1,e2,e3,e4,e5,e6,e7,e8,e9,e10]) h
def v26 (zz:Expr) (f:Expr->Expr->Expr->List Expr->Int->Scope->Bool):Bool:=cD' zz fun y1 y2 y3 y4=>ay' y2 fun y5 y6=>fD' y5 fun y7 y8 y9 y10=>aX' y6 (f y1 y7 y8 y9 y10 y3)
theorem zF' {zz f} {P:Prop} (h:v26 zz f=true) (k:∀ee tg iter ifs a scope w1,zz=.ListComp ee (⟨tg,iter,ifs,a⟩ :: []) scope w1->f ee tg iter ifs a scope=true->P):P:=by
 obtain⟨y1,y2,y3,y4,e0,h⟩:=co' h
 obtain⟨y5,y6,e1,h⟩:=ai' h
 obtain⟨y7,y8,y9,y10,e2,h⟩:=bU' h
 obtain⟨e3,h⟩:=an' h
 exact k y1 y7 y8 y9 y10 y3 y4 (by rw[e0,e1,e2,e3]) h
def v27 (zz:Expr) (f:Expr->Expr->Expr->List Expr->Int->Expr->Expr->List Expr->Int->Scope->Bool):Bool:=cD' zz fun y1 y2 y3 y4=>ay' y2 fun y5 y6=>fD' y5 fun y7 y8 y9 y10=>ay' y6 fun y11 y12=>fD' y11 fun y13 y14 y15 y16=>aX' y12 (f y1 y7 y8 y9 y10 y13 y14 y15 y16 y3)
theorem zG' {zz f} {P:Prop} (h:v27 zz f=true) (k:∀ee tg iter ifs a tg2 iter2 ifs2 a2 scope w1,zz=.ListComp ee (⟨tg,iter,ifs,a⟩ :: (⟨tg2,iter2,ifs2,a2⟩ :: [])) scope w1->f ee tg iter ifs a tg2 iter2 ifs2 a2 scope=true->P):P:=by
 obtain⟨y1,y2,y3,y4,e0,h⟩:=co' h
 obtain⟨y5,y6,e1,h⟩:=ai' h
 obtain⟨y7,y8,y9,y10,e2,h⟩:=bU' h
 obtain⟨y11,y12,e3,h⟩:=ai' h
 obtain⟨y13,y14,y15,y16,e4,h⟩:=bU' h
 obtain⟨e5,h⟩:=an' h
 exact k y1 y7 y8 y9 y10 y13 y14 y15 y16 y3 y4 (by rw[e0,e1,e2,e3,e4,e5]) h
def v28 (zz:Expr) (f:Expr->Expr->Expr->List Expr->Int->Expr->Expr->List Expr->Int->Expr->Expr->List Expr->Int->Scope->Bool):Bool:=cD' zz fun y1 y2 y3 y4=>ay' y2 fun y5 y6=>fD' y5 fun y7 y8 y9 y10=>ay' y6 fun y11 y12=>fD' y11 fun y13 y14 y15 y16=>ay' y12 fun y17 y18=>fD' y17 fun y19 y20 y21 y22=>aX' y18 (f y1 y7 y8 y9 y10 y13 y14 y15 y16 y19 y20 y21 y22 y3)
theorem zH' {zz f} {P:Prop} (h:v28 zz f=true) (k:∀ee tg iter ifs a tg2 iter2 ifs2 a2 tg3 iter3 ifs3 a3 scope w1,zz=.ListComp ee (⟨tg,iter,ifs,a⟩ :: (⟨tg2,iter2,ifs2,a2⟩ :: (⟨tg3,iter3,ifs3,a3⟩ :: []))) scope w1->f ee tg iter ifs a tg2 iter2 ifs2 a2 tg3 iter3 ifs3 a3 scope=true->P):P:=by
 obtain⟨y1,y2,y3,y4,e0,h⟩:=co' h
 obtain⟨y5,y6,e1,h⟩:=ai' h
 obtain⟨y7,y8,y9,y10,e2,h⟩:=bU' h
 obtain⟨y11,y12,e3,h⟩:=ai' h
 obtain⟨y13,y14,y15,y16,e4,h⟩:=bU' h
 obtain⟨y17,y18,e5,h⟩:=ai' h
 obtain⟨y19,y20,y21,y22,e6,h⟩:=bU' h
 obtain⟨e7,h⟩:=an' h
 exact k y1 y7 y8 y9 y10 y13 y14 y15 y16 y19 y20 y21 y22 y3 y4 (by rw[e0,e1,e2,e3,e4,e5,e6,e7]) h
def v29 (zz:List Expr) (f:Bool):Bool:=aX' zz (f)
theorem ng' {zz f} {P:Prop} (h:v29 zz f=true) (k:zz=[]->f=true->P):P:=by
 obtain⟨e0,h⟩:=an' h
 exact k (by rw[e0]) h
def v30 (zz:List Expr) (f:Expr->List Expr->Bool):Bool:=ay' zz fun y1 y2=>f y1 y2
theorem pq' {zz f} {P:Prop} (h:v30 zz f=true) (k:∀x xs,zz=(x :: xs)->f x xs=true->P):P:=by
 obtain⟨y1,y2,e0,h⟩:=ai' h
 exact k y1 y2 (by rw[e0]) h
def v31 (zz:List Expr) (f:Expr->Bool):Bool:=ay' zz fun y1 y2=>aX' y2 (f y1)
theorem zI' {zz f} {P:Prop} (h:v31 zz f=true) (k:∀e,zz=(e :: [])->f e=true->P):P:=by
 obtain⟨y1,y2,e0,h⟩:=ai' h
 obtain⟨e1,h⟩:=an' h
 exact k y1 (by rw[e0,e1]) h
def v32 (zz:Option Expr) (f:Bool):Bool:=jH' zz (f)
theorem zJ' {zz f} {P:Prop} (h:v32 zz f=true) (k:zz=none->f=true->P):P:=by
 obtain⟨e0,h⟩:=ff' h
 exact k (by rw[e0]) h
def v33 (zz:Option Expr) (f:Expr->Bool):Bool:=fP' zz fun y1=>f y1
theorem zK' {zz f} {P:Prop} (h:v33 zz f=true) (k:∀y,zz=(some y)->f y=true->P):P:=by
 obtain⟨y1,e0,h⟩:=cV' h
 exact k y1 (by rw[e0]) h
def v34 (zz:Expr) (f:Str->Expr->Expr->Bool):Bool:=cn' zz fun y1 y2 y3 y4=>bs' y1 fun y5 y6=>ay' y2 fun y7 y8=>ay' y8 fun y9 y10=>aX' y10 (aX' y3 (f y5 y7 y9))
theorem wl' {zz f} {P:Prop} (h:v34 zz f=true) (k:∀n w1 y z w2,zz=.Call (.Name n w1) (y :: (z :: [])) [] w2->f n y z=true->P):P:=by
 obtain⟨y1,y2,y3,y4,e0,h⟩:=bc' h
 obtain⟨y5,y6,e1,h⟩:=aC' h
 obtain⟨y7,y8,e2,h⟩:=ai' h
 obtain⟨y9,y10,e3,h⟩:=ai' h
 obtain⟨e4,h⟩:=an' h
 obtain⟨e5,h⟩:=an' h
 exact k y5 y6 y7 y9 y4 (by rw[e0,e1,e2,e3,e4,e5]) h
def v35 (zz:Expr) (f:Str->Expr->Expr->Expr->Bool):Bool:=cn' zz fun y1 y2 y3 y4=>bs' y1 fun y5 y6=>ay' y2 fun y7 y8=>ay' y8 fun y9 y10=>ay' y10 fun y11 y12=>aX' y12 (aX' y3 (f y5 y7 y9 y11))
theorem zL' {zz f} {P:Prop} (h:v35 zz f=true) (k:∀n w1 y z u w2,zz=.Call (.Name n w1) (y :: (z :: (u :: []))) [] w2->f n y z u=true->P):P:=by
 obtain⟨y1,y2,y3,y4,e0,h⟩:=bc' h
 obtain⟨y5,y6,e1,h⟩:=aC' h
 obtain⟨y7,y8,e2,h⟩:=ai' h
 obtain⟨y9,y10,e3,h⟩:=ai' h
 obtain⟨y11,y12,e4,h⟩:=ai' h
 obtain⟨e5,h⟩:=an' h
 obtain⟨e6,h⟩:=an' h
 exact k y5 y6 y7 y9 y11 y4 (by rw[e0,e1,e2,e3,e4,e5,e6]) h
def v36 (zz:Stmt) (f:Expr->Bool):Bool:=nd' zz fun y1 y2=>f y1
theorem zM' {zz f} {P:Prop} (h:v36 zz f=true) (k:∀x w1,zz=.Expr x w1->f x=true->P):P:=by
 obtain⟨y1,y2,e0,h⟩:=k0' h
 exact k y1 y2 (by rw[e0]) h
def v37 (zz:Stmt) (f:Expr->Bool):Bool:=hL' zz fun y1 y2=>fP' y1 fun y3=>f y3
theorem zN' {zz f} {P:Prop} (h:v37 zz f=true) (k:∀x w1,zz=.Return (some x) w1->f x=true->P):P:=by
 obtain⟨y1,y2,e0,h⟩:=hM' h
 obtain⟨y3,e1,h⟩:=cV' h
 exact k y3 y2 (by rw[e0,e1]) h
def v39 (zz:Stmt) (f:Expr->Expr->Bool):Bool:=c0' zz fun y1 y2 y3=>ay' y1 fun y4 y5=>aX' y5 (f y4 y2)
theorem zO' {zz f} {P:Prop} (h:v39 zz f=true) (k:∀tg x w1,zz=.Assign (tg :: []) x w1->f tg x=true->P):P:=by
 obtain⟨y1,y2,y3,e0,h⟩:=ce' h
 obtain⟨y4,y5,e1,h⟩:=ai' h
 obtain⟨e2,h⟩:=an' h
 exact k y4 y2 y3 (by rw[e0,e1,e2]) h
def v41 (zz:Stmt) (f:Str->Pos->Expr->Expr->Expr->List Expr->Int->Expr->Expr->List Expr->Int->Scope->Bool):Bool:=c0' zz fun y1 y2 y3=>ay' y1 fun y4 y5=>bs' y4 fun y6 y7=>aX' y5 (fR' y2 fun y8 y9 y10 y11=>ay' y9 fun y12 y13=>fD' y12 fun y14 y15 y16 y17=>ay' y13 fun y18 y19=>fD' y18 fun y20 y21 y22 y23=>aX' y19 (f y6 y7 y8 y14 y15 y16 y17 y20 y21 y22 y23 y10))
theorem zP' {zz f} {P:Prop} (h:v41 zz f=true) (k:∀y py ee tg iter ifs a tg2 iter2 ifs2 a2 scope w1 w2,zz=.Assign ((.Name y py) :: []) (.SetComp ee (⟨tg,iter,ifs,a⟩ :: (⟨tg2,iter2,ifs2,a2⟩ :: [])) scope w1) w2->f y py ee tg iter ifs a tg2 iter2 ifs2 a2 scope=true->P):P:=by
 obtain⟨y1,y2,y3,e0,h⟩:=ce' h
 obtain⟨y4,y5,e1,h⟩:=ai' h
 obtain⟨y6,y7,e2,h⟩:=aC' h
 obtain⟨e3,h⟩:=an' h
 obtain⟨y8,y9,y10,y11,e4,h⟩:=gr' h
 obtain⟨y12,y13,e5,h⟩:=ai' h
 obtain⟨y14,y15,y16,y17,e6,h⟩:=bU' h
 obtain⟨y18,y19,e7,h⟩:=ai' h
 obtain⟨y20,y21,y22,y23,e8,h⟩:=bU' h
 obtain⟨e9,h⟩:=an' h
 exact k y6 y7 y8 y14 y15 y16 y17 y20 y21 y22 y23 y10 y11 y3 (by rw[e0,e1,e2,e3,e4,e5,e6,e7,e8,e9]) h
def v42 (zz:Stmt) (f:Str->Pos->Expr->Expr->Expr->Expr->List Expr->Int->Scope->Bool):Bool:=c0' zz fun y1 y2 y3=>ay' y1 fun y4 y5=>bs' y4 fun y6 y7=>aX' y5 (fg' y2 fun y8 y9 y10 y11 y12=>ay' y10 fun y13 y14=>fD' y13 fun y15 y16 y17 y18=>aX' y14 (f y6 y7 y8 y9 y15 y16 y17 y18 y11))
theorem zQ' {zz f} {P:Prop} (h:v42 zz f=true) (k:∀y py ke ve tg iter ifs a scope w1 w2,zz=.Assign ((.Name y py) :: []) (.DictComp ke ve (⟨tg,iter,ifs,a⟩ :: []) scope w1) w2->f y py ke ve tg iter ifs a scope=true->P):P:=by
 obtain⟨y1,y2,y3,e0,h⟩:=ce' h
 obtain⟨y4,y5,e1,h⟩:=ai' h
 obtain⟨y6,y7,e2,h⟩:=aC' h
 obtain⟨e3,h⟩:=an' h
 obtain⟨y8,y9,y10,y11,y12,e4,h⟩:=fE' h
 obtain⟨y13,y14,e5,h⟩:=ai' h
 obtain⟨y15,y16,y17,y18,e6,h⟩:=bU' h
 obtain⟨e7,h⟩:=an' h
 exact k y6 y7 y8 y9 y15 y16 y17 y18 y11 y12 y3 (by rw[e0,e1,e2,e3,e4,e5,e6,e7]) h
def v43 (zz:Stmt) (f:Str->Pos->Str->Pos->Expr->Expr->Bool):Bool:=c0' zz fun y1 y2 y3=>ay' y1 fun y4 y5=>eJ' y4 fun y6 y7 y8=>ay' y6 fun y9 y10=>bs' y9 fun y11 y12=>ay' y10 fun y13 y14=>bs' y13 fun y15 y16=>aX' y14 (aX' y5 (eJ' y2 fun y17 y18 y19=>ay' y17 fun y20 y21=>ay' y21 fun y22 y23=>aX' y23 (f y11 y12 y15 y16 y20 y22)))
theorem zR' {zz f} {P:Prop} (h:v43 zz f=true) (k:∀x px y py w1 w2 ea eb w3 w4 w5,zz=.Assign ((.Tuple ((.Name x px) :: ((.Name y py) :: [])) w1 w2) :: []) (.Tuple (ea :: (eb :: [])) w3 w4) w5->f x px y py ea eb=true->P):P:=by
 obtain⟨y1,y2,y3,e0,h⟩:=ce' h
 obtain⟨y4,y5,e1,h⟩:=ai' h
 obtain⟨y6,y7,y8,e2,h⟩:=ds' h
 obtain⟨y9,y10,e3,h⟩:=ai' h
 obtain⟨y11,y12,e4,h⟩:=aC' h
 obtain⟨y13,y14,e5,h⟩:=ai' h
 obtain⟨y15,y16,e6,h⟩:=aC' h
 obtain⟨e7,h⟩:=an' h
 obtain⟨e8,h⟩:=an' h
 obtain⟨y17,y18,y19,e9,h⟩:=ds' h
 obtain⟨y20,y21,e10,h⟩:=ai' h
 obtain⟨y22,y23,e11,h⟩:=ai' h
 obtain⟨e12,h⟩:=an' h
 exact k y11 y12 y15 y16 y7 y8 y20 y22 y18 y19 y3 (by rw[e0,e1,e2,e3,e4,e5,e6,e7,e8,e9,e10,e11,e12]) h
def v45 (zz:Stmt) (f:Str->Bool):Bool:=jL' zz fun y1 y2 y3=>fP' y1 fun y4=>cn' y4 fun y5 y6 y7 y8=>bs' y5 fun y9 y10=>ay' y6 fun y11 y12=>bH' y11 fun y13 y14 y15=>m9' y13 fun y16=>aX' y12 (aX' y7 (jH' y2 (f y9)))
theorem zS' {zz f} {P:Prop} (h:v45 zz f=true) (k:∀x w1 w2 w3 w4 w5 w6,zz=.Raise (some (.Call (.Name x w1) ((.Constant (.str w2) w3 w4) :: []) [] w5)) none w6->f x=true->P):P:=by
 obtain⟨y1,y2,y3,e0,h⟩:=iZ' h
 obtain⟨y4,e1,h⟩:=cV' h
 obtain⟨y5,y6,y7,y8,e2,h⟩:=bc' h
 obtain⟨y9,y10,e3,h⟩:=aC' h
 obtain⟨y11,y12,e4,h⟩:=ai' h
 obtain⟨y13,y14,y15,e5,h⟩:=bj' h
 obtain⟨y16,e6,h⟩:=hK' h
 obtain⟨e7,h⟩:=an' h
 obtain⟨e8,h⟩:=an' h
 obtain⟨e9,h⟩:=ff' h
 exact k y9 y10 y16 y14 y15 y8 y3 (by rw[e0,e1,e2,e3,e4,e5,e6,e7,e8,e9]) h
def v46 (zz:Stmt) (f:List Stmt->Str->Str->Stmt->List Stmt->Bool):Bool:=qO' zz fun y1 y2 y3 y4 y5=>ay' y2 fun y6 y7=>cR' y6 fun y8 y9 y10 y11=>fP' y8 fun y12=>bs' y12 fun y13 y14=>fP' y9 fun y15=>ay' y10 fun y16 y17=>aX' y7 (aX' y3 (aX' y4 (f y1 y13 y15 y16 y17)))
theorem zT' {zz f} {P:Prop} (h:v46 zz f=true) (k:∀ss x w1 n t ts w2 w3,zz=.Try ss ((.ExceptHandler (some (.Name x w1)) (some n) (t :: ts) w2) :: []) [] [] w3->f ss x n t ts=true->P):P:=by
 obtain⟨y1,y2,y3,y4,y5,e0,h⟩:=ne' h
 obtain⟨y6,y7,e1,h⟩:=ai' h
 obtain⟨y8,y9,y10,y11,e2,h⟩:=dt' h
 obtain⟨y12,e3,h⟩:=cV' h
 obtain⟨y13,y14,e4,h⟩:=aC' h
 obtain⟨y15,e5,h⟩:=cV' h
 obtain⟨y16,y17,e6,h⟩:=ai' h
 obtain⟨e7,h⟩:=an' h
 obtain⟨e8,h⟩:=an' h
 obtain⟨e9,h⟩:=an' h
 exact k y1 y13 y14 y15 y16 y17 y11 y5 (by rw[e0,e1,e2,e3,e4,e5,e6,e7,e8,e9]) h
def v49 (zz:Stmt) (f:Str->Operator->Expr->Bool):Bool:=en' zz fun y1 y2 y3 y4=>bs' y1 fun y5 y6=>f y5 y2 y3
theorem zU' {zz f} {P:Prop} (h:v49 zz f=true) (k:∀x w1 op ee w2,zz=.AugAssign (.Name x w1) op ee w2->f x op ee=true->P):P:=by
 obtain⟨y1,y2,y3,y4,e0,h⟩:=fh' h
 obtain⟨y5,y6,e1,h⟩:=aC' h
 exact k y5 y6 y2 y3 y4 (by rw[e0,e1]) h
def v50 (zz:Stmt) (f:Expr->List Stmt->List Stmt->Bool):Bool:=wh' zz fun y1 y2 y3 y4=>f y1 y2 y3
theorem zV' {zz f} {P:Prop} (h:v50 zz f=true) (k:∀x ss rs w1,zz=.If x ss rs w1->f x ss rs=true->P):P:=by
 obtain⟨y1,y2,y3,y4,e0,h⟩:=pp' h
 exact k y1 y2 y3 y4 (by rw[e0]) h
def v51 (zz:Stmt) (f:Expr->List Stmt->Bool):Bool:=jM' zz fun y1 y2 y3 y4=>aX' y3 (f y1 y2)
theorem zW' {zz f} {P:Prop} (h:v51 zz f=true) (k:∀x ss w1,zz=.While x ss [] w1->f x ss=true->P):P:=by
 obtain⟨y1,y2,y3,y4,e0,h⟩:=i0' h
 obtain⟨e1,h⟩:=an' h
 exact k y1 y2 y4 (by rw[e0,e1]) h
def v52 (zz:Stmt) (f:Expr->Expr->List Stmt->Bool):Bool:=qP' zz fun y1 y2 y3 y4 y5=>aX' y4 (f y1 y2 y3)
theorem zX' {zz f} {P:Prop} (h:v52 zz f=true) (k:∀tg iter ss w1,zz=.For tg iter ss [] w1->f tg iter ss=true->P):P:=by
 obtain⟨y1,y2,y3,y4,y5,e0,h⟩:=nf' h
 obtain⟨e1,h⟩:=an' h
 exact k y1 y2 y3 y5 (by rw[e0,e1]) h
def v56 (zz:List Stmt) (f:Bool):Bool:=aX' zz (f)
theorem zY' {zz f} {P:Prop} (h:v56 zz f=true) (k:zz=[]->f=true->P):P:=by
 obtain⟨e0,h⟩:=an' h
 exact k (by rw[e0]) h
def v57 (zz:List Stmt) (f:Stmt->List Stmt->Bool):Bool:=ay' zz fun y1 y2=>f y1 y2
theorem zZ' {zz f} {P:Prop} (h:v57 zz f=true) (k:∀x xs,zz=(x :: xs)->f x xs=true->P):P:=by
 obtain⟨y1,y2,e0,h⟩:=ai' h
 exact k y1 y2 (by rw[e0]) h
mutual
def mE (N B:List Str) (sc:Scope):Ce->Expr->Bool
 | .var i,e=>v1 e fun x=>em' N i x&&vis sc x
 | .int n,e=>v2 e fun m=>decide (n=m)
 | .bl b,e=>v3 e fun c=>decide (b=c)
 | .non,e=>v4 e (true)
 | .str x,e=>v5 e fun y=>decide (x=y)
 | .ty n,e=>v1 e fun x=>decide (x=Str.ofString n)&&glb sc x&&hH'.contains n&&decide (x∈B)
 | .bin op a b,e=>v6 e fun ea op' eb=>decide (op=op')&&mE N B sc a ea&&mE N B sc b eb
 | .neg a,e=>v7 e fun ea=>mE N B sc a ea
 | .not a,e=>v8 e fun ea=>mE N B sc a ea
 | .and a b,e=>zy' e fun x y=>mE N B sc a x&&mE N B sc b y
 | .or a b,e=>vOr e fun x y=>mE N B sc a x&&mE N B sc b y
 | .cmp op a b,e=>v9 e fun ea op' eb=>decide (op=op')&&mE N B sc a ea&&mE N B sc b eb&&bg' eb
 | .ife q a b,e=>v11 e fun eq ea eb=>mQ N B sc q eq&&mE N B sc a ea&&mE N B sc b eb
 | .tup es,e=>v12 e fun xs=>mA N B sc es xs
 | .lst es,e=>v13 e fun xs=>mA N B sc es xs
 | .idx a b,e=>v14 e fun ea eb=>mE N B sc a ea&&mE N B sc b eb&&eI' eb
 | .cut a lo hi,e=>v15 e fun ea l h=>mE N B sc a ea&&mO N B sc lo l&&mO N B sc hi h
 | .call f es,e=>v16 e fun x e r=>decide (x=f)&&glb sc x&&mA N B sc es (e :: r)&&!(x == ("__debug__":Str))&&!(hat B)&&!(tld B&&decide (m4' x∈B))
 | .blt f es,e=>v16 e fun x e r=>decide (x=fe' f)&&glb sc x&&mA N B sc es (e :: r)&&decide (x∈B)&&(!(hat B) || decide (f=.isinstance))
 | .met m o es,e=>v17 e fun eo nm apos args pos=>decide (nm=m1' m)&&mE N B sc o eo&&m2' eo&&(apos.endLine == pos.line)&&mA N B sc es args&&decide (args.length<28)
 | .din neg a b,e=>v9 e fun ea op' eb=>decide (op'=if neg then .NotIn else .In)&&mE N B sc a ea&&mE N B sc b eb&&bg' eb
 | .dgt a b,e=>v20 e fun eo nm apos y pos=>decide (nm="get")&&mE N B sc a eo&&m2' eo&&(apos.endLine == pos.line)&&mE N B sc b y&&az' y
 | .szp a b,e=>v84 e fun n1 n2 y y2=>decide (n1="sorted")&&decide (n2="zip")&&glb sc n1&&decide (n1∈B)&&glb sc n2&&decide (n2∈B)&&mE N B sc a y&&az' y&&mE N B sc b y2&&az' y2&&!(hat B)
 | .cls c,e=>v1 e fun x=>decide (x=c)&&glb sc x&&!(x == ("__debug__":Str))
 | .comp elt own t it q .nil,e=>v26 e fun ee tg iter ifs a scope=>!(hat B)&&lm' N sc scope own&&mE N ("~" :: B) scope elt ee&&gp' own t&&decide (a=0)&&mI N B sc it iter&&hI' it tg&&bg' iter&&mT N ("~" :: B) scope t tg&&mQo N ("~" :: B) scope q ifs
 | .comp elt own t it q (.cons ws t2 it2 q2 .nil),e=>v27 e fun ee tg iter ifs a tg2 iter2 ifs2 a2 scope=>!(hat B)&&lm' N sc scope own&&mE N ("~" :: B) scope elt ee&&gp' own t&&decide (a=0)&&mI N B sc it iter&&hI' it tg&&bg' iter&&mT N ("~" :: B) scope t tg&&mQo N ("~" :: B) scope q ifs&&
    decide (a2=0)&&mI N ("~" :: B) scope it2 iter2&&hI' it2 tg2&&bg' iter2&&mT N ("~" :: B) scope t2 tg2&&mQo N ("~" :: B) scope q2 ifs2&&gp' ws t2&&ws.all (fun j=>decide (j∈own))
 | .comp elt own t it q (.cons ws t2 it2 q2 (.cons ws3 t3 it3 q3 .nil)),e=>v28 e fun ee tg iter ifs a tg2 iter2 ifs2 a2 tg3 iter3 ifs3 a3 scope=>!(hat B)&&lm' N sc scope own&&mE N ("~" :: B) scope elt ee&&gp' own t&&decide (a=0)&&mI N B sc it iter&&hI' it tg&&bg' iter&&mT N ("~" :: B) scope t tg&&mQo N ("~" :: B) scope q ifs&&
    decide (a2=0)&&mI N ("~" :: B) scope it2 iter2&&hI' it2 tg2&&bg' iter2&&mT N ("~" :: B) scope t2 tg2&&mQo N ("~" :: B) scope q2 ifs2&&gp' ws t2&&ws.all (fun j=>decide (j∈own))&&
    decide (a3=0)&&mI N ("~" :: B) scope it3 iter3&&hI' it3 tg3&&bg' iter3&&mT N ("~" :: B) scope t3 tg3&&mQo N ("~" :: B) scope q3 ifs3&&gp' ws3 t3&&ws3.all (fun j=>decide (j∈ws))
 | .comp _ _ _ _ _ (.cons _ _ _ _ (.cons _ _ _ _ (.cons _ _ _ _ _))),_=>false
def mA (N B:List Str) (sc:Scope):Ces->List Expr->Bool
 | .nil,es=>v29 es (true)
 | .cons e r,es=>v30 es fun x xs=>mE N B sc e x&&az' x&&mA N B sc r xs
def mQ (N B:List Str) (sc:Scope):Cq->Expr->Bool
 | .val e,x=>mE N B sc e x&&qK' x
 | .not q,x=>v8 x fun y=>mQ N B sc q y
 | .and a b,e=>zy' e fun x y=>mQ N B sc a x&&mQ N B sc b y
 | .or a b,e=>vOr e fun x y=>mQ N B sc a x&&mQ N B sc b y
 | .cmp op a b,e=>v9 e fun ea op' eb=>decide (op=op')&&mE N B sc a ea&&mE N B sc b eb&&bg' eb
 | .din neg a b,e=>v9 e fun ea op' eb=>decide (op'=if neg then .NotIn else .In)&&mE N B sc a ea&&mE N B sc b eb&&bg' eb
def mQo (N B:List Str) (sc:Scope):Cqo->List Expr->Bool
 | .none,es=>v29 es (true)
 | .some q,es=>v31 es fun e=>mQ N B sc q e
def mO (N B:List Str) (sc:Scope):Co->Option Expr->Bool
 | .none,x=>v32 x (true)
 | .some e,x=>v33 x fun y=>mE N B sc e y
def mI (N B:List Str) (sc:Scope):Ci->Expr->Bool
 | .val e,x=>mE N B sc e x
 | .range1 a,x=>v23 x fun n y=>decide (n="range")&&glb sc n&&decide (n∈B)&&mE N B sc a y&&az' y
 | .range2 a b,x=>v34 x fun n y z=>decide (n="range")&&glb sc n&&decide (n∈B)&&mE N B sc a y&&az' y&&mE N B sc b z&&az' z
 | .zip a b,x=>v34 x fun n y z=>decide (n="zip")&&glb sc n&&decide (n∈B)&&mE N B sc a y&&az' y&&mE N B sc b z&&az' z
 | .enum a,x=>v23 x fun n y=>decide (n="enumerate")&&glb sc n&&decide (n∈B)&&mE N B sc a y&&az' y
 | .range3 a b c,x=>v35 x fun n y z u=>decide (n="range")&&glb sc n&&decide (n∈B)&&mE N B sc a y&&az' y&&mE N B sc b z&&az' z&&mE N B sc c u&&az' u
 | .rev a,x=>v23 x fun n y=>decide (n="reversed")&&glb sc n&&decide (n∈B)&&mE N B sc a y&&az' y
def mT (N B:List Str) (sc:Scope):Ct->Expr->Bool
 | .name i,e=>v1 e fun x=>em' N i x&&locb sc x
 | .tup ts,e=>v12 e fun es=>mTs N B sc ts es&&!(hat B)
 | .sub o i,e=>v14 e fun eo ei=>mE N B sc o eo&&mE N B sc i ei&&eI' ei
def mTs (N B:List Str) (sc:Scope):Cts->List Expr->Bool
 | .nil,es=>v29 es (true)
 | .cons t r,es=>v30 es fun x xs=>mT N B sc t x&&az' x&&mTs N B sc r xs
end
def i1':Ce->Bool
 |_=>false
mutual
def mS (N B:List Str) (sc:Scope):Cs->Stmt->Bool
 | .expr e,s=>v36 s fun x=>mE N B sc e x&&(match e with | .comp ..=>false|_=>true)&&!i1' e
 | .ret e,s=>v37 s fun x=>mE N B sc e x
 | .asg t e,s=>v39 s fun tg x=>mE N B sc e x&&!i1' e&&mT N B sc t tg&&az' tg&&(match tg,x with
   | .Tuple ..,.Tuple vs _ _=>vs.all (foldedForSure 8)
   | .Tuple ..,.ListComp ..=>false
   |_,_=>true)
 | .setc2 i elt own t it q ws t2 it2 q2,s=>v41 s fun y py ee tg iter ifs a tg2 iter2 ifs2 a2 scope=>!(hat B)&&mT N B sc (.name i) (.Name y py)&&lm' N sc scope own&&mE N ("~" :: B) scope elt ee&&gp' own t&&decide (a=0)&&mI N B sc it iter&&hI' it tg&&bg' iter&&mT N ("~" :: B) scope t tg&&mQo N ("~" :: B) scope q ifs&&
    decide (a2=0)&&mI N ("~" :: B) scope it2 iter2&&hI' it2 tg2&&bg' iter2&&mT N ("~" :: B) scope t2 tg2&&mQo N ("~" :: B) scope q2 ifs2&&gp' ws t2&&ws.all (fun j=>decide (j∈own))
 | .dctc _ i k v own t it q,s=>v42 s fun y py ke ve tg iter ifs a scope=>!(hat B)&&mT N B sc (.name i) (.Name y py)&&lm' N sc scope own&&mE N ("~" :: B) scope k ke&&mE N ("~" :: B) scope v ve&&gp' own t&&decide (a=0)&&mI N B sc it iter&&hI' it tg&&bg' iter&&mT N ("~" :: B) scope t tg&&mQo N ("~" :: B) scope q ifs
 | .par i j a b,s=>v43 s fun x px y py ea eb=>em' N i x&&em' N j y&&decide (i≠j)&&decide (sc.names.lookup x=some .local)&&decide (sc.names.lookup y=some .local)&&
    mE N B sc a ea&&mE N B sc b eb&&az' ea&&az' eb&&(px.line == py.line)&&(!(foldedForSure 8 ea&&foldedForSure 8 eb))&&(!(constantsAlone 8 ea&&constantsAlone 8 eb))&&!(hat B)
 | .raise_,s=>match s with
  | .Raise ..=>true
  |_=>false
 | .rse nm,s=>v45 s fun x=>decide (x=nm)&&glb sc x&&!(x == ("__debug__":Str))&&!(tld B)&&!(pct B)
 | .try_ b c i su,s=>v46 s fun ss x n t ts=>decide (x=c)&&glb sc x&&!(x == ("__debug__":Str))&&em' N i n&&decide (sc.names.lookup n=some .local)&&!(tld B)&&!(hat B)&&mSs N ("%" :: B) sc b ss&&mSs N ("~" :: "^" :: B) sc su (t :: ts)
 | .aug i sub e,s=>v49 s fun x op ee=>em' N i x&&locb sc x&&mE N B sc e ee&&decide (op=if sub then .Sub else .Add)
 | .ite q a b,s=>v50 s fun x ss rs=>mQ N B sc q x&&mSs N B sc a ss&&mSs N B sc b rs
 | .whl q b,s=>v51 s fun x ss=>mQ N B sc q x&&mSs N B sc b ss
 | .for_ t it b,s=>v52 s fun tg iter ss=>mI N B sc it iter&&hI' it tg&&bg' iter&&mT N B sc t tg&&mSs N B sc b ss&&!(hat B)
def mSs (N B:List Str) (sc:Scope):Css->List Stmt->Bool
 | .nil,ss=>v56 ss (true)
 | .cons s r,ss=>v57 ss fun x xs=>mS N B sc s x&&mSs N B sc r xs
end
def tc' (CX:CXT) (X:Cx) (xk:L2.St->XK):Prop:=∀(p_:List (Addr×Obj)) (σ:L2.St) (H:Hp) (s:Shared) (e:Value) (s':Shared),Inv X p_ σ H s->CX X.stack H s (xk σ) e s'->X.xe e s'
theorem jN' {X:Cx} {xk:L2.St->XK}:tc' CX0 X xk:=fun _ _ _ _ _ _ _ h=>h.elim
structure Rok (C:Rc) (B:List Str) (X:Cx) (sc:Scope):Prop where
 hN:X.N=C.N
 nd:C.N.Nodup
 hK:X.K=C.K
 own:PassesOwn (model X.prog X.w) X.A X.env X.xe
 calm:hat B=false->X.calm=true
 hu:X.A.units+64<cLine
 gd:X.A.guards=some []
 loc:∀x,sc.names.lookup x=some .local->X.env.scope.names.lookup x=some .local
 cel:∀x,sc.names.lookup x=some .cell->X.env.scope.names.lookup x=some .cell/\X.fn x=true
 fre:∀x,sc.names.lookup x=some .free->X.env.scope.names.lookup x=some .cell\/X.env.scope.names.lookup x=some .free
 glo:∀x,sc.names.lookup x=some .globalImplicit->X.env.kindOf x=some .globalImplicit
 fn:∀x sp,C.fs x=some sp->hat B=false->(tld B=true->m4' x∉B)->∃f fd ps k CX,FnOk X.prog X.w X.K X.mg X.base CX k f fd ps sp/\Room k X.A/\X.mg x=some (.ref f)/\W.keepIn X.K (.ref f)=true/\et' X.K fd ps []/\(CX=CX0\/CX=CX1 X.prog X.w X.mg/\m4' x∈B)/\tc' CX X C.xk
 blt:∀x∈B,X.mg x=none
 mrk:X.mg "~"=none/\X.mg "^"=none/\X.mg "%"=none
 cls:∀c Ca,C.cl c=some Ca->X.mg c=some (.ref Ca)/\W.nsIn X.K mainGlobals c=some (some (.ref Ca))
 fx:tld B=false->FnCx X
 nohat:tld B=false->hat B=false
 xr:tld B=false->pct B=false->∀nm Ca p_ σ H s e t,C.cl nm=some Ca->Inv X p_ σ H s->H e=none->X.s₀.heap.get? e=none->(∀p∈X.pn++p_,p.1≠e)->s.heap.get? e=some { cls:=.ref Ca,data:=.fields #[.ref t,.none,.none,.none,.bool false,.none] }->C.xk σ (.str nm 0) none H->X.xe (.ref e) s
theorem Rok.hu1 {C:Rc} {B:List Str} {X:Cx} {sc:Scope} (R:Rok C B X sc):X.A.units+1<cLine:=by have:=R.hu;omega
section
variable {C:Rc} {B:List Str} {X:Cx} {sc:Scope}
set_option tactic.hygienic true in
theorem Rok.vis (R:Rok C B X sc) {x:Str} (h:R3.vis sc x=true):Vis X.env.scope x:=by
 unfold R3.vis at h
 split at h
 .rename_i e;exact .inl (R.loc x e)
 .rename_i e;exact .inr (.inl (R.cel x e).1)
 .rename_i e
  rcases R.fre x e with q|q
  .exact .inr (.inl q)
  .exact .inr (.inr q)
 .cases h
set_option tactic.hygienic true in
theorem Rok.locb (R:Rok C B X sc) {x:Str} (h:R3.locb sc x=true):Loc X.env.scope x/\(X.fn x=true\/X.env.scope.names.lookup x=some .local):=by
 unfold R3.locb at h
 split at h
 .rename_i e;exact⟨.inl (R.loc x e),.inr (R.loc x e)⟩
 .rename_i e;exact⟨.inr (R.cel x e).1,.inl (R.cel x e).2⟩
 .cases h
theorem Rok.glb (R:Rok C B X sc) {x:Str} (h:R3.glb sc x=true):Gl X x:=R.glo x (of_decide_eq_true h)
theorem bz' {N:List Str} {i:Nat} {x:Str} (h:em' N i x=true):N[i]?=some x/\(x == ("__debug__":Str))=false/\(x == ("__classdict__":Str))=false:=by
 unfold em' at h
 simp only[ag,decide_eq_true_eq,aO]at h
 exact⟨h.1.1,h.1.2,h.2⟩
theorem aj' {e:Expr} {es:List Expr} {env:Env} (h:az' e=true):starEach (e :: es) env=(false,eval e env) :: starEach es env:=by
 cases e<;>first|rfl|cases h
theorem gs' {N B:List Str} {sc:Scope} {env:Env} {pos:Pos}:∀{es:Ces} {xs:List Expr},mA N B sc es xs=true->(backTo pos (starEach xs env)).any (·.1)=false
 | .nil,xs,h=>by
  refine ng' h fun e0 g=>?_
  clear h
  subst e0
  revert g
  intro h
  rfl
 | .cons e r,xs,h=>by
  refine pq' h fun x xs e0 g=>?_
  clear h
  subst e0
  revert g
  intro h
  simp only[ag]at h
  rw[aj' h.1.2]
  have ih:=gs' (env:=env) (pos:=pos) (es:=r) h.2
  exact ih
theorem a5' {e:Expr} {env:Env} (h:bg' e=true) (x:Value):foldedSetIterable e env x=pure x:=by
 cases e<;>first|rfl|cases h
theorem df' {op:CmpOp} {e:Expr} (h:bg' e=true):behindInMarks op e=false:=by
 cases e<;>first|rfl|cases h
theorem pr' {e:Expr} (h:eI' e=true):lM' e:=by
 intro o i
 cases e<;>first|rfl|cases h
theorem i2' {e:Expr} {f:Str} {env:Env} {w:Sem Value} (h:m2' e=true):attributeBase e f env w=w:=by
 cases e with
 |Call g args kw pos=>
  cases args with
  |nil=>cases h
  |cons a r=>cases g<;>rfl
 |_=>rfl
theorem nh' {e:Expr} {env:Env} (h:qK' e=true) (w:Sem Value):isTrue e env w=(do let v <- w;standAt e.pos;holding [v] (truthy v)):=by
 cases e with
 |UnaryOp op a p=>cases op<;>first|rfl|cases h
 |_=>first|rfl|cases h
theorem OpR.imp {f:Value->Value->Sem Value} {r r':R2} (h:OpR X f r) (i:∀x y H Q,r' x y H Q->r x y H Q):OpR X f r':=fun p_ s σ H x y v u Q I rx ry q=>h p_ s σ H x y v u Q I rx ry (i _ _ _ _ q)
theorem a4'.imp {f:Value} {r r':List V->Hp->VK->Prop} (h:a4' X f r) (i:∀xs H Q,r' xs H Q->r xs H Q):a4' X f r':=fun p_ s σ H xs us Q I rv q=>h p_ s σ H xs us Q I rv (i _ _ _ q)
theorem ixM:IxR X (pm' X.K):=by
 intro value slice p_ s σ H x y v u Q I rx ry q hp
 refine vl' value slice p_ s σ H x y v u Q I rx ry ?_ hp
 unfold pm' at q
 split at q
 .obtain⟨z,c,hc,q⟩:=q
  exact .inr (.inr ⟨_,_,c,rfl,rfl,z,hc,q⟩)
 .rcases q with q|q
  .exact .inl q
  .exact .inr (.inl q)
theorem wm' {CX:CXT} {k:Nat} {f:Addr} {fd:FuncData} {ps:List Str} {sp:Sp} {dvs:List V} {ds:List Value} {E:XK} {p_:List (Addr×Obj)} {σ:L2.St} {H:Hp} {s:Shared} {Q:VK} {us:List Value} {vs:List V} (F:FnOk X.prog X.w X.K X.mg X.base CX k f fd ps sp) (hr:Room k X.A) (hb:et' X.K fd ps ds) (hd:aQ' dvs ds)
  (hx:∀e s',CX X.stack H s E e s'->X.xe e s') (I:Inv X p_ σ H s) (r:aQ' vs us) (h:sp (vs++dvs) H Q E):wpAny (model X.prog X.w) X.A (call (.ref f) us) (EP X p_ σ Q) X.xe s:=by
 have r2:=r.append hd
 have hl:(us++ds).length=ps.length:=r2.length ▸ F.len _ _ _ _ h
 have go:=F.run X.A X.stack s H ⟨us,[]⟩ (us++ds) (vs++dvs) Q E hr I.env0 (hb s us I.kIn hl) r2 h
 refine wpAny_call (codeAny_mono go fun r s' hq=>?_)
 match r,hq with
 | .error e,hq=>exact hx e s' hq
 | .ok (.ret u),hq=>exact I.after hq
theorem pt' {CX:CXT} {k:Nat} {f:Addr} {fd:FuncData} {ps:List Str} {sp:Sp} {dvs:List V} {ds:List Value} {xk:L2.St->XK} {x:Str} {p pos:Pos} {e:Expr} {es:List Expr} {t:TA} (F:FnOk X.prog X.w X.K X.mg X.base CX k f fd ps sp) (hr:Room k X.A) (hg:Gl X x) (hm:X.mg x=some (.ref f)) (hk:W.keepIn X.K (.ref f)=true) (hb:et' X.K fd ps ds) (hd:aQ' dvs ds) (hx:tc' CX X xk)
  (ha:PA X (e :: es) t) (hdb:(x == ("__debug__":Str))=false) (he:starEach (e :: es) X.env=(false,eval e X.env) :: starEach es X.env) (hpl:(backTo pos (starEach es X.env)).any (·.1)=false):
  PE X (.Call (.Name x p) (e :: es) [] pos) (fun σ H Q=>oN' sp dvs (xk σ) t σ H Q):=by
 intro p_ s σ H Q I h
 refine wpAny_Call_Name_kw (f3' I hg hm ?_ hdb)
 exact W.callWith_K (h₀:=X.base) I.ok.mod.kin hk (thn (ha pos p_ s σ H _ I h) fun us s1 ⟨vs,H1,I1,r,q⟩=>⟨I1.kIn,wm' F hr hb hd (fun e s' c=>hx p_ σ H1 s1 e s' I1 c) I1 r q⟩) he hpl
theorem td' {a:Int} (h:a.natAbs<2 ^ 250*2 ^ 250*2 ^ 250):(Builtin.Int.intBits a:Int)<=750:=by
 rw[<- Nat.pow_add,<- Nat.pow_add]at h
 unfold Builtin.Int.intBits
 by_cases h0:a.natAbs=0
 .rw[if_pos (by simpa using h0)];decide
 .rw[if_neg (by simpa using h0)]
  have:=(Nat.log2_lt h0).mpr h
  omega
theorem te' {X:Cx}:OpR X (binaryOp .LShift) (rI A1' fun i j=>.int (i*2 ^ j.toNat)):=opI fun _ _ _ _ _ _ _ hc q=>lshift_int hc.1 (by have:=td' hc.2.2;have:=hc.2.1;omega) q
theorem wn' (op:Operator):OpR X (binaryOp op) (fC' X.K op):=by
 cases op with
 |Add=>
  refine OpR.imp ((u2'.or kB').or (vo'.or (sC'.or o6'))) fun x y H Q q=>?_
  unfold fC' at q
  dsimp only at q
  split at q
  .exact .inl (.inl ⟨_,_,rfl,rfl,q⟩)
  .exact .inl (.inr ⟨_,_,rfl,rfl,q.1,q.2⟩)
  .exact .inr q
 |Sub=>exact u3'
 |Mult=>
  refine OpR.imp (sP'.or (kK'.or vp')) fun x y H Q q=>?_
  unfold fC' at q
  dsimp only at q
  split at q
  .refine .inl ⟨_,_,rfl,rfl,?_,q.2⟩
   rcases q.1 with h|h|h
   .exact yo'.ok (.inl h)
   .exact yo'.ok (.inr h)
   .exact h
  .exact .inr (.inl ⟨_,_,rfl,rfl,q.1,q.2.1,q.2.2.1,q.2.2.2⟩)
  .exact .inr (.inr q)
 |Mod=>exact u4'
 |FloorDiv=>
  refine OpR.imp (so'.or o3') fun x y H Q q=>?_
  obtain⟨i,j,h1,h2,⟨h3,h4⟩,q⟩:=q
  rcases h4 with h4|h4
  .exact .inl ⟨i,j,h1,h2,⟨h3,h4⟩,q⟩
  .exact .inr ⟨i,j,h1,h2,⟨h3,h4⟩,q⟩
 |Pow=>exact u5'
 |LShift=>exact te'
 |RShift=>exact u6'
 |MatMult=>exact fun _ _ _ _ _ _ _ _ _ _ _ _ h=>h.elim
 |Div=>exact fun _ _ _ _ _ _ _ _ _ _ _ _ h=>h.elim
 |BitOr=>exact fun _ _ _ _ _ _ _ _ _ _ _ _ h=>h.elim
 |BitXor=>exact fun _ _ _ _ _ _ _ _ _ _ _ _ h=>h.elim
 |BitAnd=>exact sT'
theorem qQ' (hu':X.A.units+64<cLine) (op:CmpOp):OpR X (compareOp op) (dS' X.K op):=by
 cases op with
 |Eq=>
  refine OpR.imp (y3'.or ((vA' ⋯).or (vO' hu'))) fun x y H Q q=>?_
  unfold dS' at q
  dsimp only at q
  split at q
  .exact .inr q
  .exact .inl q
 |NotEq=>
  refine OpR.imp (y4'.or ((vB' ⋯).or (vP' hu'))) fun x y H Q q=>?_
  unfold dS' at q
  dsimp only at q
  split at q
  .exact .inr q
  .exact .inl q
 |Lt=>exact y5'
 |LtE=>exact y6'
 |Gt=>
  refine OpR.imp (y7'.or vK') fun x y H Q q=>?_
  unfold dS' at q
  dsimp only at q
  split at q
  .exact .inr q
  .exact .inl q
 |GtE=>exact y8'
 |Is=>
  refine OpR.imp (va'.or vD') fun x y H Q q=>?_
  unfold dS' at q
  dsimp only at q
  split at q
  .exact .inr q
  .exact .inl q
 |IsNot=>
  refine OpR.imp (sq'.or mf') fun x y H Q q=>?_
  unfold dS' at q
  dsimp only at q
  split at q
  .exact .inr q
  .exact .inl q
 |In=>
  refine OpR.imp (vJ'.or lN') fun x y H Q q=>?_
  unfold dS' at q
  dsimp only at q
  split at q
  .exact .inl q
  .exact .inr q
 |NotIn=>
  refine OpR.imp (mm'.or gX') fun x y H Q q=>?_
  unfold dS' at q
  dsimp only at q
  split at q
  .exact .inl q
  .exact .inr q
theorem z0':SlR X (rSl X.K):=by
 intro p_ s σ H x v vl vu lo hi sl Q I rx hs pl pu q
 refine(sE'.or (vh'.or (o8'.or vz'))) p_ s σ H x v vl vu lo hi sl Q I rx hs pl pu ?_
 unfold rSl at q
 split at q
 .exact .inr (.inr (.inr ⟨_,rfl,q.1,q.2⟩))
 .rcases q with q|q|q
  .exact .inl q
  .exact .inr (.inl q)
  .exact .inr (.inr (.inl q))
inductive BltIs:Bf->Prop where
 |fn (f:Bf) (id:String) (hv:bootBuiltins (fe' f)=some (.builtin id)) (h:∀X:Cx,(X.calm=true\/f=.isinstance)->a4' X (.builtin id) (di' X.K f)):BltIs f
 |ty (f:Bf) (T:String) (hv:bootBuiltins (fe' f)=some (.type T)) (h:∀X:Cx,(X.calm=true\/f=.isinstance)->a4' X (.type T) (di' X.K f)):BltIs f
theorem wo' (f:Bf):BltIs f:=by
 cases f with
 |len=>exact .fn _ "len" ⋯ fun X _=>oM'
 |abs=>exact .fn _ "abs" ⋯ fun X _=>oL'
 |int=>
  refine .ty _ "int" ⋯ fun X _=>a4'.imp mq' fun xs H Q q=>?_
  unfold di' at q
  dsimp only at q
  split at q
  .exact .inl (.inl (.inl ⟨_,rfl,q⟩))
  .exact .inl (.inl (.inr ⟨_,rfl,q⟩))
  .obtain⟨n,h1,h2,q⟩:=q
   exact .inl (.inr ⟨_,n,rfl,h1,h2,q⟩)
  .obtain⟨rfl,n,h1,q⟩:=q
   exact .inr ⟨_,n,rfl,h1,q⟩
  .exact q.elim
 |str=>exact .ty _ "str" ⋯ fun X _=>gP'
 |set=>exact .ty _ "set" ⋯ fun X c0=>have c:X.calm=true:=c0.resolve_right (fun z=>by cases z);mT' c
 |sorted=>exact .fn _ "sorted" ⋯ fun X _=>kN'
 |isinstance=>exact .fn _ "isinstance" ⋯ fun X _=>oZ'.or pi'
 |all=>exact .fn _ "all" ⋯ fun X c0=>have c:X.calm=true:=c0.resolve_right (fun z=>by cases z);l9' c
 |max=>
  refine .fn _ "max" ⋯ fun X c0=>have c:X.calm=true:=c0.resolve_right (fun z=>by cases z);a4'.imp ((lD' c).or (ma' c)) fun xs H Q q=>?_
  unfold di' at q
  dsimp only at q
  split at q
  .exact .inl ⟨_,_,rfl,q⟩
  .exact .inr q
 |min=>
  refine .fn _ "min" ⋯ fun X c0=>have c:X.calm=true:=c0.resolve_right (fun z=>by cases z);a4'.imp ((lE' c).or (mb' c)) fun xs H Q q=>?_
  unfold di' at q
  dsimp only at q
  split at q
  .exact .inl ⟨_,_,rfl,q⟩
  .exact .inr q
 |list=>exact .ty _ "list" ⋯ fun X c0=>have c:X.calm=true:=c0.resolve_right (fun z=>by cases z);gY'.or (o2' c)
 |range=>exact .ty _ "range" ⋯ fun X _=>o1'
 |tuple=>exact .ty _ "tuple" ⋯ fun X _=>f6'
structure MetIs (m:Mf) (id:String):Prop where
 pa:PlainAttrs (hG' m)
 slot:Slot (hG' m) (m1' m) id
 ty:typeOf (.builtin id)=pure (.type "method_descriptor")
 h:∀X:Cx,MtR X id (ll' X.K m)
theorem wp' (m:Mf):∃id,MetIs m id:=by
 cases m with
 |append=>exact⟨_,F.plainAttrs_list,F.slot_list_append,F.type_list_append,fun _=>lP'⟩
 |extend=>exact⟨_,F.plainAttrs_list,F.slot_list_extend,F.type_list_extend,fun _=>lR'⟩
 |join=>exact⟨_,F.plainAttrs_str,F.slot_str_join,F.type_str_join,fun _=>sO'⟩
 |insert=>exact⟨_,F.plainAttrs_list,F.slot_list_insert,F.type_list_insert,fun _=>md'⟩
 |bitlen=>exact⟨_,F.plainAttrs_int,F.slot_int_bit_length,F.type_int_bit_length,fun _=>mo'⟩
end
theorem du' {N:List Str} {sc scope:Scope} {own:List Nat} (h:lm' N sc scope own=true):scope.kind=.function/\(∀x∈scope.names,x.2=.local->scope.names.lookup x.1=some .local)/\(∀n,(n,NameKind.cell)∈scope.names->scope.names.lookup n=some .cell)/\
  (∀n,(n,NameKind.free)∈scope.names->sc.names.lookup n=some .cell\/sc.names.lookup n=some .free)/\∀(i:Nat) (x:Str),N[i]?=some x->(scope.names.lookup x=some .local\/scope.names.lookup x=some .cell)->i∈own:=by
 unfold lm' at h
 simp only[ag,decide_eq_true_eq,bI,Bool.or_eq_true]at h
 obtain⟨⟨hk,hn⟩,ho⟩:=h
 refine⟨hk,fun x hx e=>?_,fun n hn'=>?_,fun n hn'=>?_,fun i x e hx=>?_⟩
 .exact(hn x hx).1.1.resolve_left fun q=>q e
 .exact(hn _ hn').1.2.resolve_left fun q=>q rfl
 .rcases(hn _ hn').2 with(q|q)|q
  .exact absurd rfl q
  .exact .inl q
  .exact .inr q
 .have:=ho i (aU.mpr (aH.mp e).1)
  rw[e]at this
  simp only[Bool.or_eq_true,ag,decide_eq_true_eq]at this
  rcases this with⟨q1,q2⟩|q
  .rcases hx with z|z
   .exact absurd z q1
   .exact absurd z q2
  .exact q
theorem Rok.compSc {C:Rc} {B:List Str} {X:Cx} {sc scope:Scope} {own:List Nat} (R:Rok C B X sc) (h:lm' C.N sc scope own=true):CompSc X scope:=by
 obtain⟨h1,h2,h3,h4,h5⟩:=du' h
 refine⟨h1,h2,h3,fun n hn=>?_⟩
 rcases h4 n hn with q|q
 .exact .inl (R.cel n q).1
 .exact R.fre n q
theorem dU' {B:List Str}:tld ("~" :: B)=true:=decide_eq_true (ax)
theorem Rok.comp {C:Rc} {B:List Str} {X:Cx} {sc scope:Scope} {own:List Nat} (R:Rok C B X sc) (hh:hat B=false) (h:lm' C.N sc scope own=true) (s0:Shared) (H0:Hp) (ex:List Addr):Rok C ("~" :: B) (X.comp scope s0 H0 ex) scope:=by
 refine⟨R.hN,R.nd,R.hK,PassesOwn.never,fun _=>R.calm hh,R.hu,R.gd,fun x e=>lookup_relabel_local e,fun x e=>⟨?_,?_⟩,fun x e=>?_,fun x e=>?_,fun x sp e _ ht=>?_,fun x hx=>?_,R.mrk,R.cls,(fun z=>by rw[dU']at z;cases z),(fun z=>by rw[dU']at z;cases z),(fun z=>by rw[dU']at z;cases z)⟩
 .obtain⟨k',e1,e2⟩:=bw' (env:=X.env) e
  rcases e2 with rfl|⟨q,_⟩
  .exact e1
  .cases q
 .exact W.cellsFrom_some _ _ _ (.inl e)
 .obtain⟨k',e1,e2⟩:=bw' (env:=X.env) e
  rcases e2 with rfl|⟨_,rfl⟩
  .exact .inr e1
  .exact .inl e1
 .obtain⟨k',e1,e2⟩:=bw' (env:=X.env) e
  rcases e2 with rfl|⟨q,_⟩
  .exact e1
  .cases q
 .have hb:m4' x∉B:=fun z=>ht dU' (au _ z)
  obtain⟨f,fd,ps,k,CX,h1,h2,h3,h4,h5,h6,_⟩:=R.fn x sp e hh fun _=>hb
  rcases h6 with rfl|⟨_,z⟩
  .exact⟨f,fd,ps,k,CX0,h1,h2,h3,h4,h5,.inl rfl,jN'⟩
  .exact absurd z hb
 .rcases al.mp hx with rfl|hx
  .exact R.mrk.1
  .exact R.blt x hx
mutual
theorem jO' (C:Rc) (own:List Nat):∀(t:Ct),gp' own t=true->∀(x:V) (σ:L2.St) (H:Hp) (Q Q':L2.St->Hp->Prop),tG C t x σ H Q->(∀σ2 H2,Q σ2 H2->Ext own σ σ2->Q' σ2 H2)->tG C t x σ H Q'
 | .name i,h,x,σ,H,Q,Q',q,m=>by
  obtain⟨q1,q2⟩:=lV' (of_decide_eq_true (show decide (i∈own)=true from h)) x σ H Q q
  exact m _ _ q1 q2
 | .tup ts,h,x,σ,H,Q,Q',q,m=>by
  replace h:m3' own ts=true:=h
  obtain⟨a,xs,e,hs,hl,q⟩:=q
  exact⟨a,xs,e,hs,hl,hN' C own ts h xs σ H Q Q' q m⟩
 | .sub _ _,h,_,_,_,_,_,_,_=>au' h
theorem hN' (C:Rc) (own:List Nat):∀(ts:Cts),m3' own ts=true->∀(xs:List V) (σ:L2.St) (H:Hp) (Q Q':L2.St->Hp->Prop),tGs C ts xs σ H Q->(∀σ2 H2,Q σ2 H2->Ext own σ σ2->Q' σ2 H2)->tGs C ts xs σ H Q'
 | .nil,h,xs,σ,H,Q,Q',q,m=>by
  replace q:xs=[]/\Q σ H:=q
  exact And.intro q.1 (m _ _ q.2 Ext.refl)
 | .cons t r,h,xs,σ,H,Q,Q',q,m=>by
  replace h:=hJ' (show(gp' own t&&m3' own r)=true from h)
  replace q:∃v vr,xs=v :: vr/\tG C t v σ H fun σ' H'=>tGs C r vr σ' H' Q:=q
  obtain⟨v,vr,e,q⟩:=q
  show ∃v vr,xs=v :: vr/\tG C t v σ H fun σ' H'=>tGs C r vr σ' H' Q'
  exact⟨v,vr,e,jO' C own t h.1 v σ H _ _ q fun σ2 H2 q2 x2=>hN' C own r h.2 vr σ2 H2 _ _ q2 fun σ3 H3 q3 x3=>m _ _ q3 (x2.trans x3)⟩
end
theorem cp' {C:Rc} {own:List Nat} {t:Ct} (h:gp' own t=true):uE' own (tG C t):=fun x σ H Q q=>jO' C own t h x σ H Q _ q fun _ _ q x=>⟨q,x⟩
theorem dv':∀{ts:Cts} {es:List Expr} {N B:List Str} {sc:Scope} {env:Env},mTs N B sc ts es=true->(assignEach es env).length=po' ts/\(assignEach es env).findIdx? (·.1)=none
 | .nil,es,N,B,sc,env,h=>by
  refine ng' h fun e0 g=>?_
  clear h
  subst e0
  revert g
  intro h
  exact⟨rfl,rfl⟩
 | .cons t r,es,N,B,sc,env,h=>by
  refine pq' h fun x xs e0 g=>?_
  clear h
  subst e0
  revert g
  intro h
  simp only[ag]at h
  obtain⟨h1,h2⟩:=dv' (env:=env) h.2
  have e:assignEach (x :: xs) env=(false,assign x env) :: assignEach xs env:=by
   have hs:=h.1.2
   cases x<;>first|rfl|cases hs
  rw[e]
  refine⟨by rw[aQ,h1];rfl,?_⟩
  rw[List.findIdx?_cons,h2]
  rfl
theorem i3' {x:Expr} {xs:List Expr} {env:Env} (hs:az' x=true):(assignEach (x :: xs) env).map (·.2)=assign x env :: (assignEach xs env).map (·.2):=by
 cases x<;>first|rfl|cases hs
theorem tf' {o i:Expr} {pos:Pos} {env:Env} (h:eI' i=true) (v:Value):assign (.Subscript o i pos) env v=(do
   let ov <- holding [v] (eval o env)
   let iv <- holding [v,ov] (eval i env)
   standAt pos
   holding [v,ov,iv] (setItem ov iv v)
   release [v,ov,iv] []):=by
 cases i<;>first|rfl|cases h
def pu' (C:Rc) (X:Cx) (e:Expr):Ce->Prop
 | .comp elt own t it q r=>∃tg iter ifs nx scope pos,CompIn X e scope tg iter ifs nx (tG C t) (tQo C q) (tR C r (e5' (tE C elt))) own/\PI X tg iter (tI C it)/\
   eval e X.env=comprehension e scope X.env pos (newList []) false (eval iter X.env)/\(∀u,evalThenUse e X.env u=(do let _ <- comprehension e scope X.env pos (newList []) false (eval iter X.env) (some u)))/\
   ∀y py line,∃b,swapsWith e (some (.Name y py)) line X.env=pure b
 |_=>True
theorem pv' (P w it D env ee tg iter ifs tg2 iter2 ifs2 scope pos):(model P w).den (.compLoop (.ListComp ee [⟨tg,iter,ifs,0⟩,⟨tg2,iter2,ifs2,0⟩] scope pos) 0 it (.ref D) env)=(ba' (.ListComp ee [⟨tg,iter,ifs,0⟩,⟨tg2,iter2,ifs2,0⟩] scope pos) 0 tg iter ifs (a0' (.ListComp ee [⟨tg,iter,ifs,0⟩,⟨tg2,iter2,ifs2,0⟩] scope pos) 0 iter2 (.ref D) env) it (.ref D) env).onRaise (fun x=>do noteFrame x env;theTreesLotGoes x):=by
 show(compTurn _ _ _ _ _).onRaise _=_
 congr 1
 unfold ba' a0'
 simp only[bind_assoc,pure_bind]
 rfl
def wq' (ke ve:Expr) (D:Addr) (env:Env):Sem Unit:=do
 let kv <- eval ke env
 let vv <- holding [kv] (eval ve env)
 match Value.ref D with
 | .ref d=>do
  standAt { ke.pos with endLine:=ve.pos.endLine,endCol:=ve.pos.endCol }
  holding [kv,vv] (dictSet d kv vv)
 |_=>unsupported "internal:dictcomp"
theorem BQ' {N B:List Str} {sc:Scope} {elt:Ce} {own:List Nat} {t:Ct} {it:Ci} {q:Cqo} {e:Expr} (h:mE N B sc (.comp elt own t it q .nil) e=true):∃ee tg iter ifs scope pos,e=.ListComp ee [⟨tg,iter,ifs,0⟩] scope pos/\
  hat B=false/\lm' N sc scope own=true/\mE N ("~" :: B) scope elt ee=true/\gp' own t=true/\mI N B sc it iter=true/\hI' it tg=true/\bg' iter=true/\mT N ("~" :: B) scope t tg=true/\mQo N ("~" :: B) scope q ifs=true:=by
 refine zF' h fun ee tg iter ifs a scope w1 e0 g=>?_
 clear h
 subst e0
 revert g
 intro h
 simp only[ag,decide_eq_true_eq,aO]at h
 obtain⟨⟨⟨⟨⟨⟨⟨⟨⟨hh,hsc⟩,helt⟩,hown⟩,rfl⟩,h1⟩,h2⟩,h3⟩,h4⟩,h5⟩:=h
 exact⟨_,_,_,_,_,_,rfl,hh,hsc,helt,hown,h1,h2,h3,h4,h5⟩
theorem BR' {N B:List Str} {sc:Scope} {elt:Ce} {own:List Nat} {t:Ct} {it:Ci} {q:Cqo} {ws:List Nat} {t2:Ct} {it2:Ci} {q2:Cqo} {e:Expr} (h:mE N B sc (.comp elt own t it q (.cons ws t2 it2 q2 .nil)) e=true):
  ∃ee tg iter ifs tg2 iter2 ifs2 scope pos,e=.ListComp ee [⟨tg,iter,ifs,0⟩,⟨tg2,iter2,ifs2,0⟩] scope pos/\
  hat B=false/\lm' N sc scope own=true/\mE N ("~" :: B) scope elt ee=true/\gp' own t=true/\mI N B sc it iter=true/\hI' it tg=true/\bg' iter=true/\mT N ("~" :: B) scope t tg=true/\mQo N ("~" :: B) scope q ifs=true/\
  mI N ("~" :: B) scope it2 iter2=true/\hI' it2 tg2=true/\bg' iter2=true/\mT N ("~" :: B) scope t2 tg2=true/\mQo N ("~" :: B) scope q2 ifs2=true/\gp' ws t2=true/\∀j∈ws,j∈own:=by
 refine zG' h fun ee tg iter ifs a tg2 iter2 ifs2 a2 scope w1 e0 g=>?_
 clear h
 subst e0
 revert g
 intro h
 simp only[ag,decide_eq_true_eq,bI,aO]at h
 obtain⟨⟨⟨⟨⟨⟨⟨⟨⟨⟨⟨⟨⟨⟨⟨⟨⟨hh,hsc⟩,helt⟩,hown⟩,rfl⟩,h1⟩,h2⟩,h3⟩,h4⟩,h5⟩,rfl⟩,g1⟩,g2⟩,g3⟩,g4⟩,g5⟩,g6⟩,g7⟩:=h
 exact⟨_,_,_,_,_,_,_,_,_,rfl,hh,hsc,helt,hown,h1,h2,h3,h4,h5,g1,g2,g3,g4,g5,g6,g7⟩
theorem ni' (P w it D env ee tg iter ifs tg2 iter2 ifs2 tg3 iter3 ifs3 scope pos):(model P w).den (.compLoop (.ListComp ee [⟨tg,iter,ifs,0⟩,⟨tg2,iter2,ifs2,0⟩,⟨tg3,iter3,ifs3,0⟩] scope pos) 0 it (.ref D) env)=(ba' (.ListComp ee [⟨tg,iter,ifs,0⟩,⟨tg2,iter2,ifs2,0⟩,⟨tg3,iter3,ifs3,0⟩] scope pos) 0 tg iter ifs (a0' (.ListComp ee [⟨tg,iter,ifs,0⟩,⟨tg2,iter2,ifs2,0⟩,⟨tg3,iter3,ifs3,0⟩] scope pos) 0 iter2 (.ref D) env) it (.ref D) env).onRaise (fun x=>do noteFrame x env;theTreesLotGoes x):=by
 show(compTurn _ _ _ _ _).onRaise _=_
 congr 1
 unfold ba' a0'
 simp only[bind_assoc,pure_bind]
 rfl
theorem k1' (P w it D env ee tg iter ifs tg2 iter2 ifs2 tg3 iter3 ifs3 scope pos):(model P w).den (.compLoop (.ListComp ee [⟨tg,iter,ifs,0⟩,⟨tg2,iter2,ifs2,0⟩,⟨tg3,iter3,ifs3,0⟩] scope pos) 1 it (.ref D) env)=(ba' (.ListComp ee [⟨tg,iter,ifs,0⟩,⟨tg2,iter2,ifs2,0⟩,⟨tg3,iter3,ifs3,0⟩] scope pos) 1 tg2 iter2 ifs2 (a0' (.ListComp ee [⟨tg,iter,ifs,0⟩,⟨tg2,iter2,ifs2,0⟩,⟨tg3,iter3,ifs3,0⟩] scope pos) 1 iter3 (.ref D) env) it (.ref D) env).onRaise (fun x=>do noteFrame x env;theTreesLotGoes x):=by
 show(compTurn _ _ _ _ _).onRaise _=_
 congr 1
 unfold ba' a0'
 simp only[bind_assoc,pure_bind]
 rfl
theorem BS' {N B:List Str} {sc:Scope} {elt:Ce} {own:List Nat} {t:Ct} {it:Ci} {q:Cqo} {ws:List Nat} {t2:Ct} {it2:Ci} {q2:Cqo} {ws3:List Nat} {t3:Ct} {it3:Ci} {q3:Cqo} {e:Expr} (h:mE N B sc (.comp elt own t it q (.cons ws t2 it2 q2 (.cons ws3 t3 it3 q3 .nil))) e=true):
  ∃ee tg iter ifs tg2 iter2 ifs2 tg3 iter3 ifs3 scope pos,e=.ListComp ee [⟨tg,iter,ifs,0⟩,⟨tg2,iter2,ifs2,0⟩,⟨tg3,iter3,ifs3,0⟩] scope pos/\
  hat B=false/\lm' N sc scope own=true/\mE N ("~" :: B) scope elt ee=true/\gp' own t=true/\mI N B sc it iter=true/\hI' it tg=true/\bg' iter=true/\mT N ("~" :: B) scope t tg=true/\mQo N ("~" :: B) scope q ifs=true/\
  (mI N ("~" :: B) scope it2 iter2=true/\hI' it2 tg2=true/\bg' iter2=true/\mT N ("~" :: B) scope t2 tg2=true/\mQo N ("~" :: B) scope q2 ifs2=true/\gp' ws t2=true/\∀j∈ws,j∈own)/\
  mI N ("~" :: B) scope it3 iter3=true/\hI' it3 tg3=true/\bg' iter3=true/\mT N ("~" :: B) scope t3 tg3=true/\mQo N ("~" :: B) scope q3 ifs3=true/\gp' ws3 t3=true/\∀j∈ws3,j∈ws:=by
 refine zH' h fun ee tg iter ifs a tg2 iter2 ifs2 a2 tg3 iter3 ifs3 a3 scope w1 e0 g=>?_
 clear h
 subst e0
 revert g
 intro h
 simp only[ag,decide_eq_true_eq,bI,aO]at h
 obtain⟨⟨⟨⟨⟨⟨⟨⟨⟨⟨⟨⟨⟨⟨⟨⟨⟨⟨⟨⟨⟨⟨⟨⟨⟨hh,hsc⟩,helt⟩,hown⟩,rfl⟩,h1⟩,h2⟩,h3⟩,h4⟩,h5⟩,rfl⟩,g1⟩,g2⟩,g3⟩,g4⟩,g5⟩,g6⟩,g7⟩,rfl⟩,k1⟩,k2⟩,k3⟩,k4⟩,k5⟩,k6⟩,k7⟩:=h
 exact⟨_,_,_,_,_,_,_,_,_,_,_,_,rfl,hh,hsc,helt,hown,h1,h2,h3,h4,h5,⟨g1,g2,g3,g4,g5,g6,g7⟩,k1,k2,k3,k4,k5,k6,k7⟩
theorem BT' {N B:List Str} {sc:Scope} {elt:Ce} {own:List Nat} {t:Ct} {it:Ci} {q:Cqo} {ws:List Nat} {t2:Ct} {it2:Ci} {q2:Cqo} {ws3:List Nat} {t3:Ct} {it3:Ci} {q3:Cqo} {ws4:List Nat} {t4:Ct} {it4:Ci} {q4:Cqo} {r4:Cc} {e:Expr} (h:mE N B sc (.comp elt own t it q (.cons ws t2 it2 q2 (.cons ws3 t3 it3 q3 (.cons ws4 t4 it4 q4 r4)))) e=true):False:=by
 exact au' h
set_option maxHeartbeats 4000000
theorem nj' (P w it D env ee tg iter ifs tg2 iter2 ifs2 scope pos):(model P w).den (.compLoop (.SetComp ee [⟨tg,iter,ifs,0⟩,⟨tg2,iter2,ifs2,0⟩] scope pos) 0 it (.ref D) env)=(ba' (.SetComp ee [⟨tg,iter,ifs,0⟩,⟨tg2,iter2,ifs2,0⟩] scope pos) 0 tg iter ifs (a0' (.SetComp ee [⟨tg,iter,ifs,0⟩,⟨tg2,iter2,ifs2,0⟩] scope pos) 0 iter2 (.ref D) env) it (.ref D) env).onRaise (fun x=>do noteFrame x env;theTreesLotGoes x):=by
 show(compTurn _ _ _ _ _).onRaise _=_
 congr 1
 unfold ba' a0'
 simp only[bind_assoc,pure_bind]
 rfl
mutual
theorem sE0 {C:Rc}:∀(c:Ce) {B:List Str} {X:Cx} {sc:Scope} {e:Expr},Rok C B X sc->mE C.N B sc c e=true->PE X e (tE C c)/\pu' C X e c
 | .var i,B,X,sc,e,R,h=>by
  refine⟨?_,trivial⟩
  refine yE' h fun x w1 e0 g=>?_
  clear h
  subst e0
  revert g
  intro h
  simp only[ag]at h
  obtain⟨h1,h2,h3⟩:=bz' h.1
  rw[show tE C (.var i)=(yl' i) from rfl]
  exact qo' (by rw[R.hN];exact h1) (R.vis h.2) h2 h3
 | .int n,B,X,sc,e,R,h=>by
  refine⟨?_,trivial⟩
  refine BK' h fun m w1 w2 e0 g=>?_
  clear h
  subst e0
  revert g
  intro h
  cases of_decide_eq_true h
  rw[show tE C (.int n)=(tC (.int n)) from rfl]
  exact uM'
 | .bl n,B,X,sc,e,R,h=>by
  refine⟨?_,trivial⟩
  refine BL' h fun c w1 w2 e0 g=>?_
  clear h
  subst e0
  revert g
  intro h
  cases of_decide_eq_true h
  rw[show tE C (.bl n)=(tC (.bl n)) from rfl]
  exact yM'
 | .non,B,X,sc,e,R,h=>by
  refine⟨?_,trivial⟩
  refine BM' h fun w1 w2 e0 g=>?_
  clear h
  subst e0
  revert g
  intro h
  rw[show tE C .non=(tC .non) from rfl]
  exact uN'
 | .str n,B,X,sc,e,R,h=>by
  refine⟨?_,trivial⟩
  refine BN' h fun y w1 w2 e0 g=>?_
  clear h
  subst e0
  revert g
  intro h
  cases of_decide_eq_true h
  rw[show tE C (.str n)=(tC (.str n)) from rfl]
  exact uO'
 | .ty n,B,X,sc,e,R,h=>by
  refine⟨?_,trivial⟩
  refine yE' h fun x w1 e0 g=>?_
  clear h
  subst e0
  revert g
  intro h
  simp only[ag,decide_eq_true_eq]at h
  obtain⟨⟨⟨rfl,h2⟩,h3⟩,h4⟩:=h
  rw[show tE C (.ty n)=(tC (.ty n)) from rfl]
  have hb:bootBuiltins (Str.ofString n)=some (.type n)/\Str.ofString n≠"__name__"/\(Str.ofString n == ("__debug__":Str))=false:=by
   simp only[hH',List.contains_iff_mem,al,ap,or_false]at h3
   rcases h3 with rfl|rfl|rfl|rfl|rfl|rfl|rfl<;>decide +kernel
  exact sa' (v:=.ty n) (R.glb h2) (R.blt _ h4) hb.1 rfl hb.2.1 hb.2.2
 | .bin op a b,B,X,sc,e,R,h=>by
  refine⟨?_,trivial⟩
  refine BO' h fun ea op' eb w1 e0 g=>?_
  clear h
  subst e0
  revert g
  intro h
  simp only[ag,decide_eq_true_eq]at h
  obtain⟨⟨rfl,h1⟩,h2⟩:=h
  rw[show tE C (.bin op a b)=(tOp (fC' C.K op) (tE C a) (tE C b)) from rfl]
  rw[<- R.hK]
  exact yZ' (wn' _) ((sE0 a R h1).1) ((sE0 b R h2).1)
 | .neg a,B,X,sc,e,R,h=>by
  refine⟨?_,trivial⟩
  refine BP' h fun ea w1 e0 g=>?_
  clear h
  subst e0
  revert g
  intro h
  rw[show tE C (.neg a)=(tUn (rU fun i=>.int (-i)) (tE C a)) from rfl]
  exact y0' u8' ((sE0 a R h).1)
 | .not a,B,X,sc,e,R,h=>by
  refine⟨?_,trivial⟩
  refine A2' h fun ea w1 e0 g=>?_
  clear h
  subst e0
  revert g
  intro h
  rw[show tE C (.not a)=(sc' (tE C a)) from rfl]
  exact uU' ((sE0 a R h).1)
 | .and a b,B,X,sc,e,R,h=>by
  refine⟨?_,trivial⟩
  replace h:=m5' h
  rcases h with⟨x,y,pos,rfl,h⟩|⟨x,y,z,r,pos,rfl,h⟩
  .simp only[ag]at h
   rw[show tE C (.and a b)=(oD' (tE C a) (tE C b)) from rfl]
   exact qt' ((sE0 a R h.1).1) (qs' ((sE0 b R h.2).1))
  .simp only[ag]at h
   rw[show tE C (.and a b)=(oD' (tE C a) (tE C b)) from rfl]
   exact qt' ((sE0 a R h.1).1) ((sE0 b R h.2).1)
 | .or a b,B,X,sc,e,R,h=>by
  refine⟨?_,trivial⟩
  replace h:=qL' h
  rcases h with⟨x,y,pos,rfl,h⟩|⟨x,y,z,r,pos,rfl,h⟩
  .simp only[ag]at h
   rw[show tE C (.or a b)=(ym' (tE C a) (tE C b)) from rfl]
   exact uT' ((sE0 a R h.1).1) (qs' ((sE0 b R h.2).1))
  .simp only[ag]at h
   rw[show tE C (.or a b)=(ym' (tE C a) (tE C b)) from rfl]
   exact uT' ((sE0 a R h.1).1) ((sE0 b R h.2).1)
 | .cmp op a b,B,X,sc,e,R,h=>by
  refine⟨?_,trivial⟩
  refine yF' h fun ea op' eb w1 e0 g=>?_
  clear h
  subst e0
  revert g
  intro h
  simp only[ag,decide_eq_true_eq]at h
  obtain⟨⟨⟨rfl,h1⟩,h2⟩,h3⟩:=h
  rw[show tE C (.cmp op a b)=(tOp (dS' C.K op) (tE C a) (tE C b)) from rfl]
  rw[<- R.hK]
  exact sr' (qQ' R.hu _) ((sE0 a R h1).1) ((sE0 b R h2).1) (df' h3)
 | .ife q a b,B,X,sc,e,R,h=>by
  refine⟨?_,trivial⟩
  refine zz' h fun eq ea eb w1 e0 g=>?_
  clear h
  subst e0
  revert g
  intro h
  simp only[ag]at h
  rw[show tE C (.ife q a b)=(tIf (tQ C q) (tE C a) (tE C b)) from rfl]
  exact oE' (sQ q R h.1.1).1 ((sE0 a R h.1.2).1) ((sE0 b R h.2).1)
 | .tup es,B,X,sc,e,R,h=>by
  refine⟨?_,trivial⟩
  refine wi' h fun xs w1 w2 e0 g=>?_
  clear h
  subst e0
  revert g
  intro h
  rw[show tE C (.tup es)=(y9' (tA C es)) from rfl]
  exact vd' (sA es R h)
 | .lst es,B,X,sc,e,R,h=>by
  refine⟨?_,trivial⟩
  refine zA' h fun xs w1 e0 g=>?_
  clear h
  subst e0
  revert g
  intro h
  rw[show tE C (.lst es)=(za' (tA C es)) from rfl]
  exact ve' (sA es R h)
 | .idx a b,B,X,sc,e,R,h=>by
  refine⟨?_,trivial⟩
  refine wj' h fun ea eb w1 e0 g=>?_
  clear h
  subst e0
  revert g
  intro h
  simp only[ag]at h
  rw[show tE C (.idx a b)=(tOp (pm' C.K) (tE C a) (tE C b)) from rfl]
  rw[<- R.hK]
  exact zb' ixM ((sE0 a R h.1.1).1) ((sE0 b R h.1.2).1) (pr' h.2)
 | .cut a lo hi,B,X,sc,e,R,h=>by
  refine⟨?_,trivial⟩
  refine zB' h fun ea l h_ w1 w2 e0 g=>?_
  clear h
  subst e0
  revert g
  intro h
  simp only[ag]at h
  rw[show tE C (.cut a lo hi)=(tSl (rSl C.K) (tE C a) (tO C lo) (tO C hi)) from rfl]
  rw[<- R.hK]
  exact oR' z0' ((sE0 a R h.1.1).1) (sO lo R h.1.2) (sO hi R h.2)
 | .call f es,B,X,sc,e,R,h=>by
  refine⟨?_,trivial⟩
  refine wk' h fun x w1 e r pos e0 g=>?_
  clear h
  subst e0
  revert g
  intro h
  simp only[ag,decide_eq_true_eq,aO]at h
  obtain⟨⟨⟨⟨⟨rfl,h1⟩,h2⟩,h3⟩,hh⟩,h6⟩:=h
  rw[show tE C (.call x es)=(fun σ H Q=>match C.fs x with|some sp=>oN' sp [] (C.xk σ) (tA C es) σ H Q|none=>False) from rfl]
  have ht:tld B=true->m4' x∉B:=fun t m=>by rw[t,decide_eq_true m]at h6;cases h6
  cases hf:C.fs x with
  |none=>exact fun _ _ _ _ _ _ q=>q.elim
  |some sp=>
   obtain⟨f,fd,ps,k,CX,F,hr,hm,hk,hb,_,hx⟩:=R.fn x sp hf hh ht
   have hs:az' e=true:=by
    cases es with
    |nil=>exact au' h2
    |cons c r=>exact(hJ' (hJ' h2).1).2
   have hp:(backTo pos (starEach r X.env)).any (·.1)=false:=by
    have q:=gs' (env:=X.env) (pos:=pos) h2
    rw[aj' hs]at q
    exact q
   exact pt' F hr (R.glb h1) hm hk hb .nil hx (sA es R h2) h3 (aj' hs) hp
 | .blt f es,B,X,sc,e,R,h=>by
  refine⟨?_,trivial⟩
  refine wk' h fun x w1 e r pos e0 g=>?_
  clear h
  subst e0
  revert g
  intro h
  simp only[ag,decide_eq_true_eq,Bool.or_eq_true,aO]at h
  obtain⟨⟨⟨⟨rfl,h1⟩,h2⟩,h4⟩,h5⟩:=h
  have hcc:X.calm=true\/f=.isinstance:=h5.imp R.calm id
  rw[show tE C (.blt f es)=(tCB (di' C.K f) (tA C es)) from rfl]
  have hs:az' e=true:=by
   cases es with
   |nil=>exact au' h2
   |cons c r=>exact(hJ' (hJ' h2).1).2
  have hp:(backTo pos (starEach r X.env)).any (·.1)=false:=by
   have q:=gs' (env:=X.env) (pos:=pos) h2
   rw[aj' hs]at q
   exact q
  rw[<- R.hK]
  have hn:fe' f≠"__name__"/\(fe' f == ("__debug__":Str))=false:=by cases f<;>decide +kernel
  cases wo' f with
  |fn id hv hc=>exact oO' (hc X hcc) (R.glb h1) (R.blt _ h4) hv (sA es R h2) hn.1 hn.2 (aj' hs) hp
  |ty T hv hc=>exact lJ' (hc X hcc) (R.glb h1) (R.blt _ h4) hv (sA es R h2) hn.1 hn.2 (aj' hs) hp
 | .din neg a b,B,X,sc,e,R,h=>by
  refine⟨?_,trivial⟩
  refine yF' h fun ea op' eb w1 e0 g=>?_
  clear h
  subst e0
  revert g
  intro h
  simp only[ag,decide_eq_true_eq]at h
  obtain⟨⟨⟨rfl,h1⟩,h2⟩,h3⟩:=h
  rw[show tE C (.din neg a b)=(pn' neg (tE C a) (tE C b)) from rfl]
  cases neg with
  |true=>exact qp' (hF' R.hu1 (sE0 a R h1).1 (sE0 b R h2).1) (df' h3)
  |false=>exact qp' (qJ' R.hu1 (sE0 a R h1).1 (sE0 b R h2).1) (df' h3)
 | .dgt a b,B,X,sc,e,R,h=>by
  refine⟨?_,trivial⟩
  refine zD' h fun eo nm apos y pos e0 g=>?_
  clear h
  subst e0
  revert g
  intro h
  simp only[ag,decide_eq_true_eq]at h
  obtain⟨⟨⟨⟨⟨rfl,h1⟩,h2⟩,h3⟩,h4⟩,h5⟩:=h
  rw[show tE C (.dgt a b)=(m0' (tE C a) (tE C b)) from rfl]
  have e2:=aj' (env:=X.env) (es:=[]) h5
  refine pl' R.hu1 (sE0 a R h1).1 (sE0 b R h4).1 ⟨i2' h2,?_,h3,?_⟩
  .rw[e2];rfl
  .rw[e2];rfl
 | .met m o es,B,X,sc,e,R,h=>by
  refine⟨?_,trivial⟩
  refine zC' h fun eo nm apos args pos e0 g=>?_
  clear h
  subst e0
  revert g
  intro h
  simp only[ag,decide_eq_true_eq]at h
  obtain⟨⟨⟨⟨⟨rfl,h1⟩,h2⟩,h3⟩,h4⟩,h5⟩:=h
  rw[show tE C (.met m o es)=(tBM C.K (hG' m) (ll' C.K m) (tE C o) (tA C es)) from rfl]
  rw[<- R.hK]
  obtain⟨id,M⟩:=wp' m
  cases args with
  |nil=>
   cases es with
   |cons c r=>exact au' h4
   |nil=>
    exact vn' M.pa M.slot M.ty (M.h X) ((sE0 o R h1).1) (i2' h2) h3
  |cons a r=>
   have hs:az' a=true:=by
    cases es with
    |nil=>exact au' h4
    |cons c r=>exact(hJ' (hJ' h4).1).2
   have hq:=gs' (env:=X.env) (pos:=pos) h4
   have hp:(backTo pos (starEach r X.env)).any (·.1)=false:=by
    rw[aj' hs]at hq
    exact hq
   refine zc' M.pa M.slot M.ty (M.h X) ((sE0 o R h1).1) (sA es R h4) (i2' h2) ?_ h3 (aj' hs) hp
   have e1:(backTo pos (starEach (a :: r) X.env)).all (fun x=>!x.1)=true:=by
    rw[bI]
    intro x hx
    rw[List.any_eq_false]at hq
    simpa using hq x hx
   rw[e1]
   show(true&&true&&decide ((a :: r).length+0+0<30))=true
   simp only[Bool.true_and,decide_eq_true_eq]
   omega
 | .szp a b,B,X,sc,e,R,h=>by
  refine⟨?_,trivial⟩
  refine zE' h fun n1 w1 n2 w2 y y' w3 w4 e0 g=>?_
  clear h
  subst e0
  revert g
  intro h
  simp only[ag,decide_eq_true_eq,aO]at h
  obtain⟨⟨⟨⟨⟨⟨⟨⟨⟨⟨rfl,rfl⟩,h1⟩,h2⟩,h3⟩,h4⟩,h5⟩,h6⟩,h7⟩,h8⟩,h9⟩:=h
  rw[show tE C (.szp a b)=(zr' C.K (bh' (tE C a) (bh' (tE C b) fy'))) from rfl]
  rw[<- R.hK]
  have e2:starEach [_] X.env=[(false,eval _ X.env)]:=aj' (es:=[]) h8
  exact vZ' (R.calm h9) (R.glb h1) (R.blt _ h2) (R.glb h3) (R.blt _ h4) (bq' (sE0 a R h5).1 (bq' (sE0 b R h7).1 dJ' (aj' h8)) (aj' h6)) (by rw[aj' h6,e2]) e2
 | .cls c,B,X,sc,e,R,h=>by
  refine⟨?_,trivial⟩
  refine yE' h fun x w1 e0 g=>?_
  clear h
  subst e0
  revert g
  intro h
  simp only[ag,decide_eq_true_eq,aO]at h
  obtain⟨⟨rfl,h1⟩,h2⟩:=h
  rw[show tE C (.cls x)=(fun _ H Q=>∃Ca,C.cl x=some Ca/\Q (.ref Ca) H) from rfl]
  intro p_ s σ H Q I ⟨Ca,hc,q⟩
  exact f3' I (R.glb h1) (R.cls _ _ hc).1 ⟨.ref Ca,H,I,rfl,q⟩ h2
 | .comp elt own t it q .nil,B,X,sc,e,R,h=>by
  have D:pu' C X e (.comp elt own t it q .nil):=by
   obtain⟨ee,tg,iter,ifs,scope,pos,rfl,hh,hsc,helt,hown,h1,h2,h3,h4,h5⟩:=BQ' h
   refine⟨tg,iter,ifs,fun D env=>do let _ <- call (.builtin "list.append") [.ref D,<- eval ee env],scope,_,⟨R.compSc hsc,?_,⟨[],rfl⟩,a5' h3,R.calm hh,fun _ _ _=>⟨rfl,rfl⟩,fun _ _ _ _=>⟨rfl,rfl⟩,fun _ _ _ _ _=>rfl,fun _ _ _ _ _=>rfl,cp' hown,?_⟩,sI it R h1 h2,rfl,fun _=>rfl,fun _ _ _=>⟨_,rfl⟩⟩
   .rw[R.hN];exact(du' hsc).2.2.2.2
   .intro s0 H0 ex D
    have R':=R.comp hh hsc s0 H0 ex
    refine⟨sG t R' h4,sQo q R' h5,[],by simp,?_⟩
    exact f7' rfl (sE0 elt R' helt).1
  refine⟨?_,D⟩
  obtain⟨tg,iter,ifs,nx,scope,pos,D,hi,he,_⟩:=D
  rw[show tE C (.comp elt own t it q .nil)=(iI' own (tI C it) (tG C t) (tQo C q) (tR C .nil (e5' (tE C elt)))) from rfl]
  exact iJ' D hi he
 | .comp elt own t it q (.cons ws t2 it2 q2 .nil),B,X,sc,e,R,h=>by
  have D:pu' C X e (.comp elt own t it q (.cons ws t2 it2 q2 .nil)):=by
   obtain⟨ee,tg,iter,ifs,tg2,iter2,ifs2,scope,pos,rfl,hh,hsc,helt,hown,h1,h2,h3,h4,h5,g1,g2,g3,g4,g5,g6,g7⟩:=BR' h
   refine⟨tg,iter,ifs,fun D env=>a0' (.ListComp ee [⟨tg,iter,ifs,0⟩,⟨tg2,iter2,ifs2,0⟩] scope pos) 0 iter2 (.ref D) env,scope,_,⟨R.compSc hsc,?_,⟨_,rfl⟩,a5' h3,R.calm hh,fun _ _ _=>⟨rfl,rfl⟩,fun _ _ _ _=>⟨rfl,rfl⟩,fun _ _ _ _ _=>pv' _ _ _ _ _ _ _ _ _ _ _ _ _ _,fun _ _ _ _ _=>rfl,cp' hown,?_⟩,sI it R h1 h2,rfl,fun _=>rfl,fun _ _ _=>⟨_,rfl⟩⟩
   .rw[R.hN];exact(du' hsc).2.2.2.2
   .intro s0 H0 ex D
    have R':=R.comp hh hsc s0 H0 ex
    refine⟨sG t R' h4,sQo q R' h5,ws,g7,?_⟩
    exact eG' (nx:=do let _ <- call (.builtin "list.append") [.ref D,<- eval ee (X.comp scope s0 H0 ex).env]) rfl (R.calm hh) (fun _=>rfl) (fun _=>rfl) (fun _=>rfl) (fun _=>rfl) (fun _=>rfl) (fun _=>rfl) ⟨_,rfl,rfl⟩ (a5' g3) (sI it2 R' g1 g2) (sG t2 R' g4) (cp' g6) (sQo q2 R' g5) (f7' rfl (sE0 elt R' helt).1) (by simp) dM'
  refine⟨?_,D⟩
  obtain⟨tg,iter,ifs,nx,scope,pos,D,hi,he,_⟩:=D
  rw[show tE C (.comp elt own t it q (.cons ws t2 it2 q2 .nil))=(iI' own (tI C it) (tG C t) (tQo C q) (tR C (.cons ws t2 it2 q2 .nil) (e5' (tE C elt)))) from rfl]
  exact iJ' D hi he
 | .comp elt own t it q (.cons ws t2 it2 q2 (.cons ws3 t3 it3 q3 .nil)),B,X,sc,e,R,h=>by
  have D:pu' C X e (.comp elt own t it q (.cons ws t2 it2 q2 (.cons ws3 t3 it3 q3 .nil))):=by
   obtain⟨ee,tg,iter,ifs,tg2,iter2,ifs2,tg3,iter3,ifs3,scope,pos,rfl,hh,hsc,helt,hown,h1,h2,h3,h4,h5,⟨g1,g2,g3,g4,g5,g6,g7⟩,k1,k2,k3,k4,k5,k6,k7⟩:=BS' h
   refine⟨tg,iter,ifs,fun D env=>a0' (.ListComp ee [⟨tg,iter,ifs,0⟩,⟨tg2,iter2,ifs2,0⟩,⟨tg3,iter3,ifs3,0⟩] scope pos) 0 iter2 (.ref D) env,scope,_,⟨R.compSc hsc,?_,⟨_,rfl⟩,a5' h3,R.calm hh,fun _ _ _=>⟨rfl,rfl⟩,fun _ _ _ _=>⟨rfl,rfl⟩,fun _ _ _ _ _=>ni' _ _ _ _ _ _ _ _ _ _ _ _ _ _ _ _ _,fun _ _ _ _ _=>rfl,cp' hown,?_⟩,sI it R h1 h2,rfl,fun _=>rfl,fun _ _ _=>⟨_,rfl⟩⟩
   .rw[R.hN];exact(du' hsc).2.2.2.2
   .intro s0 H0 ex D
    have R':=R.comp hh hsc s0 H0 ex
    refine⟨sG t R' h4,sQo q R' h5,ws,g7,?_⟩
    exact eG' (d:=0) (nx:=a0' (.ListComp ee [⟨tg,iter,ifs,0⟩,⟨tg2,iter2,ifs2,0⟩,⟨tg3,iter3,ifs3,0⟩] scope pos) 1 iter3 (.ref D) (X.comp scope s0 H0 ex).env) rfl (R.calm hh) (fun _=>rfl) (fun _=>rfl) (fun _=>rfl) (fun _=>rfl) (fun _=>k1' _ _ _ _ _ _ _ _ _ _ _ _ _ _ _ _ _) (fun _=>rfl) ⟨_,rfl,rfl⟩ (a5' g3) (sI it2 R' g1 g2) (sG t2 R' g4) (cp' g6) (sQo q2 R' g5)
     (eG' (d:=1) (nx:=do let _ <- call (.builtin "list.append") [.ref D,<- eval ee (X.comp scope s0 H0 ex).env]) rfl (R.calm hh) (fun _=>rfl) (fun _=>rfl) (fun _=>rfl) (fun _=>rfl) (fun _=>rfl) (fun _=>rfl) ⟨_,rfl,rfl⟩ (a5' k3) (sI it3 R' k1 k2) (sG t3 R' k4) (cp' k6) (sQo q3 R' k5) (f7' rfl (sE0 elt R' helt).1) (by simp) dM') k7 dM'
  refine⟨?_,D⟩
  obtain⟨tg,iter,ifs,nx,scope,pos,D,hi,he,_⟩:=D
  rw[show tE C (.comp elt own t it q (.cons ws t2 it2 q2 (.cons ws3 t3 it3 q3 .nil)))=(iI' own (tI C it) (tG C t) (tQo C q) (tR C (.cons ws t2 it2 q2 (.cons ws3 t3 it3 q3 .nil)) (e5' (tE C elt)))) from rfl]
  exact iJ' D hi he
 | .comp elt own t it q (.cons ws t2 it2 q2 (.cons _ _ _ _ (.cons _ _ _ _ _))),B,X,sc,e,R,h=>(BT' h).elim
termination_by structural c=>c
theorem sA {C:Rc}:∀(es:Ces) {B:List Str} {X:Cx} {sc:Scope} {xs:List Expr},Rok C B X sc->mA C.N B sc es xs=true->PA X xs (tA C es)
 | .nil,B,X,sc,xs,R,h=>by
  refine ng' h fun e0 g=>?_
  clear h
  subst e0
  revert g
  intro h
  rw[show tA C .nil=(fy') from rfl]
  exact dJ'
 | .cons e r,B,X,sc,xs,R,h=>by
  refine pq' h fun x xs e0 g=>?_
  clear h
  subst e0
  revert g
  intro h
  simp only[ag]at h
  rw[show tA C (.cons e r)=(bh' (tE C e) (tA C r)) from rfl]
  exact bq' ((sE0 e R h.1.1).1) (sA r R h.2) (aj' h.1.2)
termination_by structural c=>c
theorem sQ {C:Rc}:∀(q:Cq) {B:List Str} {X:Cx} {sc:Scope} {e:Expr},Rok C B X sc->mQ C.N B sc q e=true->PT X e (tQ C q)/\((∃op vs pos,e=.BoolOp op vs pos)->PW X e (tQ C q))
 | .val c,B,X,sc,e,R,h=>by
  replace h:=hJ' h
  refine⟨?_,fun⟨op,vs,pos,z⟩=>?_⟩
  .rw[show tQ C (.val c)=(fun σ H Q=>tE C c σ H fun x H'=>∃k,vb' C.K x H' k/\Q k H') from rfl]
   rw[<- R.hK]
   exact oK' (sE0 c R h.1).1 (nh' h.2)
  .subst z;exact au' h.2
 | .din neg a b,B,X,sc,e,R,h=>by
  refine yF' h fun ea op' eb w1 e0 g=>?_
  clear h
  subst e0
  revert g
  intro h
  simp only[ag,decide_eq_true_eq]at h
  obtain⟨⟨⟨rfl,h1⟩,h2⟩,h3⟩:=h
  rw[show tQ C (.din neg a b)=(lC' (pn' neg (tE C a) (tE C b))) from rfl]
  cases neg with
  |true=>exact⟨qq' (hF' R.hu1 (sE0 a R h1).1 (sE0 b R h2).1) (df' h3),fun⟨op,vs,pos,z⟩=>by cases z⟩
  |false=>exact⟨qq' (qJ' R.hu1 (sE0 a R h1).1 (sE0 b R h2).1) (df' h3),fun⟨op,vs,pos,z⟩=>by cases z⟩
 | .not q,B,X,sc,e,R,h=>by
  refine A2' h fun y w1 e0 g=>?_
  clear h
  subst e0
  revert g
  intro h
  rw[show tQ C (.not q)=(yN' (tQ C q)) from rfl]
  exact⟨uS' (sQ q R h).1,fun⟨op,vs,pos,z⟩=>by cases z⟩
 | .and a b,B,X,sc,e,R,h=>by
  replace h:=m5' h
  rcases h with⟨x,y,pos,rfl,h⟩|⟨x,y,z,r,pos,rfl,h⟩
  .simp only[ag]at h
   rw[show tQ C (.and a b)=(uP' (tQ C a) (tQ C b)) from rfl]
   have w:PW X (.BoolOp .And [x,y] pos) (uP' (tQ C a) (tQ C b)):=qr' (sQ a R h.1).1 (sb' (sQ b R h.2).1)
   exact⟨w.pt,fun _=>w⟩
  .simp only[ag]at h
   rw[show tQ C (.and a b)=(uP' (tQ C a) (tQ C b)) from rfl]
   have w:=qr' (sQ a R h.1).1 ((sQ b R h.2).2 ⟨_,_,_,rfl⟩)
   exact⟨w.pt,fun _=>w⟩
 | .or a b,B,X,sc,e,R,h=>by
  replace h:=qL' h
  rcases h with⟨x,y,pos,rfl,h⟩|⟨x,y,z,r,pos,rfl,h⟩
  .simp only[ag]at h
   rw[show tQ C (.or a b)=(tOr (tQ C a) (tQ C b)) from rfl]
   have w:PW X (.BoolOp .Or [x,y] pos) (tOr (tQ C a) (tQ C b)):=uR' (sQ a R h.1).1 (uQ' (sQ b R h.2).1)
   exact⟨w.pt,fun _=>w⟩
  .simp only[ag]at h
   rw[show tQ C (.or a b)=(tOr (tQ C a) (tQ C b)) from rfl]
   have w:=uR' (sQ a R h.1).1 ((sQ b R h.2).2 ⟨_,_,_,rfl⟩)
   exact⟨w.pt,fun _=>w⟩
 | .cmp op a b,B,X,sc,e,R,h=>by
  refine yF' h fun ea op' eb w1 e0 g=>?_
  clear h
  subst e0
  revert g
  intro h
  simp only[ag,decide_eq_true_eq]at h
  obtain⟨⟨⟨rfl,h1⟩,h2⟩,h3⟩:=h
  rw[show tQ C (.cmp op a b)=(lC' (tOp (dS' C.K op) (tE C a) (tE C b))) from rfl]
  rw[<- R.hK]
  exact⟨su' (qQ' R.hu _) (sE0 a R h1).1 (sE0 b R h2).1 (df' h3),fun⟨op,vs,pos,z⟩=>by cases z⟩
termination_by structural c=>c
theorem sQo {C:Rc}:∀(q:Cqo) {B:List Str} {X:Cx} {sc:Scope} {es:List Expr},Rok C B X sc->mQo C.N B sc q es=true->PTs X es (tQo C q)
 | .none,B,X,sc,es,R,h=>by
  refine ng' h fun e0 g=>?_
  clear h
  subst e0
  revert g
  intro h
  rw[show tQo C .none=(fun _ H Q=>Q true H) from rfl];exact sI'
 | .some q,B,X,sc,es,R,h=>by
  refine zI' h fun e e0 g=>?_
  clear h
  subst e0
  revert g
  intro h
  rw[show tQo C (.some q)=(tQ C q) from rfl];exact sJ' (sQ q R h).1
termination_by structural c=>c
theorem sO {C:Rc}:∀(o:Co) {B:List Str} {X:Cx} {sc:Scope} {e:Option Expr},Rok C B X sc->mO C.N B sc o e=true->PO X e (tO C o)
 | .none,B,X,sc,e,R,h=>by
  refine zJ' h fun e0 g=>?_
  clear h
  subst e0
  revert g
  intro h
  rw[show tO C .none=(iD') from rfl];exact sA'
 | .some c,B,X,sc,e,R,h=>by
  refine zK' h fun y e0 g=>?_
  clear h
  subst e0
  revert g
  intro h
  rw[show tO C (.some c)=(sz' (tE C c)) from rfl];exact sB' (sE0 c R h).1
termination_by structural c=>c
theorem sI {C:Rc}:∀(i:Ci) {B:List Str} {X:Cx} {sc:Scope} {x tg:Expr},Rok C B X sc->mI C.N B sc i x=true->hI' i tg=true->PI X tg x (tI C i)
 | .val c,B,X,sc,x,tg,R,h,_=>by
  rw[show tI C (.val c)=(ze' C.K (tE C c)) from rfl]
  rw[<- R.hK]
  exact vu' (sE0 c R h).1
 | .range1 a,B,X,sc,x,tg,R,h,_=>by
  refine tb' h fun n w1 y w2 e0 g=>?_
  clear h
  subst e0
  revert g
  intro h
  simp only[ag,decide_eq_true_eq]at h
  obtain⟨⟨⟨⟨rfl,h1⟩,h2⟩,h3⟩,h4⟩:=h
  rw[show tI C (.range1 a)=(sk' (bh' (tE C a) fy')) from rfl]
  exact lx' (R.glb h1) (R.blt _ h2) (bq' (sE0 a R h3).1 dJ' (aj' h4)) (aj' h4)
 | .range2 a b,B,X,sc,x,tg,R,h,_=>by
  refine wl' h fun n w1 y z w2 e0 g=>?_
  clear h
  subst e0
  revert g
  intro h
  simp only[ag,decide_eq_true_eq]at h
  obtain⟨⟨⟨⟨⟨⟨rfl,h1⟩,h2⟩,h3⟩,h4⟩,h5⟩,h6⟩:=h
  rw[show tI C (.range2 a b)=(sm' (bh' (tE C a) (bh' (tE C b) fy'))) from rfl]
  have e2:starEach [_] X.env=[(false,eval _ X.env)]:=aj' (es:=[]) h6
  exact ly' (R.glb h1) (R.blt _ h2) (bq' (sE0 a R h3).1 (bq' (sE0 b R h5).1 dJ' (aj' h6)) (aj' h4)) (by rw[aj' h4,e2]) e2
 | .zip a b,B,X,sc,x,tg,R,h,hz=>by
  refine wl' h fun n w1 y z w2 e0 g=>?_
  clear h
  subst e0
  revert g
  intro h
  simp only[ag,decide_eq_true_eq]at h
  obtain⟨⟨⟨⟨⟨⟨rfl,h1⟩,h2⟩,h3⟩,h4⟩,h5⟩,h6⟩:=h
  rw[show tI C (.zip a b)=(zf' C.K (bh' (tE C a) (bh' (tE C b) fy'))) from rfl]
  rw[<- R.hK]
  have e2:starEach [_] X.env=[(false,eval _ X.env)]:=aj' (es:=[]) h6
  cases tg with
  |Tuple es k p=>exact vv' (R.glb h1) (R.blt _ h2) (bq' (sE0 a R h3).1 (bq' (sE0 b R h5).1 dJ' (aj' h6)) (aj' h4)) (by rw[aj' h4,e2]) e2
  |_=>cases hz
 | .enum a,B,X,sc,x,tg,R,h,hz=>by
  refine tb' h fun n w1 y w2 e0 g=>?_
  clear h
  subst e0
  revert g
  intro h
  simp only[ag,decide_eq_true_eq]at h
  obtain⟨⟨⟨⟨rfl,h1⟩,h2⟩,h3⟩,h4⟩:=h
  rw[show tI C (.enum a)=(sM' C.K (tE C a)) from rfl]
  rw[<- R.hK]
  cases tg with
  |Tuple es k p=>exact sN' (R.glb h1) (R.blt _ h2) (bq' (sE0 a R h3).1 dJ' (aj' h4)) (aj' h4)
  |_=>cases hz
 | .range3 a b c,B,X,sc,x,tg,R,h,_=>by
  refine zL' h fun n w1 y z u w2 e0 g=>?_
  clear h
  subst e0
  revert g
  intro h
  simp only[ag,decide_eq_true_eq]at h
  obtain⟨⟨⟨⟨⟨⟨⟨⟨rfl,h1⟩,h2⟩,h3⟩,h4⟩,h5⟩,h6⟩,h7⟩,h8⟩:=h
  rw[show tI C (.range3 a b c)=(sR' (bh' (tE C a) (bh' (tE C b) (bh' (tE C c) fy')))) from rfl]
  have e2:starEach [_] X.env=[(false,eval _ X.env)]:=aj' (es:=[]) h8
  have e3:starEach [_,_] X.env=[(false,eval _ X.env),(false,eval _ X.env)]:=(aj' (es:=[_]) h6).trans (by rw[e2])
  exact ml' (R.glb h1) (R.blt _ h2) (bq' (sE0 a R h3).1 (bq' (sE0 b R h5).1 (bq' (sE0 c R h7).1 dJ' (aj' h8)) (aj' h6)) (aj' h4)) (by rw[aj' h4,e3]) e3
 | .rev a,B,X,sc,x,tg,R,h,_=>by
  refine tb' h fun n w1 y w2 e0 g=>?_
  clear h
  subst e0
  revert g
  intro h
  simp only[ag,decide_eq_true_eq]at h
  obtain⟨⟨⟨⟨rfl,h1⟩,h2⟩,h3⟩,h4⟩:=h
  rw[show tI C (.rev a)=(zj' C.K (tE C a)) from rfl]
  rw[<- R.hK]
  exact vI' (R.glb h1) (R.blt _ h2) (bq' (sE0 a R h3).1 dJ' (aj' h4)) (aj' h4)
termination_by structural c=>c
theorem sG {C:Rc}:∀(t:Ct) {B:List Str} {X:Cx} {sc:Scope} {e:Expr},Rok C B X sc->mT C.N B sc t e=true->PG X e (tG C t)
 | .name i,B,X,sc,e,R,h=>by
  refine yE' h fun x w1 e0 g=>?_
  clear h
  subst e0
  revert g
  intro h
  simp only[ag]at h
  obtain⟨h1,h2,h3⟩:=bz' h.1
  obtain⟨h4,h5⟩:=R.locb h.2
  rw[show tG C (.name i)=(dI' i) from rfl]
  exact sh' (by rw[R.hN];exact R.nd) (by rw[R.hN];exact h1) h4 h5
 | .tup ts,B,X,sc,e,R,h=>by
  refine wi' h fun es w1 w2 e0 g=>?_
  clear h
  subst e0
  revert g
  intro h
  rw[show tG C (.tup ts)=(zx' C.K (po' ts) (tGs C ts)) from rfl]
  rw[<- R.hK]
  simp only[ag,aO]at h
  exact we' (R.calm h.2) (sGs ts R h.1) (dv' h.1).1 (dv' h.1).2
 | .sub o i,B,X,sc,e,R,h=>by
  refine wj' h fun eo ei w1 e0 g=>?_
  clear h
  subst e0
  revert g
  intro h
  simp only[ag]at h
  rw[show tG C (.sub o i)=(yU' (tE C o) (tE C i) ew') from rfl]
  exact uX' (sE0 o R h.1.1).1 (sE0 i R h.1.2).1 oS' (tf' h.2)
termination_by structural c=>c
theorem sGs {C:Rc}:∀(ts:Cts) {B:List Str} {X:Cx} {sc:Scope} {es:List Expr},Rok C B X sc->mTs C.N B sc ts es=true->PGs X es (tGs C ts)
 | .nil,B,X,sc,es,R,h=>by
  refine ng' h fun e0 g=>?_
  clear h
  subst e0
  revert g
  intro h
  rw[show tGs C .nil=(yT') from rfl];exact sj'
 | .cons t r,B,X,sc,es,R,h=>by
  refine pq' h fun x xs e0 g=>?_
  clear h
  subst e0
  revert g
  intro h
  simp only[ag]at h
  rw[show tGs C (.cons t r)=(si' (tG C t) (tGs C r)) from rfl]
  exact oH' (sG t R h.1.1) (sGs r R h.2) (i3' h.1.2)
termination_by structural c=>c
end
theorem sE {C:Rc} {B:List Str} (c:Ce) {X:Cx} {sc:Scope} {e:Expr} (R:Rok C B X sc) (h:mE C.N B sc c e=true):PE X e (tE C c):=(sE0 c R h).1
end R3
set_option maxHeartbeats 4000000
namespace R3
open PySem PySem.Spec PyProof.Rows L2
def fi':Expr->Bool
 | .ListComp ..=>false
 | .SetComp ..=>false
 | .DictComp ..=>false
 |_=>true
theorem pw' {x tg:Expr} {l:Nat} {env:Env} (h:fi' x=true):swapsWithSole [tg] x l env=pure false:=by
 cases x<;>first|rfl|cases h
theorem k2' {x:Expr} {l:Nat} {env:Env} (h:fi' x=true):swapsWith x none l env=pure false:=by
 cases x<;>first|rfl|cases h
set_option tactic.hygienic true in
theorem nk' {N B:List Str} {sc:Scope} {c:Ce} {x:Expr} (h:mE N B sc c x=true) (hd:i1' c=false) (hx:fi' x=false):∃elt own t it q r,c=.comp elt own t it q r/\∃ee gens scope pos,x=.ListComp ee gens scope pos:=by
 cases x<;>first|(cases hx;done)|skip
 .cases c<;>first|(exact au' h)|(cases hd;done)|exact⟨_,_,_,_,_,_,rfl,_,_,_,_,rfl⟩
 .cases c<;>first|(exact au' h)|(cases hd;done)|(rename_i r;cases r<;>first|(exact au' h)|(cases hd;done)|(rename_i r;cases r<;>first|(exact au' h)|(cases hd;done)|(rename_i r;cases r<;>exact au' h)))
 .cases c<;>first|(exact au' h)|(cases hd;done)|(rename_i r;cases r<;>first|(exact au' h)|(cases hd;done)|(rename_i r;cases r<;>first|(exact au' h)|(cases hd;done)|(rename_i r;cases r<;>exact au' h)))
def qR':Expr->Bool
 | .Starred ..=>true
 |_=>false
theorem nst {e:Expr} (h:az' e=true):qR' e=false:=by
 cases e<;>first|rfl|cases h
theorem i4' {x y:Str} {px py pt pt2:Pos} {kt k2:Nat} {ea eb:Expr} {env:Env} (hb:env.scope.kind=.function) (kx:env.kindOf x=some .local) (ky:env.kindOf y=some .local) (hxy:x≠y) (hl:px.line=py.line) (h8:az' ea=true) (h9:az' eb=true)
  (h11:(foldedForSure 8 ea&&foldedForSure 8 eb)=false) (h12:(constantsAlone 8 ea&&constantsAlone 8 eb)=false):swappedStores [.Tuple [.Name x px,.Name y py] kt pt] (.Tuple [ea,eb] k2 pt2) env=pure (some [x,y]):=by
 have hbk:env.blockKind=.function:=by unfold Env.blockKind;rw[hb];rfl
 have p1:(Expr.Name x px).pos=px:=rfl
 have p2:(Expr.Name y py).pos=py:=rfl
 have hyx:(y == x)=false:=by simpa using fun z=>hxy z.symm
 have s1:[ea,eb].any qR'=false:=by
  rw[cq,cq,List.any_nil,nst h8,nst h9]
  rfl
 have s2:[ea,eb].all (foldedForSure 8)=false:=by
  rw[dg,dg,List.all_nil,Bool.and_true];exact h11
 have s3:[ea,eb].all (constantsAlone 8)=false:=by
  rw[dg,dg,List.all_nil,Bool.and_true];exact h12
 have s4:([x,y].eraseDups).length=2:=by
  simp[List.eraseDups_cons,hxy,hyx]
 unfold swappedStores
 dsimp only
 refine(if_neg ?_).trans ((if_neg (Bool.eq_false_iff.mp s1)).trans ?_)
 .simp[hbk]
 rw[s2,s3]
 simp[kx,ky,p1,p2,hl,cf,s4]
theorem ee' {tg:Expr} {env:Env} (h:az' tg=true):(assignEach [tg] env).map (·.2)=[assign tg env]:=by
 cases tg<;>first|rfl|cases h
def th':Expr->Expr->Bool
 | .Tuple ..,.Tuple ..=>false
 | .List ..,.Tuple ..=>false
 |_,_=>true
theorem fS' {tg x:Expr} {env:Env} (h:th' tg x=true):swappedStores [tg] x env=pure none:=by
 cases tg<;>first|rfl|(cases x<;>first|rfl|cases h)
theorem hP' {tg:Expr} {vs:List Expr} {k:Nat} {pos:Pos} {env:Env} (h:vs.all (foldedForSure 8)=true):swappedStores [tg] (.Tuple vs k pos) env=pure none:=by
 have key:∀ts:List Expr,swappedStores [.Tuple ts 0 pos] (.Tuple vs k pos) env=pure none:=by
  intro ts
  unfold swappedStores
  dsimp only
  split
  .rfl
  .split
   .rfl
   .split
    .rfl
    .rfl
 cases tg<;>first|rfl|exact key _
theorem ti' {N B:List Str} {sc:Scope} {t:Ct} {a:List Expr} {p:Pos} (h:mT N B sc t (.List a p)=true):False:=by
 cases t<;>exact au' h
theorem hQ' {B:List Str} {a b:Str} (hab:a≠b) (h:decide (a∈B)=false):decide (a∈b :: B)=false:=by
 rw[decide_eq_false_iff_not]at *
 intro z
 rcases al.mp z with z|z
 .exact hab z
 .exact h z
section
variable {C:Rc} {B:List Str} {X:Cx} {sc:Scope}
theorem Rok.suite (R:Rok C B X sc) (e:Addr):Rok { C with xk:=fun _=>E0 } ("~" :: "^" :: B) (X.inX e) sc:=by
 have t1:tld ("~" :: "^" :: B)=true:=dU'
 have t2:hat ("~" :: "^" :: B)=true:=decide_eq_true (au _ ax)
 refine⟨R.hN,R.nd,R.hK,PassesOwn.never,(fun z=>by rw[t2]at z;cases z),R.hu,R.gd,R.loc,R.cel,R.fre,R.glo,(fun _ _ _ z=>by rw[t2]at z;cases z),fun x hx=>?_,R.mrk,R.cls,(fun z=>by rw[t1]at z;cases z),(fun z=>by rw[t1]at z;cases z),(fun z=>by rw[t1]at z;cases z)⟩
 rcases al.mp hx with rfl|hx
 .exact R.mrk.1
 .rcases al.mp hx with rfl|hx
  .exact R.mrk.2.1
  .exact R.blt x hx
theorem Rok.tryB {c n:Str} {i:Nat} {np pos:Pos} {b₀:Stmt} {suite:List Stmt} {su:Css} {p_:List (Addr×Obj)} {D:Ends} (R:Rok C B X sc) (h5:tld B=false) (hh:hat B=false) (hg:Gl X c) (hd:(c == ("__debug__":Str))=false) (hi:C.N[i]?=some n) (hl:X.env.scope.names.lookup n=some .local)
  (hs:∀e,PSs (X.inX e) (b₀ :: suite) (tSs { C with xk:=fun _=>E0 } su)):
  Rok { C with xk:=fun σ' en _ H'=>∃nm Ca Cc,en=.str nm 0/\C.cl nm=some Ca/\C.cl c=some Cc/\W.exmOne C.K (.ref Ca) (.ref Cc)=some true/\∀e,H' e=none->tSs { C with xk:=fun _=>E0 } su { nx:=fun σ2 H2=>D.nx (σ2.set i none) H2,rt:=D.rt } (σ'.set i (some (.ref e))) (upd H' e (gO' e Ca)) } ("%" :: B) (X.tryX p_ D [.ExceptHandler (some (.Name c np)) (some n) (b₀ :: suite) pos]) sc:=by
 have t1:tld ("%" :: B)=false:=hQ' ⋯ h5
 have t2:pct ("%" :: B)=true:=decide_eq_true ax
 have F:=R.fx h5
 refine⟨R.hN,R.nd,R.hK,PassesOwn.looking,fun _=>R.calm hh,R.hu,R.gd,R.loc,R.cel,R.fre,R.glo,fun x sp e _ _=>?_,fun x hx=>?_,R.mrk,R.cls,fun _=>⟨F.ex,F.fn,F.stk,F.fr,F.cd⟩,(fun _=>hQ' ⋯ hh),(fun _ z=>by rw[t2]at z;cases z)⟩
 .obtain⟨f,fd,ps,k,CX,q1,q2,q3,q4,q5,q6,_⟩:=R.fn x sp e hh fun z=>by rw[h5]at z;cases z
  refine⟨f,fd,ps,k,CX,q1,q2,q3,q4,q5,q6.imp id fun z=>⟨z.1,au _ z.2⟩,?_⟩
  rcases q6 with rfl|⟨rfl,_⟩
  .exact jN'
  .intro p_' σ' H' s' e s'' I cx
   obtain⟨ea,T,Ca,nm,H2,z1,z2,z3,z4,z5,z6,z7,z8,z9,z10,z11,nm',Ca',Cc,z12,z13,z14,z15,z16⟩:=id cx
   refine mL' (Cc:=Cc) (i:=i) (th:=tSs { C with xk:=fun _=>E0 } su) I F (R.calm hh) (by rw[R.hN];exact R.nd) (by rw[R.hN];exact hi) hl hg (R.cls _ _ z14).1 hd hs ?_ cx
   rintro nm2 Ca2 H3 m2 ⟨nm3,Ca3,Cc3,w1,w2,w3,w4,w5⟩
   cases w1
   have:=(R.cls _ _ w2).1
   rw[m2]at this
   cases this
   rw[z14]at w3
   cases w3
   exact⟨by rw[R.hK];exact w4,w5⟩
 .rcases al.mp hx with rfl|hx
  .exact R.mrk.2.2
  .exact R.blt x hx
end
set_option maxHeartbeats 4000000
mutual
theorem sS:∀(c:Cs) {C:Rc} {B:List Str} {X:Cx} {sc:Scope} {s:Stmt},Rok C B X sc->X.env.scope.kind=.function->mS C.N B sc c s=true->PS X s (tS C c)
 | .expr e,C,B,X,sc,s,R,hk,h=>by
  refine zM' h fun x w1 e0 g=>?_
  clear h
  subst e0
  revert g
  intro h
  obtain⟨hc,hd⟩:=hJ' h
  clear h
  obtain⟨hc,hm⟩:=hJ' hc
  replace hd:i1' e=false:=by cases z:i1' e with
   |false=>rfl
   |true=>rw[z]at hd;exact au' hd
  rw[show tS C (.expr e)=(sf' (tE C e)) from rfl]
  refine sg' (sE e R hc) (k2' ?_)
  cases hx:fi' x with
  |true=>rfl
  |false=>
   obtain⟨elt,own,t,it,q,r,rfl,_⟩:=nk' hc hd hx
   exact au' hm
 | .ret e,C,B,X,sc,s,R,hk,h=>by
  refine zN' h fun x w1 e0 g=>?_
  clear h
  subst e0
  revert g
  intro h
  rw[show tS C (.ret e)=(yP' (tE C e)) from rfl]
  exact uV' (sE e R h)
 | .asg t e,C,B,X,sc,s,R,hk,h=>by
  refine zO' h fun tg x pos e0 g=>?_
  clear h
  subst e0
  revert g
  intro h
  obtain⟨h,h4⟩:=hJ' h
  obtain⟨h,h3⟩:=hJ' h
  obtain⟨h,h2⟩:=hJ' h
  obtain⟨h1,h0⟩:=hJ' h
  replace h0:i1' e=false:=by cases z:i1' e with
   |false=>rfl
   |true=>rw[z]at h0;exact au' h0
  rw[show tS C (.asg t e)=(lk' (tE C e) (tG C t)) from rfl]
  have hw:swappedStores [tg] x X.env=pure none:=by
   cases tg with
   |Tuple a b c=>cases x<;>first|exact fS' rfl|exact hP' h4|exact au' h4
   |List a b=>exact(ti' h2).elim
   |_=>exact fS' rfl
  cases hx:fi' x with
  |true=>exact jo' (sE e R h1) (sG t R h2) (pw' hx) hw (ee' h3)
  |false=>
   obtain⟨elt,own,t',it,q,r,rfl,ee,gens,scope,p2,rfl⟩:=nk' h1 h0 hx
   have D:=(sE0 _ R h1).2
   obtain⟨tg',iter,ifs,nx,scope',pos',D,hi,he,hu,hsw⟩:=D
   cases t with
   |name i=>
    cases tg with
    |Name y py=>
     obtain⟨b,hb⟩:=hsw y py pos.line
     cases b with
     |true=>
      replace h2:=hJ' h2
      obtain⟨g1,g2,g3⟩:=bz' h2.1
      obtain⟨g4,g5⟩:=R.locb h2.2
      exact kH' D hi (by rw[R.hN];exact R.nd) (by rw[R.hN];exact g1) g4 g5 (hu _) hb
     |false=>exact jo' (sE _ R h1) (sG _ R h2) hb hw (ee' h3)
    |_=>exact au' h2
   |tup ts=>
    cases tg with
    |Tuple a b c=>exact au' h4
    |_=>exact au' h2
   |sub o i=>
    cases tg with
    |Subscript a b c=>exact jo' (sE _ R h1) (sG _ R h2) rfl hw (ee' h3)
    |_=>exact au' h2
 | .setc2 i elt own t it q ws t2 it2 q2,C,B,X,sc,s,R,hk,h=>by
  refine zP' h fun y py ee tg iter ifs a tg2 iter2 ifs2 a2 scope p2 pos e0 g=>?_
  clear h
  subst e0
  revert g
  intro h
  simp only[ag,decide_eq_true_eq,aO,bI]at h
  obtain⟨⟨⟨⟨⟨⟨⟨⟨⟨⟨⟨⟨⟨⟨⟨⟨⟨⟨hh,hnm⟩,hsc⟩,helt⟩,hown⟩,rfl⟩,h1⟩,h2⟩,h3⟩,h4⟩,h5⟩,rfl⟩,f1⟩,f2⟩,f3⟩,f4⟩,f5⟩,f6⟩,f7⟩:=h
  have hnm':=hnm
  replace hnm:=hJ' hnm
  obtain⟨g1,g2,g3⟩:=bz' hnm.1
  obtain⟨g4,g5⟩:=R.locb hnm.2
  rw[show tS C (.setc2 i elt own t it q ws t2 it2 q2)=(lk' (wa' own (tI C it) (tG C t) (tQo C q) (iH' (tI C it2) (bi' ws (tG C t2) (tQo C q2) (hB' (tE C elt))))) (dI' i)) from rfl]
  refine ta' (nx:=fun D env=>a0' (.SetComp ee [⟨tg,iter,ifs,0⟩,⟨tg2,iter2,ifs2,0⟩] scope p2) 0 iter2 (.ref D) env) s8' (fun _=>rfl) pk' go' s9' ⟨R.compSc hsc,?_,⟨_,rfl⟩,a5' h3,R.calm hh,fun _ _ _=>⟨rfl,rfl⟩,fun _ _ _ _=>⟨rfl,rfl⟩,fun _ _ _ _ _=>nj' _ _ _ _ _ _ _ _ _ _ _ _ _ _,fun _ _ _ _ _=>rfl,cp' hown,?_⟩ (sI it R h1 h2) (by rw[R.hN];exact R.nd) (by rw[R.hN];exact g1) g4 g5 (sG (.name i) R hnm') rfl rfl ⟨_,rfl⟩
  .rw[R.hN];exact(du' hsc).2.2.2.2
  .intro s0 H0 ex D
   have R':=R.comp hh hsc s0 H0 ex
   refine⟨sG t R' h4,sQo q R' h5,ws,f7,?_⟩
   exact eG' (nx:=do let v <- eval ee (X.comp scope s0 H0 ex).env;standAt ee.pos;let _ <- call (.builtin "set.add") [.ref D,v]) rfl (R.calm hh) (fun _=>rfl) (fun _=>rfl) (fun _=>rfl) (fun _=>rfl) (fun _=>rfl) (fun _=>rfl) ⟨_,rfl,rfl⟩ (a5' f3) (sI it2 R' f1 f2) (sG t2 R' f4) (cp' f6) (sQo q2 R' f5) (mU' rfl (sE elt R' helt)) (by simp) go'
 | .dctc tup i k v own t it q,C,B,X,sc,s,R,hk,h=>by
  refine zQ' h fun y py ke ve tg iter ifs a scope p2 pos e0 g=>?_
  clear h
  subst e0
  revert g
  intro h
  simp only[ag,decide_eq_true_eq,aO]at h
  obtain⟨⟨⟨⟨⟨⟨⟨⟨⟨⟨⟨hh,hnm⟩,hsc⟩,hke⟩,hve⟩,hown⟩,rfl⟩,h1⟩,h2⟩,h3⟩,h4⟩,h5⟩:=h
  have hnm':=hnm
  replace hnm:=hJ' hnm
  obtain⟨g1,g2,g3⟩:=bz' hnm.1
  obtain⟨g4,g5⟩:=R.locb hnm.2
  rw[show tS C (.dctc tup i k v own t it q)=(if tup then lk' (wc' own (tI C it) (tG C t) (tQo C q) (tE C k) (tE C v)) (dI' i)else lk' (wb' own (tI C it) (tG C t) (tQo C q) (tE C k) (tE C v)) (dI' i)) from rfl]
  cases tup with
  |false=>
   refine ta' (Is:=v6' X.prog X.w) (nx:=fun D env=>wq' ke ve D env) jE' (fun _=>rfl) mW' hD' v7' ⟨R.compSc hsc,?_,⟨[],rfl⟩,a5' h3,R.calm hh,fun _ _ _=>⟨rfl,rfl⟩,fun _ _ _ _=>⟨rfl,rfl⟩,fun _ _ _ _ _=>rfl,fun _ _ _ _ _=>rfl,cp' hown,?_⟩ (sI it R h1 h2) (by rw[R.hN];exact R.nd) (by rw[R.hN];exact g1) g4 g5 (sG (.name i) R hnm') rfl rfl ⟨_,rfl⟩
   .rw[R.hN];exact(du' hsc).2.2.2.2
   .intro s0 H0 ex D
    have R':=R.comp hh hsc s0 H0 ex
    exact⟨sG t R' h4,sQo q R' h5,[],by simp,mX' rfl (sE k R' hke) (sE v R' hve)⟩
  |true=>
   refine ta' (Is:=v8' X.prog X.w) (nx:=fun D env=>wq' ke ve D env) jE' (fun _=>rfl) mY' hE' v9' ⟨R.compSc hsc,?_,⟨[],rfl⟩,a5' h3,R.calm hh,fun _ _ _=>⟨rfl,rfl⟩,fun _ _ _ _=>⟨rfl,rfl⟩,fun _ _ _ _ _=>rfl,fun _ _ _ _ _=>rfl,cp' hown,?_⟩ (sI it R h1 h2) (by rw[R.hN];exact R.nd) (by rw[R.hN];exact g1) g4 g5 (sG (.name i) R hnm') rfl rfl ⟨_,rfl⟩
   .rw[R.hN];exact(du' hsc).2.2.2.2
   .intro s0 H0 ex D
    have R':=R.comp hh hsc s0 H0 ex
    exact⟨sG t R' h4,sQo q R' h5,[],by simp,mZ' R'.hu1 rfl (sE k R' hke) (sE v R' hve)⟩
 | .par i j a b,C,B,X,sc,s,R,hk,h=>by
  refine zR' h fun x px y py kt pt ea eb k2 pt2 pos e0 g=>?_
  clear h
  subst e0
  revert g
  intro h
  simp only[ag,decide_eq_true_eq,aO,beq_iff_eq]at h
  obtain⟨⟨⟨⟨⟨⟨⟨⟨⟨⟨⟨⟨h1,h2⟩,h3⟩,h4⟩,h5⟩,h6⟩,h7⟩,h8⟩,h9⟩,h10⟩,h11⟩,h12⟩,hh⟩:=h
  obtain⟨g1,g2,g3⟩:=bz' h1
  obtain⟨f1,f2,f3⟩:=bz' h2
  rw[show tS C (.par i j a b)=(yV' i j (bh' (tE C a) (bh' (tE C b) fy'))) from rfl]
  have lx:=R.loc x h4
  have ly:=R.loc y h5
  refine uY' (R.calm hh) (by rw[R.hN];exact R.nd) (by rw[R.hN];exact g1) (by rw[R.hN];exact f1) h3 lx ly (bq' (sE a R h6) (bq' (sE b R h7) dJ' (aj' h9)) (aj' h8)) ?_
  have hxy:x≠y:=fun z=>h3 (eD' R.nd g1 (z ▸ f1))
  exact i4' hk lx ly hxy h10 h8 h9 h11 h12
 | .raise_,C,B,X,sc,s,R,hk,h=>by
  rw[show tS C .raise_=(lu') from rfl]
  exact oG'
 | .rse nm,C,B,X,sc,s,R,hk,h=>by
  refine zS' h fun x np y k p cpos pos e0 g=>?_
  clear h
  subst e0
  revert g
  intro h
  simp only[ag,decide_eq_true_eq,aO]at h
  obtain⟨⟨⟨⟨rfl,h1⟩,h2⟩,h3⟩,h4⟩:=h
  rw[show tS C (.rse x)=(fun _ σ H=>(∃Ca,C.cl x=some Ca/\W.excIn C.K Ca bmV "ValueError.__new__"=true)/\C.xk σ (.str x 0) none H) from rfl]
  intro p_ s σ H D I hw
  obtain⟨⟨Ca,hc,hx⟩,hw⟩:=hw
  obtain⟨m1,m2⟩:=R.cls _ _ hc
  have hhat:hat B=false:=R.nohat h3
  refine v0' (wish:=fun σ H=>C.xk σ (.str x 0) none H) (R.fx h3) (R.calm hhat) (R.glb h1) m1 m2 (by rw[R.hK];exact hx) h2 (fun p_ σ H s e t I a1 a2 a3 a4 a5=>R.xr h3 h4 x Ca p_ σ H s e t hc I a1 a2 a3 a4 a5) p_ s σ H D I hw
 | .try_ b c i su,C,B,X,sc,s,R,hk,h=>by
  refine zT' h fun ss x w1 n t ts w2 w3 e0 g=>?_
  clear h
  subst e0
  revert g
  intro h
  simp only[ag,decide_eq_true_eq,aO]at h
  obtain⟨⟨⟨⟨⟨⟨⟨⟨rfl,h1⟩,h2⟩,h3⟩,h4⟩,h5⟩,hh⟩,h6⟩,h7⟩:=h
  obtain⟨g1,g2,g3⟩:=bz' h3
  rw[show tS C (.try_ b x i su)=(fun D σ H=>tSs { C with xk:=fun σ' en _ H'=>∃nm Ca Cc,en=.str nm 0/\C.cl nm=some Ca/\C.cl x=some Cc/\W.exmOne C.K (.ref Ca) (.ref Cc)=some true/\∀e,H' e=none->tSs { C with xk:=fun _=>E0 } su { nx:=fun σ2 H2=>D.nx (σ2.set i none) H2,rt:=D.rt } (σ'.set i (some (.ref e))) (upd H' e (gO' e Ca)) } b D σ H) from rfl]
  refine s5' (t:=fun D=>tSs { C with xk:=fun σ' en _ H'=>∃nm Ca Cc,en=.str nm 0/\C.cl nm=some Ca/\C.cl _=some Cc/\W.exmOne C.K (.ref Ca) (.ref Cc)=some true/\∀e,H' e=none->tSs { C with xk:=fun _=>E0 } su { nx:=fun σ2 H2=>D.nx (σ2.set i none) H2,rt:=D.rt } (σ'.set i (some (.ref e))) (upd H' e (gO' e Ca)) } b) fun p_ D=>?_
  refine sSs b ?_ hk h6
  exact R.tryB h5 hh (R.glb h1) h2 g1 (R.loc _ h4) fun e=>sSs su (R.suite e) hk h7
 | .aug i sub e,C,B,X,sc,s,R,hk,h=>by
  refine zU' h fun x w1 op ee w2 e0 g=>?_
  clear h
  subst e0
  revert g
  intro h
  simp only[ag,decide_eq_true_eq]at h
  obtain⟨⟨⟨h1,h2⟩,h3⟩,rfl⟩:=h
  obtain⟨g1,g2,g3⟩:=bz' h1
  obtain⟨g4,g5⟩:=R.locb h2
  rw[show tS C (.aug i sub e)=(yW' i (tE C e) (ipI fun i j=>if sub then i-j else i+j)) from rfl]
  cases sub with
  |true=>exact qu' (by rw[R.hN];exact R.nd) (by rw[R.hN];exact g1) g4 (sE e R h3) u0' g5
  |false=>exact qu' (by rw[R.hN];exact R.nd) (by rw[R.hN];exact g1) g4 (sE e R h3) uZ' g5
 | .ite q a b,C,B,X,sc,s,R,hk,h=>by
  refine zV' h fun x ss rs w1 e0 g=>?_
  clear h
  subst e0
  revert g
  intro h
  simp only[ag]at h
  rw[show tS C (.ite q a b)=(yQ' (tQ C q) (tSs C a) (tSs C b)) from rfl]
  exact yR' (sQ q R h.1.1).1 (sSs a R hk h.1.2) (sSs b R hk h.2)
 | .whl q b,C,B,X,sc,s,R,hk,h=>by
  refine zW' h fun x ss w1 e0 g=>?_
  clear h
  subst e0
  revert g
  intro h
  simp only[ag]at h
  rw[show tS C (.whl q b)=(lv' (tQ C q) (tSs C b)) from rfl]
  exact oI' R.own (sQ q R h.1).1 (sSs b R hk h.2)
 | .for_ t it b,C,B,X,sc,s,R,hk,h=>by
  refine zX' h fun tg iter ss w1 e0 g=>?_
  clear h
  subst e0
  revert g
  intro h
  simp only[ag,aO]at h
  obtain⟨⟨⟨⟨⟨h1,h2⟩,h3⟩,h4⟩,h5⟩,hh⟩:=h
  rw[show tS C (.for_ t it b)=(yX' (tI C it) (tG C t) (tSs C b)) from rfl]
  exact u1' R.own (R.calm hh) (sI it R h1 h2) (sG t R h4) (sSs b R hk h5) (a5' h3)
theorem sSs:∀(c:Css) {C:Rc} {B:List Str} {X:Cx} {sc:Scope} {ss:List Stmt},Rok C B X sc->X.env.scope.kind=.function->mSs C.N B sc c ss=true->PSs X ss (tSs C c)
 | .nil,C,B,X,sc,ss,R,hk,h=>by
  refine zY' h fun e0 g=>?_
  clear h
  subst e0
  revert g
  intro h
  rw[show tSs C .nil=(sd') from rfl];exact se'
 | .cons c r,C,B,X,sc,ss,R,hk,h=>by
  refine zZ' h fun x xs e0 g=>?_
  clear h
  subst e0
  revert g
  intro h
  simp only[ag]at h
  rw[show tSs C (.cons c r)=(yO' (tS C c) (tSs C r)) from rfl]
  exact oF' (sS c R hk h.1) (sSs r R hk h.2)
end
section
variable {P:Program} {w:World} {K:W.Frag} {mg:Str->Option Value} {base:Heap}
structure Ask (P:Program) (w:World) (K:W.Frag) (mg:Str->Option Value) (base:Heap) (k:Nat) (C:Rc):Prop where
 fs:∀y sp',C.fs y=some sp'->∃f' fd' ps',(FnOk P w K mg base CX0 k f' fd' ps' sp'\/FnOk P w K mg base (CX1 P w mg) k f' fd' ps' sp'/\m4' y∈C.B)/\mg y=some (.ref f')/\W.keepIn K (.ref f')=true/\et' K fd' ps' []
 B:∀y∈C.B,mg y=none
 mrk:mg "~"=none/\mg "^"=none/\mg "%"=none
 cl:∀c Ca,C.cl c=some Ca->mg c=some (.ref Ca)/\W.nsIn K mainGlobals c=some (some (.ref Ca))
 nt:tld C.B=false
 nh:hat C.B=false
theorem i5' {x qual:Str} {st:Stmt} {f:Addr} {fd:FuncData} {ps:List Str} {k:Nat} {sp:Sp} (F:Fun K x qual st f fd) (C:Rc) (S:FnScope C.N ps (ab' st)) (hK:C.K=K) (code:Css) (hm:mSs C.N C.B (ab' st) code (al' st)=true)
  (len:∀vs H Q E,sp vs H Q E->vs.length=ps.length) (ask:Ask P w K mg base k C) (hxk:C.xk=fun _=>E0)
  (hbody:∀vs H Q E,sp vs H Q E->tSs C code { nx:=fun _ H'=>Q .non H',rt:=Q } (aA' C.N vs) H):FnOk P w K mg base CX0 (k+1) f fd ps sp:=by
 obtain⟨oc,od,kV,doc,pm,an,cdv,ct,osl,rfl,lk,hcd⟩:=F.ex
 refine vf' lk hcd S len fun A outer s H vs Q E hr h=>⟨_,(show PSs (sw' CX0 P w K mg base C.N qual (ab' st) f cdv A outer s H E).nox (al' st) (tSs C code) from sSs code (sc:=ab' st) (B:=C.B) ?_ S.kind hm).nox,hbody vs H Q E h⟩
 refine⟨rfl,S.nd,hK.symm,PassesOwn.never,fun _=>rfl,hr.units,hr.gd,fun _ e=>e,fun _ e=>⟨e,rfl⟩,fun _ e=>.inr e,fun _ e=>e,fun y sp' e _ _=>?_,ask.B,ask.mrk,ask.cl,fun _=>⟨rfl,fun _=>rfl,rfl,rfl,qF' hcd⟩,fun _=>ask.nh,fun _ _ nm Ca p_ σ H s e t _ _ _ _ _ _ z=>?_⟩
 .obtain⟨f',fd',ps',h1,h2,h3,h4⟩:=ask.fs y sp' e
  rcases h1 with h1|⟨h1,hb⟩
  .exact⟨f',fd',ps',k,CX0,h1,hr,h2,h3,h4,.inl rfl,jN'⟩
  .refine⟨f',fd',ps',k,_,h1,hr,h2,h3,h4,.inr ⟨rfl,hb⟩,?_⟩
   rintro p_ σ H s e s' I ⟨ea,T,Ca,nm,H',_,_,_,_,_,_,_,_,_,_,_,z⟩
   rw[hxk]at z
   exact z.elim
 .rw[hxk]at z
  exact z.elim
theorem jP' {x qual:Str} {st:Stmt} {f:Addr} {fd:FuncData} {ps:List Str} {k:Nat} {sp:Sp} (F:Fun K x qual st f fd) (C:Rc) (S:FnScope C.N ps (ab' st)) (hK:C.K=K) (code:Css) (hm:mSs C.N C.B (ab' st) code (al' st)=true)
  (len:∀vs H Q E,sp vs H Q E->vs.length=ps.length) (ask:Ask P w K mg base k C)
  (hbody:∀vs H Q E,sp vs H Q E->tSs { C with xk:=fun _=>E } code { nx:=fun _ H'=>Q .non H',rt:=Q } (aA' C.N vs) H):FnOk P w K mg base (CX1 P w mg) (k+1) f fd ps sp:=by
 obtain⟨oc,od,kV,doc,pm,an,cdv,ct,osl,rfl,lk,hcd⟩:=F.ex
 refine vf' lk hcd S len fun A outer s H vs Q E hr hsp=>⟨_,sSs code (C:={ C with xk:=fun _=>E }) (sc:=ab' st) (B:=C.B) ?_ S.kind hm,hbody vs H Q E hsp⟩
 have fc:FnCx (sw' (CX1 P w mg) P w K mg base C.N qual (ab' st) f cdv A outer s H E):=⟨rfl,fun _=>rfl,rfl,rfl,qF' hcd⟩
 refine⟨rfl,S.nd,hK.symm,PassesOwn.leaving,fun _=>rfl,hr.units,hr.gd,fun _ e=>e,fun _ e=>⟨e,rfl⟩,fun _ e=>.inr e,fun _ e=>e,fun y sp' e _ _=>?_,ask.B,ask.mrk,ask.cl,fun _=>fc,fun _=>ask.nh,fun _ _ nm Ca p_ σ H' s' e t hc I a1 a2 a3 a4 z=>?_⟩
 .obtain⟨f',fd',ps',h1,h2,h3,h4⟩:=ask.fs y sp' e
  rcases h1 with h1|⟨h1,hb⟩
  .exact⟨f',fd',ps',k,CX0,h1,hr,h2,h3,h4,.inl rfl,jN'⟩
  .exact⟨f',fd',ps',k,_,h1,hr,h2,h3,h4,.inr ⟨rfl,hb⟩,fun p_ σ H s e s' I c=>gn' I fc c⟩
 .exact gm' I fc (ask.cl nm Ca hc).1 a1 a2 a3 a4 z
end
def px' (a:Addr) (k:Nat) (h:Heap):Prop:=∃(x y z:Int) (t1 t2 t3:Tok) (n:Nat),h.get? a=some { cls:=.type "list",data:=.seq #[.int x t1,.int y t2,.int z t3] n }/\0<=x/\0<=y/\y<2 ^ 62/\0<=z/\z<=k
def d6' (a:Addr) (k:Nat):HO:=.ext (px' a k)
def hT' (x y z:Int):HO:=.lst [.int x,.int y,.int z]
theorem wr' {a:Addr} {n k:Nat} (e:d6' a n=d6' a k):n<=k:=by
 have e1:px' a n=px' a k:=HO.ext.inj e
 let o:Obj:={ cls:=.type "list",data:=.seq #[.int 0 0,.int 0 0,.int n 0] 0 }
 let h0:Heap:={ (default:Heap)with objs:=Array.replicate a default }
 have hs:h0.objs.size=a:=Array.size_replicate
 have g:(h0.push o).get? a=some o:=by
  have:=av h0 (o:=o) rfl
  rw[hs]at this
  exact this
 have q:px' a n (h0.push o):=⟨0,0,n,0,0,0,0,g,⋯,⋯,by decide,⋯,⋯⟩
 rw[e1]at q
 obtain⟨x,y,z,t1,t2,t3,m,g2,_,_,_,_,hz⟩:=q
 rw[g]at g2
 have g3:=Option.some.inj g2
 have g4:(#[.int 0 0,.int 0 0,.int n 0]:Array Value)=#[.int x t1,.int y t2,.int z t3]:=by
  have:o.data=_:=congrArg Obj.data g3
  injection this
 have g6:=congrArg Array.toList g4
 simp only[List.cons.injEq,Value.int.injEq]at g6
 have g5:(n:Int)=z:=g6.2.2.1.1
 omega
theorem nl' {P:Program} {w:World} {H:Hp} {h:Heap} {b:Addr} {x y z:Int} {k:Nat} (hok:HOk P w H h) (e:H b=some (hT' x y z)) (hx:0<=x) (hy:0<=y) (hy2:y<2 ^ 62) (hz:0<=z) (hk:z<=k):HOk P w (upd H b (d6' b k)) h:=by
 intro c o ec
 by_cases hc:c=b
 .subst hc
  rw[ac']at ec
  cases ec
  obtain⟨_,its,n,rv,g⟩:=(show aE' P w H h c (.lst _) from hok c _ e)
  cases rv with
  |cons r1 r=>
   cases r with
   |cons r2 r=>
    cases r with
    |cons r3 r=>
     cases r
     obtain⟨t1,rfl⟩:=r1
     obtain⟨t2,rfl⟩:=r2
     obtain⟨t3,rfl⟩:=r3
     refine⟨⟨x,y,z,t1,t2,t3,n,g,hx,hy,hy2,hz,hk⟩,⟨_,g⟩,fun h1 h2 q kk=>?_⟩
     obtain⟨x,y,z,t1,t2,t3,n,g,r⟩:=q
     exact⟨x,y,z,t1,t2,t3,n,kk _ g,r⟩
 .rw[ae' hc]at ec
  have ne:∀d u,H d=some u->(∀xs,u≠.lst xs)->d≠b:=fun d u q nu z=>by subst z;rw[e]at q;cases q;exact nu _ rfl
  exact(hok c o ec).stay (fun _ _ _ q=>q) (fun d q=>by rw[ae' (ne d _ q fun _ z=>by cases z)];exact q) fun d xs q=>by rw[ae' (ne d _ q fun _ z=>by cases z)];exact q
theorem py' {P:Program} {w:World} {H:Hp} {h:Heap} {b:Addr} {k:Nat} (hok:HOk P w H h) (e:H b=some (d6' b k)):∃x y z:Int,0<=x/\0<=y/\y<2 ^ 62/\0<=z/\z<=k/\HOk P w (upd H b (hT' x y z)) h:=by
 obtain⟨⟨x,y,z,t1,t2,t3,n,g,hx,hy,hy2,hz,hk⟩,_,_⟩:=(show aE' P w H h b (.ext _) from hok b _ e)
 refine⟨x,y,z,hx,hy,hy2,hz,hk,fun c o ec=>?_⟩
 by_cases hc:c=b
 .subst hc
  rw[ac']at ec
  cases ec
  exact⟨by show 3<=sizeLine;decide,[.int x t1,.int y t2,.int z t3],n,.cons ⟨_,rfl⟩ (.cons ⟨_,rfl⟩ (.cons ⟨_,rfl⟩ .nil)),g⟩
 .rw[ae' hc]at ec
  have ne:∀d u,H d=some u->(∀φ,u≠.ext φ)->d≠b:=fun d u q nu z=>by subst z;rw[e]at q;cases q;exact nu _ rfl
  exact(hok c o ec).stay (fun _ _ _ q=>q) (fun d q=>by rw[ae' (ne d _ q fun _ z=>by cases z)];exact q) fun d xs q=>by rw[ae' (ne d _ q fun _ z=>by cases z)];exact q
theorem pz' {fs ex:List Addr} {H H':Hp} {h h':Heap} {b:Addr} {xs:List V} {o:HO} (u:Un fs ex H H' h h') (e:H' b=some (.lst xs)):Un fs ex H (upd H' b o) h h' where
 keep:=u.keep
 slot:=u.slot
 free:=fun c ob q n hx=>by
  have z:=u.free c ob q n hx
  rw[ae' (fun z2=>by subst z2;rw[e]at z;cases z)]
  exact z
 there:=u.there
 tups:=fun c ys q=>by
  have z:=u.tups c ys q
  rw[ae' (fun z2=>by subst z2;rw[e]at z;cases z)]
  exact z
 frzs:=fun c ob ys q=>by
  have z:=u.frzs c ob ys q
  rw[ae' (fun z2=>by subst z2;rw[e]at z;cases z)]
  exact z
 tbls:=fun c ps q=>by
  obtain⟨m,z⟩:=u.tbls c ps q
  exact⟨m,by rw[ae' (fun z2=>by subst z2;rw[e]at z;cases z)];exact z⟩
theorem tj' {fs ex:List Addr} {H H':Hp} {h h':Heap} {b:Addr} {φ:Heap->Prop} {o:HO} (u:Un fs ex (upd H b o) H' h h') (e:H b=some (.ext φ)):Un fs ex H H' h h':=by
 have ne:∀c,H c=none->c≠b:=fun c n z=>by subst z;rw[e]at n;cases n
 have ne2:∀c v,H c=some v->(∀ψ,v≠.ext ψ)->c≠b:=fun c v q nv z=>by subst z;rw[e]at q;cases q;exact nv _ rfl
 exact⟨fun c ob q n=>u.keep c ob q (by rw[ae' (ne c n)];exact n),fun c ob q n=>u.slot c ob q (by rw[ae' (ne c n)];exact n),fun c ob q n=>u.free c ob q (by rw[ae' (ne c n)];exact n),u.there,
  fun c ys q=>u.tups c ys (by rw[ae' (ne2 c _ q fun _ z=>by cases z)];exact q),fun c ob ys q=>u.frzs c ob ys (by rw[ae' (ne2 c _ q fun _ z=>by cases z)];exact q),fun c ps q=>u.tbls c ps (by rw[ae' (ne2 c _ q fun _ z=>by cases z)];exact q)⟩
section
variable {P:Program} {w:World} {K:W.Frag} {mg:Str->Option Value} {base:Heap} {k:Nat} {f:Addr} {fd:FuncData} {ps:List Str} {sp sp':Sp}
def A3' (Q:VK) (v:V) (H:Hp):Prop:=∃b x y z m,H b=some (hT' x y z)/\0<=x/\0<=y/\y<2 ^ 62/\0<=z/\z<=((m:Nat):Int)/\Q v (upd H b (d6' b m))
theorem nn' (F:FnOk P w K mg base CX0 k f fd ps sp) (h:∀vs H Q E,sp' vs H Q E->sp vs H (A3' Q) E):FnOk P w K mg base CX0 k f fd ps sp':=by
 refine⟨fun vs H Q E q=>F.len vs H _ E (h _ _ _ _ q),fun A outer s H args us vs Q E hr e0 hb hv hs=>?_⟩
 refine codeAny_mono (F.run A outer s H args us vs _ E hr e0 hb hv (h _ _ _ _ hs)) fun r s' hq=>?_
 cases r with
 |error e=>exact hq
 |ok fl=>
  cases fl with
  |next=>exact hq
  |brk=>exact hq
  |cont=>exact hq
  |ret u=>
   obtain⟨v,H',os,bare,un,hok,rv,b,x,y,z,m,eb,hx,hy,hy2,hz,hm,q⟩:=hq
   exact⟨v,_,os,bare,pz' un eb,nl' hok eb hx hy hy2 hz hm,rv,q⟩
theorem tl' (F:FnOk P w K mg base CX0 k f fd ps sp) (h:∀vs H Q E,sp' vs H Q E->∃b n,H b=some (d6' b n)/\∀x y z,0<=x->0<=y->y<2 ^ 62->0<=z->z<=((n:Nat):Int)->sp vs (upd H b (hT' x y z)) Q E) (len:∀vs H Q E,sp' vs H Q E->vs.length=ps.length):FnOk P w K mg base CX0 k f fd ps sp':=by
 refine⟨len,fun A outer s H args us vs Q E hr e0 hb hv hs=>?_⟩
 obtain⟨b,n,eb,hsp⟩:=h _ _ _ _ hs
 obtain⟨x,y,z,hx,hy,hy2,hz,hn,hok⟩:=py' e0.hok eb
 have ne:∀c,H c=none->c≠b:=fun c n z=>by subst z;rw[eb]at n;cases n
 have e1:Env0 P w K mg base A outer s (upd H b (hT' x y z)):=⟨e0.frames,e0.mod,fun c o e=>⟨(e0.bs c o e).1,by rw[ae' (ne c (e0.bs c o e).2)];exact(e0.bs c o e).2⟩,e0.bsz,e0.funs,fun c hc=>by rw[ae' (ne c (e0.frf c hc))];exact e0.frf c hc,hok,e0.bare⟩
 refine codeAny_mono (F.run A outer s _ args us vs Q E hr e1 hb hv (hsp x y z hx hy hy2 hz hn)) fun r s' hq=>?_
 cases r with
 |error e=>exact hq
 |ok fl=>
  cases fl with
  |next=>exact hq
  |brk=>exact hq
  |cont=>exact hq
  |ret u=>
   obtain⟨v,H',os,bare,un,hok,rv,q⟩:=hq
   exact⟨v,H',os,bare,tj' un eb,hok,rv,q⟩
end
structure Go (c:Nat) (H H':Hp):Prop where
 box:∀a n,H a=some (d6' a n)->∃m,m<=n+c/\H' a=some (d6' a m)
 oth:∀a o,H a=some o->(∀φ,o≠.ext φ)->H' a=some o
 free:∀a,H' a=none->H a=none
theorem Go.of_same {c:Nat} {H H':Hp} (h:aD' H H'):Go c H H':=⟨fun a n e=>⟨n,⋯,h a _ e⟩,fun a o e _=>h a o e,fun a e=>h.free e⟩
theorem Go.refl {c:Nat} {H:Hp}:Go c H H:=.of_same (aD'.refl H)
theorem Go.trans {c d:Nat} {H H1 H2:Hp} (a:Go c H H1) (b:Go d H1 H2):Go (c+d) H H2:=⟨fun p n e=>by
  obtain⟨m,hm,e1⟩:=a.box p n e
  obtain⟨m',hm',e2⟩:=b.box p m e1
  exact⟨m',⋯,e2⟩,fun p o e no=>b.oth p o (a.oth p o e no) no,fun p e=>a.free p (b.free p e)⟩
theorem Go.mono {c d:Nat} {H H1:Hp} (a:Go c H H1) (h:c<=d):Go d H H1:=⟨fun p n e=>by
  obtain⟨m,hm,e1⟩:=a.box p n e
  exact⟨m,⋯,e1⟩,a.oth,a.free⟩
theorem Go.lst {c:Nat} {H H1:Hp} (a:Go c H H1) {p:Addr} {xs:List V} (e:H p=some (.lst xs)):H1 p=some (.lst xs):=a.oth p _ e fun _ z=>by cases z
theorem Go.tup {c:Nat} {H H1:Hp} (a:Go c H H1) {p:Addr} {xs:List V} (e:H p=some (.tup xs)):H1 p=some (.tup xs):=a.oth p _ e fun _ z=>by cases z
theorem Go.seq {c:Nat} {K:W.Frag} {H H1:Hp} (g:Go c H H1) {a:Addr} {xs:List V} (h:SqL K H a xs):SqL K H1 a xs:=by
 rcases h with(h|⟨o,h⟩)|h
 .exact .inl (.inl (g.lst h))
 .exact .inl (.inr ⟨o,g.oth _ _ h fun _ z=>by cases z⟩)
 .exact .inr h
theorem Go.new {c:Nat} {H:Hp} {p:Addr} (h:H p=none) (o:HO):Go c H (upd H p o):=.of_same fun b u q=>by rw[ae' (ah' q h)];exact q
theorem Go.draw {H:Hp} {b:Addr} {n m:Nat} (e:H b=some (d6' b n)) (h:m<=n+1) (o:HO):Go 1 H (upd (upd H b o) b (d6' b m)):=by
 rw[iA']
 refine⟨fun p k q=>?_,fun p u q no=>?_,fun p q=>?_⟩
 .by_cases hp:p=b
  .subst hp
   rw[e]at q
   have:=wr' (Option.some.inj q)
   exact⟨m,⋯,ac'⟩
  .exact⟨k,⋯,by rw[ae' hp];exact q⟩
 .rw[ae']
  .exact q
  .intro z
   subst z
   rw[e]at q
   cases q
   exact no _ rfl
 .by_cases hp:p=b
  .subst hp
   rw[ac']at q
   cases q
  .rw[ae' hp]at q
   exact q
section
variable {C:Rc} {σ:L2.St} {H:Hp} {Q:VK} {D:Ends} {Qb:Bool->Hp->Prop}
def kV (o:Option (Option V)) (H:Hp) (Q:VK):Prop:=∃v,o=some (some v)/\Q v H
theorem fj' {v:V}:kV (some (some v)) H Q=Q v H:=propext ⟨fun⟨u,e,q⟩=>by cases e;exact q,fun q=>⟨v,rfl,q⟩⟩
theorem hU' {i:Nat}:tE C (.var i) σ H Q=kV σ[i]? H Q:=rfl
theorem qS' {n:Int}:tE C (.int n) σ H Q=Q (.int n) H:=rfl
theorem wt' {b:Bool}:tE C (.bl b) σ H Q=Q (.bl b) H:=rfl
theorem qT':tE C .non σ H Q=Q .non H:=rfl
theorem qU' {x:Str}:tE C (.str x) σ H Q=Q (.str x) H:=rfl
theorem tm' {x:String}:tE C (.ty x) σ H Q=Q (.ty x) H:=rfl
def kB1 (C:Rc) (σ:L2.St) (op:Operator) (b:Ce) (Q:VK):VK:=fun x H=>tE C b σ H fun y H2=>fC' C.K op x y H2 Q
def kB2 (C:Rc) (op:Operator) (x:V) (Q:VK):VK:=fun y H=>fC' C.K op x y H Q
theorem qV' {op:Operator} {a b:Ce}:tE C (.bin op a b) σ H Q=tE C a σ H (kB1 C σ op b Q):=rfl
theorem qW' {op:Operator} {b:Ce} {x:V}:kB1 C σ op b Q x H=tE C b σ H (kB2 C op x Q):=rfl
theorem qX' {op:Operator} {x y:V}:kB2 C op x Q y H=fC' C.K op x y H Q:=rfl
def kC1 (C:Rc) (σ:L2.St) (op:CmpOp) (b:Ce) (Q:VK):VK:=fun x H=>tE C b σ H fun y H2=>dS' C.K op x y H2 Q
def kC2 (C:Rc) (op:CmpOp) (x:V) (Q:VK):VK:=fun y H=>dS' C.K op x y H Q
theorem qY' {op:CmpOp} {a b:Ce}:tE C (.cmp op a b) σ H Q=tE C a σ H (kC1 C σ op b Q):=rfl
theorem qZ' {op:CmpOp} {b:Ce} {x:V}:kC1 C σ op b Q x H=tE C b σ H (kC2 C op x Q):=rfl
theorem q0' {op:CmpOp} {x y:V}:kC2 C op x Q y H=dS' C.K op x y H Q:=rfl
def kI1 (C:Rc) (σ:L2.St) (b:Ce) (Q:VK):VK:=fun x H=>tE C b σ H fun y H2=>pm' C.K x y H2 Q
def kI2 (C:Rc) (x:V) (Q:VK):VK:=fun y H=>pm' C.K x y H Q
theorem q1' {a b:Ce}:tE C (.idx a b) σ H Q=tE C a σ H (kI1 C σ b Q):=rfl
theorem q2' {b:Ce} {x:V}:kI1 C σ b Q x H=tE C b σ H (kI2 C x Q):=rfl
theorem q3' {x y:V}:kI2 C x Q y H=pm' C.K x y H Q:=rfl
def A4' (Q:VK):VK:=fun x H=>rU (fun i=>.int (-i)) x H Q
theorem q4' {a:Ce}:tE C (.neg a) σ H Q=tE C a σ H (A4' Q):=rfl
theorem jQ' {i:Int}:A4' Q (.int i) H=Q (.int (-i)) H:=propext ⟨fun⟨u,e,q⟩=>by cases e;exact q,fun q=>⟨i,rfl,q⟩⟩
def kT (Qb:Bool->Hp->Prop):VK:=fun x H=>∃k,x=.bl k/\Qb k H
theorem wu' {k:Bool}:kT Qb (.bl k) H=Qb k H:=propext ⟨fun⟨u,e,q⟩=>by cases e;exact q,fun q=>⟨k,rfl,q⟩⟩
theorem q5' {op:CmpOp} {a b:Ce}:tQ C (.cmp op a b) σ H Qb=tE C a σ H (kC1 C σ op b (kT Qb)):=rfl
def wv' (Qb:Bool->Hp->Prop):Bool->Hp->Prop:=fun c H=>Qb (!c) H
theorem q6' {q:Cq}:tQ C (.not q) σ H Qb=tQ C q σ H (wv' Qb):=rfl
theorem jR' {c:Bool}:wv' Qb c H=Qb (!c) H:=rfl
def tn' (C:Rc) (σ:L2.St) (b:Cq) (Qb:Bool->Hp->Prop):Bool->Hp->Prop:=fun c H=>if c=true then tQ C b σ H Qb else Qb false H
def z1' (C:Rc) (σ:L2.St) (b:Cq) (Qb:Bool->Hp->Prop):Bool->Hp->Prop:=fun c H=>if c=true then Qb true H else tQ C b σ H Qb
theorem q8' {a b:Cq}:tQ C (.and a b) σ H Qb=tQ C a σ H (tn' C σ b Qb):=rfl
theorem ww' {a b:Cq}:tQ C (.or a b) σ H Qb=tQ C a σ H (z1' C σ b Qb):=rfl
theorem no' {b:Cq}:tn' C σ b Qb true H=tQ C b σ H Qb:=rfl
theorem np' {b:Cq}:tn' C σ b Qb false H=Qb false H:=rfl
theorem q9' {b:Cq}:z1' C σ b Qb true H=Qb true H:=rfl
theorem ra' {b:Cq}:z1' C σ b Qb false H=tQ C b σ H Qb:=rfl
variable {K:W.Frag} {i j:Int} {x y:Str}
theorem wx':fC' K .Add (.int i) (.int j) H Q=Q (.int (i+j)) H:=rfl
theorem wy':fC' K .Add (.str x) (.str y) H Q=(x.length+y.length<=sizeLine/\Q (.str (x++y)) H):=rfl
theorem wz':fC' K .Sub (.int i) (.int j) H Q=Q (.int (i-j)) H:=propext ⟨fun⟨_,_,e,e',q⟩=>by cases e;cases e';exact q,fun q=>⟨_,_,rfl,rfl,q⟩⟩
theorem wA':fC' K .Mult (.int i) (.int j) H Q=(wg' i j/\Q (.int (i*j)) H):=rfl
theorem rb':fC' K .Mult (.str x) (.int j) H Q=(-1000000<=j/\j<=1000000/\x.length*j.toNat<=1000000/\Q (.str (Txt.mul x j)) H):=rfl
theorem wB':fC' K .Mod (.int i) (.int j) H Q=(0<j/\Q (.int (i % j)) H):=propext ⟨fun⟨_,_,e,e',c,q⟩=>by cases e;cases e';exact⟨c,q⟩,fun q=>⟨_,_,rfl,rfl,q.1,q.2⟩⟩
theorem wC':fC' K .FloorDiv (.int i) (.int j) H Q=(wf' i j/\Q (.int (i / j)) H):=propext ⟨fun⟨_,_,e,e',c,q⟩=>by cases e;cases e';exact⟨c,q⟩,fun q=>⟨_,_,rfl,rfl,q.1,q.2⟩⟩
theorem wD':fC' K .Pow (.int i) (.int j) H Q=(y2' i j/\Q (.int (i ^ j.toNat)) H):=propext ⟨fun⟨_,_,e,e',c,q⟩=>by cases e;cases e';exact⟨c,q⟩,fun q=>⟨_,_,rfl,rfl,q.1,q.2⟩⟩
theorem A5':dS' K .Lt (.int i) (.int j) H Q=Q (.bl (decide (i<j))) H:=propext ⟨fun⟨_,_,e,e',q⟩=>by cases e;cases e';exact q,fun q=>⟨_,_,rfl,rfl,q⟩⟩
theorem A6':dS' K .Gt (.int i) (.int j) H Q=Q (.bl (decide (j<i))) H:=propext ⟨fun⟨_,_,e,e',q⟩=>by cases e;cases e';exact q,fun q=>⟨_,_,rfl,rfl,q⟩⟩
theorem A7':dS' K .GtE (.int i) (.int j) H Q=Q (.bl (decide (j<=i))) H:=propext ⟨fun⟨_,_,e,e',q⟩=>by cases e;cases e';exact q,fun q=>⟨_,_,rfl,rfl,q⟩⟩
theorem A8':dS' K .Eq (.int i) (.int j) H Q=Q (.bl (decide (i=j))) H:=by
 have e:decide (V.int i=V.int j)=decide (i=j):=by simp
 exact propext ⟨fun q=>e ▸ q.2,fun q=>⟨rfl,e.symm ▸ q⟩⟩
theorem wE':dS' K .Eq (.str x) (.str y) H Q=Q (.bl (decide (x=y))) H:=by
 have e:decide (V.str x=V.str y)=decide (x=y):=by simp
 exact propext ⟨fun q=>e ▸ q.2,fun q=>⟨rfl,e.symm ▸ q⟩⟩
theorem rc' {a:Addr}:pm' K (.ref a) (.int i) H Q=(gN' K (.ref a) (.int i) H Q\/gU' K (.ref a) (.int i) H Q):=rfl
def wF' (C:Rc) (r:Css) (D:Ends):Ends:={ D with nx:=tSs C r D }
theorem rd':tSs C .nil D σ H=D.nx σ H:=rfl
theorem nq' {s:Cs} {r:Css}:tSs C (.cons s r) D σ H=tS C s (wF' C r D) σ H:=rfl
theorem hV' {r:Css}:(wF' C r D).nx σ H=tSs C r D σ H:=rfl
theorem re' {r:Css}:(wF' C r D).rt=D.rt:=rfl
theorem rf' {r:Css}:(wF' C r D).bk=D.bk:=rfl
theorem rg' {r:Css}:(wF' C r D).ct=D.ct:=rfl
theorem wG' {e:Ce}:tS C (.ret e) D σ H=tE C e σ H D.rt:=rfl
def wH' (D:Ends) (σ:L2.St):VK:=fun _ H=>D.nx σ H
theorem rh' {e:Ce}:tS C (.expr e) D σ H=tE C e σ H (wH' D σ):=rfl
theorem jS' {v:V}:wH' D σ v H=D.nx σ H:=rfl
def A9' (i:Nat) (D:Ends) (σ:L2.St):VK:=fun x H=>D.nx (σ.set i (some x)) H
theorem wI' {i:Nat} {e:Ce}:tS C (.asg (.name i) e) D σ H=tE C e σ H (A9' i D σ):=rfl
theorem i6' {i:Nat} {v:V}:A9' i D σ v H=D.nx (σ.set i (some v)) H:=rfl
def wJ' (C:Rc) (o i:Ce) (D:Ends) (σ:L2.St):VK:=fun v H=>tE C o σ H fun p H1=>tE C i σ H1 fun k H2=>ew' p k v H2 fun H3=>D.nx σ H3
def wK' (C:Rc) (i:Ce) (v:V) (D:Ends) (σ:L2.St):VK:=fun p H1=>tE C i σ H1 fun k H2=>ew' p k v H2 fun H3=>D.nx σ H3
def wL' (p v:V) (D:Ends) (σ:L2.St):VK:=fun k H2=>ew' p k v H2 fun H3=>D.nx σ H3
theorem wM' {o i e:Ce}:tS C (.asg (.sub o i) e) D σ H=tE C e σ H (wJ' C o i D σ):=rfl
theorem jT' {o i:Ce} {v:V}:wJ' C o i D σ v H=tE C o σ H (wK' C i v D σ):=rfl
theorem jU' {i:Ce} {v p:V}:wK' C i v D σ p H=tE C i σ H (wL' p v D σ):=rfl
theorem jV' {v p k:V}:wL' p v D σ k H=ew' p k v H (D.nx σ):=rfl
def kIf (C:Rc) (a b:Css) (D:Ends) (σ:L2.St):Bool->Hp->Prop:=fun c H=>if c=true then tSs C a D σ H else tSs C b D σ H
theorem Ba' {q:Cq} {a b:Css}:tS C (.ite q a b) D σ H=tQ C q σ H (kIf C a b D σ):=rfl
theorem wN' {a b:Css}:kIf C a b D σ true H=tSs C a D σ H:=rfl
theorem wO' {a b:Css}:kIf C a b D σ false H=tSs C b D σ H:=rfl
theorem bv' {p:Prop} [Decidable p] {F:Bool->Hp->Prop} (h1:p->F true H) (h2:¬p->F false H):F (decide p) H:=by
 by_cases h:p
 .rw[decide_eq_true h];exact h1 h
 .rw[decide_eq_false h];exact h2 h
end
section
variable {C:Rc} {σ:L2.St} {H:Hp} {Q:VK} {D:Ends} {Qb:Bool->Hp->Prop} {Qs:List V->Hp->Prop}
def kA1 (C:Rc) (σ:L2.St) (r:Ces) (Qs:List V->Hp->Prop):VK:=fun x H=>tA C r σ H fun xs H2=>Qs (x :: xs) H2
def kA2 (x:V) (Qs:List V->Hp->Prop):List V->Hp->Prop:=fun xs H=>Qs (x :: xs) H
theorem k3':tA C .nil σ H Qs=Qs [] H:=rfl
theorem eo' {e:Ce} {r:Ces}:tA C (.cons e r) σ H Qs=tE C e σ H (kA1 C σ r Qs):=rfl
theorem c1' {r:Ces} {x:V}:kA1 C σ r Qs x H=tA C r σ H (kA2 x Qs):=rfl
theorem fT' {x:V} {xs:List V}:kA2 x Qs xs H=Qs (x :: xs) H:=rfl
def yG' (Q:VK):List V->Hp->Prop:=fun xs H=>xs.length<=sizeLine/\∀p,H p=none->Q (.ref p) (upd H p (.tup xs))
def Bb' (Q:VK):List V->Hp->Prop:=fun xs H=>xs.length<=sizeLine/\∀p,H p=none->Q (.ref p) (upd H p (.lst xs))
theorem nr' {es:Ces}:tE C (.tup es) σ H Q=tA C es σ H (yG' Q):=rfl
theorem ri' {es:Ces}:tE C (.lst es) σ H Q=tA C es σ H (Bb' Q):=rfl
theorem i7' {xs:List V}:yG' Q xs H=(xs.length<=sizeLine/\∀p,H p=none->Q (.ref p) (upd H p (.tup xs))):=rfl
theorem ns' {xs:List V}:Bb' Q xs H=(xs.length<=sizeLine/\∀p,H p=none->Q (.ref p) (upd H p (.lst xs))):=rfl
def to' (o:Option Sp) (E:XK) (Q:VK):List V->Hp->Prop:=fun vs H=>match o with
 |some sp=>sp (vs++[]) H Q E
 |none=>False
theorem tp' {f:Str} {es:Ces} {sp:Sp} (h:C.fs f=some sp):tE C (.call f es) σ H Q=tA C es σ H (to' (some sp) (C.xk σ) Q):=by
 show(match C.fs f with|some sp=>oN' sp [] (C.xk σ) (tA C es) σ H Q|none=>False)=_
 rw[h]
 rfl
theorem jW' {sp:Sp} {E:XK} {vs:List V}:to' (some sp) E Q vs H=sp vs H Q E:=by
 show sp (vs++[]) H Q E=_
 rw[bR]
def Bc' (C:Rc) (f:Bf) (Q:VK):List V->Hp->Prop:=fun vs H=>di' C.K f vs H Q
theorem jX' {f:Bf} {es:Ces}:tE C (.blt f es) σ H Q=tA C es σ H (Bc' C f Q):=rfl
theorem fk' {f:Bf} {vs:List V}:Bc' C f Q vs H=di' C.K f vs H Q:=rfl
def wP' (C:Rc) (σ:L2.St) (m:Mf) (es:Ces) (Q:VK):VK:=fun x H=>tyV C.K (hG' m) x H/\tA C es σ H fun xs H2=>ll' C.K m x xs H2 Q
def wQ' (C:Rc) (m:Mf) (x:V) (Q:VK):List V->Hp->Prop:=fun xs H=>ll' C.K m x xs H Q
theorem rj' {m:Mf} {o:Ce} {es:Ces}:tE C (.met m o es) σ H Q=tE C o σ H (wP' C σ m es Q):=rfl
theorem jY' {m:Mf} {es:Ces} {x:V}:wP' C σ m es Q x H=(tyV C.K (hG' m) x H/\tA C es σ H (wQ' C m x Q)):=rfl
theorem jZ' {m:Mf} {x:V} {xs:List V}:wQ' C m x Q xs H=ll' C.K m x xs H Q:=rfl
def z2' (C:Rc) (σ:L2.St) (a b:Ce) (Q:VK):Bool->Hp->Prop:=fun c H=>if c=true then tE C a σ H Q else tE C b σ H Q
theorem rk' {q:Cq} {a b:Ce}:tE C (.ife q a b) σ H Q=tQ C q σ H (z2' C σ a b Q):=rfl
theorem rl' {a b:Ce}:z2' C σ a b Q true H=tE C a σ H Q:=rfl
theorem rm' {a b:Ce}:z2' C σ a b Q false H=tE C b σ H Q:=rfl
def wR' (Q:VK):VK:=fun x H=>∃c,x=.bl c/\Q (.bl (!c)) H
theorem rn' {a:Ce}:tE C (.not a) σ H Q=tE C a σ H (wR' Q):=rfl
theorem j0' {c:Bool}:wR' Q (.bl c) H=Q (.bl (!c)) H:=propext ⟨fun⟨u,e,q⟩=>by cases e;exact q,fun q=>⟨c,rfl,q⟩⟩
def wS' (C:Rc) (σ:L2.St) (b:Ce) (Q:VK):VK:=fun x H=>∃c,x=.bl c/\if c=true then tE C b σ H Q else Q (.bl false) H
def BU' (C:Rc) (σ:L2.St) (b:Ce) (Q:VK):VK:=fun x H=>∃c,x=.bl c/\if c=true then Q (.bl true) H else tE C b σ H Q
theorem ro' {a b:Ce}:tE C (.and a b) σ H Q=tE C a σ H (wS' C σ b Q):=rfl
theorem wT' {a b:Ce}:tE C (.or a b) σ H Q=tE C a σ H (BU' C σ b Q):=rfl
theorem nt' {b:Ce}:wS' C σ b Q (.bl true) H=tE C b σ H Q:=propext ⟨fun⟨u,e,q⟩=>by cases e;exact q,fun q=>⟨_,rfl,q⟩⟩
def z3' (C:Rc) (Qb:Bool->Hp->Prop):VK:=fun x H=>∃k,vb' C.K x H k/\Qb k H
theorem rp' {e:Ce}:tQ C (.val e) σ H Qb=tE C e σ H (z3' C Qb):=rfl
theorem nu' {b:Bool}:z3' C Qb (.bl b) H=Qb b H:=propext ⟨fun⟨u,e,q⟩=>by
  have e:u=b:=e
  subst e
  exact q,fun q=>⟨b,rfl,q⟩⟩
def wU' (C:Rc) (σ:L2.St) (lo hi:Co) (Q:VK):VK:=fun x H=>tO C lo σ H fun l H2=>tO C hi σ H2 fun u H3=>rSl C.K x l u H3 Q
def wV' (C:Rc) (σ:L2.St) (hi:Co) (x:V) (Q:VK):Option Int->Hp->Prop:=fun l H=>tO C hi σ H fun u H3=>rSl C.K x l u H3 Q
def wW' (C:Rc) (x:V) (l:Option Int) (Q:VK):Option Int->Hp->Prop:=fun u H=>rSl C.K x l u H Q
theorem rq' {a:Ce} {lo hi:Co}:tE C (.cut a lo hi) σ H Q=tE C a σ H (wU' C σ lo hi Q):=rfl
theorem j1' {lo hi:Co} {x:V}:wU' C σ lo hi Q x H=tO C lo σ H (wV' C σ hi x Q):=rfl
theorem j2' {hi:Co} {x:V} {l:Option Int}:wV' C σ hi x Q l H=tO C hi σ H (wW' C x l Q):=rfl
theorem j3' {x:V} {l u:Option Int}:wW' C x l Q u H=rSl C.K x l u H Q:=rfl
variable {Qo:Option Int->Hp->Prop}
def pA' (Qo:Option Int->Hp->Prop):VK:=fun x H=>∃i,x=.int i/\Qo (some i) H
theorem rr':tO C .none σ H Qo=Qo none H:=rfl
theorem rs' {e:Ce}:tO C (.some e) σ H Qo=tE C e σ H (pA' Qo):=rfl
theorem hY' {i:Int}:pA' Qo (.int i) H=Qo (some i) H:=propext ⟨fun⟨u,e,q⟩=>by cases e;exact q,fun q=>⟨i,rfl,q⟩⟩
theorem rt' {K:W.Frag} {a:Addr} {l u:Option Int}:rSl K (.ref a) l u H Q=(yq' K (.ref a) l u H Q\/yp' K (.ref a) l u H Q\/yz' K (.ref a) l u H Q):=rfl
def Bd' (i:Nat) (sub:Bool) (x:V) (D:Ends) (σ:L2.St):VK:=fun y H=>∃a b,x=.int a/\y=.int b/\D.nx (σ.set i (some (.int (if sub then a-b else a+b)))) H
theorem tq' {i:Nat} {sub:Bool} {e:Ce} {a:Int} (h:σ[i]?=some (some (.int a))):tS C (.aug i sub e) D σ H=tE C e σ H (Bd' i sub (.int a) D σ):=by
 show(∃x,σ[i]?=some (some x)/\tE C e σ H fun y H1=>(ipI fun i j=>if sub then i-j else i+j) x y H1 fun z H2=>D.nx (σ.set i (some z)) H2)=_
 rw[h]
 exact propext ⟨fun⟨x,e,q⟩=>by cases e;exact q,fun q=>⟨_,rfl,q⟩⟩
theorem j4' {i:Nat} {sub:Bool} {a b:Int}:Bd' i sub (.int a) D σ (.int b) H=D.nx (σ.set i (some (.int (if sub then a-b else a+b)))) H:=propext ⟨fun⟨_,_,e,e',q⟩=>by cases e;cases e';exact q,fun q=>⟨_,_,rfl,rfl,q⟩⟩
def tr' (C:Rc) (σ:L2.St) (i j:Nat) (b:Ce) (D:Ends):VK:=fun v H=>tE C b σ H fun w H1=>D.nx ((σ.set i (some v)).set j (some w)) H1
def wX' (σ:L2.St) (i j:Nat) (v:V) (D:Ends):VK:=fun w H=>D.nx ((σ.set i (some v)).set j (some w)) H
theorem j5' {i j:Nat} {b:Ce} {v:V}:tr' C σ i j b D v H=tE C b σ H (wX' σ i j v D):=rfl
theorem j6' {i j:Nat} {v w:V}:wX' σ i j v D w H=D.nx ((σ.set i (some v)).set j (some w)) H:=rfl
end
def cb (b:Bool):Nat:=if b then 49 else 48
def tx (l:List Bool):Str:=⟨(l.map cb).toArray⟩
theorem wY' {a b:Bool} (h:cb a=cb b):a=b:=by cases a<;>cases b<;>first|rfl|cases h
theorem j7' {a b:List Bool} (h:tx a=tx b):a=b:=by
 have h1:(a.map cb).toArray=(b.map cb).toArray:=congrArg Str.cps h
 have h2:a.map cb=b.map cb:=by simpa using h1
 exact List.map_inj_right (f:=cb) (fun x y=>wY') |>.mp h2
theorem c2' {a:List Bool}:(tx a).length=a.length:=by show(a.map cb).toArray.size=_;simp
theorem fU' {a:List Bool}:(tx a).cps.toList=a.map cb:=rfl
theorem i8' {a:List Bool}:(tx a).cps.size=a.length:=by show(a.map cb).toArray.size=_;simp
theorem ru' {a:List Bool} {i:Nat}:(tx a).cps[i]?=a[i]?.map cb:=by show(a.map cb).toArray[i]?=_;simp
theorem j8' {a b:List Bool}:tx a++tx b=tx (a++b):=by
 show(⟨(a.map cb).toArray++(b.map cb).toArray⟩:Str)=⟨((a++b).map cb).toArray⟩
 simp
theorem wZ':(PySem.Str.ofString "01")=tx [false,true]:=⋯
theorem Be':(PySem.Str.ofString "0")=tx [false]:=⋯
theorem Bf':(PySem.Str.ofString "1")=tx [true]:=⋯
theorem rv':(PySem.Str.ofString "")=tx []:=⋯
theorem rx' {c:Bool}:PySem.intText? (tx [c])=some (if c then 1 else 0):=by cases c<;>decide +kernel
set_option tactic.hygienic true in
theorem ry' {a:List Bool} {n:Nat}:Txt.mul (tx a) n=tx (ay n a).flatten:=by
 unfold Txt.mul
 have key:∀(n:Nat) (acc:List Bool),(ay n (tx a).cps).foldl (·++·) (tx acc).cps=(tx (acc++(ay n a).flatten)).cps:=by
  intro n
  induction n with
  |zero=>intro acc;simp
  |succ n ih=>
   intro acc
   rw[bv,cg]
   have e:(tx acc).cps++(tx a).cps=(tx (acc++a)).cps:=congrArg Str.cps (j8' (a:=acc) (b:=a))
   rw[e,ih,bv,ba,bp]
 split
 .have:n=0:=by omega
  subst this
  rfl
 .split
  .rename_i h1 h2
   simp only[Bool.or_eq_true,beq_iff_eq]at h2
   rcases h2 with h2|h2
   .have:n=1:=by omega
    subst this
    simp
   .rw[c2']at h2
    have e:a=[]:=cB.mp h2
    subst e
    congr 1
    induction n with
    |zero=>rfl
    |succ n ih=>simp
  .have:=key n []
   show(⟨_⟩:Str)=_
   simp only[bf]
   exact congrArg Str.mk (this.trans (by rw[cP];rfl))
theorem am' {N:List Str} {vs:List V} {n:Nat} (h:N.length=n):L2.aA' N vs=vs.map some++ay (n-vs.length) none:=by subst h;rfl
section
variable {C:Rc} {σ:L2.St} {H:Hp} {Q:VK} {D:Ends} {Qb:Bool->Hp->Prop}
theorem rz' {i:Nat} {v:V} {R:L2.St->Hp->Prop}:tG C (.name i) v σ H R=R (σ.set i (some v)) H:=rfl
theorem c3' {i j:Nat} {a:Addr} {x y:V} {R:L2.St->Hp->Prop} (h:SqT C.K H a [x,y]) (q:R ((σ.set i (some x)).set j (some y)) H):tG C (.tup (.cons (.name i) (.cons (.name j) .nil))) (.ref a) σ H R:=
 ⟨a,[x,y],rfl,.inl h,rfl,_,_,rfl,_,_,rfl,rfl,q⟩
theorem w0' {i j k:Nat} {a:Addr} {x y z:V} {R:L2.St->Hp->Prop} (h:SqT C.K H a [x,y,z]) (q:R (((σ.set i (some x)).set j (some y)).set k (some z)) H):tG C (.tup (.cons (.name i) (.cons (.name j) (.cons (.name k) .nil)))) (.ref a) σ H R:=
 ⟨a,[x,y,z],rfl,.inl h,rfl,_,_,rfl,_,_,rfl,_,_,rfl,rfl,q⟩
def oA' (C:Rc) (t:Ct) (b:Css) (D:Ends) (σ:L2.St) (J:It) (H1:Hp):Prop:=∃W:Nat->Nat->L2.St->Hp->Prop,(∃m,W 0 m σ H1)/\∀i m σ H,W i m σ H->
 (J.stop i H/\D.nx σ H)\/(J.go i H/\∃N:L2.St->Hp->Prop,(∀σ' H',N σ' H'->∃m',m'<m/\W (i+1) m' σ' H')/\∀x H',J.yld i H x H'->tG C t x σ H' fun σ2 H2=>tSs C b { D with nx:=N,ct:=N,bk:=D.nx } σ2 H2)
theorem w1' {t:Ct} {it:Ci} {b:Css}:tS C (.for_ t it b) D σ H=tI C it σ H (oA' C t b D σ):=rfl
def kIv (C:Rc) (R:It->Hp->Prop):VK:=fun x H1=>
 (∃a,x=.ref a/\(∃xs,SqL C.K H1 a xs)/\R (Itl C.K a) H1)\/(∃a,x=.ref a/\(∃xs,SqT C.K H1 a xs)/\R (Itt C.K a) H1)\/∃z,x=.str z/\R (Its z) H1
theorem w2' {e:Ce} {R:It->Hp->Prop}:tI C (.val e) σ H R=tE C e σ H (kIv C R):=rfl
def kR1 (R:It->Hp->Prop):VK:=fun x H1=>∃j:Int,x=.int j/\-(2 ^ 62)<=j/\j<2 ^ 62/\R (Itr 0 j.toNat) H1
theorem pB' {e:Ce} {R:It->Hp->Prop}:tI C (.range1 e) σ H R=tE C e σ H fun x H1=>∃j:Int,[x]=[.int j]/\-(2 ^ 62)<=j/\j<2 ^ 62/\R (Itr 0 j.toNat) H1:=rfl
theorem hZ' {e:Ce} {R:It->Hp->Prop}:tI C (.range1 e) σ H R=tE C e σ H (kR1 R):=by
 rw[pB']
 congr 1
 funext x H1
 unfold kR1
 simp only[List.cons.injEq,and_true]
def yH' (R:It->Hp->Prop) (x:V):VK:=fun y H1=>∃i j:Int,x=.int i/\y=.int j/\(-(2 ^ 62)<=i/\i<2 ^ 62/\-(2 ^ 62)<=j/\j<2 ^ 62)/\R (Itr i (j-i).toNat) H1
def z4' (C:Rc) (σ:L2.St) (e:Ce) (R:It->Hp->Prop):VK:=fun x H1=>tE C e σ H1 (yH' R x)
theorem h0' {a b:Ce} {R:It->Hp->Prop}:tI C (.range2 a b) σ H R=tE C a σ H (z4' C σ b R):=by
 show(tE C a σ H fun x H1=>tE C b σ H1 fun y H2=>∃i j:Int,[x,y]=[.int i,.int j]/\(-(2 ^ 62)<=i/\i<2 ^ 62/\-(2 ^ 62)<=j/\j<2 ^ 62)/\R (Itr i (j-i).toNat) H2)=_
 congr 1
 funext x H1
 unfold z4'
 congr 1
 funext y H2
 unfold yH'
 simp only[List.cons.injEq,and_true,and_assoc]
theorem nv' {e:Ce} {R:It->Hp->Prop} {x:V}:z4' C σ e R x H=tE C e σ H (yH' R x):=rfl
def kZ2 (C:Rc) (R:It->Hp->Prop) (x:V):VK:=fun y H1=>∃(k j:Bool) (a b:Addr),x=.ref a/\y=.ref b/\(∃xs,Sq k C.K H1 a xs)/\(∃ys,Sq j C.K H1 b ys)/\R (vt' k j C.K a b) H1
def kZ1 (C:Rc) (σ:L2.St) (e:Ce) (R:It->Hp->Prop):VK:=fun x H1=>tE C e σ H1 (kZ2 C R x)
theorem w3' {a b:Ce} {R:It->Hp->Prop}:tI C (.zip a b) σ H R=tE C a σ H (kZ1 C σ b R):=by
 show(tE C a σ H fun x H1=>tE C b σ H1 fun y H2=>∃(k j:Bool) (p q:Addr),[x,y]=[.ref p,.ref q]/\(∃xs,Sq k C.K H2 p xs)/\(∃ys,Sq j C.K H2 q ys)/\R (vt' k j C.K p q) H2)=_
 congr 1
 funext x H1
 unfold kZ1
 congr 1
 funext y H2
 unfold kZ2
 simp only[List.cons.injEq,and_true,and_assoc]
theorem rA' {e:Ce} {R:It->Hp->Prop} {x:V}:kZ1 C σ e R x H=tE C e σ H (kZ2 C R x):=rfl
def kEn (C:Rc) (R:It->Hp->Prop):VK:=fun x H1=>(∃a,x=.ref a/\(∃xs,SqL C.K H1 a xs)/\R (Ite C.K a) H1)\/(∃z,x=.str z/\R (uF' z) H1)\/∃a,x=.ref a/\(∃xs,SqT C.K H1 a xs)/\R (yr' C.K a) H1
theorem rB' {a:Ce} {R:It->Hp->Prop}:tI C (.enum a) σ H R=tE C a σ H (kEn C R):=by
 show(tE C a σ H fun x H1=>∃y,[x]=[y]/\((∃a,y=.ref a/\(∃xs,SqL C.K H1 a xs)/\R (Ite C.K a) H1)\/(∃z,y=.str z/\R (uF' z) H1)\/∃a,y=.ref a/\(∃xs,SqT C.K H1 a xs)/\R (yr' C.K a) H1))=_
 congr 1
 funext x H1
 unfold kEn
 exact propext ⟨fun⟨y,e,q⟩=>by cases e;exact q,fun q=>⟨x,rfl,q⟩⟩
theorem j9' {R:It->Hp->Prop} {a:Addr} {xs:List V} (h:SqL C.K H a xs) (q:R (Ite C.K a) H):kEn C R (.ref a) H:=.inl ⟨a,rfl,⟨xs,h⟩,q⟩
theorem w4' {R:It->Hp->Prop} {z:Str} (q:R (uF' z) H):kEn C R (.str z) H:=.inr (.inl ⟨z,rfl,q⟩)
theorem fl' {R:It->Hp->Prop} {z:Str} (q:R (Its z) H):kIv C R (.str z) H:=.inr (.inr ⟨z,rfl,q⟩)
theorem aJ' {R:It->Hp->Prop} {a:Addr} {xs:List V} (h:SqL C.K H a xs) (q:R (Itl C.K a) H):kIv C R (.ref a) H:=.inl ⟨a,rfl,⟨xs,h⟩,q⟩
theorem dV' {R:It->Hp->Prop} {a:Addr} {xs:List V} (h:SqT C.K H a xs) (q:R (Itt C.K a) H):kIv C R (.ref a) H:=.inr (.inl ⟨a,rfl,⟨xs,h⟩,q⟩)
theorem gt' {R:It->Hp->Prop} {j:Int} (h0:-(2 ^ 62)<=j) (h1:j<2 ^ 62) (q:R (Itr 0 j.toNat) H):kR1 R (.int j) H:=⟨j,rfl,h0,h1,q⟩
theorem z5' {R:It->Hp->Prop} {i j:Int} (h0:-(2 ^ 62)<=i) (h1:i<2 ^ 62) (h2:-(2 ^ 62)<=j) (h3:j<2 ^ 62) (q:R (Itr i (j-i).toNat) H):yH' R (.int i) (.int j) H:=⟨i,j,rfl,rfl,⟨h0,h1,h2,h3⟩,q⟩
theorem ts' {R:It->Hp->Prop} {a b:Addr} {xs ys:List V} (h:SqL C.K H a xs) (h2:SqL C.K H b ys) (q:R (Itz false C.K a b) H):kZ2 C R (.ref a) (.ref b) H:=⟨false,false,a,b,rfl,rfl,⟨xs,h⟩,⟨ys,h2⟩,q⟩
theorem w5' {a:Addr} {xs:List V} {t:Ct} {b:Css} (Pv:Nat->L2.St->Hp->Prop) (h0:Pv 0 σ H) (hl:∀i σ H,i<=xs.length->Pv i σ H->SqL C.K H a xs)
  (hs:∀i x σ H,xs[i]?=some x->Pv i σ H->tG C t x σ H (tSs C b { D with nx:=Pv (i+1),ct:=Pv (i+1),bk:=D.nx })) (hd:∀σ H,Pv xs.length σ H->D.nx σ H):oA' C t b D σ (Itl C.K a) H:=oJ' Pv h0 hl hs hd
theorem z6' {a:Addr} {xs:List V} {t:Ct} {b:Css} (Pv:Nat->L2.St->Hp->Prop) (h0:Pv 0 σ H) (hl:∀i σ H,i<=xs.length->Pv i σ H->SqT C.K H a xs)
  (hs:∀i x σ H,xs[i]?=some x->Pv i σ H->tG C t x σ H (tSs C b { D with nx:=Pv (i+1),ct:=Pv (i+1),bk:=D.nx })) (hd:∀σ H,Pv xs.length σ H->D.nx σ H):oA' C t b D σ (Itt C.K a) H:=sn' Pv h0 hl hs hd
theorem k4' {lo:Int} {n:Nat} {t:Ct} {b:Css} (Pv:Nat->L2.St->Hp->Prop) (h0:Pv 0 σ H)
  (hs:∀i σ H,i<n->Pv i σ H->tG C t (.int (lo+i)) σ H (tSs C b { D with nx:=Pv (i+1),ct:=Pv (i+1),bk:=D.nx })) (hd:∀σ H,Pv n σ H->D.nx σ H):oA' C t b D σ (Itr lo n) H:=lz' Pv h0 hs hd
theorem z7' {z:Str} {t:Ct} {b:Css} (Pv:Nat->L2.St->Hp->Prop) (h0:Pv 0 σ H)
  (hs:∀i c σ H,z.cps[i]?=some c->Pv i σ H->tG C t (.str ⟨#[c]⟩) σ H (tSs C b { D with nx:=Pv (i+1),ct:=Pv (i+1),bk:=D.nx })) (hd:∀σ H,Pv z.cps.size σ H->D.nx σ H):oA' C t b D σ (Its z) H:=by
 refine⟨fun i m σ H=>m=z.cps.size-i/\i<=z.cps.size/\Pv i σ H,⟨z.cps.size,by simp,aP _,h0⟩,?_⟩
 rintro i m σ H ⟨rfl,hi,p⟩
 by_cases hlt:i<z.cps.size
 .refine .inr ⟨hlt,Pv (i+1),fun σ' H' p'=>⟨z.cps.size-(i+1),⋯,rfl,hlt,p'⟩,fun x H' y=>?_⟩
  obtain⟨e,c,hc,rfl⟩:=y
  subst e
  exact hs i c σ _ hc p
 .have e:i=z.cps.size:=by omega
  subst e
  exact .inl ⟨aj _,hd σ H p⟩
theorem w6' {a:Addr} {xs:List V} {t:Ct} {b:Css} (Pv:Nat->L2.St->Hp->Prop) (h0:Pv 0 σ H) (hl:∀i σ H,i<=xs.length->Pv i σ H->SqL C.K H a xs)
  (hs:∀i x σ H p,xs[i]?=some x->H p=none->Pv i σ H->tG C t (.ref p) σ (upd H p (.tup [.int i,x])) (tSs C b { D with nx:=Pv (i+1),ct:=Pv (i+1),bk:=D.nx })) (hd:∀σ H,Pv xs.length σ H->D.nx σ H):oA' C t b D σ (Ite C.K a) H:=by
 refine⟨fun i m σ H=>m=xs.length-i/\i<=xs.length/\Pv i σ H,⟨xs.length,by simp,aP _,h0⟩,?_⟩
 rintro i m σ H ⟨rfl,hi,p⟩
 have q:=hl i σ H hi p
 by_cases hlt:i<xs.length
 .refine .inr ⟨⟨xs,xs[i],q,by simp[hlt]⟩,Pv (i+1),fun σ' H' p'=>⟨xs.length-(i+1),⋯,rfl,hlt,p'⟩,fun x H' y=>?_⟩
  obtain⟨ad,v,rfl,hn,y,rfl⟩:=y
  exact hs i v σ _ ad (y xs q) hn p
 .have e:i=xs.length:=by omega
  subst e
  exact .inl ⟨⟨xs,q,rfl⟩,hd σ H p⟩
theorem tt' {l:List Bool} {t:Ct} {b:Css} (Pv:Nat->L2.St->Hp->Prop) (h0:Pv 0 σ H)
  (hs:∀i c σ H p,l[i]?=some c->H p=none->Pv i σ H->tG C t (.ref p) σ (upd H p (.tup [.int i,.str (tx [c])])) (tSs C b { D with nx:=Pv (i+1),ct:=Pv (i+1),bk:=D.nx })) (hd:∀σ H,Pv l.length σ H->D.nx σ H):oA' C t b D σ (uF' (tx l)) H:=by
 refine⟨fun i m σ H=>m=l.length-i/\i<=l.length/\Pv i σ H,⟨l.length,by simp,aP _,h0⟩,?_⟩
 rintro i m σ H ⟨rfl,hi,p⟩
 by_cases hlt:i<l.length
 .refine .inr ⟨(show i<(tx l).cps.size by rw[i8'];exact hlt),Pv (i+1),fun σ' H' p'=>⟨l.length-(i+1),⋯,rfl,hlt,p'⟩,fun x H' y=>?_⟩
  obtain⟨ad,v,rfl,hn,⟨c,hc,rfl⟩,rfl⟩:=y
  rw[ru',af hlt]at hc
  cases hc
  exact hs i l[i] σ _ ad (af hlt) hn p
 .have e:i=l.length:=by omega
  subst e
  exact .inl ⟨(show(tx l).cps.size=l.length from i8'),hd σ H p⟩
theorem nw' {l:List Bool} {t:Ct} {b:Css} (Pv:Nat->L2.St->Hp->Prop) (h0:Pv 0 σ H)
  (hs:∀i c σ H,l[i]?=some c->Pv i σ H->tG C t (.str (tx [c])) σ H (tSs C b { D with nx:=Pv (i+1),ct:=Pv (i+1),bk:=D.nx })) (hd:∀σ H,Pv l.length σ H->D.nx σ H):oA' C t b D σ (Its (tx l)) H:=by
 refine z7' Pv h0 (fun i c σ H hc p=>?_) fun σ H p=>hd σ H (by rw[i8']at p;exact p)
 rw[ru']at hc
 cases hl:l[i]? with
 |none=>rw[hl]at hc;cases hc
 |some d=>
  rw[hl]at hc
  cases hc
  exact hs i d σ H hl p
def yI' (C:Rc) (b:Css) (D:Ends) (N:L2.St->Hp->Prop) (σ:L2.St):Bool->Hp->Prop:=fun c H1=>if c=true then ∃N':L2.St->Hp->Prop,(∀σ' H',N' σ' H'->N σ' H')/\tSs C b { D with nx:=N',ct:=N',bk:=D.nx } σ H1 else D.nx σ H1
theorem w7' {q:Cq} {b:Css} (Pv:Nat->L2.St->Hp->Prop) (m:Nat) (h0:Pv m σ H) (hs:∀m σ H,Pv m σ H->tQ C q σ H (yI' C b D (fun σ' H'=>∃m',m'<m/\Pv m' σ' H') σ)):tS C (.whl q b) D σ H:=⟨Pv,⟨m,h0⟩,hs⟩
theorem w8' {b:Css} {N:L2.St->Hp->Prop} (h:tSs C b { D with nx:=N,ct:=N,bk:=D.nx } σ H):yI' C b D N σ true H:=⟨N,fun _ _ q=>q,h⟩
theorem w9' {b:Css} {N:L2.St->Hp->Prop} (h:D.nx σ H):yI' C b D N σ false H:=by unfold yI';rw[if_neg (by decide)];exact h
def h5' (xs:List V) (P:List V->Hp->Prop):VK:=fun v H=>xs.length<sizeLine/\P (xs++[v]) H
def kCT (C:Rc) (elt:Ce) (xs:List V) (P:List V->Hp->Prop) (σ:L2.St):Bool->Hp->Prop:=fun ok H=>if ok=true then tE C elt σ H (h5' xs P)else P xs H
def kCG (C:Rc) (elt:Ce) (q:Cqo) (xs:List V) (P:List V->Hp->Prop):L2.St->Hp->Prop:=fun σ H=>tQo C q σ H (kCT C elt xs P σ)
theorem xa' {elt:Ce} {xs:List V} {P:List V->Hp->Prop}:kCG C elt .none xs P σ H=tE C elt σ H (h5' xs P):=rfl
theorem xb' {elt:Ce} {q:Cq} {xs:List V} {P:List V->Hp->Prop}:kCG C elt (.some q) xs P σ H=tQ C q σ H (kCT C elt xs P σ):=rfl
theorem xc' {elt:Ce} {xs:List V} {P:List V->Hp->Prop}:kCT C elt xs P σ true H=tE C elt σ H (h5' xs P):=rfl
theorem xd' {elt:Ce} {xs:List V} {P:List V->Hp->Prop}:kCT C elt xs P σ false H=P xs H:=rfl
theorem ka' {xs:List V} {P:List V->Hp->Prop} {v:V}:h5' xs P v H=(xs.length<sizeLine/\P (xs++[v]) H):=rfl
def rC' (Q:VK) (xs:List V) (H2:Hp):Prop:=∀p,H2 p=none->Q (.ref p) (upd H2 p (.lst xs))
def k5' (C:Rc) (elt:Ce) (own:List Nat) (t:Ct) (q:Cqo) (σ:L2.St) (Q:VK) (J:It) (H1:Hp):Prop:=bi' own (tG C t) (tQo C q) (e5' (tE C elt)) J σ [] H1 (rC' Q)
theorem nx' {elt:Ce} {own:List Nat} {t:Ct} {it:Ci} {q:Cqo}:tE C (.comp elt own t it q .nil) σ H Q=tI C it σ H (k5' C elt own t q σ Q):=rfl
theorem gu' {elt:Ce} {own:List Nat} {t:Ct} {q:Cqo} {J:It} {n:Nat} (Pv:Nat->List V->Hp->Prop) (h0:Pv 0 [] H) (hgo:∀i xs H,i<n->Pv i xs H->J.go i H) (hstop:∀xs H,Pv n xs H->J.stop n H)
  (hs:∀i xs H x H' (R:List V->Hp->Prop),i<n->Pv i xs H->J.yld i H x H'->(∀ys H2,Pv (i+1) ys H2->R ys H2)->tG C t x (clr own σ) H' (kCG C elt q xs R)) (hd:∀xs H,Pv n xs H->rC' Q xs H):k5' C elt own t q σ Q J H:=by
 refine⟨fun i m xs H=>m=n-i/\i<=n/\Pv i xs H,⟨n,by simp,aP _,h0⟩,?_⟩
 rintro i m xs H ⟨rfl,hi,p⟩
 by_cases hlt:i<n
 .refine .inr ⟨hgo i xs H hlt p,fun x H' y=>?_⟩
  exact hs i xs H x H' (fun c H4=>∃m',m'<n-i/\(m'=n-(i+1)/\i+1<=n/\Pv (i+1) c H4)) hlt p y fun ys H2 p2=>⟨n-(i+1),⋯,rfl,hlt,p2⟩
 .have e:i=n:=by omega
  subst e
  exact .inl ⟨hstop xs H p,hd xs H p⟩
theorem dj' {elt:Ce} {own:List Nat} {t:Ct} {q:Cqo} {a:Addr} {vs:List V} (Pv:Nat->List V->Hp->Prop) (h0:Pv 0 [] H) (hl:∀i xs H,Pv i xs H->SqL C.K H a vs)
  (hs:∀i xs H x (R:List V->Hp->Prop),vs[i]?=some x->Pv i xs H->(∀ys H2,Pv (i+1) ys H2->R ys H2)->tG C t x (clr own σ) H (kCG C elt q xs R)) (hd:∀xs H,Pv vs.length xs H->rC' Q xs H):k5' C elt own t q σ Q (Itl C.K a) H:=
 gu' (n:=vs.length) Pv h0 (fun i xs H hi p=>⟨vs,vs[i],hl i xs H p,by simp[hi]⟩) (fun xs H p=>⟨vs,hl _ xs H p,aj _⟩) (fun i xs H x H' R hi p y k=>by
  obtain⟨e,y⟩:=y
  subst e
  exact hs i xs H' x R (y vs (hl i xs H' p)) p k) hd
theorem xe' {elt:Ce} {own:List Nat} {t:Ct} {q:Cqo} {a:Addr} {vs:List V} (Pv:Nat->List V->Hp->Prop) (h0:Pv 0 [] H) (hl:∀i xs H,Pv i xs H->SqT C.K H a vs)
  (hs:∀i xs H x (R:List V->Hp->Prop),vs[i]?=some x->Pv i xs H->(∀ys H2,Pv (i+1) ys H2->R ys H2)->tG C t x (clr own σ) H (kCG C elt q xs R)) (hd:∀xs H,Pv vs.length xs H->rC' Q xs H):k5' C elt own t q σ Q (Itt C.K a) H:=
 gu' (n:=vs.length) Pv h0 (fun i xs H hi p=>⟨vs,vs[i],hl i xs H p,by simp[hi]⟩) (fun xs H p=>⟨vs,hl _ xs H p,aj _⟩) (fun i xs H x H' R hi p y k=>by
  obtain⟨e,y⟩:=y
  subst e
  exact hs i xs H' x R (y vs (hl i xs H' p)) p k) hd
theorem ny' {elt:Ce} {own:List Nat} {t:Ct} {q:Cqo} {lo:Int} {n:Nat} (Pv:Nat->List V->Hp->Prop) (h0:Pv 0 [] H)
  (hs:∀i xs H (R:List V->Hp->Prop),i<n->Pv i xs H->(∀ys H2,Pv (i+1) ys H2->R ys H2)->tG C t (.int (lo+i)) (clr own σ) H (kCG C elt q xs R)) (hd:∀xs H,Pv n xs H->rC' Q xs H):k5' C elt own t q σ Q (Itr lo n) H:=
 gu' (n:=n) Pv h0 (fun i xs H hi p=>hi) (fun xs H p=>aj _) (fun i xs H x H' R hi p y k=>by
  obtain⟨e,rfl⟩:=y
  subst e
  exact hs i xs H' R hi p k) hd
end
section
variable {C:Rc} {K:W.Frag} {σ:L2.St} {H:Hp} {Q:VK} {D:Ends} {Qb:Bool->Hp->Prop}
theorem ag' {f:Str} {es:Ces} {sp:Sp} (h:C.fs f=some sp) (q:tA C es σ H (to' (some sp) (C.xk σ) Q)):tE C (.call f es) σ H Q:=by
 rw[tp' h]
 exact q
theorem k6' {x:Str}:di' K .len [.str x] H Q=(x.length<=sizeLine/\Q (.int x.length) H):=propext ⟨fun⟨u,n,e,h,q⟩=>by cases e;obtain⟨h1,h2⟩:=h;subst h2;exact⟨h1,q⟩,fun q=>⟨_,_,rfl,⟨q.1,rfl⟩,q.2⟩⟩
theorem h6' {l:List Bool}:di' K .len [.str (tx l)] H Q=(l.length<=sizeLine/\Q (.int l.length) H):=by rw[k6',c2']
theorem dw' {a:Addr} {xs:List V} (h:SqL K H a xs) (q:Q (.int xs.length) H):di' K .len [.ref a] H Q:=⟨_,_,rfl,.inl ⟨xs,h,rfl⟩,q⟩
theorem ef' {a:Addr} {xs:List V} (h:SqT K H a xs) (q:Q (.int xs.length) H):di' K .len [.ref a] H Q:=⟨_,_,rfl,.inr ⟨xs,h,rfl⟩,q⟩
theorem rD' {i:Int}:di' K .abs [.int i] H Q=Q (.int (if i<0 then -i else i)) H:=propext ⟨fun⟨u,e,q⟩=>by cases e;exact q,fun q=>⟨_,rfl,q⟩⟩
theorem fV' {i:Int}:di' K .int [.int i] H Q=Q (.int i) H:=rfl
theorem h7' {k:Bool}:di' K .int [.bl k] H Q=Q (.int (if k then 1 else 0)) H:=rfl
theorem h8' {c:Bool}:di' K .int [.str (tx [c])] H Q=Q (.int (if c then 1 else 0)) H:=propext ⟨fun⟨n,e,_,q⟩=>by rw[rx']at e;cases e;exact q,fun q=>⟨_,rx',by rw[c2',List.length_singleton];decide,q⟩⟩
theorem nz' {i j:Int}:di' K .max [.int i,.int j] H Q=Q (.int (if j > i then j else i)) H:=rfl
theorem nA' {i j:Int}:di' K .min [.int i,.int j] H Q=Q (.int (if j<i then j else i)) H:=rfl
theorem xf' {a:Addr} {bs:List Bool} (h:SqL K H a (bs.map V.bl)) (q:Q (.bl (bs.all id)) H):di' K .all [.ref a] H Q:=⟨a,bs,rfl,h,q⟩
theorem xg' {x:V} {T c:String} (h:g3' H x=some T) (hT:T∈eb') (hc:c∈["bool","int","str","list","tuple","dict"]) (q:Q (.bl (isT T c)) H):di' K .isinstance [x,.ty c] H Q:=.inl (.inl ⟨x,T,c,rfl,h,hT,hc,q⟩)
theorem a6' {a:Addr} {xs:List V} {i:Int} {v:V} (h:SqL K H a xs) (e:atI xs i=some v) (q:Q v H):gN' K (.ref a) (.int i) H Q\/gU' K (.ref a) (.int i) H Q:=.inl ⟨a,xs,i,v,rfl,rfl,h,e,q⟩
theorem fm' {a:Addr} {xs:List V} {i:Int} {v:V} (h:SqT K H a xs) (e:atI xs i=some v) (q:Q v H):gN' K (.ref a) (.int i) H Q\/gU' K (.ref a) (.int i) H Q:=.inr ⟨a,xs,i,v,rfl,rfl,h,e,q⟩
theorem tu' {α β:Type} {f:α->β} {xs:List α} {i:Int}:atI (xs.map f) i=(atI xs i).map f:=by
 unfold atI
 rw[ac]
 cases ixN xs.length i with
 |none=>rfl
 |some j=>simp
theorem nB' {l:List Bool} {i:Int} {c:Bool} (hl:l.length<=sizeLine) (e:atI l i=some c) (q:Q (.str (tx [c])) H):pm' K (.str (tx l)) (.int i) H Q:=by
 refine⟨by rw[c2'];exact hl,cb c,?_,q⟩
 rw[fU',tu',e]
 rfl
theorem rE' {a:Addr} {u v:V} {k:Bool} (h:SqL K H a [u,v]) (q:Q (if k then v else u) H):gN' K (.ref a) (.int (if k then 1 else 0)) H Q\/gU' K (.ref a) (.int (if k then 1 else 0)) H Q:=by
 refine a6' h ?_ q
 cases k<;>rfl
theorem tv' {a:Addr} {u v:V} {k:Bool} (h:SqT K H a [u,v]) (q:Q (if k then v else u) H):gN' K (.ref a) (.int (if k then 1 else 0)) H Q\/gU' K (.ref a) (.int (if k then 1 else 0)) H Q:=by
 refine fm' h ?_ q
 cases k<;>rfl
theorem rF' {c:Bool}:decide (tx [c]=tx [true])=c:=by
 cases c
 .exact decide_eq_false fun h=>by cases j7' h
 .exact decide_eq_true rfl
theorem nC' {x y:List Bool}:fC' K .Add (.str (tx x)) (.str (tx y)) H Q=(x.length+y.length<=sizeLine/\Q (.str (tx (x++y))) H):=by
 rw[wy',c2',c2',j8']
theorem z8' {x y:V} (h:u9' x y=true):dS' K .NotEq x y H Q=Q (.bl (!decide (x=y))) H:=by
 have e:dS' K .NotEq x y H Q=rNe x y H Q:=by
  unfold dS'
  dsimp only
  split
  .cases h
  .rfl
 rw[e]
 exact propext ⟨fun⟨_,q⟩=>q,fun q=>⟨h,q⟩⟩
theorem rG' {a b:Addr} {xs ys:List V} (h:SqL K H a xs) (h2:SqL K H b ys) (he:xs.length=ys.length->LEq xs ys) (q:Q (.bl (decide (xs=ys))) H):dS' K .Eq (.ref a) (.ref b) H Q:=.inl ⟨a,b,xs,ys,rfl,rfl,h,h2,he,q⟩
theorem xh' {a:Addr} {xs:List V} {y:V} {i:Nat} (h:H a=some (.lst xs)) (hz:xs.length<sizeLine) (hi:i<=xs.length) (q:Q .non (upd H a (.lst (xs.take i++y :: xs.drop i)))):ll' K .insert (.ref a) [.int i,y] H Q:=⟨a,xs,y,i,rfl,rfl,h,hz,hi,q⟩
theorem fn' {j:Int} (q:∀p,H p=none->Q (.ref p) (upd H p (.rng 0 j))):di' K .range [.int j] H Q:=⟨0,j,.inr ⟨rfl,rfl⟩,q⟩
theorem kb' {r:Addr} {i j:Int} (h:H r=some (.rng i j)) (h1:-(2 ^ 62)<=i) (h2:i<2 ^ 62) (h3:-(2 ^ 62)<=j) (h4:j<2 ^ 62) (hz:(j-i).toNat<=sizeLine) (q:∀p,H p=none->Q (.ref p) (upd H p (.lst (rgs i (j-i).toNat)))):di' K .list [.ref r] H Q:=.inr ⟨r,i,j,rfl,h,⟨h1,h2,h3,h4⟩,hz,q⟩
theorem fo' {a:Addr} {xs:List V} (h:SqL K H a xs) (q:∀p,H p=none->Q (.ref p) (upd H p (.tup xs))):di' K .tuple [.ref a] H Q:=⟨a,xs,rfl,.inl ⟨h,q⟩⟩
theorem xi' {x y:Int}:dS' K .NotEq (.int x) (.int y) H Q=Q (.bl (!decide (x=y))) H:=by
 have e:dS' K .NotEq (.int x) (.int y) H Q=Q (.bl (!decide (V.int x=V.int y))) H:=propext ⟨fun⟨_,q⟩=>q,fun q=>⟨rfl,q⟩⟩
 rw[e]
 congr 3
 simp only[V.int.injEq]
theorem Bg' {x:V}:dS' K .Is x .non H Q=Q (.bl (decide (x=.non))) H:=propext ⟨fun⟨_,q⟩=>q,fun q=>⟨rfl,q⟩⟩
theorem nD' {x:V}:dS' K .IsNot x .non H Q=Q (.bl (!decide (x=.non))) H:=propext ⟨fun⟨_,q⟩=>q,fun q=>⟨rfl,q⟩⟩
def kG (C:Rc) (t:Ct) (D:Ends) (σ:L2.St):VK:=fun v H=>tG C t v σ H D.nx
theorem pC' {t:Ct} {e:Ce}:tS C (.asg t e) D σ H=tE C e σ H (kG C t D σ):=rfl
theorem tw' {i j:Nat} {a:Addr} {x y:V} (h:SqT C.K H a [x,y]) (q:D.nx ((σ.set i (some x)).set j (some y)) H):kG C (.tup (.cons (.name i) (.cons (.name j) .nil))) D σ (.ref a) H:=c3' h q
theorem tx' {i j k:Nat} {a:Addr} {x y z:V} (h:SqT C.K H a [x,y,z]) (q:D.nx (((σ.set i (some x)).set j (some y)).set k (some z)) H):kG C (.tup (.cons (.name i) (.cons (.name j) (.cons (.name k) .nil)))) D σ (.ref a) H:=w0' h q
theorem xj' {i j:Nat} {a b:Ce}:tS C (.par i j a b) D σ H=tE C a σ H (tr' C σ i j b D):=by
 show(tE C a σ H fun x H1=>tE C b σ H1 fun y H2=>∃v w,[x,y]=[v,w]/\D.nx ((σ.set i (some v)).set j (some w)) H2)=_
 congr 1
 funext x H1
 unfold tr'
 congr 1
 funext y H2
 exact propext ⟨fun⟨v,w,e,q⟩=>by cases e;exact q,fun q=>⟨x,y,rfl,q⟩⟩
theorem xk' {xs:List V} {n:Nat}:kE' xs none (some (n:Int))=xs.take n:=by
 unfold kE'
 rw[HT.sy',HT.oP']
 rcases Nat.le_total n xs.length with h|h
 .rw[Nat.min_eq_left h];simp
 .rw[Nat.min_eq_right h];simp[bB h]
theorem i9' {a:Addr} {xs:List V} {lo hi:Option Int} (h:SqL K H a xs) (q:∀p,H p=none->Q (.ref p) (upd H p (.lst (kE' xs lo hi)))):yq' K (.ref a) lo hi H Q\/yp' K (.ref a) lo hi H Q\/yz' K (.ref a) lo hi H Q:=.inl ⟨a,xs,rfl,h,q⟩
theorem fW' {a:Addr} {xs:List V} {y:V} (h:H a=some (.lst xs)) (hz:xs.length<sizeLine) (q:Q .non (upd H a (.lst (xs++[y])))):ll' K .append (.ref a) [y] H Q:=⟨a,xs,y,rfl,rfl,h,hz,q⟩
theorem tyL {a:Addr} {xs:List V} {m:Mf} (h:H a=some (.lst xs)) (hm:hG' m="list"):tyV K (hG' m) (.ref a) H:=.inl ⟨hm,xs,SqL.of h⟩
theorem xl' {a b:Addr} {xs zs:List V} (h:H a=some (.lst xs)) (h2:H b=some (.lst zs)) (hz:xs.length+zs.length<=sizeLine) (q:∀p,H p=none->Q (.ref p) (upd H p (.lst (xs++zs)))):fC' K .Add (.ref a) (.ref b) H Q:=.inl ⟨a,b,xs,zs,rfl,rfl,h,h2,hz,q⟩
theorem af' {H:Hp} {p:Addr} (h:H p=none) (o:HO):aD' H (upd H p o):=fun b u q=>by rw[ae' (ah' q h)];exact q
theorem snw {H:Hp} {p:Addr} (h:H p=none) (o:HO):aD' H (upd H p o)/\upd H p o p=some o:=⟨af' h o,ac'⟩
theorem gnw {H:Hp} {p:Addr} (h:H p=none) (o:HO):Go 0 H (upd H p o)/\upd H p o p=some o:=⟨Go.new h o,ac'⟩
theorem ap' {α:Type} {l:List α} {i:Nat} {c:α} (hc:l[i]?=some c):i<l.length:=by
 rcases cA i l.length with h|h
 .exact h
 .rw[bq.mpr h]at hc;cases hc
theorem gv' {b:Bool} (q:Q (.str (tx [b])) H):di' K .str [.int (if b then 1 else 0)] H Q:=by
 refine⟨_,rfl,by cases b<;>decide,?_⟩
 cases b
 .have e:(Str.ofString (toString (if false=true then(1:Int)else 0)))=tx [false]:=⋯
  rw[e];exact q
 .have e:(Str.ofString (toString (if true=true then(1:Int)else 0)))=tx [true]:=⋯
  rw[e];exact q
theorem rH' {x y:List Bool}:dS' K .NotEq (.str (tx x)) (.str (tx y)) H Q=Q (.bl (!decide (x=y))) H:=by
 rw[z8' rfl]
 congr 3
 apply decide_eq_decide.mpr
 simp only[V.str.injEq]
 exact⟨j7',fun h=>by rw[h]⟩
end
end R3
namespace R3
open PySem PySem.Spec PyProof.Rows L2 PySem.Builtin PySem.Builtin.Str
theorem ty':∀{ls:List (List Bool)},Txt.join (tx []) (ls.map tx)=tx ls.flatten:=by
 intro ls
 unfold Txt.join
 rw[StrLaws.glued_eq_join]
 induction ls with
 |nil=>rfl
 |cons l r ih=>
  cases r with
  |nil=>simp[Str.join]
  |cons y r=>
   rw[aE,aE]
   show tx l++tx []++Str.join (tx []) (List.map tx (y :: r))=_
   rw[ih,j8',j8']
   simp
section
variable {K:W.Frag} {H:Hp} {Q:VK}
theorem gw' {a:Addr} {ls:List (List Bool)} (h:SqL K H a (ls.map fun l=>V.str (tx l))) (hz:ls.flatten.length<=16000000) (q:Q (.str (tx ls.flatten)) H):ll' K .join (.str (tx [])) [.ref a] H Q:=by
 refine⟨tx [],a,ls.map tx,rfl,rfl,.inl (by rw[bi];exact h),?_,by rw[ty'];exact q⟩
 have e:((ls.map tx).map (·.length)).sum=ls.flatten.length:=by
  rw[bi,List.length_flatten]
  congr 1
  apply bM
  intro l _
  exact c2'
 rw[e,c2',ci,Nat.mul_zero]
 omega
theorem gx' {l:List Bool} {a b:Nat} (h1:a<=b) (h2:b<=l.length):Txt.slice (tx l) (some (a:Int)) (some (b:Int))=tx ((l.drop a).take (b-a)):=by
 have e:=slice_closes (x:=tx l) (i:=a) (j:=b) ⟨⋯,⋯,by rw[fU',ac];omega⟩
 rw[eq_of_beq e,fU']
 rw[show((b:Int)-(a:Int)).toNat=b-a by omega,bf]
 simp[tx,List.map_take,List.map_drop]
theorem h9' {n:Nat} {i j:Int} (h:(n:Int)<=j):strSliceIndices (some i) (some j) 1 n=strSliceIndices (some i) (some (n:Int)) 1 n:=by
 have h0:¬j<0:=by omega
 have h1:¬((n:Int)<0):=by omega
 have h2:(1:Int) > 0:=by decide
 simp only[strSliceIndices,h0,h1,h2,if_false,if_true,Int.min_eq_right h,Int.min_self]
end
section
variable {C:Rc} {K:W.Frag} {σ:L2.St} {H:Hp} {Q:VK} {D:Ends} {Qb:Bool->Hp->Prop} {i j:Int}
theorem xm':fC' K .RShift (.int i) (.int j) H Q=(0<=j/\Q (.int (i / 2 ^ j.toNat)) H):=propext ⟨fun⟨_,_,e,e',c,q⟩=>by cases e;cases e';exact⟨c,q⟩,fun q=>⟨_,_,rfl,rfl,q.1,q.2⟩⟩
theorem rI':fC' K .BitAnd (.int i) (.int j) H Q=((0<=i/\j=1)/\Q (.int (i % 2)) H):=propext ⟨fun⟨_,_,e,e',c,q⟩=>by cases e;cases e';exact⟨c,q⟩,fun q=>⟨_,_,rfl,rfl,q.1,q.2⟩⟩
theorem kc':ll' K .bitlen (.int i) [] H Q=Q (.int (Builtin.Int.intBits i)) H:=propext ⟨fun⟨a,e1,e2,q⟩=>by cases e1;exact q,fun q=>⟨_,rfl,rfl,q⟩⟩
theorem kd' {n:Int}:z3' C Qb (.int n) H=Qb (!decide (n=0)) H:=by
 have e:(n != 0)=!decide (n=0):=by
  by_cases h:n=0
  .subst h;rfl
  .rw[decide_eq_false h];simpa using h
 exact propext ⟨fun⟨u,h,q⟩=>by
  have h:u=(n != 0):=h
  subst h
  rw[e]at q
  exact q,fun q=>⟨n != 0,rfl,by rw[e];exact q⟩⟩
theorem tz' {i:Nat} {e:Ce} {r:Css} (h:∀K:VK,(∀v H',tSs C r D (σ.set i (some v)) H'->K v H')->tE C e σ H K):tSs C (.cons (.asg (.name i) e) r) D σ H:=h _ fun _ _ q=>q
theorem xn' {s:Cs} {r:Css} (h:∀N:L2.St->Hp->Prop,(∀σ' H',tSs C r D σ' H'->N σ' H')->tS C s { D with nx:=N } σ H):tSs C (.cons s r) D σ H:=h _ fun _ _ q=>q
def yJ' (R:It->Hp->Prop) (x y:V):VK:=fun z H1=>∃i j c:Int,x=.int i/\y=.int j/\z=.int c/\(-(2 ^ 60)<=i/\i<2 ^ 60/\-(2 ^ 60)<=j/\j<2 ^ 60/\(0<c/\c<2 ^ 29\/c=-1))/\R (Itc i c (e9' i j c)) H1
def yK' (C:Rc) (σ:L2.St) (e:Ce) (R:It->Hp->Prop) (x:V):VK:=fun y H1=>tE C e σ H1 (yJ' R x y)
def z9' (C:Rc) (σ:L2.St) (e e':Ce) (R:It->Hp->Prop):VK:=fun x H1=>tE C e σ H1 (yK' C σ e' R x)
theorem ia' {a b c:Ce} {R:It->Hp->Prop}:tI C (.range3 a b c) σ H R=tE C a σ H (z9' C σ b c R):=by
 show(tE C a σ H fun x H1=>tE C b σ H1 fun y H2=>tE C c σ H2 fun z H3=>∃i j c:Int,[x,y,z]=[.int i,.int j,.int c]/\(-(2 ^ 60)<=i/\i<2 ^ 60/\-(2 ^ 60)<=j/\j<2 ^ 60/\(0<c/\c<2 ^ 29\/c=-1))/\R (Itc i c (e9' i j c)) H3)=_
 congr 1
 funext x H1
 unfold z9'
 congr 1
 funext y H2
 unfold yK'
 congr 1
 funext z H3
 unfold yJ'
 simp only[List.cons.injEq,and_true,and_assoc]
theorem nF' {e e':Ce} {R:It->Hp->Prop} {x:V}:z9' C σ e e' R x H=tE C e σ H (yK' C σ e' R x):=rfl
theorem nG' {e:Ce} {R:It->Hp->Prop} {x y:V}:yK' C σ e R x y H=tE C e σ H (yJ' R x y):=rfl
theorem Aa' {R:It->Hp->Prop} {i j c:Int} (h0:-(2 ^ 60)<=i) (h1:i<2 ^ 60) (h2:-(2 ^ 60)<=j) (h3:j<2 ^ 60) (h4:0<c) (h5:c<2 ^ 29) (q:R (Itc i c (eA' i j c)) H):yJ' R (.int i) (.int j) (.int c) H:=⟨i,j,c,rfl,rfl,rfl,⟨h0,h1,h2,h3,.inl ⟨h4,h5⟩⟩,by rw[g8' h4];exact q⟩
def kRv (C:Rc) (R:It->Hp->Prop):VK:=fun x H1=>yw' C.K x H1 R
theorem xo' {a:Ce} {R:It->Hp->Prop}:tI C (.rev a) σ H R=tE C a σ H (kRv C R):=by
 show(tE C a σ H fun x H1=>∃y,[x]=[y]/\yw' C.K y H1 R)=_
 congr 1
 funext x H1
 exact propext ⟨fun⟨y,e,q⟩=>by cases e;exact q,fun q=>⟨x,rfl,q⟩⟩
theorem xp' {R:It->Hp->Prop} {p:Addr} {i j:Int} (h:H p=some (.rng i j)) (h0:-(2 ^ 62)<=i) (h1:i<2 ^ 62) (h2:-(2 ^ 62)<=j) (h3:j<2 ^ 62) (q:R (Itc (i+((j-i).toNat:Int)-1) (-1) (j-i).toNat) H):kRv C R (.ref p) H:=.inl ⟨p,i,j,rfl,h,⟨h0,h1,h2,h3⟩,q⟩
theorem xq' {R:It->Hp->Prop} {a:Addr} {xs:List V} (h:SqL C.K H a xs) (q:R (yv' C.K a xs.length) H):kRv C R (.ref a) H:=.inr ⟨a,xs,rfl,h,q⟩
theorem xr' {a:Addr} {xs:List V} {t:Ct} {b:Css} (Pv:Nat->L2.St->Hp->Prop) (h0:Pv 0 σ H) (hl:∀i σ H,i<=xs.length->Pv i σ H->SqL C.K H a xs)
  (hs:∀i x σ H,i<xs.length->xs[xs.length-1-i]?=some x->Pv i σ H->tG C t x σ H (tSs C b { D with nx:=Pv (i+1),ct:=Pv (i+1),bk:=D.nx })) (hd:∀σ H,Pv xs.length σ H->D.nx σ H):oA' C t b D σ (yv' C.K a xs.length) H:=by
 refine⟨fun i m σ H=>m=xs.length-i/\i<=xs.length/\Pv i σ H,⟨xs.length,by simp,aP _,h0⟩,?_⟩
 rintro i m σ H ⟨rfl,hi,p⟩
 by_cases hlt:i<xs.length
 .refine .inr ⟨⟨hlt,xs,hl i σ H hi p,rfl⟩,Pv (i+1),fun σ' H' p'=>⟨xs.length-(i+1),⋯,rfl,hlt,p'⟩,fun x H' y=>?_⟩
  obtain⟨e,y⟩:=y
  subst e
  exact hs i x σ _ hlt (y xs (hl i σ _ hi p)) p
 .have e:i=xs.length:=by omega
  exact .inl ⟨e.symm,hd σ H (e ▸ p)⟩
theorem rJ' {elt:Ce} {own:List Nat} {t:Ct} {q:Cqo} {lo c:Int} {n:Nat} (Pv:Nat->List V->Hp->Prop) (h0:Pv 0 [] H)
  (hs:∀i xs H (R:List V->Hp->Prop),i<n->Pv i xs H->(∀ys H2,Pv (i+1) ys H2->R ys H2)->tG C t (.int (lo+i*c)) (clr own σ) H (kCG C elt q xs R)) (hd:∀xs H,Pv n xs H->rC' Q xs H):k5' C elt own t q σ Q (Itc lo c n) H:=
 gu' (n:=n) Pv h0 (fun i xs H hi p=>hi) (fun xs H p=>aj _) (fun i xs H x H' R hi p y k=>by
  obtain⟨e,rfl⟩:=y
  subst e
  exact hs i xs H' R hi p k) hd
def xt' (C:Rc) (elt:Ce) (own:List Nat) (t:Ct) (q:Cqo) (ws:List Nat) (t2:Ct) (it2:Ci) (q2:Cqo) (σ:L2.St) (Q:VK) (J:It) (H1:Hp):Prop:=bi' own (tG C t) (tQo C q) (iH' (tI C it2) (bi' ws (tG C t2) (tQo C q2) (e5' (tE C elt)))) J σ [] H1 (rC' Q)
theorem ke' {elt:Ce} {own:List Nat} {t:Ct} {it:Ci} {q:Cqo} {ws:List Nat} {t2:Ct} {it2:Ci} {q2:Cqo}:tE C (.comp elt own t it q (.cons ws t2 it2 q2 .nil)) σ H Q=tI C it σ H (xt' C elt own t q ws t2 it2 q2 σ Q):=rfl
end
section
variable {C:Rc} {σ:L2.St} {H:Hp} {Q:VK} {D:Ends}
theorem Ac' {nm:Str} {Ca:Addr} (h:C.cl nm=some Ca) (hx:W.excIn C.K Ca bmV "ValueError.__new__"=true) (q:C.xk σ (.str nm 0) none H):tS C (.rse nm) D σ H:=⟨⟨Ca,h,hx⟩,q⟩
def kf' (C:Rc) (c:Str) (i:Nat) (su:Css) (D:Ends):L2.St->XK:=fun σ' en _ H'=>∃nm Ca Cc,en=.str nm 0/\C.cl nm=some Ca/\C.cl c=some Cc/\W.exmOne C.K (.ref Ca) (.ref Cc)=some true/\∀e,H' e=none->tSs { C with xk:=fun _=>E0 } su { nx:=fun σ2 H2=>D.nx (σ2.set i none) H2,rt:=D.rt } (σ'.set i (some (.ref e))) (upd H' e (gO' e Ca))
theorem Ad' {b su:Css} {c:Str} {i:Nat}:tS C (.try_ b c i su) D σ H=tSs { C with xk:=kf' C c i su D } b D σ H:=rfl
theorem caught {c nm:Str} {i:Nat} {su:Css} {Ca Cc:Addr} (h:C.cl nm=some Ca) (hc:C.cl c=some Cc) (hx:W.exmOne C.K (.ref Ca) (.ref Cc)=some true)
  (q:∀e,H e=none->tSs { C with xk:=fun _=>E0 } su { nx:=fun σ2 H2=>D.nx (σ2.set i none) H2,rt:=D.rt } (σ.set i (some (.ref e))) (upd H e (gO' e Ca))):kf' C c i su D σ (.str nm 0) none H:=⟨nm,Ca,Cc,rfl,h,hc,hx,q⟩
theorem ib' {c:Str} {Ca:Addr} (h:C.cl c=some Ca) (q:Q (.ref Ca) H):tE C (.cls c) σ H Q:=⟨Ca,h,q⟩
theorem xu' {K:W.Frag} {e Ca Cc:Addr} {b:Bool} (h:H e=some (gO' e Ca)) (x:XCls K Ca) (hk:W.kitOne K (.ref Ca) (.ref Cc)=some b) (q:Q (.bl b) H):di' K .isinstance [.ref e,.ref Cc] H Q:=.inr ⟨e,Ca,b,h,x,.inl ⟨_,_,rfl,rfl,hk⟩,q⟩
theorem tA' {K:W.Frag} {e Ca:Addr} {T:String} {b:Bool} (h:H e=some (gO' e Ca)) (x:XCls K Ca) (hk:W.kitOne K (.ref Ca) (.type T)=some b) (q:Q (.bl b) H):di' K .isinstance [.ref e,.ty T] H Q:=.inr ⟨e,Ca,b,h,x,.inl ⟨_,_,rfl,rfl,hk⟩,q⟩
theorem tC' {K:W.Frag} {e Ca p:Addr} {cs:List V} {vs:List Value} {b:Bool} (h:H e=some (gO' e Ca)) (x:XCls K Ca) (hp:H p=some (.tup cs)) (hv:ph' cs vs) (hk:W.kitAny K (.ref Ca) vs=some b) (q:Q (.bl b) H):di' K .isinstance [.ref e,.ref p] H Q:=.inr ⟨e,Ca,b,h,x,.inr ⟨p,cs,vs,rfl,hp,hv,hk⟩,q⟩
structure ClsG (C:Rc) (r:Str) (Cr:Addr) (L:List Str):Prop where
 own:C.cl r=some Cr
 e:∃Ce,C.cl "RunError"=some Ce/\W.exmOne C.K (.ref Cr) (.ref Ce)=some true
 ex:W.excIn C.K Cr bmV "ValueError.__new__"=true
 x:XCls C.K Cr
 kv:W.kitOne C.K (.ref Cr) (.type "ValueError")=some true
 k:∀c∈L,∃Cc,C.cl c=some Cc/\W.kitOne C.K (.ref Cr) (.ref Cc)=some (decide (c=r))
theorem ClsG.of {C C':Rc} {r:Str} {Cr:Addr} {L:List Str} (G:ClsG C r Cr L) (hK:C'.K=C.K) (hc:C'.cl=C.cl):ClsG C' r Cr L:=by
 obtain⟨a,b,c,d,e,f⟩:=G
 exact⟨by rw[hc];exact a,by rw[hc,hK];exact b,by rw[hK];exact c,by rw[hK];exact d,by rw[hK];exact e,by rw[hc,hK];exact f⟩
theorem ClsG.rse {r:Str} {Cr:Addr} {L:List Str} (G:ClsG C r Cr L) (q:C.xk σ (.str r 0) none H):tS C (.rse r) D σ H:=Ac' G.own G.ex q
theorem ClsG.caught {r:Str} {Cr:Addr} {L:List Str} {i:Nat} {su:Css} (G:ClsG C r Cr L)
  (q:∀e,H e=none->tSs { C with xk:=fun _=>E0 } su { nx:=fun σ2 H2=>D.nx (σ2.set i none) H2,rt:=D.rt } (σ.set i (some (.ref e))) (upd H e (gO' e Cr))):kf' C "RunError" i su D σ (.str r 0) none H:=by
 obtain⟨Ce,h1,h2⟩:=G.e
 exact R3.caught G.own h1 h2 q
theorem ClsG.isx {r c:Str} {Cr e:Addr} {L:List Str} {i:Nat} (G:ClsG C r Cr L) (hc:c∈L) (he:H e=some (gO' e Cr)) (hσ:σ[i]?=some (some (.ref e))) (q:Q (.bl (decide (c=r))) H):tE C (.blt .isinstance (.cons (.var i) (.cons (.cls c) .nil))) σ H Q:=by
 obtain⟨Cc,h1,h2⟩:=G.k c hc
 simp only[jX',eo',hU',hσ,fj',c1']
 refine ib' h1 ?_
 simp only[c1',k3',fT',fk']
 exact xu' he G.x h2 q
theorem ClsG.isv {r:Str} {Cr e:Addr} {L:List Str} {i:Nat} (G:ClsG C r Cr L) (he:H e=some (gO' e Cr)) (hσ:σ[i]?=some (some (.ref e))) (q:Q (.bl true) H):tE C (.blt .isinstance (.cons (.var i) (.cons (.ty "ValueError") .nil))) σ H Q:=by
 simp only[jX',eo',hU',hσ,fj',c1',tm',k3',fT',fk']
 exact tA' he G.x G.kv q
theorem ic' {K:W.Frag} {t:Value}:∀{vs:List Value},(∀v∈vs,W.kitOne K t v=some false)->W.kitAny K t vs=some false
 | [],_=>rfl
 |v :: vs,h=>by
  unfold W.kitAny
  rw[h v ax]
  exact ic' fun u hu=>h u (au _ hu)
theorem ClsG.isx4 {r c1 c2 c3 c4:Str} {Cr e:Addr} {L:List Str} {i:Nat} (G:ClsG C r Cr L) (hl:∀c∈[c1,c2,c3,c4],c∈L/\c≠r) (he:H e=some (gO' e Cr)) (hσ:σ[i]?=some (some (.ref e))) (q:∀H',aD' H H'->Q (.bl false) H'):
  tE C (.blt .isinstance (.cons (.var i) (.cons (.tup (.cons (.cls c1) (.cons (.cls c2) (.cons (.cls c3) (.cons (.cls c4) .nil))))) .nil))) σ H Q:=by
 have g:∀c∈[c1,c2,c3,c4],∃Cc,C.cl c=some Cc/\W.kitOne C.K (.ref Cr) (.ref Cc)=some false:=fun c hc=>by
  obtain⟨Cc,h1,h2⟩:=G.k c (hl c hc).1
  rw[decide_eq_false (hl c hc).2]at h2
  exact⟨Cc,h1,h2⟩
 obtain⟨a1,b1,d1⟩:=g c1 (by simp)
 obtain⟨a2,b2,d2⟩:=g c2 (by simp)
 obtain⟨a3,b3,d3⟩:=g c3 (by simp)
 obtain⟨a4,b4,d4⟩:=g c4 (by simp)
 simp only[jX',eo',hU',hσ,fj',c1',nr']
 refine ib' b1 ?_
 simp only[c1',eo']
 refine ib' b2 ?_
 simp only[c1',eo']
 refine ib' b3 ?_
 simp only[c1',eo']
 refine ib' b4 ?_
 simp only[c1',k3',fT',i7']
 refine⟨by show 4<=sizeLine;decide,fun p hp=>?_⟩
 simp only[c1',k3',fT',fk']
 refine tC' (Ca:=Cr) (by rw[ae' (ah' he hp)];exact he) G.x ac' (vs:=[.ref a1,.ref a2,.ref a3,.ref a4]) ⟨rfl,rfl,rfl,rfl,trivial⟩ (ic' fun v hv=>?_) (q _ fun b u hb=>by rw[ae' (ah' hb hp)];exact hb)
 simp only[al,ap,or_false]at hv
 rcases hv with rfl|rfl|rfl|rfl<;>assumption
end
def aw' (l:List (Str×Sp)) (y:Str):Option Sp:=l.lookup y
theorem ad' {x:Str} {s:Sp} {l:List (Str×Sp)}:aw' ((x,s) :: l) x=some s:=by unfold aw';simp
theorem aa' {x y:Str} {s:Sp} {l:List (Str×Sp)} (h:(y == x)=false):aw' ((x,s) :: l) y=aw' l y:=by
 unfold aw'
 rw[bb,h]
theorem eg' {y:Str} {s:Sp}:∀{l:List (Str×Sp)},aw' l y=some s->(y,s)∈l
 | [],h=>by cases h
 |(x,t) :: l,h=>by
  unfold aw' at h
  rw[bb]at h
  cases e:y == x with
  |true=>
   rw[e]at h
   cases h
   rw[eq_of_beq e]
   exact ax ..
  |false=>
   rw[e]at h
   exact au _ (eg' h)
theorem aB' {P:Program} {w:World} {K:W.Frag} {mg:Str->Option Value} {base:Heap} {k:Nat} {l:List (Str×Sp)} (h:∀p∈l,∃f' fd' ps',FnOk P w K mg base CX0 k f' fd' ps' p.2/\mg p.1=some (.ref f')/\W.keepIn K (.ref f')=true/\et' K fd' ps' []):
  ∀y sp',aw' l y=some sp'->∃f' fd' ps',FnOk P w K mg base CX0 k f' fd' ps' sp'/\mg y=some (.ref f')/\W.keepIn K (.ref f')=true/\et' K fd' ps' []:=fun y sp' e=>h (y,sp') (eg' e)
theorem ao' {P:Program} {w:World} {K:W.Frag} {mg:Str->Option Value} {base:Heap} {x qual:Str} {st:Stmt} {f:Addr} {fd:FuncData} {ps:List Str} {k:Nat} {sp:Sp} (F:Fun K x qual st f fd) (C:Rc) (S:FnScope C.N ps (ab' st)) (hK:C.K=K) (code:Css) (hm:mSs C.N C.B (ab' st) code (al' st)=true)
  (len:∀vs H Q E,sp vs H Q E->vs.length=ps.length)
  (hfs:∀y sp',C.fs y=some sp'->∃f' fd' ps',FnOk P w K mg base CX0 k f' fd' ps' sp'/\mg y=some (.ref f')/\W.keepIn K (.ref f')=true/\et' K fd' ps' []) (hB:∀y∈C.B,mg y=none) (hmk:mg "~"=none/\mg "^"=none/\mg "%"=none) (nt:tld C.B=false) (nh:hat C.B=false) (hxk:C.xk=fun _=>E0) (hcl:C.cl=fun _=>none)
  (hbody:∀vs H Q E,sp vs H Q E->tSs C code { nx:=fun _ H'=>Q .non H',rt:=Q } (aA' C.N vs) H):FnOk P w K mg base CX0 (k+1) f fd ps sp:=
 i5' F C S hK code hm len ⟨fun y sp' e=>by
  obtain⟨f',fd',ps',h1,h2⟩:=hfs y sp' e
  exact⟨f',fd',ps',.inl h1,h2⟩,hB,hmk,(fun c Ca e=>by rw[hcl]at e;cases e),nt,nh⟩ hxk hbody
def dk' (l:List (Str×Addr)) (y:Str):Option Addr:=l.lookup y
theorem bA' {x:Str} {s:Addr} {l:List (Str×Addr)}:dk' ((x,s) :: l) x=some s:=by unfold dk';simp
theorem as' {x y:Str} {s:Addr} {l:List (Str×Addr)} (h:(y == x)=false):dk' ((x,s) :: l) y=dk' l y:=by
 unfold dk'
 rw[bb,h]
theorem rO' {y:Str} {s:Addr}:∀{l:List (Str×Addr)},dk' l y=some s->(y,s)∈l
 | [],h=>by cases h
 |(x,t) :: l,h=>by
  unfold dk' at h
  rw[bb]at h
  cases e:y == x with
  |true=>
   rw[e]at h
   cases h
   rw[eq_of_beq e]
   exact ax ..
  |false=>
   rw[e]at h
   exact au _ (rO' h)
theorem pD' {K:W.Frag} {mg:Str->Option Value} {l:List (Str×Addr)} (h:∀p∈l,mg p.1=some (.ref p.2)/\W.nsIn K mainGlobals p.1=some (some (.ref p.2))):∀c Ca,dk' l c=some Ca->mg c=some (.ref Ca)/\W.nsIn K mainGlobals c=some (some (.ref Ca)):=fun c Ca e=>h (c,Ca) (rO' e)
theorem gy' {P:Program} {w:World} {K:W.Frag} {mg:Str->Option Value} {base:Heap} {k:Nat} {B:List Str} {l:List (Str×Sp)} (h:∀p∈l,∃f' fd' ps',(FnOk P w K mg base CX0 k f' fd' ps' p.2\/FnOk P w K mg base (CX1 P w mg) k f' fd' ps' p.2/\m4' p.1∈B)/\mg p.1=some (.ref f')/\W.keepIn K (.ref f')=true/\et' K fd' ps' []):
  ∀y sp',aw' l y=some sp'->∃f' fd' ps',(FnOk P w K mg base CX0 k f' fd' ps' sp'\/FnOk P w K mg base (CX1 P w mg) k f' fd' ps' sp'/\m4' y∈B)/\mg y=some (.ref f')/\W.keepIn K (.ref f')=true/\et' K fd' ps' []:=fun y sp' e=>h (y,sp') (eg' e)
theorem nH' {K:W.Frag} {C:Addr} {cd:ClassData} (h1:W.findIn K (.ref C) "__getattribute__"=some (some (.builtin "BaseException.__getattribute__"))) (h2:W.findIn K (.ref C) "__getattr__"=some none) (h3:W.findIn K (.ref C) "__class__"=some (some (.builtin "object.__class__"))) (h4:W.subIn K (.ref C) (.type "BaseException")=some true) (h5:W.subIn K (.ref C) (.type "object")=some true) (h6:W.clsIn K C=some cd):XCls K C:=⟨h1,h2,h3,h4,h5,by rw[h6];rfl⟩
theorem mC {α:Type} {P:α->Prop} {a:α} {l:List α} (h:P a/\∀x∈l,P x):∀x∈a :: l,P x:=List.forall_mem_cons.mpr h
theorem mN {α:Type} {P:α->Prop}:∀x∈([]:List α),P x:=fun y hy=>absurd hy ap
theorem rP' {α:Type} {P:List α->Prop} (h:∀x0,P [x0]):∀us:List α,us.length=1->P us
 | [x0],_=>h x0
theorem ja' {α:Type} {P:List α->Prop} (h:∀x0 x1,P [x0,x1]):∀us:List α,us.length=2->P us
 | [x0,x1],_=>h x0 x1
theorem xv' {α:Type} {P:List α->Prop} (h:∀x0 x1 x2,P [x0,x1,x2]):∀us:List α,us.length=3->P us
 | [x0,x1,x2],_=>h x0 x1 x2
theorem rQ' {α:Type} {P:List α->Prop} (h:∀x0 x1 x2 x3,P [x0,x1,x2,x3]):∀us:List α,us.length=4->P us
 | [x0,x1,x2,x3],_=>h x0 x1 x2 x3
theorem BW' {α:Type} {P:List α->Prop} (h:∀x0 x1 x2 x3 x4,P [x0,x1,x2,x3,x4]):∀us:List α,us.length=5->P us
 | [x0,x1,x2,x3,x4],_=>h x0 x1 x2 x3 x4
theorem BX' {α:Type} {P:List α->Prop} (h:∀x0 x1 x2 x3 x4 x5,P [x0,x1,x2,x3,x4,x5]):∀us:List α,us.length=6->P us
 | [x0,x1,x2,x3,x4,x5],_=>h x0 x1 x2 x3 x4 x5
def cq' {α β:Type} (R:α->β->Prop):List α->List β->Prop
 | [],[]=>True
 |a :: as,b :: bs=>R a b/\cq' R as bs
 |_,_=>False
section
variable {α β:Type} {R S:α->β->Prop}
theorem cq'.mono (h:∀a b,R a b->S a b):∀{as:List α} {bs:List β},cq' R as bs->cq' S as bs
 | [],[],_=>trivial
 |_ :: _,_ :: _,q=>⟨h _ _ q.1,cq'.mono h q.2⟩
 | [],_ :: _,q=>q.elim
 |_ :: _,[],q=>q.elim
theorem cq'.len:∀{as:List α} {bs:List β},cq' R as bs->as.length=bs.length
 | [],[],_=>rfl
 |_ :: _,_ :: _,q=>by simp[cq'.len q.2]
 | [],_ :: _,q=>q.elim
 |_ :: _,[],q=>q.elim
theorem cq'.app:∀{as cs:List α} {bs ds:List β},cq' R as bs->cq' R cs ds->cq' R (as++cs) (bs++ds)
 | [],_,[],_,_,q=>q
 |_ :: _,_,_ :: _,_,p,q=>⟨p.1,cq'.app p.2 q⟩
 | [],_,_ :: _,_,p,_=>p.elim
 |_ :: _,_,[],_,p,_=>p.elim
theorem cq'.snoc {a:α} {b:β} {as:List α} {bs:List β} (h:cq' R as bs) (r:R a b):cq' R (as++[a]) (bs++[b]):=h.app ⟨r,trivial⟩
theorem cq'.get:∀{as:List α} {bs:List β} {i:Nat} {b:β},cq' R as bs->bs[i]?=some b->∃a,as[i]?=some a/\R a b
 | [],[],_,_,_,e=>by cases e
 |a :: _,_ :: _,0,_,q,e=>by cases e;exact⟨a,rfl,q.1⟩
 |_ :: as,_ :: bs,i+1,b,q,e=>by
  obtain⟨a,h1,h2⟩:=cq'.get (i:=i) (b:=b) q.2 (by simpa using e)
  exact⟨a,by simpa using h1,h2⟩
 | [],_ :: _,_,_,q,_=>q.elim
 |_ :: _,[],_,_,q,_=>q.elim
theorem cq'.getL:∀{as:List α} {bs:List β} {i:Nat} {a:α},cq' R as bs->as[i]?=some a->∃b,bs[i]?=some b/\R a b
 | [],[],_,_,_,e=>by cases e
 |_ :: _,b :: _,0,_,q,e=>by cases e;exact⟨b,rfl,q.1⟩
 |_ :: as,_ :: bs,i+1,a,q,e=>by
  obtain⟨b,h1,h2⟩:=cq'.getL (i:=i) (a:=a) q.2 (by simpa using e)
  exact⟨b,by simpa using h1,h2⟩
 | [],_ :: _,_,_,q,_=>q.elim
 |_ :: _,[],_,_,q,_=>q.elim
end
def kg' {α:Type} (aF':TL α) (b:α) (P:α->Hp->Prop) (σ:L2.St):Bool->Hp->Prop:=fun ok H=>if ok=true then aF' σ b H P else P b H
def jb' {α:Type} (tc:TT) (aF':TL α) (b:α) (P:α->Hp->Prop):L2.St->Hp->Prop:=fun σ H=>tc σ H (kg' aF' b P σ)
def kCl {α:Type} (own:List Nat) (g:TG) (tc:TT) (aF':TL α) (σ:L2.St) (a:α) (N:α->Hp->Prop) (J:It) (H:Hp):Prop:=bi' own g tc aF' J σ a H N
section
variable {C:Rc} {σ:L2.St} {H:Hp} {Q:VK} {D:Ends} {α:Type}
theorem tD' {aF':TL α} {b:α} {P:α->Hp->Prop}:jb' (tQo C .none) aF' b P σ H=aF' σ b H P:=rfl
theorem tE' {q:Cq} {aF':TL α} {b:α} {P:α->Hp->Prop}:jb' (tQo C (.some q)) aF' b P σ H=tQ C q σ H (kg' aF' b P σ):=rfl
theorem pE' {aF':TL α} {b:α} {P:α->Hp->Prop}:kg' aF' b P σ true H=aF' σ b H P:=rfl
theorem pF' {aF':TL α} {b:α} {P:α->Hp->Prop}:kg' aF' b P σ false H=P b H:=rfl
theorem pG' {own:List Nat} {g:TG} {tc:TT} {aF':TL α} {J:It} {a:α} {N:α->Hp->Prop} {n:Nat} (Pv:Nat->α->Hp->Prop) (h0:Pv 0 a H) (hgo:∀i b H,i<n->Pv i b H->J.go i H) (hstop:∀b H,Pv n b H->J.stop n H)
  (hs:∀i b H x H' (R:α->Hp->Prop),i<n->Pv i b H->J.yld i H x H'->(∀c H2,Pv (i+1) c H2->R c H2)->g x (clr own σ) H' (jb' tc aF' b R)) (hd:∀b H,Pv n b H->N b H):kCl own g tc aF' σ a N J H:=by
 refine⟨fun i m b H=>m=n-i/\i<=n/\Pv i b H,⟨n,by simp,aP _,h0⟩,?_⟩
 rintro i m b H ⟨rfl,hi,p⟩
 by_cases hlt:i<n
 .refine .inr ⟨hgo i b H hlt p,fun x H' y=>?_⟩
  exact hs i b H x H' (fun c H4=>∃m',m'<n-i/\(m'=n-(i+1)/\i+1<=n/\Pv (i+1) c H4)) hlt p y fun ys H2 p2=>⟨n-(i+1),⋯,rfl,hlt,p2⟩
 .have e:i=n:=by omega
  subst e
  exact .inl ⟨hstop b H p,hd b H p⟩
theorem Bj' {own:List Nat} {g:TG} {tc:TT} {aF':TL α} {b0:α} {N:α->Hp->Prop} {a:Addr} {vs:List V} (Pv:Nat->α->Hp->Prop) (h0:Pv 0 b0 H) (hl:∀i b H,Pv i b H->SqL C.K H a vs)
  (hs:∀i b H x (R:α->Hp->Prop),vs[i]?=some x->Pv i b H->(∀c H2,Pv (i+1) c H2->R c H2)->g x (clr own σ) H (jb' tc aF' b R)) (hd:∀b H,Pv vs.length b H->N b H):kCl own g tc aF' σ b0 N (Itl C.K a) H:=
 pG' (n:=vs.length) Pv h0 (fun i xs H hi p=>⟨vs,vs[i],hl i xs H p,by simp[hi]⟩) (fun xs H p=>⟨vs,hl _ xs H p,aj _⟩) (fun i xs H x H' R hi p y k=>by
  obtain⟨e,y⟩:=y
  subst e
  exact hs i xs H' x R (y vs (hl i xs H' p)) p k) hd
theorem Bk' {own:List Nat} {g:TG} {tc:TT} {aF':TL α} {b0:α} {N:α->Hp->Prop} {a:Addr} {vs:List V} (Pv:Nat->α->Hp->Prop) (h0:Pv 0 b0 H) (hl:∀i b H,Pv i b H->SqT C.K H a vs)
  (hs:∀i b H x (R:α->Hp->Prop),vs[i]?=some x->Pv i b H->(∀c H2,Pv (i+1) c H2->R c H2)->g x (clr own σ) H (jb' tc aF' b R)) (hd:∀b H,Pv vs.length b H->N b H):kCl own g tc aF' σ b0 N (Itt C.K a) H:=
 pG' (n:=vs.length) Pv h0 (fun i xs H hi p=>⟨vs,vs[i],hl i xs H p,by simp[hi]⟩) (fun xs H p=>⟨vs,hl _ xs H p,aj _⟩) (fun i xs H x H' R hi p y k=>by
  obtain⟨e,y⟩:=y
  subst e
  exact hs i xs H' x R (y vs (hl i xs H' p)) p k) hd
theorem Bl' {own:List Nat} {g:TG} {tc:TT} {aF':TL α} {b0:α} {N:α->Hp->Prop} {a:Addr} {vs:List V} (Pv:Nat->α->Hp->Prop) (h0:Pv 0 b0 H) (hl:∀i b H,Pv i b H->SqL C.K H a vs)
  (hs:∀i b H x p (R:α->Hp->Prop),vs[i]?=some x->H p=none->Pv i b H->(∀c H2,Pv (i+1) c H2->R c H2)->g (.ref p) (clr own σ) (upd H p (.tup [.int i,x])) (jb' tc aF' b R)) (hd:∀b H,Pv vs.length b H->N b H):kCl own g tc aF' σ b0 N (Ite C.K a) H:=
 pG' (n:=vs.length) Pv h0 (fun i xs H hi p=>⟨vs,vs[i],hl i xs H p,by simp[hi]⟩) (fun xs H p=>⟨vs,hl _ xs H p,rfl⟩) (fun i xs H x H' R hi p y k=>by
  obtain⟨ad,v,rfl,hn,y,rfl⟩:=y
  exact hs i xs H v ad R (y vs (hl i xs H p)) hn p k) hd
theorem BY' {own:List Nat} {g:TG} {tc:TT} {aF':TL α} {b0:α} {N:α->Hp->Prop} {lo:Int} {n:Nat} (Pv:Nat->α->Hp->Prop) (h0:Pv 0 b0 H)
  (hs:∀i b H (R:α->Hp->Prop),i<n->Pv i b H->(∀c H2,Pv (i+1) c H2->R c H2)->g (.int (lo+i)) (clr own σ) H (jb' tc aF' b R)) (hd:∀b H,Pv n b H->N b H):kCl own g tc aF' σ b0 N (Itr lo n) H:=
 pG' (n:=n) Pv h0 (fun i xs H hi p=>hi) (fun xs H p=>aj _) (fun i xs H x H' R hi p y k=>by
  obtain⟨e,rfl⟩:=y
  subst e
  exact hs i xs H' R hi p k) hd
theorem pH' {elt:Ce} {own:List Nat} {t:Ct} {it:Ci} {q:Cqo} {ws:List Nat} {t2:Ct} {it2:Ci} {q2:Cqo} {r:Cc}:tE C (.comp elt own t it q (.cons ws t2 it2 q2 r)) σ H Q=tI C it σ H (kCl own (tG C t) (tQo C q) (tR C (.cons ws t2 it2 q2 r) (e5' (tE C elt))) σ [] (rC' Q)):=rfl
theorem tF' {ws:List Nat} {t:Ct} {it:Ci} {q:Cqo} {r:Cc} {em:TL (List V)} {b:List V} {P:List V->Hp->Prop}:tR C (.cons ws t it q r) em σ b H P=tI C it σ H (kCl ws (tG C t) (tQo C q) (tR C r em) σ b P):=rfl
theorem xw' {em:TL (List V)} {b:List V} {P:List V->Hp->Prop}:tR C .nil em σ b H P=em σ b H P:=rfl
theorem tG' {elt:Ce} {b:List V} {P:List V->Hp->Prop}:e5' (tE C elt) σ b H P=tE C elt σ H (h5' b P):=rfl
def Ae' (b:(Option Int->Bool)×Nat) (P:(Option Int->Bool)×Nat->Hp->Prop):VK:=fun v H=>∃k,v=kO k/\b.2<4000/\P (fun j=>b.1 j || decide (j=k),b.2+1) H
theorem pI' {elt:Ce} {b:(Option Int->Bool)×Nat} {P:(Option Int->Bool)×Nat->Hp->Prop}:hB' (tE C elt) σ b H P=tE C elt σ H (Ae' b P):=rfl
theorem tH' {it:Ci} {own:List Nat} {g:TG} {tc:TT} {aF':TL α} {b:α} {P:α->Hp->Prop}:iH' (tI C it) (bi' own g tc aF') σ b H P=tI C it σ H (kCl own g tc aF' σ b P):=rfl
def Af' (i:Nat) (D:Ends) (σ:L2.St):(Option Int->Bool)×Nat->Hp->Prop:=fun a H2=>True/\∀p,H2 p=none->D.nx (σ.set i (some (.ref p))) (upd H2 p (fN' p a.1 a.2))
theorem tI' {i:Nat} {elt:Ce} {own:List Nat} {t:Ct} {it:Ci} {q:Cqo} {ws:List Nat} {t2:Ct} {it2:Ci} {q2:Cqo}:tS C (.setc2 i elt own t it q ws t2 it2 q2) D σ H=tI C it σ H (kCl own (tG C t) (tQo C q) (iH' (tI C it2) (bi' ws (tG C t2) (tQo C q2) (hB' (tE C elt)))) σ (fun _=>false,0) (Af' i D σ)):=rfl
theorem xx' {K:W.Frag} {a:Addr} {ns:List Int} (h:SqL K H a (ns.map V.int)) (hl:ns.length<=3999) (q:∀p,H p=none->Q (.ref p) (upd H p (fN' p (inL ns) ns.length))):di' K .set [.ref a] H Q:=⟨a,ns,rfl,h,hl,q⟩
def Ag' (i:Nat) (D:Ends) (σ:L2.St):List (Key×V)->Hp->Prop:=fun a H2=>True/\∀p,H2 p=none->D.nx (σ.set i (some (.ref p))) (upd H2 p (.dK a))
def Ah' (i:Nat) (D:Ends) (σ:L2.St):KTL->Hp->Prop:=fun a H2=>okT a H2/\∀p,H2 p=none->D.nx (σ.set i (some (.ref p))) (upd H2 p (.dT (plT a)))
theorem tJ' {i:Nat} {k v:Ce} {own:List Nat} {t:Ct} {it:Ci} {q:Cqo}:tS C (.dctc false i k v own t it q) D σ H=tI C it σ H (kCl own (tG C t) (tQo C q) (jF' (tE C k) (tE C v)) σ [] (Ag' i D σ)):=rfl
theorem tK' {i:Nat} {k v:Ce} {own:List Nat} {t:Ct} {it:Ci} {q:Cqo}:tS C (.dctc true i k v own t it q) D σ H=tI C it σ H (kCl own (tG C t) (tQo C q) (jG' (tE C k) (tE C v)) σ [] (Ah' i D σ)):=rfl
def Bm' (a:List (Key×V)) (P:List (Key×V)->Hp->Prop) (y:V):VK:=fun v H2=>∃k,y=L2.kV k/\a.length<sizeLine/\P (iL' a k v) H2
def Bn' (C:Rc) (σ:L2.St) (v:Ce) (a:List (Key×V)) (P:List (Key×V)->Hp->Prop):VK:=fun y H1=>tE C v σ H1 (Bm' a P y)
theorem pJ' {k v:Ce} {a:List (Key×V)} {P:List (Key×V)->Hp->Prop}:jF' (tE C k) (tE C v) σ a H P=tE C k σ H (Bn' C σ v a P):=rfl
theorem tL' {v:Ce} {a:List (Key×V)} {P:List (Key×V)->Hp->Prop} {y:V}:Bn' C σ v a P y H=tE C v σ H (Bm' a P y):=rfl
def Bo' (a:KTL) (P:KTL->Hp->Prop) (y:V):VK:=fun v H2=>∃(k:List Key) (b:Addr),y=.ref b/\H2 b=some (.tup (k.map L2.kV))/\okT a H2/\(∀x∈a,x.1≠k)/\a.length<sizeLine/\P (a++[(k,b,v)]) H2
def Bp' (C:Rc) (σ:L2.St) (v:Ce) (a:KTL) (P:KTL->Hp->Prop):VK:=fun y H1=>tE C v σ H1 (Bo' a P y)
theorem pK' {k v:Ce} {a:KTL} {P:KTL->Hp->Prop}:jG' (tE C k) (tE C v) σ a H P=tE C k σ H (Bp' C σ v a P):=rfl
theorem tM' {v:Ce} {a:KTL} {P:KTL->Hp->Prop} {y:V}:Bp' C σ v a P y H=tE C v σ H (Bo' a P y):=rfl
theorem nI':∀{l:List PySem.Str} {p:PySem.Str},risingS p l=true->sU' (p :: l)
 | [],p,_=>List.pairwise_singleton _ _
 |x :: r,p,h=>by
  simp only[risingS,ag,aO,ltCps_eq,decide_eq_false_iff_not]at h
  have ih:=nI' h.2
  refine cJ.mpr ⟨fun b hb=>?_,ih⟩
  rcases al.mp hb with rfl|hb
  .exact h.1
  .exact List.not_lt.mpr (List.le_trans (List.not_lt.mp h.1) (List.not_lt.mp ((cJ.mp ih).1 b hb)))
theorem xy' {l:List PySem.Str} (h:sortedS l=true):sU' l:=by
 cases l with
 |nil=>exact .nil
 |cons x r=>exact nI' h
theorem pM' {K:W.Frag} {a:Addr} {ss:List PySem.Str} (h:SqL K H a (ss.map V.str)) (hl:ss.length<64) (q:∀p (ss':List PySem.Str),H p=none->ss'.Perm ss->sU' ss'->Q (.ref p) (upd H p (.lst (ss'.map V.str)))):di' K .sorted [.ref a] H Q:=⟨a,ss,rfl,h,hl,fun p ss' hp hm hs=>q p ss' hp hm (xy' hs)⟩
def tN' (neg:Bool) (y:V) (Q:VK):VK:=fun x H2=>(∃a o,x=.ref a/\g6' H2 a y o/\Q (.bl (if neg then !o.isSome else o.isSome)) H2)\/yC' neg y x H2 Q
def tO' (C:Rc) (σ:L2.St) (neg:Bool) (b:Ce) (Q:VK):VK:=fun y H1=>tE C b σ H1 (tN' neg y Q)
theorem xz' {neg:Bool} {a b:Ce}:tE C (.din neg a b) σ H Q=tE C a σ H (tO' C σ neg b Q):=rfl
theorem xA' {neg:Bool} {a b:Ce} {Qb:Bool->Hp->Prop}:tQ C (.din neg a b) σ H Qb=tE C a σ H (tO' C σ neg b (kT Qb)):=rfl
theorem pN' {neg:Bool} {b:Ce} {y:V}:tO' C σ neg b Q y H=tE C b σ H (tN' neg y Q):=rfl
theorem nJ' {neg:Bool} {k:Option Int} {y:V} {p:Addr} {S:Option Int->Bool} {n:Nat} (hy:y=kO k) (h:H p=some (fN' p S n)) (q:Q (.bl (if neg then !(S k)else S k)) H):tN' neg y Q (.ref p) H:=.inr ⟨k,p,S,n,hy,rfl,h,q⟩
def id' (a:Addr) (Q:VK):VK:=fun y H2=>(∃o,g6' H2 a y o/\Q (o.getD .non) H2)\/(y=.non/\NoN H2 a/\Q .non H2)
def xB' (C:Rc) (σ:L2.St) (b:Ce) (Q:VK):VK:=fun x H1=>∃a,x=.ref a/\IsD H1 a/\tE C b σ H1 (id' a Q)
theorem xC' {a b:Ce}:tE C (.dgt a b) σ H Q=tE C a σ H (xB' C σ b Q):=rfl
theorem gz' {b:Ce} {p:Addr} (h:IsD H p) (q:tE C b σ H (id' p Q)):xB' C σ b Q (.ref p) H:=⟨p,rfl,h,q⟩
theorem nL' {p:Addr} {y:V} {o:Option V} (h:g6' H p y o) (q:Q (o.getD .non) H):id' p Q y H:=.inl ⟨o,h,q⟩
theorem nM' {p:Addr} (h:NoN H p) (q:Q .non H):id' p Q .non H:=.inr ⟨rfl,h,q⟩
end
section
variable {C:Rc} {σ:L2.St} {H:Hp} {Q:VK} {Qb:Bool->Hp->Prop}
def Al' (C:Rc) (Q:VK) (x:V):VK:=fun y H1=>∃(k j:Bool) (a b:Addr) (ps:List (Str×Str)),[x,y]=[.ref a,.ref b]/\Sq k C.K H1 a (ps.map fun q=>V.str q.1)/\Sq j C.K H1 b (ps.map fun q=>V.str q.2)/\ps.length<64/\
 ∀(l:Addr) (as:List (Addr×Str×Str)) (H':Hp),H1 l=none->(∀b u,H1 b=some u->H' b=some u)->H' l=some (.lst (as.map fun q=>V.ref q.1))->(as.map fun q=>q.2).Perm ps->(as.Pairwise fun x y=>br' [.inr y.2.1,.inr y.2.2] [.inr x.2.1,.inr x.2.2]=false)->(∀q∈as,H' q.1=some (.tup [.str q.2.1,.str q.2.2]))->Q (.ref l) H'
def Bt' (C:Rc) (σ:L2.St) (b:Ce) (Q:VK):VK:=fun x H1=>tE C b σ H1 (Al' C Q x)
theorem xF' {a b:Ce}:tE C (.szp a b) σ H Q=tE C a σ H (Bt' C σ b Q):=rfl
theorem tT' {b:Ce} {x:V}:Bt' C σ b Q x H=tE C b σ H (Al' C Q x):=rfl
theorem xG' {k j:Bool} {a b:Addr} {ps:List (Str×Str)} (h1:Sq k C.K H a (ps.map fun q=>V.str q.1)) (h2:Sq j C.K H b (ps.map fun q=>V.str q.2)) (h64:ps.length<64)
  (q:∀(l:Addr) (as:List (Addr×Str×Str)) (H':Hp),H l=none->(∀b u,H b=some u->H' b=some u)->H' l=some (.lst (as.map fun q=>V.ref q.1))->(as.map fun q=>q.2).Perm ps->(as.Pairwise fun x y=>br' [.inr y.2.1,.inr y.2.2] [.inr x.2.1,.inr x.2.2]=false)->(∀q∈as,H' q.1=some (.tup [.str q.2.1,.str q.2.2]))->Q (.ref l) H'):Al' C Q (.ref a) (.ref b) H:=⟨k,j,a,b,ps,rfl,h1,h2,h64,q⟩
end
end R3
section
open PySem PySem.Spec PyProof.Rows L2 R3
set_option hygiene false in
local macro_rules | `(tactic| walk_at "sx") => `(tactic| simp only [hU', qS', wt', qT', qU', tm', qV', qW', qX', qY', qZ', q0', q1', q2', q3', q4', jQ', wu', q5', q6', jR', q8', ww', no', np', q9', ra', xm', rI', kc', kd', ia', nF', nG', xo', ke', wx', nC', wz', wA', rb', wB', wC', wD', A5', A6', A7', A8', wE', xi', rH', Bg', nD', rc', rd', nq', hV', re', rf', rg', wG', rh', jS', wI', i6', wM', jT', jU', jV', Ba', wN', wO', fj', c1', fT', k3', eo', nr', ri', i7', ns', jW', fk', rj', jY', jZ', rk', rl', rm', rn', j0', ro', wT', nt', rp', nu', rq', j1', j2', j3', rr', rs', hY', rt', j4', j5', j6', xj', h6', rD', fV', h7', h8', nz', nA', wZ', Be', Bf', rv', rF', w1', w2', hZ', h0', nv', w3', rA', rB', rz', nx', xa', xb', xc', xd', ka', clr, cg, List.foldl_nil, L2.aA', aE, List.map_nil, aQ, ci, List.cons_append, cP, ay, Nat.reduceSub, Nat.reduceAdd, cL, cN, cE, List.getElem?_cons_succ, reduceCtorEq, decide_true, decide_false, eq_self, Bool.not_true, Bool.not_false, bne_self_eq_false, BEq.rfl])
local macro_rules | `(tactic| symm) => `(tactic| try walk_at "sy")
set_option hygiene false in
local macro_rules | `(tactic| walk_at "sy") => `(tactic| simp only [ xF', tT', pH', tF', xw', tG', xz', xA', pN', xC', tI', tJ', tK', pI', tH', pJ', tL', pK', tM', tD', tE', pE', pF', hU', qS', wt', qT', qU', tm', qV', qW', qX', qY', qZ', q0', q1', q2', q3', q4', jQ', wu', q5', q6', jR', q8', ww', no', np', q9', ra', xm', rI', kc', kd', ia', nF', nG', xo', ke', wx', nC', wz', wA', rb', wB', wC', wD', A5', A6', A7', A8', wE', xi', rH', Bg', nD', rc', rd', nq', hV', re', rf', rg', wG', rh', jS', wI', i6', wM', jT', jU', jV', Ba', wN', wO', fj', c1', fT', k3', eo', nr', ri', i7', ns', jW', jX', fk', rj', jY', jZ', rk', rl', rm', rn', j0', ro', wT', nt', rp', nu', rq', j1', j2', j3', rr', rs', hY', rt', j4', j5', j6', xj', h6', rD', fV', h7', h8', nz', nA', wZ', Be', Bf', rv', rF', w1', w2', hZ', h0', nv', w3', rA', rB', rz', nx', xa', xb', xc', xd', ka', clr, cg, List.foldl_nil, L2.aA', aE, List.map_nil, aQ, ci, List.cons_append, cP, ay, Nat.reduceSub, Nat.reduceAdd, cL, cN, cE, List.getElem?_cons_succ, reduceCtorEq, decide_true, decide_false, eq_self, Bool.not_true, Bool.not_false, bne_self_eq_false, BEq.rfl])
namespace LW
open PySem PySem.Spec PyProof.Rows L2 R3
def dW':Css:=(.cons (.ite (.cmp .Lt (.var 1) (.blt .len (.cons (.var 0) .nil))) (.cons (.ret (.idx (.var 0) (.var 1)))
  .nil) .nil)
  (.cons (.ret (.int 0))
  .nil))
def pP':Css:=(.cons (.asg (.name 2) (.call "_law_cell_at" (.cons (.var 0) (.cons (.var 1) .nil))))
  (.cons (.ret (.lst (.cons (.bin .Mult (.blt .abs (.cons (.var 2) .nil)) (.blt .int (.cons (.cmp .GtE (.blt .abs (.cons (.var 2) .nil)) (.bin .Pow (.int 10) (.int 18))) .nil))) (.cons (.bin .Add (.bin .Add (.bin .Mod (.var 2) (.int 2305843009213693951)) (.bin .Mult (.int 39373) (.var 1))) (.int 17)) (.cons (.int 0) .nil)))))
  .nil))
def kh':Css:=(.cons (.ite (.cmp .Gt (.idx (.var 0) (.int 0)) (.int 0)) (.cons (.asg (.name 2) (.bin .Mod (.idx (.var 0) (.int 0)) (.var 1)))
  (.cons (.asg (.sub (.var 0) (.int 0)) (.bin .FloorDiv (.idx (.var 0) (.int 0)) (.var 1)))
  (.cons (.ret (.var 2))
  .nil))) .nil)
  (.cons (.asg (.sub (.var 0) (.int 2)) (.bin .Add (.idx (.var 0) (.int 2)) (.int 1)))
  (.cons (.asg (.name 3) (.bin .Mod (.bin .Mult (.bin .Add (.idx (.var 0) (.int 1)) (.bin .Mult (.int 48271) (.idx (.var 0) (.int 2)))) (.bin .Add (.int 39373) (.idx (.var 0) (.int 2)))) (.int 2147483647)))
  (.cons (.asg (.name 4) (.bin .Mod (.bin .Mult (.bin .Add (.var 3) (.idx (.var 0) (.int 2))) (.bin .Add (.bin .Mod (.var 3) (.int 40009)) (.int 7))) (.int 2147483629)))
  (.cons (.ret (.bin .Mod (.bin .FloorDiv (.bin .Mod (.bin .Add (.bin .Mult (.var 4) (.int 48271)) (.var 3)) (.int 2147483587)) (.int 64)) (.var 1)))
  .nil)))))
def fX' (K:W.Frag):Sp:=fun vs H Q _=>∃(a:Addr) (ns:List Int) (k:Int),vs=[.ref a,.int k]/\SqL K H a (ns.map V.int)/\0<=k/\∀c:Int,Q (.int c) H
theorem pQ' {ns:List Int} {k:Int} (h0:0<=k) (h1:k<ns.length):∃c:Int,atI (ns.map V.int) k=some (.int c):=by
 obtain⟨j,rfl⟩:=aI h0
 have hk:j<ns.length:=by omega
 exact⟨ns[j],cU' (by rw[aA,af hk];rfl)⟩
theorem nN' {C:Rc} (hN:C.N.length=2):∀vs H Q E,fX' C.K vs H Q E->tSs C dW' { nx:=fun _ H'=>Q .non H',rt:=Q } (L2.aA' C.N vs) H:=by
 intro vs H Q E h
 obtain⟨a,ns,k,rfl,hs,hk,q⟩:=h
 rw[am' hN]
 unfold dW'
 symm
 refine dw' hs ?_
 rw[ac]
 symm
 refine bv' (fun c=>?_) fun _=>?_
 .obtain⟨v,hv⟩:=pQ' hk c
  symm
  exact a6' hs hv (q v)
 .symm
  exact q 0
def nO' (K:W.Frag):Sp:=fun vs H Q _=>∃(a:Addr) (ns:List Int) (k:Int),vs=[.ref a,.int k]/\SqL K H a (ns.map V.int)/\0<=k/\k<=1000/\∀(p:Addr) (x y:Int),H p=none->0<=x->0<=y->y<2 ^ 62->Q (.ref p) (upd H p (hT' x y 0))
theorem pR' {C:Rc} (hN:C.N.length=3) (hf:C.fs "_law_cell_at"=some (fX' C.K)):∀vs H Q E,nO' C.K vs H Q E->tSs C pP' { nx:=fun _ H'=>Q .non H',rt:=Q } (L2.aA' C.N vs) H:=by
 intro vs H Q E h
 obtain⟨a,ns,k,rfl,hs,hk,hk2,q⟩:=h
 rw[am' hN]
 unfold pP'
 symm
 refine ag' hf ?_
 symm
 refine⟨a,ns,k,rfl,hs,hk,fun c=>?_⟩
 symm
 have hm0:0<=c % 2305843009213693951:=Int.emod_nonneg _ (by decide)
 have hm1:c % 2305843009213693951<2305843009213693951:=cK _ (by decide)
 refine⟨⟨by decide,by decide,by decide⟩,?_,by decide,.inl ⟨by decide,by decide⟩,by decide,fun p hp=>q p _ _ hp ?_ ?_ ?_⟩
 .refine .inr (.inl ⟨?_,?_⟩)<;>split<;>split<;>decide
 .split<;>split<;>omega
 .omega
 .omega
section
variable {K:W.Frag} {H:Hp} {b:Addr} {x y z:Int} {Q:VK}
theorem ix0 (h:H b=some (hT' x y z)) (q:Q (.int x) H):gN' K (.ref b) (.int 0) H Q\/gU' K (.ref b) (.int 0) H Q:=.inl ⟨b,_,0,_,rfl,rfl,SqL.of h,rfl,q⟩
theorem ix1 (h:H b=some (hT' x y z)) (q:Q (.int y) H):gN' K (.ref b) (.int 1) H Q\/gU' K (.ref b) (.int 1) H Q:=.inl ⟨b,_,1,_,rfl,rfl,SqL.of h,rfl,q⟩
theorem ix2 (h:H b=some (hT' x y z)) (q:Q (.int z) H):gN' K (.ref b) (.int 2) H Q\/gU' K (.ref b) (.int 2) H Q:=.inl ⟨b,_,2,_,rfl,rfl,SqL.of h,rfl,q⟩
theorem st0 {u:Int} {Q:Hp->Prop} (h:H b=some (hT' x y z)) (q:Q (upd H b (hT' u y z))):ew' (.ref b) (.int 0) (.int u) H Q:=⟨b,_,0,0,rfl,rfl,h,rfl,q⟩
theorem st2 {u:Int} {Q:Hp->Prop} (h:H b=some (hT' x y z)) (q:Q (upd H b (hT' x y u))):ew' (.ref b) (.int 2) (.int u) H Q:=⟨b,_,2,2,rfl,rfl,h,rfl,q⟩
end
def gA':Sp:=fun vs H Q _=>∃(b:Addr) (x y z m:Int),vs=[.ref b,.int m]/\H b=some (hT' x y z)/\0<=x/\0<=y/\y<2 ^ 62/\0<=z/\z<=2 ^ 40/\0<m/\m<4611686018427387904/\
 ∀(r x' z':Int),0<=r->r<m->0<=x'->0<=z'->z'<=z+1->Q (.int r) (upd H b (hT' x' y z'))
theorem nP' {C:Rc} (hN:C.N.length=5):∀vs H Q E,gA' vs H Q E->tSs C kh' { nx:=fun _ H'=>Q .non H',rt:=Q } (L2.aA' C.N vs) H:=by
 intro vs H Q E h
 obtain⟨b,x,y,z,m,rfl,hb,hx,hy,hy2,hz,hz2,hm,hm2,q⟩:=h
 rw[am' hN]
 unfold kh'
 walk_at "sy"
 refine ix0 hb ?_
 walk_at "sy"
 refine bv' (fun c=>?_) fun _=>?_
 .walk_at "sy"
  refine ix0 hb ?_
  walk_at "sy"
  refine⟨hm,?_⟩
  refine ix0 hb ?_
  walk_at "sy"
  refine⟨⟨hm,.inr (ai ((Nat.log2_lt ⋯).mpr (show m.natAbs<2 ^ 62 by omega)) (by decide))⟩,st0 hb ?_⟩
  walk_at "sy"
  exact q _ _ _ (Int.emod_nonneg _ ⋯) (cK _ hm) (Int.ediv_nonneg hx ⋯) hz ⋯
 .walk_at "sy"
  refine ix2 hb ?_
  walk_at "sy"
  refine st2 hb ?_
  have hb':upd H b (hT' x y (z+1)) b=some (hT' x y (z+1)):=ac'
  walk_at "sy"
  refine ix1 hb' ?_
  walk_at "sy"
  refine ix2 hb' ?_
  walk_at "sy"
  refine⟨.inl ⟨by decide,by decide⟩,?_⟩
  refine ix2 hb' ?_
  walk_at "sy"
  refine⟨.inr (.inl ⟨⋯,⋯⟩),by decide,?_⟩
  refine ix2 hb' ?_
  walk_at "sy"
  generalize (y+48271*(z+1))*(39373+(z+1)) % 2147483647=once
  have ho0:0<=once % 40009:=Int.emod_nonneg _ (by decide)
  have ho1:once % 40009<40009:=cK _ (by decide)
  refine⟨by decide,.inr (.inl ⟨⋯,⋯⟩),by decide,.inr (.inl ⟨by decide,by decide⟩),by decide,⟨by decide,by decide⟩,hm,?_⟩
  exact q _ _ _ (Int.emod_nonneg _ ⋯) (cK _ hm) hx ⋯ ⋯
def aK':Sp:=fun vs H Q _=>∃(b:Addr) (n:Nat) (m:Int),vs=[.ref b,.int m]/\H b=some (d6' b n)/\n<=2 ^ 40/\0<m/\m<4611686018427387904/\∀(r:Int) (H':Hp),0<=r->r<m->Go 1 H H'->Q (.int r) H'
theorem tV' {P:Program} {w:World} {K:W.Frag} {mg:Str->Option Value} {base:Heap} {k:Nat} {f:Addr} {fd:FuncData} {ps:List Str} (hp:ps.length=2) (F:FnOk P w K mg base CX0 k f fd ps gA'):FnOk P w K mg base CX0 k f fd ps aK':=by
 refine tl' (nn' (sp':=fun vs H Q E=>gA' vs H (A3' Q) E) F fun _ _ _ _ h=>h) (fun vs H Q E h=>?_) fun vs H Q E h=>?_
 .obtain⟨b,n,m,rfl,hb,hn,hm,hm2,q⟩:=h
  refine⟨b,n,hb,fun x y z hx hy hy2 hz hzn=>⟨b,x,y,z,m,rfl,ac',hx,hy,hy2,hz,⋯,hm,hm2,fun r x' z' h1 h2 h3 h4 h5=>?_⟩⟩
  refine⟨b,x',y,z',n+1,ac',h3,hy,hy2,h4,⋯,?_⟩
  refine q r _ h1 h2 ?_
  rw[iA']
  exact Go.draw hb (aj _) _
 .obtain⟨b,n,m,rfl,_⟩:=h
  rw[hp]
  rfl
def k7' (K:W.Frag):Sp:=fun vs H Q _=>∃(a:Addr) (ns:List Int) (k:Int),vs=[.ref a,.int k]/\SqL K H a (ns.map V.int)/\0<=k/\k<=1000/\∀(p:Addr),H p=none->Q (.ref p) (upd H p (d6' p 0))
theorem xH' {P:Program} {w:World} {K:W.Frag} {mg:Str->Option Value} {base:Heap} {k:Nat} {f:Addr} {fd:FuncData} {ps:List Str} (F:FnOk P w K mg base CX0 k f fd ps (nO' K)):FnOk P w K mg base CX0 k f fd ps (k7' K):=by
 refine nn' F fun vs H Q E h=>?_
 obtain⟨a,ns,k,rfl,hs,h0,h1,q⟩:=h
 refine⟨a,ns,k,rfl,hs,h0,h1,fun p x y hp hx hy hy2=>⟨p,x,y,0,0,ac',hx,hy,hy2,⋯,⋯,?_⟩⟩
 rw[iA']
 exact q p hp
theorem _root_.R3.Go.boxed {c n:Nat} {H H':Hp} {b:Addr} (g:Go c H H') (h:H b=some (d6' b n)) (hn:n+c<=2 ^ 40):∃m,H' b=some (d6' b m)/\m<=n+c/\m<=2 ^ 40:=by
 obtain⟨m,hm,e⟩:=g.box b n h
 exact⟨m,e,hm,⋯⟩
end LW
namespace LW
open PySem PySem.Spec PyProof.Rows L2 R3
def ki':Css:=(.cons (.ite (.cmp .Eq (.call "_law_take" (.cons (.var 0) (.cons (.int 8) .nil))) (.int 0)) (.cons (.ret (.bin .Add (.int 7) (.call "_law_take" (.cons (.var 0) (.cons (.bin .Sub (.var 3) (.int 6)) .nil)))))
  .nil) .nil)
  (.cons (.ret (.bin .Add (.var 1) (.call "_law_take" (.cons (.var 0) (.cons (.bin .Add (.bin .Sub (.var 2) (.var 1)) (.int 1)) .nil)))))
  .nil))
def dX':Css:=(.cons (.asg (.name 2) (.bin .Add (.int 2) (.call "_law_take" (.cons (.var 0) (.cons (.int 4) .nil)))))
  (.cons (.asg (.name 3) (.lst .nil))
  (.cons (.for_ (.name 4) (.range1 (.var 1)) (.cons (.asg (.name 5) (.lst .nil))
  (.cons (.for_ (.name 6) (.range1 (.int 2)) (.cons (.asg (.name 7) (.call "_law_take" (.cons (.var 0) (.cons (.var 1) .nil))))
  (.cons (.expr (.met .append (.var 5) (.cons (.idx (.lst (.cons (.var 7) (.cons .non .nil))) (.blt .int (.cons (.cmp .Eq (.call "_law_take" (.cons (.var 0) (.cons (.var 2) .nil))) (.int 0)) .nil))) .nil)))
  .nil)))
  (.cons (.expr (.met .append (.var 3) (.cons (.blt .tuple (.cons (.var 5) .nil)) .nil)))
  .nil))))
  (.cons (.ret (.blt .tuple (.cons (.var 3) .nil)))
  .nil))))
def bk':Css:=(.cons (.asg (.name 2) (.lst .nil))
  (.cons (.for_ (.name 3) (.range1 (.var 1)) (.cons (.expr (.met .insert (.var 2) (.cons (.call "_law_take" (.cons (.var 0) (.cons (.bin .Add (.var 3) (.int 1)) .nil))) (.cons (.var 3) .nil))))
  .nil))
  (.cons (.asg (.name 4) (.bin .Mult (.lst (.cons .non .nil)) (.var 1)))
  (.cons (.for_ (.tup (.cons (.name 5) (.cons (.name 6) .nil))) (.enum (.var 2)) (.cons (.asg (.name 7) (.idx (.bin .Add (.var 2) (.cut (.var 2) .none (.some (.int 1)))) (.bin .Add (.var 5) (.int 1))))
  (.cons (.asg (.name 8) (.idx (.lst (.cons (.call "_law_take" (.cons (.var 0) (.cons (.var 1) .nil))) (.cons .non .nil))) (.blt .int (.cons (.cmp .Eq (.call "_law_take" (.cons (.var 0) (.cons (.int 3) .nil))) (.int 0)) .nil))))
  (.cons (.asg (.sub (.var 4) (.var 6)) (.idx (.lst (.cons (.tup (.cons (.var 7) (.cons (.var 8) .nil))) (.cons (.tup (.cons (.var 8) (.cons (.var 7) .nil))) .nil))) (.call "_law_take" (.cons (.var 0) (.cons (.int 2) .nil)))))
  .nil))))
  (.cons (.ret (.blt .tuple (.cons (.var 4) .nil)))
  .nil)))))
abbrev Rm:=Option Nat×Option Nat
def oV:Option Nat->V
 |none=>.non
 |some n=>.int n
def Tp (H H':Hp):Prop:=∀a xs,H a=some (.tup xs)->H' a=some (.tup xs)
theorem Tp.trans {H H1 H2:Hp} (a:Tp H H1) (b:Tp H1 H2):Tp H H2:=fun c x h=>b c x (a c x h)
theorem _root_.R3.Go.tp {c:Nat} {H H':Hp} (g:Go c H H'):Tp H H':=fun a xs h=>g.tup h
theorem ar' {H H':Hp} (s:aD' H H'):Tp H H':=fun a xs h=>s _ _ h
theorem fY' {H:Hp} {p:Addr} (h:H p=none) (o:HO):Tp H (upd H p o):=ar' (af' h o)
theorem fZ' {H:Hp} {p:Addr} {xs:List V} (h:H p=some (.lst xs)) (o:HO):Tp H (upd H p o):=fun a ys e=>by
 rw[ae' (fun z=>by subst z;rw[h]at e;cases e)]
 exact e
theorem _root_.R3.Go.upd {c:Nat} {H H':Hp} {l:Addr} {o:HO} (g:Go c H H') (h:H l=none):Go c H (L2.upd H' l o):=by
 refine⟨fun a n e=>?_,fun a u e no=>?_,fun a e=>?_⟩
 .obtain⟨m,hm,e1⟩:=g.box a n e
  exact⟨m,hm,by rw[ae' (ah' e h)];exact e1⟩
 .rw[ae' (ah' e h)]
  exact g.oth a u e no
 .by_cases hl:a=l
  .subst hl
   exact h
  .rw[ae' hl]at e
   exact g.free a e
theorem by' {Q:VK} {m:Int} {H0 H:Hp} {b:Addr} {n0 c:Nat} (hb:H0 b=some (d6' b n0)) (g:Go c H0 H) (hn:n0+c<=2 ^ 40) (hm:0<m) (hm2:m<4611686018427387904) (q:∀r H',0<=r->r<m->Go 1 H H'->Go (c+1) H0 H'->Q (.int r) H'):aK' [.ref b,.int m] H Q E0:=by
 obtain⟨n,hb1,_,hn1⟩:=g.boxed hb hn
 exact⟨b,n,m,rfl,hb1,hn1,hm,hm2,fun r H' h0 h1 g1=>q r H' h0 h1 g1 (g.trans g1)⟩
def ie':Sp:=fun vs H Q _=>∃(b:Addr) (n:Nat) (x y z:Int),vs=[.ref b,.int x,.int y,.int z]/\H b=some (d6' b n)/\n<=2 ^ 39/\0<=x/\x<=y/\y<=1000/\7<=z/\z<=1000/\∀(r:Int) (H':Hp),(x<=r/\r<=y\/7<=r/\r<=z)->Go 2 H H'->Q (.int r) H'
theorem nQ' {C:Rc} (hN:C.N.length=4) (hT:C.fs "_law_take"=some aK'):∀vs H Q E,ie' vs H Q E->tSs C ki' { nx:=fun _ H'=>Q .non H',rt:=Q } (L2.aA' C.N vs) H:=by
 intro vs H Q E h
 obtain⟨b,n,x,y,z,rfl,hb,hn,hx,hxy,hy,hz,hz2,q⟩:=h
 rw[am' hN]
 unfold ki'
 walk_at "sy"
 refine ag' hT ?_
 walk_at "sy"
 refine by' hb (Go.refl (c:=0)) ⋯ (by decide) (by decide) fun r1 H1 h0 h1 g1 g01=>?_
 walk_at "sy"
 refine bv' (fun hc=>?_) fun hc=>?_
 .walk_at "sy"
  refine ag' hT ?_
  walk_at "sy"
  refine by' hb g01 ⋯ ⋯ ⋯ fun r2 H2 h20 h21 g2 g02=>?_
  walk_at "sy"
  exact q _ _ (.inr ⟨⋯,⋯⟩) g02
 .walk_at "sy"
  refine ag' hT ?_
  walk_at "sy"
  refine by' hb g01 ⋯ ⋯ ⋯ fun r2 H2 h20 h21 g2 g02=>?_
  walk_at "sy"
  exact q _ _ (.inl ⟨⋯,⋯⟩) g02
def eq' (H:Hp) (v:V) (r:Rm):Prop:=∃p,v=.ref p/\H p=some (.tup [oV r.1,oV r.2])
theorem eq'.mono {H H':Hp} {v:V} {r:Rm} (t:Tp H H') (h:eq' H v r):eq' H' v r:=by
 obtain⟨p,e,h⟩:=h
 exact⟨p,e,t _ _ h⟩
def cw' (H:Hp):List V->List Rm->Prop
 | [],[]=>True
 |v :: vs,r :: rs=>eq' H v r/\cw' H vs rs
 |_,_=>False
theorem cw'.mono {H H':Hp} (t:Tp H H'):∀{vs:List V} {M:List Rm},cw' H vs M->cw' H' vs M
 | [],[],_=>trivial
 |v :: vs,r :: rs,h=>⟨h.1.mono t,cw'.mono t h.2⟩
 | [],_ :: _,h=>h.elim
 |_ :: _,[],h=>h.elim
theorem cw'.len {H:Hp}:∀{vs:List V} {M:List Rm},cw' H vs M->vs.length=M.length
 | [],[],_=>rfl
 |v :: vs,r :: rs,h=>by simp[cw'.len h.2]
 | [],_ :: _,h=>h.elim
 |_ :: _,[],h=>h.elim
theorem cw'.snoc {H:Hp} {v:V} {r:Rm} (hr:eq' H v r):∀{vs:List V} {M:List Rm},cw' H vs M->cw' H (vs++[v]) (M++[r])
 | [],[],_=>⟨hr,trivial⟩
 |v :: vs,r :: rs,h=>⟨h.1,cw'.snoc hr h.2⟩
 | [],_ :: _,h=>h.elim
 |_ :: _,[],h=>h.elim
theorem cw'.get {H:Hp}:∀{vs:List V} {M:List Rm} {i:Nat} {r:Rm},cw' H vs M->M[i]?=some r->∃p,vs[i]?=some (.ref p)/\H p=some (.tup [oV r.1,oV r.2])
 | [],[],i,r,_,e=>by cases e
 |v :: vs,r :: rs,0,r',h,e=>by
  cases e
  obtain⟨p,rfl,hp⟩:=h.1
  exact⟨p,rfl,hp⟩
 |v :: vs,r :: rs,i+1,r',h,e=>cw'.get (i:=i) h.2 (by simpa using e)
 | [],_ :: _,_,_,h,_=>h.elim
 |_ :: _,[],_,_,h,_=>h.elim
def IsM (H:Hp) (a:Addr) (M:List Rm):Prop:=∃vs,H a=some (.tup vs)/\cw' H vs M
theorem IsM.mono {H H':Hp} {a:Addr} {M:List Rm} (t:Tp H H') (h:IsM H a M):IsM H' a M:=by
 obtain⟨vs,h1,h2⟩:=h
 exact⟨vs,t _ _ h1,h2.mono t⟩
def OkR (N:Nat) (r:Rm):Prop:=(∀n,r.1=some n->n<N)/\∀n,r.2=some n->n<N
def OkM (M:List Rm):Prop:=∀r∈M,OkR M.length r
def dl' (N0 N1 c:Nat):Sp:=fun vs H Q _=>∃(b:Addr) (n N:Nat),vs=[.ref b,.int N]/\H b=some (d6' b n)/\n<=2 ^ 39/\N0<=N/\N<=N1/\∀(a:Addr) (M:List Rm) (H':Hp),Go c H H'->IsM H' a M->OkM M->M.length=N->Q (.ref a) H'
theorem if' {C:Rc} (hN:C.N.length=8) (hT:C.fs "_law_take"=some aK'):∀vs H Q E,dl' 1 60 400 vs H Q E->tSs C dX' { nx:=fun _ H'=>Q .non H',rt:=Q } (L2.aA' C.N vs) H:=by
 intro vs H Q E h
 obtain⟨b,n,N,rfl,hb,hn,hN0,hN1,q⟩:=h
 rw[am' hN]
 unfold dX'
 walk_at "sy"
 refine ag' hT ?_
 walk_at "sy"
 refine by' hb (Go.refl (c:=0)) ⋯ (by decide) (by decide) fun r1 H1 h0 h1 g1 g01=>?_
 walk_at "sy"
 refine⟨by decide,fun l hl=>?_⟩
 have hl0:=g01.free _ hl
 refine gt' ⋯ ⋯ (k4' (fun i σ H'=>(∃x4 x5 x6 x7,σ=[some (.ref b),some (.int N),some (.int (2+r1)),some (.ref l),x4,x5,x6,x7])/\Go (1+4*i) H H'/\∃vs M,H' l=some (.lst vs)/\cw' H' vs M/\vs.length=i/\∀r∈M,OkR N r) ⟨⟨_,_,_,_,rfl⟩,(g01.upd hl0).mono ⋯,[],[],ac',trivial,rfl,fun r hr=>by cases hr⟩ ?_ ?_)
 .rintro i σ H2 hi ⟨⟨x4,x5,x6,x7,rfl⟩,g2,vs,M,hl2,hr2,hlen,hok⟩
  walk_at "sy"
  refine⟨by decide,fun d hd=>?_⟩
  have hd0:=g2.free _ hd
  have hdl:l≠d:=ah' hl2 hd
  refine gt' ⋯ ⋯ (k4' (fun j σ H'=>(∃x6 x7,σ=[some (.ref b),some (.int N),some (.int (2+r1)),some (.ref l),some (.int (0+i)),some (.ref d),x6,x7])/\Go (1+4*i+2*j) H H'/\Tp H2 H'/\H' l=some (.lst vs)/\∃ds:List (Option Nat),H' d=some (.lst (ds.map oV))/\ds.length=j/\∀m,some m∈ds->m<N) ⟨⟨_,_,rfl⟩,g2.upd hd0,fY' hd _,by rw[ae' hdl];exact hl2,[],ac',rfl,fun m hm=>by cases hm⟩ ?_ ?_)
  .rintro j σ H3 hj ⟨⟨x6,x7,rfl⟩,g3,t3,hl3,ds,hd3,hdn,hdo⟩
   walk_at "sy"
   refine ag' hT ?_
   walk_at "sy"
   refine by' hb g3 ⋯ ⋯ ⋯ fun r4 H4 h40 h41 g34 g4=>?_
   have hd4:=g34.lst hd3
   walk_at "sy"
   refine⟨tyL hd4 rfl,⟨by decide,fun p hp=>?_⟩⟩
   have hp0:=g4.free _ hp
   refine ag' hT ?_
   walk_at "sy"
   refine by' hb (g4.upd hp0) ⋯ ⋯ ⋯ fun r5 H5 h50 h51 g45 g5=>?_
   have hp5:H5 p=some (.lst [.int r4,.non]):=g45.lst ac'
   have hd5:H5 d=some (.lst (ds.map oV)):=g45.lst (by rw[ae' (ah' hd4 hp)];exact hd4)
   have hl5:H5 l=some (.lst vs):=g45.lst (by rw[ae' (ah' (g34.lst hl3) hp)];exact g34.lst hl3)
   walk_at "sy"
   refine rE' (SqL.of hp5) ?_
   obtain⟨o,eo,hoo⟩:∃o:Option Nat,(if decide (r5=0)=true then V.non else V.int r4)=oV o/\∀m,o=some m->m<N:=by
    split
    .exact⟨none,rfl,fun m hm=>by cases hm⟩
    .exact⟨some r4.toNat,by show _=V.int _;congr 1;omega,fun m hm=>by cases hm;omega⟩
   rw[eo]
   walk_at "sy"
   refine fW' hd5 (by rw[ac];exact ak' ⋯) ?_
   walk_at "sy"
   refine⟨⟨_,_,rfl⟩,(g5.upd hd0).mono ⋯,?_,by rw[ae' hdl];exact hl5,ds++[o],by rw[ac',aG];rfl,by simp[hdn],fun m hm=>?_⟩
   .exact((t3.trans g34.tp).trans ((fY' hp _).trans g45.tp)).trans (fZ' hd5 _)
   .rcases aD.mp hm with hm|hm
    .exact hdo m hm
    .exact hoo m (List.mem_singleton.mp hm).symm
  .rintro σ H3 ⟨⟨x6,x7,rfl⟩,g3,t3,hl3,ds,hd3,hdn,hdo⟩
   walk_at "sy"
   refine⟨tyL hl3 rfl,?_⟩
   refine fo' (SqL.of hd3) fun p hp=>?_
   walk_at "sy"
   have hpl:upd H3 p (.tup (ds.map oV)) l=some (.lst vs):=by rw[ae' (ah' hl3 hp)];exact hl3
   refine fW' hpl (ak' ⋯) ?_
   walk_at "sy"
   obtain⟨x,y,rfl⟩:∃x y,ds=[x,y]:=by
    match ds,hdn with
    | [x,y],_=>exact⟨x,y,rfl⟩
   have tp1:Tp H2 (upd (upd H3 p (.tup ([x,y].map oV))) l (.lst (vs++[.ref p]))):=(t3.trans (fY' hp _)).trans (fZ' hpl _)
   refine⟨⟨_,_,_,_,rfl⟩,((g3.upd (g3.free _ hp)).upd hl0).mono ⋯,vs++[.ref p],M++[(x,y)],ac',(hr2.mono tp1).snoc ⟨p,rfl,?_⟩,by simp[hlen],fun r hr=>?_⟩
   .rw[ae' (fun z=>by subst z;rw[hl3]at hp;cases hp)]
    exact ac'
   .rcases aD.mp hr with hr|hr
    .exact hok r hr
    .have e:r=(x,y):=by simpa using hr
     subst e
     exact⟨fun m hm=>hdo m (by simp[<- hm]),fun m hm=>hdo m (by simp[<- hm])⟩
 .rintro σ H2 ⟨⟨x4,x5,x6,x7,rfl⟩,g2,vs,M,hl2,hr2,hlen,hok⟩
  walk_at "sy"
  refine fo' (SqL.of hl2) fun p hp=>?_
  have hlM:=hr2.len
  have e:M.length=N:=by omega
  exact q p M _ ((g2.upd (g2.free _ hp)).mono ⋯) ⟨vs,ac',hr2.mono (fY' hp _)⟩ (fun r hr=>by rw[e];exact hok r hr) e
theorem xI' {K:W.Frag} {H:Hp} {Q:VK} {a:Addr} {xs:List V} {k:Nat} (h:H a=some (.lst xs)) (hk:k<=1000) (hz:xs.length*k<=sizeLine) (q:∀p,H p=none->Q (.ref p) (upd H p (.lst (ay k xs).flatten))):fC' K .Mult (.ref a) (.int k) H Q:=by
 refine⟨a,k,xs,rfl,rfl,h,⋯,⋯,by simpa using hz,fun p hp=>?_⟩
 rw[bf]
 exact q p hp
theorem tW' {H:Hp} {R:Hp->Prop} {a:Addr} {xs:List V} {k:Nat} {v:V} (h:H a=some (.lst xs)) (hk:k<xs.length) (q:R (upd H a (.lst (xs.set k v)))):ew' (.ref a) (.int k) v H R:=by
 refine⟨a,xs,k,k,rfl,rfl,h,?_,q⟩
 unfold ixN
 rw[if_pos ⋯,if_pos ⋯]
 simp
def nV (n:Nat):V:=.int n
theorem kj' {H:Hp} {P:Rm->Prop}:∀{vs:List V},(∀m,m<vs.length->∃r v,P r/\vs[m]?=some v/\eq' H v r)->∃M,cw' H vs M/\∀r∈M,P r
 | [],_=>⟨[],trivial,fun r hr=>by cases hr⟩
 |v :: vs,h=>by
  obtain⟨r,v',ho,e,hr⟩:=h 0 (by simp)
  cases e
  obtain⟨M,h1,h2⟩:=kj' (vs:=vs) fun m hm=>by
   obtain⟨r,v,h1,h2,h3⟩:=h (m+1) (by simpa using hm)
   exact⟨r,v,h1,by simpa using h2,h3⟩
  exact⟨r :: M,⟨hr,h1⟩,fun x hx=>by
   rcases al.mp hx with rfl|hx
   .exact ho
   .exact h2 x hx⟩
def OkD (N:Nat) (r:Rm):Prop:=OkR N r/\(r.1=none->r.2≠none)
def xJ':Sp:=fun vs H Q _=>∃(b:Addr) (n N:Nat),vs=[.ref b,.int N]/\H b=some (d6' b n)/\n<=2 ^ 39/\1<=N/\N<=60/\∀(a:Addr) (M:List Rm) (H':Hp),Go 400 H H'->IsM H' a M->OkM M->M.length=N->(∀r∈M,r.1=none->r.2≠none)->Q (.ref a) H'
theorem k8' {C:Rc} (hN:C.N.length=9) (hT:C.fs "_law_take"=some aK'):∀vs H Q E,xJ' vs H Q E->tSs C bk' { nx:=fun _ H'=>Q .non H',rt:=Q } (L2.aA' C.N vs) H:=by
 intro vs H Q E h
 obtain⟨b,n,N,rfl,hb,hn,hN0,hN1,q⟩:=h
 rw[am' hN]
 unfold bk'
 walk_at "sy"
 refine⟨by decide,fun l hl=>?_⟩
 refine gt' ⋯ ⋯ (k4' (fun i σ H'=>(∃x3 x4 x5 x6 x7 x8,σ=[some (.ref b),some (.int N),some (.ref l),x3,x4,x5,x6,x7,x8])/\Go i H H'/\∃os:List Nat,H' l=some (.lst (os.map nV))/\os.length=i/\(∀m∈os,m<N)/\∀m,m<i->m∈os) ⟨⟨_,_,_,_,_,_,rfl⟩,(Go.refl (c:=0)).upd hl,[],ac',rfl,(fun m hm=>by cases hm),fun m hm=>by omega⟩ ?_ ?_)
 .rintro i σ H1 hi ⟨⟨x3,x4,x5,x6,x7,x8,rfl⟩,g1,os,hl1,hlen,hlt,hall⟩
  walk_at "sy"
  refine⟨tyL hl1 rfl,ag' hT ?_⟩
  walk_at "sy"
  refine by' hb g1 ⋯ ⋯ ⋯ fun r2 H2 h20 h21 g12 g2=>?_
  have hl2:=g12.lst hl1
  walk_at "sy"
  obtain⟨j,rfl⟩:=aI h20
  refine xh' hl2 (by rw[ac];exact ak' ⋯) (by rw[ac];omega) ?_
  walk_at "sy"
  refine⟨⟨_,_,_,_,_,_,rfl⟩,g2.upd hl,os.take j++i :: os.drop j,?_,?_,?_,?_⟩
  .rw[ac',aG,aE,List.map_take,List.map_drop]
   simp[nV]
  .simp;omega
  .intro m hm
   rcases aD.mp hm with hm|hm
   .exact hlt m (List.mem_of_mem_take hm)
   .rcases al.mp hm with rfl|hm
    .omega
    .exact hlt m (List.mem_of_mem_drop hm)
  .intro m hm
   by_cases e:m=i
   .subst e;simp
   .have:=hall m ⋯
    rw[<- bj j os]at this
    rcases aD.mp this with h|h
    .exact aD.mpr (.inl h)
    .exact aD.mpr (.inr (au _ h))
 rintro σ H1 ⟨⟨x3,x4,x5,x6,x7,x8,rfl⟩,g1,os,hl1,hlen,hlt,hall⟩
 rw[bf]at g1 hlen hall
 walk_at "sy"
 refine⟨by decide,fun p hp=>?_⟩
 have hpl:l≠p:=ah' hl1 hp
 refine xI' ac' ⋯ (bE (ak' (by simp;omega))) fun w hw=>?_
 have gw:=(g1.upd (o:=.lst [.non]) (g1.free _ hp)).upd (o:=.lst (ay N [V.non]).flatten) ((g1.upd (o:=.lst [.non]) (g1.free _ hp)).free _ hw)
 have hlw:upd (upd H1 p (.lst [.non])) w (.lst (ay N [V.non]).flatten) l=some (.lst (os.map nV)):=af' hw _ _ _ (af' hp _ _ _ hl1)
 have hww:upd (upd H1 p (.lst [.non])) w (.lst (ay N [V.non]).flatten) w=some (.lst (ay N V.non)):=by
  rw[ac'];simp
 have hw0:H w=none:=(g1.upd (o:=.lst [.non]) (g1.free _ hp)).free _ hw
 have hwl:l≠w:=ah' (af' hp (.lst [.non]) _ _ hl1) hw
 generalize upd (upd H1 p (.lst [.non])) w (.lst (ay N [V.non]).flatten)=H2 at gw hlw hww
 walk_at "sy"
 refine j9' (SqL.of hlw) (w6' (xs:=os.map nV) (fun t σ H'=>(∃x3 x5 x6 x7 x8,σ=[some (.ref b),some (.int N),some (.ref l),x3,some (.ref w),x5,x6,x7,x8])/\Go (N+3*t) H H'/\H' l=some (.lst (os.map nV))/\∃ws,H' w=some (.lst ws)/\ws.length=N/\∀m∈os.take t,∃r v,OkD N r/\ws[m]?=some v/\eq' H' v r) ⟨⟨_,_,_,_,_,rfl⟩,gw.mono ⋯,hlw,_,hww,by simp,fun m hm=>by cases hm⟩ (fun t σ H' _ pv=>SqL.of pv.2.2.1) ?_ ?_)
 .rintro t x σ H3 e hx he ⟨⟨x3,x5,x6,x7,x8,rfl⟩,g3,hl3,ws,hw3,hwn,hws⟩
  rw[aA]at hx
  cases eo:os[t]? with
  |none=>rw[eo]at hx;cases hx
  |some room=>
   rw[eo]at hx
   cases hx
   have ht:=ap' eo
   refine c3' (SqT.of ac') ?_
   have s4:=af' he (.tup [.int t,nV room])
   have g4:=g3.upd (o:=.tup [.int t,nV room]) (g3.free _ he)
   generalize upd H3 e (.tup [.int t,nV room])=H4 at s4 g4
   have hl4:=s4 _ _ hl3
   walk_at "sy"
   refine i9' (SqL.of hl4) fun c hc=>?_
   rw[show(1:Int)=((1:Nat):Int) from rfl,xk']
   have s5:=af' hc (.lst ((os.map nV).take 1))
   have g5:=g4.upd (o:=.lst ((os.map nV).take 1)) (g4.free _ hc)
   have hc5:upd H4 c (.lst ((os.map nV).take 1)) c=some (.lst ((os.map nV).take 1)):=ac'
   generalize upd H4 c (.lst ((os.map nV).take 1))=H5 at s5 g5 hc5
   walk_at "sy"
   refine xl' (s5 _ _ hl4) hc5 (bE (ak' (by simp;omega))) fun d hd=>?_
   have s6:=af' hd (.lst (os.map nV++(os.map nV).take 1))
   have g6:=g5.upd (o:=.lst (os.map nV++(os.map nV).take 1)) (g5.free _ hd)
   have hd6:upd H5 d (.lst (os.map nV++(os.map nV).take 1)) d=some (.lst ((os++os.take 1).map nV)):=by rw[ac',aG,List.map_take]
   generalize upd H5 d (.lst (os.map nV++(os.map nV).take 1))=H6 at s6 g6 hd6
   obtain⟨on,eon,hon⟩:∃on,(os++os.take 1)[t+1]?=some on/\on<N:=by
    have hl:t+1<(os++os.take 1).length:=by simp;omega
    refine⟨_,af hl,?_⟩
    rcases aD.mp (cH hl)with h|h
    .exact hlt _ h
    .exact hlt _ (List.mem_of_mem_take h)
   walk_at "sy"
   refine a6' (SqL.of hd6) (v:=nV on) (cU' (j:=t+1) (by rw[aA,eon];rfl)) ?_
   walk_at "sy"
   refine ag' hT ?_
   walk_at "sy"
   refine by' hb g6 ⋯ ⋯ ⋯ fun r7 H7 h70 h71 g67 g7=>?_
   walk_at "sy"
   refine⟨by decide,fun f hf=>?_⟩
   refine ag' hT ?_
   walk_at "sy"
   refine by' hb (g7.upd (o:=.lst [.int r7,.non]) (g7.free _ hf)) ⋯ ⋯ ⋯ fun r8 H8 h80 h81 g78 g8=>?_
   have hf8:H8 f=some (.lst [.int r7,.non]):=g78.lst ac'
   have keep8:∀a xs,H3 a=some (.lst xs)->H8 a=some (.lst xs):=fun a xs h=>g78.lst (af' hf _ _ _ (g67.lst (s6 _ _ (s5 _ _ (s4 _ _ h)))))
   have tp8:Tp H3 H8:=(((ar' s4).trans (ar' s5)).trans (ar' s6)).trans (g67.tp.trans ((fY' hf _).trans g78.tp))
   walk_at "sy"
   refine rE' (SqL.of hf8) ?_
   obtain⟨o,eo2,hoo⟩:∃o:Option Nat,(if decide (r8=0)=true then V.non else V.int r7)=oV o/\∀m,o=some m->m<N:=by
    split
    .exact⟨none,rfl,fun m hm=>by cases hm⟩
    .exact⟨some r7.toNat,by show _=V.int _;congr 1;omega,fun m hm=>by cases hm;omega⟩
   rw[eo2]
   walk_at "sy"
   refine⟨by decide,fun p1 hp1=>?_⟩
   have s9:=af' hp1 (.tup [nV on,oV o])
   have g9:=g8.upd (o:=.tup [nV on,oV o]) (g8.free _ hp1)
   have h9:upd H8 p1 (.tup [nV on,oV o]) p1=some (.tup [nV on,oV o]):=ac'
   generalize upd H8 p1 (.tup [nV on,oV o])=H9 at s9 g9 h9
   refine⟨by decide,fun p2 hp2=>?_⟩
   have s10:=af' hp2 (.tup [oV o,nV on])
   have g10:=g9.upd (o:=.tup [oV o,nV on]) (g9.free _ hp2)
   have h10:upd H9 p2 (.tup [oV o,nV on]) p2=some (.tup [oV o,nV on]):=ac'
   generalize upd H9 p2 (.tup [oV o,nV on])=H10 at s10 g10 h10
   refine⟨by decide,fun p3 hp3=>?_⟩
   have s11:=af' hp3 (.lst [.ref p1,.ref p2])
   have g11:=g10.upd (o:=.lst [.ref p1,.ref p2]) (g10.free _ hp3)
   have h11:upd H10 p3 (.lst [.ref p1,.ref p2]) p3=some (.lst [.ref p1,.ref p2]):=ac'
   generalize upd H10 p3 (.lst [.ref p1,.ref p2])=H11 at s11 g11 h11
   refine ag' hT ?_
   walk_at "sy"
   refine by' hb g11 ⋯ ⋯ ⋯ fun r12 H12 h120 h121 g1112 g12=>?_
   have tpx:Tp H3 H12:=(((tp8.trans (ar' s9)).trans (ar' s10)).trans (ar' s11)).trans g1112.tp
   have hl12:H12 l=some (.lst (os.map nV)):=g1112.lst (s11 _ _ (s10 _ _ (s9 _ _ (keep8 _ _ hl3))))
   have hw12:H12 w=some (.lst ws):=g1112.lst (s11 _ _ (s10 _ _ (s9 _ _ (keep8 _ _ hw3))))
   have h1:H12 p1=some (.tup [nV on,oV o]):=g1112.tup (s11 _ _ (s10 _ _ h9))
   have h2:H12 p2=some (.tup [oV o,nV on]):=g1112.tup (s11 _ _ h10)
   walk_at "sy"
   have hroom:room<N:=hlt room (aL eo)
   have fin:∀(pz:Addr) (rz:Rm),OkD N rz->H12 pz=some (.tup [oV rz.1,oV rz.2])->ew' (.ref w) (nV room) (.ref pz) H12 (fun H'=>(∃x3' x5 x6 x7 x8,[some (V.ref b),some (V.int N),some (V.ref l),x3,some (V.ref w),some (V.int t),some (nV room),some (nV on),some (oV o)]=[some (.ref b),some (.int N),some (.ref l),x3',some (.ref w),x5,x6,x7,x8])/\Go (N+3*(t+1)) H H'/\H' l=some (.lst (os.map nV))/\∃ws,H' w=some (.lst ws)/\ws.length=N/\∀m∈os.take (t+1),∃r v,OkD N r/\ws[m]?=some v/\eq' H' v r):=by
    intro pz rz hrz hpz
    refine tW' hw12 ⋯ ⟨⟨_,_,_,_,_,rfl⟩,(g12.upd hw0).mono ⋯,by rw[ae' hwl];exact hl12,_,ac',by rw[List.length_set];exact hwn,fun m hm=>?_⟩
    by_cases em:m=room
    .subst em
     exact⟨rz,.ref pz,hrz,by rw[cI ⋯],pz,rfl,fZ' hw12 _ _ _ hpz⟩
    .rw[bh,eo]at hm
     rcases aD.mp hm with hm|hm
     .obtain⟨r,v,q1,q2,q3⟩:=hws m hm
      exact⟨r,v,q1,by rw[bH (Ne.symm em)];exact q2,q3.mono (tpx.trans (fZ' hw12 _))⟩
     .exact absurd (by simpa using hm) em
   have h121':r12=0\/r12=1:=by omega
   rcases h121' with rfl|rfl
   .refine a6' (SqL.of (g1112.lst h11)) (v:=.ref p1) rfl ?_
    walk_at "sy"
    exact fin p1 (some on,o) ⟨⟨fun m hm=>by cases hm;exact hon,hoo⟩,fun z=>by cases z⟩ h1
   .refine a6' (SqL.of (g1112.lst h11)) (v:=.ref p2) rfl ?_
    walk_at "sy"
    exact fin p2 (o,some on) ⟨⟨hoo,fun m hm=>by cases hm;exact hon⟩,fun _ z=>by cases z⟩ h2
 .rintro σ H3 ⟨⟨x3,x5,x6,x7,x8,rfl⟩,g3,hl3,ws,hw3,hwn,hws⟩
  walk_at "sy"
  refine fo' (SqL.of hw3) fun p hp=>?_
  rw[ac,<- ac (f:=nV),ac,aV]at hws
  rw[ac]at g3
  obtain⟨M,hM,hO⟩:=kj' (P:=OkD N) (vs:=ws) (H:=H3) fun m hm=>hws m (hall m ⋯)
  have e:M.length=N:=by rw[<- hM.len];exact hwn
  exact q p M _ ((g3.upd (g3.free _ hp)).mono ⋯) ⟨ws,ac',hM.mono (fY' hp _)⟩ (fun r hr=>by rw[e];exact(hO r hr).1) e fun r hr=>(hO r hr).2
theorem nR' {C:Rc} (hN:C.N.length=9) (hT:C.fs "_law_take"=some aK'):∀vs H Q E,dl' 1 60 400 vs H Q E->tSs C bk' { nx:=fun _ H'=>Q .non H',rt:=Q } (L2.aA' C.N vs) H:=fun vs H Q E ⟨b,n,N,h1,h2,h3,h4,h5,q⟩=>k8' hN hT vs H Q E ⟨b,n,N,h1,h2,h3,h4,h5,fun a M H' g i o l _=>q a M H' g i o l⟩
end LW
namespace LW
open PySem PySem.Spec PyProof.Rows L2 R3
def eK':Css:=(.cons (.asg (.name 3) (.var 1))
  (.cons (.for_ (.name 4) (.val (.var 2)) (.cons (.ite (.cmp .Is (.var 3) .non) (.cons (.ret .non)
  .nil) .nil)
  (.cons (.asg (.name 3) (.idx (.idx (.var 0) (.var 3)) (.blt .int (.cons (.var 4) .nil))))
  .nil)))
  (.cons (.ret (.var 3))
  .nil)))
def kk':Css:=(.cons (.ret (.met .join (.str "") (.cons (.comp (.idx (.str "01") (.call "_law_take" (.cons (.var 0) (.cons (.int 2) .nil)))) [2] (.name 2) (.range1 (.var 1)) .none .nil) .nil)))
  .nil)
def stp (M:List Rm) (r:Nat) (c:Bool):Option Nat:=match M[r]? with
 |some rm=>if c then rm.2 else rm.1
 |none=>none
def wk (M:List Rm) (o:Option Nat) (row:List Bool):Option Nat:=row.foldl (fun o c=>o.bind fun r=>stp M r c) o
theorem tX' {M:List Rm} {row:List Bool}:wk M none row=none:=by
 induction row with
 |nil=>rfl
 |cons c row ih=>exact ih
theorem rS' {M:List Rm} {o:Option Nat} {a b:List Bool}:wk M o (a++b)=wk M (wk M o a) b:=by unfold wk;rw[List.foldl_append]
theorem fp' {M:List Rm} {o:Option Nat} {row:List Bool} {i:Nat} {c:Bool} (h:row[i]?=some c):wk M o (row.take (i+1))=(wk M o (row.take i)).bind fun r=>stp M r c:=by
 rw[bh,h]
 show wk M o (row.take i++[c])=_
 rw[rS']
 rfl
theorem rT' {M:List Rm} {o:Option Nat} {row:List Bool} {i:Nat} (h:wk M o (row.take i)=none):wk M o row=none:=by
 rw[<- bj i row,rS',h,tX']
theorem fq' {M:List Rm} (hM:OkM M) {r:Nat} {c:Bool} {n:Nat} (h:stp M r c=some n):n<M.length:=by
 unfold stp at h
 cases e:M[r]? with
 |none=>rw[e]at h;cases h
 |some rm=>
  rw[e]at h
  have:=hM rm (aL e)
  cases c
  .exact this.1 n h
  .exact this.2 n h
theorem pS' {M:List Rm} (hM:OkM M):∀{row:List Bool} {o:Option Nat} {n:Nat},(∀m,o=some m->m<M.length)->wk M o row=some n->n<M.length
 | [],o,n,ho,h=>ho n h
 |c :: row,o,n,ho,h=>pS' hM (row:=row) (o:=o.bind fun r=>stp M r c) (fun m hm=>by
   cases o with
   |none=>cases hm
   |some r=>exact fq' hM hm) h
theorem cE' {C:Rc} {H:Hp} {a:Addr} {M:List Rm} {r:Nat} {c:Bool} {Q:VK} (hM:IsM H a M) (hr:r<M.length) (q:∀p,(∀Q':VK,Q' (oV (stp M r c)) H->gN' C.K (.ref p) (.int (if c then 1 else 0)) H Q'\/gU' C.K (.ref p) (.int (if c then 1 else 0)) H Q')->Q (.ref p) H):gN' C.K (.ref a) (.int r) H Q\/gU' C.K (.ref a) (.int r) H Q:=by
 obtain⟨vs,ha,hv⟩:=hM
 obtain⟨p,hp,hpt⟩:=hv.get (af hr)
 refine fm' (SqT.of ha) (v:=.ref p) (cU' hp) (q p fun Q' q'=>?_)
 refine tv' (SqT.of hpt) ?_
 have e:stp M r c=if c then M[r].2 else M[r].1:=by unfold stp;rw[af hr]
 rw[e]at q'
 cases c<;>exact q'
def f0':Sp:=fun vs H Q _=>∃(a:Addr) (M:List Rm) (r:Nat) (row:List Bool),vs=[.ref a,.int r,.str (tx row)]/\IsM H a M/\OkM M/\r<M.length/\Q (oV (wk M (some r) row)) H
theorem nS' {C:Rc} (hN:C.N.length=5):∀vs H Q E,f0' vs H Q E->tSs C eK' { nx:=fun _ H'=>Q .non H',rt:=Q } (L2.aA' C.N vs) H:=by
 intro vs H Q E h
 obtain⟨a,M,r,row,rfl,hM,hO,hr,q⟩:=h
 rw[am' hN]
 unfold eK'
 walk_at "sy"
 refine fl' (nw' (fun i σ H'=>H'=H/\∃x,σ=[some (.ref a),some (.int r),some (.str (tx row)),some (oV (wk M (some r) (row.take i))),x]) ⟨rfl,none,rfl⟩ ?_ ?_)
 .rintro i c σ H' hc ⟨rfl,x,rfl⟩
  walk_at "sy"
  cases e:wk M (some r) (row.take i)with
  |none=>
   simp only[oV]
   walk_at "sy"
   rw[rT' e]at q
   exact q
  |some m=>
   have hm:=pS' hO (fun k hk=>by cases hk;exact hr) e
   simp only[oV]
   walk_at "sy"
   refine cE' (c:=c) hM hm fun p hp=>?_
   walk_at "sy"
   refine hp _ ?_
   walk_at "sy"
   refine⟨trivial,some (.str (tx [c])),?_⟩
   rw[fp' hc,e]
   rfl
 .rintro σ H' ⟨rfl,x,rfl⟩
  rw[aV]
  walk_at "sy"
  exact q
def fr':Sp:=fun vs H Q _=>∃(b:Addr) (n N:Nat),vs=[.ref b,.int N]/\H b=some (d6' b n)/\n<=2 ^ 39/\N<=500/\∀(r:List Bool) (H':Hp),r.length=N->Go N H H'->Q (.str (tx r)) H'
theorem nT' {C:Rc} (hN:C.N.length=3) (hT:C.fs "_law_take"=some aK'):∀vs H Q E,fr' vs H Q E->tSs C kk' { nx:=fun _ H'=>Q .non H',rt:=Q } (L2.aA' C.N vs) H:=by
 intro vs H Q E h
 obtain⟨b,n,N,rfl,hb,hn,hN5,q⟩:=h
 rw[am' hN]
 unfold kk'
 walk_at "sy"
 refine⟨rfl,?_⟩
 refine gt' ⋯ ⋯ (ny' (fun i xs H'=>(∃r:List Bool,xs=(r.map fun c=>[c]).map (fun l=>V.str (tx l))/\r.length=i)/\Go i H H') ⟨⟨[],rfl,rfl⟩,Go.refl⟩ ?_ ?_)
 .rintro i xs H1 R hi ⟨⟨r,rfl,hr⟩,g1⟩ hR
  walk_at "sy"
  refine ag' hT ?_
  walk_at "sy"
  refine by' hb g1 ⋯ ⋯ ⋯ fun r2 H2 h20 h21 g12 g2=>?_
  walk_at "sy"
  obtain⟨c0,hc0⟩:∃c0,atI [false,true] r2=some c0:=by
   have:r2=0\/r2=1:=by omega
   rcases this with rfl|rfl
   .exact⟨false,rfl⟩
   .exact⟨true,rfl⟩
  refine nB' (by decide) hc0 ?_
  walk_at "sy"
  exact⟨by simp only[ac];exact ak' ⋯,hR _ _ ⟨⟨r++[c0],by simp,by simp[hr]⟩,g2⟩⟩
 .rintro xs H1 ⟨⟨r,rfl,hr⟩,g1⟩ p hp
  rw[bf]at hr g1
  walk_at "sy"
  have ef:(r.map fun c=>[c]).flatten=r:=by
   clear hr hp
   induction r with
   |nil=>rfl
   |cons c r ih=>rw[aE,ba,ih];rfl
  refine gw' (ls:=r.map fun c=>[c]) (SqL.of ac') (by rw[ef];omega) ?_
  rw[ef]
  exact q r _ hr (g1.upd (g1.free _ hp))
end LW
namespace LW
open PySem PySem.Spec PyProof.Rows L2 R3
def bJ':Css:=(.cons (.asg (.name 4) (.idx (.idx (.var 0) (.var 2)) (.blt .int (.cons (.var 3) .nil))))
  (.cons (.ret (.ife (.cmp .Is (.var 4) .non) (.int 0) (.idx (.var 1) (.var 4))))
  .nil))
def cf':Css:=(.cons (.ret (.comp (.bin .Add (.call "behind_bit" (.cons (.var 0) (.cons (.var 1) (.cons (.var 2) (.cons (.str "0") .nil))))) (.call "behind_bit" (.cons (.var 0) (.cons (.var 1) (.cons (.var 2) (.cons (.str "1") .nil)))))) [2] (.name 2) (.range1 (.blt .len (.cons (.var 0) .nil))) .none .nil))
  .nil)
def eL':Css:=(.cons (.asg (.name 3) (.lst (.cons (.comp (.ife (.or (.cmp .Is (.var 1) .non) (.cmp .Eq (.var 4) (.var 1))) (.int 1) (.int 0)) [4] (.name 4) (.range1 (.blt .len (.cons (.var 0) .nil))) .none .nil) .nil)))
  (.cons (.for_ (.name 5) (.range1 (.var 2)) (.cons (.expr (.met .append (.var 3) (.cons (.call "way_sums" (.cons (.var 0) (.cons (.idx (.var 3) (.neg (.int 1))) .nil))) .nil)))
  .nil))
  (.cons (.ret (.var 3))
  .nil)))
theorem c4' {H H':Hp} {a:Addr} {o:HO} (s:aD' H H') (h:H a=none):aD' H (upd H' a o):=fun b u q=>by
 rw[ae' (ah' q h)]
 exact s b u q
theorem tY' {α:Type} {vs:List α} {i:Nat} {v:α} (hl:vs.length=i+1) (h:vs[i]?=some v):atI vs (-1)=some v:=by
 unfold atI ixN
 rw[if_neg ⋯,if_pos ⋯]
 show vs[((-1:Int)+(vs.length:Int)).toNat]?=some v
 rw[show((-1:Int)+(vs.length:Int)).toNat=i by omega]
 exact h
def ow (f:Nat->Nat):Option Nat->Nat
 |none=>0
 |some m=>f m
def wy (M:List Rm) (g:Option Nat):Nat->Nat->Nat
 |0,r=>if g=none\/g=some r then 1 else 0
 |n+1,r=>ow (wy M g n) (stp M r false)+ow (wy M g n) (stp M r true)
def wyL (M:List Rm) (g:Option Nat) (n:Nat):List Int:=(aF M.length).map fun r=>((wy M g n r:Nat):Int)
def oi (ns:List Int):Option Nat->Int
 |none=>0
 |some m=>ns.getD m 0
def wsL (M:List Rm) (ns:List Int) (k:Nat):List Int:=(aF k).map fun r=>oi ns (stp M r false)+oi ns (stp M r true)
theorem tZ' {M:List Rm} {g:Option Nat} {n m:Nat} (h:m<M.length):(wyL M g n).getD m 0=wy M g n m:=by
 unfold wyL
 rw[bK,aA,bD h]
 rfl
theorem jc' {M:List Rm} {g:Option Nat} {n:Nat}:(wyL M g n).length=M.length:=by unfold wyL;simp
theorem pT' {M:List Rm} (hM:OkM M) {g:Option Nat} {n r:Nat} {c:Bool}:oi (wyL M g n) (stp M r c)=((ow (wy M g n) (stp M r c):Nat):Int):=by
 cases e:stp M r c with
 |none=>rfl
 |some m=>exact tZ' (fq' hM e)
theorem xK' {M:List Rm} (hM:OkM M) {g:Option Nat} {n:Nat}:wsL M (wyL M g n) M.length=wyL M g (n+1):=by
 unfold wsL
 show _=(aF M.length).map fun r=>((wy M g (n+1) r:Nat):Int)
 apply bM
 intro r _
 rw[pT' hM,pT' hM]
 show _=((ow (wy M g n) (stp M r false)+ow (wy M g n) (stp M r true):Nat):Int)
 omega
def a1' (K:W.Frag):Sp:=fun vs H Q _=>∃(a b:Addr) (M:List Rm) (r:Nat) (c:Bool) (ns:List Int),vs=[.ref a,.ref b,.int r,.str (tx [c])]/\IsM H a M/\OkM M/\r<M.length/\SqL K H b (ns.map V.int)/\ns.length=M.length/\Q (.int (oi ns (stp M r c))) H
theorem jd' {C:Rc} (hN:C.N.length=5):∀vs H Q E,a1' C.K vs H Q E->tSs C bJ' { nx:=fun _ H'=>Q .non H',rt:=Q } (L2.aA' C.N vs) H:=by
 intro vs H Q E h
 obtain⟨a,b,M,r,c,ns,rfl,hM,hO,hr,hb,hl,q⟩:=h
 rw[am' hN]
 unfold bJ'
 walk_at "sy"
 refine cE' (c:=c) hM hr fun p hp=>?_
 symm
 refine hp _ ?_
 cases e:stp M r c with
 |none=>
  rw[e]at q
  simp only[oV]
  symm
  exact q
 |some m=>
  rw[e]at q
  have hm:=fq' hO e
  simp only[oV]
  symm
  refine a6' hb (v:=.int (ns.getD m 0)) (cU' ?_) q
  rw[aA,af ⋯]
  simp[bK,(by omega:m<ns.length)]
def cx' (K:W.Frag):Sp:=fun vs H Q _=>∃(a b:Addr) (M:List Rm) (ns:List Int),vs=[.ref a,.ref b]/\IsM H a M/\OkM M/\M.length<=500/\SqL K H b (ns.map V.int)/\ns.length=M.length/\∀p,H p=none->Q (.ref p) (upd H p (.lst ((wsL M ns M.length).map V.int)))
theorem gB' {C:Rc} (hN:C.N.length=3) (hB:C.fs "behind_bit"=some (a1' C.K)):∀vs H Q E,cx' C.K vs H Q E->tSs C cf' { nx:=fun _ H'=>Q .non H',rt:=Q } (L2.aA' C.N vs) H:=by
 intro vs H Q E h
 obtain⟨a,b,M,ns,rfl,hM,hO,hM5,hb,hl,q⟩:=h
 rw[am' hN]
 unfold cf'
 obtain⟨rv,ha,hrv⟩:=id hM
 walk_at "sy"
 refine ef' (SqT.of ha) ?_
 rw[hrv.len]
 refine gt' ⋯ ⋯ (ny' (fun i xs H'=>H'=H/\xs=(wsL M ns i).map V.int) ⟨rfl,rfl⟩ ?_ ?_)
 .rintro i xs H' R hi ⟨rfl,rfl⟩ hR
  rw[show(0:Int)+(i:Int)=(i:Int) by omega]
  have hi':i<M.length:=by omega
  symm
  refine ag' hB ?_
  symm
  refine⟨a,b,M,i,false,ns,rfl,hM,hO,hi',hb,hl,?_⟩
  symm
  refine ag' hB ?_
  symm
  refine⟨a,b,M,i,true,ns,rfl,hM,hO,hi',hb,hl,?_⟩
  symm
  refine⟨by rw[ac];unfold wsL;simp;exact ak' ⋯,hR _ _ ⟨rfl,?_⟩⟩
  unfold wsL
  rw[cy,aG,aG]
  rfl
 .rintro xs H' ⟨rfl,rfl⟩ p hp
  exact q p hp
def cy' (K:W.Frag):Sp:=fun vs H Q _=>∃(a:Addr) (M:List Rm) (g:Option Nat) (n:Nat),vs=[.ref a,oV g,.int n]/\IsM H a M/\OkM M/\M.length<=500/\n<=900/\
 ∀(l:Addr) (vs':List V) (H':Hp),H l=none->aD' H H'->H' l=some (.lst vs')->cq' (fun v k=>∃e,v=V.ref e/\e≠l/\H e=none/\H' e=some (.lst ((wyL M g k).map V.int))) vs' (aF (n+1))->Q (.ref l) H'
theorem nU' {C:Rc} (hN:C.N.length=6) (hW:C.fs "way_sums"=some (cx' C.K)):∀vs H Q E,cy' C.K vs H Q E->tSs C eL' { nx:=fun _ H'=>Q .non H',rt:=Q } (L2.aA' C.N vs) H:=by
 intro vs H Q E h
 obtain⟨a,M,g,n,rfl,hM,hO,hM5,hn,q⟩:=h
 rw[am' hN]
 unfold eL'
 obtain⟨rv,ha,hrv⟩:=id hM
 walk_at "sy"
 refine ef' (SqT.of ha) ?_
 rw[hrv.len]
 refine gt' ⋯ ⋯ (ny' (fun i xs H'=>H'=H/\xs=((aF i).map fun r=>((wy M g 0 r:Nat):Int)).map V.int) ⟨rfl,rfl⟩ ?_ ?_)
 .rintro i xs H' R hi ⟨rfl,rfl⟩ hR
  rw[show(0:Int)+(i:Int)=(i:Int) by omega]
  have fin:∀k:Nat,k=wy M g 0 i->h5' (((aF i).map fun r=>((wy M g 0 r:Nat):Int)).map V.int) R (.int k) H':=by
   rintro k rfl
   refine⟨by simp;exact ak' ⋯,hR _ _ ⟨rfl,?_⟩⟩
   rw[cy,aG,aG]
   rfl
  cases g with
  |none=>
   simp only[oV]
   symm
   exact fin 1 (by simp[wy])
  |some k=>
   simp only[oV]
   symm
   refine bv' (fun hc=>?_) fun hc=>?_
   .symm
    exact fin 1 (by have:k=i:=⋯;simp[wy,this])
   .symm
    exact fin 0 (by have:k≠i:=fun z=>hc ⋯;simp[wy,this])
 rintro xs H1 ⟨rfl,rfl⟩ e0 he0
 rw[bf]
 have s2:=af' he0 (.lst (((aF M.length).map fun r=>((wy M g 0 r:Nat):Int)).map V.int))
 have he2:upd H1 e0 (.lst (((aF M.length).map fun r=>((wy M g 0 r:Nat):Int)).map V.int)) e0=some (.lst ((wyL M g 0).map V.int)):=ac'
 generalize upd H1 e0 (.lst (((aF M.length).map fun r=>((wy M g 0 r:Nat):Int)).map V.int))=H2 at s2 he2
 symm
 refine⟨by decide,fun l hl=>?_⟩
 have hl0:H1 l=none:=s2.free hl
 have hel0:e0≠l:=ah' he2 hl
 symm
 refine gt' ⋯ ⋯ (k4' (fun i σ H'=>aD' H1 H'/\(∃x4 x5,σ=[some (.ref a),some (oV g),some (.int n),some (.ref l),x4,x5])/\∃vs',H' l=some (.lst vs')/\cq' (fun v k=>∃e,v=V.ref e/\e≠l/\H1 e=none/\H' e=some (.lst ((wyL M g k).map V.int))) vs' (aF (i+1))) ⟨c4' s2 hl0,⟨_,_,rfl⟩,[.ref e0],ac',⟨e0,rfl,hel0,he0,by rw[ae' hel0];exact he2⟩,trivial⟩ ?_ ?_)
 .rintro i σ H3 hi ⟨s3,⟨x4,x5,rfl⟩,vs',hl3,hA⟩
  have hvl:=hA.len
  obtain⟨v,ev,e,rfl,hel,he1,he3⟩:=hA.get (i:=i) (b:=i) (by rw[bD ⋯])
  rw[bx]at hvl
  symm
  refine⟨tyL hl3 rfl,ag' hW ?_⟩
  symm
  have elast:atI vs' (-1)=some (.ref e):=tY' hvl ev
  refine a6' (SqL.of hl3) elast ?_
  symm
  refine⟨a,e,M,wyL M g i,rfl,hM.mono (ar' s3),hO,hM5,SqL.of he3,jc',fun p hp=>?_⟩
  rw[xK' hO]
  have s4:=af' hp (.lst ((wyL M g (i+1)).map V.int))
  have hp4:upd H3 p (.lst ((wyL M g (i+1)).map V.int)) p=some (.lst ((wyL M g (i+1)).map V.int)):=ac'
  generalize upd H3 p (.lst ((wyL M g (i+1)).map V.int))=H4 at s4 hp4
  have hpl:p≠l:=fun z=>by subst z;rw[hl3]at hp;cases hp
  symm
  refine fW' (s4 _ _ hl3) (ak' ⋯) ?_
  symm
  refine⟨c4' (s3.trans s4) hl0,⟨_,_,rfl⟩,vs'++[.ref p],ac',?_⟩
  rw[cy]
  refine cq'.snoc (hA.mono fun v k ⟨e',h1,h2,h3,h4⟩=>⟨e',h1,h2,h3,by rw[ae' h2];exact s4 _ _ h4⟩) ⟨p,rfl,hpl,(s3.free hp),by rw[ae' hpl];exact hp4⟩
 .rintro σ H3 ⟨s3,⟨x4,x5,rfl⟩,vs',hl3,hA⟩
  rw[bf]at hA
  symm
  exact q l vs' H3 hl0 s3 hl3 hA
end LW
namespace TM
open PySem PySem.Spec PyProof.Rows L2 R3 LW
def cF':Css:=(.cons (.asg (.name 2) (.blt .set (.cons (.var 1) .nil)))
  (.cons (.setc2 3 (.var 5) [4,5] (.name 4) (.val (.var 1)) .none [5] (.name 5) (.val (.idx (.var 0) (.var 4))) .none)
  (.cons (.ret (.comp (.var 4) [4] (.name 4) (.val (.var 1)) (.some (.and (.din false (.var 4) (.var 3)) (.or (.din false (.idx (.idx (.var 0) (.var 4)) (.int 0)) (.var 2)) (.din false (.idx (.idx (.var 0) (.var 4)) (.int 1)) (.var 2))))) .nil))
  .nil)))
def cG':Css:=(.cons (.dctc false 2 (.var 4) (.var 3) [3,4] (.tup (.cons (.name 3) (.cons (.name 4) .nil))) (.enum (.var 1)) .none)
  (.cons (.ret (.blt .tuple (.cons (.comp (.tup (.cons (.dgt (.var 2) (.idx (.idx (.var 0) (.var 4)) (.int 0))) (.cons (.dgt (.var 2) (.idx (.idx (.var 0) (.var 4)) (.int 1))) .nil))) [4] (.name 4) (.val (.var 1)) .none .nil) .nil)))
  .nil))
def cH':Css:=(.cons (.asg (.name 1) (.blt .list (.cons (.blt .range (.cons (.blt .len (.cons (.var 0) .nil)) .nil)) .nil)))
  (.cons (.asg (.name 2) (.call "lasting" (.cons (.var 0) (.cons (.var 1) .nil))))
  (.cons (.whl (.cmp .Lt (.blt .len (.cons (.var 2) .nil)) (.blt .len (.cons (.var 1) .nil))) (.cons (.asg (.name 1) (.var 2))
  (.cons (.asg (.name 2) (.call "lasting" (.cons (.var 0) (.cons (.var 1) .nil))))
  .nil)))
  (.cons (.ret (.tup (.cons (.call "part_of" (.cons (.var 0) (.cons (.var 1) .nil))) (.cons (.var 1) .nil))))
  .nil))))
def oI (o:Option Nat):Option Int:=o.map Int.ofNat
theorem pU' {o:Option Nat}:oV o=kO (oI o):=by cases o<;>rfl
def fs1 (M:List Rm) (r:Nat):Option Nat:=(M[r]?.getD (none,none)).1
def fs2 (M:List Rm) (r:Nat):Option Nat:=(M[r]?.getD (none,none)).2
theorem ft' {C:Rc} {H:Hp} {a:Addr} {M:List Rm} {r:Nat} {Q:VK} (hM:IsM H a M) (hr:r<M.length) (q:∀p,H p=some (.tup [oV (fs1 M r),oV (fs2 M r)])->Q (.ref p) H):gN' C.K (.ref a) (.int r) H Q\/gU' C.K (.ref a) (.int r) H Q:=by
 obtain⟨vs,ha,hv⟩:=hM
 obtain⟨p,hp,hpt⟩:=hv.get (af hr)
 refine fm' (SqT.of ha) (v:=.ref p) (cU' hp) (q p ?_)
 unfold fs1 fs2
 rw[af hr]
 exact hpt
def ldS (M:List Rm) (rs:List Nat):Option Int->Bool:=fun k=>rs.any fun r=>decide (k=oI (fs1 M r)) || decide (k=oI (fs2 M r))
theorem pV' {M:List Rm} {rs:List Nat} {r:Nat}:ldS M (rs++[r])=fun k=>(ldS M rs k || decide (k=oI (fs1 M r))) || decide (k=oI (fs2 M r)):=by
 funext k
 unfold ldS
 rw[List.any_append]
 simp[Bool.or_assoc]
def inR (rs:List Nat) (o:Option Nat):Bool:=match o with
 |some n=>rs.contains n
 |none=>false
theorem rU' {rs:List Nat} {o:Option Nat}:inL (rs.map Int.ofNat) (oI o)=inR rs o:=by
 cases o with
 |none=>rfl
 |some n=>
  show(rs.map Int.ofNat).contains (Int.ofNat n)=rs.contains n
  induction rs with
  |nil=>rfl
  |cons a rs ih=>
   rw[aE,List.contains_cons,List.contains_cons,ih]
   congr 1
   by_cases h:n=a
   .subst h;simp
   .rw[beq_eq_false_iff_ne.mpr h,beq_eq_false_iff_ne.mpr (fun z=>h (Int.ofNat.inj z))]
def eB' (M:List Rm) (rs:List Nat) (r:Nat):Bool:=ldS M rs (some (r:Int))&&(inR rs (fs1 M r) || inR rs (fs2 M r))
def lst (M:List Rm) (rs:List Nat):List Nat:=rs.filter (eB' M rs)
theorem t0' {rs:List Nat}:(rs.map Int.ofNat).map V.int=rs.map nV:=by rw[bi];rfl
def ig':Sp:=fun vs H Q _=>∃(a l:Addr) (M:List Rm) (rs:List Nat),vs=[.ref a,.ref l]/\IsM H a M/\H l=some (.lst (rs.map nV))/\(∀r∈rs,r<M.length)/\rs.length<=500/\∀(p:Addr) (H':Hp),H p=none->aD' H H'->H' p=some (.lst ((lst M rs).map nV))->Q (.ref p) H'
theorem nV' {C:Rc} (hN:C.N.length=6):∀vs H Q E,ig' vs H Q E->tSs C cF' { nx:=fun _ H'=>Q .non H',rt:=Q } (L2.aA' C.N vs) H:=by
 intro vs H Q E h
 obtain⟨a,l,M,rs,rfl,hM,hl,hrs,hlen,q⟩:=h
 rw[am' hN]
 unfold cF'
 symm
 refine xx' (ns:=rs.map Int.ofNat) (SqL.of (by rw[t0'];exact hl)) (by rw[ac];omega) fun p hp=>?_
 have s1:=af' hp (fN' p (inL (rs.map Int.ofNat)) (rs.map Int.ofNat).length)
 have hp1:upd H p (fN' p (inL (rs.map Int.ofNat)) (rs.map Int.ofNat).length) p=some (fN' p (inL (rs.map Int.ofNat)) (rs.map Int.ofNat).length):=ac'
 generalize upd H p (fN' p (inL (rs.map Int.ofNat)) (rs.map Int.ofNat).length)=H1 at s1 hp1 ⊢
 have hl1:=s1 _ _ hl
 have hM1:=hM.mono (ar' s1)
 symm
 refine aJ' (SqL.of hl1) (Bj' (vs:=rs.map nV) (fun i b H'=>b.1=ldS M (rs.take i)/\b.2=2*i/\H'=H1) ⟨rfl,rfl,rfl⟩ (fun i b H' pv=>SqL.of (by rw[pv.2.2];exact hl1)) ?_ ?_)
 .rintro i ⟨S,n⟩ H' x R hx ⟨hS,hn,hH⟩ hR
  subst hH
  rw[aA]at hx
  cases er:rs[i]? with
  |none=>rw[er]at hx;cases hx
  |some r=>
  rw[er]at hx
  cases hx
  have hi:=ap' er
  have hrM:=hrs r (aL er)
  dsimp only at hS hn
  subst hS hn
  simp only[nV]
  symm
  refine ft' hM1 hrM fun pr hpr=>?_
  symm
  refine dV' (SqT.of hpr) (Bk' (vs:=[oV (fs1 M r),oV (fs2 M r)]) (fun j b H''=>b.1=(fun k=>(if j=0 then ldS M (rs.take i) k else if j=1 then(ldS M (rs.take i) k || decide (k=oI (fs1 M r)))else(ldS M (rs.take i) k || decide (k=oI (fs1 M r))) || decide (k=oI (fs2 M r))))/\b.2=2*i+j/\H''=H') ⟨rfl,rfl,rfl⟩ (fun j b H' pv=>SqT.of (by rw[pv.2.2];exact hpr)) ?_ ?_)
  .rintro j ⟨S,n⟩ H' x R2 hx ⟨hS,hn,rfl⟩ hR2
   dsimp only at hS hn
   subst hS hn
   have hj:j=0\/j=1:=by
    have:=ap' hx
    simp only[aQ,ci]at this
    omega
   rcases hj with rfl|rfl
   .simp only[cE,Option.some.injEq]at hx
    subst hx
    symm
    refine⟨oI (fs1 M r),pU',⋯,hR2 _ _ ⟨?_,rfl,rfl⟩⟩
    funext k
    simp
   .simp only[List.getElem?_cons_succ,cE,Option.some.injEq]at hx
    subst hx
    symm
    refine⟨oI (fs2 M r),pU',⋯,hR2 _ _ ⟨?_,rfl,rfl⟩⟩
    funext k
    simp
  .rintro⟨S,n⟩ H' ⟨hS,hn,rfl⟩
   dsimp only at hS hn
   subst hS hn
   refine hR _ _ ⟨?_,by simp;omega,rfl⟩
   rw[show rs.take (i+1)=rs.take i++[r] by rw[bh,er];rfl,pV']
   rfl
 .rintro⟨S,n⟩ H' ⟨hS,hn,rfl⟩
  dsimp only at hS hn
  rw[ac,aV]at hS
  subst hS
  refine⟨trivial,fun p2 hp2=>?_⟩
  dsimp only
  have s2:=af' hp2 (fN' p2 (ldS M rs) n)
  have hp22:upd H' p2 (fN' p2 (ldS M rs) n) p2=some (fN' p2 (ldS M rs) n):=ac'
  generalize upd H' p2 (fN' p2 (ldS M rs) n)=H2 at s2 hp22 ⊢
  have hl2:=s2 _ _ hl1
  have hp12:=s2 _ _ hp1
  have hM2:=hM1.mono (ar' s2)
  symm
  refine aJ' (SqL.of hl2) (dj' (vs:=rs.map nV) (fun i xs H'=>xs=((rs.take i).filter (eB' M rs)).map nV/\H'=H2) ⟨rfl,rfl⟩ (fun i xs H' pv=>SqL.of (by rw[pv.2];exact hl2)) ?_ ?_)
  .rintro i xs H' x R hx ⟨rfl,rfl⟩ hR
   rw[aA]at hx
   cases er:rs[i]? with
   |none=>rw[er]at hx;cases hx
   |some r=>
   rw[er]at hx
   cases hx
   have hi:=ap' er
   have hrM:=hrs r (aL er)
   have et:(rs.take (i+1)).filter (eB' M rs)=(rs.take i).filter (eB' M rs)++[r].filter (eB' M rs):=by rw[bh,er,List.filter_append];rfl
   have hfl:((rs.take i).filter (eB' M rs)).length<=500:=aN (List.length_filter_le ..) (by rw[aJ];omega)
   have yes:eB' M rs r=true->R (((rs.take i).filter (eB' M rs)).map nV++[nV r]) H':=fun h=>hR _ _ ⟨by rw[et,List.filter_cons,if_pos h,aG];rfl,rfl⟩
   have no:eB' M rs r=false->R (((rs.take i).filter (eB' M rs)).map nV) H':=fun h=>hR _ _ ⟨by rw[et,List.filter_cons,if_neg (by rw[h];decide)];simp,rfl⟩
   have e1:=rU' (rs:=rs) (o:=fs1 M r)
   have e2:=rU' (rs:=rs) (o:=fs2 M r)
   unfold eB' at yes no
   simp only[nV]at yes ⊢
   symm
   refine nJ' (k:=some (r:Int)) rfl hp22 ?_
   simp only[aT,if_false]
   cases hld:ldS M rs (some (r:Int))with
   |false=>
    rw[hld]at no
    symm
    exact no rfl
   |true=>
    rw[hld]at yes no
    symm
    refine ft' hM2 hrM fun pr hpr=>?_
    symm
    refine fm' (SqT.of hpr) (v:=oV (fs1 M r)) rfl ?_
    symm
    refine nJ' pU' hp12 ?_
    simp only[aT,if_false]
    rw[e1]
    cases h1:inR rs (fs1 M r)with
    |true=>
     rw[h1]at yes
     symm
     exact⟨by rw[ac];exact ak' ⋯,yes rfl⟩
    |false=>
     rw[h1]at yes no
     symm
     refine ft' hM2 hrM fun pr hpr=>?_
     symm
     refine fm' (SqT.of hpr) (v:=oV (fs2 M r)) rfl ?_
     symm
     refine nJ' pU' hp12 ?_
     simp only[aT,if_false]
     rw[e2]
     cases h2:inR rs (fs2 M r)with
     |true=>
      rw[h2]at yes
      symm
      exact⟨by rw[ac];exact ak' ⋯,yes rfl⟩
     |false=>
      rw[h2]at no
      symm
      exact no rfl
  .rintro xs H' ⟨rfl,rfl⟩ p3 hp3
   rw[ac,aV]
   have hfin:upd H' p3 (.lst ((rs.filter (eB' M rs)).map nV)) p3=some (.lst ((lst M rs).map nV)):=ac'
   exact q p3 _ ((s1.trans s2).free hp3) (s1.trans (s2.trans (af' hp3 _))) hfin
theorem k9' {i:Nat} (h:i<=1000):hashInt (i:Int)=i:=by
 unfold hashInt rawHash
 have e:(((i:Int).natAbs:Nat):Int) % ((2 ^ 61-1:Nat):Int)=i:=by
  rw[Int.natAbs_natCast]
  exact Int.emod_eq_of_lt ⋯ (Int.ofNat_lt.mpr (show i<2 ^ 61-1 by omega))
 dsimp only
 rw[e]
 have h1:¬((i:Int)<0):=by omega
 have h2:((i:Int) == -1)=false:=by rw[beq_eq_false_iff_ne];omega
 simp only[h1,if_false,h2,aT]
def TbK (n m:Nat) (kvs:List (Key×V)):Prop:=∀kv∈kvs,∃r j:Nat,kv=(.inl (r:Int),.int j)/\r<n/\j<m
set_option tactic.hygienic true in
theorem pW' {kvs:List (Key×V)} {k:Key} {v:V} {x:Key×V} (h:x∈iL' kvs k v):x∈kvs\/x=(k,v):=by
 unfold iL' at h
 split at h
 .obtain⟨y,hy,e⟩:=aR.mp h
  split at e
  .rename_i hk
   right
   rw[<- e,hk]
  .left
   rw[<- e]
   exact hy
 .rcases aD.mp h with h|h
  .exact .inl h
  .exact .inr (by simpa using h)
theorem TbK.put {n m:Nat} {kvs:List (Key×V)} {r j:Nat} (h:TbK n m kvs) (hr:r<n) (hj:j<m):TbK n m (iL' kvs (.inl (r:Int)) (.int j)):=fun kv hkv=>by
 rcases pW' hkv with h1|rfl
 .exact h kv h1
 .exact⟨r,j,rfl,hr,hj⟩
theorem TbK.get {n m:Nat} {kvs:List (Key×V)} (h:TbK n m kvs) (k:Key):∃o:Option Nat,(ix' kvs k).getD .non=oV o/\∀x,o=some x->x<m:=by
 unfold ix'
 cases e:kvs.find? fun kv=>decide (kv.1=k)with
 |none=>exact⟨none,rfl,fun _ z=>(nomatch z)⟩
 |some kv=>
  obtain⟨r,j,rfl,_,hj⟩:=h kv (bC e)
  exact⟨some j,rfl,fun x z=>by cases z;exact hj⟩
theorem TbK.non {H:Hp} {p:Addr} {n m:Nat} {kvs:List (Key×V)} (h:TbK n m kvs) (hn:n<=1000) (hp:H p=some (.dK kvs)):NoN H p:=.inl ⟨kvs,hp,fun kv hkv=>by
 obtain⟨r,j,rfl,hr,_⟩:=h kv hkv
 exact⟨r,rfl,by rw[k9' ⋯];show(r:Int)≠0xFCA86420;omega⟩⟩
theorem rV' {C:Rc} {H:Hp} {Q:VK} {p:Addr} {n m:Nat} {kvs:List (Key×V)} {o:Option Nat} (h:TbK n m kvs) (hn:n<=1000) (hp:H p=some (.dK kvs)) (q:∀o':Option Nat,(∀x,o'=some x->x<m)->Q (oV o') H):id' p Q (oV o) H:=by
 cases o with
 |none=>exact nM' (h.non hn hp) (q none fun _ z=>(nomatch z))
 |some x=>
  obtain⟨o',e,ho⟩:=h.get (.inl (x:Int))
  refine nL' (g6'.k (k:=.inl (x:Int)) hp) ?_
  rw[e]
  exact q o' ho
def ii':Sp:=fun vs H Q _=>∃(a l:Addr) (M:List Rm) (rs:List Nat),vs=[.ref a,.ref l]/\IsM H a M/\M.length<=500/\H l=some (.lst (rs.map nV))/\(∀r∈rs,r<M.length)/\rs.length<=500/\∀(p:Addr) (M':List Rm) (H':Hp),aD' H H'->IsM H' p M'->OkM M'->M'.length=rs.length->Q (.ref p) H'
theorem nW' {C:Rc} (hN:C.N.length=5):∀vs H Q E,ii' vs H Q E->tSs C cG' { nx:=fun _ H'=>Q .non H',rt:=Q } (L2.aA' C.N vs) H:=by
 intro vs H Q E h
 obtain⟨a,l,M,rs,rfl,hM,hM5,hl,hrs,hlen,q⟩:=h
 rw[am' hN]
 unfold cG'
 symm
 refine j9' (SqL.of hl) (Bl' (vs:=rs.map nV) (fun i b H'=>TbK M.length rs.length b/\b.length<=i/\i<=rs.length/\aD' H H') ⟨fun kv h=>absurd h ap,aj _,aP _,aD'.refl _⟩ (fun i b H' pv=>SqL.of (pv.2.2.2 _ _ hl)) ?_ ?_)
 .rintro i b H1 x p R hx hp ⟨hb,hbl,hi0,s1⟩ hR
  rw[aA]at hx
  cases er:rs[i]? with
  |none=>rw[er]at hx;cases hx
  |some r=>
  rw[er]at hx
  cases hx
  have hi:=ap' er
  refine c3' (SqT.of ac') ?_
  have s2:=s1.trans (af' hp (.tup [.int i,nV r]))
  generalize upd H1 p (.tup [.int i,nV r])=H2 at s2 ⊢
  simp only[nV]
  symm
  exact⟨.inl (r:Int),rfl,ak' ⋯,hR _ _ ⟨hb.put (hrs r (aL er)) hi,aN (e7' ..) ⋯,⋯,s2⟩⟩
 .rintro kvs H1 ⟨hb,_,_,s1⟩
  refine⟨trivial,fun p hp=>?_⟩
  have s2:=s1.trans (af' hp (.dK kvs))
  have hp2:upd H1 p (.dK kvs) p=some (.dK kvs):=ac'
  generalize upd H1 p (.dK kvs)=H2 at s2 hp2 ⊢
  symm
  refine aJ' (SqL.of (s2 _ _ hl)) (dj' (vs:=rs.map nV) (fun i xs H'=>(∃M',cw' H' xs M'/\(∀m∈M',OkR rs.length m)/\M'.length=i/\i<=rs.length)/\aD' H2 H') ⟨⟨[],trivial,fun m h=>absurd h ap,rfl,aP _⟩,aD'.refl _⟩ (fun i xs H' pv=>SqL.of (pv.2 _ _ (s2 _ _ hl))) ?_ ?_)
  .rintro i xs H3 x R hx ⟨⟨M',hR',hO',hl',hi0⟩,s3⟩ hR
   rw[aA]at hx
   cases er:rs[i]? with
   |none=>rw[er]at hx;cases hx
   |some r=>
   rw[er]at hx
   cases hx
   have hi:=ap' er
   have hrM:=hrs r (aL er)
   have hM3:=hM.mono (ar' (s2.trans s3))
   have hp3:=s3 _ _ hp2
   simp only[nV]
   symm
   refine gz' (.inl ⟨kvs,.inl hp3⟩) ?_
   symm
   refine ft' hM3 hrM fun pr hpr=>?_
   symm
   refine fm' (SqT.of hpr) (v:=oV (fs1 M r)) rfl ?_
   refine rV' (C:=C) hb ⋯ hp3 fun o1 ho1=>?_
   symm
   refine gz' (.inl ⟨kvs,.inl hp3⟩) ?_
   symm
   refine ft' hM3 hrM fun pr hpr=>?_
   symm
   refine fm' (SqT.of hpr) (v:=oV (fs2 M r)) rfl ?_
   refine rV' (C:=C) hb ⋯ hp3 fun o2 ho2=>?_
   symm
   refine⟨by show 2<=sizeLine;decide,fun p4 hp4=>?_⟩
   have s4:=af' hp4 (.tup [oV o1,oV o2])
   have h4:upd H3 p4 (.tup [oV o1,oV o2]) p4=some (.tup [oV o1,oV o2]):=ac'
   generalize upd H3 p4 (.tup [oV o1,oV o2])=H4 at s4 h4 ⊢
   have hxl:=hR'.len
   refine⟨ak' ⋯,hR _ _ ⟨⟨M'++[(o1,o2)],(hR'.mono (ar' s4)).snoc ⟨p4,rfl,h4⟩,fun m hm=>?_,by simp[hl'],⋯⟩,s3.trans s4⟩⟩
   rcases aD.mp hm with hm|hm
   .exact hO' m hm
   .have:m=(o1,o2):=by simpa using hm
    subst this
    exact⟨ho1,ho2⟩
  .rintro xs H3 ⟨⟨M',hR',hO',hl',_⟩,s3⟩ p5 hp5
   rw[ac]at hl'
   symm
   have h5:upd H3 p5 (.lst xs) p5=some (.lst xs):=ac'
   have s5:=af' hp5 (.lst xs)
   generalize upd H3 p5 (.lst xs)=H5 at h5 s5 ⊢
   refine fo' (SqL.of h5) fun p6 hp6=>?_
   have s6:=af' hp6 (.tup xs)
   refine q p6 M' _ (s2.trans (s3.trans (s5.trans s6))) ⟨xs,ac',hR'.mono (ar' (s5.trans s6))⟩ (fun m hm=>by rw[hl'];exact hO' m hm) hl'
def ij':Sp:=fun vs H Q _=>∃(a:Addr) (M:List Rm),vs=[.ref a]/\IsM H a M/\M.length<=500/\∀(p p' l:Addr) (M':List Rm) (rs:List Nat) (H':Hp),aD' H H'->H' p=some (.tup [.ref p',.ref l])->H' l=some (.lst (rs.map nV))->IsM H' p' M'->OkM M'->M'.length=rs.length->rs.length<=M.length->Q (.ref p) H'
theorem xL' {M:List Rm} {rs:List Nat}:(lst M rs).length<=rs.length:=List.length_filter_le ..
theorem nX' {M:List Rm} {rs:List Nat} {r:Nat} (h:r∈lst M rs):r∈rs:=(List.mem_filter.mp h).1
theorem rW' {n:Nat}:rgs 0 n=(aF n).map nV:=by
 unfold rgs
 apply bM
 intro k _
 show V.int (0+(k:Int))=V.int k
 rw[Int.zero_add]
theorem nY' {C:Rc} (hN:C.N.length=3) (hL:C.fs "lasting"=some ig') (hP:C.fs "part_of"=some ii'):∀vs H Q E,ij' vs H Q E->tSs C cH' { nx:=fun _ H'=>Q .non H',rt:=Q } (L2.aA' C.N vs) H:=by
 intro vs H Q E h
 obtain⟨a,M,rfl,hM,hM5,q⟩:=h
 rw[am' hN]
 unfold cH'
 obtain⟨mv,hmv,hmr⟩:=id hM
 symm
 refine ef' (SqT.of hmv) ?_
 rw[hmr.len]
 symm
 refine fn' fun pr hpr=>?_
 symm
 have hsz:((M.length:Int)-0).toNat<=sizeLine:=bE (ak' ⋯)
 refine kb' ac' ⋯ ⋯ ⋯ ⋯ hsz fun p1 hp1=>?_
 rw[show((M.length:Int)-0).toNat=M.length by omega,rW']
 have s1:=(af' hpr (.rng 0 M.length)).trans (af' hp1 (.lst ((aF M.length).map nV)))
 have h1:upd (upd H pr (.rng 0 M.length)) p1 (.lst ((aF M.length).map nV)) p1=some (.lst ((aF M.length).map nV)):=ac'
 generalize upd (upd H pr (.rng 0 M.length)) p1 (.lst ((aF M.length).map nV))=H1 at s1 h1 ⊢
 symm
 refine ag' hL ?_
 symm
 refine⟨a,p1,M,aF M.length,rfl,hM.mono (ar' s1),h1,fun r hr=>aU.mp hr,by rw[bx];omega,fun p2 H2 _ s2 h2=>?_⟩
 symm
 refine w7' (fun m σ H'=>aD' H H'/\∃(l1 l2:Addr) (rs:List Nat),σ=[some (.ref a),some (.ref l1),some (.ref l2)]/\H' l1=some (.lst (rs.map nV))/\H' l2=some (.lst ((lst M rs).map nV))/\(∀r∈rs,r<M.length)/\rs.length<=M.length/\m=rs.length) _ ⟨s1.trans s2,p1,p2,aF M.length,rfl,s2 _ _ h1,h2,fun r hr=>aU.mp hr,by rw[bx];omega,rfl⟩ ?_
 rintro m σ H3 ⟨s3,l1,l2,rs,rfl,hl1,hl2,hrs,hrl,rfl⟩
 symm
 refine dw' (SqL.of hl2) ?_
 symm
 refine dw' (SqL.of hl1) ?_
 rw[ac,ac]
 symm
 have hle:=xL' (M:=M) (rs:=rs)
 refine bv' (fun hc=>w8' ?_) fun hc=>w9' ?_
 .symm
  refine ag' hL ?_
  symm
  refine⟨a,l2,M,lst M rs,rfl,hM.mono (ar' s3),hl2,fun r hr=>hrs r (nX' hr),⋯,fun p4 H4 _ s4 h4=>?_⟩
  symm
  exact⟨(lst M rs).length,⋯,s3.trans s4,l2,p4,lst M rs,rfl,s4 _ _ hl2,h4,fun r hr=>hrs r (nX' hr),⋯,rfl⟩
 .symm
  refine ag' hP ?_
  symm
  refine⟨a,l1,M,rs,rfl,hM.mono (ar' s3),hM5,hl1,hrs,⋯,fun p4 M' H4 s4 hM4 hO4 hl4=>?_⟩
  symm
  refine⟨by show 2<=sizeLine;decide,fun p5 hp5=>?_⟩
  have s5:=af' hp5 (.tup [.ref p4,.ref l1])
  exact q p5 p4 l1 M' rs _ (s3.trans (s4.trans s5)) ac' (s5 _ _ (s4 _ _ hl1)) (hM4.mono (ar' s5)) hO4 hl4 hrl
end TM
namespace BD
open PySem PySem.Spec PyProof.Rows L2 R3 LW TM
def aV':Css:=(.cons (.asg (.tup (.cons (.name 1) (.cons (.name 2) (.cons (.name 3) (.cons (.name 4) (.cons (.name 5) .nil)))))) (.var 0))
  (.cons (.asg (.name 6) (.ife (.cmp .Is (.var 5) .non) (.lst (.cons (.int 0) .nil)) (.blt .list (.cons (.blt .range (.cons (.bin .Add (.var 5) (.int 1)) .nil)) .nil))))
  (.cons (.ret (.comp (.tup (.cons (.var 7) (.cons (.var 9) (.cons (.var 10) .nil)))) [7,8,9,10] (.tup (.cons (.name 7) (.cons (.name 8) .nil))) (.val (.tup (.cons (.tup (.cons (.int 0) (.cons (.var 2) .nil))) (.cons (.tup (.cons (.int 1) (.cons (.var 4) .nil))) .nil)))) .none (.cons [9,10] (.name 9) (.range2 (.int 1) (.bin .Add (.var 8) (.int 1))) .none (.cons [10] (.name 10) (.val (.var 6)) .none .nil))))
  .nil)))
def bB':Css:=(.cons (.asg (.tup (.cons (.name 3) (.cons (.name 4) (.cons (.name 5) (.cons (.name 6) (.cons (.name 7) .nil)))))) (.var 0))
  (.cons (.asg (.tup (.cons (.name 8) (.cons (.name 9) (.cons (.name 10) .nil)))) (.var 1))
  (.cons (.ite (.cmp .IsNot (.var 7) .non) (.cons (.aug 10 false (.ife (.cmp .Eq (.var 2) (.int 1)) (.int 1) (.neg (.int 1))))
  .nil) .nil)
  (.cons (.ite (.cmp .Eq (.var 2) (.var 8)) (.cons (.ret (.tup (.cons (.var 2) (.cons (.bin .Add (.var 9) (.int 1)) (.cons (.var 10) .nil)))))
  .nil) .nil)
  (.cons (.ite (.cmp .Lt (.var 9) (.ife (.cmp .Eq (.var 8) (.int 1)) (.var 5) (.var 3))) (.cons (.ret .non)
  .nil) .nil)
  (.cons (.ret (.tup (.cons (.var 2) (.cons (.int 1) (.cons (.var 10) .nil)))))
  .nil))))))
def aL':Css:=(.cons (.dctc true 2 (.var 4) (.var 3) [3,4] (.tup (.cons (.name 3) (.cons (.name 4) .nil))) (.enum (.var 1)) .none)
  (.cons (.ret (.blt .tuple (.cons (.comp (.tup (.cons (.dgt (.var 2) (.call "room_behind" (.cons (.var 0) (.cons (.var 4) (.cons (.int 0) .nil))))) (.cons (.dgt (.var 2) (.call "room_behind" (.cons (.var 0) (.cons (.var 4) (.cons (.int 1) .nil))))) .nil))) [4] (.name 4) (.val (.var 1)) .none .nil) .nil)))
  .nil))
def bK':Css:=(.cons (.asg (.tup (.cons (.name 1) (.cons (.name 2) .nil))) (.call "trimmed" (.cons (.call "machine_in_bounds" (.cons (.var 0) (.cons (.call "rooms_in_bounds" (.cons (.var 0) .nil)) .nil))) .nil)))
  (.cons (.ret (.var 1))
  .nil))
structure IsB (H:Hp) (p:Addr) (l0 h0 l1 h1:Nat) (sp:Option Nat):Prop where
 at':H p=some (.tup [nV l0,nV h0,nV l1,nV h1,oV sp])
 b0:h0<=8
 b1:h1<=8
 bs:∀s,sp=some s->s<=16
theorem IsB.mono {H H':Hp} {p:Addr} {l0 h0 l1 h1:Nat} {sp:Option Nat} (h:IsB H p l0 h0 l1 h1 sp) (t:Tp H H'):IsB H' p l0 h0 l1 h1 sp:=⟨t _ _ h.at',h.b0,h.b1,h.bs⟩
theorem rX' {C:Rc} {H:Hp} {σ:L2.St} {i j k m n:Nat} {a:Addr} {x y z u v:V} {R:L2.St->Hp->Prop} (h:SqT C.K H a [x,y,z,u,v]) (q:R (((((σ.set i (some x)).set j (some y)).set k (some z)).set m (some u)).set n (some v)) H):tG C (.tup (.cons (.name i) (.cons (.name j) (.cons (.name k) (.cons (.name m) (.cons (.name n) .nil)))))) (.ref a) σ H R:=
 ⟨a,[x,y,z,u,v],rfl,.inl h,rfl,_,_,rfl,_,_,rfl,_,_,rfl,_,_,rfl,_,_,rfl,rfl,q⟩
abbrev K3:=Nat×Nat×Nat
def ln' (H:Hp) (v:V) (k:K3):Prop:=∃p,v=.ref p/\H p=some (.tup [nV k.1,nV k.2.1,nV k.2.2])
theorem ln'.mono {H H':Hp} (s:aD' H H') {v:V} {k:K3} (h:ln' H v k):ln' H' v k:=by
 obtain⟨p,e,hp⟩:=h
 exact⟨p,e,s _ _ hp⟩
def r1 (lv:List Nat) (b pl:Nat):List K3:=lv.map fun l=>(b,pl,l)
def r2 (lv:List Nat) (b:Nat) (h:Nat):List K3:=(aF h).flatMap fun j=>r1 lv b (j+1)
def rk (lv:List Nat) (h0 h1:Nat):List K3:=r2 lv 0 h0++r2 lv 1 h1
def lvs:Option Nat->List Nat
 |none=>[0]
 |some s=>aF (s+1)
theorem je' {lv:List Nat} {b h:Nat}:r2 lv b (h+1)=r2 lv b h++r1 lv b (h+1):=by
 unfold r2
 rw[cy,List.flatMap_append]
 simp
theorem ik' {lv:List Nat} {b:Nat}:∀{h},(r2 lv b h).length=h*lv.length
 |0=>by rw[Nat.zero_mul];rfl
 |h+1=>by rw[je',aB,ik',bX,cR];unfold r1;rw[ac]
theorem il' {lv:List Nat} {b h:Nat} {k:K3}:k∈r2 lv b h->k.1=b/\1<=k.2.1/\k.2.1<=h/\k.2.2∈lv:=by
 unfold r2 r1
 intro hk
 obtain⟨j,hj,hk⟩:=List.mem_flatMap.mp hk
 obtain⟨l,hl,rfl⟩:=aR.mp hk
 have:=aU.mp hj
 exact⟨rfl,by show 1<=j+1;omega,by show j+1<=h;omega,hl⟩
theorem rY' {α β:Type} {f:α->β} (hf:∀x y,f x=f y->x=y):∀{l:List α},l.Nodup->(l.map f).Nodup
 | [],_=>List.nodup_nil
 |a :: l,h=>by
  rw[bT]at h
  rw[aE,bT]
  refine⟨fun z=>?_,rY' hf h.2⟩
  obtain⟨x,hx,e⟩:=aR.mp z
  rw[hf _ _ e]at hx
  exact h.1 hx
theorem t1' {lv:List Nat} (hl:lv.Nodup) {b:Nat}:∀{h},(r2 lv b h).Nodup
 |0=>List.nodup_nil
 |h+1=>by
  rw[je',List.nodup_append]
  refine⟨t1' hl,rY' (fun x y e=>by injection e with _ e;injection e) hl,fun x hx y hy e=>?_⟩
  subst e
  have h1:=(il' hx).2.2.1
  unfold r1 at hy
  obtain⟨l,_,rfl⟩:=aR.mp hy
  have:h+1<=h:=h1
  omega
theorem Am' {lv:List Nat} (hl:lv.Nodup) {h0 h1:Nat}:(rk lv h0 h1).Nodup:=by
 unfold rk
 rw[List.nodup_append]
 refine⟨t1' hl,t1' hl,fun x hx y hy e=>?_⟩
 subst e
 have a:=(il' hx).1
 have b:=(il' hy).1
 omega
theorem xM' {sp:Option Nat}:(lvs sp).Nodup:=by
 cases sp with
 |none=>exact bT.mpr ⟨ap,List.nodup_nil⟩
 |some s=>exact List.nodup_range
theorem rZ' {sp:Option Nat} (h:∀s,sp=some s->s<=16):(lvs sp).length<=17/\∀l∈lvs sp,l<=16:=by
 cases sp with
 |none=>exact⟨by decide,fun l hl=>by have:l=0:=(by simpa[lvs]using hl);omega⟩
 |some s=>
  have:=h s rfl
  refine⟨by show(aF (s+1)).length<=17;rw[bx];omega,fun l hl=>?_⟩
  have:=aU.mp (show l∈aF (s+1) from hl)
  omega
theorem t2' {sp:Option Nat} {h0 h1:Nat} (hs:∀s,sp=some s->s<=16) (a0:h0<=8) (a1:h1<=8):(rk (lvs sp) h0 h1).length<=272/\∀k∈rk (lvs sp) h0 h1,k.1<2/\k.2.1<9/\k.2.2<17:=by
 obtain⟨h,hm⟩:=rZ' hs
 constructor
 .unfold rk
  rw[aB,ik',ik']
  have e0:h0*(lvs sp).length<=8*17:=Nat.mul_le_mul a0 h
  have e1:h1*(lvs sp).length<=8*17:=Nat.mul_le_mul a1 h
  omega
 .intro k hk
  unfold rk at hk
  rcases aD.mp hk with hk|hk
  .obtain⟨e,_,e2,e3⟩:=il' hk
   have:=hm _ e3
   omega
  .obtain⟨e,_,e2,e3⟩:=il' hk
   have:=hm _ e3
   omega
def nZ':Sp:=fun vs H Q _=>∃(bd:Addr) (l0 h0 l1 h1:Nat) (sp:Option Nat),vs=[.ref bd]/\IsB H bd l0 h0 l1 h1 sp/\∀(p:Addr) (xs:List V) (H':Hp),aD' H H'->H' p=some (.lst xs)->cq' (ln' H') xs (rk (lvs sp) h0 h1)->Q (.ref p) H'
theorem im' {H H':Hp} (s:aD' H H') {xs:List V} {ks:List K3} (h:cq' (ln' H) xs ks):cq' (ln' H') xs ks:=h.mono fun _ _ z=>z.mono s
theorem pX' {C:Rc} (hN:C.N.length=11):∀vs H Q E,nZ' vs H Q E->tSs C aV' { nx:=fun _ H'=>Q .non H',rt:=Q } (L2.aA' C.N vs) H:=by
 intro vs H Q E h
 obtain⟨bd,l0,h0,l1,h1,sp,rfl,hB,q⟩:=h
 rw[am' hN]
 unfold aV'
 symm
 rw[pC']
 symm
 refine rX' (C:=C) (SqT.of hB.at') ?_
 simp only[hV',cL,cN]
 obtain⟨hlv,hlm⟩:=rZ' hB.bs
 refine tz' fun K hK=>?_
 have aF':∀(pl:Addr) (H1:Hp),aD' H H1->H1 pl=some (.lst ((lvs sp).map nV))->K (.ref pl) H1:=by
  intro pl H1 s1 hpl
  refine hK _ _ ?_
  symm
  refine⟨by show 2<=sizeLine;decide,fun q0 hq0=>?_⟩
  have t0:=af' hq0 (.tup [.int 0,nV h0])
  have e0:upd H1 q0 (.tup [.int 0,nV h0]) q0=some (.tup [.int 0,nV h0]):=ac'
  generalize upd H1 q0 (.tup [.int 0,nV h0])=H2 at t0 e0 ⊢
  symm
  refine⟨by show 2<=sizeLine;decide,fun q1 hq1=>?_⟩
  have t1:=af' hq1 (.tup [.int 1,nV h1])
  have e1:upd H2 q1 (.tup [.int 1,nV h1]) q1=some (.tup [.int 1,nV h1]):=ac'
  generalize upd H2 q1 (.tup [.int 1,nV h1])=H3 at t1 e1 ⊢
  symm
  refine⟨by show 2<=sizeLine;decide,fun q2 hq2=>?_⟩
  have t2:=af' hq2 (.tup [.ref q0,.ref q1])
  have e2:upd H3 q2 (.tup [.ref q0,.ref q1]) q2=some (.tup [.ref q0,.ref q1]):=ac'
  generalize upd H3 q2 (.tup [.ref q0,.ref q1])=H4 at t2 e2 ⊢
  have s4:aD' H1 H4:=t0.trans (t1.trans t2)
  have e04:=t2 _ _ (t1 _ _ e0)
  have e14:=t2 _ _ e1
  have hpl4:=s4 _ _ hpl
  have hrk:=(t2' hB.bs hB.b0 hB.b1 (h0:=h0) (h1:=h1)).1
  refine dV' (SqT.of e2) (Bk' (vs:=[.ref q0,.ref q1]) (fun i xs H'=>aD' H4 H'/\cq' (ln' H') xs (if i=0 then[]else if i=1 then r2 (lvs sp) 0 h0 else rk (lvs sp) h0 h1)) ⟨aD'.refl _,trivial⟩ (fun i xs H' pv=>SqT.of (pv.1 _ _ e2)) ?_ ?_)
  .rintro i xs H5 x R hx ⟨s5,hA⟩ hR
   have hi2:i=0\/i=1:=by
    have:=ap' hx
    simp only[aQ,ci]at this
    omega
   obtain⟨qq,b,hh,rfl,hqq,hh8,pre,hpre,hpost,hb⟩:∃(qq:Addr) (b hh:Nat),x=.ref qq/\H5 qq=some (.tup [.int b,nV hh])/\hh<=8/\∃pre,cq' (ln' H5) xs pre/\(∀ys H6,aD' H4 H6->cq' (ln' H6) ys (pre++r2 (lvs sp) b hh)->R ys H6)/\(pre++r2 (lvs sp) b hh).length<=272:=by
    rcases hi2 with rfl|rfl
    .cases hx
     refine⟨q0,0,h0,rfl,s5 _ _ e04,hB.b0,[],hA,fun ys H6 s6 h6=>hR _ _ ⟨s6,h6⟩,?_⟩
     rw[cP]
     unfold rk at hrk
     rw[aB]at hrk
     omega
    .cases hx
     exact⟨q1,1,h1,rfl,s5 _ _ e14,hB.b1,r2 (lvs sp) 0 h0,hA,fun ys H6 s6 h6=>hR _ _ ⟨s6,h6⟩,hrk⟩
   refine c3' (C:=C) (SqT.of hqq) ?_
   simp only[nV]
   symm
   rw[aB,ik']at hb
   have hap:=hpre.len
   refine z5' ⋯ ⋯ ⋯ ⋯ (BY' (n:=((hh:Int)+1-1).toNat) (fun j ys H6=>aD' H4 H6/\cq' (ln' H6) ys (pre++r2 (lvs sp) b j)) ⟨s5,by simpa[r2]using hpre⟩ ?_ ?_)
   .rintro j ys H6 R2 hj ⟨s6,h6⟩ hR2
    have hjh:j<hh:=by omega
    have hjl:j*(lvs sp).length+(lvs sp).length<=hh*(lvs sp).length:=by
     have:=de (lvs sp).length hjh
     rw[Nat.succ_mul]at this
     exact this
    symm
    refine aJ' (SqL.of (s6 _ _ hpl4)) (Bj' (vs:=(lvs sp).map nV) (fun m zs H7=>aD' H4 H7/\cq' (ln' H7) zs (pre++r2 (lvs sp) b j++r1 ((lvs sp).take m) b (j+1))) ⟨s6,by simpa[r1]using h6⟩ (fun m zs H7 pv=>SqL.of (pv.1 _ _ hpl4)) ?_ ?_)
    .rintro m zs H7 x R3 hx ⟨s7,h7⟩ hR3
     rw[aA]at hx
     cases er:(lvs sp)[m]? with
     |none=>rw[er]at hx;cases hx
     |some lv=>
     rw[er]at hx
     cases hx
     have hm:=ap' er
     have h7l:=h7.len
     rw[aB,aB,ik']at h7l
     unfold r1 at h7l
     rw[ac,aJ]at h7l
     simp only[nV]
     symm
     refine⟨by show 3<=sizeLine;decide,fun q8 hq8=>?_⟩
     have t8:=af' hq8 (.tup [.int b,.int (1+j),.int lv])
     have e8:upd H7 q8 (.tup [.int b,.int (1+j),.int lv]) q8=some (.tup [nV b,nV (j+1),nV lv]):=by
      rw[ac']
      show some (HO.tup [.int b,.int (1+(j:Int)),.int lv])=some (HO.tup [.int b,.int ((j+1:Nat):Int),.int lv])
      rw[show(1:Int)+j=((j+1:Nat):Int) by omega]
     generalize upd H7 q8 (.tup [.int b,.int (1+j),.int lv])=H8 at t8 e8 ⊢
     refine⟨ak' ⋯,hR3 _ _ ⟨s7.trans t8,?_⟩⟩
     rw[show r1 ((lvs sp).take (m+1)) b (j+1)=r1 ((lvs sp).take m) b (j+1)++[(b,j+1,lv)] by unfold r1;rw[bh,er,aG];rfl,<- bp]
     exact(im' t8 h7).snoc ⟨q8,rfl,e8⟩
    .rintro zs H7 ⟨s7,h7⟩
     rw[ac,aV,bp,<- je']at h7
     exact hR2 _ _ ⟨s7,h7⟩
   .rintro ys H6 ⟨s6,h6⟩
    rw[show((hh:Int)+1-1).toNat=hh by omega]at h6
    exact hpost ys H6 s6 h6
  .rintro xs H5 ⟨s5,hA⟩ p9 hp9
   have s9:=af' hp9 (.lst xs)
   exact q p9 xs _ (s1.trans (s4.trans (s5.trans s9))) ac' (im' s9 hA)
 symm
 cases sp with
 |none=>
  simp only[oV]
  symm
  refine⟨by decide,fun pl hpl=>?_⟩
  exact aF' pl _ (af' hpl _) ac'
 |some s=>
  have hs:=hB.bs s rfl
  simp only[oV]
  symm
  refine fn' fun pr hpr=>?_
  symm
  refine kb' ac' ⋯ ⋯ ⋯ ⋯ (bE (ak' ⋯)) fun pl hpl=>?_
  rw[show((s:Int)+1-0).toNat=s+1 by omega,rW']
  exact aF' pl _ ((af' hpr _).trans (af' hpl _)) ac'
def xN':Sp:=fun vs H Q _=>∃(bd rm:Addr) (l0 h0 l1 h1:Nat) (sp:Option Nat) (b pl lv:Nat) (c:Nat),vs=[.ref bd,.ref rm,.int c]/\IsB H bd l0 h0 l1 h1 sp/\H rm=some (.tup [nV b,nV pl,nV lv])/\(∀H',aD' H H'->Q .non H')/\∀(p:Addr) (i1 i2 i3:Int) (H':Hp),aD' H H'->H' p=some (.tup [.int i1,.int i2,.int i3])->Q (.ref p) H'
theorem t3' {C:Rc} (hN:C.N.length=11):∀vs H Q E,xN' vs H Q E->tSs C bB' { nx:=fun _ H'=>Q .non H',rt:=Q } (L2.aA' C.N vs) H:=by
 intro vs H Q E h
 obtain⟨bd,rm,l0,h0,l1,h1,sp,b,pl,lv,c,rfl,hB,hrm,q1,q2⟩:=h
 rw[am' hN]
 unfold bB'
 symm
 rw[pC']
 symm
 refine rX' (C:=C) (SqT.of hB.at') ?_
 symm
 rw[pC']
 symm
 refine tx' (SqT.of hrm) ?_
 simp only[nV,hV',cL,cN]
 refine xn' fun N hNx=>?_
 have aF':∀lev:Int,N [some (.ref bd),some (.ref rm),some (.int c),some (.int l0),some (.int h0),some (.int l1),some (.int h1),some (oV sp),some (.int b),some (.int pl),some (.int lev)] H:=by
  intro lev
  refine hNx _ _ ?_
  symm
  refine bv' (fun hq=>?_) fun hq=>?_
  .symm
   refine⟨by show 3<=sizeLine;decide,fun p hp=>?_⟩
   exact q2 p _ _ _ _ (af' hp _) ac'
  symm
  refine bv' (fun hq=>?_) fun hq=>?_
  .symm
   refine bv' (fun hq2=>?_) fun hq2=>?_
   .symm
    exact q1 _ (aD'.refl _)
   .symm
    refine⟨by show 3<=sizeLine;decide,fun p hp=>?_⟩
    exact q2 p _ _ _ _ (af' hp _) ac'
  .symm
   refine bv' (fun hq2=>?_) fun hq2=>?_
   .symm
    exact q1 _ (aD'.refl _)
   .symm
    refine⟨by show 3<=sizeLine;decide,fun p hp=>?_⟩
    exact q2 p _ _ _ _ (af' hp _) ac'
 cases sp with
 |none=>
  simp only[oV]
  symm
  exact aF' _
 |some s=>
  simp only[oV]
  symm
  rw[tq' (a:=(lv:Int)) rfl]
  symm
  refine bv' (fun hq=>?_) fun hq=>?_
  .symm
   exact aF' _
  .symm
   exact aF' _
theorem An':∀b:Fin 2,∀p:Fin 9,∀l:Fin 17,reduceHash (Builtin.Tuple.tupleHashOf [hashInt (b.val:Int),hashInt (p.val:Int),hashInt (l.val:Int)])≠NH:=⋯
def kI (k:K3):List Int:=[(k.1:Int),(k.2.1:Int),(k.2.2:Int)]
def kK (k:K3):List Key:=(kI k).map Key.inl
theorem xO' {a b:K3} (h:kK a=kK b):a=b:=by
 obtain⟨a1,a2,a3⟩:=a
 obtain⟨b1,b2,b3⟩:=b
 unfold kK kI at h
 simp only[aE,List.map_nil,List.cons.injEq,Key.inl.injEq,and_true]at h
 obtain⟨h1,h2,h3⟩:=h
 rw[show a1=b1 by omega,show a2=b2 by omega,show a3=b3 by omega]
theorem xP' {k:K3}:(kK k).map L2.kV=[nV k.1,nV k.2.1,nV k.2.2]:=rfl
theorem t4' {ks:List K3} {i:Nat} {k:K3} (h:ks.Nodup) (hk:ks[i]?=some k):k∉ks.take i:=by
 intro hm
 have hi:=ap' hk
 have e:ks=ks.take i++k :: ks.drop (i+1):=by
  have h1:=bj i ks
  rw[List.drop_eq_getElem_cons hi]at h1
  rw[af hi]at hk
  rw[Option.some.inj hk]at h1
  exact h1.symm
 rw[e,List.nodup_append]at h
 exact h.2.2 k hm k ax rfl
theorem n0' {ks:List K3} {i:Nat} {k:K3} (hk:ks[i]?=some k):ks.take (i+1)=ks.take i++[k]:=by rw[bh,hk];rfl
def TbT (ks:List K3) (m:Nat) (a:KTL):Prop:=∀x∈a,∃(k:K3) (j:Nat),k∈ks/\x.1=kK k/\x.2.2=.int j/\j<m
theorem TbT.get {ks:List K3} {m:Nat} {a:KTL} (h:TbT ks m a) (k:List Key):∃o:Option Nat,(ix' (plT a) k).getD .non=oV o/\∀x,o=some x->x<m:=by
 unfold ix'
 cases e:(plT a).find? fun kv=>decide (kv.1=k)with
 |none=>exact⟨none,rfl,fun _ z=>(nomatch z)⟩
 |some kv=>
  obtain⟨x,hx,rfl⟩:=aR.mp (bC e)
  obtain⟨_,j,_,_,ej,hj⟩:=h x hx
  refine⟨some j,?_,fun y z=>by cases z;exact hj⟩
  show x.2.2=_
  rw[ej]
  rfl
theorem TbT.non {H:Hp} {p:Addr} {ks:List K3} {m:Nat} {a:KTL} (h:TbT ks m a) (hk:∀k∈ks,k.1<2/\k.2.1<9/\k.2.2<17) (hp:H p=some (.dT (plT a))):NoN H p:=.inr ⟨plT a,hp,fun kv hkv=>by
 obtain⟨x,hx,rfl⟩:=aR.mp hkv
 obtain⟨k,j,hks,e,_⟩:=h x hx
 obtain⟨h1,h2,h3⟩:=hk k hks
 exact⟨kI k,e,An' ⟨k.1,h1⟩ ⟨k.2.1,h2⟩ ⟨k.2.2,h3⟩⟩⟩
def n1':Sp:=fun vs H Q _=>∃(bd l:Addr) (l0 h0 l1 h1:Nat) (sp:Option Nat) (xs:List V),vs=[.ref bd,.ref l]/\IsB H bd l0 h0 l1 h1 sp/\H l=some (.lst xs)/\cq' (ln' H) xs (rk (lvs sp) h0 h1)/\∀(p:Addr) (M:List Rm) (H':Hp),aD' H H'->IsM H' p M->OkM M->M.length=(rk (lvs sp) h0 h1).length->Q (.ref p) H'
theorem pY' {C:Rc} (hN:C.N.length=5) (hR:C.fs "room_behind"=some xN'):∀vs H Q E,n1' vs H Q E->tSs C aL' { nx:=fun _ H'=>Q .non H',rt:=Q } (L2.aA' C.N vs) H:=by
 intro vs H Q E h
 obtain⟨bd,l,l0,h0,l1,h1,sp,xs,rfl,hB,hl,hA,q⟩:=h
 rw[am' hN]
 unfold aL'
 obtain⟨hrl,hrb⟩:=t2' hB.bs hB.b0 hB.b1 (h0:=h0) (h1:=h1)
 have hnd:=Am' (xM' (sp:=sp)) (h0:=h0) (h1:=h1)
 generalize hks:rk (lvs sp) h0 h1=ks at hA q hrl hrb hnd
 have hxl:=hA.len
 symm
 refine j9' (SqL.of hl) (Bl' (vs:=xs) (fun i b H'=>TbT (ks.take i) ks.length b/\okT b H'/\b.length=i/\aD' H H') ⟨fun x h=>absurd h ap,fun x h=>absurd h ap,rfl,aD'.refl _⟩ (fun i b H' pv=>SqL.of (pv.2.2.2 _ _ hl)) ?_ ?_)
 .rintro i b H1 x p R hx hp ⟨hb,hok,hbl,s1⟩ hR'
  obtain⟨k,hk,pk,rfl,hpk⟩:=hA.getL hx
  have hi:=ap' hk
  refine c3' (SqT.of ac') ?_
  have t2:=af' hp (.tup [.int i,.ref pk])
  have s2:=s1.trans t2
  generalize upd H1 p (.tup [.int i,.ref pk])=H2 at t2 s2 ⊢
  have ok2:okT b H2:=fun y hy=>t2 _ _ (hok y hy)
  symm
  refine⟨kK k,pk,rfl,by rw[xP'];exact s2 _ _ hpk,ok2,fun y hy e=>?_,ak' ⋯,hR' _ _ ⟨fun y hy=>?_,fun y hy=>?_,by simp[hbl],s2⟩⟩
  .obtain⟨k',j,hk',e',_⟩:=hb y hy
   have ek:k'=k:=xO' (e'.symm.trans e)
   subst ek
   exact t4' hnd hk hk'
  .rw[n0' hk]
   rcases aD.mp hy with hy|hy
   .obtain⟨k',j,hk',e'⟩:=hb y hy
    exact⟨k',j,aZ _ hk',e'⟩
   .have:y=(kK k,pk,V.int i):=by simpa using hy
    subst this
    exact⟨k,i,ak _ (List.mem_singleton.mpr rfl),rfl,rfl,hi⟩
  .rcases aD.mp hy with hy|hy
   .exact ok2 y hy
   .have:y=(kK k,pk,V.int i):=by simpa using hy
    subst this
    show H2 pk=some (.tup ((kK k).map L2.kV))
    rw[xP']
    exact s2 _ _ hpk
 .rintro a H1 ⟨hb,hok,hal,s1⟩
  rw[hxl,aV]at hb
  refine⟨hok,fun p hp=>?_⟩
  have s2:=s1.trans (af' hp (.dT (plT a)))
  have hp2:upd H1 p (.dT (plT a)) p=some (.dT (plT a)):=ac'
  generalize upd H1 p (.dT (plT a))=H2 at s2 hp2 ⊢
  have getT:∀{H3:Hp} {Q':VK} {y:V},aD' H2 H3->(y=.non\/∃(pz:Addr) (i1 i2 i3:Int),y=.ref pz/\H3 pz=some (.tup [.int i1,.int i2,.int i3]))->(∀o:Option Nat,(∀x,o=some x->x<ks.length)->Q' (oV o) H3)->id' p Q' y H3:=by
   intro H3 Q' y s3 hy q'
   have hp3:=s3 _ _ hp2
   rcases hy with rfl|⟨pz,i1,i2,i3,rfl,hz⟩
   .exact nM' (hb.non hrb hp3) (q' none fun _ z=>(nomatch z))
   .obtain⟨o,e,ho⟩:=hb.get [.inl i1,.inl i2,.inl i3]
    refine nL' (g6'.t (k:=[.inl i1,.inl i2,.inl i3]) hp3 hz) ?_
    rw[e]
    exact q' o ho
  symm
  refine aJ' (SqL.of (s2 _ _ hl)) (dj' (vs:=xs) (fun i ys H'=>(∃M',cw' H' ys M'/\(∀m∈M',OkR ks.length m)/\M'.length=i/\i<=ks.length)/\aD' H2 H') ⟨⟨[],trivial,fun m h=>absurd h ap,rfl,aP _⟩,aD'.refl _⟩ (fun i ys H' pv=>SqL.of (pv.2 _ _ (s2 _ _ hl))) ?_ ?_)
  .rintro i ys H3 x R hx ⟨⟨M',hR',hO',hl',hi0⟩,s3⟩ hRR
   obtain⟨k,hk,pk,rfl,hpk⟩:=hA.getL hx
   have hi:=ap' hk
   have s23:=s2.trans s3
   symm
   refine gz' (.inr ⟨plT a,.inl (s3 _ _ hp2)⟩) ?_
   refine ag' hR ?_
   symm
   have half:∀(H4:Hp) (y1:V),aD' H2 H4->(y1=.non\/∃(pz:Addr) (i1 i2 i3:Int),y1=.ref pz/\H4 pz=some (.tup [.int i1,.int i2,.int i3]))->aD' H3 H4->id' p (kA1 C (List.set (clr [4] [some (.ref bd),some (.ref l),some (.ref p),none,none]) 4 (some (.ref pk))) (.cons (.dgt (.var 2) (.call "room_behind" (.cons (.var 0) (.cons (.var 4) (.cons (.int 1) .nil))))) .nil) (yG' (h5' ys R))) y1 H4:=by
    intro H4 y1 s4 hy1 s34
    refine getT s4 hy1 fun o1 ho1=>?_
    symm
    refine gz' (.inr ⟨plT a,.inl (s4 _ _ hp2)⟩) ?_
    refine ag' hR ?_
    symm
    have second:∀(H5:Hp) (y2:V),aD' H2 H5->aD' H4 H5->(y2=.non\/∃(pz:Addr) (i1 i2 i3:Int),y2=.ref pz/\H5 pz=some (.tup [.int i1,.int i2,.int i3]))->id' p (kA1 C (List.set (clr [4] [some (.ref bd),some (.ref l),some (.ref p),none,none]) 4 (some (.ref pk))) .nil (kA2 (oV o1) (yG' (h5' ys R)))) y2 H5:=by
     intro H5 y2 s5 s45 hy2
     refine getT s5 hy2 fun o2 ho2=>?_
     symm
     refine⟨by show 2<=sizeLine;decide,fun p6 hp6=>?_⟩
     have s6:=af' hp6 (.tup [oV o1,oV o2])
     have h6:upd H5 p6 (.tup [oV o1,oV o2]) p6=some (.tup [oV o1,oV o2]):=ac'
     generalize upd H5 p6 (.tup [oV o1,oV o2])=H6 at s6 h6 ⊢
     have hyl:=hR'.len
     refine⟨ak' ⋯,hRR _ _ ⟨⟨M'++[(o1,o2)],(hR'.mono (ar' (s34.trans (s45.trans s6)))).snoc ⟨p6,rfl,h6⟩,fun m hm=>?_,by simp[hl'],⋯⟩,s5.trans s6⟩⟩
     rcases aD.mp hm with hm|hm
     .exact hO' m hm
     .have:m=(o1,o2):=by simpa using hm
      subst this
      exact⟨ho1,ho2⟩
    refine⟨bd,pk,l0,h0,l1,h1,sp,k.1,k.2.1,k.2.2,1,rfl,hB.mono (ar' (s2.trans s4)),(s2.trans s4) _ _ hpk,fun H5 s45=>second H5 _ (s4.trans s45) s45 (.inl rfl),fun pz i1 i2 i3 H5 s45 hz=>second H5 _ (s4.trans s45) s45 (.inr ⟨pz,i1,i2,i3,rfl,hz⟩)⟩
   refine⟨bd,pk,l0,h0,l1,h1,sp,k.1,k.2.1,k.2.2,0,rfl,hB.mono (ar' s23),s23 _ _ hpk,fun H4 s34=>half H4 _ (s3.trans s34) (.inl rfl) s34,fun pz i1 i2 i3 H4 s34 hz=>half H4 _ (s3.trans s34) (.inr ⟨pz,i1,i2,i3,rfl,hz⟩) s34⟩
  .rintro ys H3 ⟨⟨M',hR',hO',hl',_⟩,s3⟩ p5 hp5
   rw[hxl]at hl'
   symm
   have h5:upd H3 p5 (.lst ys) p5=some (.lst ys):=ac'
   have s5:=af' hp5 (.lst ys)
   generalize upd H3 p5 (.lst ys)=H5 at h5 s5 ⊢
   refine fo' (SqL.of h5) fun p6 hp6=>?_
   have s6:=af' hp6 (.tup ys)
   exact q p6 M' _ (s2.trans (s3.trans (s5.trans s6))) ⟨ys,ac',hR'.mono (ar' (s5.trans s6))⟩ (fun m hm=>by rw[hl'];exact hO' m hm) hl'
def n2':Sp:=fun vs H Q _=>∃(bd:Addr) (l0 h0 l1 h1:Nat) (sp:Option Nat),vs=[.ref bd]/\IsB H bd l0 h0 l1 h1 sp/\∀(p:Addr) (M:List Rm) (H':Hp),aD' H H'->IsM H' p M->OkM M->M.length<=272->Q (.ref p) H'
theorem pZ' {C:Rc} (hN:C.N.length=3) (hT:C.fs "trimmed"=some ij') (hM:C.fs "machine_in_bounds"=some n1') (hR:C.fs "rooms_in_bounds"=some nZ'):∀vs H Q E,n2' vs H Q E->tSs C bK' { nx:=fun _ H'=>Q .non H',rt:=Q } (L2.aA' C.N vs) H:=by
 intro vs H Q E h
 obtain⟨bd,l0,h0,l1,h1,sp,rfl,hB,q⟩:=h
 rw[am' hN]
 unfold bK'
 have hrl:=(t2' hB.bs hB.b0 hB.b1 (h0:=h0) (h1:=h1)).1
 symm
 rw[pC']
 refine ag' hT ?_
 symm
 refine ag' hM ?_
 symm
 refine ag' hR ?_
 symm
 refine⟨bd,l0,h0,l1,h1,sp,rfl,hB,fun p xs H1 s1 hp hA=>?_⟩
 symm
 refine⟨bd,p,l0,h0,l1,h1,sp,xs,rfl,hB.mono (ar' s1),hp,hA,fun p2 M H2 s2 hM2 hO2 hl2=>?_⟩
 symm
 refine⟨p2,M,rfl,hM2,⋯,fun p3 p' l M' rs H3 s3 hp3 hl3 hM3 hO3 hlm hle=>?_⟩
 refine tw' (SqT.of hp3) ?_
 symm
 exact q p' M' H3 (s1.trans (s2.trans s3)) hM3 hO3 ⋯
end BD
namespace LW
open PySem PySem.Spec PyProof.Rows L2 R3
def sg (N:Nat) (f:Nat->Nat):Nat:=((aF N).map f).sum
theorem fu' {N:Nat} {f:Nat->Nat}:sg (N+1) f=sg N f+f N:=by unfold sg;rw[cy,aG,List.sum_append];simp
theorem eM' {N:Nat} {f g:Nat->Nat} (h:∀i,i<N->f i=g i):sg N f=sg N g:=by
 unfold sg
 congr 1
 exact bM fun i hi=>h i (aU.mp hi)
theorem r0':∀{N:Nat} {f g:Nat->Nat},sg N (fun i=>f i+g i)=sg N f+sg N g
 |0,_,_=>rfl
 |N+1,f,g=>by rw[fu',fu',fu',r0'];omega
theorem n3':∀{N:Nat},sg N (fun _=>0)=0
 |0=>rfl
 |N+1=>by rw[fu',n3']
theorem r1' {f:Nat->Nat} {i:Nat}:∀{N:Nat},sg N (fun k=>(if i=k then 1 else 0)*f k)=if i<N then f i else 0
 |0=>rfl
 |N+1=>by
  rw[fu',r1']
  by_cases h:i=N
  .subst h
   simp
  .rw[if_neg h,Nat.zero_mul,Nat.add_zero]
   by_cases h2:i<N
   .rw[if_pos h2,if_pos ⋯]
   .rw[if_neg h2,if_neg ⋯]
abbrev Tb:=Nat->Nat->Nat
def mm (N:Nat) (A B:Tb):Tb:=fun i j=>sg N fun k=>A i k*B k j
def Ad (M:List Rm):Tb:=fun i j=>(if stp M i false=some j then 1 else 0)+(if stp M i true=some j then 1 else 0)
def pw (M:List Rm):Nat->Tb
 |0=>fun i j=>if i=j then 1 else 0
 |n+1=>mm M.length (Ad M) (pw M n)
theorem xQ' {M:List Rm} (hM:OkM M) {f:Nat->Nat} {r:Nat} {c:Bool}:ow f (stp M r c)=sg M.length fun k=>(if stp M r c=some k then 1 else 0)*f k:=by
 cases e:stp M r c with
 |none=>
  show 0=_
  rw[eM' (g:=fun _=>0) fun k _=>by simp,n3']
 |some m=>
  show f m=_
  have:=r1' (f:=f) (i:=m) (N:=M.length)
  rw[if_pos (fq' hM e)]at this
  rw[<- this]
  exact eM' fun k _=>by simp
theorem Ao' {M:List Rm} (hM:OkM M) {g:Option Nat} {n r:Nat}:wy M g (n+1) r=sg M.length fun k=>Ad M r k*wy M g n k:=by
 show ow (wy M g n) (stp M r false)+ow (wy M g n) (stp M r true)=_
 rw[xQ' hM,xQ' hM,<- r0']
 exact eM' fun k _=>(bX ..).symm
theorem jf' {M:List Rm} (hM:OkM M) {g:Nat}:∀{n r:Nat},wy M (some g) n r=pw M n r g
 |0,r=>by
  show(if some g=none\/some g=some r then 1 else 0)=if r=g then 1 else 0
  by_cases h:r=g
  .subst h;simp
  .have:¬g=r:=fun z=>h z.symm
   simp[h,this]
 |n+1,r=>by
  rw[Ao' hM]
  exact eM' fun k _=>by rw[jf' hM]
theorem xR' {M:List Rm} {g:Option Nat}:∀{n r:Nat},wy M g n r<=2 ^ n
 |0,r=>by show(if _ then 1 else 0)<=1;split<;>omega
 |n+1,r=>by
  have key:∀o,ow (wy M g n) o<=2 ^ n:=fun o=>by
   cases o with
   |none=>exact aP _
   |some m=>exact xR'
  have h1:=key (stp M r false)
  have h2:=key (stp M r true)
  show ow (wy M g n) (stp M r false)+ow (wy M g n) (stp M r true)<=2 ^ (n+1)
  rw[bJ]
  omega
end LW
namespace SR
open PySem PySem.Spec PyProof.Rows L2 R3 LW
theorem t5':∀{l:List Bool},(l.map fun c=>[c]).flatten=l
 | []=>rfl
 |c :: r=>by rw[aE,ba,t5'];rfl
theorem t6' {n:Nat} {i j:Int} (h:(n:Int)<=i):Builtin.Str.strSliceIndices (some i) (some j) 1 n=Builtin.Str.strSliceIndices (some (n:Int)) (some j) 1 n:=by
 have h0:¬i<0:=by omega
 have h1:¬((n:Int)<0):=by omega
 have h2:(1:Int) > 0:=by decide
 simp only[Builtin.Str.strSliceIndices,h0,h1,h2,if_false,if_true,Int.min_eq_right h,Int.min_self]
theorem Ap' {l:List Bool} {a b:Nat} (h:a<=b):Txt.slice (tx l) (some (a:Int)) (some (b:Int))=tx ((l.drop a).take (b-a)):=by
 rcases Nat.le_total b l.length with hb|hb
 .exact gx' h hb
 .have e:Txt.slice (tx l) (some (a:Int)) (some (b:Int))=Txt.slice (tx l) (some (a:Int)) (some (l.length:Int)):=by
   unfold Txt.slice
   rw[c2',h9' ⋯]
  rw[e]
  rcases Nat.le_total a l.length with ha|ha
  .rw[gx' ha (aj _),bB (by simp),bB (by simp;omega)]
  .have e2:Txt.slice (tx l) (some (a:Int)) (some (l.length:Int))=Txt.slice (tx l) (some (l.length:Int)) (some (l.length:Int)):=by
    unfold Txt.slice
    rw[c2',t6' ⋯]
   rw[e2,gx' (aj _) (aj _),List.drop_of_length_le ha]
   simp
section
variable {K:W.Frag} {H:Hp} {Q:VK}
theorem xS' {l:List Bool} {a b:Nat} (hl:l.length<=sizeLine) (h:a<=b) (q:Q (.str (tx ((l.drop a).take (b-a)))) H):rSl K (.str (tx l)) (some (a:Int)) (some (b:Int)) H Q:=⟨by rw[c2'];exact hl,by rw[Ap' h];exact q⟩
end
theorem dx' {n:Nat} (h:n<=1000):n<=sizeLine:=bE (ak' h)
def la' (l:List Bool):List V:=(l.map fun c=>[c]).map fun l=>V.str (tx l)
theorem gC' {l:List Bool}:(la' l).length=l.length:=by unfold la';simp
theorem fv' {l:List Bool} {c:Bool}:la' l++[V.str (tx [c])]=la' (l++[c]):=by unfold la';simp
theorem kl' {K:W.Frag} {H:Hp} {Q:VK} {a:Addr} {l:List Bool} (h:SqL K H a (la' l)) (hz:l.length<=16000000) (q:Q (.str (tx l)) H):ll' K .join (.str (tx [])) [.ref a] H Q:=by
 refine gw' (ls:=l.map fun c=>[c]) h (by rw[t5'];exact hz) ?_
 rw[t5']
 exact q
theorem n4' {K:W.Frag} {H:Hp} {Q:VK} {n:Int} (q:Q (.str (tx [decide (n % 2=1)])) H):di' K .str [.int (n % 2)] H Q:=by
 have e:n % 2=if decide (n % 2=1)=true then 1 else 0:=by
  have:=Int.emod_two_eq n
  rcases this with h|h<;>rw[h]<;>rfl
 rw[e]
 exact gv' q
end SR
namespace RW
open PySem PySem.Spec PyProof.Rows L2 R3 LW SR
def ob (f:Nat->List (List Bool)) (b:Bool):Option Nat->List (List Bool)
 |none=>[]
 |some m=>(f m).map (b :: ·)
def rws (M:List Rm) (g:Option Nat):Nat->Nat->List (List Bool)
 |0,r=>if g=none\/g=some r then[[]]else[]
 |n+1,r=>ob (rws M g n) false (stp M r false)++ob (rws M g n) true (stp M r true)
theorem in' {f:Nat->List (List Bool)} {h:Nat->Nat} (e:∀m,(f m).length=h m) {b:Bool} {o:Option Nat}:(ob f b o).length=ow h o:=by
 cases o with
 |none=>rfl
 |some m=>simp[ob,ow,e]
theorem dy' {M:List Rm} {g:Option Nat}:∀{n r:Nat},(rws M g n r).length=wy M g n r
 |0,r=>by unfold rws wy;split<;>rfl
 |n+1,r=>by
  unfold rws wy
  rw[aB,in' fun m=>dy',in' fun m=>dy']
theorem gD' {M:List Rm} {g:Option Nat}:∀{n r:Nat} {x:List Bool},x∈rws M g n r->x.length=n
 |0,r,x,h=>by
  unfold rws at h
  split at h
  .simp at h;subst h;rfl
  .cases h
 |n+1,r,x,h=>by
  unfold rws at h
  have key:∀b o,x∈ob (rws M g n) b o->x.length=n+1:=by
   intro b o hx
   cases o with
   |none=>cases hx
   |some m=>
    obtain⟨y,hy,rfl⟩:=aR.mp hx
    rw[aQ,gD' hy]
  rcases aD.mp h with h|h
  .exact key _ _ h
  .exact key _ _ h
def rV (x:List Bool):V:=.str (tx x)
def Tbs (H:Hp) (l:Addr) (M:List Rm) (g:Option Nat) (n:Nat):Prop:=∃vs,H l=some (.lst vs)/\cq' (fun v k=>∃e,v=V.ref e/\H e=some (.lst ((wyL M g k).map V.int))) vs (aF (n+1))
theorem Tbs.mono {H H':Hp} {l:Addr} {M:List Rm} {g:Option Nat} {n:Nat} (t:Tbs H l M g n) (s:aD' H H'):Tbs H' l M g n:=by
 obtain⟨vs,h,a⟩:=t
 exact⟨vs,s _ _ h,a.mono fun v k ⟨e,h1,h2⟩=>⟨e,h1,s _ _ h2⟩⟩
theorem Tbs.at {K:W.Frag} {H:Hp} {l:Addr} {M:List Rm} {g:Option Nat} {n k:Nat} {Q:VK} (t:Tbs H l M g n) (hk:k<=n) (q:∀e,H e=some (.lst ((wyL M g k).map V.int))->Q (.ref e) H):gN' K (.ref l) (.int k) H Q\/gU' K (.ref l) (.int k) H Q:=by
 obtain⟨vs,h,a⟩:=t
 obtain⟨v,hv,e,rfl,he⟩:=a.get (i:=k) (b:=k) (by rw[bD ⋯])
 exact a6' (SqL.of h) (cU' hv) (q e he)
theorem t7' {K:W.Frag} {H:Hp} {e:Addr} {M:List Rm} {g:Option Nat} {k r:Nat} {Q:VK} (h:H e=some (.lst ((wyL M g k).map V.int))) (hr:r<M.length) (q:Q (.int (wy M g k r)) H):gN' K (.ref e) (.int r) H Q\/gU' K (.ref e) (.int r) H Q:=by
 refine a6' (SqL.of h) (v:=.int (wy M g k r)) (cU' ?_) q
 rw[aA]
 unfold wyL
 rw[aA,bD hr]
 rfl
theorem t8' {K:W.Frag} {H:Hp} {Q:VK} {a b:Addr} {xs zs:List V} (h:H a=some (.lst xs)) (h2:H b=some (.lst zs)) (hz:xs.length+zs.length<=sizeLine) (q:Q .non (upd H a (.lst (xs++zs)))):ll' K .extend (.ref a) [.ref b] H Q:=⟨a,b,xs,zs,rfl,rfl,h,h2,hz,q⟩
end RW
namespace NR
open PySem PySem.Spec PyProof.Rows L2 R3 LW SR RW
def cg':Css:=(.cons (.asg (.name 4) (.lst .nil))
  (.cons (.asg (.name 5) (.var 2))
  (.cons (.asg (.name 6) (.var 3))
  (.cons (.for_ (.name 7) (.rev (.cut (.var 1) .none (.some (.neg (.int 1))))) (.cons (.asg (.name 8) (.call "behind_bit" (.cons (.var 0) (.cons (.var 7) (.cons (.var 5) (.cons (.str "0") .nil))))))
  (.cons (.asg (.name 9) (.ife (.cmp .Lt (.var 6) (.var 8)) (.int 0) (.int 1)))
  (.cons (.ite (.cmp .Eq (.var 9) (.int 1)) (.cons (.aug 6 true (.var 8))
  .nil) .nil)
  (.cons (.expr (.met .append (.var 4) (.cons (.blt .str (.cons (.var 9) .nil)) .nil)))
  (.cons (.asg (.name 5) (.idx (.idx (.var 0) (.var 5)) (.var 9)))
  .nil))))))
  (.cons (.ret (.met .join (.str "") (.cons (.var 4) .nil)))
  .nil)))))
theorem t9' {xs:List V} {n:Nat}:kE' xs none (some (-(n:Int)-1))=xs.take (xs.length-n-1):=by
 unfold kE' HT.sIx
 dsimp only
 rw[if_pos ⋯]
 simp
 congr 1
 omega
theorem p0' {xs:List V}:kE' xs none (some (-1))=xs.take (xs.length-1):=by
 have:=t9' (xs:=xs) (n:=0)
 simpa using this
theorem km' {f:Nat->List (List Bool)} {b:Bool} {m k:Nat} {x:List Bool} (h:(f m)[k]?=some x):(ob f b (some m))[k]?=some (b :: x):=by
 show((f m).map (b :: ·))[k]?=_
 rw[aA,h]
 rfl
def Way (M:List Rm) (g:Option Nat) (n r k:Nat) (bs:List Bool) (i r' k':Nat):Prop:=bs.length=i/\i<=n/\r'<M.length/\k'<wy M g (n-i) r'/\∀x,(rws M g (n-i) r')[k']?=some x->(rws M g n r)[k]?=some (bs++x)
theorem p1' {M:List Rm} (hM:OkM M) {g:Option Nat} {n r k:Nat} {bs:List Bool} {i r' k':Nat} (w:Way M g n r k bs i r' k') (hi:i<n):∃c r2 k2,LW.stp M r' c=some r2/\c=!decide (k'<ow (wy M g (n-(i+1))) (LW.stp M r' false))/\k2=(if c then k'-ow (wy M g (n-(i+1))) (LW.stp M r' false)else k')/\Way M g n r k (bs++[c]) (i+1) r2 k2:=by
 obtain⟨h1,h2,h3,h4,h5⟩:=w
 obtain⟨m,hm⟩:∃m,n-i=m+1:=⟨n-i-1,⋯⟩
 have hm2:n-(i+1)=m:=by omega
 rw[hm]at h4 h5
 rw[hm2]
 have h4':k'<ow (wy M g m) (LW.stp M r' false)+ow (wy M g m) (LW.stp M r' true):=h4
 by_cases hc:k'<ow (wy M g m) (LW.stp M r' false)
 .cases e:LW.stp M r' false with
  |none=>rw[e]at hc;exact absurd hc (cz _)
  |some r2=>
   rw[e]at hc
   refine⟨false,r2,k',e,by rw[decide_eq_true hc];rfl,rfl,by simp[h1],⋯,fq' hM e,by rw[hm2];exact hc,fun x hx=>?_⟩
   rw[hm2]at hx
   have:=h5 (false :: x) (by
    unfold rws
    rw[e,cr (by rw[in' fun m=>dy'];exact hc)]
    exact km' hx)
   rw[this]
   simp
 .have hc2:k'-ow (wy M g m) (LW.stp M r' false)<ow (wy M g m) (LW.stp M r' true):=by omega
  cases e:LW.stp M r' true with
  |none=>rw[e]at hc2;exact absurd hc2 (cz _)
  |some r2=>
   rw[e]at hc2
   refine⟨true,r2,k'-ow (wy M g m) (LW.stp M r' false),e,by rw[decide_eq_false hc];rfl,rfl,by simp[h1],⋯,fq' hM e,by rw[hm2];exact hc2,fun x hx=>?_⟩
   rw[hm2]at hx
   have hl:(ob (rws M g m) false (LW.stp M r' false)).length=ow (wy M g m) (LW.stp M r' false):=in' fun m=>dy'
   have:=h5 (true :: x) (by
    unfold rws
    rw[List.getElem?_append_right (by rw[hl];omega),hl,e]
    exact km' hx)
   rw[this]
   simp
def b6' (K:W.Frag):Sp:=fun vs H Q _=>∃(a l:Addr) (M:List Rm) (g:Option Nat) (n r k:Nat),vs=[.ref a,.ref l,.int r,.int k]/\IsM H a M/\OkM M/\M.length<=500/\Tbs H l M g n/\n<=900/\r<M.length/\k<wy M g n r/\∀(row:List Bool) (H':Hp),aD' H H'->(rws M g n r)[k]?=some row->Q (.str (tx row)) H'
theorem gE' {C:Rc} (hN:C.N.length=10) (hB:C.fs "behind_bit"=some (a1' C.K)):∀vs H Q E,b6' C.K vs H Q E->tSs C cg' { nx:=fun _ H'=>Q .non H',rt:=Q } (L2.aA' C.N vs) H:=by
 intro vs H Q E h
 obtain⟨a,l,M,g,n,r,k,rfl,hM,hO,hM5,hT,hn,hr,hk,q⟩:=h
 rw[am' hN]
 unfold cg'
 symm
 refine⟨by decide,fun b hb=>?_⟩
 have s1:=af' hb (.lst [])
 have hb1:upd H b (.lst []) b=some (.lst (la' [])):=ac'
 generalize upd H b (.lst [])=H1 at s1 hb1 ⊢
 obtain⟨vs,hl,hA⟩:=hT.mono s1
 have hvl:=hA.len
 rw[bx]at hvl
 symm
 refine i9' (SqL.of hl) fun c hc=>?_
 rw[p0',hvl,Nat.add_sub_cancel]
 have s2:=af' hc (.lst (vs.take n))
 have hc2:upd H1 c (.lst (vs.take n)) c=some (.lst (vs.take n)):=ac'
 have hbc:b≠c:=fun e=>by subst e;rw[hb1]at hc;cases hc
 generalize upd H1 c (.lst (vs.take n))=H2 at s2 hc2 ⊢
 have hlt:(vs.take n).length=n:=by rw[aJ];omega
 refine xq' (SqL.of hc2) (xr' (xs:=vs.take n) (fun i σ H'=>aD' H H'/\H' c=some (.lst (vs.take n))/\(∀d o,H1 d=some o->d≠b->H' d=some o)/\∃(bs:List Bool) (r' k':Nat) (x7 x8 x9:Option V),σ=[some (.ref a),some (.ref l),some (.int r),some (.int k),some (.ref b),some (.int r'),some (.int k'),x7,x8,x9]/\H' b=some (.lst (la' bs))/\Way M g n r k bs i r' k') ⟨s1.trans s2,hc2,(fun d o hd _=>s2 _ _ hd),[],r,k,none,none,none,rfl,s2 _ _ hb1,rfl,⋯,hr,hk,fun x hx=>hx⟩ (fun i σ H' _ pv=>SqL.of pv.2.1) ?_ ?_)
 .rintro i x σ H3 hi hx ⟨s3,hc3,hk3,bs,r',k',x7,x8,x9,rfl,hb3,w⟩
  rw[hlt]at hi hx
  have hi2:n-1-i<n:=by omega
  rw[List.getElem?_take_of_lt hi2]at hx
  obtain⟨k2,ek,e,rfl,he⟩:=hA.getL hx
  rw[bD ⋯]at ek
  cases ek
  have heb:e≠b:=fun z=>by
   subst z
   rw[hb1]at he
   have h0:=Option.some.inj he
   injection h0 with h0
   have:=congrArg List.length h0
   simp[la',wyL]at this
   omega
  have he3:=hk3 _ _ he heb
  obtain⟨cc,r2,k2,e1,e2,e3,w2⟩:=p1' hO w hi
  rw[show n-1-i=n-(i+1) by omega]at he3
  symm
  refine ag' hB ?_
  symm
  refine⟨a,e,M,r',false,wyL M g (n-(i+1)),rfl,hM.mono (ar' s3),hO,w.2.2.1,SqL.of he3,jc',?_⟩
  rw[pT' hO]
  symm
  have ed:decide ((k':Int)<((ow (wy M g (n-(i+1))) (LW.stp M r' false):Nat):Int))=!cc:=by
   rw[e2,Bool.not_not]
   exact decide_eq_decide.mpr ⟨fun z=>by omega,fun z=>by omega⟩
  rw[ed]
  cases cc with
  |true=>
   have hle:ow (wy M g (n-(i+1))) (LW.stp M r' false)<=k':=by
    have:=e2.symm
    rw[aO,decide_eq_false_iff_not]at this
    omega
   symm
   rw[tq' (a:=(k':Int)) rfl]
   symm
   simp only[if_true]
   rw[show(k':Int)-((ow (wy M g (n-(i+1))) (LW.stp M r' false):Nat):Int)=(k2:Int) by rw[if_pos rfl]at e3;omega]
   symm
   refine⟨tyL hb3 rfl,gv' (b:=true) ?_⟩
   symm
   refine fW' hb3 (by rw[gC',w.1];exact ak' ⋯) ?_
   rw[fv']
   have hM4:IsM (upd H3 b (.lst (la' (bs++[true])))) a M:=(hM.mono (ar' s3)).mono (fZ' hb3 _)
   symm
   refine cE' (c:=true) hM4 w.2.2.1 fun p hp=>?_
   symm
   refine hp _ ?_
   rw[e1]
   simp only[oV]
   symm
   refine⟨c4' s3 hb,by rw[ae' (Ne.symm hbc)];exact hc3,(fun d o hd hdb=>by rw[ae' hdb];exact hk3 d o hd hdb),_,r2,k2,_,_,_,rfl,ac',w2⟩
  |false=>
   have ek2:k2=k':=e3
   subst ek2
   symm
   rw[show decide ((0:Int)=1)=false from rfl]
   symm
   refine⟨tyL hb3 rfl,gv' (b:=false) ?_⟩
   symm
   refine fW' hb3 (by rw[gC',w.1];exact ak' ⋯) ?_
   rw[fv']
   have hM4:IsM (upd H3 b (.lst (la' (bs++[false])))) a M:=(hM.mono (ar' s3)).mono (fZ' hb3 _)
   symm
   refine cE' (c:=false) hM4 w.2.2.1 fun p hp=>?_
   symm
   refine hp _ ?_
   rw[e1]
   simp only[oV]
   symm
   refine⟨c4' s3 hb,by rw[ae' (Ne.symm hbc)];exact hc3,(fun d o hd hdb=>by rw[ae' hdb];exact hk3 d o hd hdb),_,r2,k2,_,_,_,rfl,ac',w2⟩
 .rintro σ H3 ⟨s3,hc3,hk3,bs,r',k',x7,x8,x9,rfl,hb3,w⟩
  rw[hlt]at w
  obtain⟨w1,w2,w3,w4,w5⟩:=w
  rw[Nat.sub_self]at w4 w5
  obtain⟨x,hx⟩:∃x,(rws M g 0 r')[k']?=some x:=⟨_,af (by rw[dy'];exact w4)⟩
  have hxl:=gD' (aL hx)
  have ex:x=[]:=cB.mp hxl
  subst ex
  have:=w5 _ hx
  rw[bR]at this
  symm
  refine⟨rfl,kl' (SqL.of hb3) ⋯ ?_⟩
  exact q bs H3 s3 this
theorem n5' {H H':Hp} {l:Addr} {vs:List V} {M:List Rm} {g:Option Nat} {n:Nat} (hl:H' l=some (.lst vs)) (hA:cq' (fun v k=>∃e,v=V.ref e/\e≠l/\H e=none/\H' e=some (.lst ((wyL M g k).map V.int))) vs (aF (n+1))):Tbs H' l M g n:=⟨vs,hl,hA.mono fun v k ⟨e,h1,_,_,h4⟩=>⟨e,h1,h4⟩⟩
def gtB:List Bool->List Bool->Bool
 |a :: as,b :: bs=>(a&&!b) || (a == b&&gtB as bs)
 |_ :: _,[]=>true
 | [],_=>false
theorem xT':∀{x y:List Bool},AT' (tx x) (tx y)=gtB x y:=by
 intro x y
 show decide ((y.map cb)<(x.map cb))=gtB x y
 induction x generalizing y with
 |nil=>exact decide_eq_false (List.not_lt_nil _)
 |cons a x ih=>
  cases y with
  |nil=>exact decide_eq_true (by simp)
  |cons b y=>
   have:=ih (y:=y)
   have e:((b :: y).map cb<(a :: x).map cb)↔(cb b<cb a\/cb b=cb a/\y.map cb<x.map cb):=by
    rw[aE,aE,List.cons_lt_cons_iff]
   have t:(y.map cb<x.map cb)↔gtB x y=true:=by rw[<- this,decide_eq_true_iff]
   rw[cO,decide_eq_true_iff,e,t]
   show _↔((a&&!b) || (a == b&&gtB x y))=true
   cases a<;>cases b<;>simp[cb]
theorem io':∀{x:List Bool},gtB x x=false
 | []=>rfl
 |a :: x=>by
  show((a&&!a) || (a == a&&gtB x x))=false
  rw[io' (x:=x)]
  cases a<;>rfl
theorem n6':∀{x y:List Bool},gtB x y=true->gtB y x=false
 | [],_,h=>by cases h
 |a :: x,[],_=>rfl
 |a :: x,b :: y,h=>by
  have h:((a&&!b) || (a == b&&gtB x y))=true:=h
  show((b&&!a) || (b == a&&gtB y x))=false
  cases a<;>cases b<;>simp at h ⊢<;>exact n6' h
theorem n7' {M:List Rm} {g:Option Nat}:∀{n r:Nat},(rws M g n r).Pairwise fun x y=>gtB y x=true
 |0,r=>by
  unfold rws
  split<;>simp
 |n+1,r=>by
  unfold rws
  rw[bY]
  have one:∀c,(ob (rws M g n) c (LW.stp M r c)).Pairwise fun x y=>gtB y x=true:=by
   intro c
   cases LW.stp M r c with
   |none=>exact List.Pairwise.nil
   |some m=>
    show((rws M g n m).map (c :: ·)).Pairwise _
    rw[cX]
    refine(n7' (n:=n) (r:=m)).imp fun {x y} h=>?_
    show((c&&!c) || (c == c&&gtB y x))=true
    rw[h]
    cases c<;>rfl
  have hd:∀c x,x∈ob (rws M g n) c (LW.stp M r c)->∃z,x=c :: z:=by
   intro c x h
   cases e:LW.stp M r c with
   |none=>rw[e]at h;cases h
   |some m=>
    rw[e]at h
    obtain⟨z,_,rfl⟩:=aR.mp h
    exact⟨z,rfl⟩
  refine⟨one false,one true,fun x hx y hy=>?_⟩
  obtain⟨z,rfl⟩:=hd _ _ hx
  obtain⟨z',rfl⟩:=hd _ _ hy
  rfl
end NR
namespace K33
open PySem PySem.Spec PyProof.Rows L2 R3 LW
def a2':Css:=(.cons (.ret (.ife (.val (.var 0)) (.bin .Sub (.met .bitlen (.var 0) .nil) (.int 1)) .non))
  .nil)
def ch':Css:=(.cons (.ret (.call "greatest_power" (.cons (.idx (.idx (.call "ways" (.cons (.var 0) (.cons (.var 1) (.cons (.var 2) .nil)))) (.var 2)) (.var 1)) .nil)))
  .nil)
def eN':Css:=(.cons (.ite (.cmp .Eq (.call "_law_take" (.cons (.var 0) (.cons (.int 8) .nil))) (.int 0)) (.cons (.asg (.name 1) (.lst (.cons (.bin .Add (.int 1) (.call "_law_take" (.cons (.var 0) (.cons (.int 8) .nil)))) (.cons (.bin .Add (.int 1) (.call "_law_take" (.cons (.var 0) (.cons (.int 8) .nil)))) .nil))))
  (.cons (.asg (.name 2) (.comp (.bin .Add (.var 3) (.call "_law_take" (.cons (.var 0) (.cons (.bin .Sub (.int 9) (.var 3)) .nil)))) [3] (.name 3) (.val (.var 1)) .none .nil))
  (.cons (.ret (.tup (.cons (.idx (.var 1) (.int 0)) (.cons (.idx (.var 2) (.int 0)) (.cons (.idx (.var 1) (.int 1)) (.cons (.idx (.var 2) (.int 1)) (.cons (.idx (.lst (.cons .non (.cons .non (.cons (.bin .Add (.int 3) (.call "_law_take" (.cons (.var 0) (.cons (.int 14) .nil)))) .nil)))) (.call "_law_take" (.cons (.var 0) (.cons (.int 3) .nil)))) .nil)))))))
  .nil))) .nil)
  (.cons (.asg (.name 1) (.lst (.cons (.bin .Add (.int 1) (.call "_law_take" (.cons (.var 0) (.cons (.int 2) .nil)))) (.cons (.bin .Add (.int 1) (.call "_law_take" (.cons (.var 0) (.cons (.int 2) .nil)))) .nil))))
  (.cons (.asg (.name 2) (.comp (.bin .Add (.var 3) (.call "_law_take" (.cons (.var 0) (.cons (.int 4) .nil)))) [3] (.name 3) (.val (.var 1)) .none .nil))
  (.cons (.ret (.tup (.cons (.idx (.var 1) (.int 0)) (.cons (.idx (.var 2) (.int 0)) (.cons (.idx (.var 1) (.int 1)) (.cons (.idx (.var 2) (.int 1)) (.cons (.idx (.lst (.cons .non (.cons .non (.cons (.bin .Add (.int 1) (.call "_law_take" (.cons (.var 0) (.cons (.int 6) .nil)))) .nil)))) (.call "_law_take" (.cons (.var 0) (.cons (.int 3) .nil)))) .nil)))))))
  .nil))))
def bV':Css:=(.cons (.asg (.name 1) (.call "_law_take" (.cons (.var 0) (.cons (.int 4) .nil))))
  (.cons (.ite (.cmp .Eq (.var 1) (.int 0)) (.cons (.asg (.name 2) (.call "machine_of" (.cons (.call "_law_bounds" (.cons (.var 0) .nil)) .nil)))
  (.cons (.ite (.cmp .Lt (.blt .len (.cons (.var 2) .nil)) (.int 61)) (.cons (.ret (.var 2))
  .nil) .nil)
  .nil)) .nil)
  (.cons (.asg (.name 3) (.call "_law_many" (.cons (.var 0) (.cons (.int 1) (.cons (.int 5) (.cons (.int 12) .nil))))))
  (.cons (.ite (.cmp .Eq (.var 1) (.int 1)) (.cons (.ret (.call "_law_machine" (.cons (.var 0) (.cons (.var 3) .nil))))
  .nil) .nil)
  (.cons (.ret (.call "_law_ring_machine" (.cons (.var 0) (.cons (.var 3) .nil))))
  .nil)))))
open TM BD RW NR
def gp (c:Nat):V:=if c=0 then .non else .int (c.log2:Nat)
def lb':Sp:=fun vs H Q _=>∃c:Nat,vs=[.int c]/\Q (gp c) H
theorem ua' {C:Rc} (hN:C.N.length=1):∀vs H Q E,lb' vs H Q E->tSs C a2' { nx:=fun _ H'=>Q .non H',rt:=Q } (L2.aA' C.N vs) H:=by
 intro vs H Q E h
 obtain⟨c,rfl,q⟩:=h
 rw[am' hN]
 unfold a2'
 symm
 rw[<- decide_not]
 refine bv' (fun hq=>?_) fun hq=>?_
 .symm
  refine⟨rfl,?_⟩
  symm
  have hc:c≠0:=fun z=>hq (by rw[z];rfl)
  have e:Builtin.Int.intBits (c:Int)=c.log2+1:=by
   unfold Builtin.Int.intBits
   rw[Int.natAbs_natCast]
   simp[hc]
  rw[e]
  unfold gp at q
  rw[if_neg hc]at q
  rw[show((c.log2+1:Nat):Int)-1=(c.log2:Nat) by omega]
  exact q
 .symm
  have hc:c=0:=by omega
  unfold gp at q
  rw[if_pos hc]at q
  exact q
def xU':Sp:=fun vs H Q _=>∃(a:Addr) (M:List Rm) (r n:Nat),vs=[.ref a,.int r,.int n]/\IsM H a M/\OkM M/\M.length<=500/\r<M.length/\n<=900/\∀H',aD' H H'->Q (gp (pw M n r r)) H'
theorem ub' {C:Rc} (hN:C.N.length=3) (hW:C.fs "ways"=some (cy' C.K)) (hG:C.fs "greatest_power"=some lb'):∀vs H Q E,xU' vs H Q E->tSs C ch' { nx:=fun _ H'=>Q .non H',rt:=Q } (L2.aA' C.N vs) H:=by
 intro vs H Q E h
 obtain⟨a,M,r,n,rfl,hM,hO,hM5,hr,hn,q⟩:=h
 rw[am' hN]
 unfold ch'
 symm
 refine ag' hG ?_
 symm
 refine ag' hW ?_
 symm
 refine⟨a,M,some r,n,rfl,hM,hO,hM5,hn,fun l vs' H1 hl s1 hl1 hA=>?_⟩
 have hT:=n5' hl1 hA
 symm
 refine hT.at (aj _) fun e he=>?_
 symm
 refine t7' he hr ?_
 symm
 refine⟨_,rfl,?_⟩
 rw[jf' hO]
 exact q _ s1
theorem xV' {C:Rc} {H:Hp} {Q:VK} {a:Addr} {y r:Int} (h:H a=some (.lst [.non,.non,.int y])) (h0:0<=r) (h1:r<3) (hy:0<=y) (q:∀o:Option Nat,(∀s,o=some s->(s:Int)=y)->Q (oV o) H):gN' C.K (.ref a) (.int r) H Q\/gU' C.K (.ref a) (.int r) H Q:=by
 obtain⟨k,rfl⟩:=aI h0
 have hk:k=0\/k=1\/k=2:=by omega
 rcases hk with rfl|rfl|rfl
 .exact a6' (SqL.of h) (v:=.non) rfl (q none fun _ z=>(nomatch z))
 .exact a6' (SqL.of h) (v:=.non) rfl (q none fun _ z=>(nomatch z))
 .refine a6' (SqL.of h) (v:=.int y) rfl ?_
  have:=q (some y.toNat) fun s z=>by cases z;omega
  rw[show oV (some y.toNat)=.int y by show V.int (y.toNat:Int)=_;rw[Int.toNat_of_nonneg hy]]at this
  exact this
def dY':Sp:=fun vs H Q _=>∃(b:Addr) (n:Nat),vs=[.ref b]/\H b=some (d6' b n)/\n<=2 ^ 39/\∀(p:Addr) (l0 h0 l1 h1:Nat) (sp:Option Nat) (H':Hp),Go 20 H H'->IsB H' p l0 h0 l1 h1 sp->Q (.ref p) H'
theorem jg' {C:Rc} (hN:C.N.length=4) (hT:C.fs "_law_take"=some aK'):∀vs H Q E,dY' vs H Q E->tSs C eN' { nx:=fun _ H'=>Q .non H',rt:=Q } (L2.aA' C.N vs) H:=by
 intro vs H Q E h
 obtain⟨b,n,rfl,hb,hn,q⟩:=h
 rw[am' hN]
 unfold eN'
 symm
 refine ag' hT ?_
 symm
 refine⟨b,n,_,rfl,hb,⋯,⋯,⋯,fun r0 H0 h00 h01 g0=>?_⟩
 obtain⟨n0,hb0,hn0,_⟩:=g0.boxed hb ⋯
 symm
 refine bv' (fun hq=>?_) fun hq=>?_
 .symm
  refine ag' hT ?_
  symm
  refine⟨b,n0,_,rfl,hb0,⋯,⋯,⋯,fun r1 H1 h10 h11 g1=>?_⟩
  obtain⟨r1,rfl⟩:=aI h10
  obtain⟨n1,hb1,hn1,_⟩:=g1.boxed hb0 ⋯
  symm
  refine ag' hT ?_
  symm
  refine⟨b,n1,_,rfl,hb1,⋯,⋯,⋯,fun r2 H2 h20 h21 g2=>?_⟩
  obtain⟨r2,rfl⟩:=aI h20
  obtain⟨n2,hb2,hn2,_⟩:=g2.boxed hb1 ⋯
  symm
  refine⟨by decide,fun pl hpl=>?_⟩
  have g3:Go 3 H (upd H2 pl (.lst [.int (1+r1),.int (1+r2)])):=(((g0.trans g1).trans g2).trans (Go.new (c:=0) hpl _)).mono ⋯
  have hpl3:upd H2 pl (.lst [.int (1+r1),.int (1+r2)]) pl=some (.lst ([1+r1,1+r2].map nV)):=by
   rw[ac']
   show some (HO.lst [.int (1+(r1:Int)),.int (1+(r2:Int))])=some (HO.lst [.int ((1+r1:Nat):Int),.int ((1+r2:Nat):Int)])
   rw[show(1:Int)+r1=((1+r1:Nat):Int) by omega,show(1:Int)+r2=((1+r2:Nat):Int) by omega]
  generalize upd H2 pl (.lst [.int (1+r1),.int (1+r2)])=H3 at g3 hpl3 ⊢
  symm
  refine aJ' (SqL.of hpl3) (dj' (vs:=[1+r1,1+r2].map nV) (fun i xs H'=>(∃hs:List Nat,xs=hs.map nV/\hs.length=i/\i<=2/\∀h∈hs,h<=8)/\Go i H3 H') ⟨⟨[],rfl,rfl,⋯,fun h z=>absurd z ap⟩,Go.refl⟩ (fun i xs H' pv=>SqL.of (pv.2.lst hpl3)) ?_ ?_)
  .rintro i xs H4 x R hx ⟨⟨hs,rfl,hsl,hi2,hs8⟩,g4⟩ hR
   rw[aA]at hx
   cases er:[1+r1,1+r2][i]? with
   |none=>rw[er]at hx;cases hx
   |some lo=>
   rw[er]at hx
   cases hx
   have hi:=ap' er
   simp only[aQ,ci]at hi
   have hlo:lo<=8:=by
    have:=aL er
    simp only[al,ap,or_false]at this
    rcases this with rfl|rfl<;>omega
   obtain⟨n4,hb4,hn4,_⟩:=(g3.trans g4).boxed hb ⋯
   simp only[nV]
   symm
   refine ag' hT ?_
   symm
   refine⟨b,n4,_,rfl,hb4,⋯,⋯,⋯,fun r5 H5 h50 h51 g5=>?_⟩
   obtain⟨r5,rfl⟩:=aI h50
   symm
   refine⟨by rw[ac];exact ak' ⋯,hR _ _ ⟨⟨hs++[lo+r5],by rw[aG];rfl,by simp[hsl],⋯,fun h hh=>?_⟩,g4.trans g5⟩⟩
   rcases aD.mp hh with hh|hh
   .exact hs8 h hh
   .have:h=lo+r5:=by simpa using hh
    omega
  .rintro xs H4 ⟨⟨hs,rfl,hsl,_,hs8⟩,g4⟩ ph hph
   have hsl:hs.length=2:=hsl
   have g4:Go 2 H3 H4:=g4
   obtain⟨y1,y2,rfl⟩:∃y1 y2,hs=[y1,y2]:=by
    match hs,hsl with
    | [y1,y2],_=>exact⟨y1,y2,rfl⟩
   have g5:Go 5 H (upd H4 ph (.lst ([y1,y2].map nV))):=((g3.trans g4).trans (Go.new (c:=0) hph _)).mono ⋯
   have hph5:upd H4 ph (.lst ([y1,y2].map nV)) ph=some (.lst ([y1,y2].map nV)):=ac'
   have hpl5:=(Go.new (c:=0) hph (.lst ([y1,y2].map nV))).lst (g4.lst hpl3)
   generalize upd H4 ph (.lst ([y1,y2].map nV))=H5 at g5 hph5 hpl5 ⊢
   obtain⟨n5,hb5,hn5,_⟩:=g5.boxed hb ⋯
   symm
   refine a6' (SqL.of hpl5) (v:=nV (1+r1)) rfl ?_
   symm
   refine a6' (SqL.of hph5) (v:=nV y1) rfl ?_
   symm
   refine a6' (SqL.of hpl5) (v:=nV (1+r2)) rfl ?_
   symm
   refine a6' (SqL.of hph5) (v:=nV y2) rfl ?_
   symm
   refine ag' hT ?_
   symm
   refine⟨b,n5,_,rfl,hb5,⋯,⋯,⋯,fun r6 H6 h60 h61 g6=>?_⟩
   symm
   refine⟨by decide,fun p7 hp7=>?_⟩
   have g7:Go 6 H (upd H6 p7 (.lst [.non,.non,.int (3+r6)])):=((g5.trans g6).trans (Go.new (c:=0) hp7 _)).mono ⋯
   have h7:upd H6 p7 (.lst [.non,.non,.int (3+r6)]) p7=some (.lst [.non,.non,.int (3+r6)]):=ac'
   generalize upd H6 p7 (.lst [.non,.non,.int (3+r6)])=H7 at g7 h7 ⊢
   obtain⟨n7,hb7,hn7,_⟩:=g7.boxed hb ⋯
   refine ag' hT ?_
   symm
   refine⟨b,n7,_,rfl,hb7,⋯,⋯,⋯,fun r8 H8 h80 h81 g8=>?_⟩
   symm
   refine xV' (g8.lst h7) h80 h81 ⋯ fun sp hsp=>?_
   symm
   refine⟨by show 5<=sizeLine;decide,fun p9 hp9=>?_⟩
   refine q p9 (1+r1) y1 (1+r2) y2 sp _ (((g7.trans g8).trans (Go.new (c:=0) hp9 _)).mono ⋯) ⟨ac',hs8 y1 (by simp),hs8 y2 (by simp),fun s z=>?_⟩
   have:=hsp s z
   omega
 .symm
  refine ag' hT ?_
  symm
  refine⟨b,n0,_,rfl,hb0,⋯,⋯,⋯,fun r1 H1 h10 h11 g1=>?_⟩
  obtain⟨r1,rfl⟩:=aI h10
  obtain⟨n1,hb1,hn1,_⟩:=g1.boxed hb0 ⋯
  symm
  refine ag' hT ?_
  symm
  refine⟨b,n1,_,rfl,hb1,⋯,⋯,⋯,fun r2 H2 h20 h21 g2=>?_⟩
  obtain⟨r2,rfl⟩:=aI h20
  obtain⟨n2,hb2,hn2,_⟩:=g2.boxed hb1 ⋯
  symm
  refine⟨by decide,fun pl hpl=>?_⟩
  have g3:Go 3 H (upd H2 pl (.lst [.int (1+r1),.int (1+r2)])):=(((g0.trans g1).trans g2).trans (Go.new (c:=0) hpl _)).mono ⋯
  have hpl3:upd H2 pl (.lst [.int (1+r1),.int (1+r2)]) pl=some (.lst ([1+r1,1+r2].map nV)):=by
   rw[ac']
   show some (HO.lst [.int (1+(r1:Int)),.int (1+(r2:Int))])=some (HO.lst [.int ((1+r1:Nat):Int),.int ((1+r2:Nat):Int)])
   rw[show(1:Int)+r1=((1+r1:Nat):Int) by omega,show(1:Int)+r2=((1+r2:Nat):Int) by omega]
  generalize upd H2 pl (.lst [.int (1+r1),.int (1+r2)])=H3 at g3 hpl3 ⊢
  symm
  refine aJ' (SqL.of hpl3) (dj' (vs:=[1+r1,1+r2].map nV) (fun i xs H'=>(∃hs:List Nat,xs=hs.map nV/\hs.length=i/\i<=2/\∀h∈hs,h<=8)/\Go i H3 H') ⟨⟨[],rfl,rfl,⋯,fun h z=>absurd z ap⟩,Go.refl⟩ (fun i xs H' pv=>SqL.of (pv.2.lst hpl3)) ?_ ?_)
  .rintro i xs H4 x R hx ⟨⟨hs,rfl,hsl,hi2,hs8⟩,g4⟩ hR
   rw[aA]at hx
   cases er:[1+r1,1+r2][i]? with
   |none=>rw[er]at hx;cases hx
   |some lo=>
   rw[er]at hx
   cases hx
   have hi:=ap' er
   simp only[aQ,ci]at hi
   have hlo:lo<=2:=by
    have:=aL er
    simp only[al,ap,or_false]at this
    rcases this with rfl|rfl<;>omega
   obtain⟨n4,hb4,hn4,_⟩:=(g3.trans g4).boxed hb ⋯
   simp only[nV]
   symm
   refine ag' hT ?_
   symm
   refine⟨b,n4,_,rfl,hb4,⋯,⋯,⋯,fun r5 H5 h50 h51 g5=>?_⟩
   obtain⟨r5,rfl⟩:=aI h50
   symm
   refine⟨by rw[ac];exact ak' ⋯,hR _ _ ⟨⟨hs++[lo+r5],by rw[aG];rfl,by simp[hsl],⋯,fun h hh=>?_⟩,g4.trans g5⟩⟩
   rcases aD.mp hh with hh|hh
   .exact hs8 h hh
   .have:h=lo+r5:=by simpa using hh
    omega
  .rintro xs H4 ⟨⟨hs,rfl,hsl,_,hs8⟩,g4⟩ ph hph
   have hsl:hs.length=2:=hsl
   have g4:Go 2 H3 H4:=g4
   obtain⟨y1,y2,rfl⟩:∃y1 y2,hs=[y1,y2]:=by
    match hs,hsl with
    | [y1,y2],_=>exact⟨y1,y2,rfl⟩
   have g5:Go 5 H (upd H4 ph (.lst ([y1,y2].map nV))):=((g3.trans g4).trans (Go.new (c:=0) hph _)).mono ⋯
   have hph5:upd H4 ph (.lst ([y1,y2].map nV)) ph=some (.lst ([y1,y2].map nV)):=ac'
   have hpl5:=(Go.new (c:=0) hph (.lst ([y1,y2].map nV))).lst (g4.lst hpl3)
   generalize upd H4 ph (.lst ([y1,y2].map nV))=H5 at g5 hph5 hpl5 ⊢
   obtain⟨n5,hb5,hn5,_⟩:=g5.boxed hb ⋯
   symm
   refine a6' (SqL.of hpl5) (v:=nV (1+r1)) rfl ?_
   symm
   refine a6' (SqL.of hph5) (v:=nV y1) rfl ?_
   symm
   refine a6' (SqL.of hpl5) (v:=nV (1+r2)) rfl ?_
   symm
   refine a6' (SqL.of hph5) (v:=nV y2) rfl ?_
   symm
   refine ag' hT ?_
   symm
   refine⟨b,n5,_,rfl,hb5,⋯,⋯,⋯,fun r6 H6 h60 h61 g6=>?_⟩
   symm
   refine⟨by decide,fun p7 hp7=>?_⟩
   have g7:Go 6 H (upd H6 p7 (.lst [.non,.non,.int (1+r6)])):=((g5.trans g6).trans (Go.new (c:=0) hp7 _)).mono ⋯
   have h7:upd H6 p7 (.lst [.non,.non,.int (1+r6)]) p7=some (.lst [.non,.non,.int (1+r6)]):=ac'
   generalize upd H6 p7 (.lst [.non,.non,.int (1+r6)])=H7 at g7 h7 ⊢
   obtain⟨n7,hb7,hn7,_⟩:=g7.boxed hb ⋯
   refine ag' hT ?_
   symm
   refine⟨b,n7,_,rfl,hb7,⋯,⋯,⋯,fun r8 H8 h80 h81 g8=>?_⟩
   symm
   refine xV' (g8.lst h7) h80 h81 ⋯ fun sp hsp=>?_
   symm
   refine⟨by show 5<=sizeLine;decide,fun p9 hp9=>?_⟩
   refine q p9 (1+r1) y1 (1+r2) y2 sp _ (((g7.trans g8).trans (Go.new (c:=0) hp9 _)).mono ⋯) ⟨ac',hs8 y1 (by simp),hs8 y2 (by simp),fun s z=>?_⟩
   have:=hsp s z
   omega
def ip':Sp:=fun vs H Q _=>∃(b:Addr) (n:Nat),vs=[.ref b]/\H b=some (d6' b n)/\n<=2 ^ 38/\∀(a:Addr) (M:List Rm) (H':Hp),Go 1000 H H'->IsM H' a M->OkM M->M.length<=60->Q (.ref a) H'
theorem n8' {C:Rc} (hN:C.N.length=4) (hT:C.fs "_law_take"=some aK') (hMo:C.fs "machine_of"=some n2') (hB:C.fs "_law_bounds"=some dY') (hMy:C.fs "_law_many"=some ie') (hMa:C.fs "_law_machine"=some (dl' 1 60 400)) (hRi:C.fs "_law_ring_machine"=some (dl' 1 60 400)):∀vs H Q E,ip' vs H Q E->tSs C bV' { nx:=fun _ H'=>Q .non H',rt:=Q } (L2.aA' C.N vs) H:=by
 intro vs H Q E h
 obtain⟨b,n,rfl,hb,hn,q⟩:=h
 rw[am' hN]
 unfold bV'
 symm
 refine ag' hT ?_
 symm
 refine⟨b,n,_,rfl,hb,⋯,⋯,⋯,fun w H0 h00 h01 g0=>?_⟩
 simp only[i6',hV',cL,cN]
 refine xn' fun N hNx=>?_
 have aF':∀(x2:Option V) (H1:Hp),Go 30 H H1->N [some (.ref b),some (.int w),x2,none] H1:=by
  intro x2 H1 g1
  obtain⟨n1,hb1,hn1,_⟩:=g1.boxed hb ⋯
  refine hNx _ _ ?_
  symm
  refine ag' hMy ?_
  symm
  refine⟨b,n1,1,5,12,rfl,hb1,⋯,⋯,⋯,⋯,⋯,⋯,fun r H2 hr g2=>?_⟩
  obtain⟨r,rfl⟩:=aI (show 0<=r by omega)
  obtain⟨n2,hb2,hn2,_⟩:=g2.boxed hb1 ⋯
  symm
  refine bv' (fun hq=>?_) fun hq=>?_
  .symm
   refine ag' hMa ?_
   symm
   exact⟨b,n2,r,rfl,hb2,⋯,⋯,⋯,fun a M H3 g3 hM hO hl=>q a M H3 (((g1.trans g2).trans g3).mono ⋯) hM hO ⋯⟩
  .symm
   refine ag' hRi ?_
   symm
   exact⟨b,n2,r,rfl,hb2,⋯,⋯,⋯,fun a M H3 g3 hM hO hl=>q a M H3 (((g1.trans g2).trans g3).mono ⋯) hM hO ⋯⟩
 symm
 refine bv' (fun hq=>?_) fun hq=>?_
 .obtain⟨n0,hb0,hn0,_⟩:=g0.boxed hb ⋯
  symm
  refine ag' hMo ?_
  symm
  refine ag' hB ?_
  symm
  refine⟨b,n0,rfl,hb0,⋯,fun p l0 h0 l1 h1 sp H1 g1 hBd=>?_⟩
  symm
  refine⟨p,l0,h0,l1,h1,sp,rfl,hBd,fun p2 M H2 s2 hM hO hl=>?_⟩
  obtain⟨mv,hmv,hmr⟩:=id hM
  symm
  refine ef' (SqT.of hmv) ?_
  rw[hmr.len]
  symm
  have g2:Go 21 H H2:=((g0.trans g1).trans (Go.of_same (c:=0) s2)).mono ⋯
  refine bv' (fun hq2=>?_) fun hq2=>?_
  .symm
   exact q p2 M H2 (g2.mono ⋯) hM hO ⋯
  .symm
   exact aF' _ H2 (g2.mono ⋯)
 .symm
  exact aF' _ H0 (g0.mono ⋯)
theorem xW' {c:Nat} {H H':Hp} (g:Go c H H'):Tp H H':=fun a xs e=>g.oth a _ e fun _ z=>by cases z
end K33
namespace BK
open PySem PySem.Spec PyProof.Rows L2 R3 LW SR
def bW':Css:=(.cons (.ret (.comp (.cut (.var 0) (.some (.var 2)) (.some (.bin .Add (.var 2) (.var 1)))) [2] (.name 2) (.range3 (.int 0) (.blt .len (.cons (.var 0) .nil)) (.var 1)) .none .nil))
  .nil)
def bn':Css:=(.cons (.ite (.val (.bin .Mod (.blt .len (.cons (.var 0) .nil)) (.var 1))) (.cons (.rse "BadBits")
  .nil) .nil)
  (.cons (.ret (.call "blocks_of" (.cons (.var 0) (.cons (.var 1) .nil))))
  .nil))
def tV (l:List Bool):V:=.str (tx l)
def bks (m:Nat) (l:List Bool) (n:Nat):List (List Bool):=(aF n).map fun i=>(l.drop (i*m)).take m
theorem kn' {m n:Nat} {l:List Bool}:bks m l (n+1)=bks m l n++[(l.drop (n*m)).take m]:=by
 unfold bks
 rw[cy,aG]
 rfl
theorem c5' {m n:Nat} {l:List Bool}:(bks m l n).length=n:=by unfold bks;simp
theorem gF' {m n i:Nat} {l:List Bool} (h:i<n):(bks m l n)[i]?=some ((l.drop (i*m)).take m):=by
 unfold bks
 simp[h]
theorem iq' {i n m:Nat} (hi:i<n):i*m+m<=n*m:=by
 have:(i+1)*m<=n*m:=de m hi
 rw[bX,cR]at this
 exact this
theorem n9' {n m:Nat} (hm:0<m):eA' 0 ((n*m:Nat):Int) m=n:=by
 unfold eA'
 rcases Nat.eq_zero_or_pos n with rfl|hn
 .rw[Nat.zero_mul,if_neg ⋯]
 .have hp:0<n*m:=Nat.mul_pos hn hm
  rw[if_pos ⋯]
  have e:((n*m:Nat):Int)-0-1=((n*m-1:Nat):Int):=by omega
  have d:(n*m-1) / m=n-1:=by
   have h1:n*m=(n-1)*m+m:=by
    have:n=(n-1)+1:=by omega
    conv=>lhs;rw[this,bX,cR]
   apply Nat.div_eq_of_lt_le
   .omega
   .rw[bX,cR];omega
  rw[e,<- Int.natCast_ediv,d]
  omega
def aR':Sp:=fun vs H Q _=>∃(l:List Bool) (m n:Nat),vs=[.str (tx l),.int m]/\0<m/\m<=1000/\l.length=n*m/\l.length<=1000/\∀p H',H p=none->aD' H H'->H' p=some (.lst ((bks m l n).map tV))->Q (.ref p) H'
theorem fw' {C:Rc} (hN:C.N.length=3):∀vs H Q E,aR' vs H Q E->tSs C bW' { nx:=fun _ H'=>Q .non H',rt:=Q } (L2.aA' C.N vs) H:=by
 intro vs H Q E h
 obtain⟨l,m,n,rfl,hm,hm2,hl,hl2,q⟩:=h
 rw[am' hN]
 unfold bW'
 have hz:l.length<=sizeLine:=dx' ⋯
 symm
 refine⟨hz,?_⟩
 refine Aa' ⋯ ⋯ ⋯ ⋯ ⋯ ⋯ ?_
 rw[hl,n9' hm]
 refine rJ' (fun i xs H'=>xs=(bks m l i).map tV/\H'=H) ⟨rfl,rfl⟩ ?_ ?_
 .rintro i xs H' R hi ⟨rfl,rfl⟩ hR
  symm
  have hb:=iq' (m:=m) hi
  have hin:i<=n*m:=aN (bE hi) (cF n hm)
  rw[show(0:Int)+(i:Int)*(m:Int)=((i*m:Nat):Int) by rw[Int.natCast_mul,Int.zero_add],show((i*m:Nat):Int)+(m:Int)=((i*m+m:Nat):Int) by omega]
  refine xS' hz ⋯ ?_
  symm
  refine⟨by rw[ac,c5'];exact ak' ⋯,hR _ _ ⟨?_,rfl⟩⟩
  rw[kn',aG,cC]
  rfl
 .rintro xs H' ⟨rfl,rfl⟩ p hp
  symm
  exact q p _ hp (af' hp _) ac'
def dz':Sp:=fun vs H Q E=>∃(l:List Bool) (m:Nat),vs=[.str (tx l),.int m]/\0<m/\m<=1000/\l.length<=1000/\(∀n p H',l.length=n*m->H p=none->aD' H H'->H' p=some (.lst ((bks m l n).map tV))->Q (.ref p) H')/\∀H',aD' H H'->l.length % m≠0->E (.str "BadBits" 0) none H'
theorem lc' {C:Rc} {Ca:Addr} {L:List Str} (hN:C.N.length=2) (hB0:C.fs "blocks_of"=some aR') (G0:ClsG C "BadBits" Ca L):∀vs H Q E,dz' vs H Q E->tSs { C with xk:=fun _=>E } bn' { nx:=fun _ H'=>Q .non H',rt:=Q } (L2.aA' C.N vs) H:=by
 intro vs H Q E h
 obtain⟨l,m,rfl,hm,hm2,hl2,q,qx⟩:=h
 rw[am' hN]
 unfold bn'
 generalize hC:({ C with xk:=fun _=>E }:Rc)=C'
 have hB:C'.fs "blocks_of"=some aR':=by rw[<- hC];exact hB0
 have G:ClsG C' "BadBits" Ca L:=by rw[<- hC];exact G0.of rfl rfl
 have hE:∀σ,C'.xk σ=E:=fun σ=>by rw[<- hC]
 have hz:l.length<=sizeLine:=dx' ⋯
 symm
 refine⟨hz,⋯,?_⟩
 rw[<- decide_not]
 refine bv' (fun hq=>?_) fun hq=>?_
 .symm
  refine G.rse ?_
  rw[hE]
  exact qx H (aD'.refl _) ⋯
 .symm
  refine ag' hB ?_
  symm
  have e:l.length=l.length / m*m:=by
   have:=Nat.div_add_mod l.length m
   rw[bU]at this
   omega
  exact⟨l,m,l.length / m,rfl,hm,hm2,e,hl2,fun p H' hp s hH=>q _ p H' e hp s hH⟩
end BK
namespace K42
open PySem PySem.Spec PyProof.Rows L2 R3 LW
def bX':Css:=(.cons (.asg (.name 1) (.int 0))
  (.cons (.for_ (.name 2) (.val (.var 0)) (.cons (.asg (.name 1) (.bin .Add (.bin .Mult (.var 1) (.int 2)) (.blt .int (.cons (.var 2) .nil))))
  .nil))
  (.cons (.ret (.var 1))
  .nil)))
open SR BK
def num (l:List Bool):Nat:=l.foldl (fun n b=>n*2+if b then 1 else 0) 0
theorem p2' {l:List Bool} {b:Bool}:num (l++[b])=num l*2+if b then 1 else 0:=by unfold num;rw[List.foldl_append];rfl
theorem oa':∀(l:List Bool) (a:Nat),l.foldl (fun n b=>n*2+if b then 1 else 0) a<(a+1)*2 ^ l.length
 | [],a=>by simp
 |b :: l,a=>by
  have h:=oa' l (a*2+if b then 1 else 0)
  refine ai h ?_
  have e:(a+1)*2 ^ (b :: l).length=(2*a+2)*2 ^ l.length:=by
   rw[aQ,bJ,show 2*a+2=(a+1)*2 by omega,bG,bU 2]
  rw[e]
  exact de _ (by split<;>omega)
theorem f1' {l:List Bool}:num l<2 ^ l.length:=by have:=oa' l 0;simpa[num]using this
theorem ob' {p n:Nat} {l:List Bool} (hl:l.length=n*p):∀b∈bks p l n,b.length=p:=by
 intro b hb
 obtain⟨i,hi⟩:=List.getElem?_of_mem hb
 have h1:i<n:=by have:=ap' hi;rwa [c5']at this
 rw[gF' h1]at hi
 cases hi
 have:=iq' (m:=p) h1
 rw[aJ,cG]
 omega
theorem p3' {p n i:Nat} {l:List Bool} (hi:i<n):(bks p l n).take (i+1)=(bks p l n).take i++[(l.drop (i*p)).take p]:=by
 rw[bh,gF' hi]
 rfl
def dA':Sp:=fun vs H Q _=>∃(l:List Bool),vs=[.str (tx l)]/\Q (.int (num l)) H
theorem ld' {C:Rc} (hN:C.N.length=3):∀vs H Q E,dA' vs H Q E->tSs C bX' { nx:=fun _ H'=>Q .non H',rt:=Q } (L2.aA' C.N vs) H:=by
 intro vs H Q E h
 obtain⟨l,rfl,q⟩:=h
 rw[am' hN]
 unfold bX'
 symm
 refine fl' (nw' (fun i σ H'=>(∃x2,σ=[some (.str (tx l)),some (.int (num (l.take i))),x2])/\H'=H) ⟨⟨_,rfl⟩,rfl⟩ ?_ ?_)
 .rintro i c σ H' hc ⟨⟨x2,rfl⟩,rfl⟩
  symm
  refine⟨.inr (.inl ⟨⋯,⋯⟩),⟨⟨some (.str (tx [c])),?_⟩,trivial⟩⟩
  rw[bh,hc,show((some c).toList)=[c] from rfl,p2']
  cases c<;>rfl
 .rintro σ H' ⟨⟨x2,rfl⟩,rfl⟩
  rw[aV]
  symm
  exact q
end K42
namespace WR
open PySem PySem.Spec PyProof.Rows L2 R3 LW SR BK K42
def cI':Css:=(.cons (.ret (.met .join (.str "") (.cons (.comp (.blt .str (.cons (.bin .BitAnd (.bin .RShift (.var 0) (.var 2)) (.int 1)) .nil)) [2] (.name 2) (.rev (.blt .range (.cons (.var 1) .nil))) .none .nil) .nil)))
  .nil)
def bz (q i:Nat):List Bool:=(aF q).map fun k=>decide (i / 2 ^ (q-1-k) % 2=1)
theorem ko' {q i:Nat}:(bz q i).length=q:=by unfold bz;simp
theorem uc' {q i k:Nat} (hk:k<q):(bz q i).take (k+1)=(bz q i).take k++[decide (i / 2 ^ (q-1-k) % 2=1)]:=by
 have h:(bz q i)[k]?=some (decide (i / 2 ^ (q-1-k) % 2=1)):=by
  unfold bz
  rw[aA,bD hk]
  rfl
 rw[bh,h]
 rfl
theorem ud' {n m:Nat}:decide ((n:Int) / 2 ^ m % 2=1)=decide (n / 2 ^ m % 2=1):=by
 have e:(n:Int) / 2 ^ m % 2=((n / 2 ^ m % 2:Nat):Int):=by
  rw[Int.natCast_emod,Int.natCast_ediv,Int.natCast_pow]
  rfl
 rw[e]
 apply decide_eq_decide.mpr
 omega
def dZ':Sp:=fun vs H Q _=>∃(i q:Nat),vs=[.int i,.int q]/\q<=60/\∀H',aD' H H'->Q (.str (tx (bz q i))) H'
theorem ir' {C:Rc} (hN:C.N.length=3):∀vs H Q E,dZ' vs H Q E->tSs C cI' { nx:=fun _ H'=>Q .non H',rt:=Q } (L2.aA' C.N vs) H:=by
 intro vs H Q E h
 obtain⟨n,q0,rfl,hq0,q⟩:=h
 rw[am' hN]
 unfold cI'
 symm
 refine⟨rfl,?_⟩
 refine fn' fun r hr=>?_
 have s1:=af' hr (.rng 0 (q0:Int))
 have hr1:upd H r (.rng 0 (q0:Int)) r=some (.rng 0 (q0:Int)):=ac'
 generalize upd H r (.rng 0 (q0:Int))=H1 at s1 hr1 ⊢
 refine xp' hr1 ⋯ ⋯ ⋯ ⋯ ?_
 rw[show((q0:Int)-0).toNat=q0 by omega]
 refine rJ' (fun k xs H'=>k<=q0/\xs=la' ((bz q0 n).take k)/\H'=H1) ⟨⋯,by simp[la'],rfl⟩ ?_ ?_
 .rintro k xs H' R hk ⟨hk',rfl,rfl⟩ hR
  symm
  refine⟨⋯,⟨Int.ediv_nonneg ⋯ (fG' _),trivial⟩,?_⟩
  refine n4' ?_
  symm
  refine⟨by rw[gC'];exact ak' (by rw[aJ];omega),hR _ _ ⟨hk,?_,rfl⟩⟩
  rw[fv',uc' hk,show((0:Int)+(q0:Int)-1+(k:Int) * -1).toNat=q0-1-k by omega,ud']
 .rintro xs H' ⟨_,rfl,rfl⟩ p3 hp3
  symm
  rw[bB (by rw[ko'];exact aj _)]
  refine kl' (SqL.of ac') (by rw[ko'];omega) ?_
  exact q _ (s1.trans (af' hp3 _))
end WR
namespace NM
open PySem PySem.Spec PyProof.Rows L2 R3 LW SR RW NR
def bC':Css:=(.cons (.asg (.name 4) (.int 0))
  (.cons (.asg (.name 5) (.var 2))
  (.cons (.for_ (.tup (.cons (.name 6) (.cons (.name 7) .nil))) (.enum (.var 3)) (.cons (.ite (.cmp .Eq (.var 7) (.str "1")) (.cons (.aug 4 false (.call "behind_bit" (.cons (.var 0) (.cons (.idx (.var 1) (.bin .Sub (.bin .Sub (.blt .len (.cons (.var 3) .nil)) (.var 6)) (.int 1))) (.cons (.var 5) (.cons (.str "0") .nil))))))
  .nil) .nil)
  (.cons (.asg (.name 5) (.idx (.idx (.var 0) (.var 5)) (.blt .int (.cons (.var 7) .nil))))
  .nil)))
  (.cons (.ret (.var 4))
  .nil))))
def Ah (M:List Rm) (g:Option Nat) (n r:Nat) (row:List Bool) (i h k:Nat):Prop:=wk M (some r) (row.take i)=some h/\∀j y,(rws M g (n-i) h)[j]?=some y->(rws M g n r)[k+j]?=some (row.take i++y)
theorem ue' {M:List Rm} {g:Option Nat} {n r:Nat} {row:List Bool} {i h k h':Nat} {c:Bool} (a:Ah M g n r row i h k) (hi:i<n) (hc:row[i]?=some c) (hs:LW.stp M h c=some h'):Ah M g n r row (i+1) h' (if c then k+ow (wy M g (n-(i+1))) (LW.stp M h false)else k):=by
 obtain⟨a1,a2⟩:=a
 have hw:=fp' (M:=M) (o:=some r) hc
 rw[a1]at hw
 refine⟨by rw[hw];exact hs,fun j y hy=>?_⟩
 obtain⟨m,hm⟩:∃m,n-i=m+1:=⟨n-i-1,⋯⟩
 have hm2:n-(i+1)=m:=by omega
 rw[hm]at a2
 rw[hm2]at hy ⊢
 have et:row.take (i+1)=row.take i++[c]:=by rw[bh,hc];rfl
 have hl:(ob (rws M g m) false (LW.stp M h false)).length=ow (wy M g m) (LW.stp M h false):=in' fun m=>dy'
 rw[et]
 cases c with
 |false=>
  have:=a2 j (false :: y) (by
   unfold rws
   have hj:j<(ob (rws M g m) false (LW.stp M h false)).length:=by
    rw[hs]
    show j<((rws M g m h').map _).length
    rw[ac]
    exact ap' hy
   rw[cr hj,hs]
   exact km' hy)
  rw[if_neg (by decide),this]
  simp
 |true=>
  have:=a2 (ow (wy M g m) (LW.stp M h false)+j) (true :: y) (by
   unfold rws
   rw[List.getElem?_append_right (by rw[hl];omega),hl,hs,cC]
   exact km' hy)
  rw[if_pos rfl,Nat.add_assoc,this]
  simp
theorem r2' {M:List Rm} {o:Option Nat} {row:List Bool} {e i:Nat} (h:wk M o row=some e):∃m,wk M o (row.take i)=some m:=by
 cases q:wk M o (row.take i)with
 |none=>rw[rT' q]at h;cases h
 |some m=>exact⟨m,rfl⟩
def cz' (K:W.Frag):Sp:=fun vs H Q _=>∃(a l:Addr) (M:List Rm) (g:Option Nat) (r e:Nat) (row:List Bool),vs=[.ref a,.ref l,.int r,.str (tx row)]/\IsM H a M/\OkM M/\M.length<=500/\Tbs H l M g row.length/\row.length<=900/\r<M.length/\wk M (some r) row=some e/\(g=none\/g=some e)/\∀(k:Nat) (H':Hp),aD' H H'->(rws M g row.length r)[k]?=some row->Q (.int k) H'
theorem eC' {C:Rc} (hN:C.N.length=8) (hB:C.fs "behind_bit"=some (a1' C.K)):∀vs H Q E,cz' C.K vs H Q E->tSs C bC' { nx:=fun _ H'=>Q .non H',rt:=Q } (L2.aA' C.N vs) H:=by
 intro vs H Q E h
 obtain⟨a,l,M,g,r,e,row,rfl,hM,hO,hM5,hT,hn,hr,hwe,hg,q⟩:=h
 rw[am' hN]
 unfold bC'
 have hz:row.length<=sizeLine:=bE (ak' ⋯)
 symm
 refine w4' (tt' (l:=row) (fun i σ H'=>aD' H H'/\∃(h k:Nat) (x6 x7:Option V),σ=[some (.ref a),some (.ref l),some (.int r),some (.str (tx row)),some (.int k),some (.int h),x6,x7]/\Ah M g row.length r row i h k) ⟨aD'.refl _,r,0,none,none,rfl,rfl,fun j y hy=>by rw[Nat.zero_add];exact hy⟩ ?_ ?_)
 .rintro i c σ H2 p hc hp ⟨s2,h,k,x6,x7,rfl,ah⟩
  have hi:i<row.length:=ap' hc
  refine c3' (SqT.of ac') ?_
  have s3:=s2.trans (af' hp (.tup [.int i,.str (tx [c])]))
  generalize upd H2 p (.tup [.int i,.str (tx [c])])=H3 at s3 ⊢
  have hh:h<M.length:=pS' hO (fun m hm=>by cases hm;exact hr) ah.1
  have hM3:=hM.mono (ar' s3)
  obtain⟨h',eh'⟩:∃h',LW.stp M h c=some h':=by
   obtain⟨m,hm⟩:=r2' (i:=i+1) hwe
   rw[fp' hc,ah.1]at hm
   exact⟨m,hm⟩
  have ah2:=ue' ah hi hc eh'
  cases c with
  |false=>
   symm
   refine cE' (c:=false) hM3 hh fun p' hp'=>?_
   symm
   refine hp' _ ?_
   rw[eh']
   simp only[oV]
   symm
   exact⟨s3,h',k,_,_,rfl,ah2⟩
  |true=>
   symm
   rw[tq' (a:=(k:Int)) rfl]
   refine ag' hB ?_
   symm
   refine⟨hz,?_⟩
   rw[show(row.length:Int)-i-1=((row.length-(i+1):Nat):Int) by omega]
   refine(hT.mono s3).at ⋯ fun e he=>?_
   symm
   refine⟨a,e,M,h,false,wyL M g (row.length-(i+1)),rfl,hM3,hO,hh,SqL.of he,jc',?_⟩
   rw[pT' hO]
   symm
   refine cE' (c:=true) hM3 hh fun p' hp'=>?_
   symm
   refine hp' _ ?_
   rw[eh']
   simp only[oV]
   symm
   simp only[if_false]
   rw[<- Int.natCast_add]
   exact⟨s3,h',k+ow (wy M g (row.length-(i+1))) (LW.stp M h false),_,_,rfl,ah2⟩
 .rintro σ H2 ⟨s2,h,k,x6,x7,rfl,ah⟩
  obtain⟨a1,a2⟩:=ah
  rw[aV,hwe]at a1
  cases a1
  rw[Nat.sub_self]at a2
  have:=a2 0 [] (by
   unfold rws
   rw[if_pos hg]
   rfl)
  rw[aV,bR]at this
  symm
  exact q k H2 s2 this
end NM
namespace GR
open PySem PySem.Spec PyProof.Rows L2 R3 LW SR RW
theorem Ar' {C:Rc} {D:Ends} {σ:L2.St} {H:Hp} {k:Bool} {a b:Addr} {xs ys:List V} {t:Ct} {bd:Css} {n:Nat} (hn:n=min xs.length ys.length) (Pv:Nat->L2.St->Hp->Prop) (h0:Pv 0 σ H) (hl:∀i σ H,i<=n->Pv i σ H->Sq k C.K H a xs/\Sq k C.K H b ys)
  (hs:∀i x y σ H p,xs[i]?=some x->ys[i]?=some y->H p=none->Pv i σ H->tG C t (.ref p) σ (upd H p (.tup [x,y])) (tSs C bd { D with nx:=Pv (i+1),ct:=Pv (i+1),bk:=D.nx })) (hd:∀σ H,Pv n σ H->D.nx σ H):oA' C t bd D σ (Itz k C.K a b) H:=by
 refine⟨fun i m σ H=>m=n-i/\i<=n/\Pv i σ H,⟨n,by simp,aP _,h0⟩,?_⟩
 rintro i m σ H ⟨rfl,hi,p⟩
 obtain⟨q1,q2⟩:=hl i σ H hi p
 by_cases hlt:i<n
 .refine .inr ⟨⟨xs,ys,xs[i]'⋯,ys[i]'⋯,q1,q2,af _,af _⟩,Pv (i+1),fun σ' H' p'=>⟨n-(i+1),⋯,rfl,hlt,p'⟩,fun x H' y=>?_⟩
  obtain⟨ad,u,v,rfl,hne,y1,y2,rfl⟩:=y
  exact hs i u v σ _ ad (y1 xs q1) (y2 ys q2) hne p
 .have e:i=n:=by omega
  subst e
  exact .inl ⟨⟨xs,ys,q1,q2,⋯⟩,hd σ H p⟩
end GR
namespace K35
open PySem PySem.Spec PyProof.Rows L2 R3 LW
def gG':List Str:=["machine","room","row","here","bit"]
def eO':List Str:=["int"]
def dC':List Str:=["machine","rooms","inside","led_to","room","lead"]
def cJ':List Str:=["set"]
def dD':List Str:=["machine","numbers","anew","at","room"]
def cK':List Str:=["enumerate","tuple"]
def dE':List Str:=["machine","numbers","fewer"]
def cL':List Str:=["len","list","range"]
def bL':List Str:=["machine","numbers","room","bit","lead"]
def bl':List Str:=["int"]
def ci':List Str:=["machine","numbers","room"]
def bS':List Str:=["len","range"]
def eP':List Str:=["machine","goal","many","left","room","step"]
def d0':List Str:=["len","range"]
def cj':List Str:=["machine","left","room","number","bits","here","ahead","further","by_nought","bit"]
def bT':List Str:=["reversed","str"]
def bD':List Str:=["machine","left","room","row","ahead","here","at","bit"]
def a7':List Str:=["enumerate","int","len"]
def cM':List Str:=["row","many","at"]
def bY':List Str:=["len","range"]
def aY':List Str:=["row","many"]
def aI':List Str:=["len"]
def cN':List Str:=["bits","number","bit"]
def bZ':List Str:=["int"]
def dF':List Str:=["number","many","at"]
def cO':List Str:=["range","reversed","str"]
def a8':List Str:=["count","p"]
def aM':List Str:=[]
def aN':Css:=(.cons (.ret (.cmp .Gt (.met .bitlen (.var 0) .nil) (.var 1)))
  .nil)
def bE':List Str:=["count"]
def a3':List Str:=[]
def c6':List Str:=["machine","room","many"]
def ck':List Str:=[]
def bd':List Str:=["machine","room","many","bits","left","parts","part"]
def aH':List Str:=["!whole_blocks"]
def be':Css:=(.cons (.asg (.name 4) (.call "ways" (.cons (.var 0) (.cons (.var 1) (.cons (.var 2) .nil)))))
  (.cons (.asg (.name 5) (.call "whole_blocks" (.cons (.var 3) (.cons (.call "greatest_power" (.cons (.idx (.idx (.var 4) (.var 2)) (.var 1)) .nil)) .nil))))
  (.cons (.ret (.met .join (.str "") (.cons (.comp (.call "row_left" (.cons (.var 0) (.cons (.var 4) (.cons (.var 1) (.cons (.call "number_by" (.cons (.var 6) .nil)) .nil))))) [6] (.name 6) (.val (.var 5)) .none .nil) .nil)))
  .nil)))
def bo':List Str:=["machine","left","room","block"]
def aZ':List Str:=["len"]
def bp':Css:=(.cons (.ite (.or (.cmp .NotEq (.blt .len (.cons (.var 3) .nil)) (.bin .Sub (.blt .len (.cons (.var 1) .nil)) (.int 1))) (.cmp .NotEq (.call "walk" (.cons (.var 0) (.cons (.var 2) (.cons (.var 3) .nil)))) (.var 2))) (.cons (.ret .non)
  .nil) .nil)
  (.cons (.ret (.call "number_left" (.cons (.var 0) (.cons (.var 1) (.cons (.var 2) (.cons (.var 3) .nil))))))
  .nil))
def cr':List Str:=["machine","room","many","row","left","p","parts","at","block","number"]
def bM':List Str:=["enumerate"]
def bN':Css:=(.cons (.asg (.name 4) (.call "ways" (.cons (.var 0) (.cons (.var 1) (.cons (.var 2) .nil)))))
  (.cons (.asg (.name 5) (.call "greatest_power" (.cons (.idx (.idx (.var 4) (.var 2)) (.var 1)) .nil)))
  (.cons (.asg (.name 6) (.lst .nil))
  (.cons (.for_ (.tup (.cons (.name 7) (.cons (.name 8) .nil))) (.enum (.call "blocks_of" (.cons (.var 3) (.cons (.var 2) .nil)))) (.cons (.asg (.name 9) (.call "round_number" (.cons (.var 0) (.cons (.var 4) (.cons (.var 1) (.cons (.var 8) .nil))))))
  (.cons (.ite (.or (.cmp .Is (.var 9) .non) (.val (.call "is_power_at_least" (.cons (.var 9) (.cons (.var 5) .nil))))) (.cons .raise_
  .nil) .nil)
  (.cons (.expr (.met .append (.var 6) (.cons (.call "bits_by" (.cons (.var 9) (.cons (.var 5) .nil))) .nil)))
  .nil))))
  (.cons (.ret (.met .join (.str "") (.cons (.var 6) .nil)))
  .nil)))))
def bt':List Str:=["bounds","low0","high0","low1","high1","spread","levels","bit","high","place","level"]
def aW':List Str:=["list","range"]
def b7':List Str:=["bounds","room","bit","low0","high0","low1","high1","spread","last","place","level"]
def bF':List Str:=[]
def a9':List Str:=["bounds","rooms","numbers","at","room"]
def aO':List Str:=["enumerate","tuple"]
def cs':List Str:=["bounds","less","numbers"]
def bO':List Str:=[]
def d1':List Str:=["_law_script","_law_k"]
def c7':List Str:=["len"]
def p5':List Str:=["_law_script","_law_k","_law_cell"]
def od':List Str:=["abs","int"]
def oe':List Str:=["_law_box_here","_law_many_here","_law_found","_law_once","_law_twice"]
def kp':List Str:=[]
def of':List Str:=["_law_box_here","_law_least","_law_few","_law_most"]
def kq':List Str:=[]
def fx':List Str:=["_law_box_here","_law_many_here","_law_often","_law_rooms","_law_k","_law_doors","_law_bit","_law_to"]
def d2':List Str:=["int","range","tuple"]
def ct':List Str:=["_law_box_here","_law_many_here","_law_order","_law_k","_law_rooms","_law_at","_law_room","_law_on","_law_other"]
def bP':List Str:=["enumerate","int","range","tuple"]
def gH':List Str:=["_law_box_here","_law_lows","_law_highs","_law_low"]
def eQ':List Str:=[]
def og':List Str:=["_law_box_here","_law_many_here","_law_k"]
def kr':List Str:=["range"]
def gI':List Str:=["_law_machine_here","_law_room","_law_many_here","_law_pairs","_law_turn","_law_longer","_law_row","_law_at","_law_bit"]
def eR':List Str:=["range"]
def eS':Css:=(.cons (.asg (.name 3) (.lst (.cons (.tup (.cons (.str "") (.cons (.var 1) .nil))) .nil)))
  (.cons (.for_ (.name 4) (.range1 (.var 2)) (.cons (.asg (.name 5) (.lst .nil))
  (.cons (.for_ (.tup (.cons (.name 6) (.cons (.name 7) .nil))) (.val (.var 3)) (.cons (.expr (.met .extend (.var 5) (.cons (.comp (.tup (.cons (.bin .Add (.var 6) (.idx (.str "01") (.var 8))) (.cons (.idx (.idx (.var 0) (.var 7)) (.var 8)) .nil))) [8] (.name 8) (.val (.tup (.cons (.int 0) (.cons (.int 1) .nil)))) (.some (.cmp .IsNot (.idx (.idx (.var 0) (.var 7)) (.var 8)) .non)) .nil) .nil)))
  .nil))
  (.cons (.asg (.name 3) (.var 5))
  .nil))))
  (.cons (.ret (.comp (.var 6) [6,7] (.tup (.cons (.name 6) (.cons (.name 7) .nil))) (.val (.var 3)) (.some (.cmp .Eq (.var 7) (.var 1))) .nil))
  .nil)))
def cP':List Str:=["_law_box_here","_law_way","_law_found","_law_many_here"]
def b0':List Str:=["len"]
def gJ':List Str:=["_law_row","_law_many_here","_law_at"]
def eT':List Str:=["len","range"]
def gK':Css:=(.cons (.ret (.comp (.cut (.var 0) (.some (.var 2)) (.some (.bin .Add (.var 2) (.var 1)))) [2] (.name 2) (.range3 (.int 0) (.blt .len (.cons (.var 0) .nil)) (.var 1)) .none .nil))
  .nil)
def c8':List Str:=["_law_machine_here","_law_room","_law_many_here","_law_bits_here","_law_caught","e","_law_alone"]
def b8':List Str:=["!table_written","ValueError","isinstance"]
def d3':Css:=(.cons (.asg (.name 4) .non)
  (.cons (.try_ (.cons (.expr (.call "table_written" (.cons (.var 0) (.cons (.var 1) (.cons (.var 2) (.cons (.var 3) .nil))))))
  .nil) "RunError" 5 (.cons (.asg (.name 4) (.var 5))
  .nil))
  (.cons (.asg (.name 6) (.and (.blt .isinstance (.cons (.var 4) (.cons (.cls "BadBits") .nil))) (.blt .isinstance (.cons (.var 4) (.cons (.ty "ValueError") .nil)))))
  (.cons (.ret (.and (.var 6) (.not (.blt .isinstance (.cons (.var 4) (.cons (.tup (.cons (.cls "BadBlock") (.cons (.cls "NoNumber") (.cons (.cls "NoRow") (.cons (.cls "NoWindow") .nil))))) .nil))))))
  .nil))))
def cu':List Str:=["_law_machine_here","_law_room","_law_many_here","_law_p","_law_bits_here","_law_told","_law_parts","_law_blocks","_law_rounds_here","_law_part","_law_block","_law_spot","_law_bit","_law_ordered"]
def bQ':List Str:=["int","len","sorted","zip"]
def bR':Css:=(.cons (.par 6 7 (.call "_law_parted" (.cons (.var 4) (.cons (.var 3) .nil))) (.call "_law_parted" (.cons (.var 5) (.cons (.var 2) .nil))))
  (.cons (.ite (.cmp .NotEq (.blt .len (.cons (.var 6) .nil)) (.blt .len (.cons (.var 7) .nil))) (.cons (.ret (.bl false))
  .nil) .nil)
  (.cons (.ite (.cmp .Lt (.var 2) (.int 9)) (.cons (.asg (.name 8) (.call "_law_rounds" (.cons (.var 0) (.cons (.var 1) (.cons (.var 2) .nil)))))
  (.cons (.ret (.cmp .Eq (.var 7) (.comp (.idx (.var 8) (.blt .int (.cons (.var 9) (.cons (.int 2) .nil)))) [9] (.name 9) (.val (.var 6)) .none .nil)))
  .nil)) .nil)
  (.cons (.for_ (.tup (.cons (.name 9) (.cons (.name 10) .nil))) (.zip (.var 6) (.var 7)) (.cons (.asg (.name 11) (.var 1))
  (.cons (.for_ (.name 12) (.val (.var 10)) (.cons (.asg (.name 11) (.ife (.cmp .Is (.var 11) .non) .non (.idx (.idx (.var 0) (.var 11)) (.blt .int (.cons (.var 12) .nil)))))
  .nil))
  (.cons (.ite (.or (.cmp .NotEq (.var 11) (.var 1)) (.cmp .NotEq (.blt .len (.cons (.var 10) .nil)) (.var 2))) (.cons (.ret (.bl false))
  .nil) .nil)
  .nil))))
  (.cons (.asg (.name 13) (.szp (.var 6) (.var 7)))
  (.cons (.ret (.cmp .Eq (.comp (.var 10) [9,10] (.tup (.cons (.name 9) (.cons (.name 10) .nil))) (.val (.var 13)) .none .nil) (.blt .sorted (.cons (.var 7) .nil))))
  .nil))))))
def b1':List Str:=["_law_box_here","_law_machine_here","_law_room","_law_many_here","_law_p","_law_most","_law_bits_here","_law_some","_law_told","_law_odd"]
def bf':List Str:=["!table_written","all","int","isinstance","max","str"]
def b2':Css:=(.cons (.asg (.name 5) (.bin .FloorDiv (.bin .Mult (.idx (.lst (.cons (.int 12) (.cons (.int 36) .nil))) (.blt .int (.cons (.cmp .Eq (.call "_law_take" (.cons (.var 0) (.cons (.int 6) .nil))) (.int 0)) .nil))) (.int 10)) (.blt .max (.cons (.int 10) (.cons (.var 3) .nil)))))
  (.cons (.asg (.name 6) (.call "_law_bits" (.cons (.var 0) (.cons (.bin .Mult (.var 4) (.call "_law_take" (.cons (.var 0) (.cons (.bin .Add (.var 5) (.int 1)) .nil)))) .nil))))
  (.cons (.for_ (.name 7) (.val (.tup (.cons (.var 6) (.cons (.bin .Mult (.str "0") (.var 4)) (.cons (.bin .Mult (.str "1") (.var 4)) (.cons (.bin .Mult (.str "01") (.var 4)) (.cons (.str "") (.cons (.bin .Add (.bin .Mult (.str "1") (.bin .Mult (.int 2) (.var 4))) (.var 6)) .nil)))))))) (.cons (.asg (.name 8) (.call "table_written" (.cons (.var 1) (.cons (.var 2) (.cons (.var 3) (.cons (.var 7) .nil))))))
  (.cons (.ite (.or (.not (.val (.blt .isinstance (.cons (.var 8) (.cons (.ty "str") .nil))))) (.cmp .NotEq (.call "table_read" (.cons (.var 1) (.cons (.var 2) (.cons (.var 3) (.cons (.var 8) .nil))))) (.var 7))) (.cons (.ret (.bl false))
  .nil) .nil)
  (.cons (.ite (.not (.val (.call "_law_blocks_right" (.cons (.var 1) (.cons (.var 2) (.cons (.var 3) (.cons (.var 4) (.cons (.var 7) (.cons (.var 8) .nil))))))))) (.cons (.ret (.bl false))
  .nil) .nil)
  .nil))))
  (.cons (.asg (.name 9) (.cut (.lst (.cons (.bin .Add (.var 6) (.str "1")) (.cons (.bin .Mult (.str "0") (.bin .Sub (.var 4) (.int 1))) .nil))) .none (.some (.bin .Mult (.int 2) (.blt .int (.cons (.cmp .Gt (.var 4) (.int 1)) .nil))))))
  (.cons (.ret (.blt .all (.cons (.comp (.call "_law_refused" (.cons (.var 1) (.cons (.var 2) (.cons (.var 3) (.cons (.var 7) .nil))))) [7] (.name 7) (.val (.var 9)) .none .nil) .nil)))
  .nil)))))
def ji':List Str:=["_law_box_here","_law_machine_here","_law_room","_law_most","_law_many_here","_law_p"]
def gL':List Str:=["len"]
def gM':Css:=(.cons (.asg (.name 1) (.call "_law_any_machine" (.cons (.var 0) .nil)))
  (.cons (.ite (.cmp .Eq (.blt .len (.cons (.var 1) .nil)) (.int 0)) (.cons (.ret (.bl true))
  .nil) .nil)
  (.cons (.asg (.name 2) (.call "_law_take" (.cons (.var 0) (.cons (.blt .len (.cons (.var 1) .nil)) .nil))))
  (.cons (.for_ (.name 3) (.val (.lst (.cons (.int 8) (.cons (.int 8) (.cons (.idx (.lst (.cons (.int 8) (.cons (.int 20) .nil))) (.call "_law_take" (.cons (.var 0) (.cons (.int 2) .nil)))) .nil))))) (.cons (.asg (.name 4) (.bin .Add (.int 1) (.call "_law_take" (.cons (.var 0) (.cons (.var 3) .nil)))))
  (.cons (.asg (.name 5) (.call "bits_for" (.cons (.var 1) (.cons (.var 2) (.cons (.var 4) .nil)))))
  (.cons (.ite (.and (.cmp .IsNot (.var 5) .non) (.and (.cmp .Gt (.var 5) (.int 0)) (.not (.val (.call "_law_table_right" (.cons (.var 0) (.cons (.var 1) (.cons (.var 2) (.cons (.var 4) (.cons (.var 5) .nil)))))))))) (.cons (.ret (.bl false))
  .nil) .nil)
  .nil))))
  (.cons (.ret (.bl true))
  .nil)))))
def p6':List Str:=["_law_script","_law_k"]
def oh':List Str:=["len","max","min","range"]
def p7':Css:=(.cons (.for_ (.name 1) (.range1 (.blt .max (.cons (.int 3) (.cons (.blt .min (.cons (.blt .len (.cons (.var 0) .nil)) (.cons (.int 8) .nil))) .nil)))) (.cons (.ite (.not (.val (.call "_law_right" (.cons (.call "_law_box" (.cons (.var 0) (.cons (.var 1) .nil))) .nil)))) (.cons (.ret (.bl false))
  .nil) .nil)
  .nil))
  (.cons (.ret (.bl true))
  .nil))
open TM BD RW NR NM K33 SR BK K42 WR
def rd (M:List Rm) (r n:Nat) (b:List Bool):List Bool:=((rws M (some r) n r)[num b]?).getD []
theorem jj' {M:List Rm} {r n:Nat} {b:List Bool} (h:num b<wy M (some r) n r):(rws M (some r) n r)[num b]?=some (rd M r n b):=by
 have h':num b<(rws M (some r) n r).length:=by rw[dy'];exact h
 unfold rd
 rw[af h']
 rfl
theorem iu' {M:List Rm} {r n:Nat} {b:List Bool} (h:num b<wy M (some r) n r):(rd M r n b).length=n:=gD' (aL (jj' h))
set_option tactic.hygienic true in
theorem r3' {M:List Rm} {g:Option Nat}:∀{n r:Nat} {x:List Bool},x∈rws M g n r->∃e,wk M (some r) x=some e/\(g=none\/g=some e)
 |0,r,x,h=>by
  unfold rws at h
  split at h
  .rename_i hg
   have:x=[]:=by simpa using h
   subst this
   exact⟨r,rfl,hg⟩
  .cases h
 |n+1,r,x,h=>by
  unfold rws at h
  have key:∀b o,x∈ob (rws M g n) b o->LW.stp M r b=o->∃e,wk M (some r) x=some e/\(g=none\/g=some e):=by
   intro b o hx ho
   cases o with
   |none=>cases hx
   |some m=>
    obtain⟨y,hy,rfl⟩:=aR.mp hx
    obtain⟨e,he,hg⟩:=r3' hy
    refine⟨e,?_,hg⟩
    show wk M ((some r).bind fun r=>LW.stp M r b) y=some e
    rw[show((some r).bind fun r=>LW.stp M r b)=some m from ho]
    exact he
  rcases aD.mp h with h|h
  .exact key _ _ h rfl
  .exact key _ _ h rfl
theorem xX' {M:List Rm} {r n:Nat} {b:List Bool} (h:num b<wy M (some r) n r):wk M (some r) (rd M r n b)=some r:=by
 obtain⟨e,he,hg⟩:=r3' (aL (jj' h))
 rcases hg with hg|hg
 .cases hg
 .cases hg
  exact he
theorem jk':∀(l:List Bool) (a:Nat),l.foldl (fun n b=>n*2+if b then 1 else 0) a=a*2 ^ l.length+num l
 | [],a=>by simp[num]
 |b :: l,a=>by
  rw[cg,jk' l,aQ,bJ]
  have e:num (b :: l)=(if b then 1 else 0)*2 ^ l.length+num l:=by
   show(b :: l).foldl _ 0=_
   rw[cg,jk' l]
   cases b<;>simp
  rw[e,bX,bG,bU 2,Nat.add_assoc]
theorem d4' {b:Bool} {l:List Bool}:num (b :: l)=(if b then 2 ^ l.length else 0)+num l:=by
 show(b :: l).foldl _ 0=_
 rw[cg,jk' l]
 cases b<;>simp
theorem r4':∀{x y:List Bool},x.length=y.length->gtB y x=true->num x<num y
 | [],[],_,h=>by cases h
 | [],_ :: _,hl,_=>by simp at hl
 |_ :: _,[],hl,_=>by simp at hl
 |a :: x,b :: y,hl,h=>by
  have hl':x.length=y.length:=by simpa using hl
  rw[d4',d4',hl']
  have h1:num x<2 ^ y.length:=by rw[<- hl'];exact f1'
  simp only[gtB,Bool.or_eq_true,ag]at h
  rcases h with⟨hb,ha⟩|⟨hab,h⟩
  .have ha:a=false:=by simpa using ha
   subst hb ha
   simp
   omega
  .have e:b=a:=by simpa using hab
   subst e
   have:=r4' hl' h
   omega
theorem jl':∀{x y:List Bool},x.length=y.length->num x=num y->x=y
 | [],[],_,_=>rfl
 | [],_ :: _,hl,_=>by simp at hl
 |_ :: _,[],hl,_=>by simp at hl
 |a :: x,b :: y,hl,h=>by
  have hl':x.length=y.length:=by simpa using hl
  rw[d4',d4',hl']at h
  have h1:num x<2 ^ y.length:=by rw[<- hl'];exact f1'
  have h2:num y<2 ^ y.length:=f1'
  have e:a=b:=by
   cases a<;>cases b<;>simp at h ⊢<;>omega
  subst e
  rw[jl' hl' ⋯]
theorem r5':∀{p i:Nat},i<2 ^ p->num (bz p i)=i
 |0,i,h=>by
  have:i=0:=by simpa using h
  subst this
  rfl
 |p+1,i,h=>by
  have e:bz (p+1) i=decide (i / 2 ^ p % 2=1) :: bz p (i % 2 ^ p):=by
   unfold bz
   rw[List.range_succ_eq_map,aE,bi]
   congr 1
   refine bM fun k hk=>?_
   have hk:=aU.mp hk
   show decide (i / 2 ^ (p+1-1-(k+1)) % 2=1)=decide (i % 2 ^ p / 2 ^ (p-1-k) % 2=1)
   have e1:p+1-1-(k+1)=p-1-k:=by omega
   rw[e1]
   have e2:p=(p-1-k)+(k+1):=by omega
   generalize p-1-k=j at e2 ⊢
   rw[e2,Nat.pow_add,Nat.mod_mul_right_div_self,bJ,Nat.mod_mul_left_mod]
  rw[e,d4',ko',r5' (Nat.mod_lt _ (Nat.two_pow_pos p))]
  have h2:i / 2 ^ p<2:=Nat.div_lt_of_lt_mul (by rw[<- bJ];exact h)
  have h3:=Nat.div_add_mod i (2 ^ p)
  have h4:i / 2 ^ p=0\/i / 2 ^ p=1:=by
   clear h3
   generalize i / 2 ^ p=z at h2 ⊢
   omega
  rcases h4 with h4|h4
  .rw[h4]at h3 ⊢
   simp at h3 ⊢
   exact h3
  .rw[h4]at h3 ⊢
   simp at h3 ⊢
   omega
theorem As' {p:Nat} {b:List Bool} (h:b.length=p):bz p (num b)=b:=jl' (by rw[ko',h]) (r5' (by rw[<- h];exact f1'))
theorem iv' {m:Nat}:∀{ls:List (List Bool)},(∀b∈ls,b.length=m)->bks m ls.flatten ls.length=ls
 | [],_=>rfl
 |a :: ls,h=>by
  have ha:=h a ax
  have ih:=iv' fun b hb=>h b (au _ hb)
  unfold bks at ih ⊢
  rw[aQ,List.range_succ_eq_map,aE,bi,ba]
  congr 1
  .rw[Nat.zero_mul,List.drop_zero,<- ha,List.take_left]
  .conv=>rhs;rw[<- ih]
   refine bM fun i _=>?_
   show((a++ls.flatten).drop ((i+1)*m)).take m=(ls.flatten.drop (i*m)).take m
   rw[bX,cR,Nat.add_comm,<- ha,List.drop_append,List.drop_eq_nil_of_le ⋯,cP]
   congr 2
   omega
theorem cl' {m:Nat}:∀{ls:List (List Bool)},(∀b∈ls,b.length=m)->ls.flatten.length=ls.length*m
 | [],_=>by simp
 |a :: ls,h=>by
  rw[ba,aB,cl' fun b hb=>h b (au _ hb),h a ax,aQ,bX,cR,Nat.add_comm]
theorem r6' {m:Nat} {l:List Bool}:∀n,(bks m l n).flatten=l.take (n*m)
 |0=>by simp[bks]
 |n+1=>by
  rw[kn',List.flatten_append,r6' n,List.flatten_singleton,bX,cR,List.take_add]
structure Tab (M:List Rm) (r n p:Nat):Prop where
 hr:r<M.length
 p1:1<=p
 hp:p=(wy M (some r) n r).log2
 n20:n<=20
theorem Tab.ne {M:List Rm} {r n p:Nat} (t:Tab M r n p):wy M (some r) n r≠0:=fun z=>by
 have h1:=t.p1
 have h2:=t.hp
 rw[z]at h2
 simp at h2
 omega
theorem Tab.le {M:List Rm} {r n p:Nat} (t:Tab M r n p):2 ^ p<=wy M (some r) n r:=by rw[t.hp];exact Nat.log2_self_le t.ne
theorem Tab.lt {M:List Rm} {r n p:Nat} (t:Tab M r n p) {b:List Bool} (hb:b.length=p):num b<wy M (some r) n r:=ai (by rw[<- hb];exact f1') t.le
theorem Tab.pn {M:List Rm} {r n p:Nat} (t:Tab M r n p):p<=n:=by
 have h1:=t.le
 have h2:=@xR' M (some r) n r
 exact(Nat.pow_le_pow_iff_right (by decide:1<2)).mp (aN h1 h2)
theorem uf' {c p:Nat}:decide ((p:Int)<(Builtin.Int.intBits (c:Int):Nat))=decide (2 ^ p<=c):=by
 unfold Builtin.Int.intBits
 rw[Int.natAbs_natCast]
 by_cases hc:c=0
 .subst hc
  have:=Nat.two_pow_pos p
  simp
 .rw[if_neg (by simpa using hc)]
  apply decide_eq_decide.mpr
  rw[<- Nat.le_log2 hc]
  omega
def oi':Sp:=fun vs H Q _=>∃(c p:Nat),vs=[.int c,.int p]/\Q (.bl (decide (2 ^ p<=c))) H
theorem p8' {C:Rc} (hN:C.N.length=2):∀vs H Q E,oi' vs H Q E->tSs C aN' { nx:=fun _ H'=>Q .non H',rt:=Q } (L2.aA' C.N vs) H:=by
 intro vs H Q E h
 obtain⟨c,p,rfl,q⟩:=h
 rw[am' hN]
 unfold aN'
 symm
 refine⟨rfl,?_⟩
 symm
 rw[show decide ((p:Int)<((Builtin.Int.intBits (c:Int):Nat):Int))=decide (2 ^ p<=c) from uf']
 exact q
theorem xY' {M:List Rm} {r n p:Nat} (T:Tab M r n p):gp (wy M (some r) n r)=.int (p:Nat):=by
 unfold gp
 rw[if_neg T.ne,<- T.hp]
def lo':Sp:=fun vs H Q E=>∃(a:Addr) (M:List Rm) (r n p:Nat) (l:List Bool),vs=[.ref a,.int r,.int n,.str (tx l)]/\IsM H a M/\OkM M/\M.length<=500/\Tab M r n p/\l.length<=500/\(∀k H',l.length=k*p->aD' H H'->Q (.str (tx ((bks p l k).map (rd M r n)).flatten)) H')/\∀H',aD' H H'->l.length % p≠0->E (.str "BadBits" 0) none H'
theorem ug' {C:Rc} (hN:C.N.length=7) (hWs0:C.fs "ways"=some (cy' C.K)) (hG0:C.fs "greatest_power"=some lb') (hB0:C.fs "whole_blocks"=some dz') (hNB0:C.fs "number_by"=some dA') (hRL0:C.fs "row_left"=some (b6' C.K)):∀vs H Q E,lo' vs H Q E->tSs { C with xk:=fun _=>E } be' { nx:=fun _ H'=>Q .non H',rt:=Q } (L2.aA' C.N vs) H:=by
 intro vs H Q E h
 obtain⟨a,M,r,n,p,l,rfl,hM,hO,hM5,T,hl,q,qx⟩:=h
 rw[am' hN]
 unfold be'
 generalize hC:({ C with xk:=fun _=>E }:Rc)=C'
 have hWs:C'.fs "ways"=some (cy' C'.K):=by rw[<- hC];exact hWs0
 have hG:C'.fs "greatest_power"=some lb':=by rw[<- hC];exact hG0
 have hB:C'.fs "whole_blocks"=some dz':=by rw[<- hC];exact hB0
 have hNB:C'.fs "number_by"=some dA':=by rw[<- hC];exact hNB0
 have hRL:C'.fs "row_left"=some (b6' C'.K):=by rw[<- hC];exact hRL0
 have hE:∀σ,C'.xk σ=E:=fun σ=>by rw[<- hC]
 have hn:=T.n20
 have hp1:=T.p1
 have hpn:=T.pn
 symm
 refine ag' hWs ?_
 symm
 refine⟨a,M,some r,n,rfl,hM,hO,hM5,⋯,fun t vs' H1 ht s1 ht1 hA=>?_⟩
 have hTb:=n5' ht1 hA
 symm
 refine ag' hB ?_
 symm
 refine ag' hG ?_
 symm
 refine hTb.at (aj _) fun e he=>?_
 symm
 refine t7' he T.hr ?_
 symm
 refine⟨_,rfl,?_⟩
 rw[xY' T]
 symm
 refine⟨l,p,rfl,⋯,⋯,⋯,fun k f H2 hk hf s2 hf2=>?_,fun H2 s2 hq=>?_⟩
 .have hall:=ob' hk
  have hkp:k<=k*p:=cF k ⋯
  symm
  refine⟨rfl,?_⟩
  refine aJ' (SqL.of hf2) (dj' (vs:=(bks p l k).map tV) (fun i xs H'=>i<=k/\xs=(((bks p l k).take i).map (rd M r n)).map tV/\aD' H2 H') ⟨aP _,rfl,aD'.refl _⟩ (fun i xs H' pv=>SqL.of (pv.2.2 _ _ hf2)) ?_ ?_)
  .rintro i xs H3 x R hx ⟨_,rfl,s3⟩ hR
   have hi:i<k:=by have:=ap' hx;rwa [ac,c5']at this
   have hbl:=hall _ (aL (gF' hi))
   have htk:=p3' (p:=p) (l:=l) hi
   rw[aA,gF' hi]at hx
   cases hx
   generalize (l.drop (i*p)).take p=b at hbl htk ⊢
   simp only[tV]
   symm
   refine ag' hRL ?_
   symm
   refine ag' hNB ?_
   symm
   refine⟨b,rfl,?_⟩
   symm
   refine⟨a,t,M,some r,n,r,num b,rfl,hM.mono (ar' (s1.trans (s2.trans s3))),hO,hM5,hTb.mono (s2.trans s3),⋯,T.hr,T.lt hbl,fun row H4 s4 hrow=>?_⟩
   rw[jj' (T.lt hbl)]at hrow
   cases hrow
   symm
   refine⟨by rw[ac,ac,aJ,c5'];exact ak' ⋯,hR _ _ ⟨hi,?_,s3.trans s4⟩⟩
   rw[htk,aG,aG]
   rfl
  .rintro xs H3 ⟨_,rfl,s3⟩ pl hpl
   rw[ac,c5',bB (by rw[c5'];exact aj _)]
   symm
   have hfl:((bks p l k).map (rd M r n)).flatten.length<=16000000:=by
    rw[cl' (m:=n) fun b hb=>?_,ac,c5']
    .have:k*n<=500*20:=Nat.mul_le_mul ⋯ hn
     omega
    .obtain⟨c,hc,rfl⟩:=aR.mp hb
     exact iu' (T.lt (hall c hc))
   refine gw' (SqL.of ac') hfl ?_
   exact q k _ hk ((s1.trans (s2.trans s3)).trans (af' hpl _))
 .rw[hE]
  exact qx _ (s1.trans s2) hq
theorem uh' {M:List Rm} {g:Option Nat} {n r i j:Nat} {x:List Bool} (h1:(rws M g n r)[i]?=some x) (h2:(rws M g n r)[j]?=some x):i=j:=by
 obtain⟨hi,e1⟩:=aH.mp h1
 obtain⟨hj,e2⟩:=aH.mp h2
 have up:=bQ.mp (n7' (M:=M) (g:=g) (n:=n) (r:=r))
 rcases Nat.lt_trichotomy i j with h|h|h
 .have:=up i j hi hj h
  rw[e1,e2,io']at this
  cases this
 .exact h
 .have:=up j i hj hi h
  rw[e1,e2,io']at this
  cases this
def xZ' (K:W.Frag):Sp:=fun vs H Q _=>∃(a t:Addr) (M:List Rm) (r n p:Nat) (b:List Bool),vs=[.ref a,.ref t,.int r,.str (tx (rd M r n b))]/\IsM H a M/\OkM M/\M.length<=500/\Tab M r n p/\b.length=p/\Tbs H t M (some r) n/\∀H',aD' H H'->Q (.int (num b)) H'
theorem ui' {C:Rc} (hN:C.N.length=4) (hW:C.fs "walk"=some f0') (hL:C.fs "number_left"=some (cz' C.K)):∀vs H Q E,xZ' C.K vs H Q E->tSs C bp' { nx:=fun _ H'=>Q .non H',rt:=Q } (L2.aA' C.N vs) H:=by
 intro vs H Q E h
 obtain⟨a,t,M,r,n,p,b,rfl,hM,hO,hM5,T,hb,hTb,q⟩:=h
 rw[am' hN]
 unfold bp'
 have hn:=T.n20
 have hlen:=iu' (T.lt hb)
 have hwk:=xX' (T.lt hb)
 have hat:=jj' (T.lt hb)
 obtain⟨vs',ht,hA⟩:=id hTb
 have hvl:vs'.length=n+1:=by rw[hA.len,bx]
 generalize rd M r n b=row at hlen hwk hat ⊢
 symm
 refine⟨dx' ⋯,?_⟩
 refine dw' (SqL.of ht) ?_
 rw[hvl,hlen]
 symm
 rw[show decide ((n:Int)=((n+1:Nat):Int)-1)=true by simp]
 symm
 refine ag' hW ?_
 symm
 refine⟨a,M,r,row,rfl,hM,hO,T.hr,?_⟩
 rw[hwk]
 simp only[oV]
 symm
 refine ag' hL ?_
 symm
 refine⟨a,t,M,some r,r,r,row,rfl,hM,hO,hM5,by rw[hlen];exact hTb,⋯,T.hr,hwk,.inr rfl,fun k H1 s1 hk=>?_⟩
 rw[hlen]at hk
 rw[uh' hk hat]
 exact q _ s1
def Kp (A:Addr) (H H':Hp):Prop:=∀b u,b≠A->H b=some u->H' b=some u
theorem Kp.of {A:Addr} {H H':Hp} (s:aD' H H'):Kp A H H':=fun b u _ h=>s b u h
theorem Kp.same {A:Addr} {H H' H'':Hp} (k:Kp A H H') (s:aD' H' H''):Kp A H H'':=fun b u n h=>s b u (k b u n h)
theorem Kp.upd {A:Addr} {H H':Hp} {o:HO} (k:Kp A H H'):Kp A H (upd H' A o):=fun b u n h=>by rw[ae' n];exact k b u n h
theorem Kp.full {A:Addr} {H0 H H':Hp} (k:Kp A H H') (h:H0 A=none) (s:aD' H0 H):aD' H0 H':=fun b u e=>k b u (fun z=>by rw[z,h]at e;cases e) (s b u e)
def uI':Sp:=fun vs H Q _=>∃(a:Addr) (M:List Rm) (r n p:Nat) (bs:List (List Bool)),vs=[.ref a,.int r,.int n,.str (tx (bs.map (rd M r n)).flatten)]/\IsM H a M/\OkM M/\M.length<=500/\Tab M r n p/\1<=n/\(∀b∈bs,b.length=p)/\bs.length*n<=900/\∀H',aD' H H'->Q (.str (tx bs.flatten)) H'
theorem uj' {C:Rc} (hN:C.N.length=10) (hWs:C.fs "ways"=some (cy' C.K)) (hG:C.fs "greatest_power"=some lb') (hB:C.fs "blocks_of"=some aR') (hRN:C.fs "round_number"=some (xZ' C.K)) (hP:C.fs "is_power_at_least"=some oi') (hBB:C.fs "bits_by"=some dZ'):∀vs H Q E,uI' vs H Q E->tSs C bN' { nx:=fun _ H'=>Q .non H',rt:=Q } (L2.aA' C.N vs) H:=by
 intro vs H Q E h
 obtain⟨a,M,r,n,p,bs,rfl,hM,hO,hM5,T,hn1,hbs,hl,q⟩:=h
 rw[am' hN]
 unfold bN'
 have hn:=T.n20
 have hp1:=T.p1
 have hpn:=T.pn
 have hrs:∀x∈bs.map (rd M r n),x.length=n:=fun x hx=>by
  obtain⟨b,hb,rfl⟩:=aR.mp hx
  exact iu' (T.lt (hbs b hb))
 have htl:(bs.map (rd M r n)).flatten.length=bs.length*n:=by rw[cl' hrs,ac]
 have hbk:bks n (bs.map (rd M r n)).flatten bs.length=bs.map (rd M r n):=by
  have:=iv' hrs
  rwa [ac]at this
 have hbl:bs.length<=bs.length*n:=cF _ ⋯
 generalize (bs.map (rd M r n)).flatten=told at htl hbk ⊢
 symm
 refine ag' hWs ?_
 symm
 refine⟨a,M,some r,n,rfl,hM,hO,hM5,⋯,fun t vs' H1 ht s1 ht1 hA=>?_⟩
 have hTb:=n5' ht1 hA
 symm
 refine ag' hG ?_
 symm
 refine hTb.at (aj _) fun e he=>?_
 symm
 refine t7' he T.hr ?_
 symm
 refine⟨_,rfl,?_⟩
 rw[xY' T]
 symm
 refine⟨by decide,fun A hA1=>?_⟩
 obtain⟨s2,hA2⟩:=snw hA1 (.lst [])
 generalize upd H1 A _=H2 at s2 hA2 ⊢
 symm
 refine ag' hB ?_
 symm
 refine⟨told,n,bs.length,rfl,⋯,⋯,htl,⋯,fun f H3 hf s3 hf3=>?_⟩
 rw[hbk]at hf3
 have hfA:f≠A:=fun z=>by rw[z,hA2]at hf;cases hf
 have hA3:=s3 _ _ hA2
 have s13:aD' H1 H3:=s2.trans s3
 refine j9' (SqL.of hf3) (w6' (xs:=(bs.map (rd M r n)).map tV) (fun i σ H'=>(∃x7 x8 x9,σ=[some (.ref a),some (.int r),some (.int n),some (.str (tx told)),some (.ref t),some (.int p),some (.ref A),x7,x8,x9])/\i<=bs.length/\H' A=some (.lst ((bs.take i).map tV))/\Kp A H3 H') ⟨⟨_,_,_,rfl⟩,aP _,hA3,.of (aD'.refl _)⟩ (fun i σ H' _ pv=>SqL.of (pv.2.2.2 _ _ hfA hf3)) ?_ ?_)
 .rintro i x σ H4 pt hx hpt ⟨⟨x7,x8,x9,rfl⟩,_,hA4,k4⟩
  have hi:i<bs.length:=by have:=ap' hx;rwa [ac,ac]at this
  rw[aA,aA,af hi]at hx
  cases hx
  have hb:bs[i].length=p:=hbs _ (cH hi)
  have htk:bs.take (i+1)=bs.take i++[bs[i]]:=by rw[bh,af hi];rfl
  generalize bs[i]=b at hb htk ⊢
  simp only[tV]
  refine c3' (SqT.of ac') ?_
  have s5:=af' hpt (.tup [.int i,.str (tx (rd M r n b))])
  generalize upd H4 pt (.tup [.int i,.str (tx (rd M r n b))])=H5 at s5 ⊢
  have s15:aD' H1 H5:=(k4.full hA1 s13).trans s5
  symm
  refine ag' hRN ?_
  symm
  refine⟨a,t,M,r,n,p,b,rfl,hM.mono (ar' (s1.trans s15)),hO,hM5,T,hb,hTb.mono s15,fun H6 s6=>?_⟩
  symm
  refine ag' hP ?_
  symm
  refine⟨num b,p,rfl,?_⟩
  rw[decide_eq_false (show ¬2 ^ p<=num b from Nat.not_le.mpr (by rw[<- hb];exact f1'))]
  symm
  have hA6:=s6 _ _ (s5 _ _ hA4)
  refine⟨tyL hA6 rfl,?_⟩
  refine ag' hBB ?_
  symm
  refine⟨num b,p,rfl,⋯,fun H7 s7=>?_⟩
  rw[As' hb]
  symm
  refine fW' (s7 _ _ hA6) (by rw[ac,aJ];exact ak' ⋯) ?_
  symm
  refine⟨⟨_,_,_,rfl⟩,hi,?_,(((k4.same s5).same s6).same s7).upd⟩
  rw[ac',htk,aG]
  rfl
 .rintro σ H4 ⟨⟨x7,x8,x9,rfl⟩,_,hA4,k4⟩
  rw[ac,ac,aV]at hA4
  symm
  refine⟨rfl,?_⟩
  have hfl:bs.flatten.length<=16000000:=by
   rw[cl' hbs]
   have:bs.length*p<=bs.length*n:=bN _ hpn
   omega
  refine gw' (SqL.of hA4) hfl ?_
  exact q _ (s1.trans (k4.full hA1 s13))
def nxb (M:List Rm) (w:List Bool×Nat) (b:Bool):List (List Bool×Nat):=match LW.stp M w.2 b with
 |some m=>[(w.1++[b],m)]
 |none=>[]
def ks' (M:List Rm) (w:List Bool×Nat):List (List Bool×Nat):=nxb M w false++nxb M w true
def wlk (M:List Rm) (r:Nat):Nat->List (List Bool×Nat)
 |0=>[([],r)]
 |n+1=>(wlk M r n).flatMap (ks' M)
def exw (M:List Rm) (g:Option Nat) (k:Nat) (w:List Bool×Nat):List (List Bool):=(rws M g k w.2).map (w.1++·)
theorem r7' {f:Nat->List (List Bool)} {b:Bool} {o:Option Nat} {x:List Bool}:(ob f b o).map (x++·)=match o with|some m=>(f m).map ((x++[b])++·)|none=>[]:=by
 cases o with
 |none=>rfl
 |some m=>
  show((f m).map (b :: ·)).map (x++·)=_
  rw[bi]
  refine bM fun y _=>?_
  show x++b :: y=(x++[b])++y
  rw[bp]
  rfl
theorem p9' {M:List Rm} {g:Option Nat} {k:Nat} {w:List Bool×Nat}:exw M g (k+1) w=(ks' M w).flatMap (exw M g k):=by
 unfold exw ks'
 rw[List.flatMap_append]
 show(ob (rws M g k) false (LW.stp M w.2 false)++ob (rws M g k) true (LW.stp M w.2 true)).map (w.1++·)=_
 rw[aG,r7',r7']
 congr 1<;>(unfold nxb;split<;>simp[exw])
theorem oj' {M:List Rm} {g:Option Nat} {r k:Nat}:∀n,rws M g (n+k) r=(wlk M r n).flatMap (exw M g k)
 |0=>by simp[wlk,exw]
 |n+1=>by
  rw[show n+1+k=n+(k+1) by omega,oj' (k:=k+1) n]
  show _=((wlk M r n).flatMap (ks' M)).flatMap (exw M g k)
  rw[List.flatMap_assoc]
  congr 1
  funext w
  exact p9'
theorem uk' {M:List Rm} {r n:Nat}:rws M (some r) n r=((wlk M r n).filter fun w=>decide (w.2=r)).map (·.1):=by
 have:=oj' (M:=M) (g:=some r) (r:=r) (k:=0) n
 rw[Nat.add_zero]at this
 rw[this]
 induction wlk M r n with
 |nil=>rfl
 |cons w ws ih=>
  rw[cZ,List.filter_cons,ih]
  unfold exw rws
  by_cases h:w.2=r
  .rw[if_pos (.inr (by rw[h])),if_pos (by simpa using h)]
   simp
  .rw[if_neg (fun z=>by rcases z with z|z;cases z;exact h (Option.some.inj z).symm),if_neg (by simpa using h)]
   rfl
set_option tactic.hygienic true in
theorem ok' {M:List Rm} (hO:OkM M) {r:Nat} (hr:r<M.length):∀n,(wlk M r n).length<=2 ^ n/\∀w∈wlk M r n,w.1.length=n/\w.2<M.length
 |0=>⟨aj _,fun w hw=>by
  have:w=([],r):=by simpa[wlk]using hw
  subst this
  exact⟨rfl,hr⟩⟩
 |n+1=>by
  obtain⟨h1,h2⟩:=ok' hO hr n
  have hb:∀w b,(nxb M w b).length<=1:=fun w b=>by unfold nxb;split<;>simp
  refine⟨?_,fun w hw=>?_⟩
  .show((wlk M r n).flatMap (ks' M)).length<=2 ^ (n+1)
   have:∀l:List (List Bool×Nat),(l.flatMap (ks' M)).length<=2*l.length:=fun l=>by
    induction l with
    |nil=>simp
    |cons a l ih=>
     rw[cZ,aB,aQ]
     have h3:(ks' M a).length<=2:=by unfold ks';rw[aB];have:=hb a false;have:=hb a true;omega
     omega
   have:=this (wlk M r n)
   rw[bJ]
   omega
  .obtain⟨v,hv,hw⟩:=List.mem_flatMap.mp hw
   obtain⟨k1,k2⟩:=h2 v hv
   have key:∀b,w∈nxb M v b->w.1.length=n+1/\w.2<M.length:=fun b hx=>by
    unfold nxb at hx
    split at hx
    .rename_i m hm
     have:w=(v.1++[b],m):=by simpa using hx
     subst this
     exact⟨by simp[k1],fq' hO hm⟩
    .cases hx
   rcases aD.mp hw with hx|hx
   .exact key _ hx
   .exact key _ hx
def IsV (H:Hp) (v:V) (w:List Bool×Nat):Prop:=∃q,v=.ref q/\H q=some (.tup [.str (tx w.1),.int w.2])
theorem IsV.mono {H H':Hp} (s:aD' H H') {v:V} {w:List Bool×Nat} (h:IsV H v w):IsV H' v w:=let⟨q,e,hq⟩:=h;⟨q,e,s _ _ hq⟩
def d5':Sp:=fun vs H Q _=>∃(a:Addr) (M:List Rm) (r n:Nat),vs=[.ref a,.int r,.int n]/\IsM H a M/\OkM M/\M.length<=500/\r<M.length/\n<=8/\∀(l:Addr) (H':Hp),aD' H H'->H' l=some (.lst ((rws M (some r) n r).map rV))->Q (.ref l) H'
theorem jm' {C:Rc} (hN:C.N.length=9):∀vs H Q E,d5' vs H Q E->tSs C eS' { nx:=fun _ H'=>Q .non H',rt:=Q } (L2.aA' C.N vs) H:=by
 intro vs H Q E h
 obtain⟨a,M,r,n,rfl,hM,hO,hM5,hr,hn,q⟩:=h
 rw[am' hN]
 unfold eS'
 symm
 refine⟨by decide,fun p1 hp1=>?_⟩
 obtain⟨s1,h1⟩:=snw hp1 (.tup [.str (tx []),.int r])
 generalize upd H p1 _=H1 at s1 h1 ⊢
 symm
 refine⟨by decide,fun p2 hp2=>?_⟩
 obtain⟨s2,h2⟩:=snw hp2 (.lst [V.ref p1])
 generalize upd H1 p2 _=H2 at s2 h2 ⊢
 symm
 refine gt' ⋯ ⋯ (k4' (n:=((n:Int)).toNat) (fun i σ H'=>(∃L ws x4 x5 x6 x7 x8,σ=[some (.ref a),some (.int r),some (.int n),some (.ref L),x4,x5,x6,x7,x8]/\H' L=some (.lst ws)/\cq' (IsV H') ws (wlk M r i))/\aD' H H') ⟨⟨p2,[V.ref p1],_,_,_,_,_,rfl,h2,⟨⟨p1,rfl,s2 _ _ h1⟩,trivial⟩⟩,s1.trans s2⟩ ?_ ?_)
 .rintro i σ H3 hi ⟨⟨L,ws,x4,x5,x6,x7,x8,rfl,hL,hA⟩,s3⟩
  have hi:i<n:=by omega
  obtain⟨k1,k2⟩:=ok' hO hr i
  have hp8:2 ^ i<=2 ^ 7:=Nat.pow_le_pow_right (by decide) ⋯
  have hwl:=hA.len
  symm
  refine⟨by decide,fun A hA0=>?_⟩
  obtain⟨s4,h4⟩:=snw hA0 (.lst [])
  generalize upd H3 A _=H4 at s4 h4 ⊢
  have hLA:L≠A:=ah' hL hA0
  symm
  refine aJ' (SqL.of (s4 _ _ hL)) (w5' (xs:=ws) (fun j σ H'=>(∃us x6 x7 x8,σ=[some (.ref a),some (.int r),some (.int n),some (.ref L),some (.int (0+(i:Int))),some (.ref A),x6,x7,x8]/\H' A=some (.lst us)/\cq' (IsV H') us (((wlk M r i).take j).flatMap (ks' M)))/\aD' H3 H') ⟨⟨[],_,_,_,rfl,h4,trivial⟩,s4⟩ (fun j σ H' _ pv=>SqL.of (pv.2 _ _ hL)) ?_ ?_)
  .rintro j x σ H5 hx ⟨⟨us,x6,x7,x8,rfl,hA5,hU⟩,s5⟩
   have hj:j<(wlk M r i).length:=by rw[<- hwl];exact ap' hx
   obtain⟨w,hw,qx,rfl,hqx⟩:=hA.getL hx
   have htk:(wlk M r i).take (j+1)=(wlk M r i).take j++[w]:=by rw[bh,hw];rfl
   obtain⟨kw1,kw2⟩:=k2 w (aL hw)
   refine c3' (SqT.of (s5 _ _ hqx)) ?_
   have hul:us.length<=256:=by
    have e:=hU.len
    have:(((wlk M r i).take j).flatMap (ks' M)).length<=2*((wlk M r i).take j).length:=by
     generalize (wlk M r i).take j=l
     induction l with
     |nil=>simp
     |cons c l ih=>
      rw[cZ,aB,aQ]
      have h3:(ks' M c).length<=2:=by
       unfold ks'
       rw[aB]
       have hb:∀b,(nxb M c b).length<=1:=fun b=>by unfold nxb;split<;>simp
       have:=hb false
       have:=hb true
       omega
      omega
    rw[aJ]at this
    omega
   symm
   refine⟨tyL hA5 rfl,?_⟩
   refine⟨by decide,fun pt hpt=>?_⟩
   obtain⟨s6,h6⟩:=snw hpt (.tup [V.int 0,V.int 1])
   generalize upd H5 pt _=H6 at s6 h6 ⊢
   refine dV' (SqT.of h6) (xe' (vs:=[V.int 0,V.int 1]) (fun k xs H'=>cq' (IsV H') xs (([false,true].take k).flatMap (nxb M w))/\aD' H6 H') ⟨trivial,aD'.refl _⟩ (fun k xs H' pv=>SqT.of (pv.2 _ _ h6)) ?_ ?_)
   .rintro k xs H7 y R hy ⟨hX,s7⟩ hR
    have hM7:=hM.mono (ar' (s3.trans (s5.trans (s6.trans s7))))
    obtain⟨b,hyb,htb⟩:∃b,y=V.int (if b then 1 else 0)/\[false,true].take (k+1)=[false,true].take k++[b]:=by
     match k,hy with
     |0,hy=>cases hy;exact⟨false,rfl,rfl⟩
     |1,hy=>cases hy;exact⟨true,rfl,rfl⟩
     |k+2,hy=>cases hy
    subst hyb
    have hk:k<2:=ap' hy
    have hxl:xs.length<=2:=by
     rw[hX.len]
     match k,hk with
     |0,_=>exact aP _
     |1,_=>
      show((nxb M w false)++[]).length<=2
      rw[bR]
      unfold nxb
      split<;>simp
    rw[htb,List.flatMap_append,cZ,List.flatMap_nil,bR]at hR
    symm
    refine cE' (c:=b) hM7 kw2 fun p' hp'=>?_
    symm
    refine hp' _ ?_
    cases hs:LW.stp M w.2 b with
    |none=>
     simp only[oV]
     symm
     refine hR _ _ ⟨?_,s7⟩
     unfold nxb
     rw[hs,bR]
     exact hX
    |some m=>
     simp only[oV]
     symm
     refine nB' (l:=[false,true]) (c:=b) (by decide) (by cases b<;>rfl) ?_
     symm
     refine⟨dx' (by simp;omega),?_⟩
     refine cE' (c:=b) hM7 kw2 fun p2 hp2=>?_
     symm
     refine hp2 _ ?_
     rw[hs]
     simp only[oV]
     symm
     refine⟨by decide,fun pe hpe=>?_⟩
     obtain⟨s8,h8⟩:=snw hpe (.tup [.str (tx (w.1++[b])),.int m])
     generalize upd H7 pe _=H8 at s8 h8 ⊢
     refine⟨ak' ⋯,hR _ _ ⟨?_,s7.trans s8⟩⟩
     unfold nxb
     rw[hs]
     exact(hX.mono fun v w' h=>h.mono s8).snoc ⟨pe,rfl,h8⟩
   .rintro xs H7 ⟨hX,s7⟩ pc hpc
    obtain⟨s8,h8⟩:=snw hpc (.lst xs)
    generalize upd H7 pc _=H8 at s8 h8 ⊢
    have hX':cq' (IsV H8) xs (ks' M w):=(show cq' (IsV H7) xs (nxb M w false++(nxb M w true++[])) from hX) |> fun z=>by rw[bR]at z;exact z.mono fun v w h=>h.mono s8
    have s58:aD' H5 H8:=s6.trans (s7.trans s8)
    have hxl:xs.length<=2:=by
     rw[hX'.len]
     unfold ks'
     rw[aB]
     have hb:∀b,(nxb M w b).length<=1:=fun b=>by unfold nxb;split<;>simp
     have:=hb false
     have:=hb true
     omega
    symm
    refine t8' (s58 _ _ hA5) h8 (bE (ak' ⋯)) ?_
    symm
    have s39:aD' H3 (upd H8 A (.lst (us++xs))):=c4' (s5.trans s58) hA0
    have tpq:∀v w',IsV H8 v w'->IsV (upd H8 A (.lst (us++xs))) v w':=fun v w' ⟨q',e',h'⟩=>⟨q',e',by rw[ae' (fun z=>by rw[z,s58 _ _ hA5]at h';cases h')];exact h'⟩
    refine⟨⟨us++xs,_,_,_,rfl,ac',?_⟩,s39⟩
    rw[htk,List.flatMap_append,cZ,List.flatMap_nil,bR]
    exact(hU.mono fun v w' h=>tpq v w' (h.mono s58)).app (hX'.mono fun v w' h=>tpq v w' h)
  .rintro σ H5 ⟨⟨us,x6,x7,x8,rfl,hA5,hU⟩,s5⟩
   rw[hwl,aV]at hU
   symm
   exact⟨⟨A,us,_,_,_,_,_,rfl,hA5,hU⟩,s3.trans s5⟩
 .rintro σ H3 ⟨⟨L,ws,x4,x5,x6,x7,x8,rfl,hL,hA⟩,s3⟩
  rw[show((n:Int)).toNat=n by omega]at hA
  obtain⟨k1,k2⟩:=ok' hO hr n
  have hp8:2 ^ n<=2 ^ 8:=Nat.pow_le_pow_right (by decide) hn
  have hwl:=hA.len
  symm
  refine aJ' (SqL.of hL) (dj' (vs:=ws) (fun j xs H'=>j<=ws.length/\xs=((((wlk M r n).take j).filter fun w=>decide (w.2=r)).map (·.1)).map rV/\H'=H3) ⟨aP _,rfl,rfl⟩ (fun j xs H' pv=>by rw[pv.2.2];exact SqL.of hL) ?_ ?_)
  .rintro j xs H4 x R hx ⟨_,rfl,rfl⟩ hR
   have hj:j<(wlk M r n).length:=by rw[<- hwl];exact ap' hx
   obtain⟨w,hw,qx,rfl,hqx⟩:=hA.getL hx
   have htk:(wlk M r n).take (j+1)=(wlk M r n).take j++[w]:=by rw[bh,hw];rfl
   rw[htk,List.filter_append,aG,aG]at hR
   refine c3' (SqT.of hqx) ?_
   symm
   refine bv' (fun hq=>?_) fun hq=>?_
   .have hq':w.2=r:=by omega
    symm
    refine⟨by rw[ac,ac];exact ak' (aN (List.length_filter_le _ _) (by rw[aJ];omega)),hR _ _ ⟨ap' hx,?_,rfl⟩⟩
    simp[hq',rV]
   .have hq':¬w.2=r:=by omega
    symm
    refine hR _ _ ⟨ap' hx,?_,rfl⟩
    simp[hq']
  .rintro xs H4 ⟨_,rfl,rfl⟩ pc hpc
   rw[hwl,aV,<- uk']
   symm
   exact q pc _ (s3.trans (af' hpc _)) ac'
theorem jn' {C:Rc} (hN:C.N.length=3):∀vs H Q E,aR' vs H Q E->tSs C gK' { nx:=fun _ H'=>Q .non H',rt:=Q } (L2.aA' C.N vs) H:=fun vs H Q E h=>fw' hN vs H Q E h
def CL5:List Str:=["NoNumber","NoRow","NoWindow","BadBits","BadBlock"]
def jh':Sp:=fun vs H Q _=>∃(a:Addr) (M:List Rm) (r n p:Nat) (l:List Bool),vs=[.ref a,.int r,.int n,.str (tx l)]/\IsM H a M/\OkM M/\M.length<=500/\Tab M r n p/\l.length<=500/\l.length % p≠0/\∀H',aD' H H'->Q (.bl true) H'
theorem qa' {C:Rc} {Cr:Addr} (hN:C.N.length=7) (hW0:C.fs "table_written"=some lo') (G:ClsG C "BadBits" Cr CL5):∀vs H Q E,jh' vs H Q E->tSs C d3' { nx:=fun _ H'=>Q .non H',rt:=Q } (L2.aA' C.N vs) H:=by
 intro vs H Q E h
 obtain⟨a,M,r,n,p,l,rfl,hM,hO,hM5,T,hl,hq,q⟩:=h
 rw[am' hN]
 unfold d3'
 symm
 rw[Ad']
 generalize hC:({ C with xk:=kf' C "RunError" 5 _ _ }:Rc)=C'
 have hW':C'.fs "table_written"=some lo':=by rw[<- hC];exact hW0
 have no:∀{k:Nat},l.length=k*p->l.length % p=0:=fun h=>by rw[h];exact Nat.mul_mod_left ..
 have fin:∀H1,aD' H H1->C'.xk [some (.ref a),some (.int r),some (.int n),some (.str (tx l)),some .non,none,none] (.str "BadBits" 0) none H1:=by
  intro H1 s1
  rw[<- hC]
  refine G.caught fun e he=>?_
  obtain⟨s2,he2⟩:=snw he (gO' e Cr)
  generalize upd H1 e _=H2 at s2 he2 ⊢
  (try walk_at "sx")
  refine G.isx (c:="BadBits") ⋯ he2 rfl ?_
  rw[show decide (("BadBits":Str)="BadBits")=true by decide +kernel]
  (try walk_at "sx")
  refine G.isv he2 rfl ?_
  (try walk_at "sx")
  refine G.isx4 ⋯ he2 rfl fun H3 s3=>?_
  (try walk_at "sx")
  exact q _ (s1.trans (s2.trans s3))
 symm
 refine ag' hW' ?_
 symm
 exact⟨a,M,r,n,p,l,rfl,hM,hO,hM5,T,hl,fun k H1 hk s1=>absurd (no hk) hq,fun H1 s1 _=>fin H1 s1⟩
theorem rdn:∀{l:List Bool},1<=l.length->l.length<=8->(int_private% "readNumeral") 0 2 (l.map cb)=(int_private% "Numeral.value") (num l)
 | [],h,_=>by simp at h
 | [a],_,_=>by cases a<;>kernel_rfl
 | [a,b],_,_=>by cases a<;>cases b<;>kernel_rfl
 | [a,b,c],_,_=>by cases a<;>cases b<;>cases c<;>kernel_rfl
 | [a,b,c,d],_,_=>by cases a<;>cases b<;>cases c<;>cases d<;>kernel_rfl
 | [a,b,c,d,e],_,_=>by cases a<;>cases b<;>cases c<;>cases d<;>cases e<;>kernel_rfl
 | [a,b,c,d,e,f],_,_=>by cases a<;>cases b<;>cases c<;>cases d<;>cases e<;>cases f<;>kernel_rfl
 | [a,b,c,d,e,f,g],_,_=>by cases a<;>cases b<;>cases c<;>cases d<;>cases e<;>cases f<;>cases g<;>kernel_rfl
 | [a,b,c,d,e,f,g,h],_,_=>by cases a<;>cases b<;>cases c<;>cases d<;>cases e<;>cases f<;>cases g<;>cases h<;>kernel_rfl
 |_ :: _ :: _ :: _ :: _ :: _ :: _ :: _ :: _ :: _,_,h=>by simp at h
theorem qb':∀(l:List Bool),(l.map cb).takeWhile (· != 0)=l.map cb
 | []=>rfl
 |b :: l=>by
  rw[aE,List.takeWhile_cons,qb' l]
  cases b<;>rfl
theorem ul' {l:List Bool} (h1:1<=l.length) (h8:l.length<=8):L2.B2 (tx l) (num l):=by
 refine⟨?_,?_,?_,?_⟩
 .show(l.map cb).toArray.all _=true
  rw[List.all_toArray,List.all_map,bI]
  intro b _
  cases b<;>rfl
 .rw[fU',qb',ac];omega
 .rw[fU',qb'];exact rdn h1 h8
 .rw[fU',qb'];exact beq_self_eq_true _
theorem um' {K:W.Frag} {H:Hp} {Q:VK} {l:List Bool} (h1:1<=l.length) (h8:l.length<=8) (q:Q (.int (num l)) H):di' K .int [.str (tx l),.int 2] H Q:=⟨rfl,_,ul' h1 h8,q⟩
theorem kt' {a b:List Str}:LEq (a.map V.str) (b.map V.str):=by
 intro i x y h1 h2
 rw[aA]at h1 h2
 cases ha:a[i]? with
 |none=>rw[ha]at h1;cases h1
 |some u=>
  cases hb:b[i]? with
  |none=>rw[hb]at h2;cases h2
  |some v=>
   rw[ha]at h1
   rw[hb]at h2
   cases h1
   cases h2
   exact .inl ⟨rfl,fun z e=>nomatch e⟩
theorem iw':∀{l m:List PySem.Str},l.Perm m->sU' l->sU' m->l=m
 | [],m,h,_,_=>(List.Perm.nil_eq h)
 |a :: l,[],h,_,_=>absurd h.length_eq (by simp)
 |a :: l,b :: m,h,h1,h2=>by
  obtain⟨p1,p2⟩:=cJ.mp h1
  obtain⟨q1,q2⟩:=cJ.mp h2
  have e:a=b:=by
   have ha:a∈b :: m:=h.mem_iff.mp (ax ..)
   have hb:b∈a :: l:=h.mem_iff.mpr (ax ..)
   rcases al.mp ha with e|ha
   .exact e
   rcases al.mp hb with e|hb
   .exact e.symm
   exact mv' (List.le_antisymm (List.not_lt.mp (p1 b hb)) (List.not_lt.mp (q1 a ha)))
  subst e
  rw[iw' (List.Perm.cons_inv h) p2 q2]
theorem j7' {x y:List Bool} (h:tx x=tx y):x=y:=by
 have h1:x.map cb=y.map cb:=by
  have:=congrArg (fun s:Str=>s.cps.toList) h
  exact this
 refine(List.map_inj_right fun a b e=>?_).mp h1
 cases a<;>cases b<;>first|rfl|cases e
theorem ku':∀{x y:List Bool},x.length=y.length->gtB y x=true\/gtB x y=true\/x=y
 | [],[],_=>.inr (.inr rfl)
 | [],_ :: _,h=>by simp at h
 |_ :: _,[],h=>by simp at h
 |a :: x,b :: y,h=>by
  have h':x.length=y.length:=by simpa using h
  rcases ku' h' with g|g|g
  .cases a<;>cases b<;>simp[gtB,g]
  .cases a<;>cases b<;>simp[gtB,g]
  .subst g
   cases a<;>cases b<;>simp[gtB]
set_option tactic.hygienic true in
theorem un' {M:List Rm} {r n p:Nat} (T:Tab M r n p) {bs:List (List Bool)} (hbs:∀b∈bs,b.length=p) {as:List (Addr×Str×Str)} (hp:(as.map fun q=>q.2).Perm (bs.map fun b=>(tx b,tx (rd M r n b)))) (hs:as.Pairwise fun x y=>br' [.inr y.2.1,.inr y.2.2] [.inr x.2.1,.inr x.2.2]=false):sU' (as.map fun q=>q.2.2):=by
 unfold sU'
 rw[cX]
 refine hs.imp_of_mem fun {x y} hx hy h=>?_
 have get:∀z∈as,∃b∈bs,z.2=(tx b,tx (rd M r n b)):=fun z hz=>by
  have:=hp.mem_iff.mp (aR.mpr ⟨z,hz,rfl⟩)
  obtain⟨b,hb,e⟩:=aR.mp this
  exact⟨b,hb,e.symm⟩
 obtain⟨b,hb,ex⟩:=get x hx
 obtain⟨c,hc,ey⟩:=get y hy
 rw[ex,ey]at h ⊢
 intro hlt
 have hlt':gtB (rd M r n b) (rd M r n c)=true:=by
  rw[<- xT']
  exact decide_eq_true hlt
 unfold br' at h
 split at h
 .rename_i e
  have e1:tx c=tx b:=Sum.inr.inj e
  have:=j7' e1
  subst this
  rw[io']at hlt'
  cases hlt'
 .have h1:gtB b c=false:=by
   rw[<- xT']
   exact h
  have hne:c≠b:=fun e=>by
   subst e
   rw[io']at hlt'
   cases hlt'
  have hlen:b.length=c.length:=by rw[hbs b hb,hbs c hc]
  have hnn:num b≠num c:=fun e=>hne (jl' hlen e).symm
  have hlt2:num b<num c:=by
   rcases cA (num b) (num c)with z|z
   .exact z
   .exfalso
    have g:gtB c b=true\/gtB b c=true\/b=c:=ku' hlen
    rcases g with g|g|g
    .have:=r4' hlen g
     omega
    .rw[h1]at g;cases g
    .exact hne g.symm
  have up:=bQ.mp (n7' (M:=M) (g:=some r) (n:=n) (r:=r))
  obtain⟨i1,e1⟩:=aH.mp (jj' (T.lt (hbs b hb)))
  obtain⟨i2,e2⟩:=aH.mp (jj' (T.lt (hbs c hc)))
  have:=up _ _ i1 i2 hlt2
  rw[e1,e2]at this
  rw[n6' this]at hlt'
  cases hlt'
def uJ':Sp:=fun vs H Q _=>∃(a:Addr) (M:List Rm) (r n p:Nat) (bs:List (List Bool)),vs=[.ref a,.int r,.int n,.int p,.str (tx bs.flatten),.str (tx (bs.map (rd M r n)).flatten)]/\IsM H a M/\OkM M/\M.length<=500/\Tab M r n p/\1<=n/\(∀b∈bs,b.length=p)/\bs.length*n<=500/\∀H',aD' H H'->Q (.bl true) H'
theorem uo' {C:Rc} (hN:C.N.length=14) (hP:C.fs "_law_parted"=some aR') (hR:C.fs "_law_rounds"=some d5'):∀vs H Q E,uJ' vs H Q E->tSs C bR' { nx:=fun _ H'=>Q .non H',rt:=Q } (L2.aA' C.N vs) H:=by
 intro vs H Q E h
 obtain⟨a,M,r,n,p,bs,rfl,hM,hO,hM5,T,hn1,hbs,hl,q⟩:=h
 rw[am' hN]
 unfold bR'
 have hn:=T.n20
 have hp1:=T.p1
 have hpn:=T.pn
 have hrs:∀x∈bs.map (rd M r n),x.length=n:=fun x hx=>by
  obtain⟨b,hb,rfl⟩:=aR.mp hx
  exact iu' (T.lt (hbs b hb))
 have htl:(bs.map (rd M r n)).flatten.length=bs.length*n:=by rw[cl' hrs,ac]
 have hbk:bks n (bs.map (rd M r n)).flatten bs.length=bs.map (rd M r n):=by
  have:=iv' hrs
  rwa [ac]at this
 have hbk2:bks p bs.flatten bs.length=bs:=iv' hbs
 have hbl:bs.length<=bs.length*n:=cF _ ⋯
 have hpl:bs.length*p<=bs.length*n:=bN _ hpn
 have hfl:=cl' hbs
 generalize (bs.map (rd M r n)).flatten=told at htl hbk ⊢
 symm
 refine ag' hP ?_
 symm
 refine⟨bs.flatten,p,bs.length,rfl,⋯,⋯,hfl,⋯,fun f H1 hf s1 hf1=>?_⟩
 rw[hbk2]at hf1
 symm
 refine ag' hP ?_
 symm
 refine⟨told,n,bs.length,rfl,⋯,⋯,htl,⋯,fun g H2 hg s2 hg2=>?_⟩
 rw[hbk]at hg2
 have hf2:=s2 _ _ hf1
 have s02:=s1.trans s2
 symm
 refine dw' (SqL.of hf2) ?_
 symm
 refine dw' (SqL.of hg2) ?_
 rw[ac,ac,ac]
 symm
 refine bv' (fun hq=>?_) fun hq=>?_
 .symm
  refine ag' hR ?_
  symm
  refine⟨a,M,r,n,rfl,hM.mono (ar' s02),hO,hM5,T.hr,⋯,fun l H3 s3 hl3=>?_⟩
  symm
  refine aJ' (SqL.of (s3 _ _ hf2)) (dj' (vs:=bs.map tV) (fun i xs H'=>i<=bs.length/\xs=((bs.take i).map (rd M r n)).map rV/\H'=H3) ⟨aP _,rfl,rfl⟩ (fun i xs H' pv=>by rw[pv.2.2];exact SqL.of (s3 _ _ hf2)) ?_ ?_)
  .rintro i xs H4 x R hx ⟨_,rfl,rfl⟩ hRR
   have hi:i<bs.length:=by have:=ap' hx;rwa [ac]at this
   rw[aA,af hi]at hx
   cases hx
   have hb:bs[i].length=p:=hbs _ (cH hi)
   have htk:bs.take (i+1)=bs.take i++[bs[i]]:=by rw[bh,af hi];rfl
   generalize bs[i]=b at hb htk ⊢
   simp only[tV]
   symm
   refine um' ⋯ ⋯ ?_
   symm
   refine a6' (SqL.of hl3) (v:=rV (rd M r n b)) (cU' (by rw[aA,jj' (T.lt hb)];rfl)) ?_
   refine⟨by rw[ac,ac,aJ];exact ak' ⋯,hRR _ _ ⟨hi,?_,rfl⟩⟩
   rw[htk,aG,aG]
   rfl
  .rintro xs H4 ⟨_,rfl,rfl⟩ pc hpc
   obtain⟨s5,h5⟩:=snw hpc (.lst (((bs.take (bs.map tV).length).map (rd M r n)).map rV))
   generalize upd H4 pc _=H5 at s5 h5 ⊢
   rw[ac,aV]at h5
   symm
   have e1:(bs.map (rd M r n)).map tV=((bs.map (rd M r n)).map tx).map V.str:=(bi (l:=bs.map (rd M r n)) (f:=tx) (g:=V.str)).symm
   have e2:(bs.map (rd M r n)).map rV=((bs.map (rd M r n)).map tx).map V.str:=(bi (l:=bs.map (rd M r n)) (f:=tx) (g:=V.str)).symm
   rw[e1]at hg2
   rw[e2]at h5
   refine rG' (SqL.of (s5 _ _ (s3 _ _ hg2))) (SqL.of h5) (fun _=>kt') ?_
   rw[decide_eq_true rfl]
   symm
   exact q _ (s02.trans (s3.trans s5))
 .symm
  have hM2:=hM.mono (ar' s02)
  refine ts' (SqL.of hf2) (SqL.of hg2) (GR.Ar' (n:=bs.length) (by rw[ac,ac,ac];omega) (fun i σ H'=>(∃x9 x10 x11 x12,σ=[some (.ref a),some (.int r),some (.int n),some (.int p),some (.str (tx bs.flatten)),some (.str (tx told)),some (.ref f),some (.ref g),none,x9,x10,x11,x12,none])/\aD' H2 H') ⟨⟨_,_,_,_,rfl⟩,aD'.refl _⟩ (fun i σ H' _ pv=>⟨SqL.of (pv.2 _ _ hf2),SqL.of (pv.2 _ _ hg2)⟩) ?_ ?_)
  .rintro i x y σ H3 pt hx hy hpt ⟨⟨x9,x10,x11,x12,rfl⟩,s3⟩
   have hi:i<bs.length:=by have:=ap' hx;rwa [ac]at this
   rw[aA,af hi]at hx
   rw[aA,aA,af hi]at hy
   cases hx
   cases hy
   have hb:bs[i].length=p:=hbs _ (cH hi)
   generalize bs[i]=b at hb ⊢
   have hwk:=xX' (T.lt hb)
   have hlen:=iu' (T.lt hb)
   simp only[tV]
   refine c3' (SqT.of ac') ?_
   have s4:=s3.trans (af' hpt (.tup [.str (tx b),.str (tx (rd M r n b))]))
   generalize upd H3 pt (.tup [.str (tx b),.str (tx (rd M r n b))])=H4 at s4 ⊢
   generalize rd M r n b=row at hwk hlen ⊢
   have hM4:=hM2.mono (ar' s4)
   symm
   refine fl' (nw' (l:=row) (fun j σ H'=>(∃m x12,σ=[some (.ref a),some (.int r),some (.int n),some (.int p),some (.str (tx bs.flatten)),some (.str (tx told)),some (.ref f),some (.ref g),none,some (.str (tx b)),some (.str (tx row)),some (.int (m:Nat)),x12,none]/\wk M (some r) (row.take j)=some m)/\H'=H4) ⟨⟨r,_,rfl,rfl⟩,rfl⟩ ?_ ?_)
   .rintro j c σ H5 hc ⟨⟨m,x12,rfl,hm⟩,rfl⟩
    obtain⟨m',hm'⟩:=r2' (i:=j+1) hwk
    rw[fp' hc,hm]at hm'
    have hm':LW.stp M m c=some m':=hm'
    have hml:m<M.length:=pS' hO (fun k hk=>by cases hk;exact T.hr) hm
    symm
    refine cE' (c:=c) hM4 hml fun p' hp'=>?_
    symm
    refine hp' _ ?_
    rw[hm']
    simp only[oV]
    symm
    refine⟨⟨m',_,rfl,?_⟩,trivial⟩
    rw[fp' hc,hm]
    exact hm'
   .rintro σ H5 ⟨⟨m,x12,rfl,hm⟩,rfl⟩
    rw[aV,hwk]at hm
    cases hm
    symm
    refine⟨dx' ⋯,?_⟩
    rw[hlen]
    symm
    exact⟨⟨_,_,_,_,rfl⟩,s4⟩
  .rintro σ H3 ⟨⟨x9,x10,x11,x12,rfl⟩,s3⟩
   symm
   have e1:bs.map tV=(bs.map fun b=>(tx b,tx (rd M r n b))).map fun q=>V.str q.1:=by rw[bi];rfl
   have e2:(bs.map (rd M r n)).map tV=(bs.map fun b=>(tx b,tx (rd M r n b))).map fun q=>V.str q.2:=by rw[bi,bi];rfl
   have hf3:=s3 _ _ hf2
   have hg3:=s3 _ _ hg2
   rw[e1]at hf3
   rw[e2]at hg3
   have h64:bs.length<64:=by
    have:bs.length*9<=bs.length*n:=bN _ ⋯
    omega
   refine xG' (k:=false) (j:=false) (SqL.of hf3) (SqL.of hg3) (by rw[ac];exact h64) fun o as H4 ho s4 ho4 hperm hsort htup=>?_
   have s4':aD' H3 H4:=s4
   symm
   refine aJ' (SqL.of ho4) (dj' (vs:=as.map fun q=>V.ref q.1) (fun i xs H'=>i<=as.length/\xs=(((as.take i).map fun q=>q.2.2).map V.str)/\H'=H4) ⟨aP _,rfl,rfl⟩ (fun i xs H' pv=>by rw[pv.2.2];exact SqL.of ho4) ?_ ?_)
   .rintro i xs H5 x R hx ⟨_,rfl,rfl⟩ hRR
    have hi:i<as.length:=by have:=ap' hx;rwa [ac]at this
    have hal:as.length=bs.length:=by have:=hperm.length_eq;rwa [ac,ac]at this
    rw[aA,af hi]at hx
    cases hx
    have htk:as.take (i+1)=as.take i++[as[i]]:=by rw[bh,af hi];rfl
    refine c3' (SqT.of (htup _ (cH hi))) ?_
    symm
    refine⟨by rw[ac,ac,aJ];exact ak' ⋯,hRR _ _ ⟨hi,?_,rfl⟩⟩
    rw[htk,aG,aG]
    rfl
   .rintro xs H5 ⟨_,rfl,rfl⟩ pc hpc
    obtain⟨s6,h6⟩:=snw hpc (.lst (((as.take (as.map fun q=>V.ref q.1).length).map fun q=>q.2.2).map V.str))
    generalize upd H5 pc _=H6 at s6 h6 ⊢
    rw[ac,aV]at h6
    symm
    have e3:(bs.map fun b=>(tx b,tx (rd M r n b))).map (fun q=>V.str q.2)=((bs.map fun b=>(tx b,tx (rd M r n b))).map fun q=>q.2).map V.str:=(bi (l:=bs.map fun b=>(tx b,tx (rd M r n b))) (f:=fun(q:Str×Str)=>q.2) (g:=V.str)).symm
    rw[e3]at hg3
    refine pM' (SqL.of (s6 _ _ (s4' _ _ hg3))) (by rw[ac,ac];exact h64) fun pd ss hpd hpm hrise=>?_
    have hss:(as.map fun q=>q.2.2)=ss:=by
     refine iw' ?_ (un' T hbs hperm hsort) hrise
     refine List.Perm.trans ?_ hpm.symm
     have:=hperm.map fun q=>q.2
     rwa [bi]at this
    subst hss
    obtain⟨s7,h7⟩:=snw hpd (.lst ((as.map fun q=>q.2.2).map V.str))
    generalize upd H6 pd _=H7 at s7 h7 ⊢
    refine rG' (SqL.of (s7 _ _ h6)) (SqL.of h7) (fun _=>kt') ?_
    rw[decide_eq_true rfl]
    symm
    exact q _ (s02.trans (s3.trans (s4'.trans (s6.trans s7))))
theorem kv' {c:Bool} {p:Nat}:Txt.mul (tx [c]) (p:Int)=tx (ay p c):=by
 rw[ry']
 congr 1
 induction p with
 |zero=>rfl
 |succ p ih=>
  rw[bv,ba,ih,bv]
  rfl
theorem up' {p:Nat}:Txt.mul (tx [false,true]) (p:Int)=tx (ay p [false,true]).flatten:=ry'
def Bv' (p n:Nat) (x:V):Prop:=∃bs:List (List Bool),x=.str (tx bs.flatten)/\(∀b∈bs,b.length=p)/\bs.length*n<=500
theorem some_of {p n k:Nat} {l:List Bool} (h:l.length=k*p) (hk:k*n<=500):Bv' p n (.str (tx l)):=by
 refine⟨bks p l k,?_,ob' h,by rw[c5'];exact hk⟩
 rw[r6',<- h,aV]
def ol':Sp:=fun vs H Q _=>∃(b a:Addr) (z:Nat) (M:List Rm) (r n p:Nat),vs=[.ref b,.ref a,.int r,.int n,.int p]/\H b=some (d6' b z)/\z<=2 ^ 38/\IsM H a M/\OkM M/\M.length<=500/\Tab M r n p/\1<=n/\∀H',Go 500 H H'->Q (.bl true) H'
structure FsTb (C:Rc):Prop where
 take:C.fs "_law_take"=some aK'
 bits:C.fs "_law_bits"=some fr'
 tw:C.fs "table_written"=some lo'
 tr:C.fs "table_read"=some uI'
 br:C.fs "_law_blocks_right"=some uJ'
 ref:C.fs "_law_refused"=some jh'
theorem qc' {C:Rc} (hN:C.N.length=10) (F:FsTb C):∀vs H Q E,ol' vs H Q E->tSs C b2' { nx:=fun _ H'=>Q .non H',rt:=Q } (L2.aA' C.N vs) H:=by
 intro vs H Q E h
 obtain⟨b,a,z,M,r,n,p,rfl,hb,hz,hM,hO,hM5,T,hn1,q⟩:=h
 rw[am' hN]
 unfold b2'
 have hn:=T.n20
 have hp1:=T.p1
 have hpn:=T.pn
 symm
 refine⟨by decide,fun p1 hp1'=>?_⟩
 obtain⟨s1,h1⟩:=snw hp1' (.lst [V.int 12,V.int 36])
 generalize upd H p1 _=H1 at s1 h1 ⊢
 symm
 refine ag' F.take ?_
 symm
 refine⟨b,z,6,rfl,s1 _ _ hb,⋯,⋯,⋯,fun t H2 ht0 ht1 g2=>?_⟩
 have h2:=g2.lst h1
 have G2:Go 1 H H2:=((Go.of_same (c:=0) s1).trans g2).mono ⋯
 symm
 obtain⟨m12,hm12,hat⟩:∃m12:Nat,(m12=12\/m12=36)/\atI [V.int 12,V.int 36] (if decide (t=0)=true then 1 else 0)=some (V.int (m12:Nat)):=by
  by_cases h0:t=0
  .exact⟨36,.inr rfl,by rw[decide_eq_true h0];rfl⟩
  .exact⟨12,.inl rfl,by rw[decide_eq_false h0];rfl⟩
 refine a6' (SqL.of h2) hat ?_
 symm
 have hmx:(if(n:Int) > 10 then(n:Int)else 10)=((max 10 n:Nat):Int):=by split<;>omega
 rw[hmx]
 have hmn:((m12:Int)*10 / ((max 10 n:Nat):Int))=((m12*10 / max 10 n:Nat):Int):=by rw[Int.natCast_ediv,Int.natCast_mul];rfl
 rw[hmn]
 have hmost:m12*10 / max 10 n*n<=360:=by
  have h1:=Nat.div_mul_le_self (m12*10) (max 10 n)
  have h2:m12*10 / max 10 n*n<=m12*10 / max 10 n*max 10 n:=bN _ ⋯
  omega
 have hmost2:m12*10 / max 10 n<=36:=by
  have h1:=Nat.div_mul_le_self (m12*10) (max 10 n)
  have h2:m12*10 / max 10 n*10<=m12*10 / max 10 n*max 10 n:=bN _ ⋯
  omega
 generalize m12*10 / max 10 n=mn at hmost hmost2 ⊢
 obtain⟨z2,hb2,hz2,_⟩:=G2.boxed hb ⋯
 refine⟨.inr (.inl ⟨by decide,by decide⟩),⟨⋯,.inl ⋯⟩,?_⟩
 refine ag' F.bits ?_
 symm
 refine ag' F.take ?_
 symm
 rw[show(mn:Int)+1=((mn+1:Nat):Int) by omega]
 refine⟨b,z2,mn+1,rfl,hb2,⋯,⋯,⋯,fun x H3 hx0 hx1 g3=>?_⟩
 obtain⟨x,rfl⟩:=aI hx0
 obtain⟨z3,hb3,hz3,_⟩:=g3.boxed hb2 ⋯
 have hxn:x*n<=360:=aN (de _ ⋯) hmost
 have hxp:x*p<=360:=aN (bN _ hpn) hxn
 symm
 rw[show(p:Int)*(x:Int)=((x*p:Nat):Int) by rw[Int.natCast_mul,Int.mul_comm]]
 refine⟨.inl ⟨⋯,⋯⟩,b,z3,x*p,rfl,hb3,⋯,⋯,fun bits H4 hbl g4=>?_⟩
 have hM4:IsM H4 a M:=hM.mono (xW' ((G2.trans g3).trans g4))
 have G4:Go 362 H H4:=((G2.trans g3).trans g4).mono ⋯
 symm
 refine⟨⋯,⋯,by show 1*_<=_;omega,⋯,⋯,by show 1*_<=_;omega,⋯,⋯,by show 2*_<=_;omega,.inl ⟨⋯,⋯⟩,⋯,⋯,by show 1*_<=_;omega,?_⟩
 rw[show(2:Int)*(p:Int)=((2*p:Nat):Int) by omega,kv',kv',kv',up']
 symm
 refine⟨dx' (by simp;omega),?_⟩
 refine⟨by decide,fun pt hpt=>?_⟩
 have hxs:∀y∈[V.str (tx bits),V.str (tx (ay p false)),V.str (tx (ay p true)),V.str (tx (ay p [false,true]).flatten),V.str (tx []),V.str (tx (ay (2*p) true++bits))],Bv' p n y:=by
  intro y hy
  simp only[al,ap,or_false]at hy
  have e2:(ay p [false,true]).flatten.length=2*p:=by
   rw[cl' (m:=2) fun c hc=>by rw[List.eq_of_mem_replicate hc];rfl,cm,bU]
  rcases hy with rfl|rfl|rfl|rfl|rfl|rfl
  .exact some_of hbl ⋯
  .exact some_of (k:=1) (by simp) ⋯
  .exact some_of (k:=1) (by simp) ⋯
  .exact some_of (k:=2) e2 ⋯
  .exact some_of (k:=0) (by simp) ⋯
  .exact some_of (k:=x+2) (by rw[aB,cm,hbl,bX,Nat.add_comm]) (by rw[bX];omega)
 generalize [V.str (tx bits),V.str (tx (ay p false)),V.str (tx (ay p true)),V.str (tx (ay p [false,true]).flatten),V.str (tx []),V.str (tx (ay (2*p) true++bits))]=xs at hxs ⊢
 obtain⟨s5,h5⟩:=snw hpt (.tup xs)
 generalize upd H4 pt _=H5 at s5 h5 ⊢
 have hM5':=hM4.mono (ar' s5)
 refine dV' (SqT.of h5) (z6' (xs:=xs) (fun i σ H'=>(∃x7 x8,σ=[some (.ref b),some (.ref a),some (.int r),some (.int n),some (.int p),some (.int mn),some (.str (tx bits)),x7,x8,none])/\aD' H5 H') ⟨⟨_,_,rfl⟩,aD'.refl _⟩ (fun i σ H' _ pv=>SqT.of (pv.2 _ _ h5)) ?_ ?_)
 .rintro i y σ H6 hy ⟨⟨x7,x8,rfl⟩,s6⟩
  obtain⟨bs,rfl,hbs,hk5⟩:=hxs y (aL hy)
  have hfl:=cl' hbs
  have hbp:bs.length*p<=bs.length*n:=bN _ hpn
  symm
  refine ag' F.tw ?_
  symm
  refine⟨a,M,r,n,p,bs.flatten,rfl,hM5'.mono (ar' s6),hO,hM5,T,⋯,fun k H7 hk s7=>?_,fun H7 s7 hq=>absurd (by rw[hfl];exact Nat.mul_mod_left ..) hq⟩
  have hkk:k=bs.length:=by
   rw[hfl]at hk
   exact(Nat.eq_of_mul_eq_mul_right ⋯ hk).symm
  subst hkk
  rw[iv' hbs]
  have s67:=s6.trans s7
  symm
  refine xg' (T:="str") rfl (by decide) (by decide) ?_
  rw[show isT "str" "str"=true by decide]
  symm
  refine ag' F.tr ?_
  symm
  refine⟨a,M,r,n,p,bs,rfl,hM5'.mono (ar' s67),hO,hM5,T,hn1,hbs,⋯,fun H8 s8=>?_⟩
  symm
  refine ag' F.br ?_
  symm
  refine⟨a,M,r,n,p,bs,rfl,hM5'.mono (ar' (s67.trans s8)),hO,hM5,T,hn1,hbs,⋯,fun H9 s9=>?_⟩
  symm
  exact⟨⟨_,_,rfl⟩,s67.trans (s8.trans s9)⟩
 .rintro σ H6 ⟨⟨x7,x8,rfl⟩,s6⟩
  symm
  rw[show(p:Int)-1=((p-1:Nat):Int) by omega]
  refine⟨dx' ⋯,⋯,⋯,by show 1*_<=_;omega,by decide,fun pd hpd=>?_⟩
  rw[kv']
  obtain⟨ys,hcut,hys⟩:∃ys,kE' [V.str (tx (bits++[true])),V.str (tx (ay (p-1) false))] none (some (2*if decide (1<(p:Int))=true then 1 else 0))=ys/\(ys.length<=2/\∀y∈ys,∃l,y=V.str (tx l)/\l.length<=500/\l.length % p≠0):=by
   by_cases hq:1<p
   .refine⟨[V.str (tx (bits++[true])),V.str (tx (ay (p-1) false))],by rw[decide_eq_true ⋯];rfl,aj _,fun y hy=>?_⟩
    simp only[al,ap,or_false]at hy
    rcases hy with rfl|rfl
    .refine⟨_,rfl,by simp;omega,?_⟩
     rw[aB,hbl,List.length_singleton,bU,Nat.mul_add_mod,cj hq]
     decide
    .refine⟨_,rfl,by simp;omega,?_⟩
     rw[cm,cj ⋯]
     omega
   .exact⟨[],by rw[decide_eq_false ⋯];rfl,by decide,fun y hy=>absurd hy ap⟩
  obtain⟨s7,h7⟩:=snw hpd (.lst [V.str (tx (bits++[true])),V.str (tx (ay (p-1) false))])
  generalize upd H6 pd _=H7 at s7 h7 ⊢
  refine⟨.inl ⟨by decide,by decide⟩,?_⟩
  refine i9' (SqL.of h7) fun pe hpe=>?_
  rw[hcut]
  obtain⟨s8,h8⟩:=snw hpe (.lst ys)
  generalize upd H7 pe _=H8 at s8 h8 ⊢
  have s58:aD' H5 H8:=s6.trans (s7.trans s8)
  symm
  refine aJ' (SqL.of h8) (dj' (vs:=ys) (fun i xs H'=>xs=(ay i true).map V.bl/\aD' H8 H') ⟨rfl,aD'.refl _⟩ (fun i xs H' pv=>SqL.of (pv.2 _ _ h8)) ?_ ?_)
  .rintro i zs H9 y R hy ⟨rfl,s9⟩ hR
   have hi:=ap' hy
   obtain⟨l,rfl,hl5,hlp⟩:=hys.2 y (aL hy)
   have hy2:=hys.1
   symm
   refine ag' F.ref ?_
   symm
   refine⟨a,M,r,n,p,l,rfl,hM5'.mono (ar' (s58.trans s9)),hO,hM5,T,hl5,hlp,fun H10 s10=>?_⟩
   symm
   refine⟨by rw[ac,cm];exact ak' ⋯,hR _ _ ⟨?_,s9.trans s10⟩⟩
   rw[List.replicate_succ',aG]
   rfl
  .rintro zs H9 ⟨rfl,s9⟩ pf hpf
   obtain⟨s10,h10⟩:=snw hpf (.lst ((ay ys.length true).map V.bl))
   generalize upd H9 pf _=H10 at s10 h10 ⊢
   symm
   refine xf' (SqL.of h10) ?_
   rw[show(ay ys.length true).all id=true by simp]
   symm
   exact q _ ((G4.trans (Go.of_same (c:=0) (s5.trans (s58.trans (s9.trans s10))))).mono ⋯)
def dB':Sp:=fun vs H Q _=>∃(b:Addr),vs=[.ref b]/\H b=some (d6' b 0)/\∀H',Go 4000 H H'->Q (.bl true) H'
theorem le' {C:Rc} (hN:C.N.length=6) (hT:C.fs "_law_take"=some aK') (hA:C.fs "_law_any_machine"=some ip') (hB:C.fs "bits_for"=some xU') (hTb:C.fs "_law_table_right"=some ol'):∀vs H Q E,dB' vs H Q E->tSs C gM' { nx:=fun _ H'=>Q .non H',rt:=Q } (L2.aA' C.N vs) H:=by
 intro vs H Q E h
 obtain⟨b,rfl,hb,q⟩:=h
 rw[am' hN]
 unfold gM'
 symm
 refine ag' hA ?_
 symm
 refine⟨b,0,rfl,hb,⋯,fun a M H1 g1 hM hO hl=>?_⟩
 obtain⟨mv,hmv,hmr⟩:=id hM
 have hml:=hmr.len
 obtain⟨n1,hb1,hn1,_⟩:=g1.boxed hb ⋯
 symm
 refine ef' (SqT.of hmv) ?_
 rw[hml]
 symm
 refine bv' (fun hq=>?_) fun hq=>?_
 .symm
  exact q H1 (g1.mono ⋯)
 .symm
  refine ag' hT ?_
  symm
  refine ef' (SqT.of hmv) ?_
  rw[hml]
  symm
  refine⟨b,n1,_,rfl,hb1,⋯,⋯,⋯,fun r H2 h20 h21 g2=>?_⟩
  obtain⟨r,rfl⟩:=aI h20
  have G2:Go 1001 H H2:=(g1.trans g2).mono ⋯
  symm
  refine⟨by decide,fun p3 hp3=>?_⟩
  obtain⟨s3,h3⟩:=snw hp3 (.lst [V.int 8,V.int 20])
  generalize upd H2 p3 _=H3 at s3 h3 ⊢
  have G3:Go 1001 H H3:=(G2.trans (Go.of_same (c:=0) s3)).mono ⋯
  obtain⟨n3,hb3,hn3,_⟩:=G3.boxed hb ⋯
  symm
  refine ag' hT ?_
  symm
  refine⟨b,n3,2,rfl,hb3,⋯,⋯,⋯,fun t H4 ht0 ht1 g4=>?_⟩
  obtain⟨t,rfl⟩:=aI ht0
  obtain⟨w,hw,hat⟩:∃w:Nat,(w=8\/w=20)/\atI [V.int 8,V.int 20] (t:Int)=some (V.int (w:Nat)):=by
   have:t=0\/t=1:=by omega
   rcases this with rfl|rfl
   .exact⟨8,.inl rfl,rfl⟩
   .exact⟨20,.inr rfl,rfl⟩
  refine a6' (SqL.of (g4.lst h3)) hat ?_
  symm
  refine⟨by decide,fun p5 hp5=>?_⟩
  obtain⟨g5,h5⟩:=gnw hp5 (.lst [V.int 8,V.int 8,V.int (w:Nat)])
  generalize upd H4 p5 _=H5 at g5 h5 ⊢
  have G5:Go 1002 H H5:=((G3.trans g4).trans g5).mono ⋯
  refine aJ' (SqL.of h5) (w5' (xs:=[V.int 8,V.int 8,V.int (w:Nat)]) (fun i σ H'=>(∃x3 x4 x5,σ=[some (.ref b),some (.ref a),some (.int r),x3,x4,x5])/\Go (i*501) H5 H') ⟨⟨_,_,_,rfl⟩,(Go.of_same (c:=0) (aD'.refl _)).mono ⋯⟩ (fun i σ H' _ pv=>SqL.of (pv.2.lst h5)) ?_ ?_)
  .rintro i y σ H6 hy ⟨⟨x3,x4,x5,rfl⟩,g6⟩
   have hi:i<3:=ap' hy
   obtain⟨v,rfl,hv⟩:∃v:Nat,y=V.int (v:Nat)/\(v=8\/v=20):=by
    match i,hy with
    |0,hy=>cases hy;exact⟨8,rfl,.inl rfl⟩
    |1,hy=>cases hy;exact⟨8,rfl,.inl rfl⟩
    |2,hy=>cases hy;exact⟨w,rfl,hw⟩
   have G6:Go (1002+i*501) H H6:=(G5.trans g6).mono ⋯
   obtain⟨n6,hb6,hn6,_⟩:=G6.boxed hb ⋯
   symm
   refine ag' hT ?_
   symm
   refine⟨b,n6,v,rfl,hb6,⋯,⋯,⋯,fun u H7 hu0 hu1 g7=>?_⟩
   obtain⟨u,rfl⟩:=aI hu0
   have G7:=G6.trans g7
   obtain⟨n7,hb7,hn7,_⟩:=g7.boxed hb6 ⋯
   have hM7:IsM H7 a M:=hM.mono (xW' (((g2.trans (Go.of_same (c:=0) s3)).trans g4).trans (g5.trans (g6.trans g7))))
   symm
   rw[show(1:Int)+(u:Int)=((1+u:Nat):Int) by omega]
   refine ag' hB ?_
   symm
   refine⟨a,M,r,1+u,rfl,hM7,hO,⋯,⋯,⋯,fun H8 s8=>?_⟩
   have g8:Go (i*501+1) H5 H8:=((g6.trans g7).trans (Go.of_same (c:=0) s8)).mono ⋯
   rw[<- jf' hO]
   unfold gp
   by_cases hz:wy M (some r) (1+u) r=0
   .rw[if_pos hz]
    symm
    exact⟨⟨_,_,_,rfl⟩,g8.mono ⋯⟩
   .rw[if_neg hz]
    symm
    refine bv' (fun hp=>?_) fun hp=>?_
    .have T:Tab M r (1+u) (wy M (some r) (1+u) r).log2:=⟨⋯,⋯,rfl,⋯⟩
     symm
     refine ag' hTb ?_
     symm
     refine⟨b,a,n7,M,r,1+u,_,rfl,s8 _ _ hb7,⋯,hM7.mono (ar' s8),hO,⋯,T,⋯,fun H9 g9=>?_⟩
     symm
     exact⟨⟨_,_,_,rfl⟩,(g8.trans g9).mono ⋯⟩
    .symm
     exact⟨⟨_,_,_,rfl⟩,g8.mono ⋯⟩
  .rintro σ H6 ⟨⟨x3,x4,x5,rfl⟩,g6⟩
   symm
   exact q H6 ((G5.trans g6).mono (by simp))
def om' (K:W.Frag):Sp:=fun vs H Q _=>∃(a:Addr) (ns:List Int),vs=[.ref a]/\SqL K H a (ns.map V.int)/\ns.length<=63/\∀H',Q (.bl true) H'
theorem qd' {C:Rc} (hN:C.N.length=2) (hB:C.fs "_law_box"=some (k7' C.K)) (hR:C.fs "_law_right"=some dB'):∀vs H Q E,om' C.K vs H Q E->tSs C p7' { nx:=fun _ H'=>Q .non H',rt:=Q } (L2.aA' C.N vs) H:=by
 intro vs H Q E h
 obtain⟨a,ns,rfl,hs,h63,q⟩:=h
 rw[am' hN]
 unfold p7'
 symm
 refine dw' hs ?_
 rw[ac]
 symm
 generalize hNe:(if(3:Int)<(if(ns.length:Int)<8 then(ns.length:Int)else 8)then(if(ns.length:Int)<8 then(ns.length:Int)else 8)else 3)=N
 have hN0:0<=N/\N<=12:=by
  rw[<- hNe]
  split<;>split<;>omega
 refine gt' ⋯ ⋯ (k4' (fun i σ H'=>(∃x1,σ=[some (.ref a),x1])/\SqL C.K H' a (ns.map V.int)) ⟨⟨none,rfl⟩,hs⟩ ?_ ?_)
 .rintro i σ H0 hi ⟨⟨x1,rfl⟩,hs0⟩
  symm
  refine ag' hR ?_
  symm
  refine ag' hB ?_
  symm
  refine⟨a,ns,_,rfl,hs0,⋯,⋯,fun b hb=>?_⟩
  have hs1:=(af' hb (d6' b 0)).seq hs0
  have hb1:upd H0 b (d6' b 0) b=some (d6' b 0):=ac'
  generalize upd H0 b (d6' b 0)=H1 at hs1 hb1 ⊢
  symm
  refine⟨b,rfl,hb1,fun H2 g2=>?_⟩
  symm
  exact⟨⟨_,rfl⟩,g2.seq hs1⟩
 .rintro σ H0 ⟨⟨x1,rfl⟩,hs0⟩
  symm
  exact q H0
end K35
namespace K35
open PySem PySem.Spec PyProof.Rows L2 R3 LW TM BD RW NR NM K33 SR BK K42 WR
def top (i:Nat):Stmt:=PySem.Challenge.pw_runbound_k35_tables_written.main.body.getD i (.Pass ⟨0,0,0,0⟩)
theorem x0':mSs gG' eO' (ab' (top 8)) eK' (al' (top 8))=true:=⋯
theorem uq':FnScope gG' ["machine","room","row"] (ab' (top 8)):=⟨rfl,rfl,rfl,⋯,rfl,⋯,⋯⟩
theorem x1':mSs dC' cJ' (ab' (top 9)) cF' (al' (top 9))=true:=⋯
theorem ur':FnScope dC' ["machine","rooms"] (ab' (top 9)):=⟨rfl,rfl,rfl,⋯,rfl,⋯,⋯⟩
theorem x2':mSs dD' cK' (ab' (top 10)) cG' (al' (top 10))=true:=⋯
theorem us':FnScope dD' ["machine","numbers"] (ab' (top 10)):=⟨rfl,rfl,rfl,⋯,rfl,⋯,⋯⟩
theorem x4':mSs dE' cL' (ab' (top 11)) cH' (al' (top 11))=true:=⋯
theorem ut':FnScope dE' ["machine"] (ab' (top 11)):=⟨rfl,rfl,rfl,⋯,rfl,⋯,⋯⟩
theorem qe':mSs bL' bl' (ab' (top 13)) bJ' (al' (top 13))=true:=⋯
theorem on':FnScope bL' ["machine","numbers","room","bit"] (ab' (top 13)):=⟨rfl,rfl,rfl,⋯,rfl,⋯,⋯⟩
theorem oo':mSs ci' bS' (ab' (top 14)) cf' (al' (top 14))=true:=⋯
theorem lf':FnScope ci' ["machine","numbers"] (ab' (top 14)):=⟨rfl,rfl,rfl,⋯,rfl,⋯,⋯⟩
theorem x5':mSs eP' d0' (ab' (top 15)) eL' (al' (top 15))=true:=⋯
theorem uu':FnScope eP' ["machine","goal","many"] (ab' (top 15)):=⟨rfl,rfl,rfl,⋯,rfl,⋯,⋯⟩
theorem oq':mSs cj' bT' (ab' (top 16)) cg' (al' (top 16))=true:=⋯
theorem lg':FnScope cj' ["machine","left","room","number"] (ab' (top 16)):=⟨rfl,rfl,rfl,⋯,rfl,⋯,⋯⟩
theorem or':mSs bD' a7' (ab' (top 17)) bC' (al' (top 17))=true:=⋯
theorem lh':FnScope bD' ["machine","left","room","row"] (ab' (top 17)):=⟨rfl,rfl,rfl,⋯,rfl,⋯,⋯⟩
theorem qf':mSs cM' bY' (ab' (top 19)) bW' (al' (top 19))=true:=⋯
theorem ot':FnScope cM' ["row","many"] (ab' (top 19)):=⟨rfl,rfl,rfl,⋯,rfl,⋯,⋯⟩
theorem uv':mSs aY' aI' (ab' (top 20)) bn' (al' (top 20))=true:=⋯
theorem qg':FnScope aY' ["row","many"] (ab' (top 20)):=⟨rfl,rfl,rfl,⋯,rfl,⋯,⋯⟩
theorem uw':mSs cN' bZ' (ab' (top 21)) bX' (al' (top 21))=true:=⋯
theorem qh':FnScope cN' ["bits"] (ab' (top 21)):=⟨rfl,rfl,rfl,⋯,rfl,⋯,⋯⟩
theorem qi':mSs dF' cO' (ab' (top 22)) cI' (al' (top 22))=true:=⋯
theorem ou':FnScope dF' ["number","many"] (ab' (top 22)):=⟨rfl,rfl,rfl,⋯,rfl,⋯,⋯⟩
theorem At':mSs a8' aM' (ab' (top 24)) aN' (al' (top 24))=true:=⋯
theorem x6':FnScope a8' ["count","p"] (ab' (top 24)):=⟨rfl,rfl,rfl,⋯,rfl,⋯,⋯⟩
theorem B4':mSs bE' a3' (ab' (top 25)) a2' (al' (top 25))=true:=⋯
theorem Au':FnScope bE' ["count"] (ab' (top 25)):=⟨rfl,rfl,rfl,⋯,rfl,⋯,⋯⟩
theorem B5':mSs c6' ck' (ab' (top 26)) ch' (al' (top 26))=true:=⋯
theorem Av':FnScope c6' ["machine","room","many"] (ab' (top 26)):=⟨rfl,rfl,rfl,⋯,rfl,⋯,⋯⟩
theorem B6':mSs bd' aH' (ab' (top 27)) be' (al' (top 27))=true:=⋯
theorem Aw':FnScope bd' ["machine","room","many","bits"] (ab' (top 27)):=⟨rfl,rfl,rfl,⋯,rfl,⋯,⋯⟩
theorem B7':mSs bo' aZ' (ab' (top 28)) bp' (al' (top 28))=true:=⋯
theorem Ax':FnScope bo' ["machine","left","room","block"] (ab' (top 28)):=⟨rfl,rfl,rfl,⋯,rfl,⋯,⋯⟩
theorem B8':mSs cr' bM' (ab' (top 29)) bN' (al' (top 29))=true:=⋯
theorem Ay':FnScope cr' ["machine","room","many","row"] (ab' (top 29)):=⟨rfl,rfl,rfl,⋯,rfl,⋯,⋯⟩
theorem Az':mSs bt' aW' (ab' (top 31)) aV' (al' (top 31))=true:=⋯
theorem x7':FnScope bt' ["bounds"] (ab' (top 31)):=⟨rfl,rfl,rfl,⋯,rfl,⋯,⋯⟩
theorem B9':mSs b7' bF' (ab' (top 32)) bB' (al' (top 32))=true:=⋯
theorem AA':FnScope b7' ["bounds","room","bit"] (ab' (top 32)):=⟨rfl,rfl,rfl,⋯,rfl,⋯,⋯⟩
theorem AB':mSs a9' aO' (ab' (top 33)) aL' (al' (top 33))=true:=⋯
theorem x9':FnScope a9' ["bounds","rooms"] (ab' (top 33)):=⟨rfl,rfl,rfl,⋯,rfl,⋯,⋯⟩
theorem AC':mSs cs' bO' (ab' (top 34)) bK' (al' (top 34))=true:=⋯
theorem ya':FnScope cs' ["bounds"] (ab' (top 34)):=⟨rfl,rfl,rfl,⋯,rfl,⋯,⋯⟩
theorem yb':mSs d1' c7' (ab' (top 36)) dW' (al' (top 36))=true:=⋯
theorem ux':FnScope d1' ["_law_script","_law_k"] (ab' (top 36)):=⟨rfl,rfl,rfl,⋯,rfl,⋯,⋯⟩
theorem AD':mSs p5' od' (ab' (top 37)) pP' (al' (top 37))=true:=⋯
theorem yc':FnScope p5' ["_law_script","_law_k"] (ab' (top 37)):=⟨rfl,rfl,rfl,⋯,rfl,⋯,⋯⟩
theorem yd':mSs oe' kp' (ab' (top 38)) kh' (al' (top 38))=true:=⋯
theorem uy':FnScope oe' ["_law_box_here","_law_many_here"] (ab' (top 38)):=⟨rfl,rfl,rfl,⋯,rfl,⋯,⋯⟩
theorem ye':mSs of' kq' (ab' (top 39)) ki' (al' (top 39))=true:=⋯
theorem uz':FnScope of' ["_law_box_here","_law_least","_law_few","_law_most"] (ab' (top 39)):=⟨rfl,rfl,rfl,⋯,rfl,⋯,⋯⟩
theorem ov':mSs fx' d2' (ab' (top 40)) dX' (al' (top 40))=true:=⋯
theorem li':FnScope fx' ["_law_box_here","_law_many_here"] (ab' (top 40)):=⟨rfl,rfl,rfl,⋯,rfl,⋯,⋯⟩
theorem yf':mSs ct' bP' (ab' (top 41)) bk' (al' (top 41))=true:=⋯
theorem uA':FnScope ct' ["_law_box_here","_law_many_here"] (ab' (top 41)):=⟨rfl,rfl,rfl,⋯,rfl,⋯,⋯⟩
theorem qj':mSs gH' eQ' (ab' (top 42)) eN' (al' (top 42))=true:=⋯
theorem ow':FnScope gH' ["_law_box_here"] (ab' (top 42)):=⟨rfl,rfl,rfl,⋯,rfl,⋯,⋯⟩
theorem yg':mSs og' kr' (ab' (top 43)) kk' (al' (top 43))=true:=⋯
theorem uB':FnScope og' ["_law_box_here","_law_many_here"] (ab' (top 43)):=⟨rfl,rfl,rfl,⋯,rfl,⋯,⋯⟩
theorem qk':mSs gI' eR' (ab' (top 44)) eS' (al' (top 44))=true:=⋯
theorem ox':FnScope gI' ["_law_machine_here","_law_room","_law_many_here"] (ab' (top 44)):=⟨rfl,rfl,rfl,⋯,rfl,⋯,⋯⟩
theorem yh':mSs cP' b0' (ab' (top 45)) bV' (al' (top 45))=true:=⋯
theorem uC':FnScope cP' ["_law_box_here"] (ab' (top 45)):=⟨rfl,rfl,rfl,⋯,rfl,⋯,⋯⟩
theorem ql':mSs gJ' eT' (ab' (top 46)) gK' (al' (top 46))=true:=⋯
theorem oy':FnScope gJ' ["_law_row","_law_many_here"] (ab' (top 46)):=⟨rfl,rfl,rfl,⋯,rfl,⋯,⋯⟩
theorem oz':mSs c8' b8' (ab' (top 47)) d3' (al' (top 47))=true:=⋯
theorem lj':FnScope c8' ["_law_machine_here","_law_room","_law_many_here","_law_bits_here"] (ab' (top 47)):=⟨rfl,rfl,rfl,⋯,rfl,⋯,⋯⟩
theorem Cb':mSs cu' bQ' (ab' (top 48)) bR' (al' (top 48))=true:=⋯
theorem AE':FnScope cu' ["_law_machine_here","_law_room","_law_many_here","_law_p","_law_bits_here","_law_told"] (ab' (top 48)):=⟨rfl,rfl,rfl,⋯,rfl,⋯,⋯⟩
theorem AF':mSs b1' bf' (ab' (top 49)) b2' (al' (top 49))=true:=⋯
theorem yi':FnScope b1' ["_law_box_here","_law_machine_here","_law_room","_law_many_here","_law_p"] (ab' (top 49)):=⟨rfl,rfl,rfl,⋯,rfl,⋯,⋯⟩
theorem uD':mSs ji' gL' (ab' (top 50)) gM' (al' (top 50))=true:=⋯
theorem qm':FnScope ji' ["_law_box_here"] (ab' (top 50)):=⟨rfl,rfl,rfl,⋯,rfl,⋯,⋯⟩
theorem AG':mSs p6' oh' (ab' (top 51)) p7' (al' (top 51))=true:=⋯
theorem yj':FnScope p6' ["_law_script"] (ab' (top 51)):=⟨rfl,rfl,rfl,⋯,rfl,⋯,⋯⟩
set_option maxHeartbeats 0 in
set_option hygiene false in
local macro_rules | `(tactic| walk_at "o") => `(tactic| (intro vs H Q E h; repeat (first | (obtain ⟨rfl, _⟩ := h; rfl) | (obtain ⟨_, h⟩ := h))))
def FnD (K:W.Frag) (x:Str) (st:Stmt):Prop:=∃(f:Addr) (fd:FuncData),W.nsIn K mainGlobals x=some (some (.ref f))/\Fun K x x st f fd
theorem av' {K:W.Frag} {x:Str} {st:Stmt} {f:Addr} {oc:Value} {od an:Option Addr} {osl:Array (Option Value)} {kV doc pm cdv ct:Value} (a:W.nsIn K mainGlobals x=some (some (.ref f))) (l:K.lookup f=some ⟨oc,od,.func (W.fnOf x x (d9' st) (al' st) (ab' st) .none kV doc pm an cdv ct),osl⟩) (c:W.codeIn K cdv x=true) (k:W.keepIn K (.ref f)=true):FnD K x st:=⟨f,_,a,vq' l c k⟩
set_option hygiene false in
local macro_rules | `(tactic| walk_at "b") => `(tactic| (intro _ _ _ _ _ _ us hl; first | exact xv' (P:=fun us=>bindArgs _ ({ pos:=us }:Args)=pure (aY _ us)) (fun _ _ _=>rfl) us hl | exact ja' (P:=fun us=>bindArgs _ ({ pos:=us }:Args)=pure (aY _ us)) (fun _ _=>rfl) us hl | exact rP' (P:=fun us=>bindArgs _ ({ pos:=us }:Args)=pure (aY _ us)) (fun _=>rfl) us hl | exact rQ' (P:=fun us=>bindArgs _ ({ pos:=us }:Args)=pure (aY _ us)) (fun _ _ _ _=>rfl) us hl | exact BX' (P:=fun us=>bindArgs _ ({ pos:=us }:Args)=pure (aY _ us)) (fun _ _ _ _ _ _=>rfl) us hl | exact BW' (P:=fun us=>bindArgs _ ({ pos:=us }:Args)=pure (aY _ us)) (fun _ _ _ _ _=>rfl) us hl))
abbrev cX (C1 C2 C3 C4 C5 C6:Addr):List (Str×Addr):=[("NoNumber",C1),("NoRow",C2),("NoWindow",C3),("BadBits",C4),("BadBlock",C5),("RunError",C6)]
theorem yk' {l:W.OpenLaw} {w:World} {K:W.Frag} {h:Heap} {mg:Str->Option Value} {fa:Addr} (X:K.In h) (G:h.Ns mainGlobals mg) (hfa:mg "law"=some (.ref fa))
  {C1 C2 C3 C4 C5 C6:Addr} {cld4:ClassData}
  (p1:FnD K "walk" (top 8))
  (p2:FnD K "lasting" (top 9))
  (p3:FnD K "part_of" (top 10))
  (p4:FnD K "trimmed" (top 11))
  (p5:FnD K "behind_bit" (top 13))
  (p6:FnD K "way_sums" (top 14))
  (p7:FnD K "ways" (top 15))
  (p8:FnD K "row_left" (top 16))
  (p9:FnD K "number_left" (top 17))
  (p10:FnD K "blocks_of" (top 19))
  (p11:FnD K "whole_blocks" (top 20))
  (p12:FnD K "number_by" (top 21))
  (p13:FnD K "bits_by" (top 22))
  (p14:FnD K "is_power_at_least" (top 24))
  (p15:FnD K "greatest_power" (top 25))
  (p16:FnD K "bits_for" (top 26))
  (p17:FnD K "table_written" (top 27))
  (p18:FnD K "round_number" (top 28))
  (p19:FnD K "table_read" (top 29))
  (p20:FnD K "rooms_in_bounds" (top 31))
  (p21:FnD K "room_behind" (top 32))
  (p22:FnD K "machine_in_bounds" (top 33))
  (p23:FnD K "machine_of" (top 34))
  (p24:FnD K "_law_cell_at" (top 36))
  (p25:FnD K "_law_box" (top 37))
  (p26:FnD K "_law_take" (top 38))
  (p27:FnD K "_law_many" (top 39))
  (p28:FnD K "_law_machine" (top 40))
  (p29:FnD K "_law_ring_machine" (top 41))
  (p30:FnD K "_law_bounds" (top 42))
  (p31:FnD K "_law_bits" (top 43))
  (p32:FnD K "_law_rounds" (top 44))
  (p33:FnD K "_law_any_machine" (top 45))
  (p34:FnD K "_law_parted" (top 46))
  (p35:FnD K "_law_refused" (top 47))
  (p36:FnD K "_law_blocks_right" (top 48))
  (p37:FnD K "_law_table_right" (top 49))
  (p38:FnD K "_law_right" (top 50))
  (p39:FnD K "law" (top 51))
  (z1:W.nsIn K mainGlobals "~"=some none)
  (z2:W.nsIn K mainGlobals "^"=some none)
  (z3:W.nsIn K mainGlobals "%"=some none)
  (z4:W.nsIn K mainGlobals "int"=some none)
  (z5:W.nsIn K mainGlobals "set"=some none)
  (z6:W.nsIn K mainGlobals "enumerate"=some none)
  (z7:W.nsIn K mainGlobals "tuple"=some none)
  (z8:W.nsIn K mainGlobals "len"=some none)
  (z9:W.nsIn K mainGlobals "list"=some none)
  (z10:W.nsIn K mainGlobals "range"=some none)
  (z11:W.nsIn K mainGlobals "reversed"=some none)
  (z12:W.nsIn K mainGlobals "str"=some none)
  (z13:W.nsIn K mainGlobals "!whole_blocks"=some none)
  (z14:W.nsIn K mainGlobals "abs"=some none)
  (z15:W.nsIn K mainGlobals "!table_written"=some none)
  (z16:W.nsIn K mainGlobals "ValueError"=some none)
  (z17:W.nsIn K mainGlobals "isinstance"=some none)
  (z18:W.nsIn K mainGlobals "sorted"=some none)
  (z19:W.nsIn K mainGlobals "zip"=some none)
  (z20:W.nsIn K mainGlobals "all"=some none)
  (z21:W.nsIn K mainGlobals "max"=some none)
  (z22:W.nsIn K mainGlobals "min"=some none)
  (ca1:W.nsIn K mainGlobals "NoNumber"=some (some (.ref C1)))
  (ca2:W.nsIn K mainGlobals "NoRow"=some (some (.ref C2)))
  (ca3:W.nsIn K mainGlobals "NoWindow"=some (some (.ref C3)))
  (ca4:W.nsIn K mainGlobals "BadBits"=some (some (.ref C4)))
  (ca5:W.nsIn K mainGlobals "BadBlock"=some (some (.ref C5)))
  (ca6:W.nsIn K mainGlobals "RunError"=some (some (.ref C6)))
  (ex4:W.excIn K C4 bmV "ValueError.__new__"=true)
  (xa4:W.findIn K (.ref C4) "__getattribute__"=some (some (.builtin "BaseException.__getattribute__")))
  (xb4:W.findIn K (.ref C4) "__getattr__"=some none)
  (xc4:W.findIn K (.ref C4) "__class__"=some (some (.builtin "object.__class__")))
  (xd4:W.subIn K (.ref C4) (.type "BaseException")=some true)
  (xe4:W.subIn K (.ref C4) (.type "object")=some true)
  (xf4:W.clsIn K C4=some cld4)
  (xm4:W.exmOne K (.ref C4) (.ref C6)=some true)
  (xv4:W.kitOne K (.ref C4) (.type "ValueError")=some true)
  (xk4_1:W.kitOne K (.ref C4) (.ref C1)=some false)
  (xk4_2:W.kitOne K (.ref C4) (.ref C2)=some false)
  (xk4_3:W.kitOne K (.ref C4) (.ref C3)=some false)
  (xk4_4:W.kitOne K (.ref C4) (.ref C4)=some true)
  (xk4_5:W.kitOne K (.ref C4) (.ref C5)=some false):
  ∃fd:FuncData,(∀(s:Shared) (v:Value),BindsTo s fd ⟨[v],[]⟩ [("_law_script",v)])/\∀base:Heap,K.In base->base.Ns mainGlobals mg->FnOk l.prog w K mg base CX0 60 fa fd ["_law_script"] (om' K):=by
 obtain⟨f1,g1,a1,F1⟩:=p1
 obtain⟨f2,g2,a2,F2⟩:=p2
 obtain⟨f3,g3,a3,F3⟩:=p3
 obtain⟨f4,g4,a4,F4⟩:=p4
 obtain⟨f5,g5,a5,F5⟩:=p5
 obtain⟨f6,g6,a6,F6⟩:=p6
 obtain⟨f7,g7,a7,F7⟩:=p7
 obtain⟨f8,g8,a8,F8⟩:=p8
 obtain⟨f9,g9,a9,F9⟩:=p9
 obtain⟨f10,g10,a10,F10⟩:=p10
 obtain⟨f11,g11,a11,F11⟩:=p11
 obtain⟨f12,g12,a12,F12⟩:=p12
 obtain⟨f13,g13,a13,F13⟩:=p13
 obtain⟨f14,g14,a14,F14⟩:=p14
 obtain⟨f15,g15,a15,F15⟩:=p15
 obtain⟨f16,g16,a16,F16⟩:=p16
 obtain⟨f17,g17,a17,F17⟩:=p17
 obtain⟨f18,g18,a18,F18⟩:=p18
 obtain⟨f19,g19,a19,F19⟩:=p19
 obtain⟨f20,g20,a20,F20⟩:=p20
 obtain⟨f21,g21,a21,F21⟩:=p21
 obtain⟨f22,g22,a22,F22⟩:=p22
 obtain⟨f23,g23,a23,F23⟩:=p23
 obtain⟨f24,g24,a24,F24⟩:=p24
 obtain⟨f25,g25,a25,F25⟩:=p25
 obtain⟨f26,g26,a26,F26⟩:=p26
 obtain⟨f27,g27,a27,F27⟩:=p27
 obtain⟨f28,g28,a28,F28⟩:=p28
 obtain⟨f29,g29,a29,F29⟩:=p29
 obtain⟨f30,g30,a30,F30⟩:=p30
 obtain⟨f31,g31,a31,F31⟩:=p31
 obtain⟨f32,g32,a32,F32⟩:=p32
 obtain⟨f33,g33,a33,F33⟩:=p33
 obtain⟨f34,g34,a34,F34⟩:=p34
 obtain⟨f35,g35,a35,F35⟩:=p35
 obtain⟨f36,g36,a36,F36⟩:=p36
 obtain⟨f37,g37,a37,F37⟩:=p37
 obtain⟨f38,g38,a38,F38⟩:=p38
 obtain⟨f39,g39,a39,F39⟩:=p39
 obtain⟨oc39,od39,kV39,dc39,pm39,an39,cd39,ct39,sl39,rfl,l39,c39⟩:=F39.ex
 have e:=hfa.symm.trans (W.mg_of X G a39)
 cases e
 have b1:=F1.binds (ps:=["machine","room","row"]) ⋯
 have m1:=W.mg_of X G a1
 have b2:=F2.binds (ps:=["machine","rooms"]) ⋯
 have m2:=W.mg_of X G a2
 have b3:=F3.binds (ps:=["machine","numbers"]) ⋯
 have m3:=W.mg_of X G a3
 have b4:=F4.binds (ps:=["machine"]) ⋯
 have m4:=W.mg_of X G a4
 have b5:=F5.binds (ps:=["machine","numbers","room","bit"]) ⋯
 have m5:=W.mg_of X G a5
 have b6:=F6.binds (ps:=["machine","numbers"]) ⋯
 have m6:=W.mg_of X G a6
 have b7:=F7.binds (ps:=["machine","goal","many"]) ⋯
 have m7:=W.mg_of X G a7
 have b8:=F8.binds (ps:=["machine","left","room","number"]) ⋯
 have m8:=W.mg_of X G a8
 have b9:=F9.binds (ps:=["machine","left","room","row"]) ⋯
 have m9:=W.mg_of X G a9
 have b10:=F10.binds (ps:=["row","many"]) ⋯
 have m10:=W.mg_of X G a10
 have b11:=F11.binds (ps:=["row","many"]) ⋯
 have m11:=W.mg_of X G a11
 have b12:=F12.binds (ps:=["bits"]) ⋯
 have m12:=W.mg_of X G a12
 have b13:=F13.binds (ps:=["number","many"]) ⋯
 have m13:=W.mg_of X G a13
 have b14:=F14.binds (ps:=["count","p"]) ⋯
 have m14:=W.mg_of X G a14
 have b15:=F15.binds (ps:=["count"]) ⋯
 have m15:=W.mg_of X G a15
 have b16:=F16.binds (ps:=["machine","room","many"]) ⋯
 have m16:=W.mg_of X G a16
 have b17:=F17.binds (ps:=["machine","room","many","bits"]) ⋯
 have m17:=W.mg_of X G a17
 have b18:=F18.binds (ps:=["machine","left","room","block"]) ⋯
 have m18:=W.mg_of X G a18
 have b19:=F19.binds (ps:=["machine","room","many","row"]) ⋯
 have m19:=W.mg_of X G a19
 have b20:=F20.binds (ps:=["bounds"]) ⋯
 have m20:=W.mg_of X G a20
 have b21:=F21.binds (ps:=["bounds","room","bit"]) ⋯
 have m21:=W.mg_of X G a21
 have b22:=F22.binds (ps:=["bounds","rooms"]) ⋯
 have m22:=W.mg_of X G a22
 have b23:=F23.binds (ps:=["bounds"]) ⋯
 have m23:=W.mg_of X G a23
 have b24:=F24.binds (ps:=["_law_script","_law_k"]) ⋯
 have m24:=W.mg_of X G a24
 have b25:=F25.binds (ps:=["_law_script","_law_k"]) ⋯
 have m25:=W.mg_of X G a25
 have b26:=F26.binds (ps:=["_law_box_here","_law_many_here"]) ⋯
 have m26:=W.mg_of X G a26
 have b27:=F27.binds (ps:=["_law_box_here","_law_least","_law_few","_law_most"]) ⋯
 have m27:=W.mg_of X G a27
 have b28:=F28.binds (ps:=["_law_box_here","_law_many_here"]) ⋯
 have m28:=W.mg_of X G a28
 have b29:=F29.binds (ps:=["_law_box_here","_law_many_here"]) ⋯
 have m29:=W.mg_of X G a29
 have b30:=F30.binds (ps:=["_law_box_here"]) ⋯
 have m30:=W.mg_of X G a30
 have b31:=F31.binds (ps:=["_law_box_here","_law_many_here"]) ⋯
 have m31:=W.mg_of X G a31
 have b32:=F32.binds (ps:=["_law_machine_here","_law_room","_law_many_here"]) ⋯
 have m32:=W.mg_of X G a32
 have b33:=F33.binds (ps:=["_law_box_here"]) ⋯
 have m33:=W.mg_of X G a33
 have b34:=F34.binds (ps:=["_law_row","_law_many_here"]) ⋯
 have m34:=W.mg_of X G a34
 have b35:=F35.binds (ps:=["_law_machine_here","_law_room","_law_many_here","_law_bits_here"]) ⋯
 have m35:=W.mg_of X G a35
 have b36:=F36.binds (ps:=["_law_machine_here","_law_room","_law_many_here","_law_p","_law_bits_here","_law_told"]) ⋯
 have m36:=W.mg_of X G a36
 have b37:=F37.binds (ps:=["_law_box_here","_law_machine_here","_law_room","_law_many_here","_law_p"]) ⋯
 have m37:=W.mg_of X G a37
 have b38:=F38.binds (ps:=["_law_box_here"]) ⋯
 have m38:=W.mg_of X G a38
 have m39:=W.mg_of X G a39
 have n1:=W.mg_none_of X G z1
 have n2:=W.mg_none_of X G z2
 have n3:=W.mg_none_of X G z3
 have n4:=W.mg_none_of X G z4
 have n5:=W.mg_none_of X G z5
 have n6:=W.mg_none_of X G z6
 have n7:=W.mg_none_of X G z7
 have n8:=W.mg_none_of X G z8
 have n9:=W.mg_none_of X G z9
 have n10:=W.mg_none_of X G z10
 have n11:=W.mg_none_of X G z11
 have n12:=W.mg_none_of X G z12
 have n13:=W.mg_none_of X G z13
 have n14:=W.mg_none_of X G z14
 have n15:=W.mg_none_of X G z15
 have n16:=W.mg_none_of X G z16
 have n17:=W.mg_none_of X G z17
 have n18:=W.mg_none_of X G z18
 have n19:=W.mg_none_of X G z19
 have n20:=W.mg_none_of X G z20
 have n21:=W.mg_none_of X G z21
 have n22:=W.mg_none_of X G z22
 refine⟨W.fnOf "law" "law" (d9' (top 51)) (al' (top 51)) (ab' (top 51)) .none kV39 dc39 pm39 an39 cd39 ct39,fun s v=>.of_eq rfl,fun base _ _=>?_⟩
 have mc1:=W.mg_of X G ca1
 have mc2:=W.mg_of X G ca2
 have mc3:=W.mg_of X G ca3
 have mc4:=W.mg_of X G ca4
 have mc5:=W.mg_of X G ca5
 have mc6:=W.mg_of X G ca6
 have O1:=ao' (P:=l.prog) (w:=w) (mg:=mg) (base:=base) (k:=0) F1 { N:=gG',B:=eO',K:=K,fs:=aw' [] } uq' rfl eK' x0' (sp:=f0') ⋯ (aB' mN) (mC ⟨n4,mN⟩) ⟨n1,n2,n3⟩ ⋯ ⋯ rfl rfl (nS' rfl  )
 have O2:=ao' (P:=l.prog) (w:=w) (mg:=mg) (base:=base) (k:=0) F2 { N:=dC',B:=cJ',K:=K,fs:=aw' [] } ur' rfl cF' x1' (sp:=ig') ⋯ (aB' mN) (mC ⟨n5,mN⟩) ⟨n1,n2,n3⟩ ⋯ ⋯ rfl rfl (nV' rfl  )
 have O3:=ao' (P:=l.prog) (w:=w) (mg:=mg) (base:=base) (k:=0) F3 { N:=dD',B:=cK',K:=K,fs:=aw' [] } us' rfl cG' x2' (sp:=ii') ⋯ (aB' mN) (mC ⟨n6,(mC ⟨n7,mN⟩)⟩) ⟨n1,n2,n3⟩ ⋯ ⋯ rfl rfl (nW' rfl  )
 have O4:=ao' (P:=l.prog) (w:=w) (mg:=mg) (base:=base) (k:=1) F4 { N:=dE',B:=cL',K:=K,fs:=aw' [("lasting",ig'),("part_of",ii')] } ut' rfl cH' x4' (sp:=ij') ⋯ (aB' (mC ⟨⟨_,_,_,(O2).mono ⋯,m2,F2.kp,b2⟩,(mC ⟨⟨_,_,_,(O3).mono ⋯,m3,F3.kp,b3⟩,mN⟩)⟩)) (mC ⟨n8,(mC ⟨n9,(mC ⟨n10,mN⟩)⟩)⟩) ⟨n1,n2,n3⟩ ⋯ ⋯ rfl rfl (nY' rfl (show aw' _ "lasting"=some (ig') from ad') (show aw' _ "part_of"=some (ii') from((aa' ⋯).trans ad')) )
 have O5:=ao' (P:=l.prog) (w:=w) (mg:=mg) (base:=base) (k:=0) F5 { N:=bL',B:=bl',K:=K,fs:=aw' [] } on' rfl bJ' qe' (sp:=a1' K) ⋯ (aB' mN) (mC ⟨n4,mN⟩) ⟨n1,n2,n3⟩ ⋯ ⋯ rfl rfl (jd' (C:={ N:=bL',B:=bl',K:=K,fs:=aw' [] }) rfl  )
 have O6:=ao' (P:=l.prog) (w:=w) (mg:=mg) (base:=base) (k:=1) F6 { N:=ci',B:=bS',K:=K,fs:=aw' [("behind_bit",a1' K)] } lf' rfl cf' oo' (sp:=cx' K) ⋯ (aB' (mC ⟨⟨_,_,_,(O5).mono ⋯,m5,F5.kp,b5⟩,mN⟩)) (mC ⟨n8,(mC ⟨n10,mN⟩)⟩) ⟨n1,n2,n3⟩ ⋯ ⋯ rfl rfl (gB' (C:={ N:=ci',B:=bS',K:=K,fs:=aw' [("behind_bit",a1' K)] }) rfl (show aw' _ "behind_bit"=some (a1' K) from ad') )
 have O7:=ao' (P:=l.prog) (w:=w) (mg:=mg) (base:=base) (k:=2) F7 { N:=eP',B:=d0',K:=K,fs:=aw' [("way_sums",cx' K)] } uu' rfl eL' x5' (sp:=cy' K) ⋯ (aB' (mC ⟨⟨_,_,_,(O6).mono ⋯,m6,F6.kp,b6⟩,mN⟩)) (mC ⟨n8,(mC ⟨n10,mN⟩)⟩) ⟨n1,n2,n3⟩ ⋯ ⋯ rfl rfl (nU' (C:={ N:=eP',B:=d0',K:=K,fs:=aw' [("way_sums",cx' K)] }) rfl (show aw' _ "way_sums"=some (cx' K) from ad') )
 have O8:=ao' (P:=l.prog) (w:=w) (mg:=mg) (base:=base) (k:=1) F8 { N:=cj',B:=bT',K:=K,fs:=aw' [("behind_bit",a1' K)] } lg' rfl cg' oq' (sp:=b6' K) ⋯ (aB' (mC ⟨⟨_,_,_,(O5).mono ⋯,m5,F5.kp,b5⟩,mN⟩)) (mC ⟨n11,(mC ⟨n12,mN⟩)⟩) ⟨n1,n2,n3⟩ ⋯ ⋯ rfl rfl (gE' (C:={ N:=cj',B:=bT',K:=K,fs:=aw' [("behind_bit",a1' K)] }) rfl (show aw' _ "behind_bit"=some (a1' K) from ad') )
 have O9:=ao' (P:=l.prog) (w:=w) (mg:=mg) (base:=base) (k:=1) F9 { N:=bD',B:=a7',K:=K,fs:=aw' [("behind_bit",a1' K)] } lh' rfl bC' or' (sp:=cz' K) ⋯ (aB' (mC ⟨⟨_,_,_,(O5).mono ⋯,m5,F5.kp,b5⟩,mN⟩)) (mC ⟨n6,(mC ⟨n4,(mC ⟨n8,mN⟩)⟩)⟩) ⟨n1,n2,n3⟩ ⋯ ⋯ rfl rfl (eC' (C:={ N:=bD',B:=a7',K:=K,fs:=aw' [("behind_bit",a1' K)] }) rfl (show aw' _ "behind_bit"=some (a1' K) from ad') )
 have O10:=ao' (P:=l.prog) (w:=w) (mg:=mg) (base:=base) (k:=0) F10 { N:=cM',B:=bY',K:=K,fs:=aw' [] } ot' rfl bW' qf' (sp:=aR') ⋯ (aB' mN) (mC ⟨n8,(mC ⟨n10,mN⟩)⟩) ⟨n1,n2,n3⟩ ⋯ ⋯ rfl rfl (fw' rfl  )
 have O11:=jP' (P:=l.prog) (w:=w) (mg:=mg) (base:=base) (k:=1) F11 { N:=aY',B:=aI',K:=K,fs:=aw' [("blocks_of",aR')],cl:=dk' (cX C1 C2 C3 C4 C5 C6) } qg' rfl bn' uv' (sp:=dz') ⋯ ⟨(gy' (mC ⟨⟨_,_,_,.inl ((O10).mono ⋯),m10,F10.kp,b10⟩,mN⟩)),(mC ⟨n8,mN⟩),⟨n1,n2,n3⟩,pD' (mC ⟨⟨mc1,ca1⟩,(mC ⟨⟨mc2,ca2⟩,(mC ⟨⟨mc3,ca3⟩,(mC ⟨⟨mc4,ca4⟩,(mC ⟨⟨mc5,ca5⟩,(mC ⟨⟨mc6,ca6⟩,mN⟩)⟩)⟩)⟩)⟩)⟩),⋯,⋯⟩ (lc' (C:={ N:=aY',B:=aI',K:=K,fs:=aw' [("blocks_of",aR')],cl:=dk' (cX C1 C2 C3 C4 C5 C6) }) rfl (show aw' _ "blocks_of"=some (aR') from ad') (show ClsG ({ N:=aY',B:=aI',K:=K,fs:=aw' [("blocks_of",aR')],cl:=dk' (cX C1 C2 C3 C4 C5 C6) }:Rc) "BadBits" C4 ["NoNumber","NoRow","NoWindow","BadBits","BadBlock"] from⟨(show dk' (cX C1 C2 C3 C4 C5 C6) "BadBits"=some C4 from((as' ⋯).trans ((as' ⋯).trans ((as' ⋯).trans bA')))),⟨C6,(show dk' (cX C1 C2 C3 C4 C5 C6) "RunError"=some C6 from((as' ⋯).trans ((as' ⋯).trans ((as' ⋯).trans ((as' ⋯).trans ((as' ⋯).trans bA')))))),xm4⟩,ex4,nH' xa4 xb4 xc4 xd4 xe4 xf4,xv4,(mC ⟨⟨C1,(show dk' (cX C1 C2 C3 C4 C5 C6) "NoNumber"=some C1 from bA'),(show decide (("NoNumber":Str)="BadBits")=false by decide +kernel) ▸ xk4_1⟩,(mC ⟨⟨C2,(show dk' (cX C1 C2 C3 C4 C5 C6) "NoRow"=some C2 from((as' ⋯).trans bA')),(show decide (("NoRow":Str)="BadBits")=false by decide +kernel) ▸ xk4_2⟩,(mC ⟨⟨C3,(show dk' (cX C1 C2 C3 C4 C5 C6) "NoWindow"=some C3 from((as' ⋯).trans ((as' ⋯).trans bA'))),(show decide (("NoWindow":Str)="BadBits")=false by decide +kernel) ▸ xk4_3⟩,(mC ⟨⟨C4,(show dk' (cX C1 C2 C3 C4 C5 C6) "BadBits"=some C4 from((as' ⋯).trans ((as' ⋯).trans ((as' ⋯).trans bA')))),(show decide (("BadBits":Str)="BadBits")=true by decide +kernel) ▸ xk4_4⟩,(mC ⟨⟨C5,(show dk' (cX C1 C2 C3 C4 C5 C6) "BadBlock"=some C5 from((as' ⋯).trans ((as' ⋯).trans ((as' ⋯).trans ((as' ⋯).trans bA'))))),(show decide (("BadBlock":Str)="BadBits")=false by decide +kernel) ▸ xk4_5⟩,mN⟩)⟩)⟩)⟩)⟩)⟩) )
 have O12:=ao' (P:=l.prog) (w:=w) (mg:=mg) (base:=base) (k:=0) F12 { N:=cN',B:=bZ',K:=K,fs:=aw' [] } qh' rfl bX' uw' (sp:=dA') ⋯ (aB' mN) (mC ⟨n4,mN⟩) ⟨n1,n2,n3⟩ ⋯ ⋯ rfl rfl (ld' rfl  )
 have O13:=ao' (P:=l.prog) (w:=w) (mg:=mg) (base:=base) (k:=0) F13 { N:=dF',B:=cO',K:=K,fs:=aw' [] } ou' rfl cI' qi' (sp:=dZ') ⋯ (aB' mN) (mC ⟨n10,(mC ⟨n11,(mC ⟨n12,mN⟩)⟩)⟩) ⟨n1,n2,n3⟩ ⋯ ⋯ rfl rfl (ir' rfl  )
 have O14:=ao' (P:=l.prog) (w:=w) (mg:=mg) (base:=base) (k:=0) F14 { N:=a8',B:=aM',K:=K,fs:=aw' [] } x6' rfl aN' At' (sp:=oi') ⋯ (aB' mN) mN ⟨n1,n2,n3⟩ ⋯ ⋯ rfl rfl (p8' rfl  )
 have O15:=ao' (P:=l.prog) (w:=w) (mg:=mg) (base:=base) (k:=0) F15 { N:=bE',B:=a3',K:=K,fs:=aw' [] } Au' rfl a2' B4' (sp:=lb') ⋯ (aB' mN) mN ⟨n1,n2,n3⟩ ⋯ ⋯ rfl rfl (ua' rfl  )
 have O16:=ao' (P:=l.prog) (w:=w) (mg:=mg) (base:=base) (k:=3) F16 { N:=c6',B:=ck',K:=K,fs:=aw' [("ways",cy' K),("greatest_power",lb')] } Av' rfl ch' B5' (sp:=xU') ⋯ (aB' (mC ⟨⟨_,_,_,(O7).mono ⋯,m7,F7.kp,b7⟩,(mC ⟨⟨_,_,_,(O15).mono ⋯,m15,F15.kp,b15⟩,mN⟩)⟩)) mN ⟨n1,n2,n3⟩ ⋯ ⋯ rfl rfl (ub' rfl (show aw' _ "ways"=some (cy' K) from ad') (show aw' _ "greatest_power"=some (lb') from((aa' ⋯).trans ad')) )
 have O17:=jP' (P:=l.prog) (w:=w) (mg:=mg) (base:=base) (k:=3) F17 { N:=bd',B:=aH',K:=K,fs:=aw' [("ways",cy' K),("greatest_power",lb'),("whole_blocks",dz'),("number_by",dA'),("row_left",b6' K)],cl:=dk' (cX C1 C2 C3 C4 C5 C6) } Aw' rfl be' B6' (sp:=lo') ⋯ ⟨(gy' (mC ⟨⟨_,_,_,.inl ((O7).mono ⋯),m7,F7.kp,b7⟩,(mC ⟨⟨_,_,_,.inl ((O15).mono ⋯),m15,F15.kp,b15⟩,(mC ⟨⟨_,_,_,.inr ⟨(O11).mono ⋯,(show m4' "whole_blocks"∈aH' by decide +kernel)⟩,m11,F11.kp,b11⟩,(mC ⟨⟨_,_,_,.inl ((O12).mono ⋯),m12,F12.kp,b12⟩,(mC ⟨⟨_,_,_,.inl ((O8).mono ⋯),m8,F8.kp,b8⟩,mN⟩)⟩)⟩)⟩)⟩)),(mC ⟨n13,mN⟩),⟨n1,n2,n3⟩,pD' (mC ⟨⟨mc1,ca1⟩,(mC ⟨⟨mc2,ca2⟩,(mC ⟨⟨mc3,ca3⟩,(mC ⟨⟨mc4,ca4⟩,(mC ⟨⟨mc5,ca5⟩,(mC ⟨⟨mc6,ca6⟩,mN⟩)⟩)⟩)⟩)⟩)⟩),⋯,⋯⟩ (ug' (C:={ N:=bd',B:=aH',K:=K,fs:=aw' [("ways",cy' K),("greatest_power",lb'),("whole_blocks",dz'),("number_by",dA'),("row_left",b6' K)],cl:=dk' (cX C1 C2 C3 C4 C5 C6) }) rfl (show aw' _ "ways"=some (cy' K) from ad') (show aw' _ "greatest_power"=some (lb') from((aa' ⋯).trans ad')) (show aw' _ "whole_blocks"=some (dz') from((aa' ⋯).trans ((aa' ⋯).trans ad'))) (show aw' _ "number_by"=some (dA') from((aa' ⋯).trans ((aa' ⋯).trans ((aa' ⋯).trans ad')))) (show aw' _ "row_left"=some (b6' K) from((aa' ⋯).trans ((aa' ⋯).trans ((aa' ⋯).trans ((aa' ⋯).trans ad')))))  )
 have O18:=ao' (P:=l.prog) (w:=w) (mg:=mg) (base:=base) (k:=2) F18 { N:=bo',B:=aZ',K:=K,fs:=aw' [("walk",f0'),("number_left",cz' K)] } Ax' rfl bp' B7' (sp:=xZ' K) ⋯ (aB' (mC ⟨⟨_,_,_,(O1).mono ⋯,m1,F1.kp,b1⟩,(mC ⟨⟨_,_,_,(O9).mono ⋯,m9,F9.kp,b9⟩,mN⟩)⟩)) (mC ⟨n8,mN⟩) ⟨n1,n2,n3⟩ ⋯ ⋯ rfl rfl (ui' (C:={ N:=bo',B:=aZ',K:=K,fs:=aw' [("walk",f0'),("number_left",cz' K)] }) rfl (show aw' _ "walk"=some (f0') from ad') (show aw' _ "number_left"=some (cz' K) from((aa' ⋯).trans ad')) )
 have O19:=ao' (P:=l.prog) (w:=w) (mg:=mg) (base:=base) (k:=3) F19 { N:=cr',B:=bM',K:=K,fs:=aw' [("ways",cy' K),("greatest_power",lb'),("blocks_of",aR'),("round_number",xZ' K),("is_power_at_least",oi'),("bits_by",dZ')] } Ay' rfl bN' B8' (sp:=uI') ⋯ (aB' (mC ⟨⟨_,_,_,(O7).mono ⋯,m7,F7.kp,b7⟩,(mC ⟨⟨_,_,_,(O15).mono ⋯,m15,F15.kp,b15⟩,(mC ⟨⟨_,_,_,(O10).mono ⋯,m10,F10.kp,b10⟩,(mC ⟨⟨_,_,_,(O18).mono ⋯,m18,F18.kp,b18⟩,(mC ⟨⟨_,_,_,(O14).mono ⋯,m14,F14.kp,b14⟩,(mC ⟨⟨_,_,_,(O13).mono ⋯,m13,F13.kp,b13⟩,mN⟩)⟩)⟩)⟩)⟩)⟩)) (mC ⟨n6,mN⟩) ⟨n1,n2,n3⟩ ⋯ ⋯ rfl rfl (uj' rfl (show aw' _ "ways"=some (cy' K) from ad') (show aw' _ "greatest_power"=some (lb') from((aa' ⋯).trans ad')) (show aw' _ "blocks_of"=some (aR') from((aa' ⋯).trans ((aa' ⋯).trans ad'))) (show aw' _ "round_number"=some (xZ' K) from((aa' ⋯).trans ((aa' ⋯).trans ((aa' ⋯).trans ad')))) (show aw' _ "is_power_at_least"=some (oi') from((aa' ⋯).trans ((aa' ⋯).trans ((aa' ⋯).trans ((aa' ⋯).trans ad'))))) (show aw' _ "bits_by"=some (dZ') from((aa' ⋯).trans ((aa' ⋯).trans ((aa' ⋯).trans ((aa' ⋯).trans ((aa' ⋯).trans ad')))))) )
 have O20:=ao' (P:=l.prog) (w:=w) (mg:=mg) (base:=base) (k:=0) F20 { N:=bt',B:=aW',K:=K,fs:=aw' [] } x7' rfl aV' Az' (sp:=nZ') ⋯ (aB' mN) (mC ⟨n9,(mC ⟨n10,mN⟩)⟩) ⟨n1,n2,n3⟩ ⋯ ⋯ rfl rfl (pX' rfl  )
 have O21:=ao' (P:=l.prog) (w:=w) (mg:=mg) (base:=base) (k:=0) F21 { N:=b7',B:=bF',K:=K,fs:=aw' [] } AA' rfl bB' B9' (sp:=xN') ⋯ (aB' mN) mN ⟨n1,n2,n3⟩ ⋯ ⋯ rfl rfl (t3' rfl  )
 have O22:=ao' (P:=l.prog) (w:=w) (mg:=mg) (base:=base) (k:=1) F22 { N:=a9',B:=aO',K:=K,fs:=aw' [("room_behind",xN')] } x9' rfl aL' AB' (sp:=n1') ⋯ (aB' (mC ⟨⟨_,_,_,(O21).mono ⋯,m21,F21.kp,b21⟩,mN⟩)) (mC ⟨n6,(mC ⟨n7,mN⟩)⟩) ⟨n1,n2,n3⟩ ⋯ ⋯ rfl rfl (pY' rfl (show aw' _ "room_behind"=some (xN') from ad') )
 have O23:=ao' (P:=l.prog) (w:=w) (mg:=mg) (base:=base) (k:=2) F23 { N:=cs',B:=bO',K:=K,fs:=aw' [("trimmed",ij'),("machine_in_bounds",n1'),("rooms_in_bounds",nZ')] } ya' rfl bK' AC' (sp:=n2') ⋯ (aB' (mC ⟨⟨_,_,_,(O4).mono ⋯,m4,F4.kp,b4⟩,(mC ⟨⟨_,_,_,(O22).mono ⋯,m22,F22.kp,b22⟩,(mC ⟨⟨_,_,_,(O20).mono ⋯,m20,F20.kp,b20⟩,mN⟩)⟩)⟩)) mN ⟨n1,n2,n3⟩ ⋯ ⋯ rfl rfl (pZ' rfl (show aw' _ "trimmed"=some (ij') from ad') (show aw' _ "machine_in_bounds"=some (n1') from((aa' ⋯).trans ad')) (show aw' _ "rooms_in_bounds"=some (nZ') from((aa' ⋯).trans ((aa' ⋯).trans ad'))) )
 have O24:=ao' (P:=l.prog) (w:=w) (mg:=mg) (base:=base) (k:=0) F24 { N:=d1',B:=c7',K:=K,fs:=aw' [] } ux' rfl dW' yb' (sp:=fX' K) ⋯ (aB' mN) (mC ⟨n8,mN⟩) ⟨n1,n2,n3⟩ ⋯ ⋯ rfl rfl (nN' (C:={ N:=d1',B:=c7',K:=K,fs:=aw' [] }) rfl  )
 have O25:=xH' (ao' (P:=l.prog) (w:=w) (mg:=mg) (base:=base) (k:=1) F25 { N:=p5',B:=od',K:=K,fs:=aw' [("_law_cell_at",fX' K)] } yc' rfl pP' AD' (sp:=nO' K) ⋯ (aB' (mC ⟨⟨_,_,_,(O24).mono ⋯,m24,F24.kp,b24⟩,mN⟩)) (mC ⟨n14,(mC ⟨n4,mN⟩)⟩) ⟨n1,n2,n3⟩ ⋯ ⋯ rfl rfl (pR' (C:={ N:=p5',B:=od',K:=K,fs:=aw' [("_law_cell_at",fX' K)] }) rfl (show aw' _ "_law_cell_at"=some (fX' K) from ad') ))
 have O26:=tV' rfl (ao' (P:=l.prog) (w:=w) (mg:=mg) (base:=base) (k:=0) F26 { N:=oe',B:=kp',K:=K,fs:=aw' [] } uy' rfl kh' yd' (sp:=gA') ⋯ (aB' mN) mN ⟨n1,n2,n3⟩ ⋯ ⋯ rfl rfl (nP' rfl  ))
 have O27:=ao' (P:=l.prog) (w:=w) (mg:=mg) (base:=base) (k:=1) F27 { N:=of',B:=kq',K:=K,fs:=aw' [("_law_take",aK')] } uz' rfl ki' ye' (sp:=ie') ⋯ (aB' (mC ⟨⟨_,_,_,(O26).mono ⋯,m26,F26.kp,b26⟩,mN⟩)) mN ⟨n1,n2,n3⟩ ⋯ ⋯ rfl rfl (nQ' rfl (show aw' _ "_law_take"=some (aK') from ad') )
 have O28:=ao' (P:=l.prog) (w:=w) (mg:=mg) (base:=base) (k:=1) F28 { N:=fx',B:=d2',K:=K,fs:=aw' [("_law_take",aK')] } li' rfl dX' ov' (sp:=dl' 1 60 400) ⋯ (aB' (mC ⟨⟨_,_,_,(O26).mono ⋯,m26,F26.kp,b26⟩,mN⟩)) (mC ⟨n4,(mC ⟨n10,(mC ⟨n7,mN⟩)⟩)⟩) ⟨n1,n2,n3⟩ ⋯ ⋯ rfl rfl (if' rfl (show aw' _ "_law_take"=some (aK') from ad') )
 have O29:=ao' (P:=l.prog) (w:=w) (mg:=mg) (base:=base) (k:=1) F29 { N:=ct',B:=bP',K:=K,fs:=aw' [("_law_take",aK')] } uA' rfl bk' yf' (sp:=dl' 1 60 400) ⋯ (aB' (mC ⟨⟨_,_,_,(O26).mono ⋯,m26,F26.kp,b26⟩,mN⟩)) (mC ⟨n6,(mC ⟨n4,(mC ⟨n10,(mC ⟨n7,mN⟩)⟩)⟩)⟩) ⟨n1,n2,n3⟩ ⋯ ⋯ rfl rfl (nR' rfl (show aw' _ "_law_take"=some (aK') from ad') )
 have O30:=ao' (P:=l.prog) (w:=w) (mg:=mg) (base:=base) (k:=1) F30 { N:=gH',B:=eQ',K:=K,fs:=aw' [("_law_take",aK')] } ow' rfl eN' qj' (sp:=dY') ⋯ (aB' (mC ⟨⟨_,_,_,(O26).mono ⋯,m26,F26.kp,b26⟩,mN⟩)) mN ⟨n1,n2,n3⟩ ⋯ ⋯ rfl rfl (jg' rfl (show aw' _ "_law_take"=some (aK') from ad') )
 have O31:=ao' (P:=l.prog) (w:=w) (mg:=mg) (base:=base) (k:=1) F31 { N:=og',B:=kr',K:=K,fs:=aw' [("_law_take",aK')] } uB' rfl kk' yg' (sp:=fr') ⋯ (aB' (mC ⟨⟨_,_,_,(O26).mono ⋯,m26,F26.kp,b26⟩,mN⟩)) (mC ⟨n10,mN⟩) ⟨n1,n2,n3⟩ ⋯ ⋯ rfl rfl (nT' rfl (show aw' _ "_law_take"=some (aK') from ad') )
 have O32:=ao' (P:=l.prog) (w:=w) (mg:=mg) (base:=base) (k:=0) F32 { N:=gI',B:=eR',K:=K,fs:=aw' [] } ox' rfl eS' qk' (sp:=d5') ⋯ (aB' mN) (mC ⟨n10,mN⟩) ⟨n1,n2,n3⟩ ⋯ ⋯ rfl rfl (jm' rfl  )
 have O33:=ao' (P:=l.prog) (w:=w) (mg:=mg) (base:=base) (k:=3) F33 { N:=cP',B:=b0',K:=K,fs:=aw' [("_law_take",aK'),("machine_of",n2'),("_law_bounds",dY'),("_law_many",ie'),("_law_machine",dl' 1 60 400),("_law_ring_machine",dl' 1 60 400)] } uC' rfl bV' yh' (sp:=ip') ⋯ (aB' (mC ⟨⟨_,_,_,(O26).mono ⋯,m26,F26.kp,b26⟩,(mC ⟨⟨_,_,_,(O23).mono ⋯,m23,F23.kp,b23⟩,(mC ⟨⟨_,_,_,(O30).mono ⋯,m30,F30.kp,b30⟩,(mC ⟨⟨_,_,_,(O27).mono ⋯,m27,F27.kp,b27⟩,(mC ⟨⟨_,_,_,(O28).mono ⋯,m28,F28.kp,b28⟩,(mC ⟨⟨_,_,_,(O29).mono ⋯,m29,F29.kp,b29⟩,mN⟩)⟩)⟩)⟩)⟩)⟩)) (mC ⟨n8,mN⟩) ⟨n1,n2,n3⟩ ⋯ ⋯ rfl rfl (n8' rfl (show aw' _ "_law_take"=some (aK') from ad') (show aw' _ "machine_of"=some (n2') from((aa' ⋯).trans ad')) (show aw' _ "_law_bounds"=some (dY') from((aa' ⋯).trans ((aa' ⋯).trans ad'))) (show aw' _ "_law_many"=some (ie') from((aa' ⋯).trans ((aa' ⋯).trans ((aa' ⋯).trans ad')))) (show aw' _ "_law_machine"=some (dl' 1 60 400) from((aa' ⋯).trans ((aa' ⋯).trans ((aa' ⋯).trans ((aa' ⋯).trans ad'))))) (show aw' _ "_law_ring_machine"=some (dl' 1 60 400) from((aa' ⋯).trans ((aa' ⋯).trans ((aa' ⋯).trans ((aa' ⋯).trans ((aa' ⋯).trans ad')))))) )
 have O34:=ao' (P:=l.prog) (w:=w) (mg:=mg) (base:=base) (k:=0) F34 { N:=gJ',B:=eT',K:=K,fs:=aw' [] } oy' rfl gK' ql' (sp:=aR') ⋯ (aB' mN) (mC ⟨n8,(mC ⟨n10,mN⟩)⟩) ⟨n1,n2,n3⟩ ⋯ ⋯ rfl rfl (jn' rfl  )
 have O35:=i5' (P:=l.prog) (w:=w) (mg:=mg) (base:=base) (k:=4) F35 { N:=c8',B:=b8',K:=K,fs:=aw' [("table_written",lo')],cl:=dk' (cX C1 C2 C3 C4 C5 C6) } lj' rfl d3' oz' (sp:=jh') ⋯ ⟨(gy' (mC ⟨⟨_,_,_,.inr ⟨(O17).mono ⋯,(show m4' "table_written"∈b8' by decide +kernel)⟩,m17,F17.kp,b17⟩,mN⟩)),(mC ⟨n15,(mC ⟨n16,(mC ⟨n17,mN⟩)⟩)⟩),⟨n1,n2,n3⟩,pD' (mC ⟨⟨mc1,ca1⟩,(mC ⟨⟨mc2,ca2⟩,(mC ⟨⟨mc3,ca3⟩,(mC ⟨⟨mc4,ca4⟩,(mC ⟨⟨mc5,ca5⟩,(mC ⟨⟨mc6,ca6⟩,mN⟩)⟩)⟩)⟩)⟩)⟩),⋯,⋯⟩ rfl (qa' (C:={ N:=c8',B:=b8',K:=K,fs:=aw' [("table_written",lo')],cl:=dk' (cX C1 C2 C3 C4 C5 C6) }) rfl (show aw' _ "table_written"=some (lo') from ad') (show ClsG ({ N:=c8',B:=b8',K:=K,fs:=aw' [("table_written",lo')],cl:=dk' (cX C1 C2 C3 C4 C5 C6) }:Rc) "BadBits" C4 ["NoNumber","NoRow","NoWindow","BadBits","BadBlock"] from⟨(show dk' (cX C1 C2 C3 C4 C5 C6) "BadBits"=some C4 from((as' ⋯).trans ((as' ⋯).trans ((as' ⋯).trans bA')))),⟨C6,(show dk' (cX C1 C2 C3 C4 C5 C6) "RunError"=some C6 from((as' ⋯).trans ((as' ⋯).trans ((as' ⋯).trans ((as' ⋯).trans ((as' ⋯).trans bA')))))),xm4⟩,ex4,nH' xa4 xb4 xc4 xd4 xe4 xf4,xv4,(mC ⟨⟨C1,(show dk' (cX C1 C2 C3 C4 C5 C6) "NoNumber"=some C1 from bA'),(show decide (("NoNumber":Str)="BadBits")=false by decide +kernel) ▸ xk4_1⟩,(mC ⟨⟨C2,(show dk' (cX C1 C2 C3 C4 C5 C6) "NoRow"=some C2 from((as' ⋯).trans bA')),(show decide (("NoRow":Str)="BadBits")=false by decide +kernel) ▸ xk4_2⟩,(mC ⟨⟨C3,(show dk' (cX C1 C2 C3 C4 C5 C6) "NoWindow"=some C3 from((as' ⋯).trans ((as' ⋯).trans bA'))),(show decide (("NoWindow":Str)="BadBits")=false by decide +kernel) ▸ xk4_3⟩,(mC ⟨⟨C4,(show dk' (cX C1 C2 C3 C4 C5 C6) "BadBits"=some C4 from((as' ⋯).trans ((as' ⋯).trans ((as' ⋯).trans bA')))),(show decide (("BadBits":Str)="BadBits")=true by decide +kernel) ▸ xk4_4⟩,(mC ⟨⟨C5,(show dk' (cX C1 C2 C3 C4 C5 C6) "BadBlock"=some C5 from((as' ⋯).trans ((as' ⋯).trans ((as' ⋯).trans ((as' ⋯).trans bA'))))),(show decide (("BadBlock":Str)="BadBits")=false by decide +kernel) ▸ xk4_5⟩,mN⟩)⟩)⟩)⟩)⟩)⟩) )
 have O36:=ao' (P:=l.prog) (w:=w) (mg:=mg) (base:=base) (k:=1) F36 { N:=cu',B:=bQ',K:=K,fs:=aw' [("_law_parted",aR'),("_law_rounds",d5')] } AE' rfl bR' Cb' (sp:=uJ') ⋯ (aB' (mC ⟨⟨_,_,_,(O34).mono ⋯,m34,F34.kp,b34⟩,(mC ⟨⟨_,_,_,(O32).mono ⋯,m32,F32.kp,b32⟩,mN⟩)⟩)) (mC ⟨n4,(mC ⟨n8,(mC ⟨n18,(mC ⟨n19,mN⟩)⟩)⟩)⟩) ⟨n1,n2,n3⟩ ⋯ ⋯ rfl rfl (uo' rfl (show aw' _ "_law_parted"=some (aR') from ad') (show aw' _ "_law_rounds"=some (d5') from((aa' ⋯).trans ad')) )
 have O37:=i5' (P:=l.prog) (w:=w) (mg:=mg) (base:=base) (k:=5) F37 { N:=b1',B:=bf',K:=K,fs:=aw' [("_law_take",aK'),("_law_bits",fr'),("table_written",lo'),("table_read",uI'),("_law_blocks_right",uJ'),("_law_refused",jh')],cl:=dk' (cX C1 C2 C3 C4 C5 C6) } yi' rfl b2' AF' (sp:=ol') ⋯ ⟨(gy' (mC ⟨⟨_,_,_,.inl ((O26).mono ⋯),m26,F26.kp,b26⟩,(mC ⟨⟨_,_,_,.inl ((O31).mono ⋯),m31,F31.kp,b31⟩,(mC ⟨⟨_,_,_,.inr ⟨(O17).mono ⋯,(show m4' "table_written"∈bf' by decide +kernel)⟩,m17,F17.kp,b17⟩,(mC ⟨⟨_,_,_,.inl ((O19).mono ⋯),m19,F19.kp,b19⟩,(mC ⟨⟨_,_,_,.inl ((O36).mono ⋯),m36,F36.kp,b36⟩,(mC ⟨⟨_,_,_,.inl ((O35).mono ⋯),m35,F35.kp,b35⟩,mN⟩)⟩)⟩)⟩)⟩)⟩)),(mC ⟨n15,(mC ⟨n20,(mC ⟨n4,(mC ⟨n17,(mC ⟨n21,(mC ⟨n12,mN⟩)⟩)⟩)⟩)⟩)⟩),⟨n1,n2,n3⟩,pD' (mC ⟨⟨mc1,ca1⟩,(mC ⟨⟨mc2,ca2⟩,(mC ⟨⟨mc3,ca3⟩,(mC ⟨⟨mc4,ca4⟩,(mC ⟨⟨mc5,ca5⟩,(mC ⟨⟨mc6,ca6⟩,mN⟩)⟩)⟩)⟩)⟩)⟩),⋯,⋯⟩ rfl (qc' (C:={ N:=b1',B:=bf',K:=K,fs:=aw' [("_law_take",aK'),("_law_bits",fr'),("table_written",lo'),("table_read",uI'),("_law_blocks_right",uJ'),("_law_refused",jh')],cl:=dk' (cX C1 C2 C3 C4 C5 C6) }) rfl ⟨(show aw' _ "_law_take"=some (aK') from ad'),(show aw' _ "_law_bits"=some (fr') from((aa' ⋯).trans ad')),(show aw' _ "table_written"=some (lo') from((aa' ⋯).trans ((aa' ⋯).trans ad'))),(show aw' _ "table_read"=some (uI') from((aa' ⋯).trans ((aa' ⋯).trans ((aa' ⋯).trans ad')))),(show aw' _ "_law_blocks_right"=some (uJ') from((aa' ⋯).trans ((aa' ⋯).trans ((aa' ⋯).trans ((aa' ⋯).trans ad'))))),(show aw' _ "_law_refused"=some (jh') from((aa' ⋯).trans ((aa' ⋯).trans ((aa' ⋯).trans ((aa' ⋯).trans ((aa' ⋯).trans ad'))))))⟩  )
 have O38:=ao' (P:=l.prog) (w:=w) (mg:=mg) (base:=base) (k:=6) F38 { N:=ji',B:=gL',K:=K,fs:=aw' [("_law_take",aK'),("_law_any_machine",ip'),("bits_for",xU'),("_law_table_right",ol')] } qm' rfl gM' uD' (sp:=dB') ⋯ (aB' (mC ⟨⟨_,_,_,(O26).mono ⋯,m26,F26.kp,b26⟩,(mC ⟨⟨_,_,_,(O33).mono ⋯,m33,F33.kp,b33⟩,(mC ⟨⟨_,_,_,(O16).mono ⋯,m16,F16.kp,b16⟩,(mC ⟨⟨_,_,_,(O37).mono ⋯,m37,F37.kp,b37⟩,mN⟩)⟩)⟩)⟩)) (mC ⟨n8,mN⟩) ⟨n1,n2,n3⟩ ⋯ ⋯ rfl rfl (le' rfl (show aw' _ "_law_take"=some (aK') from ad') (show aw' _ "_law_any_machine"=some (ip') from((aa' ⋯).trans ad')) (show aw' _ "bits_for"=some (xU') from((aa' ⋯).trans ((aa' ⋯).trans ad'))) (show aw' _ "_law_table_right"=some (ol') from((aa' ⋯).trans ((aa' ⋯).trans ((aa' ⋯).trans ad')))) )
 exact ao' (P:=l.prog) (w:=w) (mg:=mg) (base:=base) (k:=59) F39 { N:=p6',B:=oh',K:=K,fs:=aw' [("_law_box",k7' K),("_law_right",dB')] } yj' rfl p7' AG' (sp:=om' K) ⋯ (aB' (mC ⟨⟨_,_,_,(O25).mono ⋯,m25,F25.kp,b25⟩,(mC ⟨⟨_,_,_,(O38).mono ⋯,m38,F38.kp,b38⟩,mN⟩)⟩)) (mC ⟨n8,(mC ⟨n21,(mC ⟨n22,(mC ⟨n10,mN⟩)⟩)⟩)⟩) ⟨n1,n2,n3⟩ ⋯ ⋯ rfl rfl (qd' (C:={ N:=p6',B:=oh',K:=K,fs:=aw' [("_law_box",k7' K),("_law_right",dB')] }) rfl (show aw' _ "_law_box"=some (k7' K) from ad') (show aw' _ "_law_right"=some (dB') from((aa' ⋯).trans ad')) )
theorem Cc' {l:W.OpenLaw} {q:Program} {loose:List Str} {XP:(Str->Option Value)->Heap->Prop} {d:DefRec} {K:Params->W.Frag} {bs:List Addr} {m t:Nat} (hn:l.most=some 63) (hdf:d.params.defaults=[]) (e:∀P,bs=(K P).map (·.1))
  (F:∀(w:World) (mg:Str->Option Value) (fa:Addr) (h:Heap),(K w.params).In h->h.Ns mainGlobals mg->mg d.name=some (.ref fa)->
   ∃fd:FuncData,(∀(s:Shared) (u:Value),BindsTo s fd ⟨[u],[]⟩ [("_law_script",u)])/\∀base:Heap,(K w.params).In base->base.Ns mainGlobals mg->FnOk l.prog w (K w.params) mg base CX0 60 fa fd ["_law_script"] (om' (K w.params))):
  W.WalkX q loose XP (W.X.obsZ bs) (W.X.valZ K m t) l.row.toRowW d [] (fun f vs=>PySem.call f vs):=
 fun w s₀ s₁ mg mb G y a o pm cd doc dV kV h1 h2 h3 h4 h5 h6 args vals cs La=>L2.sG' (YP:=fun w h=>(K w.params).In h) (n:=63) (k:=60) (x:="_law_script") (CX:=fun _=>CX0) (sp:=fun w=>om' (K w.params)) hn (by decide) hdf ⟨rfl,by decide,by decide,rfl⟩ (fun _ _ Y=>Y) F (fun _ _ a ns hl _ hS=>⟨a,ns,rfl,hS,hl,fun _=>rfl⟩) (fun _ _ _ _ _ z=>z) w s₀ s₁ mg mb G (W.InK.keeps w _ _ (W.X.z_facts e y).2.1 La.keeps) a o pm cd doc dV kV h1 h2 h3 h4 h5 h6 args vals cs
end K35
end
open PySem PySem.W PyProof.Rows
namespace PySem.W.Fast
noncomputable section
def tw1265383156834543017:=0
def tw3561721675668386415:=0
def tw709588574629715073:=0
def tw5573894823383516876:=0
def tw6885554654979646006:=0
def tw16537697525413259897:=0
def tw2055893026910018114:=0
def tw3365526599391704522:=0
def tw1989441233201178276:=0
def tw9492440978001883332:=0
def tw3662065986668718140:=0
def tw8230523349295584097:=0
def tw1353785415880876844:=0
def tw11941214268056507816:=0
def tw13276168876757969917:=0
def tw7105034254361944077:=0
def tw865323977092562842:=0
def tw5013555581129570673:=0
def tw11286632952171737085:=0
def tw4574233419993311958:=0
def tw15483120313048658804:=0
def tw8710898991405495436:=0
def tw7608385018640367354:=0
def tw3618856908635504838:=0
def tw2537287450329043068:=0
def tw4580009057112392921:=0
def tw1464334573657110693:=0
def tw17627867849602644497:=0
def tw1596119895986316872:=0
def tw11908604419100429371:=0
def tw12273869546391198401:=0
def tw7248006353466154577:=0
def tw8787059700825754357:=0
def tw5262313286124736653:=0
def tw9210387948339134944:=0
def tw17282647282009495707:=0
def tw3421211528271169342:=0
def tw22279119462190893:=0
def tw18287670260838910863:=0
def tw15756734295756017245:=0
def tw2104402325223073385:=0
def tw7920745223164122070:=0
def tw13722488534833214881:=0
def tw1745100778362252523:=0
def tw13450673669536960011:=0
def tw2423802639804703462:=0
def tw7756444249332808045:=0
def tw7944261544835109725:=0
def tw13319937681567993356:=0
def tw9056811703397361331:=0
def tw2248581157711419507:=0
def tw12534097171858319994:=0
def tw8391517181158032064:=0
def tw1281195786785619524:=0
def tw5077322309279354013:=0
def tw18134877164565642253:=0
def tw17178434464741998363:=0
def tw11573761199418616551:=0
def tw12569152383983244034:=0
def tw15537764863757539906:=0
def tw13548206271210107653:=0
def tw9910242515337285429:=0
def tw4777492478712974609:=0
def tw16917493720397992056:=0
def tw2979665062152471814:=0
end
end PySem.W.Fast
set_option maxRecDepth 100000 in
set_option maxHeartbeats 0 in
theorem PySem.Challenge.cw_runbound_k35_tables_written_holds : PySem.Challenge.rw_runbound_k35_tables_written.Holds := by
 w_on; o_law; z_head; (case hw => w_witness2)
 k_fill
 refine K35.Cc' (l := PySem.Challenge.rw_runbound_k35_tables_written) rfl rfl (fun _ => rfl) ?F
 case F =>
  intro w mg fa h KX G hmg
  refine' K35.yk' KX G hmg (K35.av' _ _ _ _) (K35.av' _ _ _ _) (K35.av' _ _ _ _) (K35.av' _ _ _ _) (K35.av' _ _ _ _) (K35.av' _ _ _ _) (K35.av' _ _ _ _) (K35.av' _ _ _ _) (K35.av' _ _ _ _) (K35.av' _ _ _ _) (K35.av' _ _ _ _) (K35.av' _ _ _ _) (K35.av' _ _ _ _) (K35.av' _ _ _ _) (K35.av' _ _ _ _) (K35.av' _ _ _ _) (K35.av' _ _ _ _) (K35.av' _ _ _ _) (K35.av' _ _ _ _) (K35.av' _ _ _ _) (K35.av' _ _ _ _) (K35.av' _ _ _ _) (K35.av' _ _ _ _) (K35.av' _ _ _ _) (K35.av' _ _ _ _) (K35.av' _ _ _ _) (K35.av' _ _ _ _) (K35.av' _ _ _ _) (K35.av' _ _ _ _) (K35.av' _ _ _ _) (K35.av' _ _ _ _) (K35.av' _ _ _ _) (K35.av' _ _ _ _) (K35.av' _ _ _ _) (K35.av' _ _ _ _) (K35.av' _ _ _ _) (K35.av' _ _ _ _) (K35.av' _ _ _ _) (K35.av' _ _ _ _) _ _ _ _ _ _ _ _ _ _ _ _ _ _ _ _ _ _ _ _ _ _ _ _ _ _ _ _ ?ex4 _ _ _ _ _ _ ?xm4 ?xv4 ?xk4_1 ?xk4_2 ?xk4_3 ?xk4_4 ?xk4_5
  all_goals try k_is
  all_goals try k_is
  (case ex4 => k_exc)
  (case xm4 => kts_exm)
  (case xv4 => kit_is)
  (case xk4_1 => kit_is)
  (case xk4_2 => kit_is)
  (case xk4_3 => kit_is)
  (case xk4_4 => kit_is)
  (case xk4_5 => kit_is)
