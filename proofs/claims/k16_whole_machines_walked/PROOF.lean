import PyProof.Rows.All
import Wide.All
import OpenK.AllK
import Wide.FinOn
import Lean
import PyProof.EqAt
import PyProof.EqKinds
import PyProof.TupleCall
import KE.KDictList
import PyProof.Rows.TupAdd
import PyProof.Rows.SortStr
import PyProof.Rows.SortWalk
import PyProof.CollectIter
import PyProof.Rows.Tup
import PyProof.TupleOfSeq
import PyProof.ReprRoads
import PyProof.CallStr
import PyProof.SeqRoads2
import KE.KSortTup
import PyProof.SetRoads
import PyProof.Rows.SetFrom
import PyProof.TupleKey
import PyProof.IsRules
import KE.KSetDisp
import PyProof.Rows.SortShell
import PyProof.DictFindH
import KE.KUnpack
import PyProof.IsiH_list
import PyProof.FactsAll.dict_1
import PySem.Challenge.RW_runbound_k16_whole_machines_walked
local macro_rules | `(⋯) => `(by first | decide +kernel | omega | (dsimp only; decide +kernel) | walk_at "b" | walk_at "o")
open List renaming getElem?_eq_getElem → aa,length_map → ae,mem_append_right → ai,length_append → aj,size_toArray → ak,getElem?_map → al,mem_append → am,mem_cons_of_mem → aq,mem_cons → au,range → av,mem_cons_self → aw,mem_of_getElem? → az,not_mem_nil → aA,getElem?_eq_some_iff → aB,mem_append_left → aE,getD_eq_getElem?_getD → aF,mem_range → aI,map_cons → aJ,replicate → aK,take_append_drop → aM,map_append → aN,mem_singleton → aO,mem_map → aP,length_take → aQ,length_cons → aR,length_range → aV,getElem?_eq_none → aZ,append_assoc → ba,getElem?_eq_none_iff → bg,getElem?_range → bh,getElem?_of_mem → bi,pairwise_append → bj,take_length → bm,idxOf_lt_length_of_mem → bp,getElem?_append_left → br,pairwise_iff_getElem → bv,take_succ → bx,zip → bB,mem_filter → bC,length_singleton → bD,length_filter_le → bE,lookup_cons → bG,take_of_length_le → bK,all_eq_true → bV,getElem_mem → bW,flatten_cons → bY,ext_getElem? → bZ,filter_append → ci,eq_nil_of_length_eq_zero → cj,getElem?_set_ne → ck,mem_iff_getElem → cm,pairwise_map → cu,filterMap_cons → cv,range_succ → cw,any_eq_true → cx,filter_cons → cy,mem_flatMap → cz,any_cons → cA,append_nil → cC,nodup_cons → cD,getElem_take → cF,replicate_succ → cH,getElem_of_mem → cI,pairwise_singleton → cJ,length_drop → cK,countP_cons → cL,nodup_nil → cM,pairwise_lt_range → cN,mem_filterMap → cO,getElem_idxOf → cQ,find?_cons → cS,getElem_drop → cW,nodup_append → cZ,flatMap_cons → da,mem_of_mem_drop → db,mem_of_mem_take → dc,cons_append → df,length → dh,map_map → dk,all_cons → dm
open PySem renaming wpAny_bind → ab,wpAny_pure → ag,wpAny_holding → aT,wpAny_callSpecial?_slot → bf,wpAny_field → bn,wpAny_call_entry → bF,wpAny_newObj_type → bH,wpAny_seqItems → bL,wpAny_standAt → bO,wpAny_pyIter_tuple → bR,wpAny_truthy_bool → bX,wpAny_setField_rec → cg,wpAny_passesOwn → cB,wpAny_setState_of → cG,wpAny_mono → di
open PySem.Heap renaming get?_push_of_some → ac,lt_size → ax,get?_push_size → aC,size_push → bu,SameBut → bU,get?_update_self → cR
open Bool renaming and_eq_true → af,false_ne_true → ay,not_eq_true' → bw,false_eq_true → bJ,or_eq_true → bN,eq_iff_iff → bQ
open Nat renaming le_refl → ah,lt_of_lt_of_le → ao,ne_of_lt → aH,zero_le → aL,le_trans → aS,le_of_lt → aX,lt_or_ge → aY,lt_irrefl → bc,le_add_right → bq,lt_of_le_of_lt → bA,not_lt_zero → bM,ne_of_gt → bP,le_of_lt_succ → cc,mul_assoc → cq,pow_succ → cT,lt_succ_of_lt → cV,lt_trichotomy → cY,lt_succ_self → de,mod_eq_of_lt → dg,mul_comm → dj
open Array renaming getElem?_eq_getElem → aD,length_toList → aG,toList_append → bb,getElem?_eq_some_iff → bd,getD_eq_getD_getElem? → bo,mem_toList_iff → bT,getElem?_toList → ce,mem_of_getElem? → cU,toList_push → cX
open Int renaming eq_ofNat_of_zero_le → aU,toNat_natCast → bI,emod_lt_of_pos → cP
open Option renaming map_eq_some_iff → aW,isSome_iff_exists → cf,map_some → cE
set_option genSizeOf false
set_option Elab.async false
set_option compiler.extract_closed false
set_option linter.all false
set_option maxRecDepth 100000
set_option tactic.hygienic false
namespace L2
open PySem PySem.Spec PyProof.Rows
section
variable {prog:Program} {w:World} {A:Around} {E:Value->Shared->Prop} {s:Shared}
theorem bw' (s:Shared):s.TypeIs .none "NoneType":=rfl
theorem dV' {Q:Int->Shared->Prop} (h:Q 0xFCA86420 { s with toks:=s.toks+1 }):wpAny (model prog w) A (pyHash .none) Q E s:=by
 unfold pyHash
 have hv:[Value.none].any Value.onHeap=false:=rfl
 refine ab ?_
 rw[cRoomFor,if_neg (by rw[hv];exact ay)];refine ag ?_
 refine ab (wpAny_specialOf (bw' s) F.slot_NoneType_hash.lookup ?_)
 show wpAny _ _ (if(some (Value.builtin "NoneType.__hash__") == some Value.none)=true then _ else _) Q E s
 rw[if_neg (by rw[beq_builtin_none];exact ay)]
 refine ab (wpAny_specialOf (bw' s) F.slot_NoneType_hash.lookup ?_)
 show wpAny _ _ (callSpecialIfBoundUnlessNone? (.none) "__hash__" _ >>= _) Q E s
 refine ab (wpAny_callSpecialIfBoundUnlessNone?_slot (bw' s) F.slot_NoneType_hash
  (bF F.slot_NoneType_hash (bw' s) F.entry_NoneType_hash
   (show wpAny _ _ (do ret (<- mkInt 0xFCA86420)) _ _ s from wpAny_ret_mkInt ?_) (F.args_NoneType_hash_1 _)))
 exact ag h
end
inductive Key where
 |inl (i:Int)|inr (x:Str)|non
 deriving DecidableEq
def iR':Key->Value->Bool
 | .inl k,v=>Value.isInt k v
 | .inr x,v=>Value.isStrOf x v
 | .non,.none=>true
 | .non,_=>false
def Aw' (w:World):Key->Int
 | .inl k=>hashInt k
 | .inr x=>hashStr w x
 | .non=>0xFCA86420
theorem aL':∀{k:Key} {v:Value},iR' k v=true->(∃i t,k=Key.inl i/\v=Value.int i t)\/(∃x t,k=Key.inr x/\v=Value.str x t)\/(k=Key.non/\v=Value.none)
 | .inl i,v,h=>by
  obtain⟨t,e⟩:=Value.isInt_shape (k:=i) (v:=v) h
  exact .inl ⟨i,t,rfl,e⟩
 | .inr x,v,h=>by
  obtain⟨t,e⟩:=Value.isStrOf_shape (x:=x) (v:=v) h
  exact .inr (.inl ⟨x,t,rfl,e⟩)
 | .non,v,h=>by cases v<;>first|exact .inr (.inr ⟨rfl,rfl⟩)|cases h
theorem jD' (i:Int) (t:Tok):iR' (.inl i) (.int i t)=true:=by simp[iR',Value.isInt]
theorem jE' (x:Str) (t:Tok):iR' (.inr x) (.str x t)=true:=by simp[iR',Value.isStrOf]
theorem sK' (a b:Int):decide ((Key.inl a:Key)=Key.inl b)=(a == b):=by
 by_cases e:a=b
 .rw[e,decide_eq_true rfl,beq_self_eq_true]
 .rw[decide_eq_false (fun q=>e (Key.inl.inj q)),beq_eq_false_iff_ne.mpr e]
theorem sL' (a b:Str):decide ((Key.inr a:Key)=Key.inr b)=decide (a=b):=by
 by_cases e:a=b
 .rw[e,decide_eq_true rfl,decide_eq_true rfl]
 .rw[decide_eq_false (fun q=>e (Key.inr.inj q)),decide_eq_false e]
theorem eL' {a b:Key} (h:a≠b):decide (a=b)=false:=decide_eq_false h
def au' (prog:Program) (w:World):PySem.KeyKind prog w Key where
 is:=iR'
 hash:=Aw' w
 inj:=fun v a b ha hb=>by
  rcases aL' ha with⟨i,t,rfl,rfl⟩|⟨x,t,rfl,rfl⟩|⟨rfl,rfl⟩<;>rcases aL' hb with⟨j,u,rfl,e⟩|⟨y,u,rfl,e⟩|⟨rfl,e⟩<;>
   first|rfl|(injection e with e1 _;rw[e1])|exact nomatch e
 byValue:=fun k v h=>by
  rcases aL' h with⟨i,t,rfl,rfl⟩|⟨x,t,rfl,rfl⟩|⟨rfl,rfl⟩<;>rfl
 pyHash:=fun hv h=>by
  rcases aL' hv with⟨i,t,rfl,rfl⟩|⟨x,t,rfl,rfl⟩|⟨rfl,rfl⟩
  .exact wpAny_pyHash_int h
  .exact wpAny_pyHash_str h
  .exact dV' h
 eqBool:=fun {A E s a b u v Q} hu hv h=>by
  rcases aL' hu with⟨i,t,rfl,rfl⟩|⟨x,t,rfl,rfl⟩|⟨rfl,rfl⟩
  .rcases aL' hv with⟨j,u,rfl,rfl⟩|⟨y,u,rfl,rfl⟩|⟨rfl,rfl⟩
   .rw[sK']at h;exact wpAny_eqBool_int h
   .rw[eL' (a:=Key.inl i) (b:=Key.inr y) (fun q=>nomatch q)]at h;exact SeqAt.EqAt.int_str i t y u _ _ _ _ h
   .rw[eL' (a:=Key.inl i) (b:=Key.non) (fun q=>nomatch q)]at h;exact SeqAt.EqAt.int_none i t _ _ _ _ h
  .rcases aL' hv with⟨j,u,rfl,rfl⟩|⟨y,u,rfl,rfl⟩|⟨rfl,rfl⟩
   .rw[eL' (a:=Key.inr x) (b:=Key.inl j) (fun q=>nomatch q)]at h;exact SeqAt.EqAt.str_int x t j u _ _ _ _ h
   .rw[sL']at h;exact wpAny_eqBool_str h
   .rw[eL' (a:=Key.inr x) (b:=Key.non) (fun q=>nomatch q)]at h;exact SeqAt.EqAt.str_none x t _ _ _ _ h
  .rcases aL' hv with⟨j,u,rfl,rfl⟩|⟨y,u,rfl,rfl⟩|⟨rfl,rfl⟩
   .rw[eL' (a:=Key.non) (b:=Key.inl j) (fun q=>nomatch q)]at h;exact SeqAt.EqAt.none_int j u _ _ _ _ h
   .rw[eL' (a:=Key.non) (b:=Key.inr y) (fun q=>nomatch q)]at h;exact SeqAt.EqAt.none_str y u _ _ _ _ h
   .rw[decide_eq_true rfl]at h;exact SeqAt.EqAt.same .none _ _ _ _ h
 «strs»:=fun k x t v h=>by
  rcases aL' h with⟨i,u,rfl,e⟩|⟨y,u,rfl,e⟩|⟨rfl,e⟩
  .exact nomatch e
  .injection e with e1 _
   subst e1
   cases v<;>rfl
  .exact nomatch e
theorem gE' (prog:Program) (w:World) (i:Int) (t:Tok):(au' prog w).is (.inl i) (.int i t)=true:=jD' i t
theorem gF' (prog:Program) (w:World) (x:Str) (t:Tok):(au' prog w).is (.inr x) (.str x t)=true:=jE' x t
inductive V where
 |non|bl (b:Bool)|int (i:Int)|str (x:Str)|byt (b:Array UInt8)|flt (b:UInt64)|ref (a:Addr)|ty (n:String)
 deriving DecidableEq
def ax':V->Value->Prop
 | .non,u=>u=Value.none
 | .bl b,u=>u=Value.bool b
 | .int i,u=>∃t,u=Value.int i t
 | .str x,u=>∃t,u=Value.str x t
 | .byt b,u=>∃t,u=Value.bytes b t
 | .flt b,u=>∃t,u=Value.float b t
 | .ref a,u=>u=Value.ref a
 | .ty n,u=>u=Value.type n
abbrev aE':List V->List Value->Prop:=Paired ax'
theorem aE'.length {xs:List V} {us:List Value} (r:aE' xs us):xs.length=us.length:=Paired.length r
theorem aE'.get:∀{xs:List V} {us:List Value} {i:Nat} {x:V},aE' xs us->xs[i]?=some x->∃u,us[i]?=some u/\ax' x u
 |_,_,_,_,.nil,e=>by simp at e
 |_,_,0,_,.cons r _,e=>by simp at e;subst e;exact⟨_,rfl,r⟩
 |_,_,i+1,x,.cons _ t,e=>by
  obtain⟨u,h1,h2⟩:=aE'.get (i:=i) (x:=x) t (by simpa using e)
  exact⟨u,by simpa using h1,h2⟩
theorem aE'.set {x:V} {u:Value} (r:ax' x u):∀{xs:List V} {us:List Value} (i:Nat),aE' xs us->aE' (xs.set i x) (us.set i u)
 |_,_,_,.nil=>.nil
 |_,_,0,.cons _ t=>.cons r t
 |_,_,i+1,.cons q t=>.cons q (aE'.set r i t)
theorem aE'.append:∀{xs ys:List V} {us ws:List Value},aE' xs us->aE' ys ws->aE' (xs++ys) (us++ws)
 |_,_,_,_,.nil,s=>s
 |_,_,_,_,.cons r t,s=>.cons r (aE'.append t s)
theorem aE'.take:∀{xs:List V} {us:List Value} (n:Nat),aE' xs us->aE' (xs.take n) (us.take n)
 |_,_,0,_=>.nil
 |_,_,_+1,.nil=>.nil
 |_,_,n+1,.cons r t=>.cons r (aE'.take n t)
theorem aE'.drop:∀{xs:List V} {us:List Value} (n:Nat),aE' xs us->aE' (xs.drop n) (us.drop n)
 |_,_,0,r=>r
 |_,_,_+1,.nil=>.nil
 |_,_,n+1,.cons _ t=>aE'.drop n t
def jz':Option V->Option Value->Prop
 |some v,some u=>ax' v u
 |none,none=>True
 |_,_=>False
def KV {κ:Type}:List (κ×V)->List (κ×Value)->Prop:=Paired fun(p:κ×V) (q:κ×Value)=>p.1=q.1/\ax' p.2 q.2
def kV:Key->V
 | .inl i=>.int i
 | .inr x=>.str x
 | .non=>.non
inductive HO where
 |lst (xs:List V)
 |tup (xs:List V)
 |dK (kvs:List (Key×V))|dT (kvs:List (List Key×V))
 |set (S:Int->Bool) (n:Nat)
 |ins (C dx:Addr) (fs:List (Str×V))
 |own (x:Addr)
 |xd (fs:List (Str×V))
 |met (f x:Addr)
 |rng (lo hi:Int)
 |frz (o:Obj) (u:HO)
 |tbl (ps:Array Value)
 |ext (φ:Heap->Prop)
abbrev Hp:=Addr->Option HO
def upd (H:Hp) (a:Addr) (o:HO):Hp:=fun b=>if b=a then some o else H b
theorem ab' {H:Hp} {a:Addr} {o:HO}:upd H a o a=some o:=by unfold upd;rw[if_pos rfl]
theorem af' {H:Hp} {a b:Addr} {o:HO} (h:b≠a):upd H a o b=H b:=by unfold upd;rw[if_neg h]
theorem dW' {H:Hp} {a:Addr} {o u:HO}:upd (upd H a o) a u=upd H a u:=by
 funext b;unfold upd;split<;>rfl
theorem xu' {H:Hp} {a b:Addr} {o u:HO} (h:H a=some o) (h':H b=some u) (d:o≠u):a≠b:=by
 intro e;subst e;rw[h]at h';exact d (Option.some.inj h')
theorem ah' {H:Hp} {a b:Addr} {o:HO} (h:H a=some o) (h':H b=none):a≠b:=by
 intro e;subst e;rw[h]at h';cases h'
def oz' (h:Heap) (a:Addr) (items:Array Value):Prop:=∃o,h.get? a=some o/\o.cls=.type "tuple"/\(∃n,o.data=.seq items n)/\o.dict=none
theorem oz'.tup {h:Heap} {a:Addr} {items:Array Value} (x:oz' h a items):IsTup h a items:=let⟨o,e,c,⟨n,d⟩,_⟩:=x;⟨o,e,c,n,d⟩
theorem oz'.new (h:Heap) (items:Array Value):oz' (h.push { cls:=.type "tuple",data:=.seq items }) h.objs.size items:=⟨_,aC _ rfl,rfl,⟨_,rfl⟩,rfl⟩
section
variable (P:Program) (w:World)
def aJ' (H:Hp) (h:Heap) (a:Addr):HO->Prop
 | .lst xs=>xs.length<=sizeLine/\∃(its:List Value) (n:Nat),aE' xs its/\h.get? a=some { cls:=.type "list",data:=.seq its.toArray n }
 | .tup xs=>xs.length<=sizeLine/\∃its:List Value,aE' xs its/\oz' h a its.toArray
 | .dK kvs=>kvs.length<=sizeLine/\(a == sysModules)=false/\∃vs,KV kvs vs/\h.DictOf (au' P w) a vs
 | .dT kvs=>kvs.length<=sizeLine/\(a == sysModules)=false/\∃xs:List (List Key×Addr×Value),
   Paired (fun(p:List Key×V) (q:List Key×Addr×Value)=>p.1=q.1/\H q.2.1=some (.tup (p.1.map kV))/\ax' p.2 q.2.2) kvs xs/\
   ∃o es ep,h.get? a=some o/\o.ExactDict/\o.data=.dict es ep/\es.toList=xs.map (entryOfKey (tupleKind (au' P w)))/\(xs.map (·.1)).Nodup
 | .set S n=>h.SetOf (intKind P w) a S n
 | .ins C dx fs=>H dx=some (.own a)/\fs.length<=1000/\dx≠a/\h.get? a=some (W.instObj C dx)/\
   ∃mA,h.Ns1 dx mA/\(∀f,jz' (fs.lookup f) (mA f))/\PySem.Within mA (fs.map (·.1))
 | .own _=>∃o,h.get? a=some o
 | .xd fs=>∃mA,h.Ns1 a mA/\∀f,jz' (fs.lookup f) (mA f)
 | .rng lo hi=>∃t u v,h.get? a=some { cls:=.type "range",data:=.fields #[.int lo t,.int hi u,.int 1 v] }
 | .frz o u=>h.get? a=some o/\aJ' H h a u
 | .tbl ps=>h.get? a=some { cls:=.none,data:=.fields ps }
 | .met f x=>h.get? a=some (W.methodObj (.ref f) (.ref x))
 | .ext φ=>φ h/\(∃o,h.get? a=some o)/\∀h1 h2:Heap,φ h1->(∀o,h1.get? a=some o->h2.get? a=some o)->φ h2
def HOk (H:Hp) (h:Heap):Prop:=∀a o,H a=some o->aJ' P w H h a o
end
section
variable {P:Program} {w:World} {H H':Hp} {h h':Heap} {a:Addr} {o:HO}
theorem aJ'.lt (x:aJ' P w H h a o):a<h.objs.size:=by
 cases o with
 |lst xs=>obtain⟨_,_,_,_,e⟩:=x;exact ax e
 |tup xs=>obtain⟨_,_,_,p⟩:=x;exact p.tup.lt
 |dK kvs=>obtain⟨_,_,_,_,o,_,_,e,_⟩:=x;exact ax e
 |dT kvs=>obtain⟨_,_,_,_,o,_,_,e,_⟩:=x;exact ax e
 |set S n=>obtain⟨o,_,_,_,e,_⟩:=x;exact ax e
 |ins C dx fs=>obtain⟨_,_,_,e,_⟩:=x;exact ax e
 |own y=>obtain⟨_,e⟩:=x;exact ax e
 |xd fs=>obtain⟨_,⟨_,_,_,e,_⟩,_⟩:=x;exact ax e
 |rng lo hi=>obtain⟨_,_,_,e⟩:=x;exact ax e
 |frz ob u=>obtain⟨e,_⟩:=x;exact ax e
 |tbl ps=>exact ax (show h.get? a=some _ from x)
 |met f y=>exact ax (show h.get? a=some _ from x)
 |ext φ=>obtain⟨_,⟨_,e⟩,_⟩:=x;exact ax e
theorem Paired.mapP {α β:Type} {F G:α->β->Prop}:∀{l₁:List α} {l₂:List β},Paired F l₁ l₂->(∀a b,F a b->G a b)->Paired G l₁ l₂
 |_,_,.nil,_=>.nil
 |_,_,.cons r t,f=>.cons (f _ _ r) (Paired.mapP t f)
theorem aJ'.stay (x:aJ' P w H h a o) (k:∀b u,(b=a\/H b=some (.own a))->h.get? b=some u->h'.get? b=some u)
  (ho:∀b,H b=some (.own a)->H' b=some (.own a)) (ht:∀b xs,H b=some (.tup xs)->H' b=some (.tup xs)):aJ' P w H' h' a o:=by
 induction o with
 |lst xs=>obtain⟨z,its,n,r,e⟩:=x;exact⟨z,its,n,r,k _ _ (.inl rfl) e⟩
 |tup xs=>obtain⟨z,its,r,ob,e,c⟩:=x;exact⟨z,its,r,ob,k _ _ (.inl rfl) e,c⟩
 |dK kvs=>obtain⟨z,y,vs,r,ob,es,ep,e,c⟩:=x;exact⟨z,y,vs,r,ob,es,ep,k _ _ (.inl rfl) e,c⟩
 |dT kvs=>
  obtain⟨z,y,xs,r,ob,es,ep,e,c⟩:=x
  exact⟨z,y,xs,Paired.mapP r fun p q z=>⟨z.1,ht _ _ z.2.1,z.2.2⟩,ob,es,ep,k _ _ (.inl rfl) e,c⟩
 |set S n=>obtain⟨ob,es,ep,t,e,c⟩:=x;exact⟨ob,es,ep,t,k _ _ (.inl rfl) e,c⟩
 |ins C dx fs=>
  obtain⟨d,z,ne,e,mA,⟨od,es,ep,e2,c⟩,r⟩:=x
  exact⟨ho _ d,z,ne,k _ _ (.inl rfl) e,mA,⟨od,es,ep,k _ _ (.inr d) e2,c⟩,r⟩
 |own y=>obtain⟨ob,e⟩:=x;exact⟨ob,k _ _ (.inl rfl) e⟩
 |xd fs=>obtain⟨mA,⟨od,es,ep,e,c⟩,r⟩:=x;exact⟨mA,⟨od,es,ep,k _ _ (.inl rfl) e,c⟩,r⟩
 |rng lo hi=>obtain⟨t,u,v,e⟩:=x;exact⟨t,u,v,k _ _ (.inl rfl) e⟩
 |frz ob u ih=>obtain⟨e,q⟩:=x;exact⟨k _ _ (.inl rfl) e,ih q⟩
 |tbl ps=>
  have e:h.get? a=some { cls:=.none,data:=.fields ps }:=x
  show h'.get? a=some { cls:=.none,data:=.fields ps }
  exact k a _ (.inl rfl) e
 |met f y=>
  have e:h.get? a=some (W.methodObj (.ref f) (.ref y)):=x
  show h'.get? a=some (W.methodObj (.ref f) (.ref y))
  exact k a _ (.inl rfl) e
 |ext φ=>obtain⟨p,⟨o,e⟩,st⟩:=x;exact⟨st _ _ p fun o q=>k _ _ (.inl rfl) q,⟨o,k _ _ (.inl rfl) e⟩,st⟩
theorem HOk.lt (x:HOk P w H h) (e:H a=some o):a<h.objs.size:=(x a o e).lt
theorem HOk.fresh (x:HOk P w H h) (e:h.objs.size<=a):H a=none:=by
 cases q:H a with
 |none=>rfl
 |some u=>exact absurd (ao (x.lt q) e) (bc _)
theorem HOk.kept (x:HOk P w H h) (k:∀b u,h.get? b=some u->h'.get? b=some u):HOk P w H h':=fun a o e=>
 (x a o e).stay (fun b u _ q=>k b u q) (fun _ q=>q) fun _ _ q=>q
theorem HOk.laid (x:HOk P w H h) (k:∀b u,h.get? b=some u->h'.get? b=some u) (hp:h.objs.size<=a) (new:aJ' P w (upd H a o) h' a o):HOk P w (upd H a o) h':=fun b u e=>by
 have hn:=x.fresh hp
 by_cases hb:b=a
 .subst hb;rw[ab']at e;cases e;exact new
 .rw[af' hb]at e
  exact(x b u e).stay (fun c v _ q=>k c v q) (fun c q=>by rw[af' (ah' q hn)];exact q) fun c xs q=>by rw[af' (ah' q hn)];exact q
end
def Rd (H:Hp) (a:Addr) (u:HO):Prop:=H a=some u\/∃o,H a=some (.frz o u)
theorem Rd.ok {P:Program} {w:World} {H:Hp} {h:Heap} {a:Addr} {u:HO} (r:Rd H a u) (x:HOk P w H h):aJ' P w H h a u:=by
 rcases r with r|⟨o,r⟩
 .exact x a u r
 .obtain⟨_,q⟩:=x a _ r
  exact q
def Mut:Option HO->Prop
 |some (.lst _)=>True
 |some (.dK _)=>True
 |some (.dT _)=>True
 |some (.set _ _)=>True
 |some (.ins _ _ _)=>True
 |some (.ext _)=>True
 |_=>False
section
variable {P:Program} {w:World} {H:Hp} {h h':Heap} {x e:Addr} {o':HO}
theorem HOk.write (ok:HOk P w H h) (mu:Mut (H x)) (he:e=x\/H e=some (.own x)) (k:∀b u,b≠e->h.get? b=some u->h'.get? b=some u) (heo:∃u,h'.get? e=some u)
  (new:aJ' P w (upd H x o') h' x o'):HOk P w (upd H x o') h':=fun b u q=>by
 have nown:∀c y,H c=some (.own y)->c≠x:=fun c y r z=>by subst z;rw[r]at mu;exact mu
 have ntup:∀c xs,H c=some (.tup xs)->c≠x:=fun c xs r z=>by subst z;rw[r]at mu;exact mu
 by_cases hb:b=x
 .subst hb;rw[ab']at q;cases q;exact new
 .rw[af' hb]at q
  by_cases hbe:b=e
  .have q':H b=some (.own x):=by
    rcases he with z|z
    .exact absurd (hbe.trans z) hb
    .rw[hbe];exact z
   rw[q]at q';cases q'
   obtain⟨v,hv⟩:=heo
   exact⟨v,by rw[hbe];exact hv⟩
  .refine(ok b u q).stay (fun c v hc r=>k c v ?_ r) (fun c r=>by rw[af' (nown c b r)];exact r) fun c xs r=>by rw[af' (ntup c xs r)];exact r
   rcases hc with rfl|hc
   .exact hbe
   .rintro rfl
    rcases he with z|z
    .exact nown c b hc z
    .rw[hc]at z;cases z;exact hb rfl
end
structure Un (fs ex:List Addr) (H H':Hp) (h h':Heap):Prop where
 keep:∀b o,h.get? b=some o->H b=none->b∉fs->b∉ex->h'.get? b=some o
 slot:∀b o,h.get? b=some o->H b=none->b∈fs->b∉ex->∃sl,h'.get? b=some { o with slots:=sl }
 free:∀b o,h.get? b=some o->H b=none->b∉ex->H' b=none
 there:∀b o,h.get? b=some o->b∉ex->∃o',h'.get? b=some o'
 tups:∀b xs,H b=some (.tup xs)->H' b=some (.tup xs)
 frzs:∀b o u,H b=some (.frz o u)->H' b=some (.frz o u)
 tbls:∀b ps,H b=some (.tbl ps)->∃more,H' b=some (.tbl (ps++more))
section
variable {fs fs' ex ex':List Addr} {H H1 H2:Hp} {h h1 h2 h':Heap} {a x e:Addr} {o:HO}
theorem Un.any (u:Un fs ex H H1 h h1) {b:Addr} {ob:Obj} (q:h.get? b=some ob) (n:H b=none) (hx:b∉ex):∃sl,h1.get? b=some { ob with slots:=sl }:=by
 by_cases hb:b∈fs
 .exact u.slot b ob q n hb hx
 .exact⟨ob.slots,u.keep b ob q n hb hx⟩
theorem Un.kept (k:∀b u,h.get? b=some u->h'.get? b=some u):Un fs ex H H h h':=
 ⟨fun b ob q _ _ _=>k b ob q,fun b ob q _ _ _=>⟨ob.slots,k b ob q⟩,fun _ _ _ n _=>n,fun b ob q _=>⟨ob,k b ob q⟩,fun _ _ q=>q,fun _ _ _ q=>q,fun _ ps q=>⟨#[],by rw[q];simp⟩⟩
theorem Un.refl:Un fs ex H H h h:=Un.kept fun _ _ q=>q
theorem Un.laid (k:∀b u,h.get? b=some u->h'.get? b=some u) (hp:h.objs.size<=a) (hn:H a=none):Un fs ex H (upd H a o) h h' where
 keep:=fun b u q _ _ _=>k b u q
 slot:=fun b u q _ _ _=>⟨u.slots,k b u q⟩
 free:=fun b u q n _=>by rw[af' (aH (ao (ax q) hp))];exact n
 there:=fun b u q _=>⟨u,k b u q⟩
 tups:=fun b xs q=>by rw[af' (ah' q hn)];exact q
 frzs:=fun b u xs q=>by rw[af' (ah' q hn)];exact q
 tbls:=fun b ps q=>⟨#[],by rw[af' (ah' q hn),q];simp⟩
theorem Un.write (mu:Mut (H x)) (he:e=x\/H e=some (.own x)) (k:∀b u,b≠e->h.get? b=some u->h'.get? b=some u) (heo:∃u,h'.get? e=some u):Un fs ex H (upd H x o) h h':=by
 have hx:∀b,H b=none->b≠x:=fun b n z=>by subst z;rw[n]at mu;exact mu
 have hb:∀b,H b=none->b≠e:=fun b n z=>by
  subst z
  rcases he with r|r
  .exact hx b n r
  .rw[n]at r;cases r
 have hm:∀b u,H b=some u->¬Mut (some u)->b≠x:=fun b u q nm z=>by subst z;rw[q]at mu;exact nm mu
 refine⟨fun b u q n _ _=>k b u (hb b n) q,fun b u q n _ _=>⟨u.slots,k b u (hb b n) q⟩,fun b u q n _=>by rw[af' (hx b n)];exact n,fun b u q _=>?_,
  fun b xs q=>by rw[af' (hm b _ q fun z=>z)];exact q,fun b u xs q=>by rw[af' (hm b _ q fun z=>z)];exact q,fun b ps q=>⟨#[],by rw[af' (hm b _ q fun z=>z),q];simp⟩⟩
 by_cases hbe:b=e
 .subst hbe;exact heo
 .exact⟨u,k b u hbe q⟩
end
def trk (h:Heap) (H:Hp):List Addr:=(av h.objs.size).filter fun a=>(H a).isSome
def mu' (h:Heap) (H:Hp):Heap:=W.hideAll h (trk h H)
theorem jF' (h:Heap) (H:Hp):(mu' h H).objs.size=h.objs.size:=W.hideAll_size _ _
theorem mv' {h:Heap} {H:Hp} {b:Addr} {o:Obj} (e:h.get? b=some o) (n:H b=none):(mu' h H).get? b=some o:=
 W.hideAll_get _ e fun hm=>by
  have q:(H b).isSome=true:=(bC.mp hm).2
  rw[n]at q;simp at q
theorem pD' {h:Heap} {H:Hp} {b:Addr} {o:Obj} (e:(mu' h H).get? b=some o):h.get? b=some o/\H b=none:=by
 have e':h.get? b=some o:=W.of_hideAll (trk h H) e
 refine⟨e',?_⟩
 cases q:H b with
 |none=>rfl
 |some x=>
  have hm:b∈trk h H:=bC.mpr ⟨aI.mpr (ax e'),by simp[q]⟩
  have z:(mu' h H).get? b=none:=W.hideAll_none (trk h H) hm
  rw[z]at e;cases e
def pE' (g h:Heap) (L:Addr):List (Addr×Obj):=(av h.objs.size).filterMap fun a=>if a=L\/(g.get? a).isSome=true then none else(h.get? a).map fun o=>(a,o)
def ay' (g h:Heap) (L d:Addr):List (Addr×Obj):=(pE' g h L).filter fun p=>decide (p.1≠d)
structure Mod (K:W.Frag) (mg:Str->Option Value) (base:Heap):Prop where
 kin:K.In base
 glob:base.Ns mainGlobals mg
 blt:∃mb,base.Ns builtinsNs mb/\∀x:Str,x≠"__name__"->mb x=bootBuiltins x
 nolimit:base.NoLimit
set_option genInjectivity false
structure Cx where
 prog:Program
 w:World
 K:W.Frag
 mg:Str->Option Value
 base:Heap
 A:Around
 N:List Str
 s₀:Shared
 H₀:Hp
 env:Env
 outer:List Env
 stack:List Env
 ex:List Addr
 fn:Str->Bool
 calm:Bool
 pn:List (Addr×Obj)
 xe:Value->Shared->Prop
set_option genInjectivity true
def frs (l:List Env):List Addr:=l.filterMap (·.frame)
abbrev Cx.fs (X:Cx):List Addr:=frs X.outer
def Vis (sc:Scope) (x:Str):Prop:=sc.names.lookup x=some .local\/sc.names.lookup x=some .cell\/sc.names.lookup x=some .free
def Loc (sc:Scope) (x:Str):Prop:=sc.names.lookup x=some .local\/sc.names.lookup x=some .cell
def Ax' (env:Env) (h:Heap) (m:Str->Option Value) (x:Str) (u:Value):Prop:=
 (env.kindOf x=some .local/\m x=some u)\/((env.kindOf x=some .cell\/env.kindOf x=some .free)/\∃c,env.cells.lookup x=some c/\h.IsCell c (some u))
structure Cx.Ok (X:Cx):Prop where
 mod:Mod X.K X.mg X.base
 kind:X.env.scope.kind=.function
 glob:X.env.globals=mainGlobals
 blt:X.env.builtins=builtinsNs
 above:X.s₀.heap.objs.size<=X.env.locals
 inj:∀x y c,X.env.cells.lookup x=some c->X.env.cells.lookup y=some c->x=y
 has:∀x,(X.env.kindOf x=some .cell\/X.env.kindOf x=some .free)->∃c,X.env.cells.lookup x=some c
 cab:∀x c,X.fn x=true->X.env.cells.lookup x=some c->X.s₀.heap.objs.size<=c
 hd:X.calm=true->X.A.handled=none
 frames:X.A.frames=some X.stack
 stk:X.stack=X.outer\/(X.stack=X.env :: X.outer/\X.env.frame=some X.env.locals)
 exf:∀b∈X.ex,b≠X.env.locals/\∀x c,X.env.cells.lookup x=some c->c≠b
 bs:∀b o,X.base.get? b=some o->X.s₀.heap.get? b=some o/\X.H₀ b=none
 bsz:X.base.objs.size<=X.s₀.heap.objs.size
 noex:∀b o,X.base.get? b=some o->b∉X.ex
 exfs:∀b∈X.ex,b∉X.fs
 funs:X.s₀.heap.FunFrames X.base X.outer
 frf:∀b∈X.fs,X.H₀ b=none
structure Inv (X:Cx) (p_:List (Addr×Obj)) (σ:List (Option V)) (H:Hp) (s:Shared):Prop where
 ok:X.Ok
 os:s.os=X.s₀.os
 bare:AllBare s.gens
 base:Un X.fs X.ex X.H₀ H X.s₀.heap s.heap
 loc:∃m,s.heap.Ns X.env.locals m/\∀(i:Nat) (x:Str) (v:V),X.N[i]?=some x->σ[i]?=some (some v)->Vis X.env.scope x->∃u,ax' v u/\Ax' X.env s.heap m x u
 cell:∀x c,X.env.cells.lookup x=some c->∃v,s.heap.IsCell c v
 free:H X.env.locals=none
 freeC:∀x c,X.env.cells.lookup x=some c->H c=none
 pin:∀p∈X.pn++p_,s.heap.get? p.1=some p.2/\H p.1=none/\p.1≠X.env.locals/\p.1∉X.fs/\∀v,p.2.data≠.cell v
 hok:HOk X.prog X.w H s.heap
 len:σ.length=X.N.length
section
variable {X:Cx} {p_:List (Addr×Obj)} {σ:List (Option V)} {H H':Hp} {s:Shared} {h':Heap}
theorem Cx.Ok.nofr (ok:X.Ok) {b:Addr} {o:Obj} (e:X.base.get? b=some o):b∉X.fs:=fun hb=>by
 have:=(ok.funs.mem hb).1
 rw[e]at this;cases this
theorem Inv.bs (I:Inv X p_ σ H s):∀b o,X.base.get? b=some o->s.heap.get? b=some o/\H b=none:=fun b o e=>
 ⟨I.base.keep b o (I.ok.bs b o e).1 (I.ok.bs b o e).2 (I.ok.nofr e) (I.ok.noex b o e),I.base.free b o (I.ok.bs b o e).1 (I.ok.bs b o e).2 (I.ok.noex b o e)⟩
theorem Inv.bk (I:Inv X p_ σ H s):∀b o,X.base.get? b=some o->s.heap.get? b=some o:=fun b o e=>(I.bs b o e).1
theorem Inv.mod (I:Inv X p_ σ H s):Mod X.K X.mg X.base:=I.ok.mod
theorem Inv.kIn (I:Inv X p_ σ H s):X.K.In s.heap:=I.ok.mod.kin.keeps I.bk
theorem Inv.fr (I:Inv X p_ σ H s):∃m,Fr X.base X.env.locals s.heap m:=
 let⟨m,hn,_⟩:=I.loc
 ⟨m,hn,I.bk,aS I.ok.bsz I.ok.above⟩
theorem Inv.lt (I:Inv X p_ σ H s):X.env.locals<s.heap.objs.size:=let⟨_,hn,_⟩:=I.loc;hn.lt
theorem Inv.sz (I:Inv X p_ σ H s):X.s₀.heap.objs.size<=s.heap.objs.size:=aS I.ok.above (aX I.lt)
theorem Inv.nofs (I:Inv X p_ σ H s) {a:Addr} (h:s.heap.objs.size<=a):a∉X.fs:=fun hb=>by
 obtain⟨_,o,ho,_⟩:=I.ok.funs.mem hb
 exact absurd (ao (ax ho) (aS I.sz h)) (bc _)
theorem Inv.cne (I:Inv X p_ σ H s):∀x c,X.env.cells.lookup x=some c->c≠X.env.locals:=fun x c e z=>by
 obtain⟨v,o,ho,hd⟩:=I.cell x c e
 obtain⟨m,⟨o',es,ep,ho',hd',_⟩,_⟩:=I.loc
 rw[z,ho']at ho;cases ho;rw[hd']at hd;cases hd
theorem Inv.funs (I:Inv X p_ σ H s):s.heap.FunFrames X.base X.outer:=by
 have all:∀(l:List Env),(∀b∈frs l,b∈X.fs)->X.s₀.heap.FunFrames X.base l->s.heap.FunFrames X.base l:=by
  intro l
  induction l with
  |nil=>intro _ _;trivial
  |cons env r ih=>
   intro hs hl
   obtain⟨hk,⟨L,o,hf,hn,ho,hd⟩,hr⟩:=hl
   have hL:L∈X.fs:=hs L (by unfold frs;rw[cv,hf];exact aw)
   obtain⟨sl,e⟩:=I.base.slot L o ho (I.ok.frf L hL) hL fun z=>I.ok.exfs L z hL
   exact⟨hk,⟨L,_,hf,hn,e,hd⟩,ih (fun b hb=>hs b (by unfold frs;rw[cv,hf];exact aq _ hb)) hr⟩
 exact all X.outer (fun _ hb=>hb) I.ok.funs
theorem Inv.stack (I:Inv X p_ σ H s):s.heap.FunFrames X.base X.stack:=by
 rcases I.ok.stk with e|⟨e,hf⟩
 .rw[e];exact I.funs
 .rw[e]
  obtain⟨m,hn,_⟩:=I.loc
  refine .cons (by rw[I.ok.kind];decide) hf hn ?_ I.funs
  exact Heap.get?_none_of_le (aS I.ok.bsz I.ok.above)
theorem Inv.stkSub (I:Inv X p_ σ H s):∀b∈frs X.stack,b∈X.env.locals :: X.fs:=fun b hb=>by
 rcases I.ok.stk with e|⟨e,hf⟩
 .rw[e]at hb;exact aq _ hb
 .rw[e]at hb
  unfold frs at hb
  rw[cv,hf]at hb
  exact hb
theorem Inv.stkFree (I:Inv X p_ σ H s):∀b∈frs X.stack,H b=none:=fun b hb=>by
 rcases au.mp (I.stkSub b hb)with e|hb
 .rw[e];exact I.free
 .obtain⟨_,o,ho,_⟩:=I.ok.funs.mem hb
  exact I.base.free b o ho (I.ok.frf b hb) fun z=>I.ok.exfs b z hb
theorem Inv.step {g':Array GenState} {t':Nat} {d':Drawn} {ch:List Addr} (I:Inv X p_ σ H s)
  (hch:∀b∈ch,(b∈X.ex\/X.s₀.heap.objs.size<=b)/\b≠X.env.locals/\(∀x c,X.env.cells.lookup x=some c->c≠b)/\∀p∈X.pn++p_,p.1≠b)
  (keep:∀b o,b≠X.env.locals->b∉X.fs->b∉ch->s.heap.get? b=some o->H b=none->h'.get? b=some o)
  (slot:∀b o,b≠X.env.locals->b∈X.fs->b∉ch->s.heap.get? b=some o->H b=none->∃sl,h'.get? b=some { o with slots:=sl }) (free:∀b o,b∉ch->s.heap.get? b=some o->H b=none->H' b=none)
  (there:∀b o,b∉ch->s.heap.get? b=some o->∃o',h'.get? b=some o')
  (tups:∀b xs,H b=some (.tup xs)->H' b=some (.tup xs)) (frzs:∀b o u,H b=some (.frz o u)->H' b=some (.frz o u)) (tbls:∀b ps,H b=some (.tbl ps)->∃more,H' b=some (.tbl (ps++more)))
  (ns:∀m,s.heap.Ns X.env.locals m->h'.Ns X.env.locals m) (hok:HOk X.prog X.w H' h') (hg:AllBare g'):
  Inv X p_ σ H' { s with heap:=h',gens:=g',drawn:=d',toks:=t' }:=by
 have neL:∀b o,X.s₀.heap.get? b=some o->b≠X.env.locals:=fun b o e=>aH (ao (ax e) I.ok.above)
 have neC:∀b o,X.s₀.heap.get? b=some o->b∉X.ex->b∉ch:=fun b o e hx hb=>by
  rcases(hch b hb).1 with z|z
  .exact hx z
  .exact absurd (ao (ax e) z) (bc _)
 have cellK:∀x c,X.env.cells.lookup x=some c->∀v,s.heap.IsCell c v->h'.IsCell c v:=fun x c e v ⟨o,ho,hd⟩=>by
  have nch:c∉ch:=fun z=>(hch c z).2.2.1 x c e rfl
  by_cases hc:c∈X.fs
  .obtain⟨sl,q⟩:=slot c o (I.cne x c e) hc nch ho (I.freeC x c e)
   exact⟨_,q,hd⟩
  .exact⟨o,keep c o (I.cne x c e) hc nch ho (I.freeC x c e),hd⟩
 refine⟨I.ok,I.os,hg,⟨fun b o e n hb hx=>?_,fun b o e n hb hx=>?_,fun b o e n hx=>?_,fun b o e hx=>?_,fun b xs e=>tups b xs (I.base.tups b xs e),fun b o xs e=>frzs b o xs (I.base.frzs b o xs e),fun b ps e=>?_⟩,?_,fun x c e=>?_,?_,fun x c e=>?_,fun p hp=>?_,hok,I.len⟩
 .exact keep b o (neL b o e) hb (neC b o e hx) (I.base.keep b o e n hb hx) (I.base.free b o e n hx)
 .obtain⟨sl,e1⟩:=I.base.slot b o e n hb hx
  obtain⟨sl',e2⟩:=slot b _ (neL b o e) hb (neC b o e hx) e1 (I.base.free b o e n hx)
  exact⟨sl',e2⟩
 .obtain⟨o',e1⟩:=I.base.there b o e hx
  exact free b o' (neC b o e hx) e1 (I.base.free b o e n hx)
 .obtain⟨o',e1⟩:=I.base.there b o e hx
  exact there b o' (neC b o e hx) e1
 .obtain⟨m1,e1⟩:=I.base.tbls b ps e
  obtain⟨m2,e2⟩:=tbls b _ e1
  exact⟨m1++m2,by rw[e2,Array.append_assoc]⟩
 .obtain⟨m,hn,hl⟩:=I.loc
  refine⟨m,ns m hn,fun i x v e1 e2 e3=>?_⟩
  obtain⟨u,r,l⟩:=hl i x v e1 e2 e3
  refine⟨u,r,?_⟩
  rcases l with l|⟨k,c,e,z⟩
  .exact .inl l
  .exact .inr ⟨k,c,e,cellK x c e _ z⟩
 .obtain⟨v,z⟩:=I.cell x c e
  exact⟨v,cellK x c e v z⟩
 .obtain⟨m,⟨o,_,_,ho,_⟩,_⟩:=I.loc
  exact free _ o (fun z=>(hch _ z).2.1 rfl) ho I.free
 .obtain⟨v,o,ho,hd⟩:=I.cell x c e
  exact free c o (fun z=>(hch c z).2.2.1 x c e rfl) ho (I.freeC x c e)
 .obtain⟨e,n,ne,nf,d⟩:=I.pin p hp
  have nch:p.1∉ch:=fun z=>(hch p.1 z).2.2.2 p hp rfl
  exact⟨keep p.1 p.2 ne nf nch e n,free p.1 p.2 nch e n,ne,nf,d⟩
theorem Inv.un {t':Nat} (I:Inv X p_ σ H s) (u:Un X.fs [] H H' s.heap h') (hok:HOk X.prog X.w H' h'):Inv X p_ σ H' { s with heap:=h',toks:=t' }:=by
 obtain⟨m,⟨o,es,ep,ho,r⟩,_⟩:=id I.loc
 obtain⟨sl,hL⟩:=u.any ho I.free (by simp)
 exact I.step (g':=s.gens) (d':=s.drawn) (ch:=[]) (fun _ z=>nomatch z) (fun b o _ hb _ e n=>u.keep b o e n hb (by simp)) (fun b o _ hb _ e n=>u.slot b o e n hb (by simp)) (fun b o _ e n=>u.free b o e n (by simp)) (fun b o _ e=>u.there b o e (by simp)) u.tups u.frzs u.tbls (fun m' hm=>by
  obtain⟨o',es',ep',ho',r'⟩:=hm
  rw[ho]at ho';cases ho'
  exact⟨_,es',ep',hL,r'⟩) hok I.bare
theorem Inv.call {g':Array GenState} {t':Nat} {d':Drawn} {ch:List Addr} (I:Inv X p_ σ H s) (u:Un (frs X.stack) ch H H' s.heap h') (hok:HOk X.prog X.w H' h') (hg:AllBare g')
  (hch:∀b∈ch,(b∈X.ex\/X.s₀.heap.objs.size<=b)/\b≠X.env.locals/\(∀x c,X.env.cells.lookup x=some c->c≠b)/\∀p∈X.pn++p_,p.1≠b):
  Inv X p_ σ H' { s with heap:=h',gens:=g',drawn:=d',toks:=t' }:=by
 obtain⟨m,⟨o,es,ep,ho,r⟩,_⟩:=id I.loc
 obtain⟨sl,hL⟩:=u.any ho I.free fun z=>(hch _ z).2.1 rfl
 exact I.step (ch:=ch) hch (fun b o hL hb hc e n=>u.keep b o e n (fun z=>(au.mp (I.stkSub b z)).elim hL hb) hc) (fun b o _ _ hc e n=>u.any e n hc) (fun b o hc e n=>u.free b o e n hc) (fun b o hc e=>u.there b o e hc) u.tups u.frzs u.tbls (fun m' hm=>by
  obtain⟨o',es',ep',ho',r'⟩:=hm
  rw[ho]at ho';cases ho'
  exact⟨_,es',ep',hL,r'⟩) hok hg
theorem Inv.turned {t':Nat} {it:Addr} (I:Inv X p_ σ H s) (k:∀b o,b≠it->s.heap.get? b=some o->h'.get? b=some o) (hn:H it=none) (hL:it≠X.env.locals)
  (h1:it∈X.ex\/X.s₀.heap.objs.size<=it) (h2:∀x c,X.env.cells.lookup x=some c->c≠it) (h3:∀p∈X.pn++p_,p.1≠it):Inv X p_ σ H { s with heap:=h',toks:=t' }:=by
 have nit:∀b u,H b=some u->b≠it:=fun b u e z=>by rw[z,hn]at e;cases e
 refine I.step (g':=s.gens) (d':=s.drawn) (ch:=[it]) (fun b hb=>?_) (fun b o _ _ hc e _=>k b o (fun z=>hc (by simp[z])) e) (fun b o _ _ hc e _=>⟨o.slots,k b o (fun z=>hc (by simp[z])) e⟩) (fun _ _ _ _ n=>n)
  (fun b o hc e=>⟨o,k b o (fun z=>hc (by simp[z])) e⟩) (fun _ _ e=>e) (fun _ _ _ e=>e) (fun b ps e=>⟨#[],by rw[e];simp⟩) (fun m hm=>?_) (fun b u e=>?_) I.bare
 .have e:b=it:=by simpa using hb
  subst e
  exact⟨h1,hL,h2,h3⟩
 .obtain⟨o,es,ep,ho,r⟩:=hm
  exact⟨o,es,ep,k _ o (Ne.symm hL) ho,r⟩
 .refine(I.hok b u e).stay (fun c v hc q=>k c v ?_ q) (fun _ q=>q) fun _ _ q=>q
  rcases hc with z|z
  .rw[z];exact nit b u e
  .exact nit c _ z
theorem Inv.tok (I:Inv X p_ σ H s) (t:Nat):Inv X p_ σ H { s with toks:=t }:=I.un (h':=s.heap) (t':=t) Un.refl I.hok
theorem Inv.kept {t':Nat} (I:Inv X p_ σ H s) (k:∀b u,s.heap.get? b=some u->h'.get? b=some u):Inv X p_ σ H { s with heap:=h',toks:=t' }:=I.un (Un.kept k) (I.hok.kept k)
theorem Inv.laid {a:Addr} {o:HO} {t':Nat} (I:Inv X p_ σ H s) (k:∀b u,s.heap.get? b=some u->h'.get? b=some u) (hp:s.heap.objs.size<=a) (new:aJ' X.prog X.w (upd H a o) h' a o):
  Inv X p_ σ (upd H a o) { s with heap:=h',toks:=t' }:=I.un (Un.laid k hp (I.hok.fresh hp)) (I.hok.laid k hp new)
theorem Inv.write {x e:Addr} {o:HO} {t':Nat} (I:Inv X p_ σ H s) (mu:Mut (H x)) (he:e=x\/H e=some (.own x)) (k:∀b u,b≠e->s.heap.get? b=some u->h'.get? b=some u) (heo:∃u,h'.get? e=some u)
  (new:aJ' X.prog X.w (upd H x o) h' x o):Inv X p_ σ (upd H x o) { s with heap:=h',toks:=t' }:=I.un (Un.write mu he k heo) (I.hok.write mu he k heo new)
theorem Inv.weak {σ':List (Option V)} (I:Inv X p_ σ H s) (hl:σ'.length=σ.length) (w:∀(i:Nat) v,σ'[i]?=some (some v)->σ[i]?=some (some v)):Inv X p_ σ' H s:=
 ⟨I.ok,I.os,I.bare,I.base,let⟨m,hn,hl'⟩:=I.loc;⟨m,hn,fun i x v e1 e2 e3=>hl' i x v e1 (w i v e2) e3⟩,I.cell,I.free,I.freeC,I.pin,I.hok,hl.trans I.len⟩
theorem Inv.pins_of {p_':List (Addr×Obj)} (I:Inv X p_ σ H s) (h:∀p∈p_',s.heap.get? p.1=some p.2/\H p.1=none/\p.1≠X.env.locals/\p.1∉X.fs/\∀v,p.2.data≠.cell v):Inv X p_' σ H s:=
 ⟨I.ok,I.os,I.bare,I.base,I.loc,I.cell,I.free,I.freeC,fun p hp=>(am.mp hp).elim (fun z=>I.pin p (aE _ z)) (h p),I.hok,I.len⟩
theorem e8' {N:List Str} (hN:N.Nodup) {i j:Nat} {x:Str} (a:N[i]?=some x) (b:N[j]?=some x):i=j:=by
 obtain⟨h1,e1⟩:=aB.mp a
 obtain⟨h2,e2⟩:=aB.mp b
 exact(List.getElem_inj hN).mp (e1.trans e2.symm)
theorem dX' {M:Model} {A:Around} {E:Value->Shared->Prop} {i:Nat} {x:Str} {v:V} {u:Value} {Q:Unit->Shared->Prop} (I:Inv X p_ σ H s) (hN:X.N.Nodup) (hi:X.N[i]?=some x) (hx:Loc X.env.scope x) (r:ax' v u)
  (h:∀s',Inv X p_ (σ.set i (some v)) H s'->(∃a,bU a s.heap s'.heap/\(a=X.env.locals\/X.env.cells.lookup x=some a))->Q () s') (hf:X.fn x=true\/X.env.scope.names.lookup x=some .local:=by first|exact .inl rfl|exact .inr rfl|assumption):wpAny M A (storeName X.env x u) Q E s:=by
 obtain⟨m,hn,hl⟩:=id I.loc
 have hcls:(X.env.scope.kind == .class || (X.env.scope.kind == .module&&X.env.locals != X.env.globals))=false:=by rw[I.ok.kind];rfl
 have hiσ:i<σ.length:=by rw[I.len];exact(aB.mp hi).1
 have cne:=I.cne
 have tracked:∀{a:Addr} {h':Heap},(∃o,s.heap.get? a=some o/\H a=none)->bU a s.heap h'->HOk X.prog X.w H h':=fun {a h'} ha hs b ob e=>by
  obtain⟨_,_,hfree⟩:=ha
  refine(I.hok b ob e).stay (fun c w' hc q=>(hs.2 c ?_).trans q) (fun _ q=>q) fun _ _ q=>q
  rintro rfl
  rcases hc with rfl|hc
  .rw[hfree]at e;cases e
  .rw[hfree]at hc;cases hc
 rcases hx with hk|hk
 .refine wpAny_storeName_local hk hn (fun h' hn' hs=>?_) hcls
  obtain⟨oL,_,_,hoL,_⟩:=id hn
  refine h _ ⟨I.ok,I.os,I.bare,⟨fun b o e n hb hx=>?_,fun b o e n hb hx=>?_,I.base.free,fun b o e hx=>?_,I.base.tups,I.base.frzs,I.base.tbls⟩,⟨_,hn',fun j y v' e1 e2 e3=>?_⟩,fun y c e=>?_,I.free,I.freeC,fun p hp=>?_,tracked ⟨oL,hoL,I.free⟩ hs,by simpa using I.len⟩ ⟨_,hs,.inl rfl⟩
  .exact(hs.2 b (aH (ao (ax e) I.ok.above))).trans (I.base.keep b o e n hb hx)
  .obtain⟨sl,e1⟩:=I.base.slot b o e n hb hx
   exact⟨sl,(hs.2 b (aH (ao (ax e) I.ok.above))).trans e1⟩
  .obtain⟨o',e1⟩:=I.base.there b o e hx
   exact⟨o',(hs.2 b (aH (ao (ax e) I.ok.above))).trans e1⟩
  .by_cases hj:j=i
   .subst hj
    rw[hi]at e1;cases e1
    rw[List.getElem?_set_self hiσ]at e2
    cases e2
    exact⟨u,r,.inl ⟨hk,by simp⟩⟩
   .rw[ck (Ne.symm hj)]at e2
    obtain⟨u',r',q⟩:=hl j y v' e1 e2 e3
    refine⟨u',r',?_⟩
    rcases q with⟨k,e⟩|⟨k,c,e,z⟩
    .refine .inl ⟨k,?_⟩
     have:y≠x:=fun e=>hj (e8' hN e1 (e ▸ hi))
     simp[this,e]
    .exact .inr ⟨k,c,e,z.sameBut hs (cne y c e)⟩
  .obtain⟨w',z⟩:=I.cell y c e
   exact⟨w',z.sameBut hs (cne y c e)⟩
  .obtain⟨e,n,ne,nf,d⟩:=I.pin p hp
   exact⟨(hs.2 p.1 ne).trans e,n,ne,nf,d⟩
 .have hfn:X.fn x=true:=by
   rcases hf with z|z
   .exact z
   .rw[z]at hk;cases hk
  obtain⟨c,hc⟩:=I.ok.has x (.inl hk)
  obtain⟨w',z⟩:=I.cell x c hc
  refine wpAny_storeName_cell I.ok.kind hk hc z (fun h' hc' hs=>?_)
  obtain⟨oc,hoc,hocd⟩:=id z
  refine h { s with heap:=h' } ⟨I.ok,I.os,I.bare,⟨fun b o e n hb hx=>?_,fun b o e n hb hx=>?_,I.base.free,fun b o e hx=>?_,I.base.tups,I.base.frzs,I.base.tbls⟩,⟨m,hn.sameBut hs (Ne.symm (cne x c hc)),fun j y v' e1 e2 e3=>?_⟩,fun y c' e=>?_,I.free,I.freeC,fun p hp=>?_,tracked ⟨oc,hoc,I.freeC x c hc⟩ hs,by simpa using I.len⟩ ⟨c,hs,.inr hc⟩
  .exact(hs.2 b (aH (ao (ax e) (I.ok.cab x c hfn hc)))).trans (I.base.keep b o e n hb hx)
  .obtain⟨sl,e1⟩:=I.base.slot b o e n hb hx
   exact⟨sl,(hs.2 b (aH (ao (ax e) (I.ok.cab x c hfn hc)))).trans e1⟩
  .obtain⟨o',e1⟩:=I.base.there b o e hx
   exact⟨o',(hs.2 b (aH (ao (ax e) (I.ok.cab x c hfn hc)))).trans e1⟩
  .by_cases hj:j=i
   .subst hj
    rw[hi]at e1;cases e1
    rw[List.getElem?_set_self hiσ]at e2
    cases e2
    exact⟨u,r,.inr ⟨.inl hk,c,hc,hc'⟩⟩
   .rw[ck (Ne.symm hj)]at e2
    obtain⟨u',r',q⟩:=hl j y v' e1 e2 e3
    refine⟨u',r',?_⟩
    rcases q with q|⟨k,c',e,z'⟩
    .exact .inl q
    .refine .inr ⟨k,c',e,z'.sameBut hs ?_⟩
     rintro rfl
     exact hj (e8' hN e1 (I.ok.inj _ _ _ e hc ▸ hi))
  .by_cases hcc:c'=c
   .subst hcc;exact⟨_,hc'⟩
   .obtain⟨w2,z2⟩:=I.cell y c' e
    exact⟨w2,z2.sameBut hs hcc⟩
  .obtain⟨e,n,ne,nf,d⟩:=I.pin p hp
   refine⟨(hs.2 p.1 ?_).trans e,n,ne,nf,d⟩
   intro q
   rw[q,hoc]at e
   have q':oc=p.2:=Option.some.inj e
   exact d w' (by rw[<- q'];exact hocd)
theorem e9' {M:Model} {A:Around} {E:Value->Shared->Prop} {i:Nat} {x:Str} {v:V} {u:Value} {Q:Unit->Shared->Prop} (I:Inv X p_ σ H s) (hN:X.N.Nodup) (hi:X.N[i]?=some x) (hx:Loc X.env.scope x) (r:ax' v u)
  (h:∀s',Inv X p_ (σ.set i (some v)) H s'->Q () s') (hf:X.fn x=true\/X.env.scope.names.lookup x=some .local:=by first|exact .inl rfl|exact .inr rfl|assumption):wpAny M A (storeName X.env x u) Q E s:=
 dX' I hN hi hx r (fun s' I' _=>h s' I') hf
theorem Inv.call' {s':Shared} {ch:List Addr} (I:Inv X p_ σ H s) (ho:s'.os=s.os) (u:Un (frs X.stack) ch H H' s.heap s'.heap) (hok:HOk X.prog X.w H' s'.heap) (hg:AllBare s'.gens)
  (hch:∀b∈ch,(b∈X.ex\/X.s₀.heap.objs.size<=b)/\b≠X.env.locals/\(∀x c,X.env.cells.lookup x=some c->c≠b)/\∀p∈X.pn++p_,p.1≠b):Inv X p_ σ H' s':=by
 obtain⟨h',g',d',t',o'⟩:=s'
 have e:o'=s.os:=ho
 subst e
 exact I.call (g':=g') (t':=t') (d':=d') u hok hg hch
end
abbrev XK:=Value->Option Addr->Hp->Prop
abbrev St:=List (Option V)
abbrev VK:=V->Hp->Prop
abbrev TE:=St->Hp->VK->Prop
abbrev TT:=St->Hp->(Bool->Hp->Prop)->Prop
abbrev TA:=St->Hp->(List V->Hp->Prop)->Prop
structure Ends where
 nx:St->Hp->Prop
 rt:VK
 bk:St->Hp->Prop:=fun _ _=>False
 ct:St->Hp->Prop:=fun _ _=>False
abbrev TS:=Ends->St->Hp->Prop
def EP (X:Cx) (p_:List (Addr×Obj)) (σ:St) (Q:VK) (u:Value) (s':Shared):Prop:=∃v H',Inv X p_ σ H' s'/\ax' v u/\Q v H'
def TP (X:Cx) (p_:List (Addr×Obj)) (σ:St) (Q:Bool->Hp->Prop) (b:Bool) (s':Shared):Prop:=∃H',Inv X p_ σ H' s'/\Q b H'
def AP (X:Cx) (p_:List (Addr×Obj)) (σ:St) (Q:List V->Hp->Prop) (us:List Value) (s':Shared):Prop:=∃vs H',Inv X p_ σ H' s'/\aE' vs us/\Q vs H'
def SP (X:Cx) (p_:List (Addr×Obj)) (D:Ends) (f:Flow) (s':Shared):Prop:=
 match f with
 | .next=>∃σ' H',Inv X p_ σ' H' s'/\D.nx σ' H'
 | .brk=>∃σ' H',Inv X p_ σ' H' s'/\D.bk σ' H'
 | .cont=>∃σ' H',Inv X p_ σ' H' s'/\D.ct σ' H'
 | .ret u=>∃v σ' H',Inv X p_ σ' H' s'/\ax' v u/\D.rt v H'
def PE (X:Cx) (e:Expr) (t:TE):Prop:=
 ∀(p_:List (Addr×Obj)) (s:Shared) (σ:St) (H:Hp) (Q:VK),Inv X p_ σ H s->t σ H Q->wpAny (model X.prog X.w) X.A (eval e X.env) (EP X p_ σ Q) X.xe s
def PT (X:Cx) (e:Expr) (t:TT):Prop:=
 ∀(p_:List (Addr×Obj)) (s:Shared) (σ:St) (H:Hp) (Q:Bool->Hp->Prop),Inv X p_ σ H s->t σ H Q->wpAny (model X.prog X.w) X.A (isTrue e X.env (eval e X.env)) (TP X p_ σ Q) X.xe s
def PW (X:Cx) (e:Expr) (t:TT):Prop:=
 ∀(whole:Sem Value) (p_:List (Addr×Obj)) (s:Shared) (σ:St) (H:Hp) (Q:Bool->Hp->Prop),Inv X p_ σ H s->t σ H Q->wpAny (model X.prog X.w) X.A (isTrue e X.env whole) (TP X p_ σ Q) X.xe s
theorem PW.pt {X:Cx} {e:Expr} {t:TT} (h:PW X e t):PT X e t:=h _
def PA (X:Cx) (es:List Expr) (t:TA):Prop:=
 ∀(pos:Pos) (p_:List (Addr×Obj)) (s:Shared) (σ:St) (H:Hp) (Q:List V->Hp->Prop),Inv X p_ σ H s->t σ H Q->wpAny (model X.prog X.w) X.A (spliced (backTo pos (starEach es X.env))) (AP X p_ σ Q) X.xe s
def PS (X:Cx) (st:Stmt) (t:TS):Prop:=
 ∀(p_:List (Addr×Obj)) (s:Shared) (σ:St) (H:Hp) (D:Ends),Inv X p_ σ H s->t D σ H->wpAny (model X.prog X.w) X.A (exec st X.env) (SP X p_ D) X.xe s
def PSs (X:Cx) (st:List Stmt) (t:TS):Prop:=
 ∀(p_:List (Addr×Obj)) (s:Shared) (σ:St) (H:Hp) (D:Ends),Inv X p_ σ H s->t D σ H->wpAny (model X.prog X.w) X.A (execs st X.env) (SP X p_ D) X.xe s
theorem thn {α:Type} {t:Sem α} {Q Q':α->Shared->Prop} {M:Model} {A:Around} {E:Value->Shared->Prop} {s:Shared} (h:wpAny M A t Q E s) (hQ:∀a s,Q a s->Q' a s):wpAny M A t Q' E s:=di h hQ fun _ _ x=>x
section
variable {X:Cx}
theorem bin {a b:Expr} {ta tb:TE} (ha:PE X a ta) (hb:PE X b tb) {p_:List (Addr×Obj)} {s:Shared} {σ:St} {H:Hp} {R:V->V->Hp->Prop} (I:Inv X p_ σ H s) (h:ta σ H fun x H1=>tb σ H1 fun y H2=>R x y H2)
  {α:Type} {Q:α->Shared->Prop} {f:Value->Value->Sem α}
  (hf:∀v u s2 x y H2,Inv X p_ σ H2 s2->ax' x v->ax' y u->R x y H2->wpAny (model X.prog X.w) X.A (f v u) Q X.xe s2):
  wpAny (model X.prog X.w) X.A (eval a X.env) (fun v s₁=>wpAny (model X.prog X.w) X.A (eval b X.env) (fun u s₂=>wpAny (model X.prog X.w) X.A (f v u) Q X.xe s₂) X.xe s₁) X.xe s:=by
 refine thn (ha p_ s σ H _ I h) fun v s1 ⟨x,H1,I1,r1,q1⟩=>?_
 refine thn (hb p_ s1 σ H1 _ I1 q1) fun u s2 ⟨y,H2,I2,r2,q2⟩=>?_
 exact hf v u s2 x y H2 I2 r1 r2 q2
def xb' (i:Nat):TE:=fun σ H Q=>∃v,σ[i]?=some (some v)/\Q v H
def tC (v:V):TE:=fun _ H Q=>Q v H
theorem oA' {i:Nat} {x:Str} {pos:Pos} (hN:X.N[i]?=some x) (hv:Vis X.env.scope x) (hd:(x == ("__debug__":Str))=false:=by decide) (hcd:(x == ("__classdict__":Str))=false:=by decide):PE X (.Name x pos) (xb' i):=by
 intro p_ s σ H Q I h
 obtain⟨v,e,h⟩:=h
 obtain⟨m,hn,hl⟩:=I.loc
 obtain⟨u,r,l⟩:=hl i x v hN e hv
 have fin:EP X p_ σ Q u s:=⟨v,H,I,r,h⟩
 rcases l with⟨hk,hm⟩|⟨hk,c,hc,hcell⟩
 .exact wpAny_Name (wpAny_loadName_local I.ok.kind hk hn hm fin) hd
 .rcases hk with hk|hk
  .exact wpAny_Name (wpAny_loadName_cell I.ok.kind hk hc hcell fin) hd
  .exact wpAny_Name (wpAny_loadName_free I.ok.kind hk hc hcell fin hcd) hd
theorem sM' {i j pos}:PE X (.Constant (.int i) j pos) (tC (.int i)):=fun _ _ _ H _ I h=>wpAny_Constant_int ⟨.int i,H,I.tok _,⟨_,rfl⟩,h⟩
theorem xv' {b j pos}:PE X (.Constant (.bool b) j pos) (tC (.bl b)):=fun _ _ _ H _ I h=>Constant_bool ⟨.bl b,H,I,rfl,h⟩
theorem sN' {j pos}:PE X (.Constant .none j pos) (tC .non):=fun _ _ _ H _ I h=>Constant_none ⟨.non,H,I,rfl,h⟩
theorem sO' {x j pos}:PE X (.Constant (.str x) j pos) (tC (.str x)):=fun _ _ _ H _ I h=>Calls.Constant_str ⟨.str x,H,I.tok _,⟨_,rfl⟩,h⟩
def Gl (X:Cx) (x:Str):Prop:=X.env.kindOf x=some .globalImplicit
theorem pF' {E:Value->Shared->Prop} {p_:List (Addr×Obj)} {s:Shared} {σ:St} {H:Hp} {x:Str} {u:Value} {pos:Pos} {Q:Value->Shared->Prop} (I:Inv X p_ σ H s) (hg:Gl X x) (hm:X.mg x=some u) (h:Q u s)
  (hd:(x == ("__debug__":Str))=false:=by decide):wpAny (model X.prog X.w) X.A (eval (.Name x pos) X.env) Q E s:=
 Calls.Name_function_global I.ok.kind hg (Calls.loadGlobal_global (by rw[I.ok.glob];exact I.mod.glob.keeps I.bk) hm h) hd
theorem fL' {E:Value->Shared->Prop} {p_:List (Addr×Obj)} {s:Shared} {σ:St} {H:Hp} {x:Str} {u:Value} {pos:Pos} {Q:Value->Shared->Prop} (I:Inv X p_ σ H s) (hg:Gl X x) (hm:X.mg x=none) (hv:bootBuiltins x=some u) (h:Q u s)
  (hn:x≠"__name__":=by decide) (hd:(x == ("__debug__":Str))=false:=by decide):wpAny (model X.prog X.w) X.A (eval (.Name x pos) X.env) Q E s:=by
 obtain⟨mb,h1,h2⟩:=I.mod.blt
 exact Calls.Name_function_global I.ok.kind hg (Calls.loadGlobal_builtin (by rw[I.ok.glob];exact I.mod.glob.keeps I.bk) hm (by rw[I.ok.blt];exact h1.keeps I.bk) ((h2 x hn).trans hv) h) hd
variable {a b:Expr} {ta tb:TE} {pos:Pos}
def PC (X:Cx) (op:CmpOp) (a b:Expr) (t:TE):Prop:=
 ∀(p_:List (Addr×Obj)) (s:Shared) (σ:St) (H:Hp) (Q:VK),Inv X p_ σ H s->t σ H Q->
  wpAny (model X.prog X.w) X.A (eval a X.env) (fun v s₁=>wpAny (model X.prog X.w) X.A (eval b X.env) (fun u s₂=>wpAny (model X.prog X.w) X.A (compareOp op v u) (EP X p_ σ Q) X.xe s₂) X.xe s₁) X.xe s
def tB (t:TE):TT:=fun σ H Q=>t σ H fun x H1=>∃c,x=.bl c/\Q c H1
theorem oB' {op:CmpOp} {t:TE} (h:PC X op a b t) (h1:behindInMarks op b=false:=by rfl):PE X (.Compare a [op] [b] pos) t:=fun p_ s σ H Q I hw=>wpAny_Compare1 (h p_ s σ H Q I hw) h1
theorem oC' {op:CmpOp} {t:TE} (h:PC X op a b t) (h1:behindInMarks op b=false:=by rfl):PT X (.Compare a [op] [b] pos) (tB t):=by
 intro p_ s σ H Q I hw
 refine wpAny_isTrue_Compare1 (thn (h p_ s σ H _ I hw) fun v s1 h1=>thn h1 fun u s2 h2=>thn h2 fun c s3 ⟨x,H1,I1,r1,q1⟩=>?_) h1
 obtain⟨d,rfl,q⟩:=q1
 cases r1
 exact bX ⟨H1,I1,q⟩
variable {tA tB':TT} {ay':List Expr}
def sP' (t u:TT):TT:=fun σ H Q=>t σ H fun c H1=>if c=true then u σ H1 Q else Q false H1
def tOr (t u:TT):TT:=fun σ H Q=>t σ H fun c H1=>if c=true then Q true H1 else u σ H1 Q
def xw' (t:TT):TT:=fun σ H Q=>t σ H fun c H1=>Q (!c) H1
theorem pG' (ha:PT X a tA):PW X (.BoolOp .And [a] pos) tA:=by
 intro wh p_ s σ H Q I h
 refine isTrue_and (thn (ha p_ s σ H Q I h) fun c s1 e=>?_)
 cases c with
 |true=>exact isTrue_and_nil e
 |false=>exact e
theorem sQ' (ha:PT X a tA):PW X (.BoolOp .Or [a] pos) tA:=by
 intro wh p_ s σ H Q I h
 refine isTrue_or (thn (ha p_ s σ H Q I h) fun c s1 e=>?_)
 cases c with
 |false=>exact isTrue_or_nil e
 |true=>exact e
theorem oD' (ha:PT X a tA) (hb:PW X (.BoolOp .And (b :: ay') pos) tB'):PW X (.BoolOp .And (a :: b :: ay') pos) (sP' tA tB'):=by
 intro wh p_ s σ H Q I h
 refine isTrue_and (thn (ha p_ s σ H _ I h) fun c s1 ⟨H1,I1,q1⟩=>?_)
 cases c with
 |true=>exact hb wh p_ s1 σ H1 Q I1 q1
 |false=>exact⟨H1,I1,q1⟩
theorem sR' (ha:PT X a tA) (hb:PW X (.BoolOp .Or (b :: ay') pos) tB'):PW X (.BoolOp .Or (a :: b :: ay') pos) (tOr tA tB'):=by
 intro wh p_ s σ H Q I h
 refine isTrue_or (thn (ha p_ s σ H _ I h) fun c s1 ⟨H1,I1,q1⟩=>?_)
 cases c with
 |true=>exact⟨H1,I1,q1⟩
 |false=>exact hb wh p_ s1 σ H1 Q I1 q1
theorem sS' (ha:PT X a tA):PT X (.UnaryOp .Not a pos) (xw' tA):=by
 intro p_ s σ H Q I h
 exact isTrue_not (ha p_ s σ H (fun c H1=>Q (!c) H1) I h)
def mw' (ta tb:TE):TE:=fun σ H Q=>ta σ H fun x H1=>∃c,x=.bl c/\if c=true then tb σ H1 Q else Q (.bl false) H1
def xc' (ta tb:TE):TE:=fun σ H Q=>ta σ H fun x H1=>∃c,x=.bl c/\if c=true then Q (.bl true) H1 else tb σ H1 Q
def pH' (ta:TE):TE:=fun σ H Q=>ta σ H fun x H1=>∃c,x=.bl c/\Q (.bl (!c)) H1
theorem oE' {op} {t:TE} (h:PE X a t):PE X (.BoolOp op [a] pos) t:=fun p_ s σ H Q I hw=>BoolOp_one (h p_ s σ H Q I hw)
theorem oF' (ha:PE X a ta) (hb:PE X (.BoolOp .And (b :: ay') pos) tb):PE X (.BoolOp .And (a :: b :: ay') pos) (mw' ta tb):=by
 intro p_ s σ H Q I h
 refine BoolOp_and (thn (ha p_ s σ H _ I h) fun v s1 ⟨x,H1,I1,r1,q1⟩=>?_)
 obtain⟨c,rfl,q1⟩:=q1
 cases r1
 refine bX ?_
 cases c with
 |true=>exact hb p_ s1 σ H1 Q I1 q1
 |false=>exact⟨.bl false,H1,I1,rfl,q1⟩
theorem sT' (ha:PE X a ta) (hb:PE X (.BoolOp .Or (b :: ay') pos) tb):PE X (.BoolOp .Or (a :: b :: ay') pos) (xc' ta tb):=by
 intro p_ s σ H Q I h
 refine BoolOp_or (thn (ha p_ s σ H _ I h) fun v s1 ⟨x,H1,I1,r1,q1⟩=>?_)
 obtain⟨c,rfl,q1⟩:=q1
 cases r1
 refine bX ?_
 cases c with
 |false=>exact hb p_ s1 σ H1 Q I1 q1
 |true=>exact⟨.bl true,H1,I1,rfl,q1⟩
theorem sU' (ha:PE X a ta):PE X (.UnaryOp .Not a pos) (pH' ta):=by
 intro p_ s σ H Q I h
 refine UnaryOp_ (thn (ha p_ s σ H _ I h) fun v s1 ⟨x,H1,I1,r1,q1⟩=>?_)
 obtain⟨c,rfl,q1⟩:=q1
 cases r1
 exact not_of (bX ⟨.bl (!c),H1,I1,rfl,q1⟩)
def tIf (t:TT) (ta tb:TE):TE:=fun σ H Q=>t σ H fun c H1=>if c=true then ta σ H1 Q else tb σ H1 Q
theorem mx' {c:Expr} (hc:PT X c tA) (ha:PE X a ta) (hb:PE X b tb):PE X (.IfExp c a b pos) (tIf tA ta tb):=by
 intro p_ s σ H Q I h
 refine wpAny_IfExp (thn (hc p_ s σ H _ I h) fun d s1 ⟨H1,I1,q1⟩=>?_)
 cases d with
 |true=>exact ha p_ s1 σ H1 Q I1 q1
 |false=>exact hb p_ s1 σ H1 Q I1 q1
end
def SqL (K:W.Frag) (H:Hp) (a:Addr) (xs:List V):Prop:=
 Rd H a (.lst xs)\/
  ∃(o:Obj) (its:Array Value) (n:Nat),K.lookup a=some o/\o.cls=.type "list"/\o.dict=none/\o.data=.seq its n/\its.size<=sizeLine/\aE' xs its.toList
def SqT (K:W.Frag) (H:Hp) (a:Addr) (xs:List V):Prop:=
 Rd H a (.tup xs)\/
  ∃(o:Obj) (its:Array Value) (n:Nat),K.lookup a=some o/\o.cls=.type "tuple"/\o.data=.seq its n/\its.size<=sizeLine/\aE' xs its.toList
def Ay':Value->Option V
 | .none=>some .non
 | .bool b=>some (.bl b)
 | .int i _=>some (.int i)
 | .str x _=>some (.str x)
 | .bytes b _=>some (.byt b)
 | .float b _=>some (.flt b)
 | .ref a=>some (.ref a)
 | .type n=>some (.ty n)
 |_=>none
theorem ax'.abs {x:V} {u:Value} (r:ax' x u):Ay' u=some x:=by
 cases x with
 |non=>cases r;rfl
 |bl _=>cases r;rfl
 |int _=>obtain⟨t,rfl⟩:=r;rfl
 |str _=>obtain⟨t,rfl⟩:=r;rfl
 |byt _=>obtain⟨t,rfl⟩:=r;rfl
 |flt _=>obtain⟨t,rfl⟩:=r;rfl
 |ref _=>cases r;rfl
 |ty _=>cases r;rfl
theorem ax'.inj {x y:V} {u:Value} (r:ax' x u) (q:ax' y u):x=y:=Option.some.inj (r.abs.symm.trans q.abs)
theorem aE'.inj:∀{xs ys:List V} {us:List Value},aE' xs us->aE' ys us->xs=ys
 |_,_,_,.nil,.nil=>rfl
 |_,_,_,.cons r t,.cons r' t'=>by rw[r.inj r',aE'.inj t t']
section
variable {X:Cx} {p_:List (Addr×Obj)} {σ:St} {H:Hp} {s:Shared} {a:Addr} {xs ys:List V}
theorem SqL.of {K:W.Frag} (h:H a=some (.lst xs)):SqL K H a xs:=.inl (.inl h)
theorem SqT.of {K:W.Frag} (h:H a=some (.tup xs)):SqT K H a xs:=.inl (.inl h)
theorem Inv.list (I:Inv X p_ σ H s) (h:SqL X.K H a xs):∃its:List Value,aE' xs its/\PlainL s.heap a its.toArray/\xs.length<=sizeLine:=by
 rcases h with h|⟨o,its,n,hk,hc,hd,hs,hz,r⟩
 .obtain⟨z,its,n,r,e⟩:=h.ok I.hok
  exact⟨its,r,⟨_,n,e,rfl,rfl,rfl⟩,z⟩
 .refine⟨its.toList,r,⟨o,n,I.kIn a o hk,hc,hd,by simpa using hs⟩,?_⟩
  have e:=r.length
  simp only[aG]at e
  omega
theorem Inv.tuple (I:Inv X p_ σ H s) (h:SqT X.K H a xs):∃its:List Value,aE' xs its/\IsTup s.heap a its.toArray/\xs.length<=sizeLine:=by
 rcases h with h|⟨o,its,n,hk,hc,hs,hz,r⟩
 .obtain⟨z,its,r,p⟩:=h.ok I.hok
  exact⟨its,r,p.tup,z⟩
 .refine⟨its.toList,r,⟨o,I.kIn a o hk,hc,n,by simpa using hs⟩,?_⟩
  have e:=r.length
  simp only[aG]at e
  omega
theorem Inv.list_inj (I:Inv X p_ σ H s) (h:SqL X.K H a xs) (h':SqL X.K H a ys):xs=ys:=by
 obtain⟨its,r,⟨o,n,e,_,_,d⟩,_⟩:=I.list h
 obtain⟨its',r',⟨o',n',e',_,_,d'⟩,_⟩:=I.list h'
 rw[e]at e';cases e'
 rw[d]at d'
 injection d' with d1 _
 have:its=its':=by simpa using congrArg Array.toList d1
 subst this
 exact r.inj r'
theorem Inv.tuple_inj (I:Inv X p_ σ H s) (h:SqT X.K H a xs) (h':SqT X.K H a ys):xs=ys:=by
 obtain⟨its,r,⟨o,e,_,n,d⟩,_⟩:=I.tuple h
 obtain⟨its',r',⟨o',e',_,n',d'⟩,_⟩:=I.tuple h'
 rw[e]at e';cases e'
 rw[d]at d'
 injection d' with d1 _
 have:its=its':=by simpa using congrArg Array.toList d1
 subst this
 exact r.inj r'
end
abbrev Cx.wish (X:Cx) (E:Value->Shared->Prop):Cx:={ X with xe:=E }
abbrev Cx.nox (X:Cx):Cx:=X.wish fun _ _=>False
theorem Cx.Ok.wish {X:Cx} (ok:X.Ok) (E:Value->Shared->Prop):(X.wish E).Ok:=
 ⟨ok.mod,ok.kind,ok.glob,ok.blt,ok.above,ok.inj,ok.has,ok.cab,ok.hd,ok.frames,ok.stk,ok.exf,ok.bs,ok.bsz,ok.noex,ok.exfs,ok.funs,ok.frf⟩
theorem Cx.Ok.unwish {X:Cx} {E:Value->Shared->Prop} (ok:(X.wish E).Ok):X.Ok:=
 ⟨ok.mod,ok.kind,ok.glob,ok.blt,ok.above,ok.inj,ok.has,ok.cab,ok.hd,ok.frames,ok.stk,ok.exf,ok.bs,ok.bsz,ok.noex,ok.exfs,ok.funs,ok.frf⟩
section
variable {X:Cx} {p_:List (Addr×Obj)} {σ:St} {H:Hp} {s:Shared} {E:Value->Shared->Prop}
theorem Inv.wish (I:Inv X p_ σ H s) (E:Value->Shared->Prop):Inv (X.wish E) p_ σ H s:=⟨I.ok.wish E,I.os,I.bare,I.base,I.loc,I.cell,I.free,I.freeC,I.pin,I.hok,I.len⟩
theorem Inv.unwish (I:Inv (X.wish E) p_ σ H s):Inv X p_ σ H s:=⟨I.ok.unwish,I.os,I.bare,I.base,I.loc,I.cell,I.free,I.freeC,I.pin,I.hok,I.len⟩
theorem SP.unwish {D:Ends} {f:Flow} {s':Shared} (h:SP (X.wish E) p_ D f s'):SP X p_ D f s':=by
 cases f with
 |next=>obtain⟨σ',H',I,q⟩:=h;exact⟨σ',H',I.unwish,q⟩
 |brk=>obtain⟨σ',H',I,q⟩:=h;exact⟨σ',H',I.unwish,q⟩
 |cont=>obtain⟨σ',H',I,q⟩:=h;exact⟨σ',H',I.unwish,q⟩
 |ret u=>obtain⟨v,σ',H',I,r,q⟩:=h;exact⟨v,σ',H',I.unwish,r,q⟩
theorem PSs.nox {st:List Stmt} {t:TS} (h:PSs X.nox st t):PSs X st t:=fun p_ s σ H D I hw=>
 di (h p_ s σ H D (I.wish _) hw) (fun _ _ q=>q.unwish) fun _ _ z=>False.elim z
end
section
variable {X:Cx} {st:Stmt} {ay':List Stmt} {t u:TS} {e:Expr} {te:TE} {pos:Pos}
def pI':TS:=fun D σ H=>D.nx σ H
def xx' (t u:TS):TS:=fun D σ H=>t { D with nx:=u D } σ H
theorem pJ':PSs X [] pI':=fun _ _ σ H _ I h=>wpAny_execs_nil ⟨σ,H,I,h⟩
theorem my' (h1:PS X st t) (h2:PSs X ay' u):PSs X (st :: ay') (xx' t u):=by
 intro p_ s σ H D I h
 refine wpAny_execs_cons (thn (h1 p_ s σ H { D with nx:=u D } I h) fun f s1 q=>?_)
 cases f with
 |next=>
  obtain⟨σ',H',I',q⟩:=q
  exact h2 p_ s1 σ' H' D I' q
 |ret v=>exact q
 |brk=>exact q
 |cont=>exact q
theorem Inv.quiet {p_:List (Addr×Obj)} {σ:St} {H:Hp} {s:Shared} (I:Inv X p_ σ H s):interactive X.env=false:=by simp[interactive,I.ok.kind]
def pK' (te:TE):TS:=fun D σ H=>te σ H fun _ H1=>D.nx σ H1
theorem pL' (he:PE X e te) (hs:swapsWith e none pos.line X.env=pure false:=by rfl):PS X (.Expr e pos) (pK' te):=by
 intro p_ s σ H D I h
 exact wpAny_Expr_any (thn (he p_ s σ H _ I h) fun v s1 ⟨x,H1,I1,r1,q1⟩=>⟨σ,H1,I1,q1⟩) I.quiet hs
def xy' (te:TE):TS:=fun D σ H=>te σ H D.rt
theorem sV' (he:PE X e te):PS X (.Return (some e) pos) (xy' te):=by
 intro p_ s σ H D I h
 exact wpAny_Return_some (thn (he p_ s σ H _ I h) fun v s1 ⟨x,H1,I1,r1,q1⟩=>⟨x,σ,H1,I1,r1,q1⟩)
def xz' (c:TT) (t u:TS):TS:=fun D σ H=>c σ H fun b H1=>if b=true then t D σ H1 else u D σ H1
theorem xA' {c:Expr} {a b:List Stmt} {tc:TT} (hc:PT X c tc) (ha:PSs X a t) (hb:PSs X b u):PS X (.If c a b pos) (xz' tc t u):=by
 intro p_ s σ H D I h
 refine wpAny_If (thn (hc p_ s σ H _ I h) fun d s1 ⟨H1,I1,q1⟩=>?_)
 cases d with
 |true=>exact ha p_ s1 σ H1 D I1 q1
 |false=>exact hb p_ s1 σ H1 D I1 q1
end
abbrev TG:=V->St->Hp->(St->Hp->Prop)->Prop
abbrev TGs:=List V->St->Hp->(St->Hp->Prop)->Prop
def PG (X:Cx) (target:Expr) (t:TG):Prop:=
 ∀(p_:List (Addr×Obj)) (s:Shared) (σ:St) (H:Hp) (v:V) (u:Value) (Q:St->Hp->Prop),Inv X p_ σ H s->ax' v u->t v σ H Q->
  wpAny (model X.prog X.w) X.A (assign target X.env u) (fun _ s'=>∃σ' H',Inv X p_ σ' H' s'/\Q σ' H') X.xe s
def PGs (X:Cx) (ts:List Expr) (t:TGs):Prop:=
 ∀(p_:List (Addr×Obj)) (s:Shared) (σ:St) (H:Hp) (vs:List V) (us:List Value) (Q:St->Hp->Prop),Inv X p_ σ H s->aE' vs us->t vs σ H Q->
  wpAny (model X.prog X.w) X.A (assignInOrder ((assignEach ts X.env).map (·.2)) us) (fun _ s'=>∃σ' H',Inv X p_ σ' H' s'/\Q σ' H') X.xe s
abbrev xB':=V->V->V->Hp->(Hp->Prop)->Prop
def zM' (X:Cx) (t:xB'):Prop:=
 ∀(p_:List (Addr×Obj)) (s:Shared) (σ:St) (H:Hp) (o i v:V) (ov iv u:Value) (Q:Hp->Prop),Inv X p_ σ H s->ax' o ov->ax' i iv->ax' v u->t o i v H Q->
  wpAny (model X.prog X.w) X.A (setItem ov iv u) (fun _ s'=>∃H',Inv X p_ σ H' s'/\Q H') X.xe s
section
variable {X:Cx} {pos:Pos}
def cY' (i:Nat):TG:=fun v σ H Q=>Q (σ.set i (some v)) H
theorem pM' {i:Nat} {x:Str} (hN:X.N.Nodup) (hi:X.N[i]?=some x) (hx:Loc X.env.scope x) (hf:X.fn x=true\/X.env.scope.names.lookup x=some .local:=by first|exact .inl rfl|exact .inr rfl|assumption):PG X (.Name x pos) (cY' i):=by
 intro p_ s σ H v u Q I r h
 exact wpAny_assign_Name (e9' I hN hi hx r (fun s' I'=>⟨_,H,I',h⟩) hf)
def xC':TGs:=fun vs σ H Q=>vs=[]/\Q σ H
def pN' (t:TG) (u:TGs):TGs:=fun vs σ H Q=>∃v r,vs=v :: r/\t v σ H fun σ' H'=>u r σ' H' Q
theorem pO':PGs X [] xC':=by
 intro p_ s σ H vs us Q I r h
 obtain⟨e,h⟩:=h
 subst e
 cases r
 exact assignInOrder_nil ⟨σ,H,I,h⟩
theorem mz' {e:Expr} {es:List Expr} {t:TG} {u:TGs} (h1:PG X e t) (h2:PGs X es u)
  (hs:(assignEach (e :: es) X.env).map (·.2)=assign e X.env :: (assignEach es X.env).map (·.2):=by rfl):PGs X (e :: es) (pN' t u):=by
 intro p_ s σ H vs us Q I r h
 obtain⟨v,vr,e1,h⟩:=h
 subst e1
 cases r with
 |cons r rr=>
  rw[hs]
  refine assignInOrder_cons (thn (h1 p_ s σ H _ _ _ I r h) fun _ s1 ⟨σ1,H1,I1,q1⟩=>?_)
  exact h2 p_ s1 σ1 H1 _ _ Q I1 rr q1
def Az' (K:W.Frag) (n:Nat) (t:TGs):TG:=fun v σ H Q=>∃a xs,v=.ref a/\SqT K H a xs/\xs.length=n/\t xs σ H Q
theorem sW' {es:List Expr} {k:Nat} {t:TGs} {n:Nat} (hc:X.calm=true) (h:PGs X es t)
  (hn:(assignEach es X.env).length=n:=by rfl) (hst:(assignEach es X.env).findIdx? (·.1)=none:=by rfl):PG X (.Tuple es k pos) (Az' X.K n t):=by
 intro p_ s σ H v u Q I r hw
 obtain⟨a,xs,e1,hq,hl,hw⟩:=hw
 subst e1
 cases r
 obtain⟨its,rv,ht,hz⟩:=I.tuple hq
 refine assign_Tuple_tuple (I.ok.hd hc) ht (by simp[hn,<- hl,rv.length]) hst fun h' hx=>?_
 have I1:Inv X p_ σ H { s with heap:=h' }:=I.kept (t':=s.toks) fun b o e=>hx b o (aH (ax e)) e
 exact h p_ _ σ H xs _ Q I1 (by simpa using rv) hw
def xD' (to ti:TE) (t:xB'):TG:=fun v σ H Q=>to σ H fun o H1=>ti σ H1 fun i H2=>t o i v H2 fun H3=>Q σ H3
theorem sX' {o i:Expr} {to ti:TE} {t:xB'} (ho:PE X o to) (hi:PE X i ti) (hs:zM' X t)
  (ha:∀v,assign (.Subscript o i pos) X.env v=(do
   let ov <- holding [v] (eval o X.env)
   let iv <- holding [v,ov] (eval i X.env)
   standAt pos
   holding [v,ov,iv] (setItem ov iv v)
   release [v,ov,iv] []):=by intro _;rfl):PG X (.Subscript o i pos) (xD' to ti t):=by
 intro p_ s σ H v u Q I r h
 rw[ha]
 refine ab (aT (thn (ho p_ s σ H _ I h) fun ov s1 ⟨x,H1,I1,r1,q1⟩=>?_))
 refine ab (aT (thn (hi p_ s1 σ H1 _ I1 q1) fun iv s2 ⟨y,H2,I2,r2,q2⟩=>?_))
 refine ab (bO (ab (aT (thn (hs p_ s2 σ H2 x y v ov iv u _ I2 r1 r2 r q2) fun _ s3 ⟨H3,I3,q3⟩=>?_))))
 exact wpAny_release ⟨σ,H3,I3,q3⟩
def jA' (te:TE) (g:TG):TS:=fun D σ H=>te σ H fun x H1=>g x σ H1 D.nx
theorem hF' {tg e:Expr} {te:TE} {g:TG} (he:PE X e te) (hg:PG X tg g) (hs:swapsWithSole [tg] e pos.line X.env=pure false:=by rfl) (hw:swappedStores [tg] e X.env=pure none:=by rfl)
  (h1:(assignEach [tg] X.env).map (·.2)=[assign tg X.env]:=by rfl):PS X (.Assign [tg] e pos) (jA' te g):=by
 intro p_ s σ H D I h
 refine wpAny_Assign_stores (thn (he p_ s σ H _ I h) fun v s1 ⟨x,H1,I1,r1,q1⟩=>?_) hs hw
 rw[h1]
 exact thn (hg p_ s1 σ H1 x v _ I1 r1 q1) fun _ s2 q=>q
def xE' (i j:Nat) (ta:TA):TS:=fun D σ H=>ta σ H fun vs H1=>∃v w,vs=[v,w]/\D.nx ((σ.set i (some v)).set j (some w)) H1
theorem sY' {i j:Nat} {x y:Str} {a b:Expr} {ta:TA} {px py pt:Pos} {kt k2 pt2} (hc:X.calm=true) (hN:X.N.Nodup) (hi:X.N[i]?=some x) (hj:X.N[j]?=some y) (hij:i≠j)
  (hx:X.env.scope.names.lookup x=some .local) (hy:X.env.scope.names.lookup y=some .local) (ha:PA X [a,b] ta)
  (hw:swappedStores [.Tuple [.Name x px,.Name y py] kt pt] (.Tuple [a,b] k2 pt2) X.env=pure (some [x,y]))
  (hs:swapsWithSole [.Tuple [.Name x px,.Name y py] kt pt] (.Tuple [a,b] k2 pt2) pos.line X.env=pure false:=by rfl):
  PS X (.Assign [.Tuple [.Name x px,.Name y py] kt pt] (.Tuple [a,b] k2 pt2) pos) (xE' i j ta):=by
 intro p_ s σ H D I h
 rw[exec_Assign_arm]
 refine ab (bO ?_)
 rw[hs]
 refine ab (ag ?_)
 rw[if_neg (by decide)]
 refine ab (Tuple_ (thn (ha _ p_ s σ H _ I h) fun us s1 ⟨vs,H1,I1,r1,q1⟩=>?_))
 obtain⟨v,w,e1,q1⟩:=q1
 subst e1
 obtain⟨u1,u2,rfl,rv,rw'⟩:∃u1 u2,us=[u1,u2]/\ax' v u1/\ax' w u2:=by
  cases r1 with
  |cons p q=>
   cases q with
   |cons p' q'=>
    cases q'
    exact⟨_,_,rfl,p,p'⟩
 refine bH ?_ (by show 2<=sizeLine;decide)
 have I2:Inv X p_ σ H1 { s1 with heap:=s1.heap.push { cls:=.type "tuple",data:=.seq [u1,u2].toArray } }:=I1.kept (t':=s1.toks) fun b o e=>ac _ e
 rw[hw]
 refine ab (ag ?_)
 show wpAny (model X.prog X.w) X.A (do rule "assign.swapped-stores";let items <- unpackItems (.ref s1.heap.objs.size) 2 none;assignInOrder [fun v=>bindName X.env y v,fun v=>bindName X.env x v] items.reverse;pure Flow.next) _ _ _
 refine ab (wpAny_rule (ab (unpackItems_tuple (items:=#[u1,u2]) (I.ok.hd hc) (IsTup.new s1.heap _) fun h' hx'=>?_)))
 have I3:=I2.kept (h':=h') (t':=s1.toks) fun b o e=>hx' b o (aH (ax e)) e
 show wpAny _ _ (assignInOrder [fun v=>bindName X.env y v,fun v=>bindName X.env x v] [u2,u1] >>= fun _=>pure Flow.next) _ _ _
 refine ab (assignInOrder_cons (wpAny_bindName (e9' I3 hN hj (.inl hy) rw' (fun s2 I4=>?_) (.inr hy))))
 refine assignInOrder_cons (wpAny_bindName (e9' I4 hN hi (.inl hx) rv (fun s3 I5=>assignInOrder_nil (ag ?_)) (.inr hx)))
 rw[List.set_comm _ _ (Ne.symm hij)]at I5
 exact⟨_,H1,I5,q1⟩
end
section
variable {X:Cx} {pos:Pos}
def jG' (c:TT) (tb:TS):TS:=fun D σ H=>∃W:Nat->St->Hp->Prop,(∃m,W m σ H)/\∀m σ H,W m σ H->
 c σ H fun b H1=>if b=true then ∃N:St->Hp->Prop,(∀σ' H',N σ' H'->∃m',m'<m/\W m' σ' H')/\tb { D with nx:=N,ct:=N,bk:=D.nx } σ H1 else D.nx σ H1
theorem mA' {c:Expr} {body:List Stmt} {tc:TT} {tb:TS} (hp:PassesOwn (model X.prog X.w) X.A X.env X.xe) (hc:PT X c tc) (hb:PSs X body tb):PS X (.While c body [] pos) (jG' tc tb):=by
 intro p_ s σ H D I h
 obtain⟨W,⟨m0,w0⟩,turn⟩:=h
 refine wpAny_While (codeAny_whileLoop (fun n s'=>∃σ' H',Inv X p_ σ' H' s'/\W n σ' H') ?_ m0 ⟨σ,H,I,w0⟩)
 rintro n s1 ⟨σ1,H1,I1,w1⟩
 refine cB hp (thn (hc p_ s1 σ1 H1 _ I1 (turn n σ1 H1 w1)) fun b s2 ⟨H2,I2,q2⟩=>?_)
 cases b with
 |true=>
  obtain⟨N,hN,q2⟩:=q2
  rw[if_pos rfl]
  refine cB hp (thn (hb p_ s2 σ1 H2 _ I2 q2) fun f s3 q3=>?_)
  cases f with
  |next=>
   obtain⟨σ3,H3,I3,n3⟩:=q3
   obtain⟨m',hm,w3⟩:=hN σ3 H3 n3
   exact⟨m',hm,σ3,H3,I3,w3⟩
  |cont=>
   obtain⟨σ3,H3,I3,n3⟩:=q3
   obtain⟨m',hm,w3⟩:=hN σ3 H3 n3
   exact⟨m',hm,σ3,H3,I3,w3⟩
  |brk=>exact q3
  |ret v=>exact q3
 |false=>
  rw[if_neg ay]
  exact wpAny_execs_nil ⟨σ1,H2,I2,q2⟩
end
structure It where
 go:Nat->Hp->Prop
 yld:Nat->Hp->V->Hp->Prop
 stop:Nat->Hp->Prop
def cH' (X:Cx) (p_:List (Addr×Obj)) (H:Hp) (b:Addr):Prop:=
 H b=none/\b≠X.env.locals/\b∉X.fs/\(b∈X.ex\/X.s₀.heap.objs.size<=b)/\(∀x c,X.env.cells.lookup x=some c->c≠b)/\∀p∈X.pn++p_,p.1≠b
theorem Inv.fpOk {X:Cx} {p_:List (Addr×Obj)} {σ:St} {H H':Hp} {s:Shared} {b:Addr} (I:Inv X p_ σ H s) (hb:s.heap.objs.size<=b) (hn:H' b=none):cH' X p_ H' b:=by
 refine⟨hn,bP (ao I.lt hb),I.nofs hb,.inr (aS I.sz hb),fun x c e z=>?_,fun p hp z=>?_⟩
 .obtain⟨v,q⟩:=I.cell x c e
  exact absurd (ao q.lt (by rw[z];exact hb)) (bc _)
 .exact absurd (ao (ax (I.pin p hp).1) (by rw[z];exact hb)) (bc _)
structure Turn (P:Program) (w:World) (K:W.Frag) (tg:Expr) (J:It) (fp:List Addr) (it:Addr) (tn:Nat->Heap->Prop):Prop where
 mem:it∈fp
 obj:∀i h,tn i h->∀b∈fp,∃o,h.get? b=some o/\∀v,o.data≠.cell v
 keep:∀i h h',tn i h->(∀b∈fp,∀o,h.get? b=some o->h'.get? b=some o)->tn i h'
 item:∀(X:Cx),X.prog=P->X.w=w->X.K=K->X.calm=true->∀(i:Nat) (p_:List (Addr×Obj)) (s:Shared) (σ:St) (H:Hp) (E:Value->Shared->Prop),Inv X p_ σ H s->(∀b∈fp,cH' X p_ H b)->tn i s.heap->J.go i H->
  wpAny (model P w) X.A (pyNext (.ref it)) (fun r s1=>∃u,r=some u/\
   wpAny (model P w) X.A (letOwnedTupleGo tg (.ref it) u) (fun _ s2=>∃x H',Inv X p_ σ H' s2/\ax' x u/\J.yld i H x H'/\tn (i+1) s2.heap/\∀b∈fp,H' b=none) E s1) E s
 done:∀(X:Cx),X.prog=P->X.w=w->X.K=K->X.calm=true->∀(i:Nat) (p_:List (Addr×Obj)) (s:Shared) (σ:St) (H:Hp) (E:Value->Shared->Prop),Inv X p_ σ H s->(∀b∈fp,cH' X p_ H b)->tn i s.heap->J.stop i H->
  wpAny (model P w) X.A (pyNext (.ref it)) (fun r s1=>r=none/\Inv X p_ σ H s1) E s
 self:∀(A:Around) (i:Nat) (s:Shared) (Q:Value->Shared->Prop) (E:Value->Shared->Prop),tn i s.heap->Q (.ref it) s->wpAny (model P w) A (pyIter (.ref it)) Q E s
abbrev TI:=St->Hp->(It->Hp->Prop)->Prop
def PIE (X:Cx) (p_:List (Addr×Obj)) (σ:St) (tg:Expr) (R:It->Hp->Prop) (itv:Value) (s2:Shared):Prop:=
 ∃(it:Addr) (fp:List Addr) (tn:Nat->Heap->Prop) (J:It) (H':Hp),itv=.ref it/\Inv X p_ σ H' s2/\Turn X.prog X.w X.K tg J fp it tn/\tn 0 s2.heap/\(∀b∈fp,cH' X p_ H' b)/\R J H'
def PI (X:Cx) (tg iter:Expr) (wi:TI):Prop:=
 ∀(p_:List (Addr×Obj)) (s:Shared) (σ:St) (H:Hp) (R:It->Hp->Prop),Inv X p_ σ H s->wi σ H R->
  wpAny (model X.prog X.w) X.A (eval iter X.env) (fun v s1=>wpAny (model X.prog X.w) X.A (pyIter v) (PIE X p_ σ tg R) X.xe s1) X.xe s
theorem mB' {M:Model} {A:Around} {E:Value->Shared->Prop} {s:Shared} {tg:Expr} {it:Addr} {u:Value} {o:Obj} {n:String} {vs:Array Value} {Q:Unit->Shared->Prop} (ho:s.heap.get? it=some o) (hc:o.cls=.type n) (hd:o.data=.fields vs)
  (hn:["enumerate","zip","dict_itemiterator","dict_reverseitemiterator","odict_iterator","itertools.zip_longest","itertools.pairwise"].contains n=false) (hQ:Q () s):wpAny M A (letOwnedTupleGo tg (.ref it) u) Q E s:=by
 unfold letOwnedTupleGo
 cases tg<;>first
  |exact ag hQ
  |(cases u<;>first
    |exact ag hQ
    |(refine ab (wpAny_load ho ?_)
      rw[hc,hd]
      show wpAny M A (if(["enumerate","zip","dict_itemiterator","dict_reverseitemiterator","odict_iterator","itertools.zip_longest","itertools.pairwise"].contains n&&vs[0]? == some (rawInt _))=true then _ else _) Q E s
      rw[if_neg (by intro h;rw[hn,Bool.false_and]at h;cases h)]
      exact ag hQ))
def Itl (K:W.Frag) (a:Addr):It:=
 ⟨fun i H=>∃xs x,SqL K H a xs/\xs[i]?=some x,fun i H x H'=>H'=H/\∀xs,SqL K H a xs->xs[i]?=some x,fun i H=>∃xs,SqL K H a xs/\xs.length<=i⟩
def Itt (K:W.Frag) (a:Addr):It:=
 ⟨fun i H=>∃xs x,SqT K H a xs/\xs[i]?=some x,fun i H x H'=>H'=H/\∀xs,SqT K H a xs->xs[i]?=some x,fun i H=>∃xs,SqT K H a xs/\xs.length<=i⟩
def Itr (lo:Int) (n:Nat):It:=⟨fun i _=>i<n,fun i H x H'=>H'=H/\x=.int (lo+i),fun i _=>n<=i⟩
theorem jH' {P:Program} {w:World} {K:W.Frag} {tg:Expr} (a it:Addr):Turn P w K tg (Itl K a) [it] it (fun i h=>h.IsListIter it a i) where
 mem:=by simp
 obj:=fun i h st b hb=>by
  have e:b=it:=by simpa using hb
  subst e
  obtain⟨o,e,c,d⟩:=st
  exact⟨o,e,fun v z=>by rw[d]at z;cases z⟩
 keep:=fun i h h' st k=>st.at fun o e=>k it (by simp) o e
 item:=by
  intro X hP hw hK hc i p_ s σ H E I hf st hg
  subst hP hw hK
  obtain⟨xs,x,hq,hx⟩:=hg
  obtain⟨its,rv,p,hz⟩:=I.list hq
  obtain⟨u,hu,ru⟩:=rv.get hx
  obtain⟨f0,f1,f2,f3,f4,f5⟩:=hf it (by simp)
  refine wpAny_pyNext_list_item st p.isList (x:=u) (by simpa using hu) fun h' st' sb=>?_
  have I1:Inv X p_ σ H { s with heap:=h' }:=I.turned (t':=s.toks) (fun b o hb e=>(sb.2 b hb).trans e) f0 f1 f3 f4 f5
  obtain⟨o,e,c,d⟩:=id st'
  exact⟨u,rfl,mB' (s:={ s with heap:=h' }) e c d (by decide) ⟨x,H,I1,ru,⟨rfl,fun ys hy=>by rw[I.list_inj hy hq];exact hx⟩,st',fun b hb=>(hf b hb).1⟩⟩
 done:=by
  intro X hP hw hK hc i p_ s σ H E I hf st hg
  subst hP hw hK
  obtain⟨xs,hq,hx⟩:=hg
  obtain⟨its,rv,p,hz⟩:=I.list hq
  obtain⟨f0,f1,f2,f3,f4,f5⟩:=hf it (by simp)
  have hl:=rv.length
  exact wpAny_pyNext_list_end (I.ok.hd hc) st p.isList (by simp;omega) fun h' eb=>⟨rfl,I.turned (t':=s.toks) (fun b o hb e=>eb b o hb e) f0 f1 f3 f4 f5⟩
 self:=fun _ _ _ _ _ st h=>wpAny_pyIter_listiter st h
theorem iS' {P:Program} {w:World} {K:W.Frag} {tg:Expr} (a it:Addr):Turn P w K tg (Itt K a) [it] it (fun i h=>h.IsTupleIter it a i) where
 mem:=by simp
 obj:=fun i h st b hb=>by
  have e:b=it:=by simpa using hb
  subst e
  obtain⟨o,e,c,d⟩:=st
  exact⟨o,e,fun v z=>by rw[d]at z;cases z⟩
 keep:=fun i h h' st k=>st.at fun o e=>k it (by simp) o e
 item:=by
  intro X hP hw hK hc i p_ s σ H E I hf st hg
  subst hP hw hK
  obtain⟨xs,x,hq,hx⟩:=hg
  obtain⟨its,rv,p,hz⟩:=I.tuple hq
  obtain⟨u,hu,ru⟩:=rv.get hx
  obtain⟨f0,f1,f2,f3,f4,f5⟩:=hf it (by simp)
  refine wpAny_pyNext_tuple_item st (show s.heap.IsTuple a its.toArray from p) (x:=u) (by simpa using hu) fun h' st' sb=>?_
  have I1:Inv X p_ σ H { s with heap:=h' }:=I.turned (t':=s.toks) (fun b o hb e=>(sb.2 b hb).trans e) f0 f1 f3 f4 f5
  obtain⟨o,e,c,d⟩:=id st'
  exact⟨u,rfl,mB' (s:={ s with heap:=h' }) e c d (by decide) ⟨x,H,I1,ru,⟨rfl,fun ys hy=>by rw[I.tuple_inj hy hq];exact hx⟩,st',fun b hb=>(hf b hb).1⟩⟩
 done:=by
  intro X hP hw hK hc i p_ s σ H E I hf st hg
  subst hP hw hK
  obtain⟨xs,hq,hx⟩:=hg
  obtain⟨its,rv,p,hz⟩:=I.tuple hq
  obtain⟨f0,f1,f2,f3,f4,f5⟩:=hf it (by simp)
  have hl:=rv.length
  exact wpAny_pyNext_tuple_end (I.ok.hd hc) st (show s.heap.IsTuple a its.toArray from p) (by simp;omega) fun h' eb=>⟨rfl,I.turned (t':=s.toks) (fun b o hb e=>eb b o hb e) f0 f1 f3 f4 f5⟩
 self:=fun _ _ _ _ _ st h=>wpAny_pyIter_tupleiter st h
theorem iT' {P:Program} {w:World} {K:W.Frag} {tg:Expr} (it:Addr) (lo:Int) (n:Nat):Turn P w K tg (Itr lo n) [it] it (fun i h=>IsRangeIter h it (lo+(i:Nat)*1) ((n:Int)-(i:Nat)) 1) where
 mem:=by simp
 obj:=fun i h st b hb=>by
  have e:b=it:=by simpa using hb
  subst e
  exact⟨_,st,fun v z=>by
   have z':Data.fields _=Data.cell v:=z
   cases z'⟩
 keep:=fun i h h' st k=>k it (by simp) _ st
 item:=by
  intro X hP hw hK hc i p_ s σ H E I hf st hg
  subst hP hw hK
  obtain⟨f0,f1,f2,f3,f4,f5⟩:=hf it (by simp)
  have W:=Walks.range (prog:=X.prog) (w:=X.w) (I.ok.hd hc) it lo 1 n
  refine W.item i s _ _ hg st fun v h' tk hv st' kk=>?_
  obtain⟨t,rfl⟩:=hv
  have I1:Inv X p_ σ H { s with heap:=h',toks:=tk }:=I.turned (fun b o hb e=>kk b o (by simpa using hb) e) f0 f1 f3 f4 f5
  refine⟨_,rfl,mB' (s:={ s with heap:=h',toks:=tk }) (n:="range_iterator") st' rfl rfl (by decide) ⟨.int (lo+i),H,I1,⟨t,?_⟩,⟨rfl,rfl⟩,st',fun b hb=>(hf b hb).1⟩⟩
  rw[Int.mul_one]
 done:=by
  intro X hP hw hK hc i p_ s σ H E I hf st hg
  subst hP hw hK
  obtain⟨f0,f1,f2,f3,f4,f5⟩:=hf it (by simp)
  exact wpAny_pyNext_range_end (I.ok.hd hc) st (by have:n<=i:=hg;omega) fun h' eb=>⟨rfl,I.turned (t':=s.toks) (fun b o hb e=>eb b o hb e) f0 f1 f3 f4 f5⟩
 self:=fun _ _ _ _ _ st h=>wpAny_pyIter_rangeiter st h
section
variable {X:Cx} {tg:Expr}
theorem mC' {p_:List (Addr×Obj)} {σ:St} {H:Hp} {s:Shared} {R:It->Hp->Prop} {E:Value->Shared->Prop} {lo hi:Int} {t u v:Tok} {tk:Nat} (I:Inv X p_ σ H s) (h1:-(2 ^ 62)<=lo) (h2:lo<2 ^ 62) (h3:-(2 ^ 62)<=hi) (h4:hi<2 ^ 62)
  (q:R (Itr lo (hi-lo).toNat) H):wpAny (model X.prog X.w) X.A (pyIter (.ref s.heap.objs.size)) (PIE X p_ σ tg R) E { s with heap:=s.heap.push { cls:=.type "range",data:=.fields #[.int lo t,.int hi u,.int 1 v] },toks:=tk }:=by
 refine wpAny_pyIter_range (IsRange.new ..) (small_one h1 h2 h3 h4) ?_
 have I1:Inv X p_ σ H { s with heap:=s.heap.push { cls:=.type "range",data:=.fields #[.int lo t,.int hi u,.int 1 v] },toks:=tk }:=I.kept fun b o e=>ac _ e
 refine⟨(s.heap.push { cls:=.type "range",data:=.fields #[.int lo t,.int hi u,.int 1 v] }).objs.size,[(s.heap.push { cls:=.type "range",data:=.fields #[.int lo t,.int hi u,.int 1 v] }).objs.size],_,_,H,rfl,
  I1.kept (t':=tk) fun b o e=>ac _ e,iT' _ lo (hi-lo).toNat,?_,fun b hb=>?_,q⟩
 .have e1:lo+((0:Nat):Int)*1=lo:=by simp
  have e2:(((hi-lo).toNat:Nat):Int)-((0:Nat):Int)=Builtin.Range.rangeSize lo hi 1:=by rw[rangeSize_one];split<;>omega
  show IsRangeIter _ _ (lo+((0:Nat):Int)*1) ((((hi-lo).toNat:Nat):Int)-((0:Nat):Int)) 1
  rw[e1,e2]
  exact aC _ rfl
 .have e:b=(s.heap.push { cls:=.type "range",data:=.fields #[.int lo t,.int hi u,.int 1 v] }).objs.size:=by simpa using hb
  subst e
  exact I1.fpOk (ah _) (I1.hok.fresh (ah _))
def pP' (ta:TA):TI:=fun σ H R=>ta σ H fun vs H1=>∃j:Int,vs=[.int j]/\-(2 ^ 62)<=j/\j<2 ^ 62/\R (Itr 0 j.toNat) H1
theorem jI' {a:Expr} {ta:TA} {p pos:Pos} (hg:Gl X "range") (hm:X.mg "range"=none) (ha:PA X [a] ta) (hs:starEach [a] X.env=[(false,eval a X.env)]:=by rfl):PI X tg (.Call (.Name "range" p) [a] [] pos) (pP' ta):=by
 intro p_ s σ H R I h
 refine Call_ (fL' I hg hm boot_range (PyProof.Rows.callWith_type1 (thn (ha pos p_ s σ H _ I h) fun us s1 ⟨vs,H1,I1,r1,q1⟩=>?_) hs rfl))
 obtain⟨j,e,q1,q2,q⟩:=q1
 subst e
 cases r1 with
 |cons r rr=>
  cases rr
  obtain⟨t,rfl⟩:=r
  exact call_range_1 (mC' I1 ⋯ ⋯ q1 q2 (by simpa using q))
def xF' (wi:TI) (g:TG) (tb:TS):TS:=fun D σ H=>wi σ H fun J H1=>∃W:Nat->Nat->St->Hp->Prop,(∃m,W 0 m σ H1)/\∀i m σ H,W i m σ H->
 (J.stop i H/\D.nx σ H)\/(J.go i H/\∃N:St->Hp->Prop,(∀σ' H',N σ' H'->∃m',m'<m/\W (i+1) m' σ' H')/\∀x H',J.yld i H x H'->g x σ H' fun σ2 H2=>tb { D with nx:=N,ct:=N,bk:=D.nx } σ2 H2)
def bm' (fp:List Addr) (h:Heap):List (Addr×Obj):=fp.filterMap fun b=>(h.get? b).map fun o=>(b,o)
theorem aD' {fp:List Addr} {h:Heap} {b:Addr} {o:Obj} (hb:b∈fp) (e:h.get? b=some o):(b,o)∈bm' fp h:=cO.mpr ⟨b,hb,by rw[e];rfl⟩
theorem dY' {fp:List Addr} {h:Heap} {p:Addr×Obj} (hp:p∈bm' fp h):p.1∈fp/\h.get? p.1=some p.2:=by
 obtain⟨b,hb,e⟩:=cO.mp hp
 cases q:h.get? b with
 |none=>rw[q]at e;cases e
 |some o=>
  rw[q]at e
  have e':(b,o)=p:=Option.some.inj e
  subst e'
  exact⟨hb,q⟩
theorem Inv.pinned {p_:List (Addr×Obj)} {σ:St} {H:Hp} {s:Shared} {fp:List Addr} (I:Inv X p_ σ H s) (hf:∀b∈fp,cH' X p_ H b) (ho:∀b∈fp,∃o,s.heap.get? b=some o/\∀v,o.data≠.cell v):Inv X (p_++bm' fp s.heap) σ H s:=
 I.pins_of fun p hp=>(am.mp hp).elim (fun z=>I.pin p (ai _ z)) fun z=>by
  obtain⟨hb,e⟩:=dY' z
  obtain⟨f0,f1,f2,_⟩:=hf p.1 hb
  obtain⟨o,e',d⟩:=ho p.1 hb
  rw[e]at e';cases e'
  exact⟨e,f0,f1,f2,d⟩
theorem Inv.unpinned {p_ pl:List (Addr×Obj)} {σ:St} {H:Hp} {s:Shared} (I:Inv X (p_++pl) σ H s):Inv X p_ σ H s:=I.pins_of fun p hp=>I.pin p (ai _ (aE _ hp))
theorem sZ' {iter:Expr} {body:List Stmt} {wi:TI} {g:TG} {tb:TS} {pos:Pos} (hp:PassesOwn (model X.prog X.w) X.A X.env X.xe) (hc:X.calm=true) (hi:PI X tg iter wi) (hg:PG X tg g) (hb:PSs X body tb)
  (hs:∀x,foldedSetIterable iter X.env x=pure x:=by intro _;rfl):PS X (.For tg iter body [] pos) (xF' wi g tb):=by
 intro p_ s σ H D I h
 refine wpAny_For (thn (hi p_ s σ H _ I h) fun v s1 h1=>thn h1 fun itv s2 h2=>?_) hs
 obtain⟨it,fp,tn,J,H2,e,I2,T,st2,f2,W,⟨m0,w0⟩,turn⟩:=h2
 subst e
 have stat:∀{H':Hp},(∀b∈fp,H' b=none)->∀b∈fp,cH' X p_ H' b:=fun hn b hb=>⟨hn b hb,(f2 b hb).2⟩
 refine codeAny_forLoop_any (fun n s'=>∃i σ' H',Inv X p_ σ' H' s'/\tn i s'.heap/\(∀b∈fp,H' b=none)/\W i n σ' H') ?_ m0 ⟨0,σ,H2,I2,st2,fun b hb=>(f2 b hb).1,w0⟩
 rintro n s3 ⟨i,σ3,H3,I3,st3,fr3,w3⟩
 rcases turn i n σ3 H3 w3 with⟨stop,qn⟩|⟨go,N,hN,step⟩
 .refine cB hp (thn (T.done X rfl rfl rfl hc i p_ s3 σ3 H3 X.xe I3 (stat fr3) st3 stop) fun r s4 ⟨hr,I4⟩=>?_)
  subst hr
  exact wpAny_execs_nil ⟨σ3,H3,I4,qn⟩
 .refine cB hp (thn (T.item X rfl rfl rfl hc i p_ s3 σ3 H3 X.xe I3 (stat fr3) st3 go) fun r s4 ⟨u,hr,h4⟩=>?_)
  subst hr
  refine cB hp (thn h4 fun _ s5 ⟨x,H5,I5,r5,y5,st5,fr5⟩=>?_)
  have I5':=I5.pinned (stat fr5) (T.obj _ _ st5)
  refine cB hp (thn (hg _ s5 σ3 H5 x u _ I5' r5 (step x H5 y5)) fun _ s6 ⟨σ6,H6,I6,q6⟩=>?_)
  refine cB hp (thn (hb _ s6 σ6 H6 _ I6 q6) fun f s7 q7=>?_)
  have again:∀{σ7:St} {H7:Hp},Inv X (p_++bm' fp s5.heap) σ7 H7 s7->N σ7 H7->∃m,m<n/\∃i σ' H',Inv X p_ σ' H' s7/\tn i s7.heap/\(∀b∈fp,H' b=none)/\W i m σ' H':=fun {σ7 H7} I7 n7=>by
   obtain⟨m',hm,w7⟩:=hN σ7 H7 n7
   refine⟨m',hm,i+1,σ7,H7,I7.unpinned,T.keep _ _ _ st5 fun b hb o e=>(I7.pin (b,o) (ai _ (ai _ (aD' hb e)))).1,fun b hb=>?_,w7⟩
   obtain⟨o,e,d⟩:=T.obj _ _ st5 b hb
   exact(I7.pin (b,o) (ai _ (ai _ (aD' hb e)))).2.1
  cases f with
  |next=>obtain⟨σ7,H7,I7,n7⟩:=q7;exact again I7 n7
  |cont=>obtain⟨σ7,H7,I7,n7⟩:=q7;exact again I7 n7
  |brk=>obtain⟨σ7,H7,I7,q7⟩:=q7;exact⟨σ7,H7,I7.unpinned,q7⟩
  |ret v=>obtain⟨x7,σ7,H7,I7,r7,q7⟩:=q7;exact⟨x7,σ7,H7,I7.unpinned,r7,q7⟩
end
theorem mD' {K:W.Frag} {a:Addr} {xs:List V} {g:TG} {tb:TS} {D:Ends} {σ:St} {H:Hp} (Pv:Nat->St->Hp->Prop) (h0:Pv 0 σ H) (hl:∀i σ H,i<=xs.length->Pv i σ H->SqL K H a xs)
  (hs:∀i x σ H,xs[i]?=some x->Pv i σ H->g x σ H fun σ2 H2=>tb { D with nx:=Pv (i+1),ct:=Pv (i+1),bk:=D.nx } σ2 H2) (hd:∀σ H,Pv xs.length σ H->D.nx σ H):
  ∃W:Nat->Nat->St->Hp->Prop,(∃m,W 0 m σ H)/\∀i m σ H,W i m σ H->
   ((Itl K a).stop i H/\D.nx σ H)\/((Itl K a).go i H/\∃N:St->Hp->Prop,(∀σ' H',N σ' H'->∃m',m'<m/\W (i+1) m' σ' H')/\∀x H',(Itl K a).yld i H x H'->g x σ H' fun σ2 H2=>tb { D with nx:=N,ct:=N,bk:=D.nx } σ2 H2):=by
 refine⟨fun i m σ H=>m=xs.length-i/\i<=xs.length/\Pv i σ H,⟨xs.length,by simp,aL _,h0⟩,?_⟩
 rintro i m σ H ⟨rfl,hi,p⟩
 have q:=hl i σ H hi p
 by_cases hlt:i<xs.length
 .refine .inr ⟨⟨xs,xs[i],q,by simp[hlt]⟩,Pv (i+1),fun σ' H' p'=>⟨xs.length-(i+1),⋯,rfl,hlt,p'⟩,fun x H' y=>?_⟩
  obtain⟨e,y⟩:=y
  subst e
  exact hs i x σ _ (y xs q) p
 .have e:i=xs.length:=by omega
  subst e
  exact .inl ⟨⟨xs,q,ah _⟩,hd σ H p⟩
theorem pQ' {K:W.Frag} {a:Addr} {xs:List V} {g:TG} {tb:TS} {D:Ends} {σ:St} {H:Hp} (Pv:Nat->St->Hp->Prop) (h0:Pv 0 σ H) (hl:∀i σ H,i<=xs.length->Pv i σ H->SqT K H a xs)
  (hs:∀i x σ H,xs[i]?=some x->Pv i σ H->g x σ H fun σ2 H2=>tb { D with nx:=Pv (i+1),ct:=Pv (i+1),bk:=D.nx } σ2 H2) (hd:∀σ H,Pv xs.length σ H->D.nx σ H):
  ∃W:Nat->Nat->St->Hp->Prop,(∃m,W 0 m σ H)/\∀i m σ H,W i m σ H->
   ((Itt K a).stop i H/\D.nx σ H)\/((Itt K a).go i H/\∃N:St->Hp->Prop,(∀σ' H',N σ' H'->∃m',m'<m/\W (i+1) m' σ' H')/\∀x H',(Itt K a).yld i H x H'->g x σ H' fun σ2 H2=>tb { D with nx:=N,ct:=N,bk:=D.nx } σ2 H2):=by
 refine⟨fun i m σ H=>m=xs.length-i/\i<=xs.length/\Pv i σ H,⟨xs.length,by simp,aL _,h0⟩,?_⟩
 rintro i m σ H ⟨rfl,hi,p⟩
 have q:=hl i σ H hi p
 by_cases hlt:i<xs.length
 .refine .inr ⟨⟨xs,xs[i],q,by simp[hlt]⟩,Pv (i+1),fun σ' H' p'=>⟨xs.length-(i+1),⋯,rfl,hlt,p'⟩,fun x H' y=>?_⟩
  obtain⟨e,y⟩:=y
  subst e
  exact hs i x σ _ (y xs q) p
 .have e:i=xs.length:=by omega
  subst e
  exact .inl ⟨⟨xs,q,ah _⟩,hd σ H p⟩
theorem jJ' {lo:Int} {n:Nat} {g:TG} {tb:TS} {D:Ends} {σ:St} {H:Hp} (Pv:Nat->St->Hp->Prop) (h0:Pv 0 σ H)
  (hs:∀i σ H,i<n->Pv i σ H->g (.int (lo+i)) σ H fun σ2 H2=>tb { D with nx:=Pv (i+1),ct:=Pv (i+1),bk:=D.nx } σ2 H2) (hd:∀σ H,Pv n σ H->D.nx σ H):
  ∃W:Nat->Nat->St->Hp->Prop,(∃m,W 0 m σ H)/\∀i m σ H,W i m σ H->
   ((Itr lo n).stop i H/\D.nx σ H)\/((Itr lo n).go i H/\∃N:St->Hp->Prop,(∀σ' H',N σ' H'->∃m',m'<m/\W (i+1) m' σ' H')/\∀x H',(Itr lo n).yld i H x H'->g x σ H' fun σ2 H2=>tb { D with nx:=N,ct:=N,bk:=D.nx } σ2 H2):=by
 refine⟨fun i m σ H=>m=n-i/\i<=n/\Pv i σ H,⟨n,by simp,aL _,h0⟩,?_⟩
 rintro i m σ H ⟨rfl,hi,p⟩
 by_cases hlt:i<n
 .refine .inr ⟨hlt,Pv (i+1),fun σ' H' p'=>⟨n-(i+1),⋯,rfl,hlt,p'⟩,fun x H' y=>?_⟩
  obtain⟨e,y⟩:=y
  subst e y
  exact hs i σ _ hlt p
 .have e:i=n:=by omega
  subst e
  exact .inl ⟨ah _,hd σ H p⟩
abbrev R2:=V->V->Hp->VK->Prop
def OpR (X:Cx) (f:Value->Value->Sem Value) (r:R2):Prop:=
 ∀(p_:List (Addr×Obj)) (s:Shared) (σ:St) (H:Hp) (x y:V) (v u:Value) (Q:VK),Inv X p_ σ H s->ax' x v->ax' y u->r x y H Q->
  wpAny (model X.prog X.w) X.A (f v u) (EP X p_ σ Q) X.xe s
def a2' (X:Cx) (f:Value) (r:List V->Hp->VK->Prop):Prop:=
 ∀(p_:List (Addr×Obj)) (s:Shared) (σ:St) (H:Hp) (xs:List V) (us:List Value) (Q:VK),Inv X p_ σ H s->aE' xs us->r xs H Q->
  wpAny (model X.prog X.w) X.A (call f us) (EP X p_ σ Q) X.xe s
def AA' (X:Cx) (r:V->Hp->(Bool->Hp->Prop)->Prop):Prop:=
 ∀(p_:List (Addr×Obj)) (s:Shared) (σ:St) (H:Hp) (x:V) (v:Value) (Q:Bool->Hp->Prop),Inv X p_ σ H s->ax' x v->r x H Q->
  wpAny (model X.prog X.w) X.A (truthy v) (TP X p_ σ Q) X.xe s
def tOp (r:R2) (ta tb:TE):TE:=fun σ H Q=>ta σ H fun x H1=>tb σ H1 fun y H2=>r x y H2 Q
def rI (C:Int->Int->Prop) (g:Int->Int->V):R2:=fun x y H Q=>∃i j,x=.int i/\y=.int j/\C i j/\Q (g i j) H
def rI0 (g:Int->Int->V):R2:=fun x y H Q=>∃i j,x=.int i/\y=.int j/\Q (g i j) H
section
variable {X:Cx} {a b c:Expr} {ta tb tc:TE} {pos:Pos}
theorem xG' (ha:PE X a ta) (hb:PE X b tb) {p_:List (Addr×Obj)} {s:Shared} {σ:St} {H:Hp} {R:V->V->Hp->Prop} (I:Inv X p_ σ H s)
  (h:ta σ H fun x H1=>tb σ H1 fun y H2=>R x y H2) {Q:Value->Shared->Prop} {f:Value->Value->Sem Value}
  (hf:∀v u s2 x y H2,Inv X p_ σ H2 s2->ax' x v->ax' y u->R x y H2->wpAny (model X.prog X.w) X.A (f v u) Q X.xe s2):
  wpAny (model X.prog X.w) X.A (eval a X.env) (fun v s₁=>wpAny (model X.prog X.w) X.A (eval b X.env) (fun u s₂=>wpAny (model X.prog X.w) X.A (f v u) Q X.xe s₂) X.xe s₁) X.xe s:=by
 refine thn (ha p_ s σ H _ I h) fun v s1 ⟨x,H1,I1,r1,q1⟩=>?_
 refine thn (hb p_ s1 σ H1 _ I1 q1) fun u s2 ⟨y,H2,I2,r2,q2⟩=>?_
 exact hf v u s2 x y H2 I2 r1 r2 q2
theorem xH' {op:Operator} {r:R2} (ho:OpR X (binaryOp op) r) (ha:PE X a ta) (hb:PE X b tb):PE X (.BinOp a op b pos) (tOp r ta tb):=by
 intro p_ s σ H Q I h
 exact wpAny_BinOp (xG' ha hb I h fun v u s2 x y H2 I2 rx ry q=>ho p_ s2 σ H2 x y v u Q I2 rx ry q)
theorem opI {f:Value->Value->Sem Value} {C:Int->Int->Prop} {g:Int->Int->Int}
  (rule:∀(i j:Int) (t u:Tok) (s:Shared) (Q:Value->Shared->Prop) (E:Value->Shared->Prop),C i j->Q (.int (g i j) s.toks) { s with toks:=s.toks+1 }->wpAny (model X.prog X.w) X.A (f (.int i t) (.int j u)) Q E s):
  OpR X f (rI C fun i j=>.int (g i j)):=by
 intro p_ s σ H x y v u Q I rx ry h
 obtain⟨i,j,rfl,rfl,hc,q⟩:=h
 obtain⟨t,rfl⟩:=rx
 obtain⟨t',rfl⟩:=ry
 exact rule i j t t' s _ _ hc ⟨.int (g i j),H,I.tok _,⟨_,rfl⟩,q⟩
theorem xI' {f:Value->Value->Sem Value} {g:Int->Int->Int}
  (rule:∀(i j:Int) (t u:Tok) (s:Shared) (Q:Value->Shared->Prop) (E:Value->Shared->Prop),Q (.int (g i j) s.toks) { s with toks:=s.toks+1 }->wpAny (model X.prog X.w) X.A (f (.int i t) (.int j u)) Q E s):
  OpR X f (rI0 fun i j=>.int (g i j)):=by
 intro p_ s σ H x y v u Q I rx ry h
 obtain⟨i,j,rfl,rfl,q⟩:=h
 obtain⟨t,rfl⟩:=rx
 obtain⟨t',rfl⟩:=ry
 exact rule i j t t' s _ _ ⟨.int (g i j),H,I.tok _,⟨_,rfl⟩,q⟩
theorem xd' {f:Value->Value->Sem Value} {g:Int->Int->Bool}
  (rule:∀(i j:Int) (t u:Tok) (s:Shared) (Q:Value->Shared->Prop) (E:Value->Shared->Prop),Q (.bool (g i j)) s->wpAny (model X.prog X.w) X.A (f (.int i t) (.int j u)) Q E s):
  OpR X f (rI0 fun i j=>.bl (g i j)):=by
 intro p_ s σ H x y v u Q I rx ry h
 obtain⟨i,j,rfl,rfl,q⟩:=h
 obtain⟨t,rfl⟩:=rx
 obtain⟨t',rfl⟩:=ry
 exact rule i j t t' s _ _ ⟨.bl (g i j),H,I,rfl,q⟩
def AB' (i j:Int):Prop:=0<j/\j<1073741824
def xJ' (i j:Int):Prop:=0<=j/\j<=1000000/\i.natAbs<2 ^ 64
def xe' (i j:Int):Prop:=(-(2 ^ 64)<i/\i<2 ^ 64)\/(-(2 ^ 64)<j/\j<2 ^ 64)
theorem xe'.ok {i j:Int} (h:xe' i j):IntMulOk i j:=by
 rcases h with⟨h1,h2⟩|⟨h1,h2⟩
 .exact .of_left (intBits_le_64 h1 h2)
 .exact .of_right (intBits_le_64 h1 h2)
theorem iU' (k:Nat):(0:Int)<=2 ^ k:=by
 rw[two_pow_cast]
 exact Int.natCast_nonneg _
theorem s0':OpR X (binaryOp .Add) (rI0 fun i j=>.int (i+j)):=xI' fun _ _ _ _ _ _ _ q=>add_int q
theorem s1':OpR X (binaryOp .Sub) (rI0 fun i j=>.int (i-j)):=xI' fun _ _ _ _ _ _ _ q=>sub_int q
theorem pR':OpR X (binaryOp .FloorDiv) (rI AB' fun i j=>.int (i / j)):=opI fun i j _ _ _ _ _ hc q=>by
 have h1:(0:Int)<j:=hc.1
 have h2:j<1073741824:=hc.2
 exact floordiv_int ⋯ (by rw[Int.fdiv_eq_ediv_of_nonneg i ⋯];exact q) (.inl (PyProof.noPylong_small ⋯))
theorem s2':OpR X (binaryOp .Mod) (rI (fun _ j=>0<j) fun i j=>.int (i % j)):=opI fun i j _ _ _ _ _ hc q=>by
 have h1:(0:Int)<j:=hc
 exact mod_int' ⋯ (by rw[Int.fmod_eq_emod_of_nonneg i ⋯];exact q)
theorem s3':OpR X (binaryOp .Pow) (rI xJ' fun i j=>.int (i ^ j.toNat)):=opI fun _ _ _ _ _ _ _ hc q=>pow_int_small hc.1 hc.2.1 hc.2.2 q
theorem s4':OpR X (binaryOp .RShift) (rI (fun _ j=>0<=j) fun i j=>.int (i / 2 ^ j.toNat)):=opI fun i j _ _ _ _ _ hc q=>
 rshift_int hc (by rw[Int.fdiv_eq_ediv_of_nonneg i (iU' _)];exact q)
theorem s5':OpR X (binaryOp .BitAnd) (rI0 fun i j=>.int (Builtin.bitAnd i j)):=xI' fun _ _ _ _ _ _ _ q=>and_int q
end
def jB':V->V->Bool
 | .non,.non=>true | .non,.int _=>true | .int _,.non=>true | .non,.bl _=>true | .bl _,.non=>true | .non,.str _=>true | .str _,.non=>true
 | .int _,.int _=>true | .bl _,.bl _=>true | .str _,.str _=>true | .byt _,.byt _=>true
 | .int _,.str _=>true | .str _,.int _=>true | .bl _,.str _=>true | .str _,.bl _=>true
 |_,_=>false
def rEq:R2:=fun x y H Q=>jB' x y=true/\Q (.bl (decide (x=y))) H
def rNe:R2:=fun x y H Q=>jB' x y=true/\Q (.bl (!decide (x=y))) H
theorem fa' {i j:Int}:decide (V.int i=V.int j)=(i == j):=by
 rw[bQ]
 simp
theorem oG' {i j:Bool}:decide (V.bl i=V.bl j)=(i == j):=by
 rw[bQ]
 simp
theorem jK' {i j:Str}:decide (V.str i=V.str j)=(i == j):=by
 rw[bQ]
 simp
theorem jL' {i j:Array UInt8}:decide (V.byt i=V.byt j)=(i.toList == j.toList):=by
 rw[bQ]
 cases i
 cases j
 simp
section
variable {X:Cx} {a b c:Expr} {ta tb tc:TE} {pos:Pos}
theorem az' {p_:List (Addr×Obj)} {σ:St} {H:Hp} {s:Shared} {Q:VK} {k k':Bool} (I:Inv X p_ σ H s) (q:Q (.bl k) H) (e:k=k'):EP X p_ σ Q (.bool k') s:=by
 subst e
 exact⟨.bl k,H,I,rfl,q⟩
theorem xK':OpR X (compareOp .Eq) rEq:=by
 intro p_ s σ H x y v u Q I rx ry h
 obtain⟨hs,q⟩:=h
 cases x with
 |non=>
  cases rx
  cases y with
  |non=>cases ry;exact PySem.EqNone.eq_none_none (az' I q (by simp))
  |bl j=>cases ry;exact PySem.EqNone.eq_none_bool (az' I q (by simp))
  |int j=>obtain⟨t',rfl⟩:=ry;exact PySem.EqNone.eq_none_int (az' I q (by simp))
  |str j=>obtain⟨t',rfl⟩:=ry;exact PySem.EqNone.eq_none_str (az' I q (by simp))
  |_=>exact absurd (show false=true from hs) ay
 |bl i=>
  cases rx
  cases y with
  |non=>cases ry;exact PySem.EqNone.eq_bool_none (az' I q (by simp))
  |bl j=>cases ry;exact eq_bool (az' I q oG')
  |str j=>obtain⟨t',rfl⟩:=ry;exact PySem.EqMixed.eq_bool_str (az' I q (by simp))
  |_=>exact absurd (show false=true from hs) ay
 |int i=>
  obtain⟨t,rfl⟩:=rx
  cases y with
  |non=>cases ry;exact PySem.EqNone.eq_int_none (az' I q (by simp))
  |int j=>obtain⟨t',rfl⟩:=ry;exact eq_int (az' I q fa')
  |str j=>obtain⟨t',rfl⟩:=ry;exact PySem.EqMixed.eq_int_str (az' I q (by simp))
  |_=>exact absurd (show false=true from hs) ay
 |str i=>
  obtain⟨t,rfl⟩:=rx
  cases y with
  |non=>cases ry;exact PySem.EqNone.eq_str_none (az' I q (by simp))
  |bl j=>cases ry;exact PySem.EqMixed.eq_str_bool (az' I q (by simp))
  |int j=>obtain⟨t',rfl⟩:=ry;exact PySem.EqMixed.eq_str_int (az' I q (by simp))
  |str j=>obtain⟨t',rfl⟩:=ry;exact eq_str (az' I q jK')
  |_=>exact absurd (show false=true from hs) ay
 |byt i=>
  obtain⟨t,rfl⟩:=rx
  cases y with
  |byt j=>obtain⟨t',rfl⟩:=ry;exact W.eq_bytes (az' I q jL')
  |_=>exact absurd (show false=true from hs) ay
 |_=>cases y<;>exact absurd (show false=true from hs) ay
theorem xL':OpR X (compareOp .NotEq) rNe:=by
 intro p_ s σ H x y v u Q I rx ry h
 obtain⟨hs,q⟩:=h
 cases x with
 |non=>
  cases rx
  cases y with
  |non=>cases ry;exact PySem.EqNone.ne_none_none (az' I q (by simp))
  |bl j=>cases ry;exact PySem.EqNone.ne_none_bool (az' I q (by simp))
  |int j=>obtain⟨t',rfl⟩:=ry;exact PySem.EqNone.ne_none_int (az' I q (by simp))
  |str j=>obtain⟨t',rfl⟩:=ry;exact PySem.EqNone.ne_none_str (az' I q (by simp))
  |_=>exact absurd (show false=true from hs) ay
 |bl i=>
  cases rx
  cases y with
  |non=>cases ry;exact PySem.EqNone.ne_bool_none (az' I q (by simp))
  |bl j=>cases ry;exact ne_bool (az' I q (congrArg not oG'))
  |str j=>obtain⟨t',rfl⟩:=ry;exact PySem.EqMixed.ne_bool_str (az' I q (by simp))
  |_=>exact absurd (show false=true from hs) ay
 |int i=>
  obtain⟨t,rfl⟩:=rx
  cases y with
  |non=>cases ry;exact PySem.EqNone.ne_int_none (az' I q (by simp))
  |int j=>obtain⟨t',rfl⟩:=ry;exact ne_int (az' I q (congrArg not fa'))
  |str j=>obtain⟨t',rfl⟩:=ry;exact PySem.EqMixed.ne_int_str (az' I q (by simp))
  |_=>exact absurd (show false=true from hs) ay
 |str i=>
  obtain⟨t,rfl⟩:=rx
  cases y with
  |non=>cases ry;exact PySem.EqNone.ne_str_none (az' I q (by simp))
  |bl j=>cases ry;exact PySem.EqMixed.ne_str_bool (az' I q (by simp))
  |int j=>obtain⟨t',rfl⟩:=ry;exact PySem.EqMixed.ne_str_int (az' I q (by simp))
  |str j=>obtain⟨t',rfl⟩:=ry;exact ne_str (az' I q (congrArg not jK'))
  |_=>exact absurd (show false=true from hs) ay
 |byt i=>
  obtain⟨t,rfl⟩:=rx
  cases y with
  |byt j=>obtain⟨t',rfl⟩:=ry;exact W.ne_bytes (az' I q (congrArg not jL'))
  |_=>exact absurd (show false=true from hs) ay
 |_=>cases y<;>exact absurd (show false=true from hs) ay
theorem xM':OpR X (compareOp .Lt) (rI0 fun i j=>.bl (decide (i<j))):=xd' fun _ _ _ _ _ _ _ q=>lt_int q
theorem xN':OpR X (compareOp .LtE) (rI0 fun i j=>.bl (decide (i<=j))):=xd' fun _ _ _ _ _ _ _ q=>le_int q
theorem xO':OpR X (compareOp .Gt) (rI0 fun i j=>.bl (decide (j<i))):=xd' fun _ _ _ _ _ _ _ q=>gt_int q
theorem xP':OpR X (compareOp .GtE) (rI0 fun i j=>.bl (decide (j<=i))):=xd' fun _ _ _ _ _ _ _ q=>ge_int q
theorem jM':OpR X (compareOp .Lt) (fun x y H Q=>∃i j,x=.str i/\y=.str j/\Q (.bl (decide (i.cps.toList<j.cps.toList))) H):=by
 intro p_ s σ H x y v u Q I rx ry h
 obtain⟨i,j,rfl,rfl,q⟩:=h
 obtain⟨t,rfl⟩:=rx
 obtain⟨t',rfl⟩:=ry
 exact lt_str (az' I q rfl)
theorem s6':OpR X (compareOp .Is) (fun x y H Q=>y=.non/\Q (.bl (decide (x=.non))) H):=by
 intro p_ s σ H x y v u Q I rx ry h
 obtain⟨rfl,q⟩:=h
 cases ry
 refine is_none_gen (az' I q ?_)
 cases x<;>first
  |(cases rx;rfl)
  |(obtain⟨t,rfl⟩:=rx;rfl)
theorem pS':OpR X (compareOp .IsNot) (fun x y H Q=>y=.non/\Q (.bl (!decide (x=.non))) H):=by
 intro p_ s σ H x y v u Q I rx ry h
 obtain⟨rfl,q⟩:=h
 cases ry
 refine isnot_none_gen (az' I q ?_)
 cases x<;>first
  |(cases rx;rfl)
  |(obtain⟨t,rfl⟩:=rx;rfl)
theorem OpR.or {f:Value->Value->Sem Value} {r r':R2} (h:OpR X f r) (h':OpR X f r'):OpR X f (fun x y H Q=>r x y H Q\/r' x y H Q):=by
 intro p_ s σ H x y v u Q I rx ry q
 rcases q with q|q
 .exact h p_ s σ H x y v u Q I rx ry q
 .exact h' p_ s σ H x y v u Q I rx ry q
theorem pT' {op:CmpOp} {r:R2} (ho:OpR X (compareOp op) r) (ha:PE X a ta) (hb:PE X b tb) (hm:behindInMarks op b=false):PE X (.Compare a [op] [b] pos) (tOp r ta tb):=by
 intro p_ s σ H Q I h
 exact wpAny_Compare1 (xG' ha hb I h fun v u s2 x y H2 I2 rx ry q=>ho p_ s2 σ H2 x y v u Q I2 rx ry q) hm
def gG' (t:TE):TT:=fun σ H Q=>t σ H fun x H'=>∃k,x=.bl k/\Q k H'
theorem jN' {op:CmpOp} {r:R2} (ho:OpR X (compareOp op) r) (ha:PE X a ta) (hb:PE X b tb) (hm:behindInMarks op b=false):PT X (.Compare a [op] [b] pos) (gG' (tOp r ta tb)):=by
 intro p_ s σ H Q I h
 refine wpAny_isTrue_Compare1 (thn (ha p_ s σ H _ I h) fun v s1 ⟨x,H1,I1,r1,q1⟩=>thn (hb p_ s1 σ H1 _ I1 q1) fun u s2 ⟨y,H2,I2,r2,q2⟩=>
  thn (ho p_ s2 σ H2 x y v u _ I2 r1 r2 q2) fun c s3 ⟨z,H3,I3,r3,k,e,q3⟩=>?_) hm
 subst e
 cases r3
 exact bX ⟨H3,I3,q3⟩
def s7' (K:W.Frag) (x:V) (H:Hp) (k:Bool):Prop:=
 match x with
 | .non=>k=false
 | .bl b=>k=b
 | .int i=>k=(i != 0)
 | .str y=>y.length<=sizeLine/\k=((y.length:Int) != 0)
 | .byt y=>y.size<=sizeLine/\k=((y.size:Int) != 0)
 | .ref p=>(∃xs,SqL K H p xs/\k=!xs.isEmpty)\/(∃xs,SqT K H p xs/\k=!xs.isEmpty)\/∃kvs,H p=some (.dK kvs)/\k=!kvs.isEmpty
 |_=>False
theorem iV' {κ:Type} {kvs:List (κ×V)} {vs:List (κ×Value)} (r:KV kvs vs):(!vs.isEmpty)=!kvs.isEmpty:=by
 cases r<;>rfl
theorem eM' {xs:List V} {its:List Value} (r:aE' xs its):(!its.toArray.isEmpty)=!xs.isEmpty:=by
 cases r<;>simp
theorem eN':(sizeLine:Nat)<2 ^ 63:=by rw[sizeLine_eq];decide
theorem s9':AA' X (fun x H Q=>∃k,s7' X.K x H k/\Q k H):=by
 intro p_ s σ H x v Q I rx h
 obtain⟨k,e,q⟩:=h
 have hl:=eN'
 have hs:sizeLine=16777216:=sizeLine_eq
 cases x with
 |non=>
  cases rx
  have e':k=false:=e
  subst e'
  exact truthy_none ⟨H,I,q⟩
 |bl b=>
  cases rx
  have e':k=b:=e
  subst e'
  exact bX ⟨H,I,q⟩
 |int i=>
  obtain⟨t,rfl⟩:=rx
  have e':k=(i != 0):=e
  subst e'
  exact PySem.P.truthy_int ⟨H,I,q⟩
 |str y=>
  obtain⟨t,rfl⟩:=rx
  obtain⟨hy,e'⟩:y.length<=sizeLine/\k=((y.length:Int) != 0):=e
  subst e'
  exact PySem.P.truthy_str ⋯ ⟨H,I.tok _,q⟩
 |byt y=>
  obtain⟨t,rfl⟩:=rx
  obtain⟨hy,e'⟩:y.size<=sizeLine/\k=((y.size:Int) != 0):=e
  subst e'
  exact W.truthy_bytes ⋯ ⟨H,I.tok _,q⟩
 |ref p=>
  cases rx
  have e':(∃xs,SqL X.K H p xs/\k=!xs.isEmpty)\/(∃xs,SqT X.K H p xs/\k=!xs.isEmpty)\/∃kvs,H p=some (.dK kvs)/\k=!kvs.isEmpty:=e
  rcases e' with⟨xs,hx,e'⟩|⟨xs,hx,e'⟩|⟨kvs,hx,e'⟩
  .subst e'
   obtain⟨its,r,pl,hz⟩:=I.list hx
   have hlen:=r.length
   exact wpAny_truthy_list pl.isList (by simp only[ak];omega) ⟨H,I.tok _,by rw[eM' r];exact q⟩
  .subst e'
   obtain⟨its,r,pl,hz⟩:=I.tuple hx
   have hlen:=r.length
   exact truthy_tuple pl (by simp only[ak];omega) ⟨H,I.tok _,by rw[eM' r];exact q⟩
  .subst e'
   obtain⟨hz,hS,vs,r,m⟩:kvs.length<=sizeLine/\(p == sysModules)=false/\∃vs,KV kvs vs/\s.heap.DictOf (au' X.prog X.w) p vs:=I.hok p _ hx
   have hlen:kvs.length=vs.length:=Paired.length r
   exact wpAny_truthy_dict hS m ⋯ ⟨H,I.tok _,by rw[iV' r];exact q⟩
 |_=>exact(show False from e).elim
theorem mE' (ha:PE X a ta) (he:∀whole,isTrue a X.env whole=(do let v <- whole;standAt a.pos;holding [v] (truthy v))):
  PT X a (fun σ H Q=>ta σ H fun x H'=>∃k,s7' X.K x H' k/\Q k H'):=by
 intro p_ s σ H Q I h
 exact isTrue_plain (thn (ha p_ s σ H _ I h) fun v s1 ⟨x,H1,I1,r1,q1⟩=>s9' p_ s1 σ H1 x v Q I1 r1 q1) (he _)
theorem iW':OpR X (binaryOp .Add) (fun x y H Q=>∃i j,x=.str i/\y=.str j/\i.length+j.length<=sizeLine/\Q (.str (i++j)) H):=by
 intro p_ s σ H x y v u Q I rx ry h
 obtain⟨i,j,rfl,rfl,hz,q⟩:=h
 obtain⟨t,rfl⟩:=rx
 obtain⟨t',rfl⟩:=ry
 exact add_str (fun t' tk=>⟨.str (i++j),H,I.tok _,⟨_,rfl⟩,q⟩) hz
theorem eC' {x:V} {us:List Value} (r:aE' [x] us):∃u,us=[u]/\ax' x u:=by
 cases r with
 |cons r1 r2=>cases r2;exact⟨_,rfl,r1⟩
theorem xQ' {x y:V} {us:List Value} (r:aE' [x,y] us):∃u w',us=[u,w']/\ax' x u/\ax' y w':=by
 cases r with
 |cons r1 r2=>
  cases r2 with
  |cons r3 r4=>cases r4;exact⟨_,_,rfl,r1,r3⟩
theorem mF':a2' X (.builtin "abs") (fun xs H Q=>∃i,xs=[.int i]/\Q (.int (if i<0 then -i else i)) H):=by
 intro p_ s σ H xs us Q I r h
 obtain⟨i,rfl,q⟩:=h
 obtain⟨u,rfl,t,rfl⟩:=eC' r
 exact call_abs_int fun u tk=>⟨.int (if i<0 then -i else i),H,I.tok _,⟨_,rfl⟩,q⟩
theorem jO':a2' X (.type "int") (fun xs H Q=>(∃i,xs=[.int i]/\Q (.int i) H)\/∃k,xs=[.bl k]/\Q (.int (if k then 1 else 0)) H):=by
 intro p_ s σ H xs us Q I r h
 rcases h with⟨i,rfl,q⟩|⟨k,rfl,q⟩
 .obtain⟨u,rfl,t,rfl⟩:=eC' r
  exact call_int_int ⟨.int i,H,I,⟨_,rfl⟩,q⟩
 .obtain⟨u,rfl,r1⟩:=eC' r
  cases r1
  exact call_int_bool ⟨.int (if k then 1 else 0),H,I.tok _,⟨_,rfl⟩,q⟩
def zN' (K:W.Frag) (x:V) (H:Hp) (n:Nat):Prop:=
 match x with
 | .str y=>y.length<=sizeLine/\n=y.length
 | .byt y=>y.size<=sizeLine/\n=y.size
 | .ref p=>(∃xs,SqL K H p xs/\n=xs.length)\/∃xs,SqT K H p xs/\n=xs.length
 |_=>False
theorem mG':a2' X (.builtin "len") (fun xs H Q=>∃x n,xs=[x]/\zN' X.K x H n/\Q (.int n) H):=by
 intro p_ s σ H xs us Q I r h
 obtain⟨x,n,rfl,e,q⟩:=h
 obtain⟨u,rfl,rx⟩:=eC' r
 have hl:=eN'
 have hs:sizeLine=16777216:=sizeLine_eq
 cases x with
 |str y=>
  obtain⟨t,rfl⟩:=rx
  obtain⟨hy,e'⟩:y.length<=sizeLine/\n=y.length:=e
  subst e'
  exact len_str ⋯ ⟨.int _,H,I.tok _,⟨_,rfl⟩,q⟩
 |byt y=>
  obtain⟨t,rfl⟩:=rx
  obtain⟨hy,e'⟩:y.size<=sizeLine/\n=y.size:=e
  subst e'
  exact W.len_bytes ⋯ ⟨.int _,H,I.tok _,⟨_,rfl⟩,q⟩
 |ref p=>
  cases rx
  have e':(∃xs,SqL X.K H p xs/\n=xs.length)\/∃xs,SqT X.K H p xs/\n=xs.length:=e
  rcases e' with⟨xs,hx,e'⟩|⟨xs,hx,e'⟩
  .subst e'
   obtain⟨its,r',pl,hz⟩:=I.list hx
   have hlen:=r'.length
   exact Calls.call_len_list pl.isList (by simp only[ak];omega) ⟨.int xs.length,H,I.tok _,⟨_,by simp only[ak];rw[hlen]⟩,q⟩
  .subst e'
   obtain⟨its,r',pl,hz⟩:=I.tuple hx
   have hlen:=r'.length
   exact len_tuple pl (by simp only[ak];omega) ⟨.int xs.length,H,I.tok _,⟨_,by simp only[ak];rw[hlen]⟩,q⟩
 |_=>exact(show False from e).elim
end
theorem jz'.some_of {v:V} {o:Option Value} (r:jz' (some v) o):∃u,o=some u/\ax' v u:=by
 cases o with
 |none=>exact(show False from r).elim
 |some u=>exact⟨u,rfl,r⟩
structure Room (k:Nat) (A:Around):Prop where
 hd:A.handled=none
 dp:A.depth+3*k+5<recursionLimit
 un:A.units+16*k+200<cLine
 gd:A.guards=some []
theorem Room.mono {j k:Nat} {A:Around} (r:Room k A) (h:j<=k):Room j A:=⟨r.hd,by have:=r.dp;omega,by have:=r.un;omega,r.gd⟩
theorem Room.deeper {k:Nat} {A:Around} (r:Room (k+1) A) (env:Env):Room k (A.deeper env):=
 ⟨r.hd,by have:=r.dp;show A.depth+1+3*k+5<_;omega,by have:=r.un;show A.units+3+16*k+200<_;omega,r.gd⟩
theorem Room.depth {k:Nat} {A:Around} (r:Room k A):A.depth<recursionLimit:=by have:=r.dp;omega
theorem Room.units {k:Nat} {A:Around} (r:Room k A):A.units+64<cLine:=by have:=r.un;omega
def jC':TA:=fun _ H Q=>Q [] H
def cA' (ta:TE) (tr:TA):TA:=fun σ H Q=>ta σ H fun x H1=>tr σ H1 fun xs H2=>Q (x :: xs) H2
section
variable {X:Cx} {e:Expr} {es:List Expr} {te:TE} {t:TA} {pos:Pos}
theorem fM':PA X [] jC':=fun _ _ _ _ H Q I h=>Calls.spliced_nil ⟨[],H,I,.nil,h⟩
theorem cI' (ha:PE X e te) (hr:PA X es t) (hs:starEach (e :: es) X.env=(false,eval e X.env) :: starEach es X.env:=by rfl):PA X (e :: es) (cA' te t):=by
 intro pos p_ s σ H Q I h
 rw[hs]
 show wpAny _ _ (spliced ((false,eval e X.env) :: backTo pos (starEach es X.env))) _ _ s
 refine Calls.spliced_cons (thn (ha p_ s σ H _ I h) fun u s1 ⟨x,H1,I1,r1,q1⟩=>?_)
 exact thn (hr pos p_ s1 σ H1 _ I1 q1) fun us s2 ⟨xs,H2,I2,r2,q2⟩=>⟨x :: xs,H2,I2,.cons r1 r2,q2⟩
def xR' (t:TA):TE:=fun σ H Q=>t σ H fun xs H1=>xs.length<=sizeLine/\∀p,H1 p=none->Q (.ref p) (upd H1 p (.tup xs))
def xS' (t:TA):TE:=fun σ H Q=>t σ H fun xs H1=>xs.length<=sizeLine/\∀p,H1 p=none->Q (.ref p) (upd H1 p (.lst xs))
theorem ta' {x1} (h:PA X es t):PE X (.Tuple es x1 pos) (xR' t):=by
 intro p_ s σ H Q I hq
 refine wpAny_Tuple_spliced (thn (h pos p_ s σ H _ I hq) fun us s1 ⟨xs,H1,I1,r,z,q⟩=>⟨by rw[<- r.length];exact z,?_⟩)
 have hf:H1 s1.heap.objs.size=none:=I1.hok.fresh (ah _)
 refine⟨.ref s1.heap.objs.size,upd H1 s1.heap.objs.size (.tup xs),I1.laid (t':=s1.toks) (fun b u e=>ac _ e) (ah _) ?_,rfl,q _ hf⟩
 exact⟨z,us,r,⟨_,aC _ rfl,rfl,⟨_,rfl⟩,rfl⟩⟩
theorem tb' (h:PA X es t):PE X (.List es pos) (xS' t):=by
 intro p_ s σ H Q I hq
 refine wpAny_List_spliced (thn (h pos p_ s σ H _ I hq) fun us s1 ⟨xs,H1,I1,r,z,q⟩=>⟨by rw[<- r.length];exact z,?_⟩)
 have hf:H1 s1.heap.objs.size=none:=I1.hok.fresh (ah _)
 refine⟨.ref s1.heap.objs.size,upd H1 s1.heap.objs.size (.lst xs),I1.laid (t':=s1.toks) (fun b u e=>ac _ e) (ah _) ?_,rfl,q _ hf⟩
 exact⟨z,us,0,r,aC _ rfl⟩
end
abbrev Sp:=List V->Hp->VK->XK->Prop
abbrev CXT:=List Env->Hp->Shared->XK->Value->Shared->Prop
structure Env0 (P:Program) (w:World) (K:W.Frag) (mg:Str->Option Value) (base:Heap) (A:Around) (outer:List Env) (s:Shared) (H:Hp):Prop where
 frames:A.frames=some outer
 mod:Mod K mg base
 bs:∀b o,base.get? b=some o->s.heap.get? b=some o/\H b=none
 bsz:base.objs.size<=s.heap.objs.size
 funs:s.heap.FunFrames base outer
 frf:∀b∈frs outer,H b=none
 hok:HOk P w H s.heap
 bare:AllBare s.gens
def CE (outer:List Env) (P:Program) (w:World) (H:Hp) (s:Shared) (Q:VK) (u:Value) (s':Shared):Prop:=
 ∃v H',s'.os=s.os/\AllBare s'.gens/\Un (frs outer) [] H H' s.heap s'.heap/\HOk P w H' s'.heap/\ax' v u/\Q v H'
def CR (CX:CXT) (outer:List Env) (P:Program) (w:World) (H:Hp) (s:Shared) (Q:VK) (E:XK) (r:Result) (s':Shared):Prop:=
 match r with
 | .ok (.ret u)=>CE outer P w H s Q u s'
 | .ok _=>False
 | .error e=>CX outer H s E e s'
structure FnOk (P:Program) (w:World) (K:W.Frag) (mg:Str->Option Value) (base:Heap) (CX:CXT) (k:Nat) (f:Addr) (fd:FuncData) (ps:List Str) (sp:Sp):Prop where
 len:∀vs H Q E,sp vs H Q E->vs.length=ps.length
 run:∀(A:Around) (outer:List Env) (s:Shared) (H:Hp) (args:Args) (us:List Value) (vs:List V) (Q:VK) (E:XK),Room k A->Env0 P w K mg base A outer s H->BindsTo s fd args (ps.zip us)->aE' vs us->sp vs H Q E->
  codeAny (model P w) A (.call (.ref f) args) (CR CX outer P w H s Q E) s
theorem FnOk.mono {P:Program} {w:World} {K:W.Frag} {mg:Str->Option Value} {base:Heap} {CX:CXT} {j k:Nat} {f:Addr} {fd:FuncData} {ps:List Str} {sp:Sp} (F:FnOk P w K mg base CX j f fd ps sp) (h:j<=k):
  FnOk P w K mg base CX k f fd ps sp:=⟨F.len,fun A outer s H args us vs Q E hr=>F.run A outer s H args us vs Q E (hr.mono h)⟩
section
variable {X:Cx} {p_:List (Addr×Obj)} {σ:St} {H:Hp} {s s':Shared}
theorem Inv.env0 (I:Inv X p_ σ H s):Env0 X.prog X.w X.K X.mg X.base X.A X.stack s H:=
 ⟨I.ok.frames,I.ok.mod,I.bs,aS I.ok.bsz I.sz,I.stack,I.stkFree,I.hok,I.bare⟩
theorem Inv.after {Q:VK} {u:Value} (I:Inv X p_ σ H s) (h:CE X.stack X.prog X.w H s Q u s'):EP X p_ σ Q u s':=by
 obtain⟨v,H',os,bare,un,hok,r,q⟩:=h
 obtain⟨hh,g,d,t,os'⟩:=s'
 obtain rfl:os'=s.os:=os
 exact⟨v,H',I.call (h':=hh) (g':=g) (d':=d) (t':=t) (ch:=[]) un hok bare (fun b z=>absurd z (by simp)),r,q⟩
end
def mH' (sp:Sp) (dvs:List V) (E:XK) (t:TA):TE:=fun σ H Q=>t σ H fun vs H1=>sp (vs++dvs) H1 Q E
def eD' (K:W.Frag) (fd:FuncData) (ps:List Str) (ds:List Value):Prop:=
 ∀(s:Shared) (us:List Value),K.In s.heap->(us++ds).length=ps.length->BindsTo s fd ⟨us,[]⟩ (ps.zip (us++ds))
theorem eD'.all {K:W.Frag} {fd:FuncData} {ps:List Str} (h:∀us:List Value,us.length=ps.length->bindArgs fd ⟨us,[]⟩=pure (ps.zip us)):eD' K fd ps []:=fun s us _ hl=>by
 rw[cC]at hl ⊢
 exact .of_eq (h us hl)
structure FnScope (N P:List Str) (sc:Scope):Prop where
 kind:sc.kind=.function
 co:sc.isCoroutine=false
 gen:sc.isGenerator=false
 nd:N.Nodup
 pre:N.take P.length=P
 par:∀x∈P,sc.names.lookup x=some .local\/sc.names.lookup x=some .cell
 nofree:∀y∈sc.names,y.2≠.free
theorem fN' {kindOf:Str->Option NameKind} {x:Str}:∀{binds:List (Str×Value)} {m:Str->Option Value},(∀v,(x,v)∉binds)->bindL kindOf binds m x=m x
 | [],_,_=>rfl
 |(n,v) :: r,m,h=>by
  unfold bindL
  rw[fN' fun w hw=>h w (aq _ hw)]
  split
  .have:x≠n:=by rintro rfl;exact h v aw
   simp[this]
  .rfl
theorem fO' {kindOf:Str->Option NameKind} {x:Str}:∀{binds:List (Str×Value)} {m:Str->Option Value},(∀v,(x,v)∉binds)->bindC kindOf binds m x=m x
 | [],_,_=>rfl
 |(n,v) :: r,m,h=>by
  unfold bindC
  rw[fO' fun w hw=>h w (aq _ hw)]
  split
  .rfl
  .have:x≠n:=by rintro rfl;exact h v aw
   simp[this]
theorem fP' {kindOf:Str->Option NameKind} {x:Str} {v:Value}:∀{P:List Str} {vs:List Value} {i:Nat} {m:Str->Option Value},P.Nodup->P[i]?=some x->vs[i]?=some v->kindOf x=some .local->
  bindL kindOf (P.zip vs) m x=some v
 | [],_,_,_,_,h,_,_=>by simp at h
 |_ :: _,[],_,_,_,_,h,_=>by simp at h
 |p :: P,w :: vs,0,m,nd,h1,h2,hk=>by
  simp at h1 h2;subst h1;subst h2
  show bindL kindOf ((p,w) :: P.zip vs) m p=_
  unfold bindL
  rw[fN' fun v hv=>(cD.mp nd).1 (List.of_mem_zip hv).1,if_pos hk]
  simp
 |p :: P,w :: vs,i+1,m,nd,h1,h2,hk=>by
  show bindL kindOf ((p,w) :: P.zip vs) m x=_
  unfold bindL
  exact fP' (i:=i) (cD.mp nd).2 (by simpa using h1) (by simpa using h2) hk
theorem fQ' {kindOf:Str->Option NameKind} {x:Str} {v:Value}:∀{P:List Str} {vs:List Value} {i:Nat} {m:Str->Option Value},P.Nodup->P[i]?=some x->vs[i]?=some v->kindOf x≠some .local->
  bindC kindOf (P.zip vs) m x=some v
 | [],_,_,_,_,h,_,_=>by simp at h
 |_ :: _,[],_,_,_,_,h,_=>by simp at h
 |p :: P,w :: vs,0,m,nd,h1,h2,hk=>by
  simp at h1 h2;subst h1;subst h2
  show bindC kindOf ((p,w) :: P.zip vs) m p=_
  unfold bindC
  rw[fO' fun v hv=>(cD.mp nd).1 (List.of_mem_zip hv).1,if_neg hk]
  simp
 |p :: P,w :: vs,i+1,m,nd,h1,h2,hk=>by
  show bindC kindOf ((p,w) :: P.zip vs) m x=_
  unfold bindC
  exact fQ' (i:=i) (cD.mp nd).2 (by simpa using h1) (by simpa using h2) hk
def aF' (N:List Str) (vs:List V):St:=vs.map some++aK (N.length-vs.length) none
def sB' (CX:CXT) (P:Program) (w:World) (K:W.Frag) (mg:Str->Option Value) (base:Heap) (N:List Str) (qual:Str) (scope:Scope) (f:Addr) (cd:Value) (A:Around) (outer:List Env) (s:Shared) (H:Hp) (E:XK):Cx where
 prog:=P
 w:=w
 K:=K
 mg:=mg
 base:=base
 A:=A.deeper (envOfC qual scope s.heap.objs.size f cd)
 N:=N
 s₀:=s
 H₀:=H
 env:=envOfC qual scope s.heap.objs.size f cd
 outer:=outer
 stack:=envOfC qual scope s.heap.objs.size f cd :: outer
 ex:=[]
 calm:=true
 fn:=fun _=>true
 pn:=[]
 xe:=fun e s'=>wpAny (model P w) (A.deeper (envOfC qual scope s.heap.objs.size f cd)) (leaving (envOfC qual scope s.heap.objs.size f cd) e) (fun _ s''=>CX outer H s E e s'') (fun e' s''=>CX outer H s E e' s'') s'
theorem fb' {sc:Scope} {n:Nat} {x:Str} (h:sc.names.lookup x=some .cell):∃c,(cellsFrom n sc.names []).lookup x=some c:=by
 have q:=W.cellsFrom_some sc.names n [] (.inl h)
 exact cf.mp q
theorem jP' {CX:CXT} {P:Program} {w:World} {K:W.Frag} {mg:Str->Option Value} {base:Heap} {N ps:List Str} {qual:Str} {scope:Scope} {f:Addr} {cd:Value} {A:Around} {outer:List Env} {s s1:Shared} {H:Hp} {E:XK} {us:List Value} {vs:List V}
  (S:FnScope N ps scope) (hd:A.handled=none) (e0:Env0 P w K mg base A outer s H) (hl:vs.length=ps.length) (r:aE' vs us)
  (x:InCallC s s.heap.objs.size (bindL (envOfC qual scope s.heap.objs.size f cd).kindOf (ps.zip us) fun _=>none) (cellsFrom (s.heap.objs.size+1) scope.names []) (bindC (envOfC qual scope s.heap.objs.size f cd).kindOf (ps.zip us) fun _=>none) s1):
  Inv (sB' CX P w K mg base N qual scope f cd A outer s H E) [] (aF' N vs) H s1:=by
 have hpl:ps.length<=N.length:=by have:=congrArg dh S.pre;rw[aQ]at this;omega
 obtain⟨h1,tk,rfl,hk⟩:=x.done
 have noA:∀b:Addr,b∉(sB' CX P w K mg base N qual scope f cd A outer s H E).ex:=fun b z=>absurd (show b∈([]:List Addr) from z) (by simp)
 refine⟨⟨e0.mod,S.kind,rfl,rfl,ah _,fun y z c h1 h2=>?_,fun y hy=>?_,fun y c _ h=>?_,fun _=>hd,Around.frames_deeper e0.frames,.inr ⟨rfl,rfl⟩,fun b z=>absurd z (noA b),e0.bs,e0.bsz,fun b _ _=>noA b,fun b z=>absurd z (noA b),e0.funs,e0.frf⟩,
  rfl,e0.bare,Un.kept hk,⟨_,x.toInCall.ns,fun i y v h1 h2 h3=>?_⟩,fun y c h=>⟨_,x.cell y c h⟩,e0.hok.fresh (ah _),fun y c h=>?_,fun p hp=>absurd (show p∈([]:List (Addr×Obj)) from hp) (by simp),e0.hok.kept hk,?_⟩
 .exact name_of_addr x.apart (PySem.mem_of_lookup h1) (PySem.mem_of_lookup h2)
 .have hy:scope.names.lookup y=some .cell\/scope.names.lookup y=some .free:=hy
  rcases hy with hy|hy
  .exact fb' hy
  .exact absurd rfl (S.nofree _ (PySem.mem_of_lookup hy))
 .exact aX (x.above y c (PySem.mem_of_lookup h))
 .have hi:i<vs.length:=by
   unfold aF' at h2
   by_cases hi:i<vs.length
   .exact hi
   .rw[List.getElem?_append_right (by simpa using hi)]at h2
    rw[List.getElem?_replicate]at h2
    split at h2<;>cases h2
  have ha:vs[i]?=some v:=by
   unfold aF' at h2
   rw[br (by simpa using hi),al]at h2
   cases e:vs[i]? with
   |none=>rw[e]at h2;cases h2
   |some a=>rw[e]at h2;cases h2;rfl
  obtain⟨u,hu,rv⟩:=r.get ha
  have hp:ps[i]?=some y:=by
   rw[<- S.pre,List.getElem?_take_of_lt ⋯];exact h1
  have ndP:ps.Nodup:=by rw[<- S.pre];exact S.nd.sublist (List.take_sublist _ _)
  refine⟨u,rv,?_⟩
  rcases S.par y (az hp)with k|k
  .exact .inl ⟨k,fP' ndP hp hu k⟩
  .obtain⟨c,e⟩:=fb' (n:=s.heap.objs.size+1) k
   refine .inr ⟨.inl k,c,e,?_⟩
   have q:=x.cell y c e
   rw[fQ' ndP hp hu (by show scope.names.lookup y≠_;rw[k];decide)]at q
   exact q
 .exact e0.hok.fresh (aX (x.above y c (PySem.mem_of_lookup h)))
 .unfold aF'
  show _=N.length
  rw[aj,ae,List.length_replicate]
  omega
theorem xT' {CX:CXT} {P:Program} {w:World} {K:W.Frag} {mg:Str->Option Value} {base:Heap} {k:Nat} {f:Addr} {name qual:Str} {params:Arguments} {body:List Stmt} {scope:Scope} {dV kV doc pm cdv ct oc:Value} {an od:Option Addr}
  {osl:Array (Option Value)} {N ps:List Str} {sp:Sp} (lk:K.lookup f=some ⟨oc,od,.func (W.fnOf name qual params body scope dV kV doc pm an cdv ct),osl⟩) (hcd:W.codeIn K cdv qual=true) (S:FnScope N ps scope)
  (len:∀vs H Q E,sp vs H Q E->vs.length=ps.length)
  (hbody:∀(A:Around) (outer:List Env) (s:Shared) (H:Hp) (vs:List V) (Q:VK) (E:XK),Room k (A.deeper (envOfC qual scope s.heap.objs.size f cdv))->sp vs H Q E->
   ∃t,PSs (sB' CX P w K mg base N qual scope f cdv A outer s H E) body t/\t { nx:=fun _ H'=>Q .non H',rt:=Q } (aF' N vs) H):
  FnOk P w K mg base CX (k+1) f (W.fnOf name qual params body scope dV kV doc pm an cdv ct) ps sp:=by
 refine⟨len,fun A outer s H args us vs Q E hr e0 hb r hsp=>?_⟩
 have hl:=len _ _ _ _ hsp
 have KX:K.In s.heap:=e0.mod.kin.keeps fun b o e=>(e0.bs b o e).1
 have lim:s.heap.NoLimit:=e0.mod.nolimit.keeps fun b o e=>(e0.bs b o e).1
 have hkind:∀y∈ps.zip us,scope.names.lookup y.1=some .local\/(scope.names.lookup y.1=some .cell/\((cellsFrom (s.heap.objs.size+1) scope.names []).lookup y.1).isSome=true):=fun⟨n,v⟩ hy=>by
  rcases S.par n (List.of_mem_zip hy).1 with q|q
  .exact .inl q
  .exact .inr ⟨q,W.cellsFrom_some _ _ _ (.inl q)⟩
 refine codeAny_call_function hr.depth (KX _ _ lk) rfl S.co S.gen rfl (W.codeRec_of KX hcd) (hb _ _ _ _ ?_)
 refine wpAny_newFunctionEnv_cells S.kind hkind fun env he s1 x=>?_
 subst he
 refine⟨lim.keeps x.toInCall.keep,codeAny_func ?_⟩
 obtain⟨t,ht,hq⟩:=hbody A outer s H vs Q E (hr.deeper _) hsp
 have I:Inv (sB' CX P w K mg base N qual scope f cdv A outer s H E) [] (aF' N vs) H s1:=jP' S hr.hd e0 hl r x
 refine di (ht [] s1 (aF' N vs) H _ I hq) (fun fl s' hs=>?_) fun e s' hs=>hs
 have fin:∀{σ':St} {H':Hp} {v:V} {u:Value},Inv (sB' CX P w K mg base N qual scope f cdv A outer s H E) [] σ' H' s'->ax' v u->Q v H'->CE outer P w H s Q u s':=
  fun {σ' H' v u} J rv q=>⟨v,H',J.os,J.bare,J.base,J.hok,rv,q⟩
 cases fl with
 |ret u=>
  obtain⟨v,σ',H',J,rv,q⟩:=hs
  exact fin J rv q
 |next=>
  obtain⟨σ',H',J,q⟩:=hs
  exact fin (v:=V.non) (u:=Value.none) J rfl q
 |brk=>
  obtain⟨_,_,_,q⟩:=hs
  exact False.elim q
 |cont=>
  obtain⟨_,_,_,q⟩:=hs
  exact False.elim q
section
variable {X:Cx} {x:Str} {p pos:Pos} {e:Expr} {es:List Expr} {t:TA} {id T:String} {r:List V->Hp->VK->Prop}
def tCB (r:List V->Hp->VK->Prop) (t:TA):TE:=fun σ H Q=>t σ H fun vs H1=>r vs H1 Q
theorem mI' (hc:a2' X (.builtin id) r) (hg:Gl X x) (hm:X.mg x=none) (hv:bootBuiltins x=some (.builtin id)) (ha:PA X (e :: es) t) (hn:x≠"__name__":=by decide) (hdb:(x == ("__debug__":Str))=false:=by decide)
  (he:starEach (e :: es) X.env=(false,eval e X.env) :: starEach es X.env:=by rfl) (hpl:(backTo pos (starEach es X.env)).any (·.1)=false:=by rfl):PE X (.Call (.Name x p) (e :: es) [] pos) (tCB r t):=by
 intro p_ s σ H Q I h
 refine wpAny_Call_Name_kw (fL' I hg hm hv ?_ hn hdb)
 exact PyProof.Rows.callWith_builtin1 (thn (ha pos p_ s σ H _ I h) fun us s1 ⟨vs,H1,I1,r1,q1⟩=>hc p_ s1 σ H1 vs us Q I1 r1 q1) he hpl
theorem jQ' (hc:a2' X (.type T) r) (hg:Gl X x) (hm:X.mg x=none) (hv:bootBuiltins x=some (.type T)) (ha:PA X (e :: es) t) (hn:x≠"__name__":=by decide) (hdb:(x == ("__debug__":Str))=false:=by decide)
  (he:starEach (e :: es) X.env=(false,eval e X.env) :: starEach es X.env:=by rfl) (hpl:(backTo pos (starEach es X.env)).any (·.1)=false:=by rfl):PE X (.Call (.Name x p) (e :: es) [] pos) (tCB r t):=by
 intro p_ s σ H Q I h
 refine wpAny_Call_Name_kw (fL' I hg hm hv ?_ hn hdb)
 exact PyProof.Rows.callWith_type1 (thn (ha pos p_ s σ H _ I h) fun us s1 ⟨vs,H1,I1,r1,q1⟩=>hc p_ s1 σ H1 vs us Q I1 r1 q1) he hpl
end
end L2
namespace HT
open PySem PyProof.Rows
section
open PySem.SeqAt
open PySem.AutoSeq1 (wpAny_loadPart')
open PySem.MeetsSeq PySem.MeetsSeq2 PySem.MeetsSeq3
end
section
variable {prog:Program} {w:World} {A:Around} {E:Value->Shared->Prop} {s:Shared}
theorem pU' {t b:Addr} {vs ws:List Value} {Q:Value->Shared->Prop} (ht:IsTup s.heap t vs.toArray) (hb:IsTup s.heap b ws.toArray) (hv:vs≠[])
  (h1:ws=[]->Q (.ref t) s) (h2:ws≠[]->Q (.ref s.heap.objs.size) { s with heap:=s.heap.push { cls:=.type "tuple",data:=.seq (vs++ws).toArray } })
  (hsz:vs.length+ws.length<=sizeLine):wpAny (model prog w) A (binaryOp .Add (.ref t) (.ref b)) Q E s:=by
 obtain⟨⟨cls,dd,data,sl⟩,ho,hc,n,hd⟩:=id ht
 obtain⟨⟨cls2,dd2,data2,sl2⟩,ho2,hc2,n2,hd2⟩:=id hb
 simp only at hc hd hc2 hd2
 subst hc hd hc2 hd2
 have e:vs.toArray++ws.toArray=(vs++ws).toArray:=by simp
 by_cases hw:ws=[]
 .exact concat_meets ⟨_,ho,rfl⟩ ⟨_,ho2,rfl⟩ noFill_tuple_add seq_tuple_add PySem.F.slot_tuple_add PySem.F.entry_tuple_add (PySem.F.args_tuple_add_2 _ _)
   (tuple_addW1 t b vs.toArray ws.toArray n n2 dd dd2 sl sl2 (by simpa using hv) (by simp[hw])) ⟨ho,ho2,h1 hw⟩
 .refine concat_meets ⟨_,ho,rfl⟩ ⟨_,ho2,rfl⟩ noFill_tuple_add seq_tuple_add PySem.F.slot_tuple_add PySem.F.entry_tuple_add (PySem.F.args_tuple_add_2 _ _)
   (tuple_addW2 t b vs.toArray ws.toArray n n2 dd dd2 sl sl2 (by simpa using hv) (by simpa using hw) (by rw[ak,ak];exact hsz)) ⟨ho,ho2,?_⟩
  rw[e]
  exact h2 hw
def sIx (n d:Nat):Option Int->Nat
 |none=>d
 |some v=>if v<0 then(v+(n:Int)).toNat else min v.toNat n
theorem mJ' (n d:Nat):sIx n d none=d:=rfl
theorem pV' (n d k:Nat):sIx n d (some (k:Int))=min k n:=by
 show(if(k:Int)<0 then((k:Int)+(n:Int)).toNat else min (k:Int).toNat n)=min k n
 rw[if_neg ⋯,bI]
theorem tc' (n d:Nat) (hd:d<=n) (o:Option Int):sIx n d o<=n:=by
 cases o with
 |none=>exact hd
 |some v=>
  show(if v<0 then(v+(n:Int)).toNat else min v.toNat n)<=n
  by_cases hv:v<0
  .rw[if_pos hv];omega
  .rw[if_neg hv];exact Nat.min_le_right _ _
theorem jR' (v:Int) (n d:Nat):(if v<0 then max (v+(n:Int)) 0 else min v (n:Int))=((sIx n d (some v):Nat):Int):=by
 show(if v<0 then max (v+(n:Int)) 0 else min v (n:Int))=(((if v<0 then(v+(n:Int)).toNat else min v.toNat n):Nat):Int)
 by_cases hv:v<0
 .simp only[if_pos hv];omega
 .simp only[if_neg hv];omega
theorem iX' (lo hi:Option Int) (n:Nat):Builtin.Slice.sliceAdjust lo hi 1 (n:Int)=(((sIx n 0 lo:Nat):Int),((sIx n n hi:Nat):Int)):=by
 have h1:¬((1:Int)<0):=by omega
 unfold Builtin.Slice.sliceAdjust
 simp only[h1,if_false]
 refine Prod.ext ?_ ?_
 .cases lo with
  |none=>rfl
  |some v=>exact jR' v n 0
 .cases hi with
  |none=>rfl
  |some v=>exact jR' v n n
theorem iY' (i j:Nat):Builtin.Slice.slicePlaces (i:Int) (j:Int) 1=j-i:=by
 unfold Builtin.Slice.slicePlaces
 have h1:(1:Int) > 0:=by omega
 simp only[h1,if_true,Int.ediv_one]
 split<;>omega
theorem eO' {v:Value} {o:Option Int} {Q:Option Int->Shared->Prop} (p:IsPart v o) (h:Q o s):wpAny (model prog w) A (Builtin.Slice.slicePartIndex v) Q E s:=by
 cases p with
 |none=>exact slicePart_none h
 |int i t=>exact slicePart_int h
theorem cb' {sl:Addr} {vl vu:Value} {lo hi:Option Int} {n:Nat} {Q:Int×Int×Nat->Shared->Prop} (hs:s.heap.IsSliceOf sl vl vu .none) (pl:IsPart vl lo) (pu:IsPart vu hi)
  (h:Q (((sIx n 0 lo:Nat):Int),1,sIx n n hi-sIx n 0 lo) s):wpAny (model prog w) A (Builtin.Slice.sliceApplied (.ref sl) (pure (n:Int))) Q E s:=by
 obtain⟨os,hos,hcs,hds⟩:=id hs
 unfold Builtin.Slice.sliceApplied Builtin.Slice.sliceFields
 refine ab (ab (bn hos hds (x:=vl) rfl (ab (bn hos hds (x:=vu) rfl (ab (bn hos hds (x:=.none) rfl (ag ?_)))))))
 refine ab (slicePart_none ?_)
 show wpAny _ _ (if((1:Int) == 0)=true then _ else _) _ _ s
 rw[if_neg (by decide)]
 refine ab (eO' pl (ab (eO' pu (ab (ag ?_)))))
 show wpAny _ _ (match Builtin.Slice.sliceAdjust lo hi 1 (n:Int)with|(lo,hi)=>pure (lo,(1:Int),Builtin.Slice.slicePlaces lo hi 1)) _ _ s
 rw[iX' lo hi n]
 show wpAny _ _ (pure (((sIx n 0 lo:Nat):Int),(1:Int),Builtin.Slice.slicePlaces ((sIx n 0 lo:Nat):Int) ((sIx n n hi:Nat):Int) 1)) _ _ s
 rw[iY']
 exact ag h
theorem mK' (xs:Array Value) (i k:Nat):((av k).filterMap fun(m:Nat)=>xs[((i:Int)+(m:Int)*1).toNat]?).toArray=((xs.toList.drop i).take k).toArray:=by
 have e:(fun(m:Nat)=>xs[((i:Int)+(m:Int)*1).toNat]?)=fun m=>xs[i+m]?:=by
  funext m
  have:((i:Int)+(m:Int)*1).toNat=i+m:=by omega
  rw[this]
 rw[e]
 have:=pick_run xs i k
 rw[List.filterMap_map]at this
 have e2:((fun x=>xs[x]?)∘fun x=>i+x)=fun m=>xs[i+m]?:=rfl
 rw[e2]at this
 rw[this]
theorem do' {t sl:Addr} {items:Array Value} {vl vu:Value} {lo hi:Option Int} {Q:Value->Shared->Prop} (ht:IsTup s.heap t items) (hs:s.heap.IsSliceOf sl vl vu .none) (pl:IsPart vl lo) (pu:IsPart vu hi)
  (hw:¬(sIx items.size 0 lo=0/\sIx items.size items.size hi=items.size))
  (h:Q (.ref s.heap.objs.size) { s with heap:=s.heap.push { cls:=.type "tuple",data:=.seq ((items.toList.drop (sIx items.size 0 lo)).take (sIx items.size items.size hi-sIx items.size 0 lo)).toArray } })
  (hsz:items.size<=sizeLine):wpAny (model prog w) A (getItem (.ref t) (.ref sl)) Q E s:=by
 have htake:sizeOk (.seq ((items.toList.drop (sIx items.size 0 lo)).take (sIx items.size items.size hi-sIx items.size 0 lo)).toArray):=by
  show((items.toList.drop (sIx items.size 0 lo)).take (sIx items.size items.size hi-sIx items.size 0 lo)).toArray.size<=sizeLine
  rw[ak,aQ,cK,aG]
  omega
 have hj:sIx items.size items.size hi<=items.size:=tc' _ _ (ah _) hi
 obtain⟨os,hos,hcs,hds⟩:=id hs
 have hTs:s.TypeIs (.ref sl) "slice":=⟨os,hos,hcs⟩
 unfold getItem
 try with_reducible refine aT ?_
 first|refine ab (ag ?_)|skip
 refine ab (wpAny_sequenceKey ht.typeIs (by decide) ?_)
 refine ab (bf (name:=Str.ofString "__getitem__") ht.typeIs PyProof.Rows.slot_tuple_getitem
  (bF PyProof.Rows.slot_tuple_getitem ht.typeIs entry_tuple_getitem ?_ (args_tuple_getitem _ _)))
 show wpAny _ _ (Builtin.Tuple.tupleItemsOf (.ref t) >>= _) _ _ s
 refine ab (tupleItemsOf_ ht ?_)
 refine ab (wpAny_typeOf hTs ?_)
 rw[if_pos (by decide)]
 refine ab (cb' hs pl pu ?_)
 have hno:¬((((sIx items.size 0 lo:Nat):Int) == 0&&(1:Int) == 1&&(sIx items.size items.size hi-sIx items.size 0 lo) == items.size)=true):=by
  intro q
  rw[af,af]at q
  have q1:((sIx items.size 0 lo:Nat):Int)=0:=eq_of_beq q.1.1
  have q2:sIx items.size items.size hi-sIx items.size 0 lo=items.size:=eq_of_beq q.2
  exact hw ⟨⋯,⋯⟩
 show wpAny _ _ (if(((sIx items.size 0 lo:Nat):Int) == 0&&(1:Int) == 1&&(sIx items.size items.size hi-sIx items.size 0 lo) == items.size)=true then _ else _) _ _ s
 rw[if_neg hno,mK']
 first
  |exact ab (m:=Builtin.Tuple.tupleExact _) (bH (ag ⟨_,rfl,ag h⟩) htake)
  |exact ab (m:=Builtin.Tuple.tupleExact _) (bH (ab (ag (ag ⟨_,rfl,ag h⟩))) htake)
  |exact ab (ab (m:=Builtin.Tuple.tupleExact _) (bH (ag (ag ⟨_,rfl,ag h⟩)) htake))
  |exact ab (ab (m:=Builtin.Tuple.tupleExact _) (bH (ag ⟨_,rfl,ag h⟩) htake))
end
end HT
namespace L2
open PySem PySem.Spec PyProof.Rows
abbrev TO:=St->Hp->(Option Int->Hp->Prop)->Prop
def PO (X:Cx) (e:Option Expr) (t:TO):Prop:=
 ∀(p_:List (Addr×Obj)) (s:Shared) (σ:St) (H:Hp) (Q:Option Int->Hp->Prop),Inv X p_ σ H s->t σ H Q->
  wpAny (model X.prog X.w) X.A (evalPart e X.env) (fun u s'=>∃o H',Inv X p_ σ H' s'/\IsPart u o/\Q o H') X.xe s
def gH':TO:=fun _ H Q=>Q none H
def pW' (t:TE):TO:=fun σ H Q=>t σ H fun x H1=>∃i,x=.int i/\Q (some i) H1
theorem iZ' {ns:List Int}:∀{us:List Value},aE' (ns.map V.int) us->IntsAre us ns:=by
 induction ns with
 |nil=>intro us r;rw[List.map_nil]at r;cases r;exact .nil
 |cons n ns ih=>
  intro us r
  rw[aJ]at r
  cases r with
  |cons r1 r2=>
   obtain⟨t,e⟩:=r1
   subst e
   exact .cons n t (ih r2)
section
variable {X:Cx} {e:Expr} {te:TE} {lo hi:Option Expr} {tl th:TO} {pos p2:Pos}
theorem pX':PO X none gH':=by
 intro p_ s σ H Q I h
 rw[evalPart_none]
 exact ag ⟨none,H,I,.none,h⟩
theorem pY' (h:PE X e te):PO X (some e) (pW' te):=by
 intro p_ s σ H Q I hw
 rw[evalPart_some]
 refine thn (h p_ s σ H _ I hw) fun u s1 ⟨x,H1,I1,r1,q1⟩=>?_
 obtain⟨i,rfl,q⟩:=q1
 obtain⟨t,rfl⟩:=r1
 exact⟨some i,H1,I1,.int i t,q⟩
def SlR (X:Cx) (r:V->Option Int->Option Int->Hp->VK->Prop):Prop:=
 ∀(p_:List (Addr×Obj)) (s:Shared) (σ:St) (H:Hp) (x:V) (v vl vu:Value) (lo hi:Option Int) (sl:Addr) (Q:VK),Inv X p_ σ H s->ax' x v->s.heap.IsSliceOf sl vl vu .none->IsPart vl lo->IsPart vu hi->r x lo hi H Q->
  ∃T id,typeLookup (.type T) "__getitem__"=pure (some (.builtin id))/\s.TypeIs v T/\wpAny (model X.prog X.w) X.A (getItem v (.ref sl)) (EP X p_ σ Q) X.xe s
theorem SlR.or {r r':V->Option Int->Option Int->Hp->VK->Prop} (h:SlR X r) (h':SlR X r'):SlR X (fun x lo hi H Q=>r x lo hi H Q\/r' x lo hi H Q):=by
 intro p_ s σ H x v vl vu lo hi sl Q I rx hs pl pu q
 rcases q with q|q
 .exact h p_ s σ H x v vl vu lo hi sl Q I rx hs pl pu q
 .exact h' p_ s σ H x v vl vu lo hi sl Q I rx hs pl pu q
def tSl (r:V->Option Int->Option Int->Hp->VK->Prop) (te:TE) (tl th:TO):TE:=fun σ H Q=>te σ H fun x H1=>tl σ H1 fun l H2=>th σ H2 fun u H3=>r x l u H3 Q
theorem mL' {r:V->Option Int->Option Int->Hp->VK->Prop} (hr:SlR X r) (he:PE X e te) (hl:PO X lo tl) (hu:PO X hi th):PE X (.Subscript e (.Slice lo hi none p2) pos) (tSl r te tl th):=by
 intro p_ s σ H Q I h
 refine Subscript_ (thn (he p_ s σ H _ I h) fun v s1 ⟨x,H1,I1,r1,q1⟩=>?_)
 refine wpAny_Slice (thn (hl p_ s1 σ H1 _ I1 q1) fun vl s2 ⟨l,H2,I2,pl,q2⟩=>thn (hu p_ s2 σ H2 _ I2 q2) fun vu s3 ⟨u,H3,I3,pu,q3⟩=>?_)
 rw[evalPart_none]
 refine ag ?_
 have I4:Inv X p_ σ H3 { s3 with heap:=s3.heap.push { cls:=.type "slice",data:=.fields #[vl,vu,.none] } }:=I3.kept (t':=s3.toks) fun b ob q=>ac _ q
 obtain⟨T,id,hT,ht,hg⟩:=hr p_ { s3 with heap:=s3.heap.push { cls:=.type "slice",data:=.fields #[vl,vu,.none] } } σ H3 x v vl vu l u s3.heap.objs.size Q I4 r1 (Heap.IsSliceOf.new ..) pl pu q3
 show wpAny (model X.prog X.w) X.A (subscriptTail e (.Slice lo hi none p2) v (.ref s3.heap.objs.size)) (EP X p_ σ Q) X.xe { s3 with heap:=s3.heap.push { cls:=.type "slice",data:=.fields #[vl,vu,.none] } }
 exact tail_any (ops:=[.ref s3.heap.objs.size,v]) ht hT hg (by with_unfolding_all rfl)
def mM' (xs:List V) (lo hi:Option Int):List V:=(xs.drop (HT.sIx xs.length 0 lo)).take (HT.sIx xs.length xs.length hi-HT.sIx xs.length 0 lo)
theorem dZ' (xs:List V) (lo hi:Option Int):(mM' xs lo hi).length<=xs.length:=by
 unfold mM'
 rw[aQ,cK]
 omega
def xf' (K:W.Frag):V->Option Int->Option Int->Hp->VK->Prop:=fun x lo hi H Q=>∃a xs,x=.ref a/\SqT K H a xs/\
 ¬(HT.sIx xs.length 0 lo=0/\HT.sIx xs.length xs.length hi=xs.length)/\∀p,H p=none->Q (.ref p) (upd H p (.tup (mM' xs lo hi)))
theorem td':SlR X (xf' X.K):=by
 intro p_ s σ H x v vl vu lo hi sl Q I rx hs pl pu h
 obtain⟨a,xs,rfl,hx,hw,q⟩:=h
 cases rx
 obtain⟨its,r,ht,hz⟩:=I.tuple hx
 have hlen:its.toArray.size=xs.length:=by rw[ak];exact r.length.symm
 refine⟨"tuple",_,PyProof.Rows.slot_tuple_getitem.lookup,ht.typeIs,?_⟩
 refine HT.do' ht hs pl pu (by rw[hlen];exact hw) ?_ (by rw[hlen];exact hz)
 rw[hlen]
 refine⟨.ref s.heap.objs.size,_,I.laid (t':=s.toks) (o:=.tup (mM' xs lo hi)) (fun b ob q=>ac _ q) (ah _) ?_,rfl,q _ (I.hok.fresh (ah _))⟩
 exact⟨aS (dZ' xs lo hi) hz,_,(r.drop (HT.sIx xs.length 0 lo)).take (HT.sIx xs.length xs.length hi-HT.sIx xs.length 0 lo),oz'.new _ _⟩
def te' (K:W.Frag):R2:=fun x y H Q=>∃a b xs ys,x=.ref a/\y=.ref b/\SqT K H a xs/\SqT K H b ys/\xs≠[]/\xs.length+ys.length<=sizeLine/\
 (ys=[]->Q (.ref a) H)/\(ys≠[]->∀p,H p=none->Q (.ref p) (upd H p (.tup (xs++ys))))
theorem aE'.nil_iff {xs:List V} {us:List Value} (r:aE' xs us):us=[]↔xs=[]:=by
 cases r with
 |nil=>simp
 |cons _ _=>simp
theorem pZ':OpR X (binaryOp .Add) (te' X.K):=by
 intro p_ s σ H x y v u Q I rx ry h
 obtain⟨a,b,xs,ys,rfl,rfl,ha,hb,hx,hz,q1,q2⟩:=h
 cases rx
 cases ry
 obtain⟨its,r1,p1,_⟩:=I.tuple ha
 obtain⟨its2,r2,p2,_⟩:=I.tuple hb
 refine HT.pU' p1 p2 (fun z=>hx (r1.nil_iff.mp z)) (fun z=>⟨.ref a,H,I,rfl,q1 (r2.nil_iff.mp z)⟩) (fun z=>?_) (by rw[<- r1.length,<- r2.length];exact hz)
 refine⟨.ref s.heap.objs.size,_,I.laid (t':=s.toks) (o:=.tup (xs++ys)) (fun b ob q=>ac _ q) (ah _) ?_,rfl,q2 (fun w=>z (r2.nil_iff.mpr w)) _ (I.hok.fresh (ah _))⟩
 exact⟨by rw[aj];exact hz,_,r1.append r2,oz'.new _ _⟩
end
def ixN (n:Nat) (i:Int):Option Nat:=if 0<=i then(if i<n then some i.toNat else none)else if -(n:Int)<=i then some (i+n).toNat else none
def atI {α:Type} (xs:List α) (i:Int):Option α:=(ixN xs.length i).bind fun j=>xs[j]?
theorem jS' {n:Nat} {i:Int} {j:Nat} (h:ixN n i=some j):seqIndex? i n=some j/\j<n/\-(n:Int)<=i/\i<n:=by
 unfold ixN at h
 by_cases h0:0<=i
 .rw[if_pos h0]at h
  by_cases h1:i<n
  .rw[if_pos h1]at h
   have e:i.toNat=j:=Option.some.inj h
   exact⟨by rw[seqIndex_of h0 h1,e],⋯,⋯,h1⟩
  .rw[if_neg h1]at h;cases h
 .rw[if_neg h0]at h
  by_cases h1:-(n:Int)<=i
  .rw[if_pos h1]at h
   have e:(i+n).toNat=j:=Option.some.inj h
   exact⟨by rw[seqIndex_neg ⋯ h1,e],⋯,h1,⋯⟩
  .rw[if_neg h1]at h;cases h
theorem gI' {α:Type} {xs:List α} {i:Int} {v:α} (h:atI xs i=some v):∃j,seqIndex? i xs.length=some j/\xs[j]?=some v/\j<xs.length/\-(xs.length:Int)<=i/\i<xs.length:=by
 unfold atI at h
 cases e:ixN xs.length i with
 |none=>rw[e]at h;cases h
 |some j=>
  rw[e]at h
  obtain⟨h1,h2,h3,h4⟩:=jS' e
  exact⟨j,h1,h,h2,h3,h4⟩
theorem aG' {α:Type} {xs:List α} {j:Nat} {v:α} (h:xs[j]?=some v):atI xs (j:Int)=some v:=by
 have hj:j<xs.length:=(aB.mp h).1
 have e:ixN xs.length (j:Int)=some j:=by
  unfold ixN
  rw[if_pos ⋯,if_pos ⋯];simp
 unfold atI;rw[e];exact h
def jT' (b:Expr):Prop:=∀o i,subscripted b false o i=operate [o,i] (getItem o i)
def IxR (X:Cx) (r:R2):Prop:=
 ∀(value slice:Expr) (p_:List (Addr×Obj)) (s:Shared) (σ:St) (H:Hp) (x y:V) (v u:Value) (Q:VK),Inv X p_ σ H s->ax' x v->ax' y u->r x y H Q->
  subscripted slice false v u=operate [v,u] (getItem v u)->wpAny (model X.prog X.w) X.A (subscriptTail value slice v u) (EP X p_ σ Q) X.xe s
def MtR (X:Cx) (id:String) (r:V->List V->Hp->VK->Prop):Prop:=
 ∀(p_:List (Addr×Obj)) (s:Shared) (σ:St) (H:Hp) (x:V) (xs:List V) (v:Value) (us:List Value) (Q:VK),Inv X p_ σ H s->ax' x v->aE' xs us->r x xs H Q->
  wpAny (model X.prog X.w) X.A (call (.builtin id) (v :: us)) (EP X p_ σ Q) X.xe s
section
variable {X:Cx} {a b:Expr} {ta tb:TE} {pos:Pos}
theorem IxR.or {r r':R2} (h:IxR X r) (h':IxR X r'):IxR X (fun x y H Q=>r x y H Q\/r' x y H Q):=by
 intro value slice p_ s σ H x y v u Q I rx ry q hs
 rcases q with q|q
 .exact h value slice p_ s σ H x y v u Q I rx ry q hs
 .exact h' value slice p_ s σ H x y v u Q I rx ry q hs
theorem xU' {r:R2} (hr:IxR X r) (ha:PE X a ta) (hb:PE X b tb) (hs:jT' b):PE X (.Subscript a b pos) (tOp r ta tb):=by
 intro p_ s σ H Q I h
 exact Subscript_ (xG' ha hb I h fun v u s2 x y H2 I2 rx ry q=>hr a b p_ s2 σ H2 x y v u Q I2 rx ry q (hs _ _))
def gC' (K:W.Frag):R2:=fun x y H Q=>∃p xs i v,x=.ref p/\y=.int i/\SqL K H p xs/\atI xs i=some v/\Q v H
def gJ' (K:W.Frag):R2:=fun x y H Q=>∃p xs i v,x=.ref p/\y=.int i/\SqT K H p xs/\atI xs i=some v/\Q v H
def zO':R2:=fun x y H Q=>∃z i c,x=.str z/\y=.int i/\z.length<=sizeLine/\atI z.cps.toList i=some c/\Q (.str ⟨#[c]⟩) H
theorem p0':IxR X (gC' X.K):=by
 intro value slice p_ s σ H x y v u Q I rx ry h hs
 obtain⟨p,xs,i,z,rfl,rfl,hq,he,q⟩:=h
 cases rx
 obtain⟨t,rfl⟩:=ry
 obtain⟨its,r,pl,hz⟩:=I.list hq
 obtain⟨j,h1,h2,h3,h4,h5⟩:=gI' he
 obtain⟨w,ew,rw'⟩:=r.get h2
 have hl:=r.length
 have hn:=eN'
 have fin:EP X p_ σ Q w s:=⟨z,H,I,rw',q⟩
 by_cases h0:0<=i
 .have hj:i.toNat=j:=by
   rw[seqIndex_of h0 h5]at h1
   exact Option.some.inj h1
  exact item_listR pl.isList h0 ⋯ (by rw[hj];simpa using ew) fin hs
 .have hj:(i+(its.toArray.size:Int)).toNat=j:=by
   rw[seqIndex_neg ⋯ h4]at h1
   rw[ak,<- hl]
   exact Option.some.inj h1
  exact subscriptTail_builtinR (x:=w) pl.isList.typeIs slot_list_getitem.lookup
   (wpAny_getItem_list_neg (Q:=fun r s'=>r=w/\EP X p_ σ Q r s') pl.isList ⋯ (by rw[ak]<;>omega) ⋯ (by rw[hj];simpa using ew) ⟨rfl,fin⟩) hs
theorem tf':IxR X (gJ' X.K):=by
 intro value slice p_ s σ H x y v u Q I rx ry h hs
 obtain⟨p,xs,i,z,rfl,rfl,hq,he,q⟩:=h
 cases rx
 obtain⟨t,rfl⟩:=ry
 obtain⟨its,r,pl,hz⟩:=I.tuple hq
 obtain⟨j,h1,h2,h3,h4,h5⟩:=gI' he
 obtain⟨w,ew,rw'⟩:=r.get h2
 have hl:=r.length
 have hn:=eN'
 have fin:EP X p_ σ Q w s:=⟨z,H,I,rw',q⟩
 exact subscriptTail_builtinR (x:=w) pl.typeIs slot_tuple_getitem.lookup
  (getItem_tuple (j:=j) (Q:=fun r s'=>r=w/\EP X p_ σ Q r s') pl ⋯ ⋯ (by rw[ak,<- hl];exact h1) (by simpa using ew) ⟨rfl,fin⟩) hs
theorem th':IxR X zO':=by
 intro value slice p_ s σ H x y v u Q I rx ry h hs
 obtain⟨z,i,c,rfl,rfl,hz,he,q⟩:=h
 obtain⟨t,rfl⟩:=rx
 obtain⟨t',rfl⟩:=ry
 obtain⟨j,h1,h2,h3,h4,h5⟩:=gI' he
 have hl:z.cps.toList.length=z.length:=by simp[Str.length]
 rw[hl]at h1 h4 h5
 have hn:=eN'
 exact tail_any (typeIs_str s z t) slot_str_getitem.lookup (getItem_str (c:=c) (by
  have e1:decide (i < -(2 ^ 63:Int))=false:=decide_eq_false ⋯
  have e2:decide (i ≥ 2 ^ 63)=false:=decide_eq_false ⋯
  rw[e1,e2,Bool.or_false]) (by rw[h1];simpa using h2) ⟨.str ⟨#[c]⟩,H,I.tok _,⟨_,rfl⟩,q⟩) hs
def rIx (K:W.Frag):R2:=fun x y H Q=>gC' K x y H Q\/gJ' K x y H Q\/zO' x y H Q
theorem ti':IxR X (rIx X.K):=p0'.or (tf'.or th')
theorem i0' (its:List Value) (n j:Nat) (u:Value):Obj.mapSeq (·.setIfInBounds j u) { cls:=.type "list",data:=.seq its.toArray n }={ cls:=.type "list",data:=.seq (its.set j u).toArray n }:=by
 simp[Obj.mapSeq]
theorem Inv.lst {p_:List (Addr×Obj)} {σ:St} {H:Hp} {s:Shared} {p:Addr} {xs:List V} (I:Inv X p_ σ H s) (h:H p=some (.lst xs)):
  ∃(its:List Value) (n:Nat),aE' xs its/\s.heap.get? p=some { cls:=.type "list",data:=.seq its.toArray n }/\xs.length<=sizeLine:=by
 obtain⟨z,its,n,r,e⟩:=I.hok p _ h
 exact⟨its,n,r,e,z⟩
theorem Inv.lstUpd {p_:List (Addr×Obj)} {σ:St} {H:Hp} {s:Shared} {p:Addr} {xs ys:List V} {its its':List Value} {n n':Nat} {f:Obj->Obj} (I:Inv X p_ σ H s) (h:H p=some (.lst xs))
  (ho:s.heap.get? p=some { cls:=.type "list",data:=.seq its.toArray n }) (hf:f { cls:=.type "list",data:=.seq its.toArray n }={ cls:=.type "list",data:=.seq its'.toArray n' }) (r:aE' ys its') (hz:ys.length<=sizeLine) (t:Nat):
  Inv X p_ σ (upd H p (.lst ys)) { s with heap:=s.heap.update p f,toks:=t }:=by
 have e:(s.heap.update p f).get? p=some { cls:=.type "list",data:=.seq its'.toArray n' }:=by
  rw[cR f ho (by rw[hf]<;>rfl),hf]
 refine I.write (x:=p) (e:=p) (by rw[h];trivial) (.inl rfl) (fun b u hb q=>(Heap.get?_update_other _ _ (Ne.symm hb)).trans q) ⟨_,e⟩ ?_
 exact⟨hz,its',n',r,e⟩
def dG':V->V->V->Hp->(Hp->Prop)->Prop:=fun o i v H Q=>∃p xs k j,o=.ref p/\i=.int k/\H p=some (.lst xs)/\ixN xs.length k=some j/\Q (upd H p (.lst (xs.set j v)))
theorem mN':zM' X dG':=by
 intro p_ s σ H o i v ov iv u Q I ro ri rv h
 obtain⟨p,xs,k,j,rfl,rfl,hp,hj,q⟩:=h
 cases ro
 obtain⟨t,rfl⟩:=ri
 obtain⟨its,n,r,ho,hz⟩:=I.lst hp
 obtain⟨h1,h2,h3,h4⟩:=jS' hj
 have hl:=r.length
 have hn:=eN'
 have I':Inv X p_ σ (upd H p (.lst (xs.set j v))) { s with heap:=s.heap.update p (Obj.mapSeq (·.setIfInBounds j u)) }:=
  I.lstUpd hp ho (i0' its n j u) (r.set rv j) (by rw[List.length_set];exact hz) s.toks
 by_cases h0:0<=k
 .have hk:k.toNat=j:=by
   rw[seqIndex_of h0 h4]at h1
   exact Option.some.inj h1
  exact W.ki_setAt ho h0 ⋯ (by rw[ak,<- hl];exact h4) (by rw[hk];exact⟨_,I',q⟩)
 .have hk:(k+(its.toArray.size:Int)).toNat=j:=by
   rw[seqIndex_neg ⋯ h3]at h1
   rw[ak,<- hl]
   exact Option.some.inj h1
  exact W.ki_setBack ho ⋯ (by rw[ak,<- hl];exact h3) ⋯ (by rw[hk];exact⟨_,I',q⟩)
theorem fR' (lo hi:Option Int) (n:Nat):(sliceBounds lo hi none n).1=((HT.sIx n 0 lo:Nat):Int)/\(sliceBounds lo hi none n).2.1=((HT.sIx n n hi:Nat):Int)/\(sliceBounds lo hi none n).2.2=1:=by
 refine⟨?_,?_,rfl⟩
 .cases lo with
  |none=>simp[sliceBounds,HT.sIx]
  |some i=>
   simp only[sliceBounds,HT.sIx,Option.getD_none,show(1:Int) > 0 by decide,if_true]
   by_cases h:i<0
   .simp only[h,if_true]<;>omega
   .simp only[h,if_false]<;>omega
 .cases hi with
  |none=>simp[sliceBounds,HT.sIx]
  |some i=>
   simp only[sliceBounds,HT.sIx,Option.getD_none,show(1:Int) > 0 by decide,if_true]
   by_cases h:i<0
   .simp only[h,if_true]<;>omega
   .simp only[h,if_false]<;>omega
theorem fc' (its:List Value) (lo hi:Option Int):slicePick its.toArray lo hi none=((its.drop (HT.sIx its.length 0 lo)).take (HT.sIx its.length its.length hi-HT.sIx its.length 0 lo)).toArray:=by
 obtain⟨h1,h2,h3⟩:=fR' lo hi its.toArray.size
 unfold slicePick
 rw[h1,h2,h3]
 simp only[sliceRange_one,pick_run,ak]<;>rfl
def xg' (K:W.Frag):V->Option Int->Option Int->Hp->VK->Prop:=fun x lo hi H Q=>∃a xs,x=.ref a/\SqL K H a xs/\∀p,H p=none->Q (.ref p) (upd H p (.lst (mM' xs lo hi)))
theorem p1':SlR X (xg' X.K):=by
 intro p_ s σ H x v vl vu lo hi sl Q I rx hs pl pu h
 obtain⟨a,xs,rfl,hx,q⟩:=h
 cases rx
 obtain⟨its,r,ht,hz⟩:=I.list hx
 have hlen:=r.length
 refine⟨"list",_,slot_list_getitem.lookup,ht.isList.typeIs,?_⟩
 refine wpAny_getItem_list_slice ht.isList hs pl pu .none (by simp) ?_ (by rw[ak]<;>omega)
 rw[fc',<- hlen]
 refine⟨.ref s.heap.objs.size,_,I.laid (t':=s.toks) (o:=.lst (mM' xs lo hi)) (fun b ob q=>ac _ q) (ah _) ?_,rfl,q _ (I.hok.fresh (ah _))⟩
 exact⟨aS (dZ' xs lo hi) hz,_,0,(r.drop (HT.sIx xs.length 0 lo)).take (HT.sIx xs.length xs.length hi-HT.sIx xs.length 0 lo),aC _ rfl⟩
def fe':V->Bool
 | .non=>true
 | .bl _=>true
 | .int _=>true
 | .str _=>true
 |_=>false
def eqV:V->V->Bool
 | .non,.non=>true
 | .bl a,.bl b=>a == b
 | .bl a,.int b=>(if a then 1 else 0) == b
 | .int a,.bl b=>a == (if b then 1 else 0)
 | .int a,.int b=>a == b
 | .str a,.str b=>a == b
 |_,_=>false
theorem tj' {A:Around} {s:Shared} {y x:V} {u v:Value} (ry:ax' y u) (rx:ax' x v) (fy:fe' y=true) (fx:fe' x=true):SeqAt.EqAt A s u v (eqV y x):=by
 cases y with
 |non=>
  cases ry
  cases x with
  |non=>cases rx;exact SeqAt.EqAt.same _
  |bl b=>cases rx;exact SeqAt.EqAt.none_bool b
  |int b=>obtain⟨t,rfl⟩:=rx;exact SeqAt.EqAt.none_int b t
  |str b=>obtain⟨t,rfl⟩:=rx;exact SeqAt.EqAt.none_str b t
  |_=>exact absurd (show false=true from fx) ay
 |bl a=>
  cases ry
  cases x with
  |non=>cases rx;exact SeqAt.EqAt.bool_none a
  |bl b=>cases rx;exact SeqAt.EqAt.bool_bool a b
  |int b=>obtain⟨t,rfl⟩:=rx;exact SeqAt.EqAt.bool_int a b t
  |str b=>obtain⟨t,rfl⟩:=rx;exact SeqAt.EqAt.bool_str a b t
  |_=>exact absurd (show false=true from fx) ay
 |int a=>
  obtain⟨t',rfl⟩:=ry
  cases x with
  |non=>cases rx;exact SeqAt.EqAt.int_none a t'
  |bl b=>cases rx;exact SeqAt.EqAt.int_bool a t' b
  |int b=>obtain⟨t,rfl⟩:=rx;exact SeqAt.EqAt.int_int a t' b t
  |str b=>obtain⟨t,rfl⟩:=rx;exact SeqAt.EqAt.int_str a t' b t
  |_=>exact absurd (show false=true from fx) ay
 |str a=>
  obtain⟨t',rfl⟩:=ry
  cases x with
  |non=>cases rx;exact SeqAt.EqAt.str_none a t'
  |bl b=>cases rx;exact SeqAt.EqAt.str_bool a t' b
  |int b=>obtain⟨t,rfl⟩:=rx;exact SeqAt.EqAt.str_int a t' b t
  |str b=>obtain⟨t,rfl⟩:=rx;exact SeqAt.EqAt.str_str a t' b t
  |_=>exact absurd (show false=true from fx) ay
 |_=>exact absurd (show false=true from fy) ay
def eqU (x:V) (u:Value):Bool:=match u with
 | .none=>eqV .non x
 | .bool b=>eqV (.bl b) x
 | .int i _=>eqV (.int i) x
 | .str z _=>eqV (.str z) x
 |_=>false
theorem oH' {x y:V} {u:Value} (r:ax' y u) (f:fe' y=true):eqU x u=eqV y x:=by
 cases y with
 |non=>cases r;rfl
 |bl b=>cases r;rfl
 |int i=>obtain⟨t,rfl⟩:=r;rfl
 |str z=>obtain⟨t,rfl⟩:=r;rfl
 |_=>exact absurd (show false=true from f) ay
theorem d0' {x:V}:∀{xs:List V} {us:List Value},aE' xs us->xs.all fe'=true->us.any (eqU x)=xs.any fun y=>eqV y x
 |_,_,.nil,_=>rfl
 |y :: xs,u :: us,.cons r t,f=>by
  rw[dm,af]at f
  rw[cA,cA,oH' r f.1,d0' t f.2]
theorem cZ' {A:Around} {s:Shared} {x:V} {v:Value} (rx:ax' x v) (fx:fe' x=true):∀{xs:List V} {us:List Value},aE' xs us->xs.all fe'=true->∀u∈us,SeqAt.EqAt A s u v (eqU x u)
 |_,_,.nil,_=>fun u hu=>by cases hu
 |y :: xs,u :: us,.cons r t,f=>fun u' hu=>by
  rw[dm,af]at f
  rcases au.mp hu with rfl|hu
  .rw[oH' r f.1];exact tj' r rx f.1 fx
  .exact cZ' rx fx t f.2 u' hu
def inV (x:V) (xs:List V):Bool:=xs.any fun y=>eqV y x
def rIn (K:W.Frag) (neg:Bool):R2:=fun x y H Q=>∃p xs,y=.ref p/\(SqL K H p xs\/SqT K H p xs)/\fe' x=true/\xs.all fe'=true/\Q (.bl (if neg then !inV x xs else inV x xs)) H
theorem jU':OpR X (compareOp .In) (rIn X.K false):=by
 intro p_ s σ H x y v u Q I rx ry h
 obtain⟨p,xs,rfl,hq,fx,fs,q⟩:=h
 cases ry
 rcases hq with hq|hq
 .obtain⟨its,r,pl,hz⟩:=I.list hq
  refine SeqAt.in_listAt (eqU x) pl.isList (fun w hw=>cZ' rx fx r fs w (by simpa using hw)) ⟨.bl _,H,I,rfl,?_⟩
  rw[show its.toArray.any (eqU x)=its.any (eqU x) by simp,d0' r fs]
  exact q
 .obtain⟨its,r,pl,hz⟩:=I.tuple hq
  refine SeqAt.in_tupleAt (eqU x) pl (fun w hw=>cZ' rx fx r fs w (by simpa using hw)) ⟨.bl _,H,I,rfl,?_⟩
  rw[show its.toArray.any (eqU x)=its.any (eqU x) by simp,d0' r fs]
  exact q
theorem fS':OpR X (compareOp .NotIn) (rIn X.K true):=by
 intro p_ s σ H x y v u Q I rx ry h
 obtain⟨p,xs,rfl,hq,fx,fs,q⟩:=h
 cases ry
 rcases hq with hq|hq
 .obtain⟨its,r,pl,hz⟩:=I.list hq
  refine SeqAt.notIn_listAt (eqU x) pl.isList (fun w hw=>cZ' rx fx r fs w (by simpa using hw)) ⟨.bl _,H,I,rfl,?_⟩
  rw[show its.toArray.any (eqU x)=its.any (eqU x) by simp,d0' r fs]
  exact q
 .obtain⟨its,r,pl,hz⟩:=I.tuple hq
  refine SeqAt.notIn_tupleAt (eqU x) pl (fun w hw=>cZ' rx fx r fs w (by simpa using hw)) ⟨.bl _,H,I,rfl,?_⟩
  rw[show its.toArray.any (eqU x)=its.any (eqU x) by simp,d0' r fs]
  exact q
theorem a2'.or {f:Value} {r r':List V->Hp->VK->Prop} (h:a2' X f r) (h':a2' X f r'):a2' X f (fun xs H Q=>r xs H Q\/r' xs H Q):=by
 intro p_ s σ H xs us Q I rs q
 rcases q with q|q
 .exact h p_ s σ H xs us Q I rs q
 .exact h' p_ s σ H xs us Q I rs q
theorem fT':a2' X (.type "list") (fun xs H Q=>∃p ys,xs=[.ref p]/\(SqL X.K H p ys\/SqT X.K H p ys)/\∀l,H l=none->Q (.ref l) (upd H l (.lst ys))):=by
 intro p_ s σ H xs us Q I r h
 obtain⟨p,ys,rfl,hq,q⟩:=h
 obtain⟨u,rfl,rx⟩:=eC' r
 cases rx
 have fin:∀(its:List Value),aE' ys its->ys.length<=sizeLine->∀(h':Heap) (c':Nat),(∀b o',s.heap.get? b=some o'->h'.get? b=some o')->
   h'.get? s.heap.objs.size=some { cls:=.type "list",dict:=none,data:=.seq its.toArray c',slots:=#[] }->EP X p_ σ Q (.ref s.heap.objs.size) { s with heap:=h' }:=fun its r' hz h' c' kp e=>
  ⟨.ref s.heap.objs.size,_,I.laid (t':=s.toks) kp (ah _) (show aJ' X.prog X.w _ h' _ (.lst ys) from⟨hz,its,c',r',e⟩),rfl,q _ (I.hok.fresh (ah _))⟩
 rcases hq with hq|hq
 .obtain⟨its,r',pl,hz⟩:=I.list hq
  have hlen:=r'.length
  obtain⟨o,ho,hc,n,hd⟩:=pl.isList
  exact call_list_seq p (.inl rfl) ho hc hd (fun h' c' kp e=>fin its r' hz h' c' kp e) (by simp only[ak]<;>omega)
 .obtain⟨its,r',pl,hz⟩:=I.tuple hq
  have hlen:=r'.length
  obtain⟨o,ho,hc,n,hd⟩:=pl
  exact call_list_seq p (.inr rfl) ho hc hd (fun h' c' kp e=>fin its r' hz h' c' kp e) (by simp only[ak]<;>omega)
theorem ff':a2' X (.type "tuple") (fun xs H Q=>∃p ys,xs=[.ref p]/\((SqL X.K H p ys/\∀l,H l=none->Q (.ref l) (upd H l (.tup ys)))\/(SqT X.K H p ys/\Q (.ref p) H))):=by
 intro p_ s σ H xs us Q I r h
 obtain⟨p,ys,rfl,h⟩:=h
 obtain⟨u,rfl,rx⟩:=eC' r
 cases rx
 rcases h with⟨hq,q⟩|⟨hq,q⟩
 .obtain⟨its,r',pl,hz⟩:=I.list hq
  have hlen:=r'.length
  refine call_tuple_list pl.isList (fun h' kp=>?_) (by simp only[ak]<;>omega)
  have I1:Inv X p_ σ H { s with heap:=h' }:=I.kept (t':=s.toks) kp
  have I2:Inv X p_ σ (upd H h'.objs.size (.tup ys)) { s with heap:=h'.push { cls:=.type "tuple",data:=.seq its.toArray } }:=
   I1.laid (t':=s.toks) (fun b o e=>ac _ e) (ah _) (show aJ' X.prog X.w _ _ _ (.tup ys) from⟨hz,its,r',oz'.new _ _⟩)
  exact⟨.ref h'.objs.size,_,I2,rfl,q _ (I1.hok.fresh (ah _))⟩
 .obtain⟨its,r',pl,hz⟩:=I.tuple hq
  exact call_tuple_same pl ⟨.ref p,H,I,rfl,q⟩
def tyV (K:W.Frag) (T:String) (x:V) (H:Hp):Prop:=match x with
 | .str _=>T="str"
 | .int _=>T="int"
 | .ref p=>(T="list"/\∃xs,SqL K H p xs)\/(T="tuple"/\((∃o,K.lookup p=some o/\o.cls=.type "tuple"/\o.dict=none)\/∃xs,H p=some (.tup xs)))\/
   (T="dict"/\((∃kvs,H p=some (.dK kvs))\/∃kvs,H p=some (.dT kvs)))\/(T="set"/\∃S n,H p=some (.set S n))
 |_=>False
theorem oI' {p_:List (Addr×Obj)} {σ:St} {H:Hp} {s:Shared} {T:String} {x:V} {v:Value} (I:Inv X p_ σ H s) (r:ax' x v) (ty:tyV X.K T x H):
  s.TypeIs v T/\∀a,v=.ref a->∃ob,s.heap.get? a=some ob/\ob.dict=none:=by
 cases x with
 |str z=>
  obtain⟨t,rfl⟩:=r
  cases(show T="str" from ty)
  exact⟨typeIs_str s z t,fun _ e=>nomatch e⟩
 |int i=>
  obtain⟨t,rfl⟩:=r
  cases(show T="int" from ty)
  exact⟨typeIs_int s i t,fun _ e=>nomatch e⟩
 |ref p=>
  cases r
  rcases ty with⟨rfl,xs,hq⟩|⟨rfl,⟨o,hk,hc,hd⟩|⟨xs,hk⟩⟩|⟨rfl,hk⟩|⟨rfl,S,n,hk⟩
  .obtain⟨its,_,pl,_⟩:=I.list hq
   refine⟨pl.isList.typeIs,fun a e=>?_⟩
   cases e
   obtain⟨o,n,e,c,hd,_⟩:=pl
   exact⟨o,e,hd⟩
  .refine⟨⟨o,I.kIn p o hk,hc⟩,fun a e=>?_⟩
   cases e
   exact⟨o,I.kIn _ o hk,hd⟩
  .obtain⟨_,_,_,o,e,c,_,hd⟩:=I.hok p _ hk
   refine⟨⟨o,e,c⟩,fun a e2=>?_⟩
   cases e2
   exact⟨o,e,hd⟩
  .have z:∃o,s.heap.get? p=some o/\o.ExactDict:=by
    rcases hk with⟨kvs,hk⟩|⟨kvs,hk⟩
    .obtain⟨_,_,_,_,o,_,_,e,ex,_⟩:=I.hok p _ hk
     exact⟨o,e,ex⟩
    .obtain⟨_,_,_,_,o,_,_,e,ex,_⟩:=I.hok p _ hk
     exact⟨o,e,ex⟩
   obtain⟨o,e,ex⟩:=z
   refine⟨⟨o,e,ex.1⟩,fun a e2=>?_⟩
   cases e2
   exact⟨o,e,ex.2.1⟩
  .obtain⟨o,_,_,_,e,ex,_⟩:=I.hok p _ hk
   refine⟨⟨o,e,ex.1⟩,fun a e2=>?_⟩
   cases e2
   exact⟨o,e,ex.2.1⟩
 |_=>exact False.elim ty
def AC' (K:W.Frag) (T:String) (r:V->List V->Hp->VK->Prop) (to:TE):TE:=fun σ H Q=>to σ H fun x H1=>tyV K T x H1/\r x [] H1 Q
def tBM (K:W.Frag) (T:String) (r:V->List V->Hp->VK->Prop) (to:TE) (t:TA):TE:=fun σ H Q=>to σ H fun x H1=>tyV K T x H1/\t σ H1 fun xs H2=>r x xs H2 Q
variable {o e:Expr} {es:List Expr} {to:TE} {t:TA} {name:Str} {apos cpos:Pos} {T id:String} {r:V->List V->Hp->VK->Prop}
theorem tl' (pa:PlainAttrs T) (slot:Slot T name id) (hty:typeOf (.builtin id)=pure (.type "method_descriptor")) (hm:MtR X id r) (ho:PE X o to)
  (hbase:attributeBase o name X.env (eval o X.env)=eval o X.env:=by rfl) (hline:(apos.endLine == cpos.line)=true:=by rfl):PE X (.Call (.Attribute o name apos) [] [] cpos) (AC' X.K T r to):=by
 intro p_ s σ H Q I h
 refine wpAny_Call_method0_late hbase hline (thn (ho p_ s σ H _ I h) fun v s1 ⟨x,H1,I1,r1,ty,q1⟩=>?_)
 obtain⟨h1,h2⟩:=oI' I1 r1 ty
 exact⟨T,id,pa,slot,hty,h1,h2,Calls.callWith_builtin rfl (PySem.evalArgs_none (hm p_ s1 σ H1 x [] v [] Q I1 r1 .nil q1))⟩
theorem xV' (pa:PlainAttrs T) (slot:Slot T name id) (hty:typeOf (.builtin id)=pure (.type "method_descriptor")) (hm:MtR X id r) (ho:PE X o to) (ha:PA X (e :: es) t)
  (hbase:attributeBase o name X.env (eval o X.env)=eval o X.env:=by rfl)
  (hfew:((backTo cpos (starEach (e :: es) X.env)).all (fun x=>!x.1)&&(backToKw cpos (keywordEach [] X.env)).all (fun x=>x.1.isSome)
   && decide ((e :: es).length+([]:List Keyword).length+(if([]:List Keyword).isEmpty then 0 else 1)<30))=true:=by rfl)
  (hline:(apos.endLine == cpos.line)=true:=by rfl) (hs:starEach (e :: es) X.env=(false,eval e X.env) :: starEach es X.env:=by rfl) (hplain:(backTo cpos (starEach es X.env)).any (·.1)=false:=by rfl):
  PE X (.Call (.Attribute o name apos) (e :: es) [] cpos) (tBM X.K T r to t):=by
 intro p_ s σ H Q I h
 refine wpAny_Call_method_late hbase hfew hline rfl (thn (ho p_ s σ H _ I h) fun v s1 ⟨x,H1,I1,r1,ty,q1⟩=>?_)
 obtain⟨h1,h2⟩:=oI' I1 r1 ty
 refine⟨T,id,pa,slot,hty,h1,h2,?_⟩
 have hA:=ha cpos p_ s1 σ H1 _ I1 q1
 rw[hs]at hA ⊢
 refine Calls.callWith_builtin (by show(false || (backTo cpos (starEach es X.env)).any (·.1))=false;rw[hplain]<;>rfl) (Calls.evalArgs_plain ?_)
 exact thn hA fun us s2 ⟨vs,H2,I2,r2,q2⟩=>hm p_ s2 σ H2 x vs v us Q I2 r1 r2 q2
end
def MtM (X:Cx) (id:String) (r:V->List V->Hp->VK->Prop):Prop:=
 ∀(p_:List (Addr×Obj)) (s:Shared) (σ:St) (H:Hp) (x:V) (xs:List V) (v:Value) (us:List Value) (Q:VK),Inv X p_ σ H s->ax' x v->aE' xs us->r x xs H Q->
  wpAny (model X.prog X.w) X.A (call (.builtin id) (v :: us)) (EP X p_ σ Q) X.xe s
theorem aE'.one:∀{x:V} {us:List Value},aE' [x] us->∃u,us=[u]/\ax' x u
 |_,_,.cons r .nil=>⟨_,rfl,r⟩
theorem aE'.zero:∀{us:List Value},aE' [] us->us=[]
 |_,.nil=>rfl
theorem aE'.dropLast {xs:List V} {us:List Value} (h:aE' xs us):aE' xs.dropLast us.dropLast:=by
 induction h with
 |nil=>exact .nil
 |cons r t ih=>
  cases t with
  |nil=>exact .nil
  |cons q t'=>exact .cons r ih
theorem aE'.rep {xs:List V} {us:List Value} (h:aE' xs us):∀k:Nat,aE' (aK k xs).flatten (aK k us).flatten
 |0=>.nil
 |k+1=>by
  rw[cH,cH,bY,bY]
  exact aE'.append h (aE'.rep h k)
theorem i1' {α:Type} (l:List α):l.eraseIdx (l.length-1)=l.dropLast:=by
 induction l with
 |nil=>rfl
 |cons a r ih=>
  cases r with
  |nil=>rfl
  |cons b r=>
   have e:(a :: b :: r).length-1=((b :: r).length-1)+1:=by
    have h1:(a :: b :: r).length=r.length+2:=rfl
    have h2:(b :: r).length=r.length+1:=rfl
    omega
   rw[e,List.eraseIdx_cons_succ,ih]
   all_goals rfl
theorem fU' (its:List Value):∀(k:Nat) (acc:List Value),
  List.foldl (fun x1 x2=>x1++x2) acc.toArray (aK k its.toArray)=(acc++(aK k its).flatten).toArray
 |0,acc=>by simp
 |k+1,acc=>by
  have e:acc.toArray++its.toArray=(acc++its).toArray:=by simp
  have e2:(acc++its)++(aK k its).flatten=acc++(aK (k+1) its).flatten:=by
   rw[cH,bY,ba]
  rw[<- e2,<- fU' its k (acc++its),<- e,cH,List.foldl_cons]
section
variable {X:Cx} {p_:List (Addr×Obj)} {σ:St} {H:Hp} {s:Shared} {l b:Addr} {xs ys zs:List V}
theorem Inv.lset {its its':List Value} {n:Nat} {f:Array Value->Array Value} {t':Nat} (I:Inv X p_ σ H s) (hH:H l=some (.lst xs))
  (e:s.heap.get? l=some { cls:=.type "list",data:=.seq its.toArray n }) (hf:f its.toArray=its'.toArray) (hv:aE' ys its') (hz:ys.length<=sizeLine):
  Inv X p_ σ (upd H l (.lst ys)) { s with heap:=s.heap.update l (Obj.mapSeq f),toks:=t' }:=by
 have q:=PySem.IsL.update e f
 rw[hf]at q
 refine I.write (x:=l) (e:=l) (by rw[hH];exact trivial) (.inl rfl) (fun b' u hb hu=>(Heap.get?_update_other s.heap (Obj.mapSeq f) (Ne.symm hb)).trans hu) ⟨_,q⟩ ?_
 exact⟨hz,its',_,hv,q⟩
theorem Inv.lnew {its:List Value} {t':Nat} (I:Inv X p_ σ H s) (hv:aE' ys its) (hz:ys.length<=sizeLine):
  Inv X p_ σ (upd H s.heap.objs.size (.lst ys)) { s with heap:=s.heap.push { cls:=.type "list",data:=.seq its.toArray },toks:=t' }:=
 I.laid (fun _ _ q=>ac _ q) (ah _) ⟨hz,its,0,hv,aC _ rfl⟩
theorem Inv.fresh (I:Inv X p_ σ H s):H s.heap.objs.size=none:=I.hok.fresh (ah _)
theorem Inv.lstM (I:Inv X p_ σ H s) (hH:H l=some (.lst xs)):xs.length<=sizeLine/\∃(its:List Value) (n:Nat),aE' xs its/\xs.length=its.length/\s.heap.get? l=some { cls:=.type "list",data:=.seq its.toArray n }:=by
 obtain⟨z,its,n,r,e⟩:=I.hok l _ hH
 exact⟨z,its,n,r,r.length,e⟩
theorem mO' {n:Nat} (h:n<=sizeLine):Builtin.List.listTooLong n=false:=by
 unfold Builtin.List.listTooLong
 exact decide_eq_false ⋯
end
section
variable {X:Cx}
def jV':V->List V->Hp->VK->Prop:=fun x vs H Q=>∃l xs y,x=.ref l/\vs=[y]/\H l=some (.lst xs)/\xs.length<sizeLine/\Q .non (upd H l (.lst (xs++[y])))
theorem jW':MtM X "list.append" jV':=by
 intro p_ s σ H x vs v us Q I rx rv h
 obtain⟨l,xs,y,rfl,rfl,hH,hz,q⟩:=h
 cases rx
 obtain⟨u,rfl,ru⟩:=rv.one
 obtain⟨z,its,n,r,hl,e⟩:=I.lstM hH
 refine call_meets F.slot_list_append ⟨_,e,rfl⟩ F.entry_list_append (F.args_list_append_2 _ _) (PySem.list_append l its.toArray n u (by rw[ak];omega)) ⟨e,?_⟩
 refine⟨.non,_,I.lset (its':=its++[u]) hH e (by simp) (r.append (.cons ru .nil)) ?_,rfl,q⟩
 rw[aj,bD]
 omega
def zP':V->List V->Hp->VK->Prop:=fun x vs H Q=>∃l xs y,x=.ref l/\vs=[]/\H l=some (.lst xs)/\xs[xs.length-1]?=some y/\Q y (upd H l (.lst xs.dropLast))
theorem tm':MtM X "list.pop" zP':=by
 intro p_ s σ H x vs v us Q I rx rv h
 obtain⟨l,xs,y,rfl,rfl,hH,hy,q⟩:=h
 cases rx
 have hus:=rv.zero
 subst hus
 obtain⟨z,its,n,r,hl,e⟩:=I.lstM hH
 obtain⟨u,hu,ru⟩:=r.get hy
 have hy':its.toArray[its.toArray.size-1]?=some u:=by
  show its.toArray[its.length-1]?=some u
  rw[<- ce,<- hl]
  exact hu
 refine call_meets F.slot_list_pop ⟨_,e,rfl⟩ F.entry_list_pop (F.args_list_pop_1 _) (MeetsSeq.list_pop_last l its.toArray n u hy' (by rw[ak];omega)) ⟨e,?_⟩
 refine⟨y,_,I.lset (its':=its.dropLast) hH e ?_ r.dropLast ?_,ru,q⟩
 .show its.toArray.eraseIdxIfInBounds (its.toArray.size-1)=its.dropLast.toArray
  rw[ak,List.eraseIdxIfInBounds_toArray,i1']
 .rw[List.length_dropLast]
  omega
def zQ':R2:=fun x y H Q=>∃l b xs zs,x=.ref l/\y=.ref b/\H l=some (.lst xs)/\H b=some (.lst zs)/\xs.length+zs.length<=sizeLine/\∀p,H p=none->Q (.ref p) (upd H p (.lst (xs++zs)))
theorem tn':OpR X (binaryOp .Add) zQ':=by
 intro p_ s σ H x y v u Q I rx ry h
 obtain⟨l,b,xs,zs,rfl,rfl,hH,hB,hz,q⟩:=h
 cases rx
 cases ry
 obtain⟨z,its,n,r,hl,e⟩:=I.lstM hH
 obtain⟨z2,its2,n2,r2,hl2,e2⟩:=I.lstM hB
 refine PySem.P.add_list e e2 ?_ (by rw[ak,ak];omega)
 have ea:its.toArray++its2.toArray=(its++its2).toArray:=by simp
 rw[ea]
 exact⟨.ref _,_,I.lnew (t':=s.toks) (r.append r2) (by rw[aj];omega),rfl,q _ I.fresh⟩
def zR':R2:=fun x y H Q=>∃l k xs,x=.ref l/\y=.int k/\H l=some (.lst xs)/\-(2 ^ 63)<=k/\k<2 ^ 63/\xs.length*k.toNat<=sizeLine/\
 ∀p,H p=none->Q (.ref p) (upd H p (.lst (aK k.toNat xs).flatten))
theorem p2' {α:Type} (xs:List α) (k:Nat):(aK k xs).flatten.length=k*xs.length:=by
 induction k with
 |zero=>simp
 |succ k ih=>rw[cH,bY,aj,ih,Nat.succ_mul,Nat.add_comm]
theorem to':OpR X (binaryOp .Mult) zR':=by
 intro p_ s σ H x y v u Q I rx ry h
 obtain⟨l,k,xs,rfl,rfl,hH,h1,h2,hz,q⟩:=h
 cases rx
 obtain⟨t,rfl⟩:=ry
 obtain⟨z,its,n,r,hl,e⟩:=I.lstM hH
 have hlen:its.toArray.size*k.toNat<=sizeLine:=by rw[ak,<- hl];exact hz
 have hcap:¬its.toArray.size*k.toNat > (2 ^ 63-1) / 8:=by
  have:(sizeLine:Nat)<=(2 ^ 63-1) / 8:=by decide
  omega
 have hfit:¬(!Builtin.List.listFitsIndex k)=true:=by
  rw[fitsIndex_both h1 h2]
  exact ay
 have hlong:¬Builtin.List.listTooLong (its.toArray.size*k.toNat)=true:=by
  rw[mO' hlen]
  exact ay
 have hnew:List.foldl (fun x1 x2=>x1++x2) #[] (aK (if its.toArray.isEmpty=true then 0 else k.toNat) its.toArray)=(aK k.toNat its).flatten.toArray:=by
  have f0:∀m:Nat,List.foldl (fun x1 x2=>x1++x2) #[] (aK m its.toArray)=(aK m its).flatten.toArray:=fun m=>by
   have:=fU' its m []
   rw[List.nil_append]at this
   exact this
  rw[f0]
  cases its with
  |nil=>simp
  |cons a r'=>rw[if_neg (by simp)]
 refine wpAny_binaryOp_repeat_ref (T:="list") (U:="int") (by decide) ⟨_,e,rfl⟩ (fun s'=>typeIs_int s' k t) noFill_list_mul F.fills_int_mul F.slot_int_rmul repeat_list F.slot_int_index.lookup
  (call_meets F.slot_int_rmul (typeIs_int s k t) F.entry_int_rmul (F.args_int_rmul_2 _ _) (int___rmul___int_list k t l its.toArray n)
   ⟨e,rfl,⟨_,e,rfl⟩,call_meets F.slot_list_mul ⟨_,e,rfl⟩ F.entry_list_mul (F.args_list_mul_2 _ _) (AutoListH.list___mul___list_int_3 l its.toArray n k t hfit hcap hlong) ⟨e,?_⟩⟩)
 rw[hnew]
 exact⟨.ref _,_,I.lnew (t':=s.toks) (r.rep k.toNat) (by rw[p2',dj];exact hz),rfl,q _ I.fresh⟩
end
end L2
namespace Att
open PySem PySem.W PySem.Calls PyProof.Rows
theorem d1' {P:Params} {h:Heap}:∀(ns:List Int) (vs:List Value),WellAll P h vs (ns.map WData.int)->IntsAre vs ns:=by
 intro ns
 induction ns with
 |nil=>
  intro vs w
  rw[List.map_nil]at w
  cases w
  exact .nil
 |cons n ns ih=>
  intro vs w
  rw[aJ]at w
  cases w with
  |cons a b=>
   cases a
   exact .cons _ _ (ih _ b)
theorem jX' {l:OpenLaw} {n:Nat} (hn:l.most=some n) {P:Params} {h:Heap} {args:List WData} {vals:List Value}
  (hpre:l.row.toRowW.claim.pre args=true) (hwl:WellAll P h vals args):
  ∃a vs ns,vals=[Value.ref a]/\args=[WData.list (ns.map WData.int)]/\h.get? a=some { cls:=.type "list",data:=.seq vs.toArray }/\IntsAre vs ns/\ns.length<=n:=by
 have hsh:WShape.hasAll [] args [.list .int]=true:=(pre_splitW hpre).1
 have hc:l.pre.holds [] { args:=args }=true:=(pre_splitW hpre).2
 obtain⟨d,r,rfl,h1,h2⟩:=hasAllW_cons hsh
 obtain rfl:=hasAllW_nil h2
 obtain⟨xs,rfl,h3⟩:=hasW_list h1
 obtain⟨ns,rfl⟩:=items_int h3
 have hlen:ns.length<=n:=by
  unfold OpenLaw.pre at hc
  have h4:(WTm.not (.lt (.lit (.int (n:Int))) (.len (.arg 0)))).holds [] { args:=[.list (ns.map .int)] }=true:=by
   have h4:=(holds_andW hc).1
   rw[hn]at h4
   exact h4
  have h5:=condW_of h4 (w_not (w_lt w_lit (w_len_list (w_arg rfl))))
  rw[ae]at h5
  refine Nat.le_of_not_lt fun q=>?_
  have q':(n:Int)<((ns.length:Nat):Int):=by omega
  first
   |(rw[decide_eq_true q']at h5;exact absurd h5 (by decide))
   |(simp at h5;omega)
 cases hwl with
 |cons w1 w2=>
  cases w2
  cases w1 with
  |list ho hall=>exact⟨_,_,ns,rfl,rfl,ho,d1' ns _ hall,hlen⟩
theorem jY' (l:OpenLaw) (args:List WData):l.row.toRowW.claim.post args (.bool true) args=true:=
 postW_of (r:=l.row.toRowW) (X:=(true == true))
  (show WShape.has [] (.bool true) .bool=true by first|rfl|decide|simp[WShape.has,WShape.arms,WShape.armsAll])
  (show(WTm.eq .res (.lit (.bool true))).value [] { args:=args,res:=some (.bool true),after:=args }=some (.bool (true == true)) from w_eq_bool (w_res rfl) w_lit) rfl
theorem gK' {l:OpenLaw} {n:Nat} {q:Program} {loose:List Str} {XP:(Str->Option Value)->Heap->Prop} {YP:World->Heap->Prop} {d:DefRec}
  (hn:l.most=some n) (hdf:d.params.defaults=[])
  (call:∀(w:World) (s₀ s₁:Shared) (mg mb:Str->Option Value) (fa:Addr) (o:Obj) (pm cd doc:Value) (a:Addr) (vs:List Value) (ns:List Int),
   Ground q loose [] XP w s₀ mg mb s₁.heap->YP w s₁.heap->
   s₁.heap.get? fa=some o->o.data=.func (docDef d.name d.params d.body d.scope pm cd doc)->s₁.heap.CodeRec cd d.name->mg d.name=some (.ref fa)->
   s₁.heap.get? a=some { cls:=.type "list",data:=.seq vs.toArray }->IntsAre vs ns->ns.length<=n->s₁.gens=#[]->
   codeAny (model l.prog w) callerA (.call (.ref fa) ⟨[.ref a],[]⟩) (fun r s'=>r=.ok (.ret (.bool true))/\OldK s₁.heap s'.heap/\s'.os=s₁.os/\AllBare s'.gens) s₁):
  WalkO q loose XP YP l.row.toRowW d [] (fun f vs=>PySem.call f vs):=by
 intro w s₀ s₁ mg mb G Y fa o pm cd doc dV kV ho hd hcd hD hmg hg args vals as hpre hlay hrd hwl hlo
 obtain rfl:dV=.none:=Dflts.none hD hdf
 obtain rfl:kV=.none:=Dflts.noKw hD
 obtain⟨a,vs,ns,rfl,rfl,hobj,hints,hlen⟩:=jX' hn hpre hwl
 refine enter_call (codeAny_mono (call w s₀ s₁ mg mb fa o pm cd doc a vs ns G Y ho (fd_plain hd) hcd hmg hobj hints hlen hg) fun r s' hq=>?_)
 obtain⟨rfl,h2,h3,h4⟩:=hq
 exact⟨.inl ⟨.bool true,.bool true,[],rfl,fun _=>rfl,.bool true,jY' l _,fun _=>⟨List.Pairwise.nil,fun _ hm=>(nomatch hm)⟩⟩,h2,h3,h4⟩
end Att
namespace L2
open PySem PySem.Spec PyProof.Rows
theorem fV':∀{vs:List Value} {ns:List Int},IntsAre vs ns->aE' (ns.map V.int) vs
 |_,_,.nil=>.nil
 |_,_,.cons n t h=>.cons ⟨t,rfl⟩ (fV' h)
def xW' (H:Hp):Prop:=∀b,H b=none\/∃o xs,H b=some (.frz o (.lst xs))
theorem mP' {P:Program} {w:World} {K:W.Frag} {mg mb:Str->Option Value} {CX:CXT} {k:Nat} {fa a:Addr} {fd:FuncData} {x:Str} {sp:Sp} {s₁:Shared} {vs:List Value} {ns:List Int}
  (KX:K.In s₁.heap) (hns:s₁.heap.Ns mainGlobals mg) (hb:s₁.heap.Ns builtinsNs mb) (hbb:∀x:Str,x≠"__name__"->mb x=bootBuiltins x) (hlim:s₁.heap.NoLimit) (hg:s₁.gens=#[])
  (ha:s₁.heap.get? a=some { cls:=.type "list",data:=.seq vs.toArray }) (hi:IntsAre vs ns) (hl:ns.length<=sizeLine) (hr:Room k callerA)
  (F:∀base:Heap,K.In base->base.Ns mainGlobals mg->FnOk P w K mg base CX k fa fd [x] sp) (hbind:∀(s:Shared) (u:Value),BindsTo s fd ⟨[u],[]⟩ [(x,u)])
  (hsp:∀H:Hp,xW' H->SqL K H a (ns.map V.int)->sp [.ref a] H (fun v _=>v=.bl true) fun _ _ _=>False)
  (hCX:∀H e s',CX [] H s₁ (fun _ _ _=>False) e s'->False):
  codeAny (model P w) callerA (.call (.ref fa) ⟨[.ref a],[]⟩) (fun r s'=>r=.ok (.ret (.bool true))/\OldK s₁.heap s'.heap/\s'.os=s₁.os/\AllBare s'.gens) s₁:=by
 have rv:=fV' hi
 have lenV:=hi.length
 have core:∀H:Hp,xW' H->SqL K H a (ns.map V.int)->HOk P w H s₁.heap->(∀b,H b≠none->b=a)->(H a≠none->K.lookup a=none)->
   codeAny (model P w) callerA (.call (.ref fa) ⟨[.ref a],[]⟩) (fun r s'=>r=.ok (.ret (.bool true))/\OldK s₁.heap s'.heap/\s'.os=s₁.os/\AllBare s'.gens) s₁:=by
  intro H hO hS hok hA hK
  have base_of:∀{b:Addr} {o:Obj},s₁.heap.get? b=some o->H b=none->(mu' s₁.heap H).get? b=some o:=fun e n=>mv' e n
  have noA:∀{b:Addr} {o:Obj} {es:Array DictEntry} {ep:Nat},s₁.heap.get? b=some o->o.data=.dict es ep->H b=none:=fun {b o es ep} e d=>by
   cases q:H b with
   |none=>rfl
   |some u=>
    have e':b=a:=hA b (by rw[q];simp)
    subst e'
    rw[ha]at e;cases e
    have d':Data.seq vs.toArray _=Data.dict es ep:=d
    cases d'
  have nsK:∀{b:Addr} {m:Str->Option Value},s₁.heap.Ns b m->(mu' s₁.heap H).Ns b m:=fun {b m} ⟨o,es,ep,e,d,r⟩=>⟨o,es,ep,base_of e (noA e d),d,r⟩
  have hKb:K.In (mu' s₁.heap H):=fun b o e=>base_of (KX b o e) (by
   cases q:H b with
   |none=>rfl
   |some u=>
    have e':b=a:=hA b (by rw[q];simp)
    subst e'
    rw[hK (by rw[q];simp)]at e;cases e)
  have hM:Mod K mg (mu' s₁.heap H):=⟨hKb,nsK hns,⟨mb,nsK hb,hbb⟩,let⟨mc,h1,h2⟩:=hlim;⟨mc,nsK h1,h2⟩⟩
  have e0:Env0 P w K mg (mu' s₁.heap H) callerA [] s₁ H:=⟨rfl,hM,fun b o e=>pD' e,Nat.le_of_eq (jF' _ _),trivial,fun b hb=>absurd (show b∈([]:List Addr) from hb) (by simp),hok,.of_eq hg⟩
  refine codeAny_mono ((F _ hKb (nsK hns)).run callerA [] s₁ H ⟨[.ref a],[]⟩ [.ref a] [.ref a] _ _ hr e0 (hbind s₁ (.ref a)) (.cons rfl .nil) (hsp H hO hS)) fun r s' h=>?_
  cases r with
  |error e=>exact(hCX H e s' h).elim
  |ok fl=>
   cases fl with
   |next=>exact False.elim h
   |brk=>exact False.elim h
   |cont=>exact False.elim h
   |ret u=>
    obtain⟨v,H',os,bare,un,hok',r',q⟩:=h
    have q':v=.bl true:=q
    subst q'
    obtain rfl:u=Value.bool true:=r'
    refine⟨rfl,OldK.of_keep fun b o e=>?_,os,bare⟩
    cases q:H b with
    |none=>exact un.keep b o e q (by intro z;exact absurd (show b∈([]:List Addr) from z) (by simp)) (by simp)
    |some u=>
     rcases hO b with z|⟨ob,xs,z⟩
     .rw[q]at z;cases z
     .have z2:=un.frzs b ob _ z
      obtain⟨e1,_⟩:=hok b _ z
      obtain⟨e2,_⟩:=hok' b _ z2
      rw[e]at e1;cases e1
      exact e2
 cases hk:K.lookup a with
 |some o=>
  have e:=KX a o hk
  rw[ha]at e
  cases e
  refine core (fun _=>none) (fun _=>.inl rfl) (.inr ⟨_,vs.toArray,_,hk,rfl,rfl,rfl,by rw[ak,lenV];exact hl,by simpa using rv⟩) (fun b u z=>by have z':(none:Option HO)=some u:=z;cases z') (fun b z=>absurd rfl z) fun z=>absurd rfl z
 |none=>
  refine core (fun b=>if b=a then some (.frz { cls:=.type "list",data:=.seq vs.toArray } (.lst (ns.map V.int)))else none) (fun b=>?_) (.inl (.inr ⟨{ cls:=.type "list",data:=.seq vs.toArray },if_pos rfl⟩)) (fun b u z=>?_) (fun b z=>?_) fun _=>hk
  .by_cases hb:b=a
   .exact .inr ⟨_,_,if_pos hb⟩
   .exact .inl (if_neg hb)
  .by_cases hb:b=a
   .have z':=(if_pos hb).symm.trans z
    cases z'
    subst hb
    exact⟨ha,by rw[ae];exact hl,vs,_,rv,ha⟩
   .have z':=(if_neg hb).symm.trans z
    cases z'
  .by_cases hb:b=a
   .exact hb
   .exact absurd (if_neg hb) z
theorem p3' {l:W.OpenLaw} {n k:Nat} {q:Program} {loose:List Str} {XP:(Str->Option Value)->Heap->Prop} {YP:World->Heap->Prop} {d:DefRec} {K:Params->W.Frag} {CX:World->CXT} {sp:World->Sp} {x:Str}
  (hn:l.most=some n) (hn2:n<=sizeLine) (hdf:d.params.defaults=[]) (hr:Room k callerA)
  (hY:∀(w:World) (h:Heap),YP w h->(K w.params).In h)
  (F:∀(w:World) (mg:Str->Option Value) (fa:Addr) (h:Heap),(K w.params).In h->h.Ns mainGlobals mg->mg d.name=some (.ref fa)->
   ∃fd:FuncData,(∀(s:Shared) (u:Value),BindsTo s fd ⟨[u],[]⟩ [(x,u)])/\
    ∀base:Heap,(K w.params).In base->base.Ns mainGlobals mg->FnOk l.prog w (K w.params) mg base (CX w) k fa fd [x] (sp w))
  (hsp:∀(w:World) (H:Hp) (a:Addr) (ns:List Int),ns.length<=n->xW' H->SqL (K w.params) H a (ns.map V.int)->sp w [.ref a] H (fun v _=>v=.bl true) fun _ _ _=>False)
  (hCX:∀(w:World) (H:Hp) (s:Shared) (e:Value) (s':Shared),CX w [] H s (fun _ _ _=>False) e s'->False):
  W.WalkO q loose XP YP l.row.toRowW d [] (fun f vs=>PySem.call f vs):=by
 refine Att.gK' hn hdf fun w s₀ s₁ mg mb fa o pm cd doc a vs ns G Y ho hd hcd hmg hobj hints hlen hg=>?_
 have KX:=hY w _ Y
 obtain⟨fd,hb,hF⟩:=F w mg fa _ KX G.T.g hmg
 exact mP' KX G.T.g G.T.b G.T.builtins G.T.nolimit hg hobj hints (aS hlen hn2) hr hF hb (fun H hO hS=>hsp w H a ns hlen hO hS) fun H e s'=>hCX w H s₁ e s'
def dp' (s:Stmt):Arguments:=match s with
 | .FunctionDef _ a _ _ _ _ _ _ _ _=>a
 |_=>{ posonlyargs:=[],args:=[],vararg:=none,kwonlyargs:=[],kw_defaults:=[],kwarg:=none,defaults:=[] }
def al' (s:Stmt):List Stmt:=match s with
 | .FunctionDef _ _ b _ _ _ _ _ _ _=>b
 |_=>[]
def ad' (s:Stmt):Scope:=match s with
 | .FunctionDef _ _ _ _ _ _ sc _ _ _=>sc
 |_=>{ kind:=.function,names:=[],isGenerator:=false,isCoroutine:=false }
abbrev CX0:CXT:=fun _ _ _ _ _ _=>False
abbrev E0:XK:=fun _ _ _=>False
structure Fun (K:W.Frag) (x qual:Str) (st:Stmt) (f:Addr) (fd:FuncData):Prop where
 ex:∃(oc:Value) (od:Option Addr) (kV doc pm:Value) (an:Option Addr) (cdv ct:Value) (osl:Array (Option Value)),
  fd=W.fnOf x qual (dp' st) (al' st) (ad' st) .none kV doc pm an cdv ct/\K.lookup f=some ⟨oc,od,.func fd,osl⟩/\W.codeIn K cdv qual=true
 kp:W.keepIn K (.ref f)=true
section
variable {P:Program} {w:World} {K:W.Frag} {mg:Str->Option Value} {base:Heap}
theorem Fun.binds {x qual:Str} {st:Stmt} {f:Addr} {fd:FuncData} {ps:List Str} (F:Fun K x qual st f fd)
  (h:∀(kV doc pm:Value) (an:Option Addr) (cdv ct:Value) (us:List Value),us.length=ps.length->bindArgs (W.fnOf x qual (dp' st) (al' st) (ad' st) .none kV doc pm an cdv ct) ⟨us,[]⟩=pure (ps.zip us)):eD' K fd ps []:=by
 obtain⟨oc,od,kV,doc,pm,an,cdv,ct,osl,rfl,lk,hcd⟩:=F.ex
 exact .all (h kV doc pm an cdv ct)
theorem tp' {x qual:Str} {st:Stmt} {f:Addr} {oc:Value} {od an:Option Addr} {osl:Array (Option Value)} {kV doc pm cdv ct:Value} (l:K.lookup f=some ⟨oc,od,.func (W.fnOf x qual (dp' st) (al' st) (ad' st) .none kV doc pm an cdv ct),osl⟩)
  (c:W.codeIn K cdv qual=true) (k:W.keepIn K (.ref f)=true):Fun K x qual st f (W.fnOf x qual (dp' st) (al' st) (ad' st) .none kV doc pm an cdv ct):=⟨⟨oc,od,kV,doc,pm,an,cdv,ct,osl,rfl,l,c⟩,k⟩
end
theorem ag' {n:Nat} (h:n<=1000):n<sizeLine:=bA h (by decide)
def aC' (H H':Hp):Prop:=∀b o,H b=some o->H' b=some o
theorem aC'.refl (H:Hp):aC' H H:=fun _ _ h=>h
theorem aC'.trans {H H1 H2:Hp} (a:aC' H H1) (b:aC' H1 H2):aC' H H2:=fun c o h=>b c o (a c o h)
theorem aC'.free {H H':Hp} (e:aC' H H') {l:Addr} (h:H' l=Option.none):H l=Option.none:=by
 cases q:H l with
 |none=>rfl
 |some o=>
  rw[e l o q]at h
  cases h
theorem aC'.seq {K:W.Frag} {H H':Hp} {a:Addr} {xs:List V} (e:aC' H H') (h:SqL K H a xs):SqL K H' a xs:=by
 rcases h with(h|⟨o,h⟩)|h
 .exact .inl (.inl (e _ _ h))
 .exact .inl (.inr ⟨o,e _ _ h⟩)
 .exact .inr h
def bN' (cells:List (Str×Addr)):List (Str×NameKind)->List (Str×Addr)->List (Str×Addr)
 | [],acc=>acc
 |(n,k) :: r,acc=>if k == .free then bN' cells r ((n,(cells.lookup n).getD 0) :: acc)else bN' cells r acc
def fW' (env:Env) (x:Str×NameKind) (r:List (Str×Addr)):Sem (ForInStep (List (Str×Addr))):=
 match x with|(name,kind)=>if(kind == .free)=true then(do let a <- cellOf env name;pure (ForInStep.yield ((name,a) :: r)))else pure (ForInStep.yield r)
theorem tq' {env:Env}:∀(names:List (Str×NameKind)) (acc:List (Str×Addr)),(∀n,(n,NameKind.free)∈names->∃c,env.cells.lookup n=some c)->
   forIn names acc (fW' env)=(pure (bN' env.cells names acc):Sem _):=by
  intro names
  induction names with
  |nil=>intro acc _;rfl
  |cons x r ih=>
   intro acc hh
   obtain⟨n,k⟩:=x
   rw[List.forIn_cons]
   have hr:=fun m hm=>hh m (aq _ hm)
   by_cases hk:k=.free
   .subst hk
    obtain⟨c,hc⟩:=hh n aw
    have e1:cellOf env n=(pure c:Sem Addr):=by unfold cellOf;rw[hc]
    have e2:fW' env (n,NameKind.free) acc=pure (ForInStep.yield ((n,c) :: acc)):=by
     unfold fW'
     dsimp only
     rw[if_pos (by rfl),e1]
     rfl
    rw[e2]
    have e3:=ih ((n,c) :: acc) hr
    have e4:bN' env.cells ((n,NameKind.free) :: r) acc=bN' env.cells r ((n,c) :: acc):=by
     show(if(NameKind.free == NameKind.free)=true then _ else _)=_
     rw[if_pos (by rfl),hc]
     rfl
    rw[e4,<- e3]
    rfl
   .have hb:(k == NameKind.free)=false:=by simpa using hk
    have e2:fW' env (n,k) acc=pure (ForInStep.yield acc):=by
     unfold fW'
     dsimp only
     rw[if_neg (by rw[hb];exact ay)]
    rw[e2]
    have e4:bN' env.cells ((n,k) :: r) acc=bN' env.cells r acc:=by
     show(if(k == NameKind.free)=true then _ else _)=_
     rw[if_neg (by rw[hb];exact ay)]
    rw[e4,<- ih acc hr]
    rfl
theorem jZ' {env:Env} {scope:Scope} (h:∀n,(n,NameKind.free)∈scope.names->∃c,env.cells.lookup n=some c):closureFor scope env=pure (bN' env.cells scope.names []):=by
 have e:=tq' (env:=env) scope.names [] h
 unfold closureFor
 have q:∀f:Str×NameKind->List (Str×Addr)->Sem (ForInStep (List (Str×Addr))),(∀x r,f x r=fW' env x r)->(forIn scope.names ([]:List (Str×Addr)) f >>= fun r=>pure r)=(pure (bN' env.cells scope.names []):Sem _):=by
  intro f hf
  have:f=fW' env:=funext fun x=>funext fun r=>hf x r
  rw[this,e]
  rfl
 refine q _ fun x r=>?_
 obtain⟨n,k⟩:=x
 unfold fW'
 first|done|(dsimp only;done)|(dsimp only;cases hk:k == NameKind.free<;>simp[hk])
set_option tactic.hygienic true in
theorem d2' {cells:List (Str×Addr)}:∀{names:List (Str×NameKind)} {acc:List (Str×Addr)} {n:Str} {c:Addr},(n,c)∈bN' cells names acc->(n,c)∈acc\/((n,NameKind.free)∈names/\c=(cells.lookup n).getD 0)
 | [],_,_,_,h=>.inl h
 |(m,k) :: r,acc,n,c,h=>by
  unfold bN' at h
  split at h
  .rename_i hk
   have hk':k=.free:=by simpa using hk
   subst hk'
   rcases d2' h with q|⟨q,e⟩
   .rcases au.mp q with q|q
    .cases q;exact .inr ⟨aw,rfl⟩
    .exact .inl q
   .exact .inr ⟨aq _ q,e⟩
  .rcases d2' h with q|⟨q,e⟩
   .exact .inl q
   .exact .inr ⟨aq _ q,e⟩
set_option tactic.hygienic true in
theorem d3' {cells:List (Str×Addr)}:∀{names:List (Str×NameKind)} {acc:List (Str×Addr)} {n:Str},((n,NameKind.free)∈names\/∃c,(n,c)∈acc)->∃c,(n,c)∈bN' cells names acc
 | [],_,_,h=>by
  rcases h with h|h
  .simp at h
  .exact h
 |(m,k) :: r,acc,n,h=>by
  unfold bN'
  split
  .rename_i hk
   refine d3' ?_
   rcases h with h|⟨c,h⟩
   .rcases au.mp h with h|h
    .cases h;exact .inr ⟨_,aw⟩
    .exact .inl h
   .exact .inr ⟨c,aq _ h⟩
  .rename_i hk
   refine d3' ?_
   rcases h with h|h
   .rcases au.mp h with h|h
    .cases h;exact absurd rfl hk
    .exact .inl h
   .exact .inr h
theorem aM':∀(names:List (Str×NameKind)) (n:Nat) (acc:List (Str×Addr)),cellsFrom n names acc=cellsFrom n names []++acc
 | [],_,_=>rfl
 |(x,k) :: r,n,acc=>by
  unfold cellsFrom
  split
  .rw[aM' r (n+1) ((x,n) :: acc),aM' r (n+1) [(x,n)],ba]
   rfl
  .exact aM' r n acc
theorem bx' {α:Type}:∀{l:List (Str×α)} {n:Str} {c:α},(n,c)∈l->∃c',l.lookup n=some c'
 |(k,v) :: r,n,c,h=>by
  rw[bG]
  cases hb:n == k with
  |true=>exact⟨v,rfl⟩
  |false=>
   rcases au.mp h with e|h
   .cases e;simp at hb
   .exact bx' h
theorem bH' {env:Env}:∀{names:List (Str×NameKind)} {x:Str} {k':NameKind},
  (names.map fun(n,k)=>if(k == NameKind.free&&env.scope.kind == .function&&env.kindOf n == some .cell)then(n,NameKind.cell)else(n,k)).lookup x=some k'->∃k,names.lookup x=some k/\(k'=k\/(k=.free/\k'=.cell))
 | [],_,_,h=>by simp at h
 |(n,k) :: r,x,k',h=>by
  have ih:=@bH' env r x k'
  rw[aJ]at h
  by_cases hc:(k == NameKind.free&&env.scope.kind == .function&&env.kindOf n == some .cell)=true
  .have e1:(match ((n,k):Str×NameKind)with|(n,k)=>if(k == NameKind.free&&env.scope.kind == .function&&env.kindOf n == some .cell)=true then(n,NameKind.cell)else(n,k))=(n,NameKind.cell):=if_pos hc
   rw[e1,bG]at h
   rw[bG]
   cases hx:x == n with
   |true=>
    rw[hx]at h
    cases h
    refine⟨k,rfl,.inr ⟨?_,rfl⟩⟩
    simp only[af]at hc
    exact beq_iff_eq.mp hc.1.1
   |false=>rw[hx]at h;exact ih h
  .have e1:(match ((n,k):Str×NameKind)with|(n,k)=>if(k == NameKind.free&&env.scope.kind == .function&&env.kindOf n == some .cell)=true then(n,NameKind.cell)else(n,k))=(n,k):=if_neg hc
   rw[e1,bG]at h
   rw[bG]
   cases hx:x == n with
   |true=>rw[hx]at h;cases h;exact⟨k,rfl,.inl rfl⟩
   |false=>rw[hx]at h;exact ih h
theorem aZ' {env:Env}:∀{names:List (Str×NameKind)} {x:Str} {k:NameKind},names.lookup x=some k ->
  ∃k',(names.map fun(n,k)=>if(k == NameKind.free&&env.scope.kind == .function&&env.kindOf n == some .cell)then(n,NameKind.cell)else(n,k)).lookup x=some k'/\(k'=k\/(k=.free/\k'=.cell))
 | [],_,_,h=>by simp at h
 |(n,k0) :: r,x,k,h=>by
  have ih:=@aZ' env r x k
  rw[aJ]
  by_cases hc:(k0 == NameKind.free&&env.scope.kind == .function&&env.kindOf n == some .cell)=true
  .have e1:(match ((n,k0):Str×NameKind)with|(n,k)=>if(k == NameKind.free&&env.scope.kind == .function&&env.kindOf n == some .cell)=true then(n,NameKind.cell)else(n,k))=(n,NameKind.cell):=if_pos hc
   rw[e1,bG]
   rw[bG]at h
   cases hx:x == n with
   |true=>
    rw[hx]at h
    cases h
    refine⟨_,rfl,.inr ⟨?_,rfl⟩⟩
    simp only[af]at hc
    exact beq_iff_eq.mp hc.1.1
   |false=>rw[hx]at h;exact ih h
  .have e1:(match ((n,k0):Str×NameKind)with|(n,k)=>if(k == NameKind.free&&env.scope.kind == .function&&env.kindOf n == some .cell)=true then(n,NameKind.cell)else(n,k))=(n,k0):=if_neg hc
   rw[e1,bG]
   rw[bG]at h
   cases hx:x == n with
   |true=>rw[hx]at h;cases h;exact⟨_,rfl,.inl rfl⟩
   |false=>rw[hx]at h;exact ih h
section
variable {M:Model} {A:Around} {E:Value->Shared->Prop} {s:Shared}
abbrev aR' (h:Heap) (names:List (Str×NameKind)):Heap:=pushCells (h.push { cls:=.type "dict",data:=.dict #[] }) names
theorem c0' {scope:Scope} {globals:Addr} {cl:List (Str×Addr)} {qual:Str} {env:Env} {Q:Env->Shared->Prop}
  (h:Q (newEnv scope s.heap.objs.size globals (cellsFrom (s.heap.objs.size+1) scope.names cl) qual none .none (some env) builtinsNs) { s with heap:=aR' s.heap scope.names }):
  wpAny M A (newFunctionEnv scope globals cl [] qual none .none (some env)) Q E s:=by
 simp only[newFunctionEnv,Option.isSome_some,if_true]
 refine ab (wpAny_alloc ?_)
 refine ab (wpAny_layCells _ (fun name kind cells=>by cases hkc:kind == NameKind.cell<;>simp[hkc]) _ _ _ _ ?_)
 rw[show({ s with heap:=s.heap.push { cls:=.type "dict",data:=.dict #[] } }:Shared).heap.objs.size=s.heap.objs.size+1 from bu ..]
 exact ab (ag (ag h))
end
def Cx.comp (X:Cx) (scope:Scope) (s₀:Shared) (H₀:Hp) (ex:List Addr):Cx:=
 { X with
  s₀:=s₀,H₀:=H₀
  env:={ newEnv scope s₀.heap.objs.size X.env.globals (cellsFrom (s₀.heap.objs.size+1) scope.names (bN' X.env.cells scope.names [])) X.env.qual none .none (some X.env) builtinsNs with scope:=relabel scope X.env }
  outer:=X.stack,ex:=ex,fn:=fun x=>((cellsFrom (s₀.heap.objs.size+1) scope.names []).lookup x).isSome,pn:=[],xe:=fun _ _=>False }
structure CompSc (X:Cx) (scope:Scope):Prop where
 kind:scope.kind=.function
 names:∀x∈scope.names,x.2=.local->scope.names.lookup x.1=some .local
 one:∀n,(n,NameKind.cell)∈scope.names->scope.names.lookup n=some .cell
 free:∀n,(n,NameKind.free)∈scope.names->X.env.kindOf n=some .cell\/X.env.kindOf n=some .free
set_option tactic.hygienic true in
theorem bQ':∀{names:List (Str×NameKind)} {n:Nat} {x:Str} {c:Addr},(x,c)∈cellsFrom n names []->(x,NameKind.cell)∈names
 | [],_,_,_,h=>by simp[cellsFrom]at h
 |(y,k) :: r,n,x,c,h=>by
  unfold cellsFrom at h
  split at h
  .rename_i hk
   have hk':k=.cell:=by simpa using hk
   subst hk'
   rw[aM']at h
   rcases am.mp h with h|h
   .exact aq _ (bQ' h)
   .have h':(x,c)=(y,n):=by simpa using h
    cases h'
    exact aw
  .exact aq _ (bQ' h)
def clr (own:List Nat) (σ:St):St:=own.foldl (fun σ i=>σ.set i none) σ
theorem d4':∀(own:List Nat) (σ:St),(clr own σ).length=σ.length
 | [],_=>rfl
 |i :: r,σ=>by
  show(clr r (σ.set i none)).length=_
  rw[d4' r,List.length_set]
theorem d5':∀{own:List Nat} {σ:St} {i:Nat} {v:V},(clr own σ)[i]?=some (some v)->σ[i]?=some (some v)/\i∉own
 | [],_,_,_,h=>⟨h,by simp⟩
 |j :: r,σ,i,v,h=>by
  obtain⟨h1,h2⟩:=d5' (own:=r) (σ:=σ.set j none) h
  by_cases e:j=i
  .subst e
   rw[List.getElem?_set]at h1
   simp at h1
  .rw[ck e]at h1
   exact⟨h1,by simp;exact⟨fun z=>e z.symm,h2⟩⟩
theorem gL':∀{own:List Nat} {σ:St} {i:Nat},i∉own->(clr own σ)[i]?=σ[i]?
 | [],_,_,_=>rfl
 |j :: r,σ,i,h=>by
  have h1:i≠j:=fun z=>h (by simp[z])
  have h2:i∉r:=fun z=>h (by simp[z])
  show(clr r (σ.set j none))[i]?=_
  rw[gL' h2,ck (Ne.symm h1)]
section
variable {X:Cx} {p_:List (Addr×Obj)} {σ:St} {H H':Hp} {s s':Shared} {scope:Scope} {ex:List Addr} {own:List Nat}
theorem i2' (I:Inv X p_ σ H s) (S:CompSc X scope):
  (∀x c,(bN' X.env.cells scope.names []).lookup x=some c->X.env.cells.lookup x=some c)/\
  (∀x,(x,NameKind.free)∈scope.names->∃c,(bN' X.env.cells scope.names []).lookup x=some c)/\
  CellsOk (aR' s.heap scope.names) (s.heap.objs.size+1) (cellsFrom (s.heap.objs.size+1) scope.names []):=by
 have hc:∀x c,(x,c)∈bN' X.env.cells scope.names []->X.env.cells.lookup x=some c:=fun x c h=>by
  rcases d2' h with z|⟨z,e⟩
  .simp at z
  .obtain⟨c',e'⟩:=I.ok.has x (S.free x z)
   rw[e',Option.getD_some]at e
   rw[e',e]
 refine⟨fun x c h=>hc x c (PySem.mem_of_lookup h),fun x h=>?_,?_⟩
 .obtain⟨c,q⟩:=d3' (cells:=X.env.cells) (acc:=[]) (.inl h)
  exact bx' q
 .have q:=cellsFrom_ok scope.names (s.heap.push { cls:=.type "dict",data:=.dict #[] }) (s.heap.objs.size+1) [] ⟨fun _ _ hm=>(nomatch hm),List.Pairwise.nil⟩ (by rw[bu];exact ah _)
  rw[bu]at q
  exact q
theorem eP' (I:Inv X p_ σ H s) (hex:∀b∈ex,cH' X p_ H b) (hlt:∀b∈ex,b<s.heap.objs.size) (S:CompSc X scope)
  (hown:∀i x,X.N[i]?=some x->(scope.names.lookup x=some .local\/scope.names.lookup x=some .cell)->i∈own):
  Inv (X.comp scope s H ex) [] (clr own σ) H { s with heap:=aR' s.heap scope.names }:=by
 obtain⟨hcl,hcf,ok⟩:=i2' I S
 have lk:∀x c,(X.comp scope s H ex).env.cells.lookup x=some c->(cellsFrom (s.heap.objs.size+1) scope.names []).lookup x=some c\/((cellsFrom (s.heap.objs.size+1) scope.names []).lookup x=none/\X.env.cells.lookup x=some c):=fun x c h=>by
  have h':(cellsFrom (s.heap.objs.size+1) scope.names (bN' X.env.cells scope.names [])).lookup x=some c:=h
  rw[aM',List.lookup_append]at h'
  cases q:(cellsFrom (s.heap.objs.size+1) scope.names []).lookup x with
  |some d=>rw[q]at h';exact .inl h'
  |none=>rw[q]at h';exact .inr ⟨rfl,hcl x c h'⟩
 have newC:∀x c,(cellsFrom (s.heap.objs.size+1) scope.names []).lookup x=some c->(aR' s.heap scope.names).IsCell c none/\s.heap.objs.size+1<=c:=fun x c h=>ok.empty x c (PySem.mem_of_lookup h)
 have oldC:∀x c,X.env.cells.lookup x=some c->c<s.heap.objs.size:=fun x c h=>let⟨_,q⟩:=I.cell x c h;q.lt
 have keep:∀b o,s.heap.get? b=some o->(aR' s.heap scope.names).get? b=some o:=fun b o e=>pushCells_keeps _ _ b o (ac _ e)
 have fresh:∀b,s.heap.objs.size<=b->H b=none:=fun b hb=>I.hok.fresh hb
 have loc0:(X.comp scope s H ex).env.locals=s.heap.objs.size:=rfl
 refine⟨⟨I.ok.mod,S.kind,I.ok.glob,?_,ah _,fun x y c h1 h2=>?_,fun x hx=>?_,fun x c hf h=>?_,I.ok.hd,I.ok.frames,.inl rfl,fun b hb=>?_,I.bs,aS I.ok.bsz I.sz,fun b o e hb=>?_,fun b hb=>?_,I.stack,I.stkFree⟩,
  rfl,I.bare,Un.kept keep,⟨fun _=>none,?_,fun i x v h1 h2 h3=>?_⟩,fun x c h=>?_,fresh _ (ah _),fun x c h=>?_,fun p hp=>absurd (show p∈([]:List (Addr×Obj)) from hp) (by simp),I.hok.kept keep,?_⟩
 .show X.env.builtins=_
  exact I.ok.blt
 .rcases lk x c h1 with q1|⟨_,q1⟩<;>rcases lk y c h2 with q2|⟨_,q2⟩
  .exact name_of_addr ok.apart (PySem.mem_of_lookup q1) (PySem.mem_of_lookup q2)
  .exact absurd (ao (oldC y c q2) (aS (Nat.le_succ _) (newC x c q1).2)) (bc _)
  .exact absurd (ao (oldC x c q1) (aS (Nat.le_succ _) (newC y c q2).2)) (bc _)
  .exact I.ok.inj x y c q1 q2
 .have hx':(relabel scope X.env).names.lookup x=some .cell\/(relabel scope X.env).names.lookup x=some .free:=hx
  have fin:∀k,scope.names.lookup x=some k->(k=.cell\/k=.free)->∃c,(cellsFrom (s.heap.objs.size+1) scope.names (bN' X.env.cells scope.names [])).lookup x=some c:=fun k hk hkk=>by
   rw[aM',List.lookup_append]
   rcases hkk with rfl|rfl
   .obtain⟨c,q⟩:=fb' (n:=s.heap.objs.size+1) hk
    exact⟨c,by rw[q];rfl⟩
   .obtain⟨c,q⟩:=hcf x (PySem.mem_of_lookup hk)
    cases z:(cellsFrom (s.heap.objs.size+1) scope.names []).lookup x with
    |some d=>exact⟨d,rfl⟩
    |none=>exact⟨c,by rw[q];rfl⟩
  rcases hx' with hx'|hx'<;>obtain⟨k,hk,e⟩:=bH' hx'
  .rcases e with e|⟨e,_⟩
   .exact fin k hk (.inl e.symm)
   .exact fin k hk (.inr e)
  .rcases e with e|⟨e,_⟩
   .exact fin k hk (.inr e.symm)
   .exact fin k hk (.inr e)
 .rcases lk x c h with q|⟨q,_⟩
  .have:=(newC x c q).2
   show s.heap.objs.size<=c
   omega
  .have hf':((cellsFrom (s.heap.objs.size+1) scope.names []).lookup x).isSome=true:=hf
   rw[q]at hf'
   cases hf'
 .refine⟨?_,fun x c h=>?_⟩
  .show b≠s.heap.objs.size
   exact aH (hlt b hb)
  .rcases lk x c h with q|⟨_,q⟩
   .intro e
    rw[e]at q
    exact absurd (ao (hlt b hb) (aS (Nat.le_succ _) (newC x b q).2)) (bc _)
   .exact(hex b hb).2.2.2.2.1 x c q
 .rcases(hex b hb).2.2.2.1 with z|z
  .exact I.ok.noex b o e z
  .exact absurd (ao (ax e) (aS I.ok.bsz z)) (bc _)
 .intro z
  rcases au.mp (I.stkSub b z)with e|e
  .exact(hex b hb).2.1 e
  .exact(hex b hb).2.2.1 e
 .show(aR' s.heap scope.names).Ns s.heap.objs.size _
  exact(Heap.Ns.new s.heap (.type "dict")).keeps (pushCells_keeps _ _)
 .obtain⟨h2,hno⟩:=d5' h2
  have h3':(relabel scope X.env).names.lookup x=some .local\/(relabel scope X.env).names.lookup x=some .cell\/(relabel scope X.env).names.lookup x=some .free:=h3
  have h3k:∃k',(relabel scope X.env).names.lookup x=some k'/\(k'=.local\/k'=.cell\/k'=.free):=by
   rcases h3' with z|z|z
   .exact⟨_,z,.inl rfl⟩
   .exact⟨_,z,.inr (.inl rfl)⟩
   .exact⟨_,z,.inr (.inr rfl)⟩
  obtain⟨k',hk',hkk⟩:=h3k
  obtain⟨k,hk,e⟩:=bH' hk'
  have hfree:k=.free:=by
   rcases e with e|⟨e,_⟩
   .subst e
    rcases hkk with z|z|z
    .subst z;exact absurd (hown i x h1 (.inl hk)) hno
    .subst z;exact absurd (hown i x h1 (.inr hk)) hno
    .exact z
   .exact e
  subst hfree
  have hm:=PySem.mem_of_lookup hk
  have hv:Vis X.env.scope x:=by
   rcases S.free x hm with z|z
   .exact .inr (.inl z)
   .exact .inr (.inr z)
  obtain⟨m,hn,hl⟩:=I.loc
  obtain⟨u,r,l⟩:=hl i x v h1 h2 hv
  refine⟨u,r,?_⟩
  have hkind:(X.comp scope s H ex).env.kindOf x=some .cell\/(X.comp scope s H ex).env.kindOf x=some .free:=by
   show(relabel scope X.env).names.lookup x=some .cell\/(relabel scope X.env).names.lookup x=some .free
   rcases e with e|⟨_,e⟩
   .subst e;exact .inr hk'
   .subst e;exact .inl hk'
  have hcc:∃c,X.env.cells.lookup x=some c/\s.heap.IsCell c (some u):=by
   rcases l with⟨kk,_⟩|⟨_,c,e1,e2⟩
   .rcases S.free x hm with z|z
    .rw[z]at kk;cases kk
    .rw[z]at kk;cases kk
   .exact⟨c,e1,e2⟩
  obtain⟨c,e1,e2⟩:=hcc
  refine .inr ⟨hkind,c,?_,e2.keeps keep⟩
  show(cellsFrom (s.heap.objs.size+1) scope.names (bN' X.env.cells scope.names [])).lookup x=some c
  rw[aM',List.lookup_append]
  have hnone:(cellsFrom (s.heap.objs.size+1) scope.names []).lookup x=none:=by
   cases z:(cellsFrom (s.heap.objs.size+1) scope.names []).lookup x with
   |none=>rfl
   |some d=>
    exfalso
    have q1:=S.one x (bQ' (PySem.mem_of_lookup z))
    rw[hk]at q1
    cases q1
  obtain⟨c',q⟩:=hcf x hm
  have q':=hcl x c' q
  rw[e1]at q'
  cases q'
  rw[hnone,q]
  rfl
 .rcases lk x c h with q|⟨_,q⟩
  .exact⟨_,(newC x c q).1⟩
  .obtain⟨v,z⟩:=I.cell x c q
   exact⟨v,z.keeps keep⟩
 .rcases lk x c h with q|⟨_,q⟩
  .have:=(newC x c q).2
   exact fresh c ⋯
  .exact I.freeC x c q
 .rw[d4']
  exact I.len
end
section
variable {X:Cx} {p_:List (Addr×Obj)} {σ:St} {H H':Hp} {s s':Shared} {scope:Scope} {ex:List Addr} {own:List Nat}
theorem p4' {P:Program} {w:World} {h h':Heap} {a:Addr} (x:HOk P w H h) (hn:H a=none) (hs:∀b o,b≠a->h.get? b=some o->h'.get? b=some o):HOk P w H h':=fun b ob e=>
 (x b ob e).stay (fun c w' hc q=>hs c w' (by
  rintro rfl
  rcases hc with rfl|hc
  .rw[hn]at e;cases e
  .rw[hn]at hc;cases hc) q) (fun _ q=>q) fun _ _ q=>q
theorem dI' {σ':St} {p_':List (Addr×Obj)} {h':Heap} (I:Inv X p_ σ H s) (hex:∀b∈ex,cH' X p_ H b) (J:Inv (X.comp scope s H ex) p_' σ' H' s') (hs:bU s.heap.objs.size s'.heap h'):
  Inv X p_ σ H' { s' with heap:=h' }:=by
 have ne:∀b o,s.heap.get? b=some o->b≠s.heap.objs.size:=fun b o e=>aH (ax e)
 have u:Un (frs X.stack) ex H H' s.heap s'.heap:=J.base
 have hf:H' s.heap.objs.size=none:=J.free
 refine I.call' (s':={ s' with heap:=h' }) (ch:=ex) J.os ⟨fun b o e n hb hx=>?_,fun b o e n hb hx=>?_,u.free,fun b o e hx=>?_,u.tups,u.frzs,u.tbls⟩ (p4' J.hok hf fun b o hb e=>(hs.2 b hb).trans e) J.bare fun b hb=>?_
 .exact(hs.2 b (ne b o e)).trans (u.keep b o e n hb hx)
 .obtain⟨sl,q⟩:=u.slot b o e n hb hx
  exact⟨sl,(hs.2 b (ne b o e)).trans q⟩
 .obtain⟨o',q⟩:=u.there b o e hx
  exact⟨o',(hs.2 b (ne b o e)).trans q⟩
 .obtain⟨f0,f1,f2,f3,f4,f5⟩:=hex b hb
  exact⟨f3,f1,f4,f5⟩
end
def PTs (X:Cx) (ifs:List Expr) (t:TT):Prop:=∀(p_:List (Addr×Obj)) (s:Shared) (σ:St) (H:Hp) (Q:Bool->Hp->Prop),Inv X p_ σ H s->t σ H Q->
 wpAny (model X.prog X.w) X.A (forIn ifs true fun c r=>if r=true then do let ok <- isTrue c X.env (eval c X.env);pure (ForInStep.yield ok)else pure (ForInStep.yield r)) (TP X p_ σ Q) X.xe s
theorem p5' {X:Cx}:PTs X [] (fun _ H Q=>Q true H):=fun p_ s σ H Q I h=>wpAny_tests_nil ⟨H,I,h⟩
theorem p6' {X:Cx} {c:Expr} {t:TT} (hc:PT X c t):PTs X [c] t:=fun p_ s σ H Q I h=>wpAny_tests_one (hc p_ s σ H Q I h)
def Ext (ws:List Nat) (σ σ':St):Prop:=σ'.length=σ.length/\∀j,j∉ws->σ'[j]?=σ[j]?
theorem Ext.refl {ws:List Nat} {σ:St}:Ext ws σ σ:=⟨rfl,fun _ _=>rfl⟩
theorem Ext.trans {ws:List Nat} {σ σ1 σ2:St} (a:Ext ws σ σ1) (b:Ext ws σ1 σ2):Ext ws σ σ2:=⟨b.1.trans a.1,fun j hj=>(b.2 j hj).trans (a.2 j hj)⟩
theorem Ext.mono {ws ws':List Nat} {σ σ1:St} (a:Ext ws σ σ1) (h:∀j∈ws,j∈ws'):Ext ws' σ σ1:=⟨a.1,fun j hj=>a.2 j fun z=>hj (h j z)⟩
theorem Ext.clr {ws:List Nat} {σ:St}:Ext ws σ (clr ws σ):=⟨d4' _ _,fun j hj=>gL' hj⟩
theorem Ext.back {ws:List Nat} {σ σ':St} (a:Ext ws (L2.clr ws σ) σ') (i:Nat) (v:V) (h:(L2.clr ws σ)[i]?=some (some v)):σ'[i]?=some (some v):=by
 obtain⟨_,q⟩:=d5' h
 rw[a.2 i q]
 exact h
def sC' (ws:List Nat) (g:TG):Prop:=∀(x:V) (σ:St) (H:Hp) (Q:St->Hp->Prop),g x σ H Q->g x σ H fun σ2 H2=>Q σ2 H2/\Ext ws σ σ2
theorem j0' {i:Nat} {ws:List Nat} (h:i∈ws):sC' ws (cY' i):=fun x σ H Q q=>⟨q,by simp,fun j hj=>by
 have:i≠j:=fun z=>hj (z ▸ h)
 rw[ck this]⟩
def bj' (e:Expr) (d:Nat) (tg iter:Expr) (ifs:List Expr) (nx:Sem Unit) (it acc:Value) (env:Env):Sem Fin:=do
 standAt iter.pos
 match <- pyNext it with
 |none=>pure (.done .next)
 |some v=>
  letOwnedTupleGo tg it v
  assign tg env v
  let mut ok:=true
  for c in ifs do
   if ok then ok <- isTrue c env (eval c env)
  if ok then nx
  again (.compLoop e d it acc env)
abbrev TL (α:Type):=St->α->Hp->(α->Hp->Prop)->Prop
def bR' {α:Type} (X:Cx) (D:Addr) (Is:α->Obj->Prop) (ws:List Nat) (code:Sem Unit) (t:TL α):Prop:=
 ∀(p_:List (Addr×Obj)) (s:Shared) (σ:St) (H:Hp) (a:α) (o:Obj) (N:α->Hp->Prop),Inv X p_ σ H s->cH' X p_ H D->s.heap.get? D=some o->Is a o->t σ a H N->
  wpAny (model X.prog X.w) X.A code (fun _ s'=>∃σ' a' o' H',Inv X p_ σ' H' s'/\Ext ws σ σ'/\s'.heap.get? D=some o'/\Is a' o'/\H' D=none/\N a' H') (fun _ _=>False) s
def aP' {α:Type} (ws:List Nat) (g:TG) (tc:TT) (ay':TL α) (J:It):TL α:=fun σ a H1 N=>
 ∃W:Nat->Nat->α->Hp->Prop,(∃m,W 0 m a H1)/\∀i m b H,W i m b H->
  (J.stop i H/\N b H)\/(J.go i H/\∀x H',J.yld i H x H'->g x (clr ws σ) H' fun σ2 H2=>tc σ2 H2 fun ok H3=>
   if ok=true then ay' σ2 b H3 (fun c H4=>∃m',m'<m/\W (i+1) m' c H4)else ∃m',m'<m/\W (i+1) m' b H3)
theorem d6' {α:Type} {Is:α->Obj->Prop} {X:Cx} {e:Expr} {d:Nat} {tg iter:Expr} {ifs:List Expr} {nx:Sem Unit} {it D:Addr} {fp:List Addr} {tn:Nat->Heap->Prop} {J:It} {g:TG} {tc:TT} {ay':TL α} {ws ws':List Nat}
  (hxe:X.xe=fun _ _=>False) (hcalm:X.calm=true)
  (hq:(Code.compLoop e d (.ref it) (.ref D) X.env).quiet=true) (hu:X.A.under (Code.compLoop e d (.ref it) (.ref D) X.env)=X.A)
  (hT:(model X.prog X.w).den (.compLoop e d (.ref it) (.ref D) X.env)=(bj' e d tg iter ifs nx (.ref it) (.ref D) X.env).onRaise (fun x=>do noteFrame x X.env;theTreesLotGoes x))
  (T:Turn X.prog X.w X.K tg J fp it tn) (hg:PG X tg g) (hge:sC' ws g) (ht:PTs X ifs tc) (hn:bR' X D Is ws' nx ay') (hws:∀j∈ws',j∈ws) (hIs:∀a o,Is a o->∀v,o.data≠.cell v) (hDf:D∉fp)
  {p_:List (Addr×Obj)} {s:Shared} {σ:St} {H:Hp} {a:α} {o:Obj} {N:α->Hp->Prop} (I:Inv X p_ σ H s) (hf:∀b∈fp,cH' X p_ H b) (hD:cH' X p_ H D) (ho:s.heap.get? D=some o) (ha:Is a o) (h0:tn 0 s.heap)
  (hw:aP' ws g tc ay' J σ a H N):
  codeAny (model X.prog X.w) X.A (.compLoop e d (.ref it) (.ref D) X.env) (fun r s'=>r=.ok .next/\∃a' o' H',Inv X p_ (clr ws σ) H' s'/\s'.heap.get? D=some o'/\Is a' o'/\H' D=none/\N a' H') s:=by
 obtain⟨W,⟨m0,w0⟩,turn⟩:=hw
 have stat:∀{H':Hp} {pl:List (Addr×Obj)},(∀b∈D :: fp,H' b=none)->(∀b∈D :: fp,cH' X p_ H' b):=fun {H' pl} hn b hb=>by
  rcases au.mp hb with rfl|hb'
  .exact⟨hn _ aw,hD.2⟩
  .exact⟨hn b hb,(hf b hb').2⟩
 refine codeAny_loop hq (fun n s'=>∃i b ob H',Inv X p_ (clr ws σ) H' s'/\tn i s'.heap/\(∀b∈D :: fp,H' b=none)/\s'.heap.get? D=some ob/\Is b ob/\W i n b H') ?_ m0
  ⟨0,a,o,H,I.weak (d4' _ _) (fun i v q=>(d5' q).1),h0,fun b hb=>by
   rcases au.mp hb with rfl|hb'
   .exact hD.1
   .exact(hf b hb').1,ho,ha,w0⟩
 rintro n s3 ⟨i,b,ob,H3,I3,st3,fr3,o3,is3,w3⟩
 rw[hu,hT]
 refine wpAny_noted ?_
 have hE:∀{β:Type} {c:Sem β} {Q:β->Shared->Prop} {s:Shared} {E:Value->Shared->Prop},wpAny (model X.prog X.w) X.A c Q (fun _ _=>False) s->wpAny (model X.prog X.w) X.A c Q E s:=fun h=>di h (fun _ _ q=>q) fun _ _ q=>q.elim
 refine hE ?_
 unfold bj'
 refine ab (bO (ab ?_))
 have hxeE:∀{β:Type} {c:Sem β} {Q:β->Shared->Prop} {s:Shared},wpAny (model X.prog X.w) X.A c Q X.xe s->wpAny (model X.prog X.w) X.A c Q (fun _ _=>False) s:=fun h=>by rw[hxe]at h;exact h
 have pD:Inv X (p_++bm' [D] s3.heap) (clr ws σ) H3 s3:=I3.pinned (fun b hb=>by
  have e:b=D:=by simpa using hb
  subst e
  exact stat (pl:=[]) fr3 b aw) (fun b hb=>by
  have e:b=D:=by simpa using hb
  subst e
  exact⟨ob,o3,hIs _ _ is3⟩)
 have mD:(D,ob)∈bm' [D] s3.heap:=aD' (by simp) o3
 have fpD:∀{H':Hp},(∀b∈fp,H' b=none)->∀b∈fp,cH' X (p_++bm' [D] s3.heap) H' b:=fun {H'} hn b hb=>by
  obtain⟨_,f1,f2,f3,f4,f5⟩:=hf b hb
  refine⟨hn b hb,f1,f2,f3,f4,fun p hp=>?_⟩
  rcases am.mp hp with q|q
  .exact f5 p (aE _ q)
  .rcases am.mp q with q|q
   .exact f5 p (ai _ q)
   .have e:p.1=D:=by simpa using(dY' q).1
    rw[e]
    rintro rfl
    exact hDf hb
 have fr3':∀b∈fp,H3 b=none:=fun b hb=>fr3 b (aq _ hb)
 rcases turn i n b H3 w3 with⟨stop,qn⟩|⟨go,step⟩
 .refine thn (T.done X rfl rfl rfl hcalm i _ s3 _ H3 _ pD (fpD fr3') st3 stop) fun r s4 ⟨hr,I4⟩=>?_
  subst hr
  have q4:=I4.pin (D,ob) (ai _ (ai _ mD))
  exact ag ⟨rfl,b,ob,H3,I4.unpinned,q4.1,is3,q4.2.1,qn⟩
 .refine thn (T.item X rfl rfl rfl hcalm i _ s3 _ H3 _ pD (fpD fr3') st3 go) fun r s4 ⟨u,hr,h4⟩=>?_
  subst hr
  refine ab (thn h4 fun _ s5 ⟨x,H5,I5,r5,y5,st5,fr5⟩=>?_)
  have I5':=I5.pinned (fpD fr5) (T.obj _ _ st5)
  refine ab (thn (hxeE (hg _ s5 _ H5 x u _ I5' r5 (hge x _ H5 _ (step x H5 y5)))) fun _ s6 ⟨σ6,H6,I6,q6,x6⟩=>?_)
  refine ab (thn (hxeE (ht _ s6 σ6 H6 _ I6 q6)) fun ok s7 ⟨H7,I7,q7⟩=>?_)
  have q7D:=I7.pin (D,ob) (ai _ (aE _ (ai _ mD)))
  have q7f:∀b∈fp,∀o,s5.heap.get? b=some o->s7.heap.get? b=some o/\H7 b=none:=fun b hb o e =>
   let q:=I7.pin (b,o) (ai _ (ai _ (aD' hb e)))
   ⟨q.1,q.2.1⟩
  have st7:tn (i+1) s7.heap:=T.keep _ _ _ st5 fun b hb o e=>(q7f b hb o e).1
  have fr7:∀b∈fp,H7 b=none:=fun b hb=>by
   obtain⟨o,e,_⟩:=T.obj _ _ st5 b hb
   exact(q7f b hb o e).2
  have I7':Inv X p_ σ6 H7 s7:=I7.unpinned.unpinned
  cases ok with
  |false=>
   have q7':∃m',m'<n/\W (i+1) m' b H7:=q7
   obtain⟨m',hm,w7⟩:=q7'
   refine ag ⟨rfl,m',hm,i+1,b,ob,H7,I7'.weak ?_ x6.back,st7,fun c hc=>?_,q7D.1,is3,w7⟩
   .rw[x6.1]
   .rcases au.mp hc with rfl|hc'
    .exact q7D.2.1
    .exact fr7 c hc'
  |true=>
   have I7p:=I7'.pinned (fun b hb=>stat (pl:=[]) (fun c hc=>by
    rcases au.mp hc with rfl|hc'
    .exact q7D.2.1
    .exact fr7 c hc') b (aq _ hb)) (T.obj _ _ st7)
   have fD:cH' X (p_++bm' fp s7.heap) H7 D:=by
    obtain⟨_,f1,f2,f3,f4,f5⟩:=hD
    refine⟨q7D.2.1,f1,f2,f3,f4,fun p hp=>?_⟩
    rcases am.mp hp with q|q
    .exact f5 p (aE _ q)
    .rcases am.mp q with q|q
     .exact f5 p (ai _ q)
     .intro z
      exact hDf (z ▸ (dY' q).1)
   refine ab (thn (hn _ s7 σ6 H7 b ob _ I7p fD q7D.1 is3 q7) fun _ s8 ⟨σ8,b8,o8,H8,I8,x8,e8,is8,n8,m',hm,w8⟩=>?_)
   have q8f:∀b∈fp,∀o,s7.heap.get? b=some o->s8.heap.get? b=some o/\H8 b=none:=fun b hb o e =>
    let q:=I8.pin (b,o) (ai _ (ai _ (aD' hb e)))
    ⟨q.1,q.2.1⟩
   have x8':Ext ws (clr ws σ) σ8:=x6.trans (x8.mono hws)
   refine ag ⟨rfl,m',hm,i+1,b8,o8,H8,I8.unpinned.weak (by rw[x8'.1]) x8'.back,T.keep _ _ _ st7 fun b hb o e=>(q8f b hb o e).1,fun c hc=>?_,e8,is8,w8⟩
   rcases au.mp hc with rfl|hc'
   .exact n8
   .obtain⟨o,e,_⟩:=T.obj _ _ st7 c hc'
    exact(q8f c hc' o e).2
def IsL (xs:List V) (o:Obj):Prop:=xs.length<=sizeLine/\∃(its:List Value) (n:Nat),aE' xs its/\o={ cls:=.type "list",data:=.seq its.toArray n }
theorem fg' (xs:List V) (o:Obj) (h:IsL xs o) (v:Option Value):o.data≠.cell v:=by
 obtain⟨_,its,n,_,rfl⟩:=h
 intro z
 cases z
def eE' (te:TE):TL (List V):=fun σ xs H N=>te σ H fun v H'=>xs.length<sizeLine/\N (xs++[v]) H'
theorem hG' {X:Cx} {D:Addr} {elt:Expr} {te:TE} (hxe:X.xe=fun _ _=>False) (he:PE X elt te):bR' X D IsL [] (do let _ <- call (.builtin "list.append") [.ref D,<- eval elt X.env]) (eE' te):=by
 intro p_ s σ H xs o N I hD ho hi hq
 have I1:Inv X (p_++bm' [D] s.heap) σ H s:=I.pinned (fun b hb=>by
  have e:b=D:=by simpa using hb
  subst e
  exact hD) (fun b hb=>by
  have e:b=D:=by simpa using hb
  subst e
  exact⟨o,ho,fg' _ _ hi⟩)
 have h1:=he _ s σ H _ I1 hq
 rw[hxe]at h1
 refine ab (thn h1 fun u s1 ⟨v,H1,J1,r1,z1,n1⟩=>?_)
 have q1:=J1.pin (D,o) (ai _ (ai _ (aD' (by simp) ho)))
 obtain⟨zx,its,n,rv,rfl⟩:=hi
 have hl:=rv.length
 refine ab (wpAny_list_append_plain (items:=its.toArray) ⟨n,q1.1⟩ (fun h' hp hs=>?_) (by rw[ak,<- hl];exact zx))
 obtain⟨_,f1,f2,f3,f4,f5⟩:=hD
 have J2:Inv X p_ σ H1 { s1 with heap:=h' }:=J1.unpinned.turned (it:=D) (t':=s1.toks) (fun b o hb e=>(hs.2 b hb).trans e) q1.2.1 f1 f3 f4 f5
 obtain⟨n',hp⟩:=hp
 refine ag ⟨σ,xs++[v],_,H1,J2,Ext.refl,hp,⟨?_,its++[u],n',rv.append (.cons r1 .nil),?_⟩,q1.2.1,n1⟩
 .rw[aj];exact z1
 .simp
def by' (e:Expr) (d:Nat) (iter:Expr) (acc:Value) (env:Env):Sem Unit:=do
 let x <- eval iter env
 standAt iter.pos
 let x <- foldedSetIterable iter env x
 let _ <- runOwn (.compStart e (d+1) (<- holding [x] (pyIter x)) acc env) env
theorem fh' {M:Model} {A:Around} {e:Expr} {d:Nat} {it acc:Value} {env:Env} {R:Result->Shared->Prop} {s:Shared}
  (hq:(Code.compStart e d it acc env).quiet=true) (hu:A.under (Code.compStart e d it acc env)=A) (hql:∀it',(Code.compLoop e d it' acc env).quiet=true)
  (hden:M.den (.compStart e d it acc env)=(compStart e d it acc env).onRaise (fun x=>do noteFrame x env;standAt theWindowsPlace)) (hg:∃g,(clausesOf e)[d]?=some g/\g.is_async=0)
  (h0:codeAny M A (.compLoop e d it acc env) R s) (h1:∀E,wpAny M A (pyIter it) (fun it' s'=>it'=it/\s'=s) E s):codeAny M A (.compStart e d it acc env) R s:=by
 refine codeAny_of_tree ?_
 rw[hu,hden]
 refine wpAny_notedAt ?_
 obtain⟨g,eg,ea⟩:=hg
 unfold compStart
 rw[eg]
 have e1:((some g:Option Comprehension).elim false (fun x=>x.is_async != 0))=false:=by
  show(g.is_async != 0)=false
  rw[ea];rfl
 rw[e1]
 show wpAny _ _ (ask >>= _) _ _ s
 refine ab (wpAny_askSetting (wpAny_ite ?_))
 have fin:wpAny M A (again (.compLoop e d it acc env)) (fun fin s'=>match fin with | .done f=>R (.ok f) s' | .again c=>c.quiet=true/\codeAny M A c R s') (notedBy M A env fun x s'=>R (.error x) s') s:=ag ⟨hql it,h0⟩
 split
 .first
   |exact fin
   |exact ab fin
   |exact ab (ag fin)
 .refine ab (wpAny_rule ?_)
  refine ab (bO ?_)
  refine ab (di (h1 _) (fun it' s' q=>?_) fun _ _ q=>q)
  obtain⟨rfl,rfl⟩:=q
  exact fin
theorem hH' (own:List Nat) (σ:St):clr own (clr own σ)=clr own σ:=by
 apply bZ
 intro i
 by_cases h:i∈own
 .have z:∀τ:St,(clr own τ)[i]?=none\/(clr own τ)[i]?=some none:=fun τ=>by
   cases q:(clr own τ)[i]? with
   |none=>exact .inl rfl
   |some o=>
    cases o with
    |none=>exact .inr rfl
    |some v=>exact absurd h (d5' q).2
  have hl:(clr own (clr own σ)).length=(clr own σ).length:=d4' _ _
  rcases z (clr own σ)with a|a<;>rcases z σ with b|b<;>rw[a,b]
  .have q1:=bg.mp a
   have q2:=(aB.mp b).1
   omega
  .have q1:=bg.mp b
   have q2:=(aB.mp a).1
   omega
 .rw[gL' h]
def gM' {α:Type} (wi:TI) (c:It->TL α):TL α:=fun σ a H N=>wi σ H fun J H1=>c J σ a H1 N
theorem hI' {α:Type} {Is:α->Obj->Prop} {X:Cx} {e:Expr} {d:Nat} {tg iter:Expr} {ifs:List Expr} {nx:Sem Unit} {D:Addr} {wi:TI} {g:TG} {tc:TT} {ay':TL α} {ws ws':List Nat}
  (hxe:X.xe=fun _ _=>False) (hcalm:X.calm=true)
  (hq:∀it,(Code.compLoop e (d+1) it (.ref D) X.env).quiet=true) (hu:∀it,X.A.under (Code.compLoop e (d+1) it (.ref D) X.env)=X.A)
  (hq':∀it,(Code.compStart e (d+1) it (.ref D) X.env).quiet=true) (hu':∀it,X.A.under (Code.compStart e (d+1) it (.ref D) X.env)=X.A)
  (hT:∀it,(model X.prog X.w).den (.compLoop e (d+1) it (.ref D) X.env)=(bj' e (d+1) tg iter ifs nx it (.ref D) X.env).onRaise (fun x=>do noteFrame x X.env;theTreesLotGoes x))
  (hS:∀it,(model X.prog X.w).den (.compStart e (d+1) it (.ref D) X.env)=(compStart e (d+1) it (.ref D) X.env).onRaise (fun x=>do noteFrame x X.env;standAt theWindowsPlace))
  (hcl:∃g,(clausesOf e)[d+1]?=some g/\g.is_async=0) (hfs:∀x,foldedSetIterable iter X.env x=pure x)
  (hi:PI X tg iter wi) (hg:PG X tg g) (hge:sC' ws g) (ht:PTs X ifs tc) (hn:bR' X D Is ws' nx ay') (hws:∀j∈ws',j∈ws) (hIs:∀a o,Is a o->∀v,o.data≠.cell v):
  bR' X D Is ws (by' e d iter (.ref D) X.env) (gM' wi (aP' ws g tc ay')):=by
 intro p_ s σ H a o N I hD ho ha hw
 have I1:Inv X (p_++bm' [D] s.heap) σ H s:=I.pinned (fun b hb=>by
  have e:b=D:=by simpa using hb
  subst e
  exact hD) (fun b hb=>by
  have e:b=D:=by simpa using hb
  subst e
  exact⟨o,ho,hIs _ _ ha⟩)
 have h1:=hi _ s σ H _ I1 hw
 rw[hxe]at h1
 unfold by'
 refine ab (thn h1 fun v s1 h2=>?_)
 refine ab (bO (ab (wpAny_of_eq (hfs v) ?_)))
 refine ab (aT (thn h2 fun itv s2 h3=>?_))
 obtain⟨it,fp,tn,J,H2,rfl,I2,T,st2,f2,hc⟩:=h3
 have mD:(D,o)∈bm' [D] s.heap:=aD' (by simp) ho
 have q2:=I2.pin (D,o) (ai _ (ai _ mD))
 have hDf:D∉fp:=fun z=>(f2 D z).2.2.2.2.2 (D,o) (ai _ (ai _ mD)) rfl
 have f2':∀b∈fp,cH' X p_ H2 b:=fun b hb=>by
  obtain⟨f0,f1,f2,f3,f4,f5⟩:=f2 b hb
  exact⟨f0,f1,f2,f3,f4,fun p hp=>f5 p (by
   rcases am.mp hp with z|z
   .exact aE _ z
   .exact ai _ (aE _ z))⟩
 have L:=d6' (Is:=Is) (D:=D) hxe hcalm (hq _) (hu _) (hT _) T hg hge ht hn hws hIs hDf I2.unpinned f2' ⟨q2.2.1,hD.2⟩ q2.1 ha st2 hc
 have L2:=fh' (hq' _) (hu' _) hq (hS _) hcl L (fun E=>T.self X.A 0 s2 _ E st2 ⟨rfl,rfl⟩)
 refine ab (wpAny_runOwn (codeAny_mono L2 fun r s3 h3=>?_))
 obtain⟨rfl,a',o',H',J',e',is',n',hN⟩:=h3
 exact ag ⟨_,a',o',H',J',Ext.clr,e',is',n',hN⟩
def i3' (own:List Nat) (wi:TI) (g:TG) (tc:TT) (ay':TL (List V)):TE:=fun σ H Q=>wi σ H fun J H1=>aP' own g tc ay' J σ [] H1 fun xs H2=>∀p,H2 p=none->Q (.ref p) (upd H2 p (.lst xs))
structure CompIn (X:Cx) (e:Expr) (scope:Scope) (tg:Expr) (iter:Expr) (ifs:List Expr) (nx:Addr->Env->Sem Unit) (g:TG) (tc:TT) (ay':TL (List V)) (own:List Nat):Prop where
 sc:CompSc X scope
 ow:∀i x,X.N[i]?=some x->(scope.names.lookup x=some .local\/scope.names.lookup x=some .cell)->i∈own
 cl:∃gs,clausesOf e=⟨tg,iter,ifs,0⟩ :: gs
 fs:∀x,foldedSetIterable iter X.env x=pure x
 calm:X.calm=true
 q:∀it D env,(Code.compLoop e 0 it (.ref D) env).quiet=true/\(Code.compStart e 0 it (.ref D) env).quiet=true
 u:∀A it D env,Around.under A (Code.compLoop e 0 it (.ref D) env)=A/\Around.under A (Code.compStart e 0 it (.ref D) env)=A
 T:∀P w it D env,(model P w).den (.compLoop e 0 it (.ref D) env)=(bj' e 0 tg iter ifs (nx D env) it (.ref D) env).onRaise (fun x=>do noteFrame x env;theTreesLotGoes x)
 S:∀P w it D env,(model P w).den (.compStart e 0 it (.ref D) env)=(compStart e 0 it (.ref D) env).onRaise (fun x=>do noteFrame x env;standAt theWindowsPlace)
 ge:sC' own g
 inn:∀s0 H0 ex D,PG (X.comp scope s0 H0 ex) tg g/\PTs (X.comp scope s0 H0 ex) ifs tc/\∃ws',(∀j∈ws',j∈own)/\bR' (X.comp scope s0 H0 ex) D IsL ws' (nx D (X.comp scope s0 H0 ex).env) ay'
section
variable {X:Cx} {e:Expr} {scope:Scope} {tg iter:Expr} {ifs:List Expr} {nx:Addr->Env->Sem Unit} {g:TG} {tc:TT} {ay':TL (List V)} {own:List Nat} {wi:TI}
theorem hJ' (C:CompIn X e scope tg iter ifs nx g tc ay' own) (hi:PI X tg iter wi) {p_:List (Addr×Obj)} {s:Shared} {σ:St} {H:Hp} {R:V->Hp->Prop} (I:Inv X p_ σ H s) (hw:i3' own wi g tc ay' σ H R)
  {use:Option (Value->Sem Unit)} {Q:Value->Shared->Prop} {pos:Pos}
  (fin:∀(s3 s':Shared) (H0 H':Hp) (ex:List Addr) (D:Addr) (xs:List V) (o:Obj) (σ':St),Inv X p_ σ H0 s3->(∀b∈ex,cH' X p_ H0 b)->Inv (X.comp scope s3 H0 ex) [] σ' H' s'->s'.heap.get? D=some o->D<s3.heap.objs.size->X.s₀.heap.objs.size<=D->cH' X p_ H0 D->IsL xs o->H' D=none->R (.ref D) (upd H' D (.lst xs))->
   compPost (model X.prog X.w) X.A X.xe use Q (.ref D) s3.heap.objs.size (.ok .next) s'):
  wpAny (model X.prog X.w) X.A (comprehension e scope X.env pos (newList []) false (eval iter X.env) use) Q X.xe s:=by
 obtain⟨gs,hcl⟩:=C.cl
 refine wpAny_comprehension_free hcl C.fs (jZ' fun n hn=>I.ok.has n (C.sc.free n hn)) C.sc.kind C.sc.names ?_
 refine thn (hi p_ s σ H _ I hw) fun v s1 h1=>thn h1 fun itv s2 h2=>?_
 obtain⟨it,fp,tn,J,H2,rfl,I2,T,st2,f2,hc⟩:=h2
 refine bH (c0' ?_)
 have keep:∀b o,s2.heap.get? b=some o->(s2.heap.push { cls:=.type "list",dict:=none,data:=.seq ([]:List Value).toArray }).get? b=some o:=fun b o e=>ac _ e
 have I3:Inv X p_ σ H2 { s2 with heap:=s2.heap.push { cls:=.type "list",dict:=none,data:=.seq ([]:List Value).toArray } }:=I2.kept (t':=s2.toks) keep
 have hsz:(s2.heap.push { cls:=.type "list",dict:=none,data:=.seq ([]:List Value).toArray }).objs.size=s2.heap.objs.size+1:=bu ..
 have fD:cH' X p_ H2 s2.heap.objs.size:=I2.fpOk (ah _) (I2.hok.fresh (ah _))
 have hlt:∀b∈fp,b<s2.heap.objs.size:=fun b hb=>by
  obtain⟨o,e,_⟩:=T.obj _ _ st2 b hb
  exact ax e
 have hDf:s2.heap.objs.size∉fp:=fun z=>bc _ (hlt _ z)
 have hex:∀b∈s2.heap.objs.size :: fp,cH' X p_ H2 b:=fun b hb=>by
  rcases au.mp hb with rfl|hb
  .exact fD
  .exact f2 b hb
 generalize hs3:({ s2 with heap:=s2.heap.push { cls:=.type "list",dict:=none,data:=.seq ([]:List Value).toArray } }:Shared)=s3 at *
 have hs3s:s3.heap.objs.size=s2.heap.objs.size+1:=by rw[<- hs3];exact hsz
 have hlt3:∀b∈s2.heap.objs.size :: fp,b<s3.heap.objs.size:=fun b hb=>by
  rw[hs3s]
  rcases au.mp hb with rfl|hb
  .exact de _
  .exact cV (hlt b hb)
 have J0:=eP' (own:=own) I3 hex hlt3 C.sc C.ow
 obtain⟨c1,c2,ws',c4,c5⟩:=C.inn s3 H2 (s2.heap.objs.size :: fp) s2.heap.objs.size
 have kp:∀b o,s2.heap.get? b=some o->(aR' s3.heap scope.names).get? b=some o:=fun b o e=>pushCells_keeps _ _ b o (ac _ (by rw[<- hs3];exact keep b o e))
 have oD:(aR' s3.heap scope.names).get? s2.heap.objs.size=some { cls:=.type "list",dict:=none,data:=.seq ([]:List Value).toArray }:=pushCells_keeps _ _ _ _ (ac _ (by rw[<- hs3];exact aC _ rfl))
 have stat:∀b∈s2.heap.objs.size :: fp,cH' (X.comp scope s3 H2 (s2.heap.objs.size :: fp)) [] H2 b:=fun b hb=>
  ⟨(hex b hb).1,(J0.ok.exf b hb).1,J0.ok.exfs b hb,.inl hb,(J0.ok.exf b hb).2,fun p hp=>absurd (show p∈([]:List (Addr×Obj)) from hp) (by simp)⟩
 have T':Turn (X.comp scope s3 H2 (s2.heap.objs.size :: fp)).prog (X.comp scope s3 H2 (s2.heap.objs.size :: fp)).w (X.comp scope s3 H2 (s2.heap.objs.size :: fp)).K tg J fp it tn:=T
 have hc':aP' own g tc ay' J (clr own σ) [] H2 (fun xs H2=>∀p,H2 p=none->R (.ref p) (upd H2 p (.lst xs))):=by
  obtain⟨W,w0,turn⟩:=hc
  refine⟨W,w0,?_⟩
  rw[hH']
  exact turn
 have st3:tn 0 ({ s3 with heap:=aR' s3.heap scope.names }:Shared).heap:=T.keep _ _ _ st2 fun b hb o e=>kp b o e
 have L:=d6' (X:=X.comp scope s3 H2 (s2.heap.objs.size :: fp)) (Is:=IsL) (D:=s2.heap.objs.size) rfl C.calm (C.q _ _ _).1 (C.u _ _ _ _).1 (C.T _ _ _ _ _) T' c1 C.ge c2 c5 c4 fg' hDf J0
  (fun b hb=>stat b (aq _ hb)) (stat _ aw) oD ⟨aL _,[],0,.nil,rfl⟩ st3 hc'
 have L2:=fh' (C.q _ _ _).2 (C.u _ _ _ _).2 (fun it'=>(C.q it' _ _).1) (C.S _ _ _ _ _) ⟨_,by rw[hcl];rfl,rfl⟩ L (fun E=>T.self _ 0 _ _ E st3 ⟨rfl,rfl⟩)
 refine codeAny_mono L2 fun r s' h=>?_
 obtain⟨rfl,xs,o',H',J',e',is',n',hN⟩:=h
 exact fin s3 s' H2 H' _ _ xs o' _ I3 hex J' e' (hlt3 _ aw) I2.sz fD is' n' (hN _ n')
end
section
variable {X:Cx} {p_:List (Addr×Obj)} {σ:St} {H H':Hp} {s s':Shared} {D:Addr} {o:HO}
theorem Inv.track (I:Inv X p_ σ H s) (f:cH' X p_ H D) (h0:X.s₀.heap.objs.size<=D) (new:aJ' X.prog X.w (upd H D o) s.heap D o):Inv X p_ σ (upd H D o) s:=by
 obtain⟨f0,f1,f2,f3,f4,f5⟩:=f
 have ne:∀b ob,X.s₀.heap.get? b=some ob->b≠D:=fun b ob e=>aH (ao (ax e) h0)
 have neT:∀b u,H b=some u->b≠D:=fun b u e z=>by rw[z,f0]at e;cases e
 refine⟨I.ok,I.os,I.bare,⟨I.base.keep,I.base.slot,fun b ob e n hx=>by rw[af' (ne b ob e)];exact I.base.free b ob e n hx,I.base.there,fun b xs e=>?_,fun b ob u e=>?_,fun b ps e=>?_⟩,I.loc,I.cell,?_,fun x c e=>?_,fun p hp=>?_,fun b u e=>?_,I.len⟩
 .have q:=I.base.tups b xs e
  rw[af' (neT b _ q)];exact q
 .have q:=I.base.frzs b ob u e
  rw[af' (neT b _ q)];exact q
 .obtain⟨m,q⟩:=I.base.tbls b ps e
  exact⟨m,by rw[af' (neT b _ q)];exact q⟩
 .rw[af' (Ne.symm f1)];exact I.free
 .rw[af' (f4 x c e)];exact I.freeC x c e
 .obtain⟨e,n,r⟩:=I.pin p hp
  refine⟨e,?_,r⟩
  rw[af' (f5 p hp)];exact n
 .by_cases hb:b=D
  .subst hb
   rw[ab']at e;cases e
   exact new
  .rw[af' hb]at e
   exact(I.hok b u e).stay (fun _ _ _ q=>q) (fun c q=>by rw[af' (neT c _ q)];exact q) fun c xs q=>by rw[af' (neT c _ q)];exact q
end
section
variable {X:Cx} {e:Expr} {scope:Scope} {tg iter:Expr} {ifs:List Expr} {nx:Addr->Env->Sem Unit} {g:TG} {tc:TT} {ay':TL (List V)} {own:List Nat} {wi:TI}
theorem j1' (C:CompIn X e scope tg iter ifs nx g tc ay' own) (hi:PI X tg iter wi) {pos:Pos} (he:eval e X.env=comprehension e scope X.env pos (newList []) false (eval iter X.env)):PE X e (i3' own wi g tc ay'):=by
 intro p_ s σ H Q I hw
 rw[he]
 refine hJ' C hi I hw fun s3 s' H0 H' ex D xs o σ' I3 hex J e' hlt h0 fD is' n' hR=>?_
 obtain⟨m,hn,_⟩:=J.loc
 refine⟨m,hn,fun h' hs=>?_⟩
 have J2:=dI' I3 hex J hs
 obtain⟨z,its,n,rv,rfl⟩:=is'
 have neC:D≠s3.heap.objs.size:=aH hlt
 refine⟨.ref D,upd H' D (.lst xs),J2.track (o:=.lst xs) ⟨n',fD.2⟩ h0 ⟨z,its,n,rv,(hs.2 D neC).trans e'⟩,rfl,hR⟩
theorem i4' (C:CompIn X e scope tg iter ifs nx g tc ay' own) (hi:PI X tg iter wi) {i:Nat} {y:Str} {py pos pos2:Pos} (hN:X.N.Nodup) (hy:X.N[i]?=some y) (hx:Loc X.env.scope y) (hf:X.fn y=true\/X.env.scope.names.lookup y=some .local)
  (he:evalThenUse e X.env (assign (.Name y py) X.env)=(do let _ <- comprehension e scope X.env pos2 (newList []) false (eval iter X.env) (some (assign (.Name y py) X.env))))
  (hsw:swapsWith e (some (.Name y py)) pos.line X.env=pure true):PS X (.Assign [.Name y py] e pos) (jA' (i3' own wi g tc ay') (cY' i)):=by
 intro p_ s σ H D I hw
 rw[exec_Assign_Name_used _ _ _ _ hsw]
 refine ab (bO (ab ?_))
 rw[he]
 refine ab (thn (Q:=fun _ s'=>SP X p_ D .next s') (hJ' C hi I hw fun s3 s' H0 H' ex D' xs o σ' I3 hex J e' hlt h0 fD is' n' hR=>?_) fun _ s' q=>ag (ag q))
 obtain⟨m,hn,_⟩:=J.loc
 have J2:Inv X p_ σ H' s':=dI' I3 hex J (Heap.SameBut.refl ..)
 obtain⟨z,its,n,rv,rfl⟩:=is'
 have neC:D'≠s3.heap.objs.size:=aH hlt
 have J3:Inv X p_ σ (upd H' D' (.lst xs)) s':=J2.track ⟨n',fD.2⟩ h0 ⟨z,its,n,rv,e'⟩
 have fC:cH' X p_ H0 s3.heap.objs.size:=I3.fpOk (ah _) (I3.hok.fresh (ah _))
 refine wpAny_assign_Name (dX' J3 hN hy hx (v:=.ref D') rfl (fun s'' J4 hs=>?_) hf)
 obtain⟨a,hsa,ha⟩:=hs
 have haC:s3.heap.objs.size≠a:=by
  rcases ha with rfl|ha
  .exact fC.2.1
  .exact fun q=>fC.2.2.2.2.1 _ _ ha q.symm
 have hn':s'.heap.Ns s3.heap.objs.size m:=hn
 refine⟨m,hn'.sameBut hsa haC,fun h' hs'=>?_⟩
 have J5:Inv X p_ (σ.set i (some (.ref D'))) (upd H' D' (.lst xs)) { s'' with heap:=h' }:=J4.turned (it:=s3.heap.objs.size) (t':=s''.toks) (fun b ob hb q=>(hs'.2 b hb).trans q) (by rw[af' (Ne.symm neC)];exact J.free) fC.2.1 fC.2.2.2.1 fC.2.2.2.2.1 fC.2.2.2.2.2
 exact⟨_,_,J5,hR⟩
end
def cn':Bool->Heap->Addr->Addr->Nat->Prop
 |true,h,it,a,i=>h.IsTupleIter it a i
 |false,h,it,a,i=>h.IsListIter it a i
def d7':Bool->Heap->Addr->Array Value->Prop
 |true,h,a,xs=>h.IsTuple a xs
 |false,h,a,xs=>h.IsList a xs
def j2':Bool->String
 |true=>"tuple_iterator"
 |false=>"list_iterator"
theorem cn'.obj {k:Bool} {h:Heap} {it a:Addr} {i:Nat} (x:cn' k h it a i):∃o,h.get? it=some o/\o.data=.fields #[.ref a,.int i 0]:=by
 cases k
 .obtain⟨o,e,_,d⟩:=x;exact⟨o,e,d⟩
 .obtain⟨o,e,_,d⟩:=x;exact⟨o,e,d⟩
theorem cn'.at {k:Bool} {h h':Heap} {it a:Addr} {i:Nat} (x:cn' k h it a i) (hk:∀o,h.get? it=some o->h'.get? it=some o):cn' k h' it a i:=by
 cases k
 .obtain⟨o,e,r⟩:=x;exact⟨o,hk o e,r⟩
 .obtain⟨o,e,r⟩:=x;exact⟨o,hk o e,r⟩
theorem d7'.at {k:Bool} {h h':Heap} {a:Addr} {xs:Array Value} (x:d7' k h a xs) (hk:∀o,h.get? a=some o->h'.get? a=some o):d7' k h' a xs:=by
 cases k
 .obtain⟨o,e,r⟩:=x;exact⟨o,hk o e,r⟩
 .obtain⟨o,e,r⟩:=x;exact⟨o,hk o e,r⟩
theorem d7'.lt {k:Bool} {h:Heap} {a:Addr} {xs:Array Value} (x:d7' k h a xs):a<h.objs.size:=by
 cases k
 .obtain⟨o,e,r⟩:=x;exact ax e
 .obtain⟨o,e,r⟩:=x;exact ax e
section
variable {prog:Program} {w:World} {A:Around} {E:Value->Shared->Prop} {s:Shared}
theorem a4' {k:Bool} {it l:Addr} {i:Nat} {items:Array Value} {x:Value} {Q:Value->Shared->Prop} (hit:cn' k s.heap it l i) (hl:d7' k s.heap l items) (hx:items[i]?=some x)
  (hQ:∀h',cn' k h' it l (i+1)->bU it s.heap h'->Q x { s with heap:=h' }):wpAny (model prog w) A (Builtin.SmallTypes.nextOf (.ref it)) Q E s:=by
 cases k
 .exact wpAny_nextOf_list_item hit hl hx hQ
 .have hit:s.heap.IsTupleIter it l i:=hit
  have hl:s.heap.IsTuple l items:=hl
  obtain⟨o,ho,hc,hd⟩:=id hit
  obtain⟨ol,hol,_,nl,hdl⟩:=hl
  unfold Builtin.SmallTypes.nextOf
  refine ab (bf (name:=Str.ofString "__next__") hit.typeIs F.slot_tuple_iterator_next
   (bF F.slot_tuple_iterator_next hit.typeIs F.entry_tuple_iterator_next ?_ (F.args_tuple_iterator_next_1 _)))
  show wpAny _ _ (field (.ref it) 0 >>= _) _ _ s
  refine ab (bn ho hd (x:=.ref l) rfl ?_)
  show wpAny _ _ (if(Value.ref l == Value.none)=true then _ else _) _ _ s
  rw[if_neg (show ¬((Value.ref l == Value.none)=true) from ay)]
  show wpAny _ _ (field (.ref it) 1 >>= _) _ _ s
  refine ab (bn ho hd (x:=.int i 0) rfl ?_)
  show wpAny _ _ (seqItems? (.ref l) >>= _) _ _ s
  refine ab (bL hol hdl ?_)
  simp only[bI,hx]
  refine ab (wpAny_setField ho hd (by simp) (ag ⟨x,rfl,ag (hQ _ ?_ (Heap.SameBut.update ..))⟩))
  exact⟨_,cR _ ho (Obj.isFreed_of_fields (Obj.data_mapFields hd _)),(Obj.cls_mapFields ..).trans hc,by
   rw[Obj.data_mapFields hd];simp[rawInt]⟩
theorem co' {k:Bool} {it l:Addr} {i:Nat} {items:Array Value} {Q:Value->Shared->Prop} (hh:A.handled=none) (hit:cn' k s.heap it l i) (hl:d7' k s.heap l items) (hx:items[i]?=none)
  (hE:∀h' e,Heap.ExtBut it s.heap h'->(∃o,h'.get? e=some o/\o.cls=.type "StopIteration")->E (.ref e) { s with heap:=h' }):wpAny (model prog w) A (Builtin.SmallTypes.nextOf (.ref it)) Q E s:=by
 cases k
 .exact wpAny_nextOf_list_end hh hit hl hx hE
 .have hit:s.heap.IsTupleIter it l i:=hit
  have hl:s.heap.IsTuple l items:=hl
  obtain⟨o,ho,hc,hd⟩:=id hit
  obtain⟨ol,hol,_,nl,hdl⟩:=hl
  unfold Builtin.SmallTypes.nextOf
  refine ab (bf (name:=Str.ofString "__next__") hit.typeIs F.slot_tuple_iterator_next
   (bF F.slot_tuple_iterator_next hit.typeIs F.entry_tuple_iterator_next ?_ (F.args_tuple_iterator_next_1 _)))
  show wpAny _ _ (field (.ref it) 0 >>= _) _ _ s
  refine ab (bn ho hd (x:=.ref l) rfl ?_)
  show wpAny _ _ (if(Value.ref l == Value.none)=true then _ else _) _ _ s
  rw[if_neg (show ¬((Value.ref l == Value.none)=true) from ay)]
  show wpAny _ _ (field (.ref it) 1 >>= _) _ _ s
  refine ab (bn ho hd (x:=.int i 0) rfl ?_)
  show wpAny _ _ (seqItems? (.ref l) >>= _) _ _ s
  refine ab (bL hol hdl ?_)
  simp only[bI,hx]
  refine ab (wpAny_rule (ab (wpAny_setField ho hd (by simp) ?_)))
  show wpAny _ _ (newExc (.type "StopIteration") [] >>= _) _ _ _
  refine ab ?_
  simp only[newExc,newTuple]
  refine ab (bH ?_ (by size_fits))
  refine ab (m:=firstArgMember _ _) (wpAny_of_eq (a:=Value.none) (by first|rfl|(simp only[firstArgMember];rfl)) ?_)
  refine bH ?_ (by size_fits)
  simp only[raiseNew]
  refine ab (wpAny_handled ?_)
  first|rw[show A.in1.handled=none from hh]|rw[hh]
  refine ab (ag (wpAny_throw ?_))
  exact hE _ _ (((Heap.SameBut.update ..).extBut.push _).push _) ⟨_,aC _ rfl,rfl⟩
end
abbrev zH1 (k:Bool) (h:Heap) (l1:Addr):Heap:=h.push { cls:=.type (j2' k),data:=.fields #[.ref l1,.int 0 0] }
abbrev zH2 (k j:Bool) (h:Heap) (l1 l2:Addr):Heap:=(zH1 k h l1).push { cls:=.type (j2' j),data:=.fields #[.ref l2,.int 0 0] }
abbrev zH3 (k j:Bool) (h:Heap) (l1 l2:Addr):Heap:=(zH2 k j h l1 l2).push { cls:=.type "tuple",data:=.seq #[.ref h.objs.size,.ref (zH1 k h l1).objs.size] }
abbrev zH4 (k j:Bool) (h:Heap) (l1 l2:Addr):Heap:=(zH3 k j h l1 l2).push { cls:=.type "tuple",data:=.seq #[.none,.none] }
abbrev zH5 (k j:Bool) (h:Heap) (l1 l2:Addr):Heap:=(zH4 k j h l1 l2).push { cls:=.type "zip",data:=.fields #[.none,.bool false,.bool false,.ref (zH2 k j h l1 l2).objs.size,.ref (zH3 k j h l1 l2).objs.size] }
set_option maxHeartbeats 4000000 in
theorem j3' (k j:Bool) (l1 l2:Addr) (xs ys:Array Value):
  Meets (Builtin.«zip.__new__» ⟨[.type "zip",.ref l1,.ref l2],[]⟩) (fun _ R s=>d7' k s.heap l1 xs/\d7' j s.heap l2 ys/\
   R (.ok (.ret (.ref (zH4 k j s.heap l1 l2).objs.size))) { s with heap:=zH5 k j s.heap l1 l2 }):=by
 cases k<;>cases j
 .exact meets_zip_new l1 l2 xs ys
 .exact .of_wp fun prog w A R s h=>by
   obtain⟨hp,g,d,tk,os⟩:=s;obtain⟨hl1,hl2,h⟩:=h
   have hsub:=sub_zip
   have hL1:Heap.IsList (Shared.heap ⟨hp,g,d,tk,os⟩) l1 xs:=hl1
   have hL2:Heap.IsTuple (Shared.heap ⟨hp.push { cls:=.type "list_iterator",data:=.fields #[.ref l1,.int 0 0] },g,d,tk,os⟩) l2 ys:=Heap.IsTuple.push hl2 _
   wp_walk using wpAny_pyIter_list hL1,bR hL2
   exact⟨_,rfl,h⟩
 .exact .of_wp fun prog w A R s h=>by
   obtain⟨hp,g,d,tk,os⟩:=s;obtain⟨hl1,hl2,h⟩:=h
   have hsub:=sub_zip
   have hL1:Heap.IsTuple (Shared.heap ⟨hp,g,d,tk,os⟩) l1 xs:=hl1
   have hL2:Heap.IsList (Shared.heap ⟨hp.push { cls:=.type "tuple_iterator",data:=.fields #[.ref l1,.int 0 0] },g,d,tk,os⟩) l2 ys:=Heap.IsList.push hl2 _
   wp_walk using bR hL1,wpAny_pyIter_list hL2
   exact⟨_,rfl,h⟩
 .exact .of_wp fun prog w A R s h=>by
   obtain⟨hp,g,d,tk,os⟩:=s;obtain⟨hl1,hl2,h⟩:=h
   have hsub:=sub_zip
   have hL1:Heap.IsTuple (Shared.heap ⟨hp,g,d,tk,os⟩) l1 xs:=hl1
   have hL2:Heap.IsTuple (Shared.heap ⟨hp.push { cls:=.type "tuple_iterator",data:=.fields #[.ref l1,.int 0 0] },g,d,tk,os⟩) l2 ys:=Heap.IsTuple.push hl2 _
   wp_walk using bR hL1,bR hL2
   exact⟨_,rfl,h⟩
section
variable {prog:Program} {w:World} {A:Around} {E:Value->Shared->Prop} {s:Shared}
theorem p7' {k j:Bool} {l1 l2:Addr} {xs ys:Array Value} {Q:Value->Shared->Prop} (hl1:d7' k s.heap l1 xs) (hl2:d7' j s.heap l2 ys)
  (h:∀h',IsZip h' (s.heap.objs.size+4) (s.heap.objs.size+2) (s.heap.objs.size+3) .none->IsPair h' (s.heap.objs.size+2) (.ref s.heap.objs.size) (.ref (s.heap.objs.size+1))->
   IsPair h' (s.heap.objs.size+3) .none .none->cn' k h' s.heap.objs.size l1 0->cn' j h' (s.heap.objs.size+1) l2 0->h'.objs.size=s.heap.objs.size+5->
   (∀c o,s.heap.get? c=some o->h'.get? c=some o)->Q (.ref (s.heap.objs.size+4)) { s with heap:=h' }):
  wpAny (model prog w) A (call (.type "zip") [.ref l1,.ref l2]) Q E s:=by
 refine callType_new F.called_zip (by decide) (F.typeCall_zip_2 _ _) (F.newCall_zip_2 _ _) (fun obj=>F.args_object_init_3 obj _ _) F.entry_zip_new
  (j3' k j l1 l2 xs ys) ⟨hl1,hl2,?_⟩
 have z1:(zH1 k s.heap l1).objs.size=s.heap.objs.size+1:=bu ..
 have z2:(zH2 k j s.heap l1 l2).objs.size=s.heap.objs.size+2:=by rw[bu,z1]
 have z3:(zH3 k j s.heap l1 l2).objs.size=s.heap.objs.size+3:=by rw[bu,z2]
 have z4:(zH4 k j s.heap l1 l2).objs.size=s.heap.objs.size+4:=by rw[bu,z3]
 have z5:(zH5 k j s.heap l1 l2).objs.size=s.heap.objs.size+5:=by rw[bu,z4]
 have g5:(zH5 k j s.heap l1 l2).get? (zH4 k j s.heap l1 l2).objs.size=some _:=aC _ rfl
 have g4:(zH5 k j s.heap l1 l2).get? (zH3 k j s.heap l1 l2).objs.size=some _:=ac _ (aC _ rfl)
 have g3:(zH5 k j s.heap l1 l2).get? (zH2 k j s.heap l1 l2).objs.size=some _:=ac _ (ac _ (aC _ rfl))
 have g2:(zH5 k j s.heap l1 l2).get? (zH1 k s.heap l1).objs.size=some { cls:=.type (j2' j),data:=.fields #[.ref l2,.int 0 0] }:=ac _ (ac _ (ac _ (aC _ rfl)))
 have g1:(zH5 k j s.heap l1 l2).get? s.heap.objs.size=some { cls:=.type (j2' k),data:=.fields #[.ref l1,.int 0 0] }:=ac _ (ac _ (ac _ (ac _ (aC _ rfl))))
 have gk:∀c o,s.heap.get? c=some o->(zH5 k j s.heap l1 l2).get? c=some o:=fun c o e=>ac _ (ac _ (ac _ (ac _ (ac _ e))))
 have mk:∀(c:Bool) (it l:Addr),(zH5 k j s.heap l1 l2).get? it=some { cls:=.type (j2' c),data:=.fields #[.ref l,.int 0 0] }->cn' c (zH5 k j s.heap l1 l2) it l 0:=fun c it l e=>by
  cases c
  .exact⟨_,e,rfl,rfl⟩
  .exact⟨_,e,rfl,rfl⟩
 show _/\_
 rw[z2,z3,z4]at g5
 rw[z1,z2]at g3
 rw[z3]at g4
 rw[z1]at g2
 rw[z4]
 exact⟨⟨_,g5,rfl⟩,h _ g5 g3 g4 (mk k _ _ g1) (mk j _ _ g2) z5 gk⟩
theorem hK' {k j:Bool} {z TI TO i1 i2 l1 l2:Addr} {k1 k2:Nat} {xs ys:Array Value} {x y a b:Value} {Q:Option Value->Shared->Prop} (D:ZipApart z TI TO i1 i2 l1 l2)
  (hz:IsZip s.heap z TI TO .none) (hTI:IsPair s.heap TI (.ref i1) (.ref i2)) (hTO:IsPair s.heap TO a b)
  (h1:cn' k s.heap i1 l1 k1) (h2:cn' j s.heap i2 l2 k2) (hl1:d7' k s.heap l1 xs) (hl2:d7' j s.heap l2 ys) (hx:xs[k1]?=some x) (hy:ys[k2]?=some y)
  (hQ:∀h',IsZip h' z TI TO (rawInt s.heap.objs.size)->IsPair h' TO x y->cn' k h' i1 l1 (k1+1)->cn' j h' i2 l2 (k2+1)->IsPair h' s.heap.objs.size x y->h'.objs.size=s.heap.objs.size+1->
   (∀c o,c≠z->c≠TO->c≠i1->c≠i2->s.heap.get? c=some o->h'.get? c=some o)->Q (some (.ref s.heap.objs.size)) { s with heap:=h' }):
  wpAny (model prog w) A (pyNext (.ref z)) Q E s:=by
 have hT:s.TypeIs (.ref z) "zip":=⟨_,hz,rfl⟩
 unfold pyNext
 refine ab (wpAny_attempt (bf (name:=Str.ofString "__next__") hT F.slot_zip_next
  (bF F.slot_zip_next hT F.entry_zip_next ?_ (F.args_zip_next_1 _))))
 show wpAny _ _ (field (.ref z) 2 >>= _) _ _ _
 refine ab (bn hz rfl (x:=.bool false) rfl ?_)
 show wpAny _ _ (field (.ref z) 3 >>= _) _ _ _
 refine ab (bn hz rfl (x:=.ref TI) rfl ?_)
 refine ab (bL hTI rfl ?_)
 show wpAny _ _ (Builtin.SmallTypes.ownedTupleIsFree (.ref z) >>= _) _ _ _
 refine ab ?_
 unfold Builtin.SmallTypes.ownedTupleIsFree
 refine ab (bn hz rfl (x:=.none) rfl (ag ?_))
 simp only[if_true]
 refine ab (wpAny_rule ?_)
 refine ab (bn hz rfl (x:=.ref TO) rfl ?_)
 refine ab (cg hz (by simp) fun h₁ hz₁ hs₁=>?_)
 replace hz₁:IsZip h₁ z TI TO .ellipsis:=hz₁
 refine ab ?_
 simp only[List.zipIdx_cons,List.zipIdx_nil,List.forIn_cons,List.forIn_nil]
 refine ab (ab (wpAny_onRaise ?_))
 show wpAny _ _ (Builtin.SmallTypes.nextOf (.ref i1) >>= _) _ _ _
 refine ab (a4' (h1.at fun o e=>hs₁.extBut _ _ D.i1z e) (hl1.at fun o e=>hs₁.extBut _ _ D.l1z e) hx fun h₂ h1₂ hs₂=>ag ?_)
 have hTO₂:IsPair h₂ TO a b:=hs₂.extBut _ _ D.TOi1 (hs₁.extBut _ _ D.TOz hTO)
 refine ab (bL hTO₂ rfl ?_)
 refine ab (wpAny_updateSeq_pair hTO₂ fun h₃ hTO₃ hs₃=>?_)
 replace hTO₃:IsPair h₃ TO x b:=hTO₃
 refine ab (wpAny_letGo (ag ?_))
 refine ab (ab (wpAny_onRaise ?_))
 show wpAny _ _ (Builtin.SmallTypes.nextOf (.ref i2) >>= _) _ _ _
 refine ab (a4' (h2.at fun o e=>hs₃.extBut _ _ D.TOi2.symm (hs₂.extBut _ _ D.i12.symm (hs₁.extBut _ _ D.i2z e)))
  (hl2.at fun o e=>hs₃.extBut _ _ D.l2TO (hs₂.extBut _ _ D.l2i1 (hs₁.extBut _ _ D.l2z e))) hy fun h₄ h2₄ hs₄=>ag ?_)
 have hTO₄:IsPair h₄ TO x b:=hs₄.extBut _ _ D.TOi2 hTO₃
 refine ab (bL hTO₄ rfl ?_)
 refine ab (wpAny_updateSeq_pair hTO₄ fun h₅ hTO₅ hs₅=>?_)
 replace hTO₅:IsPair h₅ TO x y:=hTO₅
 refine ab (wpAny_letGo (ag (ag ?_)))
 refine ab (bL hTO₅ rfl ?_)
 refine ab (wpAny_newTuple ?_)
 have hsz:h₅.objs.size=s.heap.objs.size:=by rw[hs₅.1,hs₄.1,hs₃.1,hs₂.1,hs₁.1]
 have hz₅:IsZip h₅ z TI TO .ellipsis:=hs₅.extBut _ _ D.TOz.symm (hs₄.extBut _ _ D.i2z.symm (hs₃.extBut _ _ D.TOz.symm (hs₂.extBut _ _ D.i1z.symm hz₁)))
 have hk₅:∀c o,c≠z->c≠TO->c≠i1->c≠i2->s.heap.get? c=some o->h₅.get? c=some o:=fun c o c1 c2 c3 c4 e=>
  hs₅.extBut _ _ c2 (hs₄.extBut _ _ c4 (hs₃.extBut _ _ c2 (hs₂.extBut _ _ c3 (hs₁.extBut _ _ c1 e))))
 have h1₅:cn' k h₅ i1 l1 (k1+1):=h1₂.at fun o e=>hs₅.extBut _ _ D.TOi1.symm (hs₄.extBut _ _ D.i12 (hs₃.extBut _ _ D.TOi1.symm e))
 have h2₅:cn' j h₅ i2 l2 (k2+1):=h2₄.at fun o e=>hs₅.extBut _ _ D.TOi2.symm e
 have hzlt:z<h₅.objs.size:=ax hz₅
 show wpAny _ _ (Builtin.SmallTypes.ownedTupleHandOut (.ref z) (.ref h₅.objs.size) >>= _) _ _ _
 refine ab ?_
 unfold Builtin.SmallTypes.ownedTupleHandOut
 have hz₆:IsZip (h₅.push { cls:=.type "tuple",data:=.seq #[x,y] }) z TI TO .ellipsis:=ac _ hz₅
 refine ab (cg hz₆ (by simp) fun h₇ hz₇ hs₇=>?_)
 replace hz₇:IsZip h₇ z TI TO (rawInt h₅.objs.size):=hz₇
 refine cg hz₇ (by simp) fun h₈ hz₈ hs₈=>?_
 replace hz₈:IsZip h₈ z TI TO (rawInt h₅.objs.size):=hz₈
 have up:∀c o,c≠z->h₅.get? c=some o->h₈.get? c=some o:=fun c o c1 e=>hs₈.extBut _ _ c1 (hs₇.extBut _ _ c1 (ac _ e))
 have hT₈:IsPair h₈ h₅.objs.size x y:=hs₈.extBut _ _ (bP hzlt) (hs₇.extBut _ _ (bP hzlt) (aC _ rfl))
 have hz8:h₈.objs.size=h₅.objs.size+1:=by rw[hs₈.1,hs₇.1,bu]
 rw[hsz]at hz₈ hT₈ hz8
 refine ag ⟨_,rfl,ag ?_⟩
 show Q (some (.ref h₅.objs.size)) _
 rw[hsz]
 exact hQ h₈ hz₈ (up _ _ D.TOz hTO₅) (h1₅.at fun o e=>up _ o D.i1z e) (h2₅.at fun o e=>up _ o D.i2z e) hT₈ hz8 fun c o c1 c2 c3 c4 e=>up c o c1 (hk₅ c o c1 c2 c3 c4 e)
theorem j4' {k j:Bool} {z TI TO i1 i2 l1 l2:Addr} {k1 k2:Nat} {xs ys:Array Value} {a b:Value} {Q:Option Value->Shared->Prop} (hh:A.handled=none) (D:ZipApart z TI TO i1 i2 l1 l2)
  (hz:IsZip s.heap z TI TO .none) (hTI:IsPair s.heap TI (.ref i1) (.ref i2)) (hTO:IsPair s.heap TO a b)
  (h1:cn' k s.heap i1 l1 k1) (h2:cn' j s.heap i2 l2 k2) (hl1:d7' k s.heap l1 xs) (hl2:d7' j s.heap l2 ys) (hend:xs[k1]?=none\/ys[k2]?=none)
  (hQ:∀h',(∀c o,c≠z->c≠TO->c≠i1->c≠i2->s.heap.get? c=some o->h'.get? c=some o)->Q none { s with heap:=h' }):wpAny (model prog w) A (pyNext (.ref z)) Q E s:=by
 have hT:s.TypeIs (.ref z) "zip":=⟨_,hz,rfl⟩
 unfold pyNext
 refine ab (wpAny_attempt (bf (name:=Str.ofString "__next__") hT F.slot_zip_next
  (bF F.slot_zip_next hT F.entry_zip_next ?_ (F.args_zip_next_1 _))))
 have fin:∀(h':Heap) (e:Addr),(∀c o,c≠z->c≠TO->c≠i1->c≠i2->s.heap.get? c=some o->h'.get? c=some o)->(∃o,h'.get? e=some o/\o.cls=.type "StopIteration")->
   wpAny (model prog w) A (do if <- isInstance (.ref e) (.type "StopIteration")then pure none else throw (.ref e)) Q E { s with heap:=h' }:=fun h' e hk ⟨o,ho,hc⟩=>
  ab (wpAny_isInstance (T:="StopIteration") (b:=true) ⟨o,ho,hc⟩ isSubtype_stop (ag (hQ _ hk)))
 show wpAny _ _ (field (.ref z) 2 >>= _) _ _ _
 refine ab (bn hz rfl (x:=.bool false) rfl ?_)
 show wpAny _ _ (field (.ref z) 3 >>= _) _ _ _
 refine ab (bn hz rfl (x:=.ref TI) rfl ?_)
 refine ab (bL hTI rfl ?_)
 show wpAny _ _ (Builtin.SmallTypes.ownedTupleIsFree (.ref z) >>= _) _ _ _
 refine ab ?_
 unfold Builtin.SmallTypes.ownedTupleIsFree
 refine ab (bn hz rfl (x:=.none) rfl (ag ?_))
 simp only[if_true]
 refine ab (wpAny_rule ?_)
 refine ab (bn hz rfl (x:=.ref TO) rfl ?_)
 refine ab (cg hz (by simp) fun h₁ hz₁ hs₁=>?_)
 replace hz₁:IsZip h₁ z TI TO .ellipsis:=hz₁
 refine ab ?_
 simp only[List.zipIdx_cons,List.zipIdx_nil,List.forIn_cons,List.forIn_nil]
 refine ab (ab (wpAny_onRaise ?_))
 show wpAny _ _ (Builtin.SmallTypes.nextOf (.ref i1) >>= _) _ _ _
 have a1:=h1.at (h':=h₁) fun o e=>hs₁.extBut _ _ D.i1z e
 have b1:=hl1.at (h':=h₁) fun o e=>hs₁.extBut _ _ D.l1z e
 cases hx:xs[k1]? with
 |none=>
  refine ab (co' (by first|exact hh|rfl) a1 b1 hx fun h₂ e hs₂ he=>?_)
  obtain⟨oe,hoe,hce⟩:=he
  have hz₂:IsZip h₂ z TI TO .ellipsis:=hs₂ _ _ D.i1z.symm hz₁
  have hez:e≠z:=fun x=>by subst x;rw[hz₂]at hoe;cases hoe;simp at hce
  refine cg hz₂ (by simp) fun h₃ _ hs₃=>fin h₃ e (fun c o c1 _ c3 _ x=>hs₃.extBut _ _ c1 (hs₂ _ _ c3 (hs₁.extBut _ _ c1 x))) ⟨oe,hs₃.extBut _ _ hez hoe,hce⟩
 |some x=>
  have hy:ys[k2]?=none:=by rcases hend with h|h;rw[hx]at h;cases h;exact h
  refine ab (a4' a1 b1 hx fun h₂ h1₂ hs₂=>ag ?_)
  have hTO₂:IsPair h₂ TO a b:=hs₂.extBut _ _ D.TOi1 (hs₁.extBut _ _ D.TOz hTO)
  refine ab (bL hTO₂ rfl ?_)
  refine ab (wpAny_updateSeq_pair hTO₂ fun h₃ hTO₃ hs₃=>?_)
  refine ab (wpAny_letGo (ag ?_))
  refine ab (ab (wpAny_onRaise ?_))
  show wpAny _ _ (Builtin.SmallTypes.nextOf (.ref i2) >>= _) _ _ _
  refine ab (co' (by first|exact hh|rfl) (h2.at fun o e=>hs₃.extBut _ _ D.TOi2.symm (hs₂.extBut _ _ D.i12.symm (hs₁.extBut _ _ D.i2z e)))
   (hl2.at fun o e=>hs₃.extBut _ _ D.l2TO (hs₂.extBut _ _ D.l2i1 (hs₁.extBut _ _ D.l2z e))) hy fun h₄ e hs₄ he=>?_)
  obtain⟨oe,hoe,hce⟩:=he
  have hz₄:IsZip h₄ z TI TO .ellipsis:=hs₄ _ _ D.i2z.symm (hs₃.extBut _ _ D.TOz.symm (hs₂.extBut _ _ D.i1z.symm hz₁))
  have hez:e≠z:=fun x=>by subst x;rw[hz₄]at hoe;cases hoe;simp at hce
  refine cg hz₄ (by simp) fun h₅ _ hs₅=>fin h₅ e (fun c o c1 c2 c3 c4 x=>hs₅.extBut _ _ c1 (hs₄ _ _ c4 (hs₃.extBut _ _ c2 (hs₂.extBut _ _ c3 (hs₁.extBut _ _ c1 x))))) ⟨oe,hs₅.extBut _ _ hez hoe,hce⟩
end
def Its (x:Str):It:=⟨fun i _=>i<x.cps.size,fun i H v H'=>H'=H/\∃c,x.cps[i]?=some c/\v=.str ⟨#[c]⟩,fun i _=>x.cps.size<=i⟩
theorem mR' {P:Program} {w:World} {K:W.Frag} {tg:Expr} (it:Addr) (x:Str) (ty:String) (t:Tok) (hty:ty="str_ascii_iterator"\/ty="str_iterator"):
  Turn P w K tg (Its x) [it] it (fun i h=>h.IsStrIter it ty x t i) where
 mem:=by simp
 obj:=fun i h st b hb=>by
  have e:b=it:=by simpa using hb
  subst e
  obtain⟨o,e,c,d⟩:=st
  exact⟨o,e,fun v z=>by rw[d]at z;cases z⟩
 keep:=fun i h h' st k=>by
  obtain⟨o,e,r⟩:=st
  exact⟨o,k it (by simp) o e,r⟩
 item:=by
  intro X hP hw hK hc i p_ s σ H E I hf st hg
  subst hP hw hK
  obtain⟨f0,f1,f2,f3,f4,f5⟩:=hf it (by simp)
  have hg':i<x.cps.size:=hg
  have hx:x.cps[i]?=some x.cps[i]:=by simp[hg']
  have fin:∀h',h'.IsStrIter it ty x t (i+1)->bU it s.heap h'->∃u,some (Value.str ⟨#[x.cps[i]]⟩ s.toks)=some u/\
    wpAny (model X.prog X.w) X.A (letOwnedTupleGo tg (.ref it) u) (fun _ s2=>∃y H',Inv X p_ σ H' s2/\ax' y u/\(Its x).yld i H y H'/\s2.heap.IsStrIter it ty x t (i+1)/\∀b∈[it],H' b=none) E { s with heap:=h',toks:=s.toks+1 }:=fun h' st' sb=>by
   have I1:Inv X p_ σ H { s with heap:=h',toks:=s.toks+1 }:=I.turned (fun b o hb e=>(sb.2 b hb).trans e) f0 f1 f3 f4 f5
   obtain⟨o,e,c,d⟩:=id st'
   refine⟨_,rfl,mB' (s:={ s with heap:=h',toks:=s.toks+1 }) e c d ?_ ⟨.str ⟨#[x.cps[i]]⟩,H,I1,⟨_,rfl⟩,⟨rfl,_,hx,rfl⟩,st',fun b hb=>(hf b hb).1⟩⟩
   rcases hty with rfl|rfl<;>decide
  rcases hty with rfl|rfl
  .exact wpAny_pyNext_ascii_item st hx fin
  .exact wpAny_pyNext_wide_item st hx fin
 done:=by
  intro X hP hw hK hc i p_ s σ H E I hf st hg
  subst hP hw hK
  obtain⟨f0,f1,f2,f3,f4,f5⟩:=hf it (by simp)
  have hg':x.cps.size<=i:=hg
  have hx:x.cps[i]?=none:=by simp[hg']
  have fin:∀h',Heap.ExtBut it s.heap h'->(none:Option Value)=none/\Inv X p_ σ H { s with heap:=h' }:=fun h' eb=>⟨rfl,I.turned (t':=s.toks) (fun b o hb e=>eb b o hb e) f0 f1 f3 f4 f5⟩
  rcases hty with rfl|rfl
  .exact wpAny_pyNext_ascii_end (I.ok.hd hc) st hx fin
  .exact wpAny_pyNext_wide_end (I.ok.hd hc) st hx fin
 self:=fun _ _ _ _ _ st h=>by
  rcases hty with rfl|rfl
  .exact wpAny_pyIter_striter_ascii st h
  .exact wpAny_pyIter_striter_wide st h
def Sq (k:Bool) (K:W.Frag) (H:Hp) (a:Addr) (xs:List V):Prop:=match k with
 |true=>SqT K H a xs
 |false=>SqL K H a xs
theorem Inv.sq {X:Cx} {p_:List (Addr×Obj)} {σ:St} {H:Hp} {s:Shared} {k:Bool} {a:Addr} {xs:List V} (I:Inv X p_ σ H s) (h:Sq k X.K H a xs):∃its:List Value,aE' xs its/\d7' k s.heap a its.toArray/\xs.length<=sizeLine:=by
 cases k
 .obtain⟨its,r,p,z⟩:=I.list h
  exact⟨its,r,p.isList,z⟩
 .obtain⟨its,r,p,z⟩:=I.tuple h
  exact⟨its,r,p,z⟩
theorem Inv.sq_inj {X:Cx} {p_:List (Addr×Obj)} {σ:St} {H:Hp} {s:Shared} {k:Bool} {a:Addr} {xs ys:List V} (I:Inv X p_ σ H s) (h:Sq k X.K H a xs) (h':Sq k X.K H a ys):xs=ys:=by
 cases k
 .exact I.list_inj h h'
 .exact I.tuple_inj h h'
def sD' (k j:Bool) (K:W.Frag) (a b:Addr):It:=
 ⟨fun i H=>∃xs ys x y,Sq k K H a xs/\Sq j K H b ys/\xs[i]?=some x/\ys[i]?=some y,
  fun i H v H'=>∃p x y,v=.ref p/\H p=none/\(∀xs,Sq k K H a xs->xs[i]?=some x)/\(∀ys,Sq j K H b ys->ys[i]?=some y)/\H'=upd H p (.tup [x,y]),
  fun i H=>∃xs ys,Sq k K H a xs/\Sq j K H b ys/\(xs.length<=i\/ys.length<=i)⟩
abbrev Itz (k:Bool) (K:W.Frag) (a b:Addr):It:=sD' k k K a b
def zTn (k j:Bool) (z TI TO i1 i2 l1 l2:Addr) (i:Nat) (h:Heap):Prop:=
 IsZip h z TI TO .none/\IsPair h TI (.ref i1) (.ref i2)/\(∃a b,IsPair h TO a b)/\cn' k h i1 l1 i/\cn' j h i2 l2 i
theorem mS' {P:Program} {w:World} {K:W.Frag} {elts:List Expr} {kt:Nat} {pt:Pos} {k j:Bool} {z TI TO i1 i2 l1 l2:Addr} (D:ZipApart z TI TO i1 i2 l1 l2):
  Turn P w K (.Tuple elts kt pt) (sD' k j K l1 l2) [z,TI,TO,i1,i2] z (zTn k j z TI TO i1 i2 l1 l2) where
 mem:=by simp
 obj:=fun i h st b hb=>by
  obtain⟨hz,hTI,⟨_,_,hTO⟩,h1,h2⟩:=st
  simp only[au,aA,or_false]at hb
  rcases hb with rfl|rfl|rfl|rfl|rfl
  .exact⟨_,hz,fun v=>(nomatch ·)⟩
  .exact⟨_,hTI,fun v=>(nomatch ·)⟩
  .exact⟨_,hTO,fun v=>(nomatch ·)⟩
  .obtain⟨o,e,d⟩:=h1.obj
   exact⟨o,e,fun v q=>by rw[d]at q;cases q⟩
  .obtain⟨o,e,d⟩:=h2.obj
   exact⟨o,e,fun v q=>by rw[d]at q;cases q⟩
 keep:=fun i h h' st kk=>by
  obtain⟨hz,hTI,⟨a,b,hTO⟩,h1,h2⟩:=st
  exact⟨kk z (by simp) _ hz,kk TI (by simp) _ hTI,⟨a,b,kk TO (by simp) _ hTO⟩,h1.at fun o e=>kk i1 (by simp) o e,h2.at fun o e=>kk i2 (by simp) o e⟩
 item:=by
  intro X hP hw hK hc i p_ s σ H E I hf st hg
  subst hP hw hK
  obtain⟨xs,ys,x,y,hxs,hys,hx,hy⟩:=hg
  obtain⟨hz,hTI,⟨a,b,hTO⟩,h1,h2⟩:=st
  obtain⟨us,rus,ous,_⟩:=I.sq hxs
  obtain⟨vs,rvs,ovs,_⟩:=I.sq hys
  obtain⟨u,hu,ru⟩:=rus.get hx
  obtain⟨v,hv,rv⟩:=rvs.get hy
  refine hK' D hz hTI hTO h1 h2 ous ovs (x:=u) (y:=v) (by simpa using hu) (by simpa using hv) fun h' hz' hTO' h1' h2' hT hsz hk=>?_
  refine⟨_,rfl,wpAny_letOwnedTupleGo_zip (s:={ s with heap:=h' }) hz' fun h'' hz'' hs=>?_⟩
  have hs':bU z h' h'':=hs
  have zlt:z<s.heap.objs.size:=ax hz
  have neT:s.heap.objs.size≠z:=bP zlt
  have hkk:∀c o,c∉[z,TO,i1,i2]->s.heap.get? c=some o->h''.get? c=some o:=fun c o hc e=>by
   simp only[au,aA,or_false,not_or]at hc
   exact(hs'.2 c hc.1).trans (hk c o hc.1 hc.2.1 hc.2.2.1 hc.2.2.2 e)
  have sub:∀c∈[z,TO,i1,i2],c∈[z,TI,TO,i1,i2]:=fun c hc=>by
   simp only[au,aA,or_false]at hc ⊢
   rcases hc with h|h|h|h
   .exact .inl h
   .exact .inr (.inr (.inl h))
   .exact .inr (.inr (.inr (.inl h)))
   .exact .inr (.inr (.inr (.inr h)))
  have hTn:H s.heap.objs.size=none:=I.hok.fresh (ah _)
  have trk:∀c o,H c=some o->c∉[z,TO,i1,i2]:=fun c o e hc=>by rw[(hf c (sub c hc)).1]at e;cases e
  have I1:Inv X p_ σ (upd H s.heap.objs.size (.tup [x,y])) { s with heap:=h'' }:=by
   refine I.step (g':=s.gens) (d':=s.drawn) (t':=s.toks) (ch:=[z,TO,i1,i2]) (fun c hc=>?_) (fun c o _ _ hc e _=>hkk c o hc e) (fun c o _ _ hc e _=>⟨o.slots,hkk c o hc e⟩)
    (fun c o _ e n=>by rw[af' (aH (ax e))];exact n) (fun c o hc e=>⟨o,hkk c o hc e⟩) (fun c ps e=>by rw[af' (ah' e hTn)];exact e) (fun c o p e=>by rw[af' (ah' e hTn)];exact e)
    (fun c ps e=>⟨#[],by rw[af' (ah' e hTn),e];simp⟩) (fun m hm=>?_) (fun c o e=>?_) I.bare
   .obtain⟨f0,f1,f2,f3,f4,f5⟩:=hf c (sub c hc)
    exact⟨f3,f1,f4,f5⟩
   .obtain⟨oo,es,ep,ho,r⟩:=hm
    exact⟨oo,es,ep,hkk _ oo (fun hc=>(hf _ (sub _ hc)).2.1 rfl) ho,r⟩
   .by_cases hb:c=s.heap.objs.size
    .subst hb
     rw[ab']at e;cases e
     exact⟨by show 2<=sizeLine;decide,[u,v],.cons ru (.cons rv .nil),⟨_,(hs'.2 _ neT).trans hT,rfl,⟨_,rfl⟩,rfl⟩⟩
    .rw[af' hb]at e
     refine(I.hok c o e).stay (fun d q hd eq=>hkk d q ?_ eq) (fun d q=>by rw[af' (ah' q hTn)];exact q) fun d qs q=>by rw[af' (ah' q hTn)];exact q
     rcases hd with rfl|hd
     .exact trk _ _ e
     .exact trk _ _ hd
  refine⟨.ref s.heap.objs.size,_,I1,rfl,⟨s.heap.objs.size,x,y,rfl,hTn,fun xs' h'=>by rw[I.sq_inj h' hxs];exact hx,fun ys' h'=>by rw[I.sq_inj h' hys];exact hy,rfl⟩,⟨hz'',?_,⟨u,v,?_⟩,?_,?_⟩,fun c hc=>?_⟩
  .exact(hs'.2 TI D.TIz).trans (hk TI _ D.TIz D.TITO D.TIi1 D.TIi2 hTI)
  .exact(hs'.2 TO D.TOz).trans hTO'
  .exact h1'.at fun o e=>(hs'.2 i1 D.i1z).trans e
  .exact h2'.at fun o e=>(hs'.2 i2 D.i2z).trans e
  .rw[af']
   .exact(hf c hc).1
   .intro q
    subst q
    simp only[au,aA,or_false]at hc
    rcases hc with q|q|q|q|q
    .exact neT q
    .exact bc _ (q ▸ ax hTI)
    .exact bc _ (q ▸ ax hTO)
    .obtain⟨o,e,_⟩:=h1.obj
     exact bc _ (q ▸ ax e)
    .obtain⟨o,e,_⟩:=h2.obj
     exact bc _ (q ▸ ax e)
 done:=by
  intro X hP hw hK hc i p_ s σ H E I hf st hg
  subst hP hw hK
  obtain⟨xs,ys,hxs,hys,hend⟩:=hg
  obtain⟨hz,hTI,⟨a,b,hTO⟩,h1,h2⟩:=st
  obtain⟨us,rus,ous,_⟩:=I.sq hxs
  obtain⟨vs,rvs,ovs,_⟩:=I.sq hys
  have l1':=rus.length
  have l2':=rvs.length
  refine j4' (I.ok.hd hc) D hz hTI hTO h1 h2 ous ovs ?_ fun h' hk=>⟨rfl,?_⟩
  .rcases hend with q|q
   .exact .inl (by simp;omega)
   .exact .inr (by simp;omega)
  have sub:∀c∈[z,TO,i1,i2],c∈[z,TI,TO,i1,i2]:=fun c hc=>by
   simp only[au,aA,or_false]at hc ⊢
   rcases hc with h|h|h|h
   .exact .inl h
   .exact .inr (.inr (.inl h))
   .exact .inr (.inr (.inr (.inl h)))
   .exact .inr (.inr (.inr (.inr h)))
  have hkk:∀c o,c∉[z,TO,i1,i2]->s.heap.get? c=some o->h'.get? c=some o:=fun c o hc e=>by
   simp only[au,aA,or_false,not_or]at hc
   exact hk c o hc.1 hc.2.1 hc.2.2.1 hc.2.2.2 e
  have trk:∀c o,H c=some o->c∉[z,TO,i1,i2]:=fun c o e hc=>by rw[(hf c (sub c hc)).1]at e;cases e
  refine I.step (g':=s.gens) (d':=s.drawn) (t':=s.toks) (ch:=[z,TO,i1,i2]) (fun c hc=>?_) (fun c o _ _ hc e _=>hkk c o hc e) (fun c o _ _ hc e _=>⟨o.slots,hkk c o hc e⟩)
    (fun c o _ e n=>n) (fun c o hc e=>⟨o,hkk c o hc e⟩) (fun c ps e=>e) (fun c o p e=>e) (fun c ps e=>⟨#[],by rw[e];simp⟩) (fun m hm=>?_) (fun c o e=>?_) I.bare
  .obtain⟨f0,f1,f2,f3,f4,f5⟩:=hf c (sub c hc)
   exact⟨f3,f1,f4,f5⟩
  .obtain⟨oo,es,ep,ho,r⟩:=hm
   exact⟨oo,es,ep,hkk _ oo (fun hc=>(hf _ (sub _ hc)).2.1 rfl) ho,r⟩
  .refine(I.hok c o e).stay (fun d q hd eq=>hkk d q ?_ eq) (fun d q=>q) fun d qs q=>q
   rcases hd with rfl|hd
   .exact trk _ _ e
   .exact trk _ _ hd
 self:=fun _ _ _ _ _ st h=>wpAny_pyIter_zip st.1 h
section
variable {X:Cx} {tg:Expr}
def xX' (K:W.Frag) (tl:TE):TI:=fun σ H R=>tl σ H fun x H1=>
 (∃a,x=.ref a/\(∃xs,SqL K H1 a xs)/\R (Itl K a) H1)\/(∃a,x=.ref a/\(∃xs,SqT K H1 a xs)/\R (Itt K a) H1)\/∃z,x=.str z/\R (Its z) H1
theorem tr' {l:Expr} {tl:TE} (hl:PE X l tl):PI X tg l (xX' X.K tl):=by
 intro p_ s σ H R I h
 refine thn (hl p_ s σ H _ I h) fun v s1 ⟨x,H1,I1,r1,q1⟩=>?_
 rcases q1 with⟨a,e,⟨xs,hq⟩,q⟩|⟨a,e,⟨xs,hq⟩,q⟩|⟨z,e,q⟩
 .subst e
  cases r1
  obtain⟨its,rv,p,hz⟩:=I1.list hq
  refine wpAny_pyIter_list p.isList ?_
  refine⟨s1.heap.objs.size,[s1.heap.objs.size],_,_,H1,rfl,I1.kept (t':=s1.toks) fun b o e=>ac _ e,jH' a _,⟨_,aC _ rfl,rfl,rfl⟩,fun b hb=>?_,q⟩
  have e:b=s1.heap.objs.size:=by simpa using hb
  subst e
  exact I1.fpOk (ah _) (I1.hok.fresh (ah _))
 .subst e
  cases r1
  obtain⟨its,rv,p,hz⟩:=I1.tuple hq
  refine bR (show s1.heap.IsTuple a its.toArray from p) ?_
  refine⟨s1.heap.objs.size,[s1.heap.objs.size],_,_,H1,rfl,I1.kept (t':=s1.toks) fun b o e=>ac _ e,iS' a _,⟨_,aC _ rfl,rfl,rfl⟩,fun b hb=>?_,q⟩
  have e:b=s1.heap.objs.size:=by simpa using hb
  subst e
  exact I1.fpOk (ah _) (I1.hok.fresh (ah _))
 .subst e
  obtain⟨t,rfl⟩:=r1
  have fin:∀(ty:String),(ty="str_ascii_iterator"\/ty="str_iterator")->PIE X p_ σ tg R (.ref s1.heap.objs.size) { s1 with heap:=s1.heap.push { cls:=.type ty,data:=.fields #[.str z t,.int 0 0] } }:=fun ty hty=>by
   refine⟨s1.heap.objs.size,[s1.heap.objs.size],_,_,H1,rfl,I1.kept (t':=s1.toks) fun b o e=>ac _ e,mR' _ z ty t hty,⟨_,aC _ rfl,rfl,rfl⟩,fun b hb=>?_,q⟩
   have e:b=s1.heap.objs.size:=by simpa using hb
   subst e
   exact I1.fpOk (ah _) (I1.hok.fresh (ah _))
  cases ha:z.cps.all (· < 128)
  .exact wpAny_pyIter_wide ha (fin _ (.inr rfl))
  .exact wpAny_pyIter_ascii ha (fin _ (.inl rfl))
def xY' (K:W.Frag) (ta:TA):TI:=fun σ H R=>ta σ H fun vs H1=>∃(k j:Bool) (a b:Addr),vs=[.ref a,.ref b]/\(∃xs,Sq k K H1 a xs)/\(∃ys,Sq j K H1 b ys)/\R (sD' k j K a b) H1
theorem ts' {a b:Expr} {ta:TA} {p pos:Pos} {elts:List Expr} {kt:Nat} {pt:Pos} (hg:Gl X "zip") (hm:X.mg "zip"=none) (ha:PA X [a,b] ta) (hs:starEach [a,b] X.env=[(false,eval a X.env),(false,eval b X.env)]) (hs2:starEach [b] X.env=[(false,eval b X.env)]):
  PI X (.Tuple elts kt pt) (.Call (.Name "zip" p) [a,b] [] pos) (xY' X.K ta):=by
 intro p_ s σ H R I h
 refine Call_ (fL' I hg hm boot_zip (PyProof.Rows.callWith_type1 (thn (ha pos p_ s σ H _ I h) fun us s1 ⟨vs,H1,I1,r1,q1⟩=>?_) (by rw[hs,hs2]) (by rw[hs2];rfl)))
 obtain⟨k,j,a,b,e,⟨xs,hxs⟩,⟨ys,hys⟩,q⟩:=q1
 subst e
 cases r1 with
 |cons r rr=>
  cases rr with
  |cons r' rr=>
   cases rr
   cases r
   cases r'
   obtain⟨us,rus,ous,_⟩:=I1.sq hxs
   obtain⟨vs,rvs,ovs,_⟩:=I1.sq hys
   refine p7' ous ovs fun h' hz hTI hTO h1 h2 hsz hk=>wpAny_pyIter_zip hz ?_
   refine⟨s1.heap.objs.size+4,[s1.heap.objs.size+4,s1.heap.objs.size+2,s1.heap.objs.size+3,s1.heap.objs.size,s1.heap.objs.size+1],_,_,H1,rfl,I1.kept (t':=s1.toks) hk,mS' (k:=k) (j:=j) (PyProof.Rows.zipApart_new ous.lt ovs.lt),⟨hz,hTI,⟨_,_,hTO⟩,h1,h2⟩,fun c hc=>?_,q⟩
   have hle:s1.heap.objs.size<=c:=by
    simp only[au,aA,or_false]at hc
    rcases hc with rfl|rfl|rfl|rfl|rfl
    .exact bq _ _
    .exact bq _ _
    .exact bq _ _
    .exact ah _
    .exact bq _ _
   exact I1.fpOk hle (I1.hok.fresh hle)
end
def Itd (go:Nat->Hp->Prop) (val:Nat->Hp->V->Prop) (stop:Nat->Hp->Prop):It:=
 ⟨go,fun i H v H'=>∃p x,v=.ref p/\H p=none/\val i H x/\H'=upd H p (.tup [.int i,x]),stop⟩
structure EnSrc (P:Program) (w:World) (K:W.Frag) (e it:Addr) (Sx:Nat->Heap->Prop) (go:Nat->Hp->Prop) (val:Nat->Hp->V->Prop) (stop:Nat->Hp->Prop):Prop where
 ne:e≠it
 obj:∀i h,Sx i h->∃o,h.get? it=some o/\∀v,o.data≠.cell v
 keep:∀i h h',Sx i h->(∀o,h.get? it=some o->h'.get? it=some o)->Sx i h'
 item:∀(X:Cx),X.prog=P->X.w=w->X.K=K->X.calm=true->∀(i:Nat) (p_:List (Addr×Obj)) (s:Shared) (σ:St) (H:Hp),Inv X p_ σ H s->H e=none->H it=none->e<s.heap.objs.size->(∃old,IsEnum s.heap e it i old)->Sx i s.heap->go i H->
  ∃n Pd Sd fp,Draws P w X.A.in1 it fp n Pd Sd/\e∉fp/\i<n/\Sd i s.heap/\(∀j h,Sd j h->Sx j h)/\∀u,Pd i u->∃x,ax' x u/\val i H x
 done:∀(X:Cx),X.prog=P->X.w=w->X.K=K->X.calm=true->∀(i:Nat) (p_:List (Addr×Obj)) (s:Shared) (σ:St) (H:Hp),Inv X p_ σ H s->H e=none->H it=none->(∃old,IsEnum s.heap e it i old)->Sx i s.heap->stop i H->
  ∃Pd Sd fp,Draws P w X.A.in1 it fp i Pd Sd/\Sd i s.heap
theorem d8' {P:Program} {w:World} {K:W.Frag} {elts:List Expr} {kt:Nat} {pt:Pos} {e it:Addr} {Sx:Nat->Heap->Prop} {go:Nat->Hp->Prop} {val:Nat->Hp->V->Prop} {stop:Nat->Hp->Prop} (S:EnSrc P w K e it Sx go val stop):
  Turn P w K (.Tuple elts kt pt) (Itd go val stop) [e,it] e (fun i h=>(∃old,IsEnum h e it i old)/\Sx i h) where
 mem:=by simp
 obj:=fun i h st b hb=>by
  obtain⟨⟨old,he⟩,hs⟩:=st
  simp only[au,aA,or_false]at hb
  rcases hb with rfl|rfl
  .exact⟨_,he,fun v=>(nomatch ·)⟩
  .exact S.obj i h hs
 keep:=fun i h h' st kk=>by
  obtain⟨⟨old,he⟩,hs⟩:=st
  exact⟨⟨old,kk e (by simp) _ he⟩,S.keep i h h' hs fun o q=>kk it (by simp) o q⟩
 item:=by
  intro X hP hw hK hc i p_ s σ H E I hf st hg
  have hfe:=hf e (by simp)
  have hfi:=hf it (by simp)
  obtain⟨n,Pd,Sd,fp,D,hefp,hin,hsd,hsub,hval⟩:=S.item X hP hw hK hc i p_ s σ H I hfe.1 hfi.1 (ax st.1.choose_spec) st.1 st.2 hg
  obtain⟨⟨old,he⟩,hs⟩:=st
  subst hP hw hK
  refine wpAny_pyNext_enum_itemD D he hsd hin S.ne hefp fun u h' tk hPu ho hs' hT hsz hk=>?_
  obtain⟨x,rx,vx⟩:=hval u hPu
  refine⟨_,rfl,wpAny_letOwnedTupleGo_enum (s:={ s with heap:=h',toks:=tk+1 }) ho fun h'' he'' hb=>?_⟩
  have hb':bU e h' h'':=hb
  have elt:e<s.heap.objs.size:=ax he
  have neT:s.heap.objs.size≠e:=bP elt
  have hTn:H s.heap.objs.size=none:=I.hok.fresh (ah _)
  have hkk:∀c o,c∉[e,it]->s.heap.get? c=some o->h''.get? c=some o:=fun c o hc q=>by
   simp only[au,aA,or_false,not_or]at hc
   exact(hb'.2 c hc.1).trans (hk c o hc.1 hc.2 q)
  have trk:∀c o,H c=some o->c∉[e,it]:=fun c o q hc=>by rw[(hf c hc).1]at q;cases q
  have I1:Inv X p_ σ (upd H s.heap.objs.size (.tup [.int i,x])) { s with heap:=h'',toks:=tk+1 }:=by
   refine I.step (g':=s.gens) (d':=s.drawn) (t':=tk+1) (ch:=[e,it]) (fun c hc=>?_) (fun c o _ _ hc q _=>hkk c o hc q) (fun c o _ _ hc q _=>⟨o.slots,hkk c o hc q⟩)
    (fun c o _ q n=>by rw[af' (aH (ax q))];exact n) (fun c o hc q=>⟨o,hkk c o hc q⟩) (fun c ps q=>by rw[af' (ah' q hTn)];exact q) (fun c o p q=>by rw[af' (ah' q hTn)];exact q)
    (fun c ps q=>⟨#[],by rw[af' (ah' q hTn),q];simp⟩) (fun m hm=>?_) (fun c o q=>?_) I.bare
   .obtain⟨f0,f1,f2,f3,f4,f5⟩:=hf c hc
    exact⟨f3,f1,f4,f5⟩
   .obtain⟨oo,es,ep,ho,r⟩:=hm
    exact⟨oo,es,ep,hkk _ oo (fun hc=>(hf _ hc).2.1 rfl) ho,r⟩
   .by_cases hb:c=s.heap.objs.size
    .subst hb
     rw[ab']at q;cases q
     exact⟨by show 2<=sizeLine;decide,[.int i tk,u],.cons ⟨_,rfl⟩ (.cons rx .nil),⟨_,(hb'.2 _ neT).trans hT,rfl,⟨_,rfl⟩,rfl⟩⟩
    .rw[af' hb]at q
     refine(I.hok c o q).stay (fun d q hd eq=>hkk d q ?_ eq) (fun d q=>by rw[af' (ah' q hTn)];exact q) fun d qs q=>by rw[af' (ah' q hTn)];exact q
     rcases hd with rfl|hd
     .exact trk _ _ (by assumption)
     .exact trk _ _ hd
  refine⟨.ref s.heap.objs.size,_,I1,rfl,⟨s.heap.objs.size,x,rfl,hTn,vx,rfl⟩,⟨⟨_,he''⟩,S.keep _ _ _ (hsub _ _ hs') fun o q=>(hb'.2 it (Ne.symm S.ne)).trans q⟩,fun c hc=>?_⟩
  rw[af']
  .exact(hf c hc).1
  .intro q
   subst q
   simp only[au,aA,or_false]at hc
   rcases hc with q|q
   .exact neT q
   .obtain⟨o,e1,_⟩:=S.obj _ _ hs
    exact bc _ (q ▸ ax e1)
 done:=by
  intro X hP hw hK hc i p_ s σ H E I hf st hg
  have hfe:=hf e (by simp)
  have hfi:=hf it (by simp)
  obtain⟨Pd,Sd,fp,D,hsd⟩:=S.done X hP hw hK hc i p_ s σ H I hfe.1 hfi.1 st.1 st.2 hg
  obtain⟨⟨old,he⟩,hs⟩:=st
  subst hP hw hK
  refine wpAny_pyNext_enum_endD D he hsd fun h' hx=>⟨rfl,?_⟩
  obtain⟨f0,f1,f2,f3,f4,f5⟩:=hfi
  exact I.turned (t':=s.toks) (fun b o hb q=>hx b o hb q) f0 f1 f3 f4 f5
 self:=fun _ _ _ _ _ st h=>by
  obtain⟨⟨old,he⟩,_⟩:=st
  exact wpAny_pyIter_enum he h
def Ite (K:W.Frag) (a:Addr):It:=Itd (fun i H=>∃xs x,SqL K H a xs/\xs[i]?=some x) (fun i H x=>∀xs,SqL K H a xs->xs[i]?=some x) (fun i H=>∃xs,SqL K H a xs/\xs.length=i)
theorem p9' {P:Program} {w:World} {K:W.Frag} {e it a:Addr} (ne:e≠it) (na:a≠e) (nai:a≠it):EnSrc P w K e it (fun i h=>h.IsListIter it a i) (fun i H=>∃xs x,SqL K H a xs/\xs[i]?=some x) (fun i H x=>∀xs,SqL K H a xs->xs[i]?=some x) (fun i H=>∃xs,SqL K H a xs/\xs.length=i) where
 ne:=ne
 obj:=fun i h st=>by
  obtain⟨o,q,c,d⟩:=st
  exact⟨o,q,fun v z=>by rw[d]at z;cases z⟩
 keep:=fun i h h' st k=>st.at k
 item:=by
  intro X hP hw hK hc i p_ s σ H I _ _ _ _ st hg
  obtain⟨xs,x,hxs,hx⟩:=hg
  subst hP hw hK
  obtain⟨its,rv,p,hz⟩:=I.list hxs
  have hl:=rv.length
  obtain⟨u,hu,ru⟩:=rv.get hx
  refine⟨_,_,_,_,Draws.list (show X.A.in1.handled=none from I.ok.hd hc) it a nai its.toArray,?_,?_,⟨st,p.isList⟩,fun j h q=>q.1,fun u' hu'=>⟨x,?_,fun ys hys=>by rw[I.list_inj hys hxs];exact hx⟩⟩
  .simp only[au,aA,or_false,not_or]
   exact⟨ne,Ne.symm na⟩
  .have:=(aB.mp hx).1
   simp;omega
  .have e2:its[i]?=some u':=by simpa using hu'
   rw[hu]at e2
   cases e2
   exact ru
 done:=by
  intro X hP hw hK hc i p_ s σ H I _ _ _ st hg
  obtain⟨xs,hxs,hx⟩:=hg
  subst hP hw hK
  obtain⟨its,rv,p,hz⟩:=I.list hxs
  have hl:=rv.length
  have e:i=its.toArray.size:=by simp;omega
  subst e
  exact⟨_,_,_,Draws.list (show X.A.in1.handled=none from I.ok.hd hc) it a nai its.toArray,st,p.isList⟩
def xh' (z:Str):It:=Itd (fun i _=>i<z.cps.size) (fun i _ v=>∃c,z.cps[i]?=some c/\v=.str ⟨#[c]⟩) (fun i _=>z.cps.size=i)
theorem tt' {P:Program} {w:World} {K:W.Frag} {e it:Addr} {z:Str} {t:Tok} {ty:String} (hty:ty="str_ascii_iterator"\/ty="str_iterator") (ne:e≠it):EnSrc P w K e it (fun i h=>h.IsStrIter it ty z t i) (fun i _=>i<z.cps.size) (fun i _ v=>∃c,z.cps[i]?=some c/\v=.str ⟨#[c]⟩) (fun i _=>z.cps.size=i) where
 ne:=ne
 obj:=fun i h st=>by
  obtain⟨o,q,c,d⟩:=st
  exact⟨o,q,fun v z=>by rw[d]at z;cases z⟩
 keep:=fun i h h' st k=>by
  obtain⟨o,q,r⟩:=st
  exact⟨o,k o q,r⟩
 item:=by
  intro X hP hw hK hc i p_ s σ H I _ _ _ _ st hg
  subst hP hw hK
  have hh:X.A.in1.handled=none:=I.ok.hd hc
  rcases hty with rfl|rfl
  .refine⟨_,_,_,_,Draws.strAscii hh it z t,by simpa using ne,hg,st,fun j h q=>q,fun u hu=>?_⟩
   obtain⟨c,t',hc',rfl⟩:=hu
   exact⟨.str ⟨#[c]⟩,⟨_,rfl⟩,c,hc',rfl⟩
  .refine⟨_,_,_,_,Draws.strWide hh it z t,by simpa using ne,hg,st,fun j h q=>q,fun u hu=>?_⟩
   obtain⟨c,t',hc',rfl⟩:=hu
   exact⟨.str ⟨#[c]⟩,⟨_,rfl⟩,c,hc',rfl⟩
 done:=by
  intro X hP hw hK hc i p_ s σ H I _ _ _ st hg
  subst hP hw hK
  have hh:X.A.in1.handled=none:=I.ok.hd hc
  have hg':z.cps.size=i:=hg
  subst hg'
  rcases hty with rfl|rfl
  .exact⟨_,_,_,Draws.strAscii hh it z t,st⟩
  .exact⟨_,_,_,Draws.strWide hh it z t,st⟩
theorem fX' {prog:Program} {w:World} {A:Around} (hh:A.handled=none) (it l:Addr) (hne:l≠it) (items:Array Value):
  Draws prog w A it [it,l] items.size (fun i v=>items[i]?=some v) (fun i h=>cn' true h it l i/\d7' true h l items) where
 live:=fun _ _ st=>let⟨o,ho,_⟩:=st.1.obj;⟨o,ho⟩
 frame:=fun _ _ _ st hk=>⟨st.1.at fun o e=>hk it (by simp) o e,st.2.at fun o e=>hk l (by simp) o e⟩
 item:=fun i s Q E hi st hQ=>by
  refine a4' st.1 st.2 (x:=items[i]) (by simp[hi]) fun h' hit' hs'=>?_
  exact hQ _ h' s.toks (by simp[hi]) ⟨hit',st.2.at fun o e=>hs'.extBut l o hne e⟩ hs'
 done:=fun s Q E st hE=>co' hh st.1 st.2 (by simp) hE
set_option tactic.hygienic true in
open AutoSeq1 (wpAny_loadPart') in
theorem cB' (l:Addr) (items:Array Value) (n:Nat) (dct:Option Addr) (sl:Array (Option Value)):
  Meets (Builtin.«enumerate.__new__» ⟨[.type "enumerate",.ref l],[]⟩) (fun _ R s=>s.heap.get? l=some { cls:=.type "tuple",dict:=dct,data:=.seq items n,slots:=sl }/\
   R (.ok (.ret (.ref (s.heap.push { cls:=.type "tuple_iterator",data:=.fields #[.ref l,.int 0 0] }).objs.size)))
    { s with heap:=(s.heap.push { cls:=.type "tuple_iterator",data:=.fields #[.ref l,.int 0 0] }).push { cls:=.type "enumerate",data:=.fields #[.none,.bool false,.ref s.heap.objs.size,rawInt 0,.none,.none] } }):=
 .of_wp fun prog w A R s h=>by
  obtain⟨hp,g,d,tk,os⟩:=s;obtain⟨hl,h⟩:=h
  have hsub:=sub_enumerate
  have hL:Heap.IsTuple (Shared.heap ⟨hp,g,d,tk,os⟩) l items:=⟨_,hl,rfl,n,rfl⟩
  wp_walk using wpAny_loadPart' hl
  refine wpAny_stack_any fun st=>ag ?_
  split
  .rename_i c _ _ _ _ _
   cases(c == Value.type "enumerate")
   .wp_walk using wpAny_loadPart' hl,bR hL
    exact⟨_,rfl,h⟩
   .wp_walk using wpAny_loadPart' hl,bR hL
    exact⟨_,rfl,h⟩
  .wp_walk using wpAny_loadPart' hl,bR hL
   exact⟨_,rfl,h⟩
theorem cC' {prog:Program} {w:World} {A:Around} {E:Value->Shared->Prop} {s:Shared} {l:Addr} {items:Array Value} {Q:Value->Shared->Prop} (hL:s.heap.IsTuple l items)
  (h:∀h',IsEnum h' (s.heap.objs.size+1) s.heap.objs.size 0 .none->cn' true h' s.heap.objs.size l 0->h'.objs.size=s.heap.objs.size+2->
   (∀b o,s.heap.get? b=some o->h'.get? b=some o)->Q (.ref (s.heap.objs.size+1)) { s with heap:=h' }):
  wpAny (model prog w) A (call (.type "enumerate") [.ref l]) Q E s:=by
 obtain⟨⟨c,dct,dt,sl⟩,hl,hc,n,hd⟩:=hL
 replace hc:c=.type "tuple":=hc
 replace hd:dt=.seq items n:=hd
 subst hc hd
 refine callType_new F.called_enumerate (by decide) (F.typeCall_enumerate_1 _) (F.newCall_enumerate_1 _) (fun obj=>F.args_object_init_2 obj _) F.entry_enumerate_new
  (cB' l items n dct sl) ⟨hl,?_⟩
 have hz:(s.heap.push { cls:=.type "tuple_iterator",data:=.fields #[.ref l,.int 0 0] }).objs.size=s.heap.objs.size+1:=bu ..
 show _/\_
 rw[hz]
 have he:IsEnum ((s.heap.push { cls:=.type "tuple_iterator",data:=.fields #[.ref l,.int 0 0] }).push
   { cls:=.type "enumerate",data:=.fields #[.none,.bool false,.ref s.heap.objs.size,rawInt 0,.none,.none] }) (s.heap.objs.size+1) s.heap.objs.size 0 .none:=by
  have:=aC (s.heap.push { cls:=.type "tuple_iterator",data:=.fields #[.ref l,.int 0 0] })
   (o:={ cls:=.type "enumerate",data:=.fields #[.none,.bool false,.ref s.heap.objs.size,rawInt 0,.none,.none] }) rfl
  rw[hz]at this;exact this
 refine⟨⟨_,he,rfl⟩,h _ he ⟨_,ac _ (aC _ rfl),rfl,rfl⟩ (by rw[bu,hz]) fun b o x=>ac _ (ac _ x)⟩
def xi' (K:W.Frag) (a:Addr):It:=Itd (fun i H=>∃xs x,SqT K H a xs/\xs[i]?=some x) (fun i H x=>∀xs,SqT K H a xs->xs[i]?=some x) (fun i H=>∃xs,SqT K H a xs/\xs.length=i)
theorem tu' {P:Program} {w:World} {K:W.Frag} {e it a:Addr} (ne:e≠it) (na:a≠e) (nai:a≠it):EnSrc P w K e it (fun i h=>cn' true h it a i) (fun i H=>∃xs x,SqT K H a xs/\xs[i]?=some x) (fun i H x=>∀xs,SqT K H a xs->xs[i]?=some x) (fun i H=>∃xs,SqT K H a xs/\xs.length=i) where
 ne:=ne
 obj:=fun i h st=>by
  obtain⟨o,q,d⟩:=st.obj
  exact⟨o,q,fun v z=>by rw[d]at z;cases z⟩
 keep:=fun i h h' st k=>st.at k
 item:=by
  intro X hP hw hK hc i p_ s σ H I _ _ _ _ st hg
  obtain⟨xs,x,hxs,hx⟩:=hg
  subst hP hw hK
  obtain⟨its,rv,p,hz⟩:=I.tuple hxs
  have hl:=rv.length
  obtain⟨u,hu,ru⟩:=rv.get hx
  refine⟨_,_,_,_,fX' (show X.A.in1.handled=none from I.ok.hd hc) it a nai its.toArray,?_,?_,⟨st,p⟩,fun j h q=>q.1,fun u' hu'=>⟨x,?_,fun ys hys=>by rw[I.tuple_inj hys hxs];exact hx⟩⟩
  .simp only[au,aA,or_false,not_or]
   exact⟨ne,Ne.symm na⟩
  .have:=(aB.mp hx).1
   simp;omega
  .have e2:its[i]?=some u':=by simpa using hu'
   rw[hu]at e2
   cases e2
   exact ru
 done:=by
  intro X hP hw hK hc i p_ s σ H I _ _ _ st hg
  obtain⟨xs,hxs,hx⟩:=hg
  subst hP hw hK
  obtain⟨its,rv,p,hz⟩:=I.tuple hxs
  have hl:=rv.length
  have e:i=its.toArray.size:=by simp;omega
  subst e
  exact⟨_,_,_,fX' (show X.A.in1.handled=none from I.ok.hd hc) it a nai its.toArray,st,p⟩
section
variable {X:Cx}
def qa' (K:W.Frag) (tl:TE):TI:=fun σ H R=>cA' tl jC' σ H fun vs H1=>∃x,vs=[x]/\
 ((∃a,x=.ref a/\(∃xs,SqL K H1 a xs)/\R (Ite K a) H1)\/(∃z,x=.str z/\R (xh' z) H1)\/∃a,x=.ref a/\(∃xs,SqT K H1 a xs)/\R (xi' K a) H1)
theorem eF':bootBuiltins "enumerate"=some (.type "enumerate"):=⋯
theorem qb' {a:Expr} {tl:TE} {p pos:Pos} {elts:List Expr} {kt:Nat} {pt:Pos} (hg:Gl X "enumerate") (hm:X.mg "enumerate"=none) (ha:PA X [a] (cA' tl jC')) (hs:starEach [a] X.env=[(false,eval a X.env)]):
  PI X (.Tuple elts kt pt) (.Call (.Name "enumerate" p) [a] [] pos) (qa' X.K tl):=by
 intro p_ s σ H R I h
 have h':cA' tl jC' σ H (fun vs H1=>∃x,vs=[x]/\((∃a,x=.ref a/\(∃xs,SqL X.K H1 a xs)/\R (Ite X.K a) H1)\/(∃z,x=.str z/\R (xh' z) H1)\/∃a,x=.ref a/\(∃xs,SqT X.K H1 a xs)/\R (xi' X.K a) H1)):=h
 refine Call_ (fL' I hg hm eF' (PyProof.Rows.callWith_type1 (thn (ha pos p_ s σ H _ I h') fun us s1 ⟨vs,H1,I1,r1,q1⟩=>?_) (by rw[hs];rfl) (by rfl)))
 obtain⟨x,e,q1⟩:=q1
 subst e
 cases r1 with
 |cons r rr=>
  cases rr
  rcases q1 with⟨a,rfl,⟨xs,hxs⟩,q⟩|⟨z,rfl,q⟩|⟨a,rfl,⟨xs,hxs⟩,q⟩
  .cases r
   obtain⟨its,rv,pl,hz⟩:=I1.list hxs
   refine call_enumerate_list pl.isList fun h' he hit hsz hk=>wpAny_pyIter_enum he ?_
   have la:a<s1.heap.objs.size:=by
    obtain⟨o,q,_⟩:=pl.isList
    exact ax q
   refine⟨s1.heap.objs.size+1,[s1.heap.objs.size+1,s1.heap.objs.size],_,_,H1,rfl,I1.kept (t':=s1.toks) hk,d8' (p9' (Nat.succ_ne_self _) (aH (cV la)) (aH la)),⟨⟨_,he⟩,hit⟩,fun c hc=>?_,q⟩
   have hle:s1.heap.objs.size<=c:=by
    simp only[au,aA,or_false]at hc
    rcases hc with rfl|rfl<;>omega
   exact I1.fpOk hle (I1.hok.fresh hle)
  .obtain⟨t,rfl⟩:=r
   refine call_enumerate_str fun h' he hit hsz hk=>wpAny_pyIter_enum he ?_
   have hty:strIterType z="str_ascii_iterator"\/strIterType z="str_iterator":=by
    unfold strIterType
    split
    .exact .inl rfl
    .exact .inr rfl
   refine⟨s1.heap.objs.size+1,[s1.heap.objs.size+1,s1.heap.objs.size],_,_,H1,rfl,I1.kept (t':=s1.toks) hk,d8' (tt' hty (Nat.succ_ne_self _)),⟨⟨_,he⟩,hit⟩,fun c hc=>?_,q⟩
   have hle:s1.heap.objs.size<=c:=by
    simp only[au,aA,or_false]at hc
    rcases hc with rfl|rfl<;>omega
   exact I1.fpOk hle (I1.hok.fresh hle)
  .cases r
   obtain⟨its,rv,pl,hz⟩:=I1.tuple hxs
   refine cC' (show s1.heap.IsTuple a its.toArray from pl) fun h' he hit hsz hk=>wpAny_pyIter_enum he ?_
   have la:a<s1.heap.objs.size:=by
    obtain⟨o,q,_⟩:=pl
    exact ax q
   refine⟨s1.heap.objs.size+1,[s1.heap.objs.size+1,s1.heap.objs.size],_,_,H1,rfl,I1.kept (t':=s1.toks) hk,d8' (tu' (Nat.succ_ne_self _) (aH (cV la)) (aH la)),⟨⟨_,he⟩,hit⟩,fun c hc=>?_,q⟩
   have hle:s1.heap.objs.size<=c:=by
    simp only[au,aA,or_false]at hc
    rcases hc with rfl|rfl<;>omega
   exact I1.fpOk hle (I1.hok.fresh hle)
end
section
variable {X:Cx}
theorem fi':a2' X (.type "int") (fun xs H Q=>∃x n,xs=[.str x]/\PySem.intText? x=some n/\x.length<=640/\Q (.int n) H):=by
 intro p_ s σ H xs us Q I r h
 obtain⟨x,n,rfl,hn,hl,q⟩:=h
 obtain⟨u,rfl,t,rfl⟩:=eC' r
 exact W.KIN.call_text hn hl ⟨.int n,H,I.tok _,⟨_,rfl⟩,q⟩
def zS':List V->Hp->VK->Prop:=fun xs H Q=>((∃i,xs=[.int i]/\Q (.int i) H)\/∃k,xs=[.bl k]/\Q (.int (if k then 1 else 0)) H)\/∃x n,xs=[.str x]/\PySem.intText? x=some n/\x.length<=640/\Q (.int n) H
theorem j6':a2' X (.type "int") zS':=jO'.or fi'
def xZ':R2:=fun x y H Q=>∃a n,x=.str a/\y=.int n/\-1000000<=n/\n<=1000000/\a.length*n.toNat<=1000000/\Q (.str (Txt.mul a n)) H
theorem i5':OpR X (binaryOp .Mult) xZ':=by
 intro p_ s σ H x y v u Q I rx ry h
 obtain⟨a,n,rfl,rfl,h1,h2,h3,q⟩:=h
 obtain⟨t,rfl⟩:=rx
 obtain⟨t',rfl⟩:=ry
 refine SB.mul ⟨?_,fun hn hc=>?_,fun hn hc=>?_⟩ fun t' k=>⟨.str (Txt.mul a n),H,I.tok _,⟨_,rfl⟩,q⟩
 .have e1:¬n < -(2 ^ 63:Int):=by omega
  have e2:¬n ≥ 2 ^ 63:=by omega
  simp[e1,e2]
  omega
 .have hn0:0<n:=by omega
  intro hgt
  have h4:(a.length:Int)*n<=1000000:=by
   have:((a.length*n.toNat:Nat):Int)<=1000000:=by omega
   rw[Int.natCast_mul,Int.toNat_of_nonneg ⋯]at this
   exact this
  have h5:=(Int.ediv_lt_iff_lt_mul hn0).mp hgt
  omega
 .have e:Builtin.Str.tooLong (a.length*n.toNat)=false:=by
   unfold Builtin.Str.tooLong
   have:sizeLine=16777216:=sizeLine_eq
   simp
   omega
  exact e
def tv' (K:W.Frag):V->List V->Hp->VK->Prop:=fun x xs H Q=>∃(sep:Str) (p:Addr) (ys:List Str),x=.str sep/\xs=[.ref p]/\(SqL K H p (ys.map V.str)\/SqT K H p (ys.map V.str))/\(ys.map (·.length)).sum+ys.length*sep.length<=16777216/\Q (.str (Txt.join sep ys)) H
theorem dr':∀{ys:List Str} {us:List Value},aE' (ys.map V.str) us->StrsAre us ys
 | [],us,h=>by
  have e:=h.zero
  subst e
  exact .nil
 |y :: ys,_,.cons r t=>by
  obtain⟨k,rfl⟩:=r
  exact .cons y k (dr' t)
theorem qc':MtR X "str.join" (tv' X.K):=by
 intro p_ s σ H x xs v us Q I rx rv h
 obtain⟨sep,p,ys,rfl,rfl,hs,hz,q⟩:=h
 obtain⟨t,rfl⟩:=rx
 obtain⟨u,rfl,ru⟩:=rv.one
 cases ru
 rcases hs with hs|hs
 .obtain⟨its,r,pl,_⟩:=I.list hs
  exact join_list pl.isList (dr' r) hz fun t' k=>⟨.str _,H,I.tok _,⟨_,rfl⟩,q⟩
 .obtain⟨its,r,pl,_⟩:=I.tuple hs
  exact join_tuple pl (dr' r) hz fun t' k=>⟨.str _,H,I.tok _,⟨_,rfl⟩,q⟩
def AD':V->Option Int->Option Int->Hp->VK->Prop:=fun x lo hi H Q=>∃a,x=.str a/\a.length<=sizeLine/\Q (.str (Txt.slice a lo hi)) H
theorem tw':SlR X AD':=by
 intro p_ s σ H x v vl vu lo hi sl Q I rx hs pl pu h
 obtain⟨a,rfl,hz,q⟩:=h
 obtain⟨t,rfl⟩:=rx
 have fin:∀(l u:Option (Int×Tok)),l.map (·.1)=lo->u.map (·.1)=hi->s.heap.IsSlice sl l u none->wpAny (model X.prog X.w) X.A (getItem (.str a t) (.ref sl)) (EP X p_ σ Q) X.xe s:=by
  intro l u e1 e2 hsl
  refine wpAny_getItem_str_slice (l:=l) (u:=u) (st:=none) hsl rfl ?_
  refine post_val_or_str ?_
  subst e1 e2
  exact⟨aS (Txt.slice_le a _ _) hz,fun t' k=>⟨.str _,H,I.tok _,⟨_,rfl⟩,q⟩⟩
 refine⟨"str",_,F.slot_str_getitem.lookup,typeIs_str _ _ _,?_⟩
 cases pl with
 |none=>
  cases pu with
  |none=>exact fin none none rfl rfl hs
  |int j u=>exact fin none (some (j,u)) rfl rfl hs
 |int i t1=>
  cases pu with
  |none=>exact fin (some (i,t1)) none rfl rfl hs
  |int j u=>exact fin (some (i,t1)) (some (j,u)) rfl rfl hs
def zU' (K:W.Frag) (any:Bool):List V->Hp->VK->Prop:=fun xs H Q=>∃(p:Addr) (bs:List Bool),xs=[.ref p]/\SqL K H p (bs.map V.bl)/\Q (.bl (if any then bs.any id else bs.all id)) H
theorem fY':∀{bs:List Bool} {us:List Value} {i:Nat} {v:Value},aE' (bs.map V.bl) us->us[i]?=some v->∃b,bs[i]?=some b/\v=.bool b
 | [],us,i,v,h,e=>by rw[h.zero]at e;simp at e
 |b :: bs,_,0,v,.cons r t,e=>by
  have r:_=Value.bool b:=r
  simp at e
  exact⟨b,rfl,by rw[<- e];exact r⟩
 |b :: bs,_,i+1,v,.cons r t,e=>by
  obtain⟨b',h1,h2⟩:=fY' (i:=i) t (by simpa using e)
  exact⟨b',by simpa using h1,h2⟩
theorem j7' (bs:List Bool):(av bs.length).all (fun i=>bs.getD i false)=bs.all id:=by
 rw[bQ,bV,bV]
 constructor
 .intro h b hb
  obtain⟨i,hi,rfl⟩:=cm.mp hb
  have:=h i (aI.mpr hi)
  simpa[aF,hi]using this
 .intro h i hi
  have hi:=aI.mp hi
  have:=h bs[i] (bW hi)
  simpa[aF,hi]using this
theorem j8' (hc:X.calm=true):a2' X (.builtin "all") (zU' X.K false):=by
 intro p_ s σ H xs us Q I r h
 obtain⟨p,bs,rfl,hs,q⟩:=h
 obtain⟨u,rfl,ru⟩:=eC' r
 cases ru
 obtain⟨its,rv,pl,hz⟩:=I.list hs
 have hlen:its.toArray.size=bs.length:=by
  have:=rv.length
  rw[ae]at this
  rw[ak,this]
 refine call_all_walk (wpAny_pyIter_list pl.isList ?_)
 have hlt:p<s.heap.objs.size:=by obtain⟨o,n,e,_⟩:=pl;exact ax e
 refine⟨s.heap.objs.size,_,_,_,_,_,fun i=>bs.getD i false,rfl,Walks.list (A:=X.A.in1) (I.ok.hd hc) _ p (aH hlt) its.toArray,⟨⟨_,aC _ rfl,rfl,rfl⟩,Heap.IsList.push pl.isList _⟩,?_,fun h' tk hk=>?_⟩
 .intro i v s' Q' E' hv hq
  obtain⟨b,hb,rfl⟩:=fY' rv (i:=i) (by simpa using hv)
  refine bX ?_
  have e:bs.getD i false=b:=by rw[aF,hb];rfl
  have hq':Q' (bs.getD i false) s':=hq
  rw[e]at hq'
  exact hq'
 .rw[hlen,j7']
  exact⟨.bl _,H,I.kept fun b o e=>hk b o (by simp;exact aH (ax e)) (ac _ e),rfl,q⟩
end
section
variable {X:Cx}
def j9':V->List V->Hp->VK->Prop:=fun x vs H Q=>∃l xs y,∃i:Nat,x=.ref l/\vs=[.int i,y]/\H l=some (.lst xs)/\xs.length<sizeLine/\i<=xs.length/\Q .non (upd H l (.lst (xs.take i++y :: xs.drop i)))
set_option tactic.hygienic true in
theorem ka':MtM X "list.insert" j9':=by
 intro p_ s σ H x vs v us Q I rx rv h
 obtain⟨l,xs,y,i,rfl,rfl,hH,hz,hi,q⟩:=h
 cases rx
 cases rv with
 |cons r1 rv=>
  cases rv with
  |cons r2 rv=>
   cases rv
   obtain⟨t,rfl⟩:=r1
   rename_i u
   obtain⟨z,its,n,r,hl,e⟩:=I.lstM hH
   have hb:i<2 ^ 62:=bA hi (bA z (show 2 ^ 24<2 ^ 62 from Nat.pow_lt_pow_right (by decide) (by decide)))
   have hfit:¬(!Builtin.List.listFitsIndex (i:Int))=true:=by
    unfold Builtin.List.listFitsIndex
    simp
    omega
   have hsz:its.toArray.size<=sizeLine:=by rw[ak];exact hl ▸ z
   generalize hj:(i:Int)=j at hfit
   have M:=AutoListH.list_insert_list_int_val_1 l its.toArray n j t u hfit hsz
   refine call_meets F.slot_list_insert ⟨_,e,rfl⟩ F.entry_list_insert (F.args_list_insert_3 _ _ _) M ⟨e,?_⟩
   subst hj
   refine⟨.non,_,I.lset (its':=its.take i++u :: its.drop i) hH e ?_ ((r.take i).append (.cons r2 (r.drop i))) ?_,rfl,q⟩
   .have hn:¬((i:Int)<0):=by omega
    simp only[hn,if_false,bI,ak]
    rw[Nat.min_eq_left ⋯]
    simp
    exact bK (by simp)
   .simp
    omega
open PySem.SeqAt in
theorem ce' {A:Around} {s:Shared} {x y:V} {u v:Value} (rx:ax' x u) (ry:ax' y v) (h:jB' x y=true/\(∀b,x≠.byt b)\/x=y/\∃a,x=.ref a):EqAt A s u v (decide (x=y)):=by
 rcases h with⟨h,hb⟩|⟨rfl,a,rfl⟩
 .cases x with
  |non=>cases y with
   |non=>cases rx;cases ry;exact EqAt.same _
   |bl b=>cases rx;cases ry;exact EqAt.none_bool _
   |int b=>cases rx;obtain⟨t,rfl⟩:=ry;exact EqAt.none_int _ _
   |str b=>cases rx;obtain⟨t,rfl⟩:=ry;exact EqAt.none_str _ _
   |_=>cases h
  |bl a=>cases y with
   |non=>cases rx;cases ry;exact EqAt.bool_none _
   |bl b=>cases rx;cases ry;have:=EqAt.bool_bool (A:=A) (s:=s) a b;cases a<;>cases b<;>exact this
   |str b=>cases rx;obtain⟨t,rfl⟩:=ry;exact EqAt.bool_str _ _ _
   |_=>cases h
  |int a=>cases y with
   |non=>obtain⟨t,rfl⟩:=rx;cases ry;exact EqAt.int_none _ _
   |int b=>obtain⟨t,rfl⟩:=rx;obtain⟨t',rfl⟩:=ry;rw[fa'];exact EqAt.int_int _ _ _ _
   |str b=>obtain⟨t,rfl⟩:=rx;obtain⟨t',rfl⟩:=ry;exact EqAt.int_str _ _ _ _
   |_=>cases h
  |str a=>cases y with
   |non=>obtain⟨t,rfl⟩:=rx;cases ry;exact EqAt.str_none _ _
   |bl b=>obtain⟨t,rfl⟩:=rx;cases ry;exact EqAt.str_bool _ _ _
   |int b=>obtain⟨t,rfl⟩:=rx;obtain⟨t',rfl⟩:=ry;exact EqAt.str_int _ _ _ _
   |str b=>
    obtain⟨t,rfl⟩:=rx
    obtain⟨t',rfl⟩:=ry
    have e:decide (V.str a=V.str b)=(a == b):=by
     by_cases hab:a=b
     .subst hab;simp
     .rw[decide_eq_false (by intro z;cases z;exact hab rfl)];simp[hab]
    rw[e]
    exact EqAt.str_str _ _ _ _
   |_=>cases h
  |byt b=>exact absurd rfl (hb b)
  |_=>cases y<;>cases h
 .cases rx
  cases ry
  rw[decide_eq_true rfl]
  exact EqAt.same _
def LEq (xs ys:List V):Prop:=∀(i:Nat) x y,xs[i]?=some x->ys[i]?=some y->jB' x y=true/\(∀b,x≠.byt b)\/x=y/\∃a,x=.ref a
def xj' (K:W.Frag) (neg:Bool):V->V->Hp->VK->Prop:=fun x y H Q=>∃p q xs ys,x=.ref p/\y=.ref q/\SqL K H p xs/\SqL K H q ys/\(xs.length=ys.length->LEq xs ys)/\Q (.bl (if neg then !decide (xs=ys)else decide (xs=ys))) H
theorem kb' {xs ys:List V} (h:xs.length=ys.length):(av xs.length).all (fun i=>decide (xs[i]?=ys[i]?))=decide (xs=ys):=by
 by_cases e:xs=ys
 .subst e
  simp
 .rw[decide_eq_false e,Bool.eq_false_iff]
  intro q
  rw[bV]at q
  apply e
  apply bZ
  intro i
  rcases aY i xs.length with hi|hi
  .exact of_decide_eq_true (q i (aI.mpr hi))
  .rw[bg.mpr hi,bg.mpr ⋯]
open PySem.SeqAt in
theorem tx' (hu:X.A.units<cLine):OpR X (compareOp .Eq) (xj' X.K false):=by
 intro p_ s σ H x y v u Q I rx ry h
 obtain⟨p,q,xs,ys,rfl,rfl,hp,hq,he,k⟩:=h
 cases rx
 cases ry
 obtain⟨its,r1,pl1,_⟩:=I.list hp
 obtain⟨its2,r2,pl2,_⟩:=I.list hq
 have l1:=r1.length
 have l2:=r2.length
 by_cases hl:xs.length=ys.length
 .refine eq_listAt (e:=fun i=>decide (xs[i]?=ys[i]?)) pl1.isList pl2.isList (by simp;omega) hu (fun j h1 h2=>?_) ?_
  .have j1:j<xs.length:=by simp at h1;omega
   have j2:j<ys.length:=by omega
   have g1:xs[j]?=some xs[j]:=aa j1
   have g2:ys[j]?=some ys[j]:=aa j2
   obtain⟨u1,e1,ru1⟩:=r1.get g1
   obtain⟨u2,e2,ru2⟩:=r2.get g2
   have f1:its.toArray[j]=u1:=by simp at h1 ⊢;rw[aa h1]at e1;exact Option.some.inj e1
   have f2:its2.toArray[j]=u2:=by simp at h2 ⊢;rw[aa h2]at e2;exact Option.some.inj e2
   rw[f1,f2,g1,g2]
   have e3:decide (some xs[j]=some ys[j])=decide (xs[j]=ys[j]):=by simp
   rw[e3]
   exact ce' ru1 ru2 (he hl j _ _ g1 g2)
  .have e4:(av its.toArray.size).all (fun i=>decide (xs[i]?=ys[i]?))=decide (xs=ys):=by
    rw[ak,<- l1];exact kb' hl
   rw[e4]
   exact⟨.bl _,H,I,rfl,k⟩
 .refine eq_list_lengthsAt pl1.isList pl2.isList (by simp;omega) hu ?_
  rw[decide_eq_false (fun z=>hl (by rw[z]))]at k
  exact⟨.bl false,H,I,rfl,k⟩
open PySem.SeqAt in
theorem ty' (hu:X.A.units<cLine):OpR X (compareOp .NotEq) (xj' X.K true):=by
 intro p_ s σ H x y v u Q I rx ry h
 obtain⟨p,q,xs,ys,rfl,rfl,hp,hq,he,k⟩:=h
 cases rx
 cases ry
 obtain⟨its,r1,pl1,_⟩:=I.list hp
 obtain⟨its2,r2,pl2,_⟩:=I.list hq
 have l1:=r1.length
 have l2:=r2.length
 obtain⟨⟨cls,dd,data,sl⟩,ho,hc,n,hd⟩:=pl1.isList
 obtain⟨⟨cls2,dd2,data2,sl2⟩,ho2,hc2,n2,hd2⟩:=pl2.isList
 simp only at hc hd hc2 hd2
 subst hc hd hc2 hd2
 by_cases hl:xs.length=ys.length
 .refine richCompare_meets_room (op:=.NotEq) ⟨_,ho,rfl⟩ ⟨_,ho2,rfl⟩ F.slot_list_ne F.entry_list_ne (F.args_list_ne_2 _ _) (list_neAt p q its.toArray its2.toArray n n2 dd dd2 sl sl2 (by simp;omega) (fun i=>decide (xs[i]?=ys[i]?))) ⟨ho,ho2,fun j h1 h2=>?_,?_⟩ hu
  .have j1:j<xs.length:=by simp at h1;omega
   have j2:j<ys.length:=by omega
   have g1:xs[j]?=some xs[j]:=aa j1
   have g2:ys[j]?=some ys[j]:=aa j2
   obtain⟨u1,e1,ru1⟩:=r1.get g1
   obtain⟨u2,e2,ru2⟩:=r2.get g2
   have f1:its.toArray[j]=u1:=by simp at h1 ⊢;rw[aa h1]at e1;exact Option.some.inj e1
   have f2:its2.toArray[j]=u2:=by simp at h2 ⊢;rw[aa h2]at e2;exact Option.some.inj e2
   rw[f1,f2,g1,g2]
   have e3:decide (some xs[j]=some ys[j])=decide (xs[j]=ys[j]):=by simp
   rw[e3]
   exact ce' ru1 ru2 (he hl j _ _ g1 g2)
  .have e4:(av its.toArray.size).all (fun i=>decide (xs[i]?=ys[i]?))=decide (xs=ys):=by
    rw[ak,<- l1];exact kb' hl
   rw[e4]
   exact(show Value.bool (!decide (xs=ys))≠Value.notImplemented/\EP X p_ σ Q (Value.bool (!decide (xs=ys))) s from⟨(fun x=>nomatch x),⟨.bl _,H,I,rfl,k⟩⟩)
 .refine richCompare_meets_room (op:=.NotEq) ⟨_,ho,rfl⟩ ⟨_,ho2,rfl⟩ F.slot_list_ne F.entry_list_ne (F.args_list_ne_2 _ _) (list_ne_lengthsAt p q its.toArray its2.toArray n n2 dd dd2 sl sl2 (by simp;omega)) ⟨ho,ho2,?_⟩ hu
  rw[decide_eq_false (fun z=>hl (by rw[z]))]at k
  exact(show Value.bool true≠Value.notImplemented/\EP X p_ σ Q (Value.bool true) s from⟨(fun x=>nomatch x),⟨.bl true,H,I,rfl,k⟩⟩)
def rgs (i:Int) (n:Nat):List V:=(av n).map fun(k:Nat)=>V.int (i+(k:Int))
def zV':List V->Hp->VK->Prop:=fun xs H Q=>∃i j:Int,(xs=[.int i,.int j]\/(i=0/\xs=[.int j]))/\∀p,H p=none->Q (.ref p) (upd H p (.rng i j))
theorem mT':a2' X (.type "range") zV':=by
 intro p_ s σ H xs us Q I rv h
 obtain⟨i,j,hx,q⟩:=h
 have hn:H s.heap.objs.size=none:=I.hok.fresh (ah _)
 rcases hx with rfl|⟨rfl,rfl⟩
 .cases rv with
  |cons r1 rv=>
   cases rv with
   |cons r2 rv=>
    cases rv
    obtain⟨t,rfl⟩:=r1
    obtain⟨u,rfl⟩:=r2
    exact call_range_2 ⟨.ref s.heap.objs.size,_,I.laid (t':=s.toks+1) (fun _ _ e=>ac _ e) (ah _) (o:=.rng i j) ⟨t,u,s.toks,aC _ rfl⟩,rfl,q _ hn⟩
 .cases rv with
  |cons r1 rv=>
   cases rv
   obtain⟨t,rfl⟩:=r1
   exact call_range_1 ⟨.ref s.heap.objs.size,_,I.laid (t':=s.toks+1+1) (fun _ _ e=>ac _ e) (ah _) (o:=.rng 0 j) ⟨s.toks,t,s.toks+1,aC _ rfl⟩,rfl,q _ hn⟩
def zW':List V->Hp->VK->Prop:=fun xs H Q=>∃r i j,xs=[.ref r]/\H r=some (.rng i j)/\(-(2 ^ 62)<=i/\i<2 ^ 62/\-(2 ^ 62)<=j/\j<2 ^ 62)/\(j-i).toNat<=sizeLine/\∀p,H p=none->Q (.ref p) (upd H p (.lst (rgs i (j-i).toNat)))
theorem mU' (hc:X.calm=true):a2' X (.type "list") zW':=by
 intro p_ s σ H xs us Q I rv h
 obtain⟨r,i,j,rfl,hr,⟨h1,h2,h3,h4⟩,hz,q⟩:=h
 cases rv with
 |cons r1 rv=>
  cases rv
  cases r1
  obtain⟨t,u,v,e⟩:=(show aJ' X.prog X.w H s.heap r (.rng i j) from I.hok r _ hr)
  refine call_list_range (n:=(j-i).toNat) (I.ok.hd hc) e (small_one h1 h2 h3 h4) (by rw[rangeSize_one];split<;>omega) hz fun h' tk' acc' c' hk hS hit=>?_
  obtain⟨hsz,hv⟩:=hit
  have hn:H s.heap.objs.size=none:=I.hok.fresh (ah _)
  have key:∀(n:Nat) (l:List Value) (f:Nat->Int),l.length=n->(∀k v,l[k]?=some v->∃t,v=Value.int (f k) t)->aE' ((av n).map fun k=>V.int (f k)) l:=by
   intro n
   induction n with
   |zero=>intro l f hl hv;have:l=[]:=List.length_eq_zero_iff.mp hl;subst this;exact .nil
   |succ n ih=>
    intro l f hl hv
    cases l with
    |nil=>cases hl
    |cons x r=>
     rw[List.range_succ_eq_map,aJ,dk]
     refine .cons (hv 0 x rfl) ?_
     exact ih r (fun k=>f (k+1)) (by simpa using hl) fun k v hk=>hv (k+1) v (by simpa using hk)
  refine⟨.ref s.heap.objs.size,_,I.laid (t':=tk') hk (ah _) (o:=.lst (rgs i (j-i).toNat)) ⟨by unfold rgs;rw[ae,aV];exact hz,acc'.toList,c',?_,hS⟩,rfl,q _ hn⟩
  refine key _ _ (fun k=>i+(k:Int)) (by rw[aG];exact hsz) fun k v hk=>?_
  obtain⟨t,e⟩:=hv k v (by simpa using hk)
  exact⟨t,by rw[e];simp⟩
end
section
variable {X:Cx}
def eV (y:V) (w:Value):Bool:=match w,y with
 | .none,.non=>true
 | .bool a,.bl b=>a == b
 | .int i _,.int j=>i == j
 | .str x _,.str z=>x == z
 |_,_=>false
set_option tactic.hygienic true in
theorem kc' {z y:V} {w:Value} (r:ax' z w) (h:jB' z y=true) (hb:∀b,z≠.byt b):eV y w=decide (z=y):=by
 cases z with
 |non=>cases r;cases y<;>first|rfl|cases h
 |bl a=>cases r;cases y<;>first|(cases h;done)|(rename_i b;cases a<;>cases b<;>rfl)|rfl
 |int a=>
  obtain⟨t,rfl⟩:=r
  cases y<;>first|(cases h;done)|rfl|skip
  rw[fa']
  rfl
 |str a=>
  obtain⟨t,rfl⟩:=r
  cases y<;>first|(cases h;done)|rfl|skip
  rename_i b
  show(a == b)=_
  by_cases hab:a=b
  .subst hab;simp
  .rw[decide_eq_false (by intro z;cases z;exact hab rfl)];simp[hab]
 |byt b=>exact absurd rfl (hb b)
 |_=>cases y<;>cases h
theorem hP' {y:V}:∀{xs:List V} {us:List Value},aE' xs us->(∀z∈xs,jB' z y=true/\∀b,z≠.byt b)->us.countP (eV y)=xs.countP fun z=>decide (z=y)
 |_,_,.nil,_=>rfl
 |_,_,.cons r t,h=>by
  rw[cL,cL,hP' t fun z hz=>h z (aq _ hz),kc' r (h _ aw).1 (h _ aw).2]
theorem hQ' {xs:List V} {us:List Value} {u:Value} (r:aE' xs us) (h:u∈us):∃x∈xs,ax' x u:=by
 obtain⟨i,hi⟩:=bi h
 have hl:=r.length
 have hlt:i<xs.length:=by
  rcases aY i us.length with q|q
  .omega
  .rw[bg.mpr q]at hi;cases hi
 obtain⟨w,e,rw_⟩:=r.get (aa hlt)
 rw[hi]at e
 cases e
 exact⟨_,bW hlt,rw_⟩
theorem qd':OpR X (binaryOp .Mult) (rI IntMulOk fun i j=>.int (i*j)):=opI fun _ _ _ _ _ _ _ hc q=>mul_int q hc
def zX':V->Bool
 | .ty _=>false
 | .byt _=>false
 | .flt _=>false
 |_=>true
def xk' (neg:Bool):R2:=fun x y H Q=>∃b,y=.bl b/\zX' x=true/\Q (.bl (if neg then !decide (x=.bl b)else decide (x=.bl b))) H
theorem tz' {x:V} {v:Value} {b:Bool} (r:ax' x v) (h:zX' x=true):plainIs v (.bool b)=true/\(v == Value.bool b)=decide (x=.bl b):=by
 cases x with
 |non=>cases r;exact⟨rfl,rfl⟩
 |bl a=>cases r;refine⟨rfl,?_⟩;cases a<;>cases b<;>rfl
 |int i=>obtain⟨t,rfl⟩:=r;exact⟨rfl,rfl⟩
 |str i=>obtain⟨t,rfl⟩:=r;exact⟨rfl,rfl⟩
 |ref a=>cases r;exact⟨rfl,rfl⟩
 |_=>cases h
theorem tA':OpR X (compareOp .Is) (xk' false):=by
 intro p_ s σ H x y v u Q I rx ry h
 obtain⟨b,rfl,hp,q⟩:=h
 cases ry
 obtain⟨h1,h2⟩:=tz' (b:=b) rx hp
 exact wpAny_is_plain h1 ⟨.bl _,H,I,by rw[h2];rfl,q⟩
theorem kd':OpR X (compareOp .IsNot) (xk' true):=by
 intro p_ s σ H x y v u Q I rx ry h
 obtain⟨b,rfl,hp,q⟩:=h
 cases ry
 obtain⟨h1,h2⟩:=tz' (b:=b) rx hp
 exact wpAny_isNot_plain h1 ⟨.bl _,H,I,by rw[h2];rfl,q⟩
theorem mV':OpR X (binaryOp .FloorDiv) (rI (fun _ j=>0<j/\j.natAbs.log2<9000) fun i j=>.int (i / j)):=opI fun i j _ _ _ _ _ hc q=>by
 refine floordiv_int ⋯ ?_ (.inl (PyProof.noPylong_of_log2 hc.2))
 rw[Int.fdiv_eq_ediv_of_nonneg i ⋯]
 exact q
end
section
variable {κ:Type} [DecidableEq κ]
def cp' (kvs:List (κ×V)) (k:κ):Option V:=(kvs.find? fun kv=>decide (kv.1=k)).map (·.2)
def eA' (kvs:List (κ×V)) (k:κ) (v:V):List (κ×V):=
 if(kvs.any fun kv=>decide (kv.1=k))=true then kvs.map (fun kv=>if kv.1=k then(kv.1,v)else kv)else kvs++[(k,v)]
theorem aS' {p:κ×V} {r:List (κ×V)} {k:κ} (e:p.1=k):cp' (p :: r) k=some p.2:=by simp[cp',cS,e]
theorem aT' {p:κ×V} {r:List (κ×V)} {k:κ} (e:¬p.1=k):cp' (p :: r) k=cp' r k:=by simp[cp',cS,e]
theorem cq' (k:κ):∀kvs:List (κ×V),(kvs.any fun kv=>decide (kv.1=k))=(cp' kvs k).isSome
 | []=>rfl
 |p :: r=>by
  rw[cA]
  by_cases e:p.1=k
  .simp only[aS' e,decide_eq_true e,Bool.true_or,Option.isSome_some]
  .rw[aT' e,decide_eq_false e,Bool.false_or];exact cq' k r
theorem hT' (k j:κ) (y:V):∀kvs:List (κ×V),cp' (kvs.map fun kv=>if kv.1=k then(kv.1,y)else kv) j=(cp' kvs j).map fun x=>if j=k then y else x
 | []=>rfl
 |p :: r=>by
  have ih:=hT' k j y r
  rw[aJ]
  by_cases h:p.1=k
  .rw[if_pos h]
   by_cases e:p.1=j
   .rw[aS' (p:=(p.1,y)) e,aS' e,cE,if_pos (e.symm.trans h)]
   .rw[aT' (p:=(p.1,y)) e,aT' e,ih]
  .rw[if_neg h]
   by_cases e:p.1=j
   .rw[aS' (p:=p) e,aS' e,cE,if_neg (fun z=>h (e.trans z))]
   .rw[aT' (p:=p) e,aT' e,ih]
theorem fZ' (k j:κ) (y:V):∀kvs:List (κ×V),cp' kvs k=none->cp' (kvs++[(k,y)]) j=if j=k then some y else cp' kvs j
 | [],_=>by
  by_cases e:k=j
  .rw[if_pos e.symm];exact aS' (p:=(k,y)) e
  .rw[if_neg (fun z=>e z.symm)];exact aT' (p:=(k,y)) e
 |p :: r,hn=>by
  rw[df]
  have hk:¬p.1=k:=fun z=>by rw[aS' z]at hn;cases hn
  rw[aT' hk]at hn
  have ih:=fZ' k j y r hn
  by_cases e:p.1=j
  .rw[aS' e,aS' e,if_neg (fun z=>hk (e.trans z))]
  .rw[aT' e,aT' e,ih]
theorem mW' (kvs:List (κ×V)) (k j:κ) (y:V):cp' (eA' kvs k y) j=if j=k then some y else cp' kvs j:=by
 unfold eA'
 by_cases a:(kvs.any fun kv=>decide (kv.1=k))=true
 .rw[if_pos a,hT']
  rw[cq']at a
  by_cases e:j=k
  .obtain⟨x,hx⟩:=cf.mp a
   rw[if_pos e,e,hx,cE,if_pos rfl]
  .rw[if_neg e]
   cases cp' kvs j with
   |none=>rfl
   |some x=>rw[cE,if_neg e]
 .rw[if_neg a]
  refine fZ' k j y kvs ?_
  rw[cq']at a
  cases q:cp' kvs k with
  |none=>rfl
  |some x=>rw[q]at a;exact(a rfl).elim
theorem cJ' (kvs:List (κ×V)) (k:κ) (v:V):(eA' kvs k v).length<=kvs.length+1:=by
 unfold eA'
 split
 .rw[ae];omega
 .rw[aj,aR,List.length_nil];omega
theorem fj' {kvs:List (κ×V)} {k:κ} (v:V) (h:cp' kvs k=none):eA' kvs k v=kvs++[(k,v)]:=by
 unfold eA'
 rw[cq',h]
 exact if_neg (by decide)
theorem jz'.isSome_eq {o:Option V} {u:Option Value} (r:jz' o u):o.isSome=u.isSome:=by
 cases o with
 |none=>cases u with
  |none=>rfl
  |some _=>exact(show False from r).elim
 |some _=>cases u with
  |none=>exact(show False from r).elim
  |some _=>rfl
theorem jz'.getD {o:Option V} {u:Option Value} {d:V} {d':Value} (r:jz' o u) (rd:ax' d d'):ax' (o.getD d) (u.getD d'):=by
 cases o with
 |none=>cases u with
  |none=>exact rd
  |some _=>exact(show False from r).elim
 |some _=>cases u with
  |none=>exact(show False from r).elim
  |some _=>exact r
theorem KV.val {kvs:List (κ×V)} {vs:List (κ×Value)} (r:KV kvs vs) (k:κ):jz' (cp' kvs k) (valueAt vs k):=by
 unfold KV at r
 induction r with
 |nil=>exact True.intro
 | @cons p q ps qs h t ih=>
  obtain⟨h1,h2⟩:=h
  by_cases e:p.1=k
  .have e':q.1=k:=h1.symm.trans e
   have b:valueAt (q :: qs) k=some q.2:=by simp[valueAt,cS,e']
   rw[aS' e,b];exact h2
  .have e':¬q.1=k:=fun z=>e (h1.trans z)
   have b:valueAt (q :: qs) k=valueAt qs k:=by simp[valueAt,cS,e']
   rw[aT' e,b];exact ih
theorem KV.any {kvs:List (κ×V)} {vs:List (κ×Value)} (r:KV kvs vs) (k:κ):(kvs.any fun kv=>decide (kv.1=k))=vs.any fun kv=>decide (kv.1=k):=by
 unfold KV at r
 induction r with
 |nil=>rfl
 |cons h t ih=>rw[cA,cA,ih,h.1]
theorem KV.repl {kvs:List (κ×V)} {vs:List (κ×Value)} (r:KV kvs vs) (k:κ) {y:V} {u:Value} (ry:ax' y u):
  KV (kvs.map fun kv=>if kv.1=k then(kv.1,y)else kv) (vs.map fun kv=>if kv.1=k then(kv.1,u)else kv):=by
 unfold KV at r ⊢
 induction r with
 |nil=>exact .nil
 | @cons p q ps qs h t ih=>
  rw[aJ,aJ]
  refine .cons ?_ ih
  obtain⟨h1,h2⟩:=h
  by_cases e:p.1=k
  .rw[if_pos e,if_pos (h1.symm.trans e)];exact⟨h1,ry⟩
  .rw[if_neg e,if_neg (fun z=>e (h1.trans z))];exact⟨h1,h2⟩
theorem KV.put {kvs:List (κ×V)} {vs:List (κ×Value)} (r:KV kvs vs) (k:κ) {y:V} {u:Value} (ry:ax' y u):KV (eA' kvs k y) (stored vs k u):=by
 unfold eA' stored
 rw[r.any k]
 by_cases e:(vs.any fun kv=>decide (kv.1=k))=true
 .rw[if_pos e,if_pos e];exact r.repl k ry
 .rw[if_neg e,if_neg e];exact Paired.snoc r ⟨rfl,ry⟩
theorem KV.keys {kvs:List (κ×V)} {vs:List (κ×Value)} (r:KV kvs vs):kvs.map (·.1)=vs.map (·.1):=by
 unfold KV at r
 induction r with
 |nil=>rfl
 |cons h t ih=>rw[aJ,aJ,ih,h.1]
theorem KV.length {kvs:List (κ×V)} {vs:List (κ×Value)} (r:KV kvs vs):kvs.length=vs.length:=Paired.length r
end
theorem gN' {P:Program} {w:World} {k:Key} {u:Value} (r:ax' (kV k) u):(au' P w).is k u=true:=by
 cases k with
 |inl i=>obtain⟨t,e⟩:=(show ∃t,u=Value.int i t from r);subst e;exact gE' P w i t
 |inr x=>obtain⟨t,e⟩:=(show ∃t,u=Value.str x t from r);subst e;exact gF' P w x t
 |non=>obtain rfl:u=Value.none:=r;rfl
theorem f0' {P:Program} {w:World}:∀{ks:List Key} {us:List Value},aE' (ks.map kV) us->ItemsAre (au' P w) ks us
 | [],_,r=>by rw[List.map_nil]at r;cases r;exact .nil
 |k :: ks,_,r=>by
  rw[aJ]at r
  cases r with
  |cons h t=>exact .cons (gN' h) (f0' t)
abbrev KT (H:Hp):List (List Key×V)->List (List Key×Addr×Value)->Prop:=Paired fun p q=>p.1=q.1/\H q.2.1=some (.tup (p.1.map kV))/\ax' p.2 q.2.2
theorem KT.val {H:Hp} {kvs:List (List Key×V)} {xs:List (List Key×Addr×Value)} (r:KT H kvs xs) (k:List Key):jz' (cp' kvs k) ((atKey xs k).map (·.2)):=by
 induction r with
 |nil=>exact True.intro
 | @cons p q ps qs h t ih=>
  obtain⟨h1,_,h2⟩:=h
  by_cases e:p.1=k
  .have e':q.1=k:=h1.symm.trans e
   have b:atKey (q :: qs) k=some q.2:=by simp[atKey,cS,e']
   rw[aS' e,b];exact h2
  .have e':¬q.1=k:=fun z=>e (h1.trans z)
   have b:atKey (q :: qs) k=atKey qs k:=by simp[atKey,cS,e']
   rw[aT' e,b];exact ih
theorem KT.repl {H:Hp} {kvs:List (List Key×V)} {xs:List (List Key×Addr×Value)} (r:KT H kvs xs) (k:List Key) {y:V} {u:Value} (ry:ax' y u):
  KT H (kvs.map fun kv=>if kv.1=k then(kv.1,y)else kv) (xs.map (putAt k u)):=by
 induction r with
 |nil=>exact .nil
 | @cons p q ps qs h t ih=>
  rw[aJ,aJ]
  refine .cons ?_ ih
  obtain⟨h1,h2,h3⟩:=h
  unfold putAt
  by_cases e:p.1=k
  .rw[if_pos e,if_pos (h1.symm.trans e)];exact⟨h1,h2,ry⟩
  .rw[if_neg e,if_neg (fun z=>e (h1.trans z))];exact⟨h1,h2,h3⟩
theorem KT.put {H:Hp} {kvs:List (List Key×V)} {xs:List (List Key×Addr×Value)} (r:KT H kvs xs) (k:List Key) {b:Addr} {y:V} {u:Value} (hb:H b=some (.tup (k.map kV))) (ry:ax' y u):
  KT H (eA' kvs k y) (storedH xs k b u):=by
 have e:(kvs.any fun kv=>decide (kv.1=k))=(atKey xs k).isSome:=by
  rw[cq',(r.val k).isSome_eq,Option.isSome_map]
 unfold eA' storedH
 rw[e]
 by_cases q:(atKey xs k).isSome=true
 .rw[if_pos q,if_pos q];exact r.repl k ry
 .rw[if_neg q,if_neg q];exact Paired.snoc r ⟨rfl,hb,ry⟩
theorem KT.keeps {H H':Hp} {kvs:List (List Key×V)} {xs:List (List Key×Addr×Value)} (r:KT H kvs xs) (ht:∀b ys,H b=some (.tup ys)->H' b=some (.tup ys)):KT H' kvs xs:=
 Paired.mapP r fun _ _ z=>⟨z.1,ht _ _ z.2.1,z.2.2⟩
section
variable {P:Program} {w:World} {H:Hp} {h:Heap} {a:Addr}
theorem tC' {u:HO} (ok:HOk P w H h) (e:Rd H a u):aJ' P w H h a u:=e.ok ok
theorem f3' {kvs:List (Key×V)} (ok:HOk P w H h) (e:Rd H a (.dK kvs)):kvs.length<=sizeLine/\(a == sysModules)=false/\∃vs,KV kvs vs/\h.DictOf (au' P w) a vs:=
 show aJ' P w H h a (.dK kvs) from tC' ok e
theorem tD' {kvs:List (Key×V)} (ok:HOk P w H h) (e:H a=some (.dK kvs)):kvs.length<=sizeLine/\(a == sysModules)=false/\∃vs,KV kvs vs/\h.DictOf (au' P w) a vs:=f3' ok (.inl e)
theorem dx' {ks:List Key} (ok:HOk P w H h) (e:H a=some (.tup (ks.map kV))):(tupleKind (au' P w)).is h ks a:=by
 obtain⟨_,its,r,o,h1,h2,⟨n,h3⟩,_⟩:=(show aJ' P w H h a (.tup (ks.map kV)) from ok a _ e)
 exact⟨o,its.toArray,n,h1,h2,h3,by simpa using f0' r⟩
theorem f4' {kvs:List (List Key×V)} (ok:HOk P w H h) (e:Rd H a (.dT kvs)):kvs.length<=sizeLine/\(a == sysModules)=false/\
  ∃xs,KT H kvs xs/\h.DictOfH (tupleKind (au' P w)) a xs:=by
 obtain⟨z,y,xs,r,o,es,ep,h1,h2,h3,h4,h5⟩:=(show aJ' P w H h a (.dT kvs) from tC' ok e)
 refine⟨z,y,xs,r,o,es,ep,h1,h2,h3,h4,fun x hx=>?_,h5⟩
 have all:∀{l:List (List Key×V)} {m:List (List Key×Addr×Value)},KT H l m->∀x∈m,(tupleKind (au' P w)).is h x.1 x.2.1:=by
  intro l m q
  induction q with
  |nil=>intro x hx;exact nomatch hx
  | @cons p q ps qs hq t ih=>
   intro x hx
   rcases au.mp hx with e|hx
   .subst e
    exact dx' ok (by rw[<- hq.1];exact hq.2.1)
   .exact ih x hx
 exact all r x hx
theorem tE' {kvs:List (List Key×V)} (ok:HOk P w H h) (e:H a=some (.dT kvs)):kvs.length<=sizeLine/\(a == sysModules)=false/\
  ∃xs,KT H kvs xs/\h.DictOfH (tupleKind (au' P w)) a xs:=f4' ok (.inl e)
end
def dH' (H:Hp) (a:Addr) (y:V) (r:Option V):Prop:=
 (∃kvs k,Rd H a (.dK kvs)/\y=kV k/\r=cp' kvs k)\/∃kvs k b,Rd H a (.dT kvs)/\y=.ref b/\H b=some (.tup (k.map kV))/\r=cp' kvs k
def qe' (H:Hp) (a:Addr) (y v:V) (H':Hp):Prop:=
 (∃kvs k,H a=some (.dK kvs)/\y=kV k/\kvs.length<sizeLine/\H'=upd H a (.dK (eA' kvs k v)))\/
 ∃kvs k b,H a=some (.dT kvs)/\y=.ref b/\H b=some (.tup (k.map kV))/\kvs.length<sizeLine/\H'=upd H a (.dT (eA' kvs k v))
theorem dH'.k {H:Hp} {a:Addr} {kvs:List (Key×V)} {k:Key} (e:H a=some (.dK kvs)):dH' H a (kV k) (cp' kvs k):=.inl ⟨kvs,k,.inl e,rfl,rfl⟩
theorem dH'.t {H:Hp} {a b:Addr} {kvs:List (List Key×V)} {k:List Key} (e:H a=some (.dT kvs)) (eb:H b=some (.tup (k.map kV))):dH' H a (.ref b) (cp' kvs k):=.inr ⟨kvs,k,b,.inl e,rfl,eb,rfl⟩
theorem qe'.t {H:Hp} {a b:Addr} {kvs:List (List Key×V)} {k:List Key} {v:V} (e:H a=some (.dT kvs)) (eb:H b=some (.tup (k.map kV))) (hl:kvs.length<sizeLine):
  qe' H a (.ref b) v (upd H a (.dT (eA' kvs k v))):=.inr ⟨kvs,k,b,e,rfl,eb,hl,rfl⟩
section
variable {X:Cx} {p_:List (Addr×Obj)} {σ:St} {H:Hp} {s:Shared} {a:Addr} {y v:V} {u r:Value} {o:Option V} {A:Around} {E:Value->Shared->Prop}
theorem Inv.big (I:Inv X p_ σ H s):sysModules<s.heap.objs.size:=by
 have h:mainGlobals<s.heap.objs.size:=(I.mod.glob.keeps I.bk).lt
 exact Nat.lt_trans (by decide) h
theorem ke' {Q:Value->Shared->Prop} (hu:A.units+1<cLine) (I:Inv X p_ σ H s) (g:dH' H a y (some v)) (ry:ax' y u) (h:∀w' s',Inv X p_ σ H s'->ax' v w'->Q w' s'):
  wpAny (model X.prog X.w) A (getItem (.ref a) u) Q E s:=by
 rcases g with⟨kvs,k,e,ey,l⟩|⟨kvs,k,b,e,ey,eb,l⟩
 .subst ey
  obtain⟨z,hd,vs,rel,dd⟩:=f3' I.hok e
  obtain⟨w',hw,rw'⟩:=jz'.some_of (v:=v) (o:=valueAt vs k) (by rw[l];exact rel.val k)
  exact wpAny_getItem_of (gN' ry) dd.mapOf hw (h w' _ (I.tok _) rw')
 .subst ey
  cases(show u=Value.ref b from ry)
  obtain⟨z,hd,xs,rel,dd⟩:=f4' I.hok e
  obtain⟨w',hw,rw'⟩:=jz'.some_of (v:=v) (o:=(atKey xs k).map (·.2)) (by rw[l];exact rel.val k)
  obtain⟨p,hp,hp2⟩:=aW.mp hw
  refine wpAny_getItem_heap (tupleKind_room_in1 hu) (dx' I.hok eb) dd hp ?_
  rw[hp2]
  exact h w' _ (I.tok _) rw'
theorem AE' {Q:Value->Shared->Prop} (hu:A.units+1<cLine) (I:Inv X p_ σ H s) (g:dH' H a y o) (ry:ax' y u) (h:∀s',Inv X p_ σ H s'->Q (.bool o.isSome) s'):
  wpAny (model X.prog X.w) A (compareOp .In u (.ref a)) Q E s:=by
 rcases g with⟨kvs,k,e,ey,l⟩|⟨kvs,k,b,e,ey,eb,l⟩
 .subst ey
  obtain⟨z,hd,vs,rel,dd⟩:=f3' I.hok e
  refine wpAny_in_of (gN' ry) hd dd.mapOf ?_
  rw[<- (rel.val k).isSome_eq,<- l]
  exact h _ (I.tok _)
 .subst ey
  cases(show u=Value.ref b from ry)
  obtain⟨z,hd,xs,rel,dd⟩:=f4' I.hok e
  refine wpAny_in_heap (tupleKind_room_in1 hu) (dx' I.hok eb) hd dd ?_
  have q:=(rel.val k).isSome_eq
  rw[Option.isSome_map]at q
  rw[<- q,<- l]
  exact h _ (I.tok _)
theorem qf' {Q:Value->Shared->Prop} (hu:A.units+1<cLine) (I:Inv X p_ σ H s) (g:dH' H a y o) (ry:ax' y u) (h:∀s',Inv X p_ σ H s'->Q (.bool (!o.isSome)) s'):
  wpAny (model X.prog X.w) A (compareOp .NotIn u (.ref a)) Q E s:=by
 rcases g with⟨kvs,k,e,ey,l⟩|⟨kvs,k,b,e,ey,eb,l⟩
 .subst ey
  obtain⟨z,hd,vs,rel,dd⟩:=f3' I.hok e
  refine wpAny_notIn_of (gN' ry) hd dd.mapOf ?_
  rw[<- (rel.val k).isSome_eq,<- l]
  exact h _ (I.tok _)
 .subst ey
  cases(show u=Value.ref b from ry)
  obtain⟨z,hd,xs,rel,dd⟩:=f4' I.hok e
  refine wpAny_notIn_heap (tupleKind_room_in1 hu) (dx' I.hok eb) hd dd ?_
  have q:=(rel.val k).isSome_eq
  rw[Option.isSome_map]at q
  rw[<- q,<- l]
  exact h _ (I.tok _)
theorem gO' {h':Heap} {t':Nat} {ob:HO} (I:Inv X p_ σ H s) (mu:Mut (H a)) (hs:bU a s.heap h') (he:∃q,h'.get? a=some q) (new:aJ' X.prog X.w (upd H a ob) h' a ob):
  Inv X p_ σ (upd H a ob) { s with heap:=h',toks:=t' }:=
 I.write (x:=a) (e:=a) mu (.inl rfl) (fun b q hb z=>(hs.2 b hb).trans z) he new
theorem tF' {P:Program} {w:World} {H':Hp} {h':Heap} {kvs:List (Key×V)} {vs:List (Key×Value)} (z:kvs.length<=sizeLine) (hd:(a == sysModules)=false) (rel:KV kvs vs) (dd:h'.DictOf (au' P w) a vs):
  aJ' P w H' h' a (.dK kvs):=⟨z,hd,vs,rel,dd⟩
theorem kf' {H':Hp} {Q:Unit->Shared->Prop} (hu:A.units+1<cLine) (I:Inv X p_ σ H s) (g:qe' H a y v H') (ry:ax' y u) (rv:ax' v r) (h:∀s',Inv X p_ σ H' s'->Q () s'):
  wpAny (model X.prog X.w) A (setItem (.ref a) u r) Q E s:=by
 rcases g with⟨kvs,k,e,ey,l,eH⟩|⟨kvs,k,b,e,ey,eb,l,eH⟩
 .subst ey eH
  obtain⟨z,hd,vs,rel,dd⟩:=tD' I.hok e
  have hz:vs.length<=sizeLine:=by rw[<- rel.length];exact z
  have hl:(eA' kvs k v).length<=sizeLine:=by have:=cJ' kvs k v;omega
  refine wpAny_setItem_pairs (hsz:=hz) (gN' ry) dd fun h' dd' hs=>h _ ?_
  have he:∃q,h'.get? a=some q:=let⟨q,_,_,hq,_⟩:=dd';⟨q,hq⟩
  exact gO' I (by rw[e];exact True.intro) hs he (tF' hl hd (rel.put k rv) dd')
 .subst ey eH
  cases(show u=Value.ref b from ry)
  obtain⟨z,hd,xs,rel,dd⟩:=tE' I.hok e
  have hz:xs.length<=sizeLine:=by rw[<- Paired.length rel];exact z
  have hl:(eA' kvs k v).length<=sizeLine:=by have:=cJ' kvs k v;omega
  refine wpAny_setItem_heap (hsz:=hz) (tupleKind_room_in1 hu) (dx' I.hok eb) dd fun h' dd' hs=>h _ ?_
  obtain⟨q,es,ep,hq,h2,h3,h4,_,h5⟩:=dd'
  refine gO' I (by rw[e];exact True.intro) hs ⟨q,hq⟩ ⟨hl,hd,_,(rel.put k eb rv).keeps fun c ys ec=>?_,q,es,ep,hq,h2,h3,h4,h5⟩
  rw[af' (xu' ec e (fun z=>nomatch z))]
  exact ec
end
section
variable {X:Cx} {p_:List (Addr×Obj)} {σ:St} {H:Hp} {s:Shared} {a:Addr} {kvs:List (Key×V)} {k:Key} {u:Value} {A:Around} {E:Value->Shared->Prop}
theorem x0' {Q:Value->Shared->Prop} (I:Inv X p_ σ H s) (e:Rd H a (.dK kvs)) (h:∀t s',Inv X p_ σ H s'->Q (.int kvs.length t) s'):wpAny (model X.prog X.w) A (call (.builtin "len") [.ref a]) Q E s:=by
 obtain⟨z,hd,vs,rel,dd⟩:=f3' I.hok e
 refine call_len_dict hd dd (by rw[<- rel.length];rw[sizeLine_eq]at z;omega) ?_
 rw[<- rel.length]
 exact h _ _ (I.tok _)
end
def zY' (i:Expr):Prop:=∀ov iv,subscripted i false ov iv=operate [ov,iv] (getItem ov iv)
theorem qg' {prog:Program} {w:World} {A:Around} {E:Value->Shared->Prop} {s:Shared} {env:Env} {value slice:Expr} {pos:Pos} {T id:String} {Q:Value->Shared->Prop}
  (hl:typeLookup (.type T) "__getitem__"=pure (some (.builtin id))) (hs:zY' slice)
  (h:wpAny (model prog w) A (eval value env) (fun o s₁=>wpAny (model prog w) A (eval slice env) (fun i s₂=>s₂.TypeIs o T/\wpAny (model prog w) A (getItem o i) Q E s₂) E s₁) E s):
  wpAny (model prog w) A (eval (.Subscript value slice pos) env) Q E s:=by
 refine Subscript_ (di h (fun o s₁ h₁=>di h₁ (fun i s₂ h₂=>?_) fun _ _ x=>x) fun _ _ x=>x)
 obtain⟨hT,h₂⟩:=h₂
 unfold subscriptTail
 refine ab ?_
 rw[getitemInPython_of_ne hT.not_modules]
 refine ab (wpAny_specialOf hT hl ?_)
 have fin:wpAny (model prog w) A (subscripted slice false o i) (fun r s₃=>wpAny (model prog w) A (letTemporaryGo value o r >>= fun _=>pure r) Q E s₃) E s₂:=by
  rw[hs o i]
  exact wpAny_operating (di h₂ (fun r s₃ h₃=>ab (wpAny_letTemporaryGo (ag h₃))) fun _ _ x=>x)
 first
  |exact ag (ab fin)
  |exact ab (ag (ab fin))
  |exact ab fin
theorem gP' {X:Cx} {p_:List (Addr×Obj)} {σ:St} {H:Hp} {s:Shared} {a:Addr} {y:V} {o:Option V} (I:Inv X p_ σ H s) (g:dH' H a y o):s.TypeIs (.ref a) "dict":=by
 rcases g with⟨kvs,k,e,_,_⟩|⟨kvs,k,b,e,_,_,_⟩
 .obtain⟨_,_,vs,_,dd⟩:=f3' I.hok e
  exact dd.typeIs
 .obtain⟨_,_,xs,_,dd⟩:=f4' I.hok e
  exact dd.typeIs
def qh' (td ty:TE):TE:=fun σ H Q=>td σ H fun x H1=>ty σ H1 fun y H2=>∃a v,x=.ref a/\dH' H2 a y (some v)/\Q v H2
def qi' (td ty tv:TE):TS:=fun D σ H=>tv σ H fun v H1=>td σ H1 fun x H2=>ty σ H2 fun y H3=>∃a H4,x=.ref a/\qe' H3 a y v H4/\D.nx σ H4
section
variable {X:Cx} {o i e value:Expr} {pos pos' tpos:Pos} {td ty tv:TE}
theorem qj' (hu:X.A.units+1<cLine) (ho:PE X o td) (hi:PE X i ty) (hs:zY' i):PE X (.Subscript o i pos) (qh' td ty):=by
 intro p_ s σ H Q I h
 refine qg' PySem.F.slot_dict_getitem.lookup hs (thn (ho p_ s σ H _ I h) fun u s1 ⟨x,H1,I1,rx,q1⟩=>thn (hi p_ s1 σ H1 _ I1 q1) fun iv s2 ⟨y,H2,I2,ry,a,v,ex,g,q2⟩=>?_)
 subst ex
 obtain rfl:u=Value.ref a:=rx
 exact⟨gP' I2 g,ke' hu I2 g ry fun w' s3 I3 rw'=>⟨v,H2,I3,rw',q2⟩⟩
theorem qk' (hu:X.A.units+1<cLine) (ho:PE X o td) (hi:PE X i ty) (hv:PE X value tv) (hs:swapsWith value (some (.Subscript o i pos')) pos.line X.env=pure false):
  PS X (.Assign [.Subscript o i pos'] value pos) (qi' td ty tv):=by
 intro p_ s σ H D I h
 refine wpAny_Assign_Subscript (thn (hv p_ s σ H _ I h) fun r s1 ⟨v,H1,I1,rv,q1⟩=>thn (ho p_ s1 σ H1 _ I1 q1) fun u s2 ⟨x,H2,I2,rx,q2⟩=>thn (hi p_ s2 σ H2 _ I2 q2) fun iv s3 ⟨y,H3,I3,ry,a,H4,ex,g,q3⟩=>?_) hs
 subst ex
 obtain rfl:u=Value.ref a:=rx
 exact kf' hu I3 g ry rv fun s4 I4=>⟨σ,H4,I4,q3⟩
end
theorem mX' {P:Program} {w:World} {H:Hp} (h:Heap) (hb:sysModules<h.objs.size):aJ' P w H (h.push { cls:=.type "dict",data:=.dict #[] }) h.objs.size (.dK []):=
 ⟨aL _,beq_eq_false_iff_ne.mpr (Ne.symm (aH hb)),[],.nil,Heap.DictOf.new h⟩
theorem mY' {P:Program} {w:World} {H:Hp} (h:Heap) (hb:sysModules<h.objs.size):aJ' P w H (h.push { cls:=.type "dict",data:=.dict #[] }) h.objs.size (.dT []):=
 ⟨aL _,beq_eq_false_iff_ne.mpr (Ne.symm (aH hb)),[],.nil,_,#[],0,aC _ rfl,⟨rfl,rfl,rfl⟩,rfl,rfl,cM⟩
def kg':TE:=fun _ H Q=>∀p,H p=none->Q (.ref p) (upd H p (.dK []))
def kh':TE:=fun _ H Q=>∀p,H p=none->Q (.ref p) (upd H p (.dT []))
section
variable {X:Cx} {pos:Pos}
theorem mZ':PE X (.Dict [] [] pos) kg':=fun p_ s σ H Q I h=>
 wpAny_Dict_empty ⟨.ref s.heap.objs.size,_,I.laid (a:=s.heap.objs.size) (o:=.dK []) (t':=s.toks) (fun _ _ q=>ac _ q) (ah _) (mX' s.heap I.big),rfl,h _ (I.hok.fresh (ah _))⟩
theorem m0':PE X (.Dict [] [] pos) kh':=fun p_ s σ H Q I h=>
 wpAny_Dict_empty ⟨.ref s.heap.objs.size,_,I.laid (a:=s.heap.objs.size) (o:=.dT []) (t':=s.toks) (fun _ _ q=>ac _ q) (ah _) (mY' s.heap I.big),rfl,h _ (I.hok.fresh (ah _))⟩
end
structure M1 (X:Cx) (o:Expr) (m:Str) (apos:Pos) (e:Expr) (cpos:Pos):Prop where
 base:attributeBase o m X.env (eval o X.env)=eval o X.env
 few:((backTo cpos (starEach [e] X.env)).all (fun x=>!x.1)&&(backToKw cpos (keywordEach [] X.env)).all (fun x=>x.1.isSome)
  && decide (([e]:List Expr).length+([]:List Keyword).length+(if([]:List Keyword).isEmpty then 0 else 1)<30))=true
 line:(apos.endLine == cpos.line)=true
 trees:backTo cpos (starEach [e] X.env)=[(false,eval e X.env)]
structure M2 (X:Cx) (o:Expr) (m:Str) (apos:Pos) (e f:Expr) (cpos:Pos):Prop where
 base:attributeBase o m X.env (eval o X.env)=eval o X.env
 few:((backTo cpos (starEach [e,f] X.env)).all (fun x=>!x.1)&&(backToKw cpos (keywordEach [] X.env)).all (fun x=>x.1.isSome)
  && decide (([e,f]:List Expr).length+([]:List Keyword).length+(if([]:List Keyword).isEmpty then 0 else 1)<30))=true
 line:(apos.endLine == cpos.line)=true
 trees:backTo cpos (starEach [e,f] X.env)=[(false,eval e X.env),(false,eval f X.env)]
def IsD (H:Hp) (a:Addr):Prop:=(∃kvs,Rd H a (.dK kvs))\/∃kvs,Rd H a (.dT kvs)
theorem tH' {X:Cx} {p_:List (Addr×Obj)} {σ:St} {H:Hp} {s:Shared} {a:Addr} (I:Inv X p_ σ H s) (d:IsD H a):
  s.TypeIs (.ref a) "dict"/\(∀b,Value.ref a=.ref b->∃ob,s.heap.get? b=some ob/\ob.dict=none)/\(a == sysModules)=false:=by
 rcases d with⟨kvs,e⟩|⟨kvs,e⟩
 .obtain⟨_,hd,vs,_,dd⟩:=f3' I.hok e
  refine⟨dd.typeIs,fun b q=>?_,hd⟩
  cases q
  obtain⟨ob,_,_,h1,h2,_⟩:=dd
  exact⟨ob,h1,h2.2.1⟩
 .obtain⟨_,hd,xs,_,dd⟩:=f4' I.hok e
  refine⟨dd.typeIs,fun b q=>?_,hd⟩
  cases q
  obtain⟨ob,_,_,h1,h2,_⟩:=dd
  exact⟨ob,h1,h2.2.1⟩
section
variable {X:Cx} {p_:List (Addr×Obj)} {σ:St} {H:Hp} {s:Shared} {a:Addr} {y d:V} {u r:Value} {o:Option V} {A:Around} {E:Value->Shared->Prop}
theorem tI' {Q:Value->Shared->Prop} (hu:A.units+1<cLine) (I:Inv X p_ σ H s) (g:dH' H a y o) (ry:ax' y u) (h:∀w' s',Inv X p_ σ H s'->ax' (o.getD .non) w'->Q w' s'):
  wpAny (model X.prog X.w) A (call (.builtin "dict.get") [.ref a,u]) Q E s:=by
 rcases g with⟨kvs,k,e,ey,l⟩|⟨kvs,k,b,e,ey,eb,l⟩
 .subst ey
  obtain⟨z,hd,vs,rel,dd⟩:=f3' I.hok e
  refine call_meetsIn PySem.F.slot_dict_get dd.typeIs PySem.F.entry_dict_get (PySem.F.args_dict_get_2 _ _) (meets_dict_get (au' X.prog X.w) a (gN' ry) hd) ⟨_,dd.mapOf,h _ _ (I.tok _) ?_⟩
  rw[l]
  exact(rel.val k).getD rfl
 .subst ey
  cases(show u=Value.ref b from ry)
  obtain⟨z,hd,xs,rel,dd⟩:=f4' I.hok e
  refine call_meetsIn PySem.F.slot_dict_get dd.typeIs PySem.F.entry_dict_get (PySem.F.args_dict_get_2 _ _) (meetsH_dict_get (tupleKind (au' X.prog X.w)) a b hd) ⟨tupleKind_room_in1 hu,k,xs,dx' I.hok eb,dd,h _ _ (I.tok _) ?_⟩
  rw[l]
  exact(rel.val k).getD rfl
end
section
variable {X:Cx}
theorem ki':a2' X (.builtin "len") (fun xs H Q=>∃a kvs,xs=[V.ref a]/\H a=some (.dK kvs)/\Q (.int kvs.length) H):=by
 intro p_ s σ H xs us Q I r h
 obtain⟨a,kvs,rfl,ha,q⟩:=h
 obtain⟨u,rfl,ru⟩:=eC' r
 cases ru
 exact x0' I (.inl ha) fun t s' I'=>⟨.int kvs.length,H,I',⟨t,rfl⟩,q⟩
end
section
variable {X:Cx}
theorem ql' {i:Int} (h:0<=i):Builtin.bitAnd i 1=i % 2:=by
 rw[PyProof.Rows.bitAnd_pp h (by decide)]
 have e:(1:Int).toNat=1:=rfl
 rw[e,Nat.and_one_is_mod]
 omega
theorem qm':OpR X (binaryOp .BitAnd) (rI (fun i j=>0<=i/\j=1) fun i _=>.int (i % 2)):=by
 intro p_ s σ H x y v u Q I rx ry h
 obtain⟨i,j,rfl,rfl,⟨h0,rfl⟩,q⟩:=h
 refine s5' p_ s σ H _ _ v u Q I rx ry ⟨i,1,rfl,rfl,?_⟩
 have q':Q (.int (i % 2)) H:=q
 rw[<- ql' h0]at q'
 exact q'
def inT (x y:Str):Bool:=!(Builtin.Str.occurrences x y 0 x.length 1).isEmpty
def xl' (neg:Bool):R2:=fun x y H Q=>∃a b,x=.str a/\y=.str b/\Q (.bl (if neg then !inT b a else inT b a)) H
theorem tJ':OpR X (compareOp .In) (xl' false):=by
 intro p_ s σ H x y v u Q I rx ry h
 obtain⟨a,b,rfl,rfl,q⟩:=h
 obtain⟨t,rfl⟩:=rx
 obtain⟨t',rfl⟩:=ry
 exact in_str ⟨.bl _,H,I,rfl,q⟩
theorem kj':OpR X (compareOp .NotIn) (xl' true):=by
 intro p_ s σ H x y v u Q I rx ry h
 obtain⟨a,b,rfl,rfl,q⟩:=h
 obtain⟨t,rfl⟩:=rx
 obtain⟨t',rfl⟩:=ry
 have q':Q (.bl (!inT b a)) H:=q
 refine notIn_str ⟨.bl (!inT b a),H,I,?_,q'⟩
 show Value.bool _=Value.bool _
 simp[inT]
def kk' (K:W.Frag):V->List V->Hp->VK->Prop:=fun x vs H Q=>∃p xs y,∃j:Nat,x=.ref p/\vs=[y]/\SqL K H p xs/\(∀z∈xs,jB' z y=true/\∀b,z≠.byt b)/\xs[j]?=some y/\(∀k,k<j->xs[k]?≠some y)/\Q (.int j) H
def kl' (K:W.Frag):V->List V->Hp->VK->Prop:=fun x vs H Q=>∃p xs y,x=.ref p/\vs=[y]/\SqL K H p xs/\(∀z∈xs,jB' z y=true/\∀b,z≠.byt b)/\Q (.int (xs.countP fun z=>decide (z=y))) H
open PySem.SeqAt in
theorem km':MtR X "list.count" (kl' X.K):=by
 intro p_ s σ H x vs v us Q I rx rv h
 obtain⟨p,xs,y,rfl,rfl,hs,hsc,q⟩:=h
 cases rx
 obtain⟨u,rfl,ru⟩:=rv.one
 obtain⟨its,r,pl,hz⟩:=I.list hs
 obtain⟨⟨cls,dd,data,sl⟩,ho,hcl,n,hd⟩:=id pl.isList
 simp only at hcl hd
 subst hcl hd
 refine call_meets F.slot_list_count ⟨_,ho,rfl⟩ F.entry_list_count (F.args_list_count_2 _ _) (list_countAt p its.toArray n dd sl u (eV y)) ⟨ho,fun w hw=>?_,?_⟩
 .obtain⟨z,hz,rz⟩:=hQ' r (by simpa using hw)
  rw[kc' rz (hsc z hz).1 (hsc z hz).2]
  exact ce' rz ru (.inl (hsc z hz))
 .rw[hP' r hsc]
  exact⟨.int _,H,I.tok _,⟨_,rfl⟩,q⟩
open PySem.SeqAt in
theorem kn':MtR X "list.index" (kk' X.K):=by
 intro p_ s σ H x vs v us Q I rx rv h
 obtain⟨p,xs,y,j,rfl,rfl,hs,hsc,hj,hno,q⟩:=h
 cases rx
 obtain⟨u,rfl,ru⟩:=rv.one
 obtain⟨its,r,pl,hz⟩:=I.list hs
 obtain⟨⟨cls,dd,data,sl⟩,ho,hcl,n,hd⟩:=id pl.isList
 simp only at hcl hd
 subst hcl hd
 have hl:=r.length
 have hlt:j<xs.length:=(aB.mp hj).1
 have hlt2:j<its.toArray.size:=by simp;omega
 have at_:∀(m:Nat) (hm:m<its.toArray.size),∃z,xs[m]?=some z/\ax' z its.toArray[m]/\z∈xs:=by
  intro m hm
  have hm2:m<xs.length:=by simp at hm;omega
  obtain⟨w,e,rz⟩:=r.get (aa hm2)
  refine⟨_,aa hm2,?_,bW hm2⟩
  have hm3:m<its.length:=by simpa using hm
  rw[aa hm3]at e
  cases e
  simpa using rz
 refine call_meets F.slot_list_index ⟨_,ho,rfl⟩ F.entry_list_index (F.args_list_index_2 _ _) (list_indexAt p its.toArray n dd sl u (eV y) j hlt2 ?_ ?_ ?_) ⟨ho,fun w hw=>?_,?_⟩
 .have:(j:Int)<2 ^ 24+1:=by
   have:j<2 ^ 24+1:=ao hlt (aS hz (show 2 ^ 24<=2 ^ 24+1 by decide))
   omega
  omega
 .obtain⟨z,e1,rz,hm⟩:=at_ j hlt2
  rw[hj]at e1
  cases e1
  rw[kc' rz (hsc _ hm).1 (hsc _ hm).2]
  exact decide_eq_true rfl
 .intro m hm hmj
  obtain⟨z,e1,rz,hmm⟩:=at_ m hm
  rw[kc' rz (hsc _ hmm).1 (hsc _ hmm).2]
  exact decide_eq_false fun e=>hno m hmj (by rw[e1,e])
 .obtain⟨z,hz,rz⟩:=hQ' r (by simpa using hw)
  rw[kc' rz (hsc z hz).1 (hsc z hz).2]
  exact ce' rz ru (.inl (hsc z hz))
 .exact⟨.int _,H,I.tok _,⟨_,rfl⟩,q⟩
end
section
variable {X:Cx}
def AF' (x y:Str):Bool:=decide (y.cps.toList<x.cps.toList)
def zZ':R2:=fun x y H Q=>∃a b,x=.str a/\y=.str b/\Q (.bl (AF' a b)) H
theorem tK':OpR X (compareOp .Gt) zZ':=by
 intro p_ s σ H x y v u Q I rx ry h
 obtain⟨a,b,rfl,rfl,k⟩:=h
 obtain⟨t,rfl⟩:=rx
 obtain⟨t',rfl⟩:=ry
 exact PySem.P.gt_str ⟨.bl _,H,I,rfl,k⟩
def dSc:V->Bool
 | .int _=>true
 | .str _=>true
 | .bl _=>true
 | .non=>true
 |_=>false
def Dq (H:Hp):Nat->V->V->Prop
 |0,v,w=>v=w/\dSc v=true
 |n+1,v,w=>(v=w/\dSc v=true)\/∃a b xs ys,v=.ref a/\w=.ref b/\((H a=some (.lst xs)/\H b=some (.lst ys))\/(H a=some (.tup xs)/\H b=some (.tup ys)))/\xs.length=ys.length/\∀(i:Nat) x y,xs[i]?=some x->ys[i]?=some y->Dq H n x y
open PySem.SeqAt in
theorem tL' {A:Around} {s:Shared} {x:V} {u v:Value} (h:dSc x=true) (r1:ax' x u) (r2:ax' x v):EqAt A s u v true:=by
 have:=ce' (A:=A) (s:=s) r1 r2 (.inl (by cases x<;>first|(cases h;done)|exact⟨rfl,fun b=>by intro z;cases z⟩))
 rw[decide_eq_true rfl]at this
 exact this
theorem cr' {n:Nat}:(av n).all (fun _=>true)=true:=by simp
theorem cc' {its:List Value} {j:Nat} {u:Value} (e:its[j]?=some u) (h:j<its.toArray.size):its.toArray[j]=u:=by
 simp at h ⊢
 rw[aa h]at e
 exact Option.some.inj e
open PySem.SeqAt in
theorem cs' {n:Nat} {H:Hp} {A:Around} {s:Shared} {xs ys:List V} {its its2:List Value} (ih:∀x y u v,Dq H n x y->ax' x u->ax' y v->EqAt A.in1 s u v true) (hl:xs.length=ys.length) (r1:aE' xs its) (r2:aE' ys its2)
  (he:∀(i:Nat) x y,xs[i]?=some x->ys[i]?=some y->Dq H n x y):∀j (h1:j<its.toArray.size) (h2:j<its2.toArray.size),EqAt A.in1 s its.toArray[j] its2.toArray[j] ((fun _=>true) j):=by
 intro j h1 h2
 have l1:=r1.length
 have j1:j<xs.length:=by simp at h1;omega
 have j2:j<ys.length:=by omega
 have g1:xs[j]?=some xs[j]:=aa j1
 have g2:ys[j]?=some ys[j]:=aa j2
 obtain⟨u1,e1,ru1⟩:=r1.get g1
 obtain⟨u2,e2,ru2⟩:=r2.get g2
 rw[cc' e1 h1,cc' e2 h2]
 exact ih _ _ _ _ (he j _ _ g1 g2) ru1 ru2
open PySem.SeqAt in
theorem tM' {p_:List (Addr×Obj)} {σ:L2.St} {H:Hp} {s:Shared} (I:Inv X p_ σ H s):∀(n:Nat) (A:Around) (x y:V) (u v:Value),A.units+n<cLine->Dq H n x y->ax' x u->ax' y v->EqAt A s u v true:=by
 intro n
 induction n with
 |zero=>
  rintro A x y u v hu ⟨rfl,hs⟩ r1 r2
  exact tL' hs r1 r2
 |succ n ih=>
  rintro A x y u v hu h rx ry
  rcases h with⟨rfl,hs⟩|⟨a,b,xs,ys,rfl,rfl,hab,hl,he⟩
  .exact tL' hs rx ry
  cases rx
  cases ry
  by_cases hne:a=b
  .subst hne;exact EqAt.same _
  have ih':∀x y u v,Dq H n x y->ax' x u->ax' y v->EqAt A.in1 s u v true:=fun x y u v=>ih A.in1 x y u v (by show A.units+1+n<cLine;omega)
  rcases hab with⟨h1,h2⟩|⟨h1,h2⟩
  .obtain⟨its,r1,pl1,_⟩:=I.list (SqL.of h1)
   obtain⟨its2,r2,pl2,_⟩:=I.list (SqL.of h2)
   have l1:=r1.length
   have l2:=r2.length
   have:=RcAt.lists pl1.isList pl2.isList (by simp;omega) ⋯ (cs' ih' hl r1 r2 he)
   rw[cr']at this
   exact EqAt.of_refs hne this
  .obtain⟨its,r1,pl1,_⟩:=I.tuple (SqT.of h1)
   obtain⟨its2,r2,pl2,_⟩:=I.tuple (SqT.of h2)
   have l1:=r1.length
   have l2:=r2.length
   have:=RcAt.tuples pl1 pl2 ⋯ (cs' ih' hl r1 r2 he)
   rw[cr']at this
   have e:(true&&its.toArray.size == its2.toArray.size)=true:=by simp;omega
   rw[e]at this
   exact EqAt.of_refs hne this
def z0':R2:=fun x y H Q=>∃a b xs ys,x=.ref a/\y=.ref b/\H a=some (.tup xs)/\H b=some (.tup ys)/\xs.length=ys.length/\LEq xs ys/\Q (.bl (decide (xs=ys))) H
open PySem.SeqAt in
theorem tN' (hu:X.A.units+64<cLine):OpR X (compareOp .Eq) z0':=by
 intro p_ s σ H x y v u Q I rx ry h
 obtain⟨p,q,xs,ys,rfl,rfl,hp,hq,hl,he,k⟩:=h
 cases rx
 cases ry
 obtain⟨its,r1,pl1,_⟩:=I.tuple (SqT.of hp)
 obtain⟨its2,r2,pl2,_⟩:=I.tuple (SqT.of hq)
 have l1:=r1.length
 have l2:=r2.length
 refine eq_tupleAt (e:=fun i=>decide (xs[i]?=ys[i]?)) pl1 pl2 ⋯ (fun j h1 h2=>?_) ?_
 .have j1:j<xs.length:=by simp at h1;omega
  have j2:j<ys.length:=by omega
  have g1:xs[j]?=some xs[j]:=aa j1
  have g2:ys[j]?=some ys[j]:=aa j2
  obtain⟨u1,e1,ru1⟩:=r1.get g1
  obtain⟨u2,e2,ru2⟩:=r2.get g2
  rw[cc' e1 h1,cc' e2 h2,g1,g2]
  have e3:decide (some xs[j]=some ys[j])=decide (xs[j]=ys[j]):=by simp
  rw[e3]
  exact ce' ru1 ru2 (he j _ _ g1 g2)
 .have e4:(av (min its.toArray.size its2.toArray.size)).all (fun i=>decide (xs[i]?=ys[i]?))=decide (xs=ys):=by
   rw[ak,ak,<- l1,<- l2,<- hl,Nat.min_self];exact kb' hl
  have e5:(its.toArray.size == its2.toArray.size)=true:=by simp;omega
  rw[e4,e5,Bool.and_true]
  exact⟨.bl _,H,I,rfl,k⟩
def xm' (neg:Bool):R2:=fun x y H Q=>(∃n,n<=8/\Dq H n x y/\(∃a b,x=.ref a/\y=.ref b)/\Q (.bl (!neg)) H)\/(neg=false/\z0' x y H Q)
theorem Dq.open {H:Hp} {n:Nat} {a b:Addr} (h:Dq H n (.ref a) (.ref b)):∃m xs ys,n=m+1/\((H a=some (.lst xs)/\H b=some (.lst ys))\/(H a=some (.tup xs)/\H b=some (.tup ys)))/\xs.length=ys.length/\∀(i:Nat) x y,xs[i]?=some x->ys[i]?=some y->Dq H m x y:=by
 cases n with
 |zero=>exact(ay h.2).elim
 |succ m=>
  rcases h with⟨_,hs⟩|⟨a',b',xs,ys,e1,e2,hab,hl,he⟩
  .cases hs
  .cases e1;cases e2;exact⟨m,xs,ys,rfl,hab,hl,he⟩
open PySem.SeqAt in
theorem tO' (hu:X.A.units+64<cLine):OpR X (compareOp .Eq) (xm' false):=by
 intro p_ s σ H x y v u Q I rx ry h
 rcases h with h|⟨_,h⟩
 case inr=>exact tN' hu p_ s σ H x y v u Q I rx ry h
 obtain⟨n,hn,hd,⟨a,b,rfl,rfl⟩,k⟩:=h
 cases rx
 cases ry
 obtain⟨m,xs,ys,rfl,hab,hl,he⟩:=hd.open
 have ih':∀x y u v,Dq H m x y->ax' x u->ax' y v->EqAt X.A.in1 s u v true:=fun x y u v=>tM' I m X.A.in1 x y u v (by show X.A.units+1+m<cLine;omega)
 rcases hab with⟨h1,h2⟩|⟨h1,h2⟩
 .obtain⟨its,r1,pl1,_⟩:=I.list (SqL.of h1)
  obtain⟨its2,r2,pl2,_⟩:=I.list (SqL.of h2)
  have l1:=r1.length
  have l2:=r2.length
  refine eq_listAt pl1.isList pl2.isList (by simp;omega) ⋯ (cs' ih' hl r1 r2 he) ?_
  rw[cr']
  exact⟨.bl true,H,I,rfl,k⟩
 .obtain⟨its,r1,pl1,_⟩:=I.tuple (SqT.of h1)
  obtain⟨its2,r2,pl2,_⟩:=I.tuple (SqT.of h2)
  have l1:=r1.length
  have l2:=r2.length
  refine eq_tupleAt pl1 pl2 ⋯ (cs' ih' hl r1 r2 he) ?_
  have e:(true&&its.toArray.size == its2.toArray.size)=true:=by simp;omega
  rw[cr',e]
  exact⟨.bl true,H,I,rfl,k⟩
open PySem.SeqAt in
theorem tP' (hu:X.A.units+64<cLine):OpR X (compareOp .NotEq) (xm' true):=by
 intro p_ s σ H x y v u Q I rx ry h
 rcases h with h|⟨hf,_⟩
 case inr=>cases hf
 obtain⟨n,hn,hd,⟨a,b,rfl,rfl⟩,k⟩:=h
 cases rx
 cases ry
 obtain⟨m,xs,ys,rfl,hab,hl,he⟩:=hd.open
 have ih':∀x y u v,Dq H m x y->ax' x u->ax' y v->EqAt X.A.in1 s u v true:=fun x y u v=>tM' I m X.A.in1 x y u v (by show X.A.units+1+m<cLine;omega)
 have hend:EP X p_ σ Q (Value.bool false) s:=⟨.bl false,H,I,rfl,k⟩
 rcases hab with⟨h1,h2⟩|⟨h1,h2⟩
 .obtain⟨its,r1,pl1,_⟩:=I.list (SqL.of h1)
  obtain⟨its2,r2,pl2,_⟩:=I.list (SqL.of h2)
  have l1:=r1.length
  have l2:=r2.length
  obtain⟨⟨cls,dd,data,sl⟩,ho,hc,n1,hd1⟩:=pl1.isList
  obtain⟨⟨cls2,dd2,data2,sl2⟩,ho2,hc2,n2,hd2⟩:=pl2.isList
  simp only at hc hd1 hc2 hd2
  subst hc hd1 hc2 hd2
  refine richCompare_meets_room (op:=.NotEq) ⟨_,ho,rfl⟩ ⟨_,ho2,rfl⟩ F.slot_list_ne F.entry_list_ne (F.args_list_ne_2 _ _) (list_neAt a b its.toArray its2.toArray n1 n2 dd dd2 sl sl2 (by simp;omega) (fun _=>true)) ⟨ho,ho2,cs' ih' hl r1 r2 he,?_⟩ ⋯
  rw[cr']
  exact(show Value.bool false≠Value.notImplemented/\EP X p_ σ Q (Value.bool false) s from⟨(fun x=>nomatch x),hend⟩)
 .obtain⟨its,r1,pl1,_⟩:=I.tuple (SqT.of h1)
  obtain⟨its2,r2,pl2,_⟩:=I.tuple (SqT.of h2)
  have l1:=r1.length
  have l2:=r2.length
  obtain⟨⟨cls,dd,data,sl⟩,ho,hc,n1,hd1⟩:=id pl1
  obtain⟨⟨cls2,dd2,data2,sl2⟩,ho2,hc2,n2,hd2⟩:=id pl2
  simp only at hc hd1 hc2 hd2
  subst hc hd1 hc2 hd2
  refine richCompare_meets_room (op:=.NotEq) ⟨_,ho,rfl⟩ ⟨_,ho2,rfl⟩ F.slot_tuple_ne F.entry_tuple_ne (F.args_tuple_ne_2 _ _) (tuple_neAt a b its.toArray its2.toArray n1 n2 dd dd2 sl sl2 (fun _=>true)) ⟨ho,ho2,cs' ih' hl r1 r2 he,?_⟩ ⋯
  have e:(true&&its.toArray.size == its2.toArray.size)=true:=by simp;omega
  rw[cr',e]
  exact(show Value.bool false≠Value.notImplemented/\EP X p_ σ Q (Value.bool false) s from⟨(fun x=>nomatch x),hend⟩)
end
end L2
namespace HT
open PySem PyProof.Rows
open PySem.SeqAt
open PySem.MeetsSeq PySem.MeetsSeq2 PySem.MeetsSeq3
section
variable {prog:Program} {w:World} {A:Around} {E:Value->Shared->Prop} {s:Shared}
theorem m1' {t b:Addr} {ws:List Value} {Q:Value->Shared->Prop} (ht:IsTup s.heap t #[]) (hb:IsTup s.heap b ws.toArray) (h0:Q (.ref b) s):wpAny (model prog w) A (binaryOp .Add (.ref t) (.ref b)) Q E s:=by
 obtain⟨⟨cls,dd,data,sl⟩,ho,hc,n,hd⟩:=id ht
 obtain⟨⟨cls2,dd2,data2,sl2⟩,ho2,hc2,n2,hd2⟩:=id hb
 simp only at hc hd hc2 hd2
 subst hc hd hc2 hd2
 exact concat_meets ⟨_,ho,rfl⟩ ⟨_,ho2,rfl⟩ noFill_tuple_add seq_tuple_add PySem.F.slot_tuple_add PySem.F.entry_tuple_add (PySem.F.args_tuple_add_2 _ _)
  (tuple_addW0 t b #[] ws.toArray n n2 dd dd2 sl sl2 rfl) ⟨ho,ho2,h0⟩
end
end HT
namespace L2
open PySem PySem.Spec PyProof.Rows
section
variable {X:Cx}
def oJ' (K:W.Frag):R2:=fun x y H Q=>∃a b ys,x=.ref a/\y=.ref b/\SqT K H a []/\SqT K H b ys/\Q (.ref b) H
theorem m2':OpR X (binaryOp .Add) (oJ' X.K):=by
 intro p_ s σ H x y v u Q I rx ry h
 obtain⟨a,b,ys,rfl,rfl,ha,hb,q⟩:=h
 cases rx
 cases ry
 obtain⟨its,r1,p1,_⟩:=I.tuple ha
 obtain⟨its2,r2,p2,_⟩:=I.tuple hb
 have e:its=[]:=r1.nil_iff.mpr rfl
 subst e
 exact HT.m1' p1 p2 ⟨.ref b,H,I,rfl,q⟩
end
end L2
namespace L2
open PySem PySem.Spec PyProof.Rows PySem.Calls PySem.NumText
def B2 (x:PySem.Str) (n:Int):Prop:=(x.cps.all (· < 128))=true/\(x.cps.toList.takeWhile (· != 0)).length<=640/\(int_private% "readNumeral") 0 2 (x.cps.toList.takeWhile (· != 0))=(int_private% "Numeral.value") n/\((x.cps.toList.takeWhile (· != 0)).length == x.cps.toList.length)=true
theorem m3' {M:Model} {A:Around} {E:Value->Shared->Prop} {s:Shared} {Q:Value->Shared->Prop} {v:Value} {text:List Nat} {n:Int}
  (hs:(text.takeWhile (· != 0)).length<=640) (hr:(int_private% "readNumeral") 0 2 (text.takeWhile (· != 0))=(int_private% "Numeral.value") n)
  (ha:((text.takeWhile (· != 0)).length == text.length)=true) (h:Q (.int n s.toks) { s with toks:=s.toks+1 }):
  wpAny M A ((int_private% "intFromText") v text 2) Q E s:=by
 obtain⟨hp,g,d,tk,os⟩:=s
 repeat (any_goals (first
  |assumption
  |(with_reducible refine wpAny_ite_true (decide_eq_true hs) ?_)
  |(with_reducible refine wpAny_ite_true (decide_eq_true ha) ?_)
  |wp_step))
 all_goals (try rw[hr])
 all_goals (try dsimp only)
 repeat (any_goals (first
  |assumption
  |(with_reducible refine wpAny_ite_true (decide_eq_true hs) ?_)
  |(with_reducible refine wpAny_ite_true (decide_eq_true ha) ?_)
  |wp_step))
set_option maxHeartbeats 4000000 in
theorem gQ' {x:PySem.Str} {u v:Tok} {n:Int} (hb:B2 x n):Gives (Builtin.«int.__new__» ⟨[.type "int",.str x u,.int 2 v],[]⟩) (.int n):=
 .of_wp fun M A E s Q h=>by
  obtain⟨hp,g,d,tk,os⟩:=s
  have f1:=F.conv_sub_int
  have f2:=F.madeHere_int
  have f6:typeOf (.str x u)=pure (.type "str"):=rfl
  have hk:=W.KIN.Hid.mk hb
  clear hb
  repeat (any_goals (first
   |assumption
   |((with_reducible show wpAny _ _ ((int_private% "intFromText") _ _ _) _ _ _);rw[if_pos hk.out.1];refine m3' hk.out.2.1 hk.out.2.2.1 hk.out.2.2.2 ?_)
   |wp_step))
  all_goals first|exact⟨_,rfl,h⟩|skip
theorem eG' (a b:Value):checkTypeCall "int" ⟨[a,b],[]⟩=pure ():=by kernel_rfl
theorem fk' (a b:Value):checkBuiltinCall "int.__new__" ⟨[.type "int",a,b],[]⟩=pure ():=by kernel_rfl
section
variable {X:Cx}
def tQ':List V->Hp->VK->Prop:=fun xs H Q=>∃x n,xs=[.str x,.int 2]/\B2 x n/\Q (.int n) H
theorem ko':a2' X (.type "int") tQ':=by
 intro p_ s σ H xs us Q I r h
 obtain⟨x,n,rfl,hb,q⟩:=h
 obtain⟨u,v,rfl,⟨t,rfl⟩,⟨t',rfl⟩⟩:=xQ' r
 exact callType_new F.called_int F.newNe_int (eG' _ _) (fk' _ _) (fun obj=>F.args_object_init_3 obj _ _) F.entry_int_new (gQ' hb).meets (show(Made.int n).post _ s from⟨rfl,⟨.int n,H,I.tok _,⟨_,rfl⟩,q⟩⟩)
theorem kp':a2' X (.type "int") (fun xs H Q=>zS' xs H Q\/tQ' xs H Q):=j6'.or ko'
end
end L2
namespace HT
open PySem PyProof.Rows
section
variable {prog:Program} {w:World} {A:Around} {E:Value->Shared->Prop} {s:Shared}
theorem cK' {t sl:Addr} {items:Array Value} {vl vu:Value} {lo hi:Option Int} {Q:Value->Shared->Prop} (ht:IsTup s.heap t items) (hs:s.heap.IsSliceOf sl vl vu .none) (pl:IsPart vl lo) (pu:IsPart vu hi)
  (hw:sIx items.size 0 lo=0/\sIx items.size items.size hi=items.size)
  (h:Q (.ref t) s):wpAny (model prog w) A (getItem (.ref t) (.ref sl)) Q E s:=by
 obtain⟨os,hos,hcs,hds⟩:=id hs
 have hTs:s.TypeIs (.ref sl) "slice":=⟨os,hos,hcs⟩
 unfold getItem
 try with_reducible refine aT ?_
 first|refine ab (ag ?_)|skip
 refine ab (wpAny_sequenceKey ht.typeIs (by decide) ?_)
 refine ab (bf (name:=Str.ofString "__getitem__") ht.typeIs PyProof.Rows.slot_tuple_getitem
  (bF PyProof.Rows.slot_tuple_getitem ht.typeIs entry_tuple_getitem ?_ (args_tuple_getitem _ _)))
 show wpAny _ _ (Builtin.Tuple.tupleItemsOf (.ref t) >>= _) _ _ s
 refine ab (tupleItemsOf_ ht ?_)
 refine ab (wpAny_typeOf hTs ?_)
 rw[if_pos (by decide)]
 refine ab (cb' hs pl pu ?_)
 have hyes:(((sIx items.size 0 lo:Nat):Int) == 0&&(1:Int) == 1&&(sIx items.size items.size hi-sIx items.size 0 lo) == items.size)=true:=by
  rw[hw.1,hw.2]
  simp
 show wpAny _ _ (if(((sIx items.size 0 lo:Nat):Int) == 0&&(1:Int) == 1&&(sIx items.size items.size hi-sIx items.size 0 lo) == items.size)=true then _ else _) _ _ s
 rw[if_pos hyes]
 obtain⟨ot,hot,hct,nt,hdt⟩:=id ht
 refine ab (di (Q:=fun b s'=>b=true/\s'=s) (E:=E) ?_ ?_ (fun _ _ z=>z))
 .unfold Builtin.Tuple.tupleIsExact
  exact ab (wpAny_typeOf ht.typeIs (ag ⟨rfl,rfl⟩))
 .rintro b s' ⟨rfl,rfl⟩
  rw[if_pos rfl]
  exact ab (wpAny_rule (ag ⟨_,rfl,ag h⟩))
end
end HT
namespace L2
open PySem PySem.Spec PyProof.Rows
section
variable {X:Cx}
def xn' (K:W.Frag):V->Option Int->Option Int->Hp->VK->Prop:=fun x lo hi H Q=>∃a xs,x=.ref a/\SqT K H a xs/\(HT.sIx xs.length 0 lo=0/\HT.sIx xs.length xs.length hi=xs.length)/\Q (.ref a) H
theorem m4':SlR X (xn' X.K):=by
 intro p_ s σ H x v vl vu lo hi sl Q I rx hs pl pu h
 obtain⟨a,xs,rfl,hx,hw,q⟩:=h
 cases rx
 obtain⟨its,r,ht,hz⟩:=I.tuple hx
 have hlen:its.toArray.size=xs.length:=by rw[ak];exact r.length.symm
 refine⟨"tuple",_,PyProof.Rows.slot_tuple_getitem.lookup,ht.typeIs,?_⟩
 exact HT.cK' ht hs pl pu (by rw[hlen];exact hw) ⟨.ref a,H,I,rfl,q⟩
end
end L2
namespace So
open PySem PySem.Spec PyProof.Rows
def kq':Bool->Keyed->Array Keyed->Nat->Nat->Nat->StateT SortSt Sem (Option Nat):=sortPriv% PySem.Builtin.gallop
end So
namespace So
open PySem PySem.Spec PyProof.Rows
structure Mg (R:Keyed->Keyed->Prop) (T o ra rb:List Keyed):Prop where
 pm:(o++(ra++rb)).Perm T
 so:o.Pairwise R
 sa:ra.Pairwise R
 sb:rb.Pairwise R
 oa:∀x∈o,∀y∈ra,R x y
 ob:∀x∈o,∀y∈rb,R x y
end So
namespace So
open PySem PySem.Spec PyProof.Rows
section
variable {M:Model} {A:Around} {E:Value->Shared->Prop} {s:Shared} {O:KeyOrd} {ky:Keyed->O.α} {P:Keyed->Prop} {kd:SortKind}
def eH' (st st':SortSt):Prop:=kindOf st'=kindOf st/\arrOf st'=arrOf st/\pendingOf st'=pendingOf st/\failedOf st'=failedOf st
def Rk (O:KeyOrd) (ky:Keyed->O.α) (p q:Keyed):Prop:=O.kle (ky p) (ky q)
end
end So
namespace So
open PySem PySem.Spec PyProof.Rows
section
variable {M:Model} {A:Around} {E:Value->Shared->Prop} {s:Shared} {O:KeyOrd} {ky:Keyed->O.α} {P:Keyed->Prop} {kd:SortKind} {x y:Array Keyed}
def m6' (O:KeyOrd) (ky:Keyed->O.α) (x y r:Array Keyed):Prop:=r.toList.Perm (x.toList++y.toList)/\r.toList.Pairwise (Rk O ky)
def Wk (O:KeyOrd) (ky:Keyed->O.α) (x y o:Array Keyed) (i j:Nat):Prop:=Mg (Rk O ky) (x.toList++y.toList) o.toList (x.toList.drop i) (y.toList.drop j)/\i<=x.size/\j<=y.size
abbrev SG:Type:=Option (Array Keyed)×Array Keyed×Nat×Nat×Nat×Nat×Nat
def Stp (O:KeyOrd) (ky:Keyed->O.α) (st:SortSt) (x y:Array Keyed) (b:Nat):ForInStep SG->SortSt->Prop:=fun r st'=>match r with
 | .done c=>eH' st st'/\((∃r,c.1=some r/\m6' O ky x y r)\/∃o i j mg ca cb,c=(none,o,i,j,mg,ca,cb)/\Wk O ky x y o i j/\i+1<x.size/\j<y.size/\b<=i+j)
 | .yield c=>eH' st st'/\∃o i j mg ca cb,c=(none,o,i,j,mg,ca,cb)/\Wk O ky x y o i j/\i+1<x.size/\j<y.size/\b<=i+j
end
end So
namespace So
open PySem PySem.Spec PyProof.Rows
end So
namespace So
open PySem PySem.Spec PyProof.Rows
section
variable {M:Model} {A:Around} {E:Value->Shared->Prop} {s:Shared} {O:KeyOrd} {ky:Keyed->O.α} {P:Keyed->Prop} {kd:SortKind} {st0:SortSt} {lo nrem:Nat}
def ke (ky:Keyed->O.α) (a:Array Keyed) (i:Nat):O.α:=ky ((a[i]?).getD (Value.none,Value.none))
structure Sb (st0:SortSt) (lo:Nat) (st:SortSt):Prop where
 perm:(arrOf st).Perm (arrOf st0)
 same:∀i,i<lo->(arrOf st)[i]?=(arrOf st0)[i]?
 kind:kindOf st=kindOf st0
 fail:failedOf st=failedOf st0
 pend:pendingOf st=pendingOf st0
end
end So
namespace So
open PySem PySem.Spec PyProof.Rows
def sP (lo n:Nat):StateT SortSt Sem (ForInStep (Option Unit×Nat)):=do
 modify fun s=>setPending s ((pendingOf s).push (lo,n,0))
 pure (ForInStep.yield (none,lo+n))
def sT (z lo n:Nat):StateT SortSt Sem (ForInStep (Option Unit×Nat)):=do
 let st <- get
 match (pendingOf st).back? with
 |some (s1,n1,_)=>do
  let r <- forIn [0:z] ((none,()):Option Unit×Unit) fun _ _=>do
   let st <- get
   match (if(pendingOf st).size > 1 then(pendingOf st)[(pendingOf st).size-2]? else none)with
   |some (_,_,older)=>(if older<=power' z (2*s1+n1) (2*s1+n1+n1+n) z then pure (ForInStep.done (none,()))else mergeAt' ((pendingOf st).size-2) >>= fun b=>if(!b)=true then pure (ForInStep.done (some (),()))else pure (ForInStep.yield (none,())))
   |_=>pure (ForInStep.done (none,()))
  match r.1 with
  |some v=>pure (ForInStep.done (some v,lo))
  |none=>do
   modify fun s=>setPending s ((pendingOf s).modify ((pendingOf s).size-1) fun(x:Nat×Nat×Nat)=>(x.1,x.2.1,power' z (2*s1+n1) (2*s1+n1+n1+n) z))
   sP lo n
 |_=>sP lo n
def sB (z mr lo:Nat):StateT SortSt Sem (ForInStep (Option Unit×Nat)):=
 if lo ≥ z then pure (ForInStep.done (none,lo))else countRun' lo (z-lo) >>= fun x=>match x with
  |some m=>if m<mr then(liftM (rule "list.sort.binary-insertion") >>= fun(_:Unit)=>binarySort' lo (min (z-lo) mr) m >>= fun b=>if(!b)=true then pure (ForInStep.done (some (),lo))else sT z lo (min (z-lo) mr))else sT z lo m
  |_=>pure (ForInStep.done (some (),lo))
end So
namespace PySem
def Rsn (xs:Array Nat):Prop:=xs.toList.Pairwise (· < ·)
theorem d9' {xs:Array Nat} (hr:Rsn xs) {i j:Nat} (hij:i<j) (hj:j<xs.size):xs[i]'⋯<xs[j]:=by
 have:=bv.mp hr i j (by rw[aG];omega) (by rw[aG];omega) hij
 simpa using this
theorem fl' {xs:Array Nat} (hr:Rsn xs) (j:Nat):∀(f lo hi:Nat),lo<=hi->hi<=xs.size->hi-lo<=f->(∀i (h:i<xs.size),i<lo->xs[i]<j)->(∀i (h:i<xs.size),hi<=i->j<=xs[i])->
  SetTable.below.go xs j f lo hi<=xs.size/\(∀i (h:i<xs.size),i<SetTable.below.go xs j f lo hi->xs[i]<j)/\(∀i (h:i<xs.size),SetTable.below.go xs j f lo hi<=i->j<=xs[i])
 |0,lo,hi,h1,h2,h3,a,b=>by
  have e:lo=hi:=by omega
  subst e
  exact⟨h2,a,b⟩
 |f+1,lo,hi,h1,h2,h3,a,b=>by
  unfold SetTable.below.go
  by_cases hl:lo<hi
  .rw[if_pos hl]
   dsimp only
   have hm:(lo+hi) / 2<xs.size:=by omega
   have eg:xs.getD ((lo+hi) / 2) j=xs[(lo+hi) / 2]:=by simp[Array.getD,hm]
   rw[eg]
   by_cases hx:xs[(lo+hi) / 2]<j
   .rw[if_pos hx]
    refine fl' hr j f _ _ ⋯ h2 ⋯ (fun i h hi'=>?_) b
    by_cases e:i=(lo+hi) / 2
    .subst e;exact hx
    .exact Nat.lt_trans (d9' hr ⋯ hm) hx
   .rw[if_neg hx]
    refine fl' hr j f _ _ ⋯ ⋯ ⋯ a fun i h hi'=>?_
    by_cases e:i=(lo+hi) / 2
    .subst e;omega
    .have:=d9' hr (i:=(lo+hi) / 2) (j:=i) ⋯ h
     omega
  .rw[if_neg hl]
   have e:lo=hi:=by omega
   subst e
   exact⟨h2,a,b⟩
theorem fm' {xs:Array Nat} (hr:Rsn xs) (j:Nat):SetTable.below xs j<=xs.size/\(∀i (h:i<xs.size),i<SetTable.below xs j->xs[i]<j)/\(∀i (h:i<xs.size),SetTable.below xs j<=i->j<=xs[i]):=
 fl' hr j _ _ _ (aL _) (ah _) (ah _) (fun _ _ z=>absurd z (bM _)) fun i h z=>absurd h ⋯
theorem hV' {xs:Array Nat} (hr:Rsn xs) {j:Nat} (h:xs[SetTable.below xs j]?≠some j):j∉xs.toList:=by
 intro hm
 obtain⟨i,hi,e⟩:=cm.mp hm
 rw[aG]at hi
 rw[Array.getElem_toList]at e
 obtain⟨h1,h2,h3⟩:=fm' hr j
 have hle:SetTable.below xs j<=i:=Nat.le_of_not_lt fun z=>by have:=h2 i hi z;omega
 by_cases hq:SetTable.below xs j=i
 .rw[hq]at h
  exact h (by rw[aD hi,e])
 .have:=d9' hr (i:=SetTable.below xs j) (j:=i) ⋯ hi
  have:=h3 _ ⋯ (ah (SetTable.below xs j))
  omega
theorem i6' {xs:Array Nat} (hr:Rsn xs) {j:Nat} (h:xs[SetTable.below xs j]?≠some j):Rsn (SetTable.insertAt xs (SetTable.below xs j) j):=by
 obtain⟨h1,h2,h3⟩:=fm' hr j
 have hn:=hV' hr h
 unfold Rsn
 rw[SetTable.toList_insertAt]
 first
 |rw[ba,List.singleton_append]
 |skip
 rw[bj,List.pairwise_cons]
 have hT:∀a∈xs.toList.take (SetTable.below xs j),a<j:=by
  intro a ha
  obtain⟨i,hi,e⟩:=cm.mp ha
  rw[aQ,aG]at hi
  rw[cF,Array.getElem_toList]at e
  have:=h2 i ⋯ ⋯
  omega
 have hD:∀b∈xs.toList.drop (SetTable.below xs j),j<b:=by
  intro b hb
  obtain⟨i,hi,e⟩:=cm.mp hb
  rw[cK,aG]at hi
  rw[cW,Array.getElem_toList]at e
  have:=h3 (SetTable.below xs j+i) ⋯ ⋯
  have hne:b≠j:=fun z=>hn (z ▸ db hb)
  omega
 refine⟨hr.sublist (List.take_sublist _ _),⟨hD,hr.sublist (List.drop_sublist _ _)⟩,fun a ha b hb=>?_⟩
 rcases au.mp hb with rfl|hb
 .exact hT a ha
 .exact Nat.lt_trans (hT a ha) (hD b hb)
def TOk (bt:Bool) (t:SetTable):Prop:=bt=true\/t.led=true/\Rsn t.place
end PySem
namespace PySem
namespace Ts
open SetTable
def u (x:Nat):Nat->Nat
 |0=>x
 |n+1=>5*u x n+1
theorem qn' (x a:Nat):∀b,u x (a+b)=u (u x a) b
 |0=>rfl
 |b+1=>by show 5*u x (a+b)+1=5*u (u x a) b+1;rw[qn' x a b]
theorem qo' (x:Nat):∀n,u x n=5 ^ n*x+u 0 n
 |0=>by simp[u]
 |n+1=>by
  show 5*u x n+1=5 ^ (n+1)*x+(5*u 0 n+1)
  rw[qo' x n,cT]
  have:5 ^ n*5*x=5*(5 ^ n*x):=by rw[dj (5 ^ n) 5,cq]
  omega
theorem ku':∀n,4*u 0 n+1=5 ^ n
 |0=>rfl
 |n+1=>by
  have:=ku' n
  rw[cT]
  show 4*(5*u 0 n+1)+1=_
  omega
theorem x5' (k:Nat):∃c,u 0 (2 ^ k)=2 ^ k*(2*c+1):=by
 induction k with
 |zero=>exact⟨0,rfl⟩
 |succ k ih=>
  obtain⟨c,hc⟩:=ih
  have h1:u 0 (2 ^ (k+1))=5 ^ (2 ^ k)*u 0 (2 ^ k)+u 0 (2 ^ k):=by
   rw[cT,Nat.mul_two,qn',qo' (u 0 (2 ^ k))]
  have h2:=ku' (2 ^ k)
  rw[<- h2]at h1
  generalize hs:u 0 (2 ^ k)=S at h1 hc
  rw[h1,cT]
  generalize 2 ^ k=p at hc
  refine⟨(2*c+1)*S+c,?_⟩
  have e1:p*((2*c+1)*S)=S*S:=by rw[<- cq,<- hc]
  have e2:(4*S+1)*S=4*(S*S)+S:=by rw[Nat.add_mul,Nat.one_mul,cq]
  have e3:p*2*(2*((2*c+1)*S+c)+1)=4*(p*((2*c+1)*S))+2*(p*(2*c+1)):=by
   rw[show 2*((2*c+1)*S+c)+1=2*((2*c+1)*S)+(2*c+1) by omega,Nat.mul_add,dj p 2]
   generalize (2*c+1)*S=q
   rw[cq 2 p (2*q),Nat.mul_left_comm p 2 q,cq 2 p (2*c+1)]
   omega
  rw[e2,e3,e1,<- hc]
  omega
theorem tS' (z k:Nat):u z (2 ^ k) % 2 ^ (k+1)=(z+2 ^ k) % 2 ^ (k+1):=by
 obtain⟨c,hc⟩:=x5' k
 have h2:=ku' (2 ^ k)
 rw[qo',<- h2,hc,cT]
 generalize 2 ^ k=p
 have e:(4*(p*(2*c+1))+1)*z+p*(2*c+1)=z+p+p*2*(2*(2*c+1)*z+c):=by
  rw[Nat.add_mul,Nat.one_mul,Nat.mul_add (p*2)]
  have e1:4*(p*(2*c+1))*z=p*2*(2*(2*c+1)*z):=by
   rw[cq p 2,<- cq 2 (2*(2*c+1)) z,<- cq 2 2,Nat.mul_left_comm 4 p,cq p]
  have e2:p*(2*c)=p*2*c:=by rw[cq]
  have e3:p*(2*c+1)=p*(2*c)+p:=by rw[Nat.mul_add,Nat.mul_one]
  rw[e1,e3]
  omega
 rw[e,Nat.add_mul_mod_self_left]
theorem cyc:∀(k x y:Nat),∃n,n<2 ^ k/\u x n % 2 ^ k=y % 2 ^ k
 |0,x,y=>⟨0,by decide,by rw[Nat.pow_zero,Nat.mod_one,Nat.mod_one]⟩
 |k+1,x,y=>by
  obtain⟨n,hn,e⟩:=cyc k x y
  have hp:0<2 ^ k:=Nat.pow_pos (by decide)
  have h2:2 ^ (k+1)=2*2 ^ k:=by rw[cT,dj]
  by_cases h:u x n % 2 ^ (k+1)=y % 2 ^ (k+1)
  .exact⟨n,⋯,h⟩
  .refine⟨n+2 ^ k,⋯,?_⟩
   rw[qn',tS']
   generalize u x n=z at e h ⊢
   rw[h2]at h ⊢
   generalize 2 ^ k=p at e h hp ⊢
   have a1:z % (2*p)=z % p\/z % (2*p)=z % p+p:=by
    have:=Nat.mod_two_eq_zero_or_one (z / p)
    rw[dj 2 p,Nat.mod_mul]
    rcases this with q|q<;>rw[q]<;>simp
   have a2:y % (2*p)=y % p\/y % (2*p)=y % p+p:=by
    have:=Nat.mod_two_eq_zero_or_one (y / p)
    rw[dj 2 p,Nat.mod_mul]
    rcases this with q|q<;>rw[q]<;>simp
   rw[Nat.add_mod,dg (show p<2*p by omega)]
   have b1:=Nat.mod_lt z hp
   rcases a1 with q1|q1<;>rcases a2 with q2|q2
   .omega
   .rw[q1,q2,e,dg ⋯]
   .rw[q1,q2,e,show y % p+p+p=y % p+2*p by omega,Nat.add_mod_right,dg ⋯]
   .omega
end Ts
end PySem
namespace PySem
namespace Ts
open SetTable
def nxt (m:Nat) (p:Probe):Probe:=if p.more > 0 then { p with j:=p.j+1,more:=p.more-1 } else
 { p with j:=(leap m p.i p.perturb).1,more:=runEnd m (leap m p.i p.perturb).1-(leap m p.i p.perturb).1,i:=(leap m p.i p.perturb).1,perturb:=(leap m p.i p.perturb).2 }
def Pj (m:Nat) (h:Int):Nat->Probe
 |0=>{ j:=bits h % (m+1),more:=runEnd m (bits h % (m+1))-bits h % (m+1),i:=bits h % (m+1),perturb:=bits h,dummy:=none }
 |n+1=>nxt m (Pj m h n)
theorem m8' (t:SetTable) (h:Int):t.probeStart h=Pj t.mask h 0:=rfl
theorem oL' (t:SetTable) (h:Int) (n:Nat):t.advance (Pj t.mask h n)=Pj t.mask h (n+1):=by
 show t.advance (Pj t.mask h n)=nxt t.mask (Pj t.mask h n)
 rfl
def Lp (m:Nat) (h:Int):Nat->Nat×Nat
 |0=>(bits h % (m+1),bits h)
 |l+1=>leap m (Lp m h l).1 (Lp m h l).2
def mo (m i:Nat):Nat:=runEnd m i-i
theorem x6' {m i:Nat}:mo m i<=9:=by unfold mo runEnd;split<;>omega
theorem tT' {m i k:Nat} (hi:i<=m) (hk:k<=mo m i):i+k<=m:=by
 unfold mo runEnd at hk
 split at hk<;>omega
def sg (m:Nat) (h:Int):Nat->Nat
 |0=>0
 |l+1=>sg m h l+mo m (Lp m h l).1+1
theorem tU' (m:Nat) (h:Int):∀l,sg m h l<=10*l
 |0=>ah _
 |l+1=>by
  have:=tU' m h l
  have:=@x6' m (Lp m h l).1
  show sg m h l+mo m (Lp m h l).1+1<=_
  omega
theorem gR' {m:Nat} {h:Int} {l b:Nat} (e:Pj m h b={ j:=(Lp m h l).1,more:=mo m (Lp m h l).1,i:=(Lp m h l).1,perturb:=(Lp m h l).2,dummy:=none }):∀k,k<=mo m (Lp m h l).1->Pj m h (b+k)={ j:=(Lp m h l).1+k,more:=mo m (Lp m h l).1-k,i:=(Lp m h l).1,perturb:=(Lp m h l).2,dummy:=none }
 |0,_=>by rw[Nat.add_zero,e];rfl
 |k+1,hk=>by
  have ih:=gR' e k ⋯
  show nxt m (Pj m h (b+k))=_
  rw[ih]
  unfold nxt
  rw[if_pos (by show mo m _-k > 0;omega)]
  rfl
theorem kv' (m:Nat) (h:Int):∀l,Pj m h (sg m h l)={ j:=(Lp m h l).1,more:=mo m (Lp m h l).1,i:=(Lp m h l).1,perturb:=(Lp m h l).2,dummy:=none }
 |0=>rfl
 |l+1=>by
  have e:=gR' (kv' m h l) _ (ah _)
  show nxt m (Pj m h (sg m h l+mo m (Lp m h l).1))=_
  rw[e]
  unfold nxt
  rw[if_neg (by show ¬(_-_ > 0);omega)]
  rfl
theorem eQ' {m:Nat} {h:Int} {l k:Nat} (hk:k<=mo m (Lp m h l).1):Pj m h (sg m h l+k)={ j:=(Lp m h l).1+k,more:=mo m (Lp m h l).1-k,i:=(Lp m h l).1,perturb:=(Lp m h l).2,dummy:=none }:=gR' (kv' m h l) k hk
theorem hW' {m:Nat} {h:Int}:∀{l n:Nat},n<sg m h l->∃l' k',l'<l/\k'<=mo m (Lp m h l').1/\n=sg m h l'+k'
 |0,n,hn=>absurd hn (bM _)
 |l+1,n,hn=>by
  have hn:n<sg m h l+mo m (Lp m h l).1+1:=hn
  by_cases q:n<sg m h l
  .obtain⟨l',k',h1,h2,h3⟩:=hW' q
   exact⟨l',k',⋯,h2,h3⟩
  .exact⟨l,n-sg m h l,⋯,⋯,⋯⟩
theorem hX' {m:Nat} {h:Int} (n:Nat):∃l k,k<=mo m (Lp m h l).1/\n=sg m h l+k:=by
 have hle:∀l,l<=sg m h l:=fun l=>by
  induction l with
  |zero=>exact ah _
  |succ l ih=>show l+1<=sg m h l+mo m (Lp m h l).1+1;omega
 obtain⟨l',k',_,h2,h3⟩:=hW' (m:=m) (h:=h) (l:=n+1) (n:=n) (ao (de n) (hle (n+1)))
 exact⟨l',k',h2,h3⟩
theorem m9' {m:Nat} {h:Int} {n:Nat}:(Pj m h n).dummy=none:=by
 obtain⟨l,k,hk,rfl⟩:=hX' (m:=m) (h:=h) n
 rw[eQ' hk]
theorem qp' {m:Nat} {h:Int}:∀{l:Nat},(Lp m h l).1<=m
 |0=>cc (Nat.mod_lt _ (Nat.succ_pos _))
 |l+1=>cc (Nat.mod_lt _ (Nat.succ_pos _))
theorem x7' {m:Nat} {h:Int} {n:Nat}:(Pj m h n).j<=m:=by
 obtain⟨l,k,hk,rfl⟩:=hX' (m:=m) (h:=h) n
 rw[eQ' hk]
 exact tT' qp' hk
theorem kw' {m:Nat} {h:Int}:∀{l:Nat},(Lp m h l).2=bits h / 32 ^ l
 |0=>by show bits h=_;simp
 |l+1=>by
  show(Lp m h l).2 / 32=_
  rw[kw',Nat.div_div_eq_div_mul,cT]
theorem qq' (h:Int):bits h<2 ^ 64:=by
 unfold bits
 have:=cP h (show(0:Int)<2 ^ 64 by decide)
 have:=Int.emod_nonneg h (show(2 ^ 64:Int)≠0 by decide)
 omega
theorem qr' {m:Nat} {h:Int} {l:Nat} (hl:13<=l):(Lp m h l).2=0:=by
 rw[kw']
 refine Nat.div_eq_of_lt (ao (qq' h) ?_)
 exact aS (show 2 ^ 64<=32 ^ 13 by decide) (Nat.pow_le_pow_right (by decide) hl)
theorem z1' {m:Nat} {h:Int}:∀{n:Nat},(Lp m h (13+n)).1=u (Lp m h 13).1 n % (m+1)
 |0=>(dg (Nat.lt_succ_of_le qp')).symm
 |n+1=>by
  show((Lp m h (13+n)).1*5+1+(Lp m h (13+n)).2 / 32) % (m+1)=(5*u _ n+1) % (m+1)
  rw[qr' ⋯,z1' (n:=n),Nat.zero_div,Nat.add_zero,dj]
  rw[Nat.add_mod,Nat.mul_mod,Nat.mod_mod,<- Nat.mul_mod,<- Nat.add_mod]
theorem tV' {m k:Nat} (hk:m+1=2 ^ k) (h:Int) {y:Nat} (hy:y<=m):∃l,l<m+14/\(Lp m h l).1=y:=by
 obtain⟨n,hn,e⟩:=cyc k (Lp m h 13).1 y
 refine⟨13+n,⋯,?_⟩
 rw[z1',hk,e,<- hk,dg ⋯]
theorem tW' {m k:Nat} (hk:m+1=2 ^ k) (h:Int) {y:Nat} (hy:y<=m):∃n,n<10*(m+14)/\(Pj m h n).j=y:=by
 obtain⟨l,hl,e⟩:=tV' hk h hy
 have:=tU' m h l
 exact⟨sg m h l,⋯,by rw[kv'];exact e⟩
theorem x9' {P:Nat->Prop} {n:Nat} (h:P n):∃m,m<=n/\P m/\∀i,i<m->¬P i:=by
 induction n using Nat.strongRecOn with
 |ind n ih=>
  by_cases q:∃i,i<n/\P i
  .obtain⟨i,hi,pi⟩:=q
   obtain⟨m,h1,h2,h3⟩:=ih i hi pi
   exact⟨m,⋯,h2,h3⟩
  .exact⟨n,ah _,h,fun i hi pi=>q ⟨i,hi,pi⟩⟩
theorem f5':∀{l b:List Nat},l.Nodup->(∀i∈l,i∈b)->l.length<=b.length
 | [],_,_,_=>aL _
 |a :: l,b,h,hs=>by
  have ha:a∈b:=hs a (by simp)
  have:=f5' (l:=l) (b:=b.erase a) (cD.mp h).2 fun i hi=>by
   have hne:i≠a:=fun e=>(cD.mp h).1 (by rw[<- e];exact hi)
   exact(List.mem_erase_of_ne hne).mpr (hs i (by simp[hi]))
  rw[List.length_erase_of_mem ha]at this
  have:=List.length_pos_of_mem ha
  rw[aR]
  omega
theorem kx' {m:Nat} {l:List Nat} (h:l.length<=m):∃y,y<=m/\y∉l:=Classical.byContradiction fun z=>by
 have:=f5' (l:=av (m+1)) (b:=l) List.nodup_range fun i hi=>Classical.byContradiction fun q=>z ⟨i,cc (aI.mp hi),q⟩
 rw[aV]at this
 omega
structure TabOk (t:SetTable) (es:Array (Int×Value)):Prop where
 rise:Rsn t.place
 le:∀p∈t.place.toList,p<=t.mask
 size:t.place.size=es.size
 dum:t.dummies=#[]
 pow:∃k,t.mask+1=2 ^ k
 room:t.place.size<=t.mask
 met:∀q∈t.place.toList.zip es.toList,∃n,(Pj t.mask q.2.1 n).j=q.1/\∀n',n'<n->(Pj t.mask q.2.1 n').j∈t.place.toList
theorem qs' {t:SetTable} (hr:Rsn t.place) (hd:t.dummies=#[]) (j:Nat):(∃i,t.slot j=.live i/\t.place[i]?=some j)\/(t.slot j=.empty/\j∉t.place.toList):=by
 unfold SetTable.slot
 by_cases h:t.place[below t.place j]?=some j
 .exact .inl ⟨below t.place j,by simp[h],h⟩
 .refine .inr ⟨?_,hV' hr h⟩
  have h1:(t.place[below t.place j]? == some j)=false:=by simpa using h
  rw[hd]
  simp only[h1]
  rfl
theorem TabOk.end {t:SetTable} {es:Array (Int×Value)} (T:TabOk t es) (h:Int):∃N,N<10*(t.mask+14)/\(Pj t.mask h N).j∉t.place.toList/\∀n,n<N->(Pj t.mask h n).j∈t.place.toList:=by
 obtain⟨y,hy,hn⟩:=kx' (m:=t.mask) (l:=t.place.toList) (by rw[aG];exact T.room)
 obtain⟨k,hk⟩:=T.pow
 obtain⟨n,h1,h2⟩:=tW' hk h hy
 obtain⟨N,g1,g2,g3⟩:=x9' (P:=fun n=>(Pj t.mask h n).j∉t.place.toList) (n:=n) (by rw[h2];exact hn)
 exact⟨N,⋯,g2,fun i hi=>Classical.byContradiction (g3 i hi)⟩
theorem hY' {t:SetTable} (hr:Rsn t.place) (hd:t.dummies=#[]) (hat:Nat->Int) (h:Int) {N:Nat} (hN:(Pj t.mask h N).j∉t.place.toList) (hB:∀n,n<N->(Pj t.mask h n).j∈t.place.toList):∀(f n:Nat),n<=N->N-n<f->
  (probe.go t hat h f (Pj t.mask h n)=some (.empty (Pj t.mask h N).j none)/\∀n' i,n<=n'->n'<N->t.place[i]?=some (Pj t.mask h n').j->hat i≠h)\/
  ∃n' i,n<=n'/\n'<N/\t.place[i]?=some (Pj t.mask h n').j/\t.slot (Pj t.mask h n').j=.live i/\hat i=h/\probe.go t hat h f (Pj t.mask h n)=some (.candidate (Pj t.mask h n').j i (Pj t.mask h (n'+1)))/\∀n'' i',n<=n''->n''<n'->t.place[i']?=some (Pj t.mask h n'').j->hat i'≠h
 |0,n,_,hf=>absurd hf (bM _)
 |f+1,n,hn,hf=>by
  have uniq:∀{i i':Nat} {x:Nat},t.place[i]?=some x->t.place[i']?=some x->i=i':=by
   intro i i' x e e'
   obtain⟨q1,q2⟩:=bd.mp e
   obtain⟨q3,q4⟩:=bd.mp e'
   rcases cY i i' with z|z|z
   .have:=d9' hr z q3;omega
   .exact z
   .have:=d9' hr z q1;omega
  unfold probe.go
  rcases qs' hr hd (Pj t.mask h n).j with⟨i,hs,hp⟩|⟨hs,hp⟩
  .rw[hs]
   dsimp only
   have hlt:n<N:=by
    rcases aY n N with z|z
    .exact z
    .have e:n=N:=by omega
     subst e
     exact absurd (by rw[bT];exact cU hp) hN
   by_cases hq:hat i=h
   .right
    refine⟨n,i,ah _,hlt,hp,hs,hq,?_,fun n'' _ a b=>absurd b ⋯⟩
    rw[if_pos (by simpa using hq),oL']
   .rw[if_neg (by simpa using hq),oL']
    rcases hY' hr hd hat h hN hB f (n+1) ⋯ ⋯with⟨e,z⟩|⟨n',i',a1,a2,a3,a4,a5,a6,a7⟩
    .left
     refine⟨e,fun n' i' b1 b2 b3=>?_⟩
     by_cases q:n'=n
     .subst q;rw[<- uniq hp b3];exact hq
     .exact z n' i' ⋯ b2 b3
    .right
     refine⟨n',i',⋯,a2,a3,a4,a5,a6,fun n'' i'' b1 b2 b3=>?_⟩
     by_cases q:n''=n
     .subst q;rw[<- uniq hp b3];exact hq
     .exact a7 n'' i'' ⋯ b2 b3
  .rw[hs]
   dsimp only
   have e:n=N:=by
    rcases aY n N with z|z
    .exact absurd (hB n z) hp
    .omega
   subst e
   left
   exact⟨by rw[m9'],fun n' _ a b=>absurd b ⋯⟩
end Ts
end PySem
namespace PySem
namespace Ts
open SetTable
theorem qt' (j:Nat):has #[] j=false:=by
 unfold has
 rfl
theorem TabOk.put {t:SetTable} {es:Array (Int×Value)} (T:TabOk t es) {h:Int} {x:Value} {N:Nat} (hN:(Pj t.mask h N).j∉t.place.toList) (hB:∀n,n<N->(Pj t.mask h n).j∈t.place.toList) (hroom:es.size+1<=t.mask):
  TabOk (t.put (Pj t.mask h N).j).1 (insertAt es (t.put (Pj t.mask h N).j).2 (h,x)):=by
 have hb:=fm' T.rise (Pj t.mask h N).j
 have hne:t.place[below t.place (Pj t.mask h N).j]?≠some (Pj t.mask h N).j:=fun z=>hN (by rw[bT];exact cU z)
 have hp:(t.put (Pj t.mask h N).j).1={ t with place:=insertAt t.place (below t.place (Pj t.mask h N).j) (Pj t.mask h N).j }:=by
  unfold SetTable.put
  rw[T.dum,qt']
  have hd:=T.dum
  cases t
  cases hd
  rfl
 have hp2:(t.put (Pj t.mask h N).j).2=below t.place (Pj t.mask h N).j:=rfl
 rw[hp,hp2]
 generalize hj:(Pj t.mask h N).j=j at *
 generalize hq:below t.place j=p at *
 have hl:(List.take p t.place.toList).length=(List.take p es.toList).length:=by
  rw[aQ,aQ,aG,aG,T.size]
 have hmem:∀y,y∈(insertAt t.place p j).toList↔y=j\/y∈t.place.toList:=by
  intro y
  rw[toList_insertAt]
  conv=>rhs;rw[<- aM p t.place.toList]
  simp only[am,au]
  constructor
  .rintro(a|a|a)
   .exact .inr (.inl a)
   .exact .inl a
   .exact .inr (.inr a)
  .rintro(a|a|a)
   .exact .inr (.inl a)
   .exact .inl a
   .exact .inr (.inr a)
 have hsz:∀{α:Type} (xs:Array α) (y:α),(insertAt xs p y).size=xs.size+1:=fun xs y=>by
  rw[<- aG,toList_insertAt]
  simp only[aj,aR,aQ,cK,aG]
  omega
 refine⟨?_,?_,?_,T.dum,T.pow,?_,?_⟩
 .have:=i6' T.rise (j:=j) (by rw[hq];exact hne)
  rw[hq]at this
  exact this
 .intro y hy
  rcases(hmem y).mp hy with rfl|hy
  .rw[<- hj];exact x7'
  .exact T.le y hy
 .show(insertAt t.place p j).size=_
  rw[hsz,hsz,T.size]
 .show(insertAt t.place p j).size<=t.mask
  rw[hsz,T.size]
  exact hroom
 .show ∀q∈(insertAt t.place p j).toList.zip (insertAt es p (h,x)).toList,∃n,(Pj t.mask q.2.1 n).j=q.1/\∀n',n'<n->_∈(insertAt t.place p j).toList
  rw[toList_insertAt t.place,toList_insertAt es,List.zip_append hl,List.zip_cons_cons,<- toList_insertAt t.place]
  have old:∀q∈t.place.toList.zip es.toList,∃n,(Pj t.mask q.2.1 n).j=q.1/\∀n',n'<n->(Pj t.mask q.2.1 n').j∈(insertAt t.place p j).toList:=fun q hq=>by
   obtain⟨n,h1,h2⟩:=T.met q hq
   exact⟨n,h1,fun n' hn'=>(hmem _).mpr (.inr (h2 n' hn'))⟩
  rw[<- aM p t.place.toList,<- aM p es.toList,List.zip_append hl]at old
  intro q hq
  rcases am.mp hq with hq|hq
  .exact old q (aE _ hq)
  .rcases au.mp hq with rfl|hq
   .exact⟨N,hj,fun n' hn'=>(hmem _).mpr (.inr (hB n' hn'))⟩
   .exact old q (ai _ hq)
structure OwnOk (m:Nat) (hs:List Int) (k:Nat) (ow:Array (Option Nat)):Prop where
 size:ow.size=m+1
 met:∀j i:Nat,ow[j]?=some (some i)->i<k/\∃h n,hs[i]?=some h/\(Pj m h n).j=j/\∀n',n'<n->∃z,ow[(Pj m h n').j]?=some (some z)
 all:∀i,i<k->∃j:Nat,ow[j]?=some (some i)
 uniq:∀i j j':Nat,ow[j]?=some (some i)->ow[j']?=some (some i)->j=j'
theorem OwnOk.free {m:Nat} {hs:List Int} {k:Nat} {ow:Array (Option Nat)} (O:OwnOk m hs k ow) (hk:k<=m):∃y,y<=m/\ow[y]?=some none:=Classical.byContradiction fun z=>by
 have full:∀y,y<=m->∃i,ow[y]?=some (some i):=fun y hy=>by
  have e:ow[y]?=some (ow[y]'(by have:=O.size;omega)):=aD _
  cases hv:ow[y]'(by have:=O.size;omega)with
  |none=>rw[hv]at e;exact absurd ⟨y,hy,e⟩ z
  |some i=>rw[hv]at e;exact⟨i,e⟩
 have:=f5' (l:=(av (m+1)).map fun y=>(ow.getD y none).getD 0) (b:=av k) ?_ ?_
 .rw[ae,aV,aV]at this
  omega
 .rw[List.Nodup,cu]
  refine List.Pairwise.imp_of_mem (fun {a b} ha hb hab=>?_) cN
  obtain⟨i,hi⟩:=full a (cc (aI.mp ha))
  obtain⟨i',hi'⟩:=full b (cc (aI.mp hb))
  rw[bo,bo,hi,hi']
  intro q
  have q:i=i':=q
  subst q
  exact absurd (O.uniq i a b hi hi') ⋯
 .intro i hi
  obtain⟨y,hy,rfl⟩:=aP.mp hi
  obtain⟨i,hi⟩:=full y (cc (aI.mp hy))
  rw[bo,hi]
  exact aI.mpr (O.met y i hi).1
theorem ky' {m:Nat} {ow:Array (Option Nat)} (hs:ow.size=m+1) (h:Int) {L:Nat} (hL:ow[(Lp m h L).1]?=some none):∀(f l:Nat),l<=L->L-l<f->(∀n,n<sg m h l->∃z,ow[(Pj m h n).j]?=some (some z))->
  ∃n,layClean.free m ow f (Lp m h l).1 (Lp m h l).2=some (Pj m h n).j/\ow[(Pj m h n).j]?=some none/\∀n',n'<n->∃z,ow[(Pj m h n').j]?=some (some z)
 |0,l,_,hf,_=>absurd hf (bM _)
 |f+1,l,hl,hf,hB=>by
  unfold layClean.free
  have e1:runEnd m (Lp m h l).1+1-(Lp m h l).1=mo m (Lp m h l).1+1:=by
   unfold mo runEnd
   split<;>omega
  rw[e1]
  have val:∀k,k<=mo m (Lp m h l).1->∃o,ow[(Lp m h l).1+k]?=some o/\ow.getD ((Lp m h l).1+k) (some 0)=o:=fun k hk=>by
   have hlt:(Lp m h l).1+k<ow.size:=by rw[hs];exact Nat.lt_succ_of_le (tT' qp' hk)
   exact⟨_,aD hlt,by simp[Array.getD,hlt]⟩
  cases hq:(av (mo m (Lp m h l).1+1)).find? fun k=>(ow.getD ((Lp m h l).1+k) (some 0)).isNone with
  |some k=>
   obtain⟨h1,h2,h3⟩:=List.find?_range_eq_some.mp hq
   have hk:k<=mo m (Lp m h l).1:=cc (aI.mp h2)
   refine⟨sg m h l+k,?_,?_,fun n' hn'=>?_⟩
   .dsimp only
    rw[eQ' hk]
   .obtain⟨o,q1,q2⟩:=val k hk
    rw[q2]at h1
    rw[eQ' hk,q1]
    cases o with
    |none=>rfl
    |some _=>cases h1
   .by_cases q:n'<sg m h l
    .exact hB n' q
    .obtain⟨d,rfl⟩:∃d,n'=sg m h l+d:=⟨n'-sg m h l,⋯⟩
     have hd:d<k:=by omega
     obtain⟨o,q1,q2⟩:=val d ⋯
     have:=h3 d hd
     rw[q2]at this
     rw[eQ' ⋯,q1]
     cases o with
     |none=>cases this
     |some z=>exact⟨z,rfl⟩
  |none=>
   have h3:=List.find?_range_eq_none.mp hq
   have hw:∀d,d<=mo m (Lp m h l).1->∃z,ow[(Lp m h l).1+d]?=some (some z):=fun d hd=>by
    obtain⟨o,q1,q2⟩:=val d hd
    have:=h3 d ⋯
    rw[q2]at this
    cases o with
    |none=>cases this
    |some z=>exact⟨z,q1⟩
   have hne:l≠L:=fun e=>by
    obtain⟨z,hz⟩:=hw 0 (aL _)
    rw[Nat.add_zero,e,hL]at hz
    cases hz
   refine ky' hs h hL f (l+1) ⋯ ⋯ fun n hn=>?_
   by_cases q:n<sg m h l
   .exact hB n q
   .have hn:n<sg m h l+mo m (Lp m h l).1+1:=hn
    obtain⟨d,rfl⟩:∃d,n=sg m h l+d:=⟨n-sg m h l,⋯⟩
    rw[eQ' ⋯]
    exact hw d ⋯
theorem OwnOk.step {m k:Nat} {hs:List Int} {ow:Array (Option Nat)} (O:OwnOk m hs k ow) (hk:k<=m) (hp:∃b,m+1=2 ^ b) {h:Int} (hh:hs[k]?=some h):∃j,layClean.free m ow (turns m) (bits h % (m+1)) (bits h)=some j/\OwnOk m hs (k+1) (ow.setIfInBounds j (some k)):=by
 obtain⟨y,hy,hye⟩:=O.free hk
 obtain⟨b,hb⟩:=hp
 obtain⟨L,hL,e⟩:=tV' hb h hy
 obtain⟨n,h1,h2,h3⟩:=ky' O.size h (L:=L) (by rw[e];exact hye) (turns m) 0 (aL _) (by unfold turns;omega) fun n hn=>absurd hn (bM _)
 refine⟨_,h1,?_⟩
 generalize hj:(Pj m h n).j=j at h2 ⊢
 have hlt:j<ow.size:=(bd.mp h2).1
 have g:∀y,(ow.setIfInBounds j (some k))[y]?=if j=y then some (some k)else ow[y]?:=fun y=>by
  rw[Array.getElem?_setIfInBounds]
  by_cases q:j=y
  .rw[if_pos q,if_pos q,if_pos hlt]
  .rw[if_neg q,if_neg q]
 have mono:∀y z:Nat,ow[y]?=some (some z)->∃z,(ow.setIfInBounds j (some k))[y]?=some (some z):=fun y z e=>by
  rw[g]
  by_cases q:j=y
  .exact⟨k,by rw[if_pos q]⟩
  .exact⟨z,by rw[if_neg q];exact e⟩
 refine⟨by rw[Array.size_setIfInBounds];exact O.size,fun y i e=>?_,fun i hi=>?_,fun i y y' e e'=>?_⟩
 .rw[g]at e
  by_cases q:j=y
  .rw[if_pos q]at e
   injection e with e
   injection e with e
   subst e
   exact⟨de _,h,n,hh,by rw[hj,q],fun n' hn'=>by obtain⟨z,hz⟩:=h3 n' hn';exact mono _ z hz⟩
  .rw[if_neg q]at e
   obtain⟨a1,h',n',a2,a3,a4⟩:=O.met y i e
   exact⟨cV a1,h',n',a2,a3,fun n'' hn=>by obtain⟨z,hz⟩:=a4 n'' hn;exact mono _ z hz⟩
 .rcases aY i k with z|z
  .obtain⟨y,hy⟩:=O.all i z
   refine⟨y,?_⟩
   rw[g,if_neg (fun q=>by rw[<- q,h2]at hy;cases hy)]
   exact hy
  .exact⟨j,by rw[g,if_pos rfl,show i=k by omega]⟩
 .rw[g]at e e'
  by_cases q:j=y<;>by_cases q':j=y'
  .omega
  .rw[if_pos q]at e
   rw[if_neg q']at e'
   injection e with e
   injection e with e
   subst e
   exact absurd (O.met y' _ e').1 (bc _)
  .rw[if_neg q]at e
   rw[if_pos q']at e'
   injection e' with e'
   injection e' with e'
   subst e'
   exact absurd (O.met y _ e).1 (bc _)
  .rw[if_neg q]at e
   rw[if_neg q']at e'
   exact O.uniq i y y' e e'
theorem hZ' {m:Nat} {hs:List Int} (hp:∃b,m+1=2 ^ b) (hm:hs.length<=m):∀(r:List Int) (k:Nat) (ow:Array (Option Nat)),hs.drop k=r->k<=hs.length->OwnOk m hs k ow->∃ow',r.foldl (fun(acc:Option (Array (Option Nat)×Nat)) h=>do
    let __x <- acc
    match __x with
     |(owner,k)=>do
      let j <- layClean.free m owner (turns m) (bits h % (m+1)) (bits h)
      pure (owner.setIfInBounds j (some k),k+1)) (some (ow,k))=some (ow',hs.length)/\OwnOk m hs hs.length ow'
 | [],k,ow,e,hk,O=>by
  have:k=hs.length:=by
   have:=congrArg dh e
   simp at this
   omega
  subst this
  exact⟨ow,rfl,O⟩
 |h :: r,k,ow,e,hk,O=>by
  have hlt:k<hs.length:=by
   have:=congrArg dh e
   simp at this
   omega
  have hh:hs[k]?=some h:=by
   have:(hs.drop k)[0]?=some h:=by rw[e];rfl
   rwa [List.getElem?_drop,Nat.add_zero]at this
  obtain⟨j,hj,O'⟩:=O.step ⋯ hp hh
  obtain⟨ow',h1,h2⟩:=hZ' hp hm r (k+1) _ (by rw[<- List.drop_drop,e];rfl) ⋯ O'
  refine⟨ow',?_,h2⟩
  rw[List.foldl_cons,<- h1]
  congr 1
  show(do let j <- layClean.free m ow (turns m) (bits h % (m+1)) (bits h);pure (ow.setIfInBounds j (some k),k+1))=_
  rw[hj]
  rfl
theorem na' {m:Nat} {hs:Array Int} (hp:∃b,m+1=2 ^ b) (hm:hs.size<=m):∃ow,layClean m hs=some ow/\OwnOk m hs.toList hs.size ow:=by
 have no:∀(j i:Nat),(Array.replicate (m+1) (none:Option Nat))[j]?≠some (some i):=fun j i e=>by
  rw[Array.getElem?_replicate]at e
  split at e
  .cases e
  .cases e
 have O:OwnOk m hs.toList 0 (Array.replicate (m+1) none):=⟨by simp,fun j i e=>absurd e (no j i),fun i hi=>absurd hi (bM _),fun i j j' e _=>absurd e (no j i)⟩
 obtain⟨ow,h1,h2⟩:=hZ' hp (by rw[aG];exact hm) hs.toList 0 _ rfl (aL _) O
 rw[aG]at h1 h2
 refine⟨ow,?_,h2⟩
 unfold layClean
 rw[<- Array.foldl_toList]
 rw[h1]
 rfl
end Ts
end PySem
namespace PySem
namespace Ts
open SetTable
theorem oM' {α β:Type} {f:α->Option β} {g:α->β}:∀{l:List α},(∀x∈l,f x=some (g x))->l.filterMap f=l.map g
 | [],_=>rfl
 |a :: l,h=>by
  rw[cv,h a (by simp),aJ]
  dsimp only
  rw[oM' fun x hx=>h x (by simp[hx])]
theorem qu' {m:Nat} {es:Array (Int×Value)} (hp:∃b,m+1=2 ^ b) (hm:es.size<=m) (fi mv:Nat) (led pl:Bool):
  ∃t' order,laid m fi mv led pl (es.map (·.1))=some (t',order)/\t'.mask=m/\t'.led=led/\t'.plain=pl/\t'.moves=mv/\(order.filterMap (es[·]?)).toList.Perm es.toList/\TabOk t' (order.filterMap (es[·]?)):=by
 obtain⟨ow,h1,O⟩:=na' (hs:=es.map (·.1)) hp (by rw[Array.size_map];exact hm)
 rw[Array.size_map]at O
 generalize hl:((av (m+1)).filterMap fun j=>(ow.getD j none).map (j,·))=live
 have hmem:∀j i,(j,i)∈live↔j<=m/\ow[j]?=some (some i):=by
  intro j i
  rw[<- hl,cO]
  constructor
  .rintro⟨y,hy,e⟩
   obtain⟨z,hz,e2⟩:=aW.mp e
   injection e2 with e3 e4
   subst e3;subst e4
   have hlt:=aI.mp hy
   have hlt2:y<ow.size:=by rw[O.size];exact hlt
   rw[bo,aD hlt2]at hz
   exact⟨cc hlt,by rw[aD hlt2];exact congrArg some hz⟩
  .rintro⟨hj,e⟩
   exact⟨j,aI.mpr (Nat.lt_succ_of_le hj),by rw[bo,e];rfl⟩
 have hrise:live.Pairwise fun a b=>a.1<b.1:=by
  rw[<- hl]
  refine List.Pairwise.filterMap (R:=(· < ·)) _ (fun a a' haa b hb b' hb'=>?_) cN
  obtain⟨_,_,rfl⟩:=aW.mp hb
  obtain⟨_,_,rfl⟩:=aW.mp hb'
  exact haa
 have hlt:∀q∈live,q.2<es.size:=fun q hq=>(O.met q.1 q.2 ((hmem q.1 q.2).mp hq).2).1
 have hlow:∀{j i:Nat},ow[j]?=some (some i)->j<=m:=fun e=>by
  have:=(bd.mp e).1
  rw[O.size]at this
  omega
 generalize hd:((0,Value.none):Int×Value)=d
 have hes:((live.map (·.2)).toArray.filterMap (es[·]?)).toList=live.map fun q=>es.getD q.2 d:=by
  rw[Array.toList_filterMap,List.toList_toArray,oM' (g:=fun i=>es.getD i d) (fun i hi=>?_),dk]
  .rfl
  .obtain⟨q,hq,rfl⟩:=aP.mp hi
   rw[bo,aD (hlt q hq)]
   rfl
 have hnd:(live.map (·.2)).Nodup:=by
  rw[List.Nodup,cu]
  refine List.Pairwise.imp_of_mem (fun {a b} ha hb hab e=>?_) hrise
  have:=O.uniq a.2 a.1 b.1 ((hmem a.1 a.2).mp ha).2 (by rw[e];exact((hmem b.1 b.2).mp hb).2)
  omega
 have hperm:(live.map (·.2)).Perm (av es.size):=by
  rw[List.perm_ext_iff_of_nodup hnd List.nodup_range]
  intro i
  rw[aI]
  constructor
  .intro hi
   obtain⟨q,hq,rfl⟩:=aP.mp hi
   exact hlt q hq
  .intro hi
   obtain⟨j,hj⟩:=O.all i hi
   exact aP.mpr ⟨(j,i),(hmem j i).mpr ⟨hlow hj,hj⟩,rfl⟩
 have hlen:live.length=es.size:=by
  have:=hperm.length_eq
  rwa [ae,aV]at this
 refine⟨{ mask:=m,place:=(live.map (·.1)).toArray,dummies:=#[],finger:=fi,led,moves:=mv,plain:=pl },(live.map (·.2)).toArray,?_,rfl,rfl,rfl,rfl,?_,?_⟩
 .unfold laid
  rw[h1]
  show some (SetTable.mk _ _ _ _ _ _ _,_)=_
  rw[hl]
 .rw[hes]
  have e1:(live.map fun q=>es.getD q.2 d)=(live.map (·.2)).map fun i=>es.getD i d:=by rw[dk];rfl
  have e2:es.toList=(av es.size).map fun i=>es.getD i d:=by
   apply bZ
   intro i
   rw[al]
   by_cases hi:i<es.size
   .rw[bh hi,ce,aD hi]
    simp[Array.getD,hi]
   .rw[aZ (by rw[aG];omega),aZ (by simpa using hi)]
    rfl
  rw[e1,e2]
  exact hperm.map _
 .have hsz2:((live.map (·.2)).toArray.filterMap (es[·]?)).size=live.length:=by rw[<- aG,hes,ae]
  refine⟨?_,?_,?_,rfl,hp,?_,?_⟩
  .show List.Pairwise _ (live.map (·.1)).toArray.toList
   rw[List.toList_toArray,cu]
   exact hrise
  .intro p hp'
   obtain⟨q,hq,rfl⟩:=aP.mp (show p∈live.map (·.1) by simpa using hp')
   exact((hmem q.1 q.2).mp hq).1
  .show(live.map (·.1)).toArray.size=_
   rw[hsz2,ak,ae]
  .show(live.map (·.1)).toArray.size<=m
   rw[ak,ae,hlen]
   exact hm
  .show ∀q∈((live.map (·.1)).toArray.toList).zip _,∃n,(Pj m (Prod.fst (Prod.snd q)) n).j=q.1/\∀n',n'<n->_∈(live.map (·.1)).toArray.toList
   rw[hes,List.toList_toArray,List.zip_map']
   intro q hq
   obtain⟨⟨j,i⟩,hl2,rfl⟩:=aP.mp hq
   have hji:=((hmem j i).mp hl2).2
   obtain⟨hi,h,n,a1,a2,a3⟩:=O.met j i hji
   have eh:(es.getD i d).1=h:=by
    rw[Array.toList_map,al,ce,aD hi]at a1
    injection a1 with a1
    rw[bo,aD hi]
    exact a1
   refine⟨n,by show(Pj m (es.getD i d).1 n).j=j;rw[eh];exact a2,fun n' hn'=>?_⟩
   show(Pj m (es.getD i d).1 n').j∈_
   rw[eh]
   obtain⟨z,hz⟩:=a3 n' hn'
   exact aP.mpr ⟨(_,z),(hmem _ z).mpr ⟨hlow hz,hz⟩,rfl⟩
end Ts
end PySem
namespace PySem
namespace Ts
open SetTable
section
variable {prog:Program} {w:World}
def elm (prog:Program) (w:World) (q:List Int×Addr):Int×Value:=(tupleKeyHash (intKind prog w) q.1,.ref q.2)
def Tup (prog:Program) (w:World) (h:Heap) (q:List Int×Addr):Prop:=IsTupleKey (intKind prog w) h q.1 q.2
structure MaskOk (t:SetTable):Prop where
 mask:t.mask∈[7,31,127,511,2047,8191]
 few:t.place.size*5<t.mask*3
theorem MaskOk.le {t:SetTable} (m:MaskOk t):7<=t.mask/\t.mask<=8191/\t.mask % 2=1:=by
 have:=m.mask
 simp only[au,aA,or_false]at this
 omega
theorem TabOk.fits {t:SetTable} {es:Array (Int×Value)} (T:TabOk t es):t.fits es.size=true:=by
 unfold SetTable.fits SetTable.fill
 rw[T.dum,T.size]
 have:=T.room
 rw[T.size]at this
 simp[this]
variable {A:Around} {E:Value->Shared->Prop} {s:Shared}
theorem ea' {q:List Int×Addr} {Q:Bool->Shared->Prop} (hk:Tup prog w s.heap q) (h:Q false s):wpAny (model prog w) A (ofAClassStatement 8 (.ref q.2)) Q E s:=by
 have hT:=hk.typeIs
 obtain⟨o,items,n,ho,_,hd,hi⟩:=hk
 unfold ofAClassStatement
 refine ab (wpAny_typeOf hT ?_)
 dsimp only
 rw[if_pos (by decide)]
 refine ab (ag ?_)
 rw[if_neg (by simp)]
 refine ab (bL ho hd ?_)
 dsimp only
 refine ab ?_
 show wpAny _ _ (forIn items _ _) _ _ s
 rw[<- Array.forIn_toList]
 refine wpAny_forIn_list _ (fun ay' r s'=>r.1=none/\s'=s/\∀v∈ay',carriedByValue v=true) _ ?_ ?_ _ _ ⟨rfl,rfl,hi.byValue⟩
 .rintro v ay' r s' ⟨hr,rfl,hall⟩
  have hv:ofAClassStatement 7 v=pure false:=by
   cases v with
   |ref a=>have:=hall _ aw;simp[carriedByValue]at this
   |_=>first|rfl|(unfold ofAClassStatement;rfl)
  rw[hv]
  refine ab (ag ?_)
  rw[if_neg (by simp)]
  exact ag ⟨rfl,rfl,fun u hu'=>hall u (aq _ hu')⟩
 .rintro⟨r1,r2⟩ s' ⟨hr,rfl,_⟩
  simp only at hr
  subst hr
  exact ag h
theorem nb' {q:List Int×Addr} {ys:List Value} {Q:Bool->Shared->Prop} (hk:Tup prog w s.heap q) (hy:∀v∈ys,∃p,v=.ref p.2/\Tup prog w s.heap p) (h:Q false s):wpAny (model prog w) A (searchCouldBeSeen (.ref q.2) ys) Q E s:=by
 unfold searchCouldBeSeen
 refine ab ?_
 refine wpAny_forIn_list _ (fun ay' r s'=>r.1=none/\s'=s/\∀v∈ay',∃p,v=Value.ref p.2/\Tup prog w s.heap p) _ ?_ ?_ _ _ ⟨rfl,rfl,hy⟩
 .rintro v ay' r s' ⟨hr,rfl,hall⟩
  obtain⟨p,rfl,hp⟩:=hall _ aw
  dsimp only
  by_cases hv:((q.2 == p.2) || (carriedByValue (Value.ref q.2)&&carriedByValue (Value.ref p.2)))=true
  .rw[if_pos hv]
   exact ag ⟨rfl,rfl,fun u hu'=>hall u (aq _ hu')⟩
  .rw[if_neg hv]
   refine ab (wpAny_eqIsQuiet_tuple hk ?_)
   rw[if_neg (by simp)]
   refine ab (wpAny_eqIsQuiet_tuple hp ?_)
   rw[if_neg (by simp)]
   refine ab (ea' hk ?_)
   rw[if_neg (by simp)]
   refine ab (ea' hp ?_)
   rw[if_neg (by simp)]
   exact ag ⟨rfl,rfl,fun u hu'=>hall u (aq _ hu')⟩
 .rintro⟨r1,r2⟩ s' ⟨hr,rfl,_⟩
  simp only at hr
  subst hr
  exact ag h
structure Elms (prog:Program) (w:World) (h:Heap) (es:Array (Int×Value)) (t:SetTable) (L:List (List Int×Addr)):Prop where
 its:es.toList=L.map (elm prog w)
 tup:∀q∈L,Tup prog w h q
 nd:(L.map (·.1)).Nodup
 tab:TabOk t es
 mask:MaskOk t
theorem f6' {a:Addr} {o:Obj} {es:Array (Int×Value)} {ep:Nat} {t:SetTable} {L:List (List Int×Addr)} (hu:A.units<cLine) (ho:s.heap.get? a=some o) (hd:o.data=.set es ep t) (X:Elms prog w s.heap es t L) {q:List Int×Addr} (hq:Tup prog w s.heap q) {adding:Bool} {Q:SetFound->Shared->Prop} {N:Nat}
  (hN:(Pj t.mask (tupleKeyHash (intKind prog w) q.1) N).j∉t.place.toList) (hB:∀n,n<N->(Pj t.mask (tupleKeyHash (intKind prog w) q.1) n).j∈t.place.toList) (hN2:N<10*turns t.mask)
  (h1:q.1∈L.map (·.1)->∀r,(adding=false->r.isSome=true)->Q (.there r) s) (h2:q.1∉L.map (·.1)->Q (.free (Pj t.mask (tupleKeyHash (intKind prog w) q.1) N).j false) s):
  ∀(f n:Nat) (st:Option Probe),st.getD (t.probeStart (tupleKeyHash (intKind prog w) q.1))=Pj t.mask (tupleKeyHash (intKind prog w) q.1) n->n<=N->N-n<f->(∀(n' i:Nat) (p:List Int×Addr),n'<n->t.place[i]?=some (Pj t.mask (tupleKeyHash (intKind prog w) q.1) n').j->L[i]?=some p->p.1≠q.1)->
   wpAny (model prog w) A (setSearchFrom a (.ref q.2) (tupleKeyHash (intKind prog w) q.1) adding f st) Q E s
 |0,n,st,_,_,hf,_=>absurd hf (bM _)
 |f+1,n,st,hst,hn,hf,hold=>by
  generalize hh:tupleKeyHash (intKind prog w) q.1=h at *
  have T:=X.tab
  obtain⟨m7,m8,m2⟩:=X.mask.le
  have hes:∀i:Nat,es[i]?=(L[i]?).map (elm prog w):=fun i=>by rw[<- ce,X.its,al]
  unfold setSearchFrom
  refine ab (cG ho hd T.fits ?_)
  dsimp only
  rw[if_neg (by unfold SetTable.gaveWay;simp;omega)]
  rw[hst]
  generalize hpr:probe t _ h (Pj t.mask h n)=P
  replace hpr:probe t (fun i=>((es[i]?).map (·.1)).getD 0) h (Pj t.mask h n)=P:=hpr
  have hP:=hY' T.rise T.dum (fun i=>((es[i]?).map (·.1)).getD 0) h hN hB (10*turns t.mask) n hn ⋯
  unfold probe at hpr
  rcases hP with⟨e,hno⟩|⟨n',i,a1,a2,a3,a4,a5,a6,a7⟩
  .rw[e]at hpr
   subst hpr
   dsimp only
   refine ag (h2 fun hm=>?_)
   obtain⟨p,hp,hpk⟩:=aP.mp hm
   obtain⟨i,hi,ei⟩:=cm.mp hp
   have hLi:L[i]?=some p:=by rw[aa hi,ei]
   have hei:es[i]?=some (elm prog w p):=by rw[hes,hLi];rfl
   have hisz:i<es.size:=(bd.mp hei).1
   have hpl:t.place[i]?=some (t.place[i]'(by rw[T.size];exact hisz)):=aD _
   generalize t.place[i]'(by rw[T.size];exact hisz)=pl at hpl
   have hz:(pl,elm prog w p)∈t.place.toList.zip es.toList:=by
    refine az (i:=i) ?_
    rw[List.getElem?_zip_eq_some]
    exact⟨by rw[ce];exact hpl,by rw[ce];exact hei⟩
   obtain⟨n0,b1,b2⟩:=T.met _ hz
   have eh:(elm prog w p).1=h:=by show tupleKeyHash _ p.1=h;rw[hpk,hh]
   dsimp only at b1 b2
   rw[eh]at b1 b2
   have hn0:n0<N:=by
    rcases aY n0 N with z|z
    .exact z
    .rcases aY N n0 with z2|z2
     .exact absurd (b2 N z2) hN
     .have:n0=N:=by omega
      subst this
      exact absurd (by rw[b1,bT];exact cU hpl) hN
   rcases aY n0 n with z|z
   .exact hold n0 i p z (by rw[b1];exact hpl) hLi hpk
   .exact hno n0 i z hn0 (by rw[b1];exact hpl) (by show((es[i]?).map (·.1)).getD 0=h;rw[hei];exact eh)
  .rw[a6]at hpr
   subst hpr
   dsimp only
   have hisz:i<es.size:=by rw[<- T.size];exact(bd.mp a3).1
   obtain⟨p,hLi⟩:∃p,L[i]?=some p:=by
    have:i<L.length:=by rw[<- ae (f:=elm prog w),<- X.its,aG];exact hisz
    exact⟨_,aa this⟩
   have hei:es[i]?=some (elm prog w p):=by rw[hes,hLi];rfl
   have hp:=X.tup p (az hLi)
   have seen:∀{k k':Sem SetFound} {R:SetFound->Shared->Prop},wpAny (model prog w) A k R E s->wpAny (model prog w) A (if(!t.led)=true then(searchCouldBeSeen (.ref q.2) ((es.filter (·.1 == h)).toList.map (·.2)) >>= fun b=>if b=true then k' else k)else k) R E s:=by
    intro k k' R hk
    by_cases hl:(!t.led)=true
    .rw[if_pos hl]
     refine ab (nb' hq (fun v hv=>?_) ?_)
     .obtain⟨e,he,rfl⟩:=aP.mp hv
      rw[bT,Array.mem_filter,<- bT,X.its]at he
      obtain⟨p',hp',rfl⟩:=aP.mp he.1
      exact⟨p',rfl,X.tup p' hp'⟩
     .rw[if_neg (by simp)]
      exact hk
    .rw[if_neg hl]
     exact hk
   refine seen ?_
   rw[hei]
   show wpAny _ _ (holding [(elm prog w p).2] (eqBool (.ref p.2) (.ref q.2)) >>= _) _ _ _
   refine ab (aT (wpAny_eqBool_tuple hu hp hq ?_))
   refine ab (cG ho hd T.fits ?_)
   dsimp only
   by_cases hk:p.1=q.1
   .have hin:q.1∈L.map (·.1):=aP.mpr ⟨p,az hLi,hk⟩
    rw[decide_eq_true hk]
    by_cases had:(adding&&true)=true
    .rw[if_pos had]
     exact ag (h1 hin _ fun z=>by rw[z]at had;cases had)
    .rw[if_neg had]
     have em:t.sameMemory t.moves t.mask=some true:=by unfold SetTable.sameMemory;simp
     rw[em]
     dsimp only
     rw[if_pos rfl,a4]
     dsimp only
     rw[hei]
     dsimp only
     refine ab (wpAny_isSame_ref_self ?_)
     rw[if_pos rfl]
     refine ab (ag ?_)
     dsimp only
     rw[if_pos rfl]
     exact ag (h1 hin _ fun _=>rfl)
   .rw[decide_eq_false hk,Bool.and_false,if_neg (by simp)]
    have em:t.sameMemory t.moves t.mask=some true:=by unfold SetTable.sameMemory;simp
    rw[em]
    dsimp only
    rw[if_pos rfl,a4]
    dsimp only
    rw[hei]
    dsimp only
    refine ab (wpAny_isSame_ref_self ?_)
    rw[if_pos rfl]
    refine ab (ag ?_)
    dsimp only
    rw[if_neg (by simp)]
    subst hh
    refine f6' hu ho hd X hq hN hB hN2 h1 h2 f (n'+1) (some _) rfl ⋯ ⋯ fun n'' i' p' c1 c2 c3=>?_
    by_cases c4:n''<n
    .exact hold n'' i' p' c4 c2 c3
    .by_cases c5:n''=n'
     .subst c5
      have:i'=i:=by
       obtain⟨q1,q2⟩:=bd.mp c2
       obtain⟨q3,q4⟩:=bd.mp a3
       rcases cY i' i with z|z|z
       .have:=d9' T.rise z q3;omega
       .exact z
       .have:=d9' T.rise z q1;omega
      subst this
      rw[hLi]at c3
      injection c3 with c3
      rw[<- c3]
      exact hk
     .intro hk'
      refine a7 n'' i' ⋯ ⋯ c2 ?_
      show((es[i']?).map (·.1)).getD 0=_
      rw[hes,c3]
      show tupleKeyHash _ p'.1=_
      rw[hk']
end
end Ts
end PySem
namespace PySem
namespace Ts
open SetTable
section
variable {prog:Program} {w:World} {A:Around} {E:Value->Shared->Prop} {s:Shared}
theorem dy' {a:Addr} {o:Obj} {es:Array (Int×Value)} {ep:Nat} {t:SetTable} {L:List (List Int×Addr)} (hu:A.units<cLine) (ho:s.heap.get? a=some o) (hd:o.data=.set es ep t) (X:Elms prog w s.heap es t L) {q:List Int×Addr} (hq:Tup prog w s.heap q) {adding:Bool} {Q:SetFound->Shared->Prop}
  (h1:q.1∈L.map (·.1)->∀r,(adding=false->r.isSome=true)->Q (.there r) s)
  (h2:q.1∉L.map (·.1)->∀N,(Pj t.mask (tupleKeyHash (intKind prog w) q.1) N).j∉t.place.toList->(∀n,n<N->(Pj t.mask (tupleKeyHash (intKind prog w) q.1) n).j∈t.place.toList)->Q (.free (Pj t.mask (tupleKeyHash (intKind prog w) q.1) N).j false) s):
  wpAny (model prog w) A (setSearch a (.ref q.2) (tupleKeyHash (intKind prog w) q.1) adding) Q E s:=by
 obtain⟨N,hN2,hN,hB⟩:=X.tab.end (tupleKeyHash (intKind prog w) q.1)
 obtain⟨m7,m8,m2⟩:=X.mask.le
 unfold setSearch
 exact f6' hu ho hd X hq hN hB (by unfold turns;omega) h1 (fun z=>h2 z N hN hB) 100000 0 none (m8' _ _) (aL _) ⋯ fun n' _ _ z=>absurd z (bM _)
theorem oN' {b:Addr} {es:Array (Int×Value)}:byScan (.ref b) es=false:=by unfold byScan Value.scannable;rfl
theorem qv' {a:Addr} {o:Obj} {es:Array (Int×Value)} {ep:Nat} {t:SetTable} {L:List (List Int×Addr)} (hu:A.units<cLine) (ho:s.heap.get? a=some o) (hd:o.data=.set es ep t) (X:Elms prog w s.heap es t L) {q:List Int×Addr} (hq:Tup prog w s.heap q) {Q:Option Nat->Shared->Prop}
  (h:∀r,r.isSome=decide (q.1∈L.map (·.1))->Q r s):wpAny (model prog w) A (setFind a (.ref q.2) (tupleKeyHash (intKind prog w) q.1)) Q E s:=by
 unfold setFind setFindIn
 refine ab (cG ho hd X.tab.fits ?_)
 dsimp only
 rw[oN',if_neg (by simp)]
 refine ab (dy' hu ho hd X hq (fun hin r hr=>?_) fun hno N _ _=>?_)
 .exact ag (h _ (by rw[hr rfl,decide_eq_true hin]))
 .exact ag (h _ (by rw[decide_eq_false hno];rfl))
theorem tX' {a:Addr} {o:Obj} {es:Array (Int×Value)} {ep:Nat} {t:SetTable} {L:List (List Int×Addr)} (hu:A.units<cLine) (ho:s.heap.get? a=some o) (hd:o.data=.set es ep t) (X:Elms prog w s.heap es t L) {q:List Int×Addr} (hq:Tup prog w s.heap q) {Q:Bool->Shared->Prop}
  (h:∀tk,Q (decide (q.1∈L.map (·.1))) { s with toks:=tk }):wpAny (model prog w) A (setContains a (.ref q.2)) Q E s:=by
 unfold setContains
 refine aT (ab (wpAny_pyHash_tuple hu hq (ab (qv' (s:={ s with toks:=s.toks+(q.1.length+1) }) hu ho hd X hq fun r hr=>?_))))
 exact ag (by rw[hr];exact h _)
theorem h0':∀{ks:List Int} {vs:List Value},ItemsAre (intKind prog w) ks vs->∀v∈vs,∃i t,v=.int i t
 |_,_,.nil,v,hv=>absurd hv aA
 |_,_,.cons h1 r,v,hv=>by
  rcases au.mp hv with rfl|hv
  .obtain⟨t,e⟩:=Value.isInt_shape h1
   exact⟨_,t,e⟩
  .exact h0' r v hv
theorem hbv {q:List Int×Addr} {Q:Bool->Shared->Prop} (hk:Tup prog w s.heap q) (h:∀b,Q b s):wpAny (model prog w) A (hashByValue 8 (.ref q.2)) Q E s:=by
 have hT:=hk.typeIs
 obtain⟨o,items,n,ho,_,hd,hi⟩:=hk
 unfold hashByValue
 refine ab (wpAny_specialOf hT F.slot_tuple_hash.lookup ?_)
 show wpAny _ _ (seqItems? (.ref q.2) >>= _) _ _ s
 refine ab (bL ho hd ?_)
 refine ab ?_
 show wpAny _ _ (forIn items _ _) _ _ s
 rw[<- Array.forIn_toList]
 refine wpAny_forIn_list _ (fun ay' r s'=>r.1=none/\s'=s/\∀v∈ay',∃i t,v=Value.int i t) _ ?_ ?_ _ _ ⟨rfl,rfl,h0' hi⟩
 .rintro v ay' r s' ⟨hr,rfl,hall⟩
  obtain⟨i,t,rfl⟩:=hall v aw
  rw[show hashByValue 7 (.int i t)=pure true by unfold hashByValue;rfl]
  refine ab (ag ?_)
  rw[if_neg (by simp)]
  exact ag ⟨rfl,rfl,fun u hu'=>hall u (aq _ hu')⟩
 .rintro⟨r1,r2⟩ s' ⟨hr,rfl,_⟩
  simp only at hr
  subst hr
  exact ag (h _)
theorem kz' {α β:Type} {f:α->β}:∀{l l':List β},l.Perm l'->∀{L:List α},l'=L.map f->∃L2:List α,L2.Perm L/\l=L2.map f:=by
 intro l l' h
 induction h with
 |nil=>intro L e;exact⟨L,.refl _,e⟩
 |cons x _ ih=>
  intro L e
  cases L with
  |nil=>cases e
  |cons a L=>
   rw[aJ]at e
   injection e with e1 e2
   obtain⟨L2,h1,h2⟩:=ih e2
   exact⟨a :: L2,h1.cons a,by rw[aJ,e1,h2]⟩
 |swap x y l=>
  intro L e
  cases L with
  |nil=>cases e
  |cons a L=>
   cases L with
   |nil=>cases e
   |cons b L=>
    rw[aJ,aJ]at e
    injection e with e1 e2
    injection e2 with e2 e3
    exact⟨b :: a :: L,.swap _ _ _,by rw[aJ,aJ,e1,e2,e3]⟩
 |trans _ _ ih1 ih2=>
  intro L e
  obtain⟨L2,h1,h2⟩:=ih2 e
  obtain⟨L3,h3,h4⟩:=ih1 h2
  exact⟨L3,h3.trans h1,h4⟩
theorem Tup.kept {h h':Heap} {a:Addr} {o:Obj} {es:Array (Int×Value)} {ep:Nat} {t:SetTable} {q:List Int×Addr} (hq:Tup prog w h q) (ho:h.get? a=some o) (hd:o.data=.set es ep t) (hs:bU a h h'):Tup prog w h' q:=by
 obtain⟨o',items,n,ho',hc,hd',hi⟩:=hq
 have hne:q.2≠a:=by
  intro e
  rw[e,ho]at ho'
  cases ho'
  rw[hd]at hd';exact nomatch hd'
 exact⟨o',items,n,(hs.2 q.2 hne).trans ho',hc,hd',hi⟩
theorem TabOk.plain {t:SetTable} {es:Array (Int×Value)} (T:TabOk t es) (b:Bool):TabOk { t with plain:=b } es:=⟨T.rise,T.le,T.size,T.dum,T.pow,T.room,T.met⟩
theorem tY' {m:Nat} (h:m∈[7,31,127,511,2047,8191]):∃b,m+1=2 ^ b:=by
 simp only[au,aA,or_false]at h
 rcases h with rfl|rfl|rfl|rfl|rfl|rfl
 .exact⟨3,rfl⟩
 .exact⟨5,rfl⟩
 .exact⟨7,rfl⟩
 .exact⟨9,rfl⟩
 .exact⟨11,rfl⟩
 .exact⟨13,rfl⟩
theorem ya' {m n:Nat} (h:m∈[7,31,127,511,2047,8191]) (h1:n*5<m*3) (h2:¬(n+1)*5<m*3) (h3:n<4000):sizeAbove (grown (n+1))-1∈[7,31,127,511,2047,8191]/\(n+1)*5<(sizeAbove (grown (n+1))-1)*3/\sizeAbove (grown (n+1))<=sizeLine:=by
 simp only[au,aA,or_false]at h
 rcases h with rfl|rfl|rfl|rfl|rfl|rfl
 .obtain rfl:n=4:=by omega
  exact⟨by decide,by decide,by decide⟩
 .obtain rfl:n=18:=by omega
  exact⟨by decide,by decide,by decide⟩
 .obtain rfl:n=76:=by omega
  exact⟨by decide,by decide,by decide⟩
 .obtain rfl:n=306:=by omega
  exact⟨by decide,by decide,by decide⟩
 .obtain rfl:n=1228:=by omega
  exact⟨by decide,by decide,by decide⟩
 .omega
end
end Ts
end PySem
namespace PySem
namespace Ts
open SetTable
section
variable {prog:Program} {w:World} {A:Around} {E:Value->Shared->Prop} {s:Shared}
theorem nc' {h h':Heap} {a:Addr} {o:Obj} {es:Array (Int×Value)} {ep:Nat} {t:SetTable} {L:List (List Int×Addr)} (ho:h.get? a=some o) (hd:o.data=.set es ep t) (X:Elms prog w h es t L) {q:List Int×Addr} (hq:Tup prog w h q) (hno:q.1∉L.map (·.1)) (hs:bU a h h') {N:Nat}
  (hN:(Pj t.mask (tupleKeyHash (intKind prog w) q.1) N).j∉t.place.toList) (hB:∀n,n<N->(Pj t.mask (tupleKeyHash (intKind prog w) q.1) n).j∈t.place.toList):
  ∃L1:List (List Int×Addr),L1.Perm (q :: L)/\(insertAt es (t.put (Pj t.mask (tupleKeyHash (intKind prog w) q.1) N).j).2 (elm prog w q)).toList=L1.map (elm prog w)/\(∀p∈L1,Tup prog w h' p)/\(L1.map (·.1)).Nodup/\
   TabOk (t.put (Pj t.mask (tupleKeyHash (intKind prog w) q.1) N).j).1 (insertAt es (t.put (Pj t.mask (tupleKeyHash (intKind prog w) q.1) N).j).2 (elm prog w q)):=by
 have T:=X.tab
 have hroom:es.size+1<=t.mask:=by
  have:=X.mask.few
  have:=X.mask.le
  rw[T.size]at *
  omega
 have T1:=T.put (x:=.ref q.2) hN hB hroom
 generalize (t.put (Pj t.mask (tupleKeyHash (intKind prog w) q.1) N).j).2=p at T1 ⊢
 have hp:(L.take p++q :: L.drop p).Perm (q :: L):=by
  refine List.perm_middle.trans (List.Perm.cons q ?_)
  rw[aM]
 refine⟨L.take p++q :: L.drop p,hp,?_,fun p' hp'=>?_,?_,T1⟩
 .rw[toList_insertAt,X.its,aN,aJ,List.map_take,List.map_drop]
 .rcases au.mp (hp.mem_iff.mp hp')with rfl|hp'
  .exact hq.kept ho hd hs
  .exact(X.tup p' hp').kept ho hd hs
 .refine(hp.map (·.1)).nodup_iff.mpr ?_
  rw[aJ,cD]
  exact⟨hno,X.nd⟩
theorem oO' {bt:Bool} {a:Addr} {o:Obj} {es:Array (Int×Value)} {ep:Nat} {t:SetTable} {L:List (List Int×Addr)} (hu:A.units<cLine) (ho:s.heap.get? a=some o) (hc:o.ExactSet) (hd:o.data=.set es ep t) (X:Elms prog w s.heap es t L) (htk:TOk bt t) {q:List Int×Addr} (hq:Tup prog w s.heap q) (hl:L.length<4000) {Q:Bool->Shared->Prop}
  (h1:q.1∈L.map (·.1)->Q false s)
  (h2:q.1∉L.map (·.1)->∀(h':Heap) (o':Obj) (es':Array (Int×Value)) (ep':Nat) (t':SetTable) (L':List (List Int×Addr)),bU a s.heap h'->h'.get? a=some o'->o'.ExactSet->o'.data=.set es' ep' t'->Elms prog w h' es' t' L'->L'.Perm (q :: L)->TOk bt t'->Q true { s with heap:=h' }):
  wpAny (model prog w) A (setAddHashed a (.ref q.2) (tupleKeyHash (intKind prog w) q.1)) Q E s:=by
 have T:=X.tab
 have hlen:es.size=L.length:=by rw[<- aG,X.its,ae]
 unfold setAddHashed setAddHashedIn
 refine aT (ab (cG ho hd T.fits ?_))
 dsimp only
 rw[oN',if_neg (by simp)]
 refine ab (dy' hu ho hd X hq (fun hin r _=>?_) fun hno N hN hB=>?_)
 .exact ag (h1 hin)
 .dsimp only
  refine ab (cG ho hd T.fits ?_)
  dsimp only
  have step:∀(t1:SetTable),(∃b,t1={ (t.put (Pj t.mask (tupleKeyHash (intKind prog w) q.1) N).j).1 with plain:=b })->wpAny (model prog w) A (do
    storeSet a (insertAt es (t.put (Pj t.mask (tupleKeyHash (intKind prog w) q.1) N).j).2 (tupleKeyHash (intKind prog w) q.1,Value.ref q.2)) t1
    if(!false&&t1.tooFull)=true then do
     setRelay a (grown (es.size+1))
     pure true
    else pure true) Q E s:=by
   rintro t1 ⟨pb,rfl⟩
   generalize hes1:insertAt es (t.put (Pj t.mask (tupleKeyHash (intKind prog w) q.1) N).j).2 (tupleKeyHash (intKind prog w) q.1,Value.ref q.2)=es1
   generalize ht1:({ (t.put (Pj t.mask (tupleKeyHash (intKind prog w) q.1) N).j).1 with plain:=pb }:SetTable)=t1
   have hsb:=Heap.SameBut.update s.heap a (Obj.putSet es1 t1)
   obtain⟨L1,hp1,hi1,htp1,hnd1,T1⟩:=nc' ho hd X hq hno hsb hN hB
   rw[show elm prog w q=(tupleKeyHash (intKind prog w) q.1,Value.ref q.2) from rfl,hes1]at hi1 T1
   have hl1:L1.length=L.length+1:=by rw[hp1.length_eq];rfl
   have hsz1:es1.size=L.length+1:=by rw[<- aG,hi1,ae,hl1]
   have hm1:t1.mask=t.mask:=by rw[<- ht1];rfl
   have hT1:TabOk t1 es1:=by rw[<- ht1];exact T1.plain pb
   have hk1:TOk bt t1:=by
    rcases htk with z|⟨z1,z2⟩
    .exact .inl z
    .exact .inr ⟨by rw[<- ht1];exact z1,hT1.rise⟩
   have hz1:es1.size<=sizeLine:=by rw[hsz1];exact aS (show _<=4000 by omega) (by decide)
   refine ab (wpAny_storeSet_of ho hd ?_ hz1)
   have eo:=putSet_of es1 t1 hd
   have hg:=cR (Obj.putSet es1 t1) ho (by rw[eo];rfl)
   rw[eo]at hg
   have hfew:(es1.size*5<t.mask*3)↔t1.tooFull=false:=by
    unfold SetTable.tooFull SetTable.fill
    rw[hT1.dum,hT1.size,hm1]
    simp
   by_cases hf:t1.tooFull=true
   .rw[if_pos (by simpa using hf)]
    have hnf:¬(L.length+1)*5<t.mask*3:=fun z=>by
     rw[<- hsz1]at z
     rw[hfew.mp z]at hf
     cases hf
    have hX5:=X.mask.few
    rw[T.size,hlen]at hX5
    obtain⟨g1,g2,g3⟩:=ya' X.mask.mask hX5 hnf hl
    rw[hlen]
    refine ab ?_
    unfold setRelay
    refine ab (cG (s:={ s with heap:=s.heap.update a (Obj.putSet es1 t1) }) hg rfl hT1.fits ?_)
    dsimp only
    rw[if_neg ⋯]
    obtain⟨t2,order,k1,k2,k3,k4,k5,k6,T2⟩:=qu' (es:=es1) (tY' g1) (by rw[hsz1];omega) t1.finger (t1.movedTo (sizeAbove (grown (L.length+1))-1)) t1.led t1.plain
    obtain⟨L2,hp2,hi2⟩:=kz' k6 hi1
    have hsz2:(order.filterMap (es1[·]?)).size=es1.size:=by rw[<- aG,k6.length_eq,aG]
    have hr:relaid t1 (es1.map (·.1)) (grown (L.length+1))=some (t2,order):=k1
    rw[hr]
    refine ab ?_
    show wpAny _ _ (if((order.filterMap (es1[·]?)).size != es1.size)=true then _ else pure (order.filterMap (es1[·]?),t2)) _ _ _
    rw[if_neg (by rw[hsz2];simp)]
    refine ag ?_
    generalize hes2:order.filterMap (es1[·]?)=es2 at k6 T2 hi2 hsz2 ⊢
    dsimp only
    refine wpAny_storeSet_of (s:={ s with heap:=s.heap.update a (Obj.putSet es1 t1) }) hg rfl ?_ (by rw[hsz2];exact hz1)
    have eo2:=putSet_of (o:={ o with data:=.set es1 (ep+1) t1 }) es2 t2 rfl
    have hg2:=cR (Obj.putSet es2 t2) hg (by rw[eo2];rfl)
    rw[eo2]at hg2
    have hsb2:=hsb.trans (Heap.SameBut.update (s.heap.update a (Obj.putSet es1 t1)) a (Obj.putSet es2 t2))
    refine ag (h2 hno _ _ es2 _ t2 L2 hsb2 hg2 hc rfl ⟨hi2,fun p hp=>?_,(hp2.map (·.1)).nodup_iff.mpr hnd1,T2,⟨by rw[k2];exact g1,by rw[k2,T2.size,hsz2,hsz1];exact g2⟩⟩ (hp2.trans hp1) ?_)
    .exact(htp1 p (hp2.mem_iff.mp hp)).kept hg rfl (Heap.SameBut.update _ a _)
    .rcases hk1 with z|⟨z1,_⟩
     .exact .inl z
     .exact .inr ⟨by rw[k3];exact z1,T2.rise⟩
   .rw[if_neg (by simpa using hf)]
    refine ag (h2 hno _ _ es1 _ t1 L1 hsb hg hc rfl ⟨hi1,htp1,hnd1,hT1,⟨by rw[hm1];exact X.mask.mask,?_⟩⟩ hp1 hk1)
    rw[hm1,hT1.size]
    exact hfew.mpr (by simpa using hf)
  split
  .refine ab (hbv hq fun b=>?_)
   cases b with
   |true=>exact step _ ⟨_,rfl⟩
   |false=>exact step _ ⟨false,rfl⟩
  .exact ab (ag (step _ ⟨_,rfl⟩))
theorem nd' {bt:Bool} {a:Addr} {o:Obj} {es:Array (Int×Value)} {ep:Nat} {t:SetTable} {L:List (List Int×Addr)} (hu:A.units+1<cLine) (ho:s.heap.get? a=some o) (hc:o.ExactSet) (hd:o.data=.set es ep t) (X:Elms prog w s.heap es t L) (htk:TOk bt t) {q:List Int×Addr} (hq:Tup prog w s.heap q) (hl:L.length<4000) {Q:Value->Shared->Prop}
  (h1:q.1∈L.map (·.1)->∀tk,Q .none { s with toks:=tk })
  (h2:q.1∉L.map (·.1)->∀(h':Heap) (o':Obj) (es':Array (Int×Value)) (ep':Nat) (t':SetTable) (L':List (List Int×Addr)) tk,bU a s.heap h'->h'.get? a=some o'->o'.ExactSet->o'.data=.set es' ep' t'->Elms prog w h' es' t' L'->L'.Perm (q :: L)->TOk bt t'->Q .none { s with heap:=h',toks:=tk }):
  wpAny (model prog w) A (call (.builtin "set.add") [.ref a,.ref q.2]) Q E s:=by
 refine bF F.slot_set_add ⟨o,ho,hc.1⟩ F.entry_set_add ?_ (F.args_set_add_2 _ _)
 unfold Builtin.«set.add» Builtin.Frozenset.oneOther
 simp only[List.isEmpty_nil,bind_assoc]
 unfold Builtin.Frozenset.addrOf setAdd
 refine ab (ag ?_)
 try dsimp only
 refine ab (ag ?_)
 try dsimp only
 refine ab (aT (ab (wpAny_pyHash_tuple (by show A.units+1<cLine;exact hu) hq ?_)))
 refine oO' (s:={ s with toks:=s.toks+(q.1.length+1) }) (by show A.units+1<cLine;exact hu) ho hc hd X htk hq hl (fun hin=>?_) fun hno h' o' es' ep' t' L' z1 z2 z3 z4 z5 z6 z7=>?_
 .exact ag ⟨_,rfl,h1 hin _⟩
 .exact ag ⟨_,rfl,h2 hno h' o' es' ep' t' L' _ z1 z2 z3 z4 z5 z6 z7⟩
end
end Ts
end PySem
namespace L2
open PySem PySem.Spec PyProof.Rows
def z2' (h:Heap) (e:Addr) (cls:Value) (T:Addr):Prop:=∃oe vs oT ts a0,h.get? e=some oe/\(oe.cls=cls/\vs[0]?=some a0)/\oe.data=.fields vs/\vs[1]?=some (.ref T)/\T≠e/\h.get? T=some oT/\oT.data=.fields ts/\ts[3]?=some .none
set_option tactic.hygienic true in
theorem tZ' {K:W.Frag} {cd:Value} {q:Str} (e:W.codeIn K cd q=true):W.kdsCode K cd=true:=by
 unfold W.codeIn at e
 unfold W.kdsCode
 split at e
 .split at e
  .rename_i h
   dsimp only
   rw[h]
  .cases e
 .cases e
structure FnCx (X:Cx):Prop where
 ex:X.ex=[]
 fn:∀x,X.fn x=true
 stk:X.stack=X.env :: X.outer
 fr:X.env.frame=some X.env.locals
 cd:W.kdsCode X.K X.env.code=true
section
variable {X:Cx} {p_:List (Addr×Obj)} {σ:St} {H:Hp} {s:Shared}
def CX1 (P:Program) (w:World) (mg:Str->Option Value):CXT:=fun outer H s E e s'=>∃(ea T Ca:Addr) (nm:Str) (H':Hp),e=.ref ea/\mg nm=some (.ref Ca)/\s'.os=s.os/\AllBare s'.gens/\Un (frs outer) [] H H' s.heap s'.heap/\HOk P w H' s'.heap/\
 z2' s'.heap ea (.ref Ca) T/\H' ea=none/\H' T=none/\s.heap.get? ea=none/\s.heap.get? T=none/\E (.str nm 0) none H'
end
end L2
namespace L2
open PySem PySem.Spec PyProof.Rows PySem.W
def z3':Option Int->Value->Bool
 |some k,v=>Value.isInt k v
 |none,.none=>true
 |none,_=>false
theorem aN':∀{k:Option Int} {v:Value},z3' k v=true->(∃i t,k=some i/\v=Value.int i t)\/(k=none/\v=Value.none)
 |some i,v,h=>by
  obtain⟨t,e⟩:=Value.isInt_shape (k:=i) (v:=v) h
  exact .inl ⟨i,t,rfl,e⟩
 |none,v,h=>by cases v<;>first|exact .inr ⟨rfl,rfl⟩|cases h
def okH:Option Int->Int
 |some k=>hashInt k
 |none=>0xFCA86420
def i7' (prog:Program) (w:World):PySem.KeyKind prog w (Option Int) where
 is:=z3'
 hash:=okH
 inj:=fun v a b ha hb=>by
  rcases aN' ha with⟨i,t,rfl,rfl⟩|⟨rfl,rfl⟩
  .rcases aN' hb with⟨j,u,rfl,e⟩|⟨rfl,e⟩
   .injection e with e1 _;rw[e1]
   .exact nomatch e
  .rcases aN' hb with⟨j,u,rfl,e⟩|⟨rfl,e⟩
   .exact nomatch e
   .rfl
 byValue:=fun k v h=>by
  rcases aN' h with⟨i,t,rfl,rfl⟩|⟨rfl,rfl⟩<;>rfl
 pyHash:=fun hv h=>by
  rcases aN' hv with⟨i,t,rfl,rfl⟩|⟨rfl,rfl⟩
  .exact wpAny_pyHash_int h
  .exact dV' h
 eqBool:=fun {A E s a b u v Q} hu hv h=>by
  rcases aN' hu with⟨i,t,rfl,rfl⟩|⟨rfl,rfl⟩
  .rcases aN' hv with⟨j,u,rfl,rfl⟩|⟨rfl,rfl⟩
   .have e:decide ((some i:Option Int)=some j)=(i == j):=by
     by_cases q:i=j
     .subst q;simp
     .rw[decide_eq_false (fun z=>q (Option.some.inj z)),(beq_eq_false_iff_ne.mpr q)]
    rw[e]at h
    exact wpAny_eqBool_int h
   .exact SeqAt.EqAt.int_none i t _ _ _ _ h
  .rcases aN' hv with⟨j,u,rfl,rfl⟩|⟨rfl,rfl⟩
   .exact SeqAt.EqAt.none_int j u _ _ _ _ h
   .exact SeqAt.EqAt.same .none _ _ _ _ h
 «strs»:=fun k x t v h=>by
  rcases aN' h with⟨i,u,rfl,e⟩|⟨rfl,e⟩<;>exact nomatch e
end L2
namespace L2
open PySem PySem.Spec PyProof.Rows
def eb' {α:Type} (own:List Nat) (wi:TI) (g:TG) (tc:TT) (ay':TL α) (a0:α) (ho:Addr->α->HO) (ok:α->Hp->Prop):TE:=fun σ H Q=>wi σ H fun J H1=>aP' own g tc ay' J σ a0 H1 fun xs H2=>ok xs H2/\∀p,H2 p=none->Q (.ref p) (upd H2 p (ho p xs))
structure CompInG {α:Type} (Is:α->Obj->Prop) (X:Cx) (e:Expr) (scope:Scope) (tg:Expr) (iter:Expr) (ifs:List Expr) (nx:Addr->Env->Sem Unit) (g:TG) (tc:TT) (ay':TL α) (own:List Nat):Prop where
 sc:CompSc X scope
 ow:∀i x,X.N[i]?=some x->(scope.names.lookup x=some .local\/scope.names.lookup x=some .cell)->i∈own
 cl:∃gs,clausesOf e=⟨tg,iter,ifs,0⟩ :: gs
 fs:∀x,foldedSetIterable iter X.env x=pure x
 calm:X.calm=true
 q:∀it D env,(Code.compLoop e 0 it (.ref D) env).quiet=true/\(Code.compStart e 0 it (.ref D) env).quiet=true
 u:∀A it D env,Around.under A (Code.compLoop e 0 it (.ref D) env)=A/\Around.under A (Code.compStart e 0 it (.ref D) env)=A
 T:∀P w it D env,(model P w).den (.compLoop e 0 it (.ref D) env)=(bj' e 0 tg iter ifs (nx D env) it (.ref D) env).onRaise (fun x=>do noteFrame x env;theTreesLotGoes x)
 S:∀P w it D env,(model P w).den (.compStart e 0 it (.ref D) env)=(compStart e 0 it (.ref D) env).onRaise (fun x=>do noteFrame x env;standAt theWindowsPlace)
 ge:sC' own g
 inn:∀s0 H0 ex D,PG (X.comp scope s0 H0 ex) tg g/\PTs (X.comp scope s0 H0 ex) ifs tc/\∃ws',(∀j∈ws',j∈own)/\bR' (X.comp scope s0 H0 ex) D Is ws' (nx D (X.comp scope s0 H0 ex).env) ay'
section
variable {X:Cx} {e:Expr} {scope:Scope} {tg iter:Expr} {ifs:List Expr} {nx:Addr->Env->Sem Unit} {g:TG} {tc:TT} {α:Type} {Is:α->Obj->Prop} {ay':TL α} {own:List Nat} {wi:TI} {a0:α} {o0:Bool->Obj} {newAcc:Sem Value} {ho:Addr->α->HO} {ok:α->Hp->Prop}
theorem f7' (hnew:∀(s:Shared) (Q:Value->Shared->Prop),(∀led,Q (.ref s.heap.objs.size) { s with heap:=s.heap.push (o0 led) })->wpAny (model X.prog X.w) X.A newAcc Q X.xe s) (hfr:∀led,(o0 led).isFreed=false) (ha0:∀led,Is a0 (o0 led)) (hda:∀(a:α) (o:Obj),Is a o->∀v:Option Value,o.data≠.cell v) (C:CompInG Is X e scope tg iter ifs nx g tc ay' own) (hi:PI X tg iter wi) {p_:List (Addr×Obj)} {s:Shared} {σ:St} {H:Hp} {R:V->Hp->Prop} (I:Inv X p_ σ H s) (hw:eb' own wi g tc ay' a0 ho ok σ H R)
  {use:Option (Value->Sem Unit)} {Q:Value->Shared->Prop} {pos:Pos}
  (fin:∀(s3 s':Shared) (H0 H':Hp) (ex:List Addr) (D:Addr) (xs:α) (o:Obj) (σ':St),Inv X p_ σ H0 s3->(∀b∈ex,cH' X p_ H0 b)->Inv (X.comp scope s3 H0 ex) [] σ' H' s'->s'.heap.get? D=some o->D<s3.heap.objs.size->X.s₀.heap.objs.size<=D->cH' X p_ H0 D->(D == sysModules)=false->Is xs o->H' D=none->ok xs H'->R (.ref D) (upd H' D (ho D xs))->
   compPost (model X.prog X.w) X.A X.xe use Q (.ref D) s3.heap.objs.size (.ok .next) s'):
  wpAny (model X.prog X.w) X.A (comprehension e scope X.env pos newAcc false (eval iter X.env) use) Q X.xe s:=by
 obtain⟨gs,hcl⟩:=C.cl
 refine wpAny_comprehension_free hcl C.fs (jZ' fun n hn=>I.ok.has n (C.sc.free n hn)) C.sc.kind C.sc.names ?_
 refine thn (hi p_ s σ H _ I hw) fun v s1 h1=>thn h1 fun itv s2 h2=>?_
 obtain⟨it,fp,tn,J,H2,rfl,I2,T,st2,f2,hc⟩:=h2
 refine hnew _ _ fun led=>c0' ?_
 have keep:∀b o,s2.heap.get? b=some o->(s2.heap.push (o0 led)).get? b=some o:=fun b o e=>ac _ e
 have I3:Inv X p_ σ H2 { s2 with heap:=s2.heap.push (o0 led) }:=I2.kept (t':=s2.toks) keep
 have hsz:(s2.heap.push (o0 led)).objs.size=s2.heap.objs.size+1:=bu ..
 have fD:cH' X p_ H2 s2.heap.objs.size:=I2.fpOk (ah _) (I2.hok.fresh (ah _))
 have hlt:∀b∈fp,b<s2.heap.objs.size:=fun b hb=>by
  obtain⟨o,e,_⟩:=T.obj _ _ st2 b hb
  exact ax e
 have hDf:s2.heap.objs.size∉fp:=fun z=>bc _ (hlt _ z)
 have hex:∀b∈s2.heap.objs.size :: fp,cH' X p_ H2 b:=fun b hb=>by
  rcases au.mp hb with rfl|hb
  .exact fD
  .exact f2 b hb
 generalize hs3:({ s2 with heap:=s2.heap.push (o0 led) }:Shared)=s3 at *
 have hs3s:s3.heap.objs.size=s2.heap.objs.size+1:=by rw[<- hs3];exact hsz
 have hlt3:∀b∈s2.heap.objs.size :: fp,b<s3.heap.objs.size:=fun b hb=>by
  rw[hs3s]
  rcases au.mp hb with rfl|hb
  .exact de _
  .exact cV (hlt b hb)
 have J0:=eP' (own:=own) I3 hex hlt3 C.sc C.ow
 obtain⟨c1,c2,ws',c4,c5⟩:=C.inn s3 H2 (s2.heap.objs.size :: fp) s2.heap.objs.size
 have kp:∀b o,s2.heap.get? b=some o->(aR' s3.heap scope.names).get? b=some o:=fun b o e=>pushCells_keeps _ _ b o (ac _ (by rw[<- hs3];exact keep b o e))
 have oD:(aR' s3.heap scope.names).get? s2.heap.objs.size=some (o0 led):=pushCells_keeps _ _ _ _ (ac _ (by rw[<- hs3];exact aC _ (hfr led)))
 have stat:∀b∈s2.heap.objs.size :: fp,cH' (X.comp scope s3 H2 (s2.heap.objs.size :: fp)) [] H2 b:=fun b hb=>
  ⟨(hex b hb).1,(J0.ok.exf b hb).1,J0.ok.exfs b hb,.inl hb,(J0.ok.exf b hb).2,fun p hp=>absurd (show p∈([]:List (Addr×Obj)) from hp) (by simp)⟩
 have T':Turn (X.comp scope s3 H2 (s2.heap.objs.size :: fp)).prog (X.comp scope s3 H2 (s2.heap.objs.size :: fp)).w (X.comp scope s3 H2 (s2.heap.objs.size :: fp)).K tg J fp it tn:=T
 have hc':aP' own g tc ay' J (clr own σ) a0 H2 (fun xs H2=>ok xs H2/\∀p,H2 p=none->R (.ref p) (upd H2 p (ho p xs))):=by
  obtain⟨W,w0,turn⟩:=hc
  refine⟨W,w0,?_⟩
  rw[hH']
  exact turn
 have st3:tn 0 ({ s3 with heap:=aR' s3.heap scope.names }:Shared).heap:=T.keep _ _ _ st2 fun b hb o e=>kp b o e
 have L:=d6' (X:=X.comp scope s3 H2 (s2.heap.objs.size :: fp)) (Is:=Is) (D:=s2.heap.objs.size) rfl C.calm (C.q _ _ _).1 (C.u _ _ _ _).1 (C.T _ _ _ _ _) T' c1 C.ge c2 c5 c4 hda hDf J0
  (fun b hb=>stat b (aq _ hb)) (stat _ aw) oD (ha0 led) st3 hc'
 have L2:=fh' (C.q _ _ _).2 (C.u _ _ _ _).2 (fun it'=>(C.q it' _ _).1) (C.S _ _ _ _ _) ⟨_,by rw[hcl];rfl,rfl⟩ L (fun E=>T.self _ 0 _ _ E st3 ⟨rfl,rfl⟩)
 refine codeAny_mono L2 fun r s' h=>?_
 obtain⟨rfl,xs,o',H',J',e',is',n',hN⟩:=h
 exact fin s3 s' H2 H' _ _ xs o' _ I3 hex J' e' (hlt3 _ aw) I2.sz fD (beq_eq_false_iff_ne.mpr (bP I2.big)) is' n' hN.1 (hN.2 _ n')
end
section
variable {X:Cx} {e:Expr} {scope:Scope} {tg iter:Expr} {ifs:List Expr} {nx:Addr->Env->Sem Unit} {g:TG} {tc:TT} {α:Type} {Is:α->Obj->Prop} {ay':TL α} {own:List Nat} {wi:TI} {a0:α} {o0:Bool->Obj} {newAcc:Sem Value} {ho:Addr->α->HO} {ok:α->Hp->Prop}
theorem ne' (hnew:∀(s:Shared) (Q:Value->Shared->Prop),(∀led,Q (.ref s.heap.objs.size) { s with heap:=s.heap.push (o0 led) })->wpAny (model X.prog X.w) X.A newAcc Q X.xe s) (hfr:∀led,(o0 led).isFreed=false) (ha0:∀led,Is a0 (o0 led)) (hda:∀(a:α) (o:Obj),Is a o->∀v:Option Value,o.data≠.cell v)
  (hfin:∀(a:α) (o:Obj) (D:Addr) (H:Hp) (h:Heap),Is a o->h.get? D=some o->(D == sysModules)=false->H D=none->ok a H->HOk X.prog X.w H h->aJ' X.prog X.w (upd H D (ho D a)) h D (ho D a)) (C:CompInG Is X e scope tg iter ifs nx g tc ay' own) (hi:PI X tg iter wi) {pos:Pos} (he:eval e X.env=comprehension e scope X.env pos newAcc false (eval iter X.env)):PE X e (eb' own wi g tc ay' a0 ho ok):=by
 intro p_ s σ H Q I hw
 rw[he]
 refine f7' hnew hfr ha0 hda C hi I hw fun s3 s' H0 H' ex D xs o σ' I3 hex J e' hlt h0 fD sy is' n' hok' hR=>?_
 obtain⟨m,hn,_⟩:=J.loc
 refine⟨m,hn,fun h' hs=>?_⟩
 have J2:=dI' I3 hex J hs
 have neC:D≠s3.heap.objs.size:=aH hlt
 refine⟨.ref D,upd H' D (ho D xs),J2.track (o:=ho D xs) ⟨n',fD.2⟩ h0 (hfin xs o D H' _ is' ((hs.2 D neC).trans e') sy n' hok' J2.hok),rfl,hR⟩
theorem gS' (hnew:∀(s:Shared) (Q:Value->Shared->Prop),(∀led,Q (.ref s.heap.objs.size) { s with heap:=s.heap.push (o0 led) })->wpAny (model X.prog X.w) X.A newAcc Q X.xe s) (hfr:∀led,(o0 led).isFreed=false) (ha0:∀led,Is a0 (o0 led)) (hda:∀(a:α) (o:Obj),Is a o->∀v:Option Value,o.data≠.cell v)
  (hfin:∀(a:α) (o:Obj) (D:Addr) (H:Hp) (h:Heap),Is a o->h.get? D=some o->(D == sysModules)=false->H D=none->ok a H->HOk X.prog X.w H h->aJ' X.prog X.w (upd H D (ho D a)) h D (ho D a)) (C:CompInG Is X e scope tg iter ifs nx g tc ay' own) (hi:PI X tg iter wi) {i:Nat} {y:Str} {py pos pos2:Pos} (hN:X.N.Nodup) (hy:X.N[i]?=some y) (hx:Loc X.env.scope y) (hf:X.fn y=true\/X.env.scope.names.lookup y=some .local)
  (he:evalThenUse e X.env (assign (.Name y py) X.env)=(do let _ <- comprehension e scope X.env pos2 newAcc false (eval iter X.env) (some (assign (.Name y py) X.env))))
  (hsw:swapsWith e (some (.Name y py)) pos.line X.env=pure true):PS X (.Assign [.Name y py] e pos) (jA' (eb' own wi g tc ay' a0 ho ok) (cY' i)):=by
 intro p_ s σ H D I hw
 rw[exec_Assign_Name_used _ _ _ _ hsw]
 refine ab (bO (ab ?_))
 rw[he]
 refine ab (thn (Q:=fun _ s'=>SP X p_ D .next s') (f7' hnew hfr ha0 hda C hi I hw fun s3 s' H0 H' ex D' xs o σ' I3 hex J e' hlt h0 fD sy is' n' hok' hR=>?_) fun _ s' q=>ag (ag q))
 obtain⟨m,hn,_⟩:=J.loc
 have J2:Inv X p_ σ H' s':=dI' I3 hex J (Heap.SameBut.refl ..)
 have neC:D'≠s3.heap.objs.size:=aH hlt
 have J3:Inv X p_ σ (upd H' D' (ho D' xs)) s':=J2.track ⟨n',fD.2⟩ h0 (hfin xs o D' H' _ is' e' sy n' hok' J2.hok)
 have fC:cH' X p_ H0 s3.heap.objs.size:=I3.fpOk (ah _) (I3.hok.fresh (ah _))
 refine wpAny_assign_Name (dX' J3 hN hy hx (v:=.ref D') rfl (fun s'' J4 hs=>?_) hf)
 obtain⟨a,hsa,ha⟩:=hs
 have haC:s3.heap.objs.size≠a:=by
  rcases ha with rfl|ha
  .exact fC.2.1
  .exact fun q=>fC.2.2.2.2.1 _ _ ha q.symm
 have hn':s'.heap.Ns s3.heap.objs.size m:=hn
 refine⟨m,hn'.sameBut hsa haC,fun h' hs'=>?_⟩
 have J5:Inv X p_ (σ.set i (some (.ref D'))) (upd H' D' (ho D' xs)) { s'' with heap:=h' }:=J4.turned (it:=s3.heap.objs.size) (t':=s''.toks) (fun b ob hb q=>(hs'.2 b hb).trans q) (by rw[af' (Ne.symm neC)];exact J.free) fC.2.1 fC.2.2.2.1 fC.2.2.2.2.1 fC.2.2.2.2.2
 exact⟨_,_,J5,hR⟩
end
def kO:Option Int->V
 |some i=>.int i
 |none=>.non
theorem i8' {P:Program} {w:World} {k:Option Int} {u:Value} (r:ax' (kO k) u):(i7' P w).is k u=true/\u.scannable=true:=by
 cases k with
 |none=>cases r;exact⟨rfl,rfl⟩
 |some i=>
  obtain⟨t,rfl⟩:=r
  exact⟨by show Value.isInt i (.int i t)=true;simp[Value.isInt],rfl⟩
def IsS (a:(Option Int->Bool)×Nat) (o:Obj):Prop:=a.2<=4000/\(∃es ep t,o.data=.set es ep t)/\∃m,m<=a.2/\∀(P:Program) (w:World),o.SetObjOf (i7' P w) a.1 m
theorem oP' {P:Program} {w:World} {S:Option Int->Bool} {n m:Nat} {o:Obj} (h:o.SetObjOf (i7' P w) S m) (hm:m<=n) (hn:n<=4000):IsS (S,n) o:=⟨hn,⟨_,_,_,h.2.choose_spec.choose_spec.choose_spec.1⟩,m,hm,fun P' w'=>h.transport (knd':=i7' P' w') rfl rfl⟩
theorem fn' (a:(Option Int->Bool)×Nat) (o:Obj) (h:IsS a o) (v:Option Value):o.data≠.cell v:=by
 obtain⟨_,⟨es,ep,t,hd⟩,_⟩:=h
 rw[hd]
 exact fun z=>nomatch z
def eR' (D:Addr) (S:Option Int->Bool) (n:Nat):HO:=.ext fun h=>∃o,h.get? D=some o/\IsS (S,n) o
theorem kB' {P:Program} {w:World} {H:Hp} {h:Heap} {D:Addr} {S:Option Int->Bool} {n:Nat} {o:Obj} (e:h.get? D=some o) (i:IsS (S,n) o):aJ' P w H h D (eR' D S n):=
 ⟨⟨o,e,i⟩,⟨o,e⟩,fun h1 h2 ⟨o',e',i'⟩ k=>⟨o',k o' e',i'⟩⟩
section
variable {X:Cx}
theorem kC' {s:Shared} {D:Addr} {a:(Option Int->Bool)×Nat} {o:Obj} (e:s.heap.get? D=some o) (i:IsS a o):∃m,m<=a.2/\s.heap.SetOf (i7' X.prog X.w) D a.1 m:=by
 obtain⟨hn,_,m,hm,h⟩:=i
 exact⟨m,hm,(h X.prog X.w).setOf e (bA (aS hm hn) (by decide))⟩
def xo' (neg:Bool):R2:=fun x y H Q=>∃k D S n,x=kO k/\y=.ref D/\H D=some (eR' D S n)/\Q (.bl (if neg then !(S k)else S k)) H
theorem t2':OpR X (compareOp .In) (xo' false):=by
 intro p_ s σ H x y v u Q I rx ry h
 obtain⟨k,D,S,n,rfl,rfl,hD,q⟩:=h
 cases ry
 obtain⟨o,e,i⟩:=(show aJ' X.prog X.w H s.heap D (eR' D S n) from I.hok D _ hD).1
 obtain⟨m,_,hS⟩:=kC' (X:=X) e i
 exact wpAny_inSet_of (i8' rx).1 (i8' (P:=X.prog) (w:=X.w) rx).2 hS ⟨.bl (S k),H,I.tok _,rfl,q⟩
theorem kD':OpR X (compareOp .NotIn) (xo' true):=by
 intro p_ s σ H x y v u Q I rx ry h
 obtain⟨k,D,S,n,rfl,rfl,hD,q⟩:=h
 cases ry
 obtain⟨o,e,i⟩:=(show aJ' X.prog X.w H s.heap D (eR' D S n) from I.hok D _ hD).1
 obtain⟨m,_,hS⟩:=kC' (X:=X) e i
 exact wpAny_notInSet_of (i8' rx).1 (i8' (P:=X.prog) (w:=X.w) rx).2 hS ⟨.bl (!S k),H,I.tok _,rfl,q⟩
def inL (ns:List Int):Option Int->Bool
 |some i=>ns.contains i
 |none=>false
def oQ' (K:W.Frag):List V->Hp->VK->Prop:=fun xs H Q=>∃a ns,xs=[.ref a]/\SqL K H a (ns.map V.int)/\ns.length<=3999/\∀p,H p=none->Q (.ref p) (upd H p (eR' p (inL ns) ns.length))
theorem kE' (hc:X.calm=true):a2' X (.type "set") (oQ' X.K):=by
 intro p_ s σ H xs us Q I rv h
 obtain⟨a,ns,rfl,hs,hl,q⟩:=h
 cases rv with
 |cons r1 rv=>
  cases rv
  cases r1
  obtain⟨its,r,pl,hz⟩:=I.list hs
  have hlen:=r.length
  rw[ae]at hlen
  refine call_set_list (I.ok.hd hc) pl.isList (iZ' r) (by rw[ak,<- hlen];exact bA (Nat.succ_le_succ hl) (by decide)) fun h' tk hS hk=>?_
  have hn:H s.heap.objs.size=none:=I.hok.fresh (ah _)
  obtain⟨o,ho,hso⟩:=hS.objOf
  have fl:=firstMet_length_le (fun i=>ns.getD i 0) its.toArray.size
  have key:o.SetObjOf (i7' X.prog X.w) (inL ns) (firstMet (fun i=>ns.getD i 0) its.toArray.size).length:=by
   obtain⟨hex,es,ep,t,hd,hel,hmem,hsz,hf⟩:=hso
   refine⟨hex,es,ep,t,hd,fun e he=>?_,fun k=>?_,hsz,hf⟩
   .obtain⟨⟨j,hj,hh⟩,hsc⟩:=hel e he
    exact⟨⟨some j,hj,hh⟩,hsc⟩
   .cases k with
    |none=>
     constructor
     .intro z;cases z
     .rintro⟨e,he,hi⟩
      obtain⟨⟨j,hj,hh⟩,hsc⟩:=hel e he
      obtain⟨t',et⟩:=Value.isInt_shape hj
      rw[et]at hi
      cases hi
    |some i=>
     have:=hmem i
     dsimp only at this
     rw[firstMet_any]at this
     refine Iff.trans ?_ this
     show ns.contains i=true↔_
     have en:(av its.toArray.size).map (fun i=>ns.getD i 0)=ns:=by
      rw[ak,<- hlen]
      apply bZ
      intro j
      rw[al]
      by_cases hj:j<ns.length
      .rw[bh hj]
       simp[List.getD,hj]
      .rw[bg.mpr (by simpa using hj),bg.mpr ⋯]
       rfl
     rw[en,List.contains_eq_any_beq]
     constructor
     .intro z
      rw[cx]at z ⊢
      obtain⟨x,hx,e⟩:=z
      exact⟨x,hx,by rw[beq_iff_eq]at e ⊢;exact e.symm⟩
     .intro z
      rw[cx]at z ⊢
      obtain⟨x,hx,e⟩:=z
      exact⟨x,hx,by rw[beq_iff_eq]at e ⊢;exact e.symm⟩
  refine⟨.ref s.heap.objs.size,_,I.laid (t':=tk) (fun b o hb=>hk b o (ax hb) hb) (ah _) (o:=eR' s.heap.objs.size (inL ns) ns.length) (kB' ho (oP' key (aS fl (by rw[ak,hlen];exact ah _)) ⋯)),rfl,q _ hn⟩
def f8' (te:TE):TL ((Option Int->Bool)×Nat):=fun σ a H N=>te σ H fun v H'=>∃k,v=kO k/\a.2<4000/\N (fun j=>a.1 j || decide (j=k),a.2+1) H'
theorem kF' {D:Addr} {elt:Expr} {te:TE} (hxe:X.xe=fun _ _=>False) (he:PE X elt te):bR' X D IsS [] (do let v <- eval elt X.env;standAt elt.pos;let _ <- call (.builtin "set.add") [.ref D,v]) (f8' te):=by
 intro p_ s σ H a o N I hD ho hi hq
 have I1:Inv X (p_++bm' [D] s.heap) σ H s:=I.pinned (fun b hb=>by
  have e:b=D:=by simpa using hb
  subst e
  exact hD) (fun b hb=>by
  have e:b=D:=by simpa using hb
  subst e
  exact⟨o,ho,fn' _ _ hi⟩)
 have h1:=he _ s σ H _ I1 hq
 rw[hxe]at h1
 refine ab (thn h1 fun u s1 ⟨v,H1,J1,r1,k,ek,z1,n1⟩=>?_)
 subst ek
 have q1:=J1.pin (D,o) (ai _ (ai _ (aD' (by simp) ho)))
 obtain⟨m,hm,hS⟩:=kC' (X:=X) q1.1 hi
 refine ab (bO (ab (call_set_add (i8' r1).1 (i8' (P:=X.prog) (w:=X.w) r1).2 hS (bA (Nat.succ_le_of_lt (bA hm z1)) (by decide)) fun h' hs hS'=>?_)))
 obtain⟨_,f1,f2,f3,f4,f5⟩:=hD
 obtain⟨o',ho',hso⟩:=hS'.objOf
 have J2:Inv X p_ σ H1 { s1 with heap:=h',toks:=s1.toks+1 }:=J1.unpinned.turned (it:=D) (t':=s1.toks+1) (fun b o hb e=>(hs.2 b hb).trans e) q1.2.1 f1 f3 f4 f5
 exact ag ⟨σ,_,o',H1,J2,Ext.refl,ho',oP' hso (by split<;>omega) ⋯,q1.2.1,n1⟩
theorem qw' {A:Around} {E:Value->Shared->Prop} (s:Shared) (Q:Value->Shared->Prop) (h:∀led,Q (.ref s.heap.objs.size) { s with heap:=s.heap.push { cls:=.type "set",dict:=none,data:=.set #[] 0 (.fresh 0 0 led) } }):wpAny (model X.prog X.w) A (newSet (.type "set")) Q E s:=by
 unfold newSet setsByText
 refine ab (ab (wpAny_askSetting (ag ?_)))
 exact bH (h _)
theorem nf' (led:Bool):IsS (fun _=>false,0) { cls:=.type "set",dict:=none,data:=.set #[] 0 (.fresh 0 0 led) }:=⟨aL _,⟨_,_,_,rfl⟩,0,ah _,fun _ _=>setObjOf_fresh led⟩
end
abbrev NH:Int:=0xFCA86420
section
variable {prog:Program} {w:World} {A:Around} {E:Value->Shared->Prop} {s:Shared}
theorem kG' {d:Addr} {o:Obj} {es:Array DictEntry} {ep:Nat} {Q:Option Nat->Shared->Prop} (ho:s.heap.get? d=some o) (hd:o.data=.dict es ep) (hno:∀e∈es.toList,e.hash≠NH) (h:Q none s):
  wpAny (model prog w) A (dictFind d .none NH) Q E s:=by
 have hp:placesWithHash es.size (fun i=>es[i]?.map (·.hash)) NH=[]:=by
  unfold placesWithHash
  rw[List.filter_eq_nil_iff]
  intro i hi hc
  dsimp only at hc
  cases he:es[i]? with
  |none=>rw[he]at hc;cases hc
  |some e=>
   rw[he]at hc
   have hm:e∈es.toList:=bT.mpr (cU he)
   exact hno e hm (by simpa using hc)
 unfold dictFind
 try with_reducible refine aT ?_
 refine ab (wpAny_dictEntries ho hd ?_)
 dsimp only
 rw[hp]
 rw[if_pos (show((Value.none :: ([]:List Nat).filterMap (fun i=>es[i]?.map (·.key))).all carriedByValue)=true by rfl)]
 unfold dictWalkPlain
 simp only[List.forIn_nil,pure_bind,bind_pure]
 exact ag h
theorem eI' {d:Addr} (hd:(d == sysModules)=false):
  MeetsIn prog w (Builtin.«dict.get» ⟨[.ref d,.none],[]⟩) (fun _ R s=>∃o es ep,s.heap.get? d=some o/\o.data=.dict es ep/\(∀e∈es.toList,e.hash≠NH)/\R (.ok (.ret .none)) { s with toks:=s.toks+1 }):=
 .of_wp fun A R s ⟨o,es,ep,h1,h2,h3,h⟩=>by
  show wpAny _ _ (dictGet d .none >>= _) _ _ s
  refine ab ?_
  unfold dictGet
  try with_reducible refine aT ?_
  refine ab (dV' (ab (kG' (s:={ s with toks:=s.toks+1 }) h1 h2 h3 (ag ?_))))
  show wpAny _ _ (Builtin.Dict.missed d .none >>= _) _ _ _
  exact ab (wpAny_missed_other hd (ag ⟨.none,rfl,h⟩))
end
theorem f9' {P:Program} {w:World} {k:Key}:∀{es:List DictEntry} {vs:List (Key×Value)} {en:DictEntry},Pairs (au' P w) es vs->en∈es->(au' P w).is k en.key=true->k∈vs.map (·.1)
 |_,_,_,.nil,h,_=>by cases h
 |_,_,en,.cons (e:=e) (kv:=kv) h1 h2 r,h,hk=>by
  rcases au.mp h with rfl|h
  .rw[(au' P w).inj _ _ _ hk h1]
   exact aw
  .exact aq _ (f9' r h hk)
theorem bz' {α β:Type} {F:α->β->Prop}:∀{xs:List α} {ys:List β} {y:β},Paired F xs ys->y∈ys->∃x∈xs,F x y
 |_,_,_,.nil,h=>by cases h
 |_,_,y,.cons h1 r,h=>by
  rcases au.mp h with rfl|h
  .exact⟨_,aw,h1⟩
  .obtain⟨x,hx,hf⟩:=bz' r h
   exact⟨x,aq _ hx,hf⟩
def NoN (H:Hp) (a:Addr):Prop:=(∃kvs,H a=some (.dK kvs)/\∀kv∈kvs,∃i:Int,kv.1=.inl i/\hashInt i≠NH)\/
 ∃kvs,H a=some (.dT kvs)/\∀kv∈kvs,∃is:List Int,kv.1=is.map Key.inl/\reduceHash (Builtin.Tuple.tupleHashOf (is.map hashInt))≠NH
theorem NoN.at {X:Cx} {p_:List (Addr×Obj)} {σ:St} {H:Hp} {s:Shared} {a:Addr} (I:Inv X p_ σ H s) (h:NoN H a):(a == sysModules)=false/\s.TypeIs (.ref a) "dict"/\∃o es ep,s.heap.get? a=some o/\o.data=.dict es ep/\∀e∈es.toList,e.hash≠NH:=by
 rcases h with⟨kvs,e,hk⟩|⟨kvs,e,hk⟩
 .obtain⟨z,hd,vs,rel,dd⟩:=tD' I.hok e
  refine⟨hd,dd.typeIs,?_⟩
  obtain⟨o,es,ep,h1,_,h3,h4,h5,_⟩:=dd
  refine⟨o,es,ep,h1,h3,fun en hen=>?_⟩
  obtain⟨k,hk1,hk2⟩:=h4 en (bT.mp hen)
  have hin:k∈kvs.map (·.1):=by
   rw[rel.keys]
   exact f9' h5 hen hk1
  obtain⟨kv,hkv,rfl⟩:=aP.mp hin
  obtain⟨i,ei,hi⟩:=hk kv hkv
  rw[hk2,ei]
  exact hi
 .obtain⟨z,hd,xs,rel,dd⟩:=tE' I.hok e
  refine⟨hd,dd.typeIs,?_⟩
  obtain⟨o,es,ep,h1,_,h3,h4,_⟩:=dd
  refine⟨o,es,ep,h1,h3,fun en hen=>?_⟩
  rw[h4]at hen
  obtain⟨x,hx,rfl⟩:=aP.mp hen
  obtain⟨kv,hkv,hp⟩:=bz' rel hx
  obtain⟨is,ei,hi⟩:=hk kv hkv
  show(tupleKind (au' X.prog X.w)).hash x.1≠NH
  rw[<- hp.1,ei]
  show reduceHash (Builtin.Tuple.tupleHashOf ((is.map Key.inl).map (au' X.prog X.w).hash))≠NH
  rw[dk]
  exact hi
theorem t3' {X:Cx} {p_:List (Addr×Obj)} {σ:St} {H:Hp} {s:Shared} {a:Addr} {A:Around} {E:Value->Shared->Prop} {Q:Value->Shared->Prop} (I:Inv X p_ σ H s) (g:NoN H a) (h:∀s',Inv X p_ σ H s'->Q .none s'):
  wpAny (model X.prog X.w) A (call (.builtin "dict.get") [.ref a,.none]) Q E s:=by
 obtain⟨hd,ht,o,es,ep,h1,h2,h3⟩:=g.at I
 exact call_meetsIn PySem.F.slot_dict_get ht PySem.F.entry_dict_get (PySem.F.args_dict_get_2 _ _) (eI' hd) ⟨o,es,ep,h1,h2,h3,h _ (I.tok _)⟩
def t4' (P:Program) (w:World) (kvs:List (Key×V)) (o:Obj):Prop:=kvs.length<=sizeLine/\∃vs es ep,KV kvs vs/\o.ExactDict/\o.data=.dict es ep/\KeysOf (au' P w) es/\Pairs (au' P w) es.toList vs/\(vs.map (·.1)).Nodup
theorem ga' {P:Program} {w:World} (a:List (Key×V)) (o:Obj) (h:t4' P w a o) (v:Option Value):o.data≠.cell v:=by
 obtain⟨_,_,es,ep,_,_,hd,_⟩:=h
 rw[hd]
 exact fun z=>nomatch z
theorem h5' {X:Cx} {A:Around} {E:Value->Shared->Prop} (s:Shared) (Q:Value->Shared->Prop) (h:∀_led:Bool,Q (.ref s.heap.objs.size) { s with heap:=s.heap.push { cls:=.type "dict",dict:=none,data:=.dict #[] } }):wpAny (model X.prog X.w) A newDict Q E s:=bH (h true)
theorem kH' {P:Program} {w:World} (_led:Bool):t4' P w [] { cls:=.type "dict",dict:=none,data:=.dict #[] }:=
 ⟨aL _,[],#[],0,.nil,⟨rfl,rfl,rfl⟩,rfl,fun e he=>by simp at he,.nil,cM⟩
theorem t5' {P:Program} {w:World} (a:List (Key×V)) (o:Obj) (D:Addr) (H:Hp) (h:Heap) (i:t4' P w a o) (e:h.get? D=some o) (sy:(D == sysModules)=false) (_:H D=none) (_:True) (_:HOk P w H h):aJ' P w (upd H D (.dK a)) h D (.dK a):=by
 obtain⟨z,vs,es,ep,h1,h2,h3,h4,h5,h6⟩:=i
 exact⟨z,sy,vs,h1,o,es,ep,e,h2,h3,h4,h5,h6⟩
section
variable {X:Cx}
def h6' (tk tv:TE):TL (List (Key×V)):=fun σ a H N=>tk σ H fun y H1=>tv σ H1 fun v H2=>∃k,y=kV k/\a.length<sizeLine/\N (eA' a k v) H2
theorem kI' {D:Addr} {ke ve:Expr} {tk tv:TE} (hxe:X.xe=fun _ _=>False) (hk:PE X ke tk) (hv:PE X ve tv):bR' X D (t4' X.prog X.w) [] (do
   let kv <- eval ke X.env
   let vv <- holding [kv] (eval ve X.env)
   match Value.ref D with
   | .ref d=>do
    standAt { ke.pos with endLine:=ve.pos.endLine,endCol:=ve.pos.endCol }
    holding [kv,vv] (dictSet d kv vv)
   |_=>unsupported "internal:dictcomp") (h6' tk tv):=by
 intro p_ s σ H a o N I hD ho hi hq
 have pinD:∀{s1:Shared} {pins1:List (Addr×Obj)} {H1:Hp},Inv X pins1 σ H1 s1->cH' X pins1 H1 D->s1.heap.get? D=some o->Inv X (pins1++bm' [D] s1.heap) σ H1 s1:=fun J f e=>J.pinned (fun b hb=>by
  have z:b=D:=by simpa using hb
  subst z
  exact f) (fun b hb=>by
  have z:b=D:=by simpa using hb
  subst z
  exact⟨o,e,ga' _ _ hi⟩)
 have h1:=hk _ s σ H _ (pinD I hD ho) hq
 rw[hxe]at h1
 refine ab (thn h1 fun u s1 ⟨y,H1,J1,r1,hq1⟩=>?_)
 have q1:=J1.pin (D,o) (ai _ (ai _ (aD' (by simp) ho)))
 have h2:=hv _ s1 σ H1 _ J1 hq1
 rw[hxe]at h2
 refine ab (aT (thn h2 fun u2 s2 ⟨v,H2,J2,r2,k,ek,z2,n2⟩=>?_))
 subst ek
 have q2:=J2.pin (D,o) (ai _ (ai _ (aD' (by simp) ho)))
 obtain⟨z,vs,es,ep,g1,g2,g3,g4,g5,g6⟩:=hi
 have dd:s2.heap.DictOf (au' X.prog X.w) D vs:=⟨o,es,ep,q2.1,g2,g3,g4,g5,g6⟩
 refine ab (bO (aT (wpAny_dictSet_pairs (hsz:=by rw[<- g1.length];exact z) (gN' r1) dd fun h' dd' hs=>?_)))
 obtain⟨_,f1,f2,f3,f4,f5⟩:=hD
 obtain⟨o',es',ep',d1,d2,d3,d4,d5,d6⟩:=dd'
 have J3:Inv X p_ σ H2 { s2 with heap:=h',toks:=s2.toks+1 }:=J2.unpinned.turned (it:=D) (t':=s2.toks+1) (fun b o hb e=>(hs.2 b hb).trans e) q2.2.1 f1 f3 f4 f5
 exact⟨σ,_,o',H2,J3,Ext.refl,d1,⟨aS (cJ' a k v) z2,_,es',ep',g1.put k r2,d2,d3,d4,d5,d6⟩,q2.2.1,n2⟩
end
abbrev KTL:=List (List Key×Addr×V)
def t6' (P:Program) (w:World) (a:KTL) (o:Obj):Prop:=a.length<=sizeLine/\∃(xs:List (List Key×Addr×Value)) (es:Array DictEntry) (ep:Nat),Paired (fun(p:List Key×Addr×V) (q:List Key×Addr×Value)=>p.1=q.1/\p.2.1=q.2.1/\ax' p.2.2 q.2.2) a xs/\o.ExactDict/\o.data=.dict es ep/\es.toList=xs.map (entryOfKey (tupleKind (au' P w)))/\(xs.map (·.1)).Nodup
theorem gb' {P:Program} {w:World} (a:KTL) (o:Obj) (h:t6' P w a o) (v:Option Value):o.data≠.cell v:=by
 obtain⟨_,_,es,ep,_,_,hd,_⟩:=h
 rw[hd]
 exact fun z=>nomatch z
theorem kJ' {P:Program} {w:World} (_led:Bool):t6' P w [] { cls:=.type "dict",dict:=none,data:=.dict #[] }:=
 ⟨aL _,[],#[],0,.nil,⟨rfl,rfl,rfl⟩,rfl,rfl,cM⟩
def okT (a:KTL) (H:Hp):Prop:=∀x∈a,H x.2.1=some (.tup (x.1.map kV))
def plT (a:KTL):List (List Key×V):=a.map fun x=>(x.1,x.2.2)
theorem eS' {H:Hp}:∀{a:KTL} {xs:List (List Key×Addr×Value)},Paired (fun(p:List Key×Addr×V) (q:List Key×Addr×Value)=>p.1=q.1/\p.2.1=q.2.1/\ax' p.2.2 q.2.2) a xs->okT a H->Paired (fun(p:List Key×V) (q:List Key×Addr×Value)=>p.1=q.1/\H q.2.1=some (.tup (p.1.map kV))/\ax' p.2 q.2.2) (plT a) xs
 |_,_,.nil,_=>.nil
 |_,_,.cons h r,ok=>.cons ⟨h.1,by rw[<- h.2.1];exact ok _ aw,h.2.2⟩ (eS' r fun x hx=>ok x (aq _ hx))
theorem t7' {P:Program} {w:World} (a:KTL) (o:Obj) (D:Addr) (H:Hp) (h:Heap) (i:t6' P w a o) (e:h.get? D=some o) (sy:(D == sysModules)=false) (hD:H D=none) (ok:okT a H) (_:HOk P w H h):aJ' P w (upd H D (.dT (plT a))) h D (.dT (plT a)):=by
 obtain⟨z,xs,es,ep,h1,h2,h3,h4,h5⟩:=i
 refine⟨by unfold plT;rw[ae];exact z,sy,xs,eS' h1 fun x hx=>?_,o,es,ep,e,h2,h3,h4,h5⟩
 rw[af' (ah' (ok x hx) hD)]
 exact ok x hx
section
variable {X:Cx}
def h7' (tk tv:TE):TL KTL:=fun σ a H N=>tk σ H fun y H1=>tv σ H1 fun v H2=>∃(k:List Key) (b:Addr),y=.ref b/\H2 b=some (.tup (k.map kV))/\okT a H2/\(∀x∈a,x.1≠k)/\a.length<sizeLine/\N (a++[(k,b,v)]) H2
theorem kK' {D:Addr} {ke ve:Expr} {tk tv:TE} (hu:X.A.units+1<cLine) (hxe:X.xe=fun _ _=>False) (hk:PE X ke tk) (hv:PE X ve tv):bR' X D (t6' X.prog X.w) [] (do
   let kv <- eval ke X.env
   let vv <- holding [kv] (eval ve X.env)
   match Value.ref D with
   | .ref d=>do
    standAt { ke.pos with endLine:=ve.pos.endLine,endCol:=ve.pos.endCol }
    holding [kv,vv] (dictSet d kv vv)
   |_=>unsupported "internal:dictcomp") (h7' tk tv):=by
 intro p_ s σ H a o N I hD ho hi hq
 have pinD:∀{s1:Shared} {pins1:List (Addr×Obj)} {H1:Hp},Inv X pins1 σ H1 s1->cH' X pins1 H1 D->s1.heap.get? D=some o->Inv X (pins1++bm' [D] s1.heap) σ H1 s1:=fun J f e=>J.pinned (fun b hb=>by
  have z:b=D:=by simpa using hb
  subst z
  exact f) (fun b hb=>by
  have z:b=D:=by simpa using hb
  subst z
  exact⟨o,e,gb' _ _ hi⟩)
 have h1:=hk _ s σ H _ (pinD I hD ho) hq
 rw[hxe]at h1
 refine ab (thn h1 fun u s1 ⟨y,H1,J1,r1,hq1⟩=>?_)
 have h2:=hv _ s1 σ H1 _ J1 hq1
 rw[hxe]at h2
 refine ab (aT (thn h2 fun u2 s2 ⟨v,H2,J2,r2,k,b,ek,eb,ok,nw,z2,n2⟩=>?_))
 subst ek
 cases(show u=Value.ref b from r1)
 have q2:=J2.pin (D,o) (ai _ (ai _ (aD' (by simp) ho)))
 obtain⟨z,xs,es,ep,g1,g2,g3,g4,g5⟩:=hi
 have hxl:=Paired.length g1
 have dd:s2.heap.DictOfH (tupleKind (au' X.prog X.w)) D xs:=⟨o,es,ep,q2.1,g2,g3,g4,fun x hx=>by
  obtain⟨p,hp,e1,e2,_⟩:=bz' g1 hx
  rw[<- e1,<- e2]
  exact dx' J2.hok (ok p hp),g5⟩
 refine ab (bO (aT (wpAny_dictSet_heap (hsz:=by rw[<- hxl];exact z) (show X.A.units<cLine from Nat.lt_of_succ_lt hu) (dx' J2.hok eb) dd fun h' dd' hs=>?_)))
 obtain⟨_,f1,f2,f3,f4,f5⟩:=hD
 have hnew:∀x∈xs,x.1≠k:=fun x hx e=>by
  obtain⟨p,hp,e1,_⟩:=bz' g1 hx
  exact nw p hp (e1.trans e)
 rw[storedH_new (by unfold atKey;rw[List.find?_eq_none.mpr (fun x hx=>by simpa using hnew x hx)];rfl)]at dd'
 obtain⟨o',es',ep',d1,d2,d3,d4,d5,d6⟩:=dd'
 have J3:Inv X p_ σ H2 { s2 with heap:=h',toks:=s2.toks+(tupleKind (au' X.prog X.w)).draws k }:=J2.unpinned.turned (it:=D) (t':=s2.toks+(tupleKind (au' X.prog X.w)).draws k) (fun b o hb e=>(hs.2 b hb).trans e) q2.2.1 f1 f3 f4 f5
 exact⟨σ,_,o',H2,J3,Ext.refl,d1,⟨by rw[aj];exact z2,_,es',ep',Paired.snoc g1 ⟨rfl,rfl,r2⟩,d2,d3,d4,d6⟩,q2.2.1,n2⟩
end
def yc' (neg:Bool) (ty td:TE):TE:=fun σ H Q=>ty σ H fun y H1=>td σ H1 fun x H2=>(∃a o,x=.ref a/\dH' H2 a y o/\Q (.bl (if neg then !o.isSome else o.isSome)) H2)\/xo' neg y x H2 Q
def kL' (td ty:TE):TE:=fun σ H Q=>td σ H fun x H1=>∃a,x=.ref a/\IsD H1 a/\ty σ H1 fun y H2=>(∃o,dH' H2 a y o/\Q (o.getD .non) H2)\/(y=.non/\NoN H2 a/\Q .non H2)
section
variable {X:Cx} {o e f i:Expr} {apos cpos:Pos} {td ty tx:TE}
theorem oR' (hu:X.A.units+1<cLine) (hi:PE X i ty) (ho:PE X o td):PC X .In i o (yc' false ty td):=by
 intro p_ s σ H Q I h
 refine thn (hi p_ s σ H _ I h) fun iv s1 ⟨y,H1,I1,ry,q1⟩=>thn (ho p_ s1 σ H1 _ I1 q1) fun u s2 ⟨x,H2,I2,rx,q2⟩=>?_
 rcases q2 with⟨a,ov,ex,g,q2⟩|q2
 .subst ex
  obtain rfl:u=Value.ref a:=rx
  exact AE' hu I2 g ry fun s3 I3=>⟨.bl ov.isSome,H2,I3,rfl,q2⟩
 .exact t2' p_ s2 σ H2 y x iv u Q I2 ry rx q2
theorem gc' (hu:X.A.units+1<cLine) (hi:PE X i ty) (ho:PE X o td):PC X .NotIn i o (yc' true ty td):=by
 intro p_ s σ H Q I h
 refine thn (hi p_ s σ H _ I h) fun iv s1 ⟨y,H1,I1,ry,q1⟩=>thn (ho p_ s1 σ H1 _ I1 q1) fun u s2 ⟨x,H2,I2,rx,q2⟩=>?_
 rcases q2 with⟨a,ov,ex,g,q2⟩|q2
 .subst ex
  obtain rfl:u=Value.ref a:=rx
  exact qf' hu I2 g ry fun s3 I3=>⟨.bl (!ov.isSome),H2,I3,rfl,q2⟩
 .exact kD' p_ s2 σ H2 y x iv u Q I2 ry rx q2
theorem ng' (hu:X.A.units+1<cLine) (ho:PE X o td) (he:PE X e ty) (m:M1 X o "get" apos e cpos):PE X (.Call (.Attribute o "get" apos) [e] [] cpos) (kL' td ty):=by
 intro p_ s σ H Q I h
 refine wpAny_Call_method m.base m.few m.line PySem.F.plainAttrs_dict PySem.F.slot_dict_get PySem.F.type_dict_get (thn (ho p_ s σ H _ I h) fun u s1 ⟨x,H1,I1,rx,a,ex,d,q1⟩=>?_)
 subst ex
 obtain rfl:u=Value.ref a:=rx
 obtain⟨t1,t2,_⟩:=tH' I1 d
 refine⟨t1,t2,?_⟩
 rw[m.trees]
 refine Calls.callWith_builtin rfl (Calls.evalArgs_plain (Calls.spliced_cons (thn (he p_ s1 σ H1 _ I1 q1) fun iv s2 ⟨y,H2,I2,ry,q2⟩=>Calls.spliced_nil ?_)))
 rcases q2 with⟨ov,g,q2⟩|⟨ey,g,q2⟩
 .exact tI' hu I2 g ry fun w' s3 I3 rw'=>⟨_,H2,I3,rw',q2⟩
 .subst ey
  obtain rfl:iv=Value.none:=ry
  exact t3' I2 g fun s3 I3=>⟨.non,H2,I3,rfl,q2⟩
end
abbrev t8' (own:List Nat) (wi:TI) (g:TG) (tc:TT) (ay':TL ((Option Int->Bool)×Nat)):TE:=eb' own wi g tc ay' (fun _=>false,0) (fun p a=>eR' p a.1 a.2) fun _ _=>True
abbrev t9' (own:List Nat) (wi:TI) (g:TG) (tc:TT) (tk tv:TE):TE:=eb' own wi g tc (h6' tk tv) [] (fun _ a=>.dK a) fun _ _=>True
abbrev ua' (own:List Nat) (wi:TI) (g:TG) (tc:TT) (tk tv:TE):TE:=eb' own wi g tc (h7' tk tv) [] (fun _ a=>.dT (plT a)) okT
section
variable {X:Cx} {e:Expr} {scope:Scope} {tg iter:Expr} {ifs:List Expr} {nx:Addr->Env->Sem Unit} {g:TG} {tc:TT} {own:List Nat} {wi:TI}
theorem qx' {P:Program} {w:World} (a:(Option Int->Bool)×Nat) (o:Obj) (D:Addr) (H:Hp) (h:Heap) (i:IsS a o) (e:h.get? D=some o) (_:(D == sysModules)=false) (_:H D=none) (_:True) (_:HOk P w H h):aJ' P w (upd H D (eR' D a.1 a.2)) h D (eR' D a.1 a.2):=kB' e i
theorem qy' {α:Type} {Is:α->Obj->Prop} {ay':TL α} {a0:α} {o0:Bool->Obj} {newAcc:Sem Value} {ho:Addr->α->HO} {ok:α->Hp->Prop} {i:Nat} {y:Str} {py pos pos2:Pos}
  (hnew:∀(s:Shared) (Q:Value->Shared->Prop),(∀led,Q (.ref s.heap.objs.size) { s with heap:=s.heap.push (o0 led) })->wpAny (model X.prog X.w) X.A newAcc Q X.xe s) (hfr:∀led,(o0 led).isFreed=false) (ha0:∀led,Is a0 (o0 led)) (hda:∀(a:α) (o:Obj),Is a o->∀v:Option Value,o.data≠.cell v)
  (hfin:∀(a:α) (o:Obj) (D:Addr) (H:Hp) (h:Heap),Is a o->h.get? D=some o->(D == sysModules)=false->H D=none->ok a H->HOk X.prog X.w H h->aJ' X.prog X.w (upd H D (ho D a)) h D (ho D a))
  (C:CompInG Is X e scope tg iter ifs nx g tc ay' own) (hi:PI X tg iter wi) (hN:X.N.Nodup) (hy:X.N[i]?=some y) (hx:Loc X.env.scope y) (hf:X.fn y=true\/X.env.scope.names.lookup y=some .local)
  (hG:PG X (.Name y py) (cY' i))
  (he:eval e X.env=comprehension e scope X.env pos2 newAcc false (eval iter X.env))
  (he2:evalThenUse e X.env (assign (.Name y py) X.env)=(do let _ <- comprehension e scope X.env pos2 newAcc false (eval iter X.env) (some (assign (.Name y py) X.env))))
  (hsw:∃b,swapsWith e (some (.Name y py)) pos.line X.env=pure b):PS X (.Assign [.Name y py] e pos) (jA' (eb' own wi g tc ay' a0 ho ok) (cY' i)):=by
 obtain⟨b,hb⟩:=hsw
 cases b with
 |true=>exact gS' hnew hfr ha0 hda hfin C hi hN hy hx hf he2 hb
 |false=>exact hF' (ne' hnew hfr ha0 hda hfin C hi he) hG hb rfl
end
end L2
namespace L2
open PySem PySem.Spec PyProof.Rows PySem.Ts
theorem h8' {P:Program} {w:World}:∀{k:List Int} {us:List Value},aE' (k.map V.int) us->ItemsAre (intKind P w) k us
 | [],_,.nil=>.nil
 |i :: k,_,.cons r t=>by
  obtain⟨u,rfl⟩:=(show ∃u,_=Value.int i u from r)
  exact .cons (by show Value.isInt i (.int i u)=true;simp[Value.isInt]) (h8' t)
theorem gd' {P:Program} {w:World} {H:Hp} {h:Heap} {q:List Int×Addr} (ok:HOk P w H h) (e:H q.2=some (.tup (q.1.map V.int))):Tup P w h q:=by
 obtain⟨_,its,r,o,h1,h2,⟨n,h3⟩,_⟩:=(show aJ' P w H h q.2 (.tup (q.1.map V.int)) from ok _ _ e)
 exact⟨o,its.toArray,n,h1,h2,h3,by rw[List.toList_toArray];exact h8' r⟩
def Trk (H:Hp) (L:List (List Int×Addr)):Prop:=∀q∈L,H q.2=some (.tup (q.1.map V.int))
theorem nh' (led:Bool):TabOk (.fresh 0 0 led) #[]:=⟨List.Pairwise.nil,fun p hp=>absurd hp (by simp[SetTable.fresh]),rfl,rfl,⟨3,rfl⟩,aL _,fun q hq=>absurd hq (by simp[SetTable.fresh])⟩
section
variable {X:Cx}
def ni' (a:List (List Int×Addr)) (k:List Int) (b:Addr):List (List Int×Addr):=if k∈a.map (·.1)then a else a++[(k,b)]
variable {e:Expr} {scope:Scope} {tg iter:Expr} {ifs:List Expr} {nx:Addr->Env->Sem Unit} {g:TG} {tc:TT} {ay':TL (List (List Int×Addr))} {own:List Nat} {wi:TI}
end
end L2
namespace L2
open PySem PySem.Spec PyProof.Rows PySem.Ts
def IsQ (L:List (List Int×Addr)) (o:Obj):Prop:=L.length<=4000/\∃(es:Array (Int×Value)) (ep:Nat) (t:SetTable) (L':List (List Int×Addr)),L'.Perm L/\o.ExactSet/\o.data=.set es ep t/\(∀P w,es.toList=L'.map (elm P w))/\(L'.map (·.1)).Nodup/\TabOk t es/\MaskOk t
def cD' (D:Addr) (L:List (List Int×Addr)):HO:=.ext fun h=>∃o,h.get? D=some o/\IsQ L o
theorem kM' {P:Program} {w:World} {H:Hp} {h:Heap} {D:Addr} {L:List (List Int×Addr)} {o:Obj} (e:h.get? D=some o) (i:IsQ L o):aJ' P w H h D (cD' D L):=
 ⟨⟨o,e,i⟩,⟨o,e⟩,fun h1 h2 ⟨o',e',i'⟩ k=>⟨o',k o' e',i'⟩⟩
section
variable {X:Cx} {p_:List (Addr×Obj)} {σ:St} {H:Hp} {s:Shared} {A:Around} {E:Value->Shared->Prop}
theorem kN' {D:Addr} {L:List (List Int×Addr)} (I:Inv X p_ σ H s) (hD:H D=some (cD' D L)) (ht:Trk H L):L.length<=4000/\∃o es ep t L',s.heap.get? D=some o/\o.ExactSet/\o.data=.set es ep t/\Elms X.prog X.w s.heap es t L'/\L'.Perm L:=by
 obtain⟨o,e,h4,es,ep,t,L',hp,hex,hd,hes,hnd,hT,hM⟩:=(show aJ' X.prog X.w H s.heap D (cD' D L) from I.hok D _ hD).1
 exact⟨h4,o,es,ep,t,L',e,hex,hd,⟨hes _ _,fun q hq=>gd' I.hok (ht q (hp.mem_iff.mp hq)),hnd,hT,hM⟩,hp⟩
theorem i9' {D:Addr} {o:Obj} {es:Array (Int×Value)} {ep:Nat} {t:SetTable} {L:List (List Int×Addr)} {P:Program} {w:World} {q:List Int×Addr} {Q:Value->Shared->Prop} (hu:A.units+1<cLine) (ho:s.heap.get? D=some o) (hc:o.ExactSet) (hd:o.data=.set es ep t) (X:Elms P w s.heap es t L) (hq:Tup P w s.heap q)
  (h:∀tk,Q (.bool (!decide (q.1∈L.map (·.1)))) { s with toks:=tk }):wpAny (model P w) A (compareOp .NotIn (.ref q.2) (.ref D)) Q E s:=by
 have hT:s.TypeIs (.ref D) "set":=⟨o,ho,hc.1⟩
 show wpAny _ _ (do return .bool (!(<- contains (.ref D) (.ref q.2)))) Q E s
 refine ab ?_
 unfold contains
 try with_reducible refine aT ?_
 refine ab (wpAny_specialOf hT F.slot_set_contains.lookup ?_)
 show wpAny _ _ (if(some (Value.builtin "set.__contains__") == some Value.none)=true then _ else _) _ E s
 rw[if_neg (by rw[beq_builtin_none];exact ay)]
 refine ab (wpAny_callSpecialUnlessNone?_slot (name:=Str.ofString "__contains__") hT F.slot_set_contains (bF F.slot_set_contains hT entry_set_contains ?_ (F.args_set_contains_2 _ _)))
 unfold Builtin.«frozenset.__contains__» Builtin.Frozenset.oneOther
 simp only[List.isEmpty_nil,bind_assoc]
 unfold Builtin.Frozenset.addrOf Builtin.Frozenset.withSetAsKey
 refine ab (ag ?_)
 try dsimp only
 refine ab (ag ?_)
 try dsimp only
 refine ab (wpAny_tryCatch ?_)
 refine tX' (by show A.units+1<cLine;exact hu) ho hd X hq fun tk=>?_
 show wpAny _ _ (ret (Value.bool _)) _ _ _
 exact ag ⟨_,rfl,bX (ag (h tk))⟩
def ub':R2:=fun x y H Q=>∃(k:List Int) (b D:Addr) (L:List (List Int×Addr)),x=.ref b/\H b=some (.tup (k.map V.int))/\y=.ref D/\H D=some (cD' D L)/\Trk H L/\Q (.bl (!decide (k∈L.map (·.1)))) H
theorem qz' (hu:X.A.units+64<cLine):OpR X (compareOp .NotIn) ub':=by
 intro p_ s σ H x y v u Q I rx ry h
 obtain⟨k,b,D,L,rfl,hb,rfl,hD,ht,q⟩:=h
 cases rx
 cases ry
 obtain⟨h4,o,es,ep,t,L',ho,hex,hd,hX,hp⟩:=kN' I hD ht
 refine i9' (q:=(k,b)) ⋯ ho hex hd hX (gd' I.hok hb) fun tk=>⟨.bl (!decide (k∈L.map (·.1))),H,I.tok _,?_,q⟩
 show _=_
 rw[decide_eq_decide.mpr (hp.map (·.1)).mem_iff]
def yd' (td ty:TE):TE:=fun σ H Q=>td σ H fun x H1=>∃(D:Addr) (L0:List (List Int×Addr)),x=.ref D/\H1 D=some (cD' D L0)/\ty σ H1 fun y H2=>∃(k:List Int) (b:Addr) (L:List (List Int×Addr)),y=.ref b/\H2 b=some (.tup (k.map V.int))/\H2 D=some (cD' D L)/\Trk H2 L/\L.length<4000/\Q .non (upd H2 D (cD' D (ni' L k b)))
variable {o e:Expr} {apos cpos:Pos} {td ty:TE}
set_option tactic.hygienic true in
theorem uc' (hu:X.A.units+1<cLine) (ho:PE X o td) (he:PE X e ty) (m:M1 X o "add" apos e cpos):PE X (.Call (.Attribute o "add" apos) [e] [] cpos) (yd' td ty):=by
 intro p_ s σ H Q I h
 refine wpAny_Call_method m.base m.few m.line PySem.F.plainAttrs_set PySem.F.slot_set_add PySem.F.type_set_add (thn (ho p_ s σ H _ I h) fun u s1 ⟨x,H1,I1,rx,D,L0,ex,hD0,q1⟩=>?_)
 subst ex
 obtain rfl:u=Value.ref D:=rx
 obtain⟨o0,e0,_,es0,ep0,t0,L0',_,hex0,_⟩:=(show aJ' X.prog X.w H1 s1.heap D (cD' D L0) from I1.hok D _ hD0).1
 refine⟨⟨o0,e0,hex0.1⟩,fun b eb=>by cases eb;exact⟨o0,e0,hex0.2.1⟩,?_⟩
 rw[m.trees]
 refine Calls.callWith_builtin rfl (Calls.evalArgs_plain (Calls.spliced_cons (thn (he p_ s1 σ H1 _ I1 q1) fun iv s2 ⟨y,H2,I2,ry,k,b,L,ey,hb,hD,ht,hl,q2⟩=>Calls.spliced_nil ?_)))
 subst ey
 obtain rfl:iv=Value.ref b:=ry
 obtain⟨h4,o,es,ep,t,L',ho,hex,hd,hX,hp⟩:=kN' I2 hD ht
 refine nd' (bt:=true) (q:=(k,b)) hu ho hex hd hX (.inl rfl) (gd' I2.hok hb) (by rw[hp.length_eq];exact hl) (fun hin tk=>?_) fun hno h' o' es' ep' t' L2 tk hs ho' hex' hd' X2 hp2 _=>?_
 .have:ni' L k b=L:=by unfold ni';exact if_pos ((hp.map Prod.fst).mem_iff.mp hin)
  rw[this]at q2
  have e1:upd H2 D (cD' D L)=H2:=by
   funext c
   unfold upd
   split
   .rename_i e;rw[e,hD]
   .rfl
  rw[e1]at q2
  exact⟨.non,H2,I2.tok _,rfl,q2⟩
 .have ea:ni' L k b=L++[(k,b)]:=by unfold ni';exact if_neg fun z=>hno ((hp.map Prod.fst).mem_iff.mpr z)
  rw[ea]at q2
  refine⟨.non,_,gO' (ob:=cD' D (L++[(k,b)])) I2 (by rw[hD];exact True.intro) hs ⟨o',ho'⟩ (kM' ho' ⟨by rw[aj];show _+1<=4000;omega,es',ep',t',L2,?_,hex',hd',fun P w=>X2.its,X2.nd,X2.tab,X2.mask⟩),rfl,q2⟩
  exact hp2.trans ((hp.cons _).trans (List.perm_append_singleton (k,b) L).symm)
def ye' (te:TE):TE:=fun σ H Q=>te σ H fun v H1=>∃(k:List Int) (b:Addr),v=.ref b/\H1 b=some (.tup (k.map V.int))/\∀p,H1 p=none->Q (.ref p) (upd H1 p (cD' p [(k,b)]))
theorem ud' {te:TE} {kk:Nat} {pos:Pos} (hu:X.A.units+1<cLine) (hcode:W.kdsCode X.K X.env.code=true) (hk:kk=0) (he:PE X e te) (hs:starEach [e] X.env=[(false,eval e X.env)]):PE X (.Set [e] kk pos) (ye' te):=by
 intro p_ s σ H Q I h
 subst hk
 rw[arm_eval_Set,hs]
 refine ab (bO ?_)
 refine ab (W.kds_main I.kIn hcode fun b=>?_)
 refine W.kds_core (ts:=[do let v <- eval e X.env;standAt pos;pure v]) (by rfl) rfl (by show 1<=30;decide) rfl fun led=>?_
 generalize ho0:({ cls:=.type "set",dict:=none,data:=.set #[] 0 (.fresh 0 0 led) }:Obj)=o0
 have oD:(s.heap.push o0).get? s.heap.objs.size=some o0:=aC _ (by rw[<- ho0];rfl)
 have I3:Inv X p_ σ H { s with heap:=s.heap.push o0 }:=I.kept (t':=s.toks) fun b o e=>ac _ e
 have fD:cH' X p_ H s.heap.objs.size:=I.fpOk (ah _) (I.hok.fresh (ah _))
 have I1:Inv X (p_++bm' [s.heap.objs.size] (s.heap.push o0)) σ H { s with heap:=s.heap.push o0 }:=I3.pinned (fun b hb=>by
  have e:b=s.heap.objs.size:=by simpa using hb
  subst e
  exact fD) (fun b hb=>by
  have e:b=s.heap.objs.size:=by simpa using hb
  subst e
  exact⟨o0,oD,fun v=>by rw[<- ho0];exact fun z=>nomatch z⟩)
 show wpAny _ _ ((eval e X.env >>= fun v=>standAt pos >>= fun _=>pure v) >>= fun v=>holding [v] (evalAll []) >>= fun r=>pure (v :: r)) _ _ _
 refine ab (ab (thn (he _ _ σ H _ I1 h) fun u s1 ⟨v,H1,J1,r1,k,b,ev,hb,q⟩=>?_))
 subst ev
 obtain rfl:u=Value.ref b:=r1
 refine ab (bO (ag (ab (aT (ag (ag ?_))))))
 have q1:=J1.pin (s.heap.objs.size,o0) (ai _ (ai _ (aD' (by simp) oD)))
 obtain⟨_,f1,f2,f3,f4,f5⟩:=fD
 have hex:o0.ExactSet:=by rw[<- ho0];exact⟨rfl,rfl,rfl⟩
 have hd:o0.data=.set #[] 0 (.fresh 0 0 led):=by rw[<- ho0]
 have X1:Elms X.prog X.w s1.heap #[] (.fresh 0 0 led) []:=⟨rfl,fun q hq=>absurd hq aA,cM,nh' _,⟨by simp[SetTable.fresh],show 0*5<7*3 by decide⟩⟩
 refine W.kds_fill_cons ?_
 unfold setAdd
 refine aT (ab (wpAny_pyHash_tuple (by show X.A.units<cLine;omega) (gd' (q:=(k,b)) J1.hok hb) ?_))
 refine oO' (bt:=true) (q:=(k,b)) (s:={ s1 with toks:=s1.toks+(k.length+1) }) (by show X.A.units<cLine;omega) q1.1 hex hd X1 (.inl rfl) (gd' J1.hok hb) (by decide) (fun hin=>absurd hin aA) fun hno h' o' es' ep' t' L2 hs' ho' hex' hd' X2 hp2 _=>?_
 refine W.kds_fill_nil (by rfl) ?_
 have J2:Inv X p_ σ H1 { s1 with heap:=h',toks:=s1.toks+(k.length+1) }:=J1.unpinned.turned (it:=s.heap.objs.size) (t':=s1.toks+(k.length+1)) (fun b o hb e=>(hs'.2 b hb).trans e) q1.2.1 f1 f3 f4 f5
 exact⟨.ref s.heap.objs.size,_,J2.track (D:=s.heap.objs.size) (o:=cD' s.heap.objs.size [(k,b)]) ⟨q1.2.1,f1,f2,f3,f4,f5⟩ I.sz (kM' ho' ⟨by show 1<=4000;decide,es',ep',t',L2,hp2,hex',hd',fun P w=>X2.its,X2.nd,X2.tab,X2.mask⟩),rfl,q _ q1.2.1⟩
end
end L2
namespace L2
open PySem PySem.Spec PyProof.Rows PySem.SeqAt
def Ls1 (H:Hp) (v:V) (ns:List Int):Prop:=∃p,v=.ref p/\H p=some (.lst (ns.map V.int))
def LL (H:Hp) (a:Addr) (L:List (List Int)):Prop:=∃vs,H a=some (.lst vs)/\vs.length=L.length/\∀(i:Nat) v ns,vs[i]?=some v->L[i]?=some ns->Ls1 H v ns
theorem a5':∀{a b:List Int},a.map V.int=b.map V.int->a=b
 | [],[],_=>rfl
 | [],_ :: _,h=>by cases h
 |_ :: _,[],h=>by cases h
 |x :: a,y :: b,h=>by
  rw[aJ,aJ]at h
  injection h with h1 h2
  injection h1 with h1
  rw[h1,a5' h2]
theorem fo' {α:Type} [DecidableEq α] {a b:List α} (h:a.length=b.length):(av a.length).all (fun i=>decide (a[i]?=b[i]?))=decide (a=b):=by
 by_cases e:a=b
 .subst e;simp
 .rw[decide_eq_false e,Bool.eq_false_iff]
  intro z
  apply e
  apply bZ
  intro i
  rw[bV]at z
  by_cases hi:i<a.length
  .exact of_decide_eq_true (z i (aI.mpr hi))
  .rw[aZ ⋯,aZ ⋯]
section
variable {X:Cx} {p_:List (Addr×Obj)} {σ:L2.St} {H:Hp} {s:Shared}
theorem oS' (I:Inv X p_ σ H s) {A:Around} {v w:V} {u u':Value} {ns ms:List Int} (hu:A.units+1<cLine) (h1:Ls1 H v ns) (h2:Ls1 H w ms) (r1:ax' v u) (r2:ax' w u'):EqAt A s u u' (decide (ns=ms)):=by
 obtain⟨p,rfl,e1⟩:=h1
 obtain⟨q,rfl,e2⟩:=h2
 cases r1
 cases r2
 by_cases hpq:p=q
 .subst hpq
  rw[e1]at e2
  have:ns=ms:=a5' (by injection e2 with e2;injection e2 with e2)
  rw[decide_eq_true this]
  exact EqAt.same _
 obtain⟨its,v1,pl1,_⟩:=I.list (SqL.of e1)
 obtain⟨its2,v2,pl2,_⟩:=I.list (SqL.of e2)
 have l1:=v1.length
 have l2:=v2.length
 rw[ae]at l1 l2
 by_cases hl:ns.length=ms.length
 .have:=RcAt.lists (e:=fun j=>decide (ns[j]?=ms[j]?)) pl1.isList pl2.isList (by simp;omega) ⋯ (A:=A) (fun j h1 h2=>?_)
  .rw[ak,<- l1,fo' hl]at this
   exact EqAt.of_refs hpq this
  .have j1:j<ns.length:=by simp at h1;omega
   have j2:j<ms.length:=by omega
   obtain⟨u1,f1,ru1⟩:=v1.get (i:=j) (by rw[al,aa j1];rfl)
   obtain⟨u2,f2,ru2⟩:=v2.get (i:=j) (by rw[al,aa j2];rfl)
   rw[cc' f1 h1,cc' f2 h2]
   have:=ce' (A:=A.in1) (s:=s) ru1 ru2 (.inl ⟨rfl,fun b z=>by cases z⟩)
   rw[show decide (V.int ns[j]=V.int ms[j])=decide (ns[j]?=ms[j]?) by
    rw[aa j1,aa j2]
    simp]at this
   exact this
 .rw[decide_eq_false (fun z=>hl (by rw[z]))]
  exact EqAt.of_refs hpq (RcAt.lists_lengths pl1.isList pl2.isList (by simp;omega) ⋯)
def z4' (neg:Bool):R2:=fun x y H Q=>∃a b L M,x=.ref a/\y=.ref b/\LL H a L/\LL H b M/\Q (.bl (decide (L=M))) H
theorem ue' (hu:X.A.units+64<cLine):OpR X (compareOp .Eq) (z4' false):=by
 intro p_ s σ H x y v u Q I rx ry h
 obtain⟨a,b,L,M,rfl,rfl,⟨vs,ea,hla,ga⟩,⟨ws,eb,hlb,gb⟩,q⟩:=h
 cases rx
 cases ry
 obtain⟨its,v1,pl1,_⟩:=I.list (SqL.of ea)
 obtain⟨its2,v2,pl2,_⟩:=I.list (SqL.of eb)
 have l1:=v1.length
 have l2:=v2.length
 by_cases hl:L.length=M.length
 .refine eq_listAt (e:=fun j=>decide (L[j]?=M[j]?)) pl1.isList pl2.isList (by simp;omega) ⋯ (fun j h1 h2=>?_) ?_
  .have j1:j<L.length:=by simp at h1;omega
   have j2:j<M.length:=by omega
   obtain⟨u1,f1,ru1⟩:=v1.get (aa (show j<vs.length by omega))
   obtain⟨u2,f2,ru2⟩:=v2.get (aa (show j<ws.length by omega))
   rw[cc' f1 h1,cc' f2 h2]
   have:=oS' I (A:=X.A.in1) (show X.A.units+1+1<cLine by omega) (ga j _ _ (aa ⋯) (aa j1)) (gb j _ _ (aa ⋯) (aa j2)) ru1 ru2
   rw[show decide (L[j]=M[j])=decide (L[j]?=M[j]?) by rw[aa j1,aa j2];simp]at this
   exact this
  .rw[ak,<- l1,hla,fo' hl]
   exact⟨.bl _,H,I,rfl,q⟩
 .refine eq_list_lengthsAt pl1.isList pl2.isList (by simp;omega) ⋯ ?_
  rw[decide_eq_false (fun z=>hl (by rw[z]))]at q
  exact⟨.bl _,H,I,rfl,q⟩
def uf':R2:=fun x y H Q=>∃b L ns,Ls1 H x ns/\y=.ref b/\LL H b L/\Q (.bl (!decide (ns∈L))) H
open Classical in
theorem qA' (hu:X.A.units+64<cLine):OpR X (compareOp .NotIn) uf':=by
 intro p_ s σ H x y v u Q I rx ry h
 obtain⟨b,L,ns,hx,rfl,⟨ws,eb,hlb,gb⟩,q⟩:=h
 cases ry
 obtain⟨its,v1,pl1,_⟩:=I.list (SqL.of eb)
 have l1:=v1.length
 refine notIn_listAt (fun u=>decide (∃p,u=Value.ref p/\H p=some (.lst (ns.map V.int)))) pl1.isList (fun w hw=>?_) ?_
 .obtain⟨i,hi⟩:=bi (show w∈its by simpa using hw)
  have hi':i<its.length:=(aB.mp hi).1
  obtain⟨u1,f1,ru1⟩:=v1.get (aa (show i<ws.length by omega))
  rw[hi]at f1
  cases f1
  have g:=gb i _ _ (aa ⋯) (aa (show i<L.length by omega))
  have:=oS' I (A:=X.A.in1) (show X.A.units+1+1<cLine by omega) g hx ru1 rx
  obtain⟨p,ep,hp⟩:=g
  rw[ep]at ru1
  cases ru1
  have e:decide (L[i]=ns)=decide (∃p',Value.ref p=Value.ref p'/\H p'=some (.lst (ns.map V.int))):=by
   apply decide_eq_decide.mpr
   constructor
   .intro z;exact⟨p,rfl,by rw[<- z];exact hp⟩
   .rintro⟨p',z,hp'⟩
    cases z
    rw[hp]at hp'
    exact a5' (by injection hp' with hp';injection hp' with hp')
  rw[e]at this
  exact this
 .have e:(its.toArray.any fun u=>decide (∃p,u=Value.ref p/\H p=some (.lst (ns.map V.int))))=decide (ns∈L):=by
   rw[bQ,List.any_toArray,cx]
   constructor
   .rintro⟨w,hw,hd⟩
    obtain⟨p,rfl,hp⟩:=of_decide_eq_true hd
    obtain⟨i,hi⟩:=bi hw
    have hi':i<its.length:=(aB.mp hi).1
    obtain⟨u1,f1,ru1⟩:=v1.get (aa (show i<ws.length by omega))
    rw[hi]at f1
    cases f1
    obtain⟨p',ep,hp'⟩:=gb i _ _ (aa ⋯) (aa (show i<L.length by omega))
    rw[ep]at ru1
    cases ru1
    rw[hp]at hp'
    have:ns=L[i]:=a5' (by injection hp' with hp';injection hp' with hp')
    rw[this]
    exact decide_eq_true (bW _)
   .intro z
    obtain⟨i,hi⟩:=bi (of_decide_eq_true z)
    have hi':i<L.length:=(aB.mp hi).1
    obtain⟨u1,f1,ru1⟩:=v1.get (aa (show i<ws.length by omega))
    obtain⟨p',ep,hp'⟩:=gb i _ _ (aa ⋯) hi
    rw[ep]at ru1
    cases ru1
    exact⟨_,az f1,decide_eq_true ⟨p',rfl,hp'⟩⟩
  rw[e]
  exact⟨.bl _,H,I,rfl,q⟩
end
section
variable {X:Cx}
def ug':List V->Hp->VK->Prop:=fun xs H Q=>∃a kvs,xs=[V.ref a]/\H a=some (.dK kvs)/\Q (.int kvs.length) H
theorem ja':a2' X (.builtin "len") ug':=ki'
end
section
variable {X:Cx} {pos:Pos}
def yf' (K:W.Frag) (n:Nat) (t:TGs):TG:=fun v σ H Q=>∃a xs,v=.ref a/\(SqT K H a xs\/SqL K H a xs)/\xs.length=n/\t xs σ H Q
theorem uh' {es:List Expr} {k:Nat} {t:TGs} {n:Nat} (hc:X.calm=true) (h:PGs X es t)
  (hn:(assignEach es X.env).length=n:=by rfl) (hst:(assignEach es X.env).findIdx? (·.1)=none:=by rfl):PG X (.Tuple es k pos) (yf' X.K n t):=by
 intro p_ s σ H v u Q I r hw
 obtain⟨a,xs,e1,hq,hl,hw⟩:=hw
 rcases hq with hq|hq
 .exact sW' hc h hn hst p_ s σ H v u Q I r ⟨a,xs,e1,hq,hl,hw⟩
 .subst e1
  cases r
  obtain⟨its,rv,pl,hz⟩:=I.list hq
  rw[assign_Tuple]
  refine ab (bO ?_)
  unfold unpack
  rw[hn,hst]
  have e:n=its.toArray.size:=by simp[<- hl,rv.length]
  rw[e]
  refine ab (aT (W.kun_itemsOf (I.ok.hd hc) pl.isList fun h' hx=>?_))
  have I1:Inv X p_ σ H { s with heap:=h' }:=I.kept (t':=s.toks) fun b o e=>hx b o (aH (ax e)) e
  exact h p_ _ σ H xs _ Q I1 (by simpa using rv) hw
end
section
variable {prog:Program} {w:World} {A:Around} {E:Value->Shared->Prop} {s:Shared} {K:Type} [DecidableEq K] {knd:HeapKind prog w K} {d:Addr}
theorem jb' (knd:HeapKind prog w K) (hd:(d == sysModules)=false):MeetsIn prog w (Builtin.«dict.__len__» ⟨[.ref d],[]⟩) (fun _ R s=>∃xs,s.heap.DictOfH knd d xs/\R (.ok (.ret (.int xs.length s.toks))) { s with toks:=s.toks+1 }):=
 .of_wp fun A R s ⟨xs,hm,h⟩=>by
  obtain⟨o,es,ep,ho,hc,hdat,hk,_⟩:=hm
  show wpAny _ _ (dictSize d >>= _) _ _ s
  unfold dictSize
  refine ab (ab (wpAny_dictEntries ho hdat (ag ?_)))
  show wpAny _ _ (Builtin.Dict.pendingCount d >>= _) _ _ s
  refine ab (wpAny_pendingCount_other hd ?_)
  refine wpAny_ret_mkInt ?_
  rw[Nat.add_zero,size_of_entries hk];exact h
theorem kO' {xs:List (K×Addr×Value)} {Q:Value->Shared->Prop} (hd:(d == sysModules)=false) (hm:s.heap.DictOfH knd d xs) (hfit:(xs.length:Int)<2 ^ 63)
  (h:Q (.int xs.length (s.toks+1)) { s with toks:=s.toks+1+1 }):wpAny (model prog w) A (call (.builtin "len") [.ref d]) Q E s:=by
 refine Calls.call_function_entry kind_len plain_len entry_len (args_len1 _) ?_
 unfold Builtin.«len»
 refine ab (m:=oneArg "len" _) (ag ?_)
 refine ab (m:=callSpecial? (.ref d) (Str.ofString "__len__")) (bf (name:=Str.ofString "__len__") hm.typeIs F.slot_dict_len
  (call_meetsIn F.slot_dict_len hm.typeIs F.entry_dict_len (F.args_dict_len_1 _) (jb' knd hd) ⟨xs,hm,?_⟩))
 show wpAny _ _ _ _ _ { s with toks:=s.toks+1 }
 refine ab (aT (ag ?_))
 refine ab (wpAny_letGo ?_)
 show wpAny _ _ (if((xs.length:Nat):Int)<0 then _ else _) _ _ _
 rw[if_neg ⋯]
 show wpAny _ _ (if((xs.length:Nat):Int) ≥ 2 ^ 63 then _ else _) _ _ _
 rw[if_neg ⋯]
 exact ab (wpAny_mkInt (ag ⟨_,rfl,h⟩))
end
section
variable {X:Cx}
def oT':List V->Hp->VK->Prop:=fun xs H Q=>ug' xs H Q\/∃a kvs,xs=[V.ref a]/\Rd H a (.dT kvs)/\Q (.int kvs.length) H
theorem jc':a2' X (.builtin "len") oT':=by
 intro p_ s σ H xs us Q I r h
 rcases h with h|⟨a,kvs,rfl,ha,q⟩
 .exact ja' p_ s σ H xs us Q I r h
 .obtain⟨u,rfl,ru⟩:=eC' r
  cases ru
  obtain⟨z,hd,vs,rel,dd⟩:=f4' I.hok ha
  have e:=Paired.length rel
  exact kO' hd dd (by rw[<- e];rw[sizeLine_eq]at z;omega) ⟨.int kvs.length,H,I.tok _,⟨_,by rw[e]⟩,q⟩
end
end L2
namespace L2
open PySem PySem.Spec PyProof.Rows PySem.SeqAt
def Pw {α:Type} (R:V->α->Prop) (vs:List V) (as:List α):Prop:=vs.length=as.length/\∀(i:Nat) v a,vs[i]?=some v->as[i]?=some a->R v a
def LsR (H:Hp) {α:Type} (R:V->α->Prop) (v:V) (as:List α):Prop:=∃p vs,v=.ref p/\H p=some (.lst vs)/\Pw R vs as
def TpI (H:Hp) (v:V) (ns:List Int):Prop:=∃p,v=.ref p/\H p=some (.tup (ns.map V.int))
def sE' {α:Type} (R:V->α->Prop):Prop:=∀x a b,R x a->R x b->a=b
theorem Pw.fun1 {α:Type} {R:V->α->Prop} (hR:sE' R) {vs:List V} {as bs:List α} (h1:Pw R vs as) (h2:Pw R vs bs):as=bs:=by
 apply bZ
 intro i
 by_cases hi:i<vs.length
 .have g:=aa hi
  have g1:=aa (show i<as.length by rw[<- h1.1];exact hi)
  have g2:=aa (show i<bs.length by rw[<- h2.1];exact hi)
  rw[g1,g2,hR _ _ _ (h1.2 i _ _ g g1) (h2.2 i _ _ g g2)]
 .rw[aZ (by rw[<- h1.1];omega),aZ (by rw[<- h2.1];omega)]
theorem LsR.fun1 {H:Hp} {α:Type} {R:V->α->Prop} (hR:sE' R):sE' (LsR H R):=by
 rintro x a b ⟨p,vs,rfl,e,h⟩ ⟨q,ws,z,e',h'⟩
 cases z
 rw[e]at e'
 cases e'
 exact h.fun1 hR h'
theorem TpI.fun1 {H:Hp}:sE' (TpI H):=by
 rintro x a b ⟨p,rfl,e⟩ ⟨q,z,e'⟩
 cases z
 rw[e]at e'
 exact a5' (by injection e' with e';injection e' with e')
section
variable {X:Cx} {p_:List (Addr×Obj)} {σ:L2.St} {H:Hp} {s:Shared}
theorem ui' (I:Inv X p_ σ H s) {A:Around} {v w:V} {u u':Value} {ns ms:List Int} (hu:A.units+1<cLine) (h1:TpI H v ns) (h2:TpI H w ms) (r1:ax' v u) (r2:ax' w u'):EqAt A s u u' (decide (ns=ms)):=by
 obtain⟨p,rfl,e1⟩:=h1
 obtain⟨q,rfl,e2⟩:=h2
 cases r1
 cases r2
 by_cases hpq:p=q
 .subst hpq
  rw[e1]at e2
  have:ns=ms:=a5' (by injection e2 with e2;injection e2 with e2)
  rw[decide_eq_true this]
  exact EqAt.same _
 obtain⟨its,v1,pl1,_⟩:=I.tuple (SqT.of e1)
 obtain⟨its2,v2,pl2,_⟩:=I.tuple (SqT.of e2)
 have l1:=v1.length
 have l2:=v2.length
 rw[ae]at l1 l2
 have:=RcAt.tuples (e:=fun j=>decide (ns[j]?=ms[j]?)) pl1 pl2 (A:=A) ⋯ (fun j h1 h2=>?_)
 .rw[ak,ak,<- l1,<- l2]at this
  have e:((av (min ns.length ms.length)).all (fun j=>decide (ns[j]?=ms[j]?))&&ns.length == ms.length)=decide (ns=ms):=by
   by_cases hl:ns.length=ms.length
   .rw[show min ns.length ms.length=ns.length by omega,fo' hl,hl,BEq.rfl,Bool.and_true]
   .rw[decide_eq_false (fun z=>hl (by rw[z])),beq_eq_false_iff_ne.mpr hl,Bool.and_false]
  rw[e]at this
  exact EqAt.of_refs hpq this
 .have j1:j<ns.length:=by simp at h1;omega
  have j2:j<ms.length:=by simp at h2;omega
  obtain⟨u1,f1,ru1⟩:=v1.get (i:=j) (by rw[al,aa j1];rfl)
  obtain⟨u2,f2,ru2⟩:=v2.get (i:=j) (by rw[al,aa j2];rfl)
  rw[cc' f1 h1,cc' f2 h2]
  have:=ce' (A:=A.in1) (s:=s) ru1 ru2 (.inl ⟨rfl,fun b z=>by cases z⟩)
  rw[show decide (V.int ns[j]=V.int ms[j])=decide (ns[j]?=ms[j]?) by
   rw[aa j1,aa j2]
   simp]at this
  exact this
theorem uj' (I:Inv X p_ σ H s) {A:Around} {α:Type} [DecidableEq α] {R:V->α->Prop} (hR:sE' R) {v w:V} {u u':Value} {as bs:List α} (hu:A.units+1<cLine)
  (ih:∀x y a b u u',R x a->R y b->ax' x u->ax' y u'->EqAt A.in1 s u u' (decide (a=b))) (h1:LsR H R v as) (h2:LsR H R w bs) (r1:ax' v u) (r2:ax' w u'):EqAt A s u u' (decide (as=bs)):=by
 obtain⟨p,vs,rfl,e1,g1⟩:=h1
 obtain⟨q,ws,rfl,e2,g2⟩:=h2
 cases r1
 cases r2
 by_cases hpq:p=q
 .subst hpq
  rw[e1]at e2
  cases e2
  rw[decide_eq_true (g1.fun1 hR g2)]
  exact EqAt.same _
 obtain⟨its,v1,pl1,_⟩:=I.list (SqL.of e1)
 obtain⟨its2,v2,pl2,_⟩:=I.list (SqL.of e2)
 have l1:=v1.length
 have l2:=v2.length
 have k1:=g1.1
 have k2:=g2.1
 by_cases hl:as.length=bs.length
 .have:=RcAt.lists (e:=fun j=>decide (as[j]?=bs[j]?)) pl1.isList pl2.isList (by simp;omega) ⋯ (A:=A) (fun j h1 h2=>?_)
  .rw[ak,<- l1,k1,fo' hl]at this
   exact EqAt.of_refs hpq this
  .have j1:j<as.length:=by simp at h1;omega
   have j2:j<bs.length:=by omega
   obtain⟨u1,f1,ru1⟩:=v1.get (i:=j) (aa (show j<vs.length by omega))
   obtain⟨u2,f2,ru2⟩:=v2.get (i:=j) (aa (show j<ws.length by omega))
   rw[cc' f1 h1,cc' f2 h2]
   have:=ih _ _ _ _ _ _ (g1.2 j _ _ (aa ⋯) (aa j1)) (g2.2 j _ _ (aa ⋯) (aa j2)) ru1 ru2
   rw[show decide (as[j]=bs[j])=decide (as[j]?=bs[j]?) by
    rw[aa j1,aa j2]
    simp]at this
   exact this
 .rw[decide_eq_false (fun z=>hl (by rw[z]))]
  exact EqAt.of_refs hpq (RcAt.lists_lengths pl1.isList pl2.isList (by simp;omega) ⋯)
def z5':R2:=fun x y H Q=>∃(k:List (List Int)) (L:List (List (List Int))),LsR H (TpI H) x k/\LsR H (LsR H (TpI H)) y L/\Q (.bl (decide (k∈L))) H
open Classical in
theorem uk' (hu:X.A.units+64<cLine):OpR X (compareOp .In) z5':=by
 intro p_ s σ H x y v u Q I rx ry h
 obtain⟨k,L,hx,⟨b,ws,rfl,eb,gb⟩,q⟩:=h
 cases ry
 obtain⟨its,v1,pl1,_⟩:=I.list (SqL.of eb)
 have l1:=v1.length
 have hlb:=gb.1
 have fn:sE' (LsR H (TpI H)):=LsR.fun1 TpI.fun1
 have eqs:∀x y a b u u',LsR H (TpI H) x a->LsR H (TpI H) y b->ax' x u->ax' y u'->EqAt X.A.in1 s u u' (decide (a=b)):=fun x y a b u u' h1 h2 r1 r2=>
  uj' I TpI.fun1 (show X.A.units+1+1<cLine by omega) (fun x y a b u u' h1 h2 r1 r2=>ui' I (A:=X.A.in1.in1) (show X.A.units+1+1+1<cLine by omega) h1 h2 r1 r2) h1 h2 r1 r2
 refine in_listAt (fun u=>decide (∃x,ax' x u/\LsR H (TpI H) x k)) pl1.isList (fun w hw=>?_) ?_
 .obtain⟨i,hi⟩:=bi (show w∈its by simpa using hw)
  have hi':i<its.length:=(aB.mp hi).1
  obtain⟨u1,f1,ru1⟩:=v1.get (aa (show i<ws.length by omega))
  rw[hi]at f1
  cases f1
  have g:=gb.2 i _ _ (aa ⋯) (aa (show i<L.length by omega))
  have:=eqs _ _ _ _ _ _ g hx ru1 rx
  have e:decide (L[i]=k)=decide (∃x,ax' x w/\LsR H (TpI H) x k):=by
   apply decide_eq_decide.mpr
   constructor
   .intro z;exact⟨_,ru1,z ▸ g⟩
   .rintro⟨x',rx',hx'⟩
    obtain⟨p,vs,ep,e1,g1⟩:=g
    obtain⟨p',vs',rfl,e1',g1'⟩:=hx'
    rw[ep]at ru1
    cases ru1
    cases rx'
    rw[e1]at e1'
    cases e1'
    exact g1.fun1 TpI.fun1 g1'
  rw[e]at this
  exact this
 .have e:(its.toArray.any fun u=>decide (∃x,ax' x u/\LsR H (TpI H) x k))=decide (k∈L):=by
   rw[bQ,List.any_toArray,cx]
   constructor
   .rintro⟨w,hw,hd⟩
    obtain⟨x',rx',hx'⟩:=of_decide_eq_true hd
    obtain⟨i,hi⟩:=bi hw
    have hi':i<its.length:=(aB.mp hi).1
    obtain⟨u1,f1,ru1⟩:=v1.get (aa (show i<ws.length by omega))
    rw[hi]at f1
    cases f1
    obtain⟨p,vs,ep,e1,g1⟩:=gb.2 i _ _ (aa ⋯) (aa (show i<L.length by omega))
    obtain⟨p',vs',rfl,e1',g1'⟩:=hx'
    rw[ep]at ru1
    cases ru1
    cases rx'
    rw[e1]at e1'
    cases e1'
    rw[<- g1.fun1 TpI.fun1 g1']
    exact decide_eq_true (bW _)
   .intro z
    obtain⟨i,hi⟩:=bi (of_decide_eq_true z)
    have hi':i<L.length:=(aB.mp hi).1
    obtain⟨u1,f1,ru1⟩:=v1.get (aa (show i<ws.length by omega))
    exact⟨_,az f1,decide_eq_true ⟨_,ru1,gb.2 i _ _ (aa ⋯) hi⟩⟩
  rw[e]
  exact⟨.bl _,H,I,rfl,q⟩
end
end L2
namespace L2
open PySem PySem.Spec PyProof.Rows
section
variable {prog:Program} {w:World} {A:Around} {R:Result->Shared->Prop} {I:Addr} {fp wr:List Addr} {G:Array GenState->Array GenState->Prop} {n:Nat} {St:Nat->Shared->Prop}
abbrev kT (prog:Program) (w:World):=tupleKind (au' prog w)
end
section
variable {prog:Program} {w:World} {A:Around} {E:Value->Shared->Prop} {s:Shared}
set_option maxRecDepth 100000 in
set_option maxHeartbeats 3200000 in
end
section
variable {X:Cx}
abbrev PL:=List (Addr×List Key×Addr×V)
end
end L2
namespace R3
open PySem PySem.Spec PyProof.Rows L2
inductive Bf where
 |len|abs|int|isinstance|all|list|tuple|range|set|lenD
 deriving DecidableEq
inductive Mf where
 |append|join|insert|indexL|countL|popL
 deriving DecidableEq
inductive Zf where
 |eqB|ninB|ltS|inP|ninS
 deriving DecidableEq
set_option genInjectivity false
mutual
inductive Ce where
 |var (i:Nat)|int (n:Int)|bl (b:Bool)|non|str (x:Str)
 |bin (op:Operator) (a b:Ce)
 |not (a:Ce)
 |and (a b:Ce)|or (a b:Ce)
 |cmp (op:CmpOp) (a b:Ce)
 |ife (q:Cq) (a b:Ce)
 |tup (es:Ces)|lst (es:Ces)
 |idx (a b:Ce)
 |cut (a:Ce) (lo hi:Co)
 |call (f:Str) (es:Ces)
 |blt (f:Bf) (es:Ces)
 |met (m:Mf) (o:Ce) (es:Ces)
 |comp (elt:Ce) (own:List Nat) (t:Ct) (it:Ci) (q:Cqo) (r:Cc)
 |dnew|dnt|dix (a b:Ce)|din (neg:Bool) (a b:Ce)|dgt (a b:Ce)
 |sd1 (a:Ce)|sad (a b:Ce)
inductive Ces where
 |nil|cons (e:Ce) (r:Ces)
inductive Cq where
 |val (e:Ce)|not (q:Cq)|and (a b:Cq)|or (a b:Cq)|cmp (op:CmpOp) (a b:Ce)|din (neg:Bool) (a b:Ce)|cmw (k:Zf) (a b:Ce)
inductive Cqo where
 |none|some (q:Cq)
inductive Co where
 |none|some (e:Ce)
inductive Ci where
 |val (e:Ce)|range1 (a:Ce)|zip (a b:Ce)|enum (a:Ce)
inductive Ct where
 |name (i:Nat)|tup (ts:Cts)|sub (o i:Ce)
inductive Cts where
 |nil|cons (t:Ct) (r:Cts)
inductive Cc where
 |nil|cons (ws:List Nat) (t:Ct) (it:Ci) (q:Cqo) (r:Cc)
end
mutual
inductive Cs where
 |expr (e:Ce)|ret (e:Ce)|asg (t:Ct) (e:Ce)|par (i j:Nat) (a b:Ce)
 |ite (q:Cq) (a b:Css)|whl (q:Cq) (b:Css)|for_ (t:Ct) (it:Ci) (b:Css)|dput (o i e:Ce)
 |setc2 (i:Nat) (elt:Ce) (own:List Nat) (t:Ct) (it:Ci) (q:Cqo) (ws:List Nat) (t2:Ct) (it2:Ci) (q2:Cqo)|dctc (tup:Bool) (i:Nat) (k v:Ce) (own:List Nat) (t:Ct) (it:Ci) (q:Cqo)
inductive Css where
 |nil|cons (s:Cs) (r:Css)
end
set_option genInjectivity true
def z7' (i j:Int):Prop:=0<=j/\j<=1000000/\i.natAbs<2 ^ 250*2 ^ 250*2 ^ 250
def ul' (_ j:Int):Prop:=0<j/\(j<1073741824\/j.natAbs.log2<9000)
def um' (i j:Int):Prop:=(-(2 ^ 64)<i/\i<2 ^ 64)\/(-(2 ^ 64)<j/\j<2 ^ 64)\/IntMulOk i j
section
variable (K:W.Frag)
def fp':Operator->R2
 | .Add=>fun x y H Q=>match x,y with
  | .int i,.int j=>Q (.int (i+j)) H
  | .str i,.str j=>i.length+j.length<=sizeLine/\Q (.str (i++j)) H
  |x,y=>zQ' x y H Q\/te' K x y H Q\/oJ' K x y H Q
 | .Sub=>rI0 fun i j=>.int (i-j)
 | .Mult=>fun x y H Q=>match x,y with
  | .int i,.int j=>um' i j/\Q (.int (i*j)) H
  | .str a,.int n=>-1000000<=n/\n<=1000000/\a.length*n.toNat<=1000000/\Q (.str (Txt.mul a n)) H
  |x,y=>zR' x y H Q
 | .Mod=>rI (fun _ j=>0<j) fun i j=>.int (i % j)
 | .FloorDiv=>rI ul' fun i j=>.int (i / j)
 | .Pow=>rI xJ' fun i j=>.int (i ^ j.toNat)
 | .LShift=>rI z7' fun i j=>.int (i*2 ^ j.toNat)
 | .RShift=>rI (fun _ j=>0<=j) fun i j=>.int (i / 2 ^ j.toNat)
 | .BitAnd=>rI (fun i j=>0<=i/\j=1) fun i _=>.int (i % 2)
 |_=>fun _ _ _ _=>False
def cd':CmpOp->R2
 | .Eq=>fun x y H Q=>match x,y with
  | .ref a,.ref b=>xj' K false (.ref a) (.ref b) H Q\/xm' false (.ref a) (.ref b) H Q
  |x,y=>rEq x y H Q
 | .NotEq=>fun x y H Q=>match x,y with
  | .ref a,.ref b=>xj' K true (.ref a) (.ref b) H Q\/xm' true (.ref a) (.ref b) H Q
  |x,y=>rNe x y H Q
 | .Lt=>rI0 fun i j=>.bl (decide (i<j))
 | .LtE=>rI0 fun i j=>.bl (decide (i<=j))
 | .Gt=>fun x y H Q=>match x with
  | .str a=>zZ' (.str a) y H Q
  |x=>rI0 (fun i j=>.bl (decide (j<i))) x y H Q
 | .GtE=>rI0 fun i j=>.bl (decide (j<=i))
 | .Is=>fun x y H Q=>match y with
  | .bl b=>xk' false x (.bl b) H Q
  |y=>y=.non/\Q (.bl (decide (x=.non))) H
 | .IsNot=>fun x y H Q=>match y with
  | .bl b=>xk' true x (.bl b) H Q
  |y=>y=.non/\Q (.bl (!decide (x=.non))) H
 | .In=>fun x y H Q=>match y with
  | .str b=>xl' false x (.str b) H Q
  |y=>rIn K false x y H Q
 | .NotIn=>fun x y H Q=>match y with
  | .str b=>xl' true x (.str b) H Q
  |y=>rIn K true x y H Q
def eB':Bf->List V->Hp->VK->Prop
 | .len=>fun xs H Q=>∃x n,xs=[x]/\zN' K x H n/\Q (.int n) H
 | .abs=>fun xs H Q=>∃i,xs=[.int i]/\Q (.int (if i<0 then -i else i)) H
 | .int=>fun xs H Q=>match xs with
  | [.int i]=>Q (.int i) H
  | [.bl k]=>Q (.int (if k then 1 else 0)) H
  | [.str x]=>∃n,PySem.intText? x=some n/\x.length<=640/\Q (.int n) H
  | [.str x,.int j]=>j=2/\∃n,B2 x n/\Q (.int n) H
  |_=>False
 | .isinstance=>fun _ _ _=>False
 | .all=>zU' K false
 | .list=>fun xs H Q=>(∃p ys,xs=[.ref p]/\(SqL K H p ys\/SqT K H p ys)/\∀l,H l=none->Q (.ref l) (upd H l (.lst ys)))\/zW' xs H Q
 | .range=>zV'
 | .set=>oQ' K
 | .lenD=>oT'
 | .tuple=>fun xs H Q=>∃p ys,xs=[.ref p]/\((SqL K H p ys/\∀l,H l=none->Q (.ref l) (upd H l (.tup ys)))\/(SqT K H p ys/\Q (.ref p) H))
def jd':Mf->V->List V->Hp->VK->Prop
 | .append=>jV'
 | .join=>tv' K
 | .insert=>j9'
 | .indexL=>kk' K
 | .countL=>kl' K
 | .popL=>zP'
def ge':Mf->String
 | .join=>"str"
 |_=>"list"
def kP':Mf->Str
 | .append=>"append"
 | .join=>"join"
 | .insert=>"insert"
 | .indexL=>"index"
 | .countL=>"count"
 | .popL=>"pop"
def ec':Bf->Str
 | .len=>"len"
 | .abs=>"abs"
 | .int=>"int"
 | .isinstance=>"isinstance"
 | .all=>"all"
 | .list=>"list"
 | .tuple=>"tuple"
 | .range=>"range"
 | .set=>"set"
 | .lenD=>"len"
def nj':R2:=fun x y H Q=>match x,y with
 | .str z,.int i=>z.length<=sizeLine/\∃c,atI z.cps.toList i=some c/\Q (.str ⟨#[c]⟩) H
 |x,y=>gC' K x y H Q\/gJ' K x y H Q
def rSl:V->Option Int->Option Int->Hp->VK->Prop:=fun x lo hi H Q=>match x with
 | .str a=>a.length<=sizeLine/\Q (.str (Txt.slice a lo hi)) H
 |x=>xg' K x lo hi H Q\/xf' K x lo hi H Q\/xn' K x lo hi H Q
end
def z8':Zf->CmpOp
 | .eqB=>.Eq
 | .ninB=>.NotIn
 | .ltS=>.Lt
 | .inP=>.In
 | .ninS=>.NotIn
def rZf:Zf->R2
 | .eqB=>z4' false
 | .ninB=>uf'
 | .ltS=>fun x y H Q=>∃i j,x=.str i/\y=.str j/\Q (.bl (decide (i.cps.toList<j.cps.toList))) H
 | .inP=>z5'
 | .ninS=>ub'
structure Rc where
 N:List Str
 B:List Str
 K:W.Frag
 fs:Str->Option Sp
 xk:L2.St->XK:=fun _=>E0
 cl:Str->Option Addr:=fun _=>none
def nk' (neg:Bool) (ty td:TE):TE:=yc' neg ty td
def nl':Cts->Nat
 | .nil=>0
 | .cons _ r=>nl' r+1
mutual
def tE (C:Rc):Ce->TE
 | .var i=>xb' i
 | .int n=>tC (.int n)
 | .bl b=>tC (.bl b)
 | .non=>tC .non
 | .str x=>tC (.str x)
 | .bin op a b=>tOp (fp' C.K op) (tE C a) (tE C b)
 | .not a=>pH' (tE C a)
 | .and a b=>mw' (tE C a) (tE C b)
 | .or a b=>xc' (tE C a) (tE C b)
 | .cmp op a b=>tOp (cd' C.K op) (tE C a) (tE C b)
 | .ife q a b=>tIf (tQ C q) (tE C a) (tE C b)
 | .tup es=>xR' (tA C es)
 | .lst es=>xS' (tA C es)
 | .idx a b=>tOp (nj' C.K) (tE C a) (tE C b)
 | .cut a lo hi=>tSl (rSl C.K) (tE C a) (tO C lo) (tO C hi)
 | .call f es=>fun σ H Q=>match C.fs f with
  |some sp=>mH' sp [] (C.xk σ) (tA C es) σ H Q
  |none=>False
 | .blt f es=>tCB (eB' C.K f) (tA C es)
 | .met m o es=>tBM C.K (ge' m) (jd' C.K m) (tE C o) (tA C es)
 | .dnew=>kg'
 | .dnt=>kh'
 | .dix a b=>qh' (tE C a) (tE C b)
 | .din neg a b=>nk' neg (tE C a) (tE C b)
 | .dgt a b=>kL' (tE C a) (tE C b)
 | .sd1 a=>ye' (tE C a)
 | .sad a b=>yd' (tE C a) (tE C b)
 | .comp elt own t it q r=>i3' own (tI C it) (tG C t) (tQo C q) (tR C r (eE' (tE C elt)))
def tA (C:Rc):Ces->TA
 | .nil=>jC'
 | .cons e r=>cA' (tE C e) (tA C r)
def tQ (C:Rc):Cq->TT
 | .val e=>fun σ H Q=>tE C e σ H fun x H'=>∃k,s7' C.K x H' k/\Q k H'
 | .not q=>xw' (tQ C q)
 | .and a b=>sP' (tQ C a) (tQ C b)
 | .or a b=>tOr (tQ C a) (tQ C b)
 | .cmp op a b=>gG' (tOp (cd' C.K op) (tE C a) (tE C b))
 | .din neg a b=>gG' (nk' neg (tE C a) (tE C b))
 | .cmw k a b=>gG' (tOp (rZf k) (tE C a) (tE C b))
def tQo (C:Rc):Cqo->TT
 | .none=>fun _ H Q=>Q true H
 | .some q=>tQ C q
def tO (C:Rc):Co->TO
 | .none=>gH'
 | .some e=>pW' (tE C e)
def tI (C:Rc):Ci->TI
 | .val e=>xX' C.K (tE C e)
 | .range1 a=>pP' (cA' (tE C a) jC')
 | .zip a b=>xY' C.K (cA' (tE C a) (cA' (tE C b) jC'))
 | .enum a=>qa' C.K (tE C a)
def tG (C:Rc):Ct->TG
 | .name i=>cY' i
 | .tup ts=>yf' C.K (nl' ts) (tGs C ts)
 | .sub o i=>xD' (tE C o) (tE C i) dG'
def tGs (C:Rc):Cts->TGs
 | .nil=>xC'
 | .cons t r=>pN' (tG C t) (tGs C r)
def tR (C:Rc):Cc->TL (List V)->TL (List V)
 | .nil,em=>em
 | .cons ws t it q r,em=>gM' (tI C it) (aP' ws (tG C t) (tQo C q) (tR C r em))
end
mutual
def tS (C:Rc):Cs->TS
 | .expr e=>pK' (tE C e)
 | .ret e=>xy' (tE C e)
 | .asg t e=>jA' (tE C e) (tG C t)
 | .par i j a b=>xE' i j (cA' (tE C a) (cA' (tE C b) jC'))
 | .ite q a b=>xz' (tQ C q) (tSs C a) (tSs C b)
 | .whl q b=>jG' (tQ C q) (tSs C b)
 | .for_ t it b=>xF' (tI C it) (tG C t) (tSs C b)
 | .dput o i e=>qi' (tE C o) (tE C i) (tE C e)
 | .setc2 i elt own t it q ws t2 it2 q2=>jA' (t8' own (tI C it) (tG C t) (tQo C q) (gM' (tI C it2) (aP' ws (tG C t2) (tQo C q2) (f8' (tE C elt))))) (cY' i)
 | .dctc tup i k v own t it q=>if tup then jA' (ua' own (tI C it) (tG C t) (tQo C q) (tE C k) (tE C v)) (cY' i)else jA' (t9' own (tI C it) (tG C t) (tQo C q) (tE C k) (tE C v)) (cY' i)
def tSs (C:Rc):Css->TS
 | .nil=>pI'
 | .cons s r=>xx' (tS C s) (tSs C r)
end
def vis (sc:Scope) (x:Str):Bool:=match sc.names.lookup x with
 |some .local=>true
 |some .cell=>true
 |some .free=>true
 |_=>false
def locb (sc:Scope) (x:Str):Bool:=match sc.names.lookup x with
 |some .local=>true
 |some .cell=>true
 |_=>false
def glb (sc:Scope) (x:Str):Bool:=decide (sc.names.lookup x=some .globalImplicit)
def eT' (N:List Str) (i:Nat) (x:Str):Bool:=decide (N[i]?=some x)&&!(x == ("__debug__":Str))&&!(x == ("__classdict__":Str))
def aH':Expr->Bool
 | .Starred ..=>false
 |_=>true
def bd':Expr->Bool
 | .Set ..=>false
 |_=>true
def cu':Expr->Bool
 | .Slice ..=>false
 |_=>true
def h9':Expr->Bool
 | .Call _ [] _ _=>false
 |_=>true
def oU':Expr->Bool
 | .UnaryOp .Not _ _=>false
 | .BoolOp ..=>false
 | .IfExp ..=>false
 | .Compare ..=>false
 |_=>true
def mr' (N:List Str) (sc scope:Scope) (own:List Nat):Bool:=
 decide (scope.kind=.function)&&
 scope.names.all (fun x=>(decide (x.2≠.local) || decide (scope.names.lookup x.1=some .local))&&(decide (x.2≠.cell) || decide (scope.names.lookup x.1=some .cell))&&
  (decide (x.2≠.free) || decide (sc.names.lookup x.1=some .cell) || decide (sc.names.lookup x.1=some .free)))&&
 (av N.length).all (fun i=>match N[i]? with
  |some x=>(decide (scope.names.lookup x≠some .local)&&decide (scope.names.lookup x≠some .cell)) || decide (i∈own)
  |none=>true)
def kQ':Ci->Expr->Bool
 | .zip _ _,.Tuple ..=>true
 | .zip _ _,_=>false
 | .enum _,.Tuple ..=>true
 | .enum _,_=>false
 |_,_=>true
mutual
def je' (own:List Nat):Ct->Bool
 | .name i=>decide (i∈own)
 | .tup ts=>kR' own ts
 | .sub _ _=>false
def kR' (own:List Nat):Cts->Bool
 | .nil=>true
 | .cons t r=>je' own t&&kR' own r
end
def tld (B:List Str):Bool:=decide (("~":Str)∈B)
def hat (B:List Str):Bool:=decide (("^":Str)∈B)
def pct (B:List Str):Bool:=decide (("%":Str)∈B)
def sF' (x:Str):Str:=⟨#[33]++x.cps⟩
theorem ar' {P:Prop} (h:false=true):P:=(ay h).elim
theorem gf' {a b:Bool} (h:(a&&b)=true):a=true/\b=true:=by
 cases a with
 |true=>exact⟨rfl,h⟩
 |false=>exact ar' h
def yg' (e:Expr) (f:Expr->Expr->Bool):Bool:=match e with
 | .BoolOp .And [x,y] _=>f x y
 | .BoolOp .And (x :: y :: z :: r) pos=>f x (.BoolOp .And (y :: z :: r) pos)
 |_=>false
theorem kS' {e:Expr} {f:Expr->Expr->Bool} (h:yg' e f=true):(∃x y pos,e=.BoolOp .And [x,y] pos/\f x y=true)\/∃x y z r pos,e=.BoolOp .And (x :: y :: z :: r) pos/\f x (.BoolOp .And (y :: z :: r) pos)=true:=by
 cases e with
 |BoolOp o vs pos=>
  cases o with
  |And=>
   cases vs with
   |nil=>exact ar' h
   |cons x r=>
    cases r with
    |nil=>exact ar' h
    |cons y r=>
     cases r with
     |nil=>exact .inl ⟨x,y,pos,rfl,h⟩
     |cons z r=>exact .inr ⟨x,y,z,r,pos,rfl,h⟩
  |_=>exact ar' h
 |_=>exact ar' h
def vOr (e:Expr) (f:Expr->Expr->Bool):Bool:=match e with
 | .BoolOp .Or [x,y] _=>f x y
 | .BoolOp .Or (x :: y :: z :: r) pos=>f x (.BoolOp .Or (y :: z :: r) pos)
 |_=>false
theorem oV' {e:Expr} {f:Expr->Expr->Bool} (h:vOr e f=true):(∃x y pos,e=.BoolOp .Or [x,y] pos/\f x y=true)\/∃x y z r pos,e=.BoolOp .Or (x :: y :: z :: r) pos/\f x (.BoolOp .Or (y :: z :: r) pos)=true:=by
 cases e with
 |BoolOp o vs pos=>
  cases o with
  |Or=>
   cases vs with
   |nil=>exact ar' h
   |cons x r=>
    cases r with
    |nil=>exact ar' h
    |cons y r=>
     cases r with
     |nil=>exact .inl ⟨x,y,pos,rfl,h⟩
     |cons z r=>exact .inr ⟨x,y,z,r,pos,rfl,h⟩
  |_=>exact ar' h
 |_=>exact ar' h
def aY' {α:Type} (z:List α) (f:Bool):Bool:=match z with
 | []=>f
 |_=>false
theorem ap' {α:Type} {z:List α} {f:Bool} (h:aY' z f=true):z=[]/\f=true:=by
 cases z with
 |nil=>exact⟨rfl,h⟩
 |_=>exact ar' h
def aK' {α:Type} (z:List α) (f:α->List α->Bool):Bool:=match z with
 |x :: r=>f x r
 |_=>false
theorem am' {α:Type} {z:List α} {f:α->List α->Bool} (h:aK' z f=true):∃x r,z=x :: r/\f x r=true:=by
 cases z with
 |cons x r=>exact⟨x,r,rfl,h⟩
 |_=>exact ar' h
def kT' {α:Type} (z:Option α) (f:Bool):Bool:=match z with
 |none=>f
 |_=>false
theorem gg' {α:Type} {z:Option α} {f:Bool} (h:kT' z f=true):z=none/\f=true:=by
 cases z with
 |none=>exact⟨rfl,h⟩
 |_=>exact ar' h
def kU' {α:Type} (z:Option α) (f:α->Bool):Bool:=match z with
 |some x=>f x
 |_=>false
theorem gh' {α:Type} {z:Option α} {f:α->Bool} (h:kU' z f=true):∃x,z=some x/\f x=true:=by
 cases z with
 |some x=>exact⟨x,rfl,h⟩
 |_=>exact ar' h
def gT' (z:Comprehension) (f:Expr->Expr->List Expr->Int->Bool):Bool:=f z.target z.iter z.ifs z.is_async
theorem cv' {z:Comprehension} {f:Expr->Expr->List Expr->Int->Bool} (h:gT' z f=true):∃a b c d,z=⟨a,b,c,d⟩/\f a b c d=true:=by
 cases z
 exact⟨_,_,_,_,rfl,h⟩
def bS' (z:Expr) (f:Str->Pos->Bool):Bool:=match z with
 | .Name x0 x1=>f x0 x1
 |_=>false
theorem aX' {z f} (h:bS' z f=true):∃x0 x1,z=.Name x0 x1/\f x0 x1=true:=by
 cases z with
 |Name x0 x1=>exact⟨x0,x1,rfl,h⟩
 |_=>exact ar' h
def bp' (z:Expr) (f:Const->Nat->Pos->Bool):Bool:=match z with
 | .Constant x0 x1 x2=>f x0 x1 x2
 |_=>false
theorem a6' {z f} (h:bp' z f=true):∃x0 x1 x2,z=.Constant x0 x1 x2/\f x0 x1 x2=true:=by
 cases z with
 |Constant x0 x1 x2=>exact⟨x0,x1,x2,rfl,h⟩
 |_=>exact ar' h
def oW' (z:Const) (f:Int->Bool):Bool:=match z with
 | .int x0=>f x0
 |_=>false
theorem kV' {z f} (h:oW' z f=true):∃x0,z=.int x0/\f x0=true:=by
 cases z with
 |int x0=>exact⟨x0,rfl,h⟩
 |_=>exact ar' h
def kW' (z:Const) (f:Bool->Bool):Bool:=match z with
 | .bool x0=>f x0
 |_=>false
theorem jf' {z f} (h:kW' z f=true):∃x0,z=.bool x0/\f x0=true:=by
 cases z with
 |bool x0=>exact⟨x0,rfl,h⟩
 |_=>exact ar' h
def kX' (z:Const) (f:Bool):Bool:=match z with
 | .none=>f
 |_=>false
theorem jg' {z f} (h:kX' z f=true):z=.none/\f=true:=by
 cases z with
 |none=>exact⟨rfl,h⟩
 |_=>exact ar' h
def oX' (z:Const) (f:Str->Bool):Bool:=match z with
 | .str x0=>f x0
 |_=>false
theorem kY' {z f} (h:oX' z f=true):∃x0,z=.str x0/\f x0=true:=by
 cases z with
 |str x0=>exact⟨x0,rfl,h⟩
 |_=>exact ar' h
def ia' (z:Expr) (f:Expr->Operator->Expr->Pos->Bool):Bool:=match z with
 | .BinOp x0 x1 x2 x3=>f x0 x1 x2 x3
 |_=>false
theorem gU' {z f} (h:ia' z f=true):∃x0 x1 x2 x3,z=.BinOp x0 x1 x2 x3/\f x0 x1 x2 x3=true:=by
 cases z with
 |BinOp x0 x1 x2 x3=>exact⟨x0,x1,x2,x3,rfl,h⟩
 |_=>exact ar' h
def eU' (z:Expr) (f:UnaryOp->Expr->Pos->Bool):Bool:=match z with
 | .UnaryOp x0 x1 x2=>f x0 x1 x2
 |_=>false
theorem fq' {z f} (h:eU' z f=true):∃x0 x1 x2,z=.UnaryOp x0 x1 x2/\f x0 x1 x2=true:=by
 cases z with
 |UnaryOp x0 x1 x2=>exact⟨x0,x1,x2,rfl,h⟩
 |_=>exact ar' h
def oY' (z:UnaryOp) (f:Bool):Bool:=match z with
 | .Not=>f
 |_=>false
theorem kZ' {z f} (h:oY' z f=true):z=.Not/\f=true:=by
 cases z with
 |Not=>exact⟨rfl,h⟩
 |_=>exact ar' h
def eV' (z:Expr) (f:Expr->List CmpOp->List Expr->Pos->Bool):Bool:=match z with
 | .Compare x0 x1 x2 x3=>f x0 x1 x2 x3
 |_=>false
theorem fr' {z f} (h:eV' z f=true):∃x0 x1 x2 x3,z=.Compare x0 x1 x2 x3/\f x0 x1 x2 x3=true:=by
 cases z with
 |Compare x0 x1 x2 x3=>exact⟨x0,x1,x2,x3,rfl,h⟩
 |_=>exact ar' h
def ib' (z:Expr) (f:Expr->Expr->Expr->Pos->Bool):Bool:=match z with
 | .IfExp x0 x1 x2 x3=>f x0 x1 x2 x3
 |_=>false
theorem gV' {z f} (h:ib' z f=true):∃x0 x1 x2 x3,z=.IfExp x0 x1 x2 x3/\f x0 x1 x2 x3=true:=by
 cases z with
 |IfExp x0 x1 x2 x3=>exact⟨x0,x1,x2,x3,rfl,h⟩
 |_=>exact ar' h
def dJ' (z:Expr) (f:List Expr->Nat->Pos->Bool):Bool:=match z with
 | .Tuple x0 x1 x2=>f x0 x1 x2
 |_=>false
theorem cL' {z f} (h:dJ' z f=true):∃x0 x1 x2,z=.Tuple x0 x1 x2/\f x0 x1 x2=true:=by
 cases z with
 |Tuple x0 x1 x2=>exact⟨x0,x1,x2,rfl,h⟩
 |_=>exact ar' h
def k0' (z:Expr) (f:List Expr->Pos->Bool):Bool:=match z with
 | .List x0 x1=>f x0 x1
 |_=>false
theorem jh' {z f} (h:k0' z f=true):∃x0 x1,z=.List x0 x1/\f x0 x1=true:=by
 cases z with
 |List x0 x1=>exact⟨x0,x1,rfl,h⟩
 |_=>exact ar' h
def bA' (z:Expr) (f:Expr->Expr->Pos->Bool):Bool:=match z with
 | .Subscript x0 x1 x2=>f x0 x1 x2
 |_=>false
theorem bq' {z f} (h:bA' z f=true):∃x0 x1 x2,z=.Subscript x0 x1 x2/\f x0 x1 x2=true:=by
 cases z with
 |Subscript x0 x1 x2=>exact⟨x0,x1,x2,rfl,h⟩
 |_=>exact ar' h
def ic' (z:Expr) (f:Option Expr->Option Expr->Option Expr->Pos->Bool):Bool:=match z with
 | .Slice x0 x1 x2 x3=>f x0 x1 x2 x3
 |_=>false
theorem gW' {z f} (h:ic' z f=true):∃x0 x1 x2 x3,z=.Slice x0 x1 x2 x3/\f x0 x1 x2 x3=true:=by
 cases z with
 |Slice x0 x1 x2 x3=>exact⟨x0,x1,x2,x3,rfl,h⟩
 |_=>exact ar' h
def ds' (z:Expr) (f:Expr->List Expr->List Keyword->Pos->Bool):Bool:=match z with
 | .Call x0 x1 x2 x3=>f x0 x1 x2 x3
 |_=>false
theorem bO' {z f} (h:ds' z f=true):∃x0 x1 x2 x3,z=.Call x0 x1 x2 x3/\f x0 x1 x2 x3=true:=by
 cases z with
 |Call x0 x1 x2 x3=>exact⟨x0,x1,x2,x3,rfl,h⟩
 |_=>exact ar' h
def cf' (z:Expr) (f:Expr->Str->Pos->Bool):Bool:=match z with
 | .Attribute x0 x1 x2=>f x0 x1 x2
 |_=>false
theorem cg' {z f} (h:cf' z f=true):∃x0 x1 x2,z=.Attribute x0 x1 x2/\f x0 x1 x2=true:=by
 cases z with
 |Attribute x0 x1 x2=>exact⟨x0,x1,x2,rfl,h⟩
 |_=>exact ar' h
def k1' (z:Expr) (f:List (Option Expr)->List Expr->Pos->Bool):Bool:=match z with
 | .Dict x0 x1 x2=>f x0 x1 x2
 |_=>false
theorem ji' {z f} (h:k1' z f=true):∃x0 x1 x2,z=.Dict x0 x1 x2/\f x0 x1 x2=true:=by
 cases z with
 |Dict x0 x1 x2=>exact⟨x0,x1,x2,rfl,h⟩
 |_=>exact ar' h
def oZ' (z:Expr) (f:List Expr->Nat->Pos->Bool):Bool:=match z with
 | .Set x0 x1 x2=>f x0 x1 x2
 |_=>false
theorem k2' {z f} (h:oZ' z f=true):∃x0 x1 x2,z=.Set x0 x1 x2/\f x0 x1 x2=true:=by
 cases z with
 |Set x0 x1 x2=>exact⟨x0,x1,x2,rfl,h⟩
 |_=>exact ar' h
def ed' (z:Expr) (f:Expr->Expr->List Comprehension->Scope->Pos->Bool):Bool:=match z with
 | .DictComp x0 x1 x2 x3 x4=>f x0 x1 x2 x3 x4
 |_=>false
theorem eJ' {z f} (h:ed' z f=true):∃x0 x1 x2 x3 x4,z=.DictComp x0 x1 x2 x3 x4/\f x0 x1 x2 x3 x4=true:=by
 cases z with
 |DictComp x0 x1 x2 x3 x4=>exact⟨x0,x1,x2,x3,x4,rfl,h⟩
 |_=>exact ar' h
def cM' (z:Expr) (f:Expr->List Comprehension->Scope->Pos->Bool):Bool:=match z with
 | .ListComp x0 x1 x2 x3=>f x0 x1 x2 x3
 |_=>false
theorem cE' {z f} (h:cM' z f=true):∃x0 x1 x2 x3,z=.ListComp x0 x1 x2 x3/\f x0 x1 x2 x3=true:=by
 cases z with
 |ListComp x0 x1 x2 x3=>exact⟨x0,x1,x2,x3,rfl,h⟩
 |_=>exact ar' h
def k3' (z:Stmt) (f:Expr->Pos->Bool):Bool:=match z with
 | .Expr x0 x1=>f x0 x1
 |_=>false
theorem jj' {z f} (h:k3' z f=true):∃x0 x1,z=.Expr x0 x1/\f x0 x1=true:=by
 cases z with
 |Expr x0 x1=>exact⟨x0,x1,rfl,h⟩
 |_=>exact ar' h
def gi' (z:Stmt) (f:Option Expr->Pos->Bool):Bool:=match z with
 | .Return x0 x1=>f x0 x1
 |_=>false
theorem gj' {z f} (h:gi' z f=true):∃x0 x1,z=.Return x0 x1/\f x0 x1=true:=by
 cases z with
 |Return x0 x1=>exact⟨x0,x1,rfl,h⟩
 |_=>exact ar' h
def bP' (z:Stmt) (f:List Expr->Expr->Pos->Bool):Bool:=match z with
 | .Assign x0 x1 x2=>f x0 x1 x2
 |_=>false
theorem be' {z f} (h:bP' z f=true):∃x0 x1 x2,z=.Assign x0 x1 x2/\f x0 x1 x2=true:=by
 cases z with
 |Assign x0 x1 x2=>exact⟨x0,x1,x2,rfl,h⟩
 |_=>exact ar' h
def eW' (z:Expr) (f:Expr->List Comprehension->Scope->Pos->Bool):Bool:=match z with
 | .SetComp x0 x1 x2 x3=>f x0 x1 x2 x3
 |_=>false
theorem ft' {z f} (h:eW' z f=true):∃x0 x1 x2 x3,z=.SetComp x0 x1 x2 x3/\f x0 x1 x2 x3=true:=by
 cases z with
 |SetComp x0 x1 x2 x3=>exact⟨x0,x1,x2,x3,rfl,h⟩
 |_=>exact ar' h
def un' (z:Stmt) (f:Expr->List Stmt->List Stmt->Pos->Bool):Bool:=match z with
 | .If x0 x1 x2 x3=>f x0 x1 x2 x3
 |_=>false
theorem nm' {z f} (h:un' z f=true):∃x0 x1 x2 x3,z=.If x0 x1 x2 x3/\f x0 x1 x2 x3=true:=by
 cases z with
 |If x0 x1 x2 x3=>exact⟨x0,x1,x2,x3,rfl,h⟩
 |_=>exact ar' h
def id' (z:Stmt) (f:Expr->List Stmt->List Stmt->Pos->Bool):Bool:=match z with
 | .While x0 x1 x2 x3=>f x0 x1 x2 x3
 |_=>false
theorem gX' {z f} (h:id' z f=true):∃x0 x1 x2 x3,z=.While x0 x1 x2 x3/\f x0 x1 x2 x3=true:=by
 cases z with
 |While x0 x1 x2 x3=>exact⟨x0,x1,x2,x3,rfl,h⟩
 |_=>exact ar' h
def o0' (z:Stmt) (f:Expr->Expr->List Stmt->List Stmt->Pos->Bool):Bool:=match z with
 | .For x0 x1 x2 x3 x4=>f x0 x1 x2 x3 x4
 |_=>false
theorem k4' {z f} (h:o0' z f=true):∃x0 x1 x2 x3 x4,z=.For x0 x1 x2 x3 x4/\f x0 x1 x2 x3 x4=true:=by
 cases z with
 |For x0 x1 x2 x3 x4=>exact⟨x0,x1,x2,x3,x4,rfl,h⟩
 |_=>exact ar' h
def v1 (zz:Expr) (f:Str->Bool):Bool:=bS' zz fun y1 y2=>f y1
theorem z9' {zz f} {P:Prop} (h:v1 zz f=true) (k:∀x w1,zz=.Name x w1->f x=true->P):P:=by
 obtain⟨y1,y2,e0,h⟩:=aX' h
 exact k y1 y2 (by rw[e0]) h
def v2 (zz:Expr) (f:Int->Bool):Bool:=bp' zz fun y1 y2 y3=>oW' y1 fun y4=>f y4
theorem AI' {zz f} {P:Prop} (h:v2 zz f=true) (k:∀m w1 w2,zz=.Constant (.int m) w1 w2->f m=true->P):P:=by
 obtain⟨y1,y2,y3,e0,h⟩:=a6' h
 obtain⟨y4,e1,h⟩:=kV' h
 exact k y4 y2 y3 (by rw[e0,e1]) h
def v3 (zz:Expr) (f:Bool->Bool):Bool:=bp' zz fun y1 y2 y3=>kW' y1 fun y4=>f y4
theorem AJ' {zz f} {P:Prop} (h:v3 zz f=true) (k:∀c w1 w2,zz=.Constant (.bool c) w1 w2->f c=true->P):P:=by
 obtain⟨y1,y2,y3,e0,h⟩:=a6' h
 obtain⟨y4,e1,h⟩:=jf' h
 exact k y4 y2 y3 (by rw[e0,e1]) h
def v4 (zz:Expr) (f:Bool):Bool:=bp' zz fun y1 y2 y3=>kX' y1 (f)
theorem AK' {zz f} {P:Prop} (h:v4 zz f=true) (k:∀w1 w2,zz=.Constant .none w1 w2->f=true->P):P:=by
 obtain⟨y1,y2,y3,e0,h⟩:=a6' h
 obtain⟨e1,h⟩:=jg' h
 exact k y2 y3 (by rw[e0,e1]) h
def v5 (zz:Expr) (f:Str->Bool):Bool:=bp' zz fun y1 y2 y3=>oX' y1 fun y4=>f y4
theorem AL' {zz f} {P:Prop} (h:v5 zz f=true) (k:∀y w1 w2,zz=.Constant (.str y) w1 w2->f y=true->P):P:=by
 obtain⟨y1,y2,y3,e0,h⟩:=a6' h
 obtain⟨y4,e1,h⟩:=kY' h
 exact k y4 y2 y3 (by rw[e0,e1]) h
def v6 (zz:Expr) (f:Expr->Operator->Expr->Bool):Bool:=ia' zz fun y1 y2 y3 y4=>f y1 y2 y3
theorem AM' {zz f} {P:Prop} (h:v6 zz f=true) (k:∀ea op' eb w1,zz=.BinOp ea op' eb w1->f ea op' eb=true->P):P:=by
 obtain⟨y1,y2,y3,y4,e0,h⟩:=gU' h
 exact k y1 y2 y3 y4 (by rw[e0]) h
def v8 (zz:Expr) (f:Expr->Bool):Bool:=eU' zz fun y1 y2 y3=>oY' y1 (f y2)
theorem Aa' {zz f} {P:Prop} (h:v8 zz f=true) (k:∀ea w1,zz=.UnaryOp .Not ea w1->f ea=true->P):P:=by
 obtain⟨y1,y2,y3,e0,h⟩:=fq' h
 obtain⟨e1,h⟩:=kZ' h
 exact k y2 y3 (by rw[e0,e1]) h
def v9 (zz:Expr) (f:Expr->CmpOp->Expr->Bool):Bool:=eV' zz fun y1 y2 y3 y4=>aK' y2 fun y5 y6=>aY' y6 (aK' y3 fun y7 y8=>aY' y8 (f y1 y5 y7))
theorem uo' {zz f} {P:Prop} (h:v9 zz f=true) (k:∀ea op' eb w1,zz=.Compare ea (op' :: []) (eb :: []) w1->f ea op' eb=true->P):P:=by
 obtain⟨y1,y2,y3,y4,e0,h⟩:=fr' h
 obtain⟨y5,y6,e1,h⟩:=am' h
 obtain⟨e2,h⟩:=ap' h
 obtain⟨y7,y8,e3,h⟩:=am' h
 obtain⟨e4,h⟩:=ap' h
 exact k y1 y5 y7 y4 (by rw[e0,e1,e2,e3,e4]) h
def v11 (zz:Expr) (f:Expr->Expr->Expr->Bool):Bool:=ib' zz fun y1 y2 y3 y4=>f y1 y2 y3
theorem yh' {zz f} {P:Prop} (h:v11 zz f=true) (k:∀eq ea eb w1,zz=.IfExp eq ea eb w1->f eq ea eb=true->P):P:=by
 obtain⟨y1,y2,y3,y4,e0,h⟩:=gV' h
 exact k y1 y2 y3 y4 (by rw[e0]) h
def v12 (zz:Expr) (f:List Expr->Bool):Bool:=dJ' zz fun y1 y2 y3=>f y1
theorem up' {zz f} {P:Prop} (h:v12 zz f=true) (k:∀xs w1 w2,zz=.Tuple xs w1 w2->f xs=true->P):P:=by
 obtain⟨y1,y2,y3,e0,h⟩:=cL' h
 exact k y1 y2 y3 (by rw[e0]) h
def v13 (zz:Expr) (f:List Expr->Bool):Bool:=k0' zz fun y1 y2=>f y1
theorem yi' {zz f} {P:Prop} (h:v13 zz f=true) (k:∀xs w1,zz=.List xs w1->f xs=true->P):P:=by
 obtain⟨y1,y2,e0,h⟩:=jh' h
 exact k y1 y2 (by rw[e0]) h
def v14 (zz:Expr) (f:Expr->Expr->Bool):Bool:=bA' zz fun y1 y2 y3=>f y1 y2
theorem qB' {zz f} {P:Prop} (h:v14 zz f=true) (k:∀ea eb w1,zz=.Subscript ea eb w1->f ea eb=true->P):P:=by
 obtain⟨y1,y2,y3,e0,h⟩:=bq' h
 exact k y1 y2 y3 (by rw[e0]) h
def v15 (zz:Expr) (f:Expr->Option Expr->Option Expr->Bool):Bool:=bA' zz fun y1 y2 y3=>ic' y2 fun y4 y5 y6 y7=>kT' y6 (f y1 y4 y5)
theorem yj' {zz f} {P:Prop} (h:v15 zz f=true) (k:∀ea l h w1 w2,zz=.Subscript ea (.Slice l h none w1) w2->f ea l h=true->P):P:=by
 obtain⟨y1,y2,y3,e0,h⟩:=bq' h
 obtain⟨y4,y5,y6,y7,e1,h⟩:=gW' h
 obtain⟨e2,h⟩:=gg' h
 exact k y1 y4 y5 y7 y3 (by rw[e0,e1,e2]) h
def v16 (zz:Expr) (f:Str->Expr->List Expr->Bool):Bool:=ds' zz fun y1 y2 y3 y4=>bS' y1 fun y5 y6=>aK' y2 fun y7 y8=>aY' y3 (f y5 y7 y8)
theorem uq' {zz f} {P:Prop} (h:v16 zz f=true) (k:∀x w1 e r w2,zz=.Call (.Name x w1) (e :: r) [] w2->f x e r=true->P):P:=by
 obtain⟨y1,y2,y3,y4,e0,h⟩:=bO' h
 obtain⟨y5,y6,e1,h⟩:=aX' h
 obtain⟨y7,y8,e2,h⟩:=am' h
 obtain⟨e3,h⟩:=ap' h
 exact k y5 y6 y7 y8 y4 (by rw[e0,e1,e2,e3]) h
def v17 (zz:Expr) (f:Expr->Str->Pos->List Expr->Pos->Bool):Bool:=ds' zz fun y1 y2 y3 y4=>cf' y1 fun y5 y6 y7=>aY' y3 (f y5 y6 y7 y2 y4)
theorem yk' {zz f} {P:Prop} (h:v17 zz f=true) (k:∀eo nm apos args pos,zz=.Call (.Attribute eo nm apos) args [] pos->f eo nm apos args pos=true->P):P:=by
 obtain⟨y1,y2,y3,y4,e0,h⟩:=bO' h
 obtain⟨y5,y6,y7,e1,h⟩:=cg' h
 obtain⟨e2,h⟩:=ap' h
 exact k y5 y6 y7 y2 y4 (by rw[e0,e1,e2]) h
def v18 (zz:Expr) (f:Bool):Bool:=k1' zz fun y1 y2 y3=>aY' y1 (aY' y2 (f))
theorem ur' {zz f} {P:Prop} (h:v18 zz f=true) (k:∀w1,zz=.Dict [] [] w1->f=true->P):P:=by
 obtain⟨y1,y2,y3,e0,h⟩:=ji' h
 obtain⟨e1,h⟩:=ap' h
 obtain⟨e2,h⟩:=ap' h
 exact k y3 (by rw[e0,e1,e2]) h
def v20 (zz:Expr) (f:Expr->Str->Pos->Expr->Pos->Bool):Bool:=ds' zz fun y1 y2 y3 y4=>cf' y1 fun y5 y6 y7=>aK' y2 fun y8 y9=>aY' y9 (aY' y3 (f y5 y6 y7 y8 y4))
theorem us' {zz f} {P:Prop} (h:v20 zz f=true) (k:∀eo nm apos y pos,zz=.Call (.Attribute eo nm apos) (y :: []) [] pos->f eo nm apos y pos=true->P):P:=by
 obtain⟨y1,y2,y3,y4,e0,h⟩:=bO' h
 obtain⟨y5,y6,y7,e1,h⟩:=cg' h
 obtain⟨y8,y9,e2,h⟩:=am' h
 obtain⟨e3,h⟩:=ap' h
 obtain⟨e4,h⟩:=ap' h
 exact k y5 y6 y7 y8 y4 (by rw[e0,e1,e2,e3,e4]) h
def v23 (zz:Expr) (f:Str->Expr->Bool):Bool:=ds' zz fun y1 y2 y3 y4=>bS' y1 fun y5 y6=>aK' y2 fun y7 y8=>aY' y8 (aY' y3 (f y5 y7))
theorem ut' {zz f} {P:Prop} (h:v23 zz f=true) (k:∀x w1 y w2,zz=.Call (.Name x w1) (y :: []) [] w2->f x y=true->P):P:=by
 obtain⟨y1,y2,y3,y4,e0,h⟩:=bO' h
 obtain⟨y5,y6,e1,h⟩:=aX' h
 obtain⟨y7,y8,e2,h⟩:=am' h
 obtain⟨e3,h⟩:=ap' h
 obtain⟨e4,h⟩:=ap' h
 exact k y5 y6 y7 y4 (by rw[e0,e1,e2,e3,e4]) h
def v85 (zz:Expr) (f:Expr->Nat->Bool):Bool:=oZ' zz fun y1 y2 y3=>aK' y1 fun y4 y5=>aY' y5 (f y4 y2)
theorem yl' {zz f} {P:Prop} (h:v85 zz f=true) (k:∀y kk w,zz=.Set (y :: []) kk w->f y kk=true->P):P:=by
 obtain⟨y1,y2,y3,e0,h⟩:=k2' h
 obtain⟨y4,y5,e1,h⟩:=am' h
 obtain⟨e2,h⟩:=ap' h
 exact k y4 y2 y3 (by rw[e0,e1,e2]) h
def v26 (zz:Expr) (f:Expr->Expr->Expr->List Expr->Int->Scope->Bool):Bool:=cM' zz fun y1 y2 y3 y4=>aK' y2 fun y5 y6=>gT' y5 fun y7 y8 y9 y10=>aY' y6 (f y1 y7 y8 y9 y10 y3)
theorem ym' {zz f} {P:Prop} (h:v26 zz f=true) (k:∀ee tg iter ifs a scope w1,zz=.ListComp ee (⟨tg,iter,ifs,a⟩ :: []) scope w1->f ee tg iter ifs a scope=true->P):P:=by
 obtain⟨y1,y2,y3,y4,e0,h⟩:=cE' h
 obtain⟨y5,y6,e1,h⟩:=am' h
 obtain⟨y7,y8,y9,y10,e2,h⟩:=cv' h
 obtain⟨e3,h⟩:=ap' h
 exact k y1 y7 y8 y9 y10 y3 y4 (by rw[e0,e1,e2,e3]) h
def v27 (zz:Expr) (f:Expr->Expr->Expr->List Expr->Int->Expr->Expr->List Expr->Int->Scope->Bool):Bool:=cM' zz fun y1 y2 y3 y4=>aK' y2 fun y5 y6=>gT' y5 fun y7 y8 y9 y10=>aK' y6 fun y11 y12=>gT' y11 fun y13 y14 y15 y16=>aY' y12 (f y1 y7 y8 y9 y10 y13 y14 y15 y16 y3)
theorem yn' {zz f} {P:Prop} (h:v27 zz f=true) (k:∀ee tg iter ifs a tg2 iter2 ifs2 a2 scope w1,zz=.ListComp ee (⟨tg,iter,ifs,a⟩ :: (⟨tg2,iter2,ifs2,a2⟩ :: [])) scope w1->f ee tg iter ifs a tg2 iter2 ifs2 a2 scope=true->P):P:=by
 obtain⟨y1,y2,y3,y4,e0,h⟩:=cE' h
 obtain⟨y5,y6,e1,h⟩:=am' h
 obtain⟨y7,y8,y9,y10,e2,h⟩:=cv' h
 obtain⟨y11,y12,e3,h⟩:=am' h
 obtain⟨y13,y14,y15,y16,e4,h⟩:=cv' h
 obtain⟨e5,h⟩:=ap' h
 exact k y1 y7 y8 y9 y10 y13 y14 y15 y16 y3 y4 (by rw[e0,e1,e2,e3,e4,e5]) h
def v29 (zz:List Expr) (f:Bool):Bool:=aY' zz (f)
theorem k5' {zz f} {P:Prop} (h:v29 zz f=true) (k:zz=[]->f=true->P):P:=by
 obtain⟨e0,h⟩:=ap' h
 exact k (by rw[e0]) h
def v30 (zz:List Expr) (f:Expr->List Expr->Bool):Bool:=aK' zz fun y1 y2=>f y1 y2
theorem nn' {zz f} {P:Prop} (h:v30 zz f=true) (k:∀x xs,zz=(x :: xs)->f x xs=true->P):P:=by
 obtain⟨y1,y2,e0,h⟩:=am' h
 exact k y1 y2 (by rw[e0]) h
def v31 (zz:List Expr) (f:Expr->Bool):Bool:=aK' zz fun y1 y2=>aY' y2 (f y1)
theorem yo' {zz f} {P:Prop} (h:v31 zz f=true) (k:∀e,zz=(e :: [])->f e=true->P):P:=by
 obtain⟨y1,y2,e0,h⟩:=am' h
 obtain⟨e1,h⟩:=ap' h
 exact k y1 (by rw[e0,e1]) h
def v32 (zz:Option Expr) (f:Bool):Bool:=kT' zz (f)
theorem yp' {zz f} {P:Prop} (h:v32 zz f=true) (k:zz=none->f=true->P):P:=by
 obtain⟨e0,h⟩:=gg' h
 exact k (by rw[e0]) h
def v33 (zz:Option Expr) (f:Expr->Bool):Bool:=kU' zz fun y1=>f y1
theorem yq' {zz f} {P:Prop} (h:v33 zz f=true) (k:∀y,zz=(some y)->f y=true->P):P:=by
 obtain⟨y1,e0,h⟩:=gh' h
 exact k y1 (by rw[e0]) h
def v34 (zz:Expr) (f:Str->Expr->Expr->Bool):Bool:=ds' zz fun y1 y2 y3 y4=>bS' y1 fun y5 y6=>aK' y2 fun y7 y8=>aK' y8 fun y9 y10=>aY' y10 (aY' y3 (f y5 y7 y9))
theorem yr' {zz f} {P:Prop} (h:v34 zz f=true) (k:∀n w1 y z w2,zz=.Call (.Name n w1) (y :: (z :: [])) [] w2->f n y z=true->P):P:=by
 obtain⟨y1,y2,y3,y4,e0,h⟩:=bO' h
 obtain⟨y5,y6,e1,h⟩:=aX' h
 obtain⟨y7,y8,e2,h⟩:=am' h
 obtain⟨y9,y10,e3,h⟩:=am' h
 obtain⟨e4,h⟩:=ap' h
 obtain⟨e5,h⟩:=ap' h
 exact k y5 y6 y7 y9 y4 (by rw[e0,e1,e2,e3,e4,e5]) h
def v36 (zz:Stmt) (f:Expr->Bool):Bool:=k3' zz fun y1 y2=>f y1
theorem yt' {zz f} {P:Prop} (h:v36 zz f=true) (k:∀x w1,zz=.Expr x w1->f x=true->P):P:=by
 obtain⟨y1,y2,e0,h⟩:=jj' h
 exact k y1 y2 (by rw[e0]) h
def v37 (zz:Stmt) (f:Expr->Bool):Bool:=gi' zz fun y1 y2=>kU' y1 fun y3=>f y3
theorem yu' {zz f} {P:Prop} (h:v37 zz f=true) (k:∀x w1,zz=.Return (some x) w1->f x=true->P):P:=by
 obtain⟨y1,y2,e0,h⟩:=gj' h
 obtain⟨y3,e1,h⟩:=gh' h
 exact k y3 y2 (by rw[e0,e1]) h
def v39 (zz:Stmt) (f:Expr->Expr->Bool):Bool:=bP' zz fun y1 y2 y3=>aK' y1 fun y4 y5=>aY' y5 (f y4 y2)
theorem yv' {zz f} {P:Prop} (h:v39 zz f=true) (k:∀tg x w1,zz=.Assign (tg :: []) x w1->f tg x=true->P):P:=by
 obtain⟨y1,y2,y3,e0,h⟩:=be' h
 obtain⟨y4,y5,e1,h⟩:=am' h
 obtain⟨e2,h⟩:=ap' h
 exact k y4 y2 y3 (by rw[e0,e1,e2]) h
def v41 (zz:Stmt) (f:Str->Pos->Expr->Expr->Expr->List Expr->Int->Expr->Expr->List Expr->Int->Scope->Bool):Bool:=bP' zz fun y1 y2 y3=>aK' y1 fun y4 y5=>bS' y4 fun y6 y7=>aY' y5 (eW' y2 fun y8 y9 y10 y11=>aK' y9 fun y12 y13=>gT' y12 fun y14 y15 y16 y17=>aK' y13 fun y18 y19=>gT' y18 fun y20 y21 y22 y23=>aY' y19 (f y6 y7 y8 y14 y15 y16 y17 y20 y21 y22 y23 y10))
theorem yw' {zz f} {P:Prop} (h:v41 zz f=true) (k:∀y py ee tg iter ifs a tg2 iter2 ifs2 a2 scope w1 w2,zz=.Assign ((.Name y py) :: []) (.SetComp ee (⟨tg,iter,ifs,a⟩ :: (⟨tg2,iter2,ifs2,a2⟩ :: [])) scope w1) w2->f y py ee tg iter ifs a tg2 iter2 ifs2 a2 scope=true->P):P:=by
 obtain⟨y1,y2,y3,e0,h⟩:=be' h
 obtain⟨y4,y5,e1,h⟩:=am' h
 obtain⟨y6,y7,e2,h⟩:=aX' h
 obtain⟨e3,h⟩:=ap' h
 obtain⟨y8,y9,y10,y11,e4,h⟩:=ft' h
 obtain⟨y12,y13,e5,h⟩:=am' h
 obtain⟨y14,y15,y16,y17,e6,h⟩:=cv' h
 obtain⟨y18,y19,e7,h⟩:=am' h
 obtain⟨y20,y21,y22,y23,e8,h⟩:=cv' h
 obtain⟨e9,h⟩:=ap' h
 exact k y6 y7 y8 y14 y15 y16 y17 y20 y21 y22 y23 y10 y11 y3 (by rw[e0,e1,e2,e3,e4,e5,e6,e7,e8,e9]) h
def v42 (zz:Stmt) (f:Str->Pos->Expr->Expr->Expr->Expr->List Expr->Int->Scope->Bool):Bool:=bP' zz fun y1 y2 y3=>aK' y1 fun y4 y5=>bS' y4 fun y6 y7=>aY' y5 (ed' y2 fun y8 y9 y10 y11 y12=>aK' y10 fun y13 y14=>gT' y13 fun y15 y16 y17 y18=>aY' y14 (f y6 y7 y8 y9 y15 y16 y17 y18 y11))
theorem yx' {zz f} {P:Prop} (h:v42 zz f=true) (k:∀y py ke ve tg iter ifs a scope w1 w2,zz=.Assign ((.Name y py) :: []) (.DictComp ke ve (⟨tg,iter,ifs,a⟩ :: []) scope w1) w2->f y py ke ve tg iter ifs a scope=true->P):P:=by
 obtain⟨y1,y2,y3,e0,h⟩:=be' h
 obtain⟨y4,y5,e1,h⟩:=am' h
 obtain⟨y6,y7,e2,h⟩:=aX' h
 obtain⟨e3,h⟩:=ap' h
 obtain⟨y8,y9,y10,y11,y12,e4,h⟩:=eJ' h
 obtain⟨y13,y14,e5,h⟩:=am' h
 obtain⟨y15,y16,y17,y18,e6,h⟩:=cv' h
 obtain⟨e7,h⟩:=ap' h
 exact k y6 y7 y8 y9 y15 y16 y17 y18 y11 y12 y3 (by rw[e0,e1,e2,e3,e4,e5,e6,e7]) h
def v43 (zz:Stmt) (f:Str->Pos->Str->Pos->Expr->Expr->Bool):Bool:=bP' zz fun y1 y2 y3=>aK' y1 fun y4 y5=>dJ' y4 fun y6 y7 y8=>aK' y6 fun y9 y10=>bS' y9 fun y11 y12=>aK' y10 fun y13 y14=>bS' y13 fun y15 y16=>aY' y14 (aY' y5 (dJ' y2 fun y17 y18 y19=>aK' y17 fun y20 y21=>aK' y21 fun y22 y23=>aY' y23 (f y11 y12 y15 y16 y20 y22)))
theorem yy' {zz f} {P:Prop} (h:v43 zz f=true) (k:∀x px y py w1 w2 ea eb w3 w4 w5,zz=.Assign ((.Tuple ((.Name x px) :: ((.Name y py) :: [])) w1 w2) :: []) (.Tuple (ea :: (eb :: [])) w3 w4) w5->f x px y py ea eb=true->P):P:=by
 obtain⟨y1,y2,y3,e0,h⟩:=be' h
 obtain⟨y4,y5,e1,h⟩:=am' h
 obtain⟨y6,y7,y8,e2,h⟩:=cL' h
 obtain⟨y9,y10,e3,h⟩:=am' h
 obtain⟨y11,y12,e4,h⟩:=aX' h
 obtain⟨y13,y14,e5,h⟩:=am' h
 obtain⟨y15,y16,e6,h⟩:=aX' h
 obtain⟨e7,h⟩:=ap' h
 obtain⟨e8,h⟩:=ap' h
 obtain⟨y17,y18,y19,e9,h⟩:=cL' h
 obtain⟨y20,y21,e10,h⟩:=am' h
 obtain⟨y22,y23,e11,h⟩:=am' h
 obtain⟨e12,h⟩:=ap' h
 exact k y11 y12 y15 y16 y7 y8 y20 y22 y18 y19 y3 (by rw[e0,e1,e2,e3,e4,e5,e6,e7,e8,e9,e10,e11,e12]) h
def v48 (zz:Stmt) (f:Expr->Expr->Expr->Bool):Bool:=bP' zz fun y1 y2 y3=>aK' y1 fun y4 y5=>bA' y4 fun y6 y7 y8=>aY' y5 (f y6 y7 y2)
theorem yz' {zz f} {P:Prop} (h:v48 zz f=true) (k:∀eo ei w1 ee w2,zz=.Assign ((.Subscript eo ei w1) :: []) ee w2->f eo ei ee=true->P):P:=by
 obtain⟨y1,y2,y3,e0,h⟩:=be' h
 obtain⟨y4,y5,e1,h⟩:=am' h
 obtain⟨y6,y7,y8,e2,h⟩:=bq' h
 obtain⟨e3,h⟩:=ap' h
 exact k y6 y7 y8 y2 y3 (by rw[e0,e1,e2,e3]) h
def v50 (zz:Stmt) (f:Expr->List Stmt->List Stmt->Bool):Bool:=un' zz fun y1 y2 y3 y4=>f y1 y2 y3
theorem yA' {zz f} {P:Prop} (h:v50 zz f=true) (k:∀x ss rs w1,zz=.If x ss rs w1->f x ss rs=true->P):P:=by
 obtain⟨y1,y2,y3,y4,e0,h⟩:=nm' h
 exact k y1 y2 y3 y4 (by rw[e0]) h
def v51 (zz:Stmt) (f:Expr->List Stmt->Bool):Bool:=id' zz fun y1 y2 y3 y4=>aY' y3 (f y1 y2)
theorem yB' {zz f} {P:Prop} (h:v51 zz f=true) (k:∀x ss w1,zz=.While x ss [] w1->f x ss=true->P):P:=by
 obtain⟨y1,y2,y3,y4,e0,h⟩:=gX' h
 obtain⟨e1,h⟩:=ap' h
 exact k y1 y2 y4 (by rw[e0,e1]) h
def v52 (zz:Stmt) (f:Expr->Expr->List Stmt->Bool):Bool:=o0' zz fun y1 y2 y3 y4 y5=>aY' y4 (f y1 y2 y3)
theorem yC' {zz f} {P:Prop} (h:v52 zz f=true) (k:∀tg iter ss w1,zz=.For tg iter ss [] w1->f tg iter ss=true->P):P:=by
 obtain⟨y1,y2,y3,y4,y5,e0,h⟩:=k4' h
 obtain⟨e1,h⟩:=ap' h
 exact k y1 y2 y3 y5 (by rw[e0,e1]) h
def v56 (zz:List Stmt) (f:Bool):Bool:=aY' zz (f)
theorem yD' {zz f} {P:Prop} (h:v56 zz f=true) (k:zz=[]->f=true->P):P:=by
 obtain⟨e0,h⟩:=ap' h
 exact k (by rw[e0]) h
def v57 (zz:List Stmt) (f:Stmt->List Stmt->Bool):Bool:=aK' zz fun y1 y2=>f y1 y2
theorem yE' {zz f} {P:Prop} (h:v57 zz f=true) (k:∀x xs,zz=(x :: xs)->f x xs=true->P):P:=by
 obtain⟨y1,y2,e0,h⟩:=am' h
 exact k y1 y2 (by rw[e0]) h
mutual
def mE (N B:List Str) (sc:Scope):Ce->Expr->Bool
 | .var i,e=>v1 e fun x=>eT' N i x&&vis sc x
 | .int n,e=>v2 e fun m=>decide (n=m)
 | .bl b,e=>v3 e fun c=>decide (b=c)
 | .non,e=>v4 e (true)
 | .str x,e=>v5 e fun y=>decide (x=y)
 | .bin op a b,e=>v6 e fun ea op' eb=>decide (op=op')&&mE N B sc a ea&&mE N B sc b eb
 | .not a,e=>v8 e fun ea=>mE N B sc a ea
 | .and a b,e=>yg' e fun x y=>mE N B sc a x&&mE N B sc b y
 | .or a b,e=>vOr e fun x y=>mE N B sc a x&&mE N B sc b y
 | .cmp op a b,e=>v9 e fun ea op' eb=>decide (op=op')&&mE N B sc a ea&&mE N B sc b eb&&bd' eb
 | .ife q a b,e=>v11 e fun eq ea eb=>mQ N B sc q eq&&mE N B sc a ea&&mE N B sc b eb
 | .tup es,e=>v12 e fun xs=>mA N B sc es xs
 | .lst es,e=>v13 e fun xs=>mA N B sc es xs
 | .idx a b,e=>v14 e fun ea eb=>mE N B sc a ea&&mE N B sc b eb&&cu' eb
 | .cut a lo hi,e=>v15 e fun ea l h=>mE N B sc a ea&&mO N B sc lo l&&mO N B sc hi h
 | .call f es,e=>v16 e fun x e r=>decide (x=f)&&glb sc x&&mA N B sc es (e :: r)&&!(x == ("__debug__":Str))&&!(hat B)&&!(tld B&&decide (sF' x∈B))
 | .blt f es,e=>v16 e fun x e r=>decide (x=ec' f)&&glb sc x&&mA N B sc es (e :: r)&&decide (x∈B)&&(!(hat B) || decide (f=.isinstance))
 | .met m o es,e=>v17 e fun eo nm apos args pos=>decide (nm=kP' m)&&mE N B sc o eo&&h9' eo&&(apos.endLine == pos.line)&&mA N B sc es args&&decide (args.length<28)
 | .dnew,e=>v18 e (true)
 | .dnt,e=>v18 e (true)
 | .dix a b,e=>v14 e fun ea eb=>mE N B sc a ea&&mE N B sc b eb&&cu' eb
 | .din neg a b,e=>v9 e fun ea op' eb=>decide (op'=if neg then .NotIn else .In)&&mE N B sc a ea&&mE N B sc b eb&&bd' eb
 | .dgt a b,e=>v20 e fun eo nm apos y pos=>decide (nm="get")&&mE N B sc a eo&&h9' eo&&(apos.endLine == pos.line)&&mE N B sc b y&&aH' y
 | .sd1 a,e=>v85 e fun y k=>decide (k=0)&&mE N B sc a y&&aH' y&&!(tld B)
 | .sad a b,e=>v20 e fun eo nm apos y pos=>decide (nm="add")&&mE N B sc a eo&&h9' eo&&(apos.endLine == pos.line)&&mE N B sc b y&&aH' y
 | .comp elt own t it q .nil,e=>v26 e fun ee tg iter ifs a scope=>!(hat B)&&mr' N sc scope own&&mE N ("~" :: B) scope elt ee&&je' own t&&decide (a=0)&&mI N B sc it iter&&kQ' it tg&&bd' iter&&mT N ("~" :: B) scope t tg&&mQo N ("~" :: B) scope q ifs
 | .comp elt own t it q (.cons ws t2 it2 q2 .nil),e=>v27 e fun ee tg iter ifs a tg2 iter2 ifs2 a2 scope=>!(hat B)&&mr' N sc scope own&&mE N ("~" :: B) scope elt ee&&je' own t&&decide (a=0)&&mI N B sc it iter&&kQ' it tg&&bd' iter&&mT N ("~" :: B) scope t tg&&mQo N ("~" :: B) scope q ifs&&
    decide (a2=0)&&mI N ("~" :: B) scope it2 iter2&&kQ' it2 tg2&&bd' iter2&&mT N ("~" :: B) scope t2 tg2&&mQo N ("~" :: B) scope q2 ifs2&&je' ws t2&&ws.all (fun j=>decide (j∈own))
 | .comp _ _ _ _ _ (.cons _ _ _ _ (.cons _ _ _ _ _)),_=>false
def mA (N B:List Str) (sc:Scope):Ces->List Expr->Bool
 | .nil,es=>v29 es (true)
 | .cons e r,es=>v30 es fun x xs=>mE N B sc e x&&aH' x&&mA N B sc r xs
def mQ (N B:List Str) (sc:Scope):Cq->Expr->Bool
 | .val e,x=>mE N B sc e x&&oU' x
 | .not q,x=>v8 x fun y=>mQ N B sc q y
 | .and a b,e=>yg' e fun x y=>mQ N B sc a x&&mQ N B sc b y
 | .or a b,e=>vOr e fun x y=>mQ N B sc a x&&mQ N B sc b y
 | .cmp op a b,e=>v9 e fun ea op' eb=>decide (op=op')&&mE N B sc a ea&&mE N B sc b eb&&bd' eb
 | .din neg a b,e=>v9 e fun ea op' eb=>decide (op'=if neg then .NotIn else .In)&&mE N B sc a ea&&mE N B sc b eb&&bd' eb
 | .cmw k a b,e=>v9 e fun ea op' eb=>decide (op'=z8' k)&&mE N B sc a ea&&mE N B sc b eb&&bd' eb
def mQo (N B:List Str) (sc:Scope):Cqo->List Expr->Bool
 | .none,es=>v29 es (true)
 | .some q,es=>v31 es fun e=>mQ N B sc q e
def mO (N B:List Str) (sc:Scope):Co->Option Expr->Bool
 | .none,x=>v32 x (true)
 | .some e,x=>v33 x fun y=>mE N B sc e y
def mI (N B:List Str) (sc:Scope):Ci->Expr->Bool
 | .val e,x=>mE N B sc e x
 | .range1 a,x=>v23 x fun n y=>decide (n="range")&&glb sc n&&decide (n∈B)&&mE N B sc a y&&aH' y
 | .zip a b,x=>v34 x fun n y z=>decide (n="zip")&&glb sc n&&decide (n∈B)&&mE N B sc a y&&aH' y&&mE N B sc b z&&aH' z
 | .enum a,x=>v23 x fun n y=>decide (n="enumerate")&&glb sc n&&decide (n∈B)&&mE N B sc a y&&aH' y
def mT (N B:List Str) (sc:Scope):Ct->Expr->Bool
 | .name i,e=>v1 e fun x=>eT' N i x&&locb sc x
 | .tup ts,e=>v12 e fun es=>mTs N B sc ts es&&!(hat B)
 | .sub o i,e=>v14 e fun eo ei=>mE N B sc o eo&&mE N B sc i ei&&cu' ei
def mTs (N B:List Str) (sc:Scope):Cts->List Expr->Bool
 | .nil,es=>v29 es (true)
 | .cons t r,es=>v30 es fun x xs=>mT N B sc t x&&aH' x&&mTs N B sc r xs
end
def gY':Ce->Bool
 |_=>false
mutual
def mS (N B:List Str) (sc:Scope):Cs->Stmt->Bool
 | .expr e,s=>v36 s fun x=>mE N B sc e x&&(match e with | .comp ..=>false|_=>true)&&!gY' e
 | .ret e,s=>v37 s fun x=>mE N B sc e x
 | .asg t e,s=>v39 s fun tg x=>mE N B sc e x&&!gY' e&&mT N B sc t tg&&aH' tg&&(match tg,x with
   | .Tuple ..,.Tuple vs _ _=>vs.all (foldedForSure 8)
   | .Tuple ..,.ListComp ..=>false
   |_,_=>true)
 | .setc2 i elt own t it q ws t2 it2 q2,s=>v41 s fun y py ee tg iter ifs a tg2 iter2 ifs2 a2 scope=>!(hat B)&&mT N B sc (.name i) (.Name y py)&&mr' N sc scope own&&mE N ("~" :: B) scope elt ee&&je' own t&&decide (a=0)&&mI N B sc it iter&&kQ' it tg&&bd' iter&&mT N ("~" :: B) scope t tg&&mQo N ("~" :: B) scope q ifs&&
    decide (a2=0)&&mI N ("~" :: B) scope it2 iter2&&kQ' it2 tg2&&bd' iter2&&mT N ("~" :: B) scope t2 tg2&&mQo N ("~" :: B) scope q2 ifs2&&je' ws t2&&ws.all (fun j=>decide (j∈own))
 | .dctc _ i k v own t it q,s=>v42 s fun y py ke ve tg iter ifs a scope=>!(hat B)&&mT N B sc (.name i) (.Name y py)&&mr' N sc scope own&&mE N ("~" :: B) scope k ke&&mE N ("~" :: B) scope v ve&&je' own t&&decide (a=0)&&mI N B sc it iter&&kQ' it tg&&bd' iter&&mT N ("~" :: B) scope t tg&&mQo N ("~" :: B) scope q ifs
 | .par i j a b,s=>v43 s fun x px y py ea eb=>eT' N i x&&eT' N j y&&decide (i≠j)&&decide (sc.names.lookup x=some .local)&&decide (sc.names.lookup y=some .local)&&
    mE N B sc a ea&&mE N B sc b eb&&aH' ea&&aH' eb&&(px.line == py.line)&&(!(foldedForSure 8 ea&&foldedForSure 8 eb))&&(!(constantsAlone 8 ea&&constantsAlone 8 eb))&&!(hat B)
 | .dput o i e,s=>v48 s fun eo ei ee=>mE N B sc o eo&&mE N B sc i ei&&cu' ei&&mE N B sc e ee&&(match ee with
   | .ListComp ..=>false
   | .SetComp ..=>false
   | .DictComp ..=>false
   |_=>true)
 | .ite q a b,s=>v50 s fun x ss rs=>mQ N B sc q x&&mSs N B sc a ss&&mSs N B sc b rs
 | .whl q b,s=>v51 s fun x ss=>mQ N B sc q x&&mSs N B sc b ss
 | .for_ t it b,s=>v52 s fun tg iter ss=>mI N B sc it iter&&kQ' it tg&&bd' iter&&mT N B sc t tg&&mSs N B sc b ss&&!(hat B)
def mSs (N B:List Str) (sc:Scope):Css->List Stmt->Bool
 | .nil,ss=>v56 ss (true)
 | .cons s r,ss=>v57 ss fun x xs=>mS N B sc s x&&mSs N B sc r xs
end
def qC' (CX:CXT) (X:Cx) (xk:L2.St->XK):Prop:=∀(p_:List (Addr×Obj)) (σ:L2.St) (H:Hp) (s:Shared) (e:Value) (s':Shared),Inv X p_ σ H s->CX X.stack H s (xk σ) e s'->X.xe e s'
theorem o1' {X:Cx} {xk:L2.St->XK}:qC' CX0 X xk:=fun _ _ _ _ _ _ _ h=>h.elim
structure Rok (C:Rc) (B:List Str) (X:Cx) (sc:Scope):Prop where
 hN:X.N=C.N
 nd:C.N.Nodup
 hK:X.K=C.K
 own:PassesOwn (model X.prog X.w) X.A X.env X.xe
 calm:hat B=false->X.calm=true
 hu:X.A.units+64<cLine
 gd:X.A.guards=some []
 loc:∀x,sc.names.lookup x=some .local->X.env.scope.names.lookup x=some .local
 cel:∀x,sc.names.lookup x=some .cell->X.env.scope.names.lookup x=some .cell/\X.fn x=true
 fre:∀x,sc.names.lookup x=some .free->X.env.scope.names.lookup x=some .cell\/X.env.scope.names.lookup x=some .free
 glo:∀x,sc.names.lookup x=some .globalImplicit->X.env.kindOf x=some .globalImplicit
 fn:∀x sp,C.fs x=some sp->hat B=false->(tld B=true->sF' x∉B)->∃f fd ps k CX,FnOk X.prog X.w X.K X.mg X.base CX k f fd ps sp/\Room k X.A/\X.mg x=some (.ref f)/\W.keepIn X.K (.ref f)=true/\eD' X.K fd ps []/\(CX=CX0\/CX=CX1 X.prog X.w X.mg/\sF' x∈B)/\qC' CX X C.xk
 blt:∀x∈B,X.mg x=none
 mrk:X.mg "~"=none/\X.mg "^"=none/\X.mg "%"=none
 cls:∀c Ca,C.cl c=some Ca->X.mg c=some (.ref Ca)/\W.nsIn X.K mainGlobals c=some (some (.ref Ca))
 fx:tld B=false->FnCx X
 nohat:tld B=false->hat B=false
 xr:tld B=false->pct B=false->∀nm Ca p_ σ H s e t,C.cl nm=some Ca->Inv X p_ σ H s->H e=none->X.s₀.heap.get? e=none->(∀p∈X.pn++p_,p.1≠e)->s.heap.get? e=some { cls:=.ref Ca,data:=.fields #[.ref t,.none,.none,.none,.bool false,.none] }->C.xk σ (.str nm 0) none H->X.xe (.ref e) s
theorem Rok.hu1 {C:Rc} {B:List Str} {X:Cx} {sc:Scope} (R:Rok C B X sc):X.A.units+1<cLine:=by have:=R.hu;omega
section
variable {C:Rc} {B:List Str} {X:Cx} {sc:Scope}
set_option tactic.hygienic true in
theorem Rok.vis (R:Rok C B X sc) {x:Str} (h:R3.vis sc x=true):Vis X.env.scope x:=by
 unfold R3.vis at h
 split at h
 .rename_i e;exact .inl (R.loc x e)
 .rename_i e;exact .inr (.inl (R.cel x e).1)
 .rename_i e
  rcases R.fre x e with q|q
  .exact .inr (.inl q)
  .exact .inr (.inr q)
 .cases h
set_option tactic.hygienic true in
theorem Rok.locb (R:Rok C B X sc) {x:Str} (h:R3.locb sc x=true):Loc X.env.scope x/\(X.fn x=true\/X.env.scope.names.lookup x=some .local):=by
 unfold R3.locb at h
 split at h
 .rename_i e;exact⟨.inl (R.loc x e),.inr (R.loc x e)⟩
 .rename_i e;exact⟨.inr (R.cel x e).1,.inl (R.cel x e).2⟩
 .cases h
theorem Rok.glb (R:Rok C B X sc) {x:Str} (h:R3.glb sc x=true):Gl X x:=R.glo x (of_decide_eq_true h)
theorem br' {N:List Str} {i:Nat} {x:Str} (h:eT' N i x=true):N[i]?=some x/\(x == ("__debug__":Str))=false/\(x == ("__classdict__":Str))=false:=by
 unfold eT' at h
 simp only[af,decide_eq_true_eq,bw]at h
 exact⟨h.1.1,h.1.2,h.2⟩
theorem aq' {e:Expr} {es:List Expr} {env:Env} (h:aH' e=true):starEach (e :: es) env=(false,eval e env) :: starEach es env:=by
 cases e<;>first|rfl|cases h
theorem fu' {N B:List Str} {sc:Scope} {env:Env} {pos:Pos}:∀{es:Ces} {xs:List Expr},mA N B sc es xs=true->(backTo pos (starEach xs env)).any (·.1)=false
 | .nil,xs,h=>by
  refine k5' h fun e0 g=>?_
  clear h
  subst e0
  revert g
  intro h
  rfl
 | .cons e r,xs,h=>by
  refine nn' h fun x xs e0 g=>?_
  clear h
  subst e0
  revert g
  intro h
  simp only[af]at h
  rw[aq' h.1.2]
  have ih:=fu' (env:=env) (pos:=pos) (es:=r) h.2
  exact ih
theorem bf' {e:Expr} {env:Env} (h:bd' e=true) (x:Value):foldedSetIterable e env x=pure x:=by
 cases e<;>first|rfl|cases h
theorem bT' {op:CmpOp} {e:Expr} (h:bd' e=true):behindInMarks op e=false:=by
 cases e<;>first|rfl|cases h
theorem ie' {e:Expr} (h:cu' e=true):jT' e:=by
 intro o i
 cases e<;>first|rfl|cases h
theorem fv' {e:Expr} {f:Str} {env:Env} {w:Sem Value} (h:h9' e=true):attributeBase e f env w=w:=by
 cases e with
 |Call g args kw pos=>
  cases args with
  |nil=>cases h
  |cons a r=>cases g<;>rfl
 |_=>rfl
theorem k6' {e:Expr} {env:Env} (h:oU' e=true) (w:Sem Value):isTrue e env w=(do let v <- w;standAt e.pos;holding [v] (truthy v)):=by
 cases e with
 |UnaryOp op a p=>cases op<;>first|rfl|cases h
 |_=>first|rfl|cases h
theorem OpR.imp {f:Value->Value->Sem Value} {r r':R2} (h:OpR X f r) (i:∀x y H Q,r' x y H Q->r x y H Q):OpR X f r':=fun p_ s σ H x y v u Q I rx ry q=>h p_ s σ H x y v u Q I rx ry (i _ _ _ _ q)
theorem a2'.imp {f:Value} {r r':List V->Hp->VK->Prop} (h:a2' X f r) (i:∀xs H Q,r' xs H Q->r xs H Q):a2' X f r':=fun p_ s σ H xs us Q I rv q=>h p_ s σ H xs us Q I rv (i _ _ _ q)
theorem ixM:IxR X (nj' X.K):=by
 intro value slice p_ s σ H x y v u Q I rx ry q hp
 refine ti' value slice p_ s σ H x y v u Q I rx ry ?_ hp
 unfold nj' at q
 split at q
 .obtain⟨z,c,hc,q⟩:=q
  exact .inr (.inr ⟨_,_,c,rfl,rfl,z,hc,q⟩)
 .rcases q with q|q
  .exact .inl q
  .exact .inr (.inl q)
theorem uu' {CX:CXT} {k:Nat} {f:Addr} {fd:FuncData} {ps:List Str} {sp:Sp} {dvs:List V} {ds:List Value} {E:XK} {p_:List (Addr×Obj)} {σ:L2.St} {H:Hp} {s:Shared} {Q:VK} {us:List Value} {vs:List V} (F:FnOk X.prog X.w X.K X.mg X.base CX k f fd ps sp) (hr:Room k X.A) (hb:eD' X.K fd ps ds) (hd:aE' dvs ds)
  (hx:∀e s',CX X.stack H s E e s'->X.xe e s') (I:Inv X p_ σ H s) (r:aE' vs us) (h:sp (vs++dvs) H Q E):wpAny (model X.prog X.w) X.A (call (.ref f) us) (EP X p_ σ Q) X.xe s:=by
 have r2:=r.append hd
 have hl:(us++ds).length=ps.length:=r2.length ▸ F.len _ _ _ _ h
 have go:=F.run X.A X.stack s H ⟨us,[]⟩ (us++ds) (vs++dvs) Q E hr I.env0 (hb s us I.kIn hl) r2 h
 refine wpAny_call (codeAny_mono go fun r s' hq=>?_)
 match r,hq with
 | .error e,hq=>exact hx e s' hq
 | .ok (.ret u),hq=>exact I.after hq
theorem no' {CX:CXT} {k:Nat} {f:Addr} {fd:FuncData} {ps:List Str} {sp:Sp} {dvs:List V} {ds:List Value} {xk:L2.St->XK} {x:Str} {p pos:Pos} {e:Expr} {es:List Expr} {t:TA} (F:FnOk X.prog X.w X.K X.mg X.base CX k f fd ps sp) (hr:Room k X.A) (hg:Gl X x) (hm:X.mg x=some (.ref f)) (hk:W.keepIn X.K (.ref f)=true) (hb:eD' X.K fd ps ds) (hd:aE' dvs ds) (hx:qC' CX X xk)
  (ha:PA X (e :: es) t) (hdb:(x == ("__debug__":Str))=false) (he:starEach (e :: es) X.env=(false,eval e X.env) :: starEach es X.env) (hpl:(backTo pos (starEach es X.env)).any (·.1)=false):
  PE X (.Call (.Name x p) (e :: es) [] pos) (fun σ H Q=>mH' sp dvs (xk σ) t σ H Q):=by
 intro p_ s σ H Q I h
 refine wpAny_Call_Name_kw (pF' I hg hm ?_ hdb)
 exact W.callWith_K (h₀:=X.base) I.ok.mod.kin hk (thn (ha pos p_ s σ H _ I h) fun us s1 ⟨vs,H1,I1,r,q⟩=>⟨I1.kIn,uu' F hr hb hd (fun e s' c=>hx p_ σ H1 s1 e s' I1 c) I1 r q⟩) he hpl
theorem qD' {a:Int} (h:a.natAbs<2 ^ 250*2 ^ 250*2 ^ 250):(Builtin.Int.intBits a:Int)<=750:=by
 rw[<- Nat.pow_add,<- Nat.pow_add]at h
 unfold Builtin.Int.intBits
 by_cases h0:a.natAbs=0
 .rw[if_pos (by simpa using h0)];decide
 .rw[if_neg (by simpa using h0)]
  have:=(Nat.log2_lt h0).mpr h
  omega
theorem qE' {X:Cx}:OpR X (binaryOp .LShift) (rI z7' fun i j=>.int (i*2 ^ j.toNat)):=opI fun _ _ _ _ _ _ _ hc q=>lshift_int hc.1 (by have:=qD' hc.2.2;have:=hc.2.1;omega) q
theorem uv' (op:Operator):OpR X (binaryOp op) (fp' X.K op):=by
 cases op with
 |Add=>
  refine OpR.imp ((s0'.or iW').or (tn'.or (pZ'.or m2'))) fun x y H Q q=>?_
  unfold fp' at q
  dsimp only at q
  split at q
  .exact .inl (.inl ⟨_,_,rfl,rfl,q⟩)
  .exact .inl (.inr ⟨_,_,rfl,rfl,q.1,q.2⟩)
  .exact .inr q
 |Sub=>exact s1'
 |Mult=>
  refine OpR.imp (qd'.or (i5'.or to')) fun x y H Q q=>?_
  unfold fp' at q
  dsimp only at q
  split at q
  .refine .inl ⟨_,_,rfl,rfl,?_,q.2⟩
   rcases q.1 with h|h|h
   .exact xe'.ok (.inl h)
   .exact xe'.ok (.inr h)
   .exact h
  .exact .inr (.inl ⟨_,_,rfl,rfl,q.1,q.2.1,q.2.2.1,q.2.2.2⟩)
  .exact .inr (.inr q)
 |Mod=>exact s2'
 |FloorDiv=>
  refine OpR.imp (pR'.or mV') fun x y H Q q=>?_
  obtain⟨i,j,h1,h2,⟨h3,h4⟩,q⟩:=q
  rcases h4 with h4|h4
  .exact .inl ⟨i,j,h1,h2,⟨h3,h4⟩,q⟩
  .exact .inr ⟨i,j,h1,h2,⟨h3,h4⟩,q⟩
 |Pow=>exact s3'
 |LShift=>exact qE'
 |RShift=>exact s4'
 |MatMult=>exact fun _ _ _ _ _ _ _ _ _ _ _ _ h=>h.elim
 |Div=>exact fun _ _ _ _ _ _ _ _ _ _ _ _ h=>h.elim
 |BitOr=>exact fun _ _ _ _ _ _ _ _ _ _ _ _ h=>h.elim
 |BitXor=>exact fun _ _ _ _ _ _ _ _ _ _ _ _ h=>h.elim
 |BitAnd=>exact qm'
theorem o2' (hu':X.A.units+64<cLine) (op:CmpOp):OpR X (compareOp op) (cd' X.K op):=by
 cases op with
 |Eq=>
  refine OpR.imp (xK'.or ((tx' ⋯).or (tO' hu'))) fun x y H Q q=>?_
  unfold cd' at q
  dsimp only at q
  split at q
  .exact .inr q
  .exact .inl q
 |NotEq=>
  refine OpR.imp (xL'.or ((ty' ⋯).or (tP' hu'))) fun x y H Q q=>?_
  unfold cd' at q
  dsimp only at q
  split at q
  .exact .inr q
  .exact .inl q
 |Lt=>exact xM'
 |LtE=>exact xN'
 |Gt=>
  refine OpR.imp (xO'.or tK') fun x y H Q q=>?_
  unfold cd' at q
  dsimp only at q
  split at q
  .exact .inr q
  .exact .inl q
 |GtE=>exact xP'
 |Is=>
  refine OpR.imp (s6'.or tA') fun x y H Q q=>?_
  unfold cd' at q
  dsimp only at q
  split at q
  .exact .inr q
  .exact .inl q
 |IsNot=>
  refine OpR.imp (pS'.or kd') fun x y H Q q=>?_
  unfold cd' at q
  dsimp only at q
  split at q
  .exact .inr q
  .exact .inl q
 |In=>
  refine OpR.imp (tJ'.or jU') fun x y H Q q=>?_
  unfold cd' at q
  dsimp only at q
  split at q
  .exact .inl q
  .exact .inr q
 |NotIn=>
  refine OpR.imp (kj'.or fS') fun x y H Q q=>?_
  unfold cd' at q
  dsimp only at q
  split at q
  .exact .inl q
  .exact .inr q
theorem yF' (hu':X.A.units+64<cLine) (k:Zf):OpR X (compareOp (z8' k)) (rZf k):=by
 cases k with
 |eqB=>exact ue' hu'
 |ninB=>exact qA' hu'
 |ltS=>exact jM'
 |inP=>exact uk' hu'
 |ninS=>exact qz' hu'
theorem yG':SlR X (rSl X.K):=by
 intro p_ s σ H x v vl vu lo hi sl Q I rx hs pl pu q
 refine(p1'.or (td'.or (m4'.or tw'))) p_ s σ H x v vl vu lo hi sl Q I rx hs pl pu ?_
 unfold rSl at q
 split at q
 .exact .inr (.inr (.inr ⟨_,rfl,q.1,q.2⟩))
 .rcases q with q|q|q
  .exact .inl q
  .exact .inr (.inl q)
  .exact .inr (.inr (.inl q))
inductive BltIs:Bf->Prop where
 |fn (f:Bf) (id:String) (hv:bootBuiltins (ec' f)=some (.builtin id)) (h:∀X:Cx,(X.calm=true\/f=.isinstance)->a2' X (.builtin id) (eB' X.K f)):BltIs f
 |ty (f:Bf) (T:String) (hv:bootBuiltins (ec' f)=some (.type T)) (h:∀X:Cx,(X.calm=true\/f=.isinstance)->a2' X (.type T) (eB' X.K f)):BltIs f
theorem uw' (f:Bf):BltIs f:=by
 cases f with
 |len=>exact .fn _ "len" ⋯ fun X _=>mG'
 |abs=>exact .fn _ "abs" ⋯ fun X _=>mF'
 |int=>
  refine .ty _ "int" ⋯ fun X _=>a2'.imp kp' fun xs H Q q=>?_
  unfold eB' at q
  dsimp only at q
  split at q
  .exact .inl (.inl (.inl ⟨_,rfl,q⟩))
  .exact .inl (.inl (.inr ⟨_,rfl,q⟩))
  .obtain⟨n,h1,h2,q⟩:=q
   exact .inl (.inr ⟨_,n,rfl,h1,h2,q⟩)
  .obtain⟨rfl,n,h1,q⟩:=q
   exact .inr ⟨_,n,rfl,h1,q⟩
  .exact q.elim
 |set=>exact .ty _ "set" ⋯ fun X c0=>have c:X.calm=true:=c0.resolve_right (fun z=>by cases z);kE' c
 |lenD=>exact .fn _ "len" ⋯ fun X _=>jc'
 |isinstance=>exact .fn _ "isinstance" ⋯ fun X _=>fun _ _ _ _ _ _ _ _ _ h=>False.elim h
 |all=>exact .fn _ "all" ⋯ fun X c0=>have c:X.calm=true:=c0.resolve_right (fun z=>by cases z);j8' c
 |list=>exact .ty _ "list" ⋯ fun X c0=>have c:X.calm=true:=c0.resolve_right (fun z=>by cases z);fT'.or (mU' c)
 |range=>exact .ty _ "range" ⋯ fun X _=>mT'
 |tuple=>exact .ty _ "tuple" ⋯ fun X _=>ff'
structure MetIs (m:Mf) (id:String):Prop where
 pa:PlainAttrs (ge' m)
 slot:Slot (ge' m) (kP' m) id
 ty:typeOf (.builtin id)=pure (.type "method_descriptor")
 h:∀X:Cx,MtR X id (jd' X.K m)
theorem ux' (m:Mf):∃id,MetIs m id:=by
 cases m with
 |append=>exact⟨_,F.plainAttrs_list,F.slot_list_append,F.type_list_append,fun _=>jW'⟩
 |join=>exact⟨_,F.plainAttrs_str,F.slot_str_join,F.type_str_join,fun _=>qc'⟩
 |insert=>exact⟨_,F.plainAttrs_list,F.slot_list_insert,F.type_list_insert,fun _=>ka'⟩
 |indexL=>exact⟨_,F.plainAttrs_list,F.slot_list_index,F.type_list_index,fun _=>kn'⟩
 |countL=>exact⟨_,F.plainAttrs_list,F.slot_list_count,F.type_list_count,fun _=>km'⟩
 |popL=>exact⟨_,F.plainAttrs_list,F.slot_list_pop,F.type_list_pop,fun _=>tm'⟩
end
theorem dt' {N:List Str} {sc scope:Scope} {own:List Nat} (h:mr' N sc scope own=true):scope.kind=.function/\(∀x∈scope.names,x.2=.local->scope.names.lookup x.1=some .local)/\(∀n,(n,NameKind.cell)∈scope.names->scope.names.lookup n=some .cell)/\
  (∀n,(n,NameKind.free)∈scope.names->sc.names.lookup n=some .cell\/sc.names.lookup n=some .free)/\∀(i:Nat) (x:Str),N[i]?=some x->(scope.names.lookup x=some .local\/scope.names.lookup x=some .cell)->i∈own:=by
 unfold mr' at h
 simp only[af,decide_eq_true_eq,bV,bN]at h
 obtain⟨⟨hk,hn⟩,ho⟩:=h
 refine⟨hk,fun x hx e=>?_,fun n hn'=>?_,fun n hn'=>?_,fun i x e hx=>?_⟩
 .exact(hn x hx).1.1.resolve_left fun q=>q e
 .exact(hn _ hn').1.2.resolve_left fun q=>q rfl
 .rcases(hn _ hn').2 with(q|q)|q
  .exact absurd rfl q
  .exact .inl q
  .exact .inr q
 .have:=ho i (aI.mpr (aB.mp e).1)
  rw[e]at this
  simp only[bN,af,decide_eq_true_eq]at this
  rcases this with⟨q1,q2⟩|q
  .rcases hx with z|z
   .exact absurd z q1
   .exact absurd z q2
  .exact q
theorem Rok.compSc {C:Rc} {B:List Str} {X:Cx} {sc scope:Scope} {own:List Nat} (R:Rok C B X sc) (h:mr' C.N sc scope own=true):CompSc X scope:=by
 obtain⟨h1,h2,h3,h4,h5⟩:=dt' h
 refine⟨h1,h2,h3,fun n hn=>?_⟩
 rcases h4 n hn with q|q
 .exact .inl (R.cel n q).1
 .exact R.fre n q
theorem c2' {B:List Str}:tld ("~" :: B)=true:=decide_eq_true (aw)
theorem Rok.comp {C:Rc} {B:List Str} {X:Cx} {sc scope:Scope} {own:List Nat} (R:Rok C B X sc) (hh:hat B=false) (h:mr' C.N sc scope own=true) (s0:Shared) (H0:Hp) (ex:List Addr):Rok C ("~" :: B) (X.comp scope s0 H0 ex) scope:=by
 refine⟨R.hN,R.nd,R.hK,PassesOwn.never,fun _=>R.calm hh,R.hu,R.gd,fun x e=>lookup_relabel_local e,fun x e=>⟨?_,?_⟩,fun x e=>?_,fun x e=>?_,fun x sp e _ ht=>?_,fun x hx=>?_,R.mrk,R.cls,(fun z=>by rw[c2']at z;cases z),(fun z=>by rw[c2']at z;cases z),(fun z=>by rw[c2']at z;cases z)⟩
 .obtain⟨k',e1,e2⟩:=aZ' (env:=X.env) e
  rcases e2 with rfl|⟨q,_⟩
  .exact e1
  .cases q
 .exact W.cellsFrom_some _ _ _ (.inl e)
 .obtain⟨k',e1,e2⟩:=aZ' (env:=X.env) e
  rcases e2 with rfl|⟨_,rfl⟩
  .exact .inr e1
  .exact .inl e1
 .obtain⟨k',e1,e2⟩:=aZ' (env:=X.env) e
  rcases e2 with rfl|⟨q,_⟩
  .exact e1
  .cases q
 .have hb:sF' x∉B:=fun z=>ht c2' (aq _ z)
  obtain⟨f,fd,ps,k,CX,h1,h2,h3,h4,h5,h6,_⟩:=R.fn x sp e hh fun _=>hb
  rcases h6 with rfl|⟨_,z⟩
  .exact⟨f,fd,ps,k,CX0,h1,h2,h3,h4,h5,.inl rfl,o1'⟩
  .exact absurd z hb
 .rcases au.mp hx with rfl|hx
  .exact R.mrk.1
  .exact R.blt x hx
mutual
theorem if' (C:Rc) (own:List Nat):∀(t:Ct),je' own t=true->∀(x:V) (σ:L2.St) (H:Hp) (Q Q':L2.St->Hp->Prop),tG C t x σ H Q->(∀σ2 H2,Q σ2 H2->Ext own σ σ2->Q' σ2 H2)->tG C t x σ H Q'
 | .name i,h,x,σ,H,Q,Q',q,m=>by
  obtain⟨q1,q2⟩:=j0' (of_decide_eq_true (show decide (i∈own)=true from h)) x σ H Q q
  exact m _ _ q1 q2
 | .tup ts,h,x,σ,H,Q,Q',q,m=>by
  replace h:kR' own ts=true:=h
  obtain⟨a,xs,e,hs,hl,q⟩:=q
  exact⟨a,xs,e,hs,hl,gk' C own ts h xs σ H Q Q' q m⟩
 | .sub _ _,h,_,_,_,_,_,_,_=>ar' h
theorem gk' (C:Rc) (own:List Nat):∀(ts:Cts),kR' own ts=true->∀(xs:List V) (σ:L2.St) (H:Hp) (Q Q':L2.St->Hp->Prop),tGs C ts xs σ H Q->(∀σ2 H2,Q σ2 H2->Ext own σ σ2->Q' σ2 H2)->tGs C ts xs σ H Q'
 | .nil,h,xs,σ,H,Q,Q',q,m=>by
  replace q:xs=[]/\Q σ H:=q
  exact And.intro q.1 (m _ _ q.2 Ext.refl)
 | .cons t r,h,xs,σ,H,Q,Q',q,m=>by
  replace h:=gf' (show(je' own t&&kR' own r)=true from h)
  replace q:∃v vr,xs=v :: vr/\tG C t v σ H fun σ' H'=>tGs C r vr σ' H' Q:=q
  obtain⟨v,vr,e,q⟩:=q
  show ∃v vr,xs=v :: vr/\tG C t v σ H fun σ' H'=>tGs C r vr σ' H' Q'
  exact⟨v,vr,e,if' C own t h.1 v σ H _ _ q fun σ2 H2 q2 x2=>gk' C own r h.2 vr σ2 H2 _ _ q2 fun σ3 H3 q3 x3=>m _ _ q3 (x2.trans x3)⟩
end
theorem cN' {C:Rc} {own:List Nat} {t:Ct} (h:je' own t=true):sC' own (tG C t):=fun x σ H Q q=>if' C own t h x σ H Q _ q fun _ _ q x=>⟨q,x⟩
theorem cO':∀{ts:Cts} {es:List Expr} {N B:List Str} {sc:Scope} {env:Env},mTs N B sc ts es=true->(assignEach es env).length=nl' ts/\(assignEach es env).findIdx? (·.1)=none
 | .nil,es,N,B,sc,env,h=>by
  refine k5' h fun e0 g=>?_
  clear h
  subst e0
  revert g
  intro h
  exact⟨rfl,rfl⟩
 | .cons t r,es,N,B,sc,env,h=>by
  refine nn' h fun x xs e0 g=>?_
  clear h
  subst e0
  revert g
  intro h
  simp only[af]at h
  obtain⟨h1,h2⟩:=cO' (env:=env) h.2
  have e:assignEach (x :: xs) env=(false,assign x env) :: assignEach xs env:=by
   have hs:=h.1.2
   cases x<;>first|rfl|cases hs
  rw[e]
  refine⟨by rw[aR,h1];rfl,?_⟩
  rw[List.findIdx?_cons,h2]
  rfl
theorem gZ' {x:Expr} {xs:List Expr} {env:Env} (hs:aH' x=true):(assignEach (x :: xs) env).map (·.2)=assign x env :: (assignEach xs env).map (·.2):=by
 cases x<;>first|rfl|cases hs
theorem qF' {o i:Expr} {pos:Pos} {env:Env} (h:cu' i=true) (v:Value):assign (.Subscript o i pos) env v=(do
   let ov <- holding [v] (eval o env)
   let iv <- holding [v,ov] (eval i env)
   standAt pos
   holding [v,ov,iv] (setItem ov iv v)
   release [v,ov,iv] []):=by
 cases i<;>first|rfl|cases h
def qG' (C:Rc) (X:Cx) (e:Expr):Ce->Prop
 | .comp elt own t it q r=>∃tg iter ifs nx scope pos,CompIn X e scope tg iter ifs nx (tG C t) (tQo C q) (tR C r (eE' (tE C elt))) own/\PI X tg iter (tI C it)/\
   eval e X.env=comprehension e scope X.env pos (newList []) false (eval iter X.env)/\(∀u,evalThenUse e X.env u=(do let _ <- comprehension e scope X.env pos (newList []) false (eval iter X.env) (some u)))/\
   ∀y py line,∃b,swapsWith e (some (.Name y py)) line X.env=pure b
 |_=>True
theorem np' (P w it D env ee tg iter ifs tg2 iter2 ifs2 scope pos):(model P w).den (.compLoop (.ListComp ee [⟨tg,iter,ifs,0⟩,⟨tg2,iter2,ifs2,0⟩] scope pos) 0 it (.ref D) env)=(bj' (.ListComp ee [⟨tg,iter,ifs,0⟩,⟨tg2,iter2,ifs2,0⟩] scope pos) 0 tg iter ifs (by' (.ListComp ee [⟨tg,iter,ifs,0⟩,⟨tg2,iter2,ifs2,0⟩] scope pos) 0 iter2 (.ref D) env) it (.ref D) env).onRaise (fun x=>do noteFrame x env;theTreesLotGoes x):=by
 show(compTurn _ _ _ _ _).onRaise _=_
 congr 1
 unfold bj' by'
 simp only[bind_assoc,pure_bind]
 rfl
def uy' (ke ve:Expr) (D:Addr) (env:Env):Sem Unit:=do
 let kv <- eval ke env
 let vv <- holding [kv] (eval ve env)
 match Value.ref D with
 | .ref d=>do
  standAt { ke.pos with endLine:=ve.pos.endLine,endCol:=ve.pos.endCol }
  holding [kv,vv] (dictSet d kv vv)
 |_=>unsupported "internal:dictcomp"
theorem AN' {N B:List Str} {sc:Scope} {elt:Ce} {own:List Nat} {t:Ct} {it:Ci} {q:Cqo} {e:Expr} (h:mE N B sc (.comp elt own t it q .nil) e=true):∃ee tg iter ifs scope pos,e=.ListComp ee [⟨tg,iter,ifs,0⟩] scope pos/\
  hat B=false/\mr' N sc scope own=true/\mE N ("~" :: B) scope elt ee=true/\je' own t=true/\mI N B sc it iter=true/\kQ' it tg=true/\bd' iter=true/\mT N ("~" :: B) scope t tg=true/\mQo N ("~" :: B) scope q ifs=true:=by
 refine ym' h fun ee tg iter ifs a scope w1 e0 g=>?_
 clear h
 subst e0
 revert g
 intro h
 simp only[af,decide_eq_true_eq,bw]at h
 obtain⟨⟨⟨⟨⟨⟨⟨⟨⟨hh,hsc⟩,helt⟩,hown⟩,rfl⟩,h1⟩,h2⟩,h3⟩,h4⟩,h5⟩:=h
 exact⟨_,_,_,_,_,_,rfl,hh,hsc,helt,hown,h1,h2,h3,h4,h5⟩
theorem AO' {N B:List Str} {sc:Scope} {elt:Ce} {own:List Nat} {t:Ct} {it:Ci} {q:Cqo} {ws:List Nat} {t2:Ct} {it2:Ci} {q2:Cqo} {e:Expr} (h:mE N B sc (.comp elt own t it q (.cons ws t2 it2 q2 .nil)) e=true):
  ∃ee tg iter ifs tg2 iter2 ifs2 scope pos,e=.ListComp ee [⟨tg,iter,ifs,0⟩,⟨tg2,iter2,ifs2,0⟩] scope pos/\
  hat B=false/\mr' N sc scope own=true/\mE N ("~" :: B) scope elt ee=true/\je' own t=true/\mI N B sc it iter=true/\kQ' it tg=true/\bd' iter=true/\mT N ("~" :: B) scope t tg=true/\mQo N ("~" :: B) scope q ifs=true/\
  mI N ("~" :: B) scope it2 iter2=true/\kQ' it2 tg2=true/\bd' iter2=true/\mT N ("~" :: B) scope t2 tg2=true/\mQo N ("~" :: B) scope q2 ifs2=true/\je' ws t2=true/\∀j∈ws,j∈own:=by
 refine yn' h fun ee tg iter ifs a tg2 iter2 ifs2 a2 scope w1 e0 g=>?_
 clear h
 subst e0
 revert g
 intro h
 simp only[af,decide_eq_true_eq,bV,bw]at h
 obtain⟨⟨⟨⟨⟨⟨⟨⟨⟨⟨⟨⟨⟨⟨⟨⟨⟨hh,hsc⟩,helt⟩,hown⟩,rfl⟩,h1⟩,h2⟩,h3⟩,h4⟩,h5⟩,rfl⟩,g1⟩,g2⟩,g3⟩,g4⟩,g5⟩,g6⟩,g7⟩:=h
 exact⟨_,_,_,_,_,_,_,_,_,rfl,hh,hsc,helt,hown,h1,h2,h3,h4,h5,g1,g2,g3,g4,g5,g6,g7⟩
theorem AP' {N B:List Str} {sc:Scope} {elt:Ce} {own:List Nat} {t:Ct} {it:Ci} {q:Cqo} {ws:List Nat} {t2:Ct} {it2:Ci} {q2:Cqo} {ws3:List Nat} {t3:Ct} {it3:Ci} {q3:Cqo} {r4:Cc} {e:Expr} (h:mE N B sc (.comp elt own t it q (.cons ws t2 it2 q2 (.cons ws3 t3 it3 q3 r4))) e=true):False:=by
 exact ar' h
set_option maxHeartbeats 4000000
theorem k7' (P w it D env ee tg iter ifs tg2 iter2 ifs2 scope pos):(model P w).den (.compLoop (.SetComp ee [⟨tg,iter,ifs,0⟩,⟨tg2,iter2,ifs2,0⟩] scope pos) 0 it (.ref D) env)=(bj' (.SetComp ee [⟨tg,iter,ifs,0⟩,⟨tg2,iter2,ifs2,0⟩] scope pos) 0 tg iter ifs (by' (.SetComp ee [⟨tg,iter,ifs,0⟩,⟨tg2,iter2,ifs2,0⟩] scope pos) 0 iter2 (.ref D) env) it (.ref D) env).onRaise (fun x=>do noteFrame x env;theTreesLotGoes x):=by
 show(compTurn _ _ _ _ _).onRaise _=_
 congr 1
 unfold bj' by'
 simp only[bind_assoc,pure_bind]
 rfl
mutual
theorem sE0 {C:Rc}:∀(c:Ce) {B:List Str} {X:Cx} {sc:Scope} {e:Expr},Rok C B X sc->mE C.N B sc c e=true->PE X e (tE C c)/\qG' C X e c
 | .var i,B,X,sc,e,R,h=>by
  refine⟨?_,trivial⟩
  refine z9' h fun x w1 e0 g=>?_
  clear h
  subst e0
  revert g
  intro h
  simp only[af]at h
  obtain⟨h1,h2,h3⟩:=br' h.1
  rw[show tE C (.var i)=(xb' i) from rfl]
  exact oA' (by rw[R.hN];exact h1) (R.vis h.2) h2 h3
 | .int n,B,X,sc,e,R,h=>by
  refine⟨?_,trivial⟩
  refine AI' h fun m w1 w2 e0 g=>?_
  clear h
  subst e0
  revert g
  intro h
  cases of_decide_eq_true h
  rw[show tE C (.int n)=(tC (.int n)) from rfl]
  exact sM'
 | .bl n,B,X,sc,e,R,h=>by
  refine⟨?_,trivial⟩
  refine AJ' h fun c w1 w2 e0 g=>?_
  clear h
  subst e0
  revert g
  intro h
  cases of_decide_eq_true h
  rw[show tE C (.bl n)=(tC (.bl n)) from rfl]
  exact xv'
 | .non,B,X,sc,e,R,h=>by
  refine⟨?_,trivial⟩
  refine AK' h fun w1 w2 e0 g=>?_
  clear h
  subst e0
  revert g
  intro h
  rw[show tE C .non=(tC .non) from rfl]
  exact sN'
 | .str n,B,X,sc,e,R,h=>by
  refine⟨?_,trivial⟩
  refine AL' h fun y w1 w2 e0 g=>?_
  clear h
  subst e0
  revert g
  intro h
  cases of_decide_eq_true h
  rw[show tE C (.str n)=(tC (.str n)) from rfl]
  exact sO'
 | .bin op a b,B,X,sc,e,R,h=>by
  refine⟨?_,trivial⟩
  refine AM' h fun ea op' eb w1 e0 g=>?_
  clear h
  subst e0
  revert g
  intro h
  simp only[af,decide_eq_true_eq]at h
  obtain⟨⟨rfl,h1⟩,h2⟩:=h
  rw[show tE C (.bin op a b)=(tOp (fp' C.K op) (tE C a) (tE C b)) from rfl]
  rw[<- R.hK]
  exact xH' (uv' _) ((sE0 a R h1).1) ((sE0 b R h2).1)
 | .not a,B,X,sc,e,R,h=>by
  refine⟨?_,trivial⟩
  refine Aa' h fun ea w1 e0 g=>?_
  clear h
  subst e0
  revert g
  intro h
  rw[show tE C (.not a)=(pH' (tE C a)) from rfl]
  exact sU' ((sE0 a R h).1)
 | .and a b,B,X,sc,e,R,h=>by
  refine⟨?_,trivial⟩
  replace h:=kS' h
  rcases h with⟨x,y,pos,rfl,h⟩|⟨x,y,z,r,pos,rfl,h⟩
  .simp only[af]at h
   rw[show tE C (.and a b)=(mw' (tE C a) (tE C b)) from rfl]
   exact oF' ((sE0 a R h.1).1) (oE' ((sE0 b R h.2).1))
  .simp only[af]at h
   rw[show tE C (.and a b)=(mw' (tE C a) (tE C b)) from rfl]
   exact oF' ((sE0 a R h.1).1) ((sE0 b R h.2).1)
 | .or a b,B,X,sc,e,R,h=>by
  refine⟨?_,trivial⟩
  replace h:=oV' h
  rcases h with⟨x,y,pos,rfl,h⟩|⟨x,y,z,r,pos,rfl,h⟩
  .simp only[af]at h
   rw[show tE C (.or a b)=(xc' (tE C a) (tE C b)) from rfl]
   exact sT' ((sE0 a R h.1).1) (oE' ((sE0 b R h.2).1))
  .simp only[af]at h
   rw[show tE C (.or a b)=(xc' (tE C a) (tE C b)) from rfl]
   exact sT' ((sE0 a R h.1).1) ((sE0 b R h.2).1)
 | .cmp op a b,B,X,sc,e,R,h=>by
  refine⟨?_,trivial⟩
  refine uo' h fun ea op' eb w1 e0 g=>?_
  clear h
  subst e0
  revert g
  intro h
  simp only[af,decide_eq_true_eq]at h
  obtain⟨⟨⟨rfl,h1⟩,h2⟩,h3⟩:=h
  rw[show tE C (.cmp op a b)=(tOp (cd' C.K op) (tE C a) (tE C b)) from rfl]
  rw[<- R.hK]
  exact pT' (o2' R.hu _) ((sE0 a R h1).1) ((sE0 b R h2).1) (bT' h3)
 | .ife q a b,B,X,sc,e,R,h=>by
  refine⟨?_,trivial⟩
  refine yh' h fun eq ea eb w1 e0 g=>?_
  clear h
  subst e0
  revert g
  intro h
  simp only[af]at h
  rw[show tE C (.ife q a b)=(tIf (tQ C q) (tE C a) (tE C b)) from rfl]
  exact mx' (sQ q R h.1.1).1 ((sE0 a R h.1.2).1) ((sE0 b R h.2).1)
 | .tup es,B,X,sc,e,R,h=>by
  refine⟨?_,trivial⟩
  refine up' h fun xs w1 w2 e0 g=>?_
  clear h
  subst e0
  revert g
  intro h
  rw[show tE C (.tup es)=(xR' (tA C es)) from rfl]
  exact ta' (sA es R h)
 | .lst es,B,X,sc,e,R,h=>by
  refine⟨?_,trivial⟩
  refine yi' h fun xs w1 e0 g=>?_
  clear h
  subst e0
  revert g
  intro h
  rw[show tE C (.lst es)=(xS' (tA C es)) from rfl]
  exact tb' (sA es R h)
 | .idx a b,B,X,sc,e,R,h=>by
  refine⟨?_,trivial⟩
  refine qB' h fun ea eb w1 e0 g=>?_
  clear h
  subst e0
  revert g
  intro h
  simp only[af]at h
  rw[show tE C (.idx a b)=(tOp (nj' C.K) (tE C a) (tE C b)) from rfl]
  rw[<- R.hK]
  exact xU' ixM ((sE0 a R h.1.1).1) ((sE0 b R h.1.2).1) (ie' h.2)
 | .cut a lo hi,B,X,sc,e,R,h=>by
  refine⟨?_,trivial⟩
  refine yj' h fun ea l h_ w1 w2 e0 g=>?_
  clear h
  subst e0
  revert g
  intro h
  simp only[af]at h
  rw[show tE C (.cut a lo hi)=(tSl (rSl C.K) (tE C a) (tO C lo) (tO C hi)) from rfl]
  rw[<- R.hK]
  exact mL' yG' ((sE0 a R h.1.1).1) (sO lo R h.1.2) (sO hi R h.2)
 | .call f es,B,X,sc,e,R,h=>by
  refine⟨?_,trivial⟩
  refine uq' h fun x w1 e r pos e0 g=>?_
  clear h
  subst e0
  revert g
  intro h
  simp only[af,decide_eq_true_eq,bw]at h
  obtain⟨⟨⟨⟨⟨rfl,h1⟩,h2⟩,h3⟩,hh⟩,h6⟩:=h
  rw[show tE C (.call x es)=(fun σ H Q=>match C.fs x with|some sp=>mH' sp [] (C.xk σ) (tA C es) σ H Q|none=>False) from rfl]
  have ht:tld B=true->sF' x∉B:=fun t m=>by rw[t,decide_eq_true m]at h6;cases h6
  cases hf:C.fs x with
  |none=>exact fun _ _ _ _ _ _ q=>q.elim
  |some sp=>
   obtain⟨f,fd,ps,k,CX,F,hr,hm,hk,hb,_,hx⟩:=R.fn x sp hf hh ht
   have hs:aH' e=true:=by
    cases es with
    |nil=>exact ar' h2
    |cons c r=>exact(gf' (gf' h2).1).2
   have hp:(backTo pos (starEach r X.env)).any (·.1)=false:=by
    have q:=fu' (env:=X.env) (pos:=pos) h2
    rw[aq' hs]at q
    exact q
   exact no' F hr (R.glb h1) hm hk hb .nil hx (sA es R h2) h3 (aq' hs) hp
 | .blt f es,B,X,sc,e,R,h=>by
  refine⟨?_,trivial⟩
  refine uq' h fun x w1 e r pos e0 g=>?_
  clear h
  subst e0
  revert g
  intro h
  simp only[af,decide_eq_true_eq,bN,bw]at h
  obtain⟨⟨⟨⟨rfl,h1⟩,h2⟩,h4⟩,h5⟩:=h
  have hcc:X.calm=true\/f=.isinstance:=h5.imp R.calm id
  rw[show tE C (.blt f es)=(tCB (eB' C.K f) (tA C es)) from rfl]
  have hs:aH' e=true:=by
   cases es with
   |nil=>exact ar' h2
   |cons c r=>exact(gf' (gf' h2).1).2
  have hp:(backTo pos (starEach r X.env)).any (·.1)=false:=by
   have q:=fu' (env:=X.env) (pos:=pos) h2
   rw[aq' hs]at q
   exact q
  rw[<- R.hK]
  have hn:ec' f≠"__name__"/\(ec' f == ("__debug__":Str))=false:=by cases f<;>decide +kernel
  cases uw' f with
  |fn id hv hc=>exact mI' (hc X hcc) (R.glb h1) (R.blt _ h4) hv (sA es R h2) hn.1 hn.2 (aq' hs) hp
  |ty T hv hc=>exact jQ' (hc X hcc) (R.glb h1) (R.blt _ h4) hv (sA es R h2) hn.1 hn.2 (aq' hs) hp
 | .dnew,B,X,sc,e,R,h=>by
  refine⟨?_,trivial⟩
  refine ur' h fun w1 e0 g=>?_
  clear h
  subst e0
  revert g
  intro h
  rw[show tE C .dnew=(kg') from rfl];exact mZ'
 | .dnt,B,X,sc,e,R,h=>by
  refine⟨?_,trivial⟩
  refine ur' h fun w1 e0 g=>?_
  clear h
  subst e0
  revert g
  intro h
  rw[show tE C .dnt=(kh') from rfl];exact m0'
 | .dix a b,B,X,sc,e,R,h=>by
  refine⟨?_,trivial⟩
  refine qB' h fun ea eb w1 e0 g=>?_
  clear h
  subst e0
  revert g
  intro h
  simp only[af]at h
  rw[show tE C (.dix a b)=(qh' (tE C a) (tE C b)) from rfl]
  exact qj' R.hu1 (sE0 a R h.1.1).1 (sE0 b R h.1.2).1 (ie' h.2)
 | .din neg a b,B,X,sc,e,R,h=>by
  refine⟨?_,trivial⟩
  refine uo' h fun ea op' eb w1 e0 g=>?_
  clear h
  subst e0
  revert g
  intro h
  simp only[af,decide_eq_true_eq]at h
  obtain⟨⟨⟨rfl,h1⟩,h2⟩,h3⟩:=h
  rw[show tE C (.din neg a b)=(nk' neg (tE C a) (tE C b)) from rfl]
  cases neg with
  |true=>exact oB' (gc' R.hu1 (sE0 a R h1).1 (sE0 b R h2).1) (bT' h3)
  |false=>exact oB' (oR' R.hu1 (sE0 a R h1).1 (sE0 b R h2).1) (bT' h3)
 | .dgt a b,B,X,sc,e,R,h=>by
  refine⟨?_,trivial⟩
  refine us' h fun eo nm apos y pos e0 g=>?_
  clear h
  subst e0
  revert g
  intro h
  simp only[af,decide_eq_true_eq]at h
  obtain⟨⟨⟨⟨⟨rfl,h1⟩,h2⟩,h3⟩,h4⟩,h5⟩:=h
  rw[show tE C (.dgt a b)=(kL' (tE C a) (tE C b)) from rfl]
  have e2:=aq' (env:=X.env) (es:=[]) h5
  refine ng' R.hu1 (sE0 a R h1).1 (sE0 b R h4).1 ⟨fv' h2,?_,h3,?_⟩
  .rw[e2];rfl
  .rw[e2];rfl
 | .met m o es,B,X,sc,e,R,h=>by
  refine⟨?_,trivial⟩
  refine yk' h fun eo nm apos args pos e0 g=>?_
  clear h
  subst e0
  revert g
  intro h
  simp only[af,decide_eq_true_eq]at h
  obtain⟨⟨⟨⟨⟨rfl,h1⟩,h2⟩,h3⟩,h4⟩,h5⟩:=h
  rw[show tE C (.met m o es)=(tBM C.K (ge' m) (jd' C.K m) (tE C o) (tA C es)) from rfl]
  rw[<- R.hK]
  obtain⟨id,M⟩:=ux' m
  cases args with
  |nil=>
   cases es with
   |cons c r=>exact ar' h4
   |nil=>
    exact tl' M.pa M.slot M.ty (M.h X) ((sE0 o R h1).1) (fv' h2) h3
  |cons a r=>
   have hs:aH' a=true:=by
    cases es with
    |nil=>exact ar' h4
    |cons c r=>exact(gf' (gf' h4).1).2
   have hq:=fu' (env:=X.env) (pos:=pos) h4
   have hp:(backTo pos (starEach r X.env)).any (·.1)=false:=by
    rw[aq' hs]at hq
    exact hq
   refine xV' M.pa M.slot M.ty (M.h X) ((sE0 o R h1).1) (sA es R h4) (fv' h2) ?_ h3 (aq' hs) hp
   have e1:(backTo pos (starEach (a :: r) X.env)).all (fun x=>!x.1)=true:=by
    rw[bV]
    intro x hx
    rw[List.any_eq_false]at hq
    simpa using hq x hx
   rw[e1]
   show(true&&true&&decide ((a :: r).length+0+0<30))=true
   simp only[Bool.true_and,decide_eq_true_eq]
   omega
 | .sad a b,B,X,sc,e,R,h=>by
  refine⟨?_,trivial⟩
  refine us' h fun eo nm apos y pos e0 g=>?_
  clear h
  subst e0
  revert g
  intro h
  simp only[af,decide_eq_true_eq]at h
  obtain⟨⟨⟨⟨⟨rfl,h1⟩,h2⟩,h3⟩,h4⟩,h5⟩:=h
  rw[show tE C (.sad a b)=(yd' (tE C a) (tE C b)) from rfl]
  have e2:=aq' (env:=X.env) (es:=[]) h5
  refine uc' R.hu1 (sE0 a R h1).1 (sE0 b R h4).1 ⟨fv' h2,?_,h3,?_⟩
  .rw[e2];rfl
  .rw[e2];rfl
 | .sd1 a,B,X,sc,e,R,h=>by
  refine⟨?_,trivial⟩
  refine yl' h fun y kk w1 e0 g=>?_
  clear h
  subst e0
  revert g
  intro h
  simp only[af,decide_eq_true_eq,bw]at h
  obtain⟨⟨⟨h0,h1⟩,h2⟩,h3⟩:=h
  rw[show tE C (.sd1 a)=(ye' (tE C a)) from rfl]
  exact ud' R.hu1 (R.fx h3).cd h0 (sE0 a R h1).1 (aq' (es:=[]) h2)
 | .comp elt own t it q .nil,B,X,sc,e,R,h=>by
  have D:qG' C X e (.comp elt own t it q .nil):=by
   obtain⟨ee,tg,iter,ifs,scope,pos,rfl,hh,hsc,helt,hown,h1,h2,h3,h4,h5⟩:=AN' h
   refine⟨tg,iter,ifs,fun D env=>do let _ <- call (.builtin "list.append") [.ref D,<- eval ee env],scope,_,⟨R.compSc hsc,?_,⟨[],rfl⟩,bf' h3,R.calm hh,fun _ _ _=>⟨rfl,rfl⟩,fun _ _ _ _=>⟨rfl,rfl⟩,fun _ _ _ _ _=>rfl,fun _ _ _ _ _=>rfl,cN' hown,?_⟩,sI it R h1 h2,rfl,fun _=>rfl,fun _ _ _=>⟨_,rfl⟩⟩
   .rw[R.hN];exact(dt' hsc).2.2.2.2
   .intro s0 H0 ex D
    have R':=R.comp hh hsc s0 H0 ex
    refine⟨sG t R' h4,sQo q R' h5,[],by simp,?_⟩
    exact hG' rfl (sE0 elt R' helt).1
  refine⟨?_,D⟩
  obtain⟨tg,iter,ifs,nx,scope,pos,D,hi,he,_⟩:=D
  rw[show tE C (.comp elt own t it q .nil)=(i3' own (tI C it) (tG C t) (tQo C q) (tR C .nil (eE' (tE C elt)))) from rfl]
  exact j1' D hi he
 | .comp elt own t it q (.cons ws t2 it2 q2 .nil),B,X,sc,e,R,h=>by
  have D:qG' C X e (.comp elt own t it q (.cons ws t2 it2 q2 .nil)):=by
   obtain⟨ee,tg,iter,ifs,tg2,iter2,ifs2,scope,pos,rfl,hh,hsc,helt,hown,h1,h2,h3,h4,h5,g1,g2,g3,g4,g5,g6,g7⟩:=AO' h
   refine⟨tg,iter,ifs,fun D env=>by' (.ListComp ee [⟨tg,iter,ifs,0⟩,⟨tg2,iter2,ifs2,0⟩] scope pos) 0 iter2 (.ref D) env,scope,_,⟨R.compSc hsc,?_,⟨_,rfl⟩,bf' h3,R.calm hh,fun _ _ _=>⟨rfl,rfl⟩,fun _ _ _ _=>⟨rfl,rfl⟩,fun _ _ _ _ _=>np' _ _ _ _ _ _ _ _ _ _ _ _ _ _,fun _ _ _ _ _=>rfl,cN' hown,?_⟩,sI it R h1 h2,rfl,fun _=>rfl,fun _ _ _=>⟨_,rfl⟩⟩
   .rw[R.hN];exact(dt' hsc).2.2.2.2
   .intro s0 H0 ex D
    have R':=R.comp hh hsc s0 H0 ex
    refine⟨sG t R' h4,sQo q R' h5,ws,g7,?_⟩
    exact hI' (nx:=do let _ <- call (.builtin "list.append") [.ref D,<- eval ee (X.comp scope s0 H0 ex).env]) rfl (R.calm hh) (fun _=>rfl) (fun _=>rfl) (fun _=>rfl) (fun _=>rfl) (fun _=>rfl) (fun _=>rfl) ⟨_,rfl,rfl⟩ (bf' g3) (sI it2 R' g1 g2) (sG t2 R' g4) (cN' g6) (sQo q2 R' g5) (hG' rfl (sE0 elt R' helt).1) (by simp) fg'
  refine⟨?_,D⟩
  obtain⟨tg,iter,ifs,nx,scope,pos,D,hi,he,_⟩:=D
  rw[show tE C (.comp elt own t it q (.cons ws t2 it2 q2 .nil))=(i3' own (tI C it) (tG C t) (tQo C q) (tR C (.cons ws t2 it2 q2 .nil) (eE' (tE C elt)))) from rfl]
  exact j1' D hi he
 | .comp elt own t it q (.cons ws t2 it2 q2 (.cons _ _ _ _ _)),B,X,sc,e,R,h=>(AP' h).elim
termination_by structural c=>c
theorem sA {C:Rc}:∀(es:Ces) {B:List Str} {X:Cx} {sc:Scope} {xs:List Expr},Rok C B X sc->mA C.N B sc es xs=true->PA X xs (tA C es)
 | .nil,B,X,sc,xs,R,h=>by
  refine k5' h fun e0 g=>?_
  clear h
  subst e0
  revert g
  intro h
  rw[show tA C .nil=(jC') from rfl]
  exact fM'
 | .cons e r,B,X,sc,xs,R,h=>by
  refine nn' h fun x xs e0 g=>?_
  clear h
  subst e0
  revert g
  intro h
  simp only[af]at h
  rw[show tA C (.cons e r)=(cA' (tE C e) (tA C r)) from rfl]
  exact cI' ((sE0 e R h.1.1).1) (sA r R h.2) (aq' h.1.2)
termination_by structural c=>c
theorem sQ {C:Rc}:∀(q:Cq) {B:List Str} {X:Cx} {sc:Scope} {e:Expr},Rok C B X sc->mQ C.N B sc q e=true->PT X e (tQ C q)/\((∃op vs pos,e=.BoolOp op vs pos)->PW X e (tQ C q))
 | .val c,B,X,sc,e,R,h=>by
  replace h:=gf' h
  refine⟨?_,fun⟨op,vs,pos,z⟩=>?_⟩
  .rw[show tQ C (.val c)=(fun σ H Q=>tE C c σ H fun x H'=>∃k,s7' C.K x H' k/\Q k H') from rfl]
   rw[<- R.hK]
   exact mE' (sE0 c R h.1).1 (k6' h.2)
  .subst z;exact ar' h.2
 | .din neg a b,B,X,sc,e,R,h=>by
  refine uo' h fun ea op' eb w1 e0 g=>?_
  clear h
  subst e0
  revert g
  intro h
  simp only[af,decide_eq_true_eq]at h
  obtain⟨⟨⟨rfl,h1⟩,h2⟩,h3⟩:=h
  rw[show tQ C (.din neg a b)=(gG' (nk' neg (tE C a) (tE C b))) from rfl]
  cases neg with
  |true=>exact⟨oC' (gc' R.hu1 (sE0 a R h1).1 (sE0 b R h2).1) (bT' h3),fun⟨op,vs,pos,z⟩=>by cases z⟩
  |false=>exact⟨oC' (oR' R.hu1 (sE0 a R h1).1 (sE0 b R h2).1) (bT' h3),fun⟨op,vs,pos,z⟩=>by cases z⟩
 | .cmw k a b,B,X,sc,e,R,h=>by
  refine uo' h fun ea op' eb w1 e0 g=>?_
  clear h
  subst e0
  revert g
  intro h
  simp only[af,decide_eq_true_eq]at h
  obtain⟨⟨⟨rfl,h1⟩,h2⟩,h3⟩:=h
  rw[show tQ C (.cmw k a b)=(gG' (tOp (rZf k) (tE C a) (tE C b))) from rfl]
  exact⟨jN' (yF' R.hu _) (sE0 a R h1).1 (sE0 b R h2).1 (bT' h3),fun⟨op,vs,pos,z⟩=>by cases z⟩
 | .not q,B,X,sc,e,R,h=>by
  refine Aa' h fun y w1 e0 g=>?_
  clear h
  subst e0
  revert g
  intro h
  rw[show tQ C (.not q)=(xw' (tQ C q)) from rfl]
  exact⟨sS' (sQ q R h).1,fun⟨op,vs,pos,z⟩=>by cases z⟩
 | .and a b,B,X,sc,e,R,h=>by
  replace h:=kS' h
  rcases h with⟨x,y,pos,rfl,h⟩|⟨x,y,z,r,pos,rfl,h⟩
  .simp only[af]at h
   rw[show tQ C (.and a b)=(sP' (tQ C a) (tQ C b)) from rfl]
   have w:PW X (.BoolOp .And [x,y] pos) (sP' (tQ C a) (tQ C b)):=oD' (sQ a R h.1).1 (pG' (sQ b R h.2).1)
   exact⟨w.pt,fun _=>w⟩
  .simp only[af]at h
   rw[show tQ C (.and a b)=(sP' (tQ C a) (tQ C b)) from rfl]
   have w:=oD' (sQ a R h.1).1 ((sQ b R h.2).2 ⟨_,_,_,rfl⟩)
   exact⟨w.pt,fun _=>w⟩
 | .or a b,B,X,sc,e,R,h=>by
  replace h:=oV' h
  rcases h with⟨x,y,pos,rfl,h⟩|⟨x,y,z,r,pos,rfl,h⟩
  .simp only[af]at h
   rw[show tQ C (.or a b)=(tOr (tQ C a) (tQ C b)) from rfl]
   have w:PW X (.BoolOp .Or [x,y] pos) (tOr (tQ C a) (tQ C b)):=sR' (sQ a R h.1).1 (sQ' (sQ b R h.2).1)
   exact⟨w.pt,fun _=>w⟩
  .simp only[af]at h
   rw[show tQ C (.or a b)=(tOr (tQ C a) (tQ C b)) from rfl]
   have w:=sR' (sQ a R h.1).1 ((sQ b R h.2).2 ⟨_,_,_,rfl⟩)
   exact⟨w.pt,fun _=>w⟩
 | .cmp op a b,B,X,sc,e,R,h=>by
  refine uo' h fun ea op' eb w1 e0 g=>?_
  clear h
  subst e0
  revert g
  intro h
  simp only[af,decide_eq_true_eq]at h
  obtain⟨⟨⟨rfl,h1⟩,h2⟩,h3⟩:=h
  rw[show tQ C (.cmp op a b)=(gG' (tOp (cd' C.K op) (tE C a) (tE C b))) from rfl]
  rw[<- R.hK]
  exact⟨jN' (o2' R.hu _) (sE0 a R h1).1 (sE0 b R h2).1 (bT' h3),fun⟨op,vs,pos,z⟩=>by cases z⟩
termination_by structural c=>c
theorem sQo {C:Rc}:∀(q:Cqo) {B:List Str} {X:Cx} {sc:Scope} {es:List Expr},Rok C B X sc->mQo C.N B sc q es=true->PTs X es (tQo C q)
 | .none,B,X,sc,es,R,h=>by
  refine k5' h fun e0 g=>?_
  clear h
  subst e0
  revert g
  intro h
  rw[show tQo C .none=(fun _ H Q=>Q true H) from rfl];exact p5'
 | .some q,B,X,sc,es,R,h=>by
  refine yo' h fun e e0 g=>?_
  clear h
  subst e0
  revert g
  intro h
  rw[show tQo C (.some q)=(tQ C q) from rfl];exact p6' (sQ q R h).1
termination_by structural c=>c
theorem sO {C:Rc}:∀(o:Co) {B:List Str} {X:Cx} {sc:Scope} {e:Option Expr},Rok C B X sc->mO C.N B sc o e=true->PO X e (tO C o)
 | .none,B,X,sc,e,R,h=>by
  refine yp' h fun e0 g=>?_
  clear h
  subst e0
  revert g
  intro h
  rw[show tO C .none=(gH') from rfl];exact pX'
 | .some c,B,X,sc,e,R,h=>by
  refine yq' h fun y e0 g=>?_
  clear h
  subst e0
  revert g
  intro h
  rw[show tO C (.some c)=(pW' (tE C c)) from rfl];exact pY' (sE0 c R h).1
termination_by structural c=>c
theorem sI {C:Rc}:∀(i:Ci) {B:List Str} {X:Cx} {sc:Scope} {x tg:Expr},Rok C B X sc->mI C.N B sc i x=true->kQ' i tg=true->PI X tg x (tI C i)
 | .val c,B,X,sc,x,tg,R,h,_=>by
  rw[show tI C (.val c)=(xX' C.K (tE C c)) from rfl]
  rw[<- R.hK]
  exact tr' (sE0 c R h).1
 | .range1 a,B,X,sc,x,tg,R,h,_=>by
  refine ut' h fun n w1 y w2 e0 g=>?_
  clear h
  subst e0
  revert g
  intro h
  simp only[af,decide_eq_true_eq]at h
  obtain⟨⟨⟨⟨rfl,h1⟩,h2⟩,h3⟩,h4⟩:=h
  rw[show tI C (.range1 a)=(pP' (cA' (tE C a) jC')) from rfl]
  exact jI' (R.glb h1) (R.blt _ h2) (cI' (sE0 a R h3).1 fM' (aq' h4)) (aq' h4)
 | .zip a b,B,X,sc,x,tg,R,h,hz=>by
  refine yr' h fun n w1 y z w2 e0 g=>?_
  clear h
  subst e0
  revert g
  intro h
  simp only[af,decide_eq_true_eq]at h
  obtain⟨⟨⟨⟨⟨⟨rfl,h1⟩,h2⟩,h3⟩,h4⟩,h5⟩,h6⟩:=h
  rw[show tI C (.zip a b)=(xY' C.K (cA' (tE C a) (cA' (tE C b) jC'))) from rfl]
  rw[<- R.hK]
  have e2:starEach [_] X.env=[(false,eval _ X.env)]:=aq' (es:=[]) h6
  cases tg with
  |Tuple es k p=>exact ts' (R.glb h1) (R.blt _ h2) (cI' (sE0 a R h3).1 (cI' (sE0 b R h5).1 fM' (aq' h6)) (aq' h4)) (by rw[aq' h4,e2]) e2
  |_=>cases hz
 | .enum a,B,X,sc,x,tg,R,h,hz=>by
  refine ut' h fun n w1 y w2 e0 g=>?_
  clear h
  subst e0
  revert g
  intro h
  simp only[af,decide_eq_true_eq]at h
  obtain⟨⟨⟨⟨rfl,h1⟩,h2⟩,h3⟩,h4⟩:=h
  rw[show tI C (.enum a)=(qa' C.K (tE C a)) from rfl]
  rw[<- R.hK]
  cases tg with
  |Tuple es k p=>exact qb' (R.glb h1) (R.blt _ h2) (cI' (sE0 a R h3).1 fM' (aq' h4)) (aq' h4)
  |_=>cases hz
termination_by structural c=>c
theorem sG {C:Rc}:∀(t:Ct) {B:List Str} {X:Cx} {sc:Scope} {e:Expr},Rok C B X sc->mT C.N B sc t e=true->PG X e (tG C t)
 | .name i,B,X,sc,e,R,h=>by
  refine z9' h fun x w1 e0 g=>?_
  clear h
  subst e0
  revert g
  intro h
  simp only[af]at h
  obtain⟨h1,h2,h3⟩:=br' h.1
  obtain⟨h4,h5⟩:=R.locb h.2
  rw[show tG C (.name i)=(cY' i) from rfl]
  exact pM' (by rw[R.hN];exact R.nd) (by rw[R.hN];exact h1) h4 h5
 | .tup ts,B,X,sc,e,R,h=>by
  refine up' h fun es w1 w2 e0 g=>?_
  clear h
  subst e0
  revert g
  intro h
  rw[show tG C (.tup ts)=(yf' C.K (nl' ts) (tGs C ts)) from rfl]
  rw[<- R.hK]
  simp only[af,bw]at h
  exact uh' (R.calm h.2) (sGs ts R h.1) (cO' h.1).1 (cO' h.1).2
 | .sub o i,B,X,sc,e,R,h=>by
  refine qB' h fun eo ei w1 e0 g=>?_
  clear h
  subst e0
  revert g
  intro h
  simp only[af]at h
  rw[show tG C (.sub o i)=(xD' (tE C o) (tE C i) dG') from rfl]
  exact sX' (sE0 o R h.1.1).1 (sE0 i R h.1.2).1 mN' (qF' h.2)
termination_by structural c=>c
theorem sGs {C:Rc}:∀(ts:Cts) {B:List Str} {X:Cx} {sc:Scope} {es:List Expr},Rok C B X sc->mTs C.N B sc ts es=true->PGs X es (tGs C ts)
 | .nil,B,X,sc,es,R,h=>by
  refine k5' h fun e0 g=>?_
  clear h
  subst e0
  revert g
  intro h
  rw[show tGs C .nil=(xC') from rfl];exact pO'
 | .cons t r,B,X,sc,es,R,h=>by
  refine nn' h fun x xs e0 g=>?_
  clear h
  subst e0
  revert g
  intro h
  simp only[af]at h
  rw[show tGs C (.cons t r)=(pN' (tG C t) (tGs C r)) from rfl]
  exact mz' (sG t R h.1.1) (sGs r R h.2) (gZ' h.1.2)
termination_by structural c=>c
end
theorem sE {C:Rc} {B:List Str} (c:Ce) {X:Cx} {sc:Scope} {e:Expr} (R:Rok C B X sc) (h:mE C.N B sc c e=true):PE X e (tE C c):=(sE0 c R h).1
end R3
set_option maxHeartbeats 4000000
namespace R3
open PySem PySem.Spec PyProof.Rows L2
def ee':Expr->Bool
 | .ListComp ..=>false
 | .SetComp ..=>false
 | .DictComp ..=>false
 |_=>true
theorem nq' {x tg:Expr} {l:Nat} {env:Env} (h:ee' x=true):swapsWithSole [tg] x l env=pure false:=by
 cases x<;>first|rfl|cases h
theorem jk' {x:Expr} {l:Nat} {env:Env} (h:ee' x=true):swapsWith x none l env=pure false:=by
 cases x<;>first|rfl|cases h
set_option tactic.hygienic true in
theorem k8' {N B:List Str} {sc:Scope} {c:Ce} {x:Expr} (h:mE N B sc c x=true) (hd:gY' c=false) (hx:ee' x=false):∃elt own t it q r,c=.comp elt own t it q r/\∃ee gens scope pos,x=.ListComp ee gens scope pos:=by
 cases x<;>first|(cases hx;done)|skip
 .cases c<;>first|(exact ar' h)|(cases hd;done)|exact⟨_,_,_,_,_,_,rfl,_,_,_,_,rfl⟩
 .cases c<;>first|(exact ar' h)|(cases hd;done)|(rename_i r;cases r<;>first|(exact ar' h)|(cases hd;done)|(rename_i r;cases r<;>first|(exact ar' h)|(cases hd;done)|(rename_i r;cases r<;>exact ar' h)))
 .cases c<;>first|(exact ar' h)|(cases hd;done)|(rename_i r;cases r<;>first|(exact ar' h)|(cases hd;done)|(rename_i r;cases r<;>first|(exact ar' h)|(cases hd;done)|(rename_i r;cases r<;>exact ar' h)))
def o3':Expr->Bool
 | .Starred ..=>true
 |_=>false
theorem nst {e:Expr} (h:aH' e=true):o3' e=false:=by
 cases e<;>first|rfl|cases h
theorem g0' {x y:Str} {px py pt pt2:Pos} {kt k2:Nat} {ea eb:Expr} {env:Env} (hb:env.scope.kind=.function) (kx:env.kindOf x=some .local) (ky:env.kindOf y=some .local) (hxy:x≠y) (hl:px.line=py.line) (h8:aH' ea=true) (h9:aH' eb=true)
  (h11:(foldedForSure 8 ea&&foldedForSure 8 eb)=false) (h12:(constantsAlone 8 ea&&constantsAlone 8 eb)=false):swappedStores [.Tuple [.Name x px,.Name y py] kt pt] (.Tuple [ea,eb] k2 pt2) env=pure (some [x,y]):=by
 have hbk:env.blockKind=.function:=by unfold Env.blockKind;rw[hb];rfl
 have p1:(Expr.Name x px).pos=px:=rfl
 have p2:(Expr.Name y py).pos=py:=rfl
 have hyx:(y == x)=false:=by simpa using fun z=>hxy z.symm
 have s1:[ea,eb].any o3'=false:=by
  rw[cA,cA,List.any_nil,nst h8,nst h9]
  rfl
 have s2:[ea,eb].all (foldedForSure 8)=false:=by
  rw[dm,dm,List.all_nil,Bool.and_true];exact h11
 have s3:[ea,eb].all (constantsAlone 8)=false:=by
  rw[dm,dm,List.all_nil,Bool.and_true];exact h12
 have s4:([x,y].eraseDups).length=2:=by
  simp[List.eraseDups_cons,hxy,hyx]
 unfold swappedStores
 dsimp only
 refine(if_neg ?_).trans ((if_neg (Bool.eq_false_iff.mp s1)).trans ?_)
 .simp[hbk]
 rw[s2,s3]
 simp[kx,ky,p1,p2,hl,cv,s4]
theorem du' {tg:Expr} {env:Env} (h:aH' tg=true):(assignEach [tg] env).map (·.2)=[assign tg env]:=by
 cases tg<;>first|rfl|cases h
def qH':Expr->Expr->Bool
 | .Tuple ..,.Tuple ..=>false
 | .List ..,.Tuple ..=>false
 |_,_=>true
theorem eX' {tg x:Expr} {env:Env} (h:qH' tg x=true):swappedStores [tg] x env=pure none:=by
 cases tg<;>first|rfl|(cases x<;>first|rfl|cases h)
theorem gl' {tg:Expr} {vs:List Expr} {k:Nat} {pos:Pos} {env:Env} (h:vs.all (foldedForSure 8)=true):swappedStores [tg] (.Tuple vs k pos) env=pure none:=by
 have key:∀ts:List Expr,swappedStores [.Tuple ts 0 pos] (.Tuple vs k pos) env=pure none:=by
  intro ts
  unfold swappedStores
  dsimp only
  split
  .rfl
  .split
   .rfl
   .split
    .rfl
    .rfl
 cases tg<;>first|rfl|exact key _
theorem qI' {N B:List Str} {sc:Scope} {t:Ct} {a:List Expr} {p:Pos} (h:mT N B sc t (.List a p)=true):False:=by
 cases t<;>exact ar' h
set_option maxHeartbeats 4000000
mutual
theorem sS:∀(c:Cs) {C:Rc} {B:List Str} {X:Cx} {sc:Scope} {s:Stmt},Rok C B X sc->X.env.scope.kind=.function->mS C.N B sc c s=true->PS X s (tS C c)
 | .expr e,C,B,X,sc,s,R,hk,h=>by
  refine yt' h fun x w1 e0 g=>?_
  clear h
  subst e0
  revert g
  intro h
  obtain⟨hc,hd⟩:=gf' h
  clear h
  obtain⟨hc,hm⟩:=gf' hc
  replace hd:gY' e=false:=by cases z:gY' e with
   |false=>rfl
   |true=>rw[z]at hd;exact ar' hd
  rw[show tS C (.expr e)=(pK' (tE C e)) from rfl]
  refine pL' (sE e R hc) (jk' ?_)
  cases hx:ee' x with
  |true=>rfl
  |false=>
   obtain⟨elt,own,t,it,q,r,rfl,_⟩:=k8' hc hd hx
   exact ar' hm
 | .ret e,C,B,X,sc,s,R,hk,h=>by
  refine yu' h fun x w1 e0 g=>?_
  clear h
  subst e0
  revert g
  intro h
  rw[show tS C (.ret e)=(xy' (tE C e)) from rfl]
  exact sV' (sE e R h)
 | .asg t e,C,B,X,sc,s,R,hk,h=>by
  refine yv' h fun tg x pos e0 g=>?_
  clear h
  subst e0
  revert g
  intro h
  obtain⟨h,h4⟩:=gf' h
  obtain⟨h,h3⟩:=gf' h
  obtain⟨h,h2⟩:=gf' h
  obtain⟨h1,h0⟩:=gf' h
  replace h0:gY' e=false:=by cases z:gY' e with
   |false=>rfl
   |true=>rw[z]at h0;exact ar' h0
  rw[show tS C (.asg t e)=(jA' (tE C e) (tG C t)) from rfl]
  have hw:swappedStores [tg] x X.env=pure none:=by
   cases tg with
   |Tuple a b c=>cases x<;>first|exact eX' rfl|exact gl' h4|exact ar' h4
   |List a b=>exact(qI' h2).elim
   |_=>exact eX' rfl
  cases hx:ee' x with
  |true=>exact hF' (sE e R h1) (sG t R h2) (nq' hx) hw (du' h3)
  |false=>
   obtain⟨elt,own,t',it,q,r,rfl,ee,gens,scope,p2,rfl⟩:=k8' h1 h0 hx
   have D:=(sE0 _ R h1).2
   obtain⟨tg',iter,ifs,nx,scope',pos',D,hi,he,hu,hsw⟩:=D
   cases t with
   |name i=>
    cases tg with
    |Name y py=>
     obtain⟨b,hb⟩:=hsw y py pos.line
     cases b with
     |true=>
      replace h2:=gf' h2
      obtain⟨g1,g2,g3⟩:=br' h2.1
      obtain⟨g4,g5⟩:=R.locb h2.2
      exact i4' D hi (by rw[R.hN];exact R.nd) (by rw[R.hN];exact g1) g4 g5 (hu _) hb
     |false=>exact hF' (sE _ R h1) (sG _ R h2) hb hw (du' h3)
    |_=>exact ar' h2
   |tup ts=>
    cases tg with
    |Tuple a b c=>exact ar' h4
    |_=>exact ar' h2
   |sub o i=>
    cases tg with
    |Subscript a b c=>exact hF' (sE _ R h1) (sG _ R h2) rfl hw (du' h3)
    |_=>exact ar' h2
 | .setc2 i elt own t it q ws t2 it2 q2,C,B,X,sc,s,R,hk,h=>by
  refine yw' h fun y py ee tg iter ifs a tg2 iter2 ifs2 a2 scope p2 pos e0 g=>?_
  clear h
  subst e0
  revert g
  intro h
  simp only[af,decide_eq_true_eq,bw,bV]at h
  obtain⟨⟨⟨⟨⟨⟨⟨⟨⟨⟨⟨⟨⟨⟨⟨⟨⟨⟨hh,hnm⟩,hsc⟩,helt⟩,hown⟩,rfl⟩,h1⟩,h2⟩,h3⟩,h4⟩,h5⟩,rfl⟩,f1⟩,f2⟩,f3⟩,f4⟩,f5⟩,f6⟩,f7⟩:=h
  have hnm':=hnm
  replace hnm:=gf' hnm
  obtain⟨g1,g2,g3⟩:=br' hnm.1
  obtain⟨g4,g5⟩:=R.locb hnm.2
  rw[show tS C (.setc2 i elt own t it q ws t2 it2 q2)=(jA' (t8' own (tI C it) (tG C t) (tQo C q) (gM' (tI C it2) (aP' ws (tG C t2) (tQo C q2) (f8' (tE C elt))))) (cY' i)) from rfl]
  refine qy' (nx:=fun D env=>by' (.SetComp ee [⟨tg,iter,ifs,0⟩,⟨tg2,iter2,ifs2,0⟩] scope p2) 0 iter2 (.ref D) env) qw' (fun _=>rfl) nf' fn' qx' ⟨R.compSc hsc,?_,⟨_,rfl⟩,bf' h3,R.calm hh,fun _ _ _=>⟨rfl,rfl⟩,fun _ _ _ _=>⟨rfl,rfl⟩,fun _ _ _ _ _=>k7' _ _ _ _ _ _ _ _ _ _ _ _ _ _,fun _ _ _ _ _=>rfl,cN' hown,?_⟩ (sI it R h1 h2) (by rw[R.hN];exact R.nd) (by rw[R.hN];exact g1) g4 g5 (sG (.name i) R hnm') rfl rfl ⟨_,rfl⟩
  .rw[R.hN];exact(dt' hsc).2.2.2.2
  .intro s0 H0 ex D
   have R':=R.comp hh hsc s0 H0 ex
   refine⟨sG t R' h4,sQo q R' h5,ws,f7,?_⟩
   exact hI' (nx:=do let v <- eval ee (X.comp scope s0 H0 ex).env;standAt ee.pos;let _ <- call (.builtin "set.add") [.ref D,v]) rfl (R.calm hh) (fun _=>rfl) (fun _=>rfl) (fun _=>rfl) (fun _=>rfl) (fun _=>rfl) (fun _=>rfl) ⟨_,rfl,rfl⟩ (bf' f3) (sI it2 R' f1 f2) (sG t2 R' f4) (cN' f6) (sQo q2 R' f5) (kF' rfl (sE elt R' helt)) (by simp) fn'
 | .dctc tup i k v own t it q,C,B,X,sc,s,R,hk,h=>by
  refine yx' h fun y py ke ve tg iter ifs a scope p2 pos e0 g=>?_
  clear h
  subst e0
  revert g
  intro h
  simp only[af,decide_eq_true_eq,bw]at h
  obtain⟨⟨⟨⟨⟨⟨⟨⟨⟨⟨⟨hh,hnm⟩,hsc⟩,hke⟩,hve⟩,hown⟩,rfl⟩,h1⟩,h2⟩,h3⟩,h4⟩,h5⟩:=h
  have hnm':=hnm
  replace hnm:=gf' hnm
  obtain⟨g1,g2,g3⟩:=br' hnm.1
  obtain⟨g4,g5⟩:=R.locb hnm.2
  rw[show tS C (.dctc tup i k v own t it q)=(if tup then jA' (ua' own (tI C it) (tG C t) (tQo C q) (tE C k) (tE C v)) (cY' i)else jA' (t9' own (tI C it) (tG C t) (tQo C q) (tE C k) (tE C v)) (cY' i)) from rfl]
  cases tup with
  |false=>
   refine qy' (Is:=t4' X.prog X.w) (nx:=fun D env=>uy' ke ve D env) h5' (fun _=>rfl) kH' ga' t5' ⟨R.compSc hsc,?_,⟨[],rfl⟩,bf' h3,R.calm hh,fun _ _ _=>⟨rfl,rfl⟩,fun _ _ _ _=>⟨rfl,rfl⟩,fun _ _ _ _ _=>rfl,fun _ _ _ _ _=>rfl,cN' hown,?_⟩ (sI it R h1 h2) (by rw[R.hN];exact R.nd) (by rw[R.hN];exact g1) g4 g5 (sG (.name i) R hnm') rfl rfl ⟨_,rfl⟩
   .rw[R.hN];exact(dt' hsc).2.2.2.2
   .intro s0 H0 ex D
    have R':=R.comp hh hsc s0 H0 ex
    exact⟨sG t R' h4,sQo q R' h5,[],by simp,kI' rfl (sE k R' hke) (sE v R' hve)⟩
  |true=>
   refine qy' (Is:=t6' X.prog X.w) (nx:=fun D env=>uy' ke ve D env) h5' (fun _=>rfl) kJ' gb' t7' ⟨R.compSc hsc,?_,⟨[],rfl⟩,bf' h3,R.calm hh,fun _ _ _=>⟨rfl,rfl⟩,fun _ _ _ _=>⟨rfl,rfl⟩,fun _ _ _ _ _=>rfl,fun _ _ _ _ _=>rfl,cN' hown,?_⟩ (sI it R h1 h2) (by rw[R.hN];exact R.nd) (by rw[R.hN];exact g1) g4 g5 (sG (.name i) R hnm') rfl rfl ⟨_,rfl⟩
   .rw[R.hN];exact(dt' hsc).2.2.2.2
   .intro s0 H0 ex D
    have R':=R.comp hh hsc s0 H0 ex
    exact⟨sG t R' h4,sQo q R' h5,[],by simp,kK' R'.hu1 rfl (sE k R' hke) (sE v R' hve)⟩
 | .par i j a b,C,B,X,sc,s,R,hk,h=>by
  refine yy' h fun x px y py kt pt ea eb k2 pt2 pos e0 g=>?_
  clear h
  subst e0
  revert g
  intro h
  simp only[af,decide_eq_true_eq,bw,beq_iff_eq]at h
  obtain⟨⟨⟨⟨⟨⟨⟨⟨⟨⟨⟨⟨h1,h2⟩,h3⟩,h4⟩,h5⟩,h6⟩,h7⟩,h8⟩,h9⟩,h10⟩,h11⟩,h12⟩,hh⟩:=h
  obtain⟨g1,g2,g3⟩:=br' h1
  obtain⟨f1,f2,f3⟩:=br' h2
  rw[show tS C (.par i j a b)=(xE' i j (cA' (tE C a) (cA' (tE C b) jC'))) from rfl]
  have lx:=R.loc x h4
  have ly:=R.loc y h5
  refine sY' (R.calm hh) (by rw[R.hN];exact R.nd) (by rw[R.hN];exact g1) (by rw[R.hN];exact f1) h3 lx ly (cI' (sE a R h6) (cI' (sE b R h7) fM' (aq' h9)) (aq' h8)) ?_
  have hxy:x≠y:=fun z=>h3 (e8' R.nd g1 (z ▸ f1))
  exact g0' hk lx ly hxy h10 h8 h9 h11 h12
 | .dput o i e,C,B,X,sc,s,R,hk,h=>by
  refine yz' h fun eo ei w1 ee w2 e0 g=>?_
  clear h
  subst e0
  revert g
  intro h
  simp only[af]at h
  obtain⟨⟨⟨⟨h1,h2⟩,h3⟩,h4⟩,h5⟩:=h
  rw[show tS C (.dput o i e)=(qi' (tE C o) (tE C i) (tE C e)) from rfl]
  refine qk' R.hu1 (sE o R h1) (sE i R h2) (sE e R h4) ?_
  cases ee<;>first|rfl|cases h5
 | .ite q a b,C,B,X,sc,s,R,hk,h=>by
  refine yA' h fun x ss rs w1 e0 g=>?_
  clear h
  subst e0
  revert g
  intro h
  simp only[af]at h
  rw[show tS C (.ite q a b)=(xz' (tQ C q) (tSs C a) (tSs C b)) from rfl]
  exact xA' (sQ q R h.1.1).1 (sSs a R hk h.1.2) (sSs b R hk h.2)
 | .whl q b,C,B,X,sc,s,R,hk,h=>by
  refine yB' h fun x ss w1 e0 g=>?_
  clear h
  subst e0
  revert g
  intro h
  simp only[af]at h
  rw[show tS C (.whl q b)=(jG' (tQ C q) (tSs C b)) from rfl]
  exact mA' R.own (sQ q R h.1).1 (sSs b R hk h.2)
 | .for_ t it b,C,B,X,sc,s,R,hk,h=>by
  refine yC' h fun tg iter ss w1 e0 g=>?_
  clear h
  subst e0
  revert g
  intro h
  simp only[af,bw]at h
  obtain⟨⟨⟨⟨⟨h1,h2⟩,h3⟩,h4⟩,h5⟩,hh⟩:=h
  rw[show tS C (.for_ t it b)=(xF' (tI C it) (tG C t) (tSs C b)) from rfl]
  exact sZ' R.own (R.calm hh) (sI it R h1 h2) (sG t R h4) (sSs b R hk h5) (bf' h3)
theorem sSs:∀(c:Css) {C:Rc} {B:List Str} {X:Cx} {sc:Scope} {ss:List Stmt},Rok C B X sc->X.env.scope.kind=.function->mSs C.N B sc c ss=true->PSs X ss (tSs C c)
 | .nil,C,B,X,sc,ss,R,hk,h=>by
  refine yD' h fun e0 g=>?_
  clear h
  subst e0
  revert g
  intro h
  rw[show tSs C .nil=(pI') from rfl];exact pJ'
 | .cons c r,C,B,X,sc,ss,R,hk,h=>by
  refine yE' h fun x xs e0 g=>?_
  clear h
  subst e0
  revert g
  intro h
  simp only[af]at h
  rw[show tSs C (.cons c r)=(xx' (tS C c) (tSs C r)) from rfl]
  exact my' (sS c R hk h.1) (sSs r R hk h.2)
end
section
variable {P:Program} {w:World} {K:W.Frag} {mg:Str->Option Value} {base:Heap}
structure Ask (P:Program) (w:World) (K:W.Frag) (mg:Str->Option Value) (base:Heap) (k:Nat) (C:Rc):Prop where
 fs:∀y sp',C.fs y=some sp'->∃f' fd' ps',(FnOk P w K mg base CX0 k f' fd' ps' sp'\/FnOk P w K mg base (CX1 P w mg) k f' fd' ps' sp'/\sF' y∈C.B)/\mg y=some (.ref f')/\W.keepIn K (.ref f')=true/\eD' K fd' ps' []
 B:∀y∈C.B,mg y=none
 mrk:mg "~"=none/\mg "^"=none/\mg "%"=none
 cl:∀c Ca,C.cl c=some Ca->mg c=some (.ref Ca)/\W.nsIn K mainGlobals c=some (some (.ref Ca))
 nt:tld C.B=false
 nh:hat C.B=false
theorem qJ' {x qual:Str} {st:Stmt} {f:Addr} {fd:FuncData} {ps:List Str} {k:Nat} {sp:Sp} (F:Fun K x qual st f fd) (C:Rc) (S:FnScope C.N ps (ad' st)) (hK:C.K=K) (code:Css) (hm:mSs C.N C.B (ad' st) code (al' st)=true)
  (len:∀vs H Q E,sp vs H Q E->vs.length=ps.length) (ask:Ask P w K mg base k C) (hxk:C.xk=fun _=>E0)
  (hbody:∀vs H Q E,sp vs H Q E->tSs C code { nx:=fun _ H'=>Q .non H',rt:=Q } (aF' C.N vs) H):FnOk P w K mg base CX0 (k+1) f fd ps sp:=by
 obtain⟨oc,od,kV,doc,pm,an,cdv,ct,osl,rfl,lk,hcd⟩:=F.ex
 refine xT' lk hcd S len fun A outer s H vs Q E hr h=>⟨_,(show PSs (sB' CX0 P w K mg base C.N qual (ad' st) f cdv A outer s H E).nox (al' st) (tSs C code) from sSs code (sc:=ad' st) (B:=C.B) ?_ S.kind hm).nox,hbody vs H Q E h⟩
 refine⟨rfl,S.nd,hK.symm,PassesOwn.never,fun _=>rfl,hr.units,hr.gd,fun _ e=>e,fun _ e=>⟨e,rfl⟩,fun _ e=>.inr e,fun _ e=>e,fun y sp' e _ _=>?_,ask.B,ask.mrk,ask.cl,fun _=>⟨rfl,fun _=>rfl,rfl,rfl,tZ' hcd⟩,fun _=>ask.nh,fun _ _ nm Ca p_ σ H s e t _ _ _ _ _ _ z=>?_⟩
 .obtain⟨f',fd',ps',h1,h2,h3,h4⟩:=ask.fs y sp' e
  rcases h1 with h1|⟨h1,hb⟩
  .exact⟨f',fd',ps',k,CX0,h1,hr,h2,h3,h4,.inl rfl,o1'⟩
  .refine⟨f',fd',ps',k,_,h1,hr,h2,h3,h4,.inr ⟨rfl,hb⟩,?_⟩
   rintro p_ σ H s e s' I ⟨ea,T,Ca,nm,H',_,_,_,_,_,_,_,_,_,_,_,z⟩
   rw[hxk]at z
   exact z.elim
 .rw[hxk]at z
  exact z.elim
end
def nr' (a:Addr) (k:Nat) (h:Heap):Prop:=∃(x y z:Int) (t1 t2 t3:Tok) (n:Nat),h.get? a=some { cls:=.type "list",data:=.seq #[.int x t1,.int y t2,.int z t3] n }/\0<=x/\0<=y/\y<2 ^ 62/\0<=z/\z<=k
def dn' (a:Addr) (k:Nat):HO:=.ext (nr' a k)
def gm' (x y z:Int):HO:=.lst [.int x,.int y,.int z]
theorem uz' {a:Addr} {n k:Nat} (e:dn' a n=dn' a k):n<=k:=by
 have e1:nr' a n=nr' a k:=HO.ext.inj e
 let o:Obj:={ cls:=.type "list",data:=.seq #[.int 0 0,.int 0 0,.int n 0] 0 }
 let h0:Heap:={ (default:Heap)with objs:=Array.replicate a default }
 have hs:h0.objs.size=a:=Array.size_replicate
 have g:(h0.push o).get? a=some o:=by
  have:=aC h0 (o:=o) rfl
  rw[hs]at this
  exact this
 have q:nr' a n (h0.push o):=⟨0,0,n,0,0,0,0,g,⋯,⋯,by decide,⋯,⋯⟩
 rw[e1]at q
 obtain⟨x,y,z,t1,t2,t3,m,g2,_,_,_,_,hz⟩:=q
 rw[g]at g2
 have g3:=Option.some.inj g2
 have g4:(#[.int 0 0,.int 0 0,.int n 0]:Array Value)=#[.int x t1,.int y t2,.int z t3]:=by
  have:o.data=_:=congrArg Obj.data g3
  injection this
 have g6:=congrArg Array.toList g4
 simp only[List.cons.injEq,Value.int.injEq]at g6
 have g5:(n:Int)=z:=g6.2.2.1.1
 omega
theorem k9' {P:Program} {w:World} {H:Hp} {h:Heap} {b:Addr} {x y z:Int} {k:Nat} (hok:HOk P w H h) (e:H b=some (gm' x y z)) (hx:0<=x) (hy:0<=y) (hy2:y<2 ^ 62) (hz:0<=z) (hk:z<=k):HOk P w (upd H b (dn' b k)) h:=by
 intro c o ec
 by_cases hc:c=b
 .subst hc
  rw[ab']at ec
  cases ec
  obtain⟨_,its,n,rv,g⟩:=(show aJ' P w H h c (.lst _) from hok c _ e)
  cases rv with
  |cons r1 r=>
   cases r with
   |cons r2 r=>
    cases r with
    |cons r3 r=>
     cases r
     obtain⟨t1,rfl⟩:=r1
     obtain⟨t2,rfl⟩:=r2
     obtain⟨t3,rfl⟩:=r3
     refine⟨⟨x,y,z,t1,t2,t3,n,g,hx,hy,hy2,hz,hk⟩,⟨_,g⟩,fun h1 h2 q kk=>?_⟩
     obtain⟨x,y,z,t1,t2,t3,n,g,r⟩:=q
     exact⟨x,y,z,t1,t2,t3,n,kk _ g,r⟩
 .rw[af' hc]at ec
  have ne:∀d u,H d=some u->(∀xs,u≠.lst xs)->d≠b:=fun d u q nu z=>by subst z;rw[e]at q;cases q;exact nu _ rfl
  exact(hok c o ec).stay (fun _ _ _ q=>q) (fun d q=>by rw[af' (ne d _ q fun _ z=>by cases z)];exact q) fun d xs q=>by rw[af' (ne d _ q fun _ z=>by cases z)];exact q
theorem ns' {P:Program} {w:World} {H:Hp} {h:Heap} {b:Addr} {k:Nat} (hok:HOk P w H h) (e:H b=some (dn' b k)):∃x y z:Int,0<=x/\0<=y/\y<2 ^ 62/\0<=z/\z<=k/\HOk P w (upd H b (gm' x y z)) h:=by
 obtain⟨⟨x,y,z,t1,t2,t3,n,g,hx,hy,hy2,hz,hk⟩,_,_⟩:=(show aJ' P w H h b (.ext _) from hok b _ e)
 refine⟨x,y,z,hx,hy,hy2,hz,hk,fun c o ec=>?_⟩
 by_cases hc:c=b
 .subst hc
  rw[ab']at ec
  cases ec
  exact⟨by show 3<=sizeLine;decide,[.int x t1,.int y t2,.int z t3],n,.cons ⟨_,rfl⟩ (.cons ⟨_,rfl⟩ (.cons ⟨_,rfl⟩ .nil)),g⟩
 .rw[af' hc]at ec
  have ne:∀d u,H d=some u->(∀φ,u≠.ext φ)->d≠b:=fun d u q nu z=>by subst z;rw[e]at q;cases q;exact nu _ rfl
  exact(hok c o ec).stay (fun _ _ _ q=>q) (fun d q=>by rw[af' (ne d _ q fun _ z=>by cases z)];exact q) fun d xs q=>by rw[af' (ne d _ q fun _ z=>by cases z)];exact q
theorem nt' {fs ex:List Addr} {H H':Hp} {h h':Heap} {b:Addr} {xs:List V} {o:HO} (u:Un fs ex H H' h h') (e:H' b=some (.lst xs)):Un fs ex H (upd H' b o) h h' where
 keep:=u.keep
 slot:=u.slot
 free:=fun c ob q n hx=>by
  have z:=u.free c ob q n hx
  rw[af' (fun z2=>by subst z2;rw[e]at z;cases z)]
  exact z
 there:=u.there
 tups:=fun c ys q=>by
  have z:=u.tups c ys q
  rw[af' (fun z2=>by subst z2;rw[e]at z;cases z)]
  exact z
 frzs:=fun c ob ys q=>by
  have z:=u.frzs c ob ys q
  rw[af' (fun z2=>by subst z2;rw[e]at z;cases z)]
  exact z
 tbls:=fun c ps q=>by
  obtain⟨m,z⟩:=u.tbls c ps q
  exact⟨m,by rw[af' (fun z2=>by subst z2;rw[e]at z;cases z)];exact z⟩
theorem qK' {fs ex:List Addr} {H H':Hp} {h h':Heap} {b:Addr} {φ:Heap->Prop} {o:HO} (u:Un fs ex (upd H b o) H' h h') (e:H b=some (.ext φ)):Un fs ex H H' h h':=by
 have ne:∀c,H c=none->c≠b:=fun c n z=>by subst z;rw[e]at n;cases n
 have ne2:∀c v,H c=some v->(∀ψ,v≠.ext ψ)->c≠b:=fun c v q nv z=>by subst z;rw[e]at q;cases q;exact nv _ rfl
 exact⟨fun c ob q n=>u.keep c ob q (by rw[af' (ne c n)];exact n),fun c ob q n=>u.slot c ob q (by rw[af' (ne c n)];exact n),fun c ob q n=>u.free c ob q (by rw[af' (ne c n)];exact n),u.there,
  fun c ys q=>u.tups c ys (by rw[af' (ne2 c _ q fun _ z=>by cases z)];exact q),fun c ob ys q=>u.frzs c ob ys (by rw[af' (ne2 c _ q fun _ z=>by cases z)];exact q),fun c ps q=>u.tbls c ps (by rw[af' (ne2 c _ q fun _ z=>by cases z)];exact q)⟩
section
variable {P:Program} {w:World} {K:W.Frag} {mg:Str->Option Value} {base:Heap} {k:Nat} {f:Addr} {fd:FuncData} {ps:List Str} {sp sp':Sp}
def Ab' (Q:VK) (v:V) (H:Hp):Prop:=∃b x y z m,H b=some (gm' x y z)/\0<=x/\0<=y/\y<2 ^ 62/\0<=z/\z<=((m:Nat):Int)/\Q v (upd H b (dn' b m))
theorem la' (F:FnOk P w K mg base CX0 k f fd ps sp) (h:∀vs H Q E,sp' vs H Q E->sp vs H (Ab' Q) E):FnOk P w K mg base CX0 k f fd ps sp':=by
 refine⟨fun vs H Q E q=>F.len vs H _ E (h _ _ _ _ q),fun A outer s H args us vs Q E hr e0 hb hv hs=>?_⟩
 refine codeAny_mono (F.run A outer s H args us vs _ E hr e0 hb hv (h _ _ _ _ hs)) fun r s' hq=>?_
 cases r with
 |error e=>exact hq
 |ok fl=>
  cases fl with
  |next=>exact hq
  |brk=>exact hq
  |cont=>exact hq
  |ret u=>
   obtain⟨v,H',os,bare,un,hok,rv,b,x,y,z,m,eb,hx,hy,hy2,hz,hm,q⟩:=hq
   exact⟨v,_,os,bare,nt' un eb,k9' hok eb hx hy hy2 hz hm,rv,q⟩
theorem qL' (F:FnOk P w K mg base CX0 k f fd ps sp) (h:∀vs H Q E,sp' vs H Q E->∃b n,H b=some (dn' b n)/\∀x y z,0<=x->0<=y->y<2 ^ 62->0<=z->z<=((n:Nat):Int)->sp vs (upd H b (gm' x y z)) Q E) (len:∀vs H Q E,sp' vs H Q E->vs.length=ps.length):FnOk P w K mg base CX0 k f fd ps sp':=by
 refine⟨len,fun A outer s H args us vs Q E hr e0 hb hv hs=>?_⟩
 obtain⟨b,n,eb,hsp⟩:=h _ _ _ _ hs
 obtain⟨x,y,z,hx,hy,hy2,hz,hn,hok⟩:=ns' e0.hok eb
 have ne:∀c,H c=none->c≠b:=fun c n z=>by subst z;rw[eb]at n;cases n
 have e1:Env0 P w K mg base A outer s (upd H b (gm' x y z)):=⟨e0.frames,e0.mod,fun c o e=>⟨(e0.bs c o e).1,by rw[af' (ne c (e0.bs c o e).2)];exact(e0.bs c o e).2⟩,e0.bsz,e0.funs,fun c hc=>by rw[af' (ne c (e0.frf c hc))];exact e0.frf c hc,hok,e0.bare⟩
 refine codeAny_mono (F.run A outer s _ args us vs Q E hr e1 hb hv (hsp x y z hx hy hy2 hz hn)) fun r s' hq=>?_
 cases r with
 |error e=>exact hq
 |ok fl=>
  cases fl with
  |next=>exact hq
  |brk=>exact hq
  |cont=>exact hq
  |ret u=>
   obtain⟨v,H',os,bare,un,hok,rv,q⟩:=hq
   exact⟨v,H',os,bare,qK' un eb,hok,rv,q⟩
end
structure Go (c:Nat) (H H':Hp):Prop where
 box:∀a n,H a=some (dn' a n)->∃m,m<=n+c/\H' a=some (dn' a m)
 oth:∀a o,H a=some o->(∀φ,o≠.ext φ)->H' a=some o
 free:∀a,H' a=none->H a=none
theorem Go.of_same {c:Nat} {H H':Hp} (h:aC' H H'):Go c H H':=⟨fun a n e=>⟨n,⋯,h a _ e⟩,fun a o e _=>h a o e,fun a e=>h.free e⟩
theorem Go.refl {c:Nat} {H:Hp}:Go c H H:=.of_same (aC'.refl H)
theorem Go.trans {c d:Nat} {H H1 H2:Hp} (a:Go c H H1) (b:Go d H1 H2):Go (c+d) H H2:=⟨fun p n e=>by
  obtain⟨m,hm,e1⟩:=a.box p n e
  obtain⟨m',hm',e2⟩:=b.box p m e1
  exact⟨m',⋯,e2⟩,fun p o e no=>b.oth p o (a.oth p o e no) no,fun p e=>a.free p (b.free p e)⟩
theorem Go.mono {c d:Nat} {H H1:Hp} (a:Go c H H1) (h:c<=d):Go d H H1:=⟨fun p n e=>by
  obtain⟨m,hm,e1⟩:=a.box p n e
  exact⟨m,⋯,e1⟩,a.oth,a.free⟩
theorem Go.lst {c:Nat} {H H1:Hp} (a:Go c H H1) {p:Addr} {xs:List V} (e:H p=some (.lst xs)):H1 p=some (.lst xs):=a.oth p _ e fun _ z=>by cases z
theorem Go.tup {c:Nat} {H H1:Hp} (a:Go c H H1) {p:Addr} {xs:List V} (e:H p=some (.tup xs)):H1 p=some (.tup xs):=a.oth p _ e fun _ z=>by cases z
theorem Go.seq {c:Nat} {K:W.Frag} {H H1:Hp} (g:Go c H H1) {a:Addr} {xs:List V} (h:SqL K H a xs):SqL K H1 a xs:=by
 rcases h with(h|⟨o,h⟩)|h
 .exact .inl (.inl (g.lst h))
 .exact .inl (.inr ⟨o,g.oth _ _ h fun _ z=>by cases z⟩)
 .exact .inr h
theorem Go.draw {H:Hp} {b:Addr} {n m:Nat} (e:H b=some (dn' b n)) (h:m<=n+1) (o:HO):Go 1 H (upd (upd H b o) b (dn' b m)):=by
 rw[dW']
 refine⟨fun p k q=>?_,fun p u q no=>?_,fun p q=>?_⟩
 .by_cases hp:p=b
  .subst hp
   rw[e]at q
   have:=uz' (Option.some.inj q)
   exact⟨m,⋯,ab'⟩
  .exact⟨k,⋯,by rw[af' hp];exact q⟩
 .rw[af']
  .exact q
  .intro z
   subst z
   rw[e]at q
   cases q
   exact no _ rfl
 .by_cases hp:p=b
  .subst hp
   rw[ab']at q
   cases q
  .rw[af' hp]at q
   exact q
section
variable {C:Rc} {σ:L2.St} {H:Hp} {Q:VK} {D:Ends} {Qb:Bool->Hp->Prop}
def kV (o:Option (Option V)) (H:Hp) (Q:VK):Prop:=∃v,o=some (some v)/\Q v H
theorem qM' {v:V}:kV (some (some v)) H Q=Q v H:=propext ⟨fun⟨u,e,q⟩=>by cases e;exact q,fun q=>⟨v,rfl,q⟩⟩
theorem uA' {i:Nat}:tE C (.var i) σ H Q=kV σ[i]? H Q:=rfl
theorem uB' {n:Int}:tE C (.int n) σ H Q=Q (.int n) H:=rfl
theorem yH' {b:Bool}:tE C (.bl b) σ H Q=Q (.bl b) H:=rfl
theorem uC':tE C .non σ H Q=Q .non H:=rfl
theorem uD' {x:Str}:tE C (.str x) σ H Q=Q (.str x) H:=rfl
def kB1 (C:Rc) (σ:L2.St) (op:Operator) (b:Ce) (Q:VK):VK:=fun x H=>tE C b σ H fun y H2=>fp' C.K op x y H2 Q
def kB2 (C:Rc) (op:Operator) (x:V) (Q:VK):VK:=fun y H=>fp' C.K op x y H Q
theorem uE' {op:Operator} {a b:Ce}:tE C (.bin op a b) σ H Q=tE C a σ H (kB1 C σ op b Q):=rfl
theorem uF' {op:Operator} {b:Ce} {x:V}:kB1 C σ op b Q x H=tE C b σ H (kB2 C op x Q):=rfl
theorem uG' {op:Operator} {x y:V}:kB2 C op x Q y H=fp' C.K op x y H Q:=rfl
def kC1 (C:Rc) (σ:L2.St) (op:CmpOp) (b:Ce) (Q:VK):VK:=fun x H=>tE C b σ H fun y H2=>cd' C.K op x y H2 Q
def kC2 (C:Rc) (op:CmpOp) (x:V) (Q:VK):VK:=fun y H=>cd' C.K op x y H Q
theorem uH' {op:CmpOp} {a b:Ce}:tE C (.cmp op a b) σ H Q=tE C a σ H (kC1 C σ op b Q):=rfl
theorem uI' {op:CmpOp} {b:Ce} {x:V}:kC1 C σ op b Q x H=tE C b σ H (kC2 C op x Q):=rfl
theorem uJ' {op:CmpOp} {x y:V}:kC2 C op x Q y H=cd' C.K op x y H Q:=rfl
def kI1 (C:Rc) (σ:L2.St) (b:Ce) (Q:VK):VK:=fun x H=>tE C b σ H fun y H2=>nj' C.K x y H2 Q
def kI2 (C:Rc) (x:V) (Q:VK):VK:=fun y H=>nj' C.K x y H Q
theorem uK' {a b:Ce}:tE C (.idx a b) σ H Q=tE C a σ H (kI1 C σ b Q):=rfl
theorem uL' {b:Ce} {x:V}:kI1 C σ b Q x H=tE C b σ H (kI2 C x Q):=rfl
theorem uM' {x y:V}:kI2 C x Q y H=nj' C.K x y H Q:=rfl
def kT (Qb:Bool->Hp->Prop):VK:=fun x H=>∃k,x=.bl k/\Qb k H
theorem yI' {k:Bool}:kT Qb (.bl k) H=Qb k H:=propext ⟨fun⟨u,e,q⟩=>by cases e;exact q,fun q=>⟨k,rfl,q⟩⟩
theorem uN' {op:CmpOp} {a b:Ce}:tQ C (.cmp op a b) σ H Qb=tE C a σ H (kC1 C σ op b (kT Qb)):=rfl
def uO' (Qb:Bool->Hp->Prop):Bool->Hp->Prop:=fun c H=>Qb (!c) H
theorem uP' {q:Cq}:tQ C (.not q) σ H Qb=tQ C q σ H (uO' Qb):=rfl
theorem nu' {c:Bool}:uO' Qb c H=Qb (!c) H:=rfl
def qN' (C:Rc) (σ:L2.St) (b:Cq) (Qb:Bool->Hp->Prop):Bool->Hp->Prop:=fun c H=>if c=true then tQ C b σ H Qb else Qb false H
def yJ' (C:Rc) (σ:L2.St) (b:Cq) (Qb:Bool->Hp->Prop):Bool->Hp->Prop:=fun c H=>if c=true then Qb true H else tQ C b σ H Qb
theorem uQ' {a b:Cq}:tQ C (.and a b) σ H Qb=tQ C a σ H (qN' C σ b Qb):=rfl
theorem yK' {a b:Cq}:tQ C (.or a b) σ H Qb=tQ C a σ H (yJ' C σ b Qb):=rfl
theorem qO' {b:Cq}:qN' C σ b Qb true H=tQ C b σ H Qb:=rfl
theorem qP' {b:Cq}:qN' C σ b Qb false H=Qb false H:=rfl
theorem uR' {b:Cq}:yJ' C σ b Qb true H=Qb true H:=rfl
theorem uS' {b:Cq}:yJ' C σ b Qb false H=tQ C b σ H Qb:=rfl
variable {K:W.Frag} {i j:Int} {x y:Str}
theorem yL':fp' K .Add (.int i) (.int j) H Q=Q (.int (i+j)) H:=rfl
theorem uT':fp' K .Add (.str x) (.str y) H Q=(x.length+y.length<=sizeLine/\Q (.str (x++y)) H):=rfl
theorem yM':fp' K .Sub (.int i) (.int j) H Q=Q (.int (i-j)) H:=propext ⟨fun⟨_,_,e,e',q⟩=>by cases e;cases e';exact q,fun q=>⟨_,_,rfl,rfl,q⟩⟩
theorem yN':fp' K .Mult (.int i) (.int j) H Q=(um' i j/\Q (.int (i*j)) H):=rfl
theorem uU':fp' K .Mult (.str x) (.int j) H Q=(-1000000<=j/\j<=1000000/\x.length*j.toNat<=1000000/\Q (.str (Txt.mul x j)) H):=rfl
theorem yO':fp' K .Mod (.int i) (.int j) H Q=(0<j/\Q (.int (i % j)) H):=propext ⟨fun⟨_,_,e,e',c,q⟩=>by cases e;cases e';exact⟨c,q⟩,fun q=>⟨_,_,rfl,rfl,q.1,q.2⟩⟩
theorem yP':fp' K .FloorDiv (.int i) (.int j) H Q=(ul' i j/\Q (.int (i / j)) H):=propext ⟨fun⟨_,_,e,e',c,q⟩=>by cases e;cases e';exact⟨c,q⟩,fun q=>⟨_,_,rfl,rfl,q.1,q.2⟩⟩
theorem yQ':fp' K .Pow (.int i) (.int j) H Q=(xJ' i j/\Q (.int (i ^ j.toNat)) H):=propext ⟨fun⟨_,_,e,e',c,q⟩=>by cases e;cases e';exact⟨c,q⟩,fun q=>⟨_,_,rfl,rfl,q.1,q.2⟩⟩
theorem AQ':cd' K .Lt (.int i) (.int j) H Q=Q (.bl (decide (i<j))) H:=propext ⟨fun⟨_,_,e,e',q⟩=>by cases e;cases e';exact q,fun q=>⟨_,_,rfl,rfl,q⟩⟩
theorem AR':cd' K .LtE (.int i) (.int j) H Q=Q (.bl (decide (i<=j))) H:=propext ⟨fun⟨_,_,e,e',q⟩=>by cases e;cases e';exact q,fun q=>⟨_,_,rfl,rfl,q⟩⟩
theorem AS':cd' K .Gt (.int i) (.int j) H Q=Q (.bl (decide (j<i))) H:=propext ⟨fun⟨_,_,e,e',q⟩=>by cases e;cases e';exact q,fun q=>⟨_,_,rfl,rfl,q⟩⟩
theorem AT':cd' K .GtE (.int i) (.int j) H Q=Q (.bl (decide (j<=i))) H:=propext ⟨fun⟨_,_,e,e',q⟩=>by cases e;cases e';exact q,fun q=>⟨_,_,rfl,rfl,q⟩⟩
theorem Ac':cd' K .Eq (.int i) (.int j) H Q=Q (.bl (decide (i=j))) H:=by
 have e:decide (V.int i=V.int j)=decide (i=j):=by simp
 exact propext ⟨fun q=>e ▸ q.2,fun q=>⟨rfl,e.symm ▸ q⟩⟩
theorem yR':cd' K .Eq (.str x) (.str y) H Q=Q (.bl (decide (x=y))) H:=by
 have e:decide (V.str x=V.str y)=decide (x=y):=by simp
 exact propext ⟨fun q=>e ▸ q.2,fun q=>⟨rfl,e.symm ▸ q⟩⟩
theorem uV' {a:Addr}:nj' K (.ref a) (.int i) H Q=(gC' K (.ref a) (.int i) H Q\/gJ' K (.ref a) (.int i) H Q):=rfl
def qQ' (C:Rc) (r:Css) (D:Ends):Ends:={ D with nx:=tSs C r D }
theorem uW':tSs C .nil D σ H=D.nx σ H:=rfl
theorem qR' {s:Cs} {r:Css}:tSs C (.cons s r) D σ H=tS C s (qQ' C r D) σ H:=rfl
theorem lb' {r:Css}:(qQ' C r D).nx σ H=tSs C r D σ H:=rfl
theorem uX' {r:Css}:(qQ' C r D).rt=D.rt:=rfl
theorem uY' {r:Css}:(qQ' C r D).bk=D.bk:=rfl
theorem uZ' {r:Css}:(qQ' C r D).ct=D.ct:=rfl
theorem yS' {e:Ce}:tS C (.ret e) D σ H=tE C e σ H D.rt:=rfl
def u0' (D:Ends) (σ:L2.St):VK:=fun _ H=>D.nx σ H
theorem u1' {e:Ce}:tS C (.expr e) D σ H=tE C e σ H (u0' D σ):=rfl
theorem nv' {v:V}:u0' D σ v H=D.nx σ H:=rfl
def Ad' (i:Nat) (D:Ends) (σ:L2.St):VK:=fun x H=>D.nx (σ.set i (some x)) H
theorem yT' {i:Nat} {e:Ce}:tS C (.asg (.name i) e) D σ H=tE C e σ H (Ad' i D σ):=rfl
theorem qS' {i:Nat} {v:V}:Ad' i D σ v H=D.nx (σ.set i (some v)) H:=rfl
def u2' (C:Rc) (o i:Ce) (D:Ends) (σ:L2.St):VK:=fun v H=>tE C o σ H fun p H1=>tE C i σ H1 fun k H2=>dG' p k v H2 fun H3=>D.nx σ H3
def u3' (C:Rc) (i:Ce) (v:V) (D:Ends) (σ:L2.St):VK:=fun p H1=>tE C i σ H1 fun k H2=>dG' p k v H2 fun H3=>D.nx σ H3
def u4' (p v:V) (D:Ends) (σ:L2.St):VK:=fun k H2=>dG' p k v H2 fun H3=>D.nx σ H3
theorem yU' {o i e:Ce}:tS C (.asg (.sub o i) e) D σ H=tE C e σ H (u2' C o i D σ):=rfl
theorem nw' {o i:Ce} {v:V}:u2' C o i D σ v H=tE C o σ H (u3' C i v D σ):=rfl
theorem nx' {i:Ce} {v p:V}:u3' C i v D σ p H=tE C i σ H (u4' p v D σ):=rfl
theorem ny' {v p k:V}:u4' p v D σ k H=dG' p k v H (D.nx σ):=rfl
def kIf (C:Rc) (a b:Css) (D:Ends) (σ:L2.St):Bool->Hp->Prop:=fun c H=>if c=true then tSs C a D σ H else tSs C b D σ H
theorem AU' {q:Cq} {a b:Css}:tS C (.ite q a b) D σ H=tQ C q σ H (kIf C a b D σ):=rfl
theorem yV' {a b:Css}:kIf C a b D σ true H=tSs C a D σ H:=rfl
theorem yW' {a b:Css}:kIf C a b D σ false H=tSs C b D σ H:=rfl
theorem dz' {p:Prop} [Decidable p] {F:Bool->Hp->Prop} (h1:p->F true H) (h2:¬p->F false H):F (decide p) H:=by
 by_cases h:p
 .rw[decide_eq_true h];exact h1 h
 .rw[decide_eq_false h];exact h2 h
end
section
variable {C:Rc} {σ:L2.St} {H:Hp} {Q:VK} {D:Ends} {Qb:Bool->Hp->Prop} {Qs:List V->Hp->Prop}
def kA1 (C:Rc) (σ:L2.St) (r:Ces) (Qs:List V->Hp->Prop):VK:=fun x H=>tA C r σ H fun xs H2=>Qs (x :: xs) H2
def kA2 (x:V) (Qs:List V->Hp->Prop):List V->Hp->Prop:=fun xs H=>Qs (x :: xs) H
theorem yX':tA C .nil σ H Qs=Qs [] H:=rfl
theorem u5' {e:Ce} {r:Ces}:tA C (.cons e r) σ H Qs=tE C e σ H (kA1 C σ r Qs):=rfl
theorem u6' {r:Ces} {x:V}:kA1 C σ r Qs x H=tA C r σ H (kA2 x Qs):=rfl
theorem u7' {x:V} {xs:List V}:kA2 x Qs xs H=Qs (x :: xs) H:=rfl
def Ae' (Q:VK):List V->Hp->Prop:=fun xs H=>xs.length<=sizeLine/\∀p,H p=none->Q (.ref p) (upd H p (.tup xs))
def Af' (Q:VK):List V->Hp->Prop:=fun xs H=>xs.length<=sizeLine/\∀p,H p=none->Q (.ref p) (upd H p (.lst xs))
theorem u8' {es:Ces}:tE C (.tup es) σ H Q=tA C es σ H (Ae' Q):=rfl
theorem u9' {es:Ces}:tE C (.lst es) σ H Q=tA C es σ H (Af' Q):=rfl
theorem qT' {xs:List V}:Ae' Q xs H=(xs.length<=sizeLine/\∀p,H p=none->Q (.ref p) (upd H p (.tup xs))):=rfl
theorem qU' {xs:List V}:Af' Q xs H=(xs.length<=sizeLine/\∀p,H p=none->Q (.ref p) (upd H p (.lst xs))):=rfl
def qV' (o:Option Sp) (E:XK) (Q:VK):List V->Hp->Prop:=fun vs H=>match o with
 |some sp=>sp (vs++[]) H Q E
 |none=>False
theorem qW' {f:Str} {es:Ces} {sp:Sp} (h:C.fs f=some sp):tE C (.call f es) σ H Q=tA C es σ H (qV' (some sp) (C.xk σ) Q):=by
 show(match C.fs f with|some sp=>mH' sp [] (C.xk σ) (tA C es) σ H Q|none=>False)=_
 rw[h]
 rfl
theorem nz' {sp:Sp} {E:XK} {vs:List V}:qV' (some sp) E Q vs H=sp vs H Q E:=by
 show sp (vs++[]) H Q E=_
 rw[cC]
def Ag' (C:Rc) (f:Bf) (Q:VK):List V->Hp->Prop:=fun vs H=>eB' C.K f vs H Q
theorem va' {f:Bf} {es:Ces}:tE C (.blt f es) σ H Q=tA C es σ H (Ag' C f Q):=rfl
theorem qX' {f:Bf} {vs:List V}:Ag' C f Q vs H=eB' C.K f vs H Q:=rfl
def vb' (C:Rc) (σ:L2.St) (m:Mf) (es:Ces) (Q:VK):VK:=fun x H=>tyV C.K (ge' m) x H/\tA C es σ H fun xs H2=>jd' C.K m x xs H2 Q
def vc' (C:Rc) (m:Mf) (x:V) (Q:VK):List V->Hp->Prop:=fun xs H=>jd' C.K m x xs H Q
theorem vd' {m:Mf} {o:Ce} {es:Ces}:tE C (.met m o es) σ H Q=tE C o σ H (vb' C σ m es Q):=rfl
theorem nA' {m:Mf} {es:Ces} {x:V}:vb' C σ m es Q x H=(tyV C.K (ge' m) x H/\tA C es σ H (vc' C m x Q)):=rfl
theorem nB' {m:Mf} {x:V} {xs:List V}:vc' C m x Q xs H=jd' C.K m x xs H Q:=rfl
def ve' (C:Rc) (σ:L2.St) (a b:Ce) (Q:VK):Bool->Hp->Prop:=fun c H=>if c=true then tE C a σ H Q else tE C b σ H Q
theorem vf' {q:Cq} {a b:Ce}:tE C (.ife q a b) σ H Q=tQ C q σ H (ve' C σ a b Q):=rfl
theorem vg' {a b:Ce}:ve' C σ a b Q true H=tE C a σ H Q:=rfl
theorem vh' {a b:Ce}:ve' C σ a b Q false H=tE C b σ H Q:=rfl
def yY' (Q:VK):VK:=fun x H=>∃c,x=.bl c/\Q (.bl (!c)) H
theorem vi' {a:Ce}:tE C (.not a) σ H Q=tE C a σ H (yY' Q):=rfl
def vj' (C:Rc) (σ:L2.St) (b:Ce) (Q:VK):VK:=fun x H=>∃c,x=.bl c/\if c=true then tE C b σ H Q else Q (.bl false) H
def AV' (C:Rc) (σ:L2.St) (b:Ce) (Q:VK):VK:=fun x H=>∃c,x=.bl c/\if c=true then Q (.bl true) H else tE C b σ H Q
theorem vk' {a b:Ce}:tE C (.and a b) σ H Q=tE C a σ H (vj' C σ b Q):=rfl
theorem yZ' {a b:Ce}:tE C (.or a b) σ H Q=tE C a σ H (AV' C σ b Q):=rfl
theorem qY' {b:Ce}:vj' C σ b Q (.bl true) H=tE C b σ H Q:=propext ⟨fun⟨u,e,q⟩=>by cases e;exact q,fun q=>⟨_,rfl,q⟩⟩
def y0' (C:Rc) (Qb:Bool->Hp->Prop):VK:=fun x H=>∃k,s7' C.K x H k/\Qb k H
theorem vl' {e:Ce}:tQ C (.val e) σ H Qb=tE C e σ H (y0' C Qb):=rfl
theorem qZ' {b:Bool}:y0' C Qb (.bl b) H=Qb b H:=propext ⟨fun⟨u,e,q⟩=>by
  have e:u=b:=e
  subst e
  exact q,fun q=>⟨b,rfl,q⟩⟩
def vm' (C:Rc) (σ:L2.St) (lo hi:Co) (Q:VK):VK:=fun x H=>tO C lo σ H fun l H2=>tO C hi σ H2 fun u H3=>rSl C.K x l u H3 Q
def vn' (C:Rc) (σ:L2.St) (hi:Co) (x:V) (Q:VK):Option Int->Hp->Prop:=fun l H=>tO C hi σ H fun u H3=>rSl C.K x l u H3 Q
def vo' (C:Rc) (x:V) (l:Option Int) (Q:VK):Option Int->Hp->Prop:=fun u H=>rSl C.K x l u H Q
theorem vp' {a:Ce} {lo hi:Co}:tE C (.cut a lo hi) σ H Q=tE C a σ H (vm' C σ lo hi Q):=rfl
theorem nC' {lo hi:Co} {x:V}:vm' C σ lo hi Q x H=tO C lo σ H (vn' C σ hi x Q):=rfl
theorem nD' {hi:Co} {x:V} {l:Option Int}:vn' C σ hi x Q l H=tO C hi σ H (vo' C x l Q):=rfl
theorem nE' {x:V} {l u:Option Int}:vo' C x l Q u H=rSl C.K x l u H Q:=rfl
variable {Qo:Option Int->Hp->Prop}
def nF' (Qo:Option Int->Hp->Prop):VK:=fun x H=>∃i,x=.int i/\Qo (some i) H
theorem vq':tO C .none σ H Qo=Qo none H:=rfl
theorem vr' {e:Ce}:tO C (.some e) σ H Qo=tE C e σ H (nF' Qo):=rfl
theorem lc' {i:Int}:nF' Qo (.int i) H=Qo (some i) H:=propext ⟨fun⟨u,e,q⟩=>by cases e;exact q,fun q=>⟨i,rfl,q⟩⟩
theorem vt' {K:W.Frag} {a:Addr} {l u:Option Int}:rSl K (.ref a) l u H Q=(xg' K (.ref a) l u H Q\/xf' K (.ref a) l u H Q\/xn' K (.ref a) l u H Q):=rfl
def q0' (C:Rc) (σ:L2.St) (i j:Nat) (b:Ce) (D:Ends):VK:=fun v H=>tE C b σ H fun w H1=>D.nx ((σ.set i (some v)).set j (some w)) H1
def vu' (σ:L2.St) (i j:Nat) (v:V) (D:Ends):VK:=fun w H=>D.nx ((σ.set i (some v)).set j (some w)) H
theorem nG' {i j:Nat} {b:Ce} {v:V}:q0' C σ i j b D v H=tE C b σ H (vu' σ i j v D):=rfl
theorem nH' {i j:Nat} {v w:V}:vu' σ i j v D w H=D.nx ((σ.set i (some v)).set j (some w)) H:=rfl
end
def cb (b:Bool):Nat:=if b then 49 else 48
def tx (l:List Bool):Str:=⟨(l.map cb).toArray⟩
theorem vv' {a b:Bool} (h:cb a=cb b):a=b:=by cases a<;>cases b<;>first|rfl|cases h
theorem vw' {a b:List Bool} (h:tx a=tx b):a=b:=by
 have h1:(a.map cb).toArray=(b.map cb).toArray:=congrArg Str.cps h
 have h2:a.map cb=b.map cb:=by simpa using h1
 exact List.map_inj_right (f:=cb) (fun x y=>vv') |>.mp h2
theorem c3' {a:List Bool}:(tx a).length=a.length:=by show(a.map cb).toArray.size=_;simp
theorem ld' {a:List Bool}:(tx a).cps.toList=a.map cb:=rfl
theorem g2' {a:List Bool}:(tx a).cps.size=a.length:=by show(a.map cb).toArray.size=_;simp
theorem o4' {a:List Bool} {i:Nat}:(tx a).cps[i]?=a[i]?.map cb:=by show(a.map cb).toArray[i]?=_;simp
theorem le' {a b:List Bool}:tx a++tx b=tx (a++b):=by
 show(⟨(a.map cb).toArray++(b.map cb).toArray⟩:Str)=⟨((a++b).map cb).toArray⟩
 simp
theorem y1':(PySem.Str.ofString "01")=tx [false,true]:=⋯
theorem vx':(PySem.Str.ofString "")=tx []:=⋯
theorem o5' {c:Bool}:PySem.intText? (tx [c])=some (if c then 1 else 0):=by cases c<;>decide +kernel
theorem lf' {a:List Bool} {n:Nat} (h:n<=a.length):Txt.slice (tx a) none (some (n:Int))=tx (a.take n):=by
 have e:=slice_closes_to (x:=tx a) (j:=n) ⟨⋯,by rw[ld',ae];omega⟩
 rw[eq_of_beq e,ld']
 simp[tx,List.map_take]
theorem o6' {α:Type} {xs:List α} {i:Int} (h0:0<=i) (h1:i<xs.length):∃v,xs[i.toNat]?=some v/\atI xs i=some v:=by
 obtain⟨j,rfl⟩:=aU h0
 have hk:j<xs.length:=by omega
 exact⟨xs[j],by simp,aG' (by rw[aa hk])⟩
theorem an' {N:List Str} {vs:List V} {n:Nat} (h:N.length=n):L2.aF' N vs=vs.map some++aK (n-vs.length) none:=by subst h;rfl
section
variable {C:Rc} {σ:L2.St} {H:Hp} {Q:VK} {D:Ends} {Qb:Bool->Hp->Prop}
theorem vy' {i:Nat} {v:V} {R:L2.St->Hp->Prop}:tG C (.name i) v σ H R=R (σ.set i (some v)) H:=rfl
theorem dA' {i j:Nat} {a:Addr} {x y:V} {R:L2.St->Hp->Prop} (h:SqT C.K H a [x,y]) (q:R ((σ.set i (some x)).set j (some y)) H):tG C (.tup (.cons (.name i) (.cons (.name j) .nil))) (.ref a) σ H R:=
 ⟨a,[x,y],rfl,.inl h,rfl,_,_,rfl,_,_,rfl,rfl,q⟩
theorem vz' {i:Nat} {t:Ct} {a:Addr} {x y:V} {R:L2.St->Hp->Prop} (h:SqT C.K H a [x,y]) (q:tG C t y (σ.set i (some x)) H R):tG C (.tup (.cons (.name i) (.cons t .nil))) (.ref a) σ H R:=
 ⟨a,[x,y],rfl,.inl h,rfl,_,_,rfl,_,_,rfl,by
  have e:(fun σ' H'=>tGs C .nil [] σ' H' R)=R:=by funext σ' H';exact propext ⟨fun h=>h.2,fun h=>⟨rfl,h⟩⟩
  rw[e];exact q⟩
theorem vA' {i j:Nat} {a:Addr} {x y:V} {R:L2.St->Hp->Prop} (h:SqL C.K H a [x,y]) (q:R ((σ.set i (some x)).set j (some y)) H):tG C (.tup (.cons (.name i) (.cons (.name j) .nil))) (.ref a) σ H R:=
 ⟨a,[x,y],rfl,.inr h,rfl,_,_,rfl,_,_,rfl,rfl,q⟩
theorem o7' {i j k:Nat} {a:Addr} {x y z:V} {R:L2.St->Hp->Prop} (h:SqT C.K H a [x,y,z]) (q:R (((σ.set i (some x)).set j (some y)).set k (some z)) H):tG C (.tup (.cons (.name i) (.cons (.name j) (.cons (.name k) .nil)))) (.ref a) σ H R:=
 ⟨a,[x,y,z],rfl,.inl h,rfl,_,_,rfl,_,_,rfl,_,_,rfl,rfl,q⟩
def q1' (C:Rc) (t:Ct) (b:Css) (D:Ends) (σ:L2.St) (J:It) (H1:Hp):Prop:=∃W:Nat->Nat->L2.St->Hp->Prop,(∃m,W 0 m σ H1)/\∀i m σ H,W i m σ H->
 (J.stop i H/\D.nx σ H)\/(J.go i H/\∃N:L2.St->Hp->Prop,(∀σ' H',N σ' H'->∃m',m'<m/\W (i+1) m' σ' H')/\∀x H',J.yld i H x H'->tG C t x σ H' fun σ2 H2=>tSs C b { D with nx:=N,ct:=N,bk:=D.nx } σ2 H2)
theorem y2' {t:Ct} {it:Ci} {b:Css}:tS C (.for_ t it b) D σ H=tI C it σ H (q1' C t b D σ):=rfl
def kIv (C:Rc) (R:It->Hp->Prop):VK:=fun x H1=>
 (∃a,x=.ref a/\(∃xs,SqL C.K H1 a xs)/\R (Itl C.K a) H1)\/(∃a,x=.ref a/\(∃xs,SqT C.K H1 a xs)/\R (Itt C.K a) H1)\/∃z,x=.str z/\R (Its z) H1
theorem y3' {e:Ce} {R:It->Hp->Prop}:tI C (.val e) σ H R=tE C e σ H (kIv C R):=rfl
def kR1 (R:It->Hp->Prop):VK:=fun x H1=>∃j:Int,x=.int j/\-(2 ^ 62)<=j/\j<2 ^ 62/\R (Itr 0 j.toNat) H1
theorem nI' {e:Ce} {R:It->Hp->Prop}:tI C (.range1 e) σ H R=tE C e σ H fun x H1=>∃j:Int,[x]=[.int j]/\-(2 ^ 62)<=j/\j<2 ^ 62/\R (Itr 0 j.toNat) H1:=rfl
theorem lg' {e:Ce} {R:It->Hp->Prop}:tI C (.range1 e) σ H R=tE C e σ H (kR1 R):=by
 rw[nI']
 congr 1
 funext x H1
 unfold kR1
 simp only[List.cons.injEq,and_true]
def kZ2 (C:Rc) (R:It->Hp->Prop) (x:V):VK:=fun y H1=>∃(k j:Bool) (a b:Addr),x=.ref a/\y=.ref b/\(∃xs,Sq k C.K H1 a xs)/\(∃ys,Sq j C.K H1 b ys)/\R (sD' k j C.K a b) H1
def kZ1 (C:Rc) (σ:L2.St) (e:Ce) (R:It->Hp->Prop):VK:=fun x H1=>tE C e σ H1 (kZ2 C R x)
theorem y4' {a b:Ce} {R:It->Hp->Prop}:tI C (.zip a b) σ H R=tE C a σ H (kZ1 C σ b R):=by
 show(tE C a σ H fun x H1=>tE C b σ H1 fun y H2=>∃(k j:Bool) (p q:Addr),[x,y]=[.ref p,.ref q]/\(∃xs,Sq k C.K H2 p xs)/\(∃ys,Sq j C.K H2 q ys)/\R (sD' k j C.K p q) H2)=_
 congr 1
 funext x H1
 unfold kZ1
 congr 1
 funext y H2
 unfold kZ2
 simp only[List.cons.injEq,and_true,and_assoc]
theorem vB' {e:Ce} {R:It->Hp->Prop} {x:V}:kZ1 C σ e R x H=tE C e σ H (kZ2 C R x):=rfl
def kEn (C:Rc) (R:It->Hp->Prop):VK:=fun x H1=>(∃a,x=.ref a/\(∃xs,SqL C.K H1 a xs)/\R (Ite C.K a) H1)\/(∃z,x=.str z/\R (xh' z) H1)\/∃a,x=.ref a/\(∃xs,SqT C.K H1 a xs)/\R (xi' C.K a) H1
theorem vC' {a:Ce} {R:It->Hp->Prop}:tI C (.enum a) σ H R=tE C a σ H (kEn C R):=by
 show(tE C a σ H fun x H1=>∃y,[x]=[y]/\((∃a,y=.ref a/\(∃xs,SqL C.K H1 a xs)/\R (Ite C.K a) H1)\/(∃z,y=.str z/\R (xh' z) H1)\/∃a,y=.ref a/\(∃xs,SqT C.K H1 a xs)/\R (xi' C.K a) H1))=_
 congr 1
 funext x H1
 unfold kEn
 exact propext ⟨fun⟨y,e,q⟩=>by cases e;exact q,fun q=>⟨x,rfl,q⟩⟩
theorem ig' {R:It->Hp->Prop} {a:Addr} {xs:List V} (h:SqL C.K H a xs) (q:R (Ite C.K a) H):kEn C R (.ref a) H:=.inl ⟨a,rfl,⟨xs,h⟩,q⟩
theorem c4' {R:It->Hp->Prop} {z:Str} (q:R (Its z) H):kIv C R (.str z) H:=.inr (.inr ⟨z,rfl,q⟩)
theorem as' {R:It->Hp->Prop} {a:Addr} {xs:List V} (h:SqL C.K H a xs) (q:R (Itl C.K a) H):kIv C R (.ref a) H:=.inl ⟨a,rfl,⟨xs,h⟩,q⟩
theorem bg' {R:It->Hp->Prop} {a:Addr} {xs:List V} (h:SqT C.K H a xs) (q:R (Itt C.K a) H):kIv C R (.ref a) H:=.inr (.inl ⟨a,rfl,⟨xs,h⟩,q⟩)
theorem cP' {R:It->Hp->Prop} {j:Int} (h0:-(2 ^ 62)<=j) (h1:j<2 ^ 62) (q:R (Itr 0 j.toNat) H):kR1 R (.int j) H:=⟨j,rfl,h0,h1,q⟩
theorem q3' {R:It->Hp->Prop} {a b:Addr} {xs ys:List V} (h:SqL C.K H a xs) (h2:SqL C.K H b ys) (q:R (Itz false C.K a b) H):kZ2 C R (.ref a) (.ref b) H:=⟨false,false,a,b,rfl,rfl,⟨xs,h⟩,⟨ys,h2⟩,q⟩
theorem fw' {a:Addr} {xs:List V} {t:Ct} {b:Css} (Pv:Nat->L2.St->Hp->Prop) (h0:Pv 0 σ H) (hl:∀i σ H,i<=xs.length->Pv i σ H->SqL C.K H a xs)
  (hs:∀i x σ H,xs[i]?=some x->Pv i σ H->tG C t x σ H (tSs C b { D with nx:=Pv (i+1),ct:=Pv (i+1),bk:=D.nx })) (hd:∀σ H,Pv xs.length σ H->D.nx σ H):q1' C t b D σ (Itl C.K a) H:=mD' Pv h0 hl hs hd
theorem vD' {a:Addr} {xs:List V} {t:Ct} {b:Css} (Pv:Nat->L2.St->Hp->Prop) (h0:Pv 0 σ H) (hl:∀i σ H,i<=xs.length->Pv i σ H->SqT C.K H a xs)
  (hs:∀i x σ H,xs[i]?=some x->Pv i σ H->tG C t x σ H (tSs C b { D with nx:=Pv (i+1),ct:=Pv (i+1),bk:=D.nx })) (hd:∀σ H,Pv xs.length σ H->D.nx σ H):q1' C t b D σ (Itt C.K a) H:=pQ' Pv h0 hl hs hd
theorem ef' {lo:Int} {n:Nat} {t:Ct} {b:Css} (Pv:Nat->L2.St->Hp->Prop) (h0:Pv 0 σ H)
  (hs:∀i σ H,i<n->Pv i σ H->tG C t (.int (lo+i)) σ H (tSs C b { D with nx:=Pv (i+1),ct:=Pv (i+1),bk:=D.nx })) (hd:∀σ H,Pv n σ H->D.nx σ H):q1' C t b D σ (Itr lo n) H:=jJ' Pv h0 hs hd
theorem y5' {z:Str} {t:Ct} {b:Css} (Pv:Nat->L2.St->Hp->Prop) (h0:Pv 0 σ H)
  (hs:∀i c σ H,z.cps[i]?=some c->Pv i σ H->tG C t (.str ⟨#[c]⟩) σ H (tSs C b { D with nx:=Pv (i+1),ct:=Pv (i+1),bk:=D.nx })) (hd:∀σ H,Pv z.cps.size σ H->D.nx σ H):q1' C t b D σ (Its z) H:=by
 refine⟨fun i m σ H=>m=z.cps.size-i/\i<=z.cps.size/\Pv i σ H,⟨z.cps.size,by simp,aL _,h0⟩,?_⟩
 rintro i m σ H ⟨rfl,hi,p⟩
 by_cases hlt:i<z.cps.size
 .refine .inr ⟨hlt,Pv (i+1),fun σ' H' p'=>⟨z.cps.size-(i+1),⋯,rfl,hlt,p'⟩,fun x H' y=>?_⟩
  obtain⟨e,c,hc,rfl⟩:=y
  subst e
  exact hs i c σ _ hc p
 .have e:i=z.cps.size:=by omega
  subst e
  exact .inl ⟨ah _,hd σ H p⟩
theorem vE' {a:Addr} {xs:List V} {t:Ct} {b:Css} (Pv:Nat->L2.St->Hp->Prop) (h0:Pv 0 σ H) (hl:∀i σ H,i<=xs.length->Pv i σ H->SqL C.K H a xs)
  (hs:∀i x σ H p,xs[i]?=some x->H p=none->Pv i σ H->tG C t (.ref p) σ (upd H p (.tup [.int i,x])) (tSs C b { D with nx:=Pv (i+1),ct:=Pv (i+1),bk:=D.nx })) (hd:∀σ H,Pv xs.length σ H->D.nx σ H):q1' C t b D σ (Ite C.K a) H:=by
 refine⟨fun i m σ H=>m=xs.length-i/\i<=xs.length/\Pv i σ H,⟨xs.length,by simp,aL _,h0⟩,?_⟩
 rintro i m σ H ⟨rfl,hi,p⟩
 have q:=hl i σ H hi p
 by_cases hlt:i<xs.length
 .refine .inr ⟨⟨xs,xs[i],q,by simp[hlt]⟩,Pv (i+1),fun σ' H' p'=>⟨xs.length-(i+1),⋯,rfl,hlt,p'⟩,fun x H' y=>?_⟩
  obtain⟨ad,v,rfl,hn,y,rfl⟩:=y
  exact hs i v σ _ ad (y xs q) hn p
 .have e:i=xs.length:=by omega
  subst e
  exact .inl ⟨⟨xs,q,rfl⟩,hd σ H p⟩
theorem lh' {l:List Bool} {t:Ct} {b:Css} (Pv:Nat->L2.St->Hp->Prop) (h0:Pv 0 σ H)
  (hs:∀i c σ H,l[i]?=some c->Pv i σ H->tG C t (.str (tx [c])) σ H (tSs C b { D with nx:=Pv (i+1),ct:=Pv (i+1),bk:=D.nx })) (hd:∀σ H,Pv l.length σ H->D.nx σ H):q1' C t b D σ (Its (tx l)) H:=by
 refine y5' Pv h0 (fun i c σ H hc p=>?_) fun σ H p=>hd σ H (by rw[g2']at p;exact p)
 rw[o4']at hc
 cases hl:l[i]? with
 |none=>rw[hl]at hc;cases hc
 |some d=>
  rw[hl]at hc
  cases hc
  exact hs i d σ H hl p
def xp' (C:Rc) (b:Css) (D:Ends) (N:L2.St->Hp->Prop) (σ:L2.St):Bool->Hp->Prop:=fun c H1=>if c=true then ∃N':L2.St->Hp->Prop,(∀σ' H',N' σ' H'->N σ' H')/\tSs C b { D with nx:=N',ct:=N',bk:=D.nx } σ H1 else D.nx σ H1
theorem ii' {q:Cq} {b:Css} (Pv:Nat->L2.St->Hp->Prop) (m:Nat) (h0:Pv m σ H) (hs:∀m σ H,Pv m σ H->tQ C q σ H (xp' C b D (fun σ' H'=>∃m',m'<m/\Pv m' σ' H') σ)):tS C (.whl q b) D σ H:=⟨Pv,⟨m,h0⟩,hs⟩
theorem ij' {b:Css} {N:L2.St->Hp->Prop} (h:tSs C b { D with nx:=N,ct:=N,bk:=D.nx } σ H):xp' C b D N σ true H:=⟨N,fun _ _ q=>q,h⟩
theorem ik' {b:Css} {N:L2.St->Hp->Prop} (h:D.nx σ H):xp' C b D N σ false H:=by unfold xp';rw[if_neg (by decide)];exact h
def li' (xs:List V) (P:List V->Hp->Prop):VK:=fun v H=>xs.length<sizeLine/\P (xs++[v]) H
def kCT (C:Rc) (elt:Ce) (xs:List V) (P:List V->Hp->Prop) (σ:L2.St):Bool->Hp->Prop:=fun ok H=>if ok=true then tE C elt σ H (li' xs P)else P xs H
def kCG (C:Rc) (elt:Ce) (q:Cqo) (xs:List V) (P:List V->Hp->Prop):L2.St->Hp->Prop:=fun σ H=>tQo C q σ H (kCT C elt xs P σ)
theorem y6' {elt:Ce} {xs:List V} {P:List V->Hp->Prop}:kCG C elt .none xs P σ H=tE C elt σ H (li' xs P):=rfl
theorem y7' {elt:Ce} {q:Cq} {xs:List V} {P:List V->Hp->Prop}:kCG C elt (.some q) xs P σ H=tQ C q σ H (kCT C elt xs P σ):=rfl
theorem y8' {elt:Ce} {xs:List V} {P:List V->Hp->Prop}:kCT C elt xs P σ true H=tE C elt σ H (li' xs P):=rfl
theorem y9' {elt:Ce} {xs:List V} {P:List V->Hp->Prop}:kCT C elt xs P σ false H=P xs H:=rfl
theorem nJ' {xs:List V} {P:List V->Hp->Prop} {v:V}:li' xs P v H=(xs.length<sizeLine/\P (xs++[v]) H):=rfl
def lj' (Q:VK) (xs:List V) (H2:Hp):Prop:=∀p,H2 p=none->Q (.ref p) (upd H2 p (.lst xs))
def g3' (C:Rc) (elt:Ce) (own:List Nat) (t:Ct) (q:Cqo) (σ:L2.St) (Q:VK) (J:It) (H1:Hp):Prop:=aP' own (tG C t) (tQo C q) (eE' (tE C elt)) J σ [] H1 (lj' Q)
theorem q4' {elt:Ce} {own:List Nat} {t:Ct} {it:Ci} {q:Cqo}:tE C (.comp elt own t it q .nil) σ H Q=tI C it σ H (g3' C elt own t q σ Q):=rfl
theorem eg' {elt:Ce} {own:List Nat} {t:Ct} {q:Cqo} {J:It} {n:Nat} (Pv:Nat->List V->Hp->Prop) (h0:Pv 0 [] H) (hgo:∀i xs H,i<n->Pv i xs H->J.go i H) (hstop:∀xs H,Pv n xs H->J.stop n H)
  (hs:∀i xs H x H' (R:List V->Hp->Prop),i<n->Pv i xs H->J.yld i H x H'->(∀ys H2,Pv (i+1) ys H2->R ys H2)->tG C t x (clr own σ) H' (kCG C elt q xs R)) (hd:∀xs H,Pv n xs H->lj' Q xs H):g3' C elt own t q σ Q J H:=by
 refine⟨fun i m xs H=>m=n-i/\i<=n/\Pv i xs H,⟨n,by simp,aL _,h0⟩,?_⟩
 rintro i m xs H ⟨rfl,hi,p⟩
 by_cases hlt:i<n
 .refine .inr ⟨hgo i xs H hlt p,fun x H' y=>?_⟩
  exact hs i xs H x H' (fun c H4=>∃m',m'<n-i/\(m'=n-(i+1)/\i+1<=n/\Pv (i+1) c H4)) hlt p y fun ys H2 p2=>⟨n-(i+1),⋯,rfl,hlt,p2⟩
 .have e:i=n:=by omega
  subst e
  exact .inl ⟨hstop xs H p,hd xs H p⟩
theorem cF' {elt:Ce} {own:List Nat} {t:Ct} {q:Cqo} {a:Addr} {vs:List V} (Pv:Nat->List V->Hp->Prop) (h0:Pv 0 [] H) (hl:∀i xs H,Pv i xs H->SqL C.K H a vs)
  (hs:∀i xs H x (R:List V->Hp->Prop),vs[i]?=some x->Pv i xs H->(∀ys H2,Pv (i+1) ys H2->R ys H2)->tG C t x (clr own σ) H (kCG C elt q xs R)) (hd:∀xs H,Pv vs.length xs H->lj' Q xs H):g3' C elt own t q σ Q (Itl C.K a) H:=
 eg' (n:=vs.length) Pv h0 (fun i xs H hi p=>⟨vs,vs[i],hl i xs H p,by simp[hi]⟩) (fun xs H p=>⟨vs,hl _ xs H p,ah _⟩) (fun i xs H x H' R hi p y k=>by
  obtain⟨e,y⟩:=y
  subst e
  exact hs i xs H' x R (y vs (hl i xs H' p)) p k) hd
theorem gn' {elt:Ce} {own:List Nat} {t:Ct} {q:Cqo} {a:Addr} {vs:List V} (Pv:Nat->List V->Hp->Prop) (h0:Pv 0 [] H) (hl:∀i xs H,Pv i xs H->SqT C.K H a vs)
  (hs:∀i xs H x (R:List V->Hp->Prop),vs[i]?=some x->Pv i xs H->(∀ys H2,Pv (i+1) ys H2->R ys H2)->tG C t x (clr own σ) H (kCG C elt q xs R)) (hd:∀xs H,Pv vs.length xs H->lj' Q xs H):g3' C elt own t q σ Q (Itt C.K a) H:=
 eg' (n:=vs.length) Pv h0 (fun i xs H hi p=>⟨vs,vs[i],hl i xs H p,by simp[hi]⟩) (fun xs H p=>⟨vs,hl _ xs H p,ah _⟩) (fun i xs H x H' R hi p y k=>by
  obtain⟨e,y⟩:=y
  subst e
  exact hs i xs H' x R (y vs (hl i xs H' p)) p k) hd
theorem il' {elt:Ce} {own:List Nat} {t:Ct} {q:Cqo} {lo:Int} {n:Nat} (Pv:Nat->List V->Hp->Prop) (h0:Pv 0 [] H)
  (hs:∀i xs H (R:List V->Hp->Prop),i<n->Pv i xs H->(∀ys H2,Pv (i+1) ys H2->R ys H2)->tG C t (.int (lo+i)) (clr own σ) H (kCG C elt q xs R)) (hd:∀xs H,Pv n xs H->lj' Q xs H):g3' C elt own t q σ Q (Itr lo n) H:=
 eg' (n:=n) Pv h0 (fun i xs H hi p=>hi) (fun xs H p=>ah _) (fun i xs H x H' R hi p y k=>by
  obtain⟨e,rfl⟩:=y
  subst e
  exact hs i xs H' R hi p k) hd
theorem vF' {elt:Ce} {own:List Nat} {t:Ct} {q:Cqo} {k j:Bool} {a b:Addr} {vs ws:List V} (hw:vs.length=ws.length) (Pv:Nat->List V->Hp->Prop) (h0:Pv 0 [] H) (hl:∀i xs H,Pv i xs H->Sq k C.K H a vs/\Sq j C.K H b ws)
  (hs:∀i xs H x y p (R:List V->Hp->Prop),vs[i]?=some x->ws[i]?=some y->H p=none->Pv i xs H->(∀ys H2,Pv (i+1) ys H2->R ys H2)->tG C t (.ref p) (clr own σ) (upd H p (.tup [x,y])) (kCG C elt q xs R)) (hd:∀xs H,Pv vs.length xs H->lj' Q xs H):g3' C elt own t q σ Q (sD' k j C.K a b) H:=
 eg' (n:=vs.length) Pv h0 (fun i xs H hi p=>⟨vs,ws,vs[i],ws[i],(hl i xs H p).1,(hl i xs H p).2,by simp[hi],by simp[hw ▸ hi]⟩) (fun xs H p=>⟨vs,ws,(hl _ xs H p).1,(hl _ xs H p).2,.inl (ah _)⟩) (fun i xs H x H' R hi p y kk=>by
  obtain⟨ad,u,v,rfl,hn,y1,y2,rfl⟩:=y
  exact hs i xs H u v ad R (y1 vs (hl i xs H p).1) (y2 ws (hl i xs H p).2) hn p kk) hd
theorem vG' {elt:Ce} {own:List Nat} {t:Ct} {q:Cqo} {a:Addr} {vs:List V} (Pv:Nat->List V->Hp->Prop) (h0:Pv 0 [] H) (hl:∀i xs H,Pv i xs H->SqL C.K H a vs)
  (hs:∀i xs H x p (R:List V->Hp->Prop),vs[i]?=some x->H p=none->Pv i xs H->(∀ys H2,Pv (i+1) ys H2->R ys H2)->tG C t (.ref p) (clr own σ) (upd H p (.tup [.int i,x])) (kCG C elt q xs R)) (hd:∀xs H,Pv vs.length xs H->lj' Q xs H):g3' C elt own t q σ Q (Ite C.K a) H:=
 eg' (n:=vs.length) Pv h0 (fun i xs H hi p=>⟨vs,vs[i],hl i xs H p,by simp[hi]⟩) (fun xs H p=>⟨vs,hl _ xs H p,rfl⟩) (fun i xs H x H' R hi p y k=>by
  obtain⟨ad,v,rfl,hn,y,rfl⟩:=y
  exact hs i xs H v ad R (y vs (hl i xs H p)) hn p k) hd
end
section
variable {C:Rc} {K:W.Frag} {σ:L2.St} {H:Hp} {Q:VK} {D:Ends} {Qb:Bool->Hp->Prop}
theorem aj' {f:Str} {es:Ces} {sp:Sp} (h:C.fs f=some sp) (q:tA C es σ H (qV' (some sp) (C.xk σ) Q)):tE C (.call f es) σ H Q:=by
 rw[qW' h]
 exact q
theorem jl' {x:Str}:eB' K .len [.str x] H Q=(x.length<=sizeLine/\Q (.int x.length) H):=propext ⟨fun⟨u,n,e,h,q⟩=>by cases e;obtain⟨h1,h2⟩:=h;subst h2;exact⟨h1,q⟩,fun q=>⟨_,_,rfl,⟨q.1,rfl⟩,q.2⟩⟩
theorem lk' {l:List Bool}:eB' K .len [.str (tx l)] H Q=(l.length<=sizeLine/\Q (.int l.length) H):=by rw[jl',c3']
theorem bI' {a:Addr} {xs:List V} (h:SqL K H a xs) (q:Q (.int xs.length) H):eB' K .len [.ref a] H Q:=⟨_,_,rfl,.inl ⟨xs,h,rfl⟩,q⟩
theorem bJ' {a:Addr} {xs:List V} (h:SqT K H a xs) (q:Q (.int xs.length) H):eB' K .len [.ref a] H Q:=⟨_,_,rfl,.inr ⟨xs,h,rfl⟩,q⟩
theorem vH' {i:Int}:eB' K .abs [.int i] H Q=Q (.int (if i<0 then -i else i)) H:=propext ⟨fun⟨u,e,q⟩=>by cases e;exact q,fun q=>⟨_,rfl,q⟩⟩
theorem jm' {i:Int}:eB' K .int [.int i] H Q=Q (.int i) H:=rfl
theorem ll' {k:Bool}:eB' K .int [.bl k] H Q=Q (.int (if k then 1 else 0)) H:=rfl
theorem lm' {c:Bool}:eB' K .int [.str (tx [c])] H Q=Q (.int (if c then 1 else 0)) H:=propext ⟨fun⟨n,e,_,q⟩=>by rw[o5']at e;cases e;exact q,fun q=>⟨_,o5',by rw[c3',bD];decide,q⟩⟩
theorem o8' {a:Addr} {bs:List Bool} (h:SqL K H a (bs.map V.bl)) (q:Q (.bl (bs.all id)) H):eB' K .all [.ref a] H Q:=⟨a,bs,rfl,h,q⟩
theorem aO' {a:Addr} {xs:List V} {i:Int} {v:V} (h:SqL K H a xs) (e:atI xs i=some v) (q:Q v H):gC' K (.ref a) (.int i) H Q\/gJ' K (.ref a) (.int i) H Q:=.inl ⟨a,xs,i,v,rfl,rfl,h,e,q⟩
theorem bh' {a:Addr} {xs:List V} {i:Int} {v:V} (h:SqT K H a xs) (e:atI xs i=some v) (q:Q v H):gC' K (.ref a) (.int i) H Q\/gJ' K (.ref a) (.int i) H Q:=.inr ⟨a,xs,i,v,rfl,rfl,h,e,q⟩
theorem q5' {α β:Type} {f:α->β} {xs:List α} {i:Int}:atI (xs.map f) i=(atI xs i).map f:=by
 unfold atI
 rw[ae]
 cases ixN xs.length i with
 |none=>rfl
 |some j=>simp
theorem ln' {l:List Bool} {i:Int} {c:Bool} (hl:l.length<=sizeLine) (e:atI l i=some c) (q:Q (.str (tx [c])) H):nj' K (.str (tx l)) (.int i) H Q:=by
 refine⟨by rw[c3'];exact hl,cb c,?_,q⟩
 rw[ld',q5',e]
 rfl
theorem o9' {a:Addr} {u v:V} {k:Bool} (h:SqL K H a [u,v]) (q:Q (if k then v else u) H):gC' K (.ref a) (.int (if k then 1 else 0)) H Q\/gJ' K (.ref a) (.int (if k then 1 else 0)) H Q:=by
 refine aO' h ?_ q
 cases k<;>rfl
theorem eh' {a:Addr} {u v:V} {k:Bool} (h:SqT K H a [u,v]) (q:Q (if k then v else u) H):gC' K (.ref a) (.int (if k then 1 else 0)) H Q\/gJ' K (.ref a) (.int (if k then 1 else 0)) H Q:=by
 refine bh' h ?_ q
 cases k<;>rfl
theorem q6' {x y:List Bool}:fp' K .Add (.str (tx x)) (.str (tx y)) H Q=(x.length+y.length<=sizeLine/\Q (.str (tx (x++y))) H):=by
 rw[uT',c3',c3',le']
theorem za' {x y:V} (h:jB' x y=true):cd' K .Eq x y H Q=Q (.bl (decide (x=y))) H:=by
 have e:cd' K .Eq x y H Q=rEq x y H Q:=by
  unfold cd'
  dsimp only
  split
  .cases h
  .rfl
 rw[e]
 exact propext ⟨fun⟨_,q⟩=>q,fun q=>⟨h,q⟩⟩
theorem vI' {x y:V} (h:jB' x y=true):cd' K .NotEq x y H Q=Q (.bl (!decide (x=y))) H:=by
 have e:cd' K .NotEq x y H Q=rNe x y H Q:=by
  unfold cd'
  dsimp only
  split
  .cases h
  .rfl
 rw[e]
 exact propext ⟨fun⟨_,q⟩=>q,fun q=>⟨h,q⟩⟩
theorem vJ' {a b:Addr} {xs ys:List V} (h:SqL K H a xs) (h2:SqL K H b ys) (he:xs.length=ys.length->LEq xs ys) (q:Q (.bl (decide (xs=ys))) H):cd' K .Eq (.ref a) (.ref b) H Q:=.inl ⟨a,b,xs,ys,rfl,rfl,h,h2,he,q⟩
theorem lo' {a b:Addr} {xs ys:List V} (h:SqL K H a xs) (h2:SqL K H b ys) (he:xs.length=ys.length->LEq xs ys) (q:Q (.bl (!decide (xs=ys))) H):cd' K .NotEq (.ref a) (.ref b) H Q:=.inl ⟨a,b,xs,ys,rfl,rfl,h,h2,he,q⟩
theorem g4' {xs:List V}:xs.length=([]:List V).length->LEq xs []:=fun _ i x y _ h=>by cases h
theorem pa' {a:Addr} {xs:List V} {y:V} {i:Nat} (h:H a=some (.lst xs)) (hz:xs.length<sizeLine) (hi:i<=xs.length) (q:Q .non (upd H a (.lst (xs.take i++y :: xs.drop i)))):jd' K .insert (.ref a) [.int i,y] H Q:=⟨a,xs,y,i,rfl,rfl,h,hz,hi,q⟩
theorem lp' {i j:Int} (q:∀p,H p=none->Q (.ref p) (upd H p (.rng i j))):eB' K .range [.int i,.int j] H Q:=⟨i,j,.inl rfl,q⟩
theorem go' {j:Int} (q:∀p,H p=none->Q (.ref p) (upd H p (.rng 0 j))):eB' K .range [.int j] H Q:=⟨0,j,.inr ⟨rfl,rfl⟩,q⟩
theorem fx' {r:Addr} {i j:Int} (h:H r=some (.rng i j)) (h1:-(2 ^ 62)<=i) (h2:i<2 ^ 62) (h3:-(2 ^ 62)<=j) (h4:j<2 ^ 62) (hz:(j-i).toNat<=sizeLine) (q:∀p,H p=none->Q (.ref p) (upd H p (.lst (rgs i (j-i).toNat)))):eB' K .list [.ref r] H Q:=.inr ⟨r,i,j,rfl,h,⟨h1,h2,h3,h4⟩,hz,q⟩
theorem bU' {a:Addr} {xs:List V} (h:SqL K H a xs) (q:∀p,H p=none->Q (.ref p) (upd H p (.tup xs))):eB' K .tuple [.ref a] H Q:=⟨a,xs,rfl,.inl ⟨h,q⟩⟩
theorem zb' {x y:Bool}:cd' K .NotEq (.bl x) (.bl y) H Q=Q (.bl (x != y)) H:=by
 have e:cd' K .NotEq (.bl x) (.bl y) H Q=Q (.bl (!decide (V.bl x=V.bl y))) H:=propext ⟨fun⟨_,q⟩=>q,fun q=>⟨rfl,q⟩⟩
 rw[e]
 cases x<;>cases y<;>rfl
theorem zc' {x y:Int}:cd' K .NotEq (.int x) (.int y) H Q=Q (.bl (!decide (x=y))) H:=by
 have e:cd' K .NotEq (.int x) (.int y) H Q=Q (.bl (!decide (V.int x=V.int y))) H:=propext ⟨fun⟨_,q⟩=>q,fun q=>⟨rfl,q⟩⟩
 rw[e]
 congr 3
 simp only[V.int.injEq]
theorem AX' {x:V}:cd' K .Is x .non H Q=Q (.bl (decide (x=.non))) H:=propext ⟨fun⟨_,q⟩=>q,fun q=>⟨rfl,q⟩⟩
theorem q8' {x:V}:cd' K .IsNot x .non H Q=Q (.bl (!decide (x=.non))) H:=propext ⟨fun⟨_,q⟩=>q,fun q=>⟨rfl,q⟩⟩
def kG (C:Rc) (t:Ct) (D:Ends) (σ:L2.St):VK:=fun v H=>tG C t v σ H D.nx
theorem vK' {t:Ct} {e:Ce}:tS C (.asg t e) D σ H=tE C e σ H (kG C t D σ):=rfl
theorem lq' {i j:Nat} {a:Addr} {x y:V} (h:SqT C.K H a [x,y]) (q:D.nx ((σ.set i (some x)).set j (some y)) H):kG C (.tup (.cons (.name i) (.cons (.name j) .nil))) D σ (.ref a) H:=dA' h q
theorem zd' {i j:Nat} {a b:Ce}:tS C (.par i j a b) D σ H=tE C a σ H (q0' C σ i j b D):=by
 show(tE C a σ H fun x H1=>tE C b σ H1 fun y H2=>∃v w,[x,y]=[v,w]/\D.nx ((σ.set i (some v)).set j (some w)) H2)=_
 congr 1
 funext x H1
 unfold q0'
 congr 1
 funext y H2
 exact propext ⟨fun⟨v,w,e,q⟩=>by cases e;exact q,fun q=>⟨x,y,rfl,q⟩⟩
theorem vL' {xs:List V} {n:Nat}:mM' xs none (some (n:Int))=xs.take n:=by
 unfold mM'
 rw[HT.pV',HT.mJ']
 rcases Nat.le_total n xs.length with h|h
 .rw[Nat.min_eq_left h];simp
 .rw[Nat.min_eq_right h];simp[bK h]
theorem q9' {a:Addr} {xs:List V} {lo hi:Option Int} (h:SqL K H a xs) (q:∀p,H p=none->Q (.ref p) (upd H p (.lst (mM' xs lo hi)))):xg' K (.ref a) lo hi H Q\/xf' K (.ref a) lo hi H Q\/xn' K (.ref a) lo hi H Q:=.inl ⟨a,xs,rfl,h,q⟩
theorem cG' {a:Addr} {xs:List V} {y:V} (h:H a=some (.lst xs)) (hz:xs.length<sizeLine) (q:Q .non (upd H a (.lst (xs++[y])))):jd' K .append (.ref a) [y] H Q:=⟨a,xs,y,rfl,rfl,h,hz,q⟩
theorem tyL {a:Addr} {xs:List V} {m:Mf} (h:H a=some (.lst xs)) (hm:ge' m="list"):tyV K (ge' m) (.ref a) H:=.inl ⟨hm,xs,SqL.of h⟩
theorem pb' {a b:Addr} {xs zs:List V} (h:H a=some (.lst xs)) (h2:H b=some (.lst zs)) (hz:xs.length+zs.length<=sizeLine) (q:∀p,H p=none->Q (.ref p) (upd H p (.lst (xs++zs)))):fp' K .Add (.ref a) (.ref b) H Q:=.inl ⟨a,b,xs,zs,rfl,rfl,h,h2,hz,q⟩
theorem ac' {H:Hp} {p:Addr} (h:H p=none) (o:HO):aC' H (upd H p o):=fun b u q=>by rw[af' (ah' q h)];exact q
theorem snw {H:Hp} {p:Addr} (h:H p=none) (o:HO):aC' H (upd H p o)/\upd H p o p=some o:=⟨ac' h o,ab'⟩
theorem ak' {α:Type} {l:List α} {i:Nat} {c:α} (hc:l[i]?=some c):i<l.length:=by
 rcases aY i l.length with h|h
 .exact h
 .rw[bg.mpr h]at hc;cases hc
theorem vM':tE C .dnt σ H Q=(∀p,H p=none->Q (.ref p) (upd H p (.dT []))):=rfl
theorem ra':tE C .dnew σ H Q=(∀p,H p=none->Q (.ref p) (upd H p (.dK []))):=rfl
def Ai' (x:V) (Q:VK):VK:=fun y H=>∃a v,x=.ref a/\dH' H a y (some v)/\Q v H
def Aj' (C:Rc) (σ:L2.St) (b:Ce) (Q:VK):VK:=fun x H=>tE C b σ H (Ai' x Q)
theorem vN' {a b:Ce}:tE C (.dix a b) σ H Q=tE C a σ H (Aj' C σ b Q):=rfl
theorem rb' {b:Ce} {x:V}:Aj' C σ b Q x H=tE C b σ H (Ai' x Q):=rfl
end
end R3
namespace R3
open PySem PySem.Spec PyProof.Rows L2 PySem.Builtin PySem.Builtin.Str
theorem rc':∀{ls:List (List Bool)},Txt.join (tx []) (ls.map tx)=tx ls.flatten:=by
 intro ls
 unfold Txt.join
 rw[StrLaws.glued_eq_join]
 induction ls with
 |nil=>rfl
 |cons l r ih=>
  cases r with
  |nil=>simp[Str.join]
  |cons y r=>
   rw[aJ,aJ]
   show tx l++tx []++Str.join (tx []) (List.map tx (y :: r))=_
   rw[ih,le',le']
   simp
section
variable {K:W.Frag} {H:Hp} {Q:VK}
theorem rd' {a:Addr} {ls:List (List Bool)} (h:SqL K H a (ls.map fun l=>V.str (tx l))) (hz:ls.flatten.length<=16000000) (q:Q (.str (tx ls.flatten)) H):jd' K .join (.str (tx [])) [.ref a] H Q:=by
 refine⟨tx [],a,ls.map tx,rfl,rfl,.inl (by rw[dk];exact h),?_,by rw[rc'];exact q⟩
 have e:((ls.map tx).map (·.length)).sum=ls.flatten.length:=by
  rw[dk,List.length_flatten]
  congr 1
  apply List.map_congr_left
  intro l _
  exact c3'
 rw[e,c3',List.length_nil,Nat.mul_zero]
 omega
end
section
variable {C:Rc} {K:W.Frag} {σ:L2.St} {H:Hp} {Q:VK} {D:Ends} {Qb:Bool->Hp->Prop} {i j:Int}
theorem g5' {a:Addr} {xs:List V} (h:SqL C.K H a xs) (q:Qb (!xs.isEmpty) H):y0' C Qb (.ref a) H:=⟨_,.inl ⟨xs,h,rfl⟩,q⟩
def vO' (C:Rc) (elt:Ce) (ws:List Nat) (t2:Ct) (q2:Cqo) (xs:List V) (P:List V->Hp->Prop) (σ:L2.St) (J:It) (H1:Hp):Prop:=aP' ws (tG C t2) (tQo C q2) (eE' (tE C elt)) J σ xs H1 P
def xq' (C:Rc) (elt:Ce) (ws:List Nat) (t2:Ct) (it2:Ci) (q2:Cqo) (xs:List V) (P:List V->Hp->Prop) (σ:L2.St):Bool->Hp->Prop:=fun ok H=>if ok=true then tI C it2 σ H (vO' C elt ws t2 q2 xs P σ)else P xs H
def xr' (C:Rc) (elt:Ce) (q:Cqo) (ws:List Nat) (t2:Ct) (it2:Ci) (q2:Cqo) (xs:List V) (P:List V->Hp->Prop):L2.St->Hp->Prop:=fun σ H=>tQo C q σ H (xq' C elt ws t2 it2 q2 xs P σ)
theorem vP' {elt:Ce} {ws:List Nat} {t2:Ct} {it2:Ci} {q2:Cqo} {xs:List V} {P:List V->Hp->Prop}:xr' C elt .none ws t2 it2 q2 xs P σ H=tI C it2 σ H (vO' C elt ws t2 q2 xs P σ):=rfl
theorem vQ' {elt:Ce} {q:Cq} {ws:List Nat} {t2:Ct} {it2:Ci} {q2:Cqo} {xs:List V} {P:List V->Hp->Prop}:xr' C elt (.some q) ws t2 it2 q2 xs P σ H=tQ C q σ H (xq' C elt ws t2 it2 q2 xs P σ):=rfl
theorem vR' {elt:Ce} {ws:List Nat} {t2:Ct} {it2:Ci} {q2:Cqo} {xs:List V} {P:List V->Hp->Prop}:xq' C elt ws t2 it2 q2 xs P σ true H=tI C it2 σ H (vO' C elt ws t2 q2 xs P σ):=rfl
theorem vS' {elt:Ce} {ws:List Nat} {t2:Ct} {it2:Ci} {q2:Cqo} {xs:List V} {P:List V->Hp->Prop}:xq' C elt ws t2 it2 q2 xs P σ false H=P xs H:=rfl
def lr' (C:Rc) (elt:Ce) (own:List Nat) (t:Ct) (q:Cqo) (ws:List Nat) (t2:Ct) (it2:Ci) (q2:Cqo) (σ:L2.St) (Q:VK) (J:It) (H1:Hp):Prop:=aP' own (tG C t) (tQo C q) (gM' (tI C it2) (aP' ws (tG C t2) (tQo C q2) (eE' (tE C elt)))) J σ [] H1 (lj' Q)
theorem nK' {elt:Ce} {own:List Nat} {t:Ct} {it:Ci} {q:Cqo} {ws:List Nat} {t2:Ct} {it2:Ci} {q2:Cqo}:tE C (.comp elt own t it q (.cons ws t2 it2 q2 .nil)) σ H Q=tI C it σ H (lr' C elt own t q ws t2 it2 q2 σ Q):=rfl
theorem nL' {elt:Ce} {own:List Nat} {t:Ct} {q:Cqo} {ws:List Nat} {t2:Ct} {it2:Ci} {q2:Cqo} {J:It} {n:Nat} (Pv:Nat->List V->Hp->Prop) (h0:Pv 0 [] H) (hgo:∀i xs H,i<n->Pv i xs H->J.go i H) (hstop:∀xs H,Pv n xs H->J.stop n H)
  (hs:∀i xs H x H' (R:List V->Hp->Prop),i<n->Pv i xs H->J.yld i H x H'->(∀ys H2,Pv (i+1) ys H2->R ys H2)->tG C t x (clr own σ) H' (xr' C elt q ws t2 it2 q2 xs R)) (hd:∀xs H,Pv n xs H->lj' Q xs H):lr' C elt own t q ws t2 it2 q2 σ Q J H:=by
 refine⟨fun i m xs H=>m=n-i/\i<=n/\Pv i xs H,⟨n,by simp,aL _,h0⟩,?_⟩
 rintro i m xs H ⟨rfl,hi,p⟩
 by_cases hlt:i<n
 .refine .inr ⟨hgo i xs H hlt p,fun x H' y=>?_⟩
  exact hs i xs H x H' (fun c H4=>∃m',m'<n-i/\(m'=n-(i+1)/\i+1<=n/\Pv (i+1) c H4)) hlt p y fun ys H2 p2=>⟨n-(i+1),⋯,rfl,hlt,p2⟩
 .have e:i=n:=by omega
  subst e
  exact .inl ⟨hstop xs H p,hd xs H p⟩
theorem vT' {elt:Ce} {ws:List Nat} {t2:Ct} {q2:Cqo} {xs:List V} {P:List V->Hp->Prop} {J:It} {n:Nat} (Pv:Nat->List V->Hp->Prop) (h0:Pv 0 xs H) (hgo:∀i xs H,i<n->Pv i xs H->J.go i H) (hstop:∀xs H,Pv n xs H->J.stop n H)
  (hs:∀i xs H x H' (R:List V->Hp->Prop),i<n->Pv i xs H->J.yld i H x H'->(∀ys H2,Pv (i+1) ys H2->R ys H2)->tG C t2 x (clr ws σ) H' (kCG C elt q2 xs R)) (hd:∀xs H,Pv n xs H->P xs H):vO' C elt ws t2 q2 xs P σ J H:=by
 refine⟨fun i m xs H=>m=n-i/\i<=n/\Pv i xs H,⟨n,by simp,aL _,h0⟩,?_⟩
 rintro i m xs H ⟨rfl,hi,p⟩
 by_cases hlt:i<n
 .refine .inr ⟨hgo i xs H hlt p,fun x H' y=>?_⟩
  exact hs i xs H x H' (fun c H4=>∃m',m'<n-i/\(m'=n-(i+1)/\i+1<=n/\Pv (i+1) c H4)) hlt p y fun ys H2 p2=>⟨n-(i+1),⋯,rfl,hlt,p2⟩
 .have e:i=n:=by omega
  subst e
  exact .inl ⟨hstop xs H p,hd xs H p⟩
theorem rg' {elt:Ce} {own:List Nat} {t:Ct} {q:Cqo} {ws:List Nat} {t2:Ct} {it2:Ci} {q2:Cqo} {a:Addr} {vs:List V} (Pv:Nat->List V->Hp->Prop) (h0:Pv 0 [] H) (hl:∀i xs H,Pv i xs H->SqL C.K H a vs)
  (hs:∀i xs H x (R:List V->Hp->Prop),vs[i]?=some x->Pv i xs H->(∀ys H2,Pv (i+1) ys H2->R ys H2)->tG C t x (clr own σ) H (xr' C elt q ws t2 it2 q2 xs R)) (hd:∀xs H,Pv vs.length xs H->lj' Q xs H):lr' C elt own t q ws t2 it2 q2 σ Q (Itl C.K a) H:=
 nL' (n:=vs.length) Pv h0 (fun i xs H hi p=>⟨vs,vs[i],hl i xs H p,by simp[hi]⟩) (fun xs H p=>⟨vs,hl _ xs H p,ah _⟩) (fun i xs H x H' R hi p y k=>by
  obtain⟨e,y⟩:=y
  subst e
  exact hs i xs H' x R (y vs (hl i xs H' p)) p k) hd
theorem vU' {elt:Ce} {ws:List Nat} {t2:Ct} {q2:Cqo} {xs:List V} {P:List V->Hp->Prop} {l:List Bool} (Pv:Nat->List V->Hp->Prop) (h0:Pv 0 xs H)
  (hs:∀i xs H c (R:List V->Hp->Prop),l[i]?=some c->Pv i xs H->(∀ys H2,Pv (i+1) ys H2->R ys H2)->tG C t2 (.str (tx [c])) (clr ws σ) H (kCG C elt q2 xs R)) (hd:∀xs H,Pv l.length xs H->P xs H):vO' C elt ws t2 q2 xs P σ (Its (tx l)) H:=
 vT' (n:=l.length) Pv h0 (fun i xs H hi p=>by show i<(tx l).cps.size;rw[g2'];exact hi) (fun xs H p=>by show(tx l).cps.size<=l.length;rw[g2'];exact ah _) (fun i xs H x H' R hi p y k=>by
  obtain⟨e,c,hc,rfl⟩:=y
  subst e
  rw[o4',aa hi]at hc
  cases hc
  exact hs i xs H' l[i] R (aa hi) p k) hd
end
def aI' (l:List (Str×Sp)) (y:Str):Option Sp:=l.lookup y
theorem ae' {x:Str} {s:Sp} {l:List (Str×Sp)}:aI' ((x,s) :: l) x=some s:=by unfold aI';simp
theorem aa' {x y:Str} {s:Sp} {l:List (Str×Sp)} (h:(y == x)=false):aI' ((x,s) :: l) y=aI' l y:=by
 unfold aI'
 rw[bG,h]
theorem eY' {y:Str} {s:Sp}:∀{l:List (Str×Sp)},aI' l y=some s->(y,s)∈l
 | [],h=>by cases h
 |(x,t) :: l,h=>by
  unfold aI' at h
  rw[bG]at h
  cases e:y == x with
  |true=>
   rw[e]at h
   cases h
   rw[eq_of_beq e]
   exact aw ..
  |false=>
   rw[e]at h
   exact aq _ (eY' h)
theorem aA' {P:Program} {w:World} {K:W.Frag} {mg:Str->Option Value} {base:Heap} {k:Nat} {l:List (Str×Sp)} (h:∀p∈l,∃f' fd' ps',FnOk P w K mg base CX0 k f' fd' ps' p.2/\mg p.1=some (.ref f')/\W.keepIn K (.ref f')=true/\eD' K fd' ps' []):
  ∀y sp',aI' l y=some sp'->∃f' fd' ps',FnOk P w K mg base CX0 k f' fd' ps' sp'/\mg y=some (.ref f')/\W.keepIn K (.ref f')=true/\eD' K fd' ps' []:=fun y sp' e=>h (y,sp') (eY' e)
theorem ao' {P:Program} {w:World} {K:W.Frag} {mg:Str->Option Value} {base:Heap} {x qual:Str} {st:Stmt} {f:Addr} {fd:FuncData} {ps:List Str} {k:Nat} {sp:Sp} (F:Fun K x qual st f fd) (C:Rc) (S:FnScope C.N ps (ad' st)) (hK:C.K=K) (code:Css) (hm:mSs C.N C.B (ad' st) code (al' st)=true)
  (len:∀vs H Q E,sp vs H Q E->vs.length=ps.length)
  (hfs:∀y sp',C.fs y=some sp'->∃f' fd' ps',FnOk P w K mg base CX0 k f' fd' ps' sp'/\mg y=some (.ref f')/\W.keepIn K (.ref f')=true/\eD' K fd' ps' []) (hB:∀y∈C.B,mg y=none) (hmk:mg "~"=none/\mg "^"=none/\mg "%"=none) (nt:tld C.B=false) (nh:hat C.B=false) (hxk:C.xk=fun _=>E0) (hcl:C.cl=fun _=>none)
  (hbody:∀vs H Q E,sp vs H Q E->tSs C code { nx:=fun _ H'=>Q .non H',rt:=Q } (aF' C.N vs) H):FnOk P w K mg base CX0 (k+1) f fd ps sp:=
 qJ' F C S hK code hm len ⟨fun y sp' e=>by
  obtain⟨f',fd',ps',h1,h2⟩:=hfs y sp' e
  exact⟨f',fd',ps',.inl h1,h2⟩,hB,hmk,(fun c Ca e=>by rw[hcl]at e;cases e),nt,nh⟩ hxk hbody
theorem mC {α:Type} {P:α->Prop} {a:α} {l:List α} (h:P a/\∀x∈l,P x):∀x∈a :: l,P x:=List.forall_mem_cons.mpr h
theorem mN {α:Type} {P:α->Prop}:∀x∈([]:List α),P x:=fun y hy=>absurd hy aA
theorem rh' {α:Type} {P:List α->Prop} (h:∀x0,P [x0]):∀us:List α,us.length=1->P us
 | [x0],_=>h x0
theorem gD' {α:Type} {P:List α->Prop} (h:∀x0 x1,P [x0,x1]):∀us:List α,us.length=2->P us
 | [x0,x1],_=>h x0 x1
theorem xt' {α:Type} {P:List α->Prop} (h:∀x0 x1 x2,P [x0,x1,x2]):∀us:List α,us.length=3->P us
 | [x0,x1,x2],_=>h x0 x1 x2
theorem zf' {α:Type} {P:List α->Prop} (h:∀x0 x1 x2 x3,P [x0,x1,x2,x3]):∀us:List α,us.length=4->P us
 | [x0,x1,x2,x3],_=>h x0 x1 x2 x3
def bv' {α β:Type} (R:α->β->Prop):List α->List β->Prop
 | [],[]=>True
 |a :: as,b :: bs=>R a b/\bv' R as bs
 |_,_=>False
section
variable {α β:Type} {R S:α->β->Prop}
theorem bv'.mono (h:∀a b,R a b->S a b):∀{as:List α} {bs:List β},bv' R as bs->bv' S as bs
 | [],[],_=>trivial
 |_ :: _,_ :: _,q=>⟨h _ _ q.1,bv'.mono h q.2⟩
 | [],_ :: _,q=>q.elim
 |_ :: _,[],q=>q.elim
theorem bv'.len:∀{as:List α} {bs:List β},bv' R as bs->as.length=bs.length
 | [],[],_=>rfl
 |_ :: _,_ :: _,q=>by simp[bv'.len q.2]
 | [],_ :: _,q=>q.elim
 |_ :: _,[],q=>q.elim
theorem bv'.app:∀{as cs:List α} {bs ds:List β},bv' R as bs->bv' R cs ds->bv' R (as++cs) (bs++ds)
 | [],_,[],_,_,q=>q
 |_ :: _,_,_ :: _,_,p,q=>⟨p.1,bv'.app p.2 q⟩
 | [],_,_ :: _,_,p,_=>p.elim
 |_ :: _,_,[],_,p,_=>p.elim
theorem bv'.snoc {a:α} {b:β} {as:List α} {bs:List β} (h:bv' R as bs) (r:R a b):bv' R (as++[a]) (bs++[b]):=h.app ⟨r,trivial⟩
theorem bv'.get:∀{as:List α} {bs:List β} {i:Nat} {b:β},bv' R as bs->bs[i]?=some b->∃a,as[i]?=some a/\R a b
 | [],[],_,_,_,e=>by cases e
 |a :: _,_ :: _,0,_,q,e=>by cases e;exact⟨a,rfl,q.1⟩
 |_ :: as,_ :: bs,i+1,b,q,e=>by
  obtain⟨a,h1,h2⟩:=bv'.get (i:=i) (b:=b) q.2 (by simpa using e)
  exact⟨a,by simpa using h1,h2⟩
 | [],_ :: _,_,_,q,_=>q.elim
 |_ :: _,[],_,_,q,_=>q.elim
theorem bv'.getL:∀{as:List α} {bs:List β} {i:Nat} {a:α},bv' R as bs->as[i]?=some a->∃b,bs[i]?=some b/\R a b
 | [],[],_,_,_,e=>by cases e
 |_ :: _,b :: _,0,_,q,e=>by cases e;exact⟨b,rfl,q.1⟩
 |_ :: as,_ :: bs,i+1,a,q,e=>by
  obtain⟨b,h1,h2⟩:=bv'.getL (i:=i) (a:=a) q.2 (by simpa using e)
  exact⟨b,by simpa using h1,h2⟩
 | [],_ :: _,_,_,q,_=>q.elim
 |_ :: _,[],_,_,q,_=>q.elim
end
def im' {α:Type} (ay':TL α) (b:α) (P:α->Hp->Prop) (σ:L2.St):Bool->Hp->Prop:=fun ok H=>if ok=true then ay' σ b H P else P b H
def jn' {α:Type} (tc:TT) (ay':TL α) (b:α) (P:α->Hp->Prop):L2.St->Hp->Prop:=fun σ H=>tc σ H (im' ay' b P σ)
def kCl {α:Type} (own:List Nat) (g:TG) (tc:TT) (ay':TL α) (σ:L2.St) (a:α) (N:α->Hp->Prop) (J:It) (H:Hp):Prop:=aP' own g tc ay' J σ a H N
section
variable {C:Rc} {σ:L2.St} {H:Hp} {Q:VK} {D:Ends} {α:Type}
theorem ri' {ay':TL α} {b:α} {P:α->Hp->Prop}:jn' (tQo C .none) ay' b P σ H=ay' σ b H P:=rfl
theorem rj' {q:Cq} {ay':TL α} {b:α} {P:α->Hp->Prop}:jn' (tQo C (.some q)) ay' b P σ H=tQ C q σ H (im' ay' b P σ):=rfl
theorem nM' {ay':TL α} {b:α} {P:α->Hp->Prop}:im' ay' b P σ true H=ay' σ b H P:=rfl
theorem nN' {ay':TL α} {b:α} {P:α->Hp->Prop}:im' ay' b P σ false H=P b H:=rfl
theorem rk' {own:List Nat} {g:TG} {tc:TT} {ay':TL α} {J:It} {a:α} {N:α->Hp->Prop} {n:Nat} (Pv:Nat->α->Hp->Prop) (h0:Pv 0 a H) (hgo:∀i b H,i<n->Pv i b H->J.go i H) (hstop:∀b H,Pv n b H->J.stop n H)
  (hs:∀i b H x H' (R:α->Hp->Prop),i<n->Pv i b H->J.yld i H x H'->(∀c H2,Pv (i+1) c H2->R c H2)->g x (clr own σ) H' (jn' tc ay' b R)) (hd:∀b H,Pv n b H->N b H):kCl own g tc ay' σ a N J H:=by
 refine⟨fun i m b H=>m=n-i/\i<=n/\Pv i b H,⟨n,by simp,aL _,h0⟩,?_⟩
 rintro i m b H ⟨rfl,hi,p⟩
 by_cases hlt:i<n
 .refine .inr ⟨hgo i b H hlt p,fun x H' y=>?_⟩
  exact hs i b H x H' (fun c H4=>∃m',m'<n-i/\(m'=n-(i+1)/\i+1<=n/\Pv (i+1) c H4)) hlt p y fun ys H2 p2=>⟨n-(i+1),⋯,rfl,hlt,p2⟩
 .have e:i=n:=by omega
  subst e
  exact .inl ⟨hstop b H p,hd b H p⟩
theorem AZ' {own:List Nat} {g:TG} {tc:TT} {ay':TL α} {b0:α} {N:α->Hp->Prop} {a:Addr} {vs:List V} (Pv:Nat->α->Hp->Prop) (h0:Pv 0 b0 H) (hl:∀i b H,Pv i b H->SqL C.K H a vs)
  (hs:∀i b H x (R:α->Hp->Prop),vs[i]?=some x->Pv i b H->(∀c H2,Pv (i+1) c H2->R c H2)->g x (clr own σ) H (jn' tc ay' b R)) (hd:∀b H,Pv vs.length b H->N b H):kCl own g tc ay' σ b0 N (Itl C.K a) H:=
 rk' (n:=vs.length) Pv h0 (fun i xs H hi p=>⟨vs,vs[i],hl i xs H p,by simp[hi]⟩) (fun xs H p=>⟨vs,hl _ xs H p,ah _⟩) (fun i xs H x H' R hi p y k=>by
  obtain⟨e,y⟩:=y
  subst e
  exact hs i xs H' x R (y vs (hl i xs H' p)) p k) hd
theorem A0' {own:List Nat} {g:TG} {tc:TT} {ay':TL α} {b0:α} {N:α->Hp->Prop} {a:Addr} {vs:List V} (Pv:Nat->α->Hp->Prop) (h0:Pv 0 b0 H) (hl:∀i b H,Pv i b H->SqT C.K H a vs)
  (hs:∀i b H x (R:α->Hp->Prop),vs[i]?=some x->Pv i b H->(∀c H2,Pv (i+1) c H2->R c H2)->g x (clr own σ) H (jn' tc ay' b R)) (hd:∀b H,Pv vs.length b H->N b H):kCl own g tc ay' σ b0 N (Itt C.K a) H:=
 rk' (n:=vs.length) Pv h0 (fun i xs H hi p=>⟨vs,vs[i],hl i xs H p,by simp[hi]⟩) (fun xs H p=>⟨vs,hl _ xs H p,ah _⟩) (fun i xs H x H' R hi p y k=>by
  obtain⟨e,y⟩:=y
  subst e
  exact hs i xs H' x R (y vs (hl i xs H' p)) p k) hd
theorem A1' {own:List Nat} {g:TG} {tc:TT} {ay':TL α} {b0:α} {N:α->Hp->Prop} {a:Addr} {vs:List V} (Pv:Nat->α->Hp->Prop) (h0:Pv 0 b0 H) (hl:∀i b H,Pv i b H->SqL C.K H a vs)
  (hs:∀i b H x p (R:α->Hp->Prop),vs[i]?=some x->H p=none->Pv i b H->(∀c H2,Pv (i+1) c H2->R c H2)->g (.ref p) (clr own σ) (upd H p (.tup [.int i,x])) (jn' tc ay' b R)) (hd:∀b H,Pv vs.length b H->N b H):kCl own g tc ay' σ b0 N (Ite C.K a) H:=
 rk' (n:=vs.length) Pv h0 (fun i xs H hi p=>⟨vs,vs[i],hl i xs H p,by simp[hi]⟩) (fun xs H p=>⟨vs,hl _ xs H p,rfl⟩) (fun i xs H x H' R hi p y k=>by
  obtain⟨ad,v,rfl,hn,y,rfl⟩:=y
  exact hs i xs H v ad R (y vs (hl i xs H p)) hn p k) hd
theorem nO' {elt:Ce} {own:List Nat} {t:Ct} {it:Ci} {q:Cqo} {ws:List Nat} {t2:Ct} {it2:Ci} {q2:Cqo} {r:Cc}:tE C (.comp elt own t it q (.cons ws t2 it2 q2 r)) σ H Q=tI C it σ H (kCl own (tG C t) (tQo C q) (tR C (.cons ws t2 it2 q2 r) (eE' (tE C elt))) σ [] (lj' Q)):=rfl
theorem rl' {ws:List Nat} {t:Ct} {it:Ci} {q:Cqo} {r:Cc} {em:TL (List V)} {b:List V} {P:List V->Hp->Prop}:tR C (.cons ws t it q r) em σ b H P=tI C it σ H (kCl ws (tG C t) (tQo C q) (tR C r em) σ b P):=rfl
theorem vV' {em:TL (List V)} {b:List V} {P:List V->Hp->Prop}:tR C .nil em σ b H P=em σ b H P:=rfl
theorem rm' {elt:Ce} {b:List V} {P:List V->Hp->Prop}:eE' (tE C elt) σ b H P=tE C elt σ H (li' b P):=rfl
def zg' (b:(Option Int->Bool)×Nat) (P:(Option Int->Bool)×Nat->Hp->Prop):VK:=fun v H=>∃k,v=kO k/\b.2<4000/\P (fun j=>b.1 j || decide (j=k),b.2+1) H
theorem nP' {elt:Ce} {b:(Option Int->Bool)×Nat} {P:(Option Int->Bool)×Nat->Hp->Prop}:f8' (tE C elt) σ b H P=tE C elt σ H (zg' b P):=rfl
theorem rn' {it:Ci} {own:List Nat} {g:TG} {tc:TT} {ay':TL α} {b:α} {P:α->Hp->Prop}:gM' (tI C it) (aP' own g tc ay') σ b H P=tI C it σ H (kCl own g tc ay' σ b P):=rfl
def zh' (i:Nat) (D:Ends) (σ:L2.St):(Option Int->Bool)×Nat->Hp->Prop:=fun a H2=>True/\∀p,H2 p=none->D.nx (σ.set i (some (.ref p))) (upd H2 p (eR' p a.1 a.2))
theorem ro' {i:Nat} {elt:Ce} {own:List Nat} {t:Ct} {it:Ci} {q:Cqo} {ws:List Nat} {t2:Ct} {it2:Ci} {q2:Cqo}:tS C (.setc2 i elt own t it q ws t2 it2 q2) D σ H=tI C it σ H (kCl own (tG C t) (tQo C q) (gM' (tI C it2) (aP' ws (tG C t2) (tQo C q2) (f8' (tE C elt)))) σ (fun _=>false,0) (zh' i D σ)):=rfl
theorem vW' {K:W.Frag} {a:Addr} {ns:List Int} (h:SqL K H a (ns.map V.int)) (hl:ns.length<=3999) (q:∀p,H p=none->Q (.ref p) (upd H p (eR' p (inL ns) ns.length))):eB' K .set [.ref a] H Q:=⟨a,ns,rfl,h,hl,q⟩
def zi' (i:Nat) (D:Ends) (σ:L2.St):List (Key×V)->Hp->Prop:=fun a H2=>True/\∀p,H2 p=none->D.nx (σ.set i (some (.ref p))) (upd H2 p (.dK a))
def zj' (i:Nat) (D:Ends) (σ:L2.St):KTL->Hp->Prop:=fun a H2=>okT a H2/\∀p,H2 p=none->D.nx (σ.set i (some (.ref p))) (upd H2 p (.dT (plT a)))
theorem rp' {i:Nat} {k v:Ce} {own:List Nat} {t:Ct} {it:Ci} {q:Cqo}:tS C (.dctc false i k v own t it q) D σ H=tI C it σ H (kCl own (tG C t) (tQo C q) (h6' (tE C k) (tE C v)) σ [] (zi' i D σ)):=rfl
theorem rq' {i:Nat} {k v:Ce} {own:List Nat} {t:Ct} {it:Ci} {q:Cqo}:tS C (.dctc true i k v own t it q) D σ H=tI C it σ H (kCl own (tG C t) (tQo C q) (h7' (tE C k) (tE C v)) σ [] (zj' i D σ)):=rfl
def Al' (a:List (Key×V)) (P:List (Key×V)->Hp->Prop) (y:V):VK:=fun v H2=>∃k,y=L2.kV k/\a.length<sizeLine/\P (eA' a k v) H2
def Am' (C:Rc) (σ:L2.St) (v:Ce) (a:List (Key×V)) (P:List (Key×V)->Hp->Prop):VK:=fun y H1=>tE C v σ H1 (Al' a P y)
theorem nQ' {k v:Ce} {a:List (Key×V)} {P:List (Key×V)->Hp->Prop}:h6' (tE C k) (tE C v) σ a H P=tE C k σ H (Am' C σ v a P):=rfl
theorem rr' {v:Ce} {a:List (Key×V)} {P:List (Key×V)->Hp->Prop} {y:V}:Am' C σ v a P y H=tE C v σ H (Al' a P y):=rfl
def An' (a:KTL) (P:KTL->Hp->Prop) (y:V):VK:=fun v H2=>∃(k:List Key) (b:Addr),y=.ref b/\H2 b=some (.tup (k.map L2.kV))/\okT a H2/\(∀x∈a,x.1≠k)/\a.length<sizeLine/\P (a++[(k,b,v)]) H2
def Ao' (C:Rc) (σ:L2.St) (v:Ce) (a:KTL) (P:KTL->Hp->Prop):VK:=fun y H1=>tE C v σ H1 (An' a P y)
theorem nR' {k v:Ce} {a:KTL} {P:KTL->Hp->Prop}:h7' (tE C k) (tE C v) σ a H P=tE C k σ H (Ao' C σ v a P):=rfl
theorem rs' {v:Ce} {a:KTL} {P:KTL->Hp->Prop} {y:V}:Ao' C σ v a P y H=tE C v σ H (An' a P y):=rfl
def nS' (neg:Bool) (y:V) (Q:VK):VK:=fun x H2=>(∃a o,x=.ref a/\dH' H2 a y o/\Q (.bl (if neg then !o.isSome else o.isSome)) H2)\/xo' neg y x H2 Q
def rt' (C:Rc) (σ:L2.St) (neg:Bool) (b:Ce) (Q:VK):VK:=fun y H1=>tE C b σ H1 (nS' neg y Q)
theorem vX' {neg:Bool} {a b:Ce}:tE C (.din neg a b) σ H Q=tE C a σ H (rt' C σ neg b Q):=rfl
theorem vY' {neg:Bool} {a b:Ce} {Qb:Bool->Hp->Prop}:tQ C (.din neg a b) σ H Qb=tE C a σ H (rt' C σ neg b (kT Qb)):=rfl
theorem nT' {neg:Bool} {b:Ce} {y:V}:rt' C σ neg b Q y H=tE C b σ H (nS' neg y Q):=rfl
theorem ls' {neg:Bool} {k:Option Int} {y:V} {p:Addr} {S:Option Int->Bool} {n:Nat} (hy:y=kO k) (h:H p=some (eR' p S n)) (q:Q (.bl (if neg then !(S k)else S k)) H):nS' neg y Q (.ref p) H:=.inr ⟨k,p,S,n,hy,rfl,h,q⟩
theorem in' {neg:Bool} {y:V} {p:Addr} {o:Option V} (h:dH' H p y o) (q:Q (.bl (if neg then !o.isSome else o.isSome)) H):nS' neg y Q (.ref p) H:=.inl ⟨p,o,rfl,h,q⟩
def lu' (a:Addr) (Q:VK):VK:=fun y H2=>(∃o,dH' H2 a y o/\Q (o.getD .non) H2)\/(y=.non/\NoN H2 a/\Q .non H2)
def vZ' (C:Rc) (σ:L2.St) (b:Ce) (Q:VK):VK:=fun x H1=>∃a,x=.ref a/\IsD H1 a/\tE C b σ H1 (lu' a Q)
theorem v0' {a b:Ce}:tE C (.dgt a b) σ H Q=tE C a σ H (vZ' C σ b Q):=rfl
theorem lw' {b:Ce} {p:Addr} (h:IsD H p) (q:tE C b σ H (lu' p Q)):vZ' C σ b Q (.ref p) H:=⟨p,rfl,h,q⟩
theorem ru' {p:Addr} {y:V} {o:Option V} (h:dH' H p y o) (q:Q (o.getD .non) H):lu' p Q y H:=.inl ⟨o,h,q⟩
theorem rv' {p:Addr} (h:NoN H p) (q:Q .non H):lu' p Q .non H:=.inr ⟨rfl,h,q⟩
end
section
variable {C:Rc} {σ:L2.St} {H:Hp} {Q:VK} {Qb:Bool->Hp->Prop}
def kW1 (C:Rc) (σ:L2.St) (k:Zf) (b:Ce) (Q:VK):VK:=fun x H=>tE C b σ H fun y H'=>rZf k x y H' Q
def kW2 (k:Zf) (x:V) (Q:VK):VK:=fun y H=>rZf k x y H Q
theorem v2' {k:Zf} {a b:Ce}:tQ C (.cmw k a b) σ H Qb=tE C a σ H (kW1 C σ k b (kT Qb)):=rfl
theorem v3' {k:Zf} {b:Ce} {x:V}:kW1 C σ k b Q x H=tE C b σ H (kW2 k x Q):=rfl
theorem nU' {K:W.Frag} {a:Addr} {kvs:List (List Key×V)} (h:Rd H a (.dT kvs)) (q:Q (.int kvs.length) H):eB' K .lenD [.ref a] H Q:=.inr ⟨a,kvs,rfl,h,q⟩
theorem v4' {K:W.Frag} {a:Addr} {xs:List V} {y:V} (h:H a=some (.lst (xs++[y]))) (q:Q y (upd H a (.lst xs))):jd' K .popL (.ref a) [] H Q:=⟨a,xs++[y],y,rfl,rfl,h,by simp,by simpa using q⟩
section
variable {D:Ends}
def zk' (x v:V) (D:Ends) (σ:L2.St):VK:=fun y H3=>∃a H4,x=.ref a/\qe' H3 a y v H4/\D.nx σ H4
def zl' (C:Rc) (i:Ce) (v:V) (D:Ends) (σ:L2.St):VK:=fun x H2=>tE C i σ H2 (zk' x v D σ)
def Aq' (C:Rc) (o i:Ce) (D:Ends) (σ:L2.St):VK:=fun v H1=>tE C o σ H1 (zl' C i v D σ)
theorem v5' {o i e:Ce}:tS C (.dput o i e) D σ H=tE C e σ H (Aq' C o i D σ):=rfl
theorem rz' {o i:Ce} {v:V}:Aq' C o i D σ v H=tE C o σ H (zl' C i v D σ):=rfl
theorem rA' {i:Ce} {v x:V}:zl' C i v D σ x H=tE C i σ H (zk' x v D σ):=rfl
theorem nV' {a:Addr} {kvs:List (Key×V)} {k:Key} {v:V} (h:H a=some (.dK kvs)) (hz:kvs.length<sizeLine) (q:D.nx σ (upd H a (.dK (eA' kvs k v)))):zk' (.ref a) v D σ (L2.kV k) H:=⟨a,_,rfl,.inl ⟨kvs,k,h,rfl,hz,rfl⟩,q⟩
end
def At' (Q:VK):VK:=fun v H1=>∃(k:List Int) (b:Addr),v=.ref b/\H1 b=some (.tup (k.map V.int))/\∀p,H1 p=none->Q (.ref p) (upd H1 p (cD' p [(k,b)]))
theorem v6' {a:Ce}:tE C (.sd1 a) σ H Q=tE C a σ H (At' Q):=rfl
theorem v7' {k:List Int} {b:Addr} (h:H b=some (.tup (k.map V.int))) (q:∀p,H p=none->Q (.ref p) (upd H p (cD' p [(k,b)]))):At' Q (.ref b) H:=⟨k,b,rfl,h,q⟩
def zn' (D:Addr) (Q:VK):VK:=fun y H2=>∃(k:List Int) (b:Addr) (L:List (List Int×Addr)),y=.ref b/\H2 b=some (.tup (k.map V.int))/\H2 D=some (cD' D L)/\Trk H2 L/\L.length<4000/\Q .non (upd H2 D (cD' D (ni' L k b)))
def Au' (C:Rc) (σ:L2.St) (b:Ce) (Q:VK):VK:=fun x H1=>∃(D:Addr) (L0:List (List Int×Addr)),x=.ref D/\H1 D=some (cD' D L0)/\tE C b σ H1 (zn' D Q)
theorem v8' {a b:Ce}:tE C (.sad a b) σ H Q=tE C a σ H (Au' C σ b Q):=rfl
theorem v9' {D:Addr} {L0:List (List Int×Addr)} {b:Ce} (h:H D=some (cD' D L0)) (q:tE C b σ H (zn' D Q)):Au' C σ b Q (.ref D) H:=⟨D,L0,rfl,h,q⟩
theorem wa' {D b:Addr} {k:List Int} {L:List (List Int×Addr)} (h:H b=some (.tup (k.map V.int))) (h2:H D=some (cD' D L)) (h3:Trk H L) (h4:L.length<4000) (q:Q .non (upd H D (cD' D (ni' L k b)))):zn' D Q (.ref b) H:=⟨k,b,L,rfl,h,h2,h3,h4,q⟩
theorem rD' {D b:Addr} {k:List Int} {L:List (List Int×Addr)} (h:H b=some (.tup (k.map V.int))) (h2:H D=some (cD' D L)) (h3:Trk H L) (q:Q (.bl (!decide (k∈L.map (·.1)))) H):kW2 .ninS (.ref b) Q (.ref D) H:=⟨k,b,D,L,rfl,h,rfl,h2,h3,q⟩
end
end R3
section
open PySem PySem.Spec PyProof.Rows L2 R3
local macro_rules | `(tactic| symm) => `(tactic| try walk_at "sy")
set_option hygiene false in
local macro_rules | `(tactic| walk_at "sy") => `(tactic| simp only [v2', v3', v5', rz', rA', v6', v8', vM', nO', rl', vV', rm', vX', vY', nT', v0', ro', rp', rq', nP', rn', nQ', rr', nR', rs', ri', rj', nM', nN', uA', uB', yH', uC', uD', uE', uF', uG', uH', uI', uJ', uK', uL', uM', yI', uN', uP', nu', uQ', yK', qO', qP', uR', uS', vP', vQ', vR', vS', nK', yL', q6', yM', yN', uU', yO', yP', yQ', AQ', AR', AS', AT', Ac', yR', zb', zc', ra', vN', rb', AX', q8', uV', uW', qR', lb', uX', uY', uZ', yS', u1', nv', yT', qS', yU', nw', nx', ny', AU', yV', yW', qM', u6', u7', yX', u5', u8', u9', qT', qU', nz', va', qX', vd', nA', nB', vf', vg', vh', vi', vk', yZ', qY', vl', qZ', vp', nC', nD', nE', vq', vr', lc', vt', nG', nH', zd', lk', vH', jm', ll', lm', y1', vx', y2', y3', lg', y4', vB', vC', vy', q4', y6', y7', y8', y9', nJ', clr, List.foldl_cons, List.foldl_nil, L2.aF', aJ, List.map_nil, aR, List.length_nil, df, List.nil_append, aK, Nat.reduceSub, Nat.reduceAdd, List.set_cons_zero, List.set_cons_succ, List.getElem?_cons_zero, List.getElem?_cons_succ, reduceCtorEq, decide_true, decide_false, eq_self, Bool.not_true, Bool.not_false, bne_self_eq_false, BEq.rfl])
namespace LW
open PySem PySem.Spec PyProof.Rows L2 R3
def c5':Css:=(.cons (.ite (.cmp .Lt (.var 1) (.blt .len (.cons (.var 0) .nil))) (.cons (.ret (.idx (.var 0) (.var 1)))
  .nil) .nil)
  (.cons (.ret (.int 0))
  .nil))
def nX':Css:=(.cons (.asg (.name 2) (.call "_law_cell_at" (.cons (.var 0) (.cons (.var 1) .nil))))
  (.cons (.ret (.lst (.cons (.bin .Mult (.blt .abs (.cons (.var 2) .nil)) (.blt .int (.cons (.cmp .GtE (.blt .abs (.cons (.var 2) .nil)) (.bin .Pow (.int 10) (.int 18))) .nil))) (.cons (.bin .Add (.bin .Add (.bin .Mod (.var 2) (.int 2305843009213693951)) (.bin .Mult (.int 39373) (.var 1))) (.int 17)) (.cons (.int 0) .nil)))))
  .nil))
def io':Css:=(.cons (.ite (.cmp .Gt (.idx (.var 0) (.int 0)) (.int 0)) (.cons (.asg (.name 2) (.bin .Mod (.idx (.var 0) (.int 0)) (.var 1)))
  (.cons (.asg (.sub (.var 0) (.int 0)) (.bin .FloorDiv (.idx (.var 0) (.int 0)) (.var 1)))
  (.cons (.ret (.var 2))
  .nil))) .nil)
  (.cons (.asg (.sub (.var 0) (.int 2)) (.bin .Add (.idx (.var 0) (.int 2)) (.int 1)))
  (.cons (.asg (.name 3) (.bin .Mod (.bin .Mult (.bin .Add (.idx (.var 0) (.int 1)) (.bin .Mult (.int 48271) (.idx (.var 0) (.int 2)))) (.bin .Add (.int 39373) (.idx (.var 0) (.int 2)))) (.int 2147483647)))
  (.cons (.asg (.name 4) (.bin .Mod (.bin .Mult (.bin .Add (.var 3) (.idx (.var 0) (.int 2))) (.bin .Add (.bin .Mod (.var 3) (.int 40009)) (.int 7))) (.int 2147483629)))
  (.cons (.ret (.bin .Mod (.bin .FloorDiv (.bin .Mod (.bin .Add (.bin .Mult (.var 4) (.int 48271)) (.var 3)) (.int 2147483587)) (.int 64)) (.var 1)))
  .nil)))))
def eZ' (K:W.Frag):Sp:=fun vs H Q _=>∃(a:Addr) (ns:List Int) (k:Int),vs=[.ref a,.int k]/\SqL K H a (ns.map V.int)/\0<=k/\∀c:Int,Q (.int c) H
theorem nY' {ns:List Int} {k:Int} (h0:0<=k) (h1:k<ns.length):∃c:Int,atI (ns.map V.int) k=some (.int c):=by
 obtain⟨j,rfl⟩:=aU h0
 have hk:j<ns.length:=by omega
 exact⟨ns[j],aG' (by rw[al,aa hk];rfl)⟩
theorem lx' {C:Rc} (hN:C.N.length=2):∀vs H Q E,eZ' C.K vs H Q E->tSs C c5' { nx:=fun _ H'=>Q .non H',rt:=Q } (L2.aF' C.N vs) H:=by
 intro vs H Q E h
 obtain⟨a,ns,k,rfl,hs,hk,q⟩:=h
 rw[an' hN]
 unfold c5'
 symm
 refine bI' hs ?_
 rw[ae]
 symm
 refine dz' (fun c=>?_) fun _=>?_
 .obtain⟨v,hv⟩:=nY' hk c
  symm
  exact aO' hs hv (q v)
 .symm
  exact q 0
def ly' (K:W.Frag):Sp:=fun vs H Q _=>∃(a:Addr) (ns:List Int) (k:Int),vs=[.ref a,.int k]/\SqL K H a (ns.map V.int)/\0<=k/\k<=1000/\∀(p:Addr) (x y:Int),H p=none->0<=x->0<=y->y<2 ^ 62->Q (.ref p) (upd H p (gm' x y 0))
theorem nZ' {C:Rc} (hN:C.N.length=3) (hf:C.fs "_law_cell_at"=some (eZ' C.K)):∀vs H Q E,ly' C.K vs H Q E->tSs C nX' { nx:=fun _ H'=>Q .non H',rt:=Q } (L2.aF' C.N vs) H:=by
 intro vs H Q E h
 obtain⟨a,ns,k,rfl,hs,hk,hk2,q⟩:=h
 rw[an' hN]
 unfold nX'
 symm
 refine aj' hf ?_
 symm
 refine⟨a,ns,k,rfl,hs,hk,fun c=>?_⟩
 symm
 have hm0:0<=c % 2305843009213693951:=Int.emod_nonneg _ (by decide)
 have hm1:c % 2305843009213693951<2305843009213693951:=cP _ (by decide)
 refine⟨⟨by decide,by decide,by decide⟩,?_,by decide,.inl ⟨by decide,by decide⟩,by decide,fun p hp=>q p _ _ hp ?_ ?_ ?_⟩
 .refine .inr (.inl ⟨?_,?_⟩)<;>split<;>split<;>decide
 .split<;>split<;>omega
 .omega
 .omega
section
variable {K:W.Frag} {H:Hp} {b:Addr} {x y z:Int} {Q:VK}
theorem ix0 (h:H b=some (gm' x y z)) (q:Q (.int x) H):gC' K (.ref b) (.int 0) H Q\/gJ' K (.ref b) (.int 0) H Q:=.inl ⟨b,_,0,_,rfl,rfl,SqL.of h,rfl,q⟩
theorem ix1 (h:H b=some (gm' x y z)) (q:Q (.int y) H):gC' K (.ref b) (.int 1) H Q\/gJ' K (.ref b) (.int 1) H Q:=.inl ⟨b,_,1,_,rfl,rfl,SqL.of h,rfl,q⟩
theorem ix2 (h:H b=some (gm' x y z)) (q:Q (.int z) H):gC' K (.ref b) (.int 2) H Q\/gJ' K (.ref b) (.int 2) H Q:=.inl ⟨b,_,2,_,rfl,rfl,SqL.of h,rfl,q⟩
theorem st0 {u:Int} {Q:Hp->Prop} (h:H b=some (gm' x y z)) (q:Q (upd H b (gm' u y z))):dG' (.ref b) (.int 0) (.int u) H Q:=⟨b,_,0,0,rfl,rfl,h,rfl,q⟩
theorem st2 {u:Int} {Q:Hp->Prop} (h:H b=some (gm' x y z)) (q:Q (upd H b (gm' x y u))):dG' (.ref b) (.int 2) (.int u) H Q:=⟨b,_,2,2,rfl,rfl,h,rfl,q⟩
end
def fy':Sp:=fun vs H Q _=>∃(b:Addr) (x y z m:Int),vs=[.ref b,.int m]/\H b=some (gm' x y z)/\0<=x/\0<=y/\y<2 ^ 62/\0<=z/\z<=2 ^ 40/\0<m/\m<4611686018427387904/\
 ∀(r x' z':Int),0<=r->r<m->0<=x'->0<=z'->z'<=z+1->Q (.int r) (upd H b (gm' x' y z'))
theorem lz' {C:Rc} (hN:C.N.length=5):∀vs H Q E,fy' vs H Q E->tSs C io' { nx:=fun _ H'=>Q .non H',rt:=Q } (L2.aF' C.N vs) H:=by
 intro vs H Q E h
 obtain⟨b,x,y,z,m,rfl,hb,hx,hy,hy2,hz,hz2,hm,hm2,q⟩:=h
 rw[an' hN]
 unfold io'
 walk_at "sy"
 refine ix0 hb ?_
 walk_at "sy"
 refine dz' (fun c=>?_) fun _=>?_
 .walk_at "sy"
  refine ix0 hb ?_
  walk_at "sy"
  refine⟨hm,?_⟩
  refine ix0 hb ?_
  walk_at "sy"
  refine⟨⟨hm,.inr (ao ((Nat.log2_lt ⋯).mpr (show m.natAbs<2 ^ 62 by omega)) (by decide))⟩,st0 hb ?_⟩
  walk_at "sy"
  exact q _ _ _ (Int.emod_nonneg _ ⋯) (cP _ hm) (Int.ediv_nonneg hx ⋯) hz ⋯
 .walk_at "sy"
  refine ix2 hb ?_
  walk_at "sy"
  refine st2 hb ?_
  have hb':upd H b (gm' x y (z+1)) b=some (gm' x y (z+1)):=ab'
  walk_at "sy"
  refine ix1 hb' ?_
  walk_at "sy"
  refine ix2 hb' ?_
  walk_at "sy"
  refine⟨.inl ⟨by decide,by decide⟩,?_⟩
  refine ix2 hb' ?_
  walk_at "sy"
  refine⟨.inr (.inl ⟨⋯,⋯⟩),by decide,?_⟩
  refine ix2 hb' ?_
  walk_at "sy"
  generalize (y+48271*(z+1))*(39373+(z+1)) % 2147483647=once
  have ho0:0<=once % 40009:=Int.emod_nonneg _ (by decide)
  have ho1:once % 40009<40009:=cP _ (by decide)
  refine⟨by decide,.inr (.inl ⟨⋯,⋯⟩),by decide,.inr (.inl ⟨by decide,by decide⟩),by decide,⟨by decide,by decide⟩,hm,?_⟩
  exact q _ _ _ (Int.emod_nonneg _ ⋯) (cP _ hm) hx ⋯ ⋯
def aw':Sp:=fun vs H Q _=>∃(b:Addr) (n:Nat) (m:Int),vs=[.ref b,.int m]/\H b=some (dn' b n)/\n<=2 ^ 40/\0<m/\m<4611686018427387904/\∀(r:Int) (H':Hp),0<=r->r<m->Go 1 H H'->Q (.int r) H'
theorem rF' {P:Program} {w:World} {K:W.Frag} {mg:Str->Option Value} {base:Heap} {k:Nat} {f:Addr} {fd:FuncData} {ps:List Str} (hp:ps.length=2) (F:FnOk P w K mg base CX0 k f fd ps fy'):FnOk P w K mg base CX0 k f fd ps aw':=by
 refine qL' (la' (sp':=fun vs H Q E=>fy' vs H (Ab' Q) E) F fun _ _ _ _ h=>h) (fun vs H Q E h=>?_) fun vs H Q E h=>?_
 .obtain⟨b,n,m,rfl,hb,hn,hm,hm2,q⟩:=h
  refine⟨b,n,hb,fun x y z hx hy hy2 hz hzn=>⟨b,x,y,z,m,rfl,ab',hx,hy,hy2,hz,⋯,hm,hm2,fun r x' z' h1 h2 h3 h4 h5=>?_⟩⟩
  refine⟨b,x',y,z',n+1,ab',h3,hy,hy2,h4,⋯,?_⟩
  refine q r _ h1 h2 ?_
  rw[dW']
  exact Go.draw hb (ah _) _
 .obtain⟨b,n,m,rfl,_⟩:=h
  rw[hp]
  rfl
def fz' (K:W.Frag):Sp:=fun vs H Q _=>∃(a:Addr) (ns:List Int) (k:Int),vs=[.ref a,.int k]/\SqL K H a (ns.map V.int)/\0<=k/\k<=1000/\∀(p:Addr),H p=none->Q (.ref p) (upd H p (dn' p 0))
theorem wb' {P:Program} {w:World} {K:W.Frag} {mg:Str->Option Value} {base:Heap} {k:Nat} {f:Addr} {fd:FuncData} {ps:List Str} (F:FnOk P w K mg base CX0 k f fd ps (ly' K)):FnOk P w K mg base CX0 k f fd ps (fz' K):=by
 refine la' F fun vs H Q E h=>?_
 obtain⟨a,ns,k,rfl,hs,h0,h1,q⟩:=h
 refine⟨a,ns,k,rfl,hs,h0,h1,fun p x y hp hx hy hy2=>⟨p,x,y,0,0,ab',hx,hy,hy2,⋯,⋯,?_⟩⟩
 rw[dW']
 exact q p hp
theorem _root_.R3.Go.boxed {c n:Nat} {H H':Hp} {b:Addr} (g:Go c H H') (h:H b=some (dn' b n)) (hn:n+c<=2 ^ 40):∃m,H' b=some (dn' b m)/\m<=n+c/\m<=2 ^ 40:=by
 obtain⟨m,hm,e⟩:=g.box b n h
 exact⟨m,e,hm,⋯⟩
def Sc:V->Bool
 | .non=>true
 | .bl _=>true
 | .int _=>true
 | .str _=>true
 |_=>false
def Eqv (H:Hp):Nat->V->V->Prop
 |0,v,w=>v=w/\Sc v=true
 |n+1,v,w=>(v=w/\Sc v=true)\/∃a b xs ys,v=.ref a/\w=.ref b/\((H a=some (.lst xs)/\H b=some (.lst ys))\/(H a=some (.tup xs)/\H b=some (.tup ys)))/\xs.length<=sizeLine/\xs.length=ys.length/\∀(i:Nat) x y,xs[i]?=some x->ys[i]?=some y->Eqv H n x y
def ip' (n:Nat):Sp:=fun vs H Q _=>∃v w,vs=[v,w]/\Eqv H n v w/\∀H',aC' H H'->Q (.bl true) H'
end LW
namespace LW
open PySem PySem.Spec PyProof.Rows L2 R3
def iq':Css:=(.cons (.ite (.cmp .Eq (.call "_law_take" (.cons (.var 0) (.cons (.int 8) .nil))) (.int 0)) (.cons (.ret (.bin .Add (.int 7) (.call "_law_take" (.cons (.var 0) (.cons (.bin .Sub (.var 3) (.int 6)) .nil)))))
  .nil) .nil)
  (.cons (.ret (.bin .Add (.var 1) (.call "_law_take" (.cons (.var 0) (.cons (.bin .Add (.bin .Sub (.var 2) (.var 1)) (.int 1)) .nil)))))
  .nil))
def c6':Css:=(.cons (.asg (.name 2) (.bin .Add (.int 2) (.call "_law_take" (.cons (.var 0) (.cons (.int 4) .nil)))))
  (.cons (.asg (.name 3) (.lst .nil))
  (.cons (.for_ (.name 4) (.range1 (.var 1)) (.cons (.asg (.name 5) (.lst .nil))
  (.cons (.for_ (.name 6) (.range1 (.int 2)) (.cons (.asg (.name 7) (.call "_law_take" (.cons (.var 0) (.cons (.var 1) .nil))))
  (.cons (.expr (.met .append (.var 5) (.cons (.idx (.lst (.cons (.var 7) (.cons .non .nil))) (.blt .int (.cons (.cmp .Eq (.call "_law_take" (.cons (.var 0) (.cons (.var 2) .nil))) (.int 0)) .nil))) .nil)))
  .nil)))
  (.cons (.expr (.met .append (.var 3) (.cons (.blt .tuple (.cons (.var 5) .nil)) .nil)))
  .nil))))
  (.cons (.ret (.blt .tuple (.cons (.var 3) .nil)))
  .nil))))
def aQ':Css:=(.cons (.asg (.name 2) (.lst .nil))
  (.cons (.for_ (.name 3) (.range1 (.var 1)) (.cons (.expr (.met .insert (.var 2) (.cons (.call "_law_take" (.cons (.var 0) (.cons (.bin .Add (.var 3) (.int 1)) .nil))) (.cons (.var 3) .nil))))
  .nil))
  (.cons (.asg (.name 4) (.bin .Mult (.lst (.cons .non .nil)) (.var 1)))
  (.cons (.for_ (.tup (.cons (.name 5) (.cons (.name 6) .nil))) (.enum (.var 2)) (.cons (.asg (.name 7) (.idx (.bin .Add (.var 2) (.cut (.var 2) .none (.some (.int 1)))) (.bin .Add (.var 5) (.int 1))))
  (.cons (.asg (.name 8) (.idx (.lst (.cons (.call "_law_take" (.cons (.var 0) (.cons (.var 1) .nil))) (.cons .non .nil))) (.blt .int (.cons (.cmp .Eq (.call "_law_take" (.cons (.var 0) (.cons (.int 3) .nil))) (.int 0)) .nil))))
  (.cons (.asg (.sub (.var 4) (.var 6)) (.idx (.lst (.cons (.tup (.cons (.var 7) (.cons (.var 8) .nil))) (.cons (.tup (.cons (.var 8) (.cons (.var 7) .nil))) .nil))) (.call "_law_take" (.cons (.var 0) (.cons (.int 2) .nil)))))
  .nil))))
  (.cons (.ret (.blt .tuple (.cons (.var 4) .nil)))
  .nil)))))
def dK':Css:=(.cons (.asg (.name 2) (.lst .nil))
  (.cons (.for_ (.name 3) (.range1 (.blt .len (.cons (.var 1) .nil))) (.cons (.for_ (.name 4) (.range1 (.bin .Add (.int 1) (.call "_law_take" (.cons (.var 0) (.cons (.int 3) .nil))))) (.cons (.expr (.met .insert (.var 2) (.cons (.call "_law_take" (.cons (.var 0) (.cons (.bin .Add (.blt .len (.cons (.var 2) .nil)) (.int 1)) .nil))) (.cons (.var 3) .nil))))
  .nil))
  .nil))
  (.cons (.asg (.name 5) (.lst .nil))
  (.cons (.for_ (.name 3) (.val (.var 2)) (.cons (.asg (.name 6) (.lst .nil))
  (.cons (.for_ (.name 7) (.val (.idx (.var 1) (.var 3))) (.cons (.asg (.name 8) (.comp (.var 9) [9,10] (.tup (.cons (.name 9) (.cons (.name 10) .nil))) (.enum (.var 2)) (.some (.cmp .Eq (.var 10) (.var 7))) .nil))
  (.cons (.expr (.met .append (.var 6) (.cons (.ife (.cmp .NotEq (.var 8) (.lst .nil)) (.idx (.var 8) (.call "_law_take" (.cons (.var 0) (.cons (.blt .len (.cons (.var 8) .nil)) .nil)))) .non) .nil)))
  .nil)))
  (.cons (.expr (.met .append (.var 5) (.cons (.blt .tuple (.cons (.var 6) .nil)) .nil)))
  .nil))))
  (.cons (.ret (.tup (.cons (.blt .tuple (.cons (.var 5) .nil)) (.cons (.var 2) .nil))))
  .nil)))))
def ir':Css:=(.cons (.asg (.name 2) (.call "_law_take" (.cons (.var 0) (.cons (.int 2) .nil))))
  (.cons (.asg (.name 3) (.idx (.lst (.cons .non (.cons (.call "_law_take" (.cons (.var 0) (.cons (.var 1) .nil))) .nil))) (.call "_law_take" (.cons (.var 0) (.cons (.int 2) .nil)))))
  (.cons (.asg (.name 4) (.bin .Add (.blt .list (.cons (.blt .range (.cons (.int 1) (.cons (.var 1) .nil))) .nil)) (.lst (.cons (.var 3) .nil))))
  (.cons (.ret (.blt .tuple (.cons (.comp (.idx (.lst (.cons (.tup (.cons (.var 5) (.cons .non .nil))) (.cons (.tup (.cons .non (.cons (.var 5) .nil))) .nil))) (.var 2)) [5] (.name 5) (.val (.var 4)) .none .nil) .nil)))
  .nil))))
def n0':Css:=(.cons (.asg (.name 1) (.call "_law_take" (.cons (.var 0) (.cons (.int 6) .nil))))
  (.cons (.ite (.cmp .Eq (.var 1) (.int 0)) (.cons (.ret (.call "_law_line" (.cons (.var 0) (.cons (.call "_law_many" (.cons (.var 0) (.cons (.int 2) (.cons (.int 6) (.cons (.int 60) .nil))))) .nil))))
  .nil) .nil)
  (.cons (.ite (.cmp .Eq (.var 1) (.int 1)) (.cons (.ret (.idx (.call "_law_copied" (.cons (.var 0) (.cons (.call "_law_machine" (.cons (.var 0) (.cons (.call "_law_many" (.cons (.var 0) (.cons (.int 1) (.cons (.int 4) (.cons (.int 12) .nil))))) .nil))) .nil))) (.int 0)))
  .nil) .nil)
  (.cons (.ite (.cmp .Lt (.var 1) (.int 4)) (.cons (.ret (.call "_law_ring_machine" (.cons (.var 0) (.cons (.call "_law_many" (.cons (.var 0) (.cons (.int 1) (.cons (.int 6) (.cons (.int 12) .nil))))) .nil))))
  .nil) .nil)
  (.cons (.ret (.call "_law_machine" (.cons (.var 0) (.cons (.call "_law_many" (.cons (.var 0) (.cons (.int 1) (.cons (.int 6) (.cons (.int 12) .nil))))) .nil))))
  .nil)))))
abbrev Rm:=Option Nat×Option Nat
def oV:Option Nat->V
 |none=>.non
 |some n=>.int n
def Tp (H H':Hp):Prop:=∀a xs,H a=some (.tup xs)->H' a=some (.tup xs)
theorem Tp.refl {H:Hp}:Tp H H:=fun _ _ h=>h
theorem Tp.trans {H H1 H2:Hp} (a:Tp H H1) (b:Tp H1 H2):Tp H H2:=fun c x h=>b c x (a c x h)
theorem _root_.R3.Go.tp {c:Nat} {H H':Hp} (g:Go c H H'):Tp H H':=fun a xs h=>g.tup h
theorem ai' {H H':Hp} (s:aC' H H'):Tp H H':=fun a xs h=>s _ _ h
theorem ei' {H:Hp} {p:Addr} (h:H p=none) (o:HO):Tp H (upd H p o):=ai' (ac' h o)
theorem e0' {H:Hp} {p:Addr} {xs:List V} (h:H p=some (.lst xs)) (o:HO):Tp H (upd H p o):=fun a ys e=>by
 rw[af' (fun z=>by subst z;rw[h]at e;cases e)]
 exact e
theorem _root_.R3.Go.upd {c:Nat} {H H':Hp} {l:Addr} {o:HO} (g:Go c H H') (h:H l=none):Go c H (L2.upd H' l o):=by
 refine⟨fun a n e=>?_,fun a u e no=>?_,fun a e=>?_⟩
 .obtain⟨m,hm,e1⟩:=g.box a n e
  exact⟨m,hm,by rw[af' (ah' e h)];exact e1⟩
 .rw[af' (ah' e h)]
  exact g.oth a u e no
 .by_cases hl:a=l
  .subst hl
   exact h
  .rw[af' hl]at e
   exact g.free a e
theorem av' {Q:VK} {m:Int} {H0 H:Hp} {b:Addr} {n0 c:Nat} (hb:H0 b=some (dn' b n0)) (g:Go c H0 H) (hn:n0+c<=2 ^ 40) (hm:0<m) (hm2:m<4611686018427387904) (q:∀r H',0<=r->r<m->Go 1 H H'->Go (c+1) H0 H'->Q (.int r) H'):aw' [.ref b,.int m] H Q E0:=by
 obtain⟨n,hb1,_,hn1⟩:=g.boxed hb hn
 exact⟨b,n,m,rfl,hb1,hn1,hm,hm2,fun r H' h0 h1 g1=>q r H' h0 h1 g1 (g.trans g1)⟩
def gp':Sp:=fun vs H Q _=>∃(b:Addr) (n:Nat) (x y z:Int),vs=[.ref b,.int x,.int y,.int z]/\H b=some (dn' b n)/\n<=2 ^ 39/\0<=x/\x<=y/\y<=1000/\7<=z/\z<=1000/\∀(r:Int) (H':Hp),(x<=r/\r<=y\/7<=r/\r<=z)->Go 2 H H'->Q (.int r) H'
theorem lA' {C:Rc} (hN:C.N.length=4) (hT:C.fs "_law_take"=some aw'):∀vs H Q E,gp' vs H Q E->tSs C iq' { nx:=fun _ H'=>Q .non H',rt:=Q } (L2.aF' C.N vs) H:=by
 intro vs H Q E h
 obtain⟨b,n,x,y,z,rfl,hb,hn,hx,hxy,hy,hz,hz2,q⟩:=h
 rw[an' hN]
 unfold iq'
 walk_at "sy"
 refine aj' hT ?_
 walk_at "sy"
 refine av' hb (Go.refl (c:=0)) ⋯ (by decide) (by decide) fun r1 H1 h0 h1 g1 g01=>?_
 walk_at "sy"
 refine dz' (fun hc=>?_) fun hc=>?_
 .walk_at "sy"
  refine aj' hT ?_
  walk_at "sy"
  refine av' hb g01 ⋯ ⋯ ⋯ fun r2 H2 h20 h21 g2 g02=>?_
  walk_at "sy"
  exact q _ _ (.inr ⟨⋯,⋯⟩) g02
 .walk_at "sy"
  refine aj' hT ?_
  walk_at "sy"
  refine av' hb g01 ⋯ ⋯ ⋯ fun r2 H2 h20 h21 g2 g02=>?_
  walk_at "sy"
  exact q _ _ (.inl ⟨⋯,⋯⟩) g02
def dB' (H:Hp) (v:V) (r:Rm):Prop:=∃p,v=.ref p/\H p=some (.tup [oV r.1,oV r.2])
theorem dB'.mono {H H':Hp} {v:V} {r:Rm} (t:Tp H H') (h:dB' H v r):dB' H' v r:=by
 obtain⟨p,e,h⟩:=h
 exact⟨p,e,t _ _ h⟩
def bs' (H:Hp):List V->List Rm->Prop
 | [],[]=>True
 |v :: vs,r :: rs=>dB' H v r/\bs' H vs rs
 |_,_=>False
theorem bs'.mono {H H':Hp} (t:Tp H H'):∀{vs:List V} {M:List Rm},bs' H vs M->bs' H' vs M
 | [],[],_=>trivial
 |v :: vs,r :: rs,h=>⟨h.1.mono t,bs'.mono t h.2⟩
 | [],_ :: _,h=>h.elim
 |_ :: _,[],h=>h.elim
theorem bs'.len {H:Hp}:∀{vs:List V} {M:List Rm},bs' H vs M->vs.length=M.length
 | [],[],_=>rfl
 |v :: vs,r :: rs,h=>by simp[bs'.len h.2]
 | [],_ :: _,h=>h.elim
 |_ :: _,[],h=>h.elim
theorem bs'.snoc {H:Hp} {v:V} {r:Rm} (hr:dB' H v r):∀{vs:List V} {M:List Rm},bs' H vs M->bs' H (vs++[v]) (M++[r])
 | [],[],_=>⟨hr,trivial⟩
 |v :: vs,r :: rs,h=>⟨h.1,bs'.snoc hr h.2⟩
 | [],_ :: _,h=>h.elim
 |_ :: _,[],h=>h.elim
theorem bs'.get {H:Hp}:∀{vs:List V} {M:List Rm} {i:Nat} {r:Rm},bs' H vs M->M[i]?=some r->∃p,vs[i]?=some (.ref p)/\H p=some (.tup [oV r.1,oV r.2])
 | [],[],i,r,_,e=>by cases e
 |v :: vs,r :: rs,0,r',h,e=>by
  cases e
  obtain⟨p,rfl,hp⟩:=h.1
  exact⟨p,rfl,hp⟩
 |v :: vs,r :: rs,i+1,r',h,e=>bs'.get (i:=i) h.2 (by simpa using e)
 | [],_ :: _,_,_,h,_=>h.elim
 |_ :: _,[],_,_,h,_=>h.elim
def IsM (H:Hp) (a:Addr) (M:List Rm):Prop:=∃vs,H a=some (.tup vs)/\bs' H vs M
theorem IsM.mono {H H':Hp} {a:Addr} {M:List Rm} (t:Tp H H') (h:IsM H a M):IsM H' a M:=by
 obtain⟨vs,h1,h2⟩:=h
 exact⟨vs,t _ _ h1,h2.mono t⟩
def OkR (N:Nat) (r:Rm):Prop:=(∀n,r.1=some n->n<N)/\∀n,r.2=some n->n<N
def OkM (M:List Rm):Prop:=∀r∈M,OkR M.length r
def bt' (N0 N1 c:Nat):Sp:=fun vs H Q _=>∃(b:Addr) (n N:Nat),vs=[.ref b,.int N]/\H b=some (dn' b n)/\n<=2 ^ 39/\N0<=N/\N<=N1/\∀(a:Addr) (M:List Rm) (H':Hp),Go c H H'->IsM H' a M->OkM M->M.length=N->Q (.ref a) H'
theorem gq' {C:Rc} (hN:C.N.length=8) (hT:C.fs "_law_take"=some aw'):∀vs H Q E,bt' 1 60 400 vs H Q E->tSs C c6' { nx:=fun _ H'=>Q .non H',rt:=Q } (L2.aF' C.N vs) H:=by
 intro vs H Q E h
 obtain⟨b,n,N,rfl,hb,hn,hN0,hN1,q⟩:=h
 rw[an' hN]
 unfold c6'
 walk_at "sy"
 refine aj' hT ?_
 walk_at "sy"
 refine av' hb (Go.refl (c:=0)) ⋯ (by decide) (by decide) fun r1 H1 h0 h1 g1 g01=>?_
 walk_at "sy"
 refine⟨by decide,fun l hl=>?_⟩
 have hl0:=g01.free _ hl
 refine cP' ⋯ ⋯ (ef' (fun i σ H'=>(∃x4 x5 x6 x7,σ=[some (.ref b),some (.int N),some (.int (2+r1)),some (.ref l),x4,x5,x6,x7])/\Go (1+4*i) H H'/\∃vs M,H' l=some (.lst vs)/\bs' H' vs M/\vs.length=i/\∀r∈M,OkR N r) ⟨⟨_,_,_,_,rfl⟩,(g01.upd hl0).mono ⋯,[],[],ab',trivial,rfl,fun r hr=>by cases hr⟩ ?_ ?_)
 .rintro i σ H2 hi ⟨⟨x4,x5,x6,x7,rfl⟩,g2,vs,M,hl2,hr2,hlen,hok⟩
  walk_at "sy"
  refine⟨by decide,fun d hd=>?_⟩
  have hd0:=g2.free _ hd
  have hdl:l≠d:=ah' hl2 hd
  refine cP' ⋯ ⋯ (ef' (fun j σ H'=>(∃x6 x7,σ=[some (.ref b),some (.int N),some (.int (2+r1)),some (.ref l),some (.int (0+i)),some (.ref d),x6,x7])/\Go (1+4*i+2*j) H H'/\Tp H2 H'/\H' l=some (.lst vs)/\∃ds:List (Option Nat),H' d=some (.lst (ds.map oV))/\ds.length=j/\∀m,some m∈ds->m<N) ⟨⟨_,_,rfl⟩,g2.upd hd0,ei' hd _,by rw[af' hdl];exact hl2,[],ab',rfl,fun m hm=>by cases hm⟩ ?_ ?_)
  .rintro j σ H3 hj ⟨⟨x6,x7,rfl⟩,g3,t3,hl3,ds,hd3,hdn,hdo⟩
   walk_at "sy"
   refine aj' hT ?_
   walk_at "sy"
   refine av' hb g3 ⋯ ⋯ ⋯ fun r4 H4 h40 h41 g34 g4=>?_
   have hd4:=g34.lst hd3
   walk_at "sy"
   refine⟨tyL hd4 rfl,⟨by decide,fun p hp=>?_⟩⟩
   have hp0:=g4.free _ hp
   refine aj' hT ?_
   walk_at "sy"
   refine av' hb (g4.upd hp0) ⋯ ⋯ ⋯ fun r5 H5 h50 h51 g45 g5=>?_
   have hp5:H5 p=some (.lst [.int r4,.non]):=g45.lst ab'
   have hd5:H5 d=some (.lst (ds.map oV)):=g45.lst (by rw[af' (ah' hd4 hp)];exact hd4)
   have hl5:H5 l=some (.lst vs):=g45.lst (by rw[af' (ah' (g34.lst hl3) hp)];exact g34.lst hl3)
   walk_at "sy"
   refine o9' (SqL.of hp5) ?_
   obtain⟨o,eo,hoo⟩:∃o:Option Nat,(if decide (r5=0)=true then V.non else V.int r4)=oV o/\∀m,o=some m->m<N:=by
    split
    .exact⟨none,rfl,fun m hm=>by cases hm⟩
    .exact⟨some r4.toNat,by show _=V.int _;congr 1;omega,fun m hm=>by cases hm;omega⟩
   rw[eo]
   walk_at "sy"
   refine cG' hd5 (by rw[ae];exact ag' ⋯) ?_
   walk_at "sy"
   refine⟨⟨_,_,rfl⟩,(g5.upd hd0).mono ⋯,?_,by rw[af' hdl];exact hl5,ds++[o],by rw[ab',aN];rfl,by simp[hdn],fun m hm=>?_⟩
   .exact((t3.trans g34.tp).trans ((ei' hp _).trans g45.tp)).trans (e0' hd5 _)
   .rcases am.mp hm with hm|hm
    .exact hdo m hm
    .exact hoo m (aO.mp hm).symm
  .rintro σ H3 ⟨⟨x6,x7,rfl⟩,g3,t3,hl3,ds,hd3,hdn,hdo⟩
   walk_at "sy"
   refine⟨tyL hl3 rfl,?_⟩
   refine bU' (SqL.of hd3) fun p hp=>?_
   walk_at "sy"
   have hpl:upd H3 p (.tup (ds.map oV)) l=some (.lst vs):=by rw[af' (ah' hl3 hp)];exact hl3
   refine cG' hpl (ag' ⋯) ?_
   walk_at "sy"
   obtain⟨x,y,rfl⟩:∃x y,ds=[x,y]:=by
    match ds,hdn with
    | [x,y],_=>exact⟨x,y,rfl⟩
   have tp1:Tp H2 (upd (upd H3 p (.tup ([x,y].map oV))) l (.lst (vs++[.ref p]))):=(t3.trans (ei' hp _)).trans (e0' hpl _)
   refine⟨⟨_,_,_,_,rfl⟩,((g3.upd (g3.free _ hp)).upd hl0).mono ⋯,vs++[.ref p],M++[(x,y)],ab',(hr2.mono tp1).snoc ⟨p,rfl,?_⟩,by simp[hlen],fun r hr=>?_⟩
   .rw[af' (fun z=>by subst z;rw[hl3]at hp;cases hp)]
    exact ab'
   .rcases am.mp hr with hr|hr
    .exact hok r hr
    .have e:r=(x,y):=by simpa using hr
     subst e
     exact⟨fun m hm=>hdo m (by simp[<- hm]),fun m hm=>hdo m (by simp[<- hm])⟩
 .rintro σ H2 ⟨⟨x4,x5,x6,x7,rfl⟩,g2,vs,M,hl2,hr2,hlen,hok⟩
  walk_at "sy"
  refine bU' (SqL.of hl2) fun p hp=>?_
  have hlM:=hr2.len
  have e:M.length=N:=by omega
  exact q p M _ ((g2.upd (g2.free _ hp)).mono ⋯) ⟨vs,ab',hr2.mono (ei' hp _)⟩ (fun r hr=>by rw[e];exact hok r hr) e
theorem wc' {K:W.Frag} {H:Hp} {Q:VK} {a:Addr} {xs:List V} {k:Nat} (h:H a=some (.lst xs)) (hk:k<=1000) (hz:xs.length*k<=sizeLine) (q:∀p,H p=none->Q (.ref p) (upd H p (.lst (aK k xs).flatten))):fp' K .Mult (.ref a) (.int k) H Q:=by
 refine⟨a,k,xs,rfl,rfl,h,⋯,⋯,by simpa using hz,fun p hp=>?_⟩
 rw[bI]
 exact q p hp
theorem rG' {H:Hp} {R:Hp->Prop} {a:Addr} {xs:List V} {k:Nat} {v:V} (h:H a=some (.lst xs)) (hk:k<xs.length) (q:R (upd H a (.lst (xs.set k v)))):dG' (.ref a) (.int k) v H R:=by
 refine⟨a,xs,k,k,rfl,rfl,h,?_,q⟩
 unfold ixN
 rw[if_pos ⋯,if_pos ⋯]
 simp
def nV (n:Nat):V:=.int n
theorem iu' {H:Hp} {P:Rm->Prop}:∀{vs:List V},(∀m,m<vs.length->∃r v,P r/\vs[m]?=some v/\dB' H v r)->∃M,bs' H vs M/\∀r∈M,P r
 | [],_=>⟨[],trivial,fun r hr=>by cases hr⟩
 |v :: vs,h=>by
  obtain⟨r,v',ho,e,hr⟩:=h 0 (by simp)
  cases e
  obtain⟨M,h1,h2⟩:=iu' (vs:=vs) fun m hm=>by
   obtain⟨r,v,h1,h2,h3⟩:=h (m+1) (by simpa using hm)
   exact⟨r,v,h1,by simpa using h2,h3⟩
  exact⟨r :: M,⟨hr,h1⟩,fun x hx=>by
   rcases au.mp hx with rfl|hx
   .exact ho
   .exact h2 x hx⟩
def OkD (N:Nat) (r:Rm):Prop:=OkR N r/\(r.1=none->r.2≠none)
def wd':Sp:=fun vs H Q _=>∃(b:Addr) (n N:Nat),vs=[.ref b,.int N]/\H b=some (dn' b n)/\n<=2 ^ 39/\1<=N/\N<=60/\∀(a:Addr) (M:List Rm) (H':Hp),Go 400 H H'->IsM H' a M->OkM M->M.length=N->(∀r∈M,r.1=none->r.2≠none)->Q (.ref a) H'
theorem jo' {C:Rc} (hN:C.N.length=9) (hT:C.fs "_law_take"=some aw'):∀vs H Q E,wd' vs H Q E->tSs C aQ' { nx:=fun _ H'=>Q .non H',rt:=Q } (L2.aF' C.N vs) H:=by
 intro vs H Q E h
 obtain⟨b,n,N,rfl,hb,hn,hN0,hN1,q⟩:=h
 rw[an' hN]
 unfold aQ'
 walk_at "sy"
 refine⟨by decide,fun l hl=>?_⟩
 refine cP' ⋯ ⋯ (ef' (fun i σ H'=>(∃x3 x4 x5 x6 x7 x8,σ=[some (.ref b),some (.int N),some (.ref l),x3,x4,x5,x6,x7,x8])/\Go i H H'/\∃os:List Nat,H' l=some (.lst (os.map nV))/\os.length=i/\(∀m∈os,m<N)/\∀m,m<i->m∈os) ⟨⟨_,_,_,_,_,_,rfl⟩,(Go.refl (c:=0)).upd hl,[],ab',rfl,(fun m hm=>by cases hm),fun m hm=>by omega⟩ ?_ ?_)
 .rintro i σ H1 hi ⟨⟨x3,x4,x5,x6,x7,x8,rfl⟩,g1,os,hl1,hlen,hlt,hall⟩
  walk_at "sy"
  refine⟨tyL hl1 rfl,aj' hT ?_⟩
  walk_at "sy"
  refine av' hb g1 ⋯ ⋯ ⋯ fun r2 H2 h20 h21 g12 g2=>?_
  have hl2:=g12.lst hl1
  walk_at "sy"
  obtain⟨j,rfl⟩:=aU h20
  refine pa' hl2 (by rw[ae];exact ag' ⋯) (by rw[ae];omega) ?_
  walk_at "sy"
  refine⟨⟨_,_,_,_,_,_,rfl⟩,g2.upd hl,os.take j++i :: os.drop j,?_,?_,?_,?_⟩
  .rw[ab',aN,aJ,List.map_take,List.map_drop]
   simp[nV]
  .simp;omega
  .intro m hm
   rcases am.mp hm with hm|hm
   .exact hlt m (dc hm)
   .rcases au.mp hm with rfl|hm
    .omega
    .exact hlt m (db hm)
  .intro m hm
   by_cases e:m=i
   .subst e;simp
   .have:=hall m ⋯
    rw[<- aM j os]at this
    rcases am.mp this with h|h
    .exact am.mpr (.inl h)
    .exact am.mpr (.inr (aq _ h))
 rintro σ H1 ⟨⟨x3,x4,x5,x6,x7,x8,rfl⟩,g1,os,hl1,hlen,hlt,hall⟩
 rw[bI]at g1 hlen hall
 walk_at "sy"
 refine⟨by decide,fun p hp=>?_⟩
 have hpl:l≠p:=ah' hl1 hp
 refine wc' ab' ⋯ (aX (ag' (by simp;omega))) fun w hw=>?_
 have gw:=(g1.upd (o:=.lst [.non]) (g1.free _ hp)).upd (o:=.lst (aK N [V.non]).flatten) ((g1.upd (o:=.lst [.non]) (g1.free _ hp)).free _ hw)
 have hlw:upd (upd H1 p (.lst [.non])) w (.lst (aK N [V.non]).flatten) l=some (.lst (os.map nV)):=ac' hw _ _ _ (ac' hp _ _ _ hl1)
 have hww:upd (upd H1 p (.lst [.non])) w (.lst (aK N [V.non]).flatten) w=some (.lst (aK N V.non)):=by
  rw[ab'];simp
 have hw0:H w=none:=(g1.upd (o:=.lst [.non]) (g1.free _ hp)).free _ hw
 have hwl:l≠w:=ah' (ac' hp (.lst [.non]) _ _ hl1) hw
 generalize upd (upd H1 p (.lst [.non])) w (.lst (aK N [V.non]).flatten)=H2 at gw hlw hww
 walk_at "sy"
 refine ig' (SqL.of hlw) (vE' (xs:=os.map nV) (fun t σ H'=>(∃x3 x5 x6 x7 x8,σ=[some (.ref b),some (.int N),some (.ref l),x3,some (.ref w),x5,x6,x7,x8])/\Go (N+3*t) H H'/\H' l=some (.lst (os.map nV))/\∃ws,H' w=some (.lst ws)/\ws.length=N/\∀m∈os.take t,∃r v,OkD N r/\ws[m]?=some v/\dB' H' v r) ⟨⟨_,_,_,_,_,rfl⟩,gw.mono ⋯,hlw,_,hww,by simp,fun m hm=>by cases hm⟩ (fun t σ H' _ pv=>SqL.of pv.2.2.1) ?_ ?_)
 .rintro t x σ H3 e hx he ⟨⟨x3,x5,x6,x7,x8,rfl⟩,g3,hl3,ws,hw3,hwn,hws⟩
  rw[al]at hx
  cases eo:os[t]? with
  |none=>rw[eo]at hx;cases hx
  |some room=>
   rw[eo]at hx
   cases hx
   have ht:=ak' eo
   refine dA' (SqT.of ab') ?_
   have s4:=ac' he (.tup [.int t,nV room])
   have g4:=g3.upd (o:=.tup [.int t,nV room]) (g3.free _ he)
   generalize upd H3 e (.tup [.int t,nV room])=H4 at s4 g4
   have hl4:=s4 _ _ hl3
   walk_at "sy"
   refine q9' (SqL.of hl4) fun c hc=>?_
   rw[show(1:Int)=((1:Nat):Int) from rfl,vL']
   have s5:=ac' hc (.lst ((os.map nV).take 1))
   have g5:=g4.upd (o:=.lst ((os.map nV).take 1)) (g4.free _ hc)
   have hc5:upd H4 c (.lst ((os.map nV).take 1)) c=some (.lst ((os.map nV).take 1)):=ab'
   generalize upd H4 c (.lst ((os.map nV).take 1))=H5 at s5 g5 hc5
   walk_at "sy"
   refine pb' (s5 _ _ hl4) hc5 (aX (ag' (by simp;omega))) fun d hd=>?_
   have s6:=ac' hd (.lst (os.map nV++(os.map nV).take 1))
   have g6:=g5.upd (o:=.lst (os.map nV++(os.map nV).take 1)) (g5.free _ hd)
   have hd6:upd H5 d (.lst (os.map nV++(os.map nV).take 1)) d=some (.lst ((os++os.take 1).map nV)):=by rw[ab',aN,List.map_take]
   generalize upd H5 d (.lst (os.map nV++(os.map nV).take 1))=H6 at s6 g6 hd6
   obtain⟨on,eon,hon⟩:∃on,(os++os.take 1)[t+1]?=some on/\on<N:=by
    have hl:t+1<(os++os.take 1).length:=by simp;omega
    refine⟨_,aa hl,?_⟩
    rcases am.mp (bW hl)with h|h
    .exact hlt _ h
    .exact hlt _ (dc h)
   walk_at "sy"
   refine aO' (SqL.of hd6) (v:=nV on) (aG' (j:=t+1) (by rw[al,eon];rfl)) ?_
   walk_at "sy"
   refine aj' hT ?_
   walk_at "sy"
   refine av' hb g6 ⋯ ⋯ ⋯ fun r7 H7 h70 h71 g67 g7=>?_
   walk_at "sy"
   refine⟨by decide,fun f hf=>?_⟩
   refine aj' hT ?_
   walk_at "sy"
   refine av' hb (g7.upd (o:=.lst [.int r7,.non]) (g7.free _ hf)) ⋯ ⋯ ⋯ fun r8 H8 h80 h81 g78 g8=>?_
   have hf8:H8 f=some (.lst [.int r7,.non]):=g78.lst ab'
   have keep8:∀a xs,H3 a=some (.lst xs)->H8 a=some (.lst xs):=fun a xs h=>g78.lst (ac' hf _ _ _ (g67.lst (s6 _ _ (s5 _ _ (s4 _ _ h)))))
   have tp8:Tp H3 H8:=(((ai' s4).trans (ai' s5)).trans (ai' s6)).trans (g67.tp.trans ((ei' hf _).trans g78.tp))
   walk_at "sy"
   refine o9' (SqL.of hf8) ?_
   obtain⟨o,eo2,hoo⟩:∃o:Option Nat,(if decide (r8=0)=true then V.non else V.int r7)=oV o/\∀m,o=some m->m<N:=by
    split
    .exact⟨none,rfl,fun m hm=>by cases hm⟩
    .exact⟨some r7.toNat,by show _=V.int _;congr 1;omega,fun m hm=>by cases hm;omega⟩
   rw[eo2]
   walk_at "sy"
   refine⟨by decide,fun p1 hp1=>?_⟩
   have s9:=ac' hp1 (.tup [nV on,oV o])
   have g9:=g8.upd (o:=.tup [nV on,oV o]) (g8.free _ hp1)
   have h9:upd H8 p1 (.tup [nV on,oV o]) p1=some (.tup [nV on,oV o]):=ab'
   generalize upd H8 p1 (.tup [nV on,oV o])=H9 at s9 g9 h9
   refine⟨by decide,fun p2 hp2=>?_⟩
   have s10:=ac' hp2 (.tup [oV o,nV on])
   have g10:=g9.upd (o:=.tup [oV o,nV on]) (g9.free _ hp2)
   have h10:upd H9 p2 (.tup [oV o,nV on]) p2=some (.tup [oV o,nV on]):=ab'
   generalize upd H9 p2 (.tup [oV o,nV on])=H10 at s10 g10 h10
   refine⟨by decide,fun p3 hp3=>?_⟩
   have s11:=ac' hp3 (.lst [.ref p1,.ref p2])
   have g11:=g10.upd (o:=.lst [.ref p1,.ref p2]) (g10.free _ hp3)
   have h11:upd H10 p3 (.lst [.ref p1,.ref p2]) p3=some (.lst [.ref p1,.ref p2]):=ab'
   generalize upd H10 p3 (.lst [.ref p1,.ref p2])=H11 at s11 g11 h11
   refine aj' hT ?_
   walk_at "sy"
   refine av' hb g11 ⋯ ⋯ ⋯ fun r12 H12 h120 h121 g1112 g12=>?_
   have tpx:Tp H3 H12:=(((tp8.trans (ai' s9)).trans (ai' s10)).trans (ai' s11)).trans g1112.tp
   have hl12:H12 l=some (.lst (os.map nV)):=g1112.lst (s11 _ _ (s10 _ _ (s9 _ _ (keep8 _ _ hl3))))
   have hw12:H12 w=some (.lst ws):=g1112.lst (s11 _ _ (s10 _ _ (s9 _ _ (keep8 _ _ hw3))))
   have h1:H12 p1=some (.tup [nV on,oV o]):=g1112.tup (s11 _ _ (s10 _ _ h9))
   have h2:H12 p2=some (.tup [oV o,nV on]):=g1112.tup (s11 _ _ h10)
   walk_at "sy"
   have hroom:room<N:=hlt room (az eo)
   have fin:∀(pz:Addr) (rz:Rm),OkD N rz->H12 pz=some (.tup [oV rz.1,oV rz.2])->dG' (.ref w) (nV room) (.ref pz) H12 (fun H'=>(∃x3' x5 x6 x7 x8,[some (V.ref b),some (V.int N),some (V.ref l),x3,some (V.ref w),some (V.int t),some (nV room),some (nV on),some (oV o)]=[some (.ref b),some (.int N),some (.ref l),x3',some (.ref w),x5,x6,x7,x8])/\Go (N+3*(t+1)) H H'/\H' l=some (.lst (os.map nV))/\∃ws,H' w=some (.lst ws)/\ws.length=N/\∀m∈os.take (t+1),∃r v,OkD N r/\ws[m]?=some v/\dB' H' v r):=by
    intro pz rz hrz hpz
    refine rG' hw12 ⋯ ⟨⟨_,_,_,_,_,rfl⟩,(g12.upd hw0).mono ⋯,by rw[af' hwl];exact hl12,_,ab',by rw[List.length_set];exact hwn,fun m hm=>?_⟩
    by_cases em:m=room
    .subst em
     exact⟨rz,.ref pz,hrz,by rw[List.getElem?_set_self ⋯],pz,rfl,e0' hw12 _ _ _ hpz⟩
    .rw[bx,eo]at hm
     rcases am.mp hm with hm|hm
     .obtain⟨r,v,q1,q2,q3⟩:=hws m hm
      exact⟨r,v,q1,by rw[ck (Ne.symm em)];exact q2,q3.mono (tpx.trans (e0' hw12 _))⟩
     .exact absurd (by simpa using hm) em
   have h121':r12=0\/r12=1:=by omega
   rcases h121' with rfl|rfl
   .refine aO' (SqL.of (g1112.lst h11)) (v:=.ref p1) rfl ?_
    walk_at "sy"
    exact fin p1 (some on,o) ⟨⟨fun m hm=>by cases hm;exact hon,hoo⟩,fun z=>by cases z⟩ h1
   .refine aO' (SqL.of (g1112.lst h11)) (v:=.ref p2) rfl ?_
    walk_at "sy"
    exact fin p2 (o,some on) ⟨⟨hoo,fun m hm=>by cases hm;exact hon⟩,fun _ z=>by cases z⟩ h2
 .rintro σ H3 ⟨⟨x3,x5,x6,x7,x8,rfl⟩,g3,hl3,ws,hw3,hwn,hws⟩
  walk_at "sy"
  refine bU' (SqL.of hw3) fun p hp=>?_
  rw[ae,<- ae (f:=nV),ae,bm]at hws
  rw[ae]at g3
  obtain⟨M,hM,hO⟩:=iu' (P:=OkD N) (vs:=ws) (H:=H3) fun m hm=>hws m (hall m ⋯)
  have e:M.length=N:=by rw[<- hM.len];exact hwn
  exact q p M _ ((g3.upd (g3.free _ hp)).mono ⋯) ⟨ws,ab',hM.mono (ei' hp _)⟩ (fun r hr=>by rw[e];exact(hO r hr).1) e fun r hr=>(hO r hr).2
theorem lB' {C:Rc} (hN:C.N.length=9) (hT:C.fs "_law_take"=some aw'):∀vs H Q E,bt' 1 60 400 vs H Q E->tSs C aQ' { nx:=fun _ H'=>Q .non H',rt:=Q } (L2.aF' C.N vs) H:=fun vs H Q E ⟨b,n,N,h1,h2,h3,h4,h5,q⟩=>jo' hN hT vs H Q E ⟨b,n,N,h1,h2,h3,h4,h5,fun a M H' g i o l _=>q a M H' g i o l⟩
def c7':Sp:=fun vs H Q _=>∃(b a:Addr) (n:Nat) (M:List Rm),vs=[.ref b,.ref a]/\H b=some (dn' b n)/\n<=2 ^ 39/\IsM H a M/\OkM M/\1<=M.length/\M.length<=20/\
 ∀(p a' l:Addr) (M':List Rm) (ms:List Nat) (H':Hp),Go 500 H H'->H' p=some (.tup [.ref a',.ref l])->H' l=some (.lst (ms.map nV))->ms.length=M'.length->(∀m∈ms,m<M.length)->IsM H' a' M'->OkM M'->1<=M'.length->M'.length<=60->Q (.ref p) H'
theorem g6' {C:Rc} (hN:C.N.length=11) (hT:C.fs "_law_take"=some aw'):∀vs H Q E,c7' vs H Q E->tSs C dK' { nx:=fun _ H'=>Q .non H',rt:=Q } (L2.aF' C.N vs) H:=by
 intro vs H Q E h
 obtain⟨b,a,n,M,rfl,hb,hn,⟨rv,ha,hrv⟩,hM,hM1,hM2,q⟩:=h
 have hrl:=hrv.len
 rw[an' hN]
 unfold dK'
 walk_at "sy"
 refine⟨by decide,fun l hl=>?_⟩
 have hal:a≠l:=ah' ha hl
 refine bJ' (SqT.of (by rw[af' hal];exact ha)) ?_
 rw[hrl]
 refine cP' ⋯ ⋯ (ef' (fun i σ H'=>(∃x3 x4 x5 x6 x7 x8 x9 x10,σ=[some (.ref b),some (.ref a),some (.ref l),x3,x4,x5,x6,x7,x8,x9,x10])/\Go (4*i) H H'/\∃ms:List Nat,H' l=some (.lst (ms.map nV))/\i<=ms.length/\ms.length<=3*i/\(∀m∈ms,m<M.length)) ⟨⟨_,_,_,_,_,_,_,_,rfl⟩,(Go.refl (c:=0)).upd hl,[],ab',by simp,by simp,fun m hm=>by cases hm⟩ ?_ ?_)
 .rintro i σ H1 hi ⟨⟨x3,x4,x5,x6,x7,x8,x9,x10,rfl⟩,g1,ms,hl1,hm1,hm2,hm3⟩
  walk_at "sy"
  refine aj' hT ?_
  walk_at "sy"
  refine av' hb g1 ⋯ ⋯ ⋯ fun r2 H2 h20 h21 g12 g2=>?_
  have hl2:=g12.lst hl1
  walk_at "sy"
  refine cP' ⋯ ⋯ (ef' (fun j σ H'=>(∃x4,σ=[some (.ref b),some (.ref a),some (.ref l),some (.int (0+i)),x4,x5,x6,x7,x8,x9,x10])/\Go (4*i+1+j) H H'/\∃ms':List Nat,H' l=some (.lst (ms'.map nV))/\ms'.length=ms.length+j/\(∀m∈ms',m<M.length)) ⟨⟨_,rfl⟩,g2,ms,hl2,rfl,hm3⟩ ?_ ?_)
  .rintro j σ H3 hj ⟨⟨x4,rfl⟩,g3,ms',hl3,hml,hmm⟩
   walk_at "sy"
   refine⟨tyL hl3 rfl,aj' hT ?_⟩
   walk_at "sy"
   refine bI' (SqL.of hl3) ?_
   rw[ae]
   walk_at "sy"
   refine av' hb g3 ⋯ ⋯ ⋯ fun r4 H4 h40 h41 g34 g4=>?_
   obtain⟨k,rfl⟩:=aU h40
   walk_at "sy"
   refine pa' (g34.lst hl3) (by rw[ae];exact ag' ⋯) (by rw[ae];omega) ?_
   walk_at "sy"
   refine⟨⟨_,rfl⟩,(g4.upd hl).mono ⋯,ms'.take k++i :: ms'.drop k,?_,by simp;omega,fun m hm=>?_⟩
   .rw[ab',aN,aJ,List.map_take,List.map_drop]
    simp[nV]
   .rcases am.mp hm with hm|hm
    .exact hmm m (dc hm)
    .rcases au.mp hm with rfl|hm
     .omega
     .exact hmm m (db hm)
  .rintro σ H3 ⟨⟨x4,rfl⟩,g3,ms',hl3,hml,hmm⟩
   walk_at "sy"
   exact⟨⟨_,_,_,_,_,_,_,_,rfl⟩,g3.mono ⋯,ms',hl3,⋯,⋯,hmm⟩
 rintro σ H1 ⟨⟨x3,x4,x5,x6,x7,x8,x9,x10,rfl⟩,g1,ms,hl1,hm1,hm2,hm3⟩
 rw[bI]at g1 hm1 hm2
 have hml:ms.length<=60:=by omega
 walk_at "sy"
 refine⟨by decide,fun w hw=>?_⟩
 have hw0:=g1.free _ hw
 have hlw:l≠w:=ah' hl1 hw
 refine as' (SqL.of (xs:=ms.map nV) (by rw[af' hlw];exact hl1)) (fw' (xs:=ms.map nV) (fun i σ H'=>(∃x3 x4 x6 x7 x8 x9 x10,σ=[some (.ref b),some (.ref a),some (.ref l),x3,x4,some (.ref w),x6,x7,x8,x9,x10])/\Go (80+2*i) H H'/\H' l=some (.lst (ms.map nV))/\∃vs R,H' w=some (.lst vs)/\bs' H' vs R/\vs.length=i/\∀r∈R,OkR ms.length r) ⟨⟨_,_,_,_,_,_,_,rfl⟩,(g1.upd hw0).mono ⋯,by rw[af' hlw];exact hl1,[],[],ab',trivial,rfl,fun r hr=>by cases hr⟩ (fun i σ H' _ pv=>SqL.of pv.2.2.1) ?_ ?_)
 .rintro i x σ H2 hx ⟨⟨x3,x4,x6,x7,x8,x9,x10,rfl⟩,g2,hl2,vs,R,hw2,hR,hlen,hok⟩
  rw[al]at hx
  cases em:ms[i]? with
  |none=>rw[em]at hx;cases hx
  |some m=>
   rw[em]at hx
   cases hx
   have hi:=ak' em
   have hmM:m<M.length:=hm3 m (az em)
   obtain⟨pr,hpr,hprt⟩:=hrv.get (aa hmM)
   walk_at "sy"
   refine⟨by decide,fun d hd=>?_⟩
   have hd0:=g2.free _ hd
   have gd:=g2.upd (o:=.lst []) hd0
   have sd:=ac' hd (.lst [])
   have hdd:upd H2 d (.lst []) d=some (.lst []):=ab'
   have hdl:l≠d:=ah' hl2 hd
   have hdw:w≠d:=ah' hw2 hd
   generalize upd H2 d (.lst [])=H3 at gd sd hdd
   have ha3:H3 a=some (.tup rv):=gd.tup ha
   refine bh' (SqT.of ha3) (v:=.ref pr) (aG' hpr) ?_
   have hp3:H3 pr=some (.tup [oV M[m].1,oV M[m].2]):=gd.tup hprt
   refine bg' (SqT.of hp3) (vD' (xs:=[oV M[m].1,oV M[m].2]) (fun j σ H'=>(∃x7 x8 x9 x10,σ=[some (.ref b),some (.ref a),some (.ref l),some (nV m),x4,some (.ref w),some (.ref d),x7,x8,x9,x10])/\Go (80+2*i+j) H H'/\Tp H2 H'/\H' l=some (.lst (ms.map nV))/\H' w=some (.lst vs)/\∃ds:List (Option Nat),H' d=some (.lst (ds.map oV))/\ds.length=j/\∀k,some k∈ds->k<ms.length) ⟨⟨_,_,_,_,rfl⟩,gd,ai' sd,sd _ _ hl2,sd _ _ hw2,[],hdd,rfl,fun k hk=>by cases hk⟩ (fun j σ H' _ pv=>SqT.of (pv.2.1.tup hprt)) ?_ ?_)
   .rintro j x σ H4 hx ⟨⟨x7,x8,x9,x10,rfl⟩,g4,t4,hl4,hw4,ds,hd4,hdn,hdo⟩
    obtain⟨o,rfl⟩:∃o,x=oV o:=by
     match j,hx with
     |0,hx=>cases hx;exact⟨_,rfl⟩
     |1,hx=>cases hx;exact⟨_,rfl⟩
    have hj:j<2:=ak' hx
    walk_at "sy"
    refine ig' (SqL.of hl4) (vG' (vs:=ms.map nV) (fun i xs H'=>(∃ks:List Nat,xs=ks.map nV/\(∀k∈ks,k<i)/\ks.length<=i)/\aC' H4 H') ⟨⟨[],rfl,(fun k hk=>by cases hk),by simp⟩,aC'.refl _⟩ (fun i xs H' pv=>SqL.of (pv.2 _ _ hl4)) ?_ ?_)
    .rintro i2 xs H5 x p R2 hx2 hp ⟨⟨ks,rfl,hk1,hk2⟩,s5⟩ hR2
     rw[al]at hx2
     cases em2:ms[i2]? with
     |none=>rw[em2]at hx2;cases hx2
     |some m2=>
      rw[em2]at hx2
      cases hx2
      have hi2:=ak' em2
      refine dA' (SqT.of ab') ?_
      walk_at "sy"
      have sc:jB' (nV m2) (oV o)=true:=by cases o<;>rfl
      rw[za' sc]
      walk_at "sy"
      refine dz' (fun hc=>?_) fun hc=>?_
      .walk_at "sy"
       refine⟨by rw[ae];exact ag' ⋯,hR2 _ _ ⟨⟨ks++[i2],by rw[aN];rfl,fun k hk=>?_,by simp;omega⟩,s5.trans (ac' hp _)⟩⟩
       rcases am.mp hk with hk|hk
       .have:=hk1 k hk;omega
       .have e:k=i2:=by simpa using hk
        omega
      .walk_at "sy"
       exact hR2 _ _ ⟨⟨ks,rfl,fun k hk=>by have:=hk1 k hk;omega,⋯⟩,s5.trans (ac' hp _)⟩
    rintro xs H5 ⟨⟨ks,rfl,hk1,hk2⟩,s5⟩ e he
    rw[ae]at hk1 hk2
    have s6:=s5.trans (ac' he (.lst (ks.map nV)))
    have g6:=(g4.trans (Go.of_same (c:=0) s6))
    have he6:upd H5 e (.lst (ks.map nV)) e=some (.lst (ks.map nV)):=ab'
    generalize upd H5 e (.lst (ks.map nV))=H6 at s6 g6 he6
    walk_at "sy"
    refine⟨tyL (s6 _ _ hd4) rfl,⟨by decide,fun f hf=>?_⟩⟩
    have s7:=ac' hf (.lst [])
    have hf7:upd H6 f (.lst []) f=some (.lst []):=ab'
    generalize upd H6 f (.lst [])=H7 at s7 hf7
    have g7:Go (80+2*i+j) H H7:=(g6.trans (Go.of_same (c:=0) s7)).mono ⋯
    refine lo' (SqL.of (s7 _ _ he6)) (SqL.of hf7) g4' ?_
    have fin:∀(o':Option Nat) (H8:Hp) (Qk:VK),(∀k,o'=some k->k<ms.length)->Go (80+2*i+(j+1)) H H8->Tp H7 H8->(∀x xs,H7 x=some (.lst xs)->H8 x=some (.lst xs))->
      (∀H',Go (80+2*i+(j+1)) H H'->Tp H2 H'->H' l=some (.lst (ms.map nV))->H' w=some (.lst vs)->(∃ds:List (Option Nat),H' d=some (.lst (ds.map oV))/\ds.length=j+1/\∀k,some k∈ds->k<ms.length)->Qk .non H')->jd' C.K .append (.ref d) [oV o'] H8 Qk:=by
     intro o' H8 Qk ho g8 t8 k8 hq
     have hd8:=k8 _ _ (s7 _ _ (s6 _ _ hd4))
     refine cG' hd8 (by rw[ae];exact ag' ⋯) ?_
     refine hq _ (g8.upd hd0) (((t4.trans (ai' s6)).trans (ai' s7)).trans (t8.trans (e0' hd8 _))) (by rw[af' hdl];exact k8 _ _ (s7 _ _ (s6 _ _ hl4))) (by rw[af' hdw];exact k8 _ _ (s7 _ _ (s6 _ _ hw4))) ⟨ds++[o'],by rw[ab',aN];rfl,by simp[hdn],fun k hk=>?_⟩
     rcases am.mp hk with hk|hk
     .exact hdo k hk
     .exact ho k (aO.mp hk).symm
    cases ks with
    |nil=>
     walk_at "sy"
     exact fin none H7 _ (fun k hk=>by cases hk) (g7.mono ⋯) Tp.refl (fun _ _ h=>h) fun H' q1 q2 q3 q4 q5=>⟨⟨_,_,_,_,rfl⟩,q1,q2,q3,q4,q5⟩
    |cons k0 kr=>
     rw[show(!decide (List.map nV (k0 :: kr)=[]))=true by simp]
     walk_at "sy"
     refine aj' hT ?_
     walk_at "sy"
     refine bI' (SqL.of (s7 _ _ he6)) ?_
     walk_at "sy"
     have hz:(nV k0 :: List.map nV kr).length=(k0 :: kr).length:=by simp
     refine av' hb g7 ⋯ (by simp) (by simp at hk2 ⊢;omega) fun r8 H8 h80 h81 g78 g8=>?_
     walk_at "sy"
     obtain⟨v,ev,ei⟩:=o6' (xs:=List.map nV (k0 :: kr)) h80 (by simpa using h81)
     rw[al]at ev
     cases ek:(k0 :: kr)[r8.toNat]? with
     |none=>rw[ek]at ev;cases ev
     |some k=>
      rw[ek]at ev
      cases ev
      refine aO' (SqL.of (g78.lst (s7 _ _ he6))) ei ?_
      walk_at "sy"
      exact fin (some k) H8 _ (fun k' hk'=>by cases hk';have:=hk1 k (az ek);omega) g8 g78.tp (fun _ _ h=>g78.lst h) fun H' q1 q2 q3 q4 q5=>⟨⟨_,_,_,_,rfl⟩,q1,q2,q3,q4,q5⟩
   .rintro σ H4 ⟨⟨x7,x8,x9,x10,rfl⟩,g4,t4,hl4,hw4,ds,hd4,hdn,hdo⟩
    walk_at "sy"
    refine⟨tyL hw4 rfl,bU' (SqL.of hd4) fun p hp=>?_⟩
    walk_at "sy"
    have hpw:upd H4 p (.tup (ds.map oV)) w=some (.lst vs):=by rw[af' (ah' hw4 hp)];exact hw4
    refine cG' hpw (ag' ⋯) ?_
    walk_at "sy"
    obtain⟨x,y,rfl⟩:∃x y,ds=[x,y]:=by
     match ds,hdn with
     | [x,y],_=>exact⟨x,y,rfl⟩
    have tp1:Tp H2 (upd (upd H4 p (.tup ([x,y].map oV))) w (.lst (vs++[.ref p]))):=(t4.trans (ei' hp _)).trans (e0' hpw _)
    refine⟨⟨_,_,_,_,_,_,_,rfl⟩,((g4.upd (g4.free _ hp)).upd hw0).mono (by simp;omega),?_,vs++[.ref p],R++[(x,y)],ab',(hR.mono tp1).snoc ⟨p,rfl,?_⟩,by simp[hlen],fun r hr=>?_⟩
    .rw[af' hlw,af' (ah' hl4 hp)]
     exact hl4
    .rw[af' (fun z=>by subst z;rw[hw4]at hp;cases hp)]
     exact ab'
    .rcases am.mp hr with hr|hr
     .exact hok r hr
     .have e:r=(x,y):=by simpa using hr
      subst e
      exact⟨fun k hk=>hdo k (by simp[<- hk]),fun k hk=>hdo k (by simp[<- hk])⟩
 .rintro σ H2 ⟨⟨x3,x4,x6,x7,x8,x9,x10,rfl⟩,g2,hl2,vs,R,hw2,hR,hlen,hok⟩
  rw[ae]at g2 hlen
  walk_at "sy"
  refine bU' (SqL.of hw2) fun p hp=>?_
  walk_at "sy"
  refine⟨by decide,fun p2 hp2=>?_⟩
  have hRl:=hR.len
  have e:R.length=ms.length:=by omega
  have sA:=ac' hp (.tup vs)
  have sB:=ac' hp2 (.tup [.ref p,.ref l])
  refine q p2 p l R ms _ (((g2.upd (g2.free _ hp)).upd ((g2.upd (o:=.tup vs) (g2.free _ hp)).free _ hp2)).mono ⋯) ab' (sB _ _ (sA _ _ hl2)) e.symm hm3 ⟨vs,sB _ _ ab',hR.mono ((ai' sA).trans (ai' sB))⟩ (fun r hr=>by rw[e];exact hok r hr) ⋯ ⋯
theorem rH' {i:Int} {n k:Nat} (h:k<n):(rgs i n)[k]?=some (.int (i+k)):=by
 unfold rgs
 rw[al,bh h]
 rfl
theorem ej' {i:Int} {n:Nat}:(rgs i n).length=n:=by unfold rgs;simp
theorem lC' {C:Rc} (hN:C.N.length=6) (hT:C.fs "_law_take"=some aw'):∀vs H Q E,bt' 1 60 400 vs H Q E->tSs C ir' { nx:=fun _ H'=>Q .non H',rt:=Q } (L2.aF' C.N vs) H:=by
 intro vs H Q E h
 obtain⟨b,n,N,rfl,hb,hn,hN0,hN1,q⟩:=h
 rw[an' hN]
 unfold ir'
 walk_at "sy"
 refine aj' hT ?_
 walk_at "sy"
 refine av' hb (Go.refl (c:=0)) ⋯ (by decide) (by decide) fun bit H1 hb0 hb1 g1 g01=>?_
 walk_at "sy"
 refine aj' hT ?_
 walk_at "sy"
 refine av' hb g01 ⋯ ⋯ ⋯ fun r2 H2 h20 h21 g12 g2=>?_
 walk_at "sy"
 refine⟨by decide,fun p hp=>?_⟩
 refine aj' hT ?_
 walk_at "sy"
 refine av' hb (g2.upd (o:=.lst [.non,.int r2]) (g2.free _ hp)) ⋯ ⋯ ⋯ fun r3 H3 h30 h31 g23 g3=>?_
 have hp3:H3 p=some (.lst [.non,.int r2]):=g23.lst ab'
 obtain⟨o,eo,hoo⟩:∃o:Option Nat,atI [V.non,V.int r2] r3=some (oV o)/\∀m,o=some m->m<N:=by
  have:r3=0\/r3=1:=by omega
  rcases this with rfl|rfl
  .exact⟨none,rfl,fun m hm=>by cases hm⟩
  .refine⟨some r2.toNat,?_,fun m hm=>by cases hm;omega⟩
   show some (V.int r2)=some (V.int _)
   congr 2
   omega
 walk_at "sy"
 refine aO' (SqL.of hp3) eo ?_
 walk_at "sy"
 refine lp' fun rg hrg=>?_
 walk_at "sy"
 refine fx' ab' ⋯ ⋯ ⋯ ⋯ (aX (ag' ⋯)) fun u hu=>?_
 rw[show((N:Int)-1).toNat=N-1 by omega]
 have g4:=(g3.upd (o:=.rng 1 N) (g3.free _ hrg)).upd (o:=.lst (rgs 1 (N-1))) ((g3.upd (o:=.rng 1 N) (g3.free _ hrg)).free _ hu)
 have hu4:upd (upd H3 rg (.rng 1 N)) u (.lst (rgs 1 (N-1))) u=some (.lst (rgs 1 (N-1))):=ab'
 generalize upd (upd H3 rg (.rng 1 N)) u (.lst (rgs 1 (N-1)))=H4 at g4 hu4
 walk_at "sy"
 refine⟨by decide,fun u2 hu2=>?_⟩
 have g5:=g4.upd (o:=.lst [oV o]) (g4.free _ hu2)
 have hu5:=ac' hu2 (.lst [oV o]) _ _ hu4
 have hv5:upd H4 u2 (.lst [oV o]) u2=some (.lst [oV o]):=ab'
 generalize upd H4 u2 (.lst [oV o])=H5 at g5 hu5 hv5
 refine pb' hu5 hv5 (aX (ag' (by rw[ej'];simp;omega))) fun e he=>?_
 have g6:=g5.upd (o:=.lst (rgs 1 (N-1)++[oV o])) (g5.free _ he)
 have he6:upd H5 e (.lst (rgs 1 (N-1)++[oV o])) e=some (.lst (rgs 1 (N-1)++[oV o])):=ab'
 generalize upd H5 e (.lst (rgs 1 (N-1)++[oV o]))=H6 at g6 he6
 have hall:∀(i:Nat) x,(rgs 1 (N-1)++[oV o])[i]?=some x->∃o',x=oV o'/\∀m,o'=some m->m<N:=by
  intro i x hx
  rcases aY i (N-1)with h|h
  .rw[br (by rw[ej'];exact h),rH' h]at hx
   cases hx
   exact⟨some (1+i),by show _=V.int _;congr 1,fun m hm=>by cases hm;omega⟩
  .rw[List.getElem?_append_right (by rw[ej'];exact h),ej']at hx
   have e0:i-(N-1)=0:=by
    have:=ak' hx
    simp at this
    omega
   rw[e0]at hx
   cases hx
   exact⟨o,rfl,hoo⟩
 have hel:(rgs 1 (N-1)++[oV o]).length=N:=by rw[aj,ej'];simp;omega
 walk_at "sy"
 refine as' (SqL.of he6) (cF' (vs:=rgs 1 (N-1)++[oV o]) (fun i xs H'=>aC' H6 H'/\∃M,bs' H' xs M/\xs.length=i/\∀r∈M,OkR N r) ⟨aC'.refl _,[],trivial,rfl,fun r hr=>by cases hr⟩ (fun i xs H' pv=>SqL.of (pv.1 _ _ he6)) ?_ ?_)
 .rintro i xs H7 x R hx ⟨s7,M,hM,hl,hO⟩ hR
  obtain⟨o',rfl,ho'⟩:=hall i x hx
  have hi:=ak' hx
  walk_at "sy"
  refine⟨by decide,fun p1 hp1=>?_⟩
  have s8:=ac' hp1 (.tup [oV o',.non])
  have h8:upd H7 p1 (.tup [oV o',.non]) p1=some (.tup [oV o',.non]):=ab'
  generalize upd H7 p1 (.tup [oV o',.non])=H8 at s8 h8
  refine⟨by decide,fun p2 hp2=>?_⟩
  have s9:=ac' hp2 (.tup [.non,oV o'])
  have h9:upd H8 p2 (.tup [.non,oV o']) p2=some (.tup [.non,oV o']):=ab'
  generalize upd H8 p2 (.tup [.non,oV o'])=H9 at s9 h9
  refine⟨by decide,fun p3 hp3=>?_⟩
  have s10:=ac' hp3 (.lst [.ref p1,.ref p2])
  have h10:upd H9 p3 (.lst [.ref p1,.ref p2]) p3=some (.lst [.ref p1,.ref p2]):=ab'
  generalize upd H9 p3 (.lst [.ref p1,.ref p2])=H10 at s10 h10
  have tp:=((ai' s8).trans (ai' s9)).trans (ai' s10)
  have hbit:bit=0\/bit=1:=by omega
  rcases hbit with rfl|rfl
  .refine aO' (SqL.of h10) (v:=.ref p1) rfl ?_
   walk_at "sy"
   exact⟨ag' ⋯,hR _ _ ⟨((s7.trans s8).trans s9).trans s10,M++[(o',none)],(hM.mono tp).snoc (r:=(o',none)) ⟨p1,rfl,s10 _ _ (s9 _ _ h8)⟩,by simp[hl],fun r hr=>by
    rcases am.mp hr with hr|hr
    .exact hO r hr
    .have e:r=(o',none):=by simpa using hr
     subst e
     exact⟨ho',fun m hm=>by cases hm⟩⟩⟩
  .refine aO' (SqL.of h10) (v:=.ref p2) rfl ?_
   walk_at "sy"
   exact⟨ag' ⋯,hR _ _ ⟨((s7.trans s8).trans s9).trans s10,M++[(none,o')],(hM.mono tp).snoc (r:=(none,o')) ⟨p2,rfl,s10 _ _ h9⟩,by simp[hl],fun r hr=>by
    rcases am.mp hr with hr|hr
    .exact hO r hr
    .have e:r=(none,o'):=by simpa using hr
     subst e
     exact⟨(fun m hm=>by cases hm),ho'⟩⟩⟩
 .rintro xs H7 ⟨s7,M,hM,hl,hO⟩ f hf
  walk_at "sy"
  have s8:=ac' hf (.lst xs)
  have h8:upd H7 f (.lst xs) f=some (.lst xs):=ab'
  generalize upd H7 f (.lst xs)=H8 at s8 h8
  refine bU' (SqL.of h8) fun t ht=>?_
  have s9:=ac' ht (.tup xs)
  have e:M.length=N:=by rw[<- hM.len,hl,hel]
  refine q t M _ ((g6.trans (Go.of_same (c:=0) ((s7.trans s8).trans s9))).mono ⋯) ⟨xs,ab',hM.mono ((ai' s8).trans (ai' s9))⟩ (fun r hr=>by rw[e];exact hO r hr) e
def fA':Sp:=fun vs H Q _=>∃(b:Addr) (n:Nat),vs=[.ref b]/\H b=some (dn' b n)/\n<=2 ^ 38/\∀(a:Addr) (M:List Rm) (H':Hp),Go 1000 H H'->IsM H' a M->OkM M->1<=M.length->M.length<=60->Q (.ref a) H'
theorem n1' {C:Rc} (hN:C.N.length=2) (hT:C.fs "_law_take"=some aw') (hMy:C.fs "_law_many"=some gp') (hL:C.fs "_law_line"=some (bt' 1 60 400)) (hCp:C.fs "_law_copied"=some c7') (hMa:C.fs "_law_machine"=some (bt' 1 60 400)) (hRi:C.fs "_law_ring_machine"=some (bt' 1 60 400)):
  ∀vs H Q E,fA' vs H Q E->tSs C n0' { nx:=fun _ H'=>Q .non H',rt:=Q } (L2.aF' C.N vs) H:=by
 intro vs H Q E h
 obtain⟨b,n,rfl,hb,hn,q⟩:=h
 rw[an' hN]
 unfold n0'
 walk_at "sy"
 refine aj' hT ?_
 walk_at "sy"
 refine av' hb (Go.refl (c:=0)) ⋯ (by decide) (by decide) fun way H1 hb0 hb1 g1 g01=>?_
 obtain⟨n1,hn1,hn1',_⟩:=g01.boxed hb ⋯
 walk_at "sy"
 refine dz' (fun hc=>?_) fun hc=>?_
 .walk_at "sy"
  refine aj' hL ?_
  walk_at "sy"
  refine aj' hMy ?_
  walk_at "sy"
  refine⟨b,n1,2,6,60,rfl,hn1,⋯,⋯,⋯,⋯,⋯,⋯,fun r H2 hr g2=>?_⟩
  obtain⟨n2,hn2,hn2',_⟩:=g2.boxed hn1 ⋯
  obtain⟨N,rfl⟩:=aU (show 0<=r by omega)
  walk_at "sy"
  exact⟨b,n2,N,rfl,hn2,⋯,⋯,⋯,fun a M H3 g3 h1 h2 h3=>q a M H3 ((g01.trans g2).trans g3 |>.mono ⋯) h1 h2 ⋯ ⋯⟩
 walk_at "sy"
 refine dz' (fun hc=>?_) fun hc=>?_
 .walk_at "sy"
  refine aj' hCp ?_
  walk_at "sy"
  refine aj' hMa ?_
  walk_at "sy"
  refine aj' hMy ?_
  walk_at "sy"
  refine⟨b,n1,1,4,12,rfl,hn1,⋯,⋯,⋯,⋯,⋯,⋯,fun r H2 hr g2=>?_⟩
  obtain⟨n2,hn2,hn2',_⟩:=g2.boxed hn1 ⋯
  obtain⟨N,rfl⟩:=aU (show 0<=r by omega)
  walk_at "sy"
  refine⟨b,n2,N,rfl,hn2,⋯,⋯,⋯,fun a M H3 g3 h1 h2 h3=>?_⟩
  obtain⟨n3,hn3,hn3',_⟩:=g3.boxed hn2 ⋯
  walk_at "sy"
  refine⟨b,a,n3,M,rfl,hn3,⋯,h1,h2,⋯,⋯,fun p a' l M' ms H4 g4 hp hl hlen hms hM' hO' hM1 hM2=>?_⟩
  walk_at "sy"
  refine bh' (SqT.of hp) (v:=.ref a') rfl ?_
  exact q a' M' H4 ((((g01.trans g2).trans g3).trans g4).mono ⋯) hM' hO' hM1 hM2
 walk_at "sy"
 refine dz' (fun hc=>?_) fun hc=>?_
 .walk_at "sy"
  refine aj' hRi ?_
  walk_at "sy"
  refine aj' hMy ?_
  walk_at "sy"
  refine⟨b,n1,1,6,12,rfl,hn1,⋯,⋯,⋯,⋯,⋯,⋯,fun r H2 hr g2=>?_⟩
  obtain⟨n2,hn2,hn2',_⟩:=g2.boxed hn1 ⋯
  obtain⟨N,rfl⟩:=aU (show 0<=r by omega)
  walk_at "sy"
  exact⟨b,n2,N,rfl,hn2,⋯,⋯,⋯,fun a M H3 g3 h1 h2 h3=>q a M H3 ((g01.trans g2).trans g3 |>.mono ⋯) h1 h2 ⋯ ⋯⟩
 .walk_at "sy"
  refine aj' hMa ?_
  walk_at "sy"
  refine aj' hMy ?_
  walk_at "sy"
  refine⟨b,n1,1,6,12,rfl,hn1,⋯,⋯,⋯,⋯,⋯,⋯,fun r H2 hr g2=>?_⟩
  obtain⟨n2,hn2,hn2',_⟩:=g2.boxed hn1 ⋯
  obtain⟨N,rfl⟩:=aU (show 0<=r by omega)
  walk_at "sy"
  exact⟨b,n2,N,rfl,hn2,⋯,⋯,⋯,fun a M H3 g3 h1 h2 h3=>q a M H3 ((g01.trans g2).trans g3 |>.mono ⋯) h1 h2 ⋯ ⋯⟩
end LW
namespace LW
open PySem PySem.Spec PyProof.Rows L2 R3
def dL':Css:=(.cons (.asg (.name 3) (.var 1))
  (.cons (.for_ (.name 4) (.val (.var 2)) (.cons (.ite (.cmp .Is (.var 3) .non) (.cons (.ret .non)
  .nil) .nil)
  (.cons (.asg (.name 3) (.idx (.idx (.var 0) (.var 3)) (.blt .int (.cons (.var 4) .nil))))
  .nil)))
  (.cons (.ret (.var 3))
  .nil)))
def cw':Css:=(.cons (.ret (.comp (.var 2) [2] (.name 2) (.range1 (.blt .len (.cons (.var 0) .nil))) (.some (.cmp .IsNot (.call "walk" (.cons (.var 0) (.cons (.var 2) (.cons (.var 1) .nil)))) .non)) .nil))
  .nil)
def iv':Css:=(.cons (.ret (.met .join (.str "") (.cons (.comp (.idx (.str "01") (.call "_law_take" (.cons (.var 0) (.cons (.int 2) .nil)))) [2] (.name 2) (.range1 (.var 1)) .none .nil) .nil)))
  .nil)
def dM':Css:=(.cons (.asg (.name 4) (.str ""))
  (.cons (.for_ (.name 5) (.range1 (.var 3)) (.cons (.asg (.name 6) (.comp (.var 7) [7] (.name 7) (.val (.tup (.cons (.int 0) (.cons (.int 1) .nil)))) (.some (.cmp .IsNot (.idx (.idx (.var 1) (.var 2)) (.var 7)) .non)) .nil))
  (.cons (.ite (.cmp .Eq (.var 6) (.lst .nil)) (.cons (.ret (.var 4))
  .nil) .nil)
  (.cons (.asg (.name 7) (.idx (.var 6) (.call "_law_take" (.cons (.var 0) (.cons (.blt .len (.cons (.var 6) .nil)) .nil)))))
  (.cons (.asg (.name 4) (.bin .Add (.var 4) (.idx (.str "01") (.var 7))))
  (.cons (.asg (.name 2) (.idx (.idx (.var 1) (.var 2)) (.var 7)))
  .nil))))))
  (.cons (.ret (.var 4))
  .nil)))
def stp (M:List Rm) (r:Nat) (c:Bool):Option Nat:=match M[r]? with
 |some rm=>if c then rm.2 else rm.1
 |none=>none
def wk (M:List Rm) (o:Option Nat) (row:List Bool):Option Nat:=row.foldl (fun o c=>o.bind fun r=>stp M r c) o
theorem dv' {M:List Rm} {row:List Bool}:wk M none row=none:=by
 induction row with
 |nil=>rfl
 |cons c row ih=>exact ih
theorem ch' {M:List Rm} {o:Option Nat} {a b:List Bool}:wk M o (a++b)=wk M (wk M o a) b:=by unfold wk;rw[List.foldl_append]
theorem g7' {M:List Rm} {o:Option Nat} {row:List Bool} {i:Nat} {c:Bool} (h:row[i]?=some c):wk M o (row.take (i+1))=(wk M o (row.take i)).bind fun r=>stp M r c:=by
 rw[bx,h]
 show wk M o (row.take i++[c])=_
 rw[ch']
 rfl
theorem lD' {M:List Rm} {o:Option Nat} {row:List Bool} {i:Nat} (h:wk M o (row.take i)=none):wk M o row=none:=by
 rw[<- aM i row,ch',h,dv']
theorem c8' {M:List Rm} (hM:OkM M) {r:Nat} {c:Bool} {n:Nat} (h:stp M r c=some n):n<M.length:=by
 unfold stp at h
 cases e:M[r]? with
 |none=>rw[e]at h;cases h
 |some rm=>
  rw[e]at h
  have:=hM rm (az e)
  cases c
  .exact this.1 n h
  .exact this.2 n h
theorem fB' {M:List Rm} (hM:OkM M):∀{row:List Bool} {o:Option Nat} {n:Nat},(∀m,o=some m->m<M.length)->wk M o row=some n->n<M.length
 | [],o,n,ho,h=>ho n h
 |c :: row,o,n,ho,h=>fB' hM (row:=row) (o:=o.bind fun r=>stp M r c) (fun m hm=>by
   cases o with
   |none=>cases hm
   |some r=>exact c8' hM hm) h
theorem cQ' {C:Rc} {H:Hp} {a:Addr} {M:List Rm} {r:Nat} {c:Bool} {Q:VK} (hM:IsM H a M) (hr:r<M.length) (q:∀p,(∀Q':VK,Q' (oV (stp M r c)) H->gC' C.K (.ref p) (.int (if c then 1 else 0)) H Q'\/gJ' C.K (.ref p) (.int (if c then 1 else 0)) H Q')->Q (.ref p) H):gC' C.K (.ref a) (.int r) H Q\/gJ' C.K (.ref a) (.int r) H Q:=by
 obtain⟨vs,ha,hv⟩:=hM
 obtain⟨p,hp,hpt⟩:=hv.get (aa hr)
 refine bh' (SqT.of ha) (v:=.ref p) (aG' hp) (q p fun Q' q'=>?_)
 refine eh' (SqT.of hpt) ?_
 have e:stp M r c=if c then M[r].2 else M[r].1:=by unfold stp;rw[aa hr]
 rw[e]at q'
 cases c<;>exact q'
def bB':Sp:=fun vs H Q _=>∃(a:Addr) (M:List Rm) (r:Nat) (row:List Bool),vs=[.ref a,.int r,.str (tx row)]/\IsM H a M/\OkM M/\r<M.length/\Q (oV (wk M (some r) row)) H
theorem lE' {C:Rc} (hN:C.N.length=5):∀vs H Q E,bB' vs H Q E->tSs C dL' { nx:=fun _ H'=>Q .non H',rt:=Q } (L2.aF' C.N vs) H:=by
 intro vs H Q E h
 obtain⟨a,M,r,row,rfl,hM,hO,hr,q⟩:=h
 rw[an' hN]
 unfold dL'
 walk_at "sy"
 refine c4' (lh' (fun i σ H'=>H'=H/\∃x,σ=[some (.ref a),some (.int r),some (.str (tx row)),some (oV (wk M (some r) (row.take i))),x]) ⟨rfl,none,rfl⟩ ?_ ?_)
 .rintro i c σ H' hc ⟨rfl,x,rfl⟩
  walk_at "sy"
  cases e:wk M (some r) (row.take i)with
  |none=>
   simp only[oV]
   walk_at "sy"
   rw[lD' e]at q
   exact q
  |some m=>
   have hm:=fB' hO (fun k hk=>by cases hk;exact hr) e
   simp only[oV]
   walk_at "sy"
   refine cQ' (c:=c) hM hm fun p hp=>?_
   walk_at "sy"
   refine hp _ ?_
   walk_at "sy"
   refine⟨trivial,some (.str (tx [c])),?_⟩
   rw[g7' hc,e]
   rfl
 .rintro σ H' ⟨rfl,x,rfl⟩
  rw[bm]
  walk_at "sy"
  exact q
def we':Sp:=fun vs H Q _=>∃(a:Addr) (M:List Rm) (r:Nat) (row:List Bool),vs=[.ref a,.int r,.str (tx row)]/\IsM H a M/\OkM M/\r<M.length/\Q (oV (wk M (some r) row)) H
def stL (M:List Rm) (row:List Bool) (n:Nat):List Nat:=(av n).filter fun r=>(wk M (some r) row).isSome
theorem iw' {M:List Rm} {row:List Bool} {n:Nat}:stL M row (n+1)=stL M row n++(if(wk M (some n) row).isSome then[n]else[]):=by
 unfold stL
 rw[cw,ci]
 congr 1
 simp[cy]
theorem rI' {M:List Rm} {row:List Bool} {n:Nat}:(stL M row n).length<=n:=aS (bE _ _) (by simp)
def c9':Sp:=fun vs H Q _=>∃(a:Addr) (M:List Rm) (row:List Bool),vs=[.ref a,.str (tx row)]/\IsM H a M/\OkM M/\M.length<=100/\∀p,H p=none->Q (.ref p) (upd H p (.lst ((stL M row M.length).map nV)))
theorem g8' {C:Rc} (hN:C.N.length=3) (hW:C.fs "walk"=some bB'):∀vs H Q E,c9' vs H Q E->tSs C cw' { nx:=fun _ H'=>Q .non H',rt:=Q } (L2.aF' C.N vs) H:=by
 intro vs H Q E h
 obtain⟨a,M,row,rfl,hM,hO,hr,q⟩:=h
 rw[an' hN]
 unfold cw'
 obtain⟨rv,ha,hrv⟩:=id hM
 walk_at "sy"
 refine bJ' (SqT.of ha) ?_
 rw[hrv.len]
 refine cP' ⋯ ⋯ (il' (fun i xs H'=>xs=(stL M row i).map nV/\H'=H) ⟨rfl,rfl⟩ ?_ ?_)
 .rintro i xs H' R hi ⟨rfl,rfl⟩ hR
  rw[show(0:Int)+(i:Int)=(i:Int) by omega]
  walk_at "sy"
  refine aj' hW ?_
  walk_at "sy"
  refine⟨a,M,i,row,rfl,hM,hO,⋯,?_⟩
  cases e:wk M (some i) row with
  |none=>
   simp only[oV]
   walk_at "sy"
   exact hR _ _ ⟨by rw[iw',e];simp,rfl⟩
  |some m=>
   simp only[oV]
   walk_at "sy"
   exact⟨by rw[ae];exact ag' (aS rI' ⋯),hR _ _ ⟨by rw[iw',e];simp[nV],rfl⟩⟩
 .rintro xs H' ⟨rfl,rfl⟩ p hp
  exact q p hp
def e3':Sp:=fun vs H Q _=>∃(b:Addr) (n N:Nat),vs=[.ref b,.int N]/\H b=some (dn' b n)/\n<=2 ^ 39/\N<=500/\∀(r:List Bool) (H':Hp),r.length=N->Go N H H'->Q (.str (tx r)) H'
theorem lF' {C:Rc} (hN:C.N.length=3) (hT:C.fs "_law_take"=some aw'):∀vs H Q E,e3' vs H Q E->tSs C iv' { nx:=fun _ H'=>Q .non H',rt:=Q } (L2.aF' C.N vs) H:=by
 intro vs H Q E h
 obtain⟨b,n,N,rfl,hb,hn,hN5,q⟩:=h
 rw[an' hN]
 unfold iv'
 walk_at "sy"
 refine⟨rfl,?_⟩
 refine cP' ⋯ ⋯ (il' (fun i xs H'=>(∃r:List Bool,xs=(r.map fun c=>[c]).map (fun l=>V.str (tx l))/\r.length=i)/\Go i H H') ⟨⟨[],rfl,rfl⟩,Go.refl⟩ ?_ ?_)
 .rintro i xs H1 R hi ⟨⟨r,rfl,hr⟩,g1⟩ hR
  walk_at "sy"
  refine aj' hT ?_
  walk_at "sy"
  refine av' hb g1 ⋯ ⋯ ⋯ fun r2 H2 h20 h21 g12 g2=>?_
  walk_at "sy"
  obtain⟨c0,hc0⟩:∃c0,atI [false,true] r2=some c0:=by
   have:r2=0\/r2=1:=by omega
   rcases this with rfl|rfl
   .exact⟨false,rfl⟩
   .exact⟨true,rfl⟩
  refine ln' (by decide) hc0 ?_
  walk_at "sy"
  exact⟨by simp only[ae];exact ag' ⋯,hR _ _ ⟨⟨r++[c0],by simp,by simp[hr]⟩,g2⟩⟩
 .rintro xs H1 ⟨⟨r,rfl,hr⟩,g1⟩ p hp
  rw[bI]at hr g1
  walk_at "sy"
  have ef:(r.map fun c=>[c]).flatten=r:=by
   clear hr hp
   induction r with
   |nil=>rfl
   |cons c r ih=>rw[aJ,bY,ih];rfl
  refine rd' (ls:=r.map fun c=>[c]) (SqL.of ab') (by rw[ef];omega) ?_
  rw[ef]
  exact q r _ hr (g1.upd (g1.free _ hp))
def cx':Sp:=fun vs H Q _=>∃(b a:Addr) (n N r:Nat) (M:List Rm),vs=[.ref b,.ref a,.int r,.int N]/\H b=some (dn' b n)/\n<=2 ^ 39/\N<=500/\IsM H a M/\OkM M/\r<M.length/\∀(row:List Bool) (H':Hp),row.length<=N->Go N H H'->Q (.str (tx row)) H'
theorem g9' {C:Rc} (hN:C.N.length=8) (hT:C.fs "_law_take"=some aw'):∀vs H Q E,cx' vs H Q E->tSs C dM' { nx:=fun _ H'=>Q .non H',rt:=Q } (L2.aF' C.N vs) H:=by
 intro vs H Q E h
 obtain⟨b,a,n,N,r,M,rfl,hb,hn,hN5,hM,hO,hr,q⟩:=h
 rw[an' hN]
 unfold dM'
 walk_at "sy"
 refine cP' ⋯ ⋯ (ef' (fun i σ H'=>(∃(r:Nat) (row:List Bool) (x5 x6 x7:Option V),σ=[some (.ref b),some (.ref a),some (.int r),some (.int N),some (.str (tx row)),x5,x6,x7]/\r<M.length/\row.length<=i)/\Go i H H') ⟨⟨r,[],_,_,_,rfl,hr,by simp⟩,Go.refl⟩ ?_ ?_)
 .rintro i σ H1 hi ⟨⟨r,row,x5,x6,x7,rfl,hr,hrow⟩,g1⟩
  have hM1:=hM.mono g1.tp
  walk_at "sy"
  refine⟨by decide,fun t ht=>?_⟩
  have st:=ac' ht (.tup [.int 0,.int 1])
  have htt:upd H1 t (.tup [.int 0,.int 1]) t=some (.tup [.int 0,.int 1]):=ab'
  generalize upd H1 t (.tup [.int 0,.int 1])=H2 at st htt
  have hM2:=hM1.mono (ai' st)
  refine bg' (SqT.of htt) (gn' (vs:=[.int 0,.int 1]) (fun j xs H'=>H'=H2/\∃bs:List Bool,xs=bs.map (fun c=>V.int (if c then 1 else 0))/\bs.length<=j/\∀c∈bs,stp M r c≠none) ⟨rfl,[],rfl,by simp,fun c hc=>by cases hc⟩ (fun j xs H' pv=>by rw[pv.1];exact SqT.of htt) ?_ ?_)
  .rintro j xs H' x R hx ⟨rfl,bs,rfl,hbl,hbs⟩ hR
   have hj:j<2:=ak' hx
   obtain⟨c,rfl⟩:∃c:Bool,x=.int (if c then 1 else 0):=by
    match j,hx with
    |0,hx=>cases hx;exact⟨false,rfl⟩
    |1,hx=>cases hx;exact⟨true,rfl⟩
   walk_at "sy"
   refine cQ' (c:=c) hM2 hr fun p hp=>?_
   walk_at "sy"
   refine hp _ ?_
   cases e:stp M r c with
   |none=>
    simp only[oV]
    walk_at "sy"
    exact hR _ _ ⟨rfl,bs,rfl,⋯,hbs⟩
   |some m=>
    simp only[oV]
    walk_at "sy"
    refine⟨by rw[ae];exact ag' ⋯,hR _ _ ⟨rfl,bs++[c],by simp,by simp;omega,fun d hd=>?_⟩⟩
    rcases am.mp hd with hd|hd
    .exact hbs d hd
    .have ed:d=c:=by simpa using hd
     subst ed
     rw[e]
     simp
  rintro xs H' ⟨rfl,bs,rfl,hbl,hbs⟩ s hs
  have ss:=ac' hs (.lst (bs.map fun c=>V.int (if c then 1 else 0)))
  have hss:upd H' s (.lst (bs.map fun c=>V.int (if c then 1 else 0))) s=some (.lst (bs.map fun c=>V.int (if c then 1 else 0))):=ab'
  generalize upd H' s (.lst (bs.map fun c=>V.int (if c then 1 else 0)))=H3 at ss hss
  walk_at "sy"
  refine⟨by decide,fun u hu=>?_⟩
  have su:=ac' hu (.lst [])
  have huu:upd H3 u (.lst []) u=some (.lst []):=ab'
  generalize upd H3 u (.lst [])=H4 at su huu
  have g4:Go i H H4:=(g1.trans (Go.of_same (c:=0) ((st.trans ss).trans su))).mono ⋯
  have hM4:=hM.mono g4.tp
  refine vJ' (SqL.of (su _ _ hss)) (SqL.of huu) g4' ?_
  cases bs with
  |nil=>
   walk_at "sy"
   exact q row H4 ⋯ (g4.mono ⋯)
  |cons c0 cr=>
   rw[show(decide (List.map (fun c:Bool=>V.int (if c then 1 else 0)) (c0 :: cr)=[]))=false by simp]
   walk_at "sy"
   refine aj' hT ?_
   walk_at "sy"
   refine bI' (SqL.of (su _ _ hss)) ?_
   walk_at "sy"
   refine av' hb g4 ⋯ (by simp) (by simp at hbl ⊢;omega) fun r5 H5 h50 h51 g45 g5=>?_
   walk_at "sy"
   obtain⟨v,ev,ei⟩:=o6' (xs:=List.map (fun c:Bool=>V.int (if c then 1 else 0)) (c0 :: cr)) h50 (by simpa using h51)
   rw[al]at ev
   cases ek:(c0 :: cr)[r5.toNat]? with
   |none=>rw[ek]at ev;cases ev
   |some c=>
    rw[ek]at ev
    cases ev
    refine aO' (SqL.of (g45.lst (su _ _ hss))) ei ?_
    walk_at "sy"
    refine ln' (l:=[false,true]) (c:=c) (by decide) (by cases c<;>rfl) ?_
    walk_at "sy"
    refine⟨aX (ag' (by simp;omega)),?_⟩
    have hne:=hbs c (az ek)
    refine cQ' (c:=c) (hM.mono g5.tp) hr fun p hp=>?_
    walk_at "sy"
    refine hp _ ?_
    cases e:stp M r c with
    |none=>exact absurd e hne
    |some m=>
     simp only[oV]
     walk_at "sy"
     exact⟨⟨m,row++[c],_,_,_,rfl,c8' hO e,by simp;omega⟩,g5⟩
 .rintro σ H1 ⟨⟨r,row,x5,x6,x7,rfl,hr,hrow⟩,g1⟩
  rw[bI]at hrow g1
  walk_at "sy"
  exact q row H1 hrow g1
end LW
namespace LW
open PySem PySem.Spec PyProof.Rows L2 R3
theorem ek' {H H':Hp} {a:Addr} {o:HO} (s:aC' H H') (h:H a=none):aC' H (upd H' a o):=fun b u q=>by
 rw[af' (ah' q h)]
 exact s b u q
def ow (f:Nat->Nat):Option Nat->Nat
 |none=>0
 |some m=>f m
end LW
namespace TM
open PySem PySem.Spec PyProof.Rows L2 R3 LW
def bV':Css:=(.cons (.asg (.name 2) (.blt .set (.cons (.var 1) .nil)))
  (.cons (.setc2 3 (.var 5) [4,5] (.name 4) (.val (.var 1)) .none [5] (.name 5) (.val (.idx (.var 0) (.var 4))) .none)
  (.cons (.ret (.comp (.var 4) [4] (.name 4) (.val (.var 1)) (.some (.and (.din false (.var 4) (.var 3)) (.or (.din false (.idx (.idx (.var 0) (.var 4)) (.int 0)) (.var 2)) (.din false (.idx (.idx (.var 0) (.var 4)) (.int 1)) (.var 2))))) .nil))
  .nil)))
def bW':Css:=(.cons (.dctc false 2 (.var 4) (.var 3) [3,4] (.tup (.cons (.name 3) (.cons (.name 4) .nil))) (.enum (.var 1)) .none)
  (.cons (.ret (.blt .tuple (.cons (.comp (.tup (.cons (.dgt (.var 2) (.idx (.idx (.var 0) (.var 4)) (.int 0))) (.cons (.dgt (.var 2) (.idx (.idx (.var 0) (.var 4)) (.int 1))) .nil))) [4] (.name 4) (.val (.var 1)) .none .nil) .nil)))
  .nil))
def bX':Css:=(.cons (.asg (.name 1) (.blt .list (.cons (.blt .range (.cons (.blt .len (.cons (.var 0) .nil)) .nil)) .nil)))
  (.cons (.asg (.name 2) (.call "lasting" (.cons (.var 0) (.cons (.var 1) .nil))))
  (.cons (.whl (.cmp .Lt (.blt .len (.cons (.var 2) .nil)) (.blt .len (.cons (.var 1) .nil))) (.cons (.asg (.name 1) (.var 2))
  (.cons (.asg (.name 2) (.call "lasting" (.cons (.var 0) (.cons (.var 1) .nil))))
  .nil)))
  (.cons (.ret (.tup (.cons (.call "part_of" (.cons (.var 0) (.cons (.var 1) .nil))) (.cons (.var 1) .nil))))
  .nil))))
def oI (o:Option Nat):Option Int:=o.map Int.ofNat
theorem n2' {o:Option Nat}:oV o=kO (oI o):=by cases o<;>rfl
theorem pd' {a b:Option Nat} (h:oI a=oI b):a=b:=by
 cases a<;>cases b<;>simp[oI]at h ⊢
 omega
def fs1 (M:List Rm) (r:Nat):Option Nat:=(M[r]?.getD (none,none)).1
def fs2 (M:List Rm) (r:Nat):Option Nat:=(M[r]?.getD (none,none)).2
theorem el' {C:Rc} {H:Hp} {a:Addr} {M:List Rm} {r:Nat} {Q:VK} (hM:IsM H a M) (hr:r<M.length) (q:∀p,H p=some (.tup [oV (fs1 M r),oV (fs2 M r)])->Q (.ref p) H):gC' C.K (.ref a) (.int r) H Q\/gJ' C.K (.ref a) (.int r) H Q:=by
 obtain⟨vs,ha,hv⟩:=hM
 obtain⟨p,hp,hpt⟩:=hv.get (aa hr)
 refine bh' (SqT.of ha) (v:=.ref p) (aG' hp) (q p ?_)
 unfold fs1 fs2
 rw[aa hr]
 exact hpt
def ldS (M:List Rm) (rs:List Nat):Option Int->Bool:=fun k=>rs.any fun r=>decide (k=oI (fs1 M r)) || decide (k=oI (fs2 M r))
theorem n3' {M:List Rm} {rs:List Nat} {r:Nat}:ldS M (rs++[r])=fun k=>(ldS M rs k || decide (k=oI (fs1 M r))) || decide (k=oI (fs2 M r)):=by
 funext k
 unfold ldS
 rw[List.any_append]
 simp[Bool.or_assoc]
def inR (rs:List Nat) (o:Option Nat):Bool:=match o with
 |some n=>rs.contains n
 |none=>false
theorem pe' {rs:List Nat} {o:Option Nat}:inL (rs.map Int.ofNat) (oI o)=inR rs o:=by
 cases o with
 |none=>rfl
 |some n=>
  show(rs.map Int.ofNat).contains (Int.ofNat n)=rs.contains n
  induction rs with
  |nil=>rfl
  |cons a rs ih=>
   rw[aJ,List.contains_cons,List.contains_cons,ih]
   congr 1
   by_cases h:n=a
   .subst h;simp
   .rw[beq_eq_false_iff_ne.mpr h,beq_eq_false_iff_ne.mpr (fun z=>h (Int.ofNat.inj z))]
def da' (M:List Rm) (rs:List Nat) (r:Nat):Bool:=ldS M rs (some (r:Int))&&(inR rs (fs1 M r) || inR rs (fs2 M r))
def lst (M:List Rm) (rs:List Nat):List Nat:=rs.filter (da' M rs)
theorem rJ' {rs:List Nat}:(rs.map Int.ofNat).map V.int=rs.map nV:=by rw[dk];rfl
def gr':Sp:=fun vs H Q _=>∃(a l:Addr) (M:List Rm) (rs:List Nat),vs=[.ref a,.ref l]/\IsM H a M/\H l=some (.lst (rs.map nV))/\(∀r∈rs,r<M.length)/\rs.length<=500/\∀(p:Addr) (H':Hp),H p=none->aC' H H'->H' p=some (.lst ((lst M rs).map nV))->Q (.ref p) H'
theorem lG' {C:Rc} (hN:C.N.length=6):∀vs H Q E,gr' vs H Q E->tSs C bV' { nx:=fun _ H'=>Q .non H',rt:=Q } (L2.aF' C.N vs) H:=by
 intro vs H Q E h
 obtain⟨a,l,M,rs,rfl,hM,hl,hrs,hlen,q⟩:=h
 rw[an' hN]
 unfold bV'
 symm
 refine vW' (ns:=rs.map Int.ofNat) (SqL.of (by rw[rJ'];exact hl)) (by rw[ae];omega) fun p hp=>?_
 have s1:=ac' hp (eR' p (inL (rs.map Int.ofNat)) (rs.map Int.ofNat).length)
 have hp1:upd H p (eR' p (inL (rs.map Int.ofNat)) (rs.map Int.ofNat).length) p=some (eR' p (inL (rs.map Int.ofNat)) (rs.map Int.ofNat).length):=ab'
 generalize upd H p (eR' p (inL (rs.map Int.ofNat)) (rs.map Int.ofNat).length)=H1 at s1 hp1 ⊢
 have hl1:=s1 _ _ hl
 have hM1:=hM.mono (ai' s1)
 symm
 refine as' (SqL.of hl1) (AZ' (vs:=rs.map nV) (fun i b H'=>b.1=ldS M (rs.take i)/\b.2=2*i/\H'=H1) ⟨rfl,rfl,rfl⟩ (fun i b H' pv=>SqL.of (by rw[pv.2.2];exact hl1)) ?_ ?_)
 .rintro i ⟨S,n⟩ H' x R hx ⟨hS,hn,hH⟩ hR
  subst hH
  rw[al]at hx
  cases er:rs[i]? with
  |none=>rw[er]at hx;cases hx
  |some r=>
  rw[er]at hx
  cases hx
  have hi:=ak' er
  have hrM:=hrs r (az er)
  dsimp only at hS hn
  subst hS hn
  simp only[nV]
  symm
  refine el' hM1 hrM fun pr hpr=>?_
  symm
  refine bg' (SqT.of hpr) (A0' (vs:=[oV (fs1 M r),oV (fs2 M r)]) (fun j b H''=>b.1=(fun k=>(if j=0 then ldS M (rs.take i) k else if j=1 then(ldS M (rs.take i) k || decide (k=oI (fs1 M r)))else(ldS M (rs.take i) k || decide (k=oI (fs1 M r))) || decide (k=oI (fs2 M r))))/\b.2=2*i+j/\H''=H') ⟨rfl,rfl,rfl⟩ (fun j b H' pv=>SqT.of (by rw[pv.2.2];exact hpr)) ?_ ?_)
  .rintro j ⟨S,n⟩ H' x R2 hx ⟨hS,hn,rfl⟩ hR2
   dsimp only at hS hn
   subst hS hn
   have hj:j=0\/j=1:=by
    have:=ak' hx
    simp only[aR,List.length_nil]at this
    omega
   rcases hj with rfl|rfl
   .simp only[List.getElem?_cons_zero,Option.some.injEq]at hx
    subst hx
    symm
    refine⟨oI (fs1 M r),n2',⋯,hR2 _ _ ⟨?_,rfl,rfl⟩⟩
    funext k
    simp
   .simp only[List.getElem?_cons_succ,List.getElem?_cons_zero,Option.some.injEq]at hx
    subst hx
    symm
    refine⟨oI (fs2 M r),n2',⋯,hR2 _ _ ⟨?_,rfl,rfl⟩⟩
    funext k
    simp
  .rintro⟨S,n⟩ H' ⟨hS,hn,rfl⟩
   dsimp only at hS hn
   subst hS hn
   refine hR _ _ ⟨?_,by simp;omega,rfl⟩
   rw[show rs.take (i+1)=rs.take i++[r] by rw[bx,er];rfl,n3']
   rfl
 .rintro⟨S,n⟩ H' ⟨hS,hn,rfl⟩
  dsimp only at hS hn
  rw[ae,bm]at hS
  subst hS
  refine⟨trivial,fun p2 hp2=>?_⟩
  dsimp only
  have s2:=ac' hp2 (eR' p2 (ldS M rs) n)
  have hp22:upd H' p2 (eR' p2 (ldS M rs) n) p2=some (eR' p2 (ldS M rs) n):=ab'
  generalize upd H' p2 (eR' p2 (ldS M rs) n)=H2 at s2 hp22 ⊢
  have hl2:=s2 _ _ hl1
  have hp12:=s2 _ _ hp1
  have hM2:=hM1.mono (ai' s2)
  symm
  refine as' (SqL.of hl2) (cF' (vs:=rs.map nV) (fun i xs H'=>xs=((rs.take i).filter (da' M rs)).map nV/\H'=H2) ⟨rfl,rfl⟩ (fun i xs H' pv=>SqL.of (by rw[pv.2];exact hl2)) ?_ ?_)
  .rintro i xs H' x R hx ⟨rfl,rfl⟩ hR
   rw[al]at hx
   cases er:rs[i]? with
   |none=>rw[er]at hx;cases hx
   |some r=>
   rw[er]at hx
   cases hx
   have hi:=ak' er
   have hrM:=hrs r (az er)
   have et:(rs.take (i+1)).filter (da' M rs)=(rs.take i).filter (da' M rs)++[r].filter (da' M rs):=by rw[bx,er,ci];rfl
   have hfl:((rs.take i).filter (da' M rs)).length<=500:=aS (bE ..) (by rw[aQ];omega)
   have yes:da' M rs r=true->R (((rs.take i).filter (da' M rs)).map nV++[nV r]) H':=fun h=>hR _ _ ⟨by rw[et,cy,if_pos h,aN];rfl,rfl⟩
   have no:da' M rs r=false->R (((rs.take i).filter (da' M rs)).map nV) H':=fun h=>hR _ _ ⟨by rw[et,cy,if_neg (by rw[h];decide)];simp,rfl⟩
   have e1:=pe' (rs:=rs) (o:=fs1 M r)
   have e2:=pe' (rs:=rs) (o:=fs2 M r)
   unfold da' at yes no
   simp only[nV]at yes ⊢
   symm
   refine ls' (k:=some (r:Int)) rfl hp22 ?_
   simp only[bJ,if_false]
   cases hld:ldS M rs (some (r:Int))with
   |false=>
    rw[hld]at no
    symm
    exact no rfl
   |true=>
    rw[hld]at yes no
    symm
    refine el' hM2 hrM fun pr hpr=>?_
    symm
    refine bh' (SqT.of hpr) (v:=oV (fs1 M r)) rfl ?_
    symm
    refine ls' n2' hp12 ?_
    simp only[bJ,if_false]
    rw[e1]
    cases h1:inR rs (fs1 M r)with
    |true=>
     rw[h1]at yes
     symm
     exact⟨by rw[ae];exact ag' ⋯,yes rfl⟩
    |false=>
     rw[h1]at yes no
     symm
     refine el' hM2 hrM fun pr hpr=>?_
     symm
     refine bh' (SqT.of hpr) (v:=oV (fs2 M r)) rfl ?_
     symm
     refine ls' n2' hp12 ?_
     simp only[bJ,if_false]
     rw[e2]
     cases h2:inR rs (fs2 M r)with
     |true=>
      rw[h2]at yes
      symm
      exact⟨by rw[ae];exact ag' ⋯,yes rfl⟩
     |false=>
      rw[h2]at no
      symm
      exact no rfl
  .rintro xs H' ⟨rfl,rfl⟩ p3 hp3
   rw[ae,bm]
   have hfin:upd H' p3 (.lst ((rs.filter (da' M rs)).map nV)) p3=some (.lst ((lst M rs).map nV)):=ab'
   exact q p3 _ ((s1.trans s2).free hp3) (s1.trans (s2.trans (ac' hp3 _))) hfin
theorem jp' {i:Nat} (h:i<=1000):hashInt (i:Int)=i:=by
 unfold hashInt rawHash
 have e:(((i:Int).natAbs:Nat):Int) % ((2 ^ 61-1:Nat):Int)=i:=by
  rw[Int.natAbs_natCast]
  exact Int.emod_eq_of_lt ⋯ (Int.ofNat_lt.mpr (show i<2 ^ 61-1 by omega))
 dsimp only
 rw[e]
 have h1:¬((i:Int)<0):=by omega
 have h2:((i:Int) == -1)=false:=by rw[beq_eq_false_iff_ne];omega
 simp only[h1,if_false,h2,bJ]
def TbK (n m:Nat) (kvs:List (Key×V)):Prop:=∀kv∈kvs,∃r j:Nat,kv=(.inl (r:Int),.int j)/\r<n/\j<m
theorem TbK.non {H:Hp} {p:Addr} {n m:Nat} {kvs:List (Key×V)} (h:TbK n m kvs) (hn:n<=1000) (hp:H p=some (.dK kvs)):NoN H p:=.inl ⟨kvs,hp,fun kv hkv=>by
 obtain⟨r,j,rfl,hr,_⟩:=h kv hkv
 exact⟨r,rfl,by rw[jp' ⋯];show(r:Int)≠0xFCA86420;omega⟩⟩
theorem wf' {M:List Rm} {rs:List Nat}:(lst M rs).length<=rs.length:=bE ..
theorem lH' {M:List Rm} {rs:List Nat} {r:Nat} (h:r∈lst M rs):r∈rs:=(bC.mp h).1
theorem wg' {n:Nat}:rgs 0 n=(av n).map nV:=by
 unfold rgs
 apply List.map_congr_left
 intro k _
 show V.int (0+(k:Int))=V.int k
 rw[Int.zero_add]
end TM
namespace BD
open PySem PySem.Spec PyProof.Rows L2 R3 LW TM
abbrev K3:=Nat×Nat×Nat
def r1 (lv:List Nat) (b pl:Nat):List K3:=lv.map fun l=>(b,pl,l)
def r2 (lv:List Nat) (b:Nat) (h:Nat):List K3:=(av h).flatMap fun j=>r1 lv b (j+1)
end BD
namespace BE
open PySem PySem.Spec PyProof.Rows L2 R3 LW TM BD
def Sus (M:List Rm) (S:List Nat):Prop:=∀r∈S,r<M.length/\(∃r'∈S,fs1 M r'=some r\/fs2 M r'=some r)/\∃r'∈S,fs1 M r=some r'\/fs2 M r=some r'
theorem n4' {M:List Rm} {S rs:List Nat} (h:Sus M S) (hs:∀r∈S,r∈rs):∀r∈S,r∈lst M rs:=by
 intro r hr
 obtain⟨_,⟨r1,hr1,e1⟩,⟨r2,hr2,e2⟩⟩:=h r hr
 refine bC.mpr ⟨hs r hr,?_⟩
 unfold da'
 rw[af]
 constructor
 .unfold ldS
  rw[cx]
  refine⟨r1,hs r1 hr1,?_⟩
  rw[bN]
  rcases e1 with e|e
  .left;rw[e];exact decide_eq_true rfl
  .right;rw[e];exact decide_eq_true rfl
 .rw[bN]
  rcases e2 with e|e
  .left;rw[e];exact List.contains_iff_mem.mpr (hs r2 hr2)
  .right;rw[e];exact List.contains_iff_mem.mpr (hs r2 hr2)
end BE
namespace TE
open PySem PySem.Spec PyProof.Rows L2 R3 LW TM BD BE
def ixR (rs:List Nat):Option Nat->Option Nat
 |none=>none
 |some n=>if n∈rs then some (rs.idxOf n)else none
theorem dN' {rs:List Nat} {n:Nat}:ixR rs (some n)=if n∈rs then some (rs.idxOf n)else none:=rfl
theorem pf' {rs:List Nat} (h:rs.Nodup) {i j:Nat} {hi:i<rs.length} {hj:j<rs.length} (e:rs[i]=rs[j]):i=j:=by
 rcases cY i j with z|z|z
 .exact absurd e (bv.mp h i j hi hj z)
 .exact z
 .exact absurd e.symm (bv.mp h j i hj hi z)
def prt (M:List Rm) (rs:List Nat):List Rm:=rs.map fun r=>(ixR rs (fs1 M r),ixR rs (fs2 M r))
theorem fC' {M:List Rm} {rs:List Nat}:(prt M rs).length=rs.length:=by unfold prt;rw[ae]
theorem pg' {rs:List Nat} {o:Option Nat} {x:Nat} (h:ixR rs o=some x):x<rs.length:=by
 cases o with
 |none=>cases h
 |some n=>
  rw[dN']at h
  by_cases hn:n∈rs
  .rw[if_pos hn]at h
   injection h with h
   rw[<- h]
   exact bp hn
  .rw[if_neg hn]at h
   cases h
theorem ph' {M:List Rm} {rs:List Nat}:OkM (prt M rs):=by
 intro r hr
 obtain⟨x,_,rfl⟩:=aP.mp hr
 rw[fC']
 exact⟨fun n h=>pg' h,fun n h=>pg' h⟩
def ziR:List Nat->Nat->List (Key×V)
 | [],_=>[]
 |r :: rs,k=>((Key.inl (r:Int):Key),V.int k) :: ziR rs (k+1)
theorem ix' {r:Nat}:∀{rs:List Nat} {k:Nat},ziR (rs++[r]) k=ziR rs k++[((Key.inl (r:Int):Key),V.int (k+rs.length:Nat))]
 | [],k=>by simp[ziR]
 |a :: rs,k=>by
  show _ :: ziR (rs++[r]) (k+1)=_ :: (ziR rs (k+1)++_)
  rw[ix',aR,show k+1+rs.length=k+(rs.length+1) by omega]
theorem rK' {a b:Nat}:((Key.inl (a:Int):Key)=Key.inl (b:Int))↔a=b:=⟨fun h=>by injection h with h;omega,fun h=>by rw[h]⟩
theorem ha' {x:Nat}:∀{rs:List Nat} {k:Nat},cp' (ziR rs k) (Key.inl (x:Int))=if x∈rs then some (V.int (k+rs.idxOf x:Nat))else none
 | [],k=>by simp[ziR,cp']
 |r :: rs,k=>by
  by_cases h:r=x
  .subst h
   rw[show ziR (r :: rs) k=((Key.inl (r:Int):Key),V.int k) :: ziR rs (k+1) from rfl,aS' rfl]
   simp
  .rw[show ziR (r :: rs) k=((Key.inl (r:Int):Key),V.int k) :: ziR rs (k+1) from rfl,aT' (fun z=>h (rK'.mp z)),ha']
   have hx:¬x=r:=fun z=>h z.symm
   have e1:(r == x)=false:=by rw[beq_eq_false_iff_ne];exact h
   simp only[au,hx,false_or]
   rw[List.idxOf_cons,e1]
   split
   .simp only[cond_false]
    rw[show k+1+rs.idxOf x=k+(rs.idxOf x+1) by omega]
   .rfl
theorem lI':∀{rs:List Nat} {k:Nat},(ziR rs k).length=rs.length
 | [],_=>rfl
 |_ :: rs,k=>by show(ziR rs (k+1)).length+1=_;rw[lI'];rfl
theorem pi' {n:Nat}:∀{rs:List Nat} {k m:Nat},(∀r∈rs,r<n)->k+rs.length<=m->TbK n m (ziR rs k)
 | [],_,_,_,_=>fun kv h=>absurd h aA
 |r :: rs,k,m,h,hm=>fun kv hkv=>by
  rw[aR]at hm
  rcases au.mp hkv with rfl|hkv
  .exact⟨r,k,rfl,h r (by simp),⋯⟩
  .exact pi' (k:=k+1) (fun x hx=>h x (by simp[hx])) ⋯ kv hkv
theorem pj' {C:Rc} {H:Hp} {Q:VK} {p:Addr} {n:Nat} {rs:List Nat} {o:Option Nat} (h:∀r∈rs,r<n) (hn:n<=1000) (hp:H p=some (.dK (ziR rs 0))) (q:Q (oV (ixR rs o)) H):lu' p Q (oV o) H:=by
 cases o with
 |none=>exact rv' ((pi' (m:=rs.length) h ⋯).non hn hp) q
 |some x=>
  refine ru' (dH'.k (k:=.inl (x:Int)) hp) ?_
  rw[ha']
  rw[dN']at q
  by_cases hx:x∈rs
  .rw[if_pos hx]at q ⊢
   rw[Nat.zero_add]
   exact q
  .rw[if_neg hx]at q ⊢
   exact q
def em':Sp:=fun vs H Q _=>∃(a l:Addr) (M:List Rm) (rs:List Nat),vs=[.ref a,.ref l]/\IsM H a M/\M.length<=500/\H l=some (.lst (rs.map nV))/\(∀r∈rs,r<M.length)/\rs.Nodup/\rs.length<=500/\∀(p:Addr) (H':Hp),aC' H H'->IsM H' p (prt M rs)->Q (.ref p) H'
theorem jq' {C:Rc} (hN:C.N.length=5):∀vs H Q E,em' vs H Q E->tSs C bW' { nx:=fun _ H'=>Q .non H',rt:=Q } (L2.aF' C.N vs) H:=by
 intro vs H Q E h
 obtain⟨a,l,M,rs,rfl,hM,hM5,hl,hrs,hnd,hlen,q⟩:=h
 rw[an' hN]
 unfold bW'
 symm
 refine ig' (SqL.of hl) (A1' (vs:=rs.map nV) (fun i b H'=>b=ziR (rs.take i) 0/\i<=rs.length/\aC' H H') ⟨rfl,aL _,aC'.refl _⟩ (fun i b H' pv=>SqL.of (pv.2.2 _ _ hl)) ?_ ?_)
 .rintro i b H1 x p R hx hp ⟨rfl,hi0,s1⟩ hR
  rw[al]at hx
  cases er:rs[i]? with
  |none=>rw[er]at hx;cases hx
  |some r=>
  rw[er]at hx
  cases hx
  have hi:=ak' er
  refine dA' (SqT.of ab') ?_
  have s2:=s1.trans (ac' hp (.tup [.int i,nV r]))
  generalize upd H1 p (.tup [.int i,nV r])=H2 at s2 ⊢
  simp only[nV]
  symm
  have et:rs.take (i+1)=rs.take i++[r]:=by rw[bx,er];rfl
  have hno:r∉rs.take i:=fun hm=>by
   obtain⟨j,hj,ej⟩:=cm.mp hm
   rw[aQ]at hj
   rw[cF]at ej
   have er':rs[i]'hi=r:=by rw[aa hi]at er;exact Option.some.inj er
   have:=pf' hnd (hi:=by omega) (hj:=hi) (ej.trans er'.symm)
   omega
  refine⟨.inl (r:Int),rfl,by rw[lI',aQ];exact ag' ⋯,hR _ _ ⟨?_,⋯,s2⟩⟩
  rw[fj' _ (by rw[ha',if_neg hno]),et,ix',aQ,Nat.min_eq_left ⋯,Nat.zero_add]
 .rintro kvs H1 ⟨rfl,_,s1⟩
  rw[ae,bm]
  refine⟨trivial,fun p hp=>?_⟩
  have s2:=s1.trans (ac' hp (.dK (ziR rs 0)))
  have hp2:upd H1 p (.dK (ziR rs 0)) p=some (.dK (ziR rs 0)):=ab'
  generalize upd H1 p (.dK (ziR rs 0))=H2 at s2 hp2 ⊢
  symm
  refine as' (SqL.of (s2 _ _ hl)) (cF' (vs:=rs.map nV) (fun i xs H'=>bs' H' xs ((rs.take i).map fun r=>(ixR rs (fs1 M r),ixR rs (fs2 M r)))/\i<=rs.length/\aC' H2 H') ⟨trivial,aL _,aC'.refl _⟩ (fun i xs H' pv=>SqL.of (pv.2.2 _ _ (s2 _ _ hl))) ?_ ?_)
  .rintro i xs H3 x R hx ⟨hR',hi0,s3⟩ hR
   rw[al]at hx
   cases er:rs[i]? with
   |none=>rw[er]at hx;cases hx
   |some r=>
   rw[er]at hx
   cases hx
   have hi:=ak' er
   have hrM:=hrs r (az er)
   have hM3:=hM.mono (ai' (s2.trans s3))
   have hp3:=s3 _ _ hp2
   simp only[nV]
   symm
   refine lw' (.inl ⟨_,.inl hp3⟩) ?_
   symm
   refine el' hM3 hrM fun pr hpr=>?_
   symm
   refine bh' (SqT.of hpr) (v:=oV (fs1 M r)) rfl ?_
   refine pj' (C:=C) hrs ⋯ hp3 ?_
   symm
   refine lw' (.inl ⟨_,.inl hp3⟩) ?_
   symm
   refine el' hM3 hrM fun pr hpr=>?_
   symm
   refine bh' (SqT.of hpr) (v:=oV (fs2 M r)) rfl ?_
   refine pj' (C:=C) hrs ⋯ hp3 ?_
   symm
   refine⟨by show 2<=sizeLine;decide,fun p4 hp4=>?_⟩
   have s4:=ac' hp4 (.tup [oV (ixR rs (fs1 M r)),oV (ixR rs (fs2 M r))])
   have h4:upd H3 p4 (.tup [oV (ixR rs (fs1 M r)),oV (ixR rs (fs2 M r))]) p4=some (.tup [oV (ixR rs (fs1 M r)),oV (ixR rs (fs2 M r))]):=ab'
   generalize upd H3 p4 (.tup [oV (ixR rs (fs1 M r)),oV (ixR rs (fs2 M r))])=H4 at s4 h4 ⊢
   have hxl:=hR'.len
   rw[ae,aQ]at hxl
   refine⟨ag' ⋯,hR _ _ ⟨?_,⋯,s3.trans s4⟩⟩
   rw[bx,er,aN]
   exact(hR'.mono (ai' s4)).snoc ⟨p4,rfl,h4⟩
  .rintro xs H3 ⟨hR',_,s3⟩ p5 hp5
   rw[ae,bm]at hR'
   symm
   have h5:upd H3 p5 (.lst xs) p5=some (.lst xs):=ab'
   have s5:=ac' hp5 (.lst xs)
   generalize upd H3 p5 (.lst xs)=H5 at h5 s5 ⊢
   refine bU' (SqL.of h5) fun p6 hp6=>?_
   have s6:=ac' hp6 (.tup xs)
   exact q p6 _ (s2.trans (s3.trans (s5.trans s6))) ⟨xs,ab',hR'.mono (ai' (s5.trans s6))⟩
structure Rs (M:List Rm) (rs:List Nat):Prop where
 rise:rs.Pairwise (· < ·)
 lt:∀r∈rs,r<M.length
 fix:lst M rs=rs
 all:∀S,Sus M S->∀r∈S,r∈rs
theorem fD' {rs:List Nat} (h:rs.Pairwise (· < ·)):rs.Nodup:=h.imp fun {a b} z=>aH z
theorem rL' {M:List Rm} {rs:List Nat} (hl:∀r∈rs,r<M.length) (h:lst M rs=rs):Sus M rs:=by
 intro r hr
 have h2:r∈lst M rs:=by rw[h];exact hr
 have h3:=(bC.mp h2).2
 unfold da' at h3
 rw[af,bN]at h3
 refine⟨hl r hr,?_,?_⟩
 .obtain⟨r',hr',e⟩:=cx.mp h3.1
  refine⟨r',hr',?_⟩
  rw[bN,decide_eq_true_eq,decide_eq_true_eq]at e
  rcases e with e|e
  .exact .inl (pd' (b:=some r) (by rw[<- e];rfl))
  .exact .inr (pd' (b:=some r) (by rw[<- e];rfl))
 .have key:∀o,inR rs o=true->∃r'∈rs,o=some r':=fun o ho=>by
   cases o with
   |none=>cases ho
   |some n=>exact⟨n,List.contains_iff_mem.mp ho,rfl⟩
  rcases h3.2 with e|e
  .obtain⟨r',hr',e'⟩:=key _ e
   exact⟨r',hr',.inl e'⟩
  .obtain⟨r',hr',e'⟩:=key _ e
   exact⟨r',hr',.inr e'⟩
theorem Rs.sus {M:List Rm} {rs:List Nat} (h:Rs M rs):Sus M rs:=rL' h.lt h.fix
set_option tactic.hygienic true in
theorem gs' {α:Type} {p:α->Bool}:∀{l:List α},l.length<=(l.filter p).length->l.filter p=l
 | [],_=>rfl
 |a :: l,h=>by
  rw[cy]at h ⊢
  have:=bE p l
  split at h
  .rename_i hp
   rw[if_pos hp]
   rw[aR,aR]at h
   rw[gs' ⋯]
  .rw[aR]at h
   omega
def bY':Sp:=fun vs H Q _=>∃(a:Addr) (M:List Rm),vs=[.ref a]/\IsM H a M/\M.length<=500/\∀(p p' l:Addr) (rs:List Nat) (H':Hp),aC' H H'->H l=none->H' p=some (.tup [.ref p',.ref l])->H' l=some (.lst (rs.map nV))->IsM H' p' (prt M rs)->Rs M rs->Q (.ref p) H'
theorem jr' {C:Rc} (hN:C.N.length=3) (hL:C.fs "lasting"=some gr') (hP:C.fs "part_of"=some em'):∀vs H Q E,bY' vs H Q E->tSs C bX' { nx:=fun _ H'=>Q .non H',rt:=Q } (L2.aF' C.N vs) H:=by
 intro vs H Q E h
 obtain⟨a,M,rfl,hM,hM5,q⟩:=h
 rw[an' hN]
 unfold bX'
 obtain⟨mv,hmv,hmr⟩:=id hM
 symm
 refine bJ' (SqT.of hmv) ?_
 rw[hmr.len]
 symm
 refine go' fun pr hpr=>?_
 symm
 have hsz:((M.length:Int)-0).toNat<=sizeLine:=aX (ag' ⋯)
 refine fx' ab' ⋯ ⋯ ⋯ ⋯ hsz fun p1 hp1=>?_
 rw[show((M.length:Int)-0).toNat=M.length by omega,wg']
 have s1:=(ac' hpr (.rng 0 M.length)).trans (ac' hp1 (.lst ((av M.length).map nV)))
 have h1:upd (upd H pr (.rng 0 M.length)) p1 (.lst ((av M.length).map nV)) p1=some (.lst ((av M.length).map nV)):=ab'
 have f1:H p1=none:=(ac' hpr (.rng 0 M.length)).free hp1
 generalize upd (upd H pr (.rng 0 M.length)) p1 (.lst ((av M.length).map nV))=H1 at s1 h1 ⊢
 symm
 refine aj' hL ?_
 symm
 refine⟨a,p1,M,av M.length,rfl,hM.mono (ai' s1),h1,fun r hr=>aI.mp hr,by rw[aV];omega,fun p2 H2 hp2 s2 h2=>?_⟩
 symm
 refine ii' (fun m σ H'=>aC' H H'/\∃(l1 l2:Addr) (rs:List Nat),σ=[some (.ref a),some (.ref l1),some (.ref l2)]/\H l1=none/\H l2=none/\H' l1=some (.lst (rs.map nV))/\H' l2=some (.lst ((lst M rs).map nV))/\(∀r∈rs,r<M.length)/\rs.Pairwise (· < ·)/\rs.length<=M.length/\(∀S,Sus M S->∀r∈S,r∈rs)/\m=rs.length) _ ⟨s1.trans s2,p1,p2,av M.length,rfl,f1,s1.free hp2,s2 _ _ h1,h2,fun r hr=>aI.mp hr,cN,by rw[aV];omega,fun S hS r hr=>aI.mpr (hS r hr).1,rfl⟩ ?_
 rintro m σ H3 ⟨s3,l1,l2,rs,rfl,f1,f2,hl1,hl2,hrs,hri,hrl,hSr,rfl⟩
 symm
 refine bI' (SqL.of hl2) ?_
 symm
 refine bI' (SqL.of hl1) ?_
 rw[ae,ae]
 symm
 have hle:=wf' (M:=M) (rs:=rs)
 refine dz' (fun hc=>ij' ?_) fun hc=>ik' ?_
 .symm
  refine aj' hL ?_
  symm
  refine⟨a,l2,M,lst M rs,rfl,hM.mono (ai' s3),hl2,fun r hr=>hrs r (lH' hr),⋯,fun p4 H4 hp4 s4 h4=>?_⟩
  symm
  exact⟨(lst M rs).length,⋯,s3.trans s4,l2,p4,lst M rs,rfl,f2,s3.free hp4,s4 _ _ hl2,h4,fun r hr=>hrs r (lH' hr),hri.sublist List.filter_sublist,⋯,fun S hS=>n4' hS (hSr S hS),rfl⟩
 .symm
  refine aj' hP ?_
  symm
  refine⟨a,l1,M,rs,rfl,hM.mono (ai' s3),hM5,hl1,hrs,fD' hri,⋯,fun p4 H4 s4 hM4=>?_⟩
  symm
  refine⟨by show 2<=sizeLine;decide,fun p5 hp5=>?_⟩
  have s5:=ac' hp5 (.tup [.ref p4,.ref l1])
  exact q p5 p4 l1 rs _ (s3.trans (s4.trans s5)) f1 ab' (s5 _ _ (s4 _ _ hl1)) (hM4.mono (ai' s5)) ⟨hri,hrs,gs' (by have:¬((lst M rs).length:Int)<rs.length:=hc;unfold lst at this;omega),hSr⟩
theorem wh' {M:List Rm} {rs:List Nat} (hn:rs.Nodup) {r:Nat} (hr:r∈rs):(prt M rs)[rs.idxOf r]?=some (ixR rs (fs1 M r),ixR rs (fs2 M r)):=by
 have hl:=bp hr
 unfold prt
 rw[al,aa hl,cQ hl]
 rfl
theorem rM' {rs:List Nat} {r:Nat} (h:r∈rs):ixR rs (some r)=some (rs.idxOf r):=by rw[dN',if_pos h]
end TE
namespace SR
open PySem PySem.Spec PyProof.Rows L2 R3 LW
theorem rN' {n:Nat} {j:Int} (h:(n:Int)<=j):Builtin.Str.strSliceIndices none (some j) 1 n=Builtin.Str.strSliceIndices none (some (n:Int)) 1 n:=by
 have h0:¬j<0:=by omega
 have h1:¬((n:Int)<0):=by omega
 have h2:(1:Int) > 0:=by decide
 simp only[Builtin.Str.strSliceIndices,h0,h1,h2,if_false,if_true,Int.min_eq_right h,Int.min_self]
theorem zo' {l:List Bool} {n:Nat}:Txt.slice (tx l) none (some (n:Int))=tx (l.take n):=by
 rcases Nat.le_total n l.length with h|h
 .exact lf' h
 .have e:Txt.slice (tx l) none (some (n:Int))=Txt.slice (tx l) none (some (l.length:Int)):=by
   unfold Txt.slice
   rw[c3',rN' ⋯]
  rw[e,lf' (ah _),bK h,bK (ah _)]
section
variable {K:W.Frag} {H:Hp} {Q:VK}
theorem rO' {l:List Bool} {n:Nat} (hl:l.length<=sizeLine) (q:Q (.str (tx (l.take n))) H):rSl K (.str (tx l)) none (some (n:Int)) H Q:=⟨by rw[c3'];exact hl,by rw[zo'];exact q⟩
end
theorem A7' {α:Type} {x:α} {r:List α}:atI (x :: r) 0=some x:=aG' (xs:=x :: r) (j:=0) rfl
end SR
namespace CK
open PySem PySem.Spec PyProof.Rows L2 R3 LW SR
def Lt (H:Hp) (a:Addr) (vs:List V):Prop:=H a=some (.lst vs)\/H a=some (.tup vs)
end CK
namespace K11
open PySem PySem.Spec PyProof.Rows L2 R3 LW
def cR':List Str:=["machine","room","found","waiting","here","lead"]
def bZ':List Str:=[]
def b0':Css:=(.cons (.asg (.name 2) .dnew)
  (.cons (.asg (.name 3) (.lst (.cons (.var 1) .nil)))
  (.cons (.whl (.val (.var 3)) (.cons (.asg (.name 4) (.met .popL (.var 3) .nil))
  (.cons (.for_ (.name 5) (.val (.idx (.var 0) (.var 4))) (.cons (.ite (.and (.cmp .IsNot (.var 5) .non) (.din true (.var 5) (.var 2))) (.cons (.dput (.var 2) (.var 5) (.bl true))
  (.cons (.expr (.met .append (.var 3) (.cons (.var 5) .nil)))
  .nil)) .nil)
  .nil))
  .nil)))
  (.cons (.ret (.var 2))
  .nil))))
def en':List Str:=["machine","rooms","beyond","room","told","ring","other"]
def db':List Str:=["len","list","range"]
def dc':Css:=(.cons (.asg (.name 1) (.blt .list (.cons (.blt .range (.cons (.blt .len (.cons (.var 0) .nil)) .nil)) .nil)))
  (.cons (.asg (.name 2) (.comp (.call "reached" (.cons (.var 0) (.cons (.var 3) .nil))) [3] (.name 3) (.val (.var 1)) .none .nil))
  (.cons (.asg (.name 4) (.lst .nil))
  (.cons (.for_ (.name 3) (.val (.var 1)) (.cons (.asg (.name 5) (.comp (.var 6) [6] (.name 6) (.val (.var 1)) (.some (.and (.din false (.var 6) (.idx (.var 2) (.var 3))) (.din false (.var 3) (.idx (.var 2) (.var 6))))) .nil))
  (.cons (.ite (.and (.val (.var 5)) (.cmp .Eq (.idx (.var 5) (.int 0)) (.var 3))) (.cons (.expr (.met .append (.var 4) (.cons (.var 5) .nil)))
  .nil) .nil)
  .nil)))
  (.cons (.ret (.var 4))
  .nil)))))
open SR CK
def ed (M:List Rm) (a b:Nat):Bool:=match M[a]? with
 |some r=>decide (r.1=some b) || decide (r.2=some b)
 |none=>false
def wp (M:List Rm):Nat->Nat->Nat->Bool
 |0,i,j=>ed M i j
 |k+1,i,j=>wp M k i j || (wp M k i k&&wp M k k j)
def rch (M:List Rm) (i j:Nat):Bool:=wp M M.length i j
theorem wp_mono {M:List Rm} {k i j:Nat} (h:wp M k i j=true):wp M (k+1) i j=true:=by
 show(wp M k i j || _)=true
 rw[h];rfl
theorem wi' {M:List Rm} {i j:Nat} (h:ed M i j=true):∀k,wp M k i j=true
 |0=>h
 |k+1=>wp_mono (wi' h k)
theorem js' {M:List Rm} {k i j:Nat} (h:wp M (k+1) i j=true):wp M k i j=true\/(wp M k i k=true/\wp M k k j=true):=by
 have h:(wp M k i j || (wp M k i k&&wp M k k j))=true:=h
 rw[bN,af]at h
 exact h
theorem iy' {M:List Rm} {k i j:Nat} (h1:wp M k i k=true) (h2:wp M k k j=true):wp M (k+1) i j=true:=by
 show(wp M k i j || (wp M k i k&&wp M k k j))=true
 rw[h1,h2];simp
theorem n5' {M:List Rm}:∀{k i m j:Nat},m<k->wp M k i m=true->wp M k m j=true->wp M k i j=true
 |0,_,_,_,h,_,_=>by omega
 |k+1,i,m,j,h,h1,h2=>by
  by_cases hm:m=k
  .subst hm
   have a1:wp M m i m=true:=by rcases js' h1 with h|h;exact h;exact h.1
   have a2:wp M m m j=true:=by rcases js' h2 with h|h;exact h;exact h.2
   exact iy' a1 a2
  .have hk:m<k:=by omega
   rcases js' h1 with b1|⟨b1,b2⟩
   .rcases js' h2 with c1|⟨c1,c2⟩
    .exact wp_mono (n5' hk b1 c1)
    .exact iy' (n5' hk b1 c1) c2
   .rcases js' h2 with c1|⟨c1,c2⟩
    .exact iy' b1 (n5' hk b2 c1)
    .exact iy' b1 c2
theorem dC' {M:List Rm} {i m j:Nat} (hm:m<M.length) (h1:rch M i m=true) (h2:rch M m j=true):rch M i j=true:=n5' hm h1 h2
theorem dD' {M:List Rm} {i j:Nat} (h:ed M i j=true):rch M i j=true:=wi' h _
theorem jt' {M:List Rm} {S:Nat->Prop} {r:Nat} (h:∀i j,(i=r\/S i)->ed M i j=true->S j):∀{k i j:Nat},(i=r\/S i)->wp M k i j=true->S j
 |0,i,j,hi,hw=>h i j hi hw
 |k+1,i,j,hi,hw=>by
  rcases js' hw with hw|⟨h1,h2⟩
  .exact jt' h hi hw
  .exact jt' h (.inr (jt' h hi h1)) h2
theorem lJ' {M:List Rm} {i j:Nat} (hM:OkM M) (h:ed M i j=true):i<M.length/\j<M.length:=by
 unfold ed at h
 cases e:M[i]? with
 |none=>rw[e]at h;cases h
 |some r=>
  rw[e]at h
  refine⟨ak' e,?_⟩
  have hr:=hM r (az e)
  simp only[bN,decide_eq_true_eq]at h
  rcases h with h|h
  .exact hr.1 j h
  .exact hr.2 j h
def cl (M:List Rm) (a:Nat):List Nat:=(av M.length).filter fun b=>rch M a b&&rch M b a
theorem dE' {M:List Rm} {a b:Nat}:b∈cl M a↔b<M.length/\rch M a b=true/\rch M b a=true:=by
 unfold cl
 rw[bC,aI,af]
def fst (M:List Rm) (a:Nat):Bool:=decide ((cl M a).head?=some a)
def rgo (M:List Rm) (i:Nat):List (List Nat):=((av i).filter (fst M)).map (cl M)
theorem iz' {M:List Rm} {i:Nat}:rgo M (i+1)=rgo M i++if fst M i=true then[cl M i]else[]:=by
 unfold rgo
 rw[cw,ci,aN]
 congr 1
 cases h:fst M i<;>simp[h]
theorem gt':∀(n:Nat) (l:List Nat),l.Nodup->(∀x∈l,x<n)->l.length<=n
 |0,l,_,h=>by
  cases l with
  |nil=>exact ah _
  |cons a r=>exact absurd (h a aw) ⋯
 |n+1,l,hn,h=>by
  have h1:=gt' n (l.erase n) (hn.erase n) fun x hx=>by
   have h2:=h x (List.mem_of_mem_erase hx)
   have h3:x≠n:=fun e=>by subst e;exact hn.not_mem_erase hx
   omega
  have h2:=List.length_erase_le (a:=n) (l:=l)
  have h3:l.length<=(l.erase n).length+1:=by
   rw[List.length_erase];split<;>omega
  omega
def ks (fs:List Nat):List (Key×V):=fs.map fun i:Nat=>((Key.inl (i:Int):Key),V.bl true)
theorem n6' {fs:List Nat} {x:Nat}:(cp' (ks fs) (Key.inl (x:Int))).isSome=decide (x∈fs):=by
 rw[<- cq',bQ,cx]
 constructor
 .rintro⟨y,hy,hd⟩
  obtain⟨i,hi,rfl⟩:=aP.mp hy
  have:=of_decide_eq_true hd
  injection this with this
  have:i=x:=by omega
  subst this
  exact decide_eq_true hi
 .intro h
  exact⟨_,aP.mpr ⟨x,of_decide_eq_true h,rfl⟩,by simp⟩
theorem wj' {fs:List Nat} {x:Nat} (h:x∉fs):eA' (ks fs) (Key.inl (x:Int)) (V.bl true)=ks (fs++[x]):=by
 have hn:cp' (ks fs) (Key.inl (x:Int))=none:=by
  have:=n6' (fs:=fs) (x:=x)
  rw[decide_eq_false h]at this
  cases e:cp' (ks fs) (Key.inl (x:Int))with
  |none=>rfl
  |some v=>rw[e]at this;cases this
 rw[fj' _ hn]
 unfold ks
 rw[aN]
 rfl
theorem nd1 {y:Nat}:[y].Nodup:=by simp
structure Rst (M:List Rm) (r:Nat) (fs ws:List Nat):Prop where
 nd:fs.Nodup
 lt:∀x∈fs,x<M.length
 wa:∀x∈ws,x=r\/x∈fs
 rc:∀x∈fs,rch M r x=true
 wl:ws.length<=fs.length+1
def ci':Sp:=fun vs H Q _=>∃(a:Addr) (M:List Rm) (r:Nat),vs=[.ref a,.int r]/\IsM H a M/\OkM M/\M.length<=120/\r<M.length/\∀(d:Addr) (fs:List Nat) H',H d=none->aC' H H'->H' d=some (.dK (ks fs))->(∀x,x∈fs↔rch M r x=true)->Q (.ref d) H'
theorem gu' {C:Rc} (hN:C.N.length=6):∀vs H Q E,ci' vs H Q E->tSs C b0' { nx:=fun _ H'=>Q .non H',rt:=Q } (L2.aF' C.N vs) H:=by
 intro vs H Q E h
 obtain⟨a,M,r,rfl,hM,hO,hl,hr,q⟩:=h
 rw[an' hN]
 unfold b0'
 symm
 intro d hd
 have hd1:upd H d (.dK []) d=some (.dK (ks [])):=ab'
 have s1:=ac' hd (.dK [])
 generalize upd H d (.dK [])=H1 at hd1 s1 ⊢
 symm
 refine⟨by decide,fun w hw=>?_⟩
 have hwd:w≠d:=fun e=>by subst e;rw[hd1]at hw;cases hw
 have hwH:H w=none:=s1.free hw
 have hw2:upd H1 w (.lst [.int r]) w=some (.lst (([r]:List Nat).map fun i:Nat=>V.int i)):=ab'
 have hd2:upd H1 w (.lst [.int r]) d=some (.dK (ks [])):=by rw[af' (Ne.symm hwd)];exact hd1
 have hk2:∀b u,H b=some u->upd H1 w (.lst [.int r]) b=some u:=fun b u e=>by rw[af' (ah' e hwH)];exact s1 _ _ e
 generalize upd H1 w (.lst [.int r])=H2 at hw2 hd2 hk2 ⊢
 have hbd:∀b u,H b=some u->b≠d/\b≠w:=fun b u e=>⟨ah' e hd,ah' e hwH⟩
 refine ii' (fun m σ H3=>∃fs ws x4 x5,m=2*(M.length-fs.length)+ws.length/\σ=[some (.ref a),some (.int r),some (.ref d),some (.ref w),x4,x5]/\H3 d=some (.dK (ks fs))/\H3 w=some (.lst (ws.map fun i:Nat=>V.int i))/\aC' H H3/\Rst M r fs ws/\∀x,(x=r\/x∈fs)->x∉ws->∀y,ed M x y=true->y∈fs) (2*(M.length-0)+1) ⟨[],[r],_,_,rfl,rfl,hd2,hw2,hk2,⟨cM,fun x hx=>(by cases hx),fun x hx=>.inl (aO.mp hx),fun x hx=>(by cases hx),ah _⟩,fun x hx hn=>absurd (aO.mpr (hx.resolve_right (fun z=>by cases z))) hn⟩ ?_
 rintro m σ H3 ⟨fs,ws,x4,x5,rfl,rfl,hd3,hw3,s3,R3,B3⟩
 symm
 refine g5' (SqL.of hw3) ?_
 rcases List.eq_nil_or_concat ws with rfl|⟨ws',here,rfl⟩
 .refine ik' ?_
  symm
  refine q d fs H3 hd s3 hd3 fun x=>⟨R3.rc x,fun hx=>?_⟩
  exact jt' (S:=fun x=>x∈fs) (r:=r) (fun i j hi he=>B3 i hi (by simp) j he) (.inl rfl) hx
 .rw[List.concat_eq_append]at hw3 R3 B3 ⊢
  have e0:(!(((ws'++[here]).map fun i:Nat=>V.int i)).isEmpty)=true:=by simp
  rw[e0]
  refine ij' ?_
  have hhere:here=r\/here∈fs:=R3.wa here (by simp)
  have hhl:here<M.length:=by rcases hhere with rfl|h;exact hr;exact R3.lt _ h
  symm
  refine⟨tyL hw3 rfl,?_⟩
  refine v4' (xs:=ws'.map fun i:Nat=>V.int i) (y:=.int here) (by rw[hw3,aN];rfl) ?_
  have hwd3:upd H3 w (.lst (ws'.map fun i:Nat=>V.int i)) d=some (.dK (ks fs)):=by rw[af' (Ne.symm hwd)];exact hd3
  have hww3:upd H3 w (.lst (ws'.map fun i:Nat=>V.int i)) w=some (.lst (ws'.map fun i:Nat=>V.int i)):=ab'
  have s4:aC' H (upd H3 w (.lst (ws'.map fun i:Nat=>V.int i))):=fun b u e=>by rw[af' (hbd b u e).2];exact s3 _ _ e
  generalize upd H3 w (.lst (ws'.map fun i:Nat=>V.int i))=H4 at hwd3 hww3 s4 ⊢
  obtain⟨mv,hmv,hmr⟩:=hM.mono (fun b xs e=>s4 _ _ e)
  obtain⟨pr,epr,hpr⟩:=hmr.get (aa hhl)
  symm
  refine bh' (SqT.of hmv) (aG' epr) ?_
  refine bg' (SqT.of hpr) ?_
  have hpw:pr≠w:=fun e=>by subst e;rw[hww3]at hpr;cases hpr
  have hpd:pr≠d:=fun e=>by subst e;rw[hwd3]at hpr;cases hpr
  have hLd:∀y,ed M here y=true↔some y∈[M[here].1,M[here].2]:=fun y=>by
   unfold ed
   rw[aa hhl]
   simp only[bN,decide_eq_true_eq,au,aA,or_false]
   constructor
   .rintro(h|h)
    .exact .inl h.symm
    .exact .inr h.symm
   .rintro(h|h)
    .exact .inl h.symm
    .exact .inr h.symm
  have hpr':H4 pr=some (.tup ([M[here].1,M[here].2].map oV)):=hpr
  generalize [M[here].1,M[here].2]=Ld at hLd hpr'
  refine vD' (xs:=Ld.map oV) (fun j σ H5=>∃fs' wj x5,σ=[some (.ref a),some (.int r),some (.ref d),some (.ref w),some (.int here),x5]/\H5 d=some (.dK (ks fs'))/\H5 w=some (.lst (wj.map fun i:Nat=>V.int i))/\aC' H H5/\H5 pr=some (.tup (Ld.map oV))/\Rst M r fs' wj/\(here=r\/here∈fs')/\(∀x,(x=r\/x∈fs')->x∉wj->x≠here->∀y,ed M x y=true->y∈fs')/\(∀(i:Nat) y,i<j->Ld[i]?=some (some y)->y∈fs')/\2*(M.length-fs'.length)+wj.length<=2*(M.length-fs.length)+ws'.length) ⟨fs,ws',_,rfl,hwd3,hww3,s4,hpr',⟨R3.nd,R3.lt,fun x hx=>R3.wa x (aE _ hx),R3.rc,by have:=R3.wl;rw[aj]at this;omega⟩,hhere,fun x hx hn hne=>B3 x hx (fun z=>by rcases am.mp z with z|z;exact hn z;exact hne (aO.mp z)),fun i y hi=>absurd hi ⋯,ah _⟩ (fun j σ H5 _ pv=>?_) ?_ ?_
  .obtain⟨_,_,_,_,_,_,_,h,_⟩:=pv
   exact SqT.of h
  .rintro j x σ H5 hx ⟨fs',wj,x5,rfl,hd5,hw5,s5,hp5,R5,hh5,B5,L5,m5⟩
   rw[al]at hx
   obtain⟨o,ho,rfl⟩:=aW.mp hx
   have skip:(∀y,o=some y->y∈fs')->∀(i:Nat) y,i<j+1->Ld[i]?=some (some y)->y∈fs':=fun hin i y hi e=>by
    rcases aY i j with h|h
    .exact L5 i y h e
    .have:i=j:=by omega
     subst this
     rw[ho]at e
     exact hin y (Option.some.inj e)
   cases o with
   |none=>
    simp only[oV]
    symm
    exact⟨fs',wj,_,rfl,hd5,hw5,s5,hp5,R5,hh5,B5,skip (fun y z=>by cases z),m5⟩
   |some y=>
    have hey:ed M here y=true:=(hLd y).mpr (az ho)
    have hyl:=(lJ' hO hey).2
    simp only[oV]
    symm
    refine in' (o:=cp' (ks fs') (Key.inl (y:Int))) (dH'.k (k:=.inl _) hd5) ?_
    rw[if_pos rfl,n6']
    by_cases hy:y∈fs'
    .rw[decide_eq_true hy]
     symm
     exact⟨fs',wj,_,rfl,hd5,hw5,s5,hp5,R5,hh5,B5,skip (fun z e=>by cases e;exact hy),m5⟩
    .rw[decide_eq_false hy]
     have hfl:(fs'++[y]).length<=M.length:=gt' _ _ (cZ.mpr ⟨R5.nd,nd1,fun u hu v hv e=>by cases aO.mp hv;subst e;exact hy hu⟩) fun x hx=>by
      rcases am.mp hx with hx|hx
      .exact R5.lt x hx
      .cases aO.mp hx;exact hyl
     rw[aj,bD]at hfl
     symm
     refine nV' (k:=Key.inl (y:Int)) hd5 (by unfold ks;rw[ae];exact ag' ⋯) ?_
     rw[wj' hy]
     have hw6:upd H5 d (.dK (ks (fs'++[y]))) w=some (.lst (wj.map fun i:Nat=>V.int i)):=by rw[af' hwd];exact hw5
     have hd6:upd H5 d (.dK (ks (fs'++[y]))) d=some (.dK (ks (fs'++[y]))):=ab'
     have hp6:upd H5 d (.dK (ks (fs'++[y]))) pr=some (.tup (Ld.map oV)):=by rw[af' hpd];exact hp5
     have s6:aC' H (upd H5 d (.dK (ks (fs'++[y])))):=fun b u e=>by rw[af' (hbd b u e).1];exact s5 _ _ e
     generalize upd H5 d (.dK (ks (fs'++[y])))=H6 at hw6 hd6 hp6 s6 ⊢
     symm
     have hwl:=R5.wl
     refine⟨tyL hw6 rfl,cG' hw6 (by rw[ae];exact ag' ⋯) ?_⟩
     symm
     refine⟨fs'++[y],wj++[y],_,rfl,by rw[af' (Ne.symm hwd)];exact hd6,by rw[ab',aN];rfl,fun b u e=>by rw[af' (hbd b u e).2];exact s6 _ _ e,by rw[af' hpw];exact hp6,?_,hh5.imp id fun h=>aE _ h,?_,?_,?_⟩
     .refine⟨cZ.mpr ⟨R5.nd,nd1,fun u hu v hv e=>by cases aO.mp hv;subst e;exact hy hu⟩,fun x hx=>?_,fun x hx=>?_,fun x hx=>?_,by rw[aj,aj,bD];omega⟩
      .rcases am.mp hx with hx|hx
       .exact R5.lt x hx
       .cases aO.mp hx;exact hyl
      .rcases am.mp hx with hx|hx
       .exact(R5.wa x hx).imp id fun h=>aE _ h
       .exact .inr (ai _ hx)
      .rcases am.mp hx with hx|hx
       .exact R5.rc x hx
       .cases aO.mp hx
        rcases hh5 with rfl|h
        .exact dD' hey
        .exact dC' hhl (R5.rc _ h) (dD' hey)
     .intro x hx hn hne z hz
      have hn1:x∉wj:=fun h=>hn (aE _ h)
      have hn2:x≠y:=fun h=>hn (ai _ (by rw[h];exact aO.mpr rfl))
      refine aE _ (B5 x (hx.imp id fun h=>?_) hn1 hne z hz)
      rcases am.mp h with h|h
      .exact h
      .exact absurd (aO.mp h) hn2
     .intro i z hi e
      rcases aY i j with h|h
      .exact aE _ (L5 i z h e)
      .have:i=j:=by omega
       subst this
       rw[ho]at e
       have:y=z:=Option.some.inj (Option.some.inj e)
       subst this
       exact ai _ (aO.mpr rfl)
     .rw[aj,aj,bD]
      omega
  .rintro σ H5 ⟨fs',wj,x5,rfl,hd5,hw5,s5,hp5,R5,hh5,B5,L5,m5⟩
   symm
   refine⟨2*(M.length-fs'.length)+wj.length,by rw[aj,bD];omega,fs',wj,_,_,rfl,rfl,hd5,hw5,s5,R5,fun x hx hn y hy=>?_⟩
   by_cases hxe:x=here
   .subst hxe
    obtain⟨i,hi⟩:=bi ((hLd y).mp hy)
    exact L5 i y (by rw[ae];exact ak' hi) hi
   .exact B5 x hx hn hxe y hy
def iN (l:List Nat):List V:=l.map fun i:Nat=>V.int i
def n7' (H0 H:Hp) (a:Addr) (L:List (List Nat)):Prop:=∃vs,H a=some (.lst vs)/\bv' (fun v l=>∃p,v=.ref p/\H0 p=none/\p≠a/\H p=some (.lst (iN l))) vs L
theorem rP' {M:List Rm} {i:Nat}:(rgo M i).length<=i:=by
 unfold rgo
 rw[ae]
 exact aS (bE _ _) (by simp)
theorem n8' {n:Nat}:L2.rgs 0 n=iN (av n):=by
 unfold L2.rgs iN
 apply List.map_congr_left
 intro k _
 rw[Int.zero_add]
theorem lK' {l:List Nat} {i:Nat} {x:V} (h:(iN l)[i]?=some x):∃n,l[i]?=some n/\x=.int n:=by
 unfold iN at h
 rw[al]at h
 obtain⟨n,hn,rfl⟩:=aW.mp h
 exact⟨n,hn,rfl⟩
theorem eo' {n i k:Nat} (h:(av n)[i]?=some k):i<n/\k=i:=by
 have hi:i<n:=by have:=ak' h;rwa [aV]at this
 rw[bh hi]at h
 exact⟨hi,(Option.some.inj h).symm⟩
theorem n9' {f:Nat->Bool} {i:Nat}:(av (i+1)).filter f=(av i).filter f++if f i=true then[i]else[]:=by
 rw[cw,ci]
 congr 1
 cases h:f i<;>simp[h]
theorem iA' {M:List Rm} {a:Nat}:fst M a=(!(cl M a).isEmpty&&decide ((cl M a).head?=some a)):=by
 unfold fst
 cases h:cl M a with
 |nil=>simp
 |cons x r=>simp
def cS':Sp:=fun vs H Q _=>∃(a:Addr) (M:List Rm),vs=[.ref a]/\IsM H a M/\OkM M/\M.length<=120/\∀(l:Addr) H',H l=none->aC' H H'->n7' H H' l (rgo M M.length)->Q (.ref l) H'
theorem ju' {C:Rc} (hN:C.N.length=7) (hR:C.fs "reached"=some ci'):∀vs H Q E,cS' vs H Q E->tSs C dc' { nx:=fun _ H'=>Q .non H',rt:=Q } (L2.aF' C.N vs) H:=by
 intro vs H Q E h
 obtain⟨a,M,rfl,hM,hO,hl,q⟩:=h
 rw[an' hN]
 unfold dc'
 obtain⟨mv,hmv,hmr⟩:=id hM
 have hml:=hmr.len
 symm
 refine bJ' (SqT.of hmv) ?_
 rw[hml]
 symm
 refine go' fun u hu=>?_
 symm
 refine fx' ab' ⋯ ⋯ ⋯ ⋯ (aX (ag' ⋯)) fun R hR0=>?_
 rw[show((M.length:Int)-0).toNat=M.length by omega,n8']
 have s1:=(ac' hu (.rng 0 (M.length:Int))).trans (ac' hR0 (.lst (iN (av M.length))))
 have hR1:upd (upd H u (.rng 0 (M.length:Int))) R (.lst (iN (av M.length))) R=some (.lst (iN (av M.length))):=ab'
 generalize upd (upd H u (.rng 0 (M.length:Int))) R (.lst (iN (av M.length)))=H1 at s1 hR1 ⊢
 symm
 refine as' (SqL.of hR1) ?_
 refine cF' (fun i xs H2=>∃gs:List Addr,xs=gs.map V.ref/\gs.length=i/\aC' H1 H2/\∀(j:Nat) g,gs[j]?=some g->∃fs,H2 g=some (.dK (ks fs))/\∀x,x∈fs↔rch M j x=true) ⟨[],rfl,rfl,aC'.refl _,fun j g h=>by cases h⟩ (fun i xs H2 pv=>by obtain⟨_,_,_,s,_⟩:=pv;exact SqL.of (s _ _ hR1)) ?_ ?_
 .rintro i xs H2 x K hx ⟨gs,rfl,hgl,s2,hg⟩ hK
  obtain⟨n,hn,rfl⟩:=lK' hx
  obtain⟨hi,rfl⟩:=eo' hn
  symm
  refine aj' hR ?_
  symm
  refine⟨a,M,n,rfl,hM.mono (fun b xs e=>(s1.trans s2) _ _ e),hO,hl,hi,fun d fs H3 hd0 s3 hd hfs=>?_⟩
  refine⟨by rw[ae,hgl];exact ag' ⋯,hK _ _ ⟨gs++[d],by rw[aN];rfl,by rw[aj,hgl];rfl,s2.trans s3,fun j g hj=>?_⟩⟩
  by_cases hjl:j<gs.length
  .rw[br hjl]at hj
   obtain⟨fs',k1,k2⟩:=hg j g hj
   exact⟨fs',s3 _ _ k1,k2⟩
  .rw[List.getElem?_append_right ⋯]at hj
   have e:j-gs.length=0:=by
    rcases Nat.eq_zero_or_pos (j-gs.length)with h|h
    .exact h
    .rw[aZ (show[d].length<=_ from h)]at hj;cases hj
   rw[e]at hj
   cases hj
   have:j=n:=by omega
   subst this
   exact⟨fs,hd,hfs⟩
 .rintro xs H2 ⟨gs,rfl,hgl,s2,hg⟩ B hB0
  have hil:(iN (av M.length)).length=M.length:=by unfold iN;simp
  rw[hil]at hgl
  have s3:=s2.trans (ac' hB0 (.lst (gs.map V.ref)))
  have hB3:upd H2 B (.lst (gs.map V.ref)) B=some (.lst (gs.map V.ref)):=ab'
  have hg3:∀(j:Nat) g,gs[j]?=some g->∃fs,upd H2 B (.lst (gs.map V.ref)) g=some (.dK (ks fs))/\∀x,x∈fs↔rch M j x=true:=fun j g hj=>by
   obtain⟨fs,k1,k2⟩:=hg j g hj
   exact⟨fs,ac' hB0 _ _ _ k1,k2⟩
  generalize upd H2 B (.lst (gs.map V.ref))=H3 at s3 hB3 hg3 ⊢
  have s03:=s1.trans s3
  symm
  refine⟨by decide,fun T hT=>?_⟩
  have hTH:H T=none:=s03.free hT
  have hT4:upd H3 T (.lst []) T=some (.lst []):=ab'
  have hS4:∀o,aC' H3 (upd (upd H3 T (.lst [])) T o):=fun o=>by rw[dW'];exact ac' hT o
  generalize upd H3 T (.lst [])=H4 at hT4 hS4 ⊢
  have hold:∀H5,(∀o,aC' H3 (upd H5 T o))->aC' H3 H5:=fun H5 hS b u e=>by
   have hb:b≠T:=ah' e hT
   have:=hS (.lst []) b u e
   rwa [af' hb]at this
  symm
  refine as' (SqL.of (hold _ hS4 _ _ (s3 _ _ hR1))) ?_
  refine fw' (fun i σ H5=>(∃x3 x5 x6,σ=[some (.ref a),some (.ref R),some (.ref B),x3,some (.ref T),x5,x6])/\(∀o,aC' H3 (upd H5 T o))/\n7' H H5 T (rgo M i)) ⟨⟨_,_,_,rfl⟩,hS4,[],hT4,trivial⟩ (fun i σ H5 _ pv=>SqL.of (hold _ pv.2.1 _ _ (s3 _ _ hR1))) ?_ ?_
  .rintro i x σ H5 hx ⟨⟨x3,x5,x6,rfl⟩,hS5,vs,hT5,hall⟩
   obtain⟨n,hn,rfl⟩:=lK' hx
   obtain⟨hi,rfl⟩:=eo' hn
   have s5:=hold _ hS5
   symm
   refine as' (SqL.of (s5 _ _ (s3 _ _ hR1))) ?_
   refine cF' (fun k xs H6=>k<=M.length/\xs=iN ((av k).filter fun b=>rch M n b&&rch M b n)/\H6=H5) ⟨aL _,rfl,rfl⟩ (fun k xs H6 pv=>by rw[pv.2.2];exact SqL.of (s5 _ _ (s3 _ _ hR1))) ?_ ?_
   .rintro k xs H6 x K hx ⟨_,rfl,rfl⟩ hK
    obtain⟨m,hm,rfl⟩:=lK' hx
    obtain⟨hk,rfl⟩:=eo' hm
    obtain⟨g1,hg1⟩:∃g,gs[n]?=some g:=⟨_,aa ⋯⟩
    obtain⟨g2,hg2⟩:∃g,gs[m]?=some g:=⟨_,aa ⋯⟩
    obtain⟨f1,d1,e1⟩:=hg3 n g1 hg1
    obtain⟨f2,d2,e2⟩:=hg3 m g2 hg2
    have hsz:∀(f:Nat->Bool),(iN ((av m).filter f)).length<sizeLine:=fun f=>by
     unfold iN
     rw[ae]
     have:=bE f (av m)
     rw[aV]at this
     exact ag' ⋯
    have hrs:=n9' (f:=fun b=>rch M n b&&rch M b n) (i:=m)
    symm
    refine aO' (SqL.of (s5 _ _ hB3)) (v:=.ref g1) (aG' (by rw[al,hg1];rfl)) ?_
    symm
    refine in' (o:=cp' (ks f1) (Key.inl (m:Int))) (dH'.k (k:=.inl _) (s5 _ _ d1)) ?_
    rw[if_neg (by decide),n6']
    by_cases h1:rch M n m=true
    .rw[decide_eq_true ((e1 m).mpr h1)]
     symm
     refine aO' (SqL.of (s5 _ _ hB3)) (v:=.ref g2) (aG' (by rw[al,hg2];rfl)) ?_
     symm
     refine in' (o:=cp' (ks f2) (Key.inl (n:Int))) (dH'.k (k:=.inl _) (s5 _ _ d2)) ?_
     rw[if_neg (by decide),n6']
     by_cases h2:rch M m n=true
     .rw[decide_eq_true ((e2 n).mpr h2)]
      symm
      refine⟨hsz _,hK _ _ ⟨hk,?_,rfl⟩⟩
      rw[hrs,h1,h2]
      unfold iN
      simp
     .rw[decide_eq_false (fun z=>h2 ((e2 n).mp z))]
      symm
      refine hK _ _ ⟨hk,?_,rfl⟩
      rw[hrs,if_neg (by rw[af];exact fun z=>h2 z.2),cC]
    .rw[decide_eq_false (fun z=>h1 ((e1 m).mp z))]
     symm
     refine hK _ _ ⟨hk,?_,rfl⟩
     rw[hrs,if_neg (by rw[af];exact fun z=>h1 z.1),cC]
   .rintro xs H6 ⟨_,rfl,rfl⟩ p hp
    rw[hil,show((av M.length).filter fun b=>rch M n b&&rch M b n)=cl M n from rfl]
    have hpT:p≠T:=fun e=>by subst e;rw[hT5]at hp;cases hp
    have hpH:H p=none:=s03.free (s5.free hp)
    have s6:=ac' hp (.lst (iN (cl M n)))
    have hp6:upd H6 p (.lst (iN (cl M n))) p=some (.lst (iN (cl M n))):=ab'
    generalize upd H6 p (.lst (iN (cl M n)))=H7 at s6 hp6 ⊢
    have hS7:∀o,aC' H3 (upd H7 T o):=fun o b u e=>by
     rw[af' (ah' e hT)]
     exact s6 _ _ (s5 _ _ e)
    have hall7:=hall.mono (S:=fun v l=>∃p,v=.ref p/\H p=none/\p≠T/\H7 p=some (.lst (iN l))) fun v l ⟨p,e,h0,h1,h2⟩=>⟨p,e,h0,h1,s6 _ _ h2⟩
    have hT7:=s6 _ _ hT5
    symm
    refine g5' (SqL.of hp6) ?_
    have hem:(iN (cl M n)).isEmpty=(cl M n).isEmpty:=by unfold iN;rw[List.isEmpty_map]
    rw[hem]
    have hno:fst M n=false->n7' H H7 T (rgo M (n+1)):=fun hf=>by
     rw[iz',if_neg (by rw[hf];exact ay),cC]
     exact⟨vs,hT7,hall7⟩
    cases hc:cl M n with
    |nil=>
     rw[show(!([]:List Nat).isEmpty)=false from rfl]
     symm
     exact⟨⟨_,_,_,rfl⟩,hS7,hno (by rw[iA',hc];rfl)⟩
    |cons x r=>
     rw[show(!(x :: r).isEmpty)=true from rfl]
     symm
     refine aO' (SqL.of hp6) (v:=.int x) (by rw[hc];exact A7') ?_
     symm
     have hfe:fst M n=decide (x=n):=by rw[iA',hc];simp
     by_cases hxn:x=n
     .rw[decide_eq_true (show(x:Int)=(n:Int) by omega)]
      symm
      have hvl:=hall.len
      have hrl:=rP' (M:=M) (i:=n)
      refine⟨tyL hT7 rfl,cG' hT7 (ag' ⋯) ?_⟩
      symm
      refine⟨⟨_,_,_,rfl⟩,fun o=>by rw[dW'];exact hS7 o,?_⟩
      rw[iz',if_pos (by rw[hfe];exact decide_eq_true hxn)]
      refine⟨_,ab',(hall7.mono fun v l ⟨p',e,h0,h1,h2⟩=>⟨p',e,h0,h1,by rw[af' h1];exact h2⟩).snoc ⟨p,rfl,hpH,hpT,by rw[af' hpT];exact hp6⟩⟩
     .rw[decide_eq_false (show ¬(x:Int)=(n:Int) by omega)]
      symm
      exact⟨⟨_,_,_,rfl⟩,hS7,hno (by rw[hfe];exact decide_eq_false hxn)⟩
  .rintro σ H5 ⟨⟨x3,x5,x6,rfl⟩,hS5,hnew⟩
   rw[hil]at hnew
   symm
   exact q T H5 hTH (s03.trans (hold _ hS5)) hnew
def oa':Sp:=fun vs H Q _=>∃(a:Addr) (M:List Rm),vs=[.ref a]/\IsM H a M/\OkM M/\M.length<=120/\∀H',aC' H H'->Q (.bl (decide (rgo M M.length=[av M.length]))) H'
def rQ':Sp:=fun vs H Q _=>∃(a:Addr) (M:List Rm),vs=[.ref a]/\IsM H a M/\OkM M/\M.length<=120/\∀(l:Addr) H',H l=none->aC' H H'->n7' H H' l (rgo M M.length)->Q (.ref l) H'
def ob':Sp:=fun vs H Q _=>∃(b a1 a2:Addr) (n:Nat) (M1 M2:List Rm),vs=[.ref b,.ref a1,.ref a2]/\H b=some (dn' b n)/\n<=2 ^ 38/\IsM H a1 M1/\OkM M1/\IsM H a2 M2/\OkM M2/\1<=M1.length/\1<=M2.length/\M1.length<=60/\M2.length<=60/\∀(a:Addr) (M:List Rm) (H':Hp),Go 10 H H'->IsM H' a M->OkM M->M.length=M1.length+M2.length->Q (.ref a) H'
structure FsLaw (C:Rc):Prop where
 rings:C.fs "rings"=some cS'
 isring:C.fs "is_ring"=some oa'
 same:C.fs "_law_same"=some (ip' 2)
 box:C.fs "_law_box"=some (fz' C.K)
 any:C.fs "_law_any"=some fA'
 take:C.fs "_law_take"=some aw'
 beside:C.fs "_law_beside"=some ob'
 due:C.fs "_law_due"=some rQ'
end K11
namespace RW
open PySem PySem.Spec PyProof.Rows L2 R3 LW SR
def ob (f:Nat->List (List Bool)) (b:Bool):Option Nat->List (List Bool)
 |none=>[]
 |some m=>(f m).map (b :: ·)
def rV (x:List Bool):V:=.str (tx x)
def IsW (H:Hp) (v:V) (w:List Bool×Nat):Prop:=∃q,v=.ref q/\H q=some (.tup [.str (tx w.1),.int w.2])
theorem de' {H H':Hp} (s:aC' H H') {v:V} {w:List Bool×Nat} (h:IsW H v w):IsW H' v w:=by
 obtain⟨q,e,h⟩:=h
 exact⟨q,e,s _ _ h⟩
end RW
namespace K12
open PySem PySem.Spec PyProof.Rows L2 R3 LW
def bK':List Str:=["machine","room","many","walks","step","row","end","bit"]
def a7':List Str:=["int","range"]
def a8':Css:=(.cons (.asg (.name 3) (.lst (.cons (.tup (.cons (.str "") (.cons (.var 1) .nil))) .nil)))
  (.cons (.for_ (.name 4) (.range1 (.var 2)) (.cons (.asg (.name 3) (.comp (.tup (.cons (.bin .Add (.var 5) (.var 7)) (.cons (.idx (.idx (.var 0) (.var 6)) (.blt .int (.cons (.var 7) .nil))) .nil))) [5,6,7] (.tup (.cons (.name 5) (.cons (.name 6) .nil))) (.val (.var 3)) .none (.cons [7] (.name 7) (.val (.str "01")) (.some (.cmp .IsNot (.idx (.idx (.var 0) (.var 6)) (.blt .int (.cons (.var 7) .nil))) .non)) .nil)))
  .nil))
  (.cons (.ret (.var 3))
  .nil)))
def cT':List Str:=["machine","many","room"]
def b1':List Str:=["len","range"]
def b2':Css:=(.cons (.ret (.comp (.call "walks_from" (.cons (.var 0) (.cons (.var 2) (.cons (.var 1) .nil)))) [2] (.name 2) (.range1 (.blt .len (.cons (.var 0) .nil))) .none .nil))
  .nil)
open RW
def nb (M:List Rm) (w:List Bool×Nat) (b:Bool):List (List Bool×Nat):=match LW.stp M w.2 b with
 |some m=>[(w.1++[b],m)]
 |none=>[]
def nw (M:List Rm) (w:List Bool×Nat):List (List Bool×Nat):=nb M w false++nb M w true
def pk (M:List Rm) (r:Nat):Nat->List (List Bool×Nat)
 |0=>[([],r)]
 |n+1=>(pk M r n).flatMap (nw M)
theorem iB' {M:List Rm} {w:List Bool×Nat} {b:Bool}:(nb M w b).length<=1:=by
 unfold nb
 split
 .exact ah _
 .exact aL _
theorem he' {α β:Type} {f:α->List β} {k:Nat}:∀{l:List α},(∀x∈l,(f x).length<=k)->(l.flatMap f).length<=k*l.length
 | [],_=>aL _
 |x :: l,h=>by
  have h1:=h x (aw ..)
  have h2:=he' (f:=f) (k:=k) (l:=l) fun y hy=>h y (aq _ hy)
  rw[da,aj,aR,Nat.mul_succ]
  omega
theorem pk' {M:List Rm} {w:List Bool×Nat}:(nw M w).length<=2:=by
 unfold nw
 rw[aj]
 have:=iB' (M:=M) (w:=w) (b:=false)
 have:=iB' (M:=M) (w:=w) (b:=true)
 omega
theorem pl' {M:List Rm} {r:Nat}:∀n,(pk M r n).length<=2 ^ n
 |0=>ah _
 |n+1=>by
  have h1:=pl' (M:=M) (r:=r) n
  have h2:=he' (f:=nw M) (k:=2) (l:=pk M r n) fun _ _=>pk'
  rw[cT]
  show((pk M r n).flatMap (nw M)).length<=_
  omega
theorem wk' {M:List Rm} (hO:OkM M) {w x:List Bool×Nat} {b:Bool} (h:x∈nb M w b):x.2<M.length/\x.1.length=w.1.length+1:=by
 unfold nb at h
 cases hs:LW.stp M w.2 b with
 |none=>rw[hs]at h;exact absurd h aA
 |some m=>
  rw[hs]at h
  have:x=(w.1++[b],m):=by simpa using h
  subst this
  exact⟨c8' hO hs,by simp⟩
theorem wl' {M:List Rm} (hO:OkM M) {r:Nat} (hr:r<M.length):∀n,∀w∈pk M r n,w.2<M.length/\w.1.length=n
 |0,w,h=>by
  have:w=([],r):=by simpa[pk]using h
  subst this
  exact⟨hr,rfl⟩
 |n+1,w,h=>by
  obtain⟨u,hu,hw⟩:=cz.mp h
  have h1:=wl' hO hr n u hu
  rcases am.mp hw with hw|hw
  .have:=wk' hO hw;exact⟨this.1,⋯⟩
  .have:=wk' hO hw;exact⟨this.1,⋯⟩
theorem oc' {n:Nat} (h:n<=600):n<sizeLine:=ag' ⋯
def gv':Sp:=fun vs H Q _=>∃(a:Addr) (M:List Rm) (r n:Nat),vs=[.ref a,.int r,.int n]/\IsM H a M/\OkM M/\r<M.length/\n<=8/\
 ∀(e:Addr) (xs:List V) (H':Hp),H e=none->aC' H H'->H' e=some (.lst xs)->bv' (IsW H') xs (pk M r n)->Q (.ref e) H'
theorem lL' {C:Rc} (hN:C.N.length=8):∀vs H Q E,gv' vs H Q E->tSs C a8' { nx:=fun _ H'=>Q .non H',rt:=Q } (L2.aF' C.N vs) H:=by
 intro vs H Q E h
 obtain⟨a,M,r,n,rfl,hM,hO,hr,hn,q⟩:=h
 rw[an' hN]
 unfold a8'
 symm
 refine⟨by decide,fun p0 hp0=>?_⟩
 symm
 refine⟨by decide,fun d0 hd0=>?_⟩
 have s1:=ac' hp0 (.tup [.str (tx []),.int r])
 have s2:=ac' hd0 (.lst [.ref p0])
 have hp2:=s2 _ _ (ab' (H:=H) (a:=p0) (o:=.tup [.str (tx []),.int r]))
 have hd2:=ab' (H:=upd H p0 (.tup [.str (tx []),.int r])) (a:=d0) (o:=.lst [.ref p0])
 have hd0':=s1.free hd0
 have s12:=s1.trans s2
 generalize upd (upd H p0 (.tup [.str (tx []),.int r])) d0 (.lst [.ref p0])=H1 at s12 hp2 hd2 ⊢
 symm
 refine cP' ⋯ ⋯ (ef' (fun i σ H'=>aC' H H'/\∃d ws,(∃x4 x5 x6 x7,σ=[some (.ref a),some (.int r),some (.int n),some (.ref d),x4,x5,x6,x7])/\H d=none/\H' d=some (.lst ws)/\bv' (IsW H') ws (pk M r i)) ⟨s12,d0,_,⟨_,_,_,_,rfl⟩,hd0',hd2,⟨p0,rfl,hp2⟩,trivial⟩ ?_ ?_)
 .rintro i σ H4 hi ⟨s4,d,ws,⟨x4,x5,x6,x7,rfl⟩,hd,hd4,hws⟩
  have hi:i<n:=by simpa using hi
  have hlen:=pl' (M:=M) (r:=r) i
  have hp256:2 ^ i<=256:=aS (Nat.pow_le_pow_right (by decide) (show i<=8 by omega)) (by decide)
  have hwl:=hws.len
  symm
  refine as' (SqL.of hd4) (rg' (vs:=ws) (fun j xs H'=>aC' H4 H'/\bv' (IsW H') xs (((pk M r i).take j).flatMap (nw M))) ⟨aC'.refl _,trivial⟩ (fun j xs H' w=>SqL.of (w.1 _ _ hd4)) ?_ ?_)
  .rintro j xs H5 v R hv ⟨s5,hA5⟩ hR
   have hj:=ak' hv
   obtain⟨w,hwj,qv,rfl,hqv⟩:=hws.getL hv
   have hqv5:=s5 _ _ hqv
   obtain⟨ok1,ok2⟩:=wl' hO hr i w (az hwj)
   have hpre:(((pk M r i).take j).flatMap (nw M)).length<=512:=by
    have h1:=he' (f:=nw M) (k:=2) (l:=(pk M r i).take j) fun _ _=>pk'
    have h2:((pk M r i).take j).length<=(pk M r i).length:=List.length_take_le' ..
    omega
   refine dA' (SqT.of hqv5) ?_
   symm
   refine c4' (vU' (l:=[false,true]) (fun t ys H'=>aC' H4 H'/\bv' (IsW H') ys (((pk M r i).take j).flatMap (nw M)++((if 0<t then nb M w false else[])++(if 1<t then nb M w true else[])))) ⟨s5,by simpa using hA5⟩ ?_ ?_)
   .rintro t ys H6 c R2 hc ⟨s6,hA6⟩ hR2
    have htc:t=if c then 1 else 0:=by
     match t,hc with
     |0,hc=>cases hc;rfl
     |1,hc=>cases hc;rfl
     |t+2,hc=>cases hc
    have after:(((pk M r i).take j).flatMap (nw M)++((if 0<t then nb M w false else[])++(if 1<t then nb M w true else[])))++nb M w c=((pk M r i).take j).flatMap (nw M)++((if 0<t+1 then nb M w false else[])++(if 1<t+1 then nb M w true else[])):=by
     cases c with
     |false=>rw[htc];simp
     |true=>rw[htc];simp
    have hyl:ys.length<sizeLine:=by
     have h1:=hA6.len
     rw[aj,aj]at h1
     have b1:(if 0<t then nb M w false else[]).length<=1:=by
      split
      .exact iB'
      .exact aL _
     have b2:(if 1<t then nb M w true else[]).length<=1:=by
      split
      .exact iB'
      .exact aL _
     exact oc' ⋯
    have hM6:=hM.mono (ai' (s4.trans s6))
    symm
    refine cQ' (c:=c) hM6 ok1 fun pr2 hpr2=>?_
    symm
    refine hpr2 _ ?_
    symm
    cases hs:LW.stp M w.2 c with
    |none=>
     symm
     refine hR2 _ _ ⟨s6,?_⟩
     rw[<- after]
     have:nb M w c=[]:=by unfold nb;rw[hs]
     rw[this,cC]
     exact hA6
    |some m=>
     show kCT C _ _ _ _ true H6
     symm
     refine⟨show w.1.length+1<=sizeLine from aX (ag' ⋯),?_⟩
     refine cQ' (c:=c) hM6 ok1 fun pr3 hpr3=>?_
     symm
     refine hpr3 _ ?_
     symm
     refine⟨by decide,fun p7 hp7=>?_⟩
     symm
     refine⟨hyl,hR2 _ _ ⟨s6.trans (ac' hp7 _),?_⟩⟩
     rw[<- after]
     have:nb M w c=[(w.1++[c],m)]:=by unfold nb;rw[hs]
     rw[this]
     refine bv'.snoc (hA6.mono fun v w h=>de' (ac' hp7 _) h) ⟨p7,rfl,?_⟩
     rw[ab',hs]
     rfl
   .rintro ys H6 ⟨s6,hA6⟩
    refine hR _ _ ⟨s6,?_⟩
    rw[bx,hwj,List.flatMap_append]
    simpa[nw]using hA6
  .rintro xs H5 ⟨s5,hA5⟩ p5 hp5
   rw[hwl,bm]at hA5
   symm
   exact⟨s4.trans (s5.trans (ac' hp5 _)),p5,xs,⟨_,_,_,_,rfl⟩,s4.free (s5.free hp5),ab',hA5.mono fun v w h=>de' (ac' hp5 _) h⟩
 .rintro σ H4 ⟨s4,d,ws,⟨x4,x5,x6,x7,rfl⟩,hd,hd4,hws⟩
  rw[show(Int.toNat (n:Int))=n by omega]at hws
  symm
  exact q d ws H4 hd s4 hd4 hws
def PL (H0 H:Hp) (l:Addr) (L:List (List (List Bool×Nat))):Prop:=∃vs,H l=some (.lst vs)/\bv' (fun v ws=>∃e xs,v=V.ref e/\H0 e=none/\e≠l/\H e=some (.lst xs)/\bv' (IsW H) xs ws) vs L
def pkL (M:List Rm) (n k:Nat):List (List (List Bool×Nat)):=(av k).map fun r=>pk M r n
theorem od' {M:List Rm} {n k:Nat}:pkL M n (k+1)=pkL M n k++[pk M k n]:=by unfold pkL;rw[cw,aN];rfl
def jv':Sp:=fun vs H Q _=>∃(a:Addr) (M:List Rm) (n:Nat),vs=[.ref a,.int n]/\IsM H a M/\OkM M/\M.length<=100/\n<=8/\
 ∀(l:Addr) (H':Hp),H l=none->aC' H H'->PL H H' l (pkL M n M.length)->Q (.ref l) H'
theorem oe' {C:Rc} (hN:C.N.length=3) (hF:C.fs "walks_from"=some gv'):∀vs H Q E,jv' vs H Q E->tSs C b2' { nx:=fun _ H'=>Q .non H',rt:=Q } (L2.aF' C.N vs) H:=by
 intro vs H Q E h
 obtain⟨a,M,n,rfl,hM,hO,hM1,hn,q⟩:=h
 rw[an' hN]
 unfold b2'
 obtain⟨ms,hma,hmr⟩:=id hM
 have hml:=hmr.len
 symm
 refine bJ' (SqT.of hma) ?_
 rw[hml]
 refine cP' ⋯ ⋯ (il' (fun i xs H'=>aC' H H'/\bv' (fun v ws=>∃e ys,v=V.ref e/\H e=none/\H' e=some (.lst ys)/\bv' (IsW H') ys ws) xs (pkL M n i)) ⟨aC'.refl _,trivial⟩ ?_ ?_)
 .rintro i xs H1 R hi ⟨s1,hA⟩ hR
  have hi:i<M.length:=by simpa using hi
  symm
  refine aj' hF ?_
  symm
  refine⟨a,M,i,n,?_,hM.mono (ai' s1),hO,hi,hn,fun e ys H2 he s2 he2 hys=>?_⟩
  .rw[show(0:Int)+(i:Int)=(i:Int) by omega]
  symm
  refine⟨?_,hR _ _ ⟨s1.trans s2,?_⟩⟩
  .have:=hA.len
   rw[this]
   unfold pkL
   rw[ae,aV]
   exact ag' ⋯
  .rw[od']
   refine bv'.snoc (hA.mono fun v ws ⟨e',ys',h1,h2,h3,h4⟩=>⟨e',ys',h1,h2,s2 _ _ h3,h4.mono fun v w h=>de' s2 h⟩) ⟨e,ys,rfl,s1.free he,he2,hys⟩
 .rintro xs H1 ⟨s1,hA⟩ p hp
  rw[show(Int.toNat (M.length:Int))=M.length by omega]at hA
  symm
  have s2:=s1.trans (ac' hp (.lst xs))
  exact q p _ (s1.free hp) s2 ⟨xs,ab',hA.mono fun v ws ⟨e',ys',h1,h2,h3,h4⟩=>⟨e',ys',h1,h2,ah' h3 hp,ac' hp _ _ _ h3,h4.mono fun v w h=>de' (ac' hp _) h⟩⟩
def bl:Nat->List (List Bool)
 |0=>[[]]
 |n+1=>(bl n).map (·++[false])++(bl n).map (·++[true])
def ar:Nat->List (List Bool)
 |0=>[[]]
 |n+1=>(ar n).flatMap fun w=>[w++[false],w++[true]]
theorem hh':∀{n:Nat} {w:List Bool},w∈ar n->w.length=n
 |0,w,h=>by
  have:w=[]:=by simpa[ar]using h
  rw[this];rfl
 |n+1,w,h=>by
  obtain⟨u,hu,hw⟩:=cz.mp h
  have:=hh' hu
  simp at hw
  rcases hw with rfl|rfl<;>simp[this]
def zp':Sp:=fun vs H Q _=>∃(n:Nat),vs=[.int n]/\n<=8/\∀(l:Addr) (H':Hp),H l=none->aC' H H'->H' l=some (.lst ((ar n).map rV))->Q (.ref l) H'
theorem lM' {α β γ:Type} {f:α->Option β} {g:β->List γ} {h:α->List γ}:∀{l:List α},(∀a∈l,h a=match f a with|some b=>g b|none=>[])->(l.filterMap f).flatMap g=l.flatMap h
 | [],_=>rfl
 |a :: l,k=>by
  have h1:=k a (aw ..)
  have h2:=lM' (f:=f) (g:=g) (h:=h) (l:=l) fun b hb=>k b (aq _ hb)
  rw[da,h1,<- h2]
  cases hf:f a with
  |none=>rw[List.filterMap_cons_none hf];rfl
  |some b=>rw[List.filterMap_cons_some hf,da]
theorem lN' {α β:Type} {f:α->Option β} {l:List α} {a:α}:(l++[a]).filterMap f=l.filterMap f++(f a).toList:=by
 rw[List.filterMap_append]
 cases hf:f a with
 |none=>rw[List.filterMap_cons_none hf];rfl
 |some b=>rw[List.filterMap_cons_some hf];rfl
theorem wm' {M:List Rm} {r:Nat}:∀n,pk M r n=(ar n).filterMap fun w=>(wk M (some r) w).map fun m=>(w,m)
 |0=>rfl
 |n+1=>by
  show(pk M r n).flatMap (nw M)=((ar n).flatMap fun w=>[w++[false],w++[true]]).filterMap _
  rw[wm' n,List.filterMap_flatMap]
  refine lM' fun w _=>?_
  have hc:∀c,wk M (some r) (w++[c])=(wk M (some r) w).bind fun m=>LW.stp M m c:=fun c=>by
   rw[ch'];rfl
  show List.filterMap (fun w=>(wk M (some r) w).map fun m=>(w,m)) ([w++[false]]++[w++[true]])=_
  rw[lN',show[w++[false]]=[]++[w++[false]] from rfl,lN',hc,hc]
  cases hw:wk M (some r) w with
  |none=>rfl
  |some m=>
   show _=nw M (w,m)
   unfold nw nb
   cases h1:LW.stp M m false<;>cases h2:LW.stp M m true<;>simp[h1,h2]
structure FsLaw (C:Rc):Prop where
 box:C.fs "_law_box"=some (fz' C.K)
 any:C.fs "_law_any"=some fA'
 take:C.fs "_law_take"=some aw'
 same:C.fs "_law_same"=some (ip' 3)
 came:C.fs "_law_came"=some we'
 all:C.fs "_law_all_rows"=some zp'
 pow:C.fs "powered"=some jv'
end K12
namespace NR
open PySem PySem.Spec PyProof.Rows L2 R3 LW SR RW
def gtB:List Bool->List Bool->Bool
 |a :: as,b :: bs=>(a&&!b) || (a == b&&gtB as bs)
 |_ :: _,[]=>true
 | [],_=>false
theorem pm':∀{x:List Bool},gtB x x=false
 | []=>rfl
 |a :: x=>by
  show((a&&!a) || (a == a&&gtB x x))=false
  rw[pm' (x:=x)]
  cases a<;>rfl
theorem lO':∀{x y:List Bool},gtB x y=true->gtB y x=false
 | [],_,h=>by cases h
 |a :: x,[],_=>rfl
 |a :: x,b :: y,h=>by
  have h:((a&&!b) || (a == b&&gtB x y))=true:=h
  show((b&&!a) || (b == a&&gtB y x))=false
  cases a<;>cases b<;>simp at h ⊢<;>exact lO' h
def oR:Option (List Bool)->V
 |none=>.non
 |some x=>rV x
end NR
namespace NM
open PySem PySem.Spec PyProof.Rows L2 R3 LW SR RW NR
theorem wn' {M:List Rm} {o:Option Nat} {row:List Bool} {e i:Nat} (h:wk M o row=some e):∃m,wk M o (row.take i)=some m:=by
 cases q:wk M o (row.take i)with
 |none=>rw[lD' q]at h;cases h
 |some m=>exact⟨m,rfl⟩
end NM
namespace K13
open PySem PySem.Spec PyProof.Rows L2 R3 LW
def bu':List Str:=["room","other","bit"]
def a0':List Str:=["int"]
def a1':Css:=(.cons (.for_ (.name 2) (.val (.str "01")) (.cons (.ite (.cmp .NotEq (.cmp .Is (.idx (.var 0) (.blt .int (.cons (.var 2) .nil))) .non) (.cmp .Is (.idx (.var 1) (.blt .int (.cons (.var 2) .nil))) .non)) (.cons (.ret (.var 2))
  .nil) .nil)
  .nil))
  (.cons (.ret .non)
  .nil))
def eq':List Str:=["one","a","other","b","seen","layer","row","x","y","bit","wider","pair"]
def df':List Str:=["int"]
def dg':Css:=(.cons (.asg (.name 4) (.sd1 (.tup (.cons (.var 1) (.cons (.var 3) .nil)))))
  (.cons (.asg (.name 5) (.lst (.cons (.tup (.cons (.str "") (.cons (.var 1) (.cons (.var 3) .nil)))) .nil)))
  (.cons (.whl (.val (.var 5)) (.cons (.for_ (.tup (.cons (.name 6) (.cons (.name 7) (.cons (.name 8) .nil)))) (.val (.var 5)) (.cons (.asg (.name 9) (.call "parting_bit" (.cons (.idx (.var 0) (.var 7)) (.cons (.idx (.var 2) (.var 8)) .nil))))
  (.cons (.ite (.cmp .IsNot (.var 9) .non) (.cons (.ret (.bin .Add (.var 6) (.var 9)))
  .nil) .nil)
  .nil)))
  (.cons (.asg (.name 10) (.lst .nil))
  (.cons (.for_ (.tup (.cons (.name 6) (.cons (.name 7) (.cons (.name 8) .nil)))) (.val (.var 5)) (.cons (.for_ (.name 9) (.val (.str "01")) (.cons (.asg (.name 11) (.tup (.cons (.idx (.idx (.var 0) (.var 7)) (.blt .int (.cons (.var 9) .nil))) (.cons (.idx (.idx (.var 2) (.var 8)) (.blt .int (.cons (.var 9) .nil))) .nil))))
  (.cons (.ite (.and (.cmp .IsNot (.idx (.var 11) (.int 0)) .non) (.cmw .ninS (.var 11) (.var 4))) (.cons (.expr (.sad (.var 4) (.var 11)))
  (.cons (.expr (.met .append (.var 10) (.cons (.tup (.cons (.bin .Add (.var 6) (.var 9)) (.cons (.idx (.var 11) (.int 0)) (.cons (.idx (.var 11) (.int 1)) .nil)))) .nil)))
  .nil)) .nil)
  .nil)))
  .nil))
  (.cons (.asg (.name 5) (.var 10))
  .nil)))))
  (.cons (.ret .non)
  .nil))))
open NR NM RW
theorem iC':∀{x y:List Bool},x.length=y.length->gtB y x=true\/gtB x y=true\/x=y
 | [],[],_=>.inr (.inr rfl)
 | [],_ :: _,h=>by simp at h
 |_ :: _,[],h=>by simp at h
 |a :: x,b :: y,h=>by
  have h':x.length=y.length:=by simpa using h
  rcases iC' h' with g|g|g
  .cases a<;>cases b<;>simp[gtB,g]
  .cases a<;>cases b<;>simp[gtB,g]
  .subst g
   cases a<;>cases b<;>simp[gtB]
theorem iD':∀{x y:List Bool} (t u:List Bool),x.length=y.length->gtB x y=true->gtB (x++t) (y++u)=true
 | [],[],_,_,_,h=>by cases h
 | [],_ :: _,_,_,h,_=>by simp at h
 |_ :: _,[],_,_,h,_=>by simp at h
 |a :: x,b :: y,t,u,hl,h=>by
  have hl':x.length=y.length:=by simpa using hl
  simp only[gtB,bN,af,df]at h ⊢
  rcases h with h|⟨h1,h2⟩
  .exact .inl h
  .exact .inr ⟨h1,iD' t u hl' h2⟩
theorem ht':∀{x:List Bool} {t u:List Bool},gtB (x++t) (x++u)=gtB t u
 | [],_,_=>rfl
 |a :: x,t,u=>by
  show((a&&!a) || (a == a&&gtB (x++t) (x++u)))=_
  rw[ht']
  cases a<;>simp
def Lst (f g:List Bool->Bool):Option (List Bool)->Prop
 |none=>∀w,f w=g w
 |some R=>f R≠g R/\∀w,f w≠g w->R.length<w.length\/(R.length=w.length/\gtB R w=false)
theorem Lst.uniq {f g:List Bool->Bool}:∀{o p:Option (List Bool)},Lst f g o->Lst f g p->o=p
 |none,none,_,_=>rfl
 |none,some R,h,k=>absurd (h R) k.1
 |some R,none,h,k=>absurd (k R) h.1
 |some R,some S,h,k=>by
  have h1:=h.2 S k.1
  have k1:=k.2 R h.1
  have hl:R.length=S.length:=by omega
  have a1:=(h1.resolve_left ⋯).2
  have a2:=(k1.resolve_left ⋯).2
  rcases iC' hl with g|g|g
  .rw[g]at a2;cases a2
  .rw[g]at a1;cases a1
  .rw[g]
def alr:Nat->List (List Bool)
 |0=>[[]]
 |n+1=>(alr n).map (false :: ·)++(alr n).map (true :: ·)
theorem hw':∀{w:List Bool},w∈alr w.length
 | []=>by simp[alr]
 |b :: w=>by
  have:=hw' (w:=w)
  cases b
  .exact aE _ (aP.mpr ⟨w,this,rfl⟩)
  .exact ai _ (aP.mpr ⟨w,this,rfl⟩)
theorem lP':∀{n:Nat} {w:List Bool},w∈alr n->w.length=n
 |0,w,h=>by
  have:w=[]:=by simpa[alr]using h
  rw[this];rfl
 |n+1,w,h=>by
  rcases am.mp h with h|h<;>(obtain⟨v,hv,rfl⟩:=aP.mp h;rw[aR,lP' hv])
theorem lQ':∀n,(alr n).Pairwise fun x y=>gtB y x=true
 |0=>cJ _ _
 |n+1=>by
  refine bj.mpr ⟨?_,?_,fun a ha b hb=>?_⟩
  .rw[cu]
   exact(lQ' n).imp fun {x y} h=>by simp[gtB,h]
  .rw[cu]
   exact(lQ' n).imp fun {x y} h=>by simp[gtB,h]
  .obtain⟨x,_,rfl⟩:=aP.mp ha
   obtain⟨y,_,rfl⟩:=aP.mp hb
   simp[gtB]
theorem Lst.ex (f g:List Bool->Bool):∃o,Lst f g o:=by
 by_cases h:∃n,∃w:List Bool,w.length=n/\f w≠g w
 .obtain⟨n,⟨w,hw,hne⟩,hmin⟩:∃n,(∃w:List Bool,w.length=n/\f w≠g w)/\∀m,m<n->¬∃w:List Bool,w.length=m/\f w≠g w:=by
   obtain⟨n,hn⟩:=h
   induction n using Nat.strongRecOn with
   |_ n ih=>
    by_cases hm:∃m,m<n/\∃w:List Bool,w.length=m/\f w≠g w
    .obtain⟨m,hm1,hm2⟩:=hm
     exact ih m hm1 hm2
    .exact⟨n,hn,fun m hm1 hm2=>hm ⟨m,hm1,hm2⟩⟩
  subst hw
  cases hf:(alr w.length).find? (fun v=>decide (f v≠g v))with
  |none=>exact absurd (List.find?_eq_none.mp hf w hw') (by simpa using hne)
  |some R=>
   obtain⟨hR,as,bs,e,hall⟩:=List.find?_eq_some_iff_append.mp hf
   have hRl:R.length=w.length:=lP' (by rw[e];simp)
   refine⟨some R,by simpa using hR,fun v hv=>?_⟩
   rcases cY v.length w.length with z|z|z
   .exact absurd ⟨v,rfl,hv⟩ (hmin _ z)
   .right
    refine⟨⋯,?_⟩
    have hm:v∈as++R :: bs:=by rw[<- e,<- z];exact hw'
    have up:=lQ' w.length
    rw[e]at up
    rcases am.mp hm with hm|hm
    .have:=hall v hm
     simp at this
     exact absurd this hv
    .rcases au.mp hm with rfl|hm
     .exact pm'
     .exact lO' ((List.pairwise_cons.mp (bj.mp up).2.1).1 v hm)
   .left;omega
 .exact⟨none,fun w=>by
   cases e:decide (f w=g w)with
   |true=>exact of_decide_eq_true e
   |false=>exact absurd ⟨w.length,w,rfl,of_decide_eq_false e⟩ h⟩
def wl (M:List Rm) (a:Nat) (w:List Bool):Bool:=(wk M (some a) w).isSome
def At (M N:List Rm) (a b:Nat) (w:List Bool) (x y:Nat):Prop:=wk M (some a) w=some x/\wk N (some b) w=some y
theorem e4' {M:List Rm} {a x:Nat} {w t:List Bool} (h:wk M (some a) w=some x):wl M a (w++t)=wl M x t:=by unfold wl;rw[ch',h]
theorem bC' {M:List Rm} {x:Nat} {c:Bool} {t:List Bool}:wl M x (c :: t)=match LW.stp M x c with|some m=>wl M m t|none=>false:=by
 show(wk M (LW.stp M x c) t).isSome=_
 cases LW.stp M x c with
 |none=>rw[dv'];rfl
 |some m=>rfl
theorem pn' {M:List Rm} {a:Nat} {w:List Bool} {k:Nat} (h:wl M a w=true):∃x,wk M (some a) (w.take k)=some x:=by
 unfold wl at h
 obtain⟨e,he⟩:=cf.mp h
 exact wn' he
theorem Lst.pre {M N:List Rm} {a b:Nat} {R:List Bool} (h:Lst (wl M a) (wl N b) (some R)) {k:Nat} (hk:k<R.length):∃x y,At M N a b (R.take k) x y:=by
 have eq:wl M a (R.take k)=wl N b (R.take k):=by
  cases e:decide (wl M a (R.take k)=wl N b (R.take k))with
  |true=>exact of_decide_eq_true e
  |false=>
   have:=h.2 _ (of_decide_eq_false e)
   rw[aQ]at this
   omega
 have one:∃x,wk M (some a) (R.take k)=some x\/wk N (some b) (R.take k)=some x:=by
  cases e1:wl M a R with
  |true=>obtain⟨x,hx⟩:=pn' (k:=k) e1;exact⟨x,.inl hx⟩
  |false=>
   cases e2:wl N b R with
   |true=>obtain⟨x,hx⟩:=pn' (k:=k) e2;exact⟨x,.inr hx⟩
   |false=>exact absurd (e1.trans e2.symm) h.1
 obtain⟨x,hx|hx⟩:=one
 .have:wl N b (R.take k)=true:=by rw[<- eq];unfold wl;rw[hx];rfl
  obtain⟨y,hy⟩:=cf.mp this
  exact⟨x,y,hx,hy⟩
 .have:wl M a (R.take k)=true:=by rw[eq];unfold wl;rw[hx];rfl
  obtain⟨y,hy⟩:=cf.mp this
  exact⟨y,x,hy,hx⟩
def pb (u v:Rm):Option Bool:=if u.1.isNone≠v.1.isNone then some false else if u.2.isNone≠v.2.isNone then some true else none
def led (u:Rm) (c:Bool):Option Nat:=if c then u.2 else u.1
set_option tactic.hygienic true in
theorem lR' {u v:Rm} {c:Bool} (h:pb u v=some c):(led u c).isNone≠(led v c).isNone/\(c=true->u.1.isNone=v.1.isNone):=by
 unfold pb at h
 split at h
 .rename_i h1
  cases h
  exact⟨h1,fun z=>by cases z⟩
 .rename_i h0
  split at h
  .rename_i h1
   cases h
   exact⟨h1,fun _=>by simpa using h0⟩
  .cases h
set_option tactic.hygienic true in
theorem hA' {u v:Rm} (h:pb u v=none) (c:Bool):(led u c).isNone=(led v c).isNone:=by
 unfold pb at h
 split at h
 .cases h
 .rename_i h0
  split at h
  .cases h
  .rename_i h1
   cases c
   .simpa[led]using h0
   .simpa[led]using h1
def dr (M:List Rm) (x:Nat):Rm:=M.getD x (none,none)
theorem a3' {M:List Rm} {x:Nat} {c:Bool}:LW.stp M x c=led (dr M x) c:=by
 unfold LW.stp dr led
 rw[aF]
 cases M[x]? with
 |none=>cases c<;>rfl
 |some u=>cases c<;>rfl
theorem dh' {M N:List Rm} {a b x y:Nat} {w:List Bool} {c:Bool} (h:At M N a b w x y):wl M a (w++[c])≠wl N b (w++[c])↔(led (dr M x) c).isNone≠(led (dr N y) c).isNone:=by
 rw[e4' h.1,e4' h.2,bC',bC',a3',a3']
 cases led (dr M x) c<;>cases led (dr N y) c<;>simp[wl,wk]
abbrev En:=List Bool×Nat×Nat
structure Lay (M N:List Rm) (a b k:Nat) (L:List En) (S:List (Nat×Nat)):Prop where
 at_:∀e∈L,e.1.length=k/\At M N a b e.1 e.2.1 e.2.2
 up:L.Pairwise fun e d=>gtB d.1 e.1=true
 seen:∀p∈S,∃v,v.length<=k/\At M N a b v p.1 p.2
 low:∀R,Lst (wl M a) (wl N b) (some R)->k<R.length/\∃x y,(R.take k,x,y)∈L
theorem zq' {M N:List Rm} {a b:Nat}:Lay M N a b 0 [([],a,b)] [(a,b)]:=by
 refine⟨fun e he=>?_,cJ _ _,fun p hp=>?_,fun R hR=>?_⟩
 .have:e=([],a,b):=by simpa using he
  subst this
  exact⟨rfl,rfl,rfl⟩
 .have:p=(a,b):=by simpa using hp
  subst this
  exact⟨[],ah _,rfl,rfl⟩
 .cases R with
  |nil=>exact absurd rfl hR.1
  |cons c R=>exact⟨Nat.succ_pos _,a,b,by simp⟩
theorem lS' {M N:List Rm} {a b k:Nat} {L:List En} {S:List (Nat×Nat)} (h:Lay M N a b k L S) {i:Nat} {e:En} {c:Bool} (hi:L[i]?=some e) (hc:pb (dr M e.2.1) (dr N e.2.2)=some c) (hno:∀j d,j<i->L[j]?=some d->pb (dr M d.2.1) (dr N d.2.2)=none):Lst (wl M a) (wl N b) (some (e.1++[c])):=by
 obtain⟨o,ho⟩:=Lst.ex (wl M a) (wl N b)
 have hem:=az hi
 obtain⟨hel,hat⟩:=h.at_ e hem
 have hne:=(dh' hat).mpr (lR' hc).1
 cases o with
 |none=>exact absurd (ho _) hne
 |some R=>
  obtain⟨hk,x,y,hm⟩:=h.low R ho
  have h1:=ho.2 _ hne
  rw[aj,hel,bD]at h1
  have hRl:R.length=k+1:=by omega
  have h2:=(h1.resolve_left ⋯).2
  obtain⟨d,hd⟩:∃d,R=R.take k++[d]:=by
   have:=aM k R
   cases e0:R.drop k with
   |nil=>have:=congrArg dh e0;simp at this;omega
   |cons d r=>
    have hr:r=[]:=by
     have:=congrArg dh e0
     simp at this
     exact cj ⋯
    subst hr
    rw[e0]at this
    exact⟨d,this.symm⟩
  generalize R.take k=u at hd hm
  subst hd
  obtain⟨j,hj⟩:=bi hm
  obtain⟨hul,hua⟩:=h.at_ _ hm
  have hpu:=(dh' (c:=d) hua).mp ho.1
  have hji:¬j<i:=fun z=>hpu (hA' (hno j _ z hj) d)
  have hle:u=e.1:=by
   rcases aY i j with z|z
   .have up:=bv.mp h.up
    obtain⟨a1,b1⟩:=aB.mp hi
    obtain⟨a2,b2⟩:=aB.mp hj
    have:=up i j a1 a2 z
    rw[b1,b2]at this
    rw[iD' [d] [c] (hul.trans hel.symm) this]at h2
    cases h2
   .have:i=j:=by omega
    subst this
    rw[hi]at hj
    cases hj
    rfl
  subst hle
  have hxy:x=e.2.1/\y=e.2.2:=by
   have e1:=hua.1.symm.trans hat.1
   have e2:=hua.2.symm.trans hat.2
   exact⟨Option.some.inj e1,Option.some.inj e2⟩
  rw[ht']at h2
  have:d=c:=by
   cases d<;>cases c
   .rfl
   .exact absurd ((lR' hc).2 rfl) (by rw[<- hxy.1,<- hxy.2];exact hpu)
   .cases h2
   .rfl
  subst this
  exact ho
def two (e:En):List (En×Bool):=[(e,false),(e,true)]
def row (q:En×Bool):List Bool:=q.1.1++[q.2]
structure Stp (M N:List Rm) (a b k:Nat) (pre:List (En×Bool)) (W:List En) (S:List (Nat×Nat)):Prop where
 at_:∀e∈W,e.1.length=k+1/\At M N a b e.1 e.2.1 e.2.2
 up:W.Pairwise fun e d=>gtB d.1 e.1=true
 of:∀e∈W,∃q∈pre,e.1=row q
 seen:∀p∈S,(∃v,v.length<=k/\At M N a b v p.1 p.2)\/∃q∈pre,At M N a b (row q) p.1 p.2
 low:∀R,Lst (wl M a) (wl N b) (some R)->(∃q∈pre,R.take (k+1)=row q)->∃x y,(R.take (k+1),x,y)∈W
theorem zr' {M N:List Rm} {a b k:Nat} {L:List En} {S:List (Nat×Nat)} (h:Lay M N a b k L S):Stp M N a b k [] [] S:=
 ⟨fun e he=>absurd he aA,.nil,fun e he=>absurd he aA,fun p hp=>.inl (h.seen p hp),fun R _ ⟨q,hq,_⟩=>absurd hq aA⟩
structure Pos (M N:List Rm) (a b k:Nat) (pre:List (En×Bool)) (q:En×Bool):Prop where
 len:q.1.1.length=k
 at_:At M N a b q.1.1 q.1.2.1 q.1.2.2
 no:pb (dr M q.1.2.1) (dr N q.1.2.2)=none
 up:∀r∈pre,(row r).length=k+1/\gtB (row q) (row r)=true
 far:∀R,Lst (wl M a) (wl N b) (some R)->k+1<R.length
theorem of' {M N:List Rm} {a b k:Nat} {pre:List (En×Bool)} {q:En×Bool} {W:List En} {S:List (Nat×Nat)} (h:Stp M N a b k pre W S) (p:Pos M N a b k pre q) (hn:led (dr M q.1.2.1) q.2=none):Stp M N a b k (pre++[q]) W S:=by
 refine⟨h.at_,h.up,fun e he=>let⟨r,hr,e1⟩:=h.of e he;⟨r,aE _ hr,e1⟩,fun s hs=>?_,fun R hR hq=>?_⟩
 .rcases h.seen s hs with z|⟨r,hr,z⟩
  .exact .inl z
  .exact .inr ⟨r,aE _ hr,z⟩
 .obtain⟨r,hr,e1⟩:=hq
  rcases am.mp hr with hr|hr
  .exact h.low R hR ⟨r,hr,e1⟩
  .exfalso
   have:r=q:=by simpa using hr
   subst this
   obtain⟨x,y,hx,_⟩:=hR.pre (p.far R hR)
   rw[e1]at hx
   unfold row at hx
   rw[ch',p.at_.1]at hx
   have hx':LW.stp M r.1.2.1 r.2=some x:=hx
   rw[a3',hn]at hx'
   cases hx'
theorem rR' {M N:List Rm} {a b k x y:Nat} {pre:List (En×Bool)} {q:En×Bool} {W:List En} {S:List (Nat×Nat)} (h:Stp M N a b k pre W S) (p:Pos M N a b k pre q) (hx:led (dr M q.1.2.1) q.2=some x) (hy:led (dr N q.1.2.2) q.2=some y) (hs:(x,y)∈S):Stp M N a b k (pre++[q]) W S:=by
 refine⟨h.at_,h.up,fun e he=>let⟨r,hr,e1⟩:=h.of e he;⟨r,aE _ hr,e1⟩,fun s hs=>?_,fun R hR hq=>?_⟩
 .rcases h.seen s hs with z|⟨r,hr,z⟩
  .exact .inl z
  .exact .inr ⟨r,aE _ hr,z⟩
 .obtain⟨r,hr,e1⟩:=hq
  rcases am.mp hr with hr|hr
  .exact h.low R hR ⟨r,hr,e1⟩
  .exfalso
   have:r=q:=by simpa using hr
   subst this
   have hat:At M N a b (row r) x y:=by
    unfold row At
    rw[ch',ch',p.at_.1,p.at_.2]
    exact⟨(a3' (M:=M)).trans hx,(a3' (M:=N)).trans hy⟩
   have hRe:R=row r++R.drop (k+1):=by rw[<- e1,aM]
   have hrl:(row r).length=k+1:=by unfold row;rw[aj,p.len];rfl
   generalize R.drop (k+1)=t at hRe
   have hdist:=hR.1
   rw[hRe,e4' hat.1,e4' hat.2]at hdist
   have key:∀v,At M N a b v x y->R.length<=v.length+t.length/\(v.length=k+1->gtB R (v++t)=false):=fun v hv=>by
    have hd:wl M a (v++t)≠wl N b (v++t):=by rw[e4' hv.1,e4' hv.2];exact hdist
    have h1:=hR.2 _ hd
    rw[aj]at h1
    refine⟨⋯,fun hv2=>?_⟩
    have hl:R.length=k+1+t.length:=by rw[hRe,aj,hrl]
    exact(h1.resolve_left ⋯).2
   have hl:R.length=k+1+t.length:=by rw[hRe,aj,hrl]
   rcases h.seen _ hs with⟨v,hv1,hv2⟩|⟨s,hs1,hs2⟩
   .have:=(key v hv2).1
    omega
   .obtain⟨u1,u2⟩:=p.up s hs1
    have:=(key _ hs2).2 u1
    rw[hRe,iD' t t (hrl.trans u1.symm) u2]at this
    cases this
theorem rS' {M N:List Rm} {a b k x y:Nat} {pre:List (En×Bool)} {q:En×Bool} {W:List En} {S:List (Nat×Nat)} (h:Stp M N a b k pre W S) (p:Pos M N a b k pre q) (hx:led (dr M q.1.2.1) q.2=some x) (hy:led (dr N q.1.2.2) q.2=some y):Stp M N a b k (pre++[q]) (W++[(row q,x,y)]) (S++[(x,y)]):=by
 have hat:At M N a b (row q) x y:=by
  unfold row At
  rw[ch',ch',p.at_.1,p.at_.2]
  exact⟨(a3' (M:=M)).trans hx,(a3' (M:=N)).trans hy⟩
 have hrl:(row q).length=k+1:=by unfold row;rw[aj,p.len];rfl
 refine⟨fun e he=>?_,?_,fun e he=>?_,fun s hs=>?_,fun R hR hq=>?_⟩
 .rcases am.mp he with he|he
  .exact h.at_ e he
  .have:e=(row q,x,y):=by simpa using he
   subst this
   exact⟨hrl,hat⟩
 .refine bj.mpr ⟨h.up,cJ _ _,fun e he d hd=>?_⟩
  have:d=(row q,x,y):=by simpa using hd
  subst this
  obtain⟨r,hr,e1⟩:=h.of e he
  rw[e1]
  exact(p.up r hr).2
 .rcases am.mp he with he|he
  .obtain⟨r,hr,e1⟩:=h.of e he
   exact⟨r,aE _ hr,e1⟩
  .have:e=(row q,x,y):=by simpa using he
   subst this
   exact⟨q,by simp,rfl⟩
 .rcases am.mp hs with hs|hs
  .rcases h.seen s hs with z|⟨r,hr,z⟩
   .exact .inl z
   .exact .inr ⟨r,aE _ hr,z⟩
  .have:s=(x,y):=by simpa using hs
   subst this
   exact .inr ⟨q,by simp,hat⟩
 .obtain⟨r,hr,e1⟩:=hq
  rcases am.mp hr with hr|hr
  .obtain⟨x',y',hm⟩:=h.low R hR ⟨r,hr,e1⟩
   exact⟨x',y',aE _ hm⟩
  .have:r=q:=by simpa using hr
   subst this
   exact⟨x,y,ai _ (by rw[e1];simp)⟩
theorem lT' {M N:List Rm} {a b k:Nat} {L:List En} {S:List (Nat×Nat)} (h:Lay M N a b k L S) (hno:∀e∈L,pb (dr M e.2.1) (dr N e.2.2)=none) {R:List Bool} (hR:Lst (wl M a) (wl N b) (some R)):k+1<R.length:=by
 obtain⟨hk,x,y,hm⟩:=h.low R hR
 rcases aY (k+1) R.length with z|z
 .exact z
 .exfalso
  have hRl:R.length=k+1:=by omega
  obtain⟨_,hat⟩:=h.at_ _ hm
  obtain⟨d,hd⟩:∃d,R=R.take k++[d]:=by
   have:=aM k R
   cases e0:R.drop k with
   |nil=>have:=congrArg dh e0;simp at this;omega
   |cons d r=>
    have hr:r=[]:=by
     have:=congrArg dh e0
     simp at this
     exact cj ⋯
    subst hr
    rw[e0]at this
    exact⟨d,this.symm⟩
  have h1:=hR.1
  rw[hd]at h1
  exact(dh' hat).mp h1 (hA' (hno _ hm) d)
theorem rT' {L:List En} {k:Nat} (hl:∀e∈L,e.1.length=k) (hu:L.Pairwise fun e d=>gtB d.1 e.1=true):(L.flatMap two).Pairwise fun q r=>gtB (row r) (row q)=true:=by
 induction L with
 |nil=>exact .nil
 |cons e L ih=>
  obtain⟨h1,h2⟩:=List.pairwise_cons.mp hu
  rw[da]
  refine bj.mpr ⟨?_,ih (fun d hd=>hl d (aq _ hd)) h2,fun q hq r hr=>?_⟩
  .refine List.pairwise_cons.mpr ⟨fun r hr=>?_,cJ _ _⟩
   have:r=(e,true):=by simpa[two]using hr
   subst this
   show gtB (e.1++[true]) (e.1++[false])=true
   rw[ht']
   rfl
  .obtain⟨d,hd,hr⟩:=cz.mp hr
   have hq1:q.1=e:=by
    have:q=(e,false)\/q=(e,true):=by simpa[two]using hq
    rcases this with rfl|rfl<;>rfl
   have hr1:r.1=d:=by
    have:r=(d,false)\/r=(d,true):=by simpa[two]using hr
    rcases this with rfl|rfl<;>rfl
   unfold row
   rw[hq1,hr1]
   exact iD' _ _ ((hl d (aq _ hd)).trans (hl e aw).symm) (h1 d hd)
theorem wo' {M N:List Rm} {a b k:Nat} {L W:List En} {S S':List (Nat×Nat)} (h:Lay M N a b k L S) (hno:∀e∈L,pb (dr M e.2.1) (dr N e.2.2)=none) (s:Stp M N a b k (L.flatMap two) W S'):Lay M N a b (k+1) W S':=by
 refine⟨s.at_,s.up,fun p hp=>?_,fun R hR=>?_⟩
 .rcases s.seen p hp with⟨v,h1,h2⟩|⟨q,hq,h2⟩
  .exact⟨v,Nat.le_succ_of_le h1,h2⟩
  .obtain⟨e,he,hq⟩:=cz.mp hq
   refine⟨row q,?_,h2⟩
   have hq1:q.1=e:=by
    have:q=(e,false)\/q=(e,true):=by simpa[two]using hq
    rcases this with rfl|rfl<;>rfl
   unfold row
   rw[hq1,aj,(h.at_ e he).1]
   exact ah _
 .have hf:=lT' h hno hR
  refine⟨hf,?_⟩
  obtain⟨hk,x,y,hm⟩:=h.low R hR
  refine s.low R hR ?_
  have e1:R.take (k+1)=R.take k++[R[k]]:=by rw[bx,aa hk];rfl
  refine⟨((R.take k,x,y),R[k]),cz.mpr ⟨_,hm,?_⟩,e1⟩
  cases R[k]<;>simp[two]
theorem rU' {M N:List Rm} {a b k:Nat} {S:List (Nat×Nat)} (h:Lay M N a b k [] S):Lst (wl M a) (wl N b) none:=by
 obtain⟨o,ho⟩:=Lst.ex (wl M a) (wl N b)
 cases o with
 |none=>exact ho
 |some R=>
  obtain⟨_,x,y,hm⟩:=h.low R ho
  cases hm
def pV:Option Bool->V
 |none=>.non
 |some c=>.str (tx [c])
def wp':Sp:=fun vs H Q _=>∃(p q:Addr) (u v:Rm),vs=[.ref p,.ref q]/\H p=some (.tup [oV u.1,oV u.2])/\H q=some (.tup [oV v.1,oV v.2])/\Q (pV (pb u v)) H
theorem rV' {C:Rc} (hN:C.N.length=3):∀vs H Q E,wp' vs H Q E->tSs C a1' { nx:=fun _ H'=>Q .non H',rt:=Q } (L2.aF' C.N vs) H:=by
 intro vs H Q E h
 obtain⟨p,q',⟨u1,u2⟩,⟨v1,v2⟩,rfl,hp,hq,q⟩:=h
 rw[an' hN]
 unfold a1'
 symm
 refine c4' (lh' (l:=[false,true]) (fun i σ H'=>(∃x2,σ=[some (.ref p),some (.ref q'),x2])/\H'=H/\(1<=i->u1.isNone=v1.isNone)/\(2<=i->u2.isNone=v2.isNone)) ⟨⟨_,rfl⟩,rfl,fun z=>absurd z (by decide),fun z=>absurd z (by decide)⟩ ?_ ?_)
 .rintro i c σ H' hc ⟨⟨x2,rfl⟩,rfl,h1,h2⟩
  match i,hc with
  |0,hc=>
   cases hc
   symm
   refine eh' (k:=false) (SqT.of hp) ?_
   cases u1<;>cases v1<;>(simp only[oV,bJ,if_false];symm;refine eh' (k:=false) (SqT.of hq) ?_;simp only[oV,bJ,if_false];symm)
   .exact⟨⟨_,rfl⟩,trivial,fun _=>(by first|rfl|trivial),fun z=>absurd z (by decide)⟩
   .rw[show(true != false)=true from rfl]
    symm
    exact q
   .rw[show(false != true)=true from rfl]
    symm
    exact q
   .exact⟨⟨_,rfl⟩,trivial,fun _=>(by first|rfl|trivial),fun z=>absurd z (by decide)⟩
  |1,hc=>
   cases hc
   have h1:=h1 (by decide)
   symm
   refine eh' (k:=true) (SqT.of hp) ?_
   have e:pb (u1,u2) (v1,v2)=if u2.isNone≠v2.isNone then some true else none:=by unfold pb;rw[if_neg (by simpa using h1)]
   rw[e]at q
   cases u2<;>cases v2<;>(simp only[oV,if_true];symm;refine eh' (k:=true) (SqT.of hq) ?_;simp only[oV,if_true];symm)
   .exact⟨⟨_,rfl⟩,trivial,fun _=>h1,fun _=>(by first|rfl|trivial)⟩
   .rw[show(true != false)=true from rfl]
    symm
    exact q
   .rw[show(false != true)=true from rfl]
    symm
    exact q
   .exact⟨⟨_,rfl⟩,trivial,fun _=>h1,fun _=>(by first|rfl|trivial)⟩
  |i+2,hc=>cases hc
 .rintro σ H' ⟨⟨x2,rfl⟩,rfl,h1,h2⟩
  have e:pb (u1,u2) (v1,v2)=none:=by unfold pb;rw[if_neg (by simpa using h1 (by decide)),if_neg (by simpa using h2 (by decide))]
  rw[e]at q
  symm
  exact q
theorem gt':∀(n:Nat) (l:List Nat),l.Nodup->(∀x∈l,x<n)->l.length<=n
 |0,l,_,h=>by
  cases l with
  |nil=>exact ah _
  |cons a r=>exact absurd (h a aw) ⋯
 |n+1,l,hn,h=>by
  have h1:=gt' n (l.erase n) (hn.erase n) fun x hx=>by
   have h2:=h x (List.mem_of_mem_erase hx)
   have h3:x≠n:=fun e=>by subst e;exact hn.not_mem_erase hx
   omega
  have h2:=List.length_erase_le (a:=n) (l:=l)
  have h3:l.length<=(l.erase n).length+1:=by
   rw[List.length_erase];split<;>omega
  omega
theorem lU' {S:List (Nat×Nat)} (hn:S.Nodup) (h:∀p∈S,p.1<60/\p.2<60):S.length<=3600:=by
 have h1:(S.map fun p=>p.1*60+p.2).Nodup:=by
  rw[List.Nodup,cu]
  refine List.Pairwise.imp_of_mem (fun {x y} hx hy hne e=>hne ?_) hn
  have h1:=h x hx
  have h2:=h y hy
  have e:x.1*60+x.2=y.1*60+y.2:=e
  exact Prod.ext ⋯ ⋯
 have:=gt' 3600 _ h1 fun z hz=>by
  obtain⟨p,hp,rfl⟩:=aP.mp hz
  have:=h p hp
  omega
 rwa [ae]at this
def kI2 (p:Nat×Nat):List Int:=[(p.1:Int),(p.2:Int)]
theorem lV' {S:List (Nat×Nat)} {x y:Nat}:[(x:Int),(y:Int)]∈S.map kI2↔(x,y)∈S:=by
 constructor
 .intro h
  obtain⟨p,hp,e⟩:=aP.mp h
  unfold kI2 at e
  injection e with e1 e2
  injection e2 with e2 _
  have:p=(x,y):=Prod.ext (by exact_mod_cast e1) (by exact_mod_cast e2)
  rwa [this]at hp
 .intro h
  exact aP.mpr ⟨(x,y),h,rfl⟩
def IsT (H:Hp) (v:V) (e:En):Prop:=∃q,v=.ref q/\H q=some (.tup [.str (tx e.1),.int e.2.1,.int e.2.2])
theorem IsT.mono {H H':Hp} {v:V} {e:En} (t:Tp H H') (h:IsT H v e):IsT H' v e:=let⟨q,e1,hq⟩:=h;⟨q,e1,t _ _ hq⟩
theorem iE' {H H':Hp} {L:List (List Int×Addr)} (t:Tp H H') (h:Trk H L):Trk H' L:=fun q hq=>t _ _ (h q hq)
theorem lW' {K:W.Frag} {H:Hp} {Q:VK} {a:Addr} {M:List Rm} {x:Nat} (hM:IsM H a M) (hx:x<M.length) (q:∀p,H p=some (.tup [oV (dr M x).1,oV (dr M x).2])->Q (.ref p) H):gC' K (.ref a) (.int x) H Q\/gJ' K (.ref a) (.int x) H Q:=by
 obtain⟨vs,ha,hv⟩:=hM
 obtain⟨p,hp,hpt⟩:=hv.get (aa hx)
 refine bh' (SqT.of ha) (v:=.ref p) (aG' hp) (q p ?_)
 have e:dr M x=M[x]:=by unfold dr;rw[aF,aa hx];rfl
 rw[e]
 exact hpt
theorem et' {n:Nat} (h:n<=4000):n<sizeLine:=bA h (by decide)
theorem po' {H:Hp} {D:Addr} {o:HO} (hD:∀xs,H D≠some (.tup xs)):Tp H (upd H D o):=fun b xs h=>by
 rw[af' (fun z=>by rw[z]at h;exact hD xs h)]
 exact h
theorem cy' {H H1 H2:Hp} (a:Tp H H1) (b:Tp H1 H2):Tp H H2:=fun c xs h=>b c xs (a c xs h)
structure Sd (H0 H:Hp) (D:Addr) (m n:Nat) (S:List (Nat×Nat)) (Ls:List (List Int×Addr)):Prop where
 s:aC' H0 H
 d0:H0 D=none
 d:H D=some (cD' D Ls)
 t:Trk H Ls
 e:Ls.map (·.1)=S.map kI2
 nd:S.Nodup
 lt:∀p∈S,p.1<m/\p.2<n
theorem Sd.mono {H0 H H':Hp} {D:Addr} {m n:Nat} {S:List (Nat×Nat)} {Ls:List (List Int×Addr)} (h:Sd H0 H D m n S Ls) (s:aC' H H'):Sd H0 H' D m n S Ls:=⟨h.s.trans s,h.d0,s _ _ h.d,iE' (ai' s) h.t,h.e,h.nd,h.lt⟩
theorem Sd.len {H0 H:Hp} {D:Addr} {m n:Nat} {S:List (Nat×Nat)} {Ls:List (List Int×Addr)} (h:Sd H0 H D m n S Ls) (hm:m<=60) (hn:n<=60):S.length<=3600/\Ls.length=S.length:=by
 refine⟨lU' h.nd fun p hp=>?_,?_⟩
 .have:=h.lt p hp
  omega
 .have:=congrArg dh h.e
  rwa [ae,ae]at this
def sG':Sp:=fun vs H Q _=>∃(o p:Addr) (M N:List Rm) (a b:Nat),vs=[.ref o,.int a,.ref p,.int b]/\IsM H o M/\OkM M/\IsM H p N/\OkM N/\M.length<=60/\N.length<=60/\a<M.length/\b<N.length/\∀(r:Option (List Bool)) (H':Hp),Lst (wl M a) (wl N b) r->aC' H H'->Q (oR r) H'
theorem rW' {C:Rc} (hN:C.N.length=12) (hPB:C.fs "parting_bit"=some wp'):∀vs H Q E,sG' vs H Q E->tSs C dg' { nx:=fun _ H'=>Q .non H',rt:=Q } (L2.aF' C.N vs) H:=by
 intro vs H Q E h
 obtain⟨o,p,M,N,a,b,rfl,hM,hO,hN',hO',hM6,hN6,ha,hb,q⟩:=h
 rw[an' hN]
 unfold dg'
 symm
 refine⟨by decide,fun p1 hp1=>?_⟩
 obtain⟨s1,h1⟩:=snw hp1 (.tup [V.int a,V.int b])
 generalize upd H p1 _=H1 at s1 h1 ⊢
 refine v7' (k:=[(a:Int),(b:Int)]) h1 fun D hD=>?_
 have s2:=ac' hD (cD' D [([(a:Int),(b:Int)],p1)])
 have h2:upd H1 D (cD' D [([(a:Int),(b:Int)],p1)]) D=some (cD' D [([(a:Int),(b:Int)],p1)]):=ab'
 generalize upd H1 D (cD' D [([(a:Int),(b:Int)],p1)])=H2 at s2 h2 ⊢
 symm
 refine⟨by decide,fun p3 hp3=>?_⟩
 obtain⟨s3,h3⟩:=snw hp3 (.tup [V.str (tx []),V.int a,V.int b])
 generalize upd H2 p3 _=H3 at s3 h3 ⊢
 symm
 refine⟨by decide,fun A hA=>?_⟩
 obtain⟨s4,h4⟩:=snw hA (.lst [V.ref p3])
 generalize upd H3 A _=H4 at s4 h4 ⊢
 have hD0:H D=none:=s1.free hD
 have sd0:Sd H H4 D M.length N.length [(a,b)] [([(a:Int),(b:Int)],p1)]:=⟨s1.trans (s2.trans (s3.trans s4)),hD0,s4 _ _ (s3 _ _ h2),fun z hz=>by
  have:z=([(a:Int),(b:Int)],p1):=by simpa using hz
  subst this
  exact s4 _ _ (s3 _ _ (s2 _ _ h1)),rfl,by simp,fun z hz=>by
  have:z=(a,b):=by simpa using hz
  subst this
  exact⟨ha,hb⟩⟩
 symm
 refine ii' (fun m σ H'=>∃(k:Nat) (L:List En) (S:List (Nat×Nat)) (Ls:List (List Int×Addr)) (A:Addr) (vs:List V) (x6 x7 x8 x9 x10 x11:Option V),σ=[some (.ref o),some (.int a),some (.ref p),some (.int b),some (.ref D),some (.ref A),x6,x7,x8,x9,x10,x11]/\Sd H H' D M.length N.length S Ls/\H' A=some (.lst vs)/\bv' (IsT H') vs L/\Lay M N a b k L S/\L.length<=7200/\k+(if L=[]then 0 else 1)<=S.length/\m=2*(3600-S.length)+(if L=[]then 0 else 1)) _ ⟨0,[([],a,b)],[(a,b)],_,A,_,_,_,_,_,_,_,rfl,sd0,h4,⟨⟨p3,rfl,s4 _ _ h3⟩,trivial⟩,zq',by simp,by simp,rfl⟩ ?_
 rintro m σ H5 ⟨k,L,S,Ls,A,vs,x6,x7,x8,x9,x10,x11,rfl,sd,hA5,hV,lay,hL72,hkS,rfl⟩
 have hvl:=hV.len
 obtain⟨hS36,hLs⟩:=sd.len hM6 hN6
 symm
 refine g5' (SqL.of hA5) ?_
 cases L with
 |nil=>
  cases vs with
  |cons v vs=>exact hV.elim
  |nil=>
   refine ik' ?_
   symm
   exact q none _ (rU' lay) sd.s
 |cons e0 L0=>
  have hne:e0 :: L0≠[]:=by simp
  generalize e0 :: L0=L at hne hV lay hL72 hkS hvl ⊢
  have hvne:vs.isEmpty=false:=by
   cases vs with
   |nil=>exact absurd (cj hvl.symm) hne
   |cons v vs=>rfl
  rw[if_neg hne]at hkS ⊢
  rw[hvne]
  refine ij' ?_
  have hM5:=hM.mono (ai' sd.s)
  have hN5:=hN'.mono (ai' sd.s)
  symm
  refine as' (SqL.of hA5) (fw' (xs:=vs) (fun i σ H'=>(∃x6 x7 x8 x9,σ=[some (.ref o),some (.int a),some (.ref p),some (.int b),some (.ref D),some (.ref A),x6,x7,x8,x9,x10,x11])/\H'=H5/\∀j d,j<i->L[j]?=some d->pb (dr M d.2.1) (dr N d.2.2)=none) ⟨⟨_,_,_,_,rfl⟩,rfl,fun j d z=>absurd z (bM _)⟩ (fun i σ H' _ pv=>by rw[pv.2.1];exact SqL.of hA5) ?_ ?_)
  .rintro i x σ H6 hx ⟨⟨x6,x7,x8,x9,rfl⟩,rfl,hno⟩
   obtain⟨e,he,qx,rfl,hqx⟩:=hV.getL hx
   obtain⟨hel,hat⟩:=lay.at_ e (az he)
   have hex:e.2.1<M.length:=fB' hO (fun m hm=>by cases hm;exact ha) hat.1
   have hey:e.2.2<N.length:=fB' hO' (fun m hm=>by cases hm;exact hb) hat.2
   refine o7' (SqT.of hqx) ?_
   symm
   refine aj' hPB ?_
   symm
   refine lW' hM5 hex fun pr hpr=>?_
   symm
   refine lW' hN5 hey fun pq hpq=>?_
   symm
   refine⟨pr,pq,_,_,rfl,hpr,hpq,?_⟩
   cases hc:pb (dr M e.2.1) (dr N e.2.2)with
   |none=>
    simp only[pV]
    symm
    refine⟨⟨_,_,_,_,rfl⟩,trivial,fun j d hj hd=>?_⟩
    by_cases hji:j=i
    .subst hji
     rw[he]at hd
     cases hd
     exact hc
    .exact hno j d ⋯ hd
   |some c=>
    simp only[pV]
    symm
    refine⟨aX (et' (by rw[hel];simp;omega)),?_⟩
    exact q (some (e.1++[c])) _ (lS' lay he hc hno) sd.s
  .rintro σ H6 ⟨⟨x6,x7,x8,x9,rfl⟩,rfl,hno⟩
   have hno':∀e∈L,pb (dr M e.2.1) (dr N e.2.2)=none:=fun e he=>by
    obtain⟨j,hj⟩:=bi he
    exact hno j e (by rw[hvl];exact ak' hj) hj
   have hfar:∀R,Lst (wl M a) (wl N b) (some R)->k+1<R.length:=fun R hR=>lT' lay hno' hR
   have hrup:=rT' (fun e he=>(lay.at_ e he).1) lay.up
   symm
   refine⟨by decide,fun B hB=>?_⟩
   obtain⟨s7,h7⟩:=snw hB (.lst [])
   generalize upd H6 B _=H7 at s7 h7 ⊢
   have hAB:A≠B:=ah' hA5 hB
   have hDB:D≠B:=ah' sd.d hB
   symm
   refine as' (SqL.of (s7 _ _ hA5)) (fw' (xs:=vs) (fun i σ H'=>(∃(x6 x7 x8 x9 x11:Option V) (W:List En) (ws:List V) (S':List (Nat×Nat)) (Ls':List (List Int×Addr)),σ=[some (.ref o),some (.int a),some (.ref p),some (.int b),some (.ref D),some (.ref A),x6,x7,x8,x9,some (.ref B),x11]/\Sd H H' D M.length N.length S' Ls'/\H' B=some (.lst ws)/\bv' (IsT H') ws W/\Stp M N a b k ((L.take i).flatMap two) W S'/\S'.length=S.length+W.length)/\Tp H6 H'/\H' A=some (.lst vs)) ⟨⟨_,_,_,_,_,[],[],S,Ls,rfl,sd.mono s7,h7,trivial,zr' lay,rfl⟩,ai' s7,s7 _ _ hA5⟩ (fun i σ H' _ pv=>SqL.of pv.2.2) ?_ ?_)
   .rintro i x σ H8 hx ⟨⟨x6,x7,x8,x9,x11,W,ws,S',Ls',rfl,sd8,hB8,hW8,st8,hSW⟩,tp8,hA8⟩
    obtain⟨e,he,qx,rfl,hqx⟩:=hV.getL hx
    obtain⟨hel,hat⟩:=lay.at_ e (az he)
    have hex:e.2.1<M.length:=fB' hO (fun m hm=>by cases hm;exact ha) hat.1
    have hey:e.2.2<N.length:=fB' hO' (fun m hm=>by cases hm;exact hb) hat.2
    have hpe:=hno' e (az he)
    have htk:(L.take (i+1)).flatMap two=(L.take i).flatMap two++two e:=by
     rw[bx,he,List.flatMap_append]
     simp
    refine o7' (SqT.of (tp8 _ _ hqx)) ?_
    symm
    refine c4' (lh' (l:=[false,true]) (fun j σ H'=>(∃(x9 x11:Option V) (W:List En) (ws:List V) (S':List (Nat×Nat)) (Ls':List (List Int×Addr)),σ=[some (.ref o),some (.int a),some (.ref p),some (.int b),some (.ref D),some (.ref A),some (.str (tx e.1)),some (.int e.2.1),some (.int e.2.2),x9,some (.ref B),x11]/\Sd H H' D M.length N.length S' Ls'/\H' B=some (.lst ws)/\bv' (IsT H') ws W/\Stp M N a b k ((L.take i).flatMap two++(two e).take j) W S'/\S'.length=S.length+W.length)/\Tp H6 H'/\H' A=some (.lst vs)) ⟨⟨_,_,W,ws,S',Ls',rfl,sd8,hB8,hW8,by rw[List.take_zero,cC];exact st8,hSW⟩,tp8,hA8⟩ ?_ ?_)
    .rintro j c σ H9 hc ⟨⟨x9,x11,W,ws,S',Ls',rfl,sd9,hB9,hW9,st9,hSW9⟩,tp9,hA9⟩
     have hq:(two e)[j]?=some (e,c):=by
      match j,hc with
      |0,hc=>cases hc;rfl
      |1,hc=>cases hc;rfl
      |j+2,hc=>cases hc
     have htk2:(two e).take (j+1)=(two e).take j++[(e,c)]:=by rw[bx,hq];rfl
     have pos:Pos M N a b k ((L.take i).flatMap two++(two e).take j) (e,c):=by
      refine⟨hel,hat,hpe,fun r hr=>?_,hfar⟩
      have hsub:(L.take i).flatMap two++(two e).take j++(e,c) :: ((two e).drop (j+1)++(L.drop (i+1)).flatMap two)=L.flatMap two:=by
       have e1:(e,c) :: (two e).drop (j+1)=(two e).drop j:=by
        obtain⟨h1,h2⟩:=aB.mp hq
        rw[<- List.getElem_cons_drop h1,h2]
       have e2:L=L.take i++e :: L.drop (i+1):=by
        obtain⟨h1,h2⟩:=aB.mp he
        conv=>lhs;rw[<- aM i L,<- List.getElem_cons_drop h1,h2]
       conv=>rhs;rw[e2,List.flatMap_append,da]
       rw[ba,<- df,e1,<- ba ((two e).take j),aM]
      have hrup':=hrup
      rw[<- hsub]at hrup'
      obtain⟨_,_,h3⟩:=bj.mp hrup'
      refine⟨?_,h3 r hr _ aw⟩
      have hrm:r∈L.flatMap two:=by rw[<- hsub];exact aE _ hr
      obtain⟨d,hd,hr2⟩:=cz.mp hrm
      have hr1:r.1=d:=by
       have:r=(d,false)\/r=(d,true):=by simpa[two]using hr2
       rcases this with rfl|rfl<;>rfl
      unfold row
      rw[hr1,aj,(lay.at_ d hd).1]
      rfl
     obtain⟨hS9,hLs9⟩:=sd9.len hM6 hN6
     have hM9:=hM.mono (ai' sd9.s)
     have hN9:=hN'.mono (ai' sd9.s)
     symm
     refine cQ' (c:=c) hM9 hex fun p' hp'=>?_
     symm
     refine hp' _ ?_
     symm
     refine cQ' (c:=c) hN9 hey fun p2 hp2=>?_
     symm
     refine hp2 _ ?_
     rw[a3',a3']
     have hpn:=hA' hpe c
     cases hu:led (dr M e.2.1) c with
     |none=>
      have hv:led (dr N e.2.2) c=none:=by rw[hu]at hpn;exact Option.isNone_iff_eq_none.mp hpn.symm
      rw[hv]
      simp only[oV]
      symm
      refine⟨by decide,fun pt hpt=>?_⟩
      obtain⟨s10,h10⟩:=snw hpt (.tup [V.non,V.non])
      generalize upd H9 pt _=H10 at s10 h10 ⊢
      refine bh' (SqT.of h10) (v:=.non) rfl ?_
      symm
      refine⟨⟨_,_,W,ws,S',Ls',rfl,sd9.mono s10,s10 _ _ hB9,hW9.mono fun v e h=>h.mono (ai' s10),?_,hSW9⟩,cy' tp9 (ai' s10),s10 _ _ hA9⟩
      rw[htk2,<- ba]
      exact of' st9 pos hu
     |some x=>
      obtain⟨y,hv⟩:∃y,led (dr N e.2.2) c=some y:=by
       rw[hu]at hpn
       cases e1:led (dr N e.2.2) c with
       |none=>rw[e1]at hpn;cases hpn
       |some y=>exact⟨y,rfl⟩
      rw[hv]
      simp only[oV]
      symm
      refine⟨by decide,fun pt hpt=>?_⟩
      obtain⟨s10,h10⟩:=snw hpt (.tup [V.int x,V.int y])
      generalize upd H9 pt _=H10 at s10 h10 ⊢
      refine bh' (SqT.of h10) (v:=.int x) rfl ?_
      symm
      have sd10:=sd9.mono s10
      have hxl:x<M.length:=c8' hO ((a3' (M:=M)).trans hu)
      have hyl:y<N.length:=c8' hO' ((a3' (M:=N)).trans hv)
      refine rD' (k:=[(x:Int),(y:Int)]) h10 sd10.d sd10.t ?_
      rw[sd10.e]
      by_cases hin:(x,y)∈S'
      .rw[decide_eq_true (lV'.mpr hin)]
       symm
       refine⟨⟨_,_,W,ws,S',Ls',rfl,sd10,s10 _ _ hB9,hW9.mono fun v e h=>h.mono (ai' s10),?_,hSW9⟩,cy' tp9 (ai' s10),s10 _ _ hA9⟩
       rw[htk2,<- ba]
       exact rR' st9 pos hu hv hin
      .have hnin:¬[(x:Int),(y:Int)]∈S'.map kI2:=fun z=>hin (lV'.mp z)
       rw[decide_eq_false hnin]
       symm
       refine v9' sd10.d ?_
       symm
       have hnd:(S'++[(x,y)]).Nodup:=cZ.mpr ⟨sd10.nd,by simp,fun u hu v hv e=>by
        have:v=(x,y):=by simpa using hv
        rw[e,this]at hu
        exact hin hu⟩
       have hS10:(S'++[(x,y)]).length<=3600:=lU' hnd fun z hz=>by
        rcases am.mp hz with hz|hz
        .have:=sd10.lt z hz
         omega
        .have:z=(x,y):=by simpa using hz
         subst this
         exact⟨⋯,⋯⟩
       rw[aj,bD]at hS10
       refine wa' (k:=[(x:Int),(y:Int)]) h10 sd10.d sd10.t ⋯ ?_
       have ea:ni' Ls' [(x:Int),(y:Int)] pt=Ls'++[([(x:Int),(y:Int)],pt)]:=by
        unfold ni'
        rw[sd10.e,if_neg hnin]
       rw[ea]
       have tp11:Tp H10 (upd H10 D (cD' D (Ls'++[([(x:Int),(y:Int)],pt)]))):=po' fun xs z=>by rw[sd10.d]at z;cases z
       have hB11:upd H10 D (cD' D (Ls'++[([(x:Int),(y:Int)],pt)])) B=some (.lst ws):=by rw[af' hDB.symm];exact s10 _ _ hB9
       have hAD:A≠D:=fun z=>by rw[z,sd.d]at hA5;cases hA5
       have hA11:upd H10 D (cD' D (Ls'++[([(x:Int),(y:Int)],pt)])) A=some (.lst vs):=by rw[af' hAD];exact s10 _ _ hA9
       have sd11:Sd H (upd H10 D (cD' D (Ls'++[([(x:Int),(y:Int)],pt)]))) D M.length N.length (S'++[(x,y)]) (Ls'++[([(x:Int),(y:Int)],pt)]):=by
        refine⟨ek' sd10.s sd10.d0,sd10.d0,ab',fun z hz=>?_,?_,hnd,fun z hz=>?_⟩
        .rcases am.mp hz with hz|hz
         .exact tp11 _ _ (sd10.t z hz)
         .have:z=([(x:Int),(y:Int)],pt):=by simpa using hz
          subst this
          exact tp11 _ _ h10
        .rw[aN,aN,sd10.e]
         rfl
        .rcases am.mp hz with hz|hz
         .exact sd10.lt z hz
         .have:z=(x,y):=by simpa using hz
          subst this
          exact⟨hxl,hyl⟩
       have hW11:bv' (IsT (upd H10 D (cD' D (Ls'++[([(x:Int),(y:Int)],pt)])))) ws W:=hW9.mono fun v e h=>(h.mono (ai' s10)).mono tp11
       have h11:=tp11 _ _ h10
       have tp611:=cy' (cy' tp9 (ai' s10)) tp11
       generalize upd H10 D (cD' D (Ls'++[([(x:Int),(y:Int)],pt)]))=H11 at hB11 hA11 sd11 hW11 h11 tp611 ⊢
       clear tp11
       symm
       refine⟨tyL hB11 rfl,aX (et' (by rw[hel];simp;omega)),?_⟩
       refine bh' (SqT.of h11) (v:=.int x) rfl ?_
       symm
       refine bh' (SqT.of h11) (v:=.int y) rfl ?_
       symm
       refine⟨by decide,fun pe hpe=>?_⟩
       obtain⟨s12,h12⟩:=snw hpe (.tup [V.str (tx (e.1++[c])),V.int x,V.int y])
       generalize upd H11 pe _=H12 at s12 h12 ⊢
       have hB12:=s12 _ _ hB11
       have hWl:=hW9.len
       refine cG' hB12 (et' ⋯) ?_
       symm
       have sd12:=sd11.mono s12
       have hB0:H B=none:=by
        have:=sd.s.free hB
        exact this
       have tp13:Tp H12 (upd H12 B (.lst (ws++[V.ref pe]))):=po' fun xs z=>by rw[hB12]at z;cases z
       refine⟨⟨_,_,W++[(e.1++[c],x,y)],ws++[V.ref pe],S'++[(x,y)],Ls'++[([(x:Int),(y:Int)],pt)],rfl,⟨ek' sd12.s hB0,sd12.d0,by rw[af' hDB];exact sd12.d,iE' tp13 sd12.t,sd12.e,sd12.nd,sd12.lt⟩,ab',?_,?_,by rw[aj,aj,hSW9];simp;omega⟩,cy' (cy' tp611 (ai' s12)) tp13,by rw[af' hAB];exact s12 _ _ hA11⟩
       .exact(hW11.mono fun v e h=>(h.mono (ai' s12)).mono tp13).snoc ⟨pe,rfl,tp13 _ _ h12⟩
       .rw[htk2,<- ba]
        exact rS' st9 pos hu hv
    .rintro σ H9 ⟨⟨x9,x11,W,ws,S',Ls',rfl,sd9,hB9,hW9,st9,hSW9⟩,tp9,hA9⟩
     refine⟨⟨_,_,_,_,_,W,ws,S',Ls',rfl,sd9,hB9,hW9,?_,hSW9⟩,tp9,hA9⟩
     rw[htk]
     exact st9
   .rintro σ H8 ⟨⟨x6,x7,x8,x9,x11,W,ws,S',Ls',rfl,sd8,hB8,hW8,st8,hSW⟩,tp8,hA8⟩
    rw[hvl,bm]at st8
    obtain⟨hS8,_⟩:=sd8.len hM6 hN6
    symm
    refine⟨_,?_,k+1,W,S',Ls',B,ws,_,_,_,_,_,_,rfl,sd8,hB8,hW8,wo' lay hno' st8,⋯,?_,rfl⟩
    .cases W with
     |nil=>
      rw[if_pos rfl,hSW]
      show 2*(3600-(S.length+0))+0<_
      omega
     |cons w W=>
      rw[aR]at hSW
      rw[if_neg (by simp)]
      omega
    .cases W with
     |nil=>
      rw[if_pos rfl,hSW]
      show k+1+0<=S.length+0
      omega
     |cons w W=>
      rw[aR]at hSW
      rw[if_neg (by simp)]
      omega
def okE (R:Nat->Nat->Prop):Option Nat->Option Nat->Prop
 |none,none=>True
 |some x,some y=>R x y
 |_,_=>False
theorem okE.mono {R S:Nat->Nat->Prop}:∀{o p:Option Nat},(∀x y,o=some x->p=some y->R x y->S x y)->okE R o p->okE S o p
 |none,none,_,_=>trivial
 |some x,some y,h,r=>h x y rfl rfl r
 |none,some _,_,r=>r.elim
 |some _,none,_,r=>r.elim
def Ek (B:List Rm):Nat->Nat->Nat->Prop
 |0,_,_=>True
 |k+1,r,s=>okE (Ek B k) (dr B r).1 (dr B s).1/\okE (Ek B k) (dr B r).2 (dr B s).2
theorem e5' {B:List Rm} {k r s:Nat}:Ek B (k+1) r s↔∀c,okE (Ek B k) (led (dr B r) c) (led (dr B s) c):=
 ⟨fun h c=>by cases c;exact h.1;exact h.2,fun h=>⟨h false,h true⟩⟩
theorem iF' {R:Nat->Nat->Prop} (h:∀x,R x x):∀o,okE R o o
 |none=>trivial
 |some x=>h x
theorem iG' {R:Nat->Nat->Prop} (h:∀x y,R x y->R y x):∀{o p},okE R o p->okE R p o
 |none,none,_=>trivial
 |some x,some y,r=>h x y r
 |none,some _,r=>r.elim
 |some _,none,r=>r.elim
theorem gw' {R:Nat->Nat->Prop} (h:∀x y z,R x y->R y z->R x z):∀{o p q},okE R o p->okE R p q->okE R o q
 |none,none,none,_,_=>trivial
 |some x,some y,some z,r,s=>h x y z r s
 |none,none,some _,_,s=>s.elim
 |some _,some _,none,_,s=>s.elim
 |none,some _,_,r,_=>r.elim
 |some _,none,_,r,_=>r.elim
theorem fE' {B:List Rm}:∀k r,Ek B k r r
 |0,_=>trivial
 |k+1,r=>⟨iF' (fE' k) _,iF' (fE' k) _⟩
theorem eu' {B:List Rm}:∀k r s,Ek B k r s->Ek B k s r
 |0,_,_,_=>trivial
 |k+1,r,s,h=>⟨iG' (eu' k) h.1,iG' (eu' k) h.2⟩
theorem b3' {B:List Rm}:∀k r s t,Ek B k r s->Ek B k s t->Ek B k r t
 |0,_,_,_,_,_=>trivial
 |k+1,r,s,t,h,g=>⟨gw' (b3' k) h.1 g.1,gw' (b3' k) h.2 g.2⟩
theorem ev' {B:List Rm}:∀k r s,Ek B (k+1) r s->Ek B k r s
 |0,_,_,_=>trivial
 |k+1,r,s,h=>⟨h.1.mono fun x y _ _=>ev' k x y,h.2.mono fun x y _ _=>ev' k x y⟩
theorem wq' {B:List Rm} {k r s:Nat}:∀{m},k<=m->Ek B m r s->Ek B k r s
 |0,h,e=>by
  have:k=0:=by omega
  subst this
  exact e
 |m+1,h,e=>by
  by_cases z:k=m+1
  .subst z;exact e
  .exact wq' (m:=m) ⋯ (ev' m r s e)
theorem dO' {B:List Rm}:∀{k r s:Nat} {w:List Bool},Ek B k r s->w.length<=k->wl B r w=wl B s w
 |_,_,_,[],_,_=>rfl
 |0,_,_,_ :: _,_,h=>by simp at h
 |k+1,r,s,c :: w,h,hl=>by
  have hc:=e5'.mp h c
  rw[bC',bC',a3',a3']
  have hw:w.length<=k:=by simpa using hl
  cases e1:led (dr B r) c<;>cases e2:led (dr B s) c<;>rw[e1,e2]at hc<;>first|exact dO' hc hw|rfl|exact False.elim hc
open Classical in
noncomputable def fb (B:List Rm) (k x y:Nat):Bool:=if okE (Ek B k) (dr B x).1 (dr B y).1 then true else false
noncomputable def fr (B:List Rm):Nat->Nat->Nat->List Bool
 |0,_,_=>[]
 |k+1,x,y=>fb B k x y :: match led (dr B x) (fb B k x y),led (dr B y) (fb B k x y)with
  |some x',some y'=>fr B k x' y'
  |_,_=>[]
set_option tactic.hygienic true in
theorem wr' {B:List Rm} {k x y:Nat} (h:¬Ek B (k+1) x y):¬okE (Ek B k) (led (dr B x) (fb B k x y)) (led (dr B y) (fb B k x y))/\(fb B k x y=true->okE (Ek B k) (dr B x).1 (dr B y).1):=by
 unfold fb
 split
 .rename_i h1
  exact⟨fun h2=>h ⟨h1,h2⟩,fun _=>h1⟩
 .rename_i h1
  exact⟨h1,fun z=>by cases z⟩
theorem lX' {R:Nat->Nat->Prop} {o p:Option Nat} (h:¬okE R o p):(o.isNone≠p.isNone)\/∃x y,o=some x/\p=some y/\¬R x y:=by
 cases o<;>cases p
 .exact absurd trivial h
 .exact .inl (by simp)
 .exact .inl (by simp)
 .exact .inr ⟨_,_,rfl,rfl,h⟩
theorem wt' {B:List Rm}:∀(k x y:Nat),¬Ek B (k+1) x y->Ek B k x y->Lst (wl B x) (wl B y) (some (fr B (k+1) x y))/\(fr B (k+1) x y).length=k+1:=by
 intro k
 induction k with
 |zero=>
  intro x y h _
  obtain⟨h1,h2⟩:=wr' h
  have hx:(led (dr B x) (fb B 0 x y)).isNone≠(led (dr B y) (fb B 0 x y)).isNone:=by
   rcases lX' h1 with z|⟨u,v,e1,e2,z⟩
   .exact z
   .exact absurd trivial z
  have e:fr B 1 x y=[fb B 0 x y]:=by
   show fb B 0 x y :: _=_
   cases e1:led (dr B x) (fb B 0 x y)<;>cases e2:led (dr B y) (fb B 0 x y)<;>rfl
  rw[e]
  refine⟨⟨(dh' (M:=B) (N:=B) (a:=x) (b:=y) (w:=[]) (c:=fb B 0 x y) ⟨rfl,rfl⟩).mpr hx,fun w hw=>?_⟩,rfl⟩
  cases w with
  |nil=>exact absurd rfl hw
  |cons d w=>
   cases w with
   |cons _ _=>left;simp
   |nil=>
    right
    refine⟨rfl,?_⟩
    have hd:=(dh' (M:=B) (N:=B) (a:=x) (b:=y) (w:=[]) (c:=d) ⟨rfl,rfl⟩).mp hw
    cases hf:fb B 0 x y with
    |false=>cases d<;>rfl
    |true=>
     cases d with
     |true=>rfl
     |false=>
      exfalso
      have h3:=h2 hf
      refine hd ?_
      show(dr B x).1.isNone=(dr B y).1.isNone
      cases e1:(dr B x).1<;>cases e2:(dr B y).1<;>rw[e1,e2]at h3<;>first|rfl|exact False.elim h3
 |succ k ih=>
  intro x y h he
  obtain⟨h1,h2⟩:=wr' h
  have hno:∀c,(led (dr B x) c).isNone=(led (dr B y) c).isNone:=fun c=>by
   have:=e5'.mp he c
   cases e1:led (dr B x) c<;>cases e2:led (dr B y) c<;>rw[e1,e2]at this<;>first|rfl|exact False.elim this
  obtain⟨u,v,e1,e2,hn⟩:=(lX' h1).resolve_left fun z=>z (hno _)
  have heu:Ek B k u v:=by
   have:=e5'.mp he (fb B (k+1) x y)
   rw[e1,e2]at this
   exact this
  obtain⟨⟨i1,i2⟩,i3⟩:=ih u v hn heu
  have e:fr B (k+2) x y=fb B (k+1) x y :: fr B (k+1) u v:=by
   show fb B (k+1) x y :: _=_
   rw[e1,e2]
  rw[e]
  refine⟨⟨?_,fun w hw=>?_⟩,by rw[aR,i3]⟩
  .rw[bC',bC',a3',a3',e1,e2]
   exact i1
  .cases w with
   |nil=>exact absurd rfl hw
   |cons d w=>
    rw[bC',bC',a3',a3']at hw
    have hd:=hno d
    cases f1:led (dr B x) d with
    |none=>
     have f2:led (dr B y) d=none:=by rw[f1]at hd;exact Option.isNone_iff_eq_none.mp hd.symm
     rw[f1,f2]at hw
     exact absurd rfl hw
    |some u'=>
     obtain⟨v',f2⟩:∃v',led (dr B y) d=some v':=by
      cases f2:led (dr B y) d with
      |none=>rw[f1,f2]at hd;cases hd
      |some v'=>exact⟨v',rfl⟩
     rw[f1,f2]at hw
     have hek:Ek B k u' v':=by
      have:=e5'.mp he d
      rw[f1,f2]at this
      exact this
     have hlw:k<w.length:=by
      rcases aY k w.length with z|z
      .exact z
      .exact absurd (dO' hek z) hw
     rw[aR,aR,i3]
     rcases aY (k+1) w.length with z|z
     .left;omega
     .right
      have hw1:w.length=k+1:=by omega
      refine⟨⋯,?_⟩
      have hnk:¬Ek B (k+1) u' v':=fun z=>hw (dO' z ⋯)
      cases hf:fb B (k+1) x y with
      |false=>
       cases d with
       |true=>rfl
       |false=>
        rw[hf]at e1 e2
        rw[e1]at f1
        rw[e2]at f2
        cases f1
        cases f2
        have:=(i2 w hw).resolve_left ⋯
        simp[gtB,this.2]
      |true=>
       cases d with
       |false=>
        exfalso
        have h3:=h2 hf
        have f1':(dr B x).1=some u':=f1
        have f2':(dr B y).1=some v':=f2
        rw[f1',f2']at h3
        exact hnk h3
       |true=>
        rw[hf]at e1 e2
        rw[e1]at f1
        rw[e2]at f2
        cases f1
        cases f2
        have:=(i2 w hw).resolve_left ⋯
        simp[gtB,this.2]
theorem di' {α:Type} {p q:α->Bool}:∀{l:List α},(∀x∈l,q x=true->p x=true)->(∃x∈l,p x=true/\q x=false)->l.countP q<l.countP p
 | [],_,⟨x,hx,_⟩=>absurd hx aA
 |a :: l,h,⟨x,hx,hp,hq⟩=>by
  have mono:∀{l:List α},(∀x∈l,q x=true->p x=true)->l.countP q<=l.countP p:=fun {l} h=>List.countP_mono_left h
  rw[cL,cL]
  rcases au.mp hx with rfl|hx
  .have:=mono fun y hy=>h y (aq _ hy)
   rw[hp,hq]
   simp
   omega
  .have:=di' (fun y hy=>h y (aq _ hy)) ⟨x,hx,hp,hq⟩
   have ha:=h a aw
   cases e1:q a with
   |false=>simp;split<;>omega
   |true=>rw[ha e1];simp;omega
theorem fF' {R:Nat->Prop}:∀n,R n->∃p,p<=n/\R p/\∀u,u<p->¬R u:=by
 intro n
 induction n using Nat.strongRecOn with
 |_ n ih=>
  intro h
  by_cases z:∃m,m<n/\R m
  .obtain⟨m,h1,h2⟩:=z
   obtain⟨p,h3,h4⟩:=ih m h1 h2
   exact⟨p,⋯,h4⟩
  .exact⟨n,ah _,h,fun u hu hr=>z ⟨u,hu,hr⟩⟩
open Classical in
noncomputable def ld (B:List Rm) (k t:Nat):Bool:=decide (∀u,u<t->¬Ek B k u t)
open Classical in
theorem gx' {B:List Rm} {k t:Nat}:ld B k t=true↔∀u,u<t->¬Ek B k u t:=by
 unfold ld
 exact decide_eq_true_iff
theorem rX' {B:List Rm} {n k:Nat} {r s:Nat} (hr:r<n) (hs:s<n) (h1:Ek B k r s) (h2:¬Ek B (k+1) r s):(av n).countP (ld B k)<(av n).countP (ld B (k+1)):=by
 refine di' (fun t _ h=>?_) ?_
 .have h:=gx'.mp h
  exact gx'.mpr fun u hu hk=>h u hu (ev' k u t hk)
 .obtain⟨p,hp1,hp2,hp3⟩:=fF' (R:=fun u=>Ek B k u r) r (fE' k r)
  obtain⟨z,hz,hz1,hz2⟩:∃z,z<n/\Ek B k p z/\¬Ek B (k+1) p z:=by
   by_cases e:Ek B (k+1) p r
   .exact⟨s,hs,b3' k _ _ _ hp2 h1,fun e2=>h2 (b3' (k+1) _ _ _ (eu' (k+1) _ _ e) e2)⟩
   .exact⟨r,hr,hp2,e⟩
  obtain⟨t,ht1,ht2,ht3⟩:=fF' (R:=fun u=>Ek B (k+1) u z) z (fE' (k+1) z)
  refine⟨t,aI.mpr ⋯,gx'.mpr fun u hu hk=>ht3 u hu (b3' (k+1) _ _ _ hk ht2),Bool.eq_false_iff.mpr fun hall0=>?_⟩
  have hall:=gx'.mp hall0
  have htp:Ek B k p t:=b3' k _ _ _ hz1 (eu' k _ _ (ev' k _ _ ht2))
  have hne:t≠p:=fun e=>hz2 (e ▸ ht2)
  rcases aY p t with w|w
  .exact hall p w htp
  .exact hp3 t ⋯ (b3' k _ _ _ (eu' k _ _ htp) hp2)
theorem rY' {B:List Rm} {n:Nat} (hn:1<=n):∃k,k<n/\∀r s,r<n->s<n->Ek B k r s->Ek B (k+1) r s:=by
 by_cases h:∃k,k<n/\∀r s,r<n->s<n->Ek B k r s->Ek B (k+1) r s
 .exact h
 .exfalso
  have step:∀k,k<n->(av n).countP (ld B k)<(av n).countP (ld B (k+1)):=fun k hk=>by
   by_cases z:∃r s,r<n/\s<n/\Ek B k r s/\¬Ek B (k+1) r s
   .obtain⟨r,s,hr,hs,h1,h2⟩:=z
    exact rX' hr hs h1 h2
   .refine absurd ⟨k,hk,fun r s hr hs h1=>?_⟩ h
    by_cases e:Ek B (k+1) r s
    .exact e
    .exact absurd ⟨r,s,hr,hs,h1,e⟩ z
  have all:∀k,k<=n->k+1<=(av n).countP (ld B k):=by
   intro k
   induction k with
   |zero=>
    intro _
    have:0<(av n).countP (ld B 0):=List.countP_pos_iff.mpr ⟨0,aI.mpr ⋯,gx'.mpr fun u hu=>absurd hu (bM _)⟩
    omega
   |succ k ih=>
    intro hk
    have h1:=ih ⋯
    have h2:=step k ⋯
    omega
  have h1:=all n (ah _)
  have h2:=List.countP_le_length (p:=ld B n) (l:=av n)
  rw[aV]at h2
  omega
theorem wu' {B:List Rm} (hO:OkM B) (hn:1<=B.length) {a b:Nat} (ha:a<B.length) (hb:b<B.length) (h:Ek B B.length a b):∀k,Ek B k a b:=by
 obtain⟨k,hk,hs⟩:=rY' (B:=B) hn
 have lt:∀r c x,led (dr B r) c=some x->x<B.length:=fun r c x e=>c8' hO ((a3' (M:=B)).trans e)
 have on:∀m r s,r<B.length->s<B.length->Ek B (k+m) r s->Ek B (k+m+1) r s:=by
  intro m
  induction m with
  |zero=>exact hs
  |succ m ih=>
   intro r s hr hs' h
   refine e5'.mpr fun c=>(e5'.mp h c).mono fun x y e1 e2=>ih x y (lt r c x e1) (lt s c y e2)
 have up:∀m,Ek B (B.length+m) a b:=by
  intro m
  induction m with
  |zero=>exact h
  |succ m ih=>
   have:=on (B.length+m-k) a b ha hb (by rw[show k+(B.length+m-k)=B.length+m by omega];exact ih)
   rw[show k+(B.length+m-k)+1=B.length+(m+1) by omega]at this
   exact this
 intro j
 exact wq' (m:=B.length+j) ⋯ (up j)
end K13
namespace K15
open PySem PySem.Spec PyProof.Rows L2 R3 LW
def cj':List Str:=["signs","numbers","sign"]
def bD':List Str:=["len"]
def bE':Css:=(.cons (.asg (.name 1) .dnt)
  (.cons (.for_ (.name 2) (.val (.var 0)) (.cons (.ite (.din true (.var 2) (.var 1)) (.cons (.dput (.var 1) (.var 2) (.blt .lenD (.cons (.var 1) .nil)))
  .nil) .nil)
  .nil))
  (.cons (.ret (.comp (.dix (.var 1) (.var 2)) [2] (.name 2) (.val (.var 0)) .none .nil))
  .nil)))
def cU':List Str:=["machine","numbers","led","lead","room","number","zero","one"]
def b4':List Str:=["zip"]
def b5':Css:=(.cons (.asg (.name 2) (.comp (.comp (.ife (.cmp .Is (.var 3) .non) .non (.idx (.var 1) (.var 3))) [3] (.name 3) (.val (.var 4)) .none .nil) [4] (.name 4) (.val (.var 0)) .none .nil))
  (.cons (.ret (.call "numbered" (.cons (.comp (.tup (.cons (.var 5) (.cons (.var 6) (.cons (.var 7) .nil)))) [5,6,7] (.tup (.cons (.name 5) (.cons (.tup (.cons (.name 6) (.cons (.name 7) .nil))) .nil))) (.zip (.var 1) (.var 2)) .none .nil) .nil)))
  .nil))
def bi':List Str:=["machine","numbers","room","finer"]
def aU':List Str:=[]
def aV':Css:=(.cons (.asg (.name 1) (.comp (.int 0) [2] (.name 2) (.val (.var 0)) .none .nil))
  (.cons (.asg (.name 3) (.call "refined" (.cons (.var 0) (.cons (.var 1) .nil))))
  (.cons (.whl (.cmp .NotEq (.var 3) (.var 1)) (.cons (.asg (.name 1) (.var 3))
  (.cons (.asg (.name 3) (.call "refined" (.cons (.var 0) (.cons (.var 1) .nil))))
  .nil)))
  (.cons (.ret (.var 1))
  .nil))))
def ew':List Str:=["machine","told","room","kind"]
def dj':List Str:=["enumerate","len"]
def dk':Css:=(.cons (.asg (.name 1) (.lst .nil))
  (.cons (.for_ (.tup (.cons (.name 2) (.cons (.name 3) .nil))) (.enum (.call "kind_numbers" (.cons (.var 0) .nil))) (.cons (.ite (.cmp .Eq (.var 3) (.blt .len (.cons (.var 1) .nil))) (.cons (.expr (.met .append (.var 1) (.cons (.lst .nil) .nil)))
  .nil) .nil)
  (.cons (.expr (.met .append (.idx (.var 1) (.var 3)) (.cons (.var 2) .nil)))
  .nil)))
  (.cons (.ret (.var 1))
  .nil)))
def ck':List Str:=["machine","numbers","firsts","rooms","less","lead","room"]
def bF':List Str:=["tuple"]
def bG':Css:=(.cons (.asg (.name 1) (.call "kind_numbers" (.cons (.var 0) .nil)))
  (.cons (.asg (.name 2) (.comp (.idx (.var 0) (.idx (.var 3) (.int 0))) [3] (.name 3) (.val (.call "kinds" (.cons (.var 0) .nil))) .none .nil))
  (.cons (.asg (.name 4) (.comp (.blt .tuple (.cons (.comp (.ife (.cmp .Is (.var 5) .non) .non (.idx (.var 1) (.var 5))) [5] (.name 5) (.val (.var 6)) .none .nil) .nil)) [6] (.name 6) (.val (.var 2)) .none .nil))
  (.cons (.ret (.tup (.cons (.blt .tuple (.cons (.var 4) .nil)) (.cons (.var 1) .nil))))
  .nil))))
def cn (c:List Nat) (i:Nat):Nat:=c.getD i 0
theorem dF' {c:List Nat} {i:Nat} (h:i<c.length):c[i]?=some (cn c i):=by
 unfold cn
 rw[aF,aa h];rfl
theorem wv' {c d:List Nat} (hl:c.length=d.length) (h:∀i,i<c.length->cn c i=cn d i):c=d:=by
 refine bZ fun i=>?_
 by_cases hi:i<c.length
 .rw[dF' hi,dF' (hl ▸ hi),h i hi]
 .rw[aZ ⋯,aZ ⋯]
def dr (M:List Rm) (a:Nat):Rm:=M.getD a (none,none)
theorem pp' {M:List Rm} {i:Nat} (h:i<M.length):M[i]?=some (dr M i):=by
 unfold dr
 rw[aF,aa h];rfl
theorem lY' {M:List Rm} (hO:OkM M) {i:Nat} (h:i<M.length):OkR M.length (dr M i):=hO _ (az (pp' h))
def okD (R:Nat->Nat->Prop):Option Nat->Option Nat->Prop
 |none,none=>True
 |some e,some f=>R e f
 |_,_=>False
theorem okD.mono {R S:Nat->Nat->Prop} (h:∀a b,R a b->S a b):∀{o p:Option Nat},okD R o p->okD S o p
 |none,none,_=>trivial
 |some _,some _,k=>h _ _ k
 |none,some _,k=>k.elim
 |some _,none,k=>k.elim
def Lk (M:List Rm) (R:Nat->Nat->Prop):Prop:=∀a b,R a b->a<M.length/\b<M.length/\okD R (dr M a).1 (dr M b).1/\okD R (dr M a).2 (dr M b).2
def Bs (M:List Rm) (a b:Nat):Prop:=∃R,Lk M R/\R a b
theorem hB' (M:List Rm):Lk M (Bs M):=fun a b ⟨R,h,r⟩=>let⟨h1,h2,h3,h4⟩:=h a b r;⟨h1,h2,h3.mono fun x y k=>⟨R,h,k⟩,h4.mono fun x y k=>⟨R,h,k⟩⟩
def ap (c:List Nat) (o:Option Nat):Option Nat:=o.map (cn c)
abbrev Sgn:=Nat×Option Nat×Option Nat
def sg (M:List Rm) (c:List Nat) (i:Nat):Sgn:=(cn c i,ap c (dr M i).1,ap c (dr M i).2)
theorem oh' {c:List Nat} {R:Nat->Nat->Prop} (h:∀a b,R a b->cn c a=cn c b):∀{o p:Option Nat},okD R o p->ap c o=ap c p
 |none,none,_=>rfl
 |some e,some f,k=>by unfold ap;rw[cE,cE,h _ _ k]
 |none,some _,k=>k.elim
 |some _,none,k=>k.elim
theorem ww' {c:List Nat} {R:Nat->Nat->Prop}:∀{o p:Option Nat},(∀a b,o=some a->p=some b->cn c a=cn c b->R a b)->ap c o=ap c p->okD R o p
 |none,none,_,_=>trivial
 |some e,some f,h,k=>h _ _ rfl rfl (by simpa[ap]using k)
 |none,some _,_,k=>by simp[ap]at k
 |some _,none,_,k=>by simp[ap]at k
theorem rZ' {M:List Rm} {c:List Nat} (h:∀a b,Bs M a b->cn c a=cn c b) {a b:Nat} (k:Bs M a b):sg M c a=sg M c b:=by
 obtain⟨h1,h2,h3,h4⟩:=hB' M a b k
 unfold sg
 rw[h a b k,oh' h h3,oh' h h4]
theorem wx' {M:List Rm} (hO:OkM M) {c:List Nat} (h:∀i j,i<M.length->j<M.length->cn c i=cn c j->sg M c i=sg M c j) {i j:Nat} (hi:i<M.length) (hj:j<M.length) (e:cn c i=cn c j):Bs M i j:=by
 refine⟨fun i j=>i<M.length/\j<M.length/\cn c i=cn c j,fun a b ⟨ha,hb,hab⟩=>⟨ha,hb,?_⟩,hi,hj,e⟩
 have k:=h a b ha hb hab
 unfold sg at k
 simp only[Prod.mk.injEq]at k
 obtain⟨_,k1,k2⟩:=k
 have oa:=lY' hO ha
 have ob:=lY' hO hb
 exact⟨ww' (fun x y hx hy hc=>⟨oa.1 x hx,ob.1 y hy,hc⟩) k1,ww' (fun x y hx hy hc=>⟨oa.2 x hx,ob.2 y hy,hc⟩) k2⟩
def Cn (c:List Nat):Prop:=∀i,i<c.length->∀k,k<cn c i->∃j,j<i/\cn c j=k
theorem lZ' {c d:List Nat} (hc:Cn c) (hd:Cn d) (hl:c.length=d.length) (h:∀i j,i<c.length->j<c.length->(cn c i=cn c j↔cn d i=cn d j)):c=d:=by
 refine wv' hl fun i=>?_
 induction i using Nat.strongRecOn with
 |_ i ih=>
  intro hi
  rcases cY (cn c i) (cn d i)with k|k|k
  .obtain⟨j,hj,e⟩:=hd i (hl ▸ hi) _ k
   have e2:=ih j hj ⋯
   have:=(h i j hi ⋯).mp ⋯
   omega
  .exact k
  .obtain⟨j,hj,e⟩:=hc i hi _ k
   have e2:=ih j hj ⋯
   have:=(h i j hi ⋯).mpr ⋯
   omega
section
variable {α:Type} [DecidableEq α]
def dd:List α->List α->List α
 |ks,[]=>ks
 |ks,s :: r=>dd (if s∈ks then ks else ks++[s]) r
theorem ey':∀(l r ks:List α),dd ks (l++r)=dd (dd ks l) r
 | [],_,_=>rfl
 |s :: l,r,ks=>by rw[df];exact ey' l r _
theorem pq':∀(l ks:List α),∃more,dd ks l=ks++more
 | [],ks=>⟨[],by simp[dd]⟩
 |s :: l,ks=>by
  obtain⟨m,e⟩:=pq' l (if s∈ks then ks else ks++[s])
  unfold dd
  rw[e]
  split
  .exact⟨m,rfl⟩
  .exact⟨[s]++m,by simp⟩
theorem iH':∀(l ks:List α) (x:α),x∈dd ks l↔x∈ks\/x∈l
 | [],ks,x=>by simp[dd]
 |s :: l,ks,x=>by
  unfold dd
  rw[iH' l]
  split
  .constructor
   .rintro(h|h)
    .exact .inl h
    .exact .inr (aq _ h)
   .rintro(h|h)
    .exact .inl h
    .rcases au.mp h with rfl|h
     .exact .inl ‹_›
     .exact .inr h
  .simp only[am,au,aA,false_or,or_false,or_assoc]
theorem iI':∀(l ks:List α),ks.Nodup->(dd ks l).Nodup
 | [],ks,h=>h
 |s :: l,ks,h=>by
  unfold dd
  refine iI' l _ ?_
  split
  .exact h
  .rw[cZ]
   exact⟨h,by simp,fun a ha b hb=>by simp at hb;subst hb;rintro rfl;contradiction⟩
def ix (l:List α) (s:α):Nat:=l.idxOf s
theorem pr' {l r:List α} {s:α}:ix (l++r) s=if s∈l then ix l s else l.length+ix r s:=by unfold ix;rw[List.idxOf_append];split<;>omega
theorem wy' {s:α}:ix [s] s=0:=by simp[ix]
theorem l0' {S:List α} {s:α}:dd [] (S++[s])=if s∈dd [] S then dd [] S else dd [] S++[s]:=by rw[ey'];simp only[dd]
def nmb (S:List α):List Nat:=S.map fun s=>ix (dd [] S) s
theorem r0' {S:List α} {i:Nat} {s:α} (h:S[i]?=some s):(nmb S)[i]?=some (ix (dd [] S) s):=by unfold nmb;rw[al,h];rfl
theorem fG' {S:List α}:(nmb S).length=S.length:=by unfold nmb;rw[ae]
theorem iJ' {S:List α} {i:Nat} {s:α} (h:S[i]?=some s):cn (nmb S) i=(dd [] S).idxOf s:=by
 unfold cn nmb
 rw[aF,al,h];rfl
theorem r1' {l:List α} {x y:α} (hx:x∈l) (h:l.idxOf x=l.idxOf y):x=y:=by
 have h1:=bp hx
 have e1:l[l.idxOf x]'h1=x:=cQ h1
 have e2:l[l.idxOf y]'(h ▸ h1)=y:=cQ (h ▸ h1)
 rw[<- e1,<- e2]
 congr 1
theorem r2' {S:List α} {i j:Nat} {s t:α} (hi:S[i]?=some s) (hj:S[j]?=some t):cn (nmb S) i=cn (nmb S) j↔s=t:=by
 rw[iJ' hi,iJ' hj]
 constructor
 .exact r1' ((iH' S [] s).mpr (.inr (az hi)))
 .rintro rfl;rfl
set_option tactic.hygienic true in
theorem wz' (S:List α):Cn (nmb S):=by
 intro i hi k hk
 rw[fG']at hi
 have hg:S[i]?=some S[i]:=aa hi
 rw[iJ' hg]at hk
 have e:S=S.take i++S[i] :: S.drop (i+1):=by simp
 have e1:dd [] S=dd (dd [] (S.take i)) (S[i] :: S.drop (i+1)):=by rw[<- ey',<- e]
 have hnd:=iI' S [] cM
 obtain⟨m,e2⟩:=pq' (S.drop (i+1)) (if S[i]∈dd [] (S.take i)then dd [] (S.take i)else dd [] (S.take i)++[S[i]])
 have e3:dd [] S=(if S[i]∈dd [] (S.take i)then dd [] (S.take i)else dd [] (S.take i)++[S[i]])++m:=by rw[e1];exact e2
 have hle:(dd [] S).idxOf S[i]<=(dd [] (S.take i)).length:=by
  rw[e3]
  split
  .rename_i hm
   rw[List.idxOf_append,if_pos hm]
   exact aX (bp hm)
  .rename_i hm
   rw[ba,List.idxOf_append,if_neg hm]
   simp
 have hk1:k<(dd [] (S.take i)).length:=by omega
 have hx:(dd [] (S.take i))[k]∈S.take i:=by
  rcases(iH' (S.take i) [] _).mp (bW hk1)with h|h
  .exact absurd h aA
  .exact h
 obtain⟨j,hj,ej⟩:=cI hx
 have hj2:j<i:=by rw[aQ]at hj;omega
 have hgj:S[j]?=some (dd [] (S.take i))[k]:=by
  rw[<- ej,cF];exact aa _
 refine⟨j,hj2,?_⟩
 rw[iJ' hgj]
 have hk2:k<(dd [] S).length:=by
  have:=List.idxOf_le_length (l:=dd [] S) (a:=S[i]);omega
 have e4:(dd [] (S.take i))[k]=(dd [] S)[k]:=by
  have:(dd [] S)[k]?=(dd [] (S.take i))[k]?:=by
   rw[e3]
   split
   .rw[br hk1]
   .rw[ba,br hk1]
  rw[aa hk1,aa hk2]at this
  exact(Option.some.inj this).symm
 rw[e4]
 exact List.Nodup.idxOf_getElem hnd k hk2
end
def KN (M:List Rm) (c:List Nat):Prop:=c.length=M.length/\Cn c/\∀i j,i<M.length->j<M.length->(cn c i=cn c j↔Bs M i j)
theorem KN.uniq {M:List Rm} {c d:List Nat} (h:KN M c) (k:KN M d):c=d:=
 lZ' h.2.1 k.2.1 (h.1.trans k.1.symm) fun i j hi hj=>(h.2.2 i j (h.1 ▸ hi) (h.1 ▸ hj)).trans (k.2.2 i j (h.1 ▸ hi) (h.1 ▸ hj)).symm
def rf (M:List Rm) (c:List Nat):List Nat:=nmb ((av M.length).map (sg M c))
theorem iK' {M:List Rm} {c:List Nat}:(rf M c).length=M.length:=by unfold rf;rw[fG'];simp
theorem l3' {M:List Rm} {c:List Nat} {i j:Nat} (hi:i<M.length) (hj:j<M.length):cn (rf M c) i=cn (rf M c) j↔sg M c i=sg M c j:=
 r2' (by rw[al,bh hi];rfl) (by rw[al,bh hj];rfl)
theorem wA' {M:List Rm} {c:List Nat}:Cn (rf M c):=wz' _
theorem zu' {M:List Rm} (hO:OkM M) {c:List Nat} (hl:c.length=M.length) (hc:Cn c) (hb:∀a b,Bs M a b->cn c a=cn c b) (h:rf M c=c):KN M c:=by
 refine⟨hl,hc,fun i j hi hj=>⟨fun e=>wx' hO (fun i j hi hj e=>?_) hi hj e,hb i j⟩⟩
 rw[<- l3' hi hj,h]
 exact e
def prs (n:Nat):List (Nat×Nat):=(av n).flatMap fun a=>(av n).map fun b=>(a,b)
theorem hC' {n a b:Nat}:(a,b)∈prs n↔a<n/\b<n:=by
 unfold prs
 simp
def pc (n:Nat) (P:Nat->Nat->Bool):Nat:=(prs n).countP fun p=>P p.1 p.2
theorem di' {α:Type} {p q:α->Bool}:∀{l:List α},(∀x∈l,q x=true->p x=true)->(∃x∈l,p x=true/\q x=false)->l.countP q<l.countP p
 | [],_,h=>by obtain⟨x,hx,_⟩:=h;exact absurd hx aA
 |y :: l,h,k=>by
  have hle:l.countP q<=l.countP p:=List.countP_mono_left fun x hx=>h x (aq _ hx)
  have hy:=h y (aw ..)
  rw[cL,cL]
  obtain⟨x,hx,h1,h2⟩:=k
  rcases au.mp hx with rfl|hx
  .rw[h1,h2];simp;omega
  .have:=di' (fun x hx=>h x (aq _ hx)) ⟨x,hx,h1,h2⟩
   cases hq:q y
   .cases p y<;>simp<;>omega
   .rw[hy hq];simp;omega
theorem zv' {n:Nat} {P R:Nat->Nat->Bool} (h:∀a b,a<n->b<n->R a b=true->P a b=true) {a b:Nat} (ha:a<n) (hb:b<n) (h1:P a b=true) (h2:R a b=false):pc n R<pc n P:=
 di' (fun x hx k=>h x.1 x.2 (hC'.mp hx).1 (hC'.mp hx).2 k) ⟨(a,b),hC'.mpr ⟨ha,hb⟩,h1,h2⟩
def kq (c:List Nat) (a b:Nat):Bool:=decide (cn c a=cn c b)
theorem r3' {M:List Rm} {c:List Nat} (hl:c.length=M.length) (hc:Cn c) (h:rf M c≠c):pc M.length (kq (rf M c))<pc M.length (kq c):=by
 have hfin:∀a b,a<M.length->b<M.length->kq (rf M c) a b=true->kq c a b=true:=by
  intro a b ha hb k
  have:=(l3' ha hb).mp (of_decide_eq_true k)
  exact decide_eq_true (congrArg Prod.fst this)
 by_cases hx:∃a b,a<M.length/\b<M.length/\kq c a b=true/\kq (rf M c) a b=false
 .obtain⟨a,b,ha,hb,h1,h2⟩:=hx
  exact zv' hfin ha hb h1 h2
 .refine absurd (lZ' wA' hc (iK'.trans hl.symm) fun i j hi hj=>?_) h
  rw[iK']at hi hj
  constructor
  .exact fun e=>of_decide_eq_true (hfin i j hi hj (decide_eq_true e))
  .intro e
   by_cases hq:kq (rf M c) i j=true
   .exact of_decide_eq_true hq
   .exact absurd ⟨i,j,hi,hj,decide_eq_true e,by simpa using hq⟩ hx
def c0 (n:Nat):List Nat:=aK n 0
theorem r4' {n i:Nat}:cn (c0 n) i=0:=by
 unfold cn c0
 rw[aF,List.getElem?_replicate]
 split<;>rfl
theorem wB' {n:Nat}:Cn (c0 n):=fun i _ k hk=>by rw[r4']at hk;omega
def Fn (M:List Rm) (c:List Nat):Prop:=c.length=M.length/\Cn c/\∀a b,Bs M a b->cn c a=cn c b
theorem zw' {M:List Rm}:Fn M (c0 M.length):=⟨by simp[c0],wB',fun a b _=>by rw[r4',r4']⟩
theorem zx' {M:List Rm} {c:List Nat} (h:Fn M c):Fn M (rf M c):=⟨iK',wA',fun a b k=>(l3' (hB' M a b k).1 (hB' M a b k).2.1).mpr (rZ' h.2.2 k)⟩
def kt (c:List Nat):Nat->Nat
 |0=>0
 |a+1=>max (kt c a) (cn c a+1)
theorem l4' {c:List Nat} (hc:Cn c):∀{a:Nat},a<=c.length->∀k,k<kt c a↔∃j,j<a/\cn c j=k
 |0,_,k=>by simp[kt]
 |a+1,ha,k=>by
  have ih:=l4' hc (a:=a) ⋯ k
  show k<max (kt c a) (cn c a+1)↔_
  constructor
  .intro h
   by_cases h1:k<kt c a
   .obtain⟨j,hj,e⟩:=ih.mp h1;exact⟨j,⋯,e⟩
   .rcases aY k (cn c a)with h2|h2
    .obtain⟨j,hj,e⟩:=hc a ⋯ k h2;exact⟨j,⋯,e⟩
    .exact⟨a,⋯,⋯⟩
  .rintro⟨j,hj,e⟩
   by_cases h1:j=a
   .subst h1;omega
   .have:=ih.mpr ⟨j,⋯,e⟩;omega
theorem wC' {c:List Nat} (hc:Cn c) {a:Nat} (ha:a<c.length):cn c a<=kt c a:=by
 rcases aY (kt c a) (cn c a)with h|h
 .have:=(l4' hc ⋯ (kt c a)).mpr (hc a ha _ h);omega
 .exact h
theorem oi' {c:List Nat} (hc:Cn c):∀{a:Nat},a<=c.length->kt c a<=a
 |0,_=>ah _
 |a+1,ha=>by
  have h1:=oi' hc (a:=a) ⋯
  have h2:=wC' hc (a:=a) ⋯
  show max _ _<=_
  omega
theorem wD' {c:List Nat} {a:Nat} (h:cn c a=kt c a):kt c (a+1)=kt c a+1:=by show max _ _=_;omega
theorem wE' {c:List Nat} {a:Nat} (h:cn c a<kt c a):kt c (a+1)=kt c a:=by show max _ _=_;omega
theorem hD' {c:List Nat}:∀{n a:Nat},a<n->cn c a<kt c n
 |n+1,a,h=>by
  show _<max _ _
  by_cases e:a=n
  .subst e;omega
  .have:=hD' (c:=c) (n:=n) (a:=a) ⋯;omega
def cl (c:List Nat) (n k:Nat):List Nat:=(av n).filter fun j=>decide (cn c j=k)
theorem dE' {c:List Nat} {n k j:Nat}:j∈cl c n k↔j<n/\cn c j=k:=by unfold cl;simp
theorem r5' {c:List Nat} {n k:Nat}:cl c (n+1) k=cl c n k++if cn c n=k then[n]else[]:=by
 unfold cl
 rw[cw,ci]
 congr 1
 by_cases h:cn c n=k<;>simp[h]
theorem wF' {c:List Nat} {n k:Nat}:(cl c n k).length<=n:=by
 have:=bE (fun j=>decide (cn c j=k)) (av n)
 rw[aV]at this
 exact this
theorem wG' {c:List Nat} (hc:Cn c) {a:Nat} (ha:a<=c.length) {k:Nat} (h:kt c a<=k):cl c a k=[]:=by
 refine List.eq_nil_iff_forall_not_mem.mpr fun j hj=>?_
 obtain⟨h1,h2⟩:=dE'.mp hj
 have:=(l4' hc ha k).mpr ⟨j,h1,h2⟩
 omega
def rp (c:List Nat) (n k:Nat):Nat:=(cl c n k).headD 0
theorem r6' {c:List Nat} {n j:Nat} (hj:j<n):rp c n (cn c j)<n/\cn c (rp c n (cn c j))=cn c j/\(cl c n (cn c j))[0]?=some (rp c n (cn c j)):=by
 have hm:j∈cl c n (cn c j):=dE'.mpr ⟨hj,rfl⟩
 unfold rp
 cases e:cl c n (cn c j)with
 |nil=>rw[e]at hm;exact absurd hm aA
 |cons x r=>
  have:x∈cl c n (cn c j):=by rw[e];exact aw ..
  obtain⟨h1,h2⟩:=dE'.mp this
  exact⟨h1,h2,rfl⟩
def eK' (c:List Nat):List (List Nat):=(av (kt c c.length)).map (cl c c.length)
def lr (M:List Rm) (c:List Nat) (r:Nat):Rm:=(ap c (dr M r).1,ap c (dr M r).2)
def ls (M:List Rm) (c:List Nat):List Rm:=(av (kt c M.length)).map fun k=>lr M c (rp c M.length k)
theorem pt' {M:List Rm} {c:List Nat}:(ls M c).length=kt c M.length:=by unfold ls;simp
theorem zy' {M:List Rm} (hO:OkM M) {c:List Nat} (hc:Cn c) (hl:c.length=M.length):OkM (ls M c):=by
 intro r hr
 rw[pt']
 obtain⟨k,hk,rfl⟩:=aP.mp hr
 rw[aI]at hk
 obtain⟨j,hj,rfl⟩:=(l4' hc ⋯ k).mp hk
 have o:=lY' hO (r6' (c:=c) hj).1
 constructor
 .intro n hn
  show n<_
  obtain⟨e,he,rfl⟩:=aW.mp hn
  exact hD' (o.1 e he)
 .intro n hn
  obtain⟨e,he,rfl⟩:=aW.mp hn
  exact hD' (o.2 e he)
def SgV (H:Hp) (v:V) (s:Sgn):Prop:=∃p,v=.ref p/\H p=some (.tup [.int s.1,oV s.2.1,oV s.2.2])
theorem SgV.mono {H H':Hp} (t:aC' H H') {v:V} {s:Sgn} (h:SgV H v s):SgV H' v s:=let⟨p,e,q⟩:=h;⟨p,e,t _ _ q⟩
def ko:Option Nat->Key
 |none=>.non
 |some n=>.inl (n:Int)
theorem pu':∀{o p:Option Nat},ko o=ko p->o=p
 |none,none,_=>rfl
 |some a,some b,h=>by
  injection h with h
  have:a=b:=by omega
  rw[this]
 |none,some _,h=>by cases h
 |some _,none,h=>by cases h
def ky (s:Sgn):List Key:=[.inl (s.1:Int),ko s.2.1,ko s.2.2]
theorem wH' {s t:Sgn} (h:ky s=ky t):s=t:=by
 unfold ky at h
 obtain⟨h1,h⟩:=List.cons.inj h
 obtain⟨h2,h⟩:=List.cons.inj h
 obtain⟨h3,h⟩:=List.cons.inj h
 injection h1 with h1
 have e1:s.1=t.1:=by omega
 exact Prod.ext e1 (Prod.ext (pu' h2) (pu' h3))
theorem wI' {o:Option Nat}:L2.kV (ko o)=oV o:=by cases o<;>rfl
theorem l5' {s:Sgn}:(ky s).map L2.kV=[.int s.1,oV s.2.1,oV s.2.2]:=by
 show[_,L2.kV (ko _),L2.kV (ko _)]=_
 rw[wI',wI'];rfl
def DS (kv:List (List Key×V)) (ks:List Sgn):Prop:=kv.length=ks.length/\∀s,cp' kv (ky s)=if s∈ks then some (.int (ix ks s:Nat))else none
theorem wJ':DS [] []:=⟨rfl,fun s=>by simp[cp']⟩
theorem DS.put {kv:List (List Key×V)} {ks:List Sgn} (h:DS kv ks) {s:Sgn} (hs:s∉ks):DS (eA' kv (ky s) (.int (kv.length:Nat))) (ks++[s]):=by
 have hn:cp' kv (ky s)=none:=by rw[h.2,if_neg hs]
 refine⟨by rw[fj' _ hn];simp[h.1],fun t=>?_⟩
 rw[mW']
 by_cases e:t=s
 .subst e
  rw[if_pos rfl,if_pos (by simp),pr',if_neg hs,wy',h.1]
  rfl
 .rw[if_neg (fun z=>e (wH' z)),h.2]
  by_cases hm:t∈ks
  .rw[if_pos hm,if_pos (by simp[hm]),pr',if_pos hm]
  .rw[if_neg hm,if_neg (by simp[hm,e])]
theorem wK' (S:List Sgn):∀ks,(dd ks S).length<=ks.length+S.length:=by
 induction S with
 |nil=>intro ks;exact ah _
 |cons s r ih=>
  intro ks
  have:=ih (if s∈ks then ks else ks++[s])
  unfold dd
  split at this
  .rw[if_pos ‹_›];simp;omega
  .rw[if_neg ‹_›];simp at this ⊢;omega
def gy':Sp:=fun vs H Q _=>∃(A:Addr) (xs:List V) (S:List Sgn),vs=[.ref A]/\H A=some (.lst xs)/\bv' (SgV H) xs S/\S.length<=100/\
 ∀(l:Addr) (H':Hp),H l=none->aC' H H'->H' l=some (.lst ((nmb S).map nV))->Q (.ref l) H'
theorem l6' {C:Rc} (hN:C.N.length=3):∀vs H Q E,gy' vs H Q E->tSs C bE' { nx:=fun _ H'=>Q .non H',rt:=Q } (L2.aF' C.N vs) H:=by
 intro vs H Q E h
 obtain⟨A,xs,S,rfl,hA,hxs,hS,q⟩:=h
 rw[an' hN]
 unfold bE'
 have hl:=hxs.len
 symm
 intro d hd
 have s1:=ac' hd (.dT [])
 have hd1:upd H d (.dT []) d=some (.dT []):=ab'
 generalize upd H d (.dT [])=H1 at s1 hd1 ⊢
 symm
 refine as' (SqL.of (s1 _ _ hA)) (fw' (fun i σ H'=>(∃x2,σ=[some (.ref A),some (.ref d),x2])/\aC' H H'/\∃kv,H' d=some (.dT kv)/\DS kv (dd [] (S.take i))) ⟨⟨_,rfl⟩,s1,[],hd1,wJ'⟩ (fun i σ H' _ pv=>SqL.of (pv.2.1 _ _ hA)) ?_ ?_)
 .rintro i v σ H2 hv ⟨⟨x2,rfl⟩,s2,kv,hd2,hds⟩
  obtain⟨s,hs,p,rfl,hp⟩:=hxs.getL hv
  have hp2:=s2 _ _ hp
  have ht:S.take (i+1)=S.take i++[s]:=by rw[bx,hs];rfl
  have hb:H2 p=some (.tup ((ky s).map L2.kV)):=by rw[l5'];exact hp2
  symm
  refine in' (dH'.t hd2 hb) ?_
  rw[hds.2,if_pos rfl]
  by_cases hm:s∈dd [] (S.take i)
  .rw[if_pos hm]
   show kT _ (.bl false) H2
   symm
   refine⟨⟨_,rfl⟩,s2,kv,hd2,?_⟩
   rw[ht,l0',if_pos hm]
   exact hds
  .rw[if_neg hm]
   show kT _ (.bl true) H2
   symm
   refine nU' (.inl hd2) ?_
   symm
   have hlen:=wK' (S.take i) []
   have hlt:=List.length_take_le i S
   have hk1:=hds.1
   refine⟨d,_,rfl,qe'.t hd2 hb (ag' (by simp at hlen;omega)),?_⟩
   symm
   refine⟨⟨_,rfl⟩,ek' s2 hd,_,ab',?_⟩
   rw[ht,l0',if_neg hm]
   exact hds.put hm
 .rintro σ H2 ⟨⟨x2,rfl⟩,s2,kv,hd2,hds⟩
  rw[hl,bm]at hds
  symm
  refine as' (SqL.of (s2 _ _ hA)) (cF' (vs:=xs) (fun i ys H'=>i<=xs.length/\H'=H2/\ys=((nmb S).take i).map nV) ⟨aL _,rfl,rfl⟩ (fun i ys H' pv=>by rw[pv.2.1];exact SqL.of (s2 _ _ hA)) ?_ ?_)
  .rintro i ys H' v R hv ⟨hi,rfl,rfl⟩ hR
   obtain⟨s,hs,p,rfl,hp⟩:=hxs.getL hv
   have hb:H' p=some (.tup ((ky s).map L2.kV)):=by rw[l5'];exact s2 _ _ hp
   have hil:=ak' hv
   have hmem:s∈dd [] S:=(iH' S [] s).mpr (.inr (az hs))
   symm
   refine⟨d,.int (ix (dd [] S) s:Nat),rfl,?_,?_⟩
   .have:=dH'.t hd2 hb
    rw[hds.2,if_pos hmem]at this
    exact this
   .symm
    refine⟨ag' (by rw[ae,aQ,fG'];omega),hR _ _ ⟨hil,rfl,?_⟩⟩
    rw[bx,r0' hs,aN]
    rfl
  .rintro ys H' ⟨_,rfl,rfl⟩ l hl2
   symm
   refine q l _ (s2.free hl2) (s2.trans (ac' hl2 _)) ?_
   rw[ab',bK (by rw[fG'];omega)]
def LdV (H:Hp) (v:V) (r:Rm):Prop:=∃p,v=.ref p/\H p=some (.lst [oV r.1,oV r.2])
theorem LdV.mono {H H':Hp} (t:aC' H H') {v:V} {r:Rm} (h:LdV H v r):LdV H' v r:=let⟨p,e,q⟩:=h;⟨p,e,t _ _ q⟩
def ups (α:Type) (f:Nat->α) (n:Nat):List α:=(av n).map f
theorem dP' {α:Type} {f:Nat->α} {n:Nat}:ups α f (n+1)=ups α f n++[f n]:=by unfold ups;rw[cw,aN];rfl
theorem cl' {α:Type} {f:Nat->α} {n:Nat}:(ups α f n).length=n:=by unfold ups;simp
theorem l7' {α:Type} {f:Nat->α} {n i:Nat} (h:i<n):(ups α f n)[i]?=some (f i):=by unfold ups;rw[al,bh h];rfl
theorem hE' {H:Hp} {a:Addr} {M:List Rm} (h:IsM H a M):∃vs,H a=some (.tup vs)/\vs.length=M.length/\∀i v,vs[i]?=some v->∃p,v=.ref p/\H p=some (.tup [oV (dr M i).1,oV (dr M i).2]):=by
 obtain⟨vs,ha,hv⟩:=h
 refine⟨vs,ha,hv.len,fun i v hi=>?_⟩
 have hlt:=ak' hi
 rw[hv.len]at hlt
 obtain⟨p,hp,hpt⟩:=hv.get (pp' hlt)
 rw[hi]at hp
 cases hp
 exact⟨p,rfl,hpt⟩
theorem jw' {c d:List Nat} (h:c.map nV=d.map nV):c=d:=by
 refine(List.map_inj_right fun x y e=>?_).mp h
 have:(x:Int)=y:=by injection e
 omega
theorem wL' {a b:List Nat}:LEq (a.map nV) (b.map nV):=by
 intro i x y h1 h2
 rw[al]at h1 h2
 obtain⟨n,_,rfl⟩:=aW.mp h1
 obtain⟨m,_,rfl⟩:=aW.mp h2
 exact .inl ⟨rfl,fun b e=>by cases e⟩
def l8':Sp:=fun vs H Q _=>∃(a L:Addr) (M:List Rm) (c:List Nat),vs=[.ref a,.ref L]/\IsM H a M/\OkM M/\M.length<=60/\H L=some (.lst (c.map nV))/\c.length=M.length/\
 ∀(l:Addr) (H':Hp),H l=none->aC' H H'->H' l=some (.lst ((rf M c).map nV))->Q (.ref l) H'
theorem oj' {C:Rc} (hN:C.N.length=8) (hF:C.fs "numbered"=some gy'):∀vs H Q E,l8' vs H Q E->tSs C b5' { nx:=fun _ H'=>Q .non H',rt:=Q } (L2.aF' C.N vs) H:=by
 intro vs H Q E h
 obtain⟨a,L,M,c,rfl,hM,hO,hM1,hL,hc,q⟩:=h
 rw[an' hN]
 unfold b5'
 obtain⟨ms,hma,hml,hmr⟩:=hE' hM
 symm
 refine bg' (SqT.of hma) (gn' (vs:=ms) (fun i xs H'=>i<=ms.length/\aC' H H'/\bv' (LdV H') xs (ups Rm (lr M c) i)) ⟨aL _,aC'.refl _,trivial⟩ (fun i xs H' pv=>SqT.of (pv.2.1 _ _ hma)) ?_ ?_)
 .rintro i xs H1 v R hv ⟨_,s1,hA⟩ hR
  have hi:=ak' hv
  have hi2:i<M.length:=by omega
  obtain⟨p,rfl,hp⟩:=hmr i v hv
  have o:=lY' hO hi2
  symm
  refine bg' (SqT.of (s1 _ _ hp)) (gn' (vs:=[oV (dr M i).1,oV (dr M i).2]) (fun j ys H'=>j<=2/\H'=H1/\ys=([oV (lr M c i).1,oV (lr M c i).2]).take j) ⟨aL _,rfl,rfl⟩ (fun j ys H' pv=>by rw[pv.2.1];exact SqT.of (s1 _ _ hp)) ?_ ?_)
  .rintro j ys H' v R2 hv2 ⟨hj,rfl,rfl⟩ hR2
   obtain⟨w,rfl,hw,hj2,ht⟩:∃w,v=oV w/\(∀e,w=some e->e<M.length)/\j<2/\([oV (lr M c i).1,oV (lr M c i).2]).take j++[oV (ap c w)]=([oV (lr M c i).1,oV (lr M c i).2]).take (j+1):=by
    match j,hv2 with
    |0,hv2=>cases hv2;exact⟨_,rfl,o.1,⋯,rfl⟩
    |1,hv2=>cases hv2;exact⟨_,rfl,o.2,⋯,rfl⟩
    |j+2,hv2=>cases hv2
   have hyl:(([oV (lr M c i).1,oV (lr M c i).2]:List V).take j).length<sizeLine:=bA (List.length_take_le' ..) (by show 2<sizeLine;decide)
   cases w with
   |none=>
    symm
    exact⟨hyl,hR2 _ _ ⟨⋯,rfl,ht⟩⟩
   |some e=>
    symm
    show ve' C _ _ _ _ false H'
    symm
    refine aO' (SqL.of (s1 _ _ hL)) (v:=nV (cn c e)) (aG' ?_) ?_
    .rw[al,dF' (by rw[hc];exact hw e rfl)];rfl
    symm
    exact⟨hyl,hR2 _ _ ⟨⋯,rfl,ht⟩⟩
  .rintro ys H' ⟨_,rfl,rfl⟩ p5 hp5
   symm
   refine⟨ag' (by have:=hA.len;rw[cl']at this;omega),hR _ _ ⟨hi,s1.trans (ac' hp5 _),?_⟩⟩
   rw[dP']
   refine bv'.snoc (hA.mono fun v w h=>LdV.mono (ac' hp5 _) h) ⟨p5,rfl,?_⟩
   rw[ab']
   rfl
 .rintro xs H1 ⟨_,s1,hA⟩ D hD
  have n2:=ac' hD (.lst xs)
  have s2:=s1.trans n2
  have hD2:upd H1 D (.lst xs) D=some (.lst xs):=ab'
  have hA2:=hA.mono fun v w h=>LdV.mono n2 h
  generalize upd H1 D (.lst xs)=H2 at s2 hD2 hA2 ⊢
  rw[hml]at hA2
  have hxl:=hA2.len
  rw[cl']at hxl
  have hL2:=s2 _ _ hL
  symm
  refine aj' hF ?_
  symm
  refine q3' (SqL.of hL2) (SqL.of hD2) (vF' (k:=false) (j:=false) (vs:=c.map nV) (ws:=xs) (by rw[ae];omega) (fun i ys H'=>i<=M.length/\aC' H2 H'/\bv' (SgV H') ys (ups Sgn (sg M c) i)) ⟨aL _,aC'.refl _,trivial⟩ (fun i ys H' pv=>⟨SqL.of (pv.2.1 _ _ hL2),SqL.of (pv.2.1 _ _ hD2)⟩) ?_ ?_)
  .rintro i ys H3 x y p R hx hy hp ⟨_,s3,hA3⟩ hR
   have hi:=ak' hy
   obtain⟨r,hr,e,rfl,he⟩:=hA2.getL hy
   rw[l7' ⋯]at hr
   cases hr
   rw[al,dF' ⋯]at hx
   cases hx
   have n4:=ac' hp (.tup [nV (cn c i),.ref e])
   refine vz' (SqT.of ab') (vA' (SqL.of (n4 _ _ (s3 _ _ he))) ?_)
   symm
   refine⟨by show 3<=sizeLine;decide,fun p5 hp5=>?_⟩
   have n5:=ac' hp5 (.tup [nV (cn c i),oV (lr M c i).1,oV (lr M c i).2])
   symm
   refine⟨ag' (by have:=hA3.len;rw[cl']at this;omega),hR _ _ ⟨⋯,s3.trans (n4.trans n5),?_⟩⟩
   rw[dP']
   exact bv'.snoc (hA3.mono fun v w h=>SgV.mono (n4.trans n5) h) ⟨p5,rfl,ab'⟩
  .rintro ys H3 ⟨_,s3,hA3⟩ A hA4
   rw[ae,hc]at hA3
   have n4:=ac' hA4 (.lst ys)
   symm
   refine⟨A,ys,ups Sgn (sg M c) M.length,rfl,ab',hA3.mono fun v w h=>SgV.mono n4 h,by rw[cl'];omega,fun l H5 hl s5 hl5=>?_⟩
   have s25:=s3.trans n4
   symm
   exact q l H5 (s2.free (s25.free hl)) (s2.trans (s25.trans s5)) hl5
def pv':Sp:=fun vs H Q _=>∃(a:Addr) (M:List Rm),vs=[.ref a]/\IsM H a M/\OkM M/\M.length<=60/\
 ∀(l:Addr) (c:List Nat) (H':Hp),H l=none->aC' H H'->KN M c->H' l=some (.lst (c.map nV))->Q (.ref l) H'
theorem r7' {C:Rc} (hN:C.N.length=4) (hF:C.fs "refined"=some l8'):∀vs H Q E,pv' vs H Q E->tSs C aV' { nx:=fun _ H'=>Q .non H',rt:=Q } (L2.aF' C.N vs) H:=by
 intro vs H Q E h
 obtain⟨a,M,rfl,hM,hO,hM1,q⟩:=h
 rw[an' hN]
 unfold aV'
 obtain⟨ms,hma,hml,hmr⟩:=hE' hM
 symm
 refine bg' (SqT.of hma) (gn' (vs:=ms) (fun i xs H'=>i<=ms.length/\H'=H/\xs=(c0 i).map nV) ⟨aL _,rfl,rfl⟩ (fun i xs H' pv=>by rw[pv.2.1];exact SqT.of hma) ?_ ?_)
 .rintro i xs H1 v R hv ⟨_,rfl,rfl⟩ hR
  have hi:=ak' hv
  symm
  refine⟨ag' (by simp[c0];omega),hR _ _ ⟨hi,rfl,?_⟩⟩
  unfold c0
  rw[List.replicate_succ',aN]
  rfl
 .rintro xs H1 ⟨_,rfl,rfl⟩ L hL
  rw[hml]
  have n2:=ac' hL (.lst ((c0 M.length).map nV))
  have hL2:upd H1 L (.lst ((c0 M.length).map nV)) L=some (.lst ((c0 M.length).map nV)):=ab'
  generalize upd H1 L (.lst ((c0 M.length).map nV))=H2 at n2 hL2 ⊢
  symm
  refine aj' hF ?_
  symm
  refine⟨a,L,M,c0 M.length,rfl,hM.mono (ai' n2),hO,hM1,hL2,by simp[c0],fun l H3 hl s3 hl3=>?_⟩
  symm
  refine ii' (fun m σ H'=>∃ln lf c x2,σ=[some (.ref a),some (.ref ln),x2,some (.ref lf)]/\aC' H1 H'/\H1 ln=none/\H1 lf=none/\H' ln=some (.lst (c.map nV))/\H' lf=some (.lst ((rf M c).map nV))/\Fn M c/\m=pc M.length (kq c)) _ ⟨L,l,c0 M.length,_,rfl,n2.trans s3,hL,n2.free hl,s3 _ _ hL2,hl3,zw',rfl⟩ ?_
  rintro m σ H4 ⟨ln,lf,c,x2,rfl,s4,hln,hlf,h1,h2,hfn,rfl⟩
  symm
  refine lo' (SqL.of h2) (SqL.of h1) (fun _=>wL') ?_
  by_cases he:rf M c=c
  .rw[decide_eq_true (by rw[he])]
   symm
   refine ik' ?_
   symm
   exact q ln c H4 hln s4 (zu' hO hfn.1 hfn.2.1 hfn.2.2 he) h1
  .rw[decide_eq_false (fun z=>he (jw' z))]
   symm
   refine ij' ?_
   symm
   refine aj' hF ?_
   symm
   refine⟨a,lf,M,rf M c,rfl,hM.mono (ai' s4),hO,hM1,h2,iK',fun l5 H5 hl5 s5 hl5'=>?_⟩
   symm
   exact⟨_,r3' hfn.1 hfn.2.1 he,lf,l5,rf M c,_,rfl,s4.trans s5,hlf,s4.free hl5,s5 _ _ h2,hl5',zx' hfn,rfl⟩
def KI (H2 H':Hp) (vs:List V) (K:Nat) (F:Nat->List V):Prop:=vs.length=K/\vs.Nodup/\∀k,k<K->∃e,vs[k]?=some (.ref e)/\H2 e=none/\H' e=some (.lst (F k))
theorem KI.keep {H2 H' H'':Hp} {vs:List V} {K:Nat} {F:Nat->List V} (k:KI H2 H' vs K F) (h:∀e o,H2 e=none->H' e=some (.lst o)->H'' e=some (.lst o)):KI H2 H'' vs K F:=
 ⟨k.1,k.2.1,fun i hi=>let⟨e,h1,h2,h3⟩:=k.2.2 i hi;⟨e,h1,h2,h _ _ h2 h3⟩⟩
theorem KI.congr {H2 H':Hp} {vs:List V} {K:Nat} {F G:Nat->List V} (k:KI H2 H' vs K F) (h:∀i,i<K->F i=G i):KI H2 H' vs K G:=
 ⟨k.1,k.2.1,fun i hi=>let⟨e,h1,h2,h3⟩:=k.2.2 i hi;⟨e,h1,h2,by rw[<- h i hi];exact h3⟩⟩
theorem KI.set {H2 H':Hp} {vs:List V} {K:Nat} {F:Nat->List V} (k:KI H2 H' vs K F) {j:Nat} (hj:j<K) {e:Addr} (he:vs[j]?=some (.ref e)) (r:List V):KI H2 (upd H' e (.lst r)) vs K (fun x=>if x=j then r else F x):=by
 refine⟨k.1,k.2.1,fun i hi=>?_⟩
 obtain⟨e',h1,h2,h3⟩:=k.2.2 i hi
 by_cases hij:i=j
 .subst hij
  rw[h1]at he
  injection he with he
  injection he with he
  refine⟨e',h1,h2,?_⟩
  rw[<- he,ab']
  show _=some (HO.lst (if i=i then r else F i))
  rw[if_pos rfl]
 .refine⟨e',h1,h2,?_⟩
  have hne:e'≠e:=by
   intro z
   rw[z]at h1
   exact hij ((List.getElem?_inj (by rw[k.1];exact hi) k.2.1).mp (h1.trans he.symm))
  show upd H' e (.lst r) e'=some (.lst (if i=j then r else F i))
  rw[af' hne,if_neg hij]
  exact h3
theorem KI.push {H2 H':Hp} {vs:List V} {K:Nat} {F:Nat->List V} (k:KI H2 H' vs K F) {e:Addr} (h2:H2 e=none) (he:H' e=some (.lst (F K))) (hn:V.ref e∉vs):KI H2 H' (vs++[.ref e]) (K+1) F:=by
 refine⟨by simp[k.1],?_,fun i hi=>?_⟩
 .rw[cZ]
  exact⟨k.2.1,by simp,fun a ha b hb=>by simp at hb;subst hb;rintro rfl;exact hn ha⟩
 .by_cases hiK:i<K
  .obtain⟨e',h1,h3,h4⟩:=k.2.2 i hiK
   exact⟨e',by rw[br (by rw[k.1];exact hiK)];exact h1,h3,h4⟩
  .have:i=K:=by omega
   subst this
   exact⟨e,by rw[<- k.1];simp,h2,he⟩
theorem KI.fresh {H2 H':Hp} {vs:List V} {K:Nat} {F:Nat->List V} (k:KI H2 H' vs K F) {e:Addr} (h:H' e=none):V.ref e∉vs:=by
 intro m
 obtain⟨i,hi,ei⟩:=cI m
 obtain⟨e',h1,_,h3⟩:=k.2.2 i (by rw[<- k.1];exact hi)
 rw[aa hi,ei]at h1
 cases h1
 rw[h]at h3
 cases h3
def Sb (T:Addr) (H H':Hp):Prop:=∀x o,x≠T->H x=some o->H' x=some o
theorem Sb.same {T:Addr} {H H' H'':Hp} (h:Sb T H H') (s:aC' H' H''):Sb T H H'':=fun x o n e=>s _ _ (h x o n e)
theorem Sb.upd {T:Addr} {H H':Hp} (h:Sb T H H') {a:Addr} {o:HO} (ha:a=T\/H a=none):Sb T H (upd H' a o):=fun x u n e=>by
 rw[af' (fun z=>by subst z;rcases ha with ha|ha;exact n ha;rw[ha]at e;cases e)]
 exact h x u n e
def KL (H0 H:Hp) (l:Addr) (L:List (List Nat)):Prop:=∃vs,H l=some (.lst vs)/\H0 l=none/\KI H0 H vs L.length (fun k=>(L.getD k []).map nV)/\V.ref l∉vs
theorem gz' {c:List Nat}:(eK' c).length=kt c c.length:=by unfold eK';simp
theorem e6' {c:List Nat} {k:Nat} (h:k<kt c c.length):(eK' c).getD k []=cl c c.length k:=by
 unfold eK'
 rw[aF,al,bh h];rfl
def mt':Sp:=fun vs H Q _=>∃(a:Addr) (M:List Rm),vs=[.ref a]/\IsM H a M/\OkM M/\M.length<=60/\
 ∀(l:Addr) (c:List Nat) (H':Hp),KN M c->aC' H H'->KL H H' l (eK' c)->Q (.ref l) H'
theorem r8' {C:Rc} (hN:C.N.length=4) (hF:C.fs "kind_numbers"=some pv'):∀vs H Q E,mt' vs H Q E->tSs C dk' { nx:=fun _ H'=>Q .non H',rt:=Q } (L2.aF' C.N vs) H:=by
 intro vs H Q E h
 obtain⟨a,M,rfl,hM,hO,hM1,q⟩:=h
 rw[an' hN]
 unfold dk'
 symm
 refine⟨by show 0<=sizeLine;decide,fun T hT=>?_⟩
 have n1:=ac' hT (.lst [])
 have hT1:upd H T (.lst []) T=some (.lst []):=ab'
 generalize upd H T (.lst [])=H1 at n1 hT1 ⊢
 symm
 refine aj' hF ?_
 symm
 refine⟨a,M,rfl,hM.mono (ai' n1),hO,hM1,fun L c H2 hL s2 hkn hL2=>?_⟩
 obtain⟨hl,hc,_⟩:=id hkn
 have hT2:=s2 _ _ hT1
 have hLT:L≠T:=fun z=>by subst z;rw[hL]at hT1;cases hT1
 have nT:∀e,H2 e=none->e≠T:=fun e he z=>by subst z;rw[he]at hT2;cases hT2
 symm
 refine ig' (SqL.of hL2) (vE' (xs:=c.map nV) (fun i σ H'=>i<=c.length/\(∃x2 x3,σ=[some (.ref a),some (.ref T),x2,x3])/\Sb T H2 H'/\∃vs,H' T=some (.lst vs)/\KI H2 H' vs (kt c i) (fun k=>(cl c i k).map nV)) ⟨aL _,⟨_,_,rfl⟩,fun x o n e=>e,[],hT2,rfl,cM,fun k hk=>absurd hk (bM _)⟩ (fun i σ H' _ pv=>SqL.of (pv.2.2.1 _ _ hLT hL2)) ?_ ?_)
 .rintro i x σ H3 p hx hp ⟨_,⟨x2,x3,rfl⟩,sb3,us,hT3,hki⟩
  have hi:=ak' hx
  rw[ae]at hi
  rw[al,dF' hi]at hx
  cases hx
  have n4:=ac' hp (.tup [.int i,nV (cn c i)])
  have hp4:upd H3 p (.tup [.int i,nV (cn c i)]) p=some (.tup [.int i,nV (cn c i)]):=ab'
  have hT4:=n4 _ _ hT3
  have sb4:=sb3.same n4
  have hki4:=hki.keep (H'':=upd H3 p (.tup [.int i,nV (cn c i)])) fun e o _ h=>n4 _ _ h
  generalize upd H3 p (.tup [.int i,nV (cn c i)])=H4 at n4 hp4 hT4 sb4 hki4 ⊢
  have hge:=wC' hc hi
  have hle:=oi' hc (a:=i) ⋯
  have hcl:=wF' (c:=c) (n:=i) (k:=cn c i)
  refine dA' (SqT.of hp4) ?_
  symm
  refine bI' (SqL.of hT4) ?_
  symm
  have hlen:=hki.1
  show cd' C.K .Eq (.int ((cn c i:Nat):Int)) _ H4 _
  rw[Ac']
  have fin:∀(H5:Hp) (us5:List V) (K:Nat),Sb T H2 H5->H5 T=some (.lst us5)->KI H2 H5 us5 K (fun k=>(cl c i k).map nV)->K=kt c (i+1)->∀e,us5[cn c i]?=some (.ref e)->H2 e=none->H5 e=some (.lst ((cl c i (cn c i)).map nV))->
    (i+1<=c.length/\(∃y2 y3,[some (V.ref a),some (.ref T),some (.int i),some (nV (cn c i))]=[some (V.ref a),some (.ref T),y2,y3])/\Sb T H2 (upd H5 e (.lst ((cl c i (cn c i)).map nV++[.int i])))/\∃vs,upd H5 e (.lst ((cl c i (cn c i)).map nV++[.int i])) T=some (.lst vs)/\KI H2 (upd H5 e (.lst ((cl c i (cn c i)).map nV++[.int i]))) vs (kt c (i+1)) (fun k=>(cl c (i+1) k).map nV)):=by
   intro H5 us5 K sb5 hT5 hki5 hK e he h2e h5e
   refine⟨hi,⟨_,_,rfl⟩,sb5.upd (.inr h2e),us5,by rw[af' (Ne.symm (nT e h2e))];exact hT5,?_⟩
   rw[<- hK]
   refine(hki5.set (j:=cn c i) (by rw[hK];exact hD' (de i)) he ((cl c i (cn c i)).map nV++[.int i])).congr fun k hk=>?_
   rw[r5',aN]
   by_cases hki:k=cn c i
   .rw[if_pos hki,if_pos hki.symm,hki];rfl
   .rw[if_neg hki,if_neg (Ne.symm hki)];simp
  by_cases hnew:cn c i=kt c i
  .rw[decide_eq_true (show((cn c i:Nat):Int)=(us.length:Nat) by omega)]
   symm
   refine⟨tyL hT4 rfl,by show 0<=sizeLine;decide,fun e he=>?_⟩
   have n5:=ac' he (.lst [])
   have he5:upd H4 e (.lst []) e=some (.lst []):=ab'
   have h2e:H2 e=none:=by
    cases h:H2 e with
    |none=>rfl
    |some o=>rw[sb4 e o (fun z=>by subst z;rw[hT4]at he;cases he) h]at he;cases he
   have hT5:=n5 _ _ hT4
   have sb5:=sb4.same n5
   have hki5:=hki4.keep (H'':=upd H4 e (.lst [])) fun x o _ h=>n5 _ _ h
   have hne:=hki4.fresh he
   generalize upd H4 e (.lst [])=H5 at n5 he5 hT5 sb5 hki5 ⊢
   symm
   refine cG' hT5 (ag' ⋯) ?_
   have hT6:upd H5 T (.lst (us++[.ref e])) T=some (.lst (us++[.ref e])):=ab'
   have sb6:=sb5.upd (a:=T) (o:=.lst (us++[.ref e])) (.inl rfl)
   have he6:upd H5 T (.lst (us++[.ref e])) e=some (.lst []):=by rw[af' (nT e h2e)];exact he5
   have hcl0:cl c i (kt c i)=[]:=wG' hc ⋯ (ah _)
   have hki6:KI H2 (upd H5 T (.lst (us++[.ref e]))) (us++[.ref e]) (kt c i+1) (fun k=>(cl c i k).map nV):=(hki5.keep fun x o h2 h=>by rw[af' (nT x h2)];exact h).push h2e (by rw[he6,hcl0];rfl) hne
   generalize upd H5 T (.lst (us++[.ref e]))=H6 at hT6 sb6 he6 hki6 ⊢
   symm
   have hget:(us++[V.ref e])[cn c i]?=some (.ref e):=by rw[hnew,<- hlen];simp
   refine aO' (SqL.of hT6) (v:=.ref e) (aG' hget) ?_
   symm
   have he7:H6 e=some (.lst ((cl c i (cn c i)).map nV)):=by rw[hnew,hcl0];exact he6
   refine⟨tyL he7 rfl,?_⟩
   symm
   refine cG' he7 (ag' (by rw[ae];omega)) ?_
   symm
   exact fin H6 _ _ sb6 hT6 hki6 (wD' hnew).symm e hget h2e he7
  .rw[decide_eq_false (show ¬((cn c i:Nat):Int)=(us.length:Nat) by omega)]
   symm
   have hlt:cn c i<kt c i:=by omega
   obtain⟨e,hget,h2e,he⟩:=hki4.2.2 _ hlt
   refine aO' (SqL.of hT4) (v:=.ref e) (aG' hget) ?_
   symm
   refine⟨tyL he rfl,?_⟩
   symm
   refine cG' he (ag' (by rw[ae];omega)) ?_
   symm
   exact fin H4 _ _ sb4 hT4 hki4 (wE' hlt).symm e hget h2e he
 .rintro σ H3 ⟨_,⟨x2,x3,rfl⟩,sb3,us,hT3,hki⟩
  rw[ae]at hki
  symm
  have s03:aC' H H3:=fun x o h=>sb3 x o (fun z=>by subst z;rw[hT]at h;cases h) (s2 _ _ (n1 _ _ h))
  refine q T c H3 hkn s03 ⟨us,hT3,hT,?_,fun m=>?_⟩
  .rw[gz']
   have:KI H H3 us (kt c c.length) (fun k=>(cl c c.length k).map nV):=⟨hki.1,hki.2.1,fun k hk=>let⟨e,h1,h2,h3⟩:=hki.2.2 k hk;⟨e,h1,n1.free (s2.free h2),h3⟩⟩
   exact this.congr fun k hk=>by rw[e6' hk]
  .obtain⟨j,hj,ej⟩:=cI m
   obtain⟨e,h1,h2,_⟩:=hki.2.2 j (by rw[<- hki.1];exact hj)
   rw[aa hj,ej]at h1
   cases h1
   exact nT _ h2 rfl
theorem iL' {c:List Nat} (hc:Cn c) {k:Nat} (hk:k<kt c c.length):rp c c.length k<c.length/\(cl c c.length k)[0]?=some (rp c c.length k):=by
 obtain⟨j,hj,rfl⟩:=(l4' hc (ah _) k).mp hk
 have:=r6' (c:=c) hj
 exact⟨this.1,this.2.2⟩
def r9':Sp:=fun vs H Q _=>∃(a:Addr) (M:List Rm),vs=[.ref a]/\IsM H a M/\OkM M/\M.length<=60/\
 ∀(p m l:Addr) (c:List Nat) (H':Hp),KN M c->aC' H H'->H l=none->H' p=some (.tup [.ref m,.ref l])->IsM H' m (ls M c)->H' l=some (.lst (c.map nV))->Q (.ref p) H'
theorem sa' {C:Rc} (hN:C.N.length=7) (hF:C.fs "kind_numbers"=some pv') (hG:C.fs "kinds"=some mt'):∀vs H Q E,r9' vs H Q E->tSs C bG' { nx:=fun _ H'=>Q .non H',rt:=Q } (L2.aF' C.N vs) H:=by
 intro vs H Q E h
 obtain⟨a,M,rfl,hM,hO,hM1,q⟩:=h
 rw[an' hN]
 unfold bG'
 obtain⟨ms,hma,hml,hmr⟩:=hE' hM
 symm
 refine aj' hF ?_
 symm
 refine⟨a,M,rfl,hM,hO,hM1,fun L c H1 hL s1 hkn hL1=>?_⟩
 obtain⟨hl,hc,_⟩:=id hkn
 symm
 refine aj' hG ?_
 symm
 refine⟨a,M,rfl,hM.mono (ai' s1),hO,hM1,fun T c' H2 hkn' s2 hkl=>?_⟩
 have:=hkn'.uniq hkn
 subst this
 obtain⟨us,hT,_,hki,_⟩:=hkl
 rw[gz']at hki
 have s02:=s1.trans s2
 symm
 refine as' (SqL.of hT) (cF' (vs:=us) (fun i xs H'=>i<=us.length/\H'=H2/\xs=ups V (fun k=>ms.getD (rp c' c'.length k) .non) i) ⟨aL _,rfl,rfl⟩ (fun i xs H' pv=>by rw[pv.2.1];exact SqL.of hT) ?_ ?_)
 .rintro i xs H' v R hv ⟨_,rfl,rfl⟩ hR
  have hi:=ak' hv
  have hik:i<kt c' c'.length:=by rw[<- hki.1];exact hi
  obtain⟨e,he,_,hel⟩:=hki.2.2 i hik
  rw[hv]at he
  cases he
  obtain⟨r1,r2⟩:=iL' hc hik
  have hle:=oi' hc (ah c'.length)
  have hg:ms[rp c' c'.length i]?=some (ms.getD (rp c' c'.length i) .non):=by
   rw[aF,aa (by rw[hml,<- hl];exact r1)];rfl
  have hel:H' e=some (.lst ((cl c' c'.length i).map nV)):=by rw[<- e6' hik];exact hel
  symm
  refine aO' (SqL.of hel) (v:=nV (rp c' c'.length i)) (aG' (j:=0) (by rw[al,r2];rfl)) ?_
  symm
  refine bh' (SqT.of (s02 _ _ hma)) (v:=ms.getD (rp c' c'.length i) .non) (aG' (j:=rp c' c'.length i) hg) ?_
  symm
  refine⟨ag' (by rw[cl'];omega),hR _ _ ⟨hi,rfl,?_⟩⟩
  rw[dP']
 .rintro xs H' ⟨_,rfl,rfl⟩ F hF3
  rw[hki.1]
  have n3:=ac' hF3 (.lst (ups V (fun k=>ms.getD (rp c' c'.length k) .non) (kt c' c'.length)))
  have hF4:upd H' F (.lst (ups V (fun k=>ms.getD (rp c' c'.length k) .non) (kt c' c'.length))) F=some (.lst (ups V (fun k=>ms.getD (rp c' c'.length k) .non) (kt c' c'.length))):=ab'
  have s03:=s02.trans n3
  have hL3:=n3 _ _ (s2 _ _ hL1)
  generalize upd H' F (.lst (ups V (fun k=>ms.getD (rp c' c'.length k) .non) (kt c' c'.length)))=H3 at n3 hF4 s03 hL3 ⊢
  have hle:=oi' hc (ah c'.length)
  symm
  refine as' (SqL.of hF4) (cF' (vs:=ups V (fun k=>ms.getD (rp c' c'.length k) .non) (kt c' c'.length)) (fun i xs H'=>i<=kt c' c'.length/\aC' H3 H'/\bs' H' xs (ups Rm (fun k=>lr M c' (rp c' M.length k)) i)) ⟨aL _,aC'.refl _,trivial⟩ (fun i xs H' pv=>SqL.of (pv.2.1 _ _ hF4)) ?_ ?_)
  .rintro i xs H4 v R hv ⟨_,s4,hA⟩ hR
   have hi:=ak' hv
   rw[cl']at hi
   rw[l7' hi]at hv
   obtain⟨r1,r2⟩:=iL' hc hi
   have hrM:rp c' c'.length i<M.length:=by rw[<- hl];exact r1
   have hg:ms[rp c' c'.length i]?=some v:=by
    rw[<- hv,aF,aa (by rw[hml];exact hrM)];rfl
   obtain⟨p,rfl,hp⟩:=hmr _ v hg
   have s04:=s03.trans s4
   have hp4:=s04 _ _ hp
   have o:=lY' hO hrM
   generalize hr:rp c' c'.length i=r at *
   symm
   refine bg' (SqT.of hp4) (gn' (vs:=[oV (dr M r).1,oV (dr M r).2]) (fun j ys H'=>j<=2/\H'=H4/\ys=([oV (lr M c' r).1,oV (lr M c' r).2]).take j) ⟨aL _,rfl,rfl⟩ (fun j ys H' pv=>by rw[pv.2.1];exact SqT.of hp4) ?_ ?_)
   .rintro j ys H' v R2 hv2 ⟨hj,rfl,rfl⟩ hR2
    obtain⟨w,rfl,hw,hj2,ht⟩:∃w,v=oV w/\(∀e,w=some e->e<M.length)/\j<2/\([oV (lr M c' r).1,oV (lr M c' r).2]).take j++[oV (ap c' w)]=([oV (lr M c' r).1,oV (lr M c' r).2]).take (j+1):=by
     match j,hv2 with
     |0,hv2=>cases hv2;exact⟨_,rfl,o.1,⋯,rfl⟩
     |1,hv2=>cases hv2;exact⟨_,rfl,o.2,⋯,rfl⟩
     |j+2,hv2=>cases hv2
    have hyl:(([oV (lr M c' r).1,oV (lr M c' r).2]:List V).take j).length<sizeLine:=bA (List.length_take_le' ..) (by show 2<sizeLine;decide)
    cases w with
    |none=>
     symm
     exact⟨hyl,hR2 _ _ ⟨⋯,rfl,ht⟩⟩
    |some e=>
     symm
     show ve' C _ _ _ _ false H'
     symm
     refine aO' (SqL.of (s4 _ _ hL3)) (v:=nV (cn c' e)) (aG' ?_) ?_
     .rw[al,dF' (by rw[hl];exact hw e rfl)];rfl
     symm
     exact⟨hyl,hR2 _ _ ⟨⋯,rfl,ht⟩⟩
   .rintro ys H' ⟨_,rfl,rfl⟩ p5 hp5
    have n5:=ac' hp5 (.lst [oV (lr M c' r).1,oV (lr M c' r).2])
    symm
    refine bU' (xs:=[oV (lr M c' r).1,oV (lr M c' r).2]) (SqL.of ab') fun p7 hp7=>?_
    have n7:=ac' hp7 (.tup [oV (lr M c' r).1,oV (lr M c' r).2])
    symm
    refine⟨ag' (by have:=hA.len;rw[cl']at this;omega),hR _ _ ⟨hi,s4.trans (n5.trans n7),?_⟩⟩
    rw[dP']
    refine bs'.snoc ⟨p7,rfl,?_⟩ (hA.mono (ai' (n5.trans n7)))
    rw[ab',<- hl,hr]
  .rintro xs H4 ⟨_,s4,hA⟩ D hD
   rw[cl']at hA
   have n5:=ac' hD (.lst xs)
   have hD5:upd H4 D (.lst xs) D=some (.lst xs):=ab'
   have hA5:=hA.mono (ai' n5)
   have hL5:=n5 _ _ (s4 _ _ hL3)
   have s05:=s03.trans (s4.trans n5)
   generalize upd H4 D (.lst xs)=H5 at n5 hD5 hA5 hL5 s05 ⊢
   symm
   refine bU' (SqL.of hD5) fun m hm=>?_
   have n6:=ac' hm (.tup xs)
   have hm6:upd H5 m (.tup xs) m=some (.tup xs):=ab'
   have hA6:=hA5.mono (ai' n6)
   have hL6:=n6 _ _ hL5
   have s06:=s05.trans n6
   generalize upd H5 m (.tup xs)=H6 at n6 hm6 hA6 hL6 s06 ⊢
   symm
   refine⟨by show 2<=sizeLine;decide,fun p hp=>?_⟩
   have n7:=ac' hp (.tup [.ref m,.ref L])
   symm
   refine q p m L c' _ hkn (s06.trans n7) hL ab' ⟨xs,n7 _ _ hm6,?_⟩ (n7 _ _ hL6)
   have e:ls M c'=ups Rm (fun k=>lr M c' (rp c' M.length k)) (kt c' c'.length):=by unfold ls ups;rw[hl]
   rw[e]
   exact hA6.mono (ai' n7)
def ds:Nat->Rm->Option Nat
 |0,r=>r.1
 |_+1,r=>r.2
def rw' (n:Nat) (T:Nat->Nat->Bool) (x:Nat):List V:=ups V (fun y=>V.bl (T x y)) n
def t0 (M:List Rm) (x y:Nat):Bool:=(dr M x).1.isNone == (dr M y).1.isNone
def rQ':Sp:=fun vs H Q _=>∃(a:Addr) (M:List Rm),vs=[.ref a]/\IsM H a M/\OkM M/\M.length<=60/\
 ∀(l:Addr) (c:List Nat) (H':Hp),KN M c->aC' H H'->KL H H' l (eK' c)->Q (.ref l) H'
theorem wM' {x y:Nat}:eqV (nV x) (nV y)=decide (x=y):=by
 unfold nV
 show((x:Int) == (y:Int))=_
 by_cases h:x=y
 .subst h;simp
 .rw[decide_eq_false h,beq_eq_false_iff_ne]
  omega
theorem pw' {x:Nat}:∀{bs:List Nat},inV (nV x) (bs.map nV)=decide (x∈bs)
 | []=>rfl
 |b :: bs=>by
  have ih:=pw' (x:=x) (bs:=bs)
  unfold inV at ih ⊢
  rw[aJ,cA,ih,wM']
  by_cases h:b=x
  .subst h;simp
  .have h':¬x=b:=fun z=>h z.symm
   simp[h,h']
theorem sb' {bs:List Nat}:(bs.map nV).all fe'=true:=by
 rw[bV]
 intro v hv
 obtain⟨n,_,rfl⟩:=aP.mp hv
 rfl
def DL (H:Hp) (D:Addr) (L:List (List Nat)):Prop:=∃vs,H D=some (.lst vs)/\vs.length=L.length/\∀k v,vs[k]?=some v->∃e,v=.ref e/\H e=some (.lst ((L.getD k []).map nV))
theorem KL.dl {H0 H:Hp} {D:Addr} {L:List (List Nat)} (h:KL H0 H D L):DL H D L:=by
 obtain⟨vs,h1,_,h3,_⟩:=h
 refine⟨vs,h1,h3.1,fun k v hv=>?_⟩
 have hk:=ak' hv
 rw[h3.1]at hk
 obtain⟨e,k1,_,k3⟩:=h3.2.2 k hk
 rw[hv]at k1
 exact⟨e,Option.some.inj k1,k3⟩
def sc':Sp:=fun vs H Q _=>∃(a:Addr) (M:List Rm),vs=[.ref a]/\IsM H a M/\OkM M/\1<=M.length/\M.length<=60/\∀H',aC' H H'->Q (.bl true) H'
structure FsLaw (C:Rc):Prop where
 box:C.fs "_law_box"=some (fz' C.K)
 any:C.fs "_law_any"=some fA'
 same:C.fs "_law_same"=some (ip' 3)
 ki:C.fs "kinds"=some mt'
 ls:C.fs "lessened"=some r9'
 right:C.fs "_law_right"=some sc'
end K15
namespace K16
open PySem PySem.Spec PyProof.Rows L2 R3 LW
def fH':List Str:=["machine","room","row","here","bit"]
def dQ':List Str:=["int"]
def dw':List Str:=["machine","row","room"]
def cz':List Str:=["len","range"]
def cV':List Str:=["machine","rooms","inside","led_to","room","lead"]
def b6':List Str:=["set"]
def cW':List Str:=["machine","numbers","anew","at","room"]
def b7':List Str:=["enumerate","tuple"]
def cX':List Str:=["machine","numbers","fewer"]
def b8':List Str:=["len","list","range"]
def dl':List Str:=["_law_script","_law_k"]
def cm':List Str:=["len"]
def ok':List Str:=["_law_script","_law_k","_law_cell"]
def l9':List Str:=["abs","int"]
def ma':List Str:=["_law_box_here","_law_many_here","_law_found","_law_once","_law_twice"]
def iM':List Str:=[]
def mb':List Str:=["_law_box_here","_law_least","_law_few","_law_most"]
def iN':List Str:=[]
def ez':List Str:=["_law_box_here","_law_many_here","_law_often","_law_rooms","_law_k","_law_doors","_law_bit","_law_to"]
def dm':List Str:=["int","range","tuple"]
def bL':List Str:=["_law_box_here","_law_many_here","_law_order","_law_k","_law_rooms","_law_at","_law_room","_law_on","_law_other"]
def a9':List Str:=["enumerate","int","range","tuple"]
def fI':List Str:=["_law_box_here","_law_machine_here","_law_mixed","_law_room","_law_turn","_law_rooms","_law_ends","_law_end","_law_some","_law_k","_law_one"]
def dR':List Str:=["enumerate","len","range","tuple"]
def mc':List Str:=["_law_box_here","_law_many_here","_law_bit","_law_last","_law_ends","_law_end"]
def iO':List Str:=["list","range","tuple"]
def sd':List Str:=["_law_box_here","_law_way"]
def ol':List Str:=[]
def md':List Str:=["_law_box_here","_law_many_here","_law_k"]
def iP':List Str:=["range"]
def fJ':List Str:=["_law_box_here","_law_machine_here","_law_room","_law_many_here","_law_row","_law_k","_law_some","_law_bit"]
def dS':List Str:=["len","range"]
def bM':List Str:=["_law_machine_here","_law_row","_law_less","_law_numbers","_law_part","_law_rooms","_law_room","_law_end"]
def ba':List Str:=["len","range"]
def bb':Css:=(.cons (.asg (.tup (.cons (.name 2) (.cons (.name 3) .nil))) (.call "lessened" (.cons (.var 0) .nil)))
  (.cons (.asg (.tup (.cons (.name 4) (.cons (.name 5) .nil))) (.call "trimmed" (.cons (.var 0) .nil)))
  (.cons (.for_ (.name 6) (.range1 (.blt .len (.cons (.var 0) .nil))) (.cons (.asg (.name 7) (.call "walk" (.cons (.var 0) (.cons (.var 6) (.cons (.var 1) .nil)))))
  (.cons (.ite (.cmp .NotEq (.call "walk" (.cons (.var 2) (.cons (.idx (.var 3) (.var 6)) (.cons (.var 1) .nil)))) (.ife (.cmp .Is (.var 7) .non) .non (.idx (.var 3) (.var 7)))) (.cons (.ret (.bl false))
  .nil) .nil)
  (.cons (.ite (.and (.cmp .In (.var 6) (.var 5)) (.and (.cmp .In (.var 7) (.var 5)) (.cmp .NotEq (.call "walk" (.cons (.var 4) (.cons (.met .indexL (.var 5) (.cons (.var 6) .nil)) (.cons (.var 1) .nil)))) (.met .indexL (.var 5) (.cons (.var 7) .nil))))) (.cons (.ret (.bl false))
  .nil) .nil)
  (.cons (.ite (.cmp .NotEq (.cmp .In (.var 6) (.call "starts" (.cons (.var 0) (.cons (.var 1) .nil)))) (.cmp .IsNot (.var 7) .non)) (.cons (.ret (.bl false))
  .nil) .nil)
  .nil)))))
  (.cons (.ret (.cmp .LtE (.blt .len (.cons (.call "starts" (.cons (.var 4) (.cons (.var 1) .nil))) .nil)) (.blt .len (.cons (.call "starts" (.cons (.var 0) (.cons (.var 1) .nil))) .nil))))
  .nil))))
def fK':List Str:=["_law_machine_here","_law_row","_law_at","_law_first","_law_second","_law_room","_law_due","_law_part","_law_end","_law_rest","_law_last"]
def dT':List Str:=["len","range"]
def dU':Css:=(.cons (.par 3 4 (.call "powered" (.cons (.var 0) (.cons (.var 2) .nil))) (.call "powered" (.cons (.var 0) (.cons (.bin .Sub (.blt .len (.cons (.var 1) .nil)) (.var 2)) .nil))))
  (.cons (.for_ (.name 5) (.range1 (.blt .len (.cons (.var 0) .nil))) (.cons (.asg (.name 6) .non)
  (.cons (.for_ (.tup (.cons (.name 7) (.cons (.name 8) .nil))) (.val (.idx (.var 3) (.var 5))) (.cons (.for_ (.tup (.cons (.name 9) (.cons (.name 10) .nil))) (.val (.idx (.var 4) (.var 8))) (.cons (.ite (.cmp .Eq (.bin .Add (.var 7) (.var 9)) (.var 1)) (.cons (.asg (.name 6) (.var 10))
  .nil) .nil)
  .nil))
  .nil))
  (.cons (.ite (.cmp .NotEq (.call "walk" (.cons (.var 0) (.cons (.var 5) (.cons (.var 1) .nil)))) (.var 6)) (.cons (.ret (.bl false))
  .nil) .nil)
  .nil))))
  (.cons (.ret (.bl true))
  .nil)))
def b9':List Str:=["_law_machine_here","_law_a","_law_b","_law_row","_law_same","_law_some","_law_ends","_law_at"]
def bk':List Str:=["all","len","range"]
def bl':Css:=(.cons (.asg (.name 3) (.call "apart" (.cons (.var 0) (.cons (.var 1) (.cons (.var 0) (.cons (.var 2) .nil))))))
  (.cons (.asg (.name 4) (.comp (.var 5) [5] (.name 5) (.val (.call "kinds" (.cons (.var 0) .nil))) (.some (.and (.cmp .In (.var 1) (.var 5)) (.cmp .In (.var 2) (.var 5)))) .nil))
  (.cons (.ite (.or (.cmp .Is (.var 3) .non) (.cmp .NotEq (.var 4) (.lst .nil))) (.cons (.ret (.and (.cmp .Is (.var 3) .non) (.cmp .Eq (.blt .len (.cons (.var 4) .nil)) (.int 1))))
  .nil) .nil)
  (.cons (.asg (.name 6) (.lst (.cons (.call "walk" (.cons (.var 0) (.cons (.var 1) (.cons (.var 3) .nil)))) (.cons (.call "walk" (.cons (.var 0) (.cons (.var 2) (.cons (.var 3) .nil)))) .nil))))
  (.cons (.ite (.cmp .NotEq (.met .countL (.var 6) (.cons .non .nil)) (.int 1)) (.cons (.ret (.bl false))
  .nil) .nil)
  (.cons (.ret (.blt .all (.cons (.comp (.cmp .NotIn .non (.tup (.cons (.call "walk" (.cons (.var 0) (.cons (.var 1) (.cons (.cut (.var 3) .none (.some (.var 7))) .nil)))) (.cons (.call "walk" (.cons (.var 0) (.cons (.var 2) (.cons (.cut (.var 3) .none (.some (.var 7))) .nil)))) .nil)))) [7] (.name 7) (.range1 (.blt .len (.cons (.var 3) .nil))) .none .nil) .nil)))
  .nil))))))
def om':List Str:=["_law_script","_law_k","_law_box_here","_law_machine_here","_law_room","_law_row","_law_turn","_law_endless","_law_ring","_law_one"]
def me':List Str:=["all","len","range"]
def on':Css:=(.cons (.for_ (.name 1) (.range1 (.int 6)) (.cons (.asg (.name 2) (.call "_law_box" (.cons (.var 0) (.cons (.var 1) .nil))))
  (.cons (.asg (.name 3) (.call "_law_any" (.cons (.var 2) .nil)))
  (.cons (.asg (.name 4) (.call "_law_take" (.cons (.var 2) (.cons (.blt .len (.cons (.var 3) .nil)) .nil))))
  (.cons (.for_ (.name 5) (.val (.lst (.cons (.call "_law_walked" (.cons (.var 2) (.cons (.var 3) (.cons (.var 4) (.cons (.int 12) .nil))))) (.cons (.bin .Add (.call "_law_walked" (.cons (.var 2) (.cons (.var 3) (.cons (.var 4) (.cons (.int 4) .nil))))) (.call "_law_bits" (.cons (.var 2) (.cons (.int 2) .nil)))) (.cons (.str "") .nil))))) (.cons (.ite (.not (.val (.call "_law_walked_alike" (.cons (.var 3) (.cons (.var 5) .nil))))) (.cons (.ret (.bl false))
  .nil) .nil)
  .nil))
  (.cons (.asg (.name 5) (.cut (.bin .Add (.call "_law_walked" (.cons (.var 2) (.cons (.var 3) (.cons (.var 4) (.cons (.int 6) .nil))))) (.call "_law_bits" (.cons (.var 2) (.cons (.int 1) .nil)))) .none (.some (.int 6))))
  (.cons (.ite (.not (.val (.call "_law_parted" (.cons (.var 3) (.cons (.var 5) (.cons (.call "_law_take" (.cons (.var 2) (.cons (.bin .Add (.blt .len (.cons (.var 5) .nil)) (.int 1)) .nil))) .nil)))))) (.cons (.ret (.bl false))
  .nil) .nil)
  (.cons (.for_ (.name 6) (.range1 (.int 3)) (.cons (.ite (.not (.val (.call "_law_apart_right" (.cons (.var 3) (.cons (.call "_law_take" (.cons (.var 2) (.cons (.blt .len (.cons (.var 3) .nil)) .nil))) (.cons (.call "_law_take" (.cons (.var 2) (.cons (.blt .len (.cons (.var 3) .nil)) .nil))) .nil)))))) (.cons (.ret (.bl false))
  .nil) .nil)
  .nil))
  (.cons (.asg (.name 7) (.idx (.call "trimmed" (.cons (.var 3) .nil)) (.int 1)))
  (.cons (.for_ (.name 8) (.val (.call "rings" (.cons (.var 3) .nil))) (.cons (.ite (.not (.val (.blt .all (.cons (.comp (.cmp .In (.var 9) (.var 7)) [9] (.name 9) (.val (.var 8)) .none .nil) .nil)))) (.cons (.ret (.bl false))
  .nil) .nil)
  .nil))
  .nil))))))))))
  (.cons (.ret (.bl true))
  .nil))
open TM BD BE TE RW
theorem e7' {M:List Rm} {r:Nat} {b:Bool} {w:List Bool}:wk M (some r) (b :: w)=wk M (stp M r b) w:=rfl
theorem gA' {M:List Rm} {r:Nat} {b:Bool}:stp M r b=if b then(K15.dr M r).2 else(K15.dr M r).1:=by
 unfold stp K15.dr
 rw[aF]
 cases M[r]? with
 |none=>cases b<;>rfl
 |some u=>cases b<;>rfl
theorem px' {M:List Rm} {r:Nat} {b:Bool}:stp M r b=if b then fs2 M r else fs1 M r:=by
 unfold stp fs1 fs2
 cases M[r]? with
 |none=>cases b<;>rfl
 |some u=>cases b<;>rfl
theorem wN' {M:List Rm} {c:List Nat} (hc:K15.KN M c) {r:Nat} (hr:r<M.length) {b:Bool}:stp (K15.ls M c) (K15.cn c r) b=(stp M r b).map (K15.cn c):=by
 obtain⟨h1,h2,_⟩:=K15.r6' (c:=c) hr
 have hB:=(hc.2.2 _ _ h1 hr).mp h2
 obtain⟨_,_,o1,o2⟩:=K15.hB' M _ _ hB
 have kk:∀a b,K15.Bs M a b->K15.cn c a=K15.cn c b:=fun a b h=>(hc.2.2 a b (K15.hB' M a b h).1 (K15.hB' M a b h).2.1).mpr h
 have e1:=K15.oh' kk o1
 have e2:=K15.oh' kk o2
 have e:(K15.ls M c)[K15.cn c r]?=some (K15.lr M c (K15.rp c M.length (K15.cn c r))):=by
  unfold K15.ls
  rw[al,bh (K15.hD' hr)]
  rfl
 rw[gA' (M:=M)]
 unfold stp
 rw[e]
 show(if b then(K15.lr M c _).2 else(K15.lr M c _).1)=_
 unfold K15.lr
 cases b
 .exact e1
 .exact e2
theorem wO' {M:List Rm} {c:List Nat} (hO:OkM M) (hc:K15.KN M c):∀{w:List Bool} {r:Nat},r<M.length->wk (K15.ls M c) (some (K15.cn c r)) w=(wk M (some r) w).map (K15.cn c)
 | [],r,_=>rfl
 |b :: w,r,hr=>by
  rw[e7',e7',wN' hc hr]
  cases e:stp M r b with
  |none=>rw[Option.map_none,dv',dv'];rfl
  |some x=>exact wO' hO hc (c8' hO e)
theorem mf' {M:List Rm} {rs:List Nat} (hn:rs.Nodup) {r:Nat} (hr:r∈rs) {b:Bool}:stp (prt M rs) (rs.idxOf r) b=ixR rs (stp M r b):=by
 rw[px' (M:=M)]
 unfold stp
 rw[wh' hn hr]
 cases b<;>rfl
theorem ca' {M:List Rm} {o:Option Nat} {w:List Bool} {e:Nat} (h:wk M o w=some e) (i:Nat):∃x,wk M o (w.take i)=some x:=by
 cases z:wk M o (w.take i)with
 |none=>rw[lD' z]at h;cases h
 |some x=>exact⟨x,rfl⟩
theorem mid {M:List Rm} {rs:List Nat} (hO:OkM M) (h:Rs M rs) {r e:Nat} {w:List Bool} (hr:r∈rs) (he:e∈rs) (hw:wk M (some r) w=some e) {i x:Nat} (hx:wk M (some r) (w.take i)=some x):x∈rs:=by
 have one:∀{x},x∈rs++(av (w.length+1)).filterMap (fun i=>wk M (some r) (w.take i))↔x∈rs\/∃i,i<=w.length/\wk M (some r) (w.take i)=some x:=fun {x}=>by
  rw[am,cO]
  constructor
  .rintro(z|⟨i,hi,z⟩)
   .exact .inl z
   .exact .inr ⟨i,by have:=aI.mp hi;omega,z⟩
  .rintro(z|⟨i,hi,z⟩)
   .exact .inl z
   .exact .inr ⟨i,aI.mpr ⋯,z⟩
 have ld:∀{y z b},stp M y b=some z->fs1 M y=some z\/fs2 M y=some z:=fun {y z b} hb=>by
  rw[px']at hb
  cases b
  .exact .inl hb
  .exact .inr hb
 have hS:Sus M (rs++(av (w.length+1)).filterMap (fun i=>wk M (some r) (w.take i))):=by
  have base:∀x∈rs,x<M.length/\(∃r'∈rs++(av (w.length+1)).filterMap (fun i=>wk M (some r) (w.take i)),fs1 M r'=some x\/fs2 M r'=some x)/\∃r'∈rs++(av (w.length+1)).filterMap (fun i=>wk M (some r) (w.take i)),fs1 M x=some r'\/fs2 M x=some r':=fun x hx=>by
   obtain⟨h1,⟨p,hp,e1⟩,q,hq,e2⟩:=h.sus x hx
   exact⟨h1,⟨p,am.mpr (.inl hp),e1⟩,q,am.mpr (.inl hq),e2⟩
  intro x hx
  rcases one.mp hx with hx|⟨i,hi,hx⟩
  .exact base x hx
  .cases i with
   |zero=>cases hx;exact base r hr
   |succ i=>
    have hlt:=fB' hO (fun m hm=>by cases hm;exact h.lt r hr) hx
    refine⟨hlt,?_,?_⟩
    .obtain⟨y,hy⟩:=ca' hw i
     have hs:=g7' (M:=M) (o:=some r) (row:=w) (i:=i) (c:=w[i]'⋯) (aa ⋯)
     rw[hx,hy]at hs
     exact⟨y,one.mpr (.inr ⟨i,⋯,hy⟩),ld hs.symm⟩
    .by_cases hl:i+1=w.length
     .rw[hl,bm,hw]at hx
      cases hx
      obtain⟨_,_,q,hq,e2⟩:=h.sus e he
      exact⟨q,am.mpr (.inl hq),e2⟩
     .obtain⟨y,hy⟩:=ca' hw (i+2)
      have hs:=g7' (M:=M) (o:=some r) (row:=w) (i:=i+1) (c:=w[i+1]'⋯) (aa ⋯)
      rw[hx,hy]at hs
      exact⟨y,one.mpr (.inr ⟨i+2,⋯,hy⟩),ld hs.symm⟩
 refine h.all _ hS x (one.mpr (.inr ?_))
 by_cases hi:i<=w.length
 .exact⟨i,hi,hx⟩
 .exact⟨w.length,ah _,by rw[bK ⋯]at hx;rw[bm];exact hx⟩
theorem py' {M:List Rm} {rs:List Nat} (hO:OkM M) (h:Rs M rs):∀{w:List Bool} {r e:Nat},r∈rs->e∈rs->wk M (some r) w=some e->wk (prt M rs) (some (rs.idxOf r)) w=some (rs.idxOf e)
 | [],r,e,_,_,hw=>by cases hw;rfl
 |b :: w,r,e,hr,he,hw=>by
  obtain⟨x,hx⟩:=ca' hw 1
  have hm:=mid hO h hr he hw hx
  have hx:stp M r b=some x:=hx
  rw[e7',hx]at hw
  rw[e7',mf' (fD' h.rise) hr,hx,rM' hm]
  exact py' hO h hm he hw
theorem pz' {M:List Rm} {rs:List Nat} (hn:rs.Nodup):∀{w:List Bool} {r:Nat},r∈rs->(wk (prt M rs) (some (rs.idxOf r)) w).isSome=true->(wk M (some r) w).isSome=true
 | [],_,_,_=>rfl
 |b :: w,r,hr,hw=>by
  rw[e7',mf' hn hr]at hw
  rw[e7']
  cases e:stp M r b with
  |none=>rw[e]at hw;rw[show ixR rs none=none from rfl,dv']at hw;cases hw
  |some x=>
   rw[e,dN']at hw
   by_cases hx:x∈rs
   .rw[if_pos hx]at hw
    exact pz' hn hx hw
   .rw[if_neg hx,dv']at hw
    cases hw
theorem wP' {M:List Rm} {rs:List Nat} (h:Rs M rs) {w:List Bool}:(stL (prt M rs) w (prt M rs).length).length<=(stL M w M.length).length:=by
 have hn:=fD' h.rise
 rw[fC']
 have hd:((stL (prt M rs) w rs.length).map fun i=>rs.getD i 0).Nodup:=by
  rw[List.nodup_iff_pairwise_ne,cu]
  have h1:(stL (prt M rs) w rs.length).Pairwise (· < ·):=List.Pairwise.filter _ cN
  refine h1.imp_of_mem fun {a b} ha hb hab=>?_
  have ha:=aI.mp (bC.mp ha).1
  have hb:=aI.mp (bC.mp hb).1
  rw[aF,aF,aa ha,aa hb]
  exact bv.mp hn a b ha hb hab
 have:=PySem.Ts.f5' hd (b:=stL M w M.length) fun x hx=>by
  obtain⟨i,hi,rfl⟩:=aP.mp hx
  obtain⟨hi1,hi2⟩:=bC.mp hi
  have hi1:=aI.mp hi1
  have e:rs.getD i 0=rs[i]:=by rw[aF,aa hi1];rfl
  rw[e]
  have hm:rs[i]∈rs:=bW hi1
  have hix:rs.idxOf rs[i]=i:=pf' hn (hi:=bp hm) (hj:=hi1) (by rw[cQ])
  refine bC.mpr ⟨aI.mpr (h.lt _ hm),?_⟩
  refine pz' hn hm ?_
  rw[hix]
  exact hi2
 rw[ae]at this
 exact this
theorem wQ' {M:List Rm}:∀{w:List Bool} {a b:Nat},K15.Bs M a b->K13.wl M a w=K13.wl M b w
 | [],_,_,_=>rfl
 |c :: w,a,b,h=>by
  obtain⟨_,_,o1,o2⟩:=K15.hB' M a b h
  have o:K15.okD (K15.Bs M) (stp M a c) (stp M b c):=by
   rw[gA',gA']
   cases c
   .exact o1
   .exact o2
  rw[K13.bC',K13.bC']
  generalize stp M a c=x at o ⊢
  generalize stp M b c=y at o ⊢
  match x,y,o with
  |none,none,_=>rfl
  |some _,some _,o=>exact wQ' (w:=w) o
  |none,some _,o=>exact False.elim o
  |some _,none,o=>exact False.elim o
theorem zz' {M:List Rm} (hO:OkM M) {a b:Nat} (ha:a<M.length) (hb:b<M.length) (h:∀w,K13.wl M a w=K13.wl M b w):K15.Bs M a b:=by
 refine⟨fun a b=>a<M.length/\b<M.length/\∀w,K13.wl M a w=K13.wl M b w,fun x y ⟨hx,hy,hw⟩=>?_,ha,hb,h⟩
 have o:∀c,K15.okD (fun a b=>a<M.length/\b<M.length/\∀w,K13.wl M a w=K13.wl M b w) (stp M x c) (stp M y c):=fun c=>by
  have h1:=hw [c]
  rw[K13.bC',K13.bC']at h1
  cases e1:stp M x c<;>cases e2:stp M y c<;>rw[e1,e2]at h1
  .trivial
  .cases h1
  .cases h1
  .refine⟨c8' hO e1,c8' hO e2,fun w=>?_⟩
   have h2:=hw (c :: w)
   rw[K13.bC',K13.bC',e1,e2]at h2
   exact h2
 have o1:=o false
 have o2:=o true
 rw[gA',gA']at o1 o2
 exact⟨hx,hy,o1,o2⟩
theorem wR' {M:List Rm} {a b:Nat}:K11.ed M a b=true->fs1 M a=some b\/fs2 M a=some b:=fun h=>by
 unfold K11.ed at h
 unfold fs1 fs2
 cases e:M[a]? with
 |none=>rw[e]at h;cases h
 |some r=>
  rw[e]at h
  simpa using h
theorem oo' {M:List Rm} (hO:OkM M) {i j:Nat} (h:K11.rch M i j=true):∃m,K11.ed M m j=true/\(m=i\/K11.rch M i m=true):=
 K11.jt' (S:=fun j=>∃m,K11.ed M m j=true/\(m=i\/K11.rch M i m=true)) (r:=i) (fun x y hx he=>by
  refine⟨x,he,?_⟩
  rcases hx with rfl|⟨m,hm,rfl|hm2⟩
  .exact .inl rfl
  .exact .inr (K11.dD' hm)
  .exact .inr (K11.dC' (K11.lJ' hO hm).1 hm2 (K11.dD' hm))) (.inl rfl) h
theorem oq' {M:List Rm} (hO:OkM M) {i j:Nat} (h:K11.rch M i j=true):∃m,K11.ed M i m=true/\(m=j\/K11.rch M m j=true):=
 K11.jt' (S:=fun j=>∃m,K11.ed M i m=true/\(m=j\/K11.rch M m j=true)) (r:=i) (fun x y hx he=>by
  rcases hx with rfl|⟨m,hm,rfl|hm2⟩
  .exact⟨y,he,.inl rfl⟩
  .exact⟨m,hm,.inr (K11.dD' he)⟩
  .exact⟨m,hm,.inr (K11.dC' (K11.lJ' hO he).1 hm2 (K11.dD' he))⟩) (.inl rfl) h
theorem mg' {M:List Rm} {rs:List Nat} (hO:OkM M) (h:Rs M rs) {a x:Nat} (ha:a<M.length) (hx:x∈K11.cl M a):x∈rs:=by
 refine h.all (K11.cl M a) (fun y hy=>?_) x hx
 obtain⟨h1,h2,h3⟩:=K11.dE'.mp hy
 have yy:=K11.dC' ha h3 h2
 obtain⟨m,hm,hm2⟩:=oo' hO yy
 obtain⟨n,hn,hn2⟩:=oq' hO yy
 have lm:=(K11.lJ' hO hm).1
 have ln:=(K11.lJ' hO hn).2
 refine⟨h1,⟨m,K11.dE'.mpr ⟨lm,?_,K11.dC' h1 (K11.dD' hm) h3⟩,wR' hm⟩,n,K11.dE'.mpr ⟨ln,K11.dC' h1 h2 (K11.dD' hn),?_⟩,wR' hn⟩
 .rcases hm2 with rfl|z
  .exact h2
  .exact K11.dC' h1 h2 z
 .rcases hn2 with rfl|z
  .exact h3
  .exact K11.dC' h1 z h3
theorem iQ' {M:List Rm} {r n:Nat} {w:List Bool} {m:Nat}:(w,m)∈K12.pk M r n↔w∈K12.ar n/\wk M (some r) w=some m:=by
 rw[K12.wm',cO]
 constructor
 .rintro⟨v,hv,e⟩
  obtain⟨k,hk,e2⟩:=aW.mp e
  cases e2
  exact⟨hv,hk⟩
 .rintro⟨h1,h2⟩
  exact⟨w,h1,by rw[h2];rfl⟩
theorem pA':∀{n:Nat} {w:List Bool},w.length=n->w∈K12.ar n:=by
 intro n
 induction n with
 |zero=>intro w h;cases w with|nil=>exact aO.mpr rfl|cons _ _=>cases h
 |succ n ih=>
  intro w h
  have hw:w≠[]:=fun z=>by rw[z]at h;cases h
  refine cz.mpr ⟨w.dropLast,ih (by rw[List.length_dropLast];omega),?_⟩
  have e:=List.dropLast_concat_getLast hw
  cases z:w.getLast hw
  .rw[z]at e;rw[<- e];simp
  .rw[z]at e;rw[<- e];simp
def mB (rs:List Nat):Option Nat->Bool
 |some n=>decide (n∈rs)
 |none=>false
theorem mh':∀{rs:List Nat},inV .non (rs.map nV)=false
 | []=>rfl
 |b :: rs=>by
  have ih:=mh' (rs:=rs)
  unfold inV at ih ⊢
  rw[aJ,cA,ih]
  rfl
theorem wS' {o:Option Nat} {rs:List Nat}:inV (oV o) (rs.map nV)=mB rs o:=by
 cases o with
 |none=>exact mh'
 |some n=>exact K15.pw'
theorem pB' {K:W.Frag} {H:Hp} {Q:VK} {p:Addr} {rs:List Nat} {o:Option Nat} (h:H p=some (.lst (rs.map nV))) (q:Q (.bl (mB rs o)) H):cd' K .In (oV o) (.ref p) H Q:=
 ⟨p,_,rfl,.inl (SqL.of h),by cases o<;>rfl,K15.sb',by rw[wS'];exact q⟩
theorem gB' {K:W.Frag} {H:Hp} {Q:VK} {p:Addr} {rs:List Nat} {i:Nat} (h:H p=some (.lst (rs.map nV))) (q:Q (.bl (decide (i∈rs))) H):cd' K .In (.int i) (.ref p) H Q:=pB' (o:=some i) h q
theorem mi' {K:W.Frag} {H:Hp} {Q:VK} {p:Addr} {rs:List Nat} {n:Nat} (h:H p=some (.lst (rs.map nV))) (hn:n∈rs) (q:Q (.int (rs.idxOf n:Nat)) H):jd' K .indexL (.ref p) [.int n] H Q:=by
 have hl:=bp hn
 refine⟨p,rs.map nV,.int n,rs.idxOf n,rfl,rfl,SqL.of h,fun z hz=>?_,?_,?_,q⟩
 .obtain⟨c,_,rfl⟩:=aP.mp hz
  exact⟨rfl,fun _ z=>by cases z⟩
 .rw[al,aa hl,cQ]
  rfl
 .intro k hk z
  rw[al]at z
  cases e:rs[k]? with
  |none=>rw[e]at z;cases z
  |some c=>
   rw[e]at z
   have z:V.int (c:Int)=V.int (n:Int):=Option.some.inj z
   have hc:c=n:=by injection z with z;omega
   subst hc
   have hkl:=ak' e
   rw[aa hkl]at e
   have e:=Option.some.inj e
   have:=List.not_of_lt_findIdx (xs:=rs) (p:=(· == c)) hk
   rw[e]at this
   simp at this
structure FsWA (C:Rc):Prop where
 ls:C.fs "lessened"=some K15.r9'
 trim:C.fs "trimmed"=some bY'
 walk:C.fs "walk"=some bB'
 starts:C.fs "starts"=some c9'
def sH':Sp:=fun vs H Q _=>∃(a:Addr) (M:List Rm) (row:List Bool),vs=[.ref a,.str (tx row)]/\IsM H a M/\OkM M/\1<=M.length/\M.length<=60/\∀H',aC' H H'->Q (.bl true) H'
theorem se' {C:Rc} (hN:C.N.length=8) (F:FsWA C):∀vs H Q E,sH' vs H Q E->tSs C bb' { nx:=fun _ H'=>Q .non H',rt:=Q } (L2.aF' C.N vs) H:=by
 intro vs H Q E h
 obtain⟨a,M,row,rfl,hM,hO,hM1,hMu,q⟩:=h
 rw[an' hN]
 unfold bb'
 symm
 rw[vK']
 refine aj' F.ls ?_
 symm
 refine⟨a,M,rfl,hM,hO,hMu,fun p1 m l c H1 hc s1 _ hp1 hm hl=>?_⟩
 refine lq' (SqT.of hp1) ?_
 simp only[lb',List.set_cons_zero,List.set_cons_succ]
 symm
 rw[vK']
 refine aj' F.trim ?_
 symm
 refine⟨a,M,rfl,hM.mono (ai' s1),⋯,fun p2 m2 l2 rs H2 s2 _ hp2 hl2 hm2 hR=>?_⟩
 refine lq' (SqT.of hp2) ?_
 simp only[lb',List.set_cons_zero,List.set_cons_succ]
 have s02:=s1.trans s2
 have hM2:=hM.mono (ai' s02)
 have hm2':=hm.mono (ai' s2)
 have hl2':=s2 _ _ hl
 have hlO:=K15.zy' hO hc.2.1 hc.1
 have hrl:rs.length<=60:=by
  have:=PySem.Ts.f5' (fD' hR.rise) (b:=av M.length) fun x hx=>aI.mpr (hR.lt x hx)
  rw[aV]at this
  omega
 obtain⟨mv,hmv,hmr⟩:=id hM2
 have hml:=hmr.len
 symm
 refine bJ' (SqT.of hmv) ?_
 rw[hml]
 symm
 refine cP' ⋯ ⋯ (ef' (n:=((M.length:Int)).toNat) (fun i σ H'=>(∃x6 x7,σ=[some (.ref a),some (.str (tx row)),some (.ref m),some (.ref l),some (.ref m2),some (.ref l2),x6,x7])/\aC' H2 H') ⟨⟨_,_,rfl⟩,aC'.refl _⟩ ?_ ?_)
 .rintro i σ H3 hi ⟨⟨x6,x7,rfl⟩,s3⟩
  have hi:i<M.length:=by omega
  rw[show(0:Int)+(i:Int)=((i:Nat):Int) by omega]
  have hM3:=hM2.mono (ai' s3)
  symm
  refine aj' F.walk ?_
  symm
  refine⟨a,M,i,row,rfl,hM3,hO,hi,?_⟩
  symm
  refine aj' F.walk ?_
  symm
  refine aO' (SqL.of (s3 _ _ hl2')) (v:=nV (K15.cn c i)) (aG' (by rw[al,K15.dF' (by rw[hc.1];exact hi)];rfl)) ?_
  simp only[nV]
  symm
  refine⟨m,K15.ls M c,K15.cn c i,row,rfl,hm2'.mono (ai' s3),hlO,by rw[K15.pt'];exact K15.hD' hi,?_⟩
  rw[wO' hO hc hi]
  generalize hD:qQ' C _ _=D
  have ay':∀x7:Option V,x7=some (oV (wk M (some i) row))->D.nx [some (.ref a),some (.str (tx row)),some (.ref m),some (.ref l),some (.ref m2),some (.ref l2),some (.int i),x7] H3:=by
   rintro _ rfl
   rw[<- hD]
   symm
   generalize hE:qQ' C _ _=E'
   have rest2:E'.nx [some (.ref a),some (.str (tx row)),some (.ref m),some (.ref l),some (.ref m2),some (.ref l2),some (.int i),some (oV (wk M (some i) row))] H3:=by
    rw[<- hE]
    symm
    refine aj' F.starts ?_
    symm
    refine⟨a,M,row,rfl,hM3,hO,⋯,fun p hp=>?_⟩
    obtain⟨s4,h4⟩:=snw hp (.lst ((stL M row M.length).map nV))
    generalize upd H3 p _=H4 at s4 h4 ⊢
    symm
    refine gB' h4 ?_
    have e1:decide (i∈stL M row M.length)=(wk M (some i) row).isSome:=by
     have:i∈stL M row M.length↔(wk M (some i) row).isSome=true:=by
      unfold stL
      rw[bC,aI]
      exact⟨fun z=>z.2,fun z=>⟨hi,z⟩⟩
     rw[bQ,decide_eq_true_eq,this]
    rw[e1]
    cases wk M (some i) row with
    |none=>
     simp only[oV]
     symm
     exact⟨⟨_,_,rfl⟩,s3.trans s4⟩
    |some e=>
     simp only[oV]
     symm
     exact⟨⟨_,_,rfl⟩,s3.trans s4⟩
   refine gB' (s3 _ _ hl2) ?_
   by_cases hir:i∈rs
   .rw[decide_eq_true hir]
    symm
    refine pB' (s3 _ _ hl2) ?_
    cases ho:wk M (some i) row with
    |none=>
     rw[ho]at rest2
     simp only[mB]
     symm
     exact rest2
    |some e=>
     rw[ho]at rest2
     simp only[mB]
     by_cases her:e∈rs
     .rw[decide_eq_true her]
      simp only[oV]at rest2 ⊢
      symm
      refine aj' F.walk ?_
      symm
      refine⟨tyL (s3 _ _ hl2) rfl,?_⟩
      refine mi' (s3 _ _ hl2) hir ?_
      symm
      refine⟨m2,prt M rs,rs.idxOf i,row,rfl,hm2.mono (ai' s3),ph',by rw[fC'];exact bp hir,?_⟩
      rw[py' hO hR hir her ho]
      simp only[oV]
      symm
      refine⟨tyL (s3 _ _ hl2) rfl,?_⟩
      refine mi' (s3 _ _ hl2) her ?_
      symm
      exact rest2
     .rw[decide_eq_false her]
      symm
      exact rest2
   .rw[decide_eq_false hir]
    symm
    exact rest2
  cases ho:wk M (some i) row with
  |none=>
   rw[ho]at ay'
   simp only[oV,Option.map_none]at ay' ⊢
   symm
   rw[vI' rfl,decide_eq_true rfl]
   symm
   exact ay' _ rfl
  |some e=>
   rw[ho]at ay'
   have he:=fB' hO (fun k hk=>by cases hk;exact hi) ho
   simp only[oV,cE]at ay' ⊢
   symm
   refine aO' (SqL.of (s3 _ _ hl2')) (v:=nV (K15.cn c e)) (aG' (by rw[al,K15.dF' (by rw[hc.1];exact he)];rfl)) ?_
   simp only[nV]
   symm
   exact ay' _ rfl
 .rintro σ H3 ⟨⟨x6,x7,rfl⟩,s3⟩
  symm
  refine aj' F.starts ?_
  symm
  refine⟨m2,prt M rs,row,rfl,hm2.mono (ai' s3),ph',by rw[fC'];omega,fun p hp=>?_⟩
  obtain⟨s4,h4⟩:=snw hp (.lst ((stL (prt M rs) row (prt M rs).length).map nV))
  generalize upd H3 p _=H4 at s4 h4 ⊢
  refine bI' (SqL.of h4) ?_
  rw[ae]
  symm
  refine aj' F.starts ?_
  symm
  refine⟨a,M,row,rfl,hM2.mono (ai' (s3.trans s4)),hO,⋯,fun p' hp'=>?_⟩
  obtain⟨s5,h5⟩:=snw hp' (.lst ((stL M row M.length).map nV))
  generalize upd H4 p' _=H5 at s5 h5 ⊢
  refine bI' (SqL.of h5) ?_
  rw[ae]
  symm
  rw[decide_eq_true (show((stL (prt M rs) row (prt M rs).length).length:Int)<=((stL M row M.length).length:Int) from by have:=wP' hR (w:=row);omega)]
  exact q _ (s02.trans (s3.trans (s4.trans s5)))
def sI':Sp:=fun vs H Q _=>∃(a:Addr) (M:List Rm) (row:List Bool) (k:Nat),vs=[.ref a,.str (tx row),.int k]/\IsM H a M/\OkM M/\M.length<=60/\row.length<=8/\k<=row.length/\∀H',aC' H H'->Q (.bl true) H'
theorem pC' {H0 H:Hp} {l:Addr} {M:List Rm} {n m r:Nat} (h:K12.PL H0 H l (K12.pkL M n m)) (hr:r<m):∃vs e xs,H l=some (.lst vs)/\vs[r]?=some (V.ref e)/\H e=some (.lst xs)/\bv' (IsW H) xs (K12.pk M r n):=by
 obtain⟨vs,h1,h2⟩:=h
 obtain⟨v,hv,e,xs,rfl,_,_,h3,h4⟩:=h2.get (i:=r) (b:=K12.pk M r n) (by unfold K12.pkL;rw[al,bh hr];rfl)
 exact⟨vs,e,xs,h1,hv,h3,h4⟩
theorem PL.mono' {H0 H H':Hp} {l:Addr} {L:List (List (List Bool×Nat))} (s:aC' H H') (h:K12.PL H0 H l L):K12.PL H0 H' l L:=by
 obtain⟨vs,h1,h2⟩:=h
 exact⟨vs,s _ _ h1,h2.mono fun v ws ⟨e,xs,e1,e2,e3,e4,e5⟩=>⟨e,xs,e1,e2,e3,s _ _ e4,e5.mono fun v w hw=>de' s hw⟩⟩
theorem sf' {o p:Option Nat}:jB' (oV o) (oV p)=true:=by cases o<;>cases p<;>rfl
theorem sg' {C:Rc} (hN:C.N.length=11) (hP:C.fs "powered"=some K12.jv') (hW:C.fs "walk"=some bB'):∀vs H Q E,sI' vs H Q E->tSs C dU' { nx:=fun _ H'=>Q .non H',rt:=Q } (L2.aF' C.N vs) H:=by
 intro vs H Q E h
 obtain⟨a,M,row,k,rfl,hM,hO,hMu,hr8,hk,q⟩:=h
 rw[an' hN]
 unfold dU'
 symm
 refine aj' hP ?_
 symm
 refine⟨a,M,k,rfl,hM,hO,⋯,⋯,fun l1 H1 _ s1 hP1=>?_⟩
 symm
 refine aj' hP ?_
 symm
 refine⟨aX (ag' ⋯),?_⟩
 rw[show(row.length:Int)-(k:Int)=((row.length-k:Nat):Int) by omega]
 refine⟨a,M,row.length-k,rfl,hM.mono (ai' s1),hO,⋯,⋯,fun l2 H2 _ s2 hP2=>?_⟩
 have s02:=s1.trans s2
 have hM2:=hM.mono (ai' s02)
 have hP1:=PL.mono' s2 hP1
 obtain⟨mv,hmv,hmr⟩:=id hM2
 have hml:=hmr.len
 symm
 refine bJ' (SqT.of hmv) ?_
 rw[hml]
 symm
 refine cP' ⋯ ⋯ (ef' (n:=((M.length:Int)).toNat) (fun i σ H'=>(∃x5 x6 x7 x8 x9 x10,σ=[some (.ref a),some (.str (tx row)),some (.int k),some (.ref l1),some (.ref l2),x5,x6,x7,x8,x9,x10])/\H'=H2) ⟨⟨_,_,_,_,_,_,rfl⟩,rfl⟩ ?_ ?_)
 .rintro r σ H3 hr ⟨⟨x5,x6,x7,x8,x9,x10,rfl⟩,rfl⟩
  have hr:r<M.length:=by omega
  rw[show(0:Int)+(r:Int)=((r:Nat):Int) by omega]
  obtain⟨vs1,e1,xs1,hl1,hv1,he1,hx1⟩:=pC' hP1 hr
  have hxl:=hx1.len
  symm
  refine aO' (SqL.of hl1) (aG' hv1) ?_
  refine as' (SqL.of he1) (fw' (xs:=xs1) (fun i σ H'=>(∃(o:Option Nat) (x7 x8 x9 x10:Option V),σ=[some (.ref a),some (.str (tx row)),some (.int k),some (.ref l1),some (.ref l2),some (.int r),some (oV o),x7,x8,x9,x10]/\(o=none\/o=wk M (some r) row)/\∀d∈(K12.pk M r k).take i,∀d2∈K12.pk M d.2 (row.length-k),d.1++d2.1=row->o=wk M (some r) row)/\H'=H3) ⟨⟨none,_,_,_,_,rfl,.inl rfl,fun d hd=>absurd hd aA⟩,rfl⟩ (fun i σ H' _ pv=>by rw[pv.2];exact SqL.of he1) ?_ ?_)
  .rintro i x σ H4 hx ⟨⟨o,x7,x8,x9,x10,rfl,ho,hall⟩,rfl⟩
   obtain⟨d,hd,qx,rfl,hqx⟩:=hx1.getL hx
   have hdm:=az hd
   obtain⟨hd1,hd2⟩:=iQ'.mp hdm
   have hdl:=K12.hh' hd1
   have hdr:d.2<M.length:=fB' hO (fun m hm=>by cases hm;exact hr) hd2
   obtain⟨vs2,e2,xs2,hl2,hv2,he2,hx2⟩:=pC' hP2 hdr
   have hxl2:=hx2.len
   refine dA' (SqT.of hqx) ?_
   symm
   refine aO' (SqL.of hl2) (aG' hv2) ?_
   refine as' (SqL.of he2) (fw' (xs:=xs2) (fun j σ H'=>(∃(o:Option Nat) (x9 x10:Option V),σ=[some (.ref a),some (.str (tx row)),some (.int k),some (.ref l1),some (.ref l2),some (.int r),some (oV o),some (.str (tx d.1)),some (.int d.2),x9,x10]/\(o=none\/o=wk M (some r) row)/\(∀d∈(K12.pk M r k).take i,∀d2∈K12.pk M d.2 (row.length-k),d.1++d2.1=row->o=wk M (some r) row)/\∀d2∈(K12.pk M d.2 (row.length-k)).take j,d.1++d2.1=row->o=wk M (some r) row)/\H'=H4) ⟨⟨o,_,_,rfl,ho,hall,fun d hd=>absurd hd aA⟩,rfl⟩ (fun i σ H' _ pv=>by rw[pv.2];exact SqL.of he2) ?_ ?_)
   .rintro j y σ H5 hy ⟨⟨o,x9,x10,rfl,ho,hall,hall2⟩,rfl⟩
    obtain⟨d2,hdd,qy,rfl,hqy⟩:=hx2.getL hy
    obtain⟨hd3,hd4⟩:=iQ'.mp (az hdd)
    have hdl2:=K12.hh' hd3
    refine dA' (SqT.of hqy) ?_
    symm
    refine⟨aX (ag' (by first|omega|(rw[aj];omega))),?_⟩
    by_cases hw:d.1++d2.1=row
    .have eW:wk M (some r) row=some d2.2:=by rw[<- hw,ch',hd2,hd4]
     rw[hw]
     symm
     exact⟨⟨some d2.2,_,_,rfl,.inr eW.symm,fun _ _ _ _ _=>eW.symm,fun _ _ _=>eW.symm⟩,trivial⟩
    .rw[decide_eq_false (fun z=>hw (vw' z))]
     symm
     refine⟨⟨o,_,_,rfl,ho,hall,fun d3 h3 e3=>?_⟩,trivial⟩
     rw[bx,hdd]at h3
     rcases am.mp h3 with h3|h3
     .exact hall2 d3 h3 e3
     .cases aO.mp h3
      exact absurd e3 hw
   .rintro σ H5 ⟨⟨o,x9,x10,rfl,ho,hall,hall2⟩,rfl⟩
    rw[hxl2,bm]at hall2
    symm
    refine⟨⟨o,_,_,_,_,rfl,ho,fun d3 h3 d2 h2 e3=>?_⟩,trivial⟩
    rw[bx,hd]at h3
    rcases am.mp h3 with h3|h3
    .exact hall d3 h3 d2 h2 e3
    .cases aO.mp h3
     exact hall2 d2 h2 e3
  .rintro σ H4 ⟨⟨o,x7,x8,x9,x10,rfl,ho,hall⟩,rfl⟩
   rw[hxl,bm]at hall
   have eo:o=wk M (some r) row:=by
    cases e:wk M (some r) row with
    |none=>rw[e]at ho;rcases ho with z|z<;>exact z
    |some z=>
     rw[e]at hall
     obtain⟨x,hx⟩:=ca' e k
     refine hall (row.take k,x) (iQ'.mpr ⟨pA' (by rw[aQ];omega),hx⟩) (row.drop k,z) (iQ'.mpr ⟨pA' (by rw[cK]),?_⟩) (aM k row)
     rw[<- hx,<- ch',aM]
     exact e
   symm
   refine aj' hW ?_
   symm
   refine⟨a,M,r,row,rfl,hM2,hO,hr,?_⟩
   rw[eo]
   symm
   rw[vI' sf',decide_eq_true rfl]
   symm
   exact⟨⟨_,_,_,_,_,_,rfl⟩,trivial⟩
 .rintro σ H3 ⟨⟨x5,x6,x7,x8,x9,x10,rfl⟩,rfl⟩
  symm
  exact q _ s02
theorem sh' {M:List Rm} (hO:OkM M) {a b:Nat} (ha:a<M.length) (hb:b<M.length) {R:List Bool} (h:K13.Lst (K13.wl M a) (K13.wl M b) (some R)):R.length<=M.length:=by
 by_cases hE:K13.Ek M M.length a b
 .exact absurd (K13.dO' (K13.wu' hO ⋯ ha hb hE R.length) (ah _)) h.1
 .obtain⟨n,hn,hn1,hn2⟩:=K13.fF' (R:=fun n=>¬K13.Ek M n a b) M.length hE
  have hn0:n≠0:=fun z=>by rw[z]at hn1;exact hn1 trivial
  obtain⟨m,rfl⟩:∃m,n=m+1:=⟨n-1,⋯⟩
  have hm:K13.Ek M m a b:=Classical.not_not.mp (hn2 m ⋯)
  obtain⟨f1,f2⟩:=K13.wt' m a b hn1 hm
  cases K13.Lst.uniq h f1
  omega
theorem mj' {k0 k1:Nat}:∀{n:Nat},((av n).filter fun k=>decide (k0=k)&&decide (k1=k)).length=if k0=k1/\k0<n then 1 else 0
 |0=>by simp
 |n+1=>by
  rw[cw,ci,aj,mj']
  by_cases h1:k0=n<;>by_cases h2:k1=n
  .subst h1;subst h2;simp
  .have:¬k0=k1:=by omega
   simp[h1,h2,this]
   omega
  .have:¬k0=k1:=by omega
   simp[h1,h2,this]
  .have:(k0=k1/\k0<n+1)↔(k0=k1/\k0<n):=by omega
   simp only[this]
   simp[h1]
theorem si' {K:W.Frag} {H:Hp} {Q:VK} {p:Addr} {o1 o2:Option Nat} (h:H p=some (.lst [oV o1,oV o2])) (ho:o1.isSome≠o2.isSome) (q:Q (.int 1) H):jd' K .countL (.ref p) [.non] H Q:=by
 refine⟨p,[oV o1,oV o2],.non,rfl,rfl,SqL.of h,fun z hz=>?_,?_⟩
 .rcases au.mp hz with rfl|hz
  .cases o1<;>exact⟨rfl,fun _ z=>by cases z⟩
  .cases aO.mp hz
   cases o2<;>exact⟨rfl,fun _ z=>by cases z⟩
 .cases o1<;>cases o2
  .exact absurd rfl ho
  .exact q
  .exact q
  .exact absurd rfl ho
def sJ':Sp:=fun vs H Q _=>∃(m:Addr) (M:List Rm) (a b:Nat),vs=[.ref m,.int a,.int b]/\IsM H m M/\OkM M/\M.length<=60/\a<M.length/\b<M.length/\∀H',aC' H H'->Q (.bl true) H'
theorem sj' {C:Rc} (hN:C.N.length=8) (hA:C.fs "apart"=some K13.sG') (hK:C.fs "kinds"=some K15.mt') (hW:C.fs "walk"=some bB'):∀vs H Q E,sJ' vs H Q E->tSs C bl' { nx:=fun _ H'=>Q .non H',rt:=Q } (L2.aF' C.N vs) H:=by
 intro vs H Q E h
 obtain⟨m,M,a,b,rfl,hM,hO,hMu,ha,hb,q⟩:=h
 rw[an' hN]
 unfold bl'
 symm
 refine aj' hA ?_
 symm
 refine⟨m,m,M,M,a,b,rfl,hM,hO,hM,hO,hMu,hMu,ha,hb,fun r H1 hr s1=>?_⟩
 symm
 refine aj' hK ?_
 symm
 refine⟨m,M,rfl,hM.mono (ai' s1),hO,hMu,fun l c H2 hc s2 hKL=>?_⟩
 obtain⟨vs,hl,hvl,hget⟩:=hKL.dl
 have hkl:(K15.eK' c).length=K15.kt c c.length:=by unfold K15.eK';rw[ae,aV]
 refine as' (SqL.of hl) (cF' (vs:=vs) (fun i xs H'=>H'=H2/\xs.length=((av i).filter (fun k=>decide (K15.cn c a=k)&&decide (K15.cn c b=k))).length) ⟨rfl,rfl⟩ (fun i xs H' pv=>by rw[pv.1];exact SqL.of hl) ?_ ?_)
 .rintro i xs H3 v R hv ⟨rfl,hxs⟩ hR
  have hi:=ak' hv
  obtain⟨e,rfl,he⟩:=hget i v hv
  have ek:(K15.eK' c).getD i []=K15.cl c c.length i:=by
   unfold K15.eK'
   rw[aF,al,bh ⋯]
   rfl
  rw[ek]at he
  have mem:∀x,x<M.length->decide (x∈K15.cl c c.length i)=decide (K15.cn c x=i):=fun x hx=>by
   rw[bQ,decide_eq_true_eq,decide_eq_true_eq,K15.dE',hc.1]
   exact⟨fun z=>z.2,fun z=>⟨hx,z⟩⟩
  rw[cw,ci,aj]at hR
  have hlen:xs.length<=1:=by
   rw[hxs,mj']
   split<;>omega
  symm
  refine gB' he ?_
  rw[mem a ha]
  by_cases h1:K15.cn c a=i
  .rw[decide_eq_true h1]
   symm
   refine gB' he ?_
   rw[mem b hb]
   by_cases h2:K15.cn c b=i
   .rw[decide_eq_true h2]
    symm
    refine⟨ag' ⋯,hR _ _ ⟨rfl,?_⟩⟩
    rw[aj,hxs,cy,decide_eq_true h1,decide_eq_true h2]
    rfl
   .rw[decide_eq_false h2]
    symm
    refine hR _ _ ⟨rfl,?_⟩
    rw[hxs,cy,decide_eq_false h2,Bool.and_false]
    rfl
  .rw[decide_eq_false h1]
   symm
   refine hR _ _ ⟨rfl,?_⟩
   rw[hxs,cy,decide_eq_false h1,Bool.false_and]
   rfl
 .rintro xs H3 ⟨rfl,hxs⟩ p4 hp4
  obtain⟨s4,h4⟩:=snw hp4 (.lst xs)
  generalize upd H3 p4 _=H4 at s4 h4 ⊢
  have s04:=s1.trans (s2.trans s4)
  have hM4:=hM.mono (ai' s04)
  have hlt:K15.cn c a<vs.length:=by rw[hvl,hkl];exact K15.hD' (by rw[hc.1];exact ha)
  rw[mj']at hxs
  cases r with
  |none=>
   have hcc:K15.cn c a=K15.cn c b:=(hc.2.2 a b ha hb).mpr (zz' hO ha hb hr)
   rw[if_pos ⟨hcc,hlt⟩]at hxs
   simp only[NR.oR]
   symm
   refine bI' (SqL.of h4) ?_
   rw[hxs]
   symm
   exact q _ s04
  |some R=>
   have hR60:=sh' hO ha hb hr
   have hcc:¬K15.cn c a=K15.cn c b:=fun z=>hr.1 (wQ' ((hc.2.2 a b ha hb).mp z))
   rw[if_neg (fun z=>hcc z.1)]at hxs
   have hx0:xs=[]:=cj hxs
   subst hx0
   simp only[NR.oR,rV]
   symm
   refine⟨by decide,fun p5 hp5=>?_⟩
   obtain⟨s5,h5⟩:=snw hp5 (.lst [])
   generalize upd H4 p5 _=H5 at s5 h5 ⊢
   refine lo' (SqL.of (s5 _ _ h4)) (SqL.of h5) g4' ?_
   have hM5:=hM4.mono (ai' s5)
   symm
   refine aj' hW ?_
   symm
   refine⟨m,M,a,R,rfl,hM5,hO,ha,?_⟩
   symm
   refine aj' hW ?_
   symm
   refine⟨m,M,b,R,rfl,hM5,hO,hb,?_⟩
   symm
   refine⟨by decide,fun p6 hp6=>?_⟩
   obtain⟨s6,h6⟩:=snw hp6 (.lst [oV (wk M (some a) R),oV (wk M (some b) R)])
   generalize upd H5 p6 _=H6 at s6 h6 ⊢
   symm
   refine⟨tyL h6 rfl,?_⟩
   refine si' h6 hr.1 ?_
   symm
   have s06:=s04.trans (s5.trans s6)
   refine⟨aX (ag' ⋯),?_⟩
   refine cP' ⋯ ⋯ (il' (n:=((R.length:Int)).toNat) (fun i xs H'=>aC' H6 H'/\xs=(aK i true).map V.bl) ⟨aC'.refl _,rfl⟩ ?_ ?_)
   .rintro i xs H7 R' hi ⟨s7,rfl⟩ hR'
    have hi:i<R.length:=by omega
    have hM7:=hM.mono (ai' (s06.trans s7))
    obtain⟨x,y,hx,hy⟩:=K13.Lst.pre hr hi
    rw[show(0:Int)+(i:Int)=((i:Nat):Int) by omega]
    symm
    refine aj' hW ?_
    symm
    refine SR.rO' (by exact aX (ag' ⋯)) ?_
    symm
    refine⟨m,M,a,R.take i,rfl,hM7,hO,ha,?_⟩
    rw[hx]
    symm
    refine aj' hW ?_
    symm
    refine SR.rO' (by exact aX (ag' ⋯)) ?_
    symm
    refine⟨m,M,b,R.take i,rfl,hM7,hO,hb,?_⟩
    rw[hy]
    simp only[oV]
    symm
    refine⟨by decide,fun pt hpt=>?_⟩
    obtain⟨s8,h8⟩:=snw hpt (.tup [.int x,.int y])
    generalize upd H7 pt _=H8 at s8 h8 ⊢
    refine⟨pt,_,rfl,.inr (SqT.of h8),rfl,rfl,?_⟩
    refine⟨ag' (by rw[ae,List.length_replicate];omega),hR' _ _ ⟨s7.trans s8,?_⟩⟩
    rw[List.replicate_succ',aN]
    rfl
   .rintro xs H7 ⟨s7,rfl⟩ p8 hp8
    obtain⟨s8,h8⟩:=snw hp8 (.lst ((aK ((R.length:Int)).toNat true).map V.bl))
    generalize upd H7 p8 _=H8 at s8 h8 ⊢
    symm
    refine o8' (SqL.of h8) ?_
    rw[show(aK ((R.length:Int)).toNat true).all id=true by simp]
    symm
    exact q _ (s06.trans (s7.trans s8))
structure FsLaw (C:Rc):Prop where
 box:C.fs "_law_box"=some (fz' C.K)
 any:C.fs "_law_any"=some fA'
 take:C.fs "_law_take"=some aw'
 walked:C.fs "_law_walked"=some cx'
 bits:C.fs "_law_bits"=some e3'
 wa:C.fs "_law_walked_alike"=some sH'
 pd:C.fs "_law_parted"=some sI'
 ar:C.fs "_law_apart_right"=some sJ'
 trim:C.fs "trimmed"=some bY'
 rings:C.fs "rings"=some K11.cS'
def ml' (K:W.Frag):Sp:=fun vs H Q _=>∃(a:Addr) (ns:List Int),vs=[.ref a]/\SqL K H a (ns.map V.int)/\ns.length<=63/\∀H',Q (.bl true) H'
theorem or' {C:Rc} (hN:C.N.length=10) (F:FsLaw C):∀vs H Q E,ml' C.K vs H Q E->tSs C on' { nx:=fun _ H'=>Q .non H',rt:=Q } (L2.aF' C.N vs) H:=by
 intro vs H Q E h
 obtain⟨a,ns,rfl,hs,h63,q⟩:=h
 rw[an' hN]
 unfold on'
 symm
 refine cP' ⋯ ⋯ (ef' (fun i σ H'=>(∃x1 x2 x3 x4 x5 x6 x7 x8 x9,σ=[some (.ref a),x1,x2,x3,x4,x5,x6,x7,x8,x9])/\SqL C.K H' a (ns.map V.int)) ⟨⟨none,none,none,none,none,none,none,none,none,rfl⟩,hs⟩ ?_ ?_)
 .rintro i σ H0 hi ⟨⟨x1,x2,x3,x4,x5,x6,x7,x8,x9,rfl⟩,hs0⟩
  have hi:i<6:=hi
  rw[show(0:Int)+(i:Int)=((i:Nat):Int) by omega]
  symm
  refine aj' F.box ?_
  symm
  refine⟨a,ns,_,rfl,hs0,⋯,⋯,fun b hb=>?_⟩
  have hs1:=(ac' hb (dn' b 0)).seq hs0
  have hb1:upd H0 b (dn' b 0) b=some (dn' b 0):=ab'
  generalize upd H0 b (dn' b 0)=H1 at hs1 hb1 ⊢
  symm
  refine aj' F.any ?_
  symm
  refine⟨b,0,rfl,hb1,by decide,fun m M H2 g2 hM2 hO hM1 hMu=>?_⟩
  obtain⟨n2,hn2,hn2',_⟩:=g2.boxed hb1 ⋯
  obtain⟨mv,hmv,hmr⟩:=id hM2
  have hml:=hmr.len
  symm
  refine aj' F.take ?_
  symm
  refine bJ' (SqT.of hmv) ?_
  rw[hml]
  symm
  refine av' hn2 (Go.refl (c:=0)) ⋯ ⋯ ⋯ fun r H3 hr0 hrl g3 g03=>?_
  obtain⟨r,rfl⟩:=aU hr0
  have hr:r<M.length:=by omega
  obtain⟨n3,hn3,hn3',_⟩:=g03.boxed hn2 ⋯
  symm
  refine aj' F.walked ?_
  symm
  refine⟨b,m,n3,12,r,M,rfl,hn3,⋯,⋯,hM2.mono g3.tp,hO,hr,fun w1 H4 hw1 g4=>?_⟩
  have g24:=g3.trans g4
  obtain⟨n4,hn4,hn4',_⟩:=g24.boxed hn2 ⋯
  symm
  refine aj' F.walked ?_
  symm
  refine⟨b,m,n4,4,r,M,rfl,hn4,⋯,⋯,hM2.mono g24.tp,hO,hr,fun w2 H5 hw2 g5=>?_⟩
  have g25:=g24.trans g5
  obtain⟨n5,hn5,hn5',_⟩:=g25.boxed hn2 ⋯
  symm
  refine aj' F.bits ?_
  symm
  refine⟨b,n5,2,rfl,hn5,⋯,⋯,fun w3 H6 hw3 g6=>?_⟩
  have g26:=g25.trans g6
  symm
  refine⟨aX (ag' (by first|omega|(rw[aj];omega))),?_⟩
  refine⟨by decide,fun pl hpl=>?_⟩
  obtain⟨s7,h7⟩:=snw hpl (.lst [.str (tx w1),.str (tx (w2++w3)),.str (tx [])])
  generalize upd H6 pl _=H7 at s7 h7 ⊢
  have g27:=g26.trans (Go.of_same (c:=0) s7)
  refine as' (SqL.of h7) (fw' (xs:=[.str (tx w1),.str (tx (w2++w3)),.str (tx [])]) (fun j σ H'=>(∃x5 x6 x7 x8 x9,σ=[some (.ref a),some (.int i),some (.ref b),some (.ref m),some (.int r),x5,x6,x7,x8,x9])/\aC' H7 H') ⟨⟨_,_,_,_,_,rfl⟩,aC'.refl _⟩ (fun j σ H' _ pv=>SqL.of (pv.2 _ _ h7)) ?_ ?_)
  .rintro j x σ H8 hx ⟨⟨x5,x6,x7,x8,x9,rfl⟩,s8⟩
   obtain⟨row,rfl⟩:∃row,x=.str (tx row):=by
    match j,hx with
    |0,hx=>cases hx;exact⟨w1,rfl⟩
    |1,hx=>cases hx;exact⟨w2++w3,rfl⟩
    |2,hx=>cases hx;exact⟨[],rfl⟩
    |j+3,hx=>cases hx
   symm
   refine aj' F.wa ?_
   symm
   refine⟨m,M,row,rfl,hM2.mono (g27.tp.trans (ai' s8)),hO,hM1,hMu,fun H9 s9=>?_⟩
   symm
   exact⟨⟨_,_,_,_,_,rfl⟩,s8.trans s9⟩
  .rintro σ H8 ⟨⟨x5,x6,x7,x8,x9,rfl⟩,s8⟩
   have g28:=g27.trans (Go.of_same (c:=0) s8)
   obtain⟨n8,hn8,hn8',_⟩:=g28.boxed hn2 ⋯
   symm
   refine aj' F.walked ?_
   symm
   refine⟨b,m,n8,6,r,M,rfl,hn8,⋯,⋯,hM2.mono g28.tp,hO,hr,fun w4 H9 hw4 g9=>?_⟩
   have g29:=g28.trans g9
   obtain⟨n9,hn9,hn9',_⟩:=g29.boxed hn2 ⋯
   symm
   refine aj' F.bits ?_
   symm
   refine⟨b,n9,1,rfl,hn9,⋯,⋯,fun w5 H10 hw5 g10=>?_⟩
   have g210:=g29.trans g10
   obtain⟨n10,hn10,hn10',_⟩:=g210.boxed hn2 ⋯
   have h45:(w4++w5).length<=7:=by rw[aj];omega
   symm
   refine⟨aX (ag' (by first|omega|(rw[aj];omega))),?_⟩
   refine SR.rO' (n:=6) (by exact aX (ag' ⋯)) ?_
   have h6:((w4++w5).take 6).length<=6:=by rw[aQ];omega
   generalize (w4++w5).take 6=row at h6 ⊢
   symm
   refine aj' F.pd ?_
   symm
   refine aj' F.take ?_
   symm
   refine⟨aX (ag' ⋯),?_⟩
   refine av' hn10 (Go.refl (c:=0)) ⋯ ⋯ ⋯ fun k H11 hk0 hkl g11 g011=>?_
   obtain⟨k,rfl⟩:=aU hk0
   have g211:=g210.trans g11
   symm
   refine⟨m,M,row,k,rfl,hM2.mono g211.tp,hO,hMu,⋯,⋯,fun H12 s12=>?_⟩
   have g212:=g211.trans (Go.of_same (c:=0) s12)
   obtain⟨n12,hn12,hn12',_⟩:=g212.boxed hn2 ⋯
   symm
   refine cP' ⋯ ⋯ (ef' (fun j σ H'=>(∃x6 x7 x8 x9,σ=[some (.ref a),some (.int i),some (.ref b),some (.ref m),some (.int r),some (.str (tx row)),x6,x7,x8,x9])/\Go (2*j) H12 H') ⟨⟨_,_,_,_,rfl⟩,Go.refl⟩ ?_ ?_)
   .rintro j σ H13 hj ⟨⟨x6,x7,x8,x9,rfl⟩,g13⟩
    have hj:j<3:=hj
    obtain⟨n13,hn13,hn13',_⟩:=g13.boxed hn12 ⋯
    have hm13:=g13.tup (g212.tup hmv)
    symm
    refine aj' F.ar ?_
    symm
    refine aj' F.take ?_
    symm
    refine bJ' (SqT.of hm13) ?_
    rw[hml]
    symm
    refine av' hn13 (Go.refl (c:=0)) ⋯ ⋯ ⋯ fun x H14 hx0 hxl g14 g014=>?_
    obtain⟨x,rfl⟩:=aU hx0
    obtain⟨n14,hn14,hn14',_⟩:=g014.boxed hn13 ⋯
    symm
    refine aj' F.take ?_
    symm
    refine bJ' (SqT.of (g14.tup hm13)) ?_
    rw[hml]
    symm
    refine av' hn14 (Go.refl (c:=0)) ⋯ ⋯ ⋯ fun y H15 hy0 hyl g15 g015=>?_
    obtain⟨y,rfl⟩:=aU hy0
    have g1215:=(g13.trans g14).trans g15
    symm
    refine⟨m,M,x,y,rfl,hM2.mono (g212.trans g1215).tp,hO,hMu,⋯,⋯,fun H16 s16=>?_⟩
    symm
    exact⟨⟨_,_,_,_,rfl⟩,(g1215.trans (Go.of_same (c:=0) s16)).mono ⋯⟩
   .rintro σ H13 ⟨⟨x6,x7,x8,x9,rfl⟩,g13⟩
    have g213:=g212.trans g13
    have hM13:=hM2.mono g213.tp
    symm
    refine aj' F.trim ?_
    symm
    refine⟨m,M,rfl,hM13,⋯,fun p2 m2 l2 rs H14 s14 _ hp2 hl2 hm2 hR=>?_⟩
    symm
    refine bh' (SqT.of hp2) (v:=.ref l2) rfl ?_
    symm
    refine aj' F.rings ?_
    symm
    refine⟨m,M,rfl,hM13.mono (ai' s14),hO,⋯,fun l3 H15 _ s15 hL=>?_⟩
    obtain⟨vs,hl3,hv⟩:=hL
    have hl2':=s15 _ _ hl2
    refine as' (SqL.of hl3) (fw' (xs:=vs) (fun j σ H'=>(∃x8 x9,σ=[some (.ref a),some (.int i),some (.ref b),some (.ref m),some (.int r),some (.str (tx row)),x6,some (.ref l2),x8,x9])/\aC' H15 H') ⟨⟨_,_,rfl⟩,aC'.refl _⟩ (fun j σ H' _ pv=>SqL.of (pv.2 _ _ hl3)) ?_ ?_)
    .rintro j x σ H16 hx ⟨⟨x8,x9,rfl⟩,s16⟩
     obtain⟨L,hL1,e,rfl,_,_,he⟩:=hv.getL hx
     obtain⟨z,hz,rfl⟩:=aP.mp (az hL1)
     have hz:=aI.mp (bC.mp hz).1
     have he16:=s16 _ _ he
     have hl16:=s16 _ _ hl2'
     symm
     refine as' (SqL.of he16) (cF' (vs:=K11.iN (K11.cl M z)) (fun j xs H'=>H'=H16/\xs=(aK j true).map V.bl) ⟨rfl,rfl⟩ (fun j xs H' pv=>by rw[pv.1];exact SqL.of he16) ?_ ?_)
     .rintro j xs H17 v R hv' ⟨rfl,rfl⟩ hR'
      have hj:=ak' hv'
      unfold K11.iN at hv' hj
      rw[ae]at hj
      rw[al,aa hj]at hv'
      cases hv'
      have hjl:(K11.cl M z).length<=60:=by
       have:=bE (fun b=>K11.rch M z b&&K11.rch M b z) (av M.length)
       rw[aV]at this
       exact aS this hMu
      symm
      refine gB' hl16 ?_
      rw[decide_eq_true (mg' hO hR hz (bW hj))]
      refine⟨ag' (by rw[ae,List.length_replicate];omega),hR' _ _ ⟨rfl,?_⟩⟩
      rw[List.replicate_succ',aN]
      rfl
     .rintro xs H17 ⟨rfl,rfl⟩ p8 hp8
      obtain⟨s8',h8⟩:=snw hp8 (.lst ((aK (K11.iN (K11.cl M z)).length true).map V.bl))
      generalize upd H17 p8 _=H18 at s8' h8 ⊢
      symm
      refine o8' (SqL.of h8) ?_
      rw[show(aK (K11.iN (K11.cl M z)).length true).all id=true by simp]
      symm
      exact⟨⟨_,_,rfl⟩,s16.trans s8'⟩
    .rintro σ H16 ⟨⟨x8,x9,rfl⟩,s16⟩
     symm
     exact⟨⟨_,_,_,_,_,_,_,_,_,rfl⟩,(s14.trans (s15.trans s16)).seq (g213.seq (g2.seq hs1))⟩
 .rintro σ H0 ⟨⟨x1,x2,x3,x4,x5,x6,x7,x8,x9,rfl⟩,hs0⟩
  symm
  exact q _
end K16
namespace K16
open PySem PySem.Spec PyProof.Rows L2 R3 LW TM BD BE TE RW
def top (i:Nat):Stmt:=PySem.Challenge.pw_runbound_k16_whole_machines_walked.main.body.getD i (.Pass ⟨0,0,0,0⟩)
theorem wT':mSs fH' dQ' (ad' (top 1)) dL' (al' (top 1))=true:=⋯
theorem sk':FnScope fH' ["machine","room","row"] (ad' (top 1)):=⟨rfl,rfl,rfl,⋯,rfl,⋯,⋯⟩
theorem ot':mSs dw' cz' (ad' (top 2)) cw' (al' (top 2))=true:=⋯
theorem mm':FnScope dw' ["machine","row"] (ad' (top 2)):=⟨rfl,rfl,rfl,⋯,rfl,⋯,⋯⟩
theorem wU':mSs cV' b6' (ad' (top 3)) bV' (al' (top 3))=true:=⋯
theorem sm':FnScope cV' ["machine","rooms"] (ad' (top 3)):=⟨rfl,rfl,rfl,⋯,rfl,⋯,⋯⟩
theorem wV':mSs cW' b7' (ad' (top 4)) bW' (al' (top 4))=true:=⋯
theorem sn':FnScope cW' ["machine","numbers"] (ad' (top 4)):=⟨rfl,rfl,rfl,⋯,rfl,⋯,⋯⟩
theorem wW':mSs cX' b8' (ad' (top 5)) bX' (al' (top 5))=true:=⋯
theorem so':FnScope cX' ["machine"] (ad' (top 5)):=⟨rfl,rfl,rfl,⋯,rfl,⋯,⋯⟩
theorem mn':mSs K11.cR' K11.bZ' (ad' (top 6)) K11.b0' (al' (top 6))=true:=⋯
theorem jx':FnScope K11.cR' ["machine","room"] (ad' (top 6)):=⟨rfl,rfl,rfl,⋯,rfl,⋯,⋯⟩
theorem sq':mSs K11.en' K11.db' (ad' (top 7)) K11.dc' (al' (top 7))=true:=⋯
theorem ou':FnScope K11.en' ["machine"] (ad' (top 7)):=⟨rfl,rfl,rfl,⋯,rfl,⋯,⋯⟩
theorem wX':mSs K12.bK' K12.a7' (ad' (top 8)) K12.a8' (al' (top 8))=true:=⋯
theorem sr':FnScope K12.bK' ["machine","room","many"] (ad' (top 8)):=⟨rfl,rfl,rfl,⋯,rfl,⋯,⋯⟩
theorem zA':mSs K12.cT' K12.b1' (ad' (top 9)) K12.b2' (al' (top 9))=true:=⋯
theorem wY':FnScope K12.cT' ["machine","many"] (ad' (top 9)):=⟨rfl,rfl,rfl,⋯,rfl,⋯,⋯⟩
theorem Ba':mSs K13.bu' K13.a0' (ad' (top 11)) K13.a1' (al' (top 11))=true:=⋯
theorem zB':FnScope K13.bu' ["room","other"] (ad' (top 11)):=⟨rfl,rfl,rfl,⋯,rfl,⋯,⋯⟩
theorem ss':mSs K13.eq' K13.df' (ad' (top 12)) K13.dg' (al' (top 12))=true:=⋯
theorem ov':FnScope K13.eq' ["one","a","other","b"] (ad' (top 12)):=⟨rfl,rfl,rfl,⋯,rfl,⋯,⋯⟩
theorem wZ':mSs K15.cj' K15.bD' (ad' (top 13)) K15.bE' (al' (top 13))=true:=⋯
theorem su':FnScope K15.cj' ["signs"] (ad' (top 13)):=⟨rfl,rfl,rfl,⋯,rfl,⋯,⋯⟩
theorem zC':mSs K15.cU' K15.b4' (ad' (top 14)) K15.b5' (al' (top 14))=true:=⋯
theorem w0':FnScope K15.cU' ["machine","numbers"] (ad' (top 14)):=⟨rfl,rfl,rfl,⋯,rfl,⋯,⋯⟩
theorem Bb':mSs K15.bi' K15.aU' (ad' (top 15)) K15.aV' (al' (top 15))=true:=⋯
theorem zD':FnScope K15.bi' ["machine"] (ad' (top 15)):=⟨rfl,rfl,rfl,⋯,rfl,⋯,⋯⟩
theorem Bc':mSs K15.ew' K15.dj' (ad' (top 16)) K15.dk' (al' (top 16))=true:=⋯
theorem zE':FnScope K15.ew' ["machine"] (ad' (top 16)):=⟨rfl,rfl,rfl,⋯,rfl,⋯,⋯⟩
theorem Bd':mSs K15.ck' K15.bF' (ad' (top 17)) K15.bG' (al' (top 17))=true:=⋯
theorem zF':FnScope K15.ck' ["machine"] (ad' (top 17)):=⟨rfl,rfl,rfl,⋯,rfl,⋯,⋯⟩
theorem w1':mSs dl' cm' (ad' (top 19)) c5' (al' (top 19))=true:=⋯
theorem sv':FnScope dl' ["_law_script","_law_k"] (ad' (top 19)):=⟨rfl,rfl,rfl,⋯,rfl,⋯,⋯⟩
theorem zG':mSs ok' l9' (ad' (top 20)) nX' (al' (top 20))=true:=⋯
theorem w2':FnScope ok' ["_law_script","_law_k"] (ad' (top 20)):=⟨rfl,rfl,rfl,⋯,rfl,⋯,⋯⟩
theorem w3':mSs ma' iM' (ad' (top 21)) io' (al' (top 21))=true:=⋯
theorem sw':FnScope ma' ["_law_box_here","_law_many_here"] (ad' (top 21)):=⟨rfl,rfl,rfl,⋯,rfl,⋯,⋯⟩
theorem w4':mSs mb' iN' (ad' (top 22)) iq' (al' (top 22))=true:=⋯
theorem sx':FnScope mb' ["_law_box_here","_law_least","_law_few","_law_most"] (ad' (top 22)):=⟨rfl,rfl,rfl,⋯,rfl,⋯,⋯⟩
theorem mo':mSs ez' dm' (ad' (top 23)) c6' (al' (top 23))=true:=⋯
theorem jy':FnScope ez' ["_law_box_here","_law_many_here"] (ad' (top 23)):=⟨rfl,rfl,rfl,⋯,rfl,⋯,⋯⟩
theorem w5':mSs bL' a9' (ad' (top 24)) aQ' (al' (top 24))=true:=⋯
theorem sy':FnScope bL' ["_law_box_here","_law_many_here"] (ad' (top 24)):=⟨rfl,rfl,rfl,⋯,rfl,⋯,⋯⟩
theorem ox':mSs fI' dR' (ad' (top 25)) dK' (al' (top 25))=true:=⋯
theorem mp':FnScope fI' ["_law_box_here","_law_machine_here"] (ad' (top 25)):=⟨rfl,rfl,rfl,⋯,rfl,⋯,⋯⟩
theorem w6':mSs mc' iO' (ad' (top 26)) ir' (al' (top 26))=true:=⋯
theorem sz':FnScope mc' ["_law_box_here","_law_many_here"] (ad' (top 26)):=⟨rfl,rfl,rfl,⋯,rfl,⋯,⋯⟩
theorem zH':mSs sd' ol' (ad' (top 27)) n0' (al' (top 27))=true:=⋯
theorem w7':FnScope sd' ["_law_box_here"] (ad' (top 27)):=⟨rfl,rfl,rfl,⋯,rfl,⋯,⋯⟩
theorem w8':mSs md' iP' (ad' (top 28)) iv' (al' (top 28))=true:=⋯
theorem sA':FnScope md' ["_law_box_here","_law_many_here"] (ad' (top 28)):=⟨rfl,rfl,rfl,⋯,rfl,⋯,⋯⟩
theorem oy':mSs fJ' dS' (ad' (top 29)) dM' (al' (top 29))=true:=⋯
theorem mq':FnScope fJ' ["_law_box_here","_law_machine_here","_law_room","_law_many_here"] (ad' (top 29)):=⟨rfl,rfl,rfl,⋯,rfl,⋯,⋯⟩
theorem Be':mSs bM' ba' (ad' (top 30)) bb' (al' (top 30))=true:=⋯
theorem zI':FnScope bM' ["_law_machine_here","_law_row"] (ad' (top 30)):=⟨rfl,rfl,rfl,⋯,rfl,⋯,⋯⟩
theorem Bf':mSs fK' dT' (ad' (top 31)) dU' (al' (top 31))=true:=⋯
theorem zJ':FnScope fK' ["_law_machine_here","_law_row","_law_at"] (ad' (top 31)):=⟨rfl,rfl,rfl,⋯,rfl,⋯,⋯⟩
theorem Bg':mSs b9' bk' (ad' (top 32)) bl' (al' (top 32))=true:=⋯
theorem zK':FnScope b9' ["_law_machine_here","_law_a","_law_b"] (ad' (top 32)):=⟨rfl,rfl,rfl,⋯,rfl,⋯,⋯⟩
theorem zL':mSs om' me' (ad' (top 33)) on' (al' (top 33))=true:=⋯
theorem w9':FnScope om' ["_law_script"] (ad' (top 33)):=⟨rfl,rfl,rfl,⋯,rfl,⋯,⋯⟩
set_option hygiene false in
local macro_rules | `(tactic| walk_at "o") => `(tactic| (intro vs H Q E h; repeat (first | (obtain ⟨rfl, _⟩ := h; rfl) | (obtain ⟨_, h⟩ := h))))
def FnD (K:W.Frag) (x:Str) (st:Stmt):Prop:=∃(f:Addr) (fd:FuncData),W.nsIn K mainGlobals x=some (some (.ref f))/\Fun K x x st f fd
theorem aB' {K:W.Frag} {x:Str} {st:Stmt} {f:Addr} {oc:Value} {od an:Option Addr} {osl:Array (Option Value)} {kV doc pm cdv ct:Value} (a:W.nsIn K mainGlobals x=some (some (.ref f))) (l:K.lookup f=some ⟨oc,od,.func (W.fnOf x x (dp' st) (al' st) (ad' st) .none kV doc pm an cdv ct),osl⟩) (c:W.codeIn K cdv x=true) (k:W.keepIn K (.ref f)=true):FnD K x st:=⟨f,_,a,tp' l c k⟩
set_option hygiene false in
local macro_rules | `(tactic| walk_at "b") => `(tactic| (intro _ _ _ _ _ _ us hl; first | exact xt' (P:=fun us=>bindArgs _ ({ pos:=us }:Args)=pure (bB _ us)) (fun _ _ _=>rfl) us hl | exact gD' (P:=fun us=>bindArgs _ ({ pos:=us }:Args)=pure (bB _ us)) (fun _ _=>rfl) us hl | exact rh' (P:=fun us=>bindArgs _ ({ pos:=us }:Args)=pure (bB _ us)) (fun _=>rfl) us hl | exact zf' (P:=fun us=>bindArgs _ ({ pos:=us }:Args)=pure (bB _ us)) (fun _ _ _ _=>rfl) us hl))
theorem xa' {l:W.OpenLaw} {w:World} {K:W.Frag} {h:Heap} {mg:Str->Option Value} {fa:Addr} (X:K.In h) (G:h.Ns mainGlobals mg) (hfa:mg "law"=some (.ref fa))
  (p1:FnD K "walk" (top 1))
  (p2:FnD K "starts" (top 2))
  (p3:FnD K "lasting" (top 3))
  (p4:FnD K "part_of" (top 4))
  (p5:FnD K "trimmed" (top 5))
  (p6:FnD K "reached" (top 6))
  (p7:FnD K "rings" (top 7))
  (p8:FnD K "walks_from" (top 8))
  (p9:FnD K "powered" (top 9))
  (p10:FnD K "parting_bit" (top 11))
  (p11:FnD K "apart" (top 12))
  (p12:FnD K "numbered" (top 13))
  (p13:FnD K "refined" (top 14))
  (p14:FnD K "kind_numbers" (top 15))
  (p15:FnD K "kinds" (top 16))
  (p16:FnD K "lessened" (top 17))
  (p17:FnD K "_law_cell_at" (top 19))
  (p18:FnD K "_law_box" (top 20))
  (p19:FnD K "_law_take" (top 21))
  (p20:FnD K "_law_many" (top 22))
  (p21:FnD K "_law_machine" (top 23))
  (p22:FnD K "_law_ring_machine" (top 24))
  (p23:FnD K "_law_copied" (top 25))
  (p24:FnD K "_law_line" (top 26))
  (p25:FnD K "_law_any" (top 27))
  (p26:FnD K "_law_bits" (top 28))
  (p27:FnD K "_law_walked" (top 29))
  (p28:FnD K "_law_walked_alike" (top 30))
  (p29:FnD K "_law_parted" (top 31))
  (p30:FnD K "_law_apart_right" (top 32))
  (p31:FnD K "law" (top 33))
  (z1:W.nsIn K mainGlobals "~"=some none)
  (z2:W.nsIn K mainGlobals "^"=some none)
  (z3:W.nsIn K mainGlobals "%"=some none)
  (z4:W.nsIn K mainGlobals "int"=some none)
  (z5:W.nsIn K mainGlobals "len"=some none)
  (z6:W.nsIn K mainGlobals "range"=some none)
  (z7:W.nsIn K mainGlobals "set"=some none)
  (z8:W.nsIn K mainGlobals "enumerate"=some none)
  (z9:W.nsIn K mainGlobals "tuple"=some none)
  (z10:W.nsIn K mainGlobals "list"=some none)
  (z11:W.nsIn K mainGlobals "zip"=some none)
  (z12:W.nsIn K mainGlobals "abs"=some none)
  (z13:W.nsIn K mainGlobals "all"=some none):
  ∃fd:FuncData,(∀(s:Shared) (v:Value),BindsTo s fd ⟨[v],[]⟩ [("_law_script",v)])/\∀base:Heap,K.In base->base.Ns mainGlobals mg->FnOk l.prog w K mg base CX0 60 fa fd ["_law_script"] (ml' K):=by
 obtain⟨f1,g1,a1,F1⟩:=p1
 obtain⟨f2,g2,a2,F2⟩:=p2
 obtain⟨f3,g3,a3,F3⟩:=p3
 obtain⟨f4,g4,a4,F4⟩:=p4
 obtain⟨f5,g5,a5,F5⟩:=p5
 obtain⟨f6,g6,a6,F6⟩:=p6
 obtain⟨f7,g7,a7,F7⟩:=p7
 obtain⟨f8,g8,a8,F8⟩:=p8
 obtain⟨f9,g9,a9,F9⟩:=p9
 obtain⟨f10,g10,a10,F10⟩:=p10
 obtain⟨f11,g11,a11,F11⟩:=p11
 obtain⟨f12,g12,a12,F12⟩:=p12
 obtain⟨f13,g13,a13,F13⟩:=p13
 obtain⟨f14,g14,a14,F14⟩:=p14
 obtain⟨f15,g15,a15,F15⟩:=p15
 obtain⟨f16,g16,a16,F16⟩:=p16
 obtain⟨f17,g17,a17,F17⟩:=p17
 obtain⟨f18,g18,a18,F18⟩:=p18
 obtain⟨f19,g19,a19,F19⟩:=p19
 obtain⟨f20,g20,a20,F20⟩:=p20
 obtain⟨f21,g21,a21,F21⟩:=p21
 obtain⟨f22,g22,a22,F22⟩:=p22
 obtain⟨f23,g23,a23,F23⟩:=p23
 obtain⟨f24,g24,a24,F24⟩:=p24
 obtain⟨f25,g25,a25,F25⟩:=p25
 obtain⟨f26,g26,a26,F26⟩:=p26
 obtain⟨f27,g27,a27,F27⟩:=p27
 obtain⟨f28,g28,a28,F28⟩:=p28
 obtain⟨f29,g29,a29,F29⟩:=p29
 obtain⟨f30,g30,a30,F30⟩:=p30
 obtain⟨f31,g31,a31,F31⟩:=p31
 obtain⟨oc31,od31,kV31,dc31,pm31,an31,cd31,ct31,sl31,rfl,l31,c31⟩:=F31.ex
 have e:=hfa.symm.trans (W.mg_of X G a31)
 cases e
 have b1:=F1.binds (ps:=["machine","room","row"]) ⋯
 have m1:=W.mg_of X G a1
 have b2:=F2.binds (ps:=["machine","row"]) ⋯
 have m2:=W.mg_of X G a2
 have b3:=F3.binds (ps:=["machine","rooms"]) ⋯
 have m3:=W.mg_of X G a3
 have b4:=F4.binds (ps:=["machine","numbers"]) ⋯
 have m4:=W.mg_of X G a4
 have b5:=F5.binds (ps:=["machine"]) ⋯
 have m5:=W.mg_of X G a5
 have b6:=F6.binds (ps:=["machine","room"]) ⋯
 have m6:=W.mg_of X G a6
 have b7:=F7.binds (ps:=["machine"]) ⋯
 have m7:=W.mg_of X G a7
 have b8:=F8.binds (ps:=["machine","room","many"]) ⋯
 have m8:=W.mg_of X G a8
 have b9:=F9.binds (ps:=["machine","many"]) ⋯
 have m9:=W.mg_of X G a9
 have b10:=F10.binds (ps:=["room","other"]) ⋯
 have m10:=W.mg_of X G a10
 have b11:=F11.binds (ps:=["one","a","other","b"]) ⋯
 have m11:=W.mg_of X G a11
 have b12:=F12.binds (ps:=["signs"]) ⋯
 have m12:=W.mg_of X G a12
 have b13:=F13.binds (ps:=["machine","numbers"]) ⋯
 have m13:=W.mg_of X G a13
 have b14:=F14.binds (ps:=["machine"]) ⋯
 have m14:=W.mg_of X G a14
 have b15:=F15.binds (ps:=["machine"]) ⋯
 have m15:=W.mg_of X G a15
 have b16:=F16.binds (ps:=["machine"]) ⋯
 have m16:=W.mg_of X G a16
 have b17:=F17.binds (ps:=["_law_script","_law_k"]) ⋯
 have m17:=W.mg_of X G a17
 have b18:=F18.binds (ps:=["_law_script","_law_k"]) ⋯
 have m18:=W.mg_of X G a18
 have b19:=F19.binds (ps:=["_law_box_here","_law_many_here"]) ⋯
 have m19:=W.mg_of X G a19
 have b20:=F20.binds (ps:=["_law_box_here","_law_least","_law_few","_law_most"]) ⋯
 have m20:=W.mg_of X G a20
 have b21:=F21.binds (ps:=["_law_box_here","_law_many_here"]) ⋯
 have m21:=W.mg_of X G a21
 have b22:=F22.binds (ps:=["_law_box_here","_law_many_here"]) ⋯
 have m22:=W.mg_of X G a22
 have b23:=F23.binds (ps:=["_law_box_here","_law_machine_here"]) ⋯
 have m23:=W.mg_of X G a23
 have b24:=F24.binds (ps:=["_law_box_here","_law_many_here"]) ⋯
 have m24:=W.mg_of X G a24
 have b25:=F25.binds (ps:=["_law_box_here"]) ⋯
 have m25:=W.mg_of X G a25
 have b26:=F26.binds (ps:=["_law_box_here","_law_many_here"]) ⋯
 have m26:=W.mg_of X G a26
 have b27:=F27.binds (ps:=["_law_box_here","_law_machine_here","_law_room","_law_many_here"]) ⋯
 have m27:=W.mg_of X G a27
 have b28:=F28.binds (ps:=["_law_machine_here","_law_row"]) ⋯
 have m28:=W.mg_of X G a28
 have b29:=F29.binds (ps:=["_law_machine_here","_law_row","_law_at"]) ⋯
 have m29:=W.mg_of X G a29
 have b30:=F30.binds (ps:=["_law_machine_here","_law_a","_law_b"]) ⋯
 have m30:=W.mg_of X G a30
 have m31:=W.mg_of X G a31
 have n1:=W.mg_none_of X G z1
 have n2:=W.mg_none_of X G z2
 have n3:=W.mg_none_of X G z3
 have n4:=W.mg_none_of X G z4
 have n5:=W.mg_none_of X G z5
 have n6:=W.mg_none_of X G z6
 have n7:=W.mg_none_of X G z7
 have n8:=W.mg_none_of X G z8
 have n9:=W.mg_none_of X G z9
 have n10:=W.mg_none_of X G z10
 have n11:=W.mg_none_of X G z11
 have n12:=W.mg_none_of X G z12
 have n13:=W.mg_none_of X G z13
 refine⟨W.fnOf "law" "law" (dp' (top 33)) (al' (top 33)) (ad' (top 33)) .none kV31 dc31 pm31 an31 cd31 ct31,fun s v=>.of_eq rfl,fun base _ _=>?_⟩
 have O1:=ao' (P:=l.prog) (w:=w) (mg:=mg) (base:=base) (k:=0) F1 { N:=fH',B:=dQ',K:=K,fs:=aI' [] } sk' rfl dL' wT' (sp:=bB') ⋯ (aA' mN) (mC ⟨n4,mN⟩) ⟨n1,n2,n3⟩ ⋯ ⋯ rfl rfl (lE' rfl  )
 have O2:=ao' (P:=l.prog) (w:=w) (mg:=mg) (base:=base) (k:=1) F2 { N:=dw',B:=cz',K:=K,fs:=aI' [("walk",bB')] } mm' rfl cw' ot' (sp:=c9') ⋯ (aA' (mC ⟨⟨_,_,_,(O1).mono ⋯,m1,F1.kp,b1⟩,mN⟩)) (mC ⟨n5,(mC ⟨n6,mN⟩)⟩) ⟨n1,n2,n3⟩ ⋯ ⋯ rfl rfl (g8' rfl (show aI' _ "walk"=some (bB') from ae') )
 have O3:=ao' (P:=l.prog) (w:=w) (mg:=mg) (base:=base) (k:=0) F3 { N:=cV',B:=b6',K:=K,fs:=aI' [] } sm' rfl bV' wU' (sp:=gr') ⋯ (aA' mN) (mC ⟨n7,mN⟩) ⟨n1,n2,n3⟩ ⋯ ⋯ rfl rfl (lG' rfl  )
 have O4:=ao' (P:=l.prog) (w:=w) (mg:=mg) (base:=base) (k:=0) F4 { N:=cW',B:=b7',K:=K,fs:=aI' [] } sn' rfl bW' wV' (sp:=em') ⋯ (aA' mN) (mC ⟨n8,(mC ⟨n9,mN⟩)⟩) ⟨n1,n2,n3⟩ ⋯ ⋯ rfl rfl (jq' rfl  )
 have O5:=ao' (P:=l.prog) (w:=w) (mg:=mg) (base:=base) (k:=1) F5 { N:=cX',B:=b8',K:=K,fs:=aI' [("lasting",gr'),("part_of",em')] } so' rfl bX' wW' (sp:=bY') ⋯ (aA' (mC ⟨⟨_,_,_,(O3).mono ⋯,m3,F3.kp,b3⟩,(mC ⟨⟨_,_,_,(O4).mono ⋯,m4,F4.kp,b4⟩,mN⟩)⟩)) (mC ⟨n5,(mC ⟨n10,(mC ⟨n6,mN⟩)⟩)⟩) ⟨n1,n2,n3⟩ ⋯ ⋯ rfl rfl (jr' rfl (show aI' _ "lasting"=some (gr') from ae') (show aI' _ "part_of"=some (em') from((aa' ⋯).trans ae')) )
 have O6:=ao' (P:=l.prog) (w:=w) (mg:=mg) (base:=base) (k:=0) F6 { N:=K11.cR',B:=K11.bZ',K:=K,fs:=aI' [] } jx' rfl K11.b0' mn' (sp:=K11.ci') ⋯ (aA' mN) mN ⟨n1,n2,n3⟩ (show tld K11.bZ'=false by decide +kernel) (show hat K11.bZ'=false by decide +kernel) rfl rfl (K11.gu' rfl  )
 have O7:=ao' (P:=l.prog) (w:=w) (mg:=mg) (base:=base) (k:=1) F7 { N:=K11.en',B:=K11.db',K:=K,fs:=aI' [("reached",K11.ci')] } ou' rfl K11.dc' sq' (sp:=K11.cS') ⋯ (aA' (mC ⟨⟨_,_,_,(O6).mono ⋯,m6,F6.kp,b6⟩,mN⟩)) (mC ⟨n5,(mC ⟨n10,(mC ⟨n6,mN⟩)⟩)⟩) ⟨n1,n2,n3⟩ (show tld K11.db'=false by decide +kernel) (show hat K11.db'=false by decide +kernel) rfl rfl (K11.ju' rfl (show aI' _ "reached"=some (K11.ci') from ae') )
 have O8:=ao' (P:=l.prog) (w:=w) (mg:=mg) (base:=base) (k:=0) F8 { N:=K12.bK',B:=K12.a7',K:=K,fs:=aI' [] } sr' rfl K12.a8' wX' (sp:=K12.gv') ⋯ (aA' mN) (mC ⟨n4,(mC ⟨n6,mN⟩)⟩) ⟨n1,n2,n3⟩ (show tld K12.a7'=false by decide +kernel) (show hat K12.a7'=false by decide +kernel) rfl rfl (K12.lL' rfl  )
 have O9:=ao' (P:=l.prog) (w:=w) (mg:=mg) (base:=base) (k:=1) F9 { N:=K12.cT',B:=K12.b1',K:=K,fs:=aI' [("walks_from",K12.gv')] } wY' rfl K12.b2' zA' (sp:=K12.jv') ⋯ (aA' (mC ⟨⟨_,_,_,(O8).mono ⋯,m8,F8.kp,b8⟩,mN⟩)) (mC ⟨n5,(mC ⟨n6,mN⟩)⟩) ⟨n1,n2,n3⟩ (show tld K12.b1'=false by decide +kernel) (show hat K12.b1'=false by decide +kernel) rfl rfl (K12.oe' rfl (show aI' _ "walks_from"=some (K12.gv') from ae') )
 have O10:=ao' (P:=l.prog) (w:=w) (mg:=mg) (base:=base) (k:=0) F10 { N:=K13.bu',B:=K13.a0',K:=K,fs:=aI' [] } zB' rfl K13.a1' Ba' (sp:=K13.wp') ⋯ (aA' mN) (mC ⟨n4,mN⟩) ⟨n1,n2,n3⟩ (show tld K13.a0'=false by decide +kernel) (show hat K13.a0'=false by decide +kernel) rfl rfl (K13.rV' rfl  )
 have O11:=ao' (P:=l.prog) (w:=w) (mg:=mg) (base:=base) (k:=1) F11 { N:=K13.eq',B:=K13.df',K:=K,fs:=aI' [("parting_bit",K13.wp')] } ov' rfl K13.dg' ss' (sp:=K13.sG') ⋯ (aA' (mC ⟨⟨_,_,_,(O10).mono ⋯,m10,F10.kp,b10⟩,mN⟩)) (mC ⟨n4,mN⟩) ⟨n1,n2,n3⟩ (show tld K13.df'=false by decide +kernel) (show hat K13.df'=false by decide +kernel) rfl rfl (K13.rW' rfl (show aI' _ "parting_bit"=some (K13.wp') from ae') )
 have O12:=ao' (P:=l.prog) (w:=w) (mg:=mg) (base:=base) (k:=0) F12 { N:=K15.cj',B:=K15.bD',K:=K,fs:=aI' [] } su' rfl K15.bE' wZ' (sp:=K15.gy') ⋯ (aA' mN) (mC ⟨n5,mN⟩) ⟨n1,n2,n3⟩ (show tld K15.bD'=false by decide +kernel) (show hat K15.bD'=false by decide +kernel) rfl rfl (K15.l6' rfl  )
 have O13:=ao' (P:=l.prog) (w:=w) (mg:=mg) (base:=base) (k:=1) F13 { N:=K15.cU',B:=K15.b4',K:=K,fs:=aI' [("numbered",K15.gy')] } w0' rfl K15.b5' zC' (sp:=K15.l8') ⋯ (aA' (mC ⟨⟨_,_,_,(O12).mono ⋯,m12,F12.kp,b12⟩,mN⟩)) (mC ⟨n11,mN⟩) ⟨n1,n2,n3⟩ (show tld K15.b4'=false by decide +kernel) (show hat K15.b4'=false by decide +kernel) rfl rfl (K15.oj' rfl (show aI' _ "numbered"=some (K15.gy') from ae') )
 have O14:=ao' (P:=l.prog) (w:=w) (mg:=mg) (base:=base) (k:=2) F14 { N:=K15.bi',B:=K15.aU',K:=K,fs:=aI' [("refined",K15.l8')] } zD' rfl K15.aV' Bb' (sp:=K15.pv') ⋯ (aA' (mC ⟨⟨_,_,_,(O13).mono ⋯,m13,F13.kp,b13⟩,mN⟩)) mN ⟨n1,n2,n3⟩ (show tld K15.aU'=false by decide +kernel) (show hat K15.aU'=false by decide +kernel) rfl rfl (K15.r7' rfl (show aI' _ "refined"=some (K15.l8') from ae') )
 have O15:=ao' (P:=l.prog) (w:=w) (mg:=mg) (base:=base) (k:=3) F15 { N:=K15.ew',B:=K15.dj',K:=K,fs:=aI' [("kind_numbers",K15.pv')] } zE' rfl K15.dk' Bc' (sp:=K15.mt') ⋯ (aA' (mC ⟨⟨_,_,_,(O14).mono ⋯,m14,F14.kp,b14⟩,mN⟩)) (mC ⟨n8,(mC ⟨n5,mN⟩)⟩) ⟨n1,n2,n3⟩ (show tld K15.dj'=false by decide +kernel) (show hat K15.dj'=false by decide +kernel) rfl rfl (K15.r8' rfl (show aI' _ "kind_numbers"=some (K15.pv') from ae') )
 have O16:=ao' (P:=l.prog) (w:=w) (mg:=mg) (base:=base) (k:=4) F16 { N:=K15.ck',B:=K15.bF',K:=K,fs:=aI' [("kind_numbers",K15.pv'),("kinds",K15.mt')] } zF' rfl K15.bG' Bd' (sp:=K15.r9') ⋯ (aA' (mC ⟨⟨_,_,_,(O14).mono ⋯,m14,F14.kp,b14⟩,(mC ⟨⟨_,_,_,(O15).mono ⋯,m15,F15.kp,b15⟩,mN⟩)⟩)) (mC ⟨n9,mN⟩) ⟨n1,n2,n3⟩ (show tld K15.bF'=false by decide +kernel) (show hat K15.bF'=false by decide +kernel) rfl rfl (K15.sa' rfl (show aI' _ "kind_numbers"=some (K15.pv') from ae') (show aI' _ "kinds"=some (K15.mt') from((aa' ⋯).trans ae')) )
 have O17:=ao' (P:=l.prog) (w:=w) (mg:=mg) (base:=base) (k:=0) F17 { N:=dl',B:=cm',K:=K,fs:=aI' [] } sv' rfl c5' w1' (sp:=eZ' K) ⋯ (aA' mN) (mC ⟨n5,mN⟩) ⟨n1,n2,n3⟩ ⋯ ⋯ rfl rfl (lx' (C:={ N:=dl',B:=cm',K:=K,fs:=aI' [] }) rfl  )
 have O18:=wb' (ao' (P:=l.prog) (w:=w) (mg:=mg) (base:=base) (k:=1) F18 { N:=ok',B:=l9',K:=K,fs:=aI' [("_law_cell_at",eZ' K)] } w2' rfl nX' zG' (sp:=ly' K) ⋯ (aA' (mC ⟨⟨_,_,_,(O17).mono ⋯,m17,F17.kp,b17⟩,mN⟩)) (mC ⟨n12,(mC ⟨n4,mN⟩)⟩) ⟨n1,n2,n3⟩ ⋯ ⋯ rfl rfl (nZ' (C:={ N:=ok',B:=l9',K:=K,fs:=aI' [("_law_cell_at",eZ' K)] }) rfl (show aI' _ "_law_cell_at"=some (eZ' K) from ae') ))
 have O19:=rF' rfl (ao' (P:=l.prog) (w:=w) (mg:=mg) (base:=base) (k:=0) F19 { N:=ma',B:=iM',K:=K,fs:=aI' [] } sw' rfl io' w3' (sp:=fy') ⋯ (aA' mN) mN ⟨n1,n2,n3⟩ ⋯ ⋯ rfl rfl (lz' rfl  ))
 have O20:=ao' (P:=l.prog) (w:=w) (mg:=mg) (base:=base) (k:=1) F20 { N:=mb',B:=iN',K:=K,fs:=aI' [("_law_take",aw')] } sx' rfl iq' w4' (sp:=gp') ⋯ (aA' (mC ⟨⟨_,_,_,(O19).mono ⋯,m19,F19.kp,b19⟩,mN⟩)) mN ⟨n1,n2,n3⟩ ⋯ ⋯ rfl rfl (lA' rfl (show aI' _ "_law_take"=some (aw') from ae') )
 have O21:=ao' (P:=l.prog) (w:=w) (mg:=mg) (base:=base) (k:=1) F21 { N:=ez',B:=dm',K:=K,fs:=aI' [("_law_take",aw')] } jy' rfl c6' mo' (sp:=bt' 1 60 400) ⋯ (aA' (mC ⟨⟨_,_,_,(O19).mono ⋯,m19,F19.kp,b19⟩,mN⟩)) (mC ⟨n4,(mC ⟨n6,(mC ⟨n9,mN⟩)⟩)⟩) ⟨n1,n2,n3⟩ ⋯ ⋯ rfl rfl (gq' rfl (show aI' _ "_law_take"=some (aw') from ae') )
 have O22:=ao' (P:=l.prog) (w:=w) (mg:=mg) (base:=base) (k:=1) F22 { N:=bL',B:=a9',K:=K,fs:=aI' [("_law_take",aw')] } sy' rfl aQ' w5' (sp:=bt' 1 60 400) ⋯ (aA' (mC ⟨⟨_,_,_,(O19).mono ⋯,m19,F19.kp,b19⟩,mN⟩)) (mC ⟨n8,(mC ⟨n4,(mC ⟨n6,(mC ⟨n9,mN⟩)⟩)⟩)⟩) ⟨n1,n2,n3⟩ ⋯ ⋯ rfl rfl (lB' rfl (show aI' _ "_law_take"=some (aw') from ae') )
 have O23:=ao' (P:=l.prog) (w:=w) (mg:=mg) (base:=base) (k:=1) F23 { N:=fI',B:=dR',K:=K,fs:=aI' [("_law_take",aw')] } mp' rfl dK' ox' (sp:=c7') ⋯ (aA' (mC ⟨⟨_,_,_,(O19).mono ⋯,m19,F19.kp,b19⟩,mN⟩)) (mC ⟨n8,(mC ⟨n5,(mC ⟨n6,(mC ⟨n9,mN⟩)⟩)⟩)⟩) ⟨n1,n2,n3⟩ ⋯ ⋯ rfl rfl (g6' rfl (show aI' _ "_law_take"=some (aw') from ae') )
 have O24:=ao' (P:=l.prog) (w:=w) (mg:=mg) (base:=base) (k:=1) F24 { N:=mc',B:=iO',K:=K,fs:=aI' [("_law_take",aw')] } sz' rfl ir' w6' (sp:=bt' 1 60 400) ⋯ (aA' (mC ⟨⟨_,_,_,(O19).mono ⋯,m19,F19.kp,b19⟩,mN⟩)) (mC ⟨n10,(mC ⟨n6,(mC ⟨n9,mN⟩)⟩)⟩) ⟨n1,n2,n3⟩ ⋯ ⋯ rfl rfl (lC' rfl (show aI' _ "_law_take"=some (aw') from ae') )
 have O25:=ao' (P:=l.prog) (w:=w) (mg:=mg) (base:=base) (k:=2) F25 { N:=sd',B:=ol',K:=K,fs:=aI' [("_law_take",aw'),("_law_many",gp'),("_law_line",bt' 1 60 400),("_law_copied",c7'),("_law_machine",bt' 1 60 400),("_law_ring_machine",bt' 1 60 400)] } w7' rfl n0' zH' (sp:=fA') ⋯ (aA' (mC ⟨⟨_,_,_,(O19).mono ⋯,m19,F19.kp,b19⟩,(mC ⟨⟨_,_,_,(O20).mono ⋯,m20,F20.kp,b20⟩,(mC ⟨⟨_,_,_,(O24).mono ⋯,m24,F24.kp,b24⟩,(mC ⟨⟨_,_,_,(O23).mono ⋯,m23,F23.kp,b23⟩,(mC ⟨⟨_,_,_,(O21).mono ⋯,m21,F21.kp,b21⟩,(mC ⟨⟨_,_,_,(O22).mono ⋯,m22,F22.kp,b22⟩,mN⟩)⟩)⟩)⟩)⟩)⟩)) mN ⟨n1,n2,n3⟩ ⋯ ⋯ rfl rfl (n1' rfl (show aI' _ "_law_take"=some (aw') from ae') (show aI' _ "_law_many"=some (gp') from((aa' ⋯).trans ae')) (show aI' _ "_law_line"=some (bt' 1 60 400) from((aa' ⋯).trans ((aa' ⋯).trans ae'))) (show aI' _ "_law_copied"=some (c7') from((aa' ⋯).trans ((aa' ⋯).trans ((aa' ⋯).trans ae')))) (show aI' _ "_law_machine"=some (bt' 1 60 400) from((aa' ⋯).trans ((aa' ⋯).trans ((aa' ⋯).trans ((aa' ⋯).trans ae'))))) (show aI' _ "_law_ring_machine"=some (bt' 1 60 400) from((aa' ⋯).trans ((aa' ⋯).trans ((aa' ⋯).trans ((aa' ⋯).trans ((aa' ⋯).trans ae')))))) )
 have O26:=ao' (P:=l.prog) (w:=w) (mg:=mg) (base:=base) (k:=1) F26 { N:=md',B:=iP',K:=K,fs:=aI' [("_law_take",aw')] } sA' rfl iv' w8' (sp:=e3') ⋯ (aA' (mC ⟨⟨_,_,_,(O19).mono ⋯,m19,F19.kp,b19⟩,mN⟩)) (mC ⟨n6,mN⟩) ⟨n1,n2,n3⟩ ⋯ ⋯ rfl rfl (lF' rfl (show aI' _ "_law_take"=some (aw') from ae') )
 have O27:=ao' (P:=l.prog) (w:=w) (mg:=mg) (base:=base) (k:=1) F27 { N:=fJ',B:=dS',K:=K,fs:=aI' [("_law_take",aw')] } mq' rfl dM' oy' (sp:=cx') ⋯ (aA' (mC ⟨⟨_,_,_,(O19).mono ⋯,m19,F19.kp,b19⟩,mN⟩)) (mC ⟨n5,(mC ⟨n6,mN⟩)⟩) ⟨n1,n2,n3⟩ ⋯ ⋯ rfl rfl (g9' rfl (show aI' _ "_law_take"=some (aw') from ae') )
 have O28:=ao' (P:=l.prog) (w:=w) (mg:=mg) (base:=base) (k:=5) F28 { N:=bM',B:=ba',K:=K,fs:=aI' [("lessened",K15.r9'),("trimmed",bY'),("walk",bB'),("starts",c9')] } zI' rfl bb' Be' (sp:=sH') ⋯ (aA' (mC ⟨⟨_,_,_,(O16).mono ⋯,m16,F16.kp,b16⟩,(mC ⟨⟨_,_,_,(O5).mono ⋯,m5,F5.kp,b5⟩,(mC ⟨⟨_,_,_,(O1).mono ⋯,m1,F1.kp,b1⟩,(mC ⟨⟨_,_,_,(O2).mono ⋯,m2,F2.kp,b2⟩,mN⟩)⟩)⟩)⟩)) (mC ⟨n5,(mC ⟨n6,mN⟩)⟩) ⟨n1,n2,n3⟩ ⋯ ⋯ rfl rfl (se' rfl ⟨(show aI' _ "lessened"=some (K15.r9') from ae'),(show aI' _ "trimmed"=some (bY') from((aa' ⋯).trans ae')),(show aI' _ "walk"=some (bB') from((aa' ⋯).trans ((aa' ⋯).trans ae'))),(show aI' _ "starts"=some (c9') from((aa' ⋯).trans ((aa' ⋯).trans ((aa' ⋯).trans ae'))))⟩ )
 have O29:=ao' (P:=l.prog) (w:=w) (mg:=mg) (base:=base) (k:=2) F29 { N:=fK',B:=dT',K:=K,fs:=aI' [("powered",K12.jv'),("walk",bB')] } zJ' rfl dU' Bf' (sp:=sI') ⋯ (aA' (mC ⟨⟨_,_,_,(O9).mono ⋯,m9,F9.kp,b9⟩,(mC ⟨⟨_,_,_,(O1).mono ⋯,m1,F1.kp,b1⟩,mN⟩)⟩)) (mC ⟨n5,(mC ⟨n6,mN⟩)⟩) ⟨n1,n2,n3⟩ ⋯ ⋯ rfl rfl (sg' rfl (show aI' _ "powered"=some (K12.jv') from ae') (show aI' _ "walk"=some (bB') from((aa' ⋯).trans ae')) )
 have O30:=ao' (P:=l.prog) (w:=w) (mg:=mg) (base:=base) (k:=4) F30 { N:=b9',B:=bk',K:=K,fs:=aI' [("apart",K13.sG'),("kinds",K15.mt'),("walk",bB')] } zK' rfl bl' Bg' (sp:=sJ') ⋯ (aA' (mC ⟨⟨_,_,_,(O11).mono ⋯,m11,F11.kp,b11⟩,(mC ⟨⟨_,_,_,(O15).mono ⋯,m15,F15.kp,b15⟩,(mC ⟨⟨_,_,_,(O1).mono ⋯,m1,F1.kp,b1⟩,mN⟩)⟩)⟩)) (mC ⟨n13,(mC ⟨n5,(mC ⟨n6,mN⟩)⟩)⟩) ⟨n1,n2,n3⟩ ⋯ ⋯ rfl rfl (sj' rfl (show aI' _ "apart"=some (K13.sG') from ae') (show aI' _ "kinds"=some (K15.mt') from((aa' ⋯).trans ae')) (show aI' _ "walk"=some (bB') from((aa' ⋯).trans ((aa' ⋯).trans ae'))) )
 exact ao' (P:=l.prog) (w:=w) (mg:=mg) (base:=base) (k:=59) F31 { N:=om',B:=me',K:=K,fs:=aI' [("_law_box",fz' K),("_law_any",fA'),("_law_take",aw'),("_law_walked",cx'),("_law_bits",e3'),("_law_walked_alike",sH'),("_law_parted",sI'),("_law_apart_right",sJ'),("trimmed",bY'),("rings",K11.cS')] } w9' rfl on' zL' (sp:=ml' K) ⋯ (aA' (mC ⟨⟨_,_,_,(O18).mono ⋯,m18,F18.kp,b18⟩,(mC ⟨⟨_,_,_,(O25).mono ⋯,m25,F25.kp,b25⟩,(mC ⟨⟨_,_,_,(O19).mono ⋯,m19,F19.kp,b19⟩,(mC ⟨⟨_,_,_,(O27).mono ⋯,m27,F27.kp,b27⟩,(mC ⟨⟨_,_,_,(O26).mono ⋯,m26,F26.kp,b26⟩,(mC ⟨⟨_,_,_,(O28).mono ⋯,m28,F28.kp,b28⟩,(mC ⟨⟨_,_,_,(O29).mono ⋯,m29,F29.kp,b29⟩,(mC ⟨⟨_,_,_,(O30).mono ⋯,m30,F30.kp,b30⟩,(mC ⟨⟨_,_,_,(O5).mono ⋯,m5,F5.kp,b5⟩,(mC ⟨⟨_,_,_,(O7).mono ⋯,m7,F7.kp,b7⟩,mN⟩)⟩)⟩)⟩)⟩)⟩)⟩)⟩)⟩)⟩)) (mC ⟨n13,(mC ⟨n5,(mC ⟨n6,mN⟩)⟩)⟩) ⟨n1,n2,n3⟩ ⋯ ⋯ rfl rfl (or' (C:={ N:=om',B:=me',K:=K,fs:=aI' [("_law_box",fz' K),("_law_any",fA'),("_law_take",aw'),("_law_walked",cx'),("_law_bits",e3'),("_law_walked_alike",sH'),("_law_parted",sI'),("_law_apart_right",sJ'),("trimmed",bY'),("rings",K11.cS')] }) rfl ⟨(show aI' _ "_law_box"=some (fz' K) from ae'),(show aI' _ "_law_any"=some (fA') from((aa' ⋯).trans ae')),(show aI' _ "_law_take"=some (aw') from((aa' ⋯).trans ((aa' ⋯).trans ae'))),(show aI' _ "_law_walked"=some (cx') from((aa' ⋯).trans ((aa' ⋯).trans ((aa' ⋯).trans ae')))),(show aI' _ "_law_bits"=some (e3') from((aa' ⋯).trans ((aa' ⋯).trans ((aa' ⋯).trans ((aa' ⋯).trans ae'))))),(show aI' _ "_law_walked_alike"=some (sH') from((aa' ⋯).trans ((aa' ⋯).trans ((aa' ⋯).trans ((aa' ⋯).trans ((aa' ⋯).trans ae')))))),(show aI' _ "_law_parted"=some (sI') from((aa' ⋯).trans ((aa' ⋯).trans ((aa' ⋯).trans ((aa' ⋯).trans ((aa' ⋯).trans ((aa' ⋯).trans ae'))))))),(show aI' _ "_law_apart_right"=some (sJ') from((aa' ⋯).trans ((aa' ⋯).trans ((aa' ⋯).trans ((aa' ⋯).trans ((aa' ⋯).trans ((aa' ⋯).trans ((aa' ⋯).trans ae')))))))),(show aI' _ "trimmed"=some (bY') from((aa' ⋯).trans ((aa' ⋯).trans ((aa' ⋯).trans ((aa' ⋯).trans ((aa' ⋯).trans ((aa' ⋯).trans ((aa' ⋯).trans ((aa' ⋯).trans ae'))))))))),(show aI' _ "rings"=some (K11.cS') from((aa' ⋯).trans ((aa' ⋯).trans ((aa' ⋯).trans ((aa' ⋯).trans ((aa' ⋯).trans ((aa' ⋯).trans ((aa' ⋯).trans ((aa' ⋯).trans ((aa' ⋯).trans ae'))))))))))⟩ )
theorem walk {l:W.OpenLaw} {q:Program} {loose:List Str} {XP:(Str->Option Value)->Heap->Prop} {d:DefRec} {K:Params->W.Frag} {bs:List Addr} {m t:Nat} (hn:l.most=some 63) (hdf:d.params.defaults=[]) (e:∀P,bs=(K P).map (·.1))
  (F:∀(w:World) (mg:Str->Option Value) (fa:Addr) (h:Heap),(K w.params).In h->h.Ns mainGlobals mg->mg d.name=some (.ref fa)->
   ∃fd:FuncData,(∀(s:Shared) (u:Value),BindsTo s fd ⟨[u],[]⟩ [("_law_script",u)])/\∀base:Heap,(K w.params).In base->base.Ns mainGlobals mg->FnOk l.prog w (K w.params) mg base CX0 60 fa fd ["_law_script"] (ml' (K w.params))):
  W.WalkX q loose XP (W.X.obsZ bs) (W.X.valZ K m t) l.row.toRowW d [] (fun f vs=>PySem.call f vs):=
 fun w s₀ s₁ mg mb G y a o pm cd doc dV kV h1 h2 h3 h4 h5 h6 args vals cs La=>L2.p3' (YP:=fun w h=>(K w.params).In h) (n:=63) (k:=60) (x:="_law_script") (CX:=fun _=>CX0) (sp:=fun w=>ml' (K w.params)) hn (by decide) hdf ⟨rfl,by decide,by decide,rfl⟩ (fun _ _ Y=>Y) F (fun _ _ a ns hl _ hS=>⟨a,ns,rfl,hS,hl,fun _=>rfl⟩) (fun _ _ _ _ _ z=>z) w s₀ s₁ mg mb G (W.InK.keeps w _ _ (W.X.z_facts e y).2.1 La.keeps) a o pm cd doc dV kV h1 h2 h3 h4 h5 h6 args vals cs
end K16
end
open PySem PySem.W PyProof.Rows
namespace PySem.W.Fast
noncomputable section
def tw14853226852622609048:=0
def tw1810487959118431116:=0
def tw4193253575642784067:=0
def tw18188498416213586574:=0
def tw18253569091829118195:=0
def tw5475372129544140382:=0
def tw11563077584307910676:=0
def tw17626687124143644737:=0
def tw14694481265840222404:=0
def tw7448370860958916610:=0
def tw16496274536183653557:=0
def tw12554742158123402653:=0
def tw12092133063549751484:=0
def tw3104267091477880664:=0
def tw10273186579631833861:=0
def tw12303574815646528468:=0
def tw6194910984602129923:=0
def tw14778553093966645608:=0
def tw9428472743641232442:=0
def tw5267049320053916524:=0
def tw6117681530397580464:=0
def tw8658418707495450003:=0
def tw5969164006183700676:=0
def tw14343503277344807573:=0
def tw8831318049235256982:=0
def tw647567460008367182:=0
def tw10922613664666720678:=0
def tw16418367855870663128:=0
def tw17724676949025533747:=0
def tw1786986276770805256:=0
def tw8070443095076221196:=0
def tw8339135213953282010:=0
def tw15347244850592944318:=0
def tw13849959923795179836:=0
def tw5958588403248099532:=0
def tw12730188742274989775:=0
def tw17049228604651799005:=0
def tw3764909701780200870:=0
def tw18155666233147622:=0
def tw9692605826118134151:=0
def tw5070926744957959126:=0
def tw11355422834147256106:=0
def tw16146577039945456492:=0
def tw18188991661838750354:=0
def tw15099461950865278349:=0
def tw3738748952696990377:=0
def tw41913933651509617:=0
def tw7057423241902720617:=0
def tw6705021758100696005:=0
def tw8296490306223676541:=0
def tw7019938024183686289:=0
end
end PySem.W.Fast
set_option maxRecDepth 100000 in
set_option maxHeartbeats 0 in
theorem PySem.Challenge.cw_runbound_k16_whole_machines_walked_holds : PySem.Challenge.rw_runbound_k16_whole_machines_walked.Holds := by
 w_on; o_law; z_head; (case hw => w_witness2)
 k_fill
 refine K16.walk (l := PySem.Challenge.rw_runbound_k16_whole_machines_walked) rfl rfl (fun _ => rfl) ?F
 case F =>
  intro w mg fa h KX G hmg
  refine' K16.xa' KX G hmg (K16.aB' _ _ _ _) (K16.aB' _ _ _ _) (K16.aB' _ _ _ _) (K16.aB' _ _ _ _) (K16.aB' _ _ _ _) (K16.aB' _ _ _ _) (K16.aB' _ _ _ _) (K16.aB' _ _ _ _) (K16.aB' _ _ _ _) (K16.aB' _ _ _ _) (K16.aB' _ _ _ _) (K16.aB' _ _ _ _) (K16.aB' _ _ _ _) (K16.aB' _ _ _ _) (K16.aB' _ _ _ _) (K16.aB' _ _ _ _) (K16.aB' _ _ _ _) (K16.aB' _ _ _ _) (K16.aB' _ _ _ _) (K16.aB' _ _ _ _) (K16.aB' _ _ _ _) (K16.aB' _ _ _ _) (K16.aB' _ _ _ _) (K16.aB' _ _ _ _) (K16.aB' _ _ _ _) (K16.aB' _ _ _ _) (K16.aB' _ _ _ _) (K16.aB' _ _ _ _) (K16.aB' _ _ _ _) (K16.aB' _ _ _ _) (K16.aB' _ _ _ _) _ _ _ _ _ _ _ _ _ _ _ _ _
  all_goals try k_is
  all_goals try k_is
