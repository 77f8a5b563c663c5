import PyProof.Rows.All
import Wide.All
import OpenK.AllK
import Wide.FinOn
import Lean
import PyProof.EqAt
import PyProof.EqKinds
import PyProof.TupleCall
import PyProof.Rows.TupAdd
import PyProof.Rows.SortStr
import PyProof.Rows.SortWalk
import PyProof.CollectIter
import PyProof.Rows.Tup
import PyProof.TupleOfSeq
import PyProof.ReprRoads
import PyProof.CallStr
import PyProof.SeqRoads2
import KE.KDictList
import KE.KSortTup
import PyProof.SetRoads
import PyProof.Rows.SetFrom
import PyProof.TupleKey
import PyProof.IsRules
import PyProof.Rows.SortShell
import KE.KUnpack
import PySem.Challenge.RW_runbound_k32_papers_of_too_little
open List renaming length_map → aa,getElem?_eq_getElem → ab,size_toArray → ag,mem_append_right → ah,mem_cons → ak,length_append → al,replicate → ao,getElem?_map → ap,not_mem_nil → av,mem_append → aw,map_append → ax,mem_cons_of_mem → ay,mem_of_getElem? → az,range → aA,mem_cons_self → aF,map_cons → aH,mem_range → aJ,length_take → aL,getD_eq_getElem?_getD → aN,getElem?_eq_none_iff → aO,zip → aQ,getElem?_eq_some_iff → aR,length_range → aS,take_length → aT,mem_singleton → aU,mem_append_left → aV,take_succ → aW,length_replicate → bc,take_append_drop → bf,mem_map → bg,lookup_cons → bi,all_eq_true → bj,append_assoc → bm,length_cons → bp,replicate_succ → bv,flatten_cons → bw,ext_getElem? → bx,getElem?_range → bz,nodup_cons → bB,getElem?_eq_none → bC,getElem?_set_ne → bE,sum_cons → bG,filterMap_cons → bI,map_congr_left → bJ,any_eq_true → bK,length_singleton → bL,set_cons_zero → bM,set_cons_succ → bN,mem_iff_getElem → bP,pairwise_append → bQ,range_succ → bU,map_map → bW,length_drop → cc,take_of_length_le → cf,find?_cons → ck,any_cons → cm,getElem_drop → cq,mem_of_mem_drop → cv,replicate_succ' → cw,getElem?_of_mem → cy,nodup_nil → cz
open Bool renaming and_eq_true → ac,false_ne_true → aq,not_eq_true' → aZ,eq_iff_iff → ci
open PySem renaming wpAny_bind → af,wpAny_pure → aG,wpAny_truthy_bool → aY,wpAny_holding → bo,wpAny_newObj_type → br,wpAny_standAt → bF,wpAny_passesOwn → bR,wpAny_callSpecial?_slot → bY,wpAny_pyIter_list → cn,wpAny_call_entry → cA
open Nat renaming le_refl → ai,lt_of_lt_of_le → aB,zero_le → aE,le_trans → aI,ne_of_lt → aK,lt_irrefl → bb,le_of_lt → bu,mul_assoc → bA,lt_of_le_of_lt → bD,le_of_lt_succ → bH,lt_succ_of_lt → bS,mul_comm → bV,pow_succ → bX,mul_add → bZ,mul_le_mul → ce,lt_or_ge → cj,mul_le_mul_right → cx,lt_succ_self → cB,mod_eq_of_lt → cC,mul_one → cD
open PySem.Heap renaming get?_push_of_some → aj,lt_size → au,get?_push_size → aC,size_push → bO,SameBut → cE
open Array renaming length_toList → aD,getElem?_eq_getElem → aP,toList_append → aX,toList_push → cr,mem_toList_iff → cu
open Int renaming eq_ofNat_of_zero_le → aM,toNat_natCast → bq,natCast_mul → bT,emod_lt_of_pos → cg
open Option renaming map_eq_some_iff → bn
set_option genSizeOf false
set_option Elab.async false
set_option compiler.extract_closed false
set_option linter.all false
set_option maxRecDepth 100000
set_option tactic.hygienic false
namespace L2
open PySem PySem.Spec PyProof.Rows
section
variable {prog:Program} {w:World} {A:Around} {E:Value->Shared->Prop} {s:Shared}
theorem bY' (s:Shared):s.TypeIs .none "NoneType":=rfl
theorem ei' {Q:Int->Shared->Prop} (h:Q 0xFCA86420 { s with toks:=s.toks+1 }):wpAny (model prog w) A (pyHash .none) Q E s:=by
 unfold pyHash
 have hv:[Value.none].any Value.onHeap=false:=rfl
 refine af ?_
 rw[cRoomFor,if_neg (by rw[hv];exact aq)];refine aG ?_
 refine af (wpAny_specialOf (bY' s) F.slot_NoneType_hash.lookup ?_)
 show wpAny _ _ (if(some (Value.builtin "NoneType.__hash__") == some Value.none)=true then _ else _) Q E s
 rw[if_neg (by rw[beq_builtin_none];exact aq)]
 refine af (wpAny_specialOf (bY' s) F.slot_NoneType_hash.lookup ?_)
 show wpAny _ _ (callSpecialIfBoundUnlessNone? (.none) "__hash__" _ >>= _) Q E s
 refine af (wpAny_callSpecialIfBoundUnlessNone?_slot (bY' s) F.slot_NoneType_hash
  (cA F.slot_NoneType_hash (bY' s) F.entry_NoneType_hash
   (show wpAny _ _ (do ret (<- mkInt 0xFCA86420)) _ _ s from wpAny_ret_mkInt ?_) (F.args_NoneType_hash_1 _)))
 exact aG h
end
inductive Key where
 |inl (i:Int)|inr (x:Str)|non
 deriving DecidableEq
def iE':Key->Value->Bool
 | .inl k,v=>Value.isInt k v
 | .inr x,v=>Value.isStrOf x v
 | .non,.none=>true
 | .non,_=>false
def yZ' (w:World):Key->Int
 | .inl k=>hashInt k
 | .inr x=>hashStr w x
 | .non=>0xFCA86420
theorem aM':∀{k:Key} {v:Value},iE' k v=true->(∃i t,k=Key.inl i/\v=Value.int i t)\/(∃x t,k=Key.inr x/\v=Value.str x t)\/(k=Key.non/\v=Value.none)
 | .inl i,v,h=>by
  obtain⟨t,e⟩:=Value.isInt_shape (k:=i) (v:=v) h
  exact .inl ⟨i,t,rfl,e⟩
 | .inr x,v,h=>by
  obtain⟨t,e⟩:=Value.isStrOf_shape (x:=x) (v:=v) h
  exact .inr (.inl ⟨x,t,rfl,e⟩)
 | .non,v,h=>by cases v<;>first|exact .inr (.inr ⟨rfl,rfl⟩)|cases h
theorem jn' (i:Int) (t:Tok):iE' (.inl i) (.int i t)=true:=by simp[iE',Value.isInt]
theorem jo' (x:Str) (t:Tok):iE' (.inr x) (.str x t)=true:=by simp[iE',Value.isStrOf]
theorem r2' (a b:Int):decide ((Key.inl a:Key)=Key.inl b)=(a == b):=by
 by_cases e:a=b
 .rw[e,decide_eq_true rfl,beq_self_eq_true]
 .rw[decide_eq_false (fun q=>e (Key.inl.inj q)),beq_eq_false_iff_ne.mpr e]
theorem r3' (a b:Str):decide ((Key.inr a:Key)=Key.inr b)=decide (a=b):=by
 by_cases e:a=b
 .rw[e,decide_eq_true rfl,decide_eq_true rfl]
 .rw[decide_eq_false (fun q=>e (Key.inr.inj q)),decide_eq_false e]
theorem eW' {a b:Key} (h:a≠b):decide (a=b)=false:=decide_eq_false h
def av' (prog:Program) (w:World):PySem.KeyKind prog w Key where
 is:=iE'
 hash:=yZ' w
 inj:=fun v a b ha hb=>by
  rcases aM' ha with⟨i,t,rfl,rfl⟩|⟨x,t,rfl,rfl⟩|⟨rfl,rfl⟩<;>rcases aM' hb with⟨j,u,rfl,e⟩|⟨y,u,rfl,e⟩|⟨rfl,e⟩<;>
   first|rfl|(injection e with e1 _;rw[e1])|exact nomatch e
 byValue:=fun k v h=>by
  rcases aM' h with⟨i,t,rfl,rfl⟩|⟨x,t,rfl,rfl⟩|⟨rfl,rfl⟩<;>rfl
 pyHash:=fun hv h=>by
  rcases aM' hv with⟨i,t,rfl,rfl⟩|⟨x,t,rfl,rfl⟩|⟨rfl,rfl⟩
  .exact wpAny_pyHash_int h
  .exact wpAny_pyHash_str h
  .exact ei' h
 eqBool:=fun {A E s a b u v Q} hu hv h=>by
  rcases aM' hu with⟨i,t,rfl,rfl⟩|⟨x,t,rfl,rfl⟩|⟨rfl,rfl⟩
  .rcases aM' hv with⟨j,u,rfl,rfl⟩|⟨y,u,rfl,rfl⟩|⟨rfl,rfl⟩
   .rw[r2']at h;exact wpAny_eqBool_int h
   .rw[eW' (a:=Key.inl i) (b:=Key.inr y) (fun q=>nomatch q)]at h;exact SeqAt.EqAt.int_str i t y u _ _ _ _ h
   .rw[eW' (a:=Key.inl i) (b:=Key.non) (fun q=>nomatch q)]at h;exact SeqAt.EqAt.int_none i t _ _ _ _ h
  .rcases aM' hv with⟨j,u,rfl,rfl⟩|⟨y,u,rfl,rfl⟩|⟨rfl,rfl⟩
   .rw[eW' (a:=Key.inr x) (b:=Key.inl j) (fun q=>nomatch q)]at h;exact SeqAt.EqAt.str_int x t j u _ _ _ _ h
   .rw[r3']at h;exact wpAny_eqBool_str h
   .rw[eW' (a:=Key.inr x) (b:=Key.non) (fun q=>nomatch q)]at h;exact SeqAt.EqAt.str_none x t _ _ _ _ h
  .rcases aM' hv with⟨j,u,rfl,rfl⟩|⟨y,u,rfl,rfl⟩|⟨rfl,rfl⟩
   .rw[eW' (a:=Key.non) (b:=Key.inl j) (fun q=>nomatch q)]at h;exact SeqAt.EqAt.none_int j u _ _ _ _ h
   .rw[eW' (a:=Key.non) (b:=Key.inr y) (fun q=>nomatch q)]at h;exact SeqAt.EqAt.none_str y u _ _ _ _ h
   .rw[decide_eq_true rfl]at h;exact SeqAt.EqAt.same .none _ _ _ _ h
 «strs»:=fun k x t v h=>by
  rcases aM' h with⟨i,u,rfl,e⟩|⟨y,u,rfl,e⟩|⟨rfl,e⟩
  .exact nomatch e
  .injection e with e1 _
   subst e1
   cases v<;>rfl
  .exact nomatch e
theorem gT' (prog:Program) (w:World) (i:Int) (t:Tok):(av' prog w).is (.inl i) (.int i t)=true:=jn' i t
theorem gU' (prog:Program) (w:World) (x:Str) (t:Tok):(av' prog w).is (.inr x) (.str x t)=true:=jo' x t
inductive V where
 |non|bl (b:Bool)|int (i:Int)|str (x:Str)|byt (b:Array UInt8)|flt (b:UInt64)|ref (a:Addr)|ty (n:String)
 deriving DecidableEq
def aG':V->Value->Prop
 | .non,u=>u=Value.none
 | .bl b,u=>u=Value.bool b
 | .int i,u=>∃t,u=Value.int i t
 | .str x,u=>∃t,u=Value.str x t
 | .byt b,u=>∃t,u=Value.bytes b t
 | .flt b,u=>∃t,u=Value.float b t
 | .ref a,u=>u=Value.ref a
 | .ty n,u=>u=Value.type n
abbrev aC':List V->List Value->Prop:=Paired aG'
theorem aC'.length {xs:List V} {us:List Value} (r:aC' xs us):xs.length=us.length:=Paired.length r
theorem aC'.get:∀{xs:List V} {us:List Value} {i:Nat} {x:V},aC' xs us->xs[i]?=some x->∃u,us[i]?=some u/\aG' x u
 |_,_,_,_,.nil,e=>by simp at e
 |_,_,0,_,.cons r _,e=>by simp at e;subst e;exact⟨_,rfl,r⟩
 |_,_,i+1,x,.cons _ t,e=>by
  obtain⟨u,h1,h2⟩:=aC'.get (i:=i) (x:=x) t (by simpa using e)
  exact⟨u,by simpa using h1,h2⟩
theorem aC'.set {x:V} {u:Value} (r:aG' x u):∀{xs:List V} {us:List Value} (i:Nat),aC' xs us->aC' (xs.set i x) (us.set i u)
 |_,_,_,.nil=>.nil
 |_,_,0,.cons _ t=>.cons r t
 |_,_,i+1,.cons q t=>.cons q (aC'.set r i t)
theorem aC'.append:∀{xs ys:List V} {us ws:List Value},aC' xs us->aC' ys ws->aC' (xs++ys) (us++ws)
 |_,_,_,_,.nil,s=>s
 |_,_,_,_,.cons r t,s=>.cons r (aC'.append t s)
theorem aC'.take:∀{xs:List V} {us:List Value} (n:Nat),aC' xs us->aC' (xs.take n) (us.take n)
 |_,_,0,_=>.nil
 |_,_,_+1,.nil=>.nil
 |_,_,n+1,.cons r t=>.cons r (aC'.take n t)
theorem aC'.drop:∀{xs:List V} {us:List Value} (n:Nat),aC' xs us->aC' (xs.drop n) (us.drop n)
 |_,_,0,r=>r
 |_,_,_+1,.nil=>.nil
 |_,_,n+1,.cons _ t=>aC'.drop n t
def mp':Option V->Option Value->Prop
 |some v,some u=>aG' v u
 |none,none=>True
 |_,_=>False
def KV {κ:Type}:List (κ×V)->List (κ×Value)->Prop:=Paired fun(p:κ×V) (q:κ×Value)=>p.1=q.1/\aG' p.2 q.2
def kV:Key->V
 | .inl i=>.int i
 | .inr x=>.str x
 | .non=>.non
inductive HO where
 |lst (xs:List V)
 |tup (xs:List V)
 |dK (kvs:List (Key×V))|dT (kvs:List (List Key×V))
 |set (S:Int->Bool) (n:Nat)
 |ins (C dx:Addr) (fs:List (Str×V))
 |own (x:Addr)
 |xd (fs:List (Str×V))
 |met (f x:Addr)
 |rng (lo hi:Int)
 |frz (o:Obj) (u:HO)
 |tbl (ps:Array Value)
 |ext (φ:Heap->Prop)
abbrev Hp:=Addr->Option HO
def upd (H:Hp) (a:Addr) (o:HO):Hp:=fun b=>if b=a then some o else H b
theorem aa' {H:Hp} {a:Addr} {o:HO}:upd H a o a=some o:=by unfold upd;rw[if_pos rfl]
theorem af' {H:Hp} {a b:Addr} {o:HO} (h:b≠a):upd H a o b=H b:=by unfold upd;rw[if_neg h]
theorem b8' {H:Hp} {a:Addr} {o u:HO}:upd (upd H a o) a u=upd H a u:=by
 funext b;unfold upd;split<;>rfl
theorem ag' {H:Hp} {a b:Addr} {o:HO} (h:H a=some o) (h':H b=none):a≠b:=by
 intro e;subst e;rw[h]at h';cases h'
def oo' (h:Heap) (a:Addr) (items:Array Value):Prop:=∃o,h.get? a=some o/\o.cls=.type "tuple"/\(∃n,o.data=.seq items n)/\o.dict=none
theorem oo'.tup {h:Heap} {a:Addr} {items:Array Value} (x:oo' h a items):IsTup h a items:=let⟨o,e,c,⟨n,d⟩,_⟩:=x;⟨o,e,c,n,d⟩
theorem oo'.new (h:Heap) (items:Array Value):oo' (h.push { cls:=.type "tuple",data:=.seq items }) h.objs.size items:=⟨_,aC _ rfl,rfl,⟨_,rfl⟩,rfl⟩
section
variable (P:Program) (w:World)
def aD' (H:Hp) (h:Heap) (a:Addr):HO->Prop
 | .lst xs=>xs.length<=sizeLine/\∃(its:List Value) (n:Nat),aC' xs its/\h.get? a=some { cls:=.type "list",data:=.seq its.toArray n }
 | .tup xs=>xs.length<=sizeLine/\∃its:List Value,aC' xs its/\oo' h a its.toArray
 | .dK kvs=>kvs.length<=sizeLine/\(a == sysModules)=false/\∃vs,KV kvs vs/\h.DictOf (av' P w) a vs
 | .dT kvs=>kvs.length<=sizeLine/\(a == sysModules)=false/\∃xs:List (List Key×Addr×Value),
   Paired (fun(p:List Key×V) (q:List Key×Addr×Value)=>p.1=q.1/\H q.2.1=some (.tup (p.1.map kV))/\aG' p.2 q.2.2) kvs xs/\
   ∃o es ep,h.get? a=some o/\o.ExactDict/\o.data=.dict es ep/\es.toList=xs.map (entryOfKey (tupleKind (av' P w)))/\(xs.map (·.1)).Nodup
 | .set S n=>h.SetOf (intKind P w) a S n
 | .ins C dx fs=>H dx=some (.own a)/\fs.length<=1000/\dx≠a/\h.get? a=some (W.instObj C dx)/\
   ∃mA,h.Ns1 dx mA/\(∀f,mp' (fs.lookup f) (mA f))/\PySem.Within mA (fs.map (·.1))
 | .own _=>∃o,h.get? a=some o
 | .xd fs=>∃mA,h.Ns1 a mA/\∀f,mp' (fs.lookup f) (mA f)
 | .rng lo hi=>∃t u v,h.get? a=some { cls:=.type "range",data:=.fields #[.int lo t,.int hi u,.int 1 v] }
 | .frz o u=>h.get? a=some o/\aD' H h a u
 | .tbl ps=>h.get? a=some { cls:=.none,data:=.fields ps }
 | .met f x=>h.get? a=some (W.methodObj (.ref f) (.ref x))
 | .ext φ=>φ h/\(∃o,h.get? a=some o)/\∀h1 h2:Heap,φ h1->(∀o,h1.get? a=some o->h2.get? a=some o)->φ h2
def HOk (H:Hp) (h:Heap):Prop:=∀a o,H a=some o->aD' P w H h a o
end
section
variable {P:Program} {w:World} {H H':Hp} {h h':Heap} {a:Addr} {o:HO}
theorem aD'.lt (x:aD' P w H h a o):a<h.objs.size:=by
 cases o with
 |lst xs=>obtain⟨_,_,_,_,e⟩:=x;exact au e
 |tup xs=>obtain⟨_,_,_,p⟩:=x;exact p.tup.lt
 |dK kvs=>obtain⟨_,_,_,_,o,_,_,e,_⟩:=x;exact au e
 |dT kvs=>obtain⟨_,_,_,_,o,_,_,e,_⟩:=x;exact au e
 |set S n=>obtain⟨o,_,_,_,e,_⟩:=x;exact au e
 |ins C dx fs=>obtain⟨_,_,_,e,_⟩:=x;exact au e
 |own y=>obtain⟨_,e⟩:=x;exact au e
 |xd fs=>obtain⟨_,⟨_,_,_,e,_⟩,_⟩:=x;exact au e
 |rng lo hi=>obtain⟨_,_,_,e⟩:=x;exact au e
 |frz ob u=>obtain⟨e,_⟩:=x;exact au e
 |tbl ps=>exact au (show h.get? a=some _ from x)
 |met f y=>exact au (show h.get? a=some _ from x)
 |ext φ=>obtain⟨_,⟨_,e⟩,_⟩:=x;exact au e
theorem Paired.mapP {α β:Type} {F G:α->β->Prop}:∀{l₁:List α} {l₂:List β},Paired F l₁ l₂->(∀a b,F a b->G a b)->Paired G l₁ l₂
 |_,_,.nil,_=>.nil
 |_,_,.cons r t,f=>.cons (f _ _ r) (Paired.mapP t f)
theorem aD'.stay (x:aD' P w H h a o) (k:∀b u,(b=a\/H b=some (.own a))->h.get? b=some u->h'.get? b=some u)
  (ho:∀b,H b=some (.own a)->H' b=some (.own a)) (ht:∀b xs,H b=some (.tup xs)->H' b=some (.tup xs)):aD' P w H' h' a o:=by
 induction o with
 |lst xs=>obtain⟨z,its,n,r,e⟩:=x;exact⟨z,its,n,r,k _ _ (.inl rfl) e⟩
 |tup xs=>obtain⟨z,its,r,ob,e,c⟩:=x;exact⟨z,its,r,ob,k _ _ (.inl rfl) e,c⟩
 |dK kvs=>obtain⟨z,y,vs,r,ob,es,ep,e,c⟩:=x;exact⟨z,y,vs,r,ob,es,ep,k _ _ (.inl rfl) e,c⟩
 |dT kvs=>
  obtain⟨z,y,xs,r,ob,es,ep,e,c⟩:=x
  exact⟨z,y,xs,Paired.mapP r fun p q z=>⟨z.1,ht _ _ z.2.1,z.2.2⟩,ob,es,ep,k _ _ (.inl rfl) e,c⟩
 |set S n=>obtain⟨ob,es,ep,t,e,c⟩:=x;exact⟨ob,es,ep,t,k _ _ (.inl rfl) e,c⟩
 |ins C dx fs=>
  obtain⟨d,z,ne,e,mA,⟨od,es,ep,e2,c⟩,r⟩:=x
  exact⟨ho _ d,z,ne,k _ _ (.inl rfl) e,mA,⟨od,es,ep,k _ _ (.inr d) e2,c⟩,r⟩
 |own y=>obtain⟨ob,e⟩:=x;exact⟨ob,k _ _ (.inl rfl) e⟩
 |xd fs=>obtain⟨mA,⟨od,es,ep,e,c⟩,r⟩:=x;exact⟨mA,⟨od,es,ep,k _ _ (.inl rfl) e,c⟩,r⟩
 |rng lo hi=>obtain⟨t,u,v,e⟩:=x;exact⟨t,u,v,k _ _ (.inl rfl) e⟩
 |frz ob u ih=>obtain⟨e,q⟩:=x;exact⟨k _ _ (.inl rfl) e,ih q⟩
 |tbl ps=>
  have e:h.get? a=some { cls:=.none,data:=.fields ps }:=x
  show h'.get? a=some { cls:=.none,data:=.fields ps }
  exact k a _ (.inl rfl) e
 |met f y=>
  have e:h.get? a=some (W.methodObj (.ref f) (.ref y)):=x
  show h'.get? a=some (W.methodObj (.ref f) (.ref y))
  exact k a _ (.inl rfl) e
 |ext φ=>obtain⟨p,⟨o,e⟩,st⟩:=x;exact⟨st _ _ p fun o q=>k _ _ (.inl rfl) q,⟨o,k _ _ (.inl rfl) e⟩,st⟩
theorem HOk.lt (x:HOk P w H h) (e:H a=some o):a<h.objs.size:=(x a o e).lt
theorem HOk.fresh (x:HOk P w H h) (e:h.objs.size<=a):H a=none:=by
 cases q:H a with
 |none=>rfl
 |some u=>exact absurd (aB (x.lt q) e) (bb _)
theorem HOk.kept (x:HOk P w H h) (k:∀b u,h.get? b=some u->h'.get? b=some u):HOk P w H h':=fun a o e=>
 (x a o e).stay (fun b u _ q=>k b u q) (fun _ q=>q) fun _ _ q=>q
theorem HOk.laid (x:HOk P w H h) (k:∀b u,h.get? b=some u->h'.get? b=some u) (hp:h.objs.size<=a) (new:aD' P w (upd H a o) h' a o):HOk P w (upd H a o) h':=fun b u e=>by
 have hn:=x.fresh hp
 by_cases hb:b=a
 .subst hb;rw[aa']at e;cases e;exact new
 .rw[af' hb]at e
  exact(x b u e).stay (fun c v _ q=>k c v q) (fun c q=>by rw[af' (ag' q hn)];exact q) fun c xs q=>by rw[af' (ag' q hn)];exact q
end
def Rd (H:Hp) (a:Addr) (u:HO):Prop:=H a=some u\/∃o,H a=some (.frz o u)
theorem Rd.ok {P:Program} {w:World} {H:Hp} {h:Heap} {a:Addr} {u:HO} (r:Rd H a u) (x:HOk P w H h):aD' P w H h a u:=by
 rcases r with r|⟨o,r⟩
 .exact x a u r
 .obtain⟨_,q⟩:=x a _ r
  exact q
def Mut:Option HO->Prop
 |some (.lst _)=>True
 |some (.dK _)=>True
 |some (.dT _)=>True
 |some (.set _ _)=>True
 |some (.ins _ _ _)=>True
 |some (.ext _)=>True
 |_=>False
section
variable {P:Program} {w:World} {H:Hp} {h h':Heap} {x e:Addr} {o':HO}
theorem HOk.write (ok:HOk P w H h) (mu:Mut (H x)) (he:e=x\/H e=some (.own x)) (k:∀b u,b≠e->h.get? b=some u->h'.get? b=some u) (heo:∃u,h'.get? e=some u)
  (new:aD' P w (upd H x o') h' x o'):HOk P w (upd H x o') h':=fun b u q=>by
 have nown:∀c y,H c=some (.own y)->c≠x:=fun c y r z=>by subst z;rw[r]at mu;exact mu
 have ntup:∀c xs,H c=some (.tup xs)->c≠x:=fun c xs r z=>by subst z;rw[r]at mu;exact mu
 by_cases hb:b=x
 .subst hb;rw[aa']at q;cases q;exact new
 .rw[af' hb]at q
  by_cases hbe:b=e
  .have q':H b=some (.own x):=by
    rcases he with z|z
    .exact absurd (hbe.trans z) hb
    .rw[hbe];exact z
   rw[q]at q';cases q'
   obtain⟨v,hv⟩:=heo
   exact⟨v,by rw[hbe];exact hv⟩
  .refine(ok b u q).stay (fun c v hc r=>k c v ?_ r) (fun c r=>by rw[af' (nown c b r)];exact r) fun c xs r=>by rw[af' (ntup c xs r)];exact r
   rcases hc with rfl|hc
   .exact hbe
   .rintro rfl
    rcases he with z|z
    .exact nown c b hc z
    .rw[hc]at z;cases z;exact hb rfl
end
structure Un (fs ex:List Addr) (H H':Hp) (h h':Heap):Prop where
 keep:∀b o,h.get? b=some o->H b=none->b∉fs->b∉ex->h'.get? b=some o
 slot:∀b o,h.get? b=some o->H b=none->b∈fs->b∉ex->∃sl,h'.get? b=some { o with slots:=sl }
 free:∀b o,h.get? b=some o->H b=none->b∉ex->H' b=none
 there:∀b o,h.get? b=some o->b∉ex->∃o',h'.get? b=some o'
 tups:∀b xs,H b=some (.tup xs)->H' b=some (.tup xs)
 frzs:∀b o u,H b=some (.frz o u)->H' b=some (.frz o u)
 tbls:∀b ps,H b=some (.tbl ps)->∃more,H' b=some (.tbl (ps++more))
section
variable {fs fs' ex ex':List Addr} {H H1 H2:Hp} {h h1 h2 h':Heap} {a x e:Addr} {o:HO}
theorem Un.any (u:Un fs ex H H1 h h1) {b:Addr} {ob:Obj} (q:h.get? b=some ob) (n:H b=none) (hx:b∉ex):∃sl,h1.get? b=some { ob with slots:=sl }:=by
 by_cases hb:b∈fs
 .exact u.slot b ob q n hb hx
 .exact⟨ob.slots,u.keep b ob q n hb hx⟩
theorem Un.kept (k:∀b u,h.get? b=some u->h'.get? b=some u):Un fs ex H H h h':=
 ⟨fun b ob q _ _ _=>k b ob q,fun b ob q _ _ _=>⟨ob.slots,k b ob q⟩,fun _ _ _ n _=>n,fun b ob q _=>⟨ob,k b ob q⟩,fun _ _ q=>q,fun _ _ _ q=>q,fun _ ps q=>⟨#[],by rw[q];simp⟩⟩
theorem Un.refl:Un fs ex H H h h:=Un.kept fun _ _ q=>q
theorem Un.laid (k:∀b u,h.get? b=some u->h'.get? b=some u) (hp:h.objs.size<=a) (hn:H a=none):Un fs ex H (upd H a o) h h' where
 keep:=fun b u q _ _ _=>k b u q
 slot:=fun b u q _ _ _=>⟨u.slots,k b u q⟩
 free:=fun b u q n _=>by rw[af' (aK (aB (au q) hp))];exact n
 there:=fun b u q _=>⟨u,k b u q⟩
 tups:=fun b xs q=>by rw[af' (ag' q hn)];exact q
 frzs:=fun b u xs q=>by rw[af' (ag' q hn)];exact q
 tbls:=fun b ps q=>⟨#[],by rw[af' (ag' q hn),q];simp⟩
theorem Un.write (mu:Mut (H x)) (he:e=x\/H e=some (.own x)) (k:∀b u,b≠e->h.get? b=some u->h'.get? b=some u) (heo:∃u,h'.get? e=some u):Un fs ex H (upd H x o) h h':=by
 have hx:∀b,H b=none->b≠x:=fun b n z=>by subst z;rw[n]at mu;exact mu
 have hb:∀b,H b=none->b≠e:=fun b n z=>by
  subst z
  rcases he with r|r
  .exact hx b n r
  .rw[n]at r;cases r
 have hm:∀b u,H b=some u->¬Mut (some u)->b≠x:=fun b u q nm z=>by subst z;rw[q]at mu;exact nm mu
 refine⟨fun b u q n _ _=>k b u (hb b n) q,fun b u q n _ _=>⟨u.slots,k b u (hb b n) q⟩,fun b u q n _=>by rw[af' (hx b n)];exact n,fun b u q _=>?_,
  fun b xs q=>by rw[af' (hm b _ q fun z=>z)];exact q,fun b u xs q=>by rw[af' (hm b _ q fun z=>z)];exact q,fun b ps q=>⟨#[],by rw[af' (hm b _ q fun z=>z),q];simp⟩⟩
 by_cases hbe:b=e
 .subst hbe;exact heo
 .exact⟨u,k b u hbe q⟩
end
def trk (h:Heap) (H:Hp):List Addr:=(aA h.objs.size).filter fun a=>(H a).isSome
def mq' (h:Heap) (H:Hp):Heap:=W.hideAll h (trk h H)
theorem jp' (h:Heap) (H:Hp):(mq' h H).objs.size=h.objs.size:=W.hideAll_size _ _
theorem mr' {h:Heap} {H:Hp} {b:Addr} {o:Obj} (e:h.get? b=some o) (n:H b=none):(mq' h H).get? b=some o:=
 W.hideAll_get _ e fun hm=>by
  have q:(H b).isSome=true:=(List.mem_filter.mp hm).2
  rw[n]at q;simp at q
theorem px' {h:Heap} {H:Hp} {b:Addr} {o:Obj} (e:(mq' h H).get? b=some o):h.get? b=some o/\H b=none:=by
 have e':h.get? b=some o:=W.of_hideAll (trk h H) e
 refine⟨e',?_⟩
 cases q:H b with
 |none=>rfl
 |some x=>
  have hm:b∈trk h H:=List.mem_filter.mpr ⟨aJ.mpr (au e'),by simp[q]⟩
  have z:(mq' h H).get? b=none:=W.hideAll_none (trk h H) hm
  rw[z]at e;cases e
def py' (g h:Heap) (L:Addr):List (Addr×Obj):=(aA h.objs.size).filterMap fun a=>if a=L\/(g.get? a).isSome=true then none else(h.get? a).map fun o=>(a,o)
def aA' (g h:Heap) (L d:Addr):List (Addr×Obj):=(py' g h L).filter fun p=>decide (p.1≠d)
structure Mod (K:W.Frag) (mg:Str->Option Value) (base:Heap):Prop where
 kin:K.In base
 glob:base.Ns mainGlobals mg
 blt:∃mb,base.Ns builtinsNs mb/\∀x:Str,x≠"__name__"->mb x=bootBuiltins x
 nolimit:base.NoLimit
set_option genInjectivity false
structure Cx where
 prog:Program
 w:World
 K:W.Frag
 mg:Str->Option Value
 base:Heap
 A:Around
 N:List Str
 s₀:Shared
 H₀:Hp
 env:Env
 outer:List Env
 stack:List Env
 ex:List Addr
 fn:Str->Bool
 calm:Bool
 pn:List (Addr×Obj)
 xe:Value->Shared->Prop
set_option genInjectivity true
def frs (l:List Env):List Addr:=l.filterMap (·.frame)
abbrev Cx.fs (X:Cx):List Addr:=frs X.outer
def Vis (sc:Scope) (x:Str):Prop:=sc.names.lookup x=some .local\/sc.names.lookup x=some .cell\/sc.names.lookup x=some .free
def Loc (sc:Scope) (x:Str):Prop:=sc.names.lookup x=some .local\/sc.names.lookup x=some .cell
def y0' (env:Env) (h:Heap) (m:Str->Option Value) (x:Str) (u:Value):Prop:=
 (env.kindOf x=some .local/\m x=some u)\/((env.kindOf x=some .cell\/env.kindOf x=some .free)/\∃c,env.cells.lookup x=some c/\h.IsCell c (some u))
structure Cx.Ok (X:Cx):Prop where
 mod:Mod X.K X.mg X.base
 kind:X.env.scope.kind=.function
 glob:X.env.globals=mainGlobals
 blt:X.env.builtins=builtinsNs
 above:X.s₀.heap.objs.size<=X.env.locals
 inj:∀x y c,X.env.cells.lookup x=some c->X.env.cells.lookup y=some c->x=y
 has:∀x,(X.env.kindOf x=some .cell\/X.env.kindOf x=some .free)->∃c,X.env.cells.lookup x=some c
 cab:∀x c,X.fn x=true->X.env.cells.lookup x=some c->X.s₀.heap.objs.size<=c
 hd:X.calm=true->X.A.handled=none
 frames:X.A.frames=some X.stack
 stk:X.stack=X.outer\/(X.stack=X.env :: X.outer/\X.env.frame=some X.env.locals)
 exf:∀b∈X.ex,b≠X.env.locals/\∀x c,X.env.cells.lookup x=some c->c≠b
 bs:∀b o,X.base.get? b=some o->X.s₀.heap.get? b=some o/\X.H₀ b=none
 bsz:X.base.objs.size<=X.s₀.heap.objs.size
 noex:∀b o,X.base.get? b=some o->b∉X.ex
 exfs:∀b∈X.ex,b∉X.fs
 funs:X.s₀.heap.FunFrames X.base X.outer
 frf:∀b∈X.fs,X.H₀ b=none
structure Inv (X:Cx) (pins:List (Addr×Obj)) (σ:List (Option V)) (H:Hp) (s:Shared):Prop where
 ok:X.Ok
 os:s.os=X.s₀.os
 bare:AllBare s.gens
 base:Un X.fs X.ex X.H₀ H X.s₀.heap s.heap
 loc:∃m,s.heap.Ns X.env.locals m/\∀(i:Nat) (x:Str) (v:V),X.N[i]?=some x->σ[i]?=some (some v)->Vis X.env.scope x->∃u,aG' v u/\y0' X.env s.heap m x u
 cell:∀x c,X.env.cells.lookup x=some c->∃v,s.heap.IsCell c v
 free:H X.env.locals=none
 freeC:∀x c,X.env.cells.lookup x=some c->H c=none
 pin:∀p∈X.pn++pins,s.heap.get? p.1=some p.2/\H p.1=none/\p.1≠X.env.locals/\p.1∉X.fs/\∀v,p.2.data≠.cell v
 hok:HOk X.prog X.w H s.heap
 len:σ.length=X.N.length
section
variable {X:Cx} {pins:List (Addr×Obj)} {σ:List (Option V)} {H H':Hp} {s:Shared} {h':Heap}
theorem Cx.Ok.nofr (ok:X.Ok) {b:Addr} {o:Obj} (e:X.base.get? b=some o):b∉X.fs:=fun hb=>by
 have:=(ok.funs.mem hb).1
 rw[e]at this;cases this
theorem Inv.bs (I:Inv X pins σ H s):∀b o,X.base.get? b=some o->s.heap.get? b=some o/\H b=none:=fun b o e=>
 ⟨I.base.keep b o (I.ok.bs b o e).1 (I.ok.bs b o e).2 (I.ok.nofr e) (I.ok.noex b o e),I.base.free b o (I.ok.bs b o e).1 (I.ok.bs b o e).2 (I.ok.noex b o e)⟩
theorem Inv.bk (I:Inv X pins σ H s):∀b o,X.base.get? b=some o->s.heap.get? b=some o:=fun b o e=>(I.bs b o e).1
theorem Inv.mod (I:Inv X pins σ H s):Mod X.K X.mg X.base:=I.ok.mod
theorem Inv.kIn (I:Inv X pins σ H s):X.K.In s.heap:=I.ok.mod.kin.keeps I.bk
theorem Inv.fr (I:Inv X pins σ H s):∃m,Fr X.base X.env.locals s.heap m:=
 let⟨m,hn,_⟩:=I.loc
 ⟨m,hn,I.bk,aI I.ok.bsz I.ok.above⟩
theorem Inv.lt (I:Inv X pins σ H s):X.env.locals<s.heap.objs.size:=let⟨_,hn,_⟩:=I.loc;hn.lt
theorem Inv.sz (I:Inv X pins σ H s):X.s₀.heap.objs.size<=s.heap.objs.size:=aI I.ok.above (bu I.lt)
theorem Inv.nofs (I:Inv X pins σ H s) {a:Addr} (h:s.heap.objs.size<=a):a∉X.fs:=fun hb=>by
 obtain⟨_,o,ho,_⟩:=I.ok.funs.mem hb
 exact absurd (aB (au ho) (aI I.sz h)) (bb _)
theorem Inv.cne (I:Inv X pins σ H s):∀x c,X.env.cells.lookup x=some c->c≠X.env.locals:=fun x c e z=>by
 obtain⟨v,o,ho,hd⟩:=I.cell x c e
 obtain⟨m,⟨o',es,ep,ho',hd',_⟩,_⟩:=I.loc
 rw[z,ho']at ho;cases ho;rw[hd']at hd;cases hd
theorem Inv.funs (I:Inv X pins σ H s):s.heap.FunFrames X.base X.outer:=by
 have all:∀(l:List Env),(∀b∈frs l,b∈X.fs)->X.s₀.heap.FunFrames X.base l->s.heap.FunFrames X.base l:=by
  intro l
  induction l with
  |nil=>intro _ _;trivial
  |cons env r ih=>
   intro hs hl
   obtain⟨hk,⟨L,o,hf,hn,ho,hd⟩,hr⟩:=hl
   have hL:L∈X.fs:=hs L (by unfold frs;rw[bI,hf];exact aF)
   obtain⟨sl,e⟩:=I.base.slot L o ho (I.ok.frf L hL) hL fun z=>I.ok.exfs L z hL
   exact⟨hk,⟨L,_,hf,hn,e,hd⟩,ih (fun b hb=>hs b (by unfold frs;rw[bI,hf];exact ay _ hb)) hr⟩
 exact all X.outer (fun _ hb=>hb) I.ok.funs
theorem Inv.stack (I:Inv X pins σ H s):s.heap.FunFrames X.base X.stack:=by
 rcases I.ok.stk with e|⟨e,hf⟩
 .rw[e];exact I.funs
 .rw[e]
  obtain⟨m,hn,_⟩:=I.loc
  refine .cons (by rw[I.ok.kind];decide) hf hn ?_ I.funs
  exact Heap.get?_none_of_le (aI I.ok.bsz I.ok.above)
theorem Inv.stkSub (I:Inv X pins σ H s):∀b∈frs X.stack,b∈X.env.locals :: X.fs:=fun b hb=>by
 rcases I.ok.stk with e|⟨e,hf⟩
 .rw[e]at hb;exact ay _ hb
 .rw[e]at hb
  unfold frs at hb
  rw[bI,hf]at hb
  exact hb
theorem Inv.stkFree (I:Inv X pins σ H s):∀b∈frs X.stack,H b=none:=fun b hb=>by
 rcases ak.mp (I.stkSub b hb)with e|hb
 .rw[e];exact I.free
 .obtain⟨_,o,ho,_⟩:=I.ok.funs.mem hb
  exact I.base.free b o ho (I.ok.frf b hb) fun z=>I.ok.exfs b z hb
theorem Inv.step {g':Array GenState} {t':Nat} {d':Drawn} {ch:List Addr} (I:Inv X pins σ H s)
  (hch:∀b∈ch,(b∈X.ex\/X.s₀.heap.objs.size<=b)/\b≠X.env.locals/\(∀x c,X.env.cells.lookup x=some c->c≠b)/\∀p∈X.pn++pins,p.1≠b)
  (keep:∀b o,b≠X.env.locals->b∉X.fs->b∉ch->s.heap.get? b=some o->H b=none->h'.get? b=some o)
  (slot:∀b o,b≠X.env.locals->b∈X.fs->b∉ch->s.heap.get? b=some o->H b=none->∃sl,h'.get? b=some { o with slots:=sl }) (free:∀b o,b∉ch->s.heap.get? b=some o->H b=none->H' b=none)
  (there:∀b o,b∉ch->s.heap.get? b=some o->∃o',h'.get? b=some o')
  (tups:∀b xs,H b=some (.tup xs)->H' b=some (.tup xs)) (frzs:∀b o u,H b=some (.frz o u)->H' b=some (.frz o u)) (tbls:∀b ps,H b=some (.tbl ps)->∃more,H' b=some (.tbl (ps++more)))
  (ns:∀m,s.heap.Ns X.env.locals m->h'.Ns X.env.locals m) (hok:HOk X.prog X.w H' h') (hg:AllBare g'):
  Inv X pins σ H' { s with heap:=h',gens:=g',drawn:=d',toks:=t' }:=by
 have neL:∀b o,X.s₀.heap.get? b=some o->b≠X.env.locals:=fun b o e=>aK (aB (au e) I.ok.above)
 have neC:∀b o,X.s₀.heap.get? b=some o->b∉X.ex->b∉ch:=fun b o e hx hb=>by
  rcases(hch b hb).1 with z|z
  .exact hx z
  .exact absurd (aB (au e) z) (bb _)
 have cellK:∀x c,X.env.cells.lookup x=some c->∀v,s.heap.IsCell c v->h'.IsCell c v:=fun x c e v ⟨o,ho,hd⟩=>by
  have nch:c∉ch:=fun z=>(hch c z).2.2.1 x c e rfl
  by_cases hc:c∈X.fs
  .obtain⟨sl,q⟩:=slot c o (I.cne x c e) hc nch ho (I.freeC x c e)
   exact⟨_,q,hd⟩
  .exact⟨o,keep c o (I.cne x c e) hc nch ho (I.freeC x c e),hd⟩
 refine⟨I.ok,I.os,hg,⟨fun b o e n hb hx=>?_,fun b o e n hb hx=>?_,fun b o e n hx=>?_,fun b o e hx=>?_,fun b xs e=>tups b xs (I.base.tups b xs e),fun b o xs e=>frzs b o xs (I.base.frzs b o xs e),fun b ps e=>?_⟩,?_,fun x c e=>?_,?_,fun x c e=>?_,fun p hp=>?_,hok,I.len⟩
 .exact keep b o (neL b o e) hb (neC b o e hx) (I.base.keep b o e n hb hx) (I.base.free b o e n hx)
 .obtain⟨sl,e1⟩:=I.base.slot b o e n hb hx
  obtain⟨sl',e2⟩:=slot b _ (neL b o e) hb (neC b o e hx) e1 (I.base.free b o e n hx)
  exact⟨sl',e2⟩
 .obtain⟨o',e1⟩:=I.base.there b o e hx
  exact free b o' (neC b o e hx) e1 (I.base.free b o e n hx)
 .obtain⟨o',e1⟩:=I.base.there b o e hx
  exact there b o' (neC b o e hx) e1
 .obtain⟨m1,e1⟩:=I.base.tbls b ps e
  obtain⟨m2,e2⟩:=tbls b _ e1
  exact⟨m1++m2,by rw[e2,Array.append_assoc]⟩
 .obtain⟨m,hn,hl⟩:=I.loc
  refine⟨m,ns m hn,fun i x v e1 e2 e3=>?_⟩
  obtain⟨u,r,l⟩:=hl i x v e1 e2 e3
  refine⟨u,r,?_⟩
  rcases l with l|⟨k,c,e,z⟩
  .exact .inl l
  .exact .inr ⟨k,c,e,cellK x c e _ z⟩
 .obtain⟨v,z⟩:=I.cell x c e
  exact⟨v,cellK x c e v z⟩
 .obtain⟨m,⟨o,_,_,ho,_⟩,_⟩:=I.loc
  exact free _ o (fun z=>(hch _ z).2.1 rfl) ho I.free
 .obtain⟨v,o,ho,hd⟩:=I.cell x c e
  exact free c o (fun z=>(hch c z).2.2.1 x c e rfl) ho (I.freeC x c e)
 .obtain⟨e,n,ne,nf,d⟩:=I.pin p hp
  have nch:p.1∉ch:=fun z=>(hch p.1 z).2.2.2 p hp rfl
  exact⟨keep p.1 p.2 ne nf nch e n,free p.1 p.2 nch e n,ne,nf,d⟩
theorem Inv.un {t':Nat} (I:Inv X pins σ H s) (u:Un X.fs [] H H' s.heap h') (hok:HOk X.prog X.w H' h'):Inv X pins σ H' { s with heap:=h',toks:=t' }:=by
 obtain⟨m,⟨o,es,ep,ho,r⟩,_⟩:=id I.loc
 obtain⟨sl,hL⟩:=u.any ho I.free (by simp)
 exact I.step (g':=s.gens) (d':=s.drawn) (ch:=[]) (fun _ z=>nomatch z) (fun b o _ hb _ e n=>u.keep b o e n hb (by simp)) (fun b o _ hb _ e n=>u.slot b o e n hb (by simp)) (fun b o _ e n=>u.free b o e n (by simp)) (fun b o _ e=>u.there b o e (by simp)) u.tups u.frzs u.tbls (fun m' hm=>by
  obtain⟨o',es',ep',ho',r'⟩:=hm
  rw[ho]at ho';cases ho'
  exact⟨_,es',ep',hL,r'⟩) hok I.bare
theorem Inv.call {g':Array GenState} {t':Nat} {d':Drawn} {ch:List Addr} (I:Inv X pins σ H s) (u:Un (frs X.stack) ch H H' s.heap h') (hok:HOk X.prog X.w H' h') (hg:AllBare g')
  (hch:∀b∈ch,(b∈X.ex\/X.s₀.heap.objs.size<=b)/\b≠X.env.locals/\(∀x c,X.env.cells.lookup x=some c->c≠b)/\∀p∈X.pn++pins,p.1≠b):
  Inv X pins σ H' { s with heap:=h',gens:=g',drawn:=d',toks:=t' }:=by
 obtain⟨m,⟨o,es,ep,ho,r⟩,_⟩:=id I.loc
 obtain⟨sl,hL⟩:=u.any ho I.free fun z=>(hch _ z).2.1 rfl
 exact I.step (ch:=ch) hch (fun b o hL hb hc e n=>u.keep b o e n (fun z=>(ak.mp (I.stkSub b z)).elim hL hb) hc) (fun b o _ _ hc e n=>u.any e n hc) (fun b o hc e n=>u.free b o e n hc) (fun b o hc e=>u.there b o e hc) u.tups u.frzs u.tbls (fun m' hm=>by
  obtain⟨o',es',ep',ho',r'⟩:=hm
  rw[ho]at ho';cases ho'
  exact⟨_,es',ep',hL,r'⟩) hok hg
theorem Inv.turned {t':Nat} {it:Addr} (I:Inv X pins σ H s) (k:∀b o,b≠it->s.heap.get? b=some o->h'.get? b=some o) (hn:H it=none) (hL:it≠X.env.locals)
  (h1:it∈X.ex\/X.s₀.heap.objs.size<=it) (h2:∀x c,X.env.cells.lookup x=some c->c≠it) (h3:∀p∈X.pn++pins,p.1≠it):Inv X pins σ H { s with heap:=h',toks:=t' }:=by
 have nit:∀b u,H b=some u->b≠it:=fun b u e z=>by rw[z,hn]at e;cases e
 refine I.step (g':=s.gens) (d':=s.drawn) (ch:=[it]) (fun b hb=>?_) (fun b o _ _ hc e _=>k b o (fun z=>hc (by simp[z])) e) (fun b o _ _ hc e _=>⟨o.slots,k b o (fun z=>hc (by simp[z])) e⟩) (fun _ _ _ _ n=>n)
  (fun b o hc e=>⟨o,k b o (fun z=>hc (by simp[z])) e⟩) (fun _ _ e=>e) (fun _ _ _ e=>e) (fun b ps e=>⟨#[],by rw[e];simp⟩) (fun m hm=>?_) (fun b u e=>?_) I.bare
 .have e:b=it:=by simpa using hb
  subst e
  exact⟨h1,hL,h2,h3⟩
 .obtain⟨o,es,ep,ho,r⟩:=hm
  exact⟨o,es,ep,k _ o (Ne.symm hL) ho,r⟩
 .refine(I.hok b u e).stay (fun c v hc q=>k c v ?_ q) (fun _ q=>q) fun _ _ q=>q
  rcases hc with z|z
  .rw[z];exact nit b u e
  .exact nit c _ z
theorem Inv.tok (I:Inv X pins σ H s) (t:Nat):Inv X pins σ H { s with toks:=t }:=I.un (h':=s.heap) (t':=t) Un.refl I.hok
theorem Inv.kept {t':Nat} (I:Inv X pins σ H s) (k:∀b u,s.heap.get? b=some u->h'.get? b=some u):Inv X pins σ H { s with heap:=h',toks:=t' }:=I.un (Un.kept k) (I.hok.kept k)
theorem Inv.laid {a:Addr} {o:HO} {t':Nat} (I:Inv X pins σ H s) (k:∀b u,s.heap.get? b=some u->h'.get? b=some u) (hp:s.heap.objs.size<=a) (new:aD' X.prog X.w (upd H a o) h' a o):
  Inv X pins σ (upd H a o) { s with heap:=h',toks:=t' }:=I.un (Un.laid k hp (I.hok.fresh hp)) (I.hok.laid k hp new)
theorem Inv.write {x e:Addr} {o:HO} {t':Nat} (I:Inv X pins σ H s) (mu:Mut (H x)) (he:e=x\/H e=some (.own x)) (k:∀b u,b≠e->s.heap.get? b=some u->h'.get? b=some u) (heo:∃u,h'.get? e=some u)
  (new:aD' X.prog X.w (upd H x o) h' x o):Inv X pins σ (upd H x o) { s with heap:=h',toks:=t' }:=I.un (Un.write mu he k heo) (I.hok.write mu he k heo new)
theorem Inv.weak {σ':List (Option V)} (I:Inv X pins σ H s) (hl:σ'.length=σ.length) (w:∀(i:Nat) v,σ'[i]?=some (some v)->σ[i]?=some (some v)):Inv X pins σ' H s:=
 ⟨I.ok,I.os,I.bare,I.base,let⟨m,hn,hl'⟩:=I.loc;⟨m,hn,fun i x v e1 e2 e3=>hl' i x v e1 (w i v e2) e3⟩,I.cell,I.free,I.freeC,I.pin,I.hok,hl.trans I.len⟩
theorem Inv.pins_of {pins':List (Addr×Obj)} (I:Inv X pins σ H s) (h:∀p∈pins',s.heap.get? p.1=some p.2/\H p.1=none/\p.1≠X.env.locals/\p.1∉X.fs/\∀v,p.2.data≠.cell v):Inv X pins' σ H s:=
 ⟨I.ok,I.os,I.bare,I.base,I.loc,I.cell,I.free,I.freeC,fun p hp=>(aw.mp hp).elim (fun z=>I.pin p (aV _ z)) (h p),I.hok,I.len⟩
theorem hX' {N:List Str} (hN:N.Nodup) {i j:Nat} {x:Str} (a:N[i]?=some x) (b:N[j]?=some x):i=j:=by
 obtain⟨h1,e1⟩:=aR.mp a
 obtain⟨h2,e2⟩:=aR.mp b
 exact(List.getElem_inj hN).mp (e1.trans e2.symm)
theorem ej' {M:Model} {A:Around} {E:Value->Shared->Prop} {i:Nat} {x:Str} {v:V} {u:Value} {Q:Unit->Shared->Prop} (I:Inv X pins σ H s) (hN:X.N.Nodup) (hi:X.N[i]?=some x) (hx:Loc X.env.scope x) (r:aG' v u)
  (h:∀s',Inv X pins (σ.set i (some v)) H s'->(∃a,cE a s.heap s'.heap/\(a=X.env.locals\/X.env.cells.lookup x=some a))->Q () s') (hf:X.fn x=true\/X.env.scope.names.lookup x=some .local:=by first|exact .inl rfl|exact .inr rfl|assumption):wpAny M A (storeName X.env x u) Q E s:=by
 obtain⟨m,hn,hl⟩:=id I.loc
 have hcls:(X.env.scope.kind == .class || (X.env.scope.kind == .module&&X.env.locals != X.env.globals))=false:=by rw[I.ok.kind];rfl
 have hiσ:i<σ.length:=by rw[I.len];exact(aR.mp hi).1
 have cne:=I.cne
 have tracked:∀{a:Addr} {h':Heap},(∃o,s.heap.get? a=some o/\H a=none)->cE a s.heap h'->HOk X.prog X.w H h':=fun {a h'} ha hs b ob e=>by
  obtain⟨_,_,hfree⟩:=ha
  refine(I.hok b ob e).stay (fun c w' hc q=>(hs.2 c ?_).trans q) (fun _ q=>q) fun _ _ q=>q
  rintro rfl
  rcases hc with rfl|hc
  .rw[hfree]at e;cases e
  .rw[hfree]at hc;cases hc
 rcases hx with hk|hk
 .refine wpAny_storeName_local hk hn (fun h' hn' hs=>?_) hcls
  obtain⟨oL,_,_,hoL,_⟩:=id hn
  refine h _ ⟨I.ok,I.os,I.bare,⟨fun b o e n hb hx=>?_,fun b o e n hb hx=>?_,I.base.free,fun b o e hx=>?_,I.base.tups,I.base.frzs,I.base.tbls⟩,⟨_,hn',fun j y v' e1 e2 e3=>?_⟩,fun y c e=>?_,I.free,I.freeC,fun p hp=>?_,tracked ⟨oL,hoL,I.free⟩ hs,by simpa using I.len⟩ ⟨_,hs,.inl rfl⟩
  .exact(hs.2 b (aK (aB (au e) I.ok.above))).trans (I.base.keep b o e n hb hx)
  .obtain⟨sl,e1⟩:=I.base.slot b o e n hb hx
   exact⟨sl,(hs.2 b (aK (aB (au e) I.ok.above))).trans e1⟩
  .obtain⟨o',e1⟩:=I.base.there b o e hx
   exact⟨o',(hs.2 b (aK (aB (au e) I.ok.above))).trans e1⟩
  .by_cases hj:j=i
   .subst hj
    rw[hi]at e1;cases e1
    rw[List.getElem?_set_self hiσ]at e2
    cases e2
    exact⟨u,r,.inl ⟨hk,by simp⟩⟩
   .rw[bE (Ne.symm hj)]at e2
    obtain⟨u',r',q⟩:=hl j y v' e1 e2 e3
    refine⟨u',r',?_⟩
    rcases q with⟨k,e⟩|⟨k,c,e,z⟩
    .refine .inl ⟨k,?_⟩
     have:y≠x:=fun e=>hj (hX' hN e1 (e ▸ hi))
     simp[this,e]
    .exact .inr ⟨k,c,e,z.sameBut hs (cne y c e)⟩
  .obtain⟨w',z⟩:=I.cell y c e
   exact⟨w',z.sameBut hs (cne y c e)⟩
  .obtain⟨e,n,ne,nf,d⟩:=I.pin p hp
   exact⟨(hs.2 p.1 ne).trans e,n,ne,nf,d⟩
 .have hfn:X.fn x=true:=by
   rcases hf with z|z
   .exact z
   .rw[z]at hk;cases hk
  obtain⟨c,hc⟩:=I.ok.has x (.inl hk)
  obtain⟨w',z⟩:=I.cell x c hc
  refine wpAny_storeName_cell I.ok.kind hk hc z (fun h' hc' hs=>?_)
  obtain⟨oc,hoc,hocd⟩:=id z
  refine h { s with heap:=h' } ⟨I.ok,I.os,I.bare,⟨fun b o e n hb hx=>?_,fun b o e n hb hx=>?_,I.base.free,fun b o e hx=>?_,I.base.tups,I.base.frzs,I.base.tbls⟩,⟨m,hn.sameBut hs (Ne.symm (cne x c hc)),fun j y v' e1 e2 e3=>?_⟩,fun y c' e=>?_,I.free,I.freeC,fun p hp=>?_,tracked ⟨oc,hoc,I.freeC x c hc⟩ hs,by simpa using I.len⟩ ⟨c,hs,.inr hc⟩
  .exact(hs.2 b (aK (aB (au e) (I.ok.cab x c hfn hc)))).trans (I.base.keep b o e n hb hx)
  .obtain⟨sl,e1⟩:=I.base.slot b o e n hb hx
   exact⟨sl,(hs.2 b (aK (aB (au e) (I.ok.cab x c hfn hc)))).trans e1⟩
  .obtain⟨o',e1⟩:=I.base.there b o e hx
   exact⟨o',(hs.2 b (aK (aB (au e) (I.ok.cab x c hfn hc)))).trans e1⟩
  .by_cases hj:j=i
   .subst hj
    rw[hi]at e1;cases e1
    rw[List.getElem?_set_self hiσ]at e2
    cases e2
    exact⟨u,r,.inr ⟨.inl hk,c,hc,hc'⟩⟩
   .rw[bE (Ne.symm hj)]at e2
    obtain⟨u',r',q⟩:=hl j y v' e1 e2 e3
    refine⟨u',r',?_⟩
    rcases q with q|⟨k,c',e,z'⟩
    .exact .inl q
    .refine .inr ⟨k,c',e,z'.sameBut hs ?_⟩
     rintro rfl
     exact hj (hX' hN e1 (I.ok.inj _ _ _ e hc ▸ hi))
  .by_cases hcc:c'=c
   .subst hcc;exact⟨_,hc'⟩
   .obtain⟨w2,z2⟩:=I.cell y c' e
    exact⟨w2,z2.sameBut hs hcc⟩
  .obtain⟨e,n,ne,nf,d⟩:=I.pin p hp
   refine⟨(hs.2 p.1 ?_).trans e,n,ne,nf,d⟩
   intro q
   rw[q,hoc]at e
   have q':oc=p.2:=Option.some.inj e
   exact d w' (by rw[<- q'];exact hocd)
theorem hY' {M:Model} {A:Around} {E:Value->Shared->Prop} {i:Nat} {x:Str} {v:V} {u:Value} {Q:Unit->Shared->Prop} (I:Inv X pins σ H s) (hN:X.N.Nodup) (hi:X.N[i]?=some x) (hx:Loc X.env.scope x) (r:aG' v u)
  (h:∀s',Inv X pins (σ.set i (some v)) H s'->Q () s') (hf:X.fn x=true\/X.env.scope.names.lookup x=some .local:=by first|exact .inl rfl|exact .inr rfl|assumption):wpAny M A (storeName X.env x u) Q E s:=
 ej' I hN hi hx r (fun s' I' _=>h s' I') hf
theorem Inv.call' {s':Shared} {ch:List Addr} (I:Inv X pins σ H s) (ho:s'.os=s.os) (u:Un (frs X.stack) ch H H' s.heap s'.heap) (hok:HOk X.prog X.w H' s'.heap) (hg:AllBare s'.gens)
  (hch:∀b∈ch,(b∈X.ex\/X.s₀.heap.objs.size<=b)/\b≠X.env.locals/\(∀x c,X.env.cells.lookup x=some c->c≠b)/\∀p∈X.pn++pins,p.1≠b):Inv X pins σ H' s':=by
 obtain⟨h',g',d',t',o'⟩:=s'
 have e:o'=s.os:=ho
 subst e
 exact I.call (g':=g') (t':=t') (d':=d') u hok hg hch
end
abbrev XK:=Value->Option Addr->Hp->Prop
abbrev St:=List (Option V)
abbrev VK:=V->Hp->Prop
abbrev TE:=St->Hp->VK->Prop
abbrev TT:=St->Hp->(Bool->Hp->Prop)->Prop
abbrev TA:=St->Hp->(List V->Hp->Prop)->Prop
structure Ends where
 nx:St->Hp->Prop
 rt:VK
 bk:St->Hp->Prop:=fun _ _=>False
 ct:St->Hp->Prop:=fun _ _=>False
abbrev TS:=Ends->St->Hp->Prop
def EP (X:Cx) (pins:List (Addr×Obj)) (σ:St) (Q:VK) (u:Value) (s':Shared):Prop:=∃v H',Inv X pins σ H' s'/\aG' v u/\Q v H'
def TP (X:Cx) (pins:List (Addr×Obj)) (σ:St) (Q:Bool->Hp->Prop) (b:Bool) (s':Shared):Prop:=∃H',Inv X pins σ H' s'/\Q b H'
def AP (X:Cx) (pins:List (Addr×Obj)) (σ:St) (Q:List V->Hp->Prop) (us:List Value) (s':Shared):Prop:=∃vs H',Inv X pins σ H' s'/\aC' vs us/\Q vs H'
def SP (X:Cx) (pins:List (Addr×Obj)) (D:Ends) (f:Flow) (s':Shared):Prop:=
 match f with
 | .next=>∃σ' H',Inv X pins σ' H' s'/\D.nx σ' H'
 | .brk=>∃σ' H',Inv X pins σ' H' s'/\D.bk σ' H'
 | .cont=>∃σ' H',Inv X pins σ' H' s'/\D.ct σ' H'
 | .ret u=>∃v σ' H',Inv X pins σ' H' s'/\aG' v u/\D.rt v H'
def PE (X:Cx) (e:Expr) (t:TE):Prop:=
 ∀(pins:List (Addr×Obj)) (s:Shared) (σ:St) (H:Hp) (Q:VK),Inv X pins σ H s->t σ H Q->wpAny (model X.prog X.w) X.A (eval e X.env) (EP X pins σ Q) X.xe s
def PT (X:Cx) (e:Expr) (t:TT):Prop:=
 ∀(pins:List (Addr×Obj)) (s:Shared) (σ:St) (H:Hp) (Q:Bool->Hp->Prop),Inv X pins σ H s->t σ H Q->wpAny (model X.prog X.w) X.A (isTrue e X.env (eval e X.env)) (TP X pins σ Q) X.xe s
def PW (X:Cx) (e:Expr) (t:TT):Prop:=
 ∀(whole:Sem Value) (pins:List (Addr×Obj)) (s:Shared) (σ:St) (H:Hp) (Q:Bool->Hp->Prop),Inv X pins σ H s->t σ H Q->wpAny (model X.prog X.w) X.A (isTrue e X.env whole) (TP X pins σ Q) X.xe s
theorem PW.pt {X:Cx} {e:Expr} {t:TT} (h:PW X e t):PT X e t:=h _
def PA (X:Cx) (es:List Expr) (t:TA):Prop:=
 ∀(pos:Pos) (pins:List (Addr×Obj)) (s:Shared) (σ:St) (H:Hp) (Q:List V->Hp->Prop),Inv X pins σ H s->t σ H Q->wpAny (model X.prog X.w) X.A (spliced (backTo pos (starEach es X.env))) (AP X pins σ Q) X.xe s
def PS (X:Cx) (st:Stmt) (t:TS):Prop:=
 ∀(pins:List (Addr×Obj)) (s:Shared) (σ:St) (H:Hp) (D:Ends),Inv X pins σ H s->t D σ H->wpAny (model X.prog X.w) X.A (exec st X.env) (SP X pins D) X.xe s
def PSs (X:Cx) (st:List Stmt) (t:TS):Prop:=
 ∀(pins:List (Addr×Obj)) (s:Shared) (σ:St) (H:Hp) (D:Ends),Inv X pins σ H s->t D σ H->wpAny (model X.prog X.w) X.A (execs st X.env) (SP X pins D) X.xe s
theorem thn {α:Type} {t:Sem α} {Q Q':α->Shared->Prop} {M:Model} {A:Around} {E:Value->Shared->Prop} {s:Shared} (h:wpAny M A t Q E s) (hQ:∀a s,Q a s->Q' a s):wpAny M A t Q' E s:=wpAny_mono h hQ fun _ _ x=>x
section
variable {X:Cx}
theorem bin {a b:Expr} {ta tb:TE} (ha:PE X a ta) (hb:PE X b tb) {pins:List (Addr×Obj)} {s:Shared} {σ:St} {H:Hp} {R:V->V->Hp->Prop} (I:Inv X pins σ H s) (h:ta σ H fun x H1=>tb σ H1 fun y H2=>R x y H2)
  {α:Type} {Q:α->Shared->Prop} {f:Value->Value->Sem α}
  (hf:∀v u s2 x y H2,Inv X pins σ H2 s2->aG' x v->aG' y u->R x y H2->wpAny (model X.prog X.w) X.A (f v u) Q X.xe s2):
  wpAny (model X.prog X.w) X.A (eval a X.env) (fun v s₁=>wpAny (model X.prog X.w) X.A (eval b X.env) (fun u s₂=>wpAny (model X.prog X.w) X.A (f v u) Q X.xe s₂) X.xe s₁) X.xe s:=by
 refine thn (ha pins s σ H _ I h) fun v s1 ⟨x,H1,I1,r1,q1⟩=>?_
 refine thn (hb pins s1 σ H1 _ I1 q1) fun u s2 ⟨y,H2,I2,r2,q2⟩=>?_
 exact hf v u s2 x y H2 I2 r1 r2 q2
def vR' (i:Nat):TE:=fun σ H Q=>∃v,σ[i]?=some (some v)/\Q v H
def tC (v:V):TE:=fun _ H Q=>Q v H
theorem oq' {i:Nat} {x:Str} {pos:Pos} (hN:X.N[i]?=some x) (hv:Vis X.env.scope x) (hd:(x == ("__debug__":Str))=false:=by decide) (hcd:(x == ("__classdict__":Str))=false:=by decide):PE X (.Name x pos) (vR' i):=by
 intro pins s σ H Q I h
 obtain⟨v,e,h⟩:=h
 obtain⟨m,hn,hl⟩:=I.loc
 obtain⟨u,r,l⟩:=hl i x v hN e hv
 have fin:EP X pins σ Q u s:=⟨v,H,I,r,h⟩
 rcases l with⟨hk,hm⟩|⟨hk,c,hc,hcell⟩
 .exact wpAny_Name (wpAny_loadName_local I.ok.kind hk hn hm fin) hd
 .rcases hk with hk|hk
  .exact wpAny_Name (wpAny_loadName_cell I.ok.kind hk hc hcell fin) hd
  .exact wpAny_Name (wpAny_loadName_free I.ok.kind hk hc hcell fin hcd) hd
theorem r4' {i j pos}:PE X (.Constant (.int i) j pos) (tC (.int i)):=fun _ _ _ H _ I h=>wpAny_Constant_int ⟨.int i,H,I.tok _,⟨_,rfl⟩,h⟩
theorem wi' {b j pos}:PE X (.Constant (.bool b) j pos) (tC (.bl b)):=fun _ _ _ H _ I h=>Constant_bool ⟨.bl b,H,I,rfl,h⟩
theorem r5' {j pos}:PE X (.Constant .none j pos) (tC .non):=fun _ _ _ H _ I h=>Constant_none ⟨.non,H,I,rfl,h⟩
theorem r6' {x j pos}:PE X (.Constant (.str x) j pos) (tC (.str x)):=fun _ _ _ H _ I h=>Calls.Constant_str ⟨.str x,H,I.tok _,⟨_,rfl⟩,h⟩
def Gl (X:Cx) (x:Str):Prop:=X.env.kindOf x=some .globalImplicit
theorem jq' {E:Value->Shared->Prop} {pins:List (Addr×Obj)} {s:Shared} {σ:St} {H:Hp} {x:Str} {u:Value} {pos:Pos} {Q:Value->Shared->Prop} (I:Inv X pins σ H s) (hg:Gl X x) (hm:X.mg x=some u) (h:Q u s)
  (hd:(x == ("__debug__":Str))=false:=by decide):wpAny (model X.prog X.w) X.A (eval (.Name x pos) X.env) Q E s:=
 Calls.Name_function_global I.ok.kind hg (Calls.loadGlobal_global (by rw[I.ok.glob];exact I.mod.glob.keeps I.bk) hm h) hd
theorem eX' {E:Value->Shared->Prop} {pins:List (Addr×Obj)} {s:Shared} {σ:St} {H:Hp} {x:Str} {u:Value} {pos:Pos} {Q:Value->Shared->Prop} (I:Inv X pins σ H s) (hg:Gl X x) (hm:X.mg x=none) (hv:bootBuiltins x=some u) (h:Q u s)
  (hn:x≠"__name__":=by decide) (hd:(x == ("__debug__":Str))=false:=by decide):wpAny (model X.prog X.w) X.A (eval (.Name x pos) X.env) Q E s:=by
 obtain⟨mb,h1,h2⟩:=I.mod.blt
 exact Calls.Name_function_global I.ok.kind hg (Calls.loadGlobal_builtin (by rw[I.ok.glob];exact I.mod.glob.keeps I.bk) hm (by rw[I.ok.blt];exact h1.keeps I.bk) ((h2 x hn).trans hv) h) hd
theorem pz' {x:Str} {v:V} {u:Value} {pos:Pos} (hg:Gl X x) (hm:X.mg x=none) (hv:bootBuiltins x=some u) (r:aG' v u) (hn:x≠"__name__":=by decide) (hd:(x == ("__debug__":Str))=false:=by decide):PE X (.Name x pos) (tC v):=
 fun _ _ _ H _ I h=>eX' I hg hm hv ⟨v,H,I,r,h⟩ hn hd
variable {a b:Expr} {ta tb:TE} {pos:Pos}
def PC (X:Cx) (op:CmpOp) (a b:Expr) (t:TE):Prop:=
 ∀(pins:List (Addr×Obj)) (s:Shared) (σ:St) (H:Hp) (Q:VK),Inv X pins σ H s->t σ H Q->
  wpAny (model X.prog X.w) X.A (eval a X.env) (fun v s₁=>wpAny (model X.prog X.w) X.A (eval b X.env) (fun u s₂=>wpAny (model X.prog X.w) X.A (compareOp op v u) (EP X pins σ Q) X.xe s₂) X.xe s₁) X.xe s
def tB (t:TE):TT:=fun σ H Q=>t σ H fun x H1=>∃c,x=.bl c/\Q c H1
theorem or' {op:CmpOp} {t:TE} (h:PC X op a b t) (h1:behindInMarks op b=false:=by rfl):PE X (.Compare a [op] [b] pos) t:=fun pins s σ H Q I hw=>wpAny_Compare1 (h pins s σ H Q I hw) h1
theorem ot' {op:CmpOp} {t:TE} (h:PC X op a b t) (h1:behindInMarks op b=false:=by rfl):PT X (.Compare a [op] [b] pos) (tB t):=by
 intro pins s σ H Q I hw
 refine wpAny_isTrue_Compare1 (thn (h pins s σ H _ I hw) fun v s1 h1=>thn h1 fun u s2 h2=>thn h2 fun c s3 ⟨x,H1,I1,r1,q1⟩=>?_) h1
 obtain⟨d,rfl,q⟩:=q1
 cases r1
 exact aY ⟨H1,I1,q⟩
variable {tA tB':TT} {aA':List Expr}
def r7' (t u:TT):TT:=fun σ H Q=>t σ H fun c H1=>if c=true then u σ H1 Q else Q false H1
def tOr (t u:TT):TT:=fun σ H Q=>t σ H fun c H1=>if c=true then Q true H1 else u σ H1 Q
def wj' (t:TT):TT:=fun σ H Q=>t σ H fun c H1=>Q (!c) H1
theorem pA' (ha:PT X a tA):PW X (.BoolOp .And [a] pos) tA:=by
 intro wh pins s σ H Q I h
 refine isTrue_and (thn (ha pins s σ H Q I h) fun c s1 e=>?_)
 cases c with
 |true=>exact isTrue_and_nil e
 |false=>exact e
theorem r8' (ha:PT X a tA):PW X (.BoolOp .Or [a] pos) tA:=by
 intro wh pins s σ H Q I h
 refine isTrue_or (thn (ha pins s σ H Q I h) fun c s1 e=>?_)
 cases c with
 |false=>exact isTrue_or_nil e
 |true=>exact e
theorem ou' (ha:PT X a tA) (hb:PW X (.BoolOp .And (b :: aA') pos) tB'):PW X (.BoolOp .And (a :: b :: aA') pos) (r7' tA tB'):=by
 intro wh pins s σ H Q I h
 refine isTrue_and (thn (ha pins s σ H _ I h) fun c s1 ⟨H1,I1,q1⟩=>?_)
 cases c with
 |true=>exact hb wh pins s1 σ H1 Q I1 q1
 |false=>exact⟨H1,I1,q1⟩
theorem r9' (ha:PT X a tA) (hb:PW X (.BoolOp .Or (b :: aA') pos) tB'):PW X (.BoolOp .Or (a :: b :: aA') pos) (tOr tA tB'):=by
 intro wh pins s σ H Q I h
 refine isTrue_or (thn (ha pins s σ H _ I h) fun c s1 ⟨H1,I1,q1⟩=>?_)
 cases c with
 |true=>exact⟨H1,I1,q1⟩
 |false=>exact hb wh pins s1 σ H1 Q I1 q1
theorem sa' (ha:PT X a tA):PT X (.UnaryOp .Not a pos) (wj' tA):=by
 intro pins s σ H Q I h
 exact isTrue_not (ha pins s σ H (fun c H1=>Q (!c) H1) I h)
def ms' (ta tb:TE):TE:=fun σ H Q=>ta σ H fun x H1=>∃c,x=.bl c/\if c=true then tb σ H1 Q else Q (.bl false) H1
def vS' (ta tb:TE):TE:=fun σ H Q=>ta σ H fun x H1=>∃c,x=.bl c/\if c=true then Q (.bl true) H1 else tb σ H1 Q
def pB' (ta:TE):TE:=fun σ H Q=>ta σ H fun x H1=>∃c,x=.bl c/\Q (.bl (!c)) H1
theorem ov' {op} {t:TE} (h:PE X a t):PE X (.BoolOp op [a] pos) t:=fun pins s σ H Q I hw=>BoolOp_one (h pins s σ H Q I hw)
theorem ow' (ha:PE X a ta) (hb:PE X (.BoolOp .And (b :: aA') pos) tb):PE X (.BoolOp .And (a :: b :: aA') pos) (ms' ta tb):=by
 intro pins s σ H Q I h
 refine BoolOp_and (thn (ha pins s σ H _ I h) fun v s1 ⟨x,H1,I1,r1,q1⟩=>?_)
 obtain⟨c,rfl,q1⟩:=q1
 cases r1
 refine aY ?_
 cases c with
 |true=>exact hb pins s1 σ H1 Q I1 q1
 |false=>exact⟨.bl false,H1,I1,rfl,q1⟩
theorem sb' (ha:PE X a ta) (hb:PE X (.BoolOp .Or (b :: aA') pos) tb):PE X (.BoolOp .Or (a :: b :: aA') pos) (vS' ta tb):=by
 intro pins s σ H Q I h
 refine BoolOp_or (thn (ha pins s σ H _ I h) fun v s1 ⟨x,H1,I1,r1,q1⟩=>?_)
 obtain⟨c,rfl,q1⟩:=q1
 cases r1
 refine aY ?_
 cases c with
 |false=>exact hb pins s1 σ H1 Q I1 q1
 |true=>exact⟨.bl true,H1,I1,rfl,q1⟩
theorem sc' (ha:PE X a ta):PE X (.UnaryOp .Not a pos) (pB' ta):=by
 intro pins s σ H Q I h
 refine UnaryOp_ (thn (ha pins s σ H _ I h) fun v s1 ⟨x,H1,I1,r1,q1⟩=>?_)
 obtain⟨c,rfl,q1⟩:=q1
 cases r1
 exact not_of (aY ⟨.bl (!c),H1,I1,rfl,q1⟩)
def tIf (t:TT) (ta tb:TE):TE:=fun σ H Q=>t σ H fun c H1=>if c=true then ta σ H1 Q else tb σ H1 Q
theorem mt' {c:Expr} (hc:PT X c tA) (ha:PE X a ta) (hb:PE X b tb):PE X (.IfExp c a b pos) (tIf tA ta tb):=by
 intro pins s σ H Q I h
 refine wpAny_IfExp (thn (hc pins s σ H _ I h) fun d s1 ⟨H1,I1,q1⟩=>?_)
 cases d with
 |true=>exact ha pins s1 σ H1 Q I1 q1
 |false=>exact hb pins s1 σ H1 Q I1 q1
end
def SqL (K:W.Frag) (H:Hp) (a:Addr) (xs:List V):Prop:=
 Rd H a (.lst xs)\/
  ∃(o:Obj) (its:Array Value) (n:Nat),K.lookup a=some o/\o.cls=.type "list"/\o.dict=none/\o.data=.seq its n/\its.size<=sizeLine/\aC' xs its.toList
def SqT (K:W.Frag) (H:Hp) (a:Addr) (xs:List V):Prop:=
 Rd H a (.tup xs)\/
  ∃(o:Obj) (its:Array Value) (n:Nat),K.lookup a=some o/\o.cls=.type "tuple"/\o.data=.seq its n/\its.size<=sizeLine/\aC' xs its.toList
def y1':Value->Option V
 | .none=>some .non
 | .bool b=>some (.bl b)
 | .int i _=>some (.int i)
 | .str x _=>some (.str x)
 | .bytes b _=>some (.byt b)
 | .float b _=>some (.flt b)
 | .ref a=>some (.ref a)
 | .type n=>some (.ty n)
 |_=>none
theorem aG'.abs {x:V} {u:Value} (r:aG' x u):y1' u=some x:=by
 cases x with
 |non=>cases r;rfl
 |bl _=>cases r;rfl
 |int _=>obtain⟨t,rfl⟩:=r;rfl
 |str _=>obtain⟨t,rfl⟩:=r;rfl
 |byt _=>obtain⟨t,rfl⟩:=r;rfl
 |flt _=>obtain⟨t,rfl⟩:=r;rfl
 |ref _=>cases r;rfl
 |ty _=>cases r;rfl
theorem aG'.inj {x y:V} {u:Value} (r:aG' x u) (q:aG' y u):x=y:=Option.some.inj (r.abs.symm.trans q.abs)
theorem aC'.inj:∀{xs ys:List V} {us:List Value},aC' xs us->aC' ys us->xs=ys
 |_,_,_,.nil,.nil=>rfl
 |_,_,_,.cons r t,.cons r' t'=>by rw[r.inj r',aC'.inj t t']
section
variable {X:Cx} {pins:List (Addr×Obj)} {σ:St} {H:Hp} {s:Shared} {a:Addr} {xs ys:List V}
theorem SqL.of {K:W.Frag} (h:H a=some (.lst xs)):SqL K H a xs:=.inl (.inl h)
theorem SqT.of {K:W.Frag} (h:H a=some (.tup xs)):SqT K H a xs:=.inl (.inl h)
theorem Inv.list (I:Inv X pins σ H s) (h:SqL X.K H a xs):∃its:List Value,aC' xs its/\PlainL s.heap a its.toArray/\xs.length<=sizeLine:=by
 rcases h with h|⟨o,its,n,hk,hc,hd,hs,hz,r⟩
 .obtain⟨z,its,n,r,e⟩:=h.ok I.hok
  exact⟨its,r,⟨_,n,e,rfl,rfl,rfl⟩,z⟩
 .refine⟨its.toList,r,⟨o,n,I.kIn a o hk,hc,hd,by simpa using hs⟩,?_⟩
  have e:=r.length
  simp only[aD]at e
  omega
theorem Inv.tuple (I:Inv X pins σ H s) (h:SqT X.K H a xs):∃its:List Value,aC' xs its/\IsTup s.heap a its.toArray/\xs.length<=sizeLine:=by
 rcases h with h|⟨o,its,n,hk,hc,hs,hz,r⟩
 .obtain⟨z,its,r,p⟩:=h.ok I.hok
  exact⟨its,r,p.tup,z⟩
 .refine⟨its.toList,r,⟨o,I.kIn a o hk,hc,n,by simpa using hs⟩,?_⟩
  have e:=r.length
  simp only[aD]at e
  omega
theorem Inv.list_inj (I:Inv X pins σ H s) (h:SqL X.K H a xs) (h':SqL X.K H a ys):xs=ys:=by
 obtain⟨its,r,⟨o,n,e,_,_,d⟩,_⟩:=I.list h
 obtain⟨its',r',⟨o',n',e',_,_,d'⟩,_⟩:=I.list h'
 rw[e]at e';cases e'
 rw[d]at d'
 injection d' with d1 _
 have:its=its':=by simpa using congrArg Array.toList d1
 subst this
 exact r.inj r'
theorem Inv.tuple_inj (I:Inv X pins σ H s) (h:SqT X.K H a xs) (h':SqT X.K H a ys):xs=ys:=by
 obtain⟨its,r,⟨o,e,_,n,d⟩,_⟩:=I.tuple h
 obtain⟨its',r',⟨o',e',_,n',d'⟩,_⟩:=I.tuple h'
 rw[e]at e';cases e'
 rw[d]at d'
 injection d' with d1 _
 have:its=its':=by simpa using congrArg Array.toList d1
 subst this
 exact r.inj r'
end
abbrev Cx.wish (X:Cx) (E:Value->Shared->Prop):Cx:={ X with xe:=E }
abbrev Cx.nox (X:Cx):Cx:=X.wish fun _ _=>False
theorem Cx.Ok.wish {X:Cx} (ok:X.Ok) (E:Value->Shared->Prop):(X.wish E).Ok:=
 ⟨ok.mod,ok.kind,ok.glob,ok.blt,ok.above,ok.inj,ok.has,ok.cab,ok.hd,ok.frames,ok.stk,ok.exf,ok.bs,ok.bsz,ok.noex,ok.exfs,ok.funs,ok.frf⟩
theorem Cx.Ok.unwish {X:Cx} {E:Value->Shared->Prop} (ok:(X.wish E).Ok):X.Ok:=
 ⟨ok.mod,ok.kind,ok.glob,ok.blt,ok.above,ok.inj,ok.has,ok.cab,ok.hd,ok.frames,ok.stk,ok.exf,ok.bs,ok.bsz,ok.noex,ok.exfs,ok.funs,ok.frf⟩
section
variable {X:Cx} {pins:List (Addr×Obj)} {σ:St} {H:Hp} {s:Shared} {E:Value->Shared->Prop}
theorem Inv.wish (I:Inv X pins σ H s) (E:Value->Shared->Prop):Inv (X.wish E) pins σ H s:=⟨I.ok.wish E,I.os,I.bare,I.base,I.loc,I.cell,I.free,I.freeC,I.pin,I.hok,I.len⟩
theorem Inv.unwish (I:Inv (X.wish E) pins σ H s):Inv X pins σ H s:=⟨I.ok.unwish,I.os,I.bare,I.base,I.loc,I.cell,I.free,I.freeC,I.pin,I.hok,I.len⟩
theorem SP.unwish {D:Ends} {f:Flow} {s':Shared} (h:SP (X.wish E) pins D f s'):SP X pins D f s':=by
 cases f with
 |next=>obtain⟨σ',H',I,q⟩:=h;exact⟨σ',H',I.unwish,q⟩
 |brk=>obtain⟨σ',H',I,q⟩:=h;exact⟨σ',H',I.unwish,q⟩
 |cont=>obtain⟨σ',H',I,q⟩:=h;exact⟨σ',H',I.unwish,q⟩
 |ret u=>obtain⟨v,σ',H',I,r,q⟩:=h;exact⟨v,σ',H',I.unwish,r,q⟩
theorem PSs.nox {st:List Stmt} {t:TS} (h:PSs X.nox st t):PSs X st t:=fun pins s σ H D I hw=>
 wpAny_mono (h pins s σ H D (I.wish _) hw) (fun _ _ q=>q.unwish) fun _ _ z=>False.elim z
end
section
variable {X:Cx} {st:Stmt} {aA':List Stmt} {t u:TS} {e:Expr} {te:TE} {pos:Pos}
def pC':TS:=fun D σ H=>D.nx σ H
def wk' (t u:TS):TS:=fun D σ H=>t { D with nx:=u D } σ H
theorem pD':PSs X [] pC':=fun _ _ σ H _ I h=>wpAny_execs_nil ⟨σ,H,I,h⟩
theorem mu' (h1:PS X st t) (h2:PSs X aA' u):PSs X (st :: aA') (wk' t u):=by
 intro pins s σ H D I h
 refine wpAny_execs_cons (thn (h1 pins s σ H { D with nx:=u D } I h) fun f s1 q=>?_)
 cases f with
 |next=>
  obtain⟨σ',H',I',q⟩:=q
  exact h2 pins s1 σ' H' D I' q
 |ret v=>exact q
 |brk=>exact q
 |cont=>exact q
theorem Inv.quiet {pins:List (Addr×Obj)} {σ:St} {H:Hp} {s:Shared} (I:Inv X pins σ H s):interactive X.env=false:=by simp[interactive,I.ok.kind]
def pE' (te:TE):TS:=fun D σ H=>te σ H fun _ H1=>D.nx σ H1
theorem pF' (he:PE X e te) (hs:swapsWith e none pos.line X.env=pure false:=by rfl):PS X (.Expr e pos) (pE' te):=by
 intro pins s σ H D I h
 exact wpAny_Expr_any (thn (he pins s σ H _ I h) fun v s1 ⟨x,H1,I1,r1,q1⟩=>⟨σ,H1,I1,q1⟩) I.quiet hs
def wl' (te:TE):TS:=fun D σ H=>te σ H D.rt
theorem sd' (he:PE X e te):PS X (.Return (some e) pos) (wl' te):=by
 intro pins s σ H D I h
 exact wpAny_Return_some (thn (he pins s σ H _ I h) fun v s1 ⟨x,H1,I1,r1,q1⟩=>⟨x,σ,H1,I1,r1,q1⟩)
def wm' (c:TT) (t u:TS):TS:=fun D σ H=>c σ H fun b H1=>if b=true then t D σ H1 else u D σ H1
theorem wn' {c:Expr} {a b:List Stmt} {tc:TT} (hc:PT X c tc) (ha:PSs X a t) (hb:PSs X b u):PS X (.If c a b pos) (wm' tc t u):=by
 intro pins s σ H D I h
 refine wpAny_If (thn (hc pins s σ H _ I h) fun d s1 ⟨H1,I1,q1⟩=>?_)
 cases d with
 |true=>exact ha pins s1 σ H1 D I1 q1
 |false=>exact hb pins s1 σ H1 D I1 q1
end
abbrev TG:=V->St->Hp->(St->Hp->Prop)->Prop
abbrev TGs:=List V->St->Hp->(St->Hp->Prop)->Prop
def PG (X:Cx) (target:Expr) (t:TG):Prop:=
 ∀(pins:List (Addr×Obj)) (s:Shared) (σ:St) (H:Hp) (v:V) (u:Value) (Q:St->Hp->Prop),Inv X pins σ H s->aG' v u->t v σ H Q->
  wpAny (model X.prog X.w) X.A (assign target X.env u) (fun _ s'=>∃σ' H',Inv X pins σ' H' s'/\Q σ' H') X.xe s
def PGs (X:Cx) (ts:List Expr) (t:TGs):Prop:=
 ∀(pins:List (Addr×Obj)) (s:Shared) (σ:St) (H:Hp) (vs:List V) (us:List Value) (Q:St->Hp->Prop),Inv X pins σ H s->aC' vs us->t vs σ H Q->
  wpAny (model X.prog X.w) X.A (assignInOrder ((assignEach ts X.env).map (·.2)) us) (fun _ s'=>∃σ' H',Inv X pins σ' H' s'/\Q σ' H') X.xe s
abbrev se':=V->V->V->Hp->(Hp->Prop)->Prop
def wo' (X:Cx) (t:se'):Prop:=
 ∀(pins:List (Addr×Obj)) (s:Shared) (σ:St) (H:Hp) (o i v:V) (ov iv u:Value) (Q:Hp->Prop),Inv X pins σ H s->aG' o ov->aG' i iv->aG' v u->t o i v H Q->
  wpAny (model X.prog X.w) X.A (setItem ov iv u) (fun _ s'=>∃H',Inv X pins σ H' s'/\Q H') X.xe s
abbrev TIp:=V->V->Hp->VK->Prop
def PIp (X:Cx) (op:Operator) (t:TIp):Prop:=
 ∀(pins:List (Addr×Obj)) (s:Shared) (σ:St) (H:Hp) (x y:V) (v u:Value) (Q:VK),Inv X pins σ H s->aG' x v->aG' y u->t x y H Q->
  wpAny (model X.prog X.w) X.A (inplaceOp op v u) (EP X pins σ Q) X.xe s
section
variable {X:Cx} {pos:Pos}
def dv' (i:Nat):TG:=fun v σ H Q=>Q (σ.set i (some v)) H
theorem pG' {i:Nat} {x:Str} (hN:X.N.Nodup) (hi:X.N[i]?=some x) (hx:Loc X.env.scope x) (hf:X.fn x=true\/X.env.scope.names.lookup x=some .local:=by first|exact .inl rfl|exact .inr rfl|assumption):PG X (.Name x pos) (dv' i):=by
 intro pins s σ H v u Q I r h
 exact wpAny_assign_Name (hY' I hN hi hx r (fun s' I'=>⟨_,H,I',h⟩) hf)
def wp':TGs:=fun vs σ H Q=>vs=[]/\Q σ H
def pH' (t:TG) (u:TGs):TGs:=fun vs σ H Q=>∃v r,vs=v :: r/\t v σ H fun σ' H'=>u r σ' H' Q
theorem pI':PGs X [] wp':=by
 intro pins s σ H vs us Q I r h
 obtain⟨e,h⟩:=h
 subst e
 cases r
 exact assignInOrder_nil ⟨σ,H,I,h⟩
theorem mv' {e:Expr} {es:List Expr} {t:TG} {u:TGs} (h1:PG X e t) (h2:PGs X es u)
  (hs:(assignEach (e :: es) X.env).map (·.2)=assign e X.env :: (assignEach es X.env).map (·.2):=by rfl):PGs X (e :: es) (pH' t u):=by
 intro pins s σ H vs us Q I r h
 obtain⟨v,vr,e1,h⟩:=h
 subst e1
 cases r with
 |cons r rr=>
  rw[hs]
  refine assignInOrder_cons (thn (h1 pins s σ H _ _ _ I r h) fun _ s1 ⟨σ1,H1,I1,q1⟩=>?_)
  exact h2 pins s1 σ1 H1 _ _ Q I1 rr q1
def y2' (K:W.Frag) (n:Nat) (t:TGs):TG:=fun v σ H Q=>∃a xs,v=.ref a/\SqT K H a xs/\xs.length=n/\t xs σ H Q
theorem sf' {es:List Expr} {k:Nat} {t:TGs} {n:Nat} (hc:X.calm=true) (h:PGs X es t)
  (hn:(assignEach es X.env).length=n:=by rfl) (hst:(assignEach es X.env).findIdx? (·.1)=none:=by rfl):PG X (.Tuple es k pos) (y2' X.K n t):=by
 intro pins s σ H v u Q I r hw
 obtain⟨a,xs,e1,hq,hl,hw⟩:=hw
 subst e1
 cases r
 obtain⟨its,rv,ht,hz⟩:=I.tuple hq
 refine assign_Tuple_tuple (I.ok.hd hc) ht (by simp[hn,<- hl,rv.length]) hst fun h' hx=>?_
 have I1:Inv X pins σ H { s with heap:=h' }:=I.kept (t':=s.toks) fun b o e=>hx b o (aK (au e)) e
 exact h pins _ σ H xs _ Q I1 (by simpa using rv) hw
def wq' (to ti:TE) (t:se'):TG:=fun v σ H Q=>to σ H fun o H1=>ti σ H1 fun i H2=>t o i v H2 fun H3=>Q σ H3
theorem sg' {o i:Expr} {to ti:TE} {t:se'} (ho:PE X o to) (hi:PE X i ti) (hs:wo' X t)
  (ha:∀v,assign (.Subscript o i pos) X.env v=(do
   let ov <- holding [v] (eval o X.env)
   let iv <- holding [v,ov] (eval i X.env)
   standAt pos
   holding [v,ov,iv] (setItem ov iv v)
   release [v,ov,iv] []):=by intro _;rfl):PG X (.Subscript o i pos) (wq' to ti t):=by
 intro pins s σ H v u Q I r h
 rw[ha]
 refine af (bo (thn (ho pins s σ H _ I h) fun ov s1 ⟨x,H1,I1,r1,q1⟩=>?_))
 refine af (bo (thn (hi pins s1 σ H1 _ I1 q1) fun iv s2 ⟨y,H2,I2,r2,q2⟩=>?_))
 refine af (bF (af (bo (thn (hs pins s2 σ H2 x y v ov iv u _ I2 r1 r2 r q2) fun _ s3 ⟨H3,I3,q3⟩=>?_))))
 exact wpAny_release ⟨σ,H3,I3,q3⟩
def jj' (te:TE) (g:TG):TS:=fun D σ H=>te σ H fun x H1=>g x σ H1 D.nx
theorem hZ' {tg e:Expr} {te:TE} {g:TG} (he:PE X e te) (hg:PG X tg g) (hs:swapsWithSole [tg] e pos.line X.env=pure false:=by rfl) (hw:swappedStores [tg] e X.env=pure none:=by rfl)
  (h1:(assignEach [tg] X.env).map (·.2)=[assign tg X.env]:=by rfl):PS X (.Assign [tg] e pos) (jj' te g):=by
 intro pins s σ H D I h
 refine wpAny_Assign_stores (thn (he pins s σ H _ I h) fun v s1 ⟨x,H1,I1,r1,q1⟩=>?_) hs hw
 rw[h1]
 exact thn (hg pins s1 σ H1 x v _ I1 r1 q1) fun _ s2 q=>q
def wr' (i:Nat) (te:TE) (ti:TIp):TS:=fun D σ H=>∃x,σ[i]?=some (some x)/\te σ H fun y H1=>ti x y H1 fun z H2=>D.nx (σ.set i (some z)) H2
theorem ox' {i:Nat} {x:Str} {e:Expr} {te:TE} {op:Operator} {ti:TIp} {pos':Pos} (hN:X.N.Nodup) (hi:X.N[i]?=some x) (hx:Loc X.env.scope x) (he:PE X e te) (ho:PIp X op ti) (hf:X.fn x=true\/X.env.scope.names.lookup x=some .local:=by first|exact .inl rfl|exact .inr rfl|assumption):
  PS X (.AugAssign (.Name x pos') op e pos) (wr' i te ti):=by
 intro pins s σ H D I h
 obtain⟨v,e1,h⟩:=h
 obtain⟨m,hn,hl⟩:=I.loc
 have vis:Vis X.env.scope x:=by rcases hx with k|k;exact .inl k;exact .inr (.inl k)
 obtain⟨u,r,l⟩:=hl i x v hi e1 vis
 refine wpAny_AugAssign_Name ?_
 have go:wpAny (model X.prog X.w) X.A (eval e X.env) (fun w s₂=>wpAny (model X.prog X.w) X.A (inplaceOp op u w) (fun r s₃=>wpAny (model X.prog X.w) X.A (storeName X.env x r) (fun _=>SP X pins D .next) X.xe s₃) X.xe s₂) X.xe s:=by
  refine thn (he pins s σ H _ I h) fun w s1 ⟨y,H1,I1,r1,q1⟩=>?_
  refine thn (ho pins s1 σ H1 v y u w _ I1 r r1 q1) fun z s2 ⟨zv,H2,I2,r2,q2⟩=>?_
  exact hY' I2 hN hi hx r2 (fun s3 I3=>⟨_,H2,I3,q2⟩) hf
 rcases l with⟨hk,hm⟩|⟨hk,c,hc,hcell⟩
 .exact wpAny_loadName_local I.ok.kind hk hn hm go
 .rcases hk with hk|hk
  .exact wpAny_loadName_cell I.ok.kind hk hc hcell go
  .rcases hx with k|k
   .have:X.env.scope.names.lookup x=some .free:=hk
    rw[k]at this;cases this
   .have:X.env.scope.names.lookup x=some .free:=hk
    rw[k]at this;cases this
def pJ' (to ti te:TE) (tget:V->V->Hp->VK->Prop) (tip:TIp) (tset:se'):TS:=fun D σ H=>to σ H fun o H1=>ti σ H1 fun i H2=>tget o i H2 fun x H3=>te σ H3 fun y H4=>tip x y H4 fun z H5=>tset o i z H5 fun H6=>D.nx σ H6
def yn' (X:Cx) (t:V->V->Hp->VK->Prop):Prop:=
 ∀(pins:List (Addr×Obj)) (s:Shared) (σ:St) (H:Hp) (o i:V) (ov iv:Value) (Q:VK),Inv X pins σ H s->aG' o ov->aG' i iv->t o i H Q->
  wpAny (model X.prog X.w) X.A (getItem ov iv) (EP X pins σ Q) X.xe s
theorem jr' {o i e:Expr} {to ti te:TE} {tget:V->V->Hp->VK->Prop} {tip:TIp} {tset:se'} {op:Operator} {tpos:Pos} (ho:PE X o to) (hi:PE X i ti) (hg:yn' X tget) (he:PE X e te) (hp:PIp X op tip) (hs:wo' X tset)
  (ha:∀ov iv new,augStore i ov iv new=(do holding [new,ov,iv] (setItem ov iv new);release [new,ov,iv] [];pure .next):=by intros;rfl):PS X (.AugAssign (.Subscript o i tpos) op e pos) (pJ' to ti te tget tip tset):=by
 intro pins s σ H D I h
 refine wpAny_AugAssign_SubscriptAny (thn (ho pins s σ H _ I h) fun ov s1 ⟨x1,H1,I1,r1,q1⟩=>?_) ha
 refine thn (hi pins s1 σ H1 _ I1 q1) fun iv s2 ⟨x2,H2,I2,r2,q2⟩=>?_
 refine thn (hg pins s2 σ H2 x1 x2 ov iv _ I2 r1 r2 q2) fun old s3 ⟨x3,H3,I3,r3,q3⟩=>?_
 refine thn (he pins s3 σ H3 _ I3 q3) fun v s4 ⟨x4,H4,I4,r4,q4⟩=>?_
 refine thn (hp pins s4 σ H4 x3 x4 old v _ I4 r3 r4 q4) fun new s5 ⟨x5,H5,I5,r5,q5⟩=>?_
 exact thn (hs pins s5 σ H5 x1 x2 x5 ov iv new _ I5 r1 r2 r5 q5) fun _ s6 ⟨H6,I6,q6⟩=>⟨σ,H6,I6,q6⟩
def ipI (f:Int->Int->Int):TIp:=fun x y H Q=>∃i j,x=.int i/\y=.int j/\Q (.int (f i j)) H
theorem oy':PIp X .Add (ipI fun i j=>i+j):=by
 intro pins s σ H x y v u Q I r1 r2 h
 obtain⟨i,j,e1,e2,q⟩:=h
 subst e1;subst e2
 obtain⟨t,rfl⟩:=r1
 obtain⟨t',rfl⟩:=r2
 exact iadd_int ⟨.int _,H,I.tok _,⟨_,rfl⟩,q⟩
theorem oz':PIp X .Sub (ipI fun i j=>i-j):=by
 intro pins s σ H x y v u Q I r1 r2 h
 obtain⟨i,j,e1,e2,q⟩:=h
 subst e1;subst e2
 obtain⟨t,rfl⟩:=r1
 obtain⟨t',rfl⟩:=r2
 exact isub_int ⟨.int _,H,I.tok _,⟨_,rfl⟩,q⟩
end
section
variable {X:Cx} {pos:Pos}
def js' (c:TT) (tb:TS):TS:=fun D σ H=>∃W:Nat->St->Hp->Prop,(∃m,W m σ H)/\∀m σ H,W m σ H->
 c σ H fun b H1=>if b=true then ∃N:St->Hp->Prop,(∀σ' H',N σ' H'->∃m',m'<m/\W m' σ' H')/\tb { D with nx:=N,ct:=N,bk:=D.nx } σ H1 else D.nx σ H1
theorem mw' {c:Expr} {body:List Stmt} {tc:TT} {tb:TS} (hp:PassesOwn (model X.prog X.w) X.A X.env X.xe) (hc:PT X c tc) (hb:PSs X body tb):PS X (.While c body [] pos) (js' tc tb):=by
 intro pins s σ H D I h
 obtain⟨W,⟨m0,w0⟩,turn⟩:=h
 refine wpAny_While (codeAny_whileLoop (fun n s'=>∃σ' H',Inv X pins σ' H' s'/\W n σ' H') ?_ m0 ⟨σ,H,I,w0⟩)
 rintro n s1 ⟨σ1,H1,I1,w1⟩
 refine bR hp (thn (hc pins s1 σ1 H1 _ I1 (turn n σ1 H1 w1)) fun b s2 ⟨H2,I2,q2⟩=>?_)
 cases b with
 |true=>
  obtain⟨N,hN,q2⟩:=q2
  rw[if_pos rfl]
  refine bR hp (thn (hb pins s2 σ1 H2 _ I2 q2) fun f s3 q3=>?_)
  cases f with
  |next=>
   obtain⟨σ3,H3,I3,n3⟩:=q3
   obtain⟨m',hm,w3⟩:=hN σ3 H3 n3
   exact⟨m',hm,σ3,H3,I3,w3⟩
  |cont=>
   obtain⟨σ3,H3,I3,n3⟩:=q3
   obtain⟨m',hm,w3⟩:=hN σ3 H3 n3
   exact⟨m',hm,σ3,H3,I3,w3⟩
  |brk=>exact q3
  |ret v=>exact q3
 |false=>
  rw[if_neg aq]
  exact wpAny_execs_nil ⟨σ1,H2,I2,q2⟩
end
structure It where
 go:Nat->Hp->Prop
 yld:Nat->Hp->V->Hp->Prop
 stop:Nat->Hp->Prop
def du' (X:Cx) (pins:List (Addr×Obj)) (H:Hp) (b:Addr):Prop:=
 H b=none/\b≠X.env.locals/\b∉X.fs/\(b∈X.ex\/X.s₀.heap.objs.size<=b)/\(∀x c,X.env.cells.lookup x=some c->c≠b)/\∀p∈X.pn++pins,p.1≠b
theorem Inv.fpOk {X:Cx} {pins:List (Addr×Obj)} {σ:St} {H H':Hp} {s:Shared} {b:Addr} (I:Inv X pins σ H s) (hb:s.heap.objs.size<=b) (hn:H' b=none):du' X pins H' b:=by
 refine⟨hn,Nat.ne_of_gt (aB I.lt hb),I.nofs hb,.inr (aI I.sz hb),fun x c e z=>?_,fun p hp z=>?_⟩
 .obtain⟨v,q⟩:=I.cell x c e
  exact absurd (aB q.lt (by rw[z];exact hb)) (bb _)
 .exact absurd (aB (au (I.pin p hp).1) (by rw[z];exact hb)) (bb _)
structure Turn (P:Program) (w:World) (K:W.Frag) (tg:Expr) (J:It) (fp:List Addr) (it:Addr) (tn:Nat->Heap->Prop):Prop where
 mem:it∈fp
 obj:∀i h,tn i h->∀b∈fp,∃o,h.get? b=some o/\∀v,o.data≠.cell v
 keep:∀i h h',tn i h->(∀b∈fp,∀o,h.get? b=some o->h'.get? b=some o)->tn i h'
 item:∀(X:Cx),X.prog=P->X.w=w->X.K=K->X.calm=true->∀(i:Nat) (pins:List (Addr×Obj)) (s:Shared) (σ:St) (H:Hp) (E:Value->Shared->Prop),Inv X pins σ H s->(∀b∈fp,du' X pins H b)->tn i s.heap->J.go i H->
  wpAny (model P w) X.A (pyNext (.ref it)) (fun r s1=>∃u,r=some u/\
   wpAny (model P w) X.A (letOwnedTupleGo tg (.ref it) u) (fun _ s2=>∃x H',Inv X pins σ H' s2/\aG' x u/\J.yld i H x H'/\tn (i+1) s2.heap/\∀b∈fp,H' b=none) E s1) E s
 done:∀(X:Cx),X.prog=P->X.w=w->X.K=K->X.calm=true->∀(i:Nat) (pins:List (Addr×Obj)) (s:Shared) (σ:St) (H:Hp) (E:Value->Shared->Prop),Inv X pins σ H s->(∀b∈fp,du' X pins H b)->tn i s.heap->J.stop i H->
  wpAny (model P w) X.A (pyNext (.ref it)) (fun r s1=>r=none/\Inv X pins σ H s1) E s
 self:∀(A:Around) (i:Nat) (s:Shared) (Q:Value->Shared->Prop) (E:Value->Shared->Prop),tn i s.heap->Q (.ref it) s->wpAny (model P w) A (pyIter (.ref it)) Q E s
abbrev TI:=St->Hp->(It->Hp->Prop)->Prop
def PIE (X:Cx) (pins:List (Addr×Obj)) (σ:St) (tg:Expr) (R:It->Hp->Prop) (itv:Value) (s2:Shared):Prop:=
 ∃(it:Addr) (fp:List Addr) (tn:Nat->Heap->Prop) (J:It) (H':Hp),itv=.ref it/\Inv X pins σ H' s2/\Turn X.prog X.w X.K tg J fp it tn/\tn 0 s2.heap/\(∀b∈fp,du' X pins H' b)/\R J H'
def PI (X:Cx) (tg iter:Expr) (wi:TI):Prop:=
 ∀(pins:List (Addr×Obj)) (s:Shared) (σ:St) (H:Hp) (R:It->Hp->Prop),Inv X pins σ H s->wi σ H R->
  wpAny (model X.prog X.w) X.A (eval iter X.env) (fun v s1=>wpAny (model X.prog X.w) X.A (pyIter v) (PIE X pins σ tg R) X.xe s1) X.xe s
theorem mx' {M:Model} {A:Around} {E:Value->Shared->Prop} {s:Shared} {tg:Expr} {it:Addr} {u:Value} {o:Obj} {n:String} {vs:Array Value} {Q:Unit->Shared->Prop} (ho:s.heap.get? it=some o) (hc:o.cls=.type n) (hd:o.data=.fields vs)
  (hn:["enumerate","zip","dict_itemiterator","dict_reverseitemiterator","odict_iterator","itertools.zip_longest","itertools.pairwise"].contains n=false) (hQ:Q () s):wpAny M A (letOwnedTupleGo tg (.ref it) u) Q E s:=by
 unfold letOwnedTupleGo
 cases tg<;>first
  |exact aG hQ
  |(cases u<;>first
    |exact aG hQ
    |(refine af (wpAny_load ho ?_)
      rw[hc,hd]
      show wpAny M A (if(["enumerate","zip","dict_itemiterator","dict_reverseitemiterator","odict_iterator","itertools.zip_longest","itertools.pairwise"].contains n&&vs[0]? == some (rawInt _))=true then _ else _) Q E s
      rw[if_neg (by intro h;rw[hn,Bool.false_and]at h;cases h)]
      exact aG hQ))
def Itl (K:W.Frag) (a:Addr):It:=
 ⟨fun i H=>∃xs x,SqL K H a xs/\xs[i]?=some x,fun i H x H'=>H'=H/\∀xs,SqL K H a xs->xs[i]?=some x,fun i H=>∃xs,SqL K H a xs/\xs.length<=i⟩
def Itt (K:W.Frag) (a:Addr):It:=
 ⟨fun i H=>∃xs x,SqT K H a xs/\xs[i]?=some x,fun i H x H'=>H'=H/\∀xs,SqT K H a xs->xs[i]?=some x,fun i H=>∃xs,SqT K H a xs/\xs.length<=i⟩
def Itr (lo:Int) (n:Nat):It:=⟨fun i _=>i<n,fun i H x H'=>H'=H/\x=.int (lo+i),fun i _=>n<=i⟩
theorem jt' {P:Program} {w:World} {K:W.Frag} {tg:Expr} (a it:Addr):Turn P w K tg (Itl K a) [it] it (fun i h=>h.IsListIter it a i) where
 mem:=by simp
 obj:=fun i h st b hb=>by
  have e:b=it:=by simpa using hb
  subst e
  obtain⟨o,e,c,d⟩:=st
  exact⟨o,e,fun v z=>by rw[d]at z;cases z⟩
 keep:=fun i h h' st k=>st.at fun o e=>k it (by simp) o e
 item:=by
  intro X hP hw hK hc i pins s σ H E I hf st hg
  subst hP hw hK
  obtain⟨xs,x,hq,hx⟩:=hg
  obtain⟨its,rv,p,hz⟩:=I.list hq
  obtain⟨u,hu,ru⟩:=rv.get hx
  obtain⟨f0,f1,f2,f3,f4,f5⟩:=hf it (by simp)
  refine wpAny_pyNext_list_item st p.isList (x:=u) (by simpa using hu) fun h' st' sb=>?_
  have I1:Inv X pins σ H { s with heap:=h' }:=I.turned (t':=s.toks) (fun b o hb e=>(sb.2 b hb).trans e) f0 f1 f3 f4 f5
  obtain⟨o,e,c,d⟩:=id st'
  exact⟨u,rfl,mx' (s:={ s with heap:=h' }) e c d (by decide) ⟨x,H,I1,ru,⟨rfl,fun ys hy=>by rw[I.list_inj hy hq];exact hx⟩,st',fun b hb=>(hf b hb).1⟩⟩
 done:=by
  intro X hP hw hK hc i pins s σ H E I hf st hg
  subst hP hw hK
  obtain⟨xs,hq,hx⟩:=hg
  obtain⟨its,rv,p,hz⟩:=I.list hq
  obtain⟨f0,f1,f2,f3,f4,f5⟩:=hf it (by simp)
  have hl:=rv.length
  exact wpAny_pyNext_list_end (I.ok.hd hc) st p.isList (by simp;omega) fun h' eb=>⟨rfl,I.turned (t':=s.toks) (fun b o hb e=>eb b o hb e) f0 f1 f3 f4 f5⟩
 self:=fun _ _ _ _ _ st h=>wpAny_pyIter_listiter st h
theorem iF' {P:Program} {w:World} {K:W.Frag} {tg:Expr} (a it:Addr):Turn P w K tg (Itt K a) [it] it (fun i h=>h.IsTupleIter it a i) where
 mem:=by simp
 obj:=fun i h st b hb=>by
  have e:b=it:=by simpa using hb
  subst e
  obtain⟨o,e,c,d⟩:=st
  exact⟨o,e,fun v z=>by rw[d]at z;cases z⟩
 keep:=fun i h h' st k=>st.at fun o e=>k it (by simp) o e
 item:=by
  intro X hP hw hK hc i pins s σ H E I hf st hg
  subst hP hw hK
  obtain⟨xs,x,hq,hx⟩:=hg
  obtain⟨its,rv,p,hz⟩:=I.tuple hq
  obtain⟨u,hu,ru⟩:=rv.get hx
  obtain⟨f0,f1,f2,f3,f4,f5⟩:=hf it (by simp)
  refine wpAny_pyNext_tuple_item st (show s.heap.IsTuple a its.toArray from p) (x:=u) (by simpa using hu) fun h' st' sb=>?_
  have I1:Inv X pins σ H { s with heap:=h' }:=I.turned (t':=s.toks) (fun b o hb e=>(sb.2 b hb).trans e) f0 f1 f3 f4 f5
  obtain⟨o,e,c,d⟩:=id st'
  exact⟨u,rfl,mx' (s:={ s with heap:=h' }) e c d (by decide) ⟨x,H,I1,ru,⟨rfl,fun ys hy=>by rw[I.tuple_inj hy hq];exact hx⟩,st',fun b hb=>(hf b hb).1⟩⟩
 done:=by
  intro X hP hw hK hc i pins s σ H E I hf st hg
  subst hP hw hK
  obtain⟨xs,hq,hx⟩:=hg
  obtain⟨its,rv,p,hz⟩:=I.tuple hq
  obtain⟨f0,f1,f2,f3,f4,f5⟩:=hf it (by simp)
  have hl:=rv.length
  exact wpAny_pyNext_tuple_end (I.ok.hd hc) st (show s.heap.IsTuple a its.toArray from p) (by simp;omega) fun h' eb=>⟨rfl,I.turned (t':=s.toks) (fun b o hb e=>eb b o hb e) f0 f1 f3 f4 f5⟩
 self:=fun _ _ _ _ _ st h=>wpAny_pyIter_tupleiter st h
theorem iG' {P:Program} {w:World} {K:W.Frag} {tg:Expr} (it:Addr) (lo:Int) (n:Nat):Turn P w K tg (Itr lo n) [it] it (fun i h=>IsRangeIter h it (lo+(i:Nat)*1) ((n:Int)-(i:Nat)) 1) where
 mem:=by simp
 obj:=fun i h st b hb=>by
  have e:b=it:=by simpa using hb
  subst e
  exact⟨_,st,fun v z=>by
   have z':Data.fields _=Data.cell v:=z
   cases z'⟩
 keep:=fun i h h' st k=>k it (by simp) _ st
 item:=by
  intro X hP hw hK hc i pins s σ H E I hf st hg
  subst hP hw hK
  obtain⟨f0,f1,f2,f3,f4,f5⟩:=hf it (by simp)
  have W:=Walks.range (prog:=X.prog) (w:=X.w) (I.ok.hd hc) it lo 1 n
  refine W.item i s _ _ hg st fun v h' tk hv st' kk=>?_
  obtain⟨t,rfl⟩:=hv
  have I1:Inv X pins σ H { s with heap:=h',toks:=tk }:=I.turned (fun b o hb e=>kk b o (by simpa using hb) e) f0 f1 f3 f4 f5
  refine⟨_,rfl,mx' (s:={ s with heap:=h',toks:=tk }) (n:="range_iterator") st' rfl rfl (by decide) ⟨.int (lo+i),H,I1,⟨t,?_⟩,⟨rfl,rfl⟩,st',fun b hb=>(hf b hb).1⟩⟩
  rw[Int.mul_one]
 done:=by
  intro X hP hw hK hc i pins s σ H E I hf st hg
  subst hP hw hK
  obtain⟨f0,f1,f2,f3,f4,f5⟩:=hf it (by simp)
  exact wpAny_pyNext_range_end (I.ok.hd hc) st (by have:n<=i:=hg;omega) fun h' eb=>⟨rfl,I.turned (t':=s.toks) (fun b o hb e=>eb b o hb e) f0 f1 f3 f4 f5⟩
 self:=fun _ _ _ _ _ st h=>wpAny_pyIter_rangeiter st h
section
variable {X:Cx} {tg:Expr}
theorem h0' {pins:List (Addr×Obj)} {σ:St} {H:Hp} {s:Shared} {R:It->Hp->Prop} {E:Value->Shared->Prop} {lo hi:Int} {t u v:Tok} {tk:Nat} (I:Inv X pins σ H s) (h1:-(2 ^ 62)<=lo) (h2:lo<2 ^ 62) (h3:-(2 ^ 62)<=hi) (h4:hi<2 ^ 62)
  (q:R (Itr lo (hi-lo).toNat) H):wpAny (model X.prog X.w) X.A (pyIter (.ref s.heap.objs.size)) (PIE X pins σ tg R) E { s with heap:=s.heap.push { cls:=.type "range",data:=.fields #[.int lo t,.int hi u,.int 1 v] },toks:=tk }:=by
 refine wpAny_pyIter_range (IsRange.new ..) (small_one h1 h2 h3 h4) ?_
 have I1:Inv X pins σ H { s with heap:=s.heap.push { cls:=.type "range",data:=.fields #[.int lo t,.int hi u,.int 1 v] },toks:=tk }:=I.kept fun b o e=>aj _ e
 refine⟨(s.heap.push { cls:=.type "range",data:=.fields #[.int lo t,.int hi u,.int 1 v] }).objs.size,[(s.heap.push { cls:=.type "range",data:=.fields #[.int lo t,.int hi u,.int 1 v] }).objs.size],_,_,H,rfl,
  I1.kept (t':=tk) fun b o e=>aj _ e,iG' _ lo (hi-lo).toNat,?_,fun b hb=>?_,q⟩
 .have e1:lo+((0:Nat):Int)*1=lo:=by simp
  have e2:(((hi-lo).toNat:Nat):Int)-((0:Nat):Int)=Builtin.Range.rangeSize lo hi 1:=by rw[rangeSize_one];split<;>omega
  show IsRangeIter _ _ (lo+((0:Nat):Int)*1) ((((hi-lo).toNat:Nat):Int)-((0:Nat):Int)) 1
  rw[e1,e2]
  exact aC _ rfl
 .have e:b=(s.heap.push { cls:=.type "range",data:=.fields #[.int lo t,.int hi u,.int 1 v] }).objs.size:=by simpa using hb
  subst e
  exact I1.fpOk (ai _) (I1.hok.fresh (ai _))
def pK' (ta:TA):TI:=fun σ H R=>ta σ H fun vs H1=>∃j:Int,vs=[.int j]/\-(2 ^ 62)<=j/\j<2 ^ 62/\R (Itr 0 j.toNat) H1
def pL' (ta:TA):TI:=fun σ H R=>ta σ H fun vs H1=>∃i j:Int,vs=[.int i,.int j]/\(-(2 ^ 62)<=i/\i<2 ^ 62/\-(2 ^ 62)<=j/\j<2 ^ 62)/\R (Itr i (j-i).toNat) H1
theorem ju' {a:Expr} {ta:TA} {p pos:Pos} (hg:Gl X "range") (hm:X.mg "range"=none) (ha:PA X [a] ta) (hs:starEach [a] X.env=[(false,eval a X.env)]:=by rfl):PI X tg (.Call (.Name "range" p) [a] [] pos) (pK' ta):=by
 intro pins s σ H R I h
 refine Call_ (eX' I hg hm boot_range (PyProof.Rows.callWith_type1 (thn (ha pos pins s σ H _ I h) fun us s1 ⟨vs,H1,I1,r1,q1⟩=>?_) hs rfl))
 obtain⟨j,e,q1,q2,q⟩:=q1
 subst e
 cases r1 with
 |cons r rr=>
  cases rr
  obtain⟨t,rfl⟩:=r
  exact call_range_1 (h0' I1 (by omega) (by omega) q1 q2 (by simpa using q))
theorem jv' {a b:Expr} {ta:TA} {p pos:Pos} (hg:Gl X "range") (hm:X.mg "range"=none) (ha:PA X [a,b] ta) (hs:starEach [a,b] X.env=[(false,eval a X.env),(false,eval b X.env)]:=by rfl) (hs2:starEach [b] X.env=[(false,eval b X.env)]:=by rfl):
  PI X tg (.Call (.Name "range" p) [a,b] [] pos) (pL' ta):=by
 intro pins s σ H R I h
 refine Call_ (eX' I hg hm boot_range (PyProof.Rows.callWith_type1 (thn (ha pos pins s σ H _ I h) fun us s1 ⟨vs,H1,I1,r1,q1⟩=>?_) (by rw[hs,hs2]) (by rw[hs2];rfl)))
 obtain⟨i,j,e,⟨q1,q2,q3,q4⟩,q⟩:=q1
 subst e
 cases r1 with
 |cons r rr=>
  cases rr with
  |cons r' rr=>
   cases rr
   obtain⟨t,rfl⟩:=r
   obtain⟨t',rfl⟩:=r'
   exact call_range_2 (h0' I1 q1 q2 q3 q4 q)
def wu' (wi:TI) (g:TG) (tb:TS):TS:=fun D σ H=>wi σ H fun J H1=>∃W:Nat->Nat->St->Hp->Prop,(∃m,W 0 m σ H1)/\∀i m σ H,W i m σ H->
 (J.stop i H/\D.nx σ H)\/(J.go i H/\∃N:St->Hp->Prop,(∀σ' H',N σ' H'->∃m',m'<m/\W (i+1) m' σ' H')/\∀x H',J.yld i H x H'->g x σ H' fun σ2 H2=>tb { D with nx:=N,ct:=N,bk:=D.nx } σ2 H2)
def bZ' (fp:List Addr) (h:Heap):List (Addr×Obj):=fp.filterMap fun b=>(h.get? b).map fun o=>(b,o)
theorem aK' {fp:List Addr} {h:Heap} {b:Addr} {o:Obj} (hb:b∈fp) (e:h.get? b=some o):(b,o)∈bZ' fp h:=List.mem_filterMap.mpr ⟨b,hb,by rw[e];rfl⟩
theorem ek' {fp:List Addr} {h:Heap} {p:Addr×Obj} (hp:p∈bZ' fp h):p.1∈fp/\h.get? p.1=some p.2:=by
 obtain⟨b,hb,e⟩:=List.mem_filterMap.mp hp
 cases q:h.get? b with
 |none=>rw[q]at e;cases e
 |some o=>
  rw[q]at e
  have e':(b,o)=p:=Option.some.inj e
  subst e'
  exact⟨hb,q⟩
theorem Inv.pinned {pins:List (Addr×Obj)} {σ:St} {H:Hp} {s:Shared} {fp:List Addr} (I:Inv X pins σ H s) (hf:∀b∈fp,du' X pins H b) (ho:∀b∈fp,∃o,s.heap.get? b=some o/\∀v,o.data≠.cell v):Inv X (pins++bZ' fp s.heap) σ H s:=
 I.pins_of fun p hp=>(aw.mp hp).elim (fun z=>I.pin p (ah _ z)) fun z=>by
  obtain⟨hb,e⟩:=ek' z
  obtain⟨f0,f1,f2,_⟩:=hf p.1 hb
  obtain⟨o,e',d⟩:=ho p.1 hb
  rw[e]at e';cases e'
  exact⟨e,f0,f1,f2,d⟩
theorem Inv.unpinned {pins pl:List (Addr×Obj)} {σ:St} {H:Hp} {s:Shared} (I:Inv X (pins++pl) σ H s):Inv X pins σ H s:=I.pins_of fun p hp=>I.pin p (ah _ (aV _ hp))
theorem sh' {iter:Expr} {body:List Stmt} {wi:TI} {g:TG} {tb:TS} {pos:Pos} (hp:PassesOwn (model X.prog X.w) X.A X.env X.xe) (hc:X.calm=true) (hi:PI X tg iter wi) (hg:PG X tg g) (hb:PSs X body tb)
  (hs:∀x,foldedSetIterable iter X.env x=pure x:=by intro _;rfl):PS X (.For tg iter body [] pos) (wu' wi g tb):=by
 intro pins s σ H D I h
 refine wpAny_For (thn (hi pins s σ H _ I h) fun v s1 h1=>thn h1 fun itv s2 h2=>?_) hs
 obtain⟨it,fp,tn,J,H2,e,I2,T,st2,f2,W,⟨m0,w0⟩,turn⟩:=h2
 subst e
 have stat:∀{H':Hp},(∀b∈fp,H' b=none)->∀b∈fp,du' X pins H' b:=fun hn b hb=>⟨hn b hb,(f2 b hb).2⟩
 refine codeAny_forLoop_any (fun n s'=>∃i σ' H',Inv X pins σ' H' s'/\tn i s'.heap/\(∀b∈fp,H' b=none)/\W i n σ' H') ?_ m0 ⟨0,σ,H2,I2,st2,fun b hb=>(f2 b hb).1,w0⟩
 rintro n s3 ⟨i,σ3,H3,I3,st3,fr3,w3⟩
 rcases turn i n σ3 H3 w3 with⟨stop,qn⟩|⟨go,N,hN,step⟩
 .refine bR hp (thn (T.done X rfl rfl rfl hc i pins s3 σ3 H3 X.xe I3 (stat fr3) st3 stop) fun r s4 ⟨hr,I4⟩=>?_)
  subst hr
  exact wpAny_execs_nil ⟨σ3,H3,I4,qn⟩
 .refine bR hp (thn (T.item X rfl rfl rfl hc i pins s3 σ3 H3 X.xe I3 (stat fr3) st3 go) fun r s4 ⟨u,hr,h4⟩=>?_)
  subst hr
  refine bR hp (thn h4 fun _ s5 ⟨x,H5,I5,r5,y5,st5,fr5⟩=>?_)
  have I5':=I5.pinned (stat fr5) (T.obj _ _ st5)
  refine bR hp (thn (hg _ s5 σ3 H5 x u _ I5' r5 (step x H5 y5)) fun _ s6 ⟨σ6,H6,I6,q6⟩=>?_)
  refine bR hp (thn (hb _ s6 σ6 H6 _ I6 q6) fun f s7 q7=>?_)
  have again:∀{σ7:St} {H7:Hp},Inv X (pins++bZ' fp s5.heap) σ7 H7 s7->N σ7 H7->∃m,m<n/\∃i σ' H',Inv X pins σ' H' s7/\tn i s7.heap/\(∀b∈fp,H' b=none)/\W i m σ' H':=fun {σ7 H7} I7 n7=>by
   obtain⟨m',hm,w7⟩:=hN σ7 H7 n7
   refine⟨m',hm,i+1,σ7,H7,I7.unpinned,T.keep _ _ _ st5 fun b hb o e=>(I7.pin (b,o) (ah _ (ah _ (aK' hb e)))).1,fun b hb=>?_,w7⟩
   obtain⟨o,e,d⟩:=T.obj _ _ st5 b hb
   exact(I7.pin (b,o) (ah _ (ah _ (aK' hb e)))).2.1
  cases f with
  |next=>obtain⟨σ7,H7,I7,n7⟩:=q7;exact again I7 n7
  |cont=>obtain⟨σ7,H7,I7,n7⟩:=q7;exact again I7 n7
  |brk=>obtain⟨σ7,H7,I7,q7⟩:=q7;exact⟨σ7,H7,I7.unpinned,q7⟩
  |ret v=>obtain⟨x7,σ7,H7,I7,r7,q7⟩:=q7;exact⟨x7,σ7,H7,I7.unpinned,r7,q7⟩
end
theorem my' {K:W.Frag} {a:Addr} {xs:List V} {g:TG} {tb:TS} {D:Ends} {σ:St} {H:Hp} (Pv:Nat->St->Hp->Prop) (h0:Pv 0 σ H) (hl:∀i σ H,i<=xs.length->Pv i σ H->SqL K H a xs)
  (hs:∀i x σ H,xs[i]?=some x->Pv i σ H->g x σ H fun σ2 H2=>tb { D with nx:=Pv (i+1),ct:=Pv (i+1),bk:=D.nx } σ2 H2) (hd:∀σ H,Pv xs.length σ H->D.nx σ H):
  ∃W:Nat->Nat->St->Hp->Prop,(∃m,W 0 m σ H)/\∀i m σ H,W i m σ H->
   ((Itl K a).stop i H/\D.nx σ H)\/((Itl K a).go i H/\∃N:St->Hp->Prop,(∀σ' H',N σ' H'->∃m',m'<m/\W (i+1) m' σ' H')/\∀x H',(Itl K a).yld i H x H'->g x σ H' fun σ2 H2=>tb { D with nx:=N,ct:=N,bk:=D.nx } σ2 H2):=by
 refine⟨fun i m σ H=>m=xs.length-i/\i<=xs.length/\Pv i σ H,⟨xs.length,by simp,aE _,h0⟩,?_⟩
 rintro i m σ H ⟨rfl,hi,p⟩
 have q:=hl i σ H hi p
 by_cases hlt:i<xs.length
 .refine .inr ⟨⟨xs,xs[i],q,by simp[hlt]⟩,Pv (i+1),fun σ' H' p'=>⟨xs.length-(i+1),by omega,rfl,hlt,p'⟩,fun x H' y=>?_⟩
  obtain⟨e,y⟩:=y
  subst e
  exact hs i x σ _ (y xs q) p
 .have e:i=xs.length:=by omega
  subst e
  exact .inl ⟨⟨xs,q,ai _⟩,hd σ H p⟩
theorem jw' {lo:Int} {n:Nat} {g:TG} {tb:TS} {D:Ends} {σ:St} {H:Hp} (Pv:Nat->St->Hp->Prop) (h0:Pv 0 σ H)
  (hs:∀i σ H,i<n->Pv i σ H->g (.int (lo+i)) σ H fun σ2 H2=>tb { D with nx:=Pv (i+1),ct:=Pv (i+1),bk:=D.nx } σ2 H2) (hd:∀σ H,Pv n σ H->D.nx σ H):
  ∃W:Nat->Nat->St->Hp->Prop,(∃m,W 0 m σ H)/\∀i m σ H,W i m σ H->
   ((Itr lo n).stop i H/\D.nx σ H)\/((Itr lo n).go i H/\∃N:St->Hp->Prop,(∀σ' H',N σ' H'->∃m',m'<m/\W (i+1) m' σ' H')/\∀x H',(Itr lo n).yld i H x H'->g x σ H' fun σ2 H2=>tb { D with nx:=N,ct:=N,bk:=D.nx } σ2 H2):=by
 refine⟨fun i m σ H=>m=n-i/\i<=n/\Pv i σ H,⟨n,by simp,aE _,h0⟩,?_⟩
 rintro i m σ H ⟨rfl,hi,p⟩
 by_cases hlt:i<n
 .refine .inr ⟨hlt,Pv (i+1),fun σ' H' p'=>⟨n-(i+1),by omega,rfl,hlt,p'⟩,fun x H' y=>?_⟩
  obtain⟨e,y⟩:=y
  subst e y
  exact hs i σ _ hlt p
 .have e:i=n:=by omega
  subst e
  exact .inl ⟨ai _,hd σ H p⟩
abbrev R2:=V->V->Hp->VK->Prop
def OpR (X:Cx) (f:Value->Value->Sem Value) (r:R2):Prop:=
 ∀(pins:List (Addr×Obj)) (s:Shared) (σ:St) (H:Hp) (x y:V) (v u:Value) (Q:VK),Inv X pins σ H s->aG' x v->aG' y u->r x y H Q->
  wpAny (model X.prog X.w) X.A (f v u) (EP X pins σ Q) X.xe s
def UnR (X:Cx) (f:Value->Sem Value) (r:V->Hp->VK->Prop):Prop:=
 ∀(pins:List (Addr×Obj)) (s:Shared) (σ:St) (H:Hp) (x:V) (v:Value) (Q:VK),Inv X pins σ H s->aG' x v->r x H Q->
  wpAny (model X.prog X.w) X.A (f v) (EP X pins σ Q) X.xe s
def aX' (X:Cx) (f:Value) (r:List V->Hp->VK->Prop):Prop:=
 ∀(pins:List (Addr×Obj)) (s:Shared) (σ:St) (H:Hp) (xs:List V) (us:List Value) (Q:VK),Inv X pins σ H s->aC' xs us->r xs H Q->
  wpAny (model X.prog X.w) X.A (call f us) (EP X pins σ Q) X.xe s
def y3' (X:Cx) (r:V->Hp->(Bool->Hp->Prop)->Prop):Prop:=
 ∀(pins:List (Addr×Obj)) (s:Shared) (σ:St) (H:Hp) (x:V) (v:Value) (Q:Bool->Hp->Prop),Inv X pins σ H s->aG' x v->r x H Q->
  wpAny (model X.prog X.w) X.A (truthy v) (TP X pins σ Q) X.xe s
def tOp (r:R2) (ta tb:TE):TE:=fun σ H Q=>ta σ H fun x H1=>tb σ H1 fun y H2=>r x y H2 Q
def tUn (r:V->Hp->VK->Prop) (ta:TE):TE:=fun σ H Q=>ta σ H fun x H1=>r x H1 Q
def rI (C:Int->Int->Prop) (g:Int->Int->V):R2:=fun x y H Q=>∃i j,x=.int i/\y=.int j/\C i j/\Q (g i j) H
def rI0 (g:Int->Int->V):R2:=fun x y H Q=>∃i j,x=.int i/\y=.int j/\Q (g i j) H
def rU (g:Int->V):V->Hp->VK->Prop:=fun x H Q=>∃i,x=.int i/\Q (g i) H
section
variable {X:Cx} {a b c:Expr} {ta tb tc:TE} {pos:Pos}
theorem wv' (ha:PE X a ta) (hb:PE X b tb) {pins:List (Addr×Obj)} {s:Shared} {σ:St} {H:Hp} {R:V->V->Hp->Prop} (I:Inv X pins σ H s)
  (h:ta σ H fun x H1=>tb σ H1 fun y H2=>R x y H2) {Q:Value->Shared->Prop} {f:Value->Value->Sem Value}
  (hf:∀v u s2 x y H2,Inv X pins σ H2 s2->aG' x v->aG' y u->R x y H2->wpAny (model X.prog X.w) X.A (f v u) Q X.xe s2):
  wpAny (model X.prog X.w) X.A (eval a X.env) (fun v s₁=>wpAny (model X.prog X.w) X.A (eval b X.env) (fun u s₂=>wpAny (model X.prog X.w) X.A (f v u) Q X.xe s₂) X.xe s₁) X.xe s:=by
 refine thn (ha pins s σ H _ I h) fun v s1 ⟨x,H1,I1,r1,q1⟩=>?_
 refine thn (hb pins s1 σ H1 _ I1 q1) fun u s2 ⟨y,H2,I2,r2,q2⟩=>?_
 exact hf v u s2 x y H2 I2 r1 r2 q2
theorem ww' {op:Operator} {r:R2} (ho:OpR X (binaryOp op) r) (ha:PE X a ta) (hb:PE X b tb):PE X (.BinOp a op b pos) (tOp r ta tb):=by
 intro pins s σ H Q I h
 exact wpAny_BinOp (wv' ha hb I h fun v u s2 x y H2 I2 rx ry q=>ho pins s2 σ H2 x y v u Q I2 rx ry q)
theorem wx' {op:UnaryOp} {r:V->Hp->VK->Prop} (ho:UnR X (unaryOp op) r) (ha:PE X a ta):PE X (.UnaryOp op a pos) (tUn r ta):=by
 intro pins s σ H Q I h
 exact UnaryOp_ (thn (ha pins s σ H _ I h) fun v s1 ⟨x,H1,I1,r1,q1⟩=>ho pins s1 σ H1 x v Q I1 r1 q1)
theorem opI {f:Value->Value->Sem Value} {C:Int->Int->Prop} {g:Int->Int->Int}
  (rule:∀(i j:Int) (t u:Tok) (s:Shared) (Q:Value->Shared->Prop) (E:Value->Shared->Prop),C i j->Q (.int (g i j) s.toks) { s with toks:=s.toks+1 }->wpAny (model X.prog X.w) X.A (f (.int i t) (.int j u)) Q E s):
  OpR X f (rI C fun i j=>.int (g i j)):=by
 intro pins s σ H x y v u Q I rx ry h
 obtain⟨i,j,rfl,rfl,hc,q⟩:=h
 obtain⟨t,rfl⟩:=rx
 obtain⟨t',rfl⟩:=ry
 exact rule i j t t' s _ _ hc ⟨.int (g i j),H,I.tok _,⟨_,rfl⟩,q⟩
theorem wy' {f:Value->Value->Sem Value} {g:Int->Int->Int}
  (rule:∀(i j:Int) (t u:Tok) (s:Shared) (Q:Value->Shared->Prop) (E:Value->Shared->Prop),Q (.int (g i j) s.toks) { s with toks:=s.toks+1 }->wpAny (model X.prog X.w) X.A (f (.int i t) (.int j u)) Q E s):
  OpR X f (rI0 fun i j=>.int (g i j)):=by
 intro pins s σ H x y v u Q I rx ry h
 obtain⟨i,j,rfl,rfl,q⟩:=h
 obtain⟨t,rfl⟩:=rx
 obtain⟨t',rfl⟩:=ry
 exact rule i j t t' s _ _ ⟨.int (g i j),H,I.tok _,⟨_,rfl⟩,q⟩
theorem vT' {f:Value->Value->Sem Value} {g:Int->Int->Bool}
  (rule:∀(i j:Int) (t u:Tok) (s:Shared) (Q:Value->Shared->Prop) (E:Value->Shared->Prop),Q (.bool (g i j)) s->wpAny (model X.prog X.w) X.A (f (.int i t) (.int j u)) Q E s):
  OpR X f (rI0 fun i j=>.bl (g i j)):=by
 intro pins s σ H x y v u Q I rx ry h
 obtain⟨i,j,rfl,rfl,q⟩:=h
 obtain⟨t,rfl⟩:=rx
 obtain⟨t',rfl⟩:=ry
 exact rule i j t t' s _ _ ⟨.bl (g i j),H,I,rfl,q⟩
def y4' (i j:Int):Prop:=0<j/\j<1073741824
def wz' (i j:Int):Prop:=0<=j/\j<=1000000/\i.natAbs<2 ^ 64
def vU' (i j:Int):Prop:=(-(2 ^ 64)<i/\i<2 ^ 64)\/(-(2 ^ 64)<j/\j<2 ^ 64)
theorem vU'.ok {i j:Int} (h:vU' i j):IntMulOk i j:=by
 rcases h with⟨h1,h2⟩|⟨h1,h2⟩
 .exact .of_left (intBits_le_64 h1 h2)
 .exact .of_right (intBits_le_64 h1 h2)
theorem iH' (k:Nat):(0:Int)<=2 ^ k:=by
 rw[two_pow_cast]
 exact Int.natCast_nonneg _
theorem si':OpR X (binaryOp .Add) (rI0 fun i j=>.int (i+j)):=wy' fun _ _ _ _ _ _ _ q=>add_int q
theorem sj':OpR X (binaryOp .Sub) (rI0 fun i j=>.int (i-j)):=wy' fun _ _ _ _ _ _ _ q=>sub_int q
theorem pM':OpR X (binaryOp .FloorDiv) (rI y4' fun i j=>.int (i / j)):=opI fun i j _ _ _ _ _ hc q=>by
 have h1:(0:Int)<j:=hc.1
 have h2:j<1073741824:=hc.2
 exact floordiv_int (by omega) (by rw[Int.fdiv_eq_ediv_of_nonneg i (by omega)];exact q) (.inl (PyProof.noPylong_small (by omega)))
theorem sk':OpR X (binaryOp .Mod) (rI (fun _ j=>0<j) fun i j=>.int (i % j)):=opI fun i j _ _ _ _ _ hc q=>by
 have h1:(0:Int)<j:=hc
 exact mod_int' (by omega) (by rw[Int.fmod_eq_emod_of_nonneg i (by omega)];exact q)
theorem sm':OpR X (binaryOp .Pow) (rI wz' fun i j=>.int (i ^ j.toNat)):=opI fun _ _ _ _ _ _ _ hc q=>pow_int_small hc.1 hc.2.1 hc.2.2 q
theorem sn':OpR X (binaryOp .RShift) (rI (fun _ j=>0<=j) fun i j=>.int (i / 2 ^ j.toNat)):=opI fun i j _ _ _ _ _ hc q=>
 rshift_int hc (by rw[Int.fdiv_eq_ediv_of_nonneg i (iH' _)];exact q)
theorem so':OpR X (binaryOp .BitAnd) (rI0 fun i j=>.int (Builtin.bitAnd i j)):=wy' fun _ _ _ _ _ _ _ q=>and_int q
theorem unI {f:Value->Sem Value} {g:Int->Int}
  (rule:∀(i:Int) (t:Tok) (s:Shared) (Q:Value->Shared->Prop) (E:Value->Shared->Prop),Q (.int (g i) s.toks) { s with toks:=s.toks+1 }->wpAny (model X.prog X.w) X.A (f (.int i t)) Q E s):
  UnR X f (rU fun i=>.int (g i)):=by
 intro pins s σ H x v Q I rx h
 obtain⟨i,rfl,q⟩:=h
 obtain⟨t,rfl⟩:=rx
 exact rule i t s _ _ ⟨.int (g i),H,I.tok _,⟨_,rfl⟩,q⟩
theorem sq':UnR X (unaryOp .USub) (rU fun i=>.int (-i)):=unI fun _ _ _ _ _ q=>neg_int q
end
def vV':V->V->Bool
 | .non,.non=>true | .non,.int _=>true | .int _,.non=>true | .non,.bl _=>true | .bl _,.non=>true | .non,.str _=>true | .str _,.non=>true
 | .int _,.int _=>true | .bl _,.bl _=>true | .str _,.str _=>true | .byt _,.byt _=>true
 | .int _,.str _=>true | .str _,.int _=>true | .bl _,.str _=>true | .str _,.bl _=>true
 |_,_=>false
def rEq:R2:=fun x y H Q=>vV' x y=true/\Q (.bl (decide (x=y))) H
def rNe:R2:=fun x y H Q=>vV' x y=true/\Q (.bl (!decide (x=y))) H
theorem gV' {i j:Int}:decide (V.int i=V.int j)=(i == j):=by
 rw[ci]
 simp
theorem oA' {i j:Bool}:decide (V.bl i=V.bl j)=(i == j):=by
 rw[ci]
 simp
theorem jx' {i j:Str}:decide (V.str i=V.str j)=(i == j):=by
 rw[ci]
 simp
theorem jy' {i j:Array UInt8}:decide (V.byt i=V.byt j)=(i.toList == j.toList):=by
 rw[ci]
 cases i
 cases j
 simp
section
variable {X:Cx} {a b c:Expr} {ta tb tc:TE} {pos:Pos}
theorem aB' {pins:List (Addr×Obj)} {σ:St} {H:Hp} {s:Shared} {Q:VK} {k k':Bool} (I:Inv X pins σ H s) (q:Q (.bl k) H) (e:k=k'):EP X pins σ Q (.bool k') s:=by
 subst e
 exact⟨.bl k,H,I,rfl,q⟩
theorem wA':OpR X (compareOp .Eq) rEq:=by
 intro pins s σ H x y v u Q I rx ry h
 obtain⟨hs,q⟩:=h
 cases x with
 |non=>
  cases rx
  cases y with
  |non=>cases ry;exact PySem.EqNone.eq_none_none (aB' I q (by simp))
  |bl j=>cases ry;exact PySem.EqNone.eq_none_bool (aB' I q (by simp))
  |int j=>obtain⟨t',rfl⟩:=ry;exact PySem.EqNone.eq_none_int (aB' I q (by simp))
  |str j=>obtain⟨t',rfl⟩:=ry;exact PySem.EqNone.eq_none_str (aB' I q (by simp))
  |_=>exact absurd (show false=true from hs) aq
 |bl i=>
  cases rx
  cases y with
  |non=>cases ry;exact PySem.EqNone.eq_bool_none (aB' I q (by simp))
  |bl j=>cases ry;exact eq_bool (aB' I q oA')
  |str j=>obtain⟨t',rfl⟩:=ry;exact PySem.EqMixed.eq_bool_str (aB' I q (by simp))
  |_=>exact absurd (show false=true from hs) aq
 |int i=>
  obtain⟨t,rfl⟩:=rx
  cases y with
  |non=>cases ry;exact PySem.EqNone.eq_int_none (aB' I q (by simp))
  |int j=>obtain⟨t',rfl⟩:=ry;exact eq_int (aB' I q gV')
  |str j=>obtain⟨t',rfl⟩:=ry;exact PySem.EqMixed.eq_int_str (aB' I q (by simp))
  |_=>exact absurd (show false=true from hs) aq
 |str i=>
  obtain⟨t,rfl⟩:=rx
  cases y with
  |non=>cases ry;exact PySem.EqNone.eq_str_none (aB' I q (by simp))
  |bl j=>cases ry;exact PySem.EqMixed.eq_str_bool (aB' I q (by simp))
  |int j=>obtain⟨t',rfl⟩:=ry;exact PySem.EqMixed.eq_str_int (aB' I q (by simp))
  |str j=>obtain⟨t',rfl⟩:=ry;exact eq_str (aB' I q jx')
  |_=>exact absurd (show false=true from hs) aq
 |byt i=>
  obtain⟨t,rfl⟩:=rx
  cases y with
  |byt j=>obtain⟨t',rfl⟩:=ry;exact W.eq_bytes (aB' I q jy')
  |_=>exact absurd (show false=true from hs) aq
 |_=>cases y<;>exact absurd (show false=true from hs) aq
theorem wB':OpR X (compareOp .NotEq) rNe:=by
 intro pins s σ H x y v u Q I rx ry h
 obtain⟨hs,q⟩:=h
 cases x with
 |non=>
  cases rx
  cases y with
  |non=>cases ry;exact PySem.EqNone.ne_none_none (aB' I q (by simp))
  |bl j=>cases ry;exact PySem.EqNone.ne_none_bool (aB' I q (by simp))
  |int j=>obtain⟨t',rfl⟩:=ry;exact PySem.EqNone.ne_none_int (aB' I q (by simp))
  |str j=>obtain⟨t',rfl⟩:=ry;exact PySem.EqNone.ne_none_str (aB' I q (by simp))
  |_=>exact absurd (show false=true from hs) aq
 |bl i=>
  cases rx
  cases y with
  |non=>cases ry;exact PySem.EqNone.ne_bool_none (aB' I q (by simp))
  |bl j=>cases ry;exact ne_bool (aB' I q (congrArg not oA'))
  |str j=>obtain⟨t',rfl⟩:=ry;exact PySem.EqMixed.ne_bool_str (aB' I q (by simp))
  |_=>exact absurd (show false=true from hs) aq
 |int i=>
  obtain⟨t,rfl⟩:=rx
  cases y with
  |non=>cases ry;exact PySem.EqNone.ne_int_none (aB' I q (by simp))
  |int j=>obtain⟨t',rfl⟩:=ry;exact ne_int (aB' I q (congrArg not gV'))
  |str j=>obtain⟨t',rfl⟩:=ry;exact PySem.EqMixed.ne_int_str (aB' I q (by simp))
  |_=>exact absurd (show false=true from hs) aq
 |str i=>
  obtain⟨t,rfl⟩:=rx
  cases y with
  |non=>cases ry;exact PySem.EqNone.ne_str_none (aB' I q (by simp))
  |bl j=>cases ry;exact PySem.EqMixed.ne_str_bool (aB' I q (by simp))
  |int j=>obtain⟨t',rfl⟩:=ry;exact PySem.EqMixed.ne_str_int (aB' I q (by simp))
  |str j=>obtain⟨t',rfl⟩:=ry;exact ne_str (aB' I q (congrArg not jx'))
  |_=>exact absurd (show false=true from hs) aq
 |byt i=>
  obtain⟨t,rfl⟩:=rx
  cases y with
  |byt j=>obtain⟨t',rfl⟩:=ry;exact W.ne_bytes (aB' I q (congrArg not jy'))
  |_=>exact absurd (show false=true from hs) aq
 |_=>cases y<;>exact absurd (show false=true from hs) aq
theorem wC':OpR X (compareOp .Lt) (rI0 fun i j=>.bl (decide (i<j))):=vT' fun _ _ _ _ _ _ _ q=>lt_int q
theorem wD':OpR X (compareOp .LtE) (rI0 fun i j=>.bl (decide (i<=j))):=vT' fun _ _ _ _ _ _ _ q=>le_int q
theorem wE':OpR X (compareOp .Gt) (rI0 fun i j=>.bl (decide (j<i))):=vT' fun _ _ _ _ _ _ _ q=>gt_int q
theorem wF':OpR X (compareOp .GtE) (rI0 fun i j=>.bl (decide (j<=i))):=vT' fun _ _ _ _ _ _ _ q=>ge_int q
theorem sr':OpR X (compareOp .Is) (fun x y H Q=>y=.non/\Q (.bl (decide (x=.non))) H):=by
 intro pins s σ H x y v u Q I rx ry h
 obtain⟨rfl,q⟩:=h
 cases ry
 refine is_none_gen (aB' I q ?_)
 cases x<;>first
  |(cases rx;rfl)
  |(obtain⟨t,rfl⟩:=rx;rfl)
theorem pN':OpR X (compareOp .IsNot) (fun x y H Q=>y=.non/\Q (.bl (!decide (x=.non))) H):=by
 intro pins s σ H x y v u Q I rx ry h
 obtain⟨rfl,q⟩:=h
 cases ry
 refine isnot_none_gen (aB' I q ?_)
 cases x<;>first
  |(cases rx;rfl)
  |(obtain⟨t,rfl⟩:=rx;rfl)
theorem OpR.or {f:Value->Value->Sem Value} {r r':R2} (h:OpR X f r) (h':OpR X f r'):OpR X f (fun x y H Q=>r x y H Q\/r' x y H Q):=by
 intro pins s σ H x y v u Q I rx ry q
 rcases q with q|q
 .exact h pins s σ H x y v u Q I rx ry q
 .exact h' pins s σ H x y v u Q I rx ry q
theorem pO' {op:CmpOp} {r:R2} (ho:OpR X (compareOp op) r) (ha:PE X a ta) (hb:PE X b tb) (hm:behindInMarks op b=false):PE X (.Compare a [op] [b] pos) (tOp r ta tb):=by
 intro pins s σ H Q I h
 exact wpAny_Compare1 (wv' ha hb I h fun v u s2 x y H2 I2 rx ry q=>ho pins s2 σ H2 x y v u Q I2 rx ry q) hm
def eN' (t:TE):TT:=fun σ H Q=>t σ H fun x H'=>∃k,x=.bl k/\Q k H'
theorem pP' {op:CmpOp} {r:R2} (ho:OpR X (compareOp op) r) (ha:PE X a ta) (hb:PE X b tb) (hm:behindInMarks op b=false):PT X (.Compare a [op] [b] pos) (eN' (tOp r ta tb)):=by
 intro pins s σ H Q I h
 refine wpAny_isTrue_Compare1 (thn (ha pins s σ H _ I h) fun v s1 ⟨x,H1,I1,r1,q1⟩=>thn (hb pins s1 σ H1 _ I1 q1) fun u s2 ⟨y,H2,I2,r2,q2⟩=>
  thn (ho pins s2 σ H2 x y v u _ I2 r1 r2 q2) fun c s3 ⟨z,H3,I3,r3,k,e,q3⟩=>?_) hm
 subst e
 cases r3
 exact aY ⟨H3,I3,q3⟩
def df' (r r':R2) (ta tb tc:TE):TE:=fun σ H Q=>ta σ H fun x H1=>tb σ H1 fun y H2=>r x y H2 fun z H3=>∃k,z=.bl k/\
 (if k=true then tc σ H3 fun w' H4=>r' y w' H4 Q else Q (.bl false) H3)
theorem mz' {op op':CmpOp} {r r':R2} (ho:OpR X (compareOp op) r) (ho':OpR X (compareOp op') r') (ha:PE X a ta) (hb:PE X b tb) (hc:PE X c tc)
  (hm:lastMarks [op,op'] [b,c]=false:=by with_unfolding_all rfl):PE X (.Compare a [op,op'] [b,c] pos) (df' r r' ta tb tc):=by
 intro pins s σ H Q I h
 refine Compare_chain (thn (ha pins s σ H _ I h) fun v s1 ⟨x,H1,I1,r1,q1⟩=>chain_link (thn (hb pins s1 σ H1 _ I1 q1) fun u s2 ⟨y,H2,I2,r2,q2⟩=>
  thn (ho pins s2 σ H2 x y v u _ I2 r1 r2 q2) fun d s3 ⟨z,H3,I3,r3,k,e,q3⟩=>?_)) hm
 subst e
 cases r3
 refine aY ?_
 cases k with
 |false=>exact ite_ff ⟨.bl false,H3,I3,rfl,q3⟩
 |true=>exact ite_tt (chain_last (thn (hc pins s3 σ H3 _ I3 q3) fun w' s4 ⟨z',H4,I4,r4,q4⟩=>ho' pins s4 σ H4 y z' u w' Q I4 r2 r4 q4))
theorem mA' {op op':CmpOp} {r r':R2} (ho:OpR X (compareOp op) r) (ho':OpR X (compareOp op') r') (ha:PE X a ta) (hb:PE X b tb) (hc:PE X c tc)
  (hm:lastMarks [op,op'] [b,c]=false:=by with_unfolding_all rfl):PT X (.Compare a [op,op'] [b,c] pos) (eN' (df' r r' ta tb tc)):=by
 intro pins s σ H Q I h
 refine isTrue_chain (thn (ha pins s σ H _ I h) fun v s1 ⟨x,H1,I1,r1,q1⟩=>test_link (thn (hb pins s1 σ H1 _ I1 q1) fun u s2 ⟨y,H2,I2,r2,q2⟩=>
  thn (ho pins s2 σ H2 x y v u _ I2 r1 r2 q2) fun d s3 ⟨z,H3,I3,r3,k,e,q3⟩=>?_)) hm
 subst e
 cases r3
 refine aY ?_
 cases k with
 |false=>
  obtain⟨k',e',q'⟩:=q3
  cases e'
  exact ite_ff ⟨H3,I3,q'⟩
 |true=>
  refine ite_tt (test_last (thn (hc pins s3 σ H3 _ I3 q3) fun w' s4 ⟨z',H4,I4,r4,q4⟩=>thn (ho' pins s4 σ H4 y z' u w' _ I4 r2 r4 q4) fun d' s5 ⟨z2,H5,I5,r5,k2,e2,q5⟩=>?_))
  subst e2
  cases r5
  exact aY ⟨H5,I5,q5⟩
def ss' (K:W.Frag) (x:V) (H:Hp) (k:Bool):Prop:=
 match x with
 | .non=>k=false
 | .bl b=>k=b
 | .int i=>k=(i != 0)
 | .str y=>y.length<=sizeLine/\k=((y.length:Int) != 0)
 | .byt y=>y.size<=sizeLine/\k=((y.size:Int) != 0)
 | .ref p=>(∃xs,SqL K H p xs/\k=!xs.isEmpty)\/(∃xs,SqT K H p xs/\k=!xs.isEmpty)\/∃kvs,H p=some (.dK kvs)/\k=!kvs.isEmpty
 |_=>False
theorem iI' {κ:Type} {kvs:List (κ×V)} {vs:List (κ×Value)} (r:KV kvs vs):(!vs.isEmpty)=!kvs.isEmpty:=by
 cases r<;>rfl
theorem eY' {xs:List V} {its:List Value} (r:aC' xs its):(!its.toArray.isEmpty)=!xs.isEmpty:=by
 cases r<;>simp
theorem el':(sizeLine:Nat)<2 ^ 63:=by rw[sizeLine_eq];decide
theorem su':y3' X (fun x H Q=>∃k,ss' X.K x H k/\Q k H):=by
 intro pins s σ H x v Q I rx h
 obtain⟨k,e,q⟩:=h
 have hl:=el'
 have hs:sizeLine=16777216:=sizeLine_eq
 cases x with
 |non=>
  cases rx
  have e':k=false:=e
  subst e'
  exact truthy_none ⟨H,I,q⟩
 |bl b=>
  cases rx
  have e':k=b:=e
  subst e'
  exact aY ⟨H,I,q⟩
 |int i=>
  obtain⟨t,rfl⟩:=rx
  have e':k=(i != 0):=e
  subst e'
  exact PySem.P.truthy_int ⟨H,I,q⟩
 |str y=>
  obtain⟨t,rfl⟩:=rx
  obtain⟨hy,e'⟩:y.length<=sizeLine/\k=((y.length:Int) != 0):=e
  subst e'
  exact PySem.P.truthy_str (by omega) ⟨H,I.tok _,q⟩
 |byt y=>
  obtain⟨t,rfl⟩:=rx
  obtain⟨hy,e'⟩:y.size<=sizeLine/\k=((y.size:Int) != 0):=e
  subst e'
  exact W.truthy_bytes (by omega) ⟨H,I.tok _,q⟩
 |ref p=>
  cases rx
  have e':(∃xs,SqL X.K H p xs/\k=!xs.isEmpty)\/(∃xs,SqT X.K H p xs/\k=!xs.isEmpty)\/∃kvs,H p=some (.dK kvs)/\k=!kvs.isEmpty:=e
  rcases e' with⟨xs,hx,e'⟩|⟨xs,hx,e'⟩|⟨kvs,hx,e'⟩
  .subst e'
   obtain⟨its,r,pl,hz⟩:=I.list hx
   have hlen:=r.length
   exact wpAny_truthy_list pl.isList (by simp only[ag];omega) ⟨H,I.tok _,by rw[eY' r];exact q⟩
  .subst e'
   obtain⟨its,r,pl,hz⟩:=I.tuple hx
   have hlen:=r.length
   exact truthy_tuple pl (by simp only[ag];omega) ⟨H,I.tok _,by rw[eY' r];exact q⟩
  .subst e'
   obtain⟨hz,hS,vs,r,m⟩:kvs.length<=sizeLine/\(p == sysModules)=false/\∃vs,KV kvs vs/\s.heap.DictOf (av' X.prog X.w) p vs:=I.hok p _ hx
   have hlen:kvs.length=vs.length:=Paired.length r
   exact wpAny_truthy_dict hS m (by omega) ⟨H,I.tok _,by rw[iI' r];exact q⟩
 |_=>exact(show False from e).elim
theorem mB' (ha:PE X a ta) (he:∀whole,isTrue a X.env whole=(do let v <- whole;standAt a.pos;holding [v] (truthy v))):
  PT X a (fun σ H Q=>ta σ H fun x H'=>∃k,ss' X.K x H' k/\Q k H'):=by
 intro pins s σ H Q I h
 exact isTrue_plain (thn (ha pins s σ H _ I h) fun v s1 ⟨x,H1,I1,r1,q1⟩=>su' pins s1 σ H1 x v Q I1 r1 q1) (he _)
theorem iJ':OpR X (binaryOp .Add) (fun x y H Q=>∃i j,x=.str i/\y=.str j/\i.length+j.length<=sizeLine/\Q (.str (i++j)) H):=by
 intro pins s σ H x y v u Q I rx ry h
 obtain⟨i,j,rfl,rfl,hz,q⟩:=h
 obtain⟨t,rfl⟩:=rx
 obtain⟨t',rfl⟩:=ry
 exact add_str (fun t' tk=>⟨.str (i++j),H,I.tok _,⟨_,rfl⟩,q⟩) hz
theorem dR' {x:V} {us:List Value} (r:aC' [x] us):∃u,us=[u]/\aG' x u:=by
 cases r with
 |cons r1 r2=>cases r2;exact⟨_,rfl,r1⟩
theorem jz' {x y:V} {us:List Value} (r:aC' [x,y] us):∃u w',us=[u,w']/\aG' x u/\aG' y w':=by
 cases r with
 |cons r1 r2=>
  cases r2 with
  |cons r3 r4=>cases r4;exact⟨_,_,rfl,r1,r3⟩
theorem mC':aX' X (.builtin "abs") (fun xs H Q=>∃i,xs=[.int i]/\Q (.int (if i<0 then -i else i)) H):=by
 intro pins s σ H xs us Q I r h
 obtain⟨i,rfl,q⟩:=h
 obtain⟨u,rfl,t,rfl⟩:=dR' r
 exact call_abs_int fun u tk=>⟨.int (if i<0 then -i else i),H,I.tok _,⟨_,rfl⟩,q⟩
theorem jA' (hc:X.calm=true):aX' X (.builtin "max") (fun xs H Q=>∃i j,xs=[.int i,.int j]/\Q (.int (if j > i then j else i)) H):=by
 intro pins s σ H xs us Q I r h
 obtain⟨i,j,rfl,q⟩:=h
 obtain⟨u,w',rfl,⟨t,rfl⟩,⟨t',rfl⟩⟩:=jz' r
 refine max_two_ints (I.ok.hd hc) fun h' tk k=>⟨_,H,I.kept k,?_,q⟩
 by_cases hj:j > i
 .rw[if_pos hj,if_pos hj];exact⟨_,rfl⟩
 .rw[if_neg hj,if_neg hj];exact⟨_,rfl⟩
theorem jB' (hc:X.calm=true):aX' X (.builtin "min") (fun xs H Q=>∃i j,xs=[.int i,.int j]/\Q (.int (if j<i then j else i)) H):=by
 intro pins s σ H xs us Q I r h
 obtain⟨i,j,rfl,q⟩:=h
 obtain⟨u,w',rfl,⟨t,rfl⟩,⟨t',rfl⟩⟩:=jz' r
 refine min_two_ints (I.ok.hd hc) fun h' tk k=>⟨_,H,I.kept k,?_,q⟩
 by_cases hj:j<i
 .rw[if_pos hj,if_pos hj];exact⟨_,rfl⟩
 .rw[if_neg hj,if_neg hj];exact⟨_,rfl⟩
theorem jC':aX' X (.type "int") (fun xs H Q=>(∃i,xs=[.int i]/\Q (.int i) H)\/∃k,xs=[.bl k]/\Q (.int (if k then 1 else 0)) H):=by
 intro pins s σ H xs us Q I r h
 rcases h with⟨i,rfl,q⟩|⟨k,rfl,q⟩
 .obtain⟨u,rfl,t,rfl⟩:=dR' r
  exact call_int_int ⟨.int i,H,I,⟨_,rfl⟩,q⟩
 .obtain⟨u,rfl,r1⟩:=dR' r
  cases r1
  exact call_int_bool ⟨.int (if k then 1 else 0),H,I.tok _,⟨_,rfl⟩,q⟩
def yo' (K:W.Frag) (x:V) (H:Hp) (n:Nat):Prop:=
 match x with
 | .str y=>y.length<=sizeLine/\n=y.length
 | .byt y=>y.size<=sizeLine/\n=y.size
 | .ref p=>(∃xs,SqL K H p xs/\n=xs.length)\/∃xs,SqT K H p xs/\n=xs.length
 |_=>False
theorem mD':aX' X (.builtin "len") (fun xs H Q=>∃x n,xs=[x]/\yo' X.K x H n/\Q (.int n) H):=by
 intro pins s σ H xs us Q I r h
 obtain⟨x,n,rfl,e,q⟩:=h
 obtain⟨u,rfl,rx⟩:=dR' r
 have hl:=el'
 have hs:sizeLine=16777216:=sizeLine_eq
 cases x with
 |str y=>
  obtain⟨t,rfl⟩:=rx
  obtain⟨hy,e'⟩:y.length<=sizeLine/\n=y.length:=e
  subst e'
  exact len_str (by omega) ⟨.int _,H,I.tok _,⟨_,rfl⟩,q⟩
 |byt y=>
  obtain⟨t,rfl⟩:=rx
  obtain⟨hy,e'⟩:y.size<=sizeLine/\n=y.size:=e
  subst e'
  exact W.len_bytes (by omega) ⟨.int _,H,I.tok _,⟨_,rfl⟩,q⟩
 |ref p=>
  cases rx
  have e':(∃xs,SqL X.K H p xs/\n=xs.length)\/∃xs,SqT X.K H p xs/\n=xs.length:=e
  rcases e' with⟨xs,hx,e'⟩|⟨xs,hx,e'⟩
  .subst e'
   obtain⟨its,r',pl,hz⟩:=I.list hx
   have hlen:=r'.length
   exact Calls.call_len_list pl.isList (by simp only[ag];omega) ⟨.int xs.length,H,I.tok _,⟨_,by simp only[ag];rw[hlen]⟩,q⟩
  .subst e'
   obtain⟨its,r',pl,hz⟩:=I.tuple hx
   have hlen:=r'.length
   exact len_tuple pl (by simp only[ag];omega) ⟨.int xs.length,H,I.tok _,⟨_,by simp only[ag];rw[hlen]⟩,q⟩
 |_=>exact(show False from e).elim
end
structure ObjM (h:Heap) (x dx C:Addr) (mA:Str->Option Value):Prop where
 obj:h.get? x=some (W.instObj C dx)
 ns:h.Ns1 dx mA
 ne:dx≠x
set_option tactic.hygienic true in
theorem jD' {h:Heap} {dx:Addr} {mA:Str->Option Value} (n:h.Ns1 dx mA):∃od,h.get? dx=some od/\∀name,W.lookIn name od=some (mA name):=by
 obtain⟨o,es,ep,ho,hd,hk,_,hm⟩:=n
 refine⟨o,ho,fun name=>?_⟩
 have e:=hm name
 unfold nsFind findBy at e
 rw[<- Array.find?_toList]at e
 unfold W.lookIn
 rw[hd]
 dsimp only
 split
 .rename_i y q
  rw[q]at e
  exact congrArg some e
 .rename_i q
  rw[q]at e
  have a:es.toList.any (·.refKey)=false:=by
   rw[List.any_eq_false]
   intro y hy
   obtain⟨z,t,hkey⟩:=hk y (cu.mp hy)
   simp[DictEntry.refKey,hkey]
  have a':¬es.toList.any (·.refKey)=true:=by rw[a];exact aq
  rw[if_neg a']
  exact congrArg some e
theorem ObjM.look {h:Heap} {x dx C:Addr} {mA:Str->Option Value} (I:ObjM h x dx C mA):∃od,W.InstAt h x (W.instObj C dx) C (some od)/\∀name,W.lookIn name od=some (mA name):=
 let⟨od,ho,hl⟩:=jD' I.ns
 ⟨od,⟨I.obj,rfl,rfl,ho⟩,hl⟩
section
variable {prog:Program} {w:World} {A:Around} {E:Value->Shared->Prop} {s:Shared} {K:W.Frag} {x dx C f:Addr} {mA:Str->Option Value} {name:Str} {v:Value}
end
section
variable {P:Program} {w:World} {H H':Hp} {h h':Heap} {a C dx:Addr} {fs fs':List (Str×V)}
theorem pQ' (hok:HOk P w H h) (e:H a=some (.ins C dx fs)):∃mA,ObjM h a dx C mA/\(∀f,mp' (fs.lookup f) (mA f))/\PySem.Within mA (fs.map (·.1))/\fs.length<=1000/\H dx=some (.own a):=by
 obtain⟨d,z,ne,ob,mA,n,r,q⟩:=(show aD' P w H h a (.ins C dx fs) from hok a _ e)
 exact⟨mA,⟨ob,n,ne⟩,r,q,z,d⟩
end
structure Cls (K:W.Frag) (C:Addr):Prop where
 pg:W.plainGet K C Str.empty=true
 hd:W.hasDictIn K C=true
 po:W.plainOver K C=true
 sa:W.findIn K (.ref C) "__setattr__"=some (some (.builtin "object.__setattr__"))
theorem Cls.get {K:W.Frag} {C:Addr} (c:Cls K C) (f:Str):W.plainGet K C f=true:=c.pg
structure Con (K:W.Frag) (C:Addr) (f:Str) (v:V) (u:Value):Prop where
 at_:W.findIn K (.ref C) f=some (some u)
 rel:aG' v u
 get:W.specialIn K u "__get__"=some none
 cp:W.copiedNames.contains f=false
structure Meth (K:W.Frag) (C:Addr) (m:Str) (f:Addr):Prop where
 at_:W.findIn K (.ref C) m=some (some (.ref f))
 fn:W.isFn K (.ref f)=true
 kp:W.keepIn K (.ref f)=true
section
variable {X:Cx} {pins:List (Addr×Obj)} {σ:St} {H:Hp} {s:Shared} {a C dx:Addr} {fs:List (Str×V)} {f:Str} {v:V} {A:Around} {E:Value->Shared->Prop}
end
section
variable {X:Cx} {o e value:Expr} {f:Str} {pos pos' tpos:Pos} {ta tv:TE}
end
section
variable {X:Cx} {pins:List (Addr×Obj)} {σ:St} {H:Hp} {s:Shared} {A:Around} {E:Value->Shared->Prop} {Q:Value->Shared->Prop} {c:Value} {b:Bool}
inductive TyOf (K:W.Frag) (H:Hp):V->Value->Prop where
 |non:TyOf K H .non (.type "NoneType")
 |bl (x:Bool):TyOf K H (.bl x) (.type "bool")
 |int (i:Int):TyOf K H (.int i) (.type "int")
 |str (x:Str):TyOf K H (.str x) (.type "str")
 |flt (x:UInt64):TyOf K H (.flt x) (.type "float")
 |lst {a:Addr} {xs:List V} (e:H a=some (.lst xs)):TyOf K H (.ref a) (.type "list")
 |frz {a:Addr} {o:Obj} {xs:List V} (e:H a=some (.frz o (.lst xs))):TyOf K H (.ref a) (.type "list")
 |tup {a:Addr} {xs:List V} (e:H a=some (.tup xs)):TyOf K H (.ref a) (.type "tuple")
 |dK {a:Addr} {kvs:List (Key×V)} (e:H a=some (.dK kvs)):TyOf K H (.ref a) (.type "dict")
 |dT {a:Addr} {kvs:List (List Key×V)} (e:H a=some (.dT kvs)):TyOf K H (.ref a) (.type "dict")
 |ins {a C dx:Addr} {fs:List (Str×V)} (e:H a=some (.ins C dx fs)) (cl:Cls K C) (ha:W.findIn K (.ref C) "__class__"=some (some (.builtin "object.__class__")))
   (hn:W.specialIn K (.builtin "object.__class__") "__get__"=some (some (.builtin "getset_descriptor.__get__"))) (htk:W.takesIn K (.builtin "object.__class__")=some true)
   (hm:W.mroIn K C (.type "object")=some true):TyOf K H (.ref a) (.ref C)
theorem jE' {x:V} {u t:Value} (I:Inv X pins σ H s) (rx:aG' x u) (ty:TyOf X.K H x t) (e:W.kitOne X.K t c=some b) (h:∀tk,Q (.bool b) { s with toks:=tk }):
  wpAny (model X.prog X.w) A (call (.builtin "isinstance") [u,c]) Q E s:=by
 cases ty with
 |non=>cases(show u=Value.none from rx);exact W.kia_one W.kitx_none I.kIn True.intro e (fun z=>nomatch z) h
 |bl y=>cases(show u=Value.bool y from rx);exact W.kia_one W.kitx_bool I.kIn True.intro e (fun z=>nomatch z) h
 |int i=>obtain⟨t,q⟩:=(show ∃t,u=Value.int i t from rx);cases q;exact W.kia_one W.kitx_int I.kIn True.intro e (fun z=>nomatch z) h
 |str y=>obtain⟨t,q⟩:=(show ∃t,u=Value.str y t from rx);cases q;exact W.kia_one W.kitx_str I.kIn True.intro e (fun z=>nomatch z) h
 |flt y=>obtain⟨t,q⟩:=(show ∃t,u=Value.float y t from rx);cases q;exact W.kia_one W.kitx_float I.kIn True.intro e (fun z=>nomatch z) h
 | @lst a xs ea=>
  cases(show u=Value.ref a from rx)
  obtain⟨_,_,n,_,h1⟩:=(show aD' X.prog X.w H s.heap a (.lst xs) from I.hok a _ ea)
  exact W.kia_one W.kitx_list I.kIn ⟨_,h1,rfl⟩ e (fun z=>nomatch z) h
 | @frz a ob xs ea=>
  cases(show u=Value.ref a from rx)
  obtain⟨_,_,_,n,_,h1⟩:=(show aD' X.prog X.w H s.heap a (.frz ob (.lst xs)) from I.hok a _ ea)
  exact W.kia_one W.kitx_list I.kIn ⟨_,h1,rfl⟩ e (fun z=>nomatch z) h
 | @tup a xs ea=>
  cases(show u=Value.ref a from rx)
  obtain⟨_,_,_,p⟩:=(show aD' X.prog X.w H s.heap a (.tup xs) from I.hok a _ ea)
  obtain⟨o,h1,h2,_⟩:=p
  exact W.kia_one W.kitx_tuple I.kIn ⟨o,h1,h2⟩ e (fun z=>nomatch z) h
 | @dK a kvs ea=>
  cases(show u=Value.ref a from rx)
  obtain⟨_,_,vs,_,p⟩:=(show aD' X.prog X.w H s.heap a (.dK kvs) from I.hok a _ ea)
  obtain⟨o,es,ep,h1,h2,_⟩:=p
  exact W.kia_one W.kitx_dict I.kIn ⟨o,h1,h2.1⟩ e (fun z=>nomatch z) h
 | @dT a kvs ea=>
  cases(show u=Value.ref a from rx)
  obtain⟨_,_,xs,_,o,es,ep,h1,h2,_⟩:=(show aD' X.prog X.w H s.heap a (.dT kvs) from I.hok a _ ea)
  exact W.kia_one W.kitx_dict I.kIn ⟨o,h1,h2.1⟩ e (fun z=>nomatch z) h
 | @ins a C dx fs ea cl ha hn htk hm=>
  cases(show u=Value.ref a from rx)
  obtain⟨mA,O,_⟩:=pQ' I.hok ea
  obtain⟨od,J,_⟩:=O.look
  exact W.kia_one (W.kitx_own (cl.get _) cl.hd ha hn htk hm) I.kIn J e (fun z=>nomatch z) h
end
structure Room (k:Nat) (A:Around):Prop where
 hd:A.handled=none
 dp:A.depth+3*k+5<recursionLimit
 un:A.units+16*k+200<cLine
 gd:A.guards=some []
theorem Room.mono {j k:Nat} {A:Around} (r:Room k A) (h:j<=k):Room j A:=⟨r.hd,by have:=r.dp;omega,by have:=r.un;omega,r.gd⟩
theorem Room.deeper {k:Nat} {A:Around} (r:Room (k+1) A) (env:Env):Room k (A.deeper env):=
 ⟨r.hd,by have:=r.dp;show A.depth+1+3*k+5<_;omega,by have:=r.un;show A.units+3+16*k+200<_;omega,r.gd⟩
theorem Room.depth {k:Nat} {A:Around} (r:Room k A):A.depth<recursionLimit:=by have:=r.dp;omega
theorem Room.units {k:Nat} {A:Around} (r:Room k A):A.units+64<cLine:=by have:=r.un;omega
def mn':TA:=fun _ H Q=>Q [] H
def d8' (ta:TE) (tr:TA):TA:=fun σ H Q=>ta σ H fun x H1=>tr σ H1 fun xs H2=>Q (x :: xs) H2
section
variable {X:Cx} {e:Expr} {es:List Expr} {te:TE} {t:TA} {pos:Pos}
theorem h1':PA X [] mn':=fun _ _ _ _ H Q I h=>Calls.spliced_nil ⟨[],H,I,.nil,h⟩
theorem em' (ha:PE X e te) (hr:PA X es t) (hs:starEach (e :: es) X.env=(false,eval e X.env) :: starEach es X.env:=by rfl):PA X (e :: es) (d8' te t):=by
 intro pos pins s σ H Q I h
 rw[hs]
 show wpAny _ _ (spliced ((false,eval e X.env) :: backTo pos (starEach es X.env))) _ _ s
 refine Calls.spliced_cons (thn (ha pins s σ H _ I h) fun u s1 ⟨x,H1,I1,r1,q1⟩=>?_)
 exact thn (hr pos pins s1 σ H1 _ I1 q1) fun us s2 ⟨xs,H2,I2,r2,q2⟩=>⟨x :: xs,H2,I2,.cons r1 r2,q2⟩
def wG' (t:TA):TE:=fun σ H Q=>t σ H fun xs H1=>xs.length<=sizeLine/\∀p,H1 p=none->Q (.ref p) (upd H1 p (.tup xs))
def wH' (t:TA):TE:=fun σ H Q=>t σ H fun xs H1=>xs.length<=sizeLine/\∀p,H1 p=none->Q (.ref p) (upd H1 p (.lst xs))
theorem sv' {x1} (h:PA X es t):PE X (.Tuple es x1 pos) (wG' t):=by
 intro pins s σ H Q I hq
 refine wpAny_Tuple_spliced (thn (h pos pins s σ H _ I hq) fun us s1 ⟨xs,H1,I1,r,z,q⟩=>⟨by rw[<- r.length];exact z,?_⟩)
 have hf:H1 s1.heap.objs.size=none:=I1.hok.fresh (ai _)
 refine⟨.ref s1.heap.objs.size,upd H1 s1.heap.objs.size (.tup xs),I1.laid (t':=s1.toks) (fun b u e=>aj _ e) (ai _) ?_,rfl,q _ hf⟩
 exact⟨z,us,r,⟨_,aC _ rfl,rfl,⟨_,rfl⟩,rfl⟩⟩
theorem sw' (h:PA X es t):PE X (.List es pos) (wH' t):=by
 intro pins s σ H Q I hq
 refine wpAny_List_spliced (thn (h pos pins s σ H _ I hq) fun us s1 ⟨xs,H1,I1,r,z,q⟩=>⟨by rw[<- r.length];exact z,?_⟩)
 have hf:H1 s1.heap.objs.size=none:=I1.hok.fresh (ai _)
 refine⟨.ref s1.heap.objs.size,upd H1 s1.heap.objs.size (.lst xs),I1.laid (t':=s1.toks) (fun b u e=>aj _ e) (ai _) ?_,rfl,q _ hf⟩
 exact⟨z,us,0,r,aC _ rfl⟩
end
abbrev Sp:=List V->Hp->VK->XK->Prop
abbrev CXT:=List Env->Hp->Shared->XK->Value->Shared->Prop
structure Env0 (P:Program) (w:World) (K:W.Frag) (mg:Str->Option Value) (base:Heap) (A:Around) (outer:List Env) (s:Shared) (H:Hp):Prop where
 frames:A.frames=some outer
 mod:Mod K mg base
 bs:∀b o,base.get? b=some o->s.heap.get? b=some o/\H b=none
 bsz:base.objs.size<=s.heap.objs.size
 funs:s.heap.FunFrames base outer
 frf:∀b∈frs outer,H b=none
 hok:HOk P w H s.heap
 bare:AllBare s.gens
def CE (outer:List Env) (P:Program) (w:World) (H:Hp) (s:Shared) (Q:VK) (u:Value) (s':Shared):Prop:=
 ∃v H',s'.os=s.os/\AllBare s'.gens/\Un (frs outer) [] H H' s.heap s'.heap/\HOk P w H' s'.heap/\aG' v u/\Q v H'
def CR (CX:CXT) (outer:List Env) (P:Program) (w:World) (H:Hp) (s:Shared) (Q:VK) (E:XK) (r:Result) (s':Shared):Prop:=
 match r with
 | .ok (.ret u)=>CE outer P w H s Q u s'
 | .ok _=>False
 | .error e=>CX outer H s E e s'
structure FnOk (P:Program) (w:World) (K:W.Frag) (mg:Str->Option Value) (base:Heap) (CX:CXT) (k:Nat) (f:Addr) (fd:FuncData) (ps:List Str) (sp:Sp):Prop where
 len:∀vs H Q E,sp vs H Q E->vs.length=ps.length
 run:∀(A:Around) (outer:List Env) (s:Shared) (H:Hp) (args:Args) (us:List Value) (vs:List V) (Q:VK) (E:XK),Room k A->Env0 P w K mg base A outer s H->BindsTo s fd args (ps.zip us)->aC' vs us->sp vs H Q E->
  codeAny (model P w) A (.call (.ref f) args) (CR CX outer P w H s Q E) s
theorem FnOk.mono {P:Program} {w:World} {K:W.Frag} {mg:Str->Option Value} {base:Heap} {CX:CXT} {j k:Nat} {f:Addr} {fd:FuncData} {ps:List Str} {sp:Sp} (F:FnOk P w K mg base CX j f fd ps sp) (h:j<=k):
  FnOk P w K mg base CX k f fd ps sp:=⟨F.len,fun A outer s H args us vs Q E hr=>F.run A outer s H args us vs Q E (hr.mono h)⟩
section
variable {X:Cx} {pins:List (Addr×Obj)} {σ:St} {H:Hp} {s s':Shared}
theorem Inv.env0 (I:Inv X pins σ H s):Env0 X.prog X.w X.K X.mg X.base X.A X.stack s H:=
 ⟨I.ok.frames,I.ok.mod,I.bs,aI I.ok.bsz I.sz,I.stack,I.stkFree,I.hok,I.bare⟩
theorem Inv.after {Q:VK} {u:Value} (I:Inv X pins σ H s) (h:CE X.stack X.prog X.w H s Q u s'):EP X pins σ Q u s':=by
 obtain⟨v,H',os,bare,un,hok,r,q⟩:=h
 obtain⟨hh,g,d,t,os'⟩:=s'
 obtain rfl:os'=s.os:=os
 exact⟨v,H',I.call (h':=hh) (g':=g) (d':=d) (t':=t) (ch:=[]) un hok bare (fun b z=>absurd z (by simp)),r,q⟩
end
def mE' (sp:Sp) (dvs:List V) (E:XK) (t:TA):TE:=fun σ H Q=>t σ H fun vs H1=>sp (vs++dvs) H1 Q E
def eO' (K:W.Frag) (fd:FuncData) (ps:List Str) (ds:List Value):Prop:=
 ∀(s:Shared) (us:List Value),K.In s.heap->(us++ds).length=ps.length->BindsTo s fd ⟨us,[]⟩ (ps.zip (us++ds))
theorem eO'.all {K:W.Frag} {fd:FuncData} {ps:List Str} (h:∀us:List Value,us.length=ps.length->bindArgs fd ⟨us,[]⟩=pure (ps.zip us)):eO' K fd ps []:=fun s us _ hl=>by
 rw[List.append_nil]at hl ⊢
 exact .of_eq (h us hl)
section
variable {X:Cx} {CX:CXT} {k:Nat} {f C:Addr} {fd:FuncData} {ps:List Str} {sp:Sp} {dvs:List V} {ds:List Value} {E:XK} {x m:Str} {p pos apos:Pos} {e o:Expr} {es:List Expr} {ta:TE} {t:TA}
structure Mk (K:W.Frag) (C f:Addr):Prop where
 makes:W.makesIn K C=true
 init:W.findIn K (.ref C) "__init__"=some (some (.ref f))
 fn:W.isFn K (.ref f)=true
 kp:W.keepIn K (.ref C)=true
end
section
variable {X:Cx} {CX:CXT} {k:Nat} {f C:Addr} {fd:FuncData} {ps ks:List Str} {sp:Sp} {E:XK} {x m:Str} {p pos apos kpos:Pos} {e o:Expr} {es:List Expr} {kws:List Keyword} {te ta:TE} {t tk:TA} {nm:Option Str}
structure KBinds (K:W.Frag) (fd:FuncData) (ps ks:List Str) (g:List Value->List Value->List Value) (gV:List V->List V->List V):Prop where
 to:∀(s:Shared) (us ws:List Value),K.In s.heap->(g us ws).length=ps.length->BindsTo s fd ⟨us,ks.zip ws⟩ (ps.zip (g us ws))
 rel:∀{vs:List V} {us:List Value} {zs:List V} {ws:List Value},aC' vs us->aC' zs ws->aC' (gV vs zs) (g us ws)
variable {g:List Value->List Value->List Value} {gV:List V->List V->List V}
end
structure FnScope (N P:List Str) (sc:Scope):Prop where
 kind:sc.kind=.function
 co:sc.isCoroutine=false
 gen:sc.isGenerator=false
 nd:N.Nodup
 pre:N.take P.length=P
 par:∀x∈P,sc.names.lookup x=some .local\/sc.names.lookup x=some .cell
 nofree:∀y∈sc.names,y.2≠.free
theorem fV' {kindOf:Str->Option NameKind} {x:Str}:∀{binds:List (Str×Value)} {m:Str->Option Value},(∀v,(x,v)∉binds)->bindL kindOf binds m x=m x
 | [],_,_=>rfl
 |(n,v) :: r,m,h=>by
  unfold bindL
  rw[fV' fun w hw=>h w (ay _ hw)]
  split
  .have:x≠n:=by rintro rfl;exact h v aF
   simp[this]
  .rfl
theorem fW' {kindOf:Str->Option NameKind} {x:Str}:∀{binds:List (Str×Value)} {m:Str->Option Value},(∀v,(x,v)∉binds)->bindC kindOf binds m x=m x
 | [],_,_=>rfl
 |(n,v) :: r,m,h=>by
  unfold bindC
  rw[fW' fun w hw=>h w (ay _ hw)]
  split
  .rfl
  .have:x≠n:=by rintro rfl;exact h v aF
   simp[this]
theorem fX' {kindOf:Str->Option NameKind} {x:Str} {v:Value}:∀{P:List Str} {vs:List Value} {i:Nat} {m:Str->Option Value},P.Nodup->P[i]?=some x->vs[i]?=some v->kindOf x=some .local->
  bindL kindOf (P.zip vs) m x=some v
 | [],_,_,_,_,h,_,_=>by simp at h
 |_ :: _,[],_,_,_,_,h,_=>by simp at h
 |p :: P,w :: vs,0,m,nd,h1,h2,hk=>by
  simp at h1 h2;subst h1;subst h2
  show bindL kindOf ((p,w) :: P.zip vs) m p=_
  unfold bindL
  rw[fV' fun v hv=>(bB.mp nd).1 (List.of_mem_zip hv).1,if_pos hk]
  simp
 |p :: P,w :: vs,i+1,m,nd,h1,h2,hk=>by
  show bindL kindOf ((p,w) :: P.zip vs) m x=_
  unfold bindL
  exact fX' (i:=i) (bB.mp nd).2 (by simpa using h1) (by simpa using h2) hk
theorem fY' {kindOf:Str->Option NameKind} {x:Str} {v:Value}:∀{P:List Str} {vs:List Value} {i:Nat} {m:Str->Option Value},P.Nodup->P[i]?=some x->vs[i]?=some v->kindOf x≠some .local->
  bindC kindOf (P.zip vs) m x=some v
 | [],_,_,_,_,h,_,_=>by simp at h
 |_ :: _,[],_,_,_,_,h,_=>by simp at h
 |p :: P,w :: vs,0,m,nd,h1,h2,hk=>by
  simp at h1 h2;subst h1;subst h2
  show bindC kindOf ((p,w) :: P.zip vs) m p=_
  unfold bindC
  rw[fW' fun v hv=>(bB.mp nd).1 (List.of_mem_zip hv).1,if_neg hk]
  simp
 |p :: P,w :: vs,i+1,m,nd,h1,h2,hk=>by
  show bindC kindOf ((p,w) :: P.zip vs) m x=_
  unfold bindC
  exact fY' (i:=i) (bB.mp nd).2 (by simpa using h1) (by simpa using h2) hk
def aw' (N:List Str) (vs:List V):St:=vs.map some++ao (N.length-vs.length) none
def rV' (CX:CXT) (P:Program) (w:World) (K:W.Frag) (mg:Str->Option Value) (base:Heap) (N:List Str) (qual:Str) (scope:Scope) (f:Addr) (cd:Value) (A:Around) (outer:List Env) (s:Shared) (H:Hp) (E:XK):Cx where
 prog:=P
 w:=w
 K:=K
 mg:=mg
 base:=base
 A:=A.deeper (envOfC qual scope s.heap.objs.size f cd)
 N:=N
 s₀:=s
 H₀:=H
 env:=envOfC qual scope s.heap.objs.size f cd
 outer:=outer
 stack:=envOfC qual scope s.heap.objs.size f cd :: outer
 ex:=[]
 calm:=true
 fn:=fun _=>true
 pn:=[]
 xe:=fun e s'=>wpAny (model P w) (A.deeper (envOfC qual scope s.heap.objs.size f cd)) (leaving (envOfC qual scope s.heap.objs.size f cd) e) (fun _ s''=>CX outer H s E e s'') (fun e' s''=>CX outer H s E e' s'') s'
theorem fh' {sc:Scope} {n:Nat} {x:Str} (h:sc.names.lookup x=some .cell):∃c,(cellsFrom n sc.names []).lookup x=some c:=by
 have q:=W.cellsFrom_some sc.names n [] (.inl h)
 exact Option.isSome_iff_exists.mp q
theorem jF' {CX:CXT} {P:Program} {w:World} {K:W.Frag} {mg:Str->Option Value} {base:Heap} {N ps:List Str} {qual:Str} {scope:Scope} {f:Addr} {cd:Value} {A:Around} {outer:List Env} {s s1:Shared} {H:Hp} {E:XK} {us:List Value} {vs:List V}
  (S:FnScope N ps scope) (hd:A.handled=none) (e0:Env0 P w K mg base A outer s H) (hl:vs.length=ps.length) (r:aC' vs us)
  (x:InCallC s s.heap.objs.size (bindL (envOfC qual scope s.heap.objs.size f cd).kindOf (ps.zip us) fun _=>none) (cellsFrom (s.heap.objs.size+1) scope.names []) (bindC (envOfC qual scope s.heap.objs.size f cd).kindOf (ps.zip us) fun _=>none) s1):
  Inv (rV' CX P w K mg base N qual scope f cd A outer s H E) [] (aw' N vs) H s1:=by
 have hpl:ps.length<=N.length:=by have:=congrArg List.length S.pre;rw[aL]at this;omega
 obtain⟨h1,tk,rfl,hk⟩:=x.done
 have noA:∀b:Addr,b∉(rV' CX P w K mg base N qual scope f cd A outer s H E).ex:=fun b z=>absurd (show b∈([]:List Addr) from z) (by simp)
 refine⟨⟨e0.mod,S.kind,rfl,rfl,ai _,fun y z c h1 h2=>?_,fun y hy=>?_,fun y c _ h=>?_,fun _=>hd,Around.frames_deeper e0.frames,.inr ⟨rfl,rfl⟩,fun b z=>absurd z (noA b),e0.bs,e0.bsz,fun b _ _=>noA b,fun b z=>absurd z (noA b),e0.funs,e0.frf⟩,
  rfl,e0.bare,Un.kept hk,⟨_,x.toInCall.ns,fun i y v h1 h2 h3=>?_⟩,fun y c h=>⟨_,x.cell y c h⟩,e0.hok.fresh (ai _),fun y c h=>?_,fun p hp=>absurd (show p∈([]:List (Addr×Obj)) from hp) (by simp),e0.hok.kept hk,?_⟩
 .exact name_of_addr x.apart (PySem.mem_of_lookup h1) (PySem.mem_of_lookup h2)
 .have hy:scope.names.lookup y=some .cell\/scope.names.lookup y=some .free:=hy
  rcases hy with hy|hy
  .exact fh' hy
  .exact absurd rfl (S.nofree _ (PySem.mem_of_lookup hy))
 .exact bu (x.above y c (PySem.mem_of_lookup h))
 .have hi:i<vs.length:=by
   unfold aw' at h2
   by_cases hi:i<vs.length
   .exact hi
   .rw[List.getElem?_append_right (by simpa using hi)]at h2
    rw[List.getElem?_replicate]at h2
    split at h2<;>cases h2
  have ha:vs[i]?=some v:=by
   unfold aw' at h2
   rw[List.getElem?_append_left (by simpa using hi),ap]at h2
   cases e:vs[i]? with
   |none=>rw[e]at h2;cases h2
   |some a=>rw[e]at h2;cases h2;rfl
  obtain⟨u,hu,rv⟩:=r.get ha
  have hp:ps[i]?=some y:=by
   rw[<- S.pre,List.getElem?_take_of_lt (by omega)];exact h1
  have ndP:ps.Nodup:=by rw[<- S.pre];exact S.nd.sublist (List.take_sublist _ _)
  refine⟨u,rv,?_⟩
  rcases S.par y (az hp)with k|k
  .exact .inl ⟨k,fX' ndP hp hu k⟩
  .obtain⟨c,e⟩:=fh' (n:=s.heap.objs.size+1) k
   refine .inr ⟨.inl k,c,e,?_⟩
   have q:=x.cell y c e
   rw[fY' ndP hp hu (by show scope.names.lookup y≠_;rw[k];decide)]at q
   exact q
 .exact e0.hok.fresh (bu (x.above y c (PySem.mem_of_lookup h)))
 .unfold aw'
  show _=N.length
  rw[al,aa,bc]
  omega
theorem wI' {CX:CXT} {P:Program} {w:World} {K:W.Frag} {mg:Str->Option Value} {base:Heap} {k:Nat} {f:Addr} {name qual:Str} {params:Arguments} {body:List Stmt} {scope:Scope} {dV kV doc pm cdv ct oc:Value} {an od:Option Addr}
  {osl:Array (Option Value)} {N ps:List Str} {sp:Sp} (lk:K.lookup f=some ⟨oc,od,.func (W.fnOf name qual params body scope dV kV doc pm an cdv ct),osl⟩) (hcd:W.codeIn K cdv qual=true) (S:FnScope N ps scope)
  (len:∀vs H Q E,sp vs H Q E->vs.length=ps.length)
  (hbody:∀(A:Around) (outer:List Env) (s:Shared) (H:Hp) (vs:List V) (Q:VK) (E:XK),Room k (A.deeper (envOfC qual scope s.heap.objs.size f cdv))->sp vs H Q E->
   ∃t,PSs (rV' CX P w K mg base N qual scope f cdv A outer s H E) body t/\t { nx:=fun _ H'=>Q .non H',rt:=Q } (aw' N vs) H):
  FnOk P w K mg base CX (k+1) f (W.fnOf name qual params body scope dV kV doc pm an cdv ct) ps sp:=by
 refine⟨len,fun A outer s H args us vs Q E hr e0 hb r hsp=>?_⟩
 have hl:=len _ _ _ _ hsp
 have KX:K.In s.heap:=e0.mod.kin.keeps fun b o e=>(e0.bs b o e).1
 have lim:s.heap.NoLimit:=e0.mod.nolimit.keeps fun b o e=>(e0.bs b o e).1
 have hkind:∀y∈ps.zip us,scope.names.lookup y.1=some .local\/(scope.names.lookup y.1=some .cell/\((cellsFrom (s.heap.objs.size+1) scope.names []).lookup y.1).isSome=true):=fun⟨n,v⟩ hy=>by
  rcases S.par n (List.of_mem_zip hy).1 with q|q
  .exact .inl q
  .exact .inr ⟨q,W.cellsFrom_some _ _ _ (.inl q)⟩
 refine codeAny_call_function hr.depth (KX _ _ lk) rfl S.co S.gen rfl (W.codeRec_of KX hcd) (hb _ _ _ _ ?_)
 refine wpAny_newFunctionEnv_cells S.kind hkind fun env he s1 x=>?_
 subst he
 refine⟨lim.keeps x.toInCall.keep,codeAny_func ?_⟩
 obtain⟨t,ht,hq⟩:=hbody A outer s H vs Q E (hr.deeper _) hsp
 have I:Inv (rV' CX P w K mg base N qual scope f cdv A outer s H E) [] (aw' N vs) H s1:=jF' S hr.hd e0 hl r x
 refine wpAny_mono (ht [] s1 (aw' N vs) H _ I hq) (fun fl s' hs=>?_) fun e s' hs=>hs
 have fin:∀{σ':St} {H':Hp} {v:V} {u:Value},Inv (rV' CX P w K mg base N qual scope f cdv A outer s H E) [] σ' H' s'->aG' v u->Q v H'->CE outer P w H s Q u s':=
  fun {σ' H' v u} J rv q=>⟨v,H',J.os,J.bare,J.base,J.hok,rv,q⟩
 cases fl with
 |ret u=>
  obtain⟨v,σ',H',J,rv,q⟩:=hs
  exact fin J rv q
 |next=>
  obtain⟨σ',H',J,q⟩:=hs
  exact fin (v:=V.non) (u:=Value.none) J rfl q
 |brk=>
  obtain⟨_,_,_,q⟩:=hs
  exact False.elim q
 |cont=>
  obtain⟨_,_,_,q⟩:=hs
  exact False.elim q
section
variable {X:Cx} {x:Str} {p pos:Pos} {e:Expr} {es:List Expr} {t:TA} {id T:String} {r:List V->Hp->VK->Prop}
def tCB (r:List V->Hp->VK->Prop) (t:TA):TE:=fun σ H Q=>t σ H fun vs H1=>r vs H1 Q
theorem mF' (hc:aX' X (.builtin id) r) (hg:Gl X x) (hm:X.mg x=none) (hv:bootBuiltins x=some (.builtin id)) (ha:PA X (e :: es) t) (hn:x≠"__name__":=by decide) (hdb:(x == ("__debug__":Str))=false:=by decide)
  (he:starEach (e :: es) X.env=(false,eval e X.env) :: starEach es X.env:=by rfl) (hpl:(backTo pos (starEach es X.env)).any (·.1)=false:=by rfl):PE X (.Call (.Name x p) (e :: es) [] pos) (tCB r t):=by
 intro pins s σ H Q I h
 refine wpAny_Call_Name_kw (eX' I hg hm hv ?_ hn hdb)
 exact PyProof.Rows.callWith_builtin1 (thn (ha pos pins s σ H _ I h) fun us s1 ⟨vs,H1,I1,r1,q1⟩=>hc pins s1 σ H1 vs us Q I1 r1 q1) he hpl
theorem jG' (hc:aX' X (.type T) r) (hg:Gl X x) (hm:X.mg x=none) (hv:bootBuiltins x=some (.type T)) (ha:PA X (e :: es) t) (hn:x≠"__name__":=by decide) (hdb:(x == ("__debug__":Str))=false:=by decide)
  (he:starEach (e :: es) X.env=(false,eval e X.env) :: starEach es X.env:=by rfl) (hpl:(backTo pos (starEach es X.env)).any (·.1)=false:=by rfl):PE X (.Call (.Name x p) (e :: es) [] pos) (tCB r t):=by
 intro pins s σ H Q I h
 refine wpAny_Call_Name_kw (eX' I hg hm hv ?_ hn hdb)
 exact PyProof.Rows.callWith_type1 (thn (ha pos pins s σ H _ I h) fun us s1 ⟨vs,H1,I1,r1,q1⟩=>hc pins s1 σ H1 vs us Q I1 r1 q1) he hpl
end
end L2
namespace HT
open PySem PyProof.Rows
section
open PySem.SeqAt
open PySem.AutoSeq1 (wpAny_loadPart')
open PySem.MeetsSeq PySem.MeetsSeq2 PySem.MeetsSeq3
end
section
variable {prog:Program} {w:World} {A:Around} {E:Value->Shared->Prop} {s:Shared}
theorem pR' {t b:Addr} {vs ws:List Value} {Q:Value->Shared->Prop} (ht:IsTup s.heap t vs.toArray) (hb:IsTup s.heap b ws.toArray) (hv:vs≠[])
  (h1:ws=[]->Q (.ref t) s) (h2:ws≠[]->Q (.ref s.heap.objs.size) { s with heap:=s.heap.push { cls:=.type "tuple",data:=.seq (vs++ws).toArray } })
  (hsz:vs.length+ws.length<=sizeLine):wpAny (model prog w) A (binaryOp .Add (.ref t) (.ref b)) Q E s:=by
 obtain⟨⟨cls,dd,data,sl⟩,ho,hc,n,hd⟩:=id ht
 obtain⟨⟨cls2,dd2,data2,sl2⟩,ho2,hc2,n2,hd2⟩:=id hb
 simp only at hc hd hc2 hd2
 subst hc hd hc2 hd2
 have e:vs.toArray++ws.toArray=(vs++ws).toArray:=by simp
 by_cases hw:ws=[]
 .exact concat_meets ⟨_,ho,rfl⟩ ⟨_,ho2,rfl⟩ noFill_tuple_add seq_tuple_add PySem.F.slot_tuple_add PySem.F.entry_tuple_add (PySem.F.args_tuple_add_2 _ _)
   (tuple_addW1 t b vs.toArray ws.toArray n n2 dd dd2 sl sl2 (by simpa using hv) (by simp[hw])) ⟨ho,ho2,h1 hw⟩
 .refine concat_meets ⟨_,ho,rfl⟩ ⟨_,ho2,rfl⟩ noFill_tuple_add seq_tuple_add PySem.F.slot_tuple_add PySem.F.entry_tuple_add (PySem.F.args_tuple_add_2 _ _)
   (tuple_addW2 t b vs.toArray ws.toArray n n2 dd dd2 sl sl2 (by simpa using hv) (by simpa using hw) (by rw[ag,ag];exact hsz)) ⟨ho,ho2,?_⟩
  rw[e]
  exact h2 hw
def sIx (n d:Nat):Option Int->Nat
 |none=>d
 |some v=>if v<0 then(v+(n:Int)).toNat else min v.toNat n
theorem h2' (n d:Nat):sIx n d none=d:=rfl
theorem jH' (n d k:Nat):sIx n d (some (k:Int))=min k n:=by
 show(if(k:Int)<0 then((k:Int)+(n:Int)).toNat else min (k:Int).toNat n)=min k n
 rw[if_neg (by omega),bq]
theorem sx' (n d:Nat) (hd:d<=n) (o:Option Int):sIx n d o<=n:=by
 cases o with
 |none=>exact hd
 |some v=>
  show(if v<0 then(v+(n:Int)).toNat else min v.toNat n)<=n
  by_cases hv:v<0
  .rw[if_pos hv];omega
  .rw[if_neg hv];exact Nat.min_le_right _ _
theorem jI' (v:Int) (n d:Nat):(if v<0 then max (v+(n:Int)) 0 else min v (n:Int))=((sIx n d (some v):Nat):Int):=by
 show(if v<0 then max (v+(n:Int)) 0 else min v (n:Int))=(((if v<0 then(v+(n:Int)).toNat else min v.toNat n):Nat):Int)
 by_cases hv:v<0
 .simp only[if_pos hv];omega
 .simp only[if_neg hv];omega
theorem iK' (lo hi:Option Int) (n:Nat):Builtin.Slice.sliceAdjust lo hi 1 (n:Int)=(((sIx n 0 lo:Nat):Int),((sIx n n hi:Nat):Int)):=by
 have h1:¬((1:Int)<0):=by omega
 unfold Builtin.Slice.sliceAdjust
 simp only[h1,if_false]
 refine Prod.ext ?_ ?_
 .cases lo with
  |none=>rfl
  |some v=>exact jI' v n 0
 .cases hi with
  |none=>rfl
  |some v=>exact jI' v n n
theorem iL' (i j:Nat):Builtin.Slice.slicePlaces (i:Int) (j:Int) 1=j-i:=by
 unfold Builtin.Slice.slicePlaces
 have h1:(1:Int) > 0:=by omega
 simp only[h1,if_true,Int.ediv_one]
 split<;>omega
theorem eZ' {v:Value} {o:Option Int} {Q:Option Int->Shared->Prop} (p:IsPart v o) (h:Q o s):wpAny (model prog w) A (Builtin.Slice.slicePartIndex v) Q E s:=by
 cases p with
 |none=>exact slicePart_none h
 |int i t=>exact slicePart_int h
theorem cR' {sl:Addr} {vl vu:Value} {lo hi:Option Int} {n:Nat} {Q:Int×Int×Nat->Shared->Prop} (hs:s.heap.IsSliceOf sl vl vu .none) (pl:IsPart vl lo) (pu:IsPart vu hi)
  (h:Q (((sIx n 0 lo:Nat):Int),1,sIx n n hi-sIx n 0 lo) s):wpAny (model prog w) A (Builtin.Slice.sliceApplied (.ref sl) (pure (n:Int))) Q E s:=by
 obtain⟨os,hos,hcs,hds⟩:=id hs
 unfold Builtin.Slice.sliceApplied Builtin.Slice.sliceFields
 refine af (af (wpAny_field hos hds (x:=vl) rfl (af (wpAny_field hos hds (x:=vu) rfl (af (wpAny_field hos hds (x:=.none) rfl (aG ?_)))))))
 refine af (slicePart_none ?_)
 show wpAny _ _ (if((1:Int) == 0)=true then _ else _) _ _ s
 rw[if_neg (by decide)]
 refine af (eZ' pl (af (eZ' pu (af (aG ?_)))))
 show wpAny _ _ (match Builtin.Slice.sliceAdjust lo hi 1 (n:Int)with|(lo,hi)=>pure (lo,(1:Int),Builtin.Slice.slicePlaces lo hi 1)) _ _ s
 rw[iK' lo hi n]
 show wpAny _ _ (pure (((sIx n 0 lo:Nat):Int),(1:Int),Builtin.Slice.slicePlaces ((sIx n 0 lo:Nat):Int) ((sIx n n hi:Nat):Int) 1)) _ _ s
 rw[iL']
 exact aG h
theorem mG' (xs:Array Value) (i k:Nat):((aA k).filterMap fun(m:Nat)=>xs[((i:Int)+(m:Int)*1).toNat]?).toArray=((xs.toList.drop i).take k).toArray:=by
 have e:(fun(m:Nat)=>xs[((i:Int)+(m:Int)*1).toNat]?)=fun m=>xs[i+m]?:=by
  funext m
  have:((i:Int)+(m:Int)*1).toNat=i+m:=by omega
  rw[this]
 rw[e]
 have:=pick_run xs i k
 rw[List.filterMap_map]at this
 have e2:((fun x=>xs[x]?)∘fun x=>i+x)=fun m=>xs[i+m]?:=rfl
 rw[e2]at this
 rw[this]
theorem dS' {t sl:Addr} {items:Array Value} {vl vu:Value} {lo hi:Option Int} {Q:Value->Shared->Prop} (ht:IsTup s.heap t items) (hs:s.heap.IsSliceOf sl vl vu .none) (pl:IsPart vl lo) (pu:IsPart vu hi)
  (hw:¬(sIx items.size 0 lo=0/\sIx items.size items.size hi=items.size))
  (h:Q (.ref s.heap.objs.size) { s with heap:=s.heap.push { cls:=.type "tuple",data:=.seq ((items.toList.drop (sIx items.size 0 lo)).take (sIx items.size items.size hi-sIx items.size 0 lo)).toArray } })
  (hsz:items.size<=sizeLine):wpAny (model prog w) A (getItem (.ref t) (.ref sl)) Q E s:=by
 have htake:sizeOk (.seq ((items.toList.drop (sIx items.size 0 lo)).take (sIx items.size items.size hi-sIx items.size 0 lo)).toArray):=by
  show((items.toList.drop (sIx items.size 0 lo)).take (sIx items.size items.size hi-sIx items.size 0 lo)).toArray.size<=sizeLine
  rw[ag,aL,cc,aD]
  omega
 have hj:sIx items.size items.size hi<=items.size:=sx' _ _ (ai _) hi
 obtain⟨os,hos,hcs,hds⟩:=id hs
 have hTs:s.TypeIs (.ref sl) "slice":=⟨os,hos,hcs⟩
 unfold getItem
 try with_reducible refine bo ?_
 first|refine af (aG ?_)|skip
 refine af (wpAny_sequenceKey ht.typeIs (by decide) ?_)
 refine af (bY (name:=Str.ofString "__getitem__") ht.typeIs PyProof.Rows.slot_tuple_getitem
  (cA PyProof.Rows.slot_tuple_getitem ht.typeIs entry_tuple_getitem ?_ (args_tuple_getitem _ _)))
 show wpAny _ _ (Builtin.Tuple.tupleItemsOf (.ref t) >>= _) _ _ s
 refine af (tupleItemsOf_ ht ?_)
 refine af (wpAny_typeOf hTs ?_)
 rw[if_pos (by decide)]
 refine af (cR' hs pl pu ?_)
 have hno:¬((((sIx items.size 0 lo:Nat):Int) == 0&&(1:Int) == 1&&(sIx items.size items.size hi-sIx items.size 0 lo) == items.size)=true):=by
  intro q
  rw[ac,ac]at q
  have q1:((sIx items.size 0 lo:Nat):Int)=0:=eq_of_beq q.1.1
  have q2:sIx items.size items.size hi-sIx items.size 0 lo=items.size:=eq_of_beq q.2
  exact hw ⟨by omega,by omega⟩
 show wpAny _ _ (if(((sIx items.size 0 lo:Nat):Int) == 0&&(1:Int) == 1&&(sIx items.size items.size hi-sIx items.size 0 lo) == items.size)=true then _ else _) _ _ s
 rw[if_neg hno,mG']
 first
  |exact af (m:=Builtin.Tuple.tupleExact _) (br (aG ⟨_,rfl,aG h⟩) htake)
  |exact af (m:=Builtin.Tuple.tupleExact _) (br (af (aG (aG ⟨_,rfl,aG h⟩))) htake)
  |exact af (af (m:=Builtin.Tuple.tupleExact _) (br (aG (aG ⟨_,rfl,aG h⟩)) htake))
  |exact af (af (m:=Builtin.Tuple.tupleExact _) (br (aG ⟨_,rfl,aG h⟩) htake))
end
end HT
namespace L2
open PySem PySem.Spec PyProof.Rows
abbrev TO:=St->Hp->(Option Int->Hp->Prop)->Prop
def PO (X:Cx) (e:Option Expr) (t:TO):Prop:=
 ∀(pins:List (Addr×Obj)) (s:Shared) (σ:St) (H:Hp) (Q:Option Int->Hp->Prop),Inv X pins σ H s->t σ H Q->
  wpAny (model X.prog X.w) X.A (evalPart e X.env) (fun u s'=>∃o H',Inv X pins σ H' s'/\IsPart u o/\Q o H') X.xe s
def gW':TO:=fun _ H Q=>Q none H
def pS' (t:TE):TO:=fun σ H Q=>t σ H fun x H1=>∃i,x=.int i/\Q (some i) H1
theorem dT' {ns:List Int}:∀{us:List Value},aC' (ns.map V.int) us->IntsAre us ns:=by
 induction ns with
 |nil=>intro us r;rw[List.map_nil]at r;cases r;exact .nil
 |cons n ns ih=>
  intro us r
  rw[aH]at r
  cases r with
  |cons r1 r2=>
   obtain⟨t,e⟩:=r1
   subst e
   exact .cons n t (ih r2)
section
variable {X:Cx} {e:Expr} {te:TE} {lo hi:Option Expr} {tl th:TO} {pos p2:Pos}
theorem pT':PO X none gW':=by
 intro pins s σ H Q I h
 rw[evalPart_none]
 exact aG ⟨none,H,I,.none,h⟩
theorem pU' (h:PE X e te):PO X (some e) (pS' te):=by
 intro pins s σ H Q I hw
 rw[evalPart_some]
 refine thn (h pins s σ H _ I hw) fun u s1 ⟨x,H1,I1,r1,q1⟩=>?_
 obtain⟨i,rfl,q⟩:=q1
 obtain⟨t,rfl⟩:=r1
 exact⟨some i,H1,I1,.int i t,q⟩
def SlR (X:Cx) (r:V->Option Int->Option Int->Hp->VK->Prop):Prop:=
 ∀(pins:List (Addr×Obj)) (s:Shared) (σ:St) (H:Hp) (x:V) (v vl vu:Value) (lo hi:Option Int) (sl:Addr) (Q:VK),Inv X pins σ H s->aG' x v->s.heap.IsSliceOf sl vl vu .none->IsPart vl lo->IsPart vu hi->r x lo hi H Q->
  ∃T id,typeLookup (.type T) "__getitem__"=pure (some (.builtin id))/\s.TypeIs v T/\wpAny (model X.prog X.w) X.A (getItem v (.ref sl)) (EP X pins σ Q) X.xe s
theorem SlR.or {r r':V->Option Int->Option Int->Hp->VK->Prop} (h:SlR X r) (h':SlR X r'):SlR X (fun x lo hi H Q=>r x lo hi H Q\/r' x lo hi H Q):=by
 intro pins s σ H x v vl vu lo hi sl Q I rx hs pl pu q
 rcases q with q|q
 .exact h pins s σ H x v vl vu lo hi sl Q I rx hs pl pu q
 .exact h' pins s σ H x v vl vu lo hi sl Q I rx hs pl pu q
def tSl (r:V->Option Int->Option Int->Hp->VK->Prop) (te:TE) (tl th:TO):TE:=fun σ H Q=>te σ H fun x H1=>tl σ H1 fun l H2=>th σ H2 fun u H3=>r x l u H3 Q
theorem mH' {r:V->Option Int->Option Int->Hp->VK->Prop} (hr:SlR X r) (he:PE X e te) (hl:PO X lo tl) (hu:PO X hi th):PE X (.Subscript e (.Slice lo hi none p2) pos) (tSl r te tl th):=by
 intro pins s σ H Q I h
 refine Subscript_ (thn (he pins s σ H _ I h) fun v s1 ⟨x,H1,I1,r1,q1⟩=>?_)
 refine wpAny_Slice (thn (hl pins s1 σ H1 _ I1 q1) fun vl s2 ⟨l,H2,I2,pl,q2⟩=>thn (hu pins s2 σ H2 _ I2 q2) fun vu s3 ⟨u,H3,I3,pu,q3⟩=>?_)
 rw[evalPart_none]
 refine aG ?_
 have I4:Inv X pins σ H3 { s3 with heap:=s3.heap.push { cls:=.type "slice",data:=.fields #[vl,vu,.none] } }:=I3.kept (t':=s3.toks) fun b ob q=>aj _ q
 obtain⟨T,id,hT,ht,hg⟩:=hr pins { s3 with heap:=s3.heap.push { cls:=.type "slice",data:=.fields #[vl,vu,.none] } } σ H3 x v vl vu l u s3.heap.objs.size Q I4 r1 (Heap.IsSliceOf.new ..) pl pu q3
 show wpAny (model X.prog X.w) X.A (subscriptTail e (.Slice lo hi none p2) v (.ref s3.heap.objs.size)) (EP X pins σ Q) X.xe { s3 with heap:=s3.heap.push { cls:=.type "slice",data:=.fields #[vl,vu,.none] } }
 exact tail_any (ops:=[.ref s3.heap.objs.size,v]) ht hT hg (by with_unfolding_all rfl)
def jk' (xs:List V) (lo hi:Option Int):List V:=(xs.drop (HT.sIx xs.length 0 lo)).take (HT.sIx xs.length xs.length hi-HT.sIx xs.length 0 lo)
theorem en' (xs:List V) (lo hi:Option Int):(jk' xs lo hi).length<=xs.length:=by
 unfold jk'
 rw[aL,cc]
 omega
def vW' (K:W.Frag):V->Option Int->Option Int->Hp->VK->Prop:=fun x lo hi H Q=>∃a xs,x=.ref a/\SqT K H a xs/\
 ¬(HT.sIx xs.length 0 lo=0/\HT.sIx xs.length xs.length hi=xs.length)/\∀p,H p=none->Q (.ref p) (upd H p (.tup (jk' xs lo hi)))
theorem sy':SlR X (vW' X.K):=by
 intro pins s σ H x v vl vu lo hi sl Q I rx hs pl pu h
 obtain⟨a,xs,rfl,hx,hw,q⟩:=h
 cases rx
 obtain⟨its,r,ht,hz⟩:=I.tuple hx
 have hlen:its.toArray.size=xs.length:=by rw[ag];exact r.length.symm
 refine⟨"tuple",_,PyProof.Rows.slot_tuple_getitem.lookup,ht.typeIs,?_⟩
 refine HT.dS' ht hs pl pu (by rw[hlen];exact hw) ?_ (by rw[hlen];exact hz)
 rw[hlen]
 refine⟨.ref s.heap.objs.size,_,I.laid (t':=s.toks) (o:=.tup (jk' xs lo hi)) (fun b ob q=>aj _ q) (ai _) ?_,rfl,q _ (I.hok.fresh (ai _))⟩
 exact⟨aI (en' xs lo hi) hz,_,(r.drop (HT.sIx xs.length 0 lo)).take (HT.sIx xs.length xs.length hi-HT.sIx xs.length 0 lo),oo'.new _ _⟩
def sz' (K:W.Frag):R2:=fun x y H Q=>∃a b xs ys,x=.ref a/\y=.ref b/\SqT K H a xs/\SqT K H b ys/\xs≠[]/\xs.length+ys.length<=sizeLine/\
 (ys=[]->Q (.ref a) H)/\(ys≠[]->∀p,H p=none->Q (.ref p) (upd H p (.tup (xs++ys))))
theorem aC'.nil_iff {xs:List V} {us:List Value} (r:aC' xs us):us=[]↔xs=[]:=by
 cases r with
 |nil=>simp
 |cons _ _=>simp
theorem pV':OpR X (binaryOp .Add) (sz' X.K):=by
 intro pins s σ H x y v u Q I rx ry h
 obtain⟨a,b,xs,ys,rfl,rfl,ha,hb,hx,hz,q1,q2⟩:=h
 cases rx
 cases ry
 obtain⟨its,r1,p1,_⟩:=I.tuple ha
 obtain⟨its2,r2,p2,_⟩:=I.tuple hb
 refine HT.pR' p1 p2 (fun z=>hx (r1.nil_iff.mp z)) (fun z=>⟨.ref a,H,I,rfl,q1 (r2.nil_iff.mp z)⟩) (fun z=>?_) (by rw[<- r1.length,<- r2.length];exact hz)
 refine⟨.ref s.heap.objs.size,_,I.laid (t':=s.toks) (o:=.tup (xs++ys)) (fun b ob q=>aj _ q) (ai _) ?_,rfl,q2 (fun w=>z (r2.nil_iff.mpr w)) _ (I.hok.fresh (ai _))⟩
 exact⟨by rw[al];exact hz,_,r1.append r2,oo'.new _ _⟩
end
def ixN (n:Nat) (i:Int):Option Nat:=if 0<=i then(if i<n then some i.toNat else none)else if -(n:Int)<=i then some (i+n).toNat else none
def atI {α:Type} (xs:List α) (i:Int):Option α:=(ixN xs.length i).bind fun j=>xs[j]?
theorem jJ' {n:Nat} {i:Int} {j:Nat} (h:ixN n i=some j):seqIndex? i n=some j/\j<n/\-(n:Int)<=i/\i<n:=by
 unfold ixN at h
 by_cases h0:0<=i
 .rw[if_pos h0]at h
  by_cases h1:i<n
  .rw[if_pos h1]at h
   have e:i.toNat=j:=Option.some.inj h
   exact⟨by rw[seqIndex_of h0 h1,e],by omega,by omega,h1⟩
  .rw[if_neg h1]at h;cases h
 .rw[if_neg h0]at h
  by_cases h1:-(n:Int)<=i
  .rw[if_pos h1]at h
   have e:(i+n).toNat=j:=Option.some.inj h
   exact⟨by rw[seqIndex_neg (by omega) h1,e],by omega,h1,by omega⟩
  .rw[if_neg h1]at h;cases h
theorem fi' {α:Type} {xs:List α} {i:Int} {v:α} (h:atI xs i=some v):∃j,seqIndex? i xs.length=some j/\xs[j]?=some v/\j<xs.length/\-(xs.length:Int)<=i/\i<xs.length:=by
 unfold atI at h
 cases e:ixN xs.length i with
 |none=>rw[e]at h;cases h
 |some j=>
  rw[e]at h
  obtain⟨h1,h2,h3,h4⟩:=jJ' e
  exact⟨j,h1,h,h2,h3,h4⟩
theorem aY' {α:Type} {xs:List α} {j:Nat} {v:α} (h:xs[j]?=some v):atI xs (j:Int)=some v:=by
 have hj:j<xs.length:=(aR.mp h).1
 have e:ixN xs.length (j:Int)=some j:=by
  unfold ixN
  rw[if_pos (by omega),if_pos (by omega)];simp
 unfold atI;rw[e];exact h
def jK' (b:Expr):Prop:=∀o i,subscripted b false o i=operate [o,i] (getItem o i)
def IxR (X:Cx) (r:R2):Prop:=
 ∀(value slice:Expr) (pins:List (Addr×Obj)) (s:Shared) (σ:St) (H:Hp) (x y:V) (v u:Value) (Q:VK),Inv X pins σ H s->aG' x v->aG' y u->r x y H Q->
  subscripted slice false v u=operate [v,u] (getItem v u)->wpAny (model X.prog X.w) X.A (subscriptTail value slice v u) (EP X pins σ Q) X.xe s
def MtR (X:Cx) (id:String) (r:V->List V->Hp->VK->Prop):Prop:=
 ∀(pins:List (Addr×Obj)) (s:Shared) (σ:St) (H:Hp) (x:V) (xs:List V) (v:Value) (us:List Value) (Q:VK),Inv X pins σ H s->aG' x v->aC' xs us->r x xs H Q->
  wpAny (model X.prog X.w) X.A (call (.builtin id) (v :: us)) (EP X pins σ Q) X.xe s
section
variable {X:Cx} {a b:Expr} {ta tb:TE} {pos:Pos}
theorem IxR.or {r r':R2} (h:IxR X r) (h':IxR X r'):IxR X (fun x y H Q=>r x y H Q\/r' x y H Q):=by
 intro value slice pins s σ H x y v u Q I rx ry q hs
 rcases q with q|q
 .exact h value slice pins s σ H x y v u Q I rx ry q hs
 .exact h' value slice pins s σ H x y v u Q I rx ry q hs
theorem wJ' {r:R2} (hr:IxR X r) (ha:PE X a ta) (hb:PE X b tb) (hs:jK' b):PE X (.Subscript a b pos) (tOp r ta tb):=by
 intro pins s σ H Q I h
 exact Subscript_ (wv' ha hb I h fun v u s2 x y H2 I2 rx ry q=>hr a b pins s2 σ H2 x y v u Q I2 rx ry q (hs _ _))
def e0' (K:W.Frag):R2:=fun x y H Q=>∃p xs i v,x=.ref p/\y=.int i/\SqL K H p xs/\atI xs i=some v/\Q v H
def gR' (K:W.Frag):R2:=fun x y H Q=>∃p xs i v,x=.ref p/\y=.int i/\SqT K H p xs/\atI xs i=some v/\Q v H
def yp':R2:=fun x y H Q=>∃z i c,x=.str z/\y=.int i/\z.length<=sizeLine/\atI z.cps.toList i=some c/\Q (.str ⟨#[c]⟩) H
theorem pW':IxR X (e0' X.K):=by
 intro value slice pins s σ H x y v u Q I rx ry h hs
 obtain⟨p,xs,i,z,rfl,rfl,hq,he,q⟩:=h
 cases rx
 obtain⟨t,rfl⟩:=ry
 obtain⟨its,r,pl,hz⟩:=I.list hq
 obtain⟨j,h1,h2,h3,h4,h5⟩:=fi' he
 obtain⟨w,ew,rw'⟩:=r.get h2
 have hl:=r.length
 have hn:=el'
 have fin:EP X pins σ Q w s:=⟨z,H,I,rw',q⟩
 by_cases h0:0<=i
 .have hj:i.toNat=j:=by
   rw[seqIndex_of h0 h5]at h1
   exact Option.some.inj h1
  exact item_listR pl.isList h0 (by omega) (by rw[hj];simpa using ew) fin hs
 .have hj:(i+(its.toArray.size:Int)).toNat=j:=by
   rw[seqIndex_neg (by omega) h4]at h1
   rw[ag,<- hl]
   exact Option.some.inj h1
  exact subscriptTail_builtinR (x:=w) pl.isList.typeIs slot_list_getitem.lookup
   (wpAny_getItem_list_neg (Q:=fun r s'=>r=w/\EP X pins σ Q r s') pl.isList (by omega) (by rw[ag]<;>omega) (by omega) (by rw[hj];simpa using ew) ⟨rfl,fin⟩) hs
theorem sA':IxR X (gR' X.K):=by
 intro value slice pins s σ H x y v u Q I rx ry h hs
 obtain⟨p,xs,i,z,rfl,rfl,hq,he,q⟩:=h
 cases rx
 obtain⟨t,rfl⟩:=ry
 obtain⟨its,r,pl,hz⟩:=I.tuple hq
 obtain⟨j,h1,h2,h3,h4,h5⟩:=fi' he
 obtain⟨w,ew,rw'⟩:=r.get h2
 have hl:=r.length
 have hn:=el'
 have fin:EP X pins σ Q w s:=⟨z,H,I,rw',q⟩
 exact subscriptTail_builtinR (x:=w) pl.typeIs slot_tuple_getitem.lookup
  (getItem_tuple (j:=j) (Q:=fun r s'=>r=w/\EP X pins σ Q r s') pl (by omega) (by omega) (by rw[ag,<- hl];exact h1) (by simpa using ew) ⟨rfl,fin⟩) hs
theorem sB':IxR X yp':=by
 intro value slice pins s σ H x y v u Q I rx ry h hs
 obtain⟨z,i,c,rfl,rfl,hz,he,q⟩:=h
 obtain⟨t,rfl⟩:=rx
 obtain⟨t',rfl⟩:=ry
 obtain⟨j,h1,h2,h3,h4,h5⟩:=fi' he
 have hl:z.cps.toList.length=z.length:=by simp[Str.length]
 rw[hl]at h1 h4 h5
 have hn:=el'
 exact tail_any (typeIs_str s z t) slot_str_getitem.lookup (getItem_str (c:=c) (by
  have e1:decide (i < -(2 ^ 63:Int))=false:=decide_eq_false (by omega)
  have e2:decide (i ≥ 2 ^ 63)=false:=decide_eq_false (by omega)
  rw[e1,e2,Bool.or_false]) (by rw[h1];simpa using h2) ⟨.str ⟨#[c]⟩,H,I.tok _,⟨_,rfl⟩,q⟩) hs
def rIx (K:W.Frag):R2:=fun x y H Q=>e0' K x y H Q\/gR' K x y H Q\/yp' x y H Q
theorem sC':IxR X (rIx X.K):=pW'.or (sA'.or sB')
theorem iM' (its:List Value) (n j:Nat) (u:Value):Obj.mapSeq (·.setIfInBounds j u) { cls:=.type "list",data:=.seq its.toArray n }={ cls:=.type "list",data:=.seq (its.set j u).toArray n }:=by
 simp[Obj.mapSeq]
theorem Inv.lst {pins:List (Addr×Obj)} {σ:St} {H:Hp} {s:Shared} {p:Addr} {xs:List V} (I:Inv X pins σ H s) (h:H p=some (.lst xs)):
  ∃(its:List Value) (n:Nat),aC' xs its/\s.heap.get? p=some { cls:=.type "list",data:=.seq its.toArray n }/\xs.length<=sizeLine:=by
 obtain⟨z,its,n,r,e⟩:=I.hok p _ h
 exact⟨its,n,r,e,z⟩
theorem Inv.lstUpd {pins:List (Addr×Obj)} {σ:St} {H:Hp} {s:Shared} {p:Addr} {xs ys:List V} {its its':List Value} {n n':Nat} {f:Obj->Obj} (I:Inv X pins σ H s) (h:H p=some (.lst xs))
  (ho:s.heap.get? p=some { cls:=.type "list",data:=.seq its.toArray n }) (hf:f { cls:=.type "list",data:=.seq its.toArray n }={ cls:=.type "list",data:=.seq its'.toArray n' }) (r:aC' ys its') (hz:ys.length<=sizeLine) (t:Nat):
  Inv X pins σ (upd H p (.lst ys)) { s with heap:=s.heap.update p f,toks:=t }:=by
 have e:(s.heap.update p f).get? p=some { cls:=.type "list",data:=.seq its'.toArray n' }:=by
  rw[Heap.get?_update_self f ho (by rw[hf]<;>rfl),hf]
 refine I.write (x:=p) (e:=p) (by rw[h];trivial) (.inl rfl) (fun b u hb q=>(Heap.get?_update_other _ _ (Ne.symm hb)).trans q) ⟨_,e⟩ ?_
 exact⟨hz,its',n',r,e⟩
def dw':V->V->V->Hp->(Hp->Prop)->Prop:=fun o i v H Q=>∃p xs k j,o=.ref p/\i=.int k/\H p=some (.lst xs)/\ixN xs.length k=some j/\Q (upd H p (.lst (xs.set j v)))
theorem fj':wo' X dw':=by
 intro pins s σ H o i v ov iv u Q I ro ri rv h
 obtain⟨p,xs,k,j,rfl,rfl,hp,hj,q⟩:=h
 cases ro
 obtain⟨t,rfl⟩:=ri
 obtain⟨its,n,r,ho,hz⟩:=I.lst hp
 obtain⟨h1,h2,h3,h4⟩:=jJ' hj
 have hl:=r.length
 have hn:=el'
 have I':Inv X pins σ (upd H p (.lst (xs.set j v))) { s with heap:=s.heap.update p (Obj.mapSeq (·.setIfInBounds j u)) }:=
  I.lstUpd hp ho (iM' its n j u) (r.set rv j) (by rw[List.length_set];exact hz) s.toks
 by_cases h0:0<=k
 .have hk:k.toNat=j:=by
   rw[seqIndex_of h0 h4]at h1
   exact Option.some.inj h1
  exact W.ki_setAt ho h0 (by omega) (by rw[ag,<- hl];exact h4) (by rw[hk];exact⟨_,I',q⟩)
 .have hk:(k+(its.toArray.size:Int)).toNat=j:=by
   rw[seqIndex_neg (by omega) h3]at h1
   rw[ag,<- hl]
   exact Option.some.inj h1
  exact W.ki_setBack ho (by omega) (by rw[ag,<- hl];exact h3) (by omega) (by rw[hk];exact⟨_,I',q⟩)
theorem fZ' (lo hi:Option Int) (n:Nat):(sliceBounds lo hi none n).1=((HT.sIx n 0 lo:Nat):Int)/\(sliceBounds lo hi none n).2.1=((HT.sIx n n hi:Nat):Int)/\(sliceBounds lo hi none n).2.2=1:=by
 refine⟨?_,?_,rfl⟩
 .cases lo with
  |none=>simp[sliceBounds,HT.sIx]
  |some i=>
   simp only[sliceBounds,HT.sIx,Option.getD_none,show(1:Int) > 0 by decide,if_true]
   by_cases h:i<0
   .simp only[h,if_true]<;>omega
   .simp only[h,if_false]<;>omega
 .cases hi with
  |none=>simp[sliceBounds,HT.sIx]
  |some i=>
   simp only[sliceBounds,HT.sIx,Option.getD_none,show(1:Int) > 0 by decide,if_true]
   by_cases h:i<0
   .simp only[h,if_true]<;>omega
   .simp only[h,if_false]<;>omega
theorem fk' (its:List Value) (lo hi:Option Int):slicePick its.toArray lo hi none=((its.drop (HT.sIx its.length 0 lo)).take (HT.sIx its.length its.length hi-HT.sIx its.length 0 lo)).toArray:=by
 obtain⟨h1,h2,h3⟩:=fZ' lo hi its.toArray.size
 unfold slicePick
 rw[h1,h2,h3]
 simp only[sliceRange_one,pick_run,ag]<;>rfl
def vX' (K:W.Frag):V->Option Int->Option Int->Hp->VK->Prop:=fun x lo hi H Q=>∃a xs,x=.ref a/\SqL K H a xs/\∀p,H p=none->Q (.ref p) (upd H p (.lst (jk' xs lo hi)))
theorem pX':SlR X (vX' X.K):=by
 intro pins s σ H x v vl vu lo hi sl Q I rx hs pl pu h
 obtain⟨a,xs,rfl,hx,q⟩:=h
 cases rx
 obtain⟨its,r,ht,hz⟩:=I.list hx
 have hlen:=r.length
 refine⟨"list",_,slot_list_getitem.lookup,ht.isList.typeIs,?_⟩
 refine wpAny_getItem_list_slice ht.isList hs pl pu .none (by simp) ?_ (by rw[ag]<;>omega)
 rw[fk',<- hlen]
 refine⟨.ref s.heap.objs.size,_,I.laid (t':=s.toks) (o:=.lst (jk' xs lo hi)) (fun b ob q=>aj _ q) (ai _) ?_,rfl,q _ (I.hok.fresh (ai _))⟩
 exact⟨aI (en' xs lo hi) hz,_,0,(r.drop (HT.sIx xs.length 0 lo)).take (HT.sIx xs.length xs.length hi-HT.sIx xs.length 0 lo),aC _ rfl⟩
def f0':V->Bool
 | .non=>true
 | .bl _=>true
 | .int _=>true
 | .str _=>true
 |_=>false
def eqV:V->V->Bool
 | .non,.non=>true
 | .bl a,.bl b=>a == b
 | .bl a,.int b=>(if a then 1 else 0) == b
 | .int a,.bl b=>a == (if b then 1 else 0)
 | .int a,.int b=>a == b
 | .str a,.str b=>a == b
 |_,_=>false
theorem sD' {A:Around} {s:Shared} {y x:V} {u v:Value} (ry:aG' y u) (rx:aG' x v) (fy:f0' y=true) (fx:f0' x=true):SeqAt.EqAt A s u v (eqV y x):=by
 cases y with
 |non=>
  cases ry
  cases x with
  |non=>cases rx;exact SeqAt.EqAt.same _
  |bl b=>cases rx;exact SeqAt.EqAt.none_bool b
  |int b=>obtain⟨t,rfl⟩:=rx;exact SeqAt.EqAt.none_int b t
  |str b=>obtain⟨t,rfl⟩:=rx;exact SeqAt.EqAt.none_str b t
  |_=>exact absurd (show false=true from fx) aq
 |bl a=>
  cases ry
  cases x with
  |non=>cases rx;exact SeqAt.EqAt.bool_none a
  |bl b=>cases rx;exact SeqAt.EqAt.bool_bool a b
  |int b=>obtain⟨t,rfl⟩:=rx;exact SeqAt.EqAt.bool_int a b t
  |str b=>obtain⟨t,rfl⟩:=rx;exact SeqAt.EqAt.bool_str a b t
  |_=>exact absurd (show false=true from fx) aq
 |int a=>
  obtain⟨t',rfl⟩:=ry
  cases x with
  |non=>cases rx;exact SeqAt.EqAt.int_none a t'
  |bl b=>cases rx;exact SeqAt.EqAt.int_bool a t' b
  |int b=>obtain⟨t,rfl⟩:=rx;exact SeqAt.EqAt.int_int a t' b t
  |str b=>obtain⟨t,rfl⟩:=rx;exact SeqAt.EqAt.int_str a t' b t
  |_=>exact absurd (show false=true from fx) aq
 |str a=>
  obtain⟨t',rfl⟩:=ry
  cases x with
  |non=>cases rx;exact SeqAt.EqAt.str_none a t'
  |bl b=>cases rx;exact SeqAt.EqAt.str_bool a t' b
  |int b=>obtain⟨t,rfl⟩:=rx;exact SeqAt.EqAt.str_int a t' b t
  |str b=>obtain⟨t,rfl⟩:=rx;exact SeqAt.EqAt.str_str a t' b t
  |_=>exact absurd (show false=true from fx) aq
 |_=>exact absurd (show false=true from fy) aq
def eqU (x:V) (u:Value):Bool:=match u with
 | .none=>eqV .non x
 | .bool b=>eqV (.bl b) x
 | .int i _=>eqV (.int i) x
 | .str z _=>eqV (.str z) x
 |_=>false
theorem oB' {x y:V} {u:Value} (r:aG' y u) (f:f0' y=true):eqU x u=eqV y x:=by
 cases y with
 |non=>cases r;rfl
 |bl b=>cases r;rfl
 |int i=>obtain⟨t,rfl⟩:=r;rfl
 |str z=>obtain⟨t,rfl⟩:=r;rfl
 |_=>exact absurd (show false=true from f) aq
theorem eo' {x:V}:∀{xs:List V} {us:List Value},aC' xs us->xs.all f0'=true->us.any (eqU x)=xs.any fun y=>eqV y x
 |_,_,.nil,_=>rfl
 |y :: xs,u :: us,.cons r t,f=>by
  rw[List.all_cons,ac]at f
  rw[cm,cm,oB' r f.1,eo' t f.2]
theorem dx' {A:Around} {s:Shared} {x:V} {v:Value} (rx:aG' x v) (fx:f0' x=true):∀{xs:List V} {us:List Value},aC' xs us->xs.all f0'=true->∀u∈us,SeqAt.EqAt A s u v (eqU x u)
 |_,_,.nil,_=>fun u hu=>by cases hu
 |y :: xs,u :: us,.cons r t,f=>fun u' hu=>by
  rw[List.all_cons,ac]at f
  rcases ak.mp hu with rfl|hu
  .rw[oB' r f.1];exact sD' r rx f.1 fx
  .exact dx' rx fx t f.2 u' hu
def inV (x:V) (xs:List V):Bool:=xs.any fun y=>eqV y x
def rIn (K:W.Frag) (neg:Bool):R2:=fun x y H Q=>∃p xs,y=.ref p/\(SqL K H p xs\/SqT K H p xs)/\f0' x=true/\xs.all f0'=true/\Q (.bl (if neg then !inV x xs else inV x xs)) H
theorem jL':OpR X (compareOp .In) (rIn X.K false):=by
 intro pins s σ H x y v u Q I rx ry h
 obtain⟨p,xs,rfl,hq,fx,fs,q⟩:=h
 cases ry
 rcases hq with hq|hq
 .obtain⟨its,r,pl,hz⟩:=I.list hq
  refine SeqAt.in_listAt (eqU x) pl.isList (fun w hw=>dx' rx fx r fs w (by simpa using hw)) ⟨.bl _,H,I,rfl,?_⟩
  rw[show its.toArray.any (eqU x)=its.any (eqU x) by simp,eo' r fs]
  exact q
 .obtain⟨its,r,pl,hz⟩:=I.tuple hq
  refine SeqAt.in_tupleAt (eqU x) pl (fun w hw=>dx' rx fx r fs w (by simpa using hw)) ⟨.bl _,H,I,rfl,?_⟩
  rw[show its.toArray.any (eqU x)=its.any (eqU x) by simp,eo' r fs]
  exact q
theorem f1':OpR X (compareOp .NotIn) (rIn X.K true):=by
 intro pins s σ H x y v u Q I rx ry h
 obtain⟨p,xs,rfl,hq,fx,fs,q⟩:=h
 cases ry
 rcases hq with hq|hq
 .obtain⟨its,r,pl,hz⟩:=I.list hq
  refine SeqAt.notIn_listAt (eqU x) pl.isList (fun w hw=>dx' rx fx r fs w (by simpa using hw)) ⟨.bl _,H,I,rfl,?_⟩
  rw[show its.toArray.any (eqU x)=its.any (eqU x) by simp,eo' r fs]
  exact q
 .obtain⟨its,r,pl,hz⟩:=I.tuple hq
  refine SeqAt.notIn_tupleAt (eqU x) pl (fun w hw=>dx' rx fx r fs w (by simpa using hw)) ⟨.bl _,H,I,rfl,?_⟩
  rw[show its.toArray.any (eqU x)=its.any (eqU x) by simp,eo' r fs]
  exact q
theorem aX'.or {f:Value} {r r':List V->Hp->VK->Prop} (h:aX' X f r) (h':aX' X f r'):aX' X f (fun xs H Q=>r xs H Q\/r' xs H Q):=by
 intro pins s σ H xs us Q I rs q
 rcases q with q|q
 .exact h pins s σ H xs us Q I rs q
 .exact h' pins s σ H xs us Q I rs q
theorem f3':aX' X (.type "list") (fun xs H Q=>∃p ys,xs=[.ref p]/\(SqL X.K H p ys\/SqT X.K H p ys)/\∀l,H l=none->Q (.ref l) (upd H l (.lst ys))):=by
 intro pins s σ H xs us Q I r h
 obtain⟨p,ys,rfl,hq,q⟩:=h
 obtain⟨u,rfl,rx⟩:=dR' r
 cases rx
 have fin:∀(its:List Value),aC' ys its->ys.length<=sizeLine->∀(h':Heap) (c':Nat),(∀b o',s.heap.get? b=some o'->h'.get? b=some o')->
   h'.get? s.heap.objs.size=some { cls:=.type "list",dict:=none,data:=.seq its.toArray c',slots:=#[] }->EP X pins σ Q (.ref s.heap.objs.size) { s with heap:=h' }:=fun its r' hz h' c' kp e=>
  ⟨.ref s.heap.objs.size,_,I.laid (t':=s.toks) kp (ai _) (show aD' X.prog X.w _ h' _ (.lst ys) from⟨hz,its,c',r',e⟩),rfl,q _ (I.hok.fresh (ai _))⟩
 rcases hq with hq|hq
 .obtain⟨its,r',pl,hz⟩:=I.list hq
  have hlen:=r'.length
  obtain⟨o,ho,hc,n,hd⟩:=pl.isList
  exact call_list_seq p (.inl rfl) ho hc hd (fun h' c' kp e=>fin its r' hz h' c' kp e) (by simp only[ag]<;>omega)
 .obtain⟨its,r',pl,hz⟩:=I.tuple hq
  have hlen:=r'.length
  obtain⟨o,ho,hc,n,hd⟩:=pl
  exact call_list_seq p (.inr rfl) ho hc hd (fun h' c' kp e=>fin its r' hz h' c' kp e) (by simp only[ag]<;>omega)
theorem fl':aX' X (.type "tuple") (fun xs H Q=>∃p ys,xs=[.ref p]/\((SqL X.K H p ys/\∀l,H l=none->Q (.ref l) (upd H l (.tup ys)))\/(SqT X.K H p ys/\Q (.ref p) H))):=by
 intro pins s σ H xs us Q I r h
 obtain⟨p,ys,rfl,h⟩:=h
 obtain⟨u,rfl,rx⟩:=dR' r
 cases rx
 rcases h with⟨hq,q⟩|⟨hq,q⟩
 .obtain⟨its,r',pl,hz⟩:=I.list hq
  have hlen:=r'.length
  refine call_tuple_list pl.isList (fun h' kp=>?_) (by simp only[ag]<;>omega)
  have I1:Inv X pins σ H { s with heap:=h' }:=I.kept (t':=s.toks) kp
  have I2:Inv X pins σ (upd H h'.objs.size (.tup ys)) { s with heap:=h'.push { cls:=.type "tuple",data:=.seq its.toArray } }:=
   I1.laid (t':=s.toks) (fun b o e=>aj _ e) (ai _) (show aD' X.prog X.w _ _ _ (.tup ys) from⟨hz,its,r',oo'.new _ _⟩)
  exact⟨.ref h'.objs.size,_,I2,rfl,q _ (I1.hok.fresh (ai _))⟩
 .obtain⟨its,r',pl,hz⟩:=I.tuple hq
  exact call_tuple_same pl ⟨.ref p,H,I,rfl,q⟩
def tyV (K:W.Frag) (T:String) (x:V) (H:Hp):Prop:=match x with
 | .str _=>T="str"
 | .int _=>T="int"
 | .ref p=>(T="list"/\∃xs,SqL K H p xs)\/(T="tuple"/\((∃o,K.lookup p=some o/\o.cls=.type "tuple"/\o.dict=none)\/∃xs,H p=some (.tup xs)))\/
   (T="dict"/\((∃kvs,H p=some (.dK kvs))\/∃kvs,H p=some (.dT kvs)))\/(T="set"/\∃S n,H p=some (.set S n))
 |_=>False
theorem oC' {pins:List (Addr×Obj)} {σ:St} {H:Hp} {s:Shared} {T:String} {x:V} {v:Value} (I:Inv X pins σ H s) (r:aG' x v) (ty:tyV X.K T x H):
  s.TypeIs v T/\∀a,v=.ref a->∃ob,s.heap.get? a=some ob/\ob.dict=none:=by
 cases x with
 |str z=>
  obtain⟨t,rfl⟩:=r
  cases(show T="str" from ty)
  exact⟨typeIs_str s z t,fun _ e=>nomatch e⟩
 |int i=>
  obtain⟨t,rfl⟩:=r
  cases(show T="int" from ty)
  exact⟨typeIs_int s i t,fun _ e=>nomatch e⟩
 |ref p=>
  cases r
  rcases ty with⟨rfl,xs,hq⟩|⟨rfl,⟨o,hk,hc,hd⟩|⟨xs,hk⟩⟩|⟨rfl,hk⟩|⟨rfl,S,n,hk⟩
  .obtain⟨its,_,pl,_⟩:=I.list hq
   refine⟨pl.isList.typeIs,fun a e=>?_⟩
   cases e
   obtain⟨o,n,e,c,hd,_⟩:=pl
   exact⟨o,e,hd⟩
  .refine⟨⟨o,I.kIn p o hk,hc⟩,fun a e=>?_⟩
   cases e
   exact⟨o,I.kIn _ o hk,hd⟩
  .obtain⟨_,_,_,o,e,c,_,hd⟩:=I.hok p _ hk
   refine⟨⟨o,e,c⟩,fun a e2=>?_⟩
   cases e2
   exact⟨o,e,hd⟩
  .have z:∃o,s.heap.get? p=some o/\o.ExactDict:=by
    rcases hk with⟨kvs,hk⟩|⟨kvs,hk⟩
    .obtain⟨_,_,_,_,o,_,_,e,ex,_⟩:=I.hok p _ hk
     exact⟨o,e,ex⟩
    .obtain⟨_,_,_,_,o,_,_,e,ex,_⟩:=I.hok p _ hk
     exact⟨o,e,ex⟩
   obtain⟨o,e,ex⟩:=z
   refine⟨⟨o,e,ex.1⟩,fun a e2=>?_⟩
   cases e2
   exact⟨o,e,ex.2.1⟩
  .obtain⟨o,_,_,_,e,ex,_⟩:=I.hok p _ hk
   refine⟨⟨o,e,ex.1⟩,fun a e2=>?_⟩
   cases e2
   exact⟨o,e,ex.2.1⟩
 |_=>exact False.elim ty
def y5' (K:W.Frag) (T:String) (r:V->List V->Hp->VK->Prop) (to:TE):TE:=fun σ H Q=>to σ H fun x H1=>tyV K T x H1/\r x [] H1 Q
def tBM (K:W.Frag) (T:String) (r:V->List V->Hp->VK->Prop) (to:TE) (t:TA):TE:=fun σ H Q=>to σ H fun x H1=>tyV K T x H1/\t σ H1 fun xs H2=>r x xs H2 Q
variable {o e:Expr} {es:List Expr} {to:TE} {t:TA} {name:Str} {apos cpos:Pos} {T id:String} {r:V->List V->Hp->VK->Prop}
theorem sE' (pa:PlainAttrs T) (slot:Slot T name id) (hty:typeOf (.builtin id)=pure (.type "method_descriptor")) (hm:MtR X id r) (ho:PE X o to)
  (hbase:attributeBase o name X.env (eval o X.env)=eval o X.env:=by rfl) (hline:(apos.endLine == cpos.line)=true:=by rfl):PE X (.Call (.Attribute o name apos) [] [] cpos) (y5' X.K T r to):=by
 intro pins s σ H Q I h
 refine wpAny_Call_method0_late hbase hline (thn (ho pins s σ H _ I h) fun v s1 ⟨x,H1,I1,r1,ty,q1⟩=>?_)
 obtain⟨h1,h2⟩:=oC' I1 r1 ty
 exact⟨T,id,pa,slot,hty,h1,h2,Calls.callWith_builtin rfl (PySem.evalArgs_none (hm pins s1 σ H1 x [] v [] Q I1 r1 .nil q1))⟩
theorem wK' (pa:PlainAttrs T) (slot:Slot T name id) (hty:typeOf (.builtin id)=pure (.type "method_descriptor")) (hm:MtR X id r) (ho:PE X o to) (ha:PA X (e :: es) t)
  (hbase:attributeBase o name X.env (eval o X.env)=eval o X.env:=by rfl)
  (hfew:((backTo cpos (starEach (e :: es) X.env)).all (fun x=>!x.1)&&(backToKw cpos (keywordEach [] X.env)).all (fun x=>x.1.isSome)
   && decide ((e :: es).length+([]:List Keyword).length+(if([]:List Keyword).isEmpty then 0 else 1)<30))=true:=by rfl)
  (hline:(apos.endLine == cpos.line)=true:=by rfl) (hs:starEach (e :: es) X.env=(false,eval e X.env) :: starEach es X.env:=by rfl) (hplain:(backTo cpos (starEach es X.env)).any (·.1)=false:=by rfl):
  PE X (.Call (.Attribute o name apos) (e :: es) [] cpos) (tBM X.K T r to t):=by
 intro pins s σ H Q I h
 refine wpAny_Call_method_late hbase hfew hline rfl (thn (ho pins s σ H _ I h) fun v s1 ⟨x,H1,I1,r1,ty,q1⟩=>?_)
 obtain⟨h1,h2⟩:=oC' I1 r1 ty
 refine⟨T,id,pa,slot,hty,h1,h2,?_⟩
 have hA:=ha cpos pins s1 σ H1 _ I1 q1
 rw[hs]at hA ⊢
 refine Calls.callWith_builtin (by show(false || (backTo cpos (starEach es X.env)).any (·.1))=false;rw[hplain]<;>rfl) (Calls.evalArgs_plain ?_)
 exact thn hA fun us s2 ⟨vs,H2,I2,r2,q2⟩=>hm pins s2 σ H2 x vs v us Q I2 r1 r2 q2
end
def MtM (X:Cx) (id:String) (r:V->List V->Hp->VK->Prop):Prop:=
 ∀(pins:List (Addr×Obj)) (s:Shared) (σ:St) (H:Hp) (x:V) (xs:List V) (v:Value) (us:List Value) (Q:VK),Inv X pins σ H s->aG' x v->aC' xs us->r x xs H Q->
  wpAny (model X.prog X.w) X.A (call (.builtin id) (v :: us)) (EP X pins σ Q) X.xe s
theorem aC'.one:∀{x:V} {us:List Value},aC' [x] us->∃u,us=[u]/\aG' x u
 |_,_,.cons r .nil=>⟨_,rfl,r⟩
theorem aC'.zero:∀{us:List Value},aC' [] us->us=[]
 |_,.nil=>rfl
theorem aC'.dropLast {xs:List V} {us:List Value} (h:aC' xs us):aC' xs.dropLast us.dropLast:=by
 induction h with
 |nil=>exact .nil
 |cons r t ih=>
  cases t with
  |nil=>exact .nil
  |cons q t'=>exact .cons r ih
theorem aC'.reverse {xs:List V} {us:List Value} (h:aC' xs us):aC' xs.reverse us.reverse:=by
 induction h with
 |nil=>exact .nil
 |cons r t ih=>rw[List.reverse_cons,List.reverse_cons];exact aC'.append ih (.cons r .nil)
theorem aC'.rep {xs:List V} {us:List Value} (h:aC' xs us):∀k:Nat,aC' (ao k xs).flatten (ao k us).flatten
 |0=>.nil
 |k+1=>by
  rw[bv,bv,bw,bw]
  exact aC'.append h (aC'.rep h k)
theorem iN' {α:Type} (l:List α):l.eraseIdx (l.length-1)=l.dropLast:=by
 induction l with
 |nil=>rfl
 |cons a r ih=>
  cases r with
  |nil=>rfl
  |cons b r=>
   have e:(a :: b :: r).length-1=((b :: r).length-1)+1:=by
    have h1:(a :: b :: r).length=r.length+2:=rfl
    have h2:(b :: r).length=r.length+1:=rfl
    omega
   rw[e,List.eraseIdx_cons_succ,ih]
   all_goals rfl
theorem f4' (its:List Value):∀(k:Nat) (acc:List Value),
  List.foldl (fun x1 x2=>x1++x2) acc.toArray (ao k its.toArray)=(acc++(ao k its).flatten).toArray
 |0,acc=>by simp
 |k+1,acc=>by
  have e:acc.toArray++its.toArray=(acc++its).toArray:=by simp
  have e2:(acc++its)++(ao k its).flatten=acc++(ao (k+1) its).flatten:=by
   rw[bv,bw,bm]
  rw[<- e2,<- f4' its k (acc++its),<- e,bv,List.foldl_cons]
section
variable {X:Cx} {pins:List (Addr×Obj)} {σ:St} {H:Hp} {s:Shared} {l b:Addr} {xs ys zs:List V}
theorem Inv.lset {its its':List Value} {n:Nat} {f:Array Value->Array Value} {t':Nat} (I:Inv X pins σ H s) (hH:H l=some (.lst xs))
  (e:s.heap.get? l=some { cls:=.type "list",data:=.seq its.toArray n }) (hf:f its.toArray=its'.toArray) (hv:aC' ys its') (hz:ys.length<=sizeLine):
  Inv X pins σ (upd H l (.lst ys)) { s with heap:=s.heap.update l (Obj.mapSeq f),toks:=t' }:=by
 have q:=PySem.IsL.update e f
 rw[hf]at q
 refine I.write (x:=l) (e:=l) (by rw[hH];exact trivial) (.inl rfl) (fun b' u hb hu=>(Heap.get?_update_other s.heap (Obj.mapSeq f) (Ne.symm hb)).trans hu) ⟨_,q⟩ ?_
 exact⟨hz,its',_,hv,q⟩
theorem Inv.lnew {its:List Value} {t':Nat} (I:Inv X pins σ H s) (hv:aC' ys its) (hz:ys.length<=sizeLine):
  Inv X pins σ (upd H s.heap.objs.size (.lst ys)) { s with heap:=s.heap.push { cls:=.type "list",data:=.seq its.toArray },toks:=t' }:=
 I.laid (fun _ _ q=>aj _ q) (ai _) ⟨hz,its,0,hv,aC _ rfl⟩
theorem Inv.fresh (I:Inv X pins σ H s):H s.heap.objs.size=none:=I.hok.fresh (ai _)
theorem Inv.lstM (I:Inv X pins σ H s) (hH:H l=some (.lst xs)):xs.length<=sizeLine/\∃(its:List Value) (n:Nat),aC' xs its/\xs.length=its.length/\s.heap.get? l=some { cls:=.type "list",data:=.seq its.toArray n }:=by
 obtain⟨z,its,n,r,e⟩:=I.hok l _ hH
 exact⟨z,its,n,r,r.length,e⟩
theorem h4' {n:Nat} (h:n<=sizeLine):Builtin.List.listTooLong n=false:=by
 unfold Builtin.List.listTooLong
 exact decide_eq_false (by omega)
end
section
variable {X:Cx}
def jM':V->List V->Hp->VK->Prop:=fun x vs H Q=>∃l xs y,x=.ref l/\vs=[y]/\H l=some (.lst xs)/\xs.length<sizeLine/\Q .non (upd H l (.lst (xs++[y])))
theorem jN':MtM X "list.append" jM':=by
 intro pins s σ H x vs v us Q I rx rv h
 obtain⟨l,xs,y,rfl,rfl,hH,hz,q⟩:=h
 cases rx
 obtain⟨u,rfl,ru⟩:=rv.one
 obtain⟨z,its,n,r,hl,e⟩:=I.lstM hH
 refine call_meets F.slot_list_append ⟨_,e,rfl⟩ F.entry_list_append (F.args_list_append_2 _ _) (PySem.list_append l its.toArray n u (by rw[ag];omega)) ⟨e,?_⟩
 refine⟨.non,_,I.lset (its':=its++[u]) hH e (by simp) (r.append (.cons ru .nil)) ?_,rfl,q⟩
 rw[al,bL]
 omega
def jO':V->List V->Hp->VK->Prop:=fun x vs H Q=>∃l b xs zs,x=.ref l/\vs=[.ref b]/\H l=some (.lst xs)/\H b=some (.lst zs)/\xs.length+zs.length<=sizeLine/\Q .non (upd H l (.lst (xs++zs)))
theorem jP':MtM X "list.extend" jO':=by
 intro pins s σ H x vs v us Q I rx rv h
 obtain⟨l,b,xs,zs,rfl,rfl,hH,hB,hz,q⟩:=h
 cases rx
 obtain⟨u,rfl,ru⟩:=rv.one
 cases ru
 obtain⟨z,its,n,r,hl,e⟩:=I.lstM hH
 obtain⟨z2,its2,n2,r2,hl2,e2⟩:=I.lstM hB
 have hsz:its.toArray.size+its2.toArray.size<=sizeLine:=by rw[ag,ag];omega
 have hlong:¬(!its.toArray.isEmpty&&Builtin.List.listTooLong (its.toArray.size+its2.toArray.size))=true:=by
  rw[h4' hsz,Bool.and_false]
  exact aq
 refine call_meets F.slot_list_extend ⟨_,e,rfl⟩ F.entry_list_extend (F.args_list_extend_2 _ _)
  (AutoSeq1.list_extend_list_list_0 l its.toArray n b its2.toArray n2 hlong (by rw[ag];omega) (by omega)) ⟨e,e2,?_⟩
 refine⟨.non,_,I.lset (its':=its++its2) hH e (by simp) (r.append r2) ?_,rfl,q⟩
 rw[al]
 omega
def yq':V->List V->Hp->VK->Prop:=fun x vs H Q=>∃l xs y,x=.ref l/\vs=[]/\H l=some (.lst xs)/\xs[xs.length-1]?=some y/\Q y (upd H l (.lst xs.dropLast))
theorem sF':MtM X "list.pop" yq':=by
 intro pins s σ H x vs v us Q I rx rv h
 obtain⟨l,xs,y,rfl,rfl,hH,hy,q⟩:=h
 cases rx
 have hus:=rv.zero
 subst hus
 obtain⟨z,its,n,r,hl,e⟩:=I.lstM hH
 obtain⟨u,hu,ru⟩:=r.get hy
 have hy':its.toArray[its.toArray.size-1]?=some u:=by
  show its.toArray[its.length-1]?=some u
  rw[<- Array.getElem?_toList,<- hl]
  exact hu
 refine call_meets F.slot_list_pop ⟨_,e,rfl⟩ F.entry_list_pop (F.args_list_pop_1 _) (MeetsSeq.list_pop_last l its.toArray n u hy' (by rw[ag];omega)) ⟨e,?_⟩
 refine⟨y,_,I.lset (its':=its.dropLast) hH e ?_ r.dropLast ?_,ru,q⟩
 .show its.toArray.eraseIdxIfInBounds (its.toArray.size-1)=its.dropLast.toArray
  rw[ag,List.eraseIdxIfInBounds_toArray,iN']
 .rw[List.length_dropLast]
  omega
def yr':R2:=fun x y H Q=>∃l b xs zs,x=.ref l/\y=.ref b/\H l=some (.lst xs)/\H b=some (.lst zs)/\xs.length+zs.length<=sizeLine/\∀p,H p=none->Q (.ref p) (upd H p (.lst (xs++zs)))
theorem sG':OpR X (binaryOp .Add) yr':=by
 intro pins s σ H x y v u Q I rx ry h
 obtain⟨l,b,xs,zs,rfl,rfl,hH,hB,hz,q⟩:=h
 cases rx
 cases ry
 obtain⟨z,its,n,r,hl,e⟩:=I.lstM hH
 obtain⟨z2,its2,n2,r2,hl2,e2⟩:=I.lstM hB
 refine PySem.P.add_list e e2 ?_ (by rw[ag,ag];omega)
 have ea:its.toArray++its2.toArray=(its++its2).toArray:=by simp
 rw[ea]
 exact⟨.ref _,_,I.lnew (t':=s.toks) (r.append r2) (by rw[al];omega),rfl,q _ I.fresh⟩
def ys':R2:=fun x y H Q=>∃l k xs,x=.ref l/\y=.int k/\H l=some (.lst xs)/\-(2 ^ 63)<=k/\k<2 ^ 63/\xs.length*k.toNat<=sizeLine/\
 ∀p,H p=none->Q (.ref p) (upd H p (.lst (ao k.toNat xs).flatten))
theorem pY' {α:Type} (xs:List α) (k:Nat):(ao k xs).flatten.length=k*xs.length:=by
 induction k with
 |zero=>simp
 |succ k ih=>rw[bv,bw,al,ih,Nat.succ_mul,Nat.add_comm]
theorem sH':OpR X (binaryOp .Mult) ys':=by
 intro pins s σ H x y v u Q I rx ry h
 obtain⟨l,k,xs,rfl,rfl,hH,h1,h2,hz,q⟩:=h
 cases rx
 obtain⟨t,rfl⟩:=ry
 obtain⟨z,its,n,r,hl,e⟩:=I.lstM hH
 have hlen:its.toArray.size*k.toNat<=sizeLine:=by rw[ag,<- hl];exact hz
 have hcap:¬its.toArray.size*k.toNat > (2 ^ 63-1) / 8:=by
  have:(sizeLine:Nat)<=(2 ^ 63-1) / 8:=by decide
  omega
 have hfit:¬(!Builtin.List.listFitsIndex k)=true:=by
  rw[fitsIndex_both h1 h2]
  exact aq
 have hlong:¬Builtin.List.listTooLong (its.toArray.size*k.toNat)=true:=by
  rw[h4' hlen]
  exact aq
 have hnew:List.foldl (fun x1 x2=>x1++x2) #[] (ao (if its.toArray.isEmpty=true then 0 else k.toNat) its.toArray)=(ao k.toNat its).flatten.toArray:=by
  have f0:∀m:Nat,List.foldl (fun x1 x2=>x1++x2) #[] (ao m its.toArray)=(ao m its).flatten.toArray:=fun m=>by
   have:=f4' its m []
   rw[List.nil_append]at this
   exact this
  rw[f0]
  cases its with
  |nil=>simp
  |cons a r'=>rw[if_neg (by simp)]
 refine wpAny_binaryOp_repeat_ref (T:="list") (U:="int") (by decide) ⟨_,e,rfl⟩ (fun s'=>typeIs_int s' k t) noFill_list_mul F.fills_int_mul F.slot_int_rmul repeat_list F.slot_int_index.lookup
  (call_meets F.slot_int_rmul (typeIs_int s k t) F.entry_int_rmul (F.args_int_rmul_2 _ _) (int___rmul___int_list k t l its.toArray n)
   ⟨e,rfl,⟨_,e,rfl⟩,call_meets F.slot_list_mul ⟨_,e,rfl⟩ F.entry_list_mul (F.args_list_mul_2 _ _) (AutoListH.list___mul___list_int_3 l its.toArray n k t hfit hcap hlong) ⟨e,?_⟩⟩)
 rw[hnew]
 exact⟨.ref _,_,I.lnew (t':=s.toks) (r.rep k.toNat) (by rw[pY',bV];exact hz),rfl,q _ I.fresh⟩
end
section
variable {prog:Program} {w:World} {A:Around} {E:Value->Shared->Prop} {s:Shared}
end
section
variable {X:Cx}
end
end L2
namespace Att
open PySem PySem.W PySem.Calls PyProof.Rows
theorem eq' {P:Params} {h:Heap}:∀(ns:List Int) (vs:List Value),WellAll P h vs (ns.map WData.int)->IntsAre vs ns:=by
 intro ns
 induction ns with
 |nil=>
  intro vs w
  rw[List.map_nil]at w
  cases w
  exact .nil
 |cons n ns ih=>
  intro vs w
  rw[aH]at w
  cases w with
  |cons a b=>
   cases a
   exact .cons _ _ (ih _ b)
theorem jQ' {l:OpenLaw} {n:Nat} (hn:l.most=some n) {P:Params} {h:Heap} {args:List WData} {vals:List Value}
  (hpre:l.row.toRowW.claim.pre args=true) (hwl:WellAll P h vals args):
  ∃a vs ns,vals=[Value.ref a]/\args=[WData.list (ns.map WData.int)]/\h.get? a=some { cls:=.type "list",data:=.seq vs.toArray }/\IntsAre vs ns/\ns.length<=n:=by
 have hsh:WShape.hasAll [] args [.list .int]=true:=(pre_splitW hpre).1
 have hc:l.pre.holds [] { args:=args }=true:=(pre_splitW hpre).2
 obtain⟨d,r,rfl,h1,h2⟩:=hasAllW_cons hsh
 obtain rfl:=hasAllW_nil h2
 obtain⟨xs,rfl,h3⟩:=hasW_list h1
 obtain⟨ns,rfl⟩:=items_int h3
 have hlen:ns.length<=n:=by
  unfold OpenLaw.pre at hc
  have h4:(WTm.not (.lt (.lit (.int (n:Int))) (.len (.arg 0)))).holds [] { args:=[.list (ns.map .int)] }=true:=by
   have h4:=(holds_andW hc).1
   rw[hn]at h4
   exact h4
  have h5:=condW_of h4 (w_not (w_lt w_lit (w_len_list (w_arg rfl))))
  rw[aa]at h5
  refine Nat.le_of_not_lt fun q=>?_
  have q':(n:Int)<((ns.length:Nat):Int):=by omega
  first
   |(rw[decide_eq_true q']at h5;exact absurd h5 (by decide))
   |(simp at h5;omega)
 cases hwl with
 |cons w1 w2=>
  cases w2
  cases w1 with
  |list ho hall=>exact⟨_,_,ns,rfl,rfl,ho,eq' ns _ hall,hlen⟩
theorem jR' (l:OpenLaw) (args:List WData):l.row.toRowW.claim.post args (.bool true) args=true:=
 postW_of (r:=l.row.toRowW) (X:=(true == true))
  (show WShape.has [] (.bool true) .bool=true by first|rfl|decide|simp[WShape.has,WShape.arms,WShape.armsAll])
  (show(WTm.eq .res (.lit (.bool true))).value [] { args:=args,res:=some (.bool true),after:=args }=some (.bool (true == true)) from w_eq_bool (w_res rfl) w_lit) rfl
theorem gX' {l:OpenLaw} {n:Nat} {q:Program} {loose:List Str} {XP:(Str->Option Value)->Heap->Prop} {YP:World->Heap->Prop} {d:DefRec}
  (hn:l.most=some n) (hdf:d.params.defaults=[])
  (call:∀(w:World) (s₀ s₁:Shared) (mg mb:Str->Option Value) (fa:Addr) (o:Obj) (pm cd doc:Value) (a:Addr) (vs:List Value) (ns:List Int),
   Ground q loose [] XP w s₀ mg mb s₁.heap->YP w s₁.heap->
   s₁.heap.get? fa=some o->o.data=.func (docDef d.name d.params d.body d.scope pm cd doc)->s₁.heap.CodeRec cd d.name->mg d.name=some (.ref fa)->
   s₁.heap.get? a=some { cls:=.type "list",data:=.seq vs.toArray }->IntsAre vs ns->ns.length<=n->s₁.gens=#[]->
   codeAny (model l.prog w) callerA (.call (.ref fa) ⟨[.ref a],[]⟩) (fun r s'=>r=.ok (.ret (.bool true))/\OldK s₁.heap s'.heap/\s'.os=s₁.os/\AllBare s'.gens) s₁):
  WalkO q loose XP YP l.row.toRowW d [] (fun f vs=>PySem.call f vs):=by
 intro w s₀ s₁ mg mb G Y fa o pm cd doc dV kV ho hd hcd hD hmg hg args vals as hpre hlay hrd hwl hlo
 obtain rfl:dV=.none:=Dflts.none hD hdf
 obtain rfl:kV=.none:=Dflts.noKw hD
 obtain⟨a,vs,ns,rfl,rfl,hobj,hints,hlen⟩:=jQ' hn hpre hwl
 refine enter_call (codeAny_mono (call w s₀ s₁ mg mb fa o pm cd doc a vs ns G Y ho (fd_plain hd) hcd hmg hobj hints hlen hg) fun r s' hq=>?_)
 obtain⟨rfl,h2,h3,h4⟩:=hq
 exact⟨.inl ⟨.bool true,.bool true,[],rfl,fun _=>rfl,.bool true,jR' l _,fun _=>⟨List.Pairwise.nil,fun _ hm=>(nomatch hm)⟩⟩,h2,h3,h4⟩
section
variable {prog:Program} {w:World} {A:Around} {E:Value->Shared->Prop} {s:Shared} {K:Frag}
end
end Att
namespace L2
open PySem PySem.Spec PyProof.Rows
theorem f5':∀{vs:List Value} {ns:List Int},IntsAre vs ns->aC' (ns.map V.int) vs
 |_,_,.nil=>.nil
 |_,_,.cons n t h=>.cons ⟨t,rfl⟩ (f5' h)
def wL' (H:Hp):Prop:=∀b,H b=none\/∃o xs,H b=some (.frz o (.lst xs))
theorem mI' {P:Program} {w:World} {K:W.Frag} {mg mb:Str->Option Value} {CX:CXT} {k:Nat} {fa a:Addr} {fd:FuncData} {x:Str} {sp:Sp} {s₁:Shared} {vs:List Value} {ns:List Int}
  (KX:K.In s₁.heap) (hns:s₁.heap.Ns mainGlobals mg) (hb:s₁.heap.Ns builtinsNs mb) (hbb:∀x:Str,x≠"__name__"->mb x=bootBuiltins x) (hlim:s₁.heap.NoLimit) (hg:s₁.gens=#[])
  (ha:s₁.heap.get? a=some { cls:=.type "list",data:=.seq vs.toArray }) (hi:IntsAre vs ns) (hl:ns.length<=sizeLine) (hr:Room k callerA)
  (F:∀base:Heap,K.In base->base.Ns mainGlobals mg->FnOk P w K mg base CX k fa fd [x] sp) (hbind:∀(s:Shared) (u:Value),BindsTo s fd ⟨[u],[]⟩ [(x,u)])
  (hsp:∀H:Hp,wL' H->SqL K H a (ns.map V.int)->sp [.ref a] H (fun v _=>v=.bl true) fun _ _ _=>False)
  (hCX:∀H e s',CX [] H s₁ (fun _ _ _=>False) e s'->False):
  codeAny (model P w) callerA (.call (.ref fa) ⟨[.ref a],[]⟩) (fun r s'=>r=.ok (.ret (.bool true))/\OldK s₁.heap s'.heap/\s'.os=s₁.os/\AllBare s'.gens) s₁:=by
 have rv:=f5' hi
 have lenV:=hi.length
 have core:∀H:Hp,wL' H->SqL K H a (ns.map V.int)->HOk P w H s₁.heap->(∀b,H b≠none->b=a)->(H a≠none->K.lookup a=none)->
   codeAny (model P w) callerA (.call (.ref fa) ⟨[.ref a],[]⟩) (fun r s'=>r=.ok (.ret (.bool true))/\OldK s₁.heap s'.heap/\s'.os=s₁.os/\AllBare s'.gens) s₁:=by
  intro H hO hS hok hA hK
  have base_of:∀{b:Addr} {o:Obj},s₁.heap.get? b=some o->H b=none->(mq' s₁.heap H).get? b=some o:=fun e n=>mr' e n
  have noA:∀{b:Addr} {o:Obj} {es:Array DictEntry} {ep:Nat},s₁.heap.get? b=some o->o.data=.dict es ep->H b=none:=fun {b o es ep} e d=>by
   cases q:H b with
   |none=>rfl
   |some u=>
    have e':b=a:=hA b (by rw[q];simp)
    subst e'
    rw[ha]at e;cases e
    have d':Data.seq vs.toArray _=Data.dict es ep:=d
    cases d'
  have nsK:∀{b:Addr} {m:Str->Option Value},s₁.heap.Ns b m->(mq' s₁.heap H).Ns b m:=fun {b m} ⟨o,es,ep,e,d,r⟩=>⟨o,es,ep,base_of e (noA e d),d,r⟩
  have hKb:K.In (mq' s₁.heap H):=fun b o e=>base_of (KX b o e) (by
   cases q:H b with
   |none=>rfl
   |some u=>
    have e':b=a:=hA b (by rw[q];simp)
    subst e'
    rw[hK (by rw[q];simp)]at e;cases e)
  have hM:Mod K mg (mq' s₁.heap H):=⟨hKb,nsK hns,⟨mb,nsK hb,hbb⟩,let⟨mc,h1,h2⟩:=hlim;⟨mc,nsK h1,h2⟩⟩
  have e0:Env0 P w K mg (mq' s₁.heap H) callerA [] s₁ H:=⟨rfl,hM,fun b o e=>px' e,Nat.le_of_eq (jp' _ _),trivial,fun b hb=>absurd (show b∈([]:List Addr) from hb) (by simp),hok,.of_eq hg⟩
  refine codeAny_mono ((F _ hKb (nsK hns)).run callerA [] s₁ H ⟨[.ref a],[]⟩ [.ref a] [.ref a] _ _ hr e0 (hbind s₁ (.ref a)) (.cons rfl .nil) (hsp H hO hS)) fun r s' h=>?_
  cases r with
  |error e=>exact(hCX H e s' h).elim
  |ok fl=>
   cases fl with
   |next=>exact False.elim h
   |brk=>exact False.elim h
   |cont=>exact False.elim h
   |ret u=>
    obtain⟨v,H',os,bare,un,hok',r',q⟩:=h
    have q':v=.bl true:=q
    subst q'
    obtain rfl:u=Value.bool true:=r'
    refine⟨rfl,OldK.of_keep fun b o e=>?_,os,bare⟩
    cases q:H b with
    |none=>exact un.keep b o e q (by intro z;exact absurd (show b∈([]:List Addr) from z) (by simp)) (by simp)
    |some u=>
     rcases hO b with z|⟨ob,xs,z⟩
     .rw[q]at z;cases z
     .have z2:=un.frzs b ob _ z
      obtain⟨e1,_⟩:=hok b _ z
      obtain⟨e2,_⟩:=hok' b _ z2
      rw[e]at e1;cases e1
      exact e2
 cases hk:K.lookup a with
 |some o=>
  have e:=KX a o hk
  rw[ha]at e
  cases e
  refine core (fun _=>none) (fun _=>.inl rfl) (.inr ⟨_,vs.toArray,_,hk,rfl,rfl,rfl,by rw[ag,lenV];exact hl,by simpa using rv⟩) (fun b u z=>by have z':(none:Option HO)=some u:=z;cases z') (fun b z=>absurd rfl z) fun z=>absurd rfl z
 |none=>
  refine core (fun b=>if b=a then some (.frz { cls:=.type "list",data:=.seq vs.toArray } (.lst (ns.map V.int)))else none) (fun b=>?_) (.inl (.inr ⟨{ cls:=.type "list",data:=.seq vs.toArray },if_pos rfl⟩)) (fun b u z=>?_) (fun b z=>?_) fun _=>hk
  .by_cases hb:b=a
   .exact .inr ⟨_,_,if_pos hb⟩
   .exact .inl (if_neg hb)
  .by_cases hb:b=a
   .have z':=(if_pos hb).symm.trans z
    cases z'
    subst hb
    exact⟨ha,by rw[aa];exact hl,vs,_,rv,ha⟩
   .have z':=(if_neg hb).symm.trans z
    cases z'
  .by_cases hb:b=a
   .exact hb
   .exact absurd (if_neg hb) z
theorem fm' {l:W.OpenLaw} {n k:Nat} {q:Program} {loose:List Str} {XP:(Str->Option Value)->Heap->Prop} {YP:World->Heap->Prop} {d:DefRec} {K:Params->W.Frag} {CX:World->CXT} {sp:World->Sp} {x:Str}
  (hn:l.most=some n) (hn2:n<=sizeLine) (hdf:d.params.defaults=[]) (hr:Room k callerA)
  (hY:∀(w:World) (h:Heap),YP w h->(K w.params).In h)
  (F:∀(w:World) (mg:Str->Option Value) (fa:Addr) (h:Heap),(K w.params).In h->h.Ns mainGlobals mg->mg d.name=some (.ref fa)->
   ∃fd:FuncData,(∀(s:Shared) (u:Value),BindsTo s fd ⟨[u],[]⟩ [(x,u)])/\
    ∀base:Heap,(K w.params).In base->base.Ns mainGlobals mg->FnOk l.prog w (K w.params) mg base (CX w) k fa fd [x] (sp w))
  (hsp:∀(w:World) (H:Hp) (a:Addr) (ns:List Int),ns.length<=n->wL' H->SqL (K w.params) H a (ns.map V.int)->sp w [.ref a] H (fun v _=>v=.bl true) fun _ _ _=>False)
  (hCX:∀(w:World) (H:Hp) (s:Shared) (e:Value) (s':Shared),CX w [] H s (fun _ _ _=>False) e s'->False):
  W.WalkO q loose XP YP l.row.toRowW d [] (fun f vs=>PySem.call f vs):=by
 refine Att.gX' hn hdf fun w s₀ s₁ mg mb fa o pm cd doc a vs ns G Y ho hd hcd hmg hobj hints hlen hg=>?_
 have KX:=hY w _ Y
 obtain⟨fd,hb,hF⟩:=F w mg fa _ KX G.T.g hmg
 exact mI' KX G.T.g G.T.b G.T.builtins G.T.nolimit hg hobj hints (aI hlen hn2) hr hF hb (fun H hO hS=>hsp w H a ns hlen hO hS) fun H e s'=>hCX w H s₁ e s'
def dU' (s:Stmt):Arguments:=match s with
 | .FunctionDef _ a _ _ _ _ _ _ _ _=>a
 |_=>{ posonlyargs:=[],args:=[],vararg:=none,kwonlyargs:=[],kw_defaults:=[],kwarg:=none,defaults:=[] }
def am' (s:Stmt):List Stmt:=match s with
 | .FunctionDef _ _ b _ _ _ _ _ _ _=>b
 |_=>[]
def ac' (s:Stmt):Scope:=match s with
 | .FunctionDef _ _ _ _ _ _ sc _ _ _=>sc
 |_=>{ kind:=.function,names:=[],isGenerator:=false,isCoroutine:=false }
abbrev CX0:CXT:=fun _ _ _ _ _ _=>False
abbrev E0:XK:=fun _ _ _=>False
structure Fun (K:W.Frag) (x qual:Str) (st:Stmt) (f:Addr) (fd:FuncData):Prop where
 ex:∃(oc:Value) (od:Option Addr) (kV doc pm:Value) (an:Option Addr) (cdv ct:Value) (osl:Array (Option Value)),
  fd=W.fnOf x qual (dU' st) (am' st) (ac' st) .none kV doc pm an cdv ct/\K.lookup f=some ⟨oc,od,.func fd,osl⟩/\W.codeIn K cdv qual=true
 kp:W.keepIn K (.ref f)=true
section
variable {P:Program} {w:World} {K:W.Frag} {mg:Str->Option Value} {base:Heap}
theorem Fun.ok {x qual:Str} {st:Stmt} {f:Addr} {fd:FuncData} {N ps:List Str} {k:Nat} {sp:Sp} (F:Fun K x qual st f fd) (S:FnScope N ps (ac' st)) (len:∀vs H Q E,sp vs H Q E->vs.length=ps.length)
  (hbody:∀(cdv:Value) (A:Around) (outer:List Env) (s:Shared) (H:Hp) (vs:List V) (Q:VK) (E:XK),Room k (A.deeper (envOfC qual (ac' st) s.heap.objs.size f cdv))->sp vs H Q E->
   ∃t,PSs (rV' CX0 P w K mg base N qual (ac' st) f cdv A outer s H E).nox (am' st) t/\t { nx:=fun _ H'=>Q .non H',rt:=Q } (aw' N vs) H):FnOk P w K mg base CX0 (k+1) f fd ps sp:=by
 obtain⟨oc,od,kV,doc,pm,an,cdv,ct,osl,rfl,lk,hcd⟩:=F.ex
 refine wI' lk hcd S len fun A outer s H vs Q E hr hsp=>?_
 obtain⟨t,h,q⟩:=hbody cdv A outer s H vs Q E hr hsp
 exact⟨t,h.nox,q⟩
theorem Fun.binds {x qual:Str} {st:Stmt} {f:Addr} {fd:FuncData} {ps:List Str} (F:Fun K x qual st f fd)
  (h:∀(kV doc pm:Value) (an:Option Addr) (cdv ct:Value) (us:List Value),us.length=ps.length->bindArgs (W.fnOf x qual (dU' st) (am' st) (ac' st) .none kV doc pm an cdv ct) ⟨us,[]⟩=pure (ps.zip us)):eO' K fd ps []:=by
 obtain⟨oc,od,kV,doc,pm,an,cdv,ct,osl,rfl,lk,hcd⟩:=F.ex
 exact .all (h kV doc pm an cdv ct)
theorem sI' {x qual:Str} {st:Stmt} {f:Addr} {oc:Value} {od an:Option Addr} {osl:Array (Option Value)} {kV doc pm cdv ct:Value} (l:K.lookup f=some ⟨oc,od,.func (W.fnOf x qual (dU' st) (am' st) (ac' st) .none kV doc pm an cdv ct),osl⟩)
  (c:W.codeIn K cdv qual=true) (k:W.keepIn K (.ref f)=true):Fun K x qual st f (W.fnOf x qual (dU' st) (am' st) (ac' st) .none kV doc pm an cdv ct):=⟨⟨oc,od,kV,doc,pm,an,cdv,ct,osl,rfl,l,c⟩,k⟩
end
theorem ah' {n:Nat} (h:n<=1000):n<sizeLine:=bD h (by decide)
section
variable {X:Cx}
theorem pv (i:Nat) {x:Str} {pos:Pos} (hN:X.N[i]?=some x:=by rfl) (hv:Vis X.env.scope x:=by first|exact Or.inl rfl|exact Or.inr (Or.inl rfl)|exact Or.inr (Or.inr rfl)) (hd:(x == ("__debug__":Str))=false:=by decide)
  (hcd:(x == ("__classdict__":Str))=false:=by decide):PE X (.Name x pos) (vR' i):=oq' hN hv hd hcd
end
def ax' (H H':Hp):Prop:=∀b o,H b=some o->H' b=some o
theorem ax'.refl (H:Hp):ax' H H:=fun _ _ h=>h
theorem ax'.trans {H H1 H2:Hp} (a:ax' H H1) (b:ax' H1 H2):ax' H H2:=fun c o h=>b c o (a c o h)
theorem ax'.free {H H':Hp} (e:ax' H H') {l:Addr} (h:H' l=Option.none):H l=Option.none:=by
 cases q:H l with
 |none=>rfl
 |some o=>
  rw[e l o q]at h
  cases h
theorem ax'.seq {K:W.Frag} {H H':Hp} {a:Addr} {xs:List V} (e:ax' H H') (h:SqL K H a xs):SqL K H' a xs:=by
 rcases h with(h|⟨o,h⟩)|h
 .exact .inl (.inl (e _ _ h))
 .exact .inl (.inr ⟨o,e _ _ h⟩)
 .exact .inr h
def cj' (cells:List (Str×Addr)):List (Str×NameKind)->List (Str×Addr)->List (Str×Addr)
 | [],acc=>acc
 |(n,k) :: r,acc=>if k == .free then cj' cells r ((n,(cells.lookup n).getD 0) :: acc)else cj' cells r acc
def f6' (env:Env) (x:Str×NameKind) (r:List (Str×Addr)):Sem (ForInStep (List (Str×Addr))):=
 match x with|(name,kind)=>if(kind == .free)=true then(do let a <- cellOf env name;pure (ForInStep.yield ((name,a) :: r)))else pure (ForInStep.yield r)
theorem sJ' {env:Env}:∀(names:List (Str×NameKind)) (acc:List (Str×Addr)),(∀n,(n,NameKind.free)∈names->∃c,env.cells.lookup n=some c)->
   forIn names acc (f6' env)=(pure (cj' env.cells names acc):Sem _):=by
  intro names
  induction names with
  |nil=>intro acc _;rfl
  |cons x r ih=>
   intro acc hh
   obtain⟨n,k⟩:=x
   rw[List.forIn_cons]
   have hr:=fun m hm=>hh m (ay _ hm)
   by_cases hk:k=.free
   .subst hk
    obtain⟨c,hc⟩:=hh n aF
    have e1:cellOf env n=(pure c:Sem Addr):=by unfold cellOf;rw[hc]
    have e2:f6' env (n,NameKind.free) acc=pure (ForInStep.yield ((n,c) :: acc)):=by
     unfold f6'
     dsimp only
     rw[if_pos (by rfl),e1]
     rfl
    rw[e2]
    have e3:=ih ((n,c) :: acc) hr
    have e4:cj' env.cells ((n,NameKind.free) :: r) acc=cj' env.cells r ((n,c) :: acc):=by
     show(if(NameKind.free == NameKind.free)=true then _ else _)=_
     rw[if_pos (by rfl),hc]
     rfl
    rw[e4,<- e3]
    rfl
   .have hb:(k == NameKind.free)=false:=by simpa using hk
    have e2:f6' env (n,k) acc=pure (ForInStep.yield acc):=by
     unfold f6'
     dsimp only
     rw[if_neg (by rw[hb];exact aq)]
    rw[e2]
    have e4:cj' env.cells ((n,k) :: r) acc=cj' env.cells r acc:=by
     show(if(k == NameKind.free)=true then _ else _)=_
     rw[if_neg (by rw[hb];exact aq)]
    rw[e4,<- ih acc hr]
    rfl
theorem jS' {env:Env} {scope:Scope} (h:∀n,(n,NameKind.free)∈scope.names->∃c,env.cells.lookup n=some c):closureFor scope env=pure (cj' env.cells scope.names []):=by
 have e:=sJ' (env:=env) scope.names [] h
 unfold closureFor
 have q:∀f:Str×NameKind->List (Str×Addr)->Sem (ForInStep (List (Str×Addr))),(∀x r,f x r=f6' env x r)->(forIn scope.names ([]:List (Str×Addr)) f >>= fun r=>pure r)=(pure (cj' env.cells scope.names []):Sem _):=by
  intro f hf
  have:f=f6' env:=funext fun x=>funext fun r=>hf x r
  rw[this,e]
  rfl
 refine q _ fun x r=>?_
 obtain⟨n,k⟩:=x
 unfold f6'
 first|done|(dsimp only;done)|(dsimp only;cases hk:k == NameKind.free<;>simp[hk])
set_option tactic.hygienic true in
theorem er' {cells:List (Str×Addr)}:∀{names:List (Str×NameKind)} {acc:List (Str×Addr)} {n:Str} {c:Addr},(n,c)∈cj' cells names acc->(n,c)∈acc\/((n,NameKind.free)∈names/\c=(cells.lookup n).getD 0)
 | [],_,_,_,h=>.inl h
 |(m,k) :: r,acc,n,c,h=>by
  unfold cj' at h
  split at h
  .rename_i hk
   have hk':k=.free:=by simpa using hk
   subst hk'
   rcases er' h with q|⟨q,e⟩
   .rcases ak.mp q with q|q
    .cases q;exact .inr ⟨aF,rfl⟩
    .exact .inl q
   .exact .inr ⟨ay _ q,e⟩
  .rcases er' h with q|⟨q,e⟩
   .exact .inl q
   .exact .inr ⟨ay _ q,e⟩
set_option tactic.hygienic true in
theorem et' {cells:List (Str×Addr)}:∀{names:List (Str×NameKind)} {acc:List (Str×Addr)} {n:Str},((n,NameKind.free)∈names\/∃c,(n,c)∈acc)->∃c,(n,c)∈cj' cells names acc
 | [],_,_,h=>by
  rcases h with h|h
  .simp at h
  .exact h
 |(m,k) :: r,acc,n,h=>by
  unfold cj'
  split
  .rename_i hk
   refine et' ?_
   rcases h with h|⟨c,h⟩
   .rcases ak.mp h with h|h
    .cases h;exact .inr ⟨_,aF⟩
    .exact .inl h
   .exact .inr ⟨c,ay _ h⟩
  .rename_i hk
   refine et' ?_
   rcases h with h|h
   .rcases ak.mp h with h|h
    .cases h;exact absurd rfl hk
    .exact .inl h
   .exact .inr h
theorem aN':∀(names:List (Str×NameKind)) (n:Nat) (acc:List (Str×Addr)),cellsFrom n names acc=cellsFrom n names []++acc
 | [],_,_=>rfl
 |(x,k) :: r,n,acc=>by
  unfold cellsFrom
  split
  .rw[aN' r (n+1) ((x,n) :: acc),aN' r (n+1) [(x,n)],bm]
   rfl
  .exact aN' r n acc
theorem b0' {α:Type}:∀{l:List (Str×α)} {n:Str} {c:α},(n,c)∈l->∃c',l.lookup n=some c'
 |(k,v) :: r,n,c,h=>by
  rw[bi]
  cases hb:n == k with
  |true=>exact⟨v,rfl⟩
  |false=>
   rcases ak.mp h with e|h
   .cases e;simp at hb
   .exact b0' h
theorem b9' {env:Env}:∀{names:List (Str×NameKind)} {x:Str} {k':NameKind},
  (names.map fun(n,k)=>if(k == NameKind.free&&env.scope.kind == .function&&env.kindOf n == some .cell)then(n,NameKind.cell)else(n,k)).lookup x=some k'->∃k,names.lookup x=some k/\(k'=k\/(k=.free/\k'=.cell))
 | [],_,_,h=>by simp at h
 |(n,k) :: r,x,k',h=>by
  have ih:=@b9' env r x k'
  rw[aH]at h
  by_cases hc:(k == NameKind.free&&env.scope.kind == .function&&env.kindOf n == some .cell)=true
  .have e1:(match ((n,k):Str×NameKind)with|(n,k)=>if(k == NameKind.free&&env.scope.kind == .function&&env.kindOf n == some .cell)=true then(n,NameKind.cell)else(n,k))=(n,NameKind.cell):=if_pos hc
   rw[e1,bi]at h
   rw[bi]
   cases hx:x == n with
   |true=>
    rw[hx]at h
    cases h
    refine⟨k,rfl,.inr ⟨?_,rfl⟩⟩
    simp only[ac]at hc
    exact beq_iff_eq.mp hc.1.1
   |false=>rw[hx]at h;exact ih h
  .have e1:(match ((n,k):Str×NameKind)with|(n,k)=>if(k == NameKind.free&&env.scope.kind == .function&&env.kindOf n == some .cell)=true then(n,NameKind.cell)else(n,k))=(n,k):=if_neg hc
   rw[e1,bi]at h
   rw[bi]
   cases hx:x == n with
   |true=>rw[hx]at h;cases h;exact⟨k,rfl,.inl rfl⟩
   |false=>rw[hx]at h;exact ih h
theorem bc' {env:Env}:∀{names:List (Str×NameKind)} {x:Str} {k:NameKind},names.lookup x=some k ->
  ∃k',(names.map fun(n,k)=>if(k == NameKind.free&&env.scope.kind == .function&&env.kindOf n == some .cell)then(n,NameKind.cell)else(n,k)).lookup x=some k'/\(k'=k\/(k=.free/\k'=.cell))
 | [],_,_,h=>by simp at h
 |(n,k0) :: r,x,k,h=>by
  have ih:=@bc' env r x k
  rw[aH]
  by_cases hc:(k0 == NameKind.free&&env.scope.kind == .function&&env.kindOf n == some .cell)=true
  .have e1:(match ((n,k0):Str×NameKind)with|(n,k)=>if(k == NameKind.free&&env.scope.kind == .function&&env.kindOf n == some .cell)=true then(n,NameKind.cell)else(n,k))=(n,NameKind.cell):=if_pos hc
   rw[e1,bi]
   rw[bi]at h
   cases hx:x == n with
   |true=>
    rw[hx]at h
    cases h
    refine⟨_,rfl,.inr ⟨?_,rfl⟩⟩
    simp only[ac]at hc
    exact beq_iff_eq.mp hc.1.1
   |false=>rw[hx]at h;exact ih h
  .have e1:(match ((n,k0):Str×NameKind)with|(n,k)=>if(k == NameKind.free&&env.scope.kind == .function&&env.kindOf n == some .cell)=true then(n,NameKind.cell)else(n,k))=(n,k0):=if_neg hc
   rw[e1,bi]
   rw[bi]at h
   cases hx:x == n with
   |true=>rw[hx]at h;cases h;exact⟨_,rfl,.inl rfl⟩
   |false=>rw[hx]at h;exact ih h
section
variable {M:Model} {A:Around} {E:Value->Shared->Prop} {s:Shared}
abbrev a6' (h:Heap) (names:List (Str×NameKind)):Heap:=pushCells (h.push { cls:=.type "dict",data:=.dict #[] }) names
theorem dy' {scope:Scope} {globals:Addr} {cl:List (Str×Addr)} {qual:Str} {env:Env} {Q:Env->Shared->Prop}
  (h:Q (newEnv scope s.heap.objs.size globals (cellsFrom (s.heap.objs.size+1) scope.names cl) qual none .none (some env) builtinsNs) { s with heap:=a6' s.heap scope.names }):
  wpAny M A (newFunctionEnv scope globals cl [] qual none .none (some env)) Q E s:=by
 simp only[newFunctionEnv,Option.isSome_some,if_true]
 refine af (wpAny_alloc ?_)
 refine af (wpAny_layCells _ (fun name kind cells=>by cases hkc:kind == NameKind.cell<;>simp[hkc]) _ _ _ _ ?_)
 rw[show({ s with heap:=s.heap.push { cls:=.type "dict",data:=.dict #[] } }:Shared).heap.objs.size=s.heap.objs.size+1 from bO ..]
 exact af (aG (aG h))
end
def Cx.comp (X:Cx) (scope:Scope) (s₀:Shared) (H₀:Hp) (ex:List Addr):Cx:=
 { X with
  s₀:=s₀,H₀:=H₀
  env:={ newEnv scope s₀.heap.objs.size X.env.globals (cellsFrom (s₀.heap.objs.size+1) scope.names (cj' X.env.cells scope.names [])) X.env.qual none .none (some X.env) builtinsNs with scope:=relabel scope X.env }
  outer:=X.stack,ex:=ex,fn:=fun x=>((cellsFrom (s₀.heap.objs.size+1) scope.names []).lookup x).isSome,pn:=[],xe:=fun _ _=>False }
structure CompSc (X:Cx) (scope:Scope):Prop where
 kind:scope.kind=.function
 names:∀x∈scope.names,x.2=.local->scope.names.lookup x.1=some .local
 one:∀n,(n,NameKind.cell)∈scope.names->scope.names.lookup n=some .cell
 free:∀n,(n,NameKind.free)∈scope.names->X.env.kindOf n=some .cell\/X.env.kindOf n=some .free
set_option tactic.hygienic true in
theorem co':∀{names:List (Str×NameKind)} {n:Nat} {x:Str} {c:Addr},(x,c)∈cellsFrom n names []->(x,NameKind.cell)∈names
 | [],_,_,_,h=>by simp[cellsFrom]at h
 |(y,k) :: r,n,x,c,h=>by
  unfold cellsFrom at h
  split at h
  .rename_i hk
   have hk':k=.cell:=by simpa using hk
   subst hk'
   rw[aN']at h
   rcases aw.mp h with h|h
   .exact ay _ (co' h)
   .have h':(x,c)=(y,n):=by simpa using h
    cases h'
    exact aF
  .exact ay _ (co' h)
def clr (own:List Nat) (σ:St):St:=own.foldl (fun σ i=>σ.set i none) σ
theorem eu':∀(own:List Nat) (σ:St),(clr own σ).length=σ.length
 | [],_=>rfl
 |i :: r,σ=>by
  show(clr r (σ.set i none)).length=_
  rw[eu' r,List.length_set]
theorem ev':∀{own:List Nat} {σ:St} {i:Nat} {v:V},(clr own σ)[i]?=some (some v)->σ[i]?=some (some v)/\i∉own
 | [],_,_,_,h=>⟨h,by simp⟩
 |j :: r,σ,i,v,h=>by
  obtain⟨h1,h2⟩:=ev' (own:=r) (σ:=σ.set j none) h
  by_cases e:j=i
  .subst e
   rw[List.getElem?_set]at h1
   simp at h1
  .rw[bE e]at h1
   exact⟨h1,by simp;exact⟨fun z=>e z.symm,h2⟩⟩
theorem gY':∀{own:List Nat} {σ:St} {i:Nat},i∉own->(clr own σ)[i]?=σ[i]?
 | [],_,_,_=>rfl
 |j :: r,σ,i,h=>by
  have h1:i≠j:=fun z=>h (by simp[z])
  have h2:i∉r:=fun z=>h (by simp[z])
  show(clr r (σ.set j none))[i]?=_
  rw[gY' h2,bE (Ne.symm h1)]
section
variable {X:Cx} {pins:List (Addr×Obj)} {σ:St} {H H':Hp} {s s':Shared} {scope:Scope} {ex:List Addr} {own:List Nat}
theorem iO' (I:Inv X pins σ H s) (S:CompSc X scope):
  (∀x c,(cj' X.env.cells scope.names []).lookup x=some c->X.env.cells.lookup x=some c)/\
  (∀x,(x,NameKind.free)∈scope.names->∃c,(cj' X.env.cells scope.names []).lookup x=some c)/\
  CellsOk (a6' s.heap scope.names) (s.heap.objs.size+1) (cellsFrom (s.heap.objs.size+1) scope.names []):=by
 have hc:∀x c,(x,c)∈cj' X.env.cells scope.names []->X.env.cells.lookup x=some c:=fun x c h=>by
  rcases er' h with z|⟨z,e⟩
  .simp at z
  .obtain⟨c',e'⟩:=I.ok.has x (S.free x z)
   rw[e',Option.getD_some]at e
   rw[e',e]
 refine⟨fun x c h=>hc x c (PySem.mem_of_lookup h),fun x h=>?_,?_⟩
 .obtain⟨c,q⟩:=et' (cells:=X.env.cells) (acc:=[]) (.inl h)
  exact b0' q
 .have q:=cellsFrom_ok scope.names (s.heap.push { cls:=.type "dict",data:=.dict #[] }) (s.heap.objs.size+1) [] ⟨fun _ _ hm=>(nomatch hm),List.Pairwise.nil⟩ (by rw[bO];exact ai _)
  rw[bO]at q
  exact q
theorem e1' (I:Inv X pins σ H s) (hex:∀b∈ex,du' X pins H b) (hlt:∀b∈ex,b<s.heap.objs.size) (S:CompSc X scope)
  (hown:∀i x,X.N[i]?=some x->(scope.names.lookup x=some .local\/scope.names.lookup x=some .cell)->i∈own):
  Inv (X.comp scope s H ex) [] (clr own σ) H { s with heap:=a6' s.heap scope.names }:=by
 obtain⟨hcl,hcf,ok⟩:=iO' I S
 have lk:∀x c,(X.comp scope s H ex).env.cells.lookup x=some c->(cellsFrom (s.heap.objs.size+1) scope.names []).lookup x=some c\/((cellsFrom (s.heap.objs.size+1) scope.names []).lookup x=none/\X.env.cells.lookup x=some c):=fun x c h=>by
  have h':(cellsFrom (s.heap.objs.size+1) scope.names (cj' X.env.cells scope.names [])).lookup x=some c:=h
  rw[aN',List.lookup_append]at h'
  cases q:(cellsFrom (s.heap.objs.size+1) scope.names []).lookup x with
  |some d=>rw[q]at h';exact .inl h'
  |none=>rw[q]at h';exact .inr ⟨rfl,hcl x c h'⟩
 have newC:∀x c,(cellsFrom (s.heap.objs.size+1) scope.names []).lookup x=some c->(a6' s.heap scope.names).IsCell c none/\s.heap.objs.size+1<=c:=fun x c h=>ok.empty x c (PySem.mem_of_lookup h)
 have oldC:∀x c,X.env.cells.lookup x=some c->c<s.heap.objs.size:=fun x c h=>let⟨_,q⟩:=I.cell x c h;q.lt
 have keep:∀b o,s.heap.get? b=some o->(a6' s.heap scope.names).get? b=some o:=fun b o e=>pushCells_keeps _ _ b o (aj _ e)
 have fresh:∀b,s.heap.objs.size<=b->H b=none:=fun b hb=>I.hok.fresh hb
 have loc0:(X.comp scope s H ex).env.locals=s.heap.objs.size:=rfl
 refine⟨⟨I.ok.mod,S.kind,I.ok.glob,?_,ai _,fun x y c h1 h2=>?_,fun x hx=>?_,fun x c hf h=>?_,I.ok.hd,I.ok.frames,.inl rfl,fun b hb=>?_,I.bs,aI I.ok.bsz I.sz,fun b o e hb=>?_,fun b hb=>?_,I.stack,I.stkFree⟩,
  rfl,I.bare,Un.kept keep,⟨fun _=>none,?_,fun i x v h1 h2 h3=>?_⟩,fun x c h=>?_,fresh _ (ai _),fun x c h=>?_,fun p hp=>absurd (show p∈([]:List (Addr×Obj)) from hp) (by simp),I.hok.kept keep,?_⟩
 .show X.env.builtins=_
  exact I.ok.blt
 .rcases lk x c h1 with q1|⟨_,q1⟩<;>rcases lk y c h2 with q2|⟨_,q2⟩
  .exact name_of_addr ok.apart (PySem.mem_of_lookup q1) (PySem.mem_of_lookup q2)
  .exact absurd (aB (oldC y c q2) (aI (Nat.le_succ _) (newC x c q1).2)) (bb _)
  .exact absurd (aB (oldC x c q1) (aI (Nat.le_succ _) (newC y c q2).2)) (bb _)
  .exact I.ok.inj x y c q1 q2
 .have hx':(relabel scope X.env).names.lookup x=some .cell\/(relabel scope X.env).names.lookup x=some .free:=hx
  have fin:∀k,scope.names.lookup x=some k->(k=.cell\/k=.free)->∃c,(cellsFrom (s.heap.objs.size+1) scope.names (cj' X.env.cells scope.names [])).lookup x=some c:=fun k hk hkk=>by
   rw[aN',List.lookup_append]
   rcases hkk with rfl|rfl
   .obtain⟨c,q⟩:=fh' (n:=s.heap.objs.size+1) hk
    exact⟨c,by rw[q];rfl⟩
   .obtain⟨c,q⟩:=hcf x (PySem.mem_of_lookup hk)
    cases z:(cellsFrom (s.heap.objs.size+1) scope.names []).lookup x with
    |some d=>exact⟨d,rfl⟩
    |none=>exact⟨c,by rw[q];rfl⟩
  rcases hx' with hx'|hx'<;>obtain⟨k,hk,e⟩:=b9' hx'
  .rcases e with e|⟨e,_⟩
   .exact fin k hk (.inl e.symm)
   .exact fin k hk (.inr e)
  .rcases e with e|⟨e,_⟩
   .exact fin k hk (.inr e.symm)
   .exact fin k hk (.inr e)
 .rcases lk x c h with q|⟨q,_⟩
  .have:=(newC x c q).2
   show s.heap.objs.size<=c
   omega
  .have hf':((cellsFrom (s.heap.objs.size+1) scope.names []).lookup x).isSome=true:=hf
   rw[q]at hf'
   cases hf'
 .refine⟨?_,fun x c h=>?_⟩
  .show b≠s.heap.objs.size
   exact aK (hlt b hb)
  .rcases lk x c h with q|⟨_,q⟩
   .intro e
    rw[e]at q
    exact absurd (aB (hlt b hb) (aI (Nat.le_succ _) (newC x b q).2)) (bb _)
   .exact(hex b hb).2.2.2.2.1 x c q
 .rcases(hex b hb).2.2.2.1 with z|z
  .exact I.ok.noex b o e z
  .exact absurd (aB (au e) (aI I.ok.bsz z)) (bb _)
 .intro z
  rcases ak.mp (I.stkSub b z)with e|e
  .exact(hex b hb).2.1 e
  .exact(hex b hb).2.2.1 e
 .show(a6' s.heap scope.names).Ns s.heap.objs.size _
  exact(Heap.Ns.new s.heap (.type "dict")).keeps (pushCells_keeps _ _)
 .obtain⟨h2,hno⟩:=ev' h2
  have h3':(relabel scope X.env).names.lookup x=some .local\/(relabel scope X.env).names.lookup x=some .cell\/(relabel scope X.env).names.lookup x=some .free:=h3
  have h3k:∃k',(relabel scope X.env).names.lookup x=some k'/\(k'=.local\/k'=.cell\/k'=.free):=by
   rcases h3' with z|z|z
   .exact⟨_,z,.inl rfl⟩
   .exact⟨_,z,.inr (.inl rfl)⟩
   .exact⟨_,z,.inr (.inr rfl)⟩
  obtain⟨k',hk',hkk⟩:=h3k
  obtain⟨k,hk,e⟩:=b9' hk'
  have hfree:k=.free:=by
   rcases e with e|⟨e,_⟩
   .subst e
    rcases hkk with z|z|z
    .subst z;exact absurd (hown i x h1 (.inl hk)) hno
    .subst z;exact absurd (hown i x h1 (.inr hk)) hno
    .exact z
   .exact e
  subst hfree
  have hm:=PySem.mem_of_lookup hk
  have hv:Vis X.env.scope x:=by
   rcases S.free x hm with z|z
   .exact .inr (.inl z)
   .exact .inr (.inr z)
  obtain⟨m,hn,hl⟩:=I.loc
  obtain⟨u,r,l⟩:=hl i x v h1 h2 hv
  refine⟨u,r,?_⟩
  have hkind:(X.comp scope s H ex).env.kindOf x=some .cell\/(X.comp scope s H ex).env.kindOf x=some .free:=by
   show(relabel scope X.env).names.lookup x=some .cell\/(relabel scope X.env).names.lookup x=some .free
   rcases e with e|⟨_,e⟩
   .subst e;exact .inr hk'
   .subst e;exact .inl hk'
  have hcc:∃c,X.env.cells.lookup x=some c/\s.heap.IsCell c (some u):=by
   rcases l with⟨kk,_⟩|⟨_,c,e1,e2⟩
   .rcases S.free x hm with z|z
    .rw[z]at kk;cases kk
    .rw[z]at kk;cases kk
   .exact⟨c,e1,e2⟩
  obtain⟨c,e1,e2⟩:=hcc
  refine .inr ⟨hkind,c,?_,e2.keeps keep⟩
  show(cellsFrom (s.heap.objs.size+1) scope.names (cj' X.env.cells scope.names [])).lookup x=some c
  rw[aN',List.lookup_append]
  have hnone:(cellsFrom (s.heap.objs.size+1) scope.names []).lookup x=none:=by
   cases z:(cellsFrom (s.heap.objs.size+1) scope.names []).lookup x with
   |none=>rfl
   |some d=>
    exfalso
    have q1:=S.one x (co' (PySem.mem_of_lookup z))
    rw[hk]at q1
    cases q1
  obtain⟨c',q⟩:=hcf x hm
  have q':=hcl x c' q
  rw[e1]at q'
  cases q'
  rw[hnone,q]
  rfl
 .rcases lk x c h with q|⟨_,q⟩
  .exact⟨_,(newC x c q).1⟩
  .obtain⟨v,z⟩:=I.cell x c q
   exact⟨v,z.keeps keep⟩
 .rcases lk x c h with q|⟨_,q⟩
  .have:=(newC x c q).2
   exact fresh c (by omega)
  .exact I.freeC x c q
 .rw[eu']
  exact I.len
end
section
variable {X:Cx} {pins:List (Addr×Obj)} {σ:St} {H H':Hp} {s s':Shared} {scope:Scope} {ex:List Addr} {own:List Nat}
theorem pZ' {P:Program} {w:World} {h h':Heap} {a:Addr} (x:HOk P w H h) (hn:H a=none) (hs:∀b o,b≠a->h.get? b=some o->h'.get? b=some o):HOk P w H h':=fun b ob e=>
 (x b ob e).stay (fun c w' hc q=>hs c w' (by
  rintro rfl
  rcases hc with rfl|hc
  .rw[hn]at e;cases e
  .rw[hn]at hc;cases hc) q) (fun _ q=>q) fun _ _ q=>q
theorem ea' {σ':St} {pins':List (Addr×Obj)} {h':Heap} (I:Inv X pins σ H s) (hex:∀b∈ex,du' X pins H b) (J:Inv (X.comp scope s H ex) pins' σ' H' s') (hs:cE s.heap.objs.size s'.heap h'):
  Inv X pins σ H' { s' with heap:=h' }:=by
 have ne:∀b o,s.heap.get? b=some o->b≠s.heap.objs.size:=fun b o e=>aK (au e)
 have u:Un (frs X.stack) ex H H' s.heap s'.heap:=J.base
 have hf:H' s.heap.objs.size=none:=J.free
 refine I.call' (s':={ s' with heap:=h' }) (ch:=ex) J.os ⟨fun b o e n hb hx=>?_,fun b o e n hb hx=>?_,u.free,fun b o e hx=>?_,u.tups,u.frzs,u.tbls⟩ (pZ' J.hok hf fun b o hb e=>(hs.2 b hb).trans e) J.bare fun b hb=>?_
 .exact(hs.2 b (ne b o e)).trans (u.keep b o e n hb hx)
 .obtain⟨sl,q⟩:=u.slot b o e n hb hx
  exact⟨sl,(hs.2 b (ne b o e)).trans q⟩
 .obtain⟨o',q⟩:=u.there b o e hx
  exact⟨o',(hs.2 b (ne b o e)).trans q⟩
 .obtain⟨f0,f1,f2,f3,f4,f5⟩:=hex b hb
  exact⟨f3,f1,f4,f5⟩
end
def PTs (X:Cx) (ifs:List Expr) (t:TT):Prop:=∀(pins:List (Addr×Obj)) (s:Shared) (σ:St) (H:Hp) (Q:Bool->Hp->Prop),Inv X pins σ H s->t σ H Q->
 wpAny (model X.prog X.w) X.A (forIn ifs true fun c r=>if r=true then do let ok <- isTrue c X.env (eval c X.env);pure (ForInStep.yield ok)else pure (ForInStep.yield r)) (TP X pins σ Q) X.xe s
theorem p0' {X:Cx}:PTs X [] (fun _ H Q=>Q true H):=fun pins s σ H Q I h=>wpAny_tests_nil ⟨H,I,h⟩
theorem p1' {X:Cx} {c:Expr} {t:TT} (hc:PT X c t):PTs X [c] t:=fun pins s σ H Q I h=>wpAny_tests_one (hc pins s σ H Q I h)
def Ext (ws:List Nat) (σ σ':St):Prop:=σ'.length=σ.length/\∀j,j∉ws->σ'[j]?=σ[j]?
theorem Ext.refl {ws:List Nat} {σ:St}:Ext ws σ σ:=⟨rfl,fun _ _=>rfl⟩
theorem Ext.trans {ws:List Nat} {σ σ1 σ2:St} (a:Ext ws σ σ1) (b:Ext ws σ1 σ2):Ext ws σ σ2:=⟨b.1.trans a.1,fun j hj=>(b.2 j hj).trans (a.2 j hj)⟩
theorem Ext.mono {ws ws':List Nat} {σ σ1:St} (a:Ext ws σ σ1) (h:∀j∈ws,j∈ws'):Ext ws' σ σ1:=⟨a.1,fun j hj=>a.2 j fun z=>hj (h j z)⟩
theorem Ext.clr {ws:List Nat} {σ:St}:Ext ws σ (clr ws σ):=⟨eu' _ _,fun j hj=>gY' hj⟩
theorem Ext.back {ws:List Nat} {σ σ':St} (a:Ext ws (L2.clr ws σ) σ') (i:Nat) (v:V) (h:(L2.clr ws σ)[i]?=some (some v)):σ'[i]?=some (some v):=by
 obtain⟨_,q⟩:=ev' h
 rw[a.2 i q]
 exact h
def rW' (ws:List Nat) (g:TG):Prop:=∀(x:V) (σ:St) (H:Hp) (Q:St->Hp->Prop),g x σ H Q->g x σ H fun σ2 H2=>Q σ2 H2/\Ext ws σ σ2
theorem jT' {i:Nat} {ws:List Nat} (h:i∈ws):rW' ws (dv' i):=fun x σ H Q q=>⟨q,by simp,fun j hj=>by
 have:i≠j:=fun z=>hj (z ▸ h)
 rw[bE this]⟩
def a1' (e:Expr) (d:Nat) (tg iter:Expr) (ifs:List Expr) (nx:Sem Unit) (it acc:Value) (env:Env):Sem Fin:=do
 standAt iter.pos
 match <- pyNext it with
 |none=>pure (.done .next)
 |some v=>
  letOwnedTupleGo tg it v
  assign tg env v
  let mut ok:=true
  for c in ifs do
   if ok then ok <- isTrue c env (eval c env)
  if ok then nx
  again (.compLoop e d it acc env)
abbrev TL (α:Type):=St->α->Hp->(α->Hp->Prop)->Prop
def cp' {α:Type} (X:Cx) (D:Addr) (Is:α->Obj->Prop) (ws:List Nat) (code:Sem Unit) (t:TL α):Prop:=
 ∀(pins:List (Addr×Obj)) (s:Shared) (σ:St) (H:Hp) (a:α) (o:Obj) (N:α->Hp->Prop),Inv X pins σ H s->du' X pins H D->s.heap.get? D=some o->Is a o->t σ a H N->
  wpAny (model X.prog X.w) X.A code (fun _ s'=>∃σ' a' o' H',Inv X pins σ' H' s'/\Ext ws σ σ'/\s'.heap.get? D=some o'/\Is a' o'/\H' D=none/\N a' H') (fun _ _=>False) s
def a3' {α:Type} (ws:List Nat) (g:TG) (tc:TT) (aA':TL α) (J:It):TL α:=fun σ a H1 N=>
 ∃W:Nat->Nat->α->Hp->Prop,(∃m,W 0 m a H1)/\∀i m b H,W i m b H->
  (J.stop i H/\N b H)\/(J.go i H/\∀x H',J.yld i H x H'->g x (clr ws σ) H' fun σ2 H2=>tc σ2 H2 fun ok H3=>
   if ok=true then aA' σ2 b H3 (fun c H4=>∃m',m'<m/\W (i+1) m' c H4)else ∃m',m'<m/\W (i+1) m' b H3)
theorem ew' {α:Type} {Is:α->Obj->Prop} {X:Cx} {e:Expr} {d:Nat} {tg iter:Expr} {ifs:List Expr} {nx:Sem Unit} {it D:Addr} {fp:List Addr} {tn:Nat->Heap->Prop} {J:It} {g:TG} {tc:TT} {aA':TL α} {ws ws':List Nat}
  (hxe:X.xe=fun _ _=>False) (hcalm:X.calm=true)
  (hq:(Code.compLoop e d (.ref it) (.ref D) X.env).quiet=true) (hu:X.A.under (Code.compLoop e d (.ref it) (.ref D) X.env)=X.A)
  (hT:(model X.prog X.w).den (.compLoop e d (.ref it) (.ref D) X.env)=(a1' e d tg iter ifs nx (.ref it) (.ref D) X.env).onRaise (fun x=>do noteFrame x X.env;theTreesLotGoes x))
  (T:Turn X.prog X.w X.K tg J fp it tn) (hg:PG X tg g) (hge:rW' ws g) (ht:PTs X ifs tc) (hn:cp' X D Is ws' nx aA') (hws:∀j∈ws',j∈ws) (hIs:∀a o,Is a o->∀v,o.data≠.cell v) (hDf:D∉fp)
  {pins:List (Addr×Obj)} {s:Shared} {σ:St} {H:Hp} {a:α} {o:Obj} {N:α->Hp->Prop} (I:Inv X pins σ H s) (hf:∀b∈fp,du' X pins H b) (hD:du' X pins H D) (ho:s.heap.get? D=some o) (ha:Is a o) (h0:tn 0 s.heap)
  (hw:a3' ws g tc aA' J σ a H N):
  codeAny (model X.prog X.w) X.A (.compLoop e d (.ref it) (.ref D) X.env) (fun r s'=>r=.ok .next/\∃a' o' H',Inv X pins (clr ws σ) H' s'/\s'.heap.get? D=some o'/\Is a' o'/\H' D=none/\N a' H') s:=by
 obtain⟨W,⟨m0,w0⟩,turn⟩:=hw
 have stat:∀{H':Hp} {pl:List (Addr×Obj)},(∀b∈D :: fp,H' b=none)->(∀b∈D :: fp,du' X pins H' b):=fun {H' pl} hn b hb=>by
  rcases ak.mp hb with rfl|hb'
  .exact⟨hn _ aF,hD.2⟩
  .exact⟨hn b hb,(hf b hb').2⟩
 refine codeAny_loop hq (fun n s'=>∃i b ob H',Inv X pins (clr ws σ) H' s'/\tn i s'.heap/\(∀b∈D :: fp,H' b=none)/\s'.heap.get? D=some ob/\Is b ob/\W i n b H') ?_ m0
  ⟨0,a,o,H,I.weak (eu' _ _) (fun i v q=>(ev' q).1),h0,fun b hb=>by
   rcases ak.mp hb with rfl|hb'
   .exact hD.1
   .exact(hf b hb').1,ho,ha,w0⟩
 rintro n s3 ⟨i,b,ob,H3,I3,st3,fr3,o3,is3,w3⟩
 rw[hu,hT]
 refine wpAny_noted ?_
 have hE:∀{β:Type} {c:Sem β} {Q:β->Shared->Prop} {s:Shared} {E:Value->Shared->Prop},wpAny (model X.prog X.w) X.A c Q (fun _ _=>False) s->wpAny (model X.prog X.w) X.A c Q E s:=fun h=>wpAny_mono h (fun _ _ q=>q) fun _ _ q=>q.elim
 refine hE ?_
 unfold a1'
 refine af (bF (af ?_))
 have hxeE:∀{β:Type} {c:Sem β} {Q:β->Shared->Prop} {s:Shared},wpAny (model X.prog X.w) X.A c Q X.xe s->wpAny (model X.prog X.w) X.A c Q (fun _ _=>False) s:=fun h=>by rw[hxe]at h;exact h
 have pD:Inv X (pins++bZ' [D] s3.heap) (clr ws σ) H3 s3:=I3.pinned (fun b hb=>by
  have e:b=D:=by simpa using hb
  subst e
  exact stat (pl:=[]) fr3 b aF) (fun b hb=>by
  have e:b=D:=by simpa using hb
  subst e
  exact⟨ob,o3,hIs _ _ is3⟩)
 have mD:(D,ob)∈bZ' [D] s3.heap:=aK' (by simp) o3
 have fpD:∀{H':Hp},(∀b∈fp,H' b=none)->∀b∈fp,du' X (pins++bZ' [D] s3.heap) H' b:=fun {H'} hn b hb=>by
  obtain⟨_,f1,f2,f3,f4,f5⟩:=hf b hb
  refine⟨hn b hb,f1,f2,f3,f4,fun p hp=>?_⟩
  rcases aw.mp hp with q|q
  .exact f5 p (aV _ q)
  .rcases aw.mp q with q|q
   .exact f5 p (ah _ q)
   .have e:p.1=D:=by simpa using(ek' q).1
    rw[e]
    rintro rfl
    exact hDf hb
 have fr3':∀b∈fp,H3 b=none:=fun b hb=>fr3 b (ay _ hb)
 rcases turn i n b H3 w3 with⟨stop,qn⟩|⟨go,step⟩
 .refine thn (T.done X rfl rfl rfl hcalm i _ s3 _ H3 _ pD (fpD fr3') st3 stop) fun r s4 ⟨hr,I4⟩=>?_
  subst hr
  have q4:=I4.pin (D,ob) (ah _ (ah _ mD))
  exact aG ⟨rfl,b,ob,H3,I4.unpinned,q4.1,is3,q4.2.1,qn⟩
 .refine thn (T.item X rfl rfl rfl hcalm i _ s3 _ H3 _ pD (fpD fr3') st3 go) fun r s4 ⟨u,hr,h4⟩=>?_
  subst hr
  refine af (thn h4 fun _ s5 ⟨x,H5,I5,r5,y5,st5,fr5⟩=>?_)
  have I5':=I5.pinned (fpD fr5) (T.obj _ _ st5)
  refine af (thn (hxeE (hg _ s5 _ H5 x u _ I5' r5 (hge x _ H5 _ (step x H5 y5)))) fun _ s6 ⟨σ6,H6,I6,q6,x6⟩=>?_)
  refine af (thn (hxeE (ht _ s6 σ6 H6 _ I6 q6)) fun ok s7 ⟨H7,I7,q7⟩=>?_)
  have q7D:=I7.pin (D,ob) (ah _ (aV _ (ah _ mD)))
  have q7f:∀b∈fp,∀o,s5.heap.get? b=some o->s7.heap.get? b=some o/\H7 b=none:=fun b hb o e =>
   let q:=I7.pin (b,o) (ah _ (ah _ (aK' hb e)))
   ⟨q.1,q.2.1⟩
  have st7:tn (i+1) s7.heap:=T.keep _ _ _ st5 fun b hb o e=>(q7f b hb o e).1
  have fr7:∀b∈fp,H7 b=none:=fun b hb=>by
   obtain⟨o,e,_⟩:=T.obj _ _ st5 b hb
   exact(q7f b hb o e).2
  have I7':Inv X pins σ6 H7 s7:=I7.unpinned.unpinned
  cases ok with
  |false=>
   have q7':∃m',m'<n/\W (i+1) m' b H7:=q7
   obtain⟨m',hm,w7⟩:=q7'
   refine aG ⟨rfl,m',hm,i+1,b,ob,H7,I7'.weak ?_ x6.back,st7,fun c hc=>?_,q7D.1,is3,w7⟩
   .rw[x6.1]
   .rcases ak.mp hc with rfl|hc'
    .exact q7D.2.1
    .exact fr7 c hc'
  |true=>
   have I7p:=I7'.pinned (fun b hb=>stat (pl:=[]) (fun c hc=>by
    rcases ak.mp hc with rfl|hc'
    .exact q7D.2.1
    .exact fr7 c hc') b (ay _ hb)) (T.obj _ _ st7)
   have fD:du' X (pins++bZ' fp s7.heap) H7 D:=by
    obtain⟨_,f1,f2,f3,f4,f5⟩:=hD
    refine⟨q7D.2.1,f1,f2,f3,f4,fun p hp=>?_⟩
    rcases aw.mp hp with q|q
    .exact f5 p (aV _ q)
    .rcases aw.mp q with q|q
     .exact f5 p (ah _ q)
     .intro z
      exact hDf (z ▸ (ek' q).1)
   refine af (thn (hn _ s7 σ6 H7 b ob _ I7p fD q7D.1 is3 q7) fun _ s8 ⟨σ8,b8,o8,H8,I8,x8,e8,is8,n8,m',hm,w8⟩=>?_)
   have q8f:∀b∈fp,∀o,s7.heap.get? b=some o->s8.heap.get? b=some o/\H8 b=none:=fun b hb o e =>
    let q:=I8.pin (b,o) (ah _ (ah _ (aK' hb e)))
    ⟨q.1,q.2.1⟩
   have x8':Ext ws (clr ws σ) σ8:=x6.trans (x8.mono hws)
   refine aG ⟨rfl,m',hm,i+1,b8,o8,H8,I8.unpinned.weak (by rw[x8'.1]) x8'.back,T.keep _ _ _ st7 fun b hb o e=>(q8f b hb o e).1,fun c hc=>?_,e8,is8,w8⟩
   rcases ak.mp hc with rfl|hc'
   .exact n8
   .obtain⟨o,e,_⟩:=T.obj _ _ st7 c hc'
    exact(q8f c hc' o e).2
def IsL (xs:List V) (o:Obj):Prop:=xs.length<=sizeLine/\∃(its:List Value) (n:Nat),aC' xs its/\o={ cls:=.type "list",data:=.seq its.toArray n }
theorem dz' (xs:List V) (o:Obj) (h:IsL xs o) (v:Option Value):o.data≠.cell v:=by
 obtain⟨_,its,n,_,rfl⟩:=h
 intro z
 cases z
def ey' (te:TE):TL (List V):=fun σ xs H N=>te σ H fun v H'=>xs.length<sizeLine/\N (xs++[v]) H'
theorem fn' {X:Cx} {D:Addr} {elt:Expr} {te:TE} (hxe:X.xe=fun _ _=>False) (he:PE X elt te):cp' X D IsL [] (do let _ <- call (.builtin "list.append") [.ref D,<- eval elt X.env]) (ey' te):=by
 intro pins s σ H xs o N I hD ho hi hq
 have I1:Inv X (pins++bZ' [D] s.heap) σ H s:=I.pinned (fun b hb=>by
  have e:b=D:=by simpa using hb
  subst e
  exact hD) (fun b hb=>by
  have e:b=D:=by simpa using hb
  subst e
  exact⟨o,ho,dz' _ _ hi⟩)
 have h1:=he _ s σ H _ I1 hq
 rw[hxe]at h1
 refine af (thn h1 fun u s1 ⟨v,H1,J1,r1,z1,n1⟩=>?_)
 have q1:=J1.pin (D,o) (ah _ (ah _ (aK' (by simp) ho)))
 obtain⟨zx,its,n,rv,rfl⟩:=hi
 have hl:=rv.length
 refine af (wpAny_list_append_plain (items:=its.toArray) ⟨n,q1.1⟩ (fun h' hp hs=>?_) (by rw[ag,<- hl];exact zx))
 obtain⟨_,f1,f2,f3,f4,f5⟩:=hD
 have J2:Inv X pins σ H1 { s1 with heap:=h' }:=J1.unpinned.turned (it:=D) (t':=s1.toks) (fun b o hb e=>(hs.2 b hb).trans e) q1.2.1 f1 f3 f4 f5
 obtain⟨n',hp⟩:=hp
 refine aG ⟨σ,xs++[v],_,H1,J2,Ext.refl,hp,⟨?_,its++[u],n',rv.append (.cons r1 .nil),?_⟩,q1.2.1,n1⟩
 .rw[al];exact z1
 .simp
def aW' (e:Expr) (d:Nat) (iter:Expr) (acc:Value) (env:Env):Sem Unit:=do
 let x <- eval iter env
 standAt iter.pos
 let x <- foldedSetIterable iter env x
 let _ <- runOwn (.compStart e (d+1) (<- holding [x] (pyIter x)) acc env) env
theorem fo' {M:Model} {A:Around} {e:Expr} {d:Nat} {it acc:Value} {env:Env} {R:Result->Shared->Prop} {s:Shared}
  (hq:(Code.compStart e d it acc env).quiet=true) (hu:A.under (Code.compStart e d it acc env)=A) (hql:∀it',(Code.compLoop e d it' acc env).quiet=true)
  (hden:M.den (.compStart e d it acc env)=(compStart e d it acc env).onRaise (fun x=>do noteFrame x env;standAt theWindowsPlace)) (hg:∃g,(clausesOf e)[d]?=some g/\g.is_async=0)
  (h0:codeAny M A (.compLoop e d it acc env) R s) (h1:∀E,wpAny M A (pyIter it) (fun it' s'=>it'=it/\s'=s) E s):codeAny M A (.compStart e d it acc env) R s:=by
 refine codeAny_of_tree ?_
 rw[hu,hden]
 refine wpAny_notedAt ?_
 obtain⟨g,eg,ea⟩:=hg
 unfold compStart
 rw[eg]
 have e1:((some g:Option Comprehension).elim false (fun x=>x.is_async != 0))=false:=by
  show(g.is_async != 0)=false
  rw[ea];rfl
 rw[e1]
 show wpAny _ _ (ask >>= _) _ _ s
 refine af (wpAny_askSetting (wpAny_ite ?_))
 have fin:wpAny M A (again (.compLoop e d it acc env)) (fun fin s'=>match fin with | .done f=>R (.ok f) s' | .again c=>c.quiet=true/\codeAny M A c R s') (notedBy M A env fun x s'=>R (.error x) s') s:=aG ⟨hql it,h0⟩
 split
 .first
   |exact fin
   |exact af fin
   |exact af (aG fin)
 .refine af (wpAny_rule ?_)
  refine af (bF ?_)
  refine af (wpAny_mono (h1 _) (fun it' s' q=>?_) fun _ _ q=>q)
  obtain⟨rfl,rfl⟩:=q
  exact fin
theorem h5' (own:List Nat) (σ:St):clr own (clr own σ)=clr own σ:=by
 apply bx
 intro i
 by_cases h:i∈own
 .have z:∀τ:St,(clr own τ)[i]?=none\/(clr own τ)[i]?=some none:=fun τ=>by
   cases q:(clr own τ)[i]? with
   |none=>exact .inl rfl
   |some o=>
    cases o with
    |none=>exact .inr rfl
    |some v=>exact absurd h (ev' q).2
  have hl:(clr own (clr own σ)).length=(clr own σ).length:=eu' _ _
  rcases z (clr own σ)with a|a<;>rcases z σ with b|b<;>rw[a,b]
  .have q1:=aO.mp a
   have q2:=(aR.mp b).1
   omega
  .have q1:=aO.mp b
   have q2:=(aR.mp a).1
   omega
 .rw[gY' h]
def gZ' {α:Type} (wi:TI) (c:It->TL α):TL α:=fun σ a H N=>wi σ H fun J H1=>c J σ a H1 N
theorem eb' {α:Type} {Is:α->Obj->Prop} {X:Cx} {e:Expr} {d:Nat} {tg iter:Expr} {ifs:List Expr} {nx:Sem Unit} {D:Addr} {wi:TI} {g:TG} {tc:TT} {aA':TL α} {ws ws':List Nat}
  (hxe:X.xe=fun _ _=>False) (hcalm:X.calm=true)
  (hq:∀it,(Code.compLoop e (d+1) it (.ref D) X.env).quiet=true) (hu:∀it,X.A.under (Code.compLoop e (d+1) it (.ref D) X.env)=X.A)
  (hq':∀it,(Code.compStart e (d+1) it (.ref D) X.env).quiet=true) (hu':∀it,X.A.under (Code.compStart e (d+1) it (.ref D) X.env)=X.A)
  (hT:∀it,(model X.prog X.w).den (.compLoop e (d+1) it (.ref D) X.env)=(a1' e (d+1) tg iter ifs nx it (.ref D) X.env).onRaise (fun x=>do noteFrame x X.env;theTreesLotGoes x))
  (hS:∀it,(model X.prog X.w).den (.compStart e (d+1) it (.ref D) X.env)=(compStart e (d+1) it (.ref D) X.env).onRaise (fun x=>do noteFrame x X.env;standAt theWindowsPlace))
  (hcl:∃g,(clausesOf e)[d+1]?=some g/\g.is_async=0) (hfs:∀x,foldedSetIterable iter X.env x=pure x)
  (hi:PI X tg iter wi) (hg:PG X tg g) (hge:rW' ws g) (ht:PTs X ifs tc) (hn:cp' X D Is ws' nx aA') (hws:∀j∈ws',j∈ws) (hIs:∀a o,Is a o->∀v,o.data≠.cell v):
  cp' X D Is ws (aW' e d iter (.ref D) X.env) (gZ' wi (a3' ws g tc aA')):=by
 intro pins s σ H a o N I hD ho ha hw
 have I1:Inv X (pins++bZ' [D] s.heap) σ H s:=I.pinned (fun b hb=>by
  have e:b=D:=by simpa using hb
  subst e
  exact hD) (fun b hb=>by
  have e:b=D:=by simpa using hb
  subst e
  exact⟨o,ho,hIs _ _ ha⟩)
 have h1:=hi _ s σ H _ I1 hw
 rw[hxe]at h1
 unfold aW'
 refine af (thn h1 fun v s1 h2=>?_)
 refine af (bF (af (wpAny_of_eq (hfs v) ?_)))
 refine af (bo (thn h2 fun itv s2 h3=>?_))
 obtain⟨it,fp,tn,J,H2,rfl,I2,T,st2,f2,hc⟩:=h3
 have mD:(D,o)∈bZ' [D] s.heap:=aK' (by simp) ho
 have q2:=I2.pin (D,o) (ah _ (ah _ mD))
 have hDf:D∉fp:=fun z=>(f2 D z).2.2.2.2.2 (D,o) (ah _ (ah _ mD)) rfl
 have f2':∀b∈fp,du' X pins H2 b:=fun b hb=>by
  obtain⟨f0,f1,f2,f3,f4,f5⟩:=f2 b hb
  exact⟨f0,f1,f2,f3,f4,fun p hp=>f5 p (by
   rcases aw.mp hp with z|z
   .exact aV _ z
   .exact ah _ (aV _ z))⟩
 have L:=ew' (Is:=Is) (D:=D) hxe hcalm (hq _) (hu _) (hT _) T hg hge ht hn hws hIs hDf I2.unpinned f2' ⟨q2.2.1,hD.2⟩ q2.1 ha st2 hc
 have L2:=fo' (hq' _) (hu' _) hq (hS _) hcl L (fun E=>T.self X.A 0 s2 _ E st2 ⟨rfl,rfl⟩)
 refine af (wpAny_runOwn (codeAny_mono L2 fun r s3 h3=>?_))
 obtain⟨rfl,a',o',H',J',e',is',n',hN⟩:=h3
 exact aG ⟨_,a',o',H',J',Ext.clr,e',is',n',hN⟩
def g0' (own:List Nat) (wi:TI) (g:TG) (tc:TT) (aA':TL (List V)):TE:=fun σ H Q=>wi σ H fun J H1=>a3' own g tc aA' J σ [] H1 fun xs H2=>∀p,H2 p=none->Q (.ref p) (upd H2 p (.lst xs))
structure CompIn (X:Cx) (e:Expr) (scope:Scope) (tg:Expr) (iter:Expr) (ifs:List Expr) (nx:Addr->Env->Sem Unit) (g:TG) (tc:TT) (aA':TL (List V)) (own:List Nat):Prop where
 sc:CompSc X scope
 ow:∀i x,X.N[i]?=some x->(scope.names.lookup x=some .local\/scope.names.lookup x=some .cell)->i∈own
 cl:∃gs,clausesOf e=⟨tg,iter,ifs,0⟩ :: gs
 fs:∀x,foldedSetIterable iter X.env x=pure x
 calm:X.calm=true
 q:∀it D env,(Code.compLoop e 0 it (.ref D) env).quiet=true/\(Code.compStart e 0 it (.ref D) env).quiet=true
 u:∀A it D env,Around.under A (Code.compLoop e 0 it (.ref D) env)=A/\Around.under A (Code.compStart e 0 it (.ref D) env)=A
 T:∀P w it D env,(model P w).den (.compLoop e 0 it (.ref D) env)=(a1' e 0 tg iter ifs (nx D env) it (.ref D) env).onRaise (fun x=>do noteFrame x env;theTreesLotGoes x)
 S:∀P w it D env,(model P w).den (.compStart e 0 it (.ref D) env)=(compStart e 0 it (.ref D) env).onRaise (fun x=>do noteFrame x env;standAt theWindowsPlace)
 ge:rW' own g
 inn:∀s0 H0 ex D,PG (X.comp scope s0 H0 ex) tg g/\PTs (X.comp scope s0 H0 ex) ifs tc/\∃ws',(∀j∈ws',j∈own)/\cp' (X.comp scope s0 H0 ex) D IsL ws' (nx D (X.comp scope s0 H0 ex).env) aA'
section
variable {X:Cx} {e:Expr} {scope:Scope} {tg iter:Expr} {ifs:List Expr} {nx:Addr->Env->Sem Unit} {g:TG} {tc:TT} {aA':TL (List V)} {own:List Nat} {wi:TI}
theorem h6' (C:CompIn X e scope tg iter ifs nx g tc aA' own) (hi:PI X tg iter wi) {pins:List (Addr×Obj)} {s:Shared} {σ:St} {H:Hp} {R:V->Hp->Prop} (I:Inv X pins σ H s) (hw:g0' own wi g tc aA' σ H R)
  {use:Option (Value->Sem Unit)} {Q:Value->Shared->Prop} {pos:Pos}
  (fin:∀(s3 s':Shared) (H0 H':Hp) (ex:List Addr) (D:Addr) (xs:List V) (o:Obj) (σ':St),Inv X pins σ H0 s3->(∀b∈ex,du' X pins H0 b)->Inv (X.comp scope s3 H0 ex) [] σ' H' s'->s'.heap.get? D=some o->D<s3.heap.objs.size->X.s₀.heap.objs.size<=D->du' X pins H0 D->IsL xs o->H' D=none->R (.ref D) (upd H' D (.lst xs))->
   compPost (model X.prog X.w) X.A X.xe use Q (.ref D) s3.heap.objs.size (.ok .next) s'):
  wpAny (model X.prog X.w) X.A (comprehension e scope X.env pos (newList []) false (eval iter X.env) use) Q X.xe s:=by
 obtain⟨gs,hcl⟩:=C.cl
 refine wpAny_comprehension_free hcl C.fs (jS' fun n hn=>I.ok.has n (C.sc.free n hn)) C.sc.kind C.sc.names ?_
 refine thn (hi pins s σ H _ I hw) fun v s1 h1=>thn h1 fun itv s2 h2=>?_
 obtain⟨it,fp,tn,J,H2,rfl,I2,T,st2,f2,hc⟩:=h2
 refine br (dy' ?_)
 have keep:∀b o,s2.heap.get? b=some o->(s2.heap.push { cls:=.type "list",dict:=none,data:=.seq ([]:List Value).toArray }).get? b=some o:=fun b o e=>aj _ e
 have I3:Inv X pins σ H2 { s2 with heap:=s2.heap.push { cls:=.type "list",dict:=none,data:=.seq ([]:List Value).toArray } }:=I2.kept (t':=s2.toks) keep
 have hsz:(s2.heap.push { cls:=.type "list",dict:=none,data:=.seq ([]:List Value).toArray }).objs.size=s2.heap.objs.size+1:=bO ..
 have fD:du' X pins H2 s2.heap.objs.size:=I2.fpOk (ai _) (I2.hok.fresh (ai _))
 have hlt:∀b∈fp,b<s2.heap.objs.size:=fun b hb=>by
  obtain⟨o,e,_⟩:=T.obj _ _ st2 b hb
  exact au e
 have hDf:s2.heap.objs.size∉fp:=fun z=>bb _ (hlt _ z)
 have hex:∀b∈s2.heap.objs.size :: fp,du' X pins H2 b:=fun b hb=>by
  rcases ak.mp hb with rfl|hb
  .exact fD
  .exact f2 b hb
 generalize hs3:({ s2 with heap:=s2.heap.push { cls:=.type "list",dict:=none,data:=.seq ([]:List Value).toArray } }:Shared)=s3 at *
 have hs3s:s3.heap.objs.size=s2.heap.objs.size+1:=by rw[<- hs3];exact hsz
 have hlt3:∀b∈s2.heap.objs.size :: fp,b<s3.heap.objs.size:=fun b hb=>by
  rw[hs3s]
  rcases ak.mp hb with rfl|hb
  .exact cB _
  .exact bS (hlt b hb)
 have J0:=e1' (own:=own) I3 hex hlt3 C.sc C.ow
 obtain⟨c1,c2,ws',c4,c5⟩:=C.inn s3 H2 (s2.heap.objs.size :: fp) s2.heap.objs.size
 have kp:∀b o,s2.heap.get? b=some o->(a6' s3.heap scope.names).get? b=some o:=fun b o e=>pushCells_keeps _ _ b o (aj _ (by rw[<- hs3];exact keep b o e))
 have oD:(a6' s3.heap scope.names).get? s2.heap.objs.size=some { cls:=.type "list",dict:=none,data:=.seq ([]:List Value).toArray }:=pushCells_keeps _ _ _ _ (aj _ (by rw[<- hs3];exact aC _ rfl))
 have stat:∀b∈s2.heap.objs.size :: fp,du' (X.comp scope s3 H2 (s2.heap.objs.size :: fp)) [] H2 b:=fun b hb=>
  ⟨(hex b hb).1,(J0.ok.exf b hb).1,J0.ok.exfs b hb,.inl hb,(J0.ok.exf b hb).2,fun p hp=>absurd (show p∈([]:List (Addr×Obj)) from hp) (by simp)⟩
 have T':Turn (X.comp scope s3 H2 (s2.heap.objs.size :: fp)).prog (X.comp scope s3 H2 (s2.heap.objs.size :: fp)).w (X.comp scope s3 H2 (s2.heap.objs.size :: fp)).K tg J fp it tn:=T
 have hc':a3' own g tc aA' J (clr own σ) [] H2 (fun xs H2=>∀p,H2 p=none->R (.ref p) (upd H2 p (.lst xs))):=by
  obtain⟨W,w0,turn⟩:=hc
  refine⟨W,w0,?_⟩
  rw[h5']
  exact turn
 have st3:tn 0 ({ s3 with heap:=a6' s3.heap scope.names }:Shared).heap:=T.keep _ _ _ st2 fun b hb o e=>kp b o e
 have L:=ew' (X:=X.comp scope s3 H2 (s2.heap.objs.size :: fp)) (Is:=IsL) (D:=s2.heap.objs.size) rfl C.calm (C.q _ _ _).1 (C.u _ _ _ _).1 (C.T _ _ _ _ _) T' c1 C.ge c2 c5 c4 dz' hDf J0
  (fun b hb=>stat b (ay _ hb)) (stat _ aF) oD ⟨aE _,[],0,.nil,rfl⟩ st3 hc'
 have L2:=fo' (C.q _ _ _).2 (C.u _ _ _ _).2 (fun it'=>(C.q it' _ _).1) (C.S _ _ _ _ _) ⟨_,by rw[hcl];rfl,rfl⟩ L (fun E=>T.self _ 0 _ _ E st3 ⟨rfl,rfl⟩)
 refine codeAny_mono L2 fun r s' h=>?_
 obtain⟨rfl,xs,o',H',J',e',is',n',hN⟩:=h
 exact fin s3 s' H2 H' _ _ xs o' _ I3 hex J' e' (hlt3 _ aF) I2.sz fD is' n' (hN _ n')
end
section
variable {X:Cx} {pins:List (Addr×Obj)} {σ:St} {H H':Hp} {s s':Shared} {D:Addr} {o:HO}
theorem Inv.track (I:Inv X pins σ H s) (f:du' X pins H D) (h0:X.s₀.heap.objs.size<=D) (new:aD' X.prog X.w (upd H D o) s.heap D o):Inv X pins σ (upd H D o) s:=by
 obtain⟨f0,f1,f2,f3,f4,f5⟩:=f
 have ne:∀b ob,X.s₀.heap.get? b=some ob->b≠D:=fun b ob e=>aK (aB (au e) h0)
 have neT:∀b u,H b=some u->b≠D:=fun b u e z=>by rw[z,f0]at e;cases e
 refine⟨I.ok,I.os,I.bare,⟨I.base.keep,I.base.slot,fun b ob e n hx=>by rw[af' (ne b ob e)];exact I.base.free b ob e n hx,I.base.there,fun b xs e=>?_,fun b ob u e=>?_,fun b ps e=>?_⟩,I.loc,I.cell,?_,fun x c e=>?_,fun p hp=>?_,fun b u e=>?_,I.len⟩
 .have q:=I.base.tups b xs e
  rw[af' (neT b _ q)];exact q
 .have q:=I.base.frzs b ob u e
  rw[af' (neT b _ q)];exact q
 .obtain⟨m,q⟩:=I.base.tbls b ps e
  exact⟨m,by rw[af' (neT b _ q)];exact q⟩
 .rw[af' (Ne.symm f1)];exact I.free
 .rw[af' (f4 x c e)];exact I.freeC x c e
 .obtain⟨e,n,r⟩:=I.pin p hp
  refine⟨e,?_,r⟩
  rw[af' (f5 p hp)];exact n
 .by_cases hb:b=D
  .subst hb
   rw[aa']at e;cases e
   exact new
  .rw[af' hb]at e
   exact(I.hok b u e).stay (fun _ _ _ q=>q) (fun c q=>by rw[af' (neT c _ q)];exact q) fun c xs q=>by rw[af' (neT c _ q)];exact q
end
section
variable {X:Cx} {e:Expr} {scope:Scope} {tg iter:Expr} {ifs:List Expr} {nx:Addr->Env->Sem Unit} {g:TG} {tc:TT} {aA':TL (List V)} {own:List Nat} {wi:TI}
theorem g1' (C:CompIn X e scope tg iter ifs nx g tc aA' own) (hi:PI X tg iter wi) {pos:Pos} (he:eval e X.env=comprehension e scope X.env pos (newList []) false (eval iter X.env)):PE X e (g0' own wi g tc aA'):=by
 intro pins s σ H Q I hw
 rw[he]
 refine h6' C hi I hw fun s3 s' H0 H' ex D xs o σ' I3 hex J e' hlt h0 fD is' n' hR=>?_
 obtain⟨m,hn,_⟩:=J.loc
 refine⟨m,hn,fun h' hs=>?_⟩
 have J2:=ea' I3 hex J hs
 obtain⟨z,its,n,rv,rfl⟩:=is'
 have neC:D≠s3.heap.objs.size:=aK hlt
 refine⟨.ref D,upd H' D (.lst xs),J2.track (o:=.lst xs) ⟨n',fD.2⟩ h0 ⟨z,its,n,rv,(hs.2 D neC).trans e'⟩,rfl,hR⟩
theorem iP' (C:CompIn X e scope tg iter ifs nx g tc aA' own) (hi:PI X tg iter wi) {i:Nat} {y:Str} {py pos pos2:Pos} (hN:X.N.Nodup) (hy:X.N[i]?=some y) (hx:Loc X.env.scope y) (hf:X.fn y=true\/X.env.scope.names.lookup y=some .local)
  (he:evalThenUse e X.env (assign (.Name y py) X.env)=(do let _ <- comprehension e scope X.env pos2 (newList []) false (eval iter X.env) (some (assign (.Name y py) X.env))))
  (hsw:swapsWith e (some (.Name y py)) pos.line X.env=pure true):PS X (.Assign [.Name y py] e pos) (jj' (g0' own wi g tc aA') (dv' i)):=by
 intro pins s σ H D I hw
 rw[exec_Assign_Name_used _ _ _ _ hsw]
 refine af (bF (af ?_))
 rw[he]
 refine af (thn (Q:=fun _ s'=>SP X pins D .next s') (h6' C hi I hw fun s3 s' H0 H' ex D' xs o σ' I3 hex J e' hlt h0 fD is' n' hR=>?_) fun _ s' q=>aG (aG q))
 obtain⟨m,hn,_⟩:=J.loc
 have J2:Inv X pins σ H' s':=ea' I3 hex J (Heap.SameBut.refl ..)
 obtain⟨z,its,n,rv,rfl⟩:=is'
 have neC:D'≠s3.heap.objs.size:=aK hlt
 have J3:Inv X pins σ (upd H' D' (.lst xs)) s':=J2.track ⟨n',fD.2⟩ h0 ⟨z,its,n,rv,e'⟩
 have fC:du' X pins H0 s3.heap.objs.size:=I3.fpOk (ai _) (I3.hok.fresh (ai _))
 refine wpAny_assign_Name (ej' J3 hN hy hx (v:=.ref D') rfl (fun s'' J4 hs=>?_) hf)
 obtain⟨a,hsa,ha⟩:=hs
 have haC:s3.heap.objs.size≠a:=by
  rcases ha with rfl|ha
  .exact fC.2.1
  .exact fun q=>fC.2.2.2.2.1 _ _ ha q.symm
 have hn':s'.heap.Ns s3.heap.objs.size m:=hn
 refine⟨m,hn'.sameBut hsa haC,fun h' hs'=>?_⟩
 have J5:Inv X pins (σ.set i (some (.ref D'))) (upd H' D' (.lst xs)) { s'' with heap:=h' }:=J4.turned (it:=s3.heap.objs.size) (t':=s''.toks) (fun b ob hb q=>(hs'.2 b hb).trans q) (by rw[af' (Ne.symm neC)];exact J.free) fC.2.1 fC.2.2.2.1 fC.2.2.2.2.1 fC.2.2.2.2.2
 exact⟨_,_,J5,hR⟩
end
def jU':Bool->Heap->Addr->Addr->Nat->Prop
 |true,h,it,a,i=>h.IsTupleIter it a i
 |false,h,it,a,i=>h.IsListIter it a i
def oD':Bool->Heap->Addr->Array Value->Prop
 |true,h,a,xs=>h.IsTuple a xs
 |false,h,a,xs=>h.IsList a xs
theorem jU'.obj {k:Bool} {h:Heap} {it a:Addr} {i:Nat} (x:jU' k h it a i):∃o,h.get? it=some o/\o.data=.fields #[.ref a,.int i 0]:=by
 cases k
 .obtain⟨o,e,_,d⟩:=x;exact⟨o,e,d⟩
 .obtain⟨o,e,_,d⟩:=x;exact⟨o,e,d⟩
theorem jU'.at {k:Bool} {h h':Heap} {it a:Addr} {i:Nat} (x:jU' k h it a i) (hk:∀o,h.get? it=some o->h'.get? it=some o):jU' k h' it a i:=by
 cases k
 .obtain⟨o,e,r⟩:=x;exact⟨o,hk o e,r⟩
 .obtain⟨o,e,r⟩:=x;exact⟨o,hk o e,r⟩
theorem oD'.at {k:Bool} {h h':Heap} {a:Addr} {xs:Array Value} (x:oD' k h a xs) (hk:∀o,h.get? a=some o->h'.get? a=some o):oD' k h' a xs:=by
 cases k
 .obtain⟨o,e,r⟩:=x;exact⟨o,hk o e,r⟩
 .obtain⟨o,e,r⟩:=x;exact⟨o,hk o e,r⟩
theorem oD'.lt {k:Bool} {h:Heap} {a:Addr} {xs:Array Value} (x:oD' k h a xs):a<h.objs.size:=by
 cases k
 .obtain⟨o,e,r⟩:=x;exact au e
 .obtain⟨o,e,r⟩:=x;exact au e
section
variable {prog:Program} {w:World} {A:Around} {E:Value->Shared->Prop} {s:Shared}
theorem g2' {k:Bool} {it l:Addr} {i:Nat} {items:Array Value} {x:Value} {Q:Value->Shared->Prop} (hit:jU' k s.heap it l i) (hl:oD' k s.heap l items) (hx:items[i]?=some x)
  (hQ:∀h',jU' k h' it l (i+1)->cE it s.heap h'->Q x { s with heap:=h' }):wpAny (model prog w) A (Builtin.SmallTypes.nextOf (.ref it)) Q E s:=by
 cases k
 .exact wpAny_nextOf_list_item hit hl hx hQ
 .have hit:s.heap.IsTupleIter it l i:=hit
  have hl:s.heap.IsTuple l items:=hl
  obtain⟨o,ho,hc,hd⟩:=id hit
  obtain⟨ol,hol,_,nl,hdl⟩:=hl
  unfold Builtin.SmallTypes.nextOf
  refine af (bY (name:=Str.ofString "__next__") hit.typeIs F.slot_tuple_iterator_next
   (cA F.slot_tuple_iterator_next hit.typeIs F.entry_tuple_iterator_next ?_ (F.args_tuple_iterator_next_1 _)))
  show wpAny _ _ (field (.ref it) 0 >>= _) _ _ s
  refine af (wpAny_field ho hd (x:=.ref l) rfl ?_)
  show wpAny _ _ (if(Value.ref l == Value.none)=true then _ else _) _ _ s
  rw[if_neg (show ¬((Value.ref l == Value.none)=true) from aq)]
  show wpAny _ _ (field (.ref it) 1 >>= _) _ _ s
  refine af (wpAny_field ho hd (x:=.int i 0) rfl ?_)
  show wpAny _ _ (seqItems? (.ref l) >>= _) _ _ s
  refine af (wpAny_seqItems hol hdl ?_)
  simp only[bq,hx]
  refine af (wpAny_setField ho hd (by simp) (aG ⟨x,rfl,aG (hQ _ ?_ (Heap.SameBut.update ..))⟩))
  exact⟨_,Heap.get?_update_self _ ho (Obj.isFreed_of_fields (Obj.data_mapFields hd _)),(Obj.cls_mapFields ..).trans hc,by
   rw[Obj.data_mapFields hd];simp[rawInt]⟩
theorem iQ' {k:Bool} {it l:Addr} {i:Nat} {items:Array Value} {Q:Value->Shared->Prop} (hh:A.handled=none) (hit:jU' k s.heap it l i) (hl:oD' k s.heap l items) (hx:items[i]?=none)
  (hE:∀h' e,Heap.ExtBut it s.heap h'->(∃o,h'.get? e=some o/\o.cls=.type "StopIteration")->E (.ref e) { s with heap:=h' }):wpAny (model prog w) A (Builtin.SmallTypes.nextOf (.ref it)) Q E s:=by
 cases k
 .exact wpAny_nextOf_list_end hh hit hl hx hE
 .have hit:s.heap.IsTupleIter it l i:=hit
  have hl:s.heap.IsTuple l items:=hl
  obtain⟨o,ho,hc,hd⟩:=id hit
  obtain⟨ol,hol,_,nl,hdl⟩:=hl
  unfold Builtin.SmallTypes.nextOf
  refine af (bY (name:=Str.ofString "__next__") hit.typeIs F.slot_tuple_iterator_next
   (cA F.slot_tuple_iterator_next hit.typeIs F.entry_tuple_iterator_next ?_ (F.args_tuple_iterator_next_1 _)))
  show wpAny _ _ (field (.ref it) 0 >>= _) _ _ s
  refine af (wpAny_field ho hd (x:=.ref l) rfl ?_)
  show wpAny _ _ (if(Value.ref l == Value.none)=true then _ else _) _ _ s
  rw[if_neg (show ¬((Value.ref l == Value.none)=true) from aq)]
  show wpAny _ _ (field (.ref it) 1 >>= _) _ _ s
  refine af (wpAny_field ho hd (x:=.int i 0) rfl ?_)
  show wpAny _ _ (seqItems? (.ref l) >>= _) _ _ s
  refine af (wpAny_seqItems hol hdl ?_)
  simp only[bq,hx]
  refine af (wpAny_rule (af (wpAny_setField ho hd (by simp) ?_)))
  show wpAny _ _ (newExc (.type "StopIteration") [] >>= _) _ _ _
  refine af ?_
  simp only[newExc,newTuple]
  refine af (br ?_ (by size_fits))
  refine af (m:=firstArgMember _ _) (wpAny_of_eq (a:=Value.none) (by first|rfl|(simp only[firstArgMember];rfl)) ?_)
  refine br ?_ (by size_fits)
  simp only[raiseNew]
  refine af (wpAny_handled ?_)
  first|rw[show A.in1.handled=none from hh]|rw[hh]
  refine af (aG (wpAny_throw ?_))
  exact hE _ _ (((Heap.SameBut.update ..).extBut.push _).push _) ⟨_,aC _ rfl,rfl⟩
end
section
variable {prog:Program} {w:World} {A:Around} {E:Value->Shared->Prop} {s:Shared}
end
def Its (x:Str):It:=⟨fun i _=>i<x.cps.size,fun i H v H'=>H'=H/\∃c,x.cps[i]?=some c/\v=.str ⟨#[c]⟩,fun i _=>x.cps.size<=i⟩
theorem mJ' {P:Program} {w:World} {K:W.Frag} {tg:Expr} (it:Addr) (x:Str) (ty:String) (t:Tok) (hty:ty="str_ascii_iterator"\/ty="str_iterator"):
  Turn P w K tg (Its x) [it] it (fun i h=>h.IsStrIter it ty x t i) where
 mem:=by simp
 obj:=fun i h st b hb=>by
  have e:b=it:=by simpa using hb
  subst e
  obtain⟨o,e,c,d⟩:=st
  exact⟨o,e,fun v z=>by rw[d]at z;cases z⟩
 keep:=fun i h h' st k=>by
  obtain⟨o,e,r⟩:=st
  exact⟨o,k it (by simp) o e,r⟩
 item:=by
  intro X hP hw hK hc i pins s σ H E I hf st hg
  subst hP hw hK
  obtain⟨f0,f1,f2,f3,f4,f5⟩:=hf it (by simp)
  have hg':i<x.cps.size:=hg
  have hx:x.cps[i]?=some x.cps[i]:=by simp[hg']
  have fin:∀h',h'.IsStrIter it ty x t (i+1)->cE it s.heap h'->∃u,some (Value.str ⟨#[x.cps[i]]⟩ s.toks)=some u/\
    wpAny (model X.prog X.w) X.A (letOwnedTupleGo tg (.ref it) u) (fun _ s2=>∃y H',Inv X pins σ H' s2/\aG' y u/\(Its x).yld i H y H'/\s2.heap.IsStrIter it ty x t (i+1)/\∀b∈[it],H' b=none) E { s with heap:=h',toks:=s.toks+1 }:=fun h' st' sb=>by
   have I1:Inv X pins σ H { s with heap:=h',toks:=s.toks+1 }:=I.turned (fun b o hb e=>(sb.2 b hb).trans e) f0 f1 f3 f4 f5
   obtain⟨o,e,c,d⟩:=id st'
   refine⟨_,rfl,mx' (s:={ s with heap:=h',toks:=s.toks+1 }) e c d ?_ ⟨.str ⟨#[x.cps[i]]⟩,H,I1,⟨_,rfl⟩,⟨rfl,_,hx,rfl⟩,st',fun b hb=>(hf b hb).1⟩⟩
   rcases hty with rfl|rfl<;>decide
  rcases hty with rfl|rfl
  .exact wpAny_pyNext_ascii_item st hx fin
  .exact wpAny_pyNext_wide_item st hx fin
 done:=by
  intro X hP hw hK hc i pins s σ H E I hf st hg
  subst hP hw hK
  obtain⟨f0,f1,f2,f3,f4,f5⟩:=hf it (by simp)
  have hg':x.cps.size<=i:=hg
  have hx:x.cps[i]?=none:=by simp[hg']
  have fin:∀h',Heap.ExtBut it s.heap h'->(none:Option Value)=none/\Inv X pins σ H { s with heap:=h' }:=fun h' eb=>⟨rfl,I.turned (t':=s.toks) (fun b o hb e=>eb b o hb e) f0 f1 f3 f4 f5⟩
  rcases hty with rfl|rfl
  .exact wpAny_pyNext_ascii_end (I.ok.hd hc) st hx fin
  .exact wpAny_pyNext_wide_end (I.ok.hd hc) st hx fin
 self:=fun _ _ _ _ _ st h=>by
  rcases hty with rfl|rfl
  .exact wpAny_pyIter_striter_ascii st h
  .exact wpAny_pyIter_striter_wide st h
def Sq (k:Bool) (K:W.Frag) (H:Hp) (a:Addr) (xs:List V):Prop:=match k with
 |true=>SqT K H a xs
 |false=>SqL K H a xs
def y6' (k j:Bool) (K:W.Frag) (a b:Addr):It:=
 ⟨fun i H=>∃xs ys x y,Sq k K H a xs/\Sq j K H b ys/\xs[i]?=some x/\ys[i]?=some y,
  fun i H v H'=>∃p x y,v=.ref p/\H p=none/\(∀xs,Sq k K H a xs->xs[i]?=some x)/\(∀ys,Sq j K H b ys->ys[i]?=some y)/\H'=upd H p (.tup [x,y]),
  fun i H=>∃xs ys,Sq k K H a xs/\Sq j K H b ys/\(xs.length<=i\/ys.length<=i)⟩
section
variable {X:Cx} {tg:Expr}
def wM' (K:W.Frag) (tl:TE):TI:=fun σ H R=>tl σ H fun x H1=>
 (∃a,x=.ref a/\(∃xs,SqL K H1 a xs)/\R (Itl K a) H1)\/(∃a,x=.ref a/\(∃xs,SqT K H1 a xs)/\R (Itt K a) H1)\/∃z,x=.str z/\R (Its z) H1
theorem sK' {l:Expr} {tl:TE} (hl:PE X l tl):PI X tg l (wM' X.K tl):=by
 intro pins s σ H R I h
 refine thn (hl pins s σ H _ I h) fun v s1 ⟨x,H1,I1,r1,q1⟩=>?_
 rcases q1 with⟨a,e,⟨xs,hq⟩,q⟩|⟨a,e,⟨xs,hq⟩,q⟩|⟨z,e,q⟩
 .subst e
  cases r1
  obtain⟨its,rv,p,hz⟩:=I1.list hq
  refine cn p.isList ?_
  refine⟨s1.heap.objs.size,[s1.heap.objs.size],_,_,H1,rfl,I1.kept (t':=s1.toks) fun b o e=>aj _ e,jt' a _,⟨_,aC _ rfl,rfl,rfl⟩,fun b hb=>?_,q⟩
  have e:b=s1.heap.objs.size:=by simpa using hb
  subst e
  exact I1.fpOk (ai _) (I1.hok.fresh (ai _))
 .subst e
  cases r1
  obtain⟨its,rv,p,hz⟩:=I1.tuple hq
  refine wpAny_pyIter_tuple (show s1.heap.IsTuple a its.toArray from p) ?_
  refine⟨s1.heap.objs.size,[s1.heap.objs.size],_,_,H1,rfl,I1.kept (t':=s1.toks) fun b o e=>aj _ e,iF' a _,⟨_,aC _ rfl,rfl,rfl⟩,fun b hb=>?_,q⟩
  have e:b=s1.heap.objs.size:=by simpa using hb
  subst e
  exact I1.fpOk (ai _) (I1.hok.fresh (ai _))
 .subst e
  obtain⟨t,rfl⟩:=r1
  have fin:∀(ty:String),(ty="str_ascii_iterator"\/ty="str_iterator")->PIE X pins σ tg R (.ref s1.heap.objs.size) { s1 with heap:=s1.heap.push { cls:=.type ty,data:=.fields #[.str z t,.int 0 0] } }:=fun ty hty=>by
   refine⟨s1.heap.objs.size,[s1.heap.objs.size],_,_,H1,rfl,I1.kept (t':=s1.toks) fun b o e=>aj _ e,mJ' _ z ty t hty,⟨_,aC _ rfl,rfl,rfl⟩,fun b hb=>?_,q⟩
   have e:b=s1.heap.objs.size:=by simpa using hb
   subst e
   exact I1.fpOk (ai _) (I1.hok.fresh (ai _))
  cases ha:z.cps.all (· < 128)
  .exact wpAny_pyIter_wide ha (fin _ (.inr rfl))
  .exact wpAny_pyIter_ascii ha (fin _ (.inl rfl))
end
def Itd (go:Nat->Hp->Prop) (val:Nat->Hp->V->Prop) (stop:Nat->Hp->Prop):It:=
 ⟨go,fun i H v H'=>∃p x,v=.ref p/\H p=none/\val i H x/\H'=upd H p (.tup [.int i,x]),stop⟩
structure EnSrc (P:Program) (w:World) (K:W.Frag) (e it:Addr) (Sx:Nat->Heap->Prop) (go:Nat->Hp->Prop) (val:Nat->Hp->V->Prop) (stop:Nat->Hp->Prop):Prop where
 ne:e≠it
 obj:∀i h,Sx i h->∃o,h.get? it=some o/\∀v,o.data≠.cell v
 keep:∀i h h',Sx i h->(∀o,h.get? it=some o->h'.get? it=some o)->Sx i h'
 item:∀(X:Cx),X.prog=P->X.w=w->X.K=K->X.calm=true->∀(i:Nat) (pins:List (Addr×Obj)) (s:Shared) (σ:St) (H:Hp),Inv X pins σ H s->H e=none->H it=none->e<s.heap.objs.size->(∃old,IsEnum s.heap e it i old)->Sx i s.heap->go i H->
  ∃n Pd Sd fp,Draws P w X.A.in1 it fp n Pd Sd/\e∉fp/\i<n/\Sd i s.heap/\(∀j h,Sd j h->Sx j h)/\∀u,Pd i u->∃x,aG' x u/\val i H x
 done:∀(X:Cx),X.prog=P->X.w=w->X.K=K->X.calm=true->∀(i:Nat) (pins:List (Addr×Obj)) (s:Shared) (σ:St) (H:Hp),Inv X pins σ H s->H e=none->H it=none->(∃old,IsEnum s.heap e it i old)->Sx i s.heap->stop i H->
  ∃Pd Sd fp,Draws P w X.A.in1 it fp i Pd Sd/\Sd i s.heap
theorem ez' {P:Program} {w:World} {K:W.Frag} {elts:List Expr} {kt:Nat} {pt:Pos} {e it:Addr} {Sx:Nat->Heap->Prop} {go:Nat->Hp->Prop} {val:Nat->Hp->V->Prop} {stop:Nat->Hp->Prop} (S:EnSrc P w K e it Sx go val stop):
  Turn P w K (.Tuple elts kt pt) (Itd go val stop) [e,it] e (fun i h=>(∃old,IsEnum h e it i old)/\Sx i h) where
 mem:=by simp
 obj:=fun i h st b hb=>by
  obtain⟨⟨old,he⟩,hs⟩:=st
  simp only[ak,av,or_false]at hb
  rcases hb with rfl|rfl
  .exact⟨_,he,fun v=>(nomatch ·)⟩
  .exact S.obj i h hs
 keep:=fun i h h' st kk=>by
  obtain⟨⟨old,he⟩,hs⟩:=st
  exact⟨⟨old,kk e (by simp) _ he⟩,S.keep i h h' hs fun o q=>kk it (by simp) o q⟩
 item:=by
  intro X hP hw hK hc i pins s σ H E I hf st hg
  have hfe:=hf e (by simp)
  have hfi:=hf it (by simp)
  obtain⟨n,Pd,Sd,fp,D,hefp,hin,hsd,hsub,hval⟩:=S.item X hP hw hK hc i pins s σ H I hfe.1 hfi.1 (au st.1.choose_spec) st.1 st.2 hg
  obtain⟨⟨old,he⟩,hs⟩:=st
  subst hP hw hK
  refine wpAny_pyNext_enum_itemD D he hsd hin S.ne hefp fun u h' tk hPu ho hs' hT hsz hk=>?_
  obtain⟨x,rx,vx⟩:=hval u hPu
  refine⟨_,rfl,wpAny_letOwnedTupleGo_enum (s:={ s with heap:=h',toks:=tk+1 }) ho fun h'' he'' hb=>?_⟩
  have hb':cE e h' h'':=hb
  have elt:e<s.heap.objs.size:=au he
  have neT:s.heap.objs.size≠e:=Nat.ne_of_gt elt
  have hTn:H s.heap.objs.size=none:=I.hok.fresh (ai _)
  have hkk:∀c o,c∉[e,it]->s.heap.get? c=some o->h''.get? c=some o:=fun c o hc q=>by
   simp only[ak,av,or_false,not_or]at hc
   exact(hb'.2 c hc.1).trans (hk c o hc.1 hc.2 q)
  have trk:∀c o,H c=some o->c∉[e,it]:=fun c o q hc=>by rw[(hf c hc).1]at q;cases q
  have I1:Inv X pins σ (upd H s.heap.objs.size (.tup [.int i,x])) { s with heap:=h'',toks:=tk+1 }:=by
   refine I.step (g':=s.gens) (d':=s.drawn) (t':=tk+1) (ch:=[e,it]) (fun c hc=>?_) (fun c o _ _ hc q _=>hkk c o hc q) (fun c o _ _ hc q _=>⟨o.slots,hkk c o hc q⟩)
    (fun c o _ q n=>by rw[af' (aK (au q))];exact n) (fun c o hc q=>⟨o,hkk c o hc q⟩) (fun c ps q=>by rw[af' (ag' q hTn)];exact q) (fun c o p q=>by rw[af' (ag' q hTn)];exact q)
    (fun c ps q=>⟨#[],by rw[af' (ag' q hTn),q];simp⟩) (fun m hm=>?_) (fun c o q=>?_) I.bare
   .obtain⟨f0,f1,f2,f3,f4,f5⟩:=hf c hc
    exact⟨f3,f1,f4,f5⟩
   .obtain⟨oo,es,ep,ho,r⟩:=hm
    exact⟨oo,es,ep,hkk _ oo (fun hc=>(hf _ hc).2.1 rfl) ho,r⟩
   .by_cases hb:c=s.heap.objs.size
    .subst hb
     rw[aa']at q;cases q
     exact⟨by show 2<=sizeLine;decide,[.int i tk,u],.cons ⟨_,rfl⟩ (.cons rx .nil),⟨_,(hb'.2 _ neT).trans hT,rfl,⟨_,rfl⟩,rfl⟩⟩
    .rw[af' hb]at q
     refine(I.hok c o q).stay (fun d q hd eq=>hkk d q ?_ eq) (fun d q=>by rw[af' (ag' q hTn)];exact q) fun d qs q=>by rw[af' (ag' q hTn)];exact q
     rcases hd with rfl|hd
     .exact trk _ _ (by assumption)
     .exact trk _ _ hd
  refine⟨.ref s.heap.objs.size,_,I1,rfl,⟨s.heap.objs.size,x,rfl,hTn,vx,rfl⟩,⟨⟨_,he''⟩,S.keep _ _ _ (hsub _ _ hs') fun o q=>(hb'.2 it (Ne.symm S.ne)).trans q⟩,fun c hc=>?_⟩
  rw[af']
  .exact(hf c hc).1
  .intro q
   subst q
   simp only[ak,av,or_false]at hc
   rcases hc with q|q
   .exact neT q
   .obtain⟨o,e1,_⟩:=S.obj _ _ hs
    exact bb _ (q ▸ au e1)
 done:=by
  intro X hP hw hK hc i pins s σ H E I hf st hg
  have hfe:=hf e (by simp)
  have hfi:=hf it (by simp)
  obtain⟨Pd,Sd,fp,D,hsd⟩:=S.done X hP hw hK hc i pins s σ H I hfe.1 hfi.1 st.1 st.2 hg
  obtain⟨⟨old,he⟩,hs⟩:=st
  subst hP hw hK
  refine wpAny_pyNext_enum_endD D he hsd fun h' hx=>⟨rfl,?_⟩
  obtain⟨f0,f1,f2,f3,f4,f5⟩:=hfi
  exact I.turned (t':=s.toks) (fun b o hb q=>hx b o hb q) f0 f1 f3 f4 f5
 self:=fun _ _ _ _ _ st h=>by
  obtain⟨⟨old,he⟩,_⟩:=st
  exact wpAny_pyIter_enum he h
def Ite (K:W.Frag) (a:Addr):It:=Itd (fun i H=>∃xs x,SqL K H a xs/\xs[i]?=some x) (fun i H x=>∀xs,SqL K H a xs->xs[i]?=some x) (fun i H=>∃xs,SqL K H a xs/\xs.length=i)
theorem p2' {P:Program} {w:World} {K:W.Frag} {e it a:Addr} (ne:e≠it) (na:a≠e) (nai:a≠it):EnSrc P w K e it (fun i h=>h.IsListIter it a i) (fun i H=>∃xs x,SqL K H a xs/\xs[i]?=some x) (fun i H x=>∀xs,SqL K H a xs->xs[i]?=some x) (fun i H=>∃xs,SqL K H a xs/\xs.length=i) where
 ne:=ne
 obj:=fun i h st=>by
  obtain⟨o,q,c,d⟩:=st
  exact⟨o,q,fun v z=>by rw[d]at z;cases z⟩
 keep:=fun i h h' st k=>st.at k
 item:=by
  intro X hP hw hK hc i pins s σ H I _ _ _ _ st hg
  obtain⟨xs,x,hxs,hx⟩:=hg
  subst hP hw hK
  obtain⟨its,rv,p,hz⟩:=I.list hxs
  have hl:=rv.length
  obtain⟨u,hu,ru⟩:=rv.get hx
  refine⟨_,_,_,_,Draws.list (show X.A.in1.handled=none from I.ok.hd hc) it a nai its.toArray,?_,?_,⟨st,p.isList⟩,fun j h q=>q.1,fun u' hu'=>⟨x,?_,fun ys hys=>by rw[I.list_inj hys hxs];exact hx⟩⟩
  .simp only[ak,av,or_false,not_or]
   exact⟨ne,Ne.symm na⟩
  .have:=(aR.mp hx).1
   simp;omega
  .have e2:its[i]?=some u':=by simpa using hu'
   rw[hu]at e2
   cases e2
   exact ru
 done:=by
  intro X hP hw hK hc i pins s σ H I _ _ _ st hg
  obtain⟨xs,hxs,hx⟩:=hg
  subst hP hw hK
  obtain⟨its,rv,p,hz⟩:=I.list hxs
  have hl:=rv.length
  have e:i=its.toArray.size:=by simp;omega
  subst e
  exact⟨_,_,_,Draws.list (show X.A.in1.handled=none from I.ok.hd hc) it a nai its.toArray,st,p.isList⟩
def vY' (z:Str):It:=Itd (fun i _=>i<z.cps.size) (fun i _ v=>∃c,z.cps[i]?=some c/\v=.str ⟨#[c]⟩) (fun i _=>z.cps.size=i)
theorem sL' {P:Program} {w:World} {K:W.Frag} {e it:Addr} {z:Str} {t:Tok} {ty:String} (hty:ty="str_ascii_iterator"\/ty="str_iterator") (ne:e≠it):EnSrc P w K e it (fun i h=>h.IsStrIter it ty z t i) (fun i _=>i<z.cps.size) (fun i _ v=>∃c,z.cps[i]?=some c/\v=.str ⟨#[c]⟩) (fun i _=>z.cps.size=i) where
 ne:=ne
 obj:=fun i h st=>by
  obtain⟨o,q,c,d⟩:=st
  exact⟨o,q,fun v z=>by rw[d]at z;cases z⟩
 keep:=fun i h h' st k=>by
  obtain⟨o,q,r⟩:=st
  exact⟨o,k o q,r⟩
 item:=by
  intro X hP hw hK hc i pins s σ H I _ _ _ _ st hg
  subst hP hw hK
  have hh:X.A.in1.handled=none:=I.ok.hd hc
  rcases hty with rfl|rfl
  .refine⟨_,_,_,_,Draws.strAscii hh it z t,by simpa using ne,hg,st,fun j h q=>q,fun u hu=>?_⟩
   obtain⟨c,t',hc',rfl⟩:=hu
   exact⟨.str ⟨#[c]⟩,⟨_,rfl⟩,c,hc',rfl⟩
  .refine⟨_,_,_,_,Draws.strWide hh it z t,by simpa using ne,hg,st,fun j h q=>q,fun u hu=>?_⟩
   obtain⟨c,t',hc',rfl⟩:=hu
   exact⟨.str ⟨#[c]⟩,⟨_,rfl⟩,c,hc',rfl⟩
 done:=by
  intro X hP hw hK hc i pins s σ H I _ _ _ st hg
  subst hP hw hK
  have hh:X.A.in1.handled=none:=I.ok.hd hc
  have hg':z.cps.size=i:=hg
  subst hg'
  rcases hty with rfl|rfl
  .exact⟨_,_,_,Draws.strAscii hh it z t,st⟩
  .exact⟨_,_,_,Draws.strWide hh it z t,st⟩
theorem f7' {prog:Program} {w:World} {A:Around} (hh:A.handled=none) (it l:Addr) (hne:l≠it) (items:Array Value):
  Draws prog w A it [it,l] items.size (fun i v=>items[i]?=some v) (fun i h=>jU' true h it l i/\oD' true h l items) where
 live:=fun _ _ st=>let⟨o,ho,_⟩:=st.1.obj;⟨o,ho⟩
 frame:=fun _ _ _ st hk=>⟨st.1.at fun o e=>hk it (by simp) o e,st.2.at fun o e=>hk l (by simp) o e⟩
 item:=fun i s Q E hi st hQ=>by
  refine g2' st.1 st.2 (x:=items[i]) (by simp[hi]) fun h' hit' hs'=>?_
  exact hQ _ h' s.toks (by simp[hi]) ⟨hit',st.2.at fun o e=>hs'.extBut l o hne e⟩ hs'
 done:=fun s Q E st hE=>iQ' hh st.1 st.2 (by simp) hE
set_option tactic.hygienic true in
open AutoSeq1 (wpAny_loadPart') in
theorem dc' (l:Addr) (items:Array Value) (n:Nat) (dct:Option Addr) (sl:Array (Option Value)):
  Meets (Builtin.«enumerate.__new__» ⟨[.type "enumerate",.ref l],[]⟩) (fun _ R s=>s.heap.get? l=some { cls:=.type "tuple",dict:=dct,data:=.seq items n,slots:=sl }/\
   R (.ok (.ret (.ref (s.heap.push { cls:=.type "tuple_iterator",data:=.fields #[.ref l,.int 0 0] }).objs.size)))
    { s with heap:=(s.heap.push { cls:=.type "tuple_iterator",data:=.fields #[.ref l,.int 0 0] }).push { cls:=.type "enumerate",data:=.fields #[.none,.bool false,.ref s.heap.objs.size,rawInt 0,.none,.none] } }):=
 .of_wp fun prog w A R s h=>by
  obtain⟨hp,g,d,tk,os⟩:=s;obtain⟨hl,h⟩:=h
  have hsub:=sub_enumerate
  have hL:Heap.IsTuple (Shared.heap ⟨hp,g,d,tk,os⟩) l items:=⟨_,hl,rfl,n,rfl⟩
  wp_walk using wpAny_loadPart' hl
  refine wpAny_stack_any fun st=>aG ?_
  split
  .rename_i c _ _ _ _ _
   cases(c == Value.type "enumerate")
   .wp_walk using wpAny_loadPart' hl,wpAny_pyIter_tuple hL
    exact⟨_,rfl,h⟩
   .wp_walk using wpAny_loadPart' hl,wpAny_pyIter_tuple hL
    exact⟨_,rfl,h⟩
  .wp_walk using wpAny_loadPart' hl,wpAny_pyIter_tuple hL
   exact⟨_,rfl,h⟩
theorem de' {prog:Program} {w:World} {A:Around} {E:Value->Shared->Prop} {s:Shared} {l:Addr} {items:Array Value} {Q:Value->Shared->Prop} (hL:s.heap.IsTuple l items)
  (h:∀h',IsEnum h' (s.heap.objs.size+1) s.heap.objs.size 0 .none->jU' true h' s.heap.objs.size l 0->h'.objs.size=s.heap.objs.size+2->
   (∀b o,s.heap.get? b=some o->h'.get? b=some o)->Q (.ref (s.heap.objs.size+1)) { s with heap:=h' }):
  wpAny (model prog w) A (call (.type "enumerate") [.ref l]) Q E s:=by
 obtain⟨⟨c,dct,dt,sl⟩,hl,hc,n,hd⟩:=hL
 replace hc:c=.type "tuple":=hc
 replace hd:dt=.seq items n:=hd
 subst hc hd
 refine callType_new F.called_enumerate (by decide) (F.typeCall_enumerate_1 _) (F.newCall_enumerate_1 _) (fun obj=>F.args_object_init_2 obj _) F.entry_enumerate_new
  (dc' l items n dct sl) ⟨hl,?_⟩
 have hz:(s.heap.push { cls:=.type "tuple_iterator",data:=.fields #[.ref l,.int 0 0] }).objs.size=s.heap.objs.size+1:=bO ..
 show _/\_
 rw[hz]
 have he:IsEnum ((s.heap.push { cls:=.type "tuple_iterator",data:=.fields #[.ref l,.int 0 0] }).push
   { cls:=.type "enumerate",data:=.fields #[.none,.bool false,.ref s.heap.objs.size,rawInt 0,.none,.none] }) (s.heap.objs.size+1) s.heap.objs.size 0 .none:=by
  have:=aC (s.heap.push { cls:=.type "tuple_iterator",data:=.fields #[.ref l,.int 0 0] })
   (o:={ cls:=.type "enumerate",data:=.fields #[.none,.bool false,.ref s.heap.objs.size,rawInt 0,.none,.none] }) rfl
  rw[hz]at this;exact this
 refine⟨⟨_,he,rfl⟩,h _ he ⟨_,aj _ (aC _ rfl),rfl,rfl⟩ (by rw[bO,hz]) fun b o x=>aj _ (aj _ x)⟩
def vZ' (K:W.Frag) (a:Addr):It:=Itd (fun i H=>∃xs x,SqT K H a xs/\xs[i]?=some x) (fun i H x=>∀xs,SqT K H a xs->xs[i]?=some x) (fun i H=>∃xs,SqT K H a xs/\xs.length=i)
theorem sM' {P:Program} {w:World} {K:W.Frag} {e it a:Addr} (ne:e≠it) (na:a≠e) (nai:a≠it):EnSrc P w K e it (fun i h=>jU' true h it a i) (fun i H=>∃xs x,SqT K H a xs/\xs[i]?=some x) (fun i H x=>∀xs,SqT K H a xs->xs[i]?=some x) (fun i H=>∃xs,SqT K H a xs/\xs.length=i) where
 ne:=ne
 obj:=fun i h st=>by
  obtain⟨o,q,d⟩:=st.obj
  exact⟨o,q,fun v z=>by rw[d]at z;cases z⟩
 keep:=fun i h h' st k=>st.at k
 item:=by
  intro X hP hw hK hc i pins s σ H I _ _ _ _ st hg
  obtain⟨xs,x,hxs,hx⟩:=hg
  subst hP hw hK
  obtain⟨its,rv,p,hz⟩:=I.tuple hxs
  have hl:=rv.length
  obtain⟨u,hu,ru⟩:=rv.get hx
  refine⟨_,_,_,_,f7' (show X.A.in1.handled=none from I.ok.hd hc) it a nai its.toArray,?_,?_,⟨st,p⟩,fun j h q=>q.1,fun u' hu'=>⟨x,?_,fun ys hys=>by rw[I.tuple_inj hys hxs];exact hx⟩⟩
  .simp only[ak,av,or_false,not_or]
   exact⟨ne,Ne.symm na⟩
  .have:=(aR.mp hx).1
   simp;omega
  .have e2:its[i]?=some u':=by simpa using hu'
   rw[hu]at e2
   cases e2
   exact ru
 done:=by
  intro X hP hw hK hc i pins s σ H I _ _ _ st hg
  obtain⟨xs,hxs,hx⟩:=hg
  subst hP hw hK
  obtain⟨its,rv,p,hz⟩:=I.tuple hxs
  have hl:=rv.length
  have e:i=its.toArray.size:=by simp;omega
  subst e
  exact⟨_,_,_,f7' (show X.A.in1.handled=none from I.ok.hd hc) it a nai its.toArray,st,p⟩
section
variable {X:Cx}
def p3' (K:W.Frag) (tl:TE):TI:=fun σ H R=>d8' tl mn' σ H fun vs H1=>∃x,vs=[x]/\
 ((∃a,x=.ref a/\(∃xs,SqL K H1 a xs)/\R (Ite K a) H1)\/(∃z,x=.str z/\R (vY' z) H1)\/∃a,x=.ref a/\(∃xs,SqT K H1 a xs)/\R (vZ' K a) H1)
theorem eP':bootBuiltins "enumerate"=some (.type "enumerate"):=by decide +kernel
theorem p4' {a:Expr} {tl:TE} {p pos:Pos} {elts:List Expr} {kt:Nat} {pt:Pos} (hg:Gl X "enumerate") (hm:X.mg "enumerate"=none) (ha:PA X [a] (d8' tl mn')) (hs:starEach [a] X.env=[(false,eval a X.env)]):
  PI X (.Tuple elts kt pt) (.Call (.Name "enumerate" p) [a] [] pos) (p3' X.K tl):=by
 intro pins s σ H R I h
 have h':d8' tl mn' σ H (fun vs H1=>∃x,vs=[x]/\((∃a,x=.ref a/\(∃xs,SqL X.K H1 a xs)/\R (Ite X.K a) H1)\/(∃z,x=.str z/\R (vY' z) H1)\/∃a,x=.ref a/\(∃xs,SqT X.K H1 a xs)/\R (vZ' X.K a) H1)):=h
 refine Call_ (eX' I hg hm eP' (PyProof.Rows.callWith_type1 (thn (ha pos pins s σ H _ I h') fun us s1 ⟨vs,H1,I1,r1,q1⟩=>?_) (by rw[hs];rfl) (by rfl)))
 obtain⟨x,e,q1⟩:=q1
 subst e
 cases r1 with
 |cons r rr=>
  cases rr
  rcases q1 with⟨a,rfl,⟨xs,hxs⟩,q⟩|⟨z,rfl,q⟩|⟨a,rfl,⟨xs,hxs⟩,q⟩
  .cases r
   obtain⟨its,rv,pl,hz⟩:=I1.list hxs
   refine call_enumerate_list pl.isList fun h' he hit hsz hk=>wpAny_pyIter_enum he ?_
   have la:a<s1.heap.objs.size:=by
    obtain⟨o,q,_⟩:=pl.isList
    exact au q
   refine⟨s1.heap.objs.size+1,[s1.heap.objs.size+1,s1.heap.objs.size],_,_,H1,rfl,I1.kept (t':=s1.toks) hk,ez' (p2' (Nat.succ_ne_self _) (aK (bS la)) (aK la)),⟨⟨_,he⟩,hit⟩,fun c hc=>?_,q⟩
   have hle:s1.heap.objs.size<=c:=by
    simp only[ak,av,or_false]at hc
    rcases hc with rfl|rfl<;>omega
   exact I1.fpOk hle (I1.hok.fresh hle)
  .obtain⟨t,rfl⟩:=r
   refine call_enumerate_str fun h' he hit hsz hk=>wpAny_pyIter_enum he ?_
   have hty:strIterType z="str_ascii_iterator"\/strIterType z="str_iterator":=by
    unfold strIterType
    split
    .exact .inl rfl
    .exact .inr rfl
   refine⟨s1.heap.objs.size+1,[s1.heap.objs.size+1,s1.heap.objs.size],_,_,H1,rfl,I1.kept (t':=s1.toks) hk,ez' (sL' hty (Nat.succ_ne_self _)),⟨⟨_,he⟩,hit⟩,fun c hc=>?_,q⟩
   have hle:s1.heap.objs.size<=c:=by
    simp only[ak,av,or_false]at hc
    rcases hc with rfl|rfl<;>omega
   exact I1.fpOk hle (I1.hok.fresh hle)
  .cases r
   obtain⟨its,rv,pl,hz⟩:=I1.tuple hxs
   refine de' (show s1.heap.IsTuple a its.toArray from pl) fun h' he hit hsz hk=>wpAny_pyIter_enum he ?_
   have la:a<s1.heap.objs.size:=by
    obtain⟨o,q,_⟩:=pl
    exact au q
   refine⟨s1.heap.objs.size+1,[s1.heap.objs.size+1,s1.heap.objs.size],_,_,H1,rfl,I1.kept (t':=s1.toks) hk,ez' (sM' (Nat.succ_ne_self _) (aK (bS la)) (aK la)),⟨⟨_,he⟩,hit⟩,fun c hc=>?_,q⟩
   have hle:s1.heap.objs.size<=c:=by
    simp only[ak,av,or_false]at hc
    rcases hc with rfl|rfl<;>omega
   exact I1.fpOk hle (I1.hok.fresh hle)
end
section
variable {X:Cx}
theorem fp':aX' X (.type "int") (fun xs H Q=>∃x n,xs=[.str x]/\PySem.intText? x=some n/\x.length<=640/\Q (.int n) H):=by
 intro pins s σ H xs us Q I r h
 obtain⟨x,n,rfl,hn,hl,q⟩:=h
 obtain⟨u,rfl,t,rfl⟩:=dR' r
 exact W.KIN.call_text hn hl ⟨.int n,H,I.tok _,⟨_,rfl⟩,q⟩
def yt':List V->Hp->VK->Prop:=fun xs H Q=>((∃i,xs=[.int i]/\Q (.int i) H)\/∃k,xs=[.bl k]/\Q (.int (if k then 1 else 0)) H)\/∃x n,xs=[.str x]/\PySem.intText? x=some n/\x.length<=640/\Q (.int n) H
theorem jV':aX' X (.type "int") yt':=jC'.or fp'
def wN':R2:=fun x y H Q=>∃a n,x=.str a/\y=.int n/\-1000000<=n/\n<=1000000/\a.length*n.toNat<=1000000/\Q (.str (Txt.mul a n)) H
theorem iR':OpR X (binaryOp .Mult) wN':=by
 intro pins s σ H x y v u Q I rx ry h
 obtain⟨a,n,rfl,rfl,h1,h2,h3,q⟩:=h
 obtain⟨t,rfl⟩:=rx
 obtain⟨t',rfl⟩:=ry
 refine SB.mul ⟨?_,fun hn hc=>?_,fun hn hc=>?_⟩ fun t' k=>⟨.str (Txt.mul a n),H,I.tok _,⟨_,rfl⟩,q⟩
 .have e1:¬n < -(2 ^ 63:Int):=by omega
  have e2:¬n ≥ 2 ^ 63:=by omega
  simp[e1,e2]
  omega
 .have hn0:0<n:=by omega
  intro hgt
  have h4:(a.length:Int)*n<=1000000:=by
   have:((a.length*n.toNat:Nat):Int)<=1000000:=by omega
   rw[bT,Int.toNat_of_nonneg (by omega)]at this
   exact this
  have h5:=(Int.ediv_lt_iff_lt_mul hn0).mp hgt
  omega
 .have e:Builtin.Str.tooLong (a.length*n.toNat)=false:=by
   unfold Builtin.Str.tooLong
   have:sizeLine=16777216:=sizeLine_eq
   simp
   omega
  exact e
def sN' (K:W.Frag):V->List V->Hp->VK->Prop:=fun x xs H Q=>∃(sep:Str) (p:Addr) (ys:List Str),x=.str sep/\xs=[.ref p]/\(SqL K H p (ys.map V.str)\/SqT K H p (ys.map V.str))/\(ys.map (·.length)).sum+ys.length*sep.length<=16777216/\Q (.str (Txt.join sep ys)) H
theorem dV':∀{ys:List Str} {us:List Value},aC' (ys.map V.str) us->StrsAre us ys
 | [],us,h=>by
  have e:=h.zero
  subst e
  exact .nil
 |y :: ys,_,.cons r t=>by
  obtain⟨k,rfl⟩:=r
  exact .cons y k (dV' t)
theorem p5':MtR X "str.join" (sN' X.K):=by
 intro pins s σ H x xs v us Q I rx rv h
 obtain⟨sep,p,ys,rfl,rfl,hs,hz,q⟩:=h
 obtain⟨t,rfl⟩:=rx
 obtain⟨u,rfl,ru⟩:=rv.one
 cases ru
 rcases hs with hs|hs
 .obtain⟨its,r,pl,_⟩:=I.list hs
  exact join_list pl.isList (dV' r) hz fun t' k=>⟨.str _,H,I.tok _,⟨_,rfl⟩,q⟩
 .obtain⟨its,r,pl,_⟩:=I.tuple hs
  exact join_tuple pl (dV' r) hz fun t' k=>⟨.str _,H,I.tok _,⟨_,rfl⟩,q⟩
def y7':V->Option Int->Option Int->Hp->VK->Prop:=fun x lo hi H Q=>∃a,x=.str a/\a.length<=sizeLine/\Q (.str (Txt.slice a lo hi)) H
theorem sO':SlR X y7':=by
 intro pins s σ H x v vl vu lo hi sl Q I rx hs pl pu h
 obtain⟨a,rfl,hz,q⟩:=h
 obtain⟨t,rfl⟩:=rx
 have fin:∀(l u:Option (Int×Tok)),l.map (·.1)=lo->u.map (·.1)=hi->s.heap.IsSlice sl l u none->wpAny (model X.prog X.w) X.A (getItem (.str a t) (.ref sl)) (EP X pins σ Q) X.xe s:=by
  intro l u e1 e2 hsl
  refine wpAny_getItem_str_slice (l:=l) (u:=u) (st:=none) hsl rfl ?_
  refine post_val_or_str ?_
  subst e1 e2
  exact⟨aI (Txt.slice_le a _ _) hz,fun t' k=>⟨.str _,H,I.tok _,⟨_,rfl⟩,q⟩⟩
 refine⟨"str",_,F.slot_str_getitem.lookup,typeIs_str _ _ _,?_⟩
 cases pl with
 |none=>
  cases pu with
  |none=>exact fin none none rfl rfl hs
  |int j u=>exact fin none (some (j,u)) rfl rfl hs
 |int i t1=>
  cases pu with
  |none=>exact fin (some (i,t1)) none rfl rfl hs
  |int j u=>exact fin (some (i,t1)) (some (j,u)) rfl rfl hs
def bj' (H:Hp):V->Option String
 | .non=>some "NoneType"
 | .bl _=>some "bool"
 | .int _=>some "int"
 | .str _=>some "str"
 | .ref a=>match H a with
  |some (.lst _)=>some "list"
  |some (.tup _)=>some "tuple"
  |some (.dK _)=>some "dict"
  |some (.dT _)=>some "dict"
  |some (.frz _ (.lst _))=>some "list"
  |_=>none
 |_=>none
set_option tactic.hygienic true in
theorem jW' {K:W.Frag} {H:Hp} {x:V} {T:String} (h:bj' H x=some T):TyOf K H x (.type T):=by
 cases x with
 |non=>cases h;exact .non
 |bl b=>cases h;exact .bl b
 |int i=>cases h;exact .int i
 |str y=>cases h;exact .str y
 |byt _=>cases h
 |flt _=>cases h
 |ty _=>cases h
 |ref a=>
  have h:(match H a with
   |some (.lst _)=>some "list"
   |some (.tup _)=>some "tuple"
   |some (.dK _)=>some "dict"
   |some (.dT _)=>some "dict"
   |some (.frz _ (.lst _))=>some "list"
   |_=>none)=some T:=h
  split at h
  .rename_i e;cases h;exact .lst e
  .rename_i e;cases h;exact .tup e
  .rename_i e;cases h;exact .dK e
  .rename_i e;cases h;exact .dT e
  .rename_i e;cases h;exact .frz e
  .cases h
def isT (T c:String):Bool:=T == c || (T == "bool"&&c == "int")
def cq':List String:=["NoneType","bool","int","str","list","tuple","dict"]
theorem d4' (K:W.Frag):∀T∈cq',∀c∈["bool","int","str","list","tuple","dict"],W.kitOne K (.type T) (.type c)=some (isT T c):=by
 intro T hT c hc
 simp only[cq',ak,av,or_false]at hT hc
 rcases hT with rfl|rfl|rfl|rfl|rfl|rfl|rfl<;>rcases hc with rfl|rfl|rfl|rfl|rfl|rfl<;>rfl
def yu':List V->Hp->VK->Prop:=fun xs H Q=>
 (∃x T c,xs=[x,.ty c]/\bj' H x=some T/\T∈cq'/\c∈["bool","int","str","list","tuple","dict"]/\Q (.bl (isT T c)) H)\/
 (∃(x:V) (T:String) (p:Addr) (cs:List String),xs=[x,.ref p]/\bj' H x=some T/\T∈cq'/\H p=some (.tup (cs.map V.ty))/\(∀c∈cs,c∈["bool","int","str","list","tuple","dict"])/\Q (.bl (cs.any (isT T))) H)
theorem jX':∀{cs:List String} {us:List Value},aC' (cs.map V.ty) us->us=cs.map Value.type
 | [],us,h=>h.zero
 |c :: cs,_,.cons r t=>by
  have r':_=Value.type c:=r
  rw[r',jX' t]
  rfl
theorem d5' (K:W.Frag) {T:String} (hT:T∈cq'):∀{cs:List String},(∀c∈cs,c∈["bool","int","str","list","tuple","dict"])->W.kitAny K (.type T) (cs.map Value.type)=some (cs.any (isT T))
 | [],_=>rfl
 |c :: cs,h=>by
  have h1:=d4' K T hT c (h c aF)
  have h2:=d5' K hT (cs:=cs) fun c' hc'=>h c' (ay _ hc')
  show(match W.kitOne K (.type T) (.type c)with|some true=>some true|some false=>W.kitAny K (.type T) (cs.map Value.type)|none=>none)=_
  rw[h1]
  cases hb:isT T c
  .rw[cm,hb]
   exact h2
  .rw[cm,hb]
   rfl
set_option tactic.hygienic true in
theorem iS' {pins:List (Addr×Obj)} {σ:St} {H:Hp} {s:Shared} {Q:Value->Shared->Prop} {E:Value->Shared->Prop} {b:Bool} {x:V} {u:Value} {T:String} {p:Addr} {dd:Option Addr} {its:List Value} {n:Nat} {sl:Array (Option Value)} (I:Inv X pins σ H s) (rx:aG' x u) (ty:bj' H x=some T)
  (hp:s.heap.get? p=some ⟨.type "tuple",dd,.seq its.toArray n,sl⟩) (e:W.kitAny X.K (.type T) its=some b) (h:∀tk,Q (.bool b) { s with toks:=tk }):
  wpAny (model X.prog X.w) X.A (call (.builtin "isinstance") [u,.ref p]) Q E s:=by
 cases x with
 |non=>cases ty;cases(show u=Value.none from rx);exact W.kia_tup W.kitx_none I.kIn True.intro hp e (fun z=>nomatch z) h
 |bl y=>cases ty;cases(show u=Value.bool y from rx);exact W.kia_tup W.kitx_bool I.kIn True.intro hp e (fun z=>nomatch z) h
 |int i=>cases ty;obtain⟨t,q⟩:=(show ∃t,u=Value.int i t from rx);cases q;exact W.kia_tup W.kitx_int I.kIn True.intro hp e (fun z=>nomatch z) h
 |str y=>cases ty;obtain⟨t,q⟩:=(show ∃t,u=Value.str y t from rx);cases q;exact W.kia_tup W.kitx_str I.kIn True.intro hp e (fun z=>nomatch z) h
 |byt _=>cases ty
 |flt _=>cases ty
 |ty _=>cases ty
 |ref a=>
  cases(show u=Value.ref a from rx)
  have ty:(match H a with
   |some (.lst _)=>some "list"
   |some (.tup _)=>some "tuple"
   |some (.dK _)=>some "dict"
   |some (.dT _)=>some "dict"
   |some (.frz _ (.lst _))=>some "list"
   |_=>none)=some T:=ty
  split at ty
  .rename_i xs ea
   cases ty
   obtain⟨_,_,n,_,h1⟩:=(show aD' X.prog X.w H s.heap a (.lst xs) from I.hok a _ ea)
   exact W.kia_tup W.kitx_list I.kIn ⟨_,h1,rfl⟩ hp e (fun z=>nomatch z) h
  .rename_i xs ea
   cases ty
   obtain⟨_,_,_,o,h1,h2,_⟩:=(show aD' X.prog X.w H s.heap a (.tup xs) from I.hok a _ ea)
   exact W.kia_tup W.kitx_tuple I.kIn ⟨o,h1,h2⟩ hp e (fun z=>nomatch z) h
  .rename_i kvs ea
   cases ty
   obtain⟨_,_,vs,_,o,es,ep,h1,h2,_⟩:=(show aD' X.prog X.w H s.heap a (.dK kvs) from I.hok a _ ea)
   exact W.kia_tup W.kitx_dict I.kIn ⟨o,h1,h2.1⟩ hp e (fun z=>nomatch z) h
  .rename_i kvs ea
   cases ty
   obtain⟨_,_,xs,_,o,es,ep,h1,h2,_⟩:=(show aD' X.prog X.w H s.heap a (.dT kvs) from I.hok a _ ea)
   exact W.kia_tup W.kitx_dict I.kIn ⟨o,h1,h2.1⟩ hp e (fun z=>nomatch z) h
  .rename_i ob xs ea
   cases ty
   obtain⟨_,_,_,n,_,h1⟩:=(show aD' X.prog X.w H s.heap a (.frz ob (.lst xs)) from I.hok a _ ea)
   exact W.kia_tup W.kitx_list I.kIn ⟨_,h1,rfl⟩ hp e (fun z=>nomatch z) h
  .cases ty
theorem mK':aX' X (.builtin "isinstance") yu':=by
 intro pins s σ H xs us Q I r h
 rcases h with⟨x,T,c,rfl,hT,hk,hc,q⟩|⟨x,T,p,cs,rfl,hT,hk,hp,hc,q⟩
 .obtain⟨u,w',rfl,r1,r2⟩:=jz' r
  have r2:w'=Value.type c:=r2
  subst r2
  exact jE' I r1 (jW' hT) (d4' X.K T hk c hc) fun tk=>⟨.bl _,H,I.tok _,rfl,q⟩
 .obtain⟨u,w',rfl,r1,r2⟩:=jz' r
  have r2:w'=Value.ref p:=r2
  subst r2
  obtain⟨_,its,rv,o,h1,h2,⟨n,h3⟩,_⟩:=(show aD' X.prog X.w H s.heap p (.tup (cs.map V.ty)) from I.hok p _ hp)
  have e:=jX' rv
  subst e
  obtain⟨oc,od,dat,osl⟩:=o
  have h2:oc=_:=h2
  have h3:dat=_:=h3
  subst h2 h3
  exact iS' I r1 hT h1 (d5' X.K hk hc) fun tk=>⟨.bl _,H,I.tok _,rfl,q⟩
def v0' (K:W.Frag) (any:Bool):List V->Hp->VK->Prop:=fun xs H Q=>∃(p:Addr) (bs:List Bool),xs=[.ref p]/\SqL K H p (bs.map V.bl)/\Q (.bl (if any then bs.any id else bs.all id)) H
theorem eA':∀{bs:List Bool} {us:List Value} {i:Nat} {v:Value},aC' (bs.map V.bl) us->us[i]?=some v->∃b,bs[i]?=some b/\v=.bool b
 | [],us,i,v,h,e=>by rw[h.zero]at e;simp at e
 |b :: bs,_,0,v,.cons r t,e=>by
  have r:_=Value.bool b:=r
  simp at e
  exact⟨b,rfl,by rw[<- e];exact r⟩
 |b :: bs,_,i+1,v,.cons r t,e=>by
  obtain⟨b',h1,h2⟩:=eA' (i:=i) t (by simpa using e)
  exact⟨b',by simpa using h1,h2⟩
theorem jY' (bs:List Bool):(aA bs.length).all (fun i=>bs.getD i false)=bs.all id:=by
 rw[ci,bj,bj]
 constructor
 .intro h b hb
  obtain⟨i,hi,rfl⟩:=bP.mp hb
  have:=h i (aJ.mpr hi)
  simpa[aN,hi]using this
 .intro h i hi
  have hi:=aJ.mp hi
  have:=h bs[i] (List.getElem_mem hi)
  simpa[aN,hi]using this
theorem f8' (bs:List Bool):(aA bs.length).any (fun i=>bs.getD i false)=bs.any id:=by
 rw[ci,bK,bK]
 constructor
 .rintro⟨i,hi,h⟩
  have hi:=aJ.mp hi
  exact⟨bs[i],List.getElem_mem hi,by simpa[aN,hi]using h⟩
 .rintro⟨b,hb,h⟩
  obtain⟨i,hi,rfl⟩:=bP.mp hb
  exact⟨i,aJ.mpr hi,by simpa[aN,hi]using h⟩
theorem jZ' (hc:X.calm=true):aX' X (.builtin "all") (v0' X.K false):=by
 intro pins s σ H xs us Q I r h
 obtain⟨p,bs,rfl,hs,q⟩:=h
 obtain⟨u,rfl,ru⟩:=dR' r
 cases ru
 obtain⟨its,rv,pl,hz⟩:=I.list hs
 have hlen:its.toArray.size=bs.length:=by
  have:=rv.length
  rw[aa]at this
  rw[ag,this]
 refine call_all_walk (cn pl.isList ?_)
 have hlt:p<s.heap.objs.size:=by obtain⟨o,n,e,_⟩:=pl;exact au e
 refine⟨s.heap.objs.size,_,_,_,_,_,fun i=>bs.getD i false,rfl,Walks.list (A:=X.A.in1) (I.ok.hd hc) _ p (aK hlt) its.toArray,⟨⟨_,aC _ rfl,rfl,rfl⟩,Heap.IsList.push pl.isList _⟩,?_,fun h' tk hk=>?_⟩
 .intro i v s' Q' E' hv hq
  obtain⟨b,hb,rfl⟩:=eA' rv (i:=i) (by simpa using hv)
  refine aY ?_
  have e:bs.getD i false=b:=by rw[aN,hb];rfl
  have hq':Q' (bs.getD i false) s':=hq
  rw[e]at hq'
  exact hq'
 .rw[hlen,jY']
  exact⟨.bl _,H,I.kept fun b o e=>hk b o (by simp;exact aK (au e)) (aj _ e),rfl,q⟩
theorem j0' (hc:X.calm=true):aX' X (.builtin "any") (v0' X.K true):=by
 intro pins s σ H xs us Q I r h
 obtain⟨p,bs,rfl,hs,q⟩:=h
 obtain⟨u,rfl,ru⟩:=dR' r
 cases ru
 obtain⟨its,rv,pl,hz⟩:=I.list hs
 have hlen:its.toArray.size=bs.length:=by
  have:=rv.length
  rw[aa]at this
  rw[ag,this]
 refine call_any_walk (cn pl.isList ?_)
 have hlt:p<s.heap.objs.size:=by obtain⟨o,n,e,_⟩:=pl;exact au e
 refine⟨s.heap.objs.size,_,_,_,_,_,fun i=>bs.getD i false,rfl,Walks.list (A:=X.A.in1) (I.ok.hd hc) _ p (aK hlt) its.toArray,⟨⟨_,aC _ rfl,rfl,rfl⟩,Heap.IsList.push pl.isList _⟩,?_,fun h' tk hk=>?_⟩
 .intro i v s' Q' E' hv hq
  obtain⟨b,hb,rfl⟩:=eA' rv (i:=i) (by simpa using hv)
  refine aY ?_
  have e:bs.getD i false=b:=by rw[aN,hb];rfl
  have hq':Q' (bs.getD i false) s':=hq
  rw[e]at hq'
  exact hq'
 .rw[hlen,f8']
  exact⟨.bl _,H,I.kept fun b o e=>hk b o (by simp;exact aK (au e)) (aj _ e),rfl,q⟩
def mL' (K:W.Frag) (mx:Bool):List V->Hp->VK->Prop:=fun xs H Q=>∃(p:Addr) (ns:List Int),xs=[.ref p]/\SqL K H p (ns.map V.int)/\ns≠[]/\∀M,M∈ns->(∀a∈ns,if mx then a<=M else M<=a)->Q (.int M) H
theorem j1' (hc:X.calm=true):aX' X (.builtin "max") (mL' X.K true):=by
 intro pins s σ H xs us Q I r h
 obtain⟨p,ns,rfl,hs,hne,q⟩:=h
 obtain⟨u,rfl,ru⟩:=dR' r
 cases ru
 obtain⟨its,rv,pl,hz⟩:=I.list hs
 have hi:=dT' rv
 obtain⟨xs,e⟩:=hi.allInts.items
 have hns:ns=xs.toList.map (·.1):=by
  rw[<- hi.numsOf,<- nums_intItems,<- e]
 have hsz:0<xs.size:=by
  have h3:=List.length_pos_iff.mpr hne
  rw[hns,aa,aD]at h3
  exact h3
 have hl:=pl.isList
 rw[e]at hl
 refine max_intList (I.ok.hd hc) hl hsz fun v h' tk hv hk=>?_
 obtain⟨t,rfl⟩:=intItems_at hv
 obtain⟨h1,h2⟩:=argBest_gt (numAt xs) (xs.size-1)
 refine⟨.int _,H,I.kept hk,⟨t,rfl⟩,q _ ?_ fun a ha=>?_⟩
 .rw[hns,numAt_eq];exact getD_mem (by rw[aa,aD];omega)
 .rw[hns]at ha
  obtain⟨j,hj,rfl⟩:=mem_getD ha
  rw[aa,aD]at hj
  rw[if_pos rfl,<- numAt_eq];exact h2 j (by omega)
theorem j2' (hc:X.calm=true):aX' X (.builtin "min") (mL' X.K false):=by
 intro pins s σ H xs us Q I r h
 obtain⟨p,ns,rfl,hs,hne,q⟩:=h
 obtain⟨u,rfl,ru⟩:=dR' r
 cases ru
 obtain⟨its,rv,pl,hz⟩:=I.list hs
 have hi:=dT' rv
 obtain⟨xs,e⟩:=hi.allInts.items
 have hns:ns=xs.toList.map (·.1):=by
  rw[<- hi.numsOf,<- nums_intItems,<- e]
 have hsz:0<xs.size:=by
  have h3:=List.length_pos_iff.mpr hne
  rw[hns,aa,aD]at h3
  exact h3
 have hl:=pl.isList
 rw[e]at hl
 refine min_intList (I.ok.hd hc) hl hsz fun v h' tk hv hk=>?_
 obtain⟨t,rfl⟩:=intItems_at hv
 obtain⟨h1,h2⟩:=argBest_lt (numAt xs) (xs.size-1)
 refine⟨.int _,H,I.kept hk,⟨t,rfl⟩,q _ ?_ fun a ha=>?_⟩
 .rw[hns,numAt_eq];exact getD_mem (by rw[aa,aD];omega)
 .rw[hns]at ha
  obtain⟨j,hj,rfl⟩:=mem_getD ha
  rw[aa,aD]at hj
  rw[if_neg (by decide),<- numAt_eq];exact h2 j (by omega)
end
section
variable {X:Cx}
def j3':V->List V->Hp->VK->Prop:=fun x vs H Q=>∃l xs y,∃i:Nat,x=.ref l/\vs=[.int i,y]/\H l=some (.lst xs)/\xs.length<sizeLine/\i<=xs.length/\Q .non (upd H l (.lst (xs.take i++y :: xs.drop i)))
set_option tactic.hygienic true in
theorem j4':MtM X "list.insert" j3':=by
 intro pins s σ H x vs v us Q I rx rv h
 obtain⟨l,xs,y,i,rfl,rfl,hH,hz,hi,q⟩:=h
 cases rx
 cases rv with
 |cons r1 rv=>
  cases rv with
  |cons r2 rv=>
   cases rv
   obtain⟨t,rfl⟩:=r1
   rename_i u
   obtain⟨z,its,n,r,hl,e⟩:=I.lstM hH
   have hb:i<2 ^ 62:=bD hi (bD z (show 2 ^ 24<2 ^ 62 from Nat.pow_lt_pow_right (by decide) (by decide)))
   have hfit:¬(!Builtin.List.listFitsIndex (i:Int))=true:=by
    unfold Builtin.List.listFitsIndex
    simp
    omega
   have hsz:its.toArray.size<=sizeLine:=by rw[ag];exact hl ▸ z
   generalize hj:(i:Int)=j at hfit
   have M:=AutoListH.list_insert_list_int_val_1 l its.toArray n j t u hfit hsz
   refine call_meets F.slot_list_insert ⟨_,e,rfl⟩ F.entry_list_insert (F.args_list_insert_3 _ _ _) M ⟨e,?_⟩
   subst hj
   refine⟨.non,_,I.lset (its':=its.take i++u :: its.drop i) hH e ?_ ((r.take i).append (.cons r2 (r.drop i))) ?_,rfl,q⟩
   .have hn:¬((i:Int)<0):=by omega
    simp only[hn,if_false,bq,ag]
    rw[Nat.min_eq_left (by omega)]
    simp
    exact cf (by simp)
   .simp
    omega
open PySem.SeqAt in
theorem g3' {A:Around} {s:Shared} {x y:V} {u v:Value} (rx:aG' x u) (ry:aG' y v) (h:vV' x y=true/\(∀b,x≠.byt b)\/x=y/\∃a,x=.ref a):EqAt A s u v (decide (x=y)):=by
 rcases h with⟨h,hb⟩|⟨rfl,a,rfl⟩
 .cases x with
  |non=>cases y with
   |non=>cases rx;cases ry;exact EqAt.same _
   |bl b=>cases rx;cases ry;exact EqAt.none_bool _
   |int b=>cases rx;obtain⟨t,rfl⟩:=ry;exact EqAt.none_int _ _
   |str b=>cases rx;obtain⟨t,rfl⟩:=ry;exact EqAt.none_str _ _
   |_=>cases h
  |bl a=>cases y with
   |non=>cases rx;cases ry;exact EqAt.bool_none _
   |bl b=>cases rx;cases ry;have:=EqAt.bool_bool (A:=A) (s:=s) a b;cases a<;>cases b<;>exact this
   |str b=>cases rx;obtain⟨t,rfl⟩:=ry;exact EqAt.bool_str _ _ _
   |_=>cases h
  |int a=>cases y with
   |non=>obtain⟨t,rfl⟩:=rx;cases ry;exact EqAt.int_none _ _
   |int b=>obtain⟨t,rfl⟩:=rx;obtain⟨t',rfl⟩:=ry;rw[gV'];exact EqAt.int_int _ _ _ _
   |str b=>obtain⟨t,rfl⟩:=rx;obtain⟨t',rfl⟩:=ry;exact EqAt.int_str _ _ _ _
   |_=>cases h
  |str a=>cases y with
   |non=>obtain⟨t,rfl⟩:=rx;cases ry;exact EqAt.str_none _ _
   |bl b=>obtain⟨t,rfl⟩:=rx;cases ry;exact EqAt.str_bool _ _ _
   |int b=>obtain⟨t,rfl⟩:=rx;obtain⟨t',rfl⟩:=ry;exact EqAt.str_int _ _ _ _
   |str b=>
    obtain⟨t,rfl⟩:=rx
    obtain⟨t',rfl⟩:=ry
    have e:decide (V.str a=V.str b)=(a == b):=by
     by_cases hab:a=b
     .subst hab;simp
     .rw[decide_eq_false (by intro z;cases z;exact hab rfl)];simp[hab]
    rw[e]
    exact EqAt.str_str _ _ _ _
   |_=>cases h
  |byt b=>exact absurd rfl (hb b)
  |_=>cases y<;>cases h
 .cases rx
  cases ry
  rw[decide_eq_true rfl]
  exact EqAt.same _
def LEq (xs ys:List V):Prop:=∀(i:Nat) x y,xs[i]?=some x->ys[i]?=some y->vV' x y=true/\(∀b,x≠.byt b)\/x=y/\∃a,x=.ref a
def v1' (K:W.Frag) (neg:Bool):V->V->Hp->VK->Prop:=fun x y H Q=>∃p q xs ys,x=.ref p/\y=.ref q/\SqL K H p xs/\SqL K H q ys/\(xs.length=ys.length->LEq xs ys)/\Q (.bl (if neg then !decide (xs=ys)else decide (xs=ys))) H
theorem oE' {xs ys:List V} (h:xs.length=ys.length):(aA xs.length).all (fun i=>decide (xs[i]?=ys[i]?))=decide (xs=ys):=by
 by_cases e:xs=ys
 .subst e
  simp
 .rw[decide_eq_false e,Bool.eq_false_iff]
  intro q
  rw[bj]at q
  apply e
  apply bx
  intro i
  rcases cj i xs.length with hi|hi
  .exact of_decide_eq_true (q i (aJ.mpr hi))
  .rw[aO.mpr hi,aO.mpr (by omega)]
open PySem.SeqAt in
theorem sP' (hu:X.A.units<cLine):OpR X (compareOp .Eq) (v1' X.K false):=by
 intro pins s σ H x y v u Q I rx ry h
 obtain⟨p,q,xs,ys,rfl,rfl,hp,hq,he,k⟩:=h
 cases rx
 cases ry
 obtain⟨its,r1,pl1,_⟩:=I.list hp
 obtain⟨its2,r2,pl2,_⟩:=I.list hq
 have l1:=r1.length
 have l2:=r2.length
 by_cases hl:xs.length=ys.length
 .refine eq_listAt (e:=fun i=>decide (xs[i]?=ys[i]?)) pl1.isList pl2.isList (by simp;omega) hu (fun j h1 h2=>?_) ?_
  .have j1:j<xs.length:=by simp at h1;omega
   have j2:j<ys.length:=by omega
   have g1:xs[j]?=some xs[j]:=ab j1
   have g2:ys[j]?=some ys[j]:=ab j2
   obtain⟨u1,e1,ru1⟩:=r1.get g1
   obtain⟨u2,e2,ru2⟩:=r2.get g2
   have f1:its.toArray[j]=u1:=by simp at h1 ⊢;rw[ab h1]at e1;exact Option.some.inj e1
   have f2:its2.toArray[j]=u2:=by simp at h2 ⊢;rw[ab h2]at e2;exact Option.some.inj e2
   rw[f1,f2,g1,g2]
   have e3:decide (some xs[j]=some ys[j])=decide (xs[j]=ys[j]):=by simp
   rw[e3]
   exact g3' ru1 ru2 (he hl j _ _ g1 g2)
  .have e4:(aA its.toArray.size).all (fun i=>decide (xs[i]?=ys[i]?))=decide (xs=ys):=by
    rw[ag,<- l1];exact oE' hl
   rw[e4]
   exact⟨.bl _,H,I,rfl,k⟩
 .refine eq_list_lengthsAt pl1.isList pl2.isList (by simp;omega) hu ?_
  rw[decide_eq_false (fun z=>hl (by rw[z]))]at k
  exact⟨.bl false,H,I,rfl,k⟩
open PySem.SeqAt in
theorem sQ' (hu:X.A.units<cLine):OpR X (compareOp .NotEq) (v1' X.K true):=by
 intro pins s σ H x y v u Q I rx ry h
 obtain⟨p,q,xs,ys,rfl,rfl,hp,hq,he,k⟩:=h
 cases rx
 cases ry
 obtain⟨its,r1,pl1,_⟩:=I.list hp
 obtain⟨its2,r2,pl2,_⟩:=I.list hq
 have l1:=r1.length
 have l2:=r2.length
 obtain⟨⟨cls,dd,data,sl⟩,ho,hc,n,hd⟩:=pl1.isList
 obtain⟨⟨cls2,dd2,data2,sl2⟩,ho2,hc2,n2,hd2⟩:=pl2.isList
 simp only at hc hd hc2 hd2
 subst hc hd hc2 hd2
 by_cases hl:xs.length=ys.length
 .refine richCompare_meets_room (op:=.NotEq) ⟨_,ho,rfl⟩ ⟨_,ho2,rfl⟩ F.slot_list_ne F.entry_list_ne (F.args_list_ne_2 _ _) (list_neAt p q its.toArray its2.toArray n n2 dd dd2 sl sl2 (by simp;omega) (fun i=>decide (xs[i]?=ys[i]?))) ⟨ho,ho2,fun j h1 h2=>?_,?_⟩ hu
  .have j1:j<xs.length:=by simp at h1;omega
   have j2:j<ys.length:=by omega
   have g1:xs[j]?=some xs[j]:=ab j1
   have g2:ys[j]?=some ys[j]:=ab j2
   obtain⟨u1,e1,ru1⟩:=r1.get g1
   obtain⟨u2,e2,ru2⟩:=r2.get g2
   have f1:its.toArray[j]=u1:=by simp at h1 ⊢;rw[ab h1]at e1;exact Option.some.inj e1
   have f2:its2.toArray[j]=u2:=by simp at h2 ⊢;rw[ab h2]at e2;exact Option.some.inj e2
   rw[f1,f2,g1,g2]
   have e3:decide (some xs[j]=some ys[j])=decide (xs[j]=ys[j]):=by simp
   rw[e3]
   exact g3' ru1 ru2 (he hl j _ _ g1 g2)
  .have e4:(aA its.toArray.size).all (fun i=>decide (xs[i]?=ys[i]?))=decide (xs=ys):=by
    rw[ag,<- l1];exact oE' hl
   rw[e4]
   exact(show Value.bool (!decide (xs=ys))≠Value.notImplemented/\EP X pins σ Q (Value.bool (!decide (xs=ys))) s from⟨(fun x=>nomatch x),⟨.bl _,H,I,rfl,k⟩⟩)
 .refine richCompare_meets_room (op:=.NotEq) ⟨_,ho,rfl⟩ ⟨_,ho2,rfl⟩ F.slot_list_ne F.entry_list_ne (F.args_list_ne_2 _ _) (list_ne_lengthsAt p q its.toArray its2.toArray n n2 dd dd2 sl sl2 (by simp;omega)) ⟨ho,ho2,?_⟩ hu
  rw[decide_eq_false (fun z=>hl (by rw[z]))]at k
  exact(show Value.bool true≠Value.notImplemented/\EP X pins σ Q (Value.bool true) s from⟨(fun x=>nomatch x),⟨.bl true,H,I,rfl,k⟩⟩)
def rgs (i:Int) (n:Nat):List V:=(aA n).map fun(k:Nat)=>V.int (i+(k:Int))
def yv':List V->Hp->VK->Prop:=fun xs H Q=>∃i j:Int,(xs=[.int i,.int j]\/(i=0/\xs=[.int j]))/\∀p,H p=none->Q (.ref p) (upd H p (.rng i j))
theorem mM':aX' X (.type "range") yv':=by
 intro pins s σ H xs us Q I rv h
 obtain⟨i,j,hx,q⟩:=h
 have hn:H s.heap.objs.size=none:=I.hok.fresh (ai _)
 rcases hx with rfl|⟨rfl,rfl⟩
 .cases rv with
  |cons r1 rv=>
   cases rv with
   |cons r2 rv=>
    cases rv
    obtain⟨t,rfl⟩:=r1
    obtain⟨u,rfl⟩:=r2
    exact call_range_2 ⟨.ref s.heap.objs.size,_,I.laid (t':=s.toks+1) (fun _ _ e=>aj _ e) (ai _) (o:=.rng i j) ⟨t,u,s.toks,aC _ rfl⟩,rfl,q _ hn⟩
 .cases rv with
  |cons r1 rv=>
   cases rv
   obtain⟨t,rfl⟩:=r1
   exact call_range_1 ⟨.ref s.heap.objs.size,_,I.laid (t':=s.toks+1+1) (fun _ _ e=>aj _ e) (ai _) (o:=.rng 0 j) ⟨s.toks,t,s.toks+1,aC _ rfl⟩,rfl,q _ hn⟩
def yw':List V->Hp->VK->Prop:=fun xs H Q=>∃r i j,xs=[.ref r]/\H r=some (.rng i j)/\(-(2 ^ 62)<=i/\i<2 ^ 62/\-(2 ^ 62)<=j/\j<2 ^ 62)/\(j-i).toNat<=sizeLine/\∀p,H p=none->Q (.ref p) (upd H p (.lst (rgs i (j-i).toNat)))
theorem mN' (hc:X.calm=true):aX' X (.type "list") yw':=by
 intro pins s σ H xs us Q I rv h
 obtain⟨r,i,j,rfl,hr,⟨h1,h2,h3,h4⟩,hz,q⟩:=h
 cases rv with
 |cons r1 rv=>
  cases rv
  cases r1
  obtain⟨t,u,v,e⟩:=(show aD' X.prog X.w H s.heap r (.rng i j) from I.hok r _ hr)
  refine call_list_range (n:=(j-i).toNat) (I.ok.hd hc) e (small_one h1 h2 h3 h4) (by rw[rangeSize_one];split<;>omega) hz fun h' tk' acc' c' hk hS hit=>?_
  obtain⟨hsz,hv⟩:=hit
  have hn:H s.heap.objs.size=none:=I.hok.fresh (ai _)
  have key:∀(n:Nat) (l:List Value) (f:Nat->Int),l.length=n->(∀k v,l[k]?=some v->∃t,v=Value.int (f k) t)->aC' ((aA n).map fun k=>V.int (f k)) l:=by
   intro n
   induction n with
   |zero=>intro l f hl hv;have:l=[]:=List.length_eq_zero_iff.mp hl;subst this;exact .nil
   |succ n ih=>
    intro l f hl hv
    cases l with
    |nil=>cases hl
    |cons x r=>
     rw[List.range_succ_eq_map,aH,bW]
     refine .cons (hv 0 x rfl) ?_
     exact ih r (fun k=>f (k+1)) (by simpa using hl) fun k v hk=>hv (k+1) v (by simpa using hk)
  refine⟨.ref s.heap.objs.size,_,I.laid (t':=tk') hk (ai _) (o:=.lst (rgs i (j-i).toNat)) ⟨by unfold rgs;rw[aa,aS];exact hz,acc'.toList,c',?_,hS⟩,rfl,q _ hn⟩
  refine key _ _ (fun k=>i+(k:Int)) (by rw[aD];exact hsz) fun k v hk=>?_
  obtain⟨t,e⟩:=hv k v (by simpa using hk)
  exact⟨t,by rw[e];simp⟩
end
section
variable {X:Cx}
theorem h7':∀{ns:List Int} {us:List Value} {i:Nat} {v:Value},aC' (ns.map V.int) us->us[i]?=some v->∃t,v=.int (ns.getD i 0) t
 | [],us,i,v,h,e=>by rw[h.zero]at e;simp at e
 |b :: bs,_,0,v,.cons r t,e=>by
  obtain⟨t,r⟩:=r
  simp at e
  exact⟨t,by rw[<- e,r];rfl⟩
 |b :: bs,_,i+1,v,.cons r t,e=>by
  obtain⟨t',h⟩:=h7' (i:=i) t (by simpa using e)
  exact⟨t',by rw[h];simp⟩
theorem g4':∀(ns:List Int),preSum (fun i=>ns.getD i 0) ns.length=ns.sum:=by
 have key:∀(f:Nat->Int) (n:Nat),preSum f n=((aA n).map f).sum:=by
  intro f n
  induction n with
  |zero=>rfl
  |succ n ih=>
   rw[bU,ax,List.sum_append,<- ih]
   simp[preSum]
 intro ns
 rw[key]
 congr 1
 apply bx
 intro i
 rw[ap]
 rcases cj i ns.length with h|h
 .rw[bz h,ab h]
  simp[aN,h]
 .rw[aO.mpr h,aO.mpr (by simpa using h)]
  rfl
def yx' (K:W.Frag):List V->Hp->VK->Prop:=fun xs H Q=>∃(p:Addr) (ns:List Int),xs=[.ref p]/\SqL K H p (ns.map V.int)/\Q (.int ns.sum) H
theorem j5' (hc:X.calm=true):aX' X (.builtin "sum") (yx' X.K):=by
 intro pins s σ H xs us Q I r h
 obtain⟨p,ns,rfl,hs,q⟩:=h
 obtain⟨u,rfl,ru⟩:=dR' r
 cases ru
 obtain⟨its,rv,pl,hz⟩:=I.list hs
 have hlen:its.toArray.size=ns.length:=by
  have:=rv.length
  rw[aa]at this
  rw[ag];exact this.symm
 have hlt:p<s.heap.objs.size:=by
  obtain⟨o,e,_⟩:=pl.isList
  exact au e
 refine call_sum_walkG (cn pl.isList ?_)
 have hp1:(s.heap.push { cls:=.type "list_iterator",data:=.fields #[.ref p,.int 0 0] }).get? s.heap.objs.size=some { cls:=.type "list_iterator",data:=.fields #[.ref p,.int 0 0] }:=aC _ rfl
 refine⟨s.heap.objs.size,_,_,_,_,_,fun i=>ns.getD i 0,rfl,Walks.list (A:=X.A.in1) (show X.A.in1.handled=none from I.ok.hd hc) s.heap.objs.size p (aK hlt) its.toArray,⟨⟨_,hp1,rfl,rfl⟩,?_⟩,?_,fun i v hv=>?_,fun h' tk t' hk=>?_⟩
 .obtain⟨o,e,r⟩:=pl.isList
  exact⟨o,aj _ e,r⟩
 .intro b hb
  show b<(s.heap.push _).objs.size
  rw[bO]
  simp only[ak,av,or_false]at hb
  rcases hb with rfl|rfl
  .exact cB _
  .exact bS hlt
 .exact h7' rv (by simpa using hv)
 .rw[hlen,g4']
  refine⟨.int _,H,I.kept (t':=tk) fun b o e=>hk b o ?_ (aj _ e),⟨_,rfl⟩,q⟩
  simp only[ak,av,or_false]
  exact aK (au e)
theorem p6':OpR X (binaryOp .Mult) (rI IntMulOk fun i j=>.int (i*j)):=opI fun _ _ _ _ _ _ _ hc q=>mul_int q hc
def yy':V->Bool
 | .ty _=>false
 | .byt _=>false
 | .flt _=>false
 |_=>true
def v2' (neg:Bool):R2:=fun x y H Q=>∃b,y=.bl b/\yy' x=true/\Q (.bl (if neg then !decide (x=.bl b)else decide (x=.bl b))) H
theorem sR' {x:V} {v:Value} {b:Bool} (r:aG' x v) (h:yy' x=true):plainIs v (.bool b)=true/\(v == Value.bool b)=decide (x=.bl b):=by
 cases x with
 |non=>cases r;exact⟨rfl,rfl⟩
 |bl a=>cases r;refine⟨rfl,?_⟩;cases a<;>cases b<;>rfl
 |int i=>obtain⟨t,rfl⟩:=r;exact⟨rfl,rfl⟩
 |str i=>obtain⟨t,rfl⟩:=r;exact⟨rfl,rfl⟩
 |ref a=>cases r;exact⟨rfl,rfl⟩
 |_=>cases h
theorem sS':OpR X (compareOp .Is) (v2' false):=by
 intro pins s σ H x y v u Q I rx ry h
 obtain⟨b,rfl,hp,q⟩:=h
 cases ry
 obtain⟨h1,h2⟩:=sR' (b:=b) rx hp
 exact wpAny_is_plain h1 ⟨.bl _,H,I,by rw[h2];rfl,q⟩
theorem j6':OpR X (compareOp .IsNot) (v2' true):=by
 intro pins s σ H x y v u Q I rx ry h
 obtain⟨b,rfl,hp,q⟩:=h
 cases ry
 obtain⟨h1,h2⟩:=sR' (b:=b) rx hp
 exact wpAny_isNot_plain h1 ⟨.bl _,H,I,by rw[h2];rfl,q⟩
theorem mO':OpR X (binaryOp .FloorDiv) (rI (fun _ j=>0<j/\j.natAbs.log2<9000) fun i j=>.int (i / j)):=opI fun i j _ _ _ _ _ hc q=>by
 refine floordiv_int (by omega) ?_ (.inl (PyProof.noPylong_of_log2 hc.2))
 rw[Int.fdiv_eq_ediv_of_nonneg i (by omega)]
 exact q
end
section
variable {κ:Type} [DecidableEq κ]
def f9' (kvs:List (κ×V)) (k:κ):Option V:=(kvs.find? fun kv=>decide (kv.1=k)).map (·.2)
def g5' (kvs:List (κ×V)) (k:κ) (v:V):List (κ×V):=
 if(kvs.any fun kv=>decide (kv.1=k))=true then kvs.map (fun kv=>if kv.1=k then(kv.1,v)else kv)else kvs++[(k,v)]
theorem fq' {p:κ×V} {r:List (κ×V)} {k:κ} (e:p.1=k):f9' (p :: r) k=some p.2:=by simp[f9',ck,e]
theorem fr' {p:κ×V} {r:List (κ×V)} {k:κ} (e:¬p.1=k):f9' (p :: r) k=f9' r k:=by simp[f9',ck,e]
theorem h8' (k:κ):∀kvs:List (κ×V),(kvs.any fun kv=>decide (kv.1=k))=(f9' kvs k).isSome
 | []=>rfl
 |p :: r=>by
  rw[cm]
  by_cases e:p.1=k
  .simp only[fq' e,decide_eq_true e,Bool.true_or,Option.isSome_some]
  .rw[fr' e,decide_eq_false e,Bool.false_or];exact h8' k r
theorem eB' (kvs:List (κ×V)) (k:κ) (v:V):(g5' kvs k v).length<=kvs.length+1:=by
 unfold g5'
 split
 .rw[aa];omega
 .rw[al,bp,List.length_nil];omega
theorem mp'.isSome_eq {o:Option V} {u:Option Value} (r:mp' o u):o.isSome=u.isSome:=by
 cases o with
 |none=>cases u with
  |none=>rfl
  |some _=>exact(show False from r).elim
 |some _=>cases u with
  |none=>exact(show False from r).elim
  |some _=>rfl
theorem mp'.getD {o:Option V} {u:Option Value} {d:V} {d':Value} (r:mp' o u) (rd:aG' d d'):aG' (o.getD d) (u.getD d'):=by
 cases o with
 |none=>cases u with
  |none=>exact rd
  |some _=>exact(show False from r).elim
 |some _=>cases u with
  |none=>exact(show False from r).elim
  |some _=>exact r
theorem KV.val {kvs:List (κ×V)} {vs:List (κ×Value)} (r:KV kvs vs) (k:κ):mp' (f9' kvs k) (valueAt vs k):=by
 unfold KV at r
 induction r with
 |nil=>exact True.intro
 | @cons p q ps qs h t ih=>
  obtain⟨h1,h2⟩:=h
  by_cases e:p.1=k
  .have e':q.1=k:=h1.symm.trans e
   have b:valueAt (q :: qs) k=some q.2:=by simp[valueAt,ck,e']
   rw[fq' e,b];exact h2
  .have e':¬q.1=k:=fun z=>e (h1.trans z)
   have b:valueAt (q :: qs) k=valueAt qs k:=by simp[valueAt,ck,e']
   rw[fr' e,b];exact ih
theorem KV.any {kvs:List (κ×V)} {vs:List (κ×Value)} (r:KV kvs vs) (k:κ):(kvs.any fun kv=>decide (kv.1=k))=vs.any fun kv=>decide (kv.1=k):=by
 unfold KV at r
 induction r with
 |nil=>rfl
 |cons h t ih=>rw[cm,cm,ih,h.1]
theorem KV.repl {kvs:List (κ×V)} {vs:List (κ×Value)} (r:KV kvs vs) (k:κ) {y:V} {u:Value} (ry:aG' y u):
  KV (kvs.map fun kv=>if kv.1=k then(kv.1,y)else kv) (vs.map fun kv=>if kv.1=k then(kv.1,u)else kv):=by
 unfold KV at r ⊢
 induction r with
 |nil=>exact .nil
 | @cons p q ps qs h t ih=>
  rw[aH,aH]
  refine .cons ?_ ih
  obtain⟨h1,h2⟩:=h
  by_cases e:p.1=k
  .rw[if_pos e,if_pos (h1.symm.trans e)];exact⟨h1,ry⟩
  .rw[if_neg e,if_neg (fun z=>e (h1.trans z))];exact⟨h1,h2⟩
theorem KV.put {kvs:List (κ×V)} {vs:List (κ×Value)} (r:KV kvs vs) (k:κ) {y:V} {u:Value} (ry:aG' y u):KV (g5' kvs k y) (stored vs k u):=by
 unfold g5' stored
 rw[r.any k]
 by_cases e:(vs.any fun kv=>decide (kv.1=k))=true
 .rw[if_pos e,if_pos e];exact r.repl k ry
 .rw[if_neg e,if_neg e];exact Paired.snoc r ⟨rfl,ry⟩
theorem KV.keys {kvs:List (κ×V)} {vs:List (κ×Value)} (r:KV kvs vs):kvs.map (·.1)=vs.map (·.1):=by
 unfold KV at r
 induction r with
 |nil=>rfl
 |cons h t ih=>rw[aH,aH,ih,h.1]
theorem KV.length {kvs:List (κ×V)} {vs:List (κ×Value)} (r:KV kvs vs):kvs.length=vs.length:=Paired.length r
end
theorem j7' {P:Program} {w:World} {k:Key} {u:Value} (r:aG' (kV k) u):(av' P w).is k u=true:=by
 cases k with
 |inl i=>obtain⟨t,e⟩:=(show ∃t,u=Value.int i t from r);subst e;exact gT' P w i t
 |inr x=>obtain⟨t,e⟩:=(show ∃t,u=Value.str x t from r);subst e;exact gU' P w x t
 |non=>obtain rfl:u=Value.none:=r;rfl
theorem ga' {P:Program} {w:World}:∀{ks:List Key} {us:List Value},aC' (ks.map kV) us->ItemsAre (av' P w) ks us
 | [],_,r=>by rw[List.map_nil]at r;cases r;exact .nil
 |k :: ks,_,r=>by
  rw[aH]at r
  cases r with
  |cons h t=>exact .cons (j7' h) (ga' t)
abbrev KT (H:Hp):List (List Key×V)->List (List Key×Addr×Value)->Prop:=Paired fun p q=>p.1=q.1/\H q.2.1=some (.tup (p.1.map kV))/\aG' p.2 q.2.2
theorem KT.val {H:Hp} {kvs:List (List Key×V)} {xs:List (List Key×Addr×Value)} (r:KT H kvs xs) (k:List Key):mp' (f9' kvs k) ((atKey xs k).map (·.2)):=by
 induction r with
 |nil=>exact True.intro
 | @cons p q ps qs h t ih=>
  obtain⟨h1,_,h2⟩:=h
  by_cases e:p.1=k
  .have e':q.1=k:=h1.symm.trans e
   have b:atKey (q :: qs) k=some q.2:=by simp[atKey,ck,e']
   rw[fq' e,b];exact h2
  .have e':¬q.1=k:=fun z=>e (h1.trans z)
   have b:atKey (q :: qs) k=atKey qs k:=by simp[atKey,ck,e']
   rw[fr' e,b];exact ih
theorem KT.repl {H:Hp} {kvs:List (List Key×V)} {xs:List (List Key×Addr×Value)} (r:KT H kvs xs) (k:List Key) {y:V} {u:Value} (ry:aG' y u):
  KT H (kvs.map fun kv=>if kv.1=k then(kv.1,y)else kv) (xs.map (putAt k u)):=by
 induction r with
 |nil=>exact .nil
 | @cons p q ps qs h t ih=>
  rw[aH,aH]
  refine .cons ?_ ih
  obtain⟨h1,h2,h3⟩:=h
  unfold putAt
  by_cases e:p.1=k
  .rw[if_pos e,if_pos (h1.symm.trans e)];exact⟨h1,h2,ry⟩
  .rw[if_neg e,if_neg (fun z=>e (h1.trans z))];exact⟨h1,h2,h3⟩
theorem KT.put {H:Hp} {kvs:List (List Key×V)} {xs:List (List Key×Addr×Value)} (r:KT H kvs xs) (k:List Key) {b:Addr} {y:V} {u:Value} (hb:H b=some (.tup (k.map kV))) (ry:aG' y u):
  KT H (g5' kvs k y) (storedH xs k b u):=by
 have e:(kvs.any fun kv=>decide (kv.1=k))=(atKey xs k).isSome:=by
  rw[h8',(r.val k).isSome_eq,Option.isSome_map]
 unfold g5' storedH
 rw[e]
 by_cases q:(atKey xs k).isSome=true
 .rw[if_pos q,if_pos q];exact r.repl k ry
 .rw[if_neg q,if_neg q];exact Paired.snoc r ⟨rfl,hb,ry⟩
theorem KT.keeps {H H':Hp} {kvs:List (List Key×V)} {xs:List (List Key×Addr×Value)} (r:KT H kvs xs) (ht:∀b ys,H b=some (.tup ys)->H' b=some (.tup ys)):KT H' kvs xs:=
 Paired.mapP r fun _ _ z=>⟨z.1,ht _ _ z.2.1,z.2.2⟩
section
variable {P:Program} {w:World} {H:Hp} {h:Heap} {a:Addr}
theorem sT' {u:HO} (ok:HOk P w H h) (e:Rd H a u):aD' P w H h a u:=e.ok ok
theorem j8' {kvs:List (Key×V)} (ok:HOk P w H h) (e:Rd H a (.dK kvs)):kvs.length<=sizeLine/\(a == sysModules)=false/\∃vs,KV kvs vs/\h.DictOf (av' P w) a vs:=
 show aD' P w H h a (.dK kvs) from sT' ok e
theorem wO' {kvs:List (Key×V)} (ok:HOk P w H h) (e:H a=some (.dK kvs)):kvs.length<=sizeLine/\(a == sysModules)=false/\∃vs,KV kvs vs/\h.DictOf (av' P w) a vs:=j8' ok (.inl e)
theorem e3' {ks:List Key} (ok:HOk P w H h) (e:H a=some (.tup (ks.map kV))):(tupleKind (av' P w)).is h ks a:=by
 obtain⟨_,its,r,o,h1,h2,⟨n,h3⟩,_⟩:=(show aD' P w H h a (.tup (ks.map kV)) from ok a _ e)
 exact⟨o,its.toArray,n,h1,h2,h3,by simpa using ga' r⟩
theorem j9' {kvs:List (List Key×V)} (ok:HOk P w H h) (e:Rd H a (.dT kvs)):kvs.length<=sizeLine/\(a == sysModules)=false/\
  ∃xs,KT H kvs xs/\h.DictOfH (tupleKind (av' P w)) a xs:=by
 obtain⟨z,y,xs,r,o,es,ep,h1,h2,h3,h4,h5⟩:=(show aD' P w H h a (.dT kvs) from sT' ok e)
 refine⟨z,y,xs,r,o,es,ep,h1,h2,h3,h4,fun x hx=>?_,h5⟩
 have all:∀{l:List (List Key×V)} {m:List (List Key×Addr×Value)},KT H l m->∀x∈m,(tupleKind (av' P w)).is h x.1 x.2.1:=by
  intro l m q
  induction q with
  |nil=>intro x hx;exact nomatch hx
  | @cons p q ps qs hq t ih=>
   intro x hx
   rcases ak.mp hx with e|hx
   .subst e
    exact e3' ok (by rw[<- hq.1];exact hq.2.1)
   .exact ih x hx
 exact all r x hx
theorem wP' {kvs:List (List Key×V)} (ok:HOk P w H h) (e:H a=some (.dT kvs)):kvs.length<=sizeLine/\(a == sysModules)=false/\
  ∃xs,KT H kvs xs/\h.DictOfH (tupleKind (av' P w)) a xs:=j9' ok (.inl e)
end
def gS' (H:Hp) (a:Addr) (y:V) (r:Option V):Prop:=
 (∃kvs k,Rd H a (.dK kvs)/\y=kV k/\r=f9' kvs k)\/∃kvs k b,Rd H a (.dT kvs)/\y=.ref b/\H b=some (.tup (k.map kV))/\r=f9' kvs k
def y8' (H:Hp) (a:Addr) (y v:V) (H':Hp):Prop:=
 (∃kvs k,H a=some (.dK kvs)/\y=kV k/\kvs.length<sizeLine/\H'=upd H a (.dK (g5' kvs k v)))\/
 ∃kvs k b,H a=some (.dT kvs)/\y=.ref b/\H b=some (.tup (k.map kV))/\kvs.length<sizeLine/\H'=upd H a (.dT (g5' kvs k v))
theorem gS'.k {H:Hp} {a:Addr} {kvs:List (Key×V)} {k:Key} (e:H a=some (.dK kvs)):gS' H a (kV k) (f9' kvs k):=.inl ⟨kvs,k,.inl e,rfl,rfl⟩
theorem gS'.t {H:Hp} {a b:Addr} {kvs:List (List Key×V)} {k:List Key} (e:H a=some (.dT kvs)) (eb:H b=some (.tup (k.map kV))):gS' H a (.ref b) (f9' kvs k):=.inr ⟨kvs,k,b,.inl e,rfl,eb,rfl⟩
section
variable {X:Cx} {pins:List (Addr×Obj)} {σ:St} {H:Hp} {s:Shared} {a:Addr} {y v:V} {u r:Value} {o:Option V} {A:Around} {E:Value->Shared->Prop}
theorem Inv.big (I:Inv X pins σ H s):sysModules<s.heap.objs.size:=by
 have h:mainGlobals<s.heap.objs.size:=(I.mod.glob.keeps I.bk).lt
 exact Nat.lt_trans (by decide) h
theorem y9' {Q:Value->Shared->Prop} (hu:A.units+1<cLine) (I:Inv X pins σ H s) (g:gS' H a y o) (ry:aG' y u) (h:∀s',Inv X pins σ H s'->Q (.bool o.isSome) s'):
  wpAny (model X.prog X.w) A (compareOp .In u (.ref a)) Q E s:=by
 rcases g with⟨kvs,k,e,ey,l⟩|⟨kvs,k,b,e,ey,eb,l⟩
 .subst ey
  obtain⟨z,hd,vs,rel,dd⟩:=j8' I.hok e
  refine wpAny_in_of (j7' ry) hd dd.mapOf ?_
  rw[<- (rel.val k).isSome_eq,<- l]
  exact h _ (I.tok _)
 .subst ey
  cases(show u=Value.ref b from ry)
  obtain⟨z,hd,xs,rel,dd⟩:=j9' I.hok e
  refine wpAny_in_heap (tupleKind_room_in1 hu) (e3' I.hok eb) hd dd ?_
  have q:=(rel.val k).isSome_eq
  rw[Option.isSome_map]at q
  rw[<- q,<- l]
  exact h _ (I.tok _)
theorem p7' {Q:Value->Shared->Prop} (hu:A.units+1<cLine) (I:Inv X pins σ H s) (g:gS' H a y o) (ry:aG' y u) (h:∀s',Inv X pins σ H s'->Q (.bool (!o.isSome)) s'):
  wpAny (model X.prog X.w) A (compareOp .NotIn u (.ref a)) Q E s:=by
 rcases g with⟨kvs,k,e,ey,l⟩|⟨kvs,k,b,e,ey,eb,l⟩
 .subst ey
  obtain⟨z,hd,vs,rel,dd⟩:=j8' I.hok e
  refine wpAny_notIn_of (j7' ry) hd dd.mapOf ?_
  rw[<- (rel.val k).isSome_eq,<- l]
  exact h _ (I.tok _)
 .subst ey
  cases(show u=Value.ref b from ry)
  obtain⟨z,hd,xs,rel,dd⟩:=j9' I.hok e
  refine wpAny_notIn_heap (tupleKind_room_in1 hu) (e3' I.hok eb) hd dd ?_
  have q:=(rel.val k).isSome_eq
  rw[Option.isSome_map]at q
  rw[<- q,<- l]
  exact h _ (I.tok _)
end
section
variable {X:Cx} {pins:List (Addr×Obj)} {σ:St} {H:Hp} {s:Shared} {a:Addr} {kvs:List (Key×V)} {k:Key} {u:Value} {A:Around} {E:Value->Shared->Prop}
end
section
variable {X:Cx} {o i e value:Expr} {pos pos' tpos:Pos} {td ty tv:TE}
end
section
variable {X:Cx} {pos:Pos}
end
def sU' (kvs more:List (Key×V)):List (Key×V):=more.foldl (fun acc kv=>g5' acc kv.1 kv.2) kvs
theorem KV.merge:∀{more:List (Key×V)} {rs:List (Key×Value)} {kvs:List (Key×V)} {vs:List (Key×Value)},KV more rs->KV kvs vs->KV (sU' kvs more) (merged vs rs):=by
 intro more rs kvs vs r
 unfold KV at r
 induction r generalizing kvs vs with
 |nil=>intro q;exact q
 | @cons p q ps qs h t ih=>
  intro r0
  have e:KV (g5' kvs p.1 p.2) (stored vs q.1 q.2):=by
   have:=r0.put p.1 h.2
   rw[<- h.1];exact this
  exact ih e
structure M1 (X:Cx) (o:Expr) (m:Str) (apos:Pos) (e:Expr) (cpos:Pos):Prop where
 base:attributeBase o m X.env (eval o X.env)=eval o X.env
 few:((backTo cpos (starEach [e] X.env)).all (fun x=>!x.1)&&(backToKw cpos (keywordEach [] X.env)).all (fun x=>x.1.isSome)
  && decide (([e]:List Expr).length+([]:List Keyword).length+(if([]:List Keyword).isEmpty then 0 else 1)<30))=true
 line:(apos.endLine == cpos.line)=true
 trees:backTo cpos (starEach [e] X.env)=[(false,eval e X.env)]
structure M2 (X:Cx) (o:Expr) (m:Str) (apos:Pos) (e f:Expr) (cpos:Pos):Prop where
 base:attributeBase o m X.env (eval o X.env)=eval o X.env
 few:((backTo cpos (starEach [e,f] X.env)).all (fun x=>!x.1)&&(backToKw cpos (keywordEach [] X.env)).all (fun x=>x.1.isSome)
  && decide (([e,f]:List Expr).length+([]:List Keyword).length+(if([]:List Keyword).isEmpty then 0 else 1)<30))=true
 line:(apos.endLine == cpos.line)=true
 trees:backTo cpos (starEach [e,f] X.env)=[(false,eval e X.env),(false,eval f X.env)]
def IsD (H:Hp) (a:Addr):Prop:=(∃kvs,Rd H a (.dK kvs))\/∃kvs,Rd H a (.dT kvs)
theorem sV' {X:Cx} {pins:List (Addr×Obj)} {σ:St} {H:Hp} {s:Shared} {a:Addr} (I:Inv X pins σ H s) (d:IsD H a):
  s.TypeIs (.ref a) "dict"/\(∀b,Value.ref a=.ref b->∃ob,s.heap.get? b=some ob/\ob.dict=none)/\(a == sysModules)=false:=by
 rcases d with⟨kvs,e⟩|⟨kvs,e⟩
 .obtain⟨_,hd,vs,_,dd⟩:=j8' I.hok e
  refine⟨dd.typeIs,fun b q=>?_,hd⟩
  cases q
  obtain⟨ob,_,_,h1,h2,_⟩:=dd
  exact⟨ob,h1,h2.2.1⟩
 .obtain⟨_,hd,xs,_,dd⟩:=j9' I.hok e
  refine⟨dd.typeIs,fun b q=>?_,hd⟩
  cases q
  obtain⟨ob,_,_,h1,h2,_⟩:=dd
  exact⟨ob,h1,h2.2.1⟩
section
variable {X:Cx} {pins:List (Addr×Obj)} {σ:St} {H:Hp} {s:Shared} {a:Addr} {y d:V} {u r:Value} {o:Option V} {A:Around} {E:Value->Shared->Prop}
theorem sW' {Q:Value->Shared->Prop} (hu:A.units+1<cLine) (I:Inv X pins σ H s) (g:gS' H a y o) (ry:aG' y u) (h:∀w' s',Inv X pins σ H s'->aG' (o.getD .non) w'->Q w' s'):
  wpAny (model X.prog X.w) A (call (.builtin "dict.get") [.ref a,u]) Q E s:=by
 rcases g with⟨kvs,k,e,ey,l⟩|⟨kvs,k,b,e,ey,eb,l⟩
 .subst ey
  obtain⟨z,hd,vs,rel,dd⟩:=j8' I.hok e
  refine call_meetsIn PySem.F.slot_dict_get dd.typeIs PySem.F.entry_dict_get (PySem.F.args_dict_get_2 _ _) (meets_dict_get (av' X.prog X.w) a (j7' ry) hd) ⟨_,dd.mapOf,h _ _ (I.tok _) ?_⟩
  rw[l]
  exact(rel.val k).getD rfl
 .subst ey
  cases(show u=Value.ref b from ry)
  obtain⟨z,hd,xs,rel,dd⟩:=j9' I.hok e
  refine call_meetsIn PySem.F.slot_dict_get dd.typeIs PySem.F.entry_dict_get (PySem.F.args_dict_get_2 _ _) (meetsH_dict_get (tupleKind (av' X.prog X.w)) a b hd) ⟨tupleKind_room_in1 hu,k,xs,e3' I.hok eb,dd,h _ _ (I.tok _) ?_⟩
  rw[l]
  exact(rel.val k).getD rfl
end
section
variable {X:Cx} {o e f:Expr} {apos cpos:Pos} {td ty tx:TE}
end
section
variable {X:Cx} {pins:List (Addr×Obj)} {σ:St} {H:Hp} {s:Shared} {a:Addr} {kvs:List (Key×V)} {A:Around} {E:Value->Shared->Prop}
end
section
variable {X:Cx} {pins:List (Addr×Obj)} {σ:St} {H:Hp} {s:Shared} {a:Addr} {y:V} {u:Value} {A:Around} {E:Value->Shared->Prop}
end
section
variable {X:Cx}
end
section
variable {κ:Type} [DecidableEq κ]
end
def Itc (lo c:Int) (n:Nat):It:=⟨fun i _=>i<n,fun i H x H'=>H'=H/\x=.int (lo+i*c),fun i _=>n<=i⟩
section
variable {prog:Program} {w:World} {A:Around} {E:Value->Shared->Prop} {s:Shared}
end
section
variable {X:Cx} {tg:Expr}
def wQ' (i j c:Int):Nat:=if i<j then((j-i-1) / c+1).toNat else 0
def wR' (i j c:Int):Nat:=if c=-1 then(i-j).toNat else wQ' i j c
end
section
variable {X:Cx}
theorem p8' {i:Int} (h:0<=i):Builtin.bitAnd i 1=i % 2:=by
 rw[PyProof.Rows.bitAnd_pp h (by decide)]
 have e:(1:Int).toNat=1:=rfl
 rw[e,Nat.and_one_is_mod]
 omega
theorem p9':OpR X (binaryOp .BitAnd) (rI (fun i j=>0<=i/\j=1) fun i _=>.int (i % 2)):=by
 intro pins s σ H x y v u Q I rx ry h
 obtain⟨i,j,rfl,rfl,⟨h0,rfl⟩,q⟩:=h
 refine so' pins s σ H _ _ v u Q I rx ry ⟨i,1,rfl,rfl,?_⟩
 have q':Q (.int (i % 2)) H:=q
 rw[<- p8' h0]at q'
 exact q'
def inT (x y:Str):Bool:=!(Builtin.Str.occurrences x y 0 x.length 1).isEmpty
def v3' (neg:Bool):R2:=fun x y H Q=>∃a b,x=.str a/\y=.str b/\Q (.bl (if neg then !inT b a else inT b a)) H
theorem sX':OpR X (compareOp .In) (v3' false):=by
 intro pins s σ H x y v u Q I rx ry h
 obtain⟨a,b,rfl,rfl,q⟩:=h
 obtain⟨t,rfl⟩:=rx
 obtain⟨t',rfl⟩:=ry
 exact in_str ⟨.bl _,H,I,rfl,q⟩
theorem ka':OpR X (compareOp .NotIn) (v3' true):=by
 intro pins s σ H x y v u Q I rx ry h
 obtain⟨a,b,rfl,rfl,q⟩:=h
 obtain⟨t,rfl⟩:=rx
 obtain⟨t',rfl⟩:=ry
 have q':Q (.bl (!inT b a)) H:=q
 refine notIn_str ⟨.bl (!inT b a),H,I,?_,q'⟩
 show Value.bool _=Value.bool _
 simp[inT]
def kb':V->List V->Hp->VK->Prop:=fun x vs H Q=>∃i,x=.int i/\vs=[]/\Q (.int (Builtin.Int.intBits i)) H
theorem kc':MtR X "int.bit_length" kb':=by
 intro pins s σ H x vs v us Q I rx rv h
 obtain⟨i,rfl,rfl,q⟩:=h
 obtain⟨t,rfl⟩:=rx
 rw[rv.zero]
 exact call_int_bit_length ⟨.int _,H,I.tok _,⟨_,rfl⟩,q⟩
end
section
variable {X:Cx}
def za' (x y:Str):Bool:=decide (y.cps.toList<x.cps.toList)
def yz':R2:=fun x y H Q=>∃a b,x=.str a/\y=.str b/\Q (.bl (za' a b)) H
theorem sY':OpR X (compareOp .Gt) yz':=by
 intro pins s σ H x y v u Q I rx ry h
 obtain⟨a,b,rfl,rfl,k⟩:=h
 obtain⟨t,rfl⟩:=rx
 obtain⟨t',rfl⟩:=ry
 exact PySem.P.gt_str ⟨.bl _,H,I,rfl,k⟩
def dSc:V->Bool
 | .int _=>true
 | .str _=>true
 | .bl _=>true
 | .non=>true
 |_=>false
def Dq (H:Hp):Nat->V->V->Prop
 |0,v,w=>v=w/\dSc v=true
 |n+1,v,w=>(v=w/\dSc v=true)\/∃a b xs ys,v=.ref a/\w=.ref b/\((H a=some (.lst xs)/\H b=some (.lst ys))\/(H a=some (.tup xs)/\H b=some (.tup ys)))/\xs.length=ys.length/\∀(i:Nat) x y,xs[i]?=some x->ys[i]?=some y->Dq H n x y
open PySem.SeqAt in
theorem sZ' {A:Around} {s:Shared} {x:V} {u v:Value} (h:dSc x=true) (r1:aG' x u) (r2:aG' x v):EqAt A s u v true:=by
 have:=g3' (A:=A) (s:=s) r1 r2 (.inl (by cases x<;>first|(cases h;done)|exact⟨rfl,fun b=>by intro z;cases z⟩))
 rw[decide_eq_true rfl]at this
 exact this
theorem c4' {n:Nat}:(aA n).all (fun _=>true)=true:=by simp
theorem oF' {its:List Value} {j:Nat} {u:Value} (e:its[j]?=some u) (h:j<its.toArray.size):its.toArray[j]=u:=by
 simp at h ⊢
 rw[ab h]at e
 exact Option.some.inj e
open PySem.SeqAt in
theorem c5' {n:Nat} {H:Hp} {A:Around} {s:Shared} {xs ys:List V} {its its2:List Value} (ih:∀x y u v,Dq H n x y->aG' x u->aG' y v->EqAt A.in1 s u v true) (hl:xs.length=ys.length) (r1:aC' xs its) (r2:aC' ys its2)
  (he:∀(i:Nat) x y,xs[i]?=some x->ys[i]?=some y->Dq H n x y):∀j (h1:j<its.toArray.size) (h2:j<its2.toArray.size),EqAt A.in1 s its.toArray[j] its2.toArray[j] ((fun _=>true) j):=by
 intro j h1 h2
 have l1:=r1.length
 have j1:j<xs.length:=by simp at h1;omega
 have j2:j<ys.length:=by omega
 have g1:xs[j]?=some xs[j]:=ab j1
 have g2:ys[j]?=some ys[j]:=ab j2
 obtain⟨u1,e1,ru1⟩:=r1.get g1
 obtain⟨u2,e2,ru2⟩:=r2.get g2
 rw[oF' e1 h1,oF' e2 h2]
 exact ih _ _ _ _ (he j _ _ g1 g2) ru1 ru2
open PySem.SeqAt in
theorem s0' {pins:List (Addr×Obj)} {σ:L2.St} {H:Hp} {s:Shared} (I:Inv X pins σ H s):∀(n:Nat) (A:Around) (x y:V) (u v:Value),A.units+n<cLine->Dq H n x y->aG' x u->aG' y v->EqAt A s u v true:=by
 intro n
 induction n with
 |zero=>
  rintro A x y u v hu ⟨rfl,hs⟩ r1 r2
  exact sZ' hs r1 r2
 |succ n ih=>
  rintro A x y u v hu h rx ry
  rcases h with⟨rfl,hs⟩|⟨a,b,xs,ys,rfl,rfl,hab,hl,he⟩
  .exact sZ' hs rx ry
  cases rx
  cases ry
  by_cases hne:a=b
  .subst hne;exact EqAt.same _
  have ih':∀x y u v,Dq H n x y->aG' x u->aG' y v->EqAt A.in1 s u v true:=fun x y u v=>ih A.in1 x y u v (by show A.units+1+n<cLine;omega)
  rcases hab with⟨h1,h2⟩|⟨h1,h2⟩
  .obtain⟨its,r1,pl1,_⟩:=I.list (SqL.of h1)
   obtain⟨its2,r2,pl2,_⟩:=I.list (SqL.of h2)
   have l1:=r1.length
   have l2:=r2.length
   have:=RcAt.lists pl1.isList pl2.isList (by simp;omega) (by omega) (c5' ih' hl r1 r2 he)
   rw[c4']at this
   exact EqAt.of_refs hne this
  .obtain⟨its,r1,pl1,_⟩:=I.tuple (SqT.of h1)
   obtain⟨its2,r2,pl2,_⟩:=I.tuple (SqT.of h2)
   have l1:=r1.length
   have l2:=r2.length
   have:=RcAt.tuples pl1 pl2 (by omega) (c5' ih' hl r1 r2 he)
   rw[c4']at this
   have e:(true&&its.toArray.size == its2.toArray.size)=true:=by simp;omega
   rw[e]at this
   exact EqAt.of_refs hne this
def v4' (neg:Bool):R2:=fun x y H Q=>∃n,n<=8/\Dq H n x y/\(∃a b,x=.ref a/\y=.ref b)/\Q (.bl (!neg)) H
theorem Dq.open {H:Hp} {n:Nat} {a b:Addr} (h:Dq H n (.ref a) (.ref b)):∃m xs ys,n=m+1/\((H a=some (.lst xs)/\H b=some (.lst ys))\/(H a=some (.tup xs)/\H b=some (.tup ys)))/\xs.length=ys.length/\∀(i:Nat) x y,xs[i]?=some x->ys[i]?=some y->Dq H m x y:=by
 cases n with
 |zero=>exact(aq h.2).elim
 |succ m=>
  rcases h with⟨_,hs⟩|⟨a',b',xs,ys,e1,e2,hab,hl,he⟩
  .cases hs
  .cases e1;cases e2;exact⟨m,xs,ys,rfl,hab,hl,he⟩
open PySem.SeqAt in
theorem s1' (hu:X.A.units+64<cLine):OpR X (compareOp .Eq) (v4' false):=by
 intro pins s σ H x y v u Q I rx ry h
 obtain⟨n,hn,hd,⟨a,b,rfl,rfl⟩,k⟩:=h
 cases rx
 cases ry
 obtain⟨m,xs,ys,rfl,hab,hl,he⟩:=hd.open
 have ih':∀x y u v,Dq H m x y->aG' x u->aG' y v->EqAt X.A.in1 s u v true:=fun x y u v=>s0' I m X.A.in1 x y u v (by show X.A.units+1+m<cLine;omega)
 rcases hab with⟨h1,h2⟩|⟨h1,h2⟩
 .obtain⟨its,r1,pl1,_⟩:=I.list (SqL.of h1)
  obtain⟨its2,r2,pl2,_⟩:=I.list (SqL.of h2)
  have l1:=r1.length
  have l2:=r2.length
  refine eq_listAt pl1.isList pl2.isList (by simp;omega) (by omega) (c5' ih' hl r1 r2 he) ?_
  rw[c4']
  exact⟨.bl true,H,I,rfl,k⟩
 .obtain⟨its,r1,pl1,_⟩:=I.tuple (SqT.of h1)
  obtain⟨its2,r2,pl2,_⟩:=I.tuple (SqT.of h2)
  have l1:=r1.length
  have l2:=r2.length
  refine eq_tupleAt pl1 pl2 (by omega) (c5' ih' hl r1 r2 he) ?_
  have e:(true&&its.toArray.size == its2.toArray.size)=true:=by simp;omega
  rw[c4',e]
  exact⟨.bl true,H,I,rfl,k⟩
open PySem.SeqAt in
theorem s3' (hu:X.A.units+64<cLine):OpR X (compareOp .NotEq) (v4' true):=by
 intro pins s σ H x y v u Q I rx ry h
 obtain⟨n,hn,hd,⟨a,b,rfl,rfl⟩,k⟩:=h
 cases rx
 cases ry
 obtain⟨m,xs,ys,rfl,hab,hl,he⟩:=hd.open
 have ih':∀x y u v,Dq H m x y->aG' x u->aG' y v->EqAt X.A.in1 s u v true:=fun x y u v=>s0' I m X.A.in1 x y u v (by show X.A.units+1+m<cLine;omega)
 have hend:EP X pins σ Q (Value.bool false) s:=⟨.bl false,H,I,rfl,k⟩
 rcases hab with⟨h1,h2⟩|⟨h1,h2⟩
 .obtain⟨its,r1,pl1,_⟩:=I.list (SqL.of h1)
  obtain⟨its2,r2,pl2,_⟩:=I.list (SqL.of h2)
  have l1:=r1.length
  have l2:=r2.length
  obtain⟨⟨cls,dd,data,sl⟩,ho,hc,n1,hd1⟩:=pl1.isList
  obtain⟨⟨cls2,dd2,data2,sl2⟩,ho2,hc2,n2,hd2⟩:=pl2.isList
  simp only at hc hd1 hc2 hd2
  subst hc hd1 hc2 hd2
  refine richCompare_meets_room (op:=.NotEq) ⟨_,ho,rfl⟩ ⟨_,ho2,rfl⟩ F.slot_list_ne F.entry_list_ne (F.args_list_ne_2 _ _) (list_neAt a b its.toArray its2.toArray n1 n2 dd dd2 sl sl2 (by simp;omega) (fun _=>true)) ⟨ho,ho2,c5' ih' hl r1 r2 he,?_⟩ (by omega)
  rw[c4']
  exact(show Value.bool false≠Value.notImplemented/\EP X pins σ Q (Value.bool false) s from⟨(fun x=>nomatch x),hend⟩)
 .obtain⟨its,r1,pl1,_⟩:=I.tuple (SqT.of h1)
  obtain⟨its2,r2,pl2,_⟩:=I.tuple (SqT.of h2)
  have l1:=r1.length
  have l2:=r2.length
  obtain⟨⟨cls,dd,data,sl⟩,ho,hc,n1,hd1⟩:=id pl1
  obtain⟨⟨cls2,dd2,data2,sl2⟩,ho2,hc2,n2,hd2⟩:=id pl2
  simp only at hc hd1 hc2 hd2
  subst hc hd1 hc2 hd2
  refine richCompare_meets_room (op:=.NotEq) ⟨_,ho,rfl⟩ ⟨_,ho2,rfl⟩ F.slot_tuple_ne F.entry_tuple_ne (F.args_tuple_ne_2 _ _) (tuple_neAt a b its.toArray its2.toArray n1 n2 dd dd2 sl sl2 (fun _=>true)) ⟨ho,ho2,c5' ih' hl r1 r2 he,?_⟩ (by omega)
  have e:(true&&its.toArray.size == its2.toArray.size)=true:=by simp;omega
  rw[c4',e]
  exact(show Value.bool false≠Value.notImplemented/\EP X pins σ Q (Value.bool false) s from⟨(fun x=>nomatch x),hend⟩)
end
end L2
namespace HT
open PySem PyProof.Rows
open PySem.SeqAt
open PySem.MeetsSeq PySem.MeetsSeq2 PySem.MeetsSeq3
section
variable {prog:Program} {w:World} {A:Around} {E:Value->Shared->Prop} {s:Shared}
theorem mP' {t b:Addr} {ws:List Value} {Q:Value->Shared->Prop} (ht:IsTup s.heap t #[]) (hb:IsTup s.heap b ws.toArray) (h0:Q (.ref b) s):wpAny (model prog w) A (binaryOp .Add (.ref t) (.ref b)) Q E s:=by
 obtain⟨⟨cls,dd,data,sl⟩,ho,hc,n,hd⟩:=id ht
 obtain⟨⟨cls2,dd2,data2,sl2⟩,ho2,hc2,n2,hd2⟩:=id hb
 simp only at hc hd hc2 hd2
 subst hc hd hc2 hd2
 exact concat_meets ⟨_,ho,rfl⟩ ⟨_,ho2,rfl⟩ noFill_tuple_add seq_tuple_add PySem.F.slot_tuple_add PySem.F.entry_tuple_add (PySem.F.args_tuple_add_2 _ _)
  (tuple_addW0 t b #[] ws.toArray n n2 dd dd2 sl sl2 rfl) ⟨ho,ho2,h0⟩
end
end HT
namespace L2
open PySem PySem.Spec PyProof.Rows
section
variable {X:Cx}
def oG' (K:W.Frag):R2:=fun x y H Q=>∃a b ys,x=.ref a/\y=.ref b/\SqT K H a []/\SqT K H b ys/\Q (.ref b) H
theorem mQ':OpR X (binaryOp .Add) (oG' X.K):=by
 intro pins s σ H x y v u Q I rx ry h
 obtain⟨a,b,ys,rfl,rfl,ha,hb,q⟩:=h
 cases rx
 cases ry
 obtain⟨its,r1,p1,_⟩:=I.tuple ha
 obtain⟨its2,r2,p2,_⟩:=I.tuple hb
 have e:its=[]:=r1.nil_iff.mpr rfl
 subst e
 exact HT.mP' p1 p2 ⟨.ref b,H,I,rfl,q⟩
end
end L2
namespace L2
open PySem PySem.Spec PyProof.Rows PySem.Calls PySem.NumText
def B2 (x:PySem.Str) (n:Int):Prop:=(x.cps.all (· < 128))=true/\(x.cps.toList.takeWhile (· != 0)).length<=640/\(int_private% "readNumeral") 0 2 (x.cps.toList.takeWhile (· != 0))=(int_private% "Numeral.value") n/\((x.cps.toList.takeWhile (· != 0)).length == x.cps.toList.length)=true
theorem mR' {M:Model} {A:Around} {E:Value->Shared->Prop} {s:Shared} {Q:Value->Shared->Prop} {v:Value} {text:List Nat} {n:Int}
  (hs:(text.takeWhile (· != 0)).length<=640) (hr:(int_private% "readNumeral") 0 2 (text.takeWhile (· != 0))=(int_private% "Numeral.value") n)
  (ha:((text.takeWhile (· != 0)).length == text.length)=true) (h:Q (.int n s.toks) { s with toks:=s.toks+1 }):
  wpAny M A ((int_private% "intFromText") v text 2) Q E s:=by
 obtain⟨hp,g,d,tk,os⟩:=s
 repeat (any_goals (first
  |assumption
  |(with_reducible refine wpAny_ite_true (decide_eq_true hs) ?_)
  |(with_reducible refine wpAny_ite_true (decide_eq_true ha) ?_)
  |wp_step))
 all_goals (try rw[hr])
 all_goals (try dsimp only)
 repeat (any_goals (first
  |assumption
  |(with_reducible refine wpAny_ite_true (decide_eq_true hs) ?_)
  |(with_reducible refine wpAny_ite_true (decide_eq_true ha) ?_)
  |wp_step))
set_option maxHeartbeats 4000000 in
theorem g6' {x:PySem.Str} {u v:Tok} {n:Int} (hb:B2 x n):Gives (Builtin.«int.__new__» ⟨[.type "int",.str x u,.int 2 v],[]⟩) (.int n):=
 .of_wp fun M A E s Q h=>by
  obtain⟨hp,g,d,tk,os⟩:=s
  have f1:=F.conv_sub_int
  have f2:=F.madeHere_int
  have f6:typeOf (.str x u)=pure (.type "str"):=rfl
  have hk:=W.KIN.Hid.mk hb
  clear hb
  repeat (any_goals (first
   |assumption
   |((with_reducible show wpAny _ _ ((int_private% "intFromText") _ _ _) _ _ _);rw[if_pos hk.out.1];refine mR' hk.out.2.1 hk.out.2.2.1 hk.out.2.2.2 ?_)
   |wp_step))
  all_goals first|exact⟨_,rfl,h⟩|skip
theorem eQ' (a b:Value):checkTypeCall "int" ⟨[a,b],[]⟩=pure ():=by kernel_rfl
theorem ft' (a b:Value):checkBuiltinCall "int.__new__" ⟨[.type "int",a,b],[]⟩=pure ():=by kernel_rfl
section
variable {X:Cx}
def s4':List V->Hp->VK->Prop:=fun xs H Q=>∃x n,xs=[.str x,.int 2]/\B2 x n/\Q (.int n) H
theorem kd':aX' X (.type "int") s4':=by
 intro pins s σ H xs us Q I r h
 obtain⟨x,n,rfl,hb,q⟩:=h
 obtain⟨u,v,rfl,⟨t,rfl⟩,⟨t',rfl⟩⟩:=jz' r
 exact callType_new F.called_int F.newNe_int (eQ' _ _) (ft' _ _) (fun obj=>F.args_object_init_3 obj _ _) F.entry_int_new (g6' hb).meets (show(Made.int n).post _ s from⟨rfl,⟨.int n,H,I.tok _,⟨_,rfl⟩,q⟩⟩)
theorem ke':aX' X (.type "int") (fun xs H Q=>yt' xs H Q\/s4' xs H Q):=jV'.or kd'
end
section
variable {X:Cx}
end
end L2
namespace PySem
open PyProof.Rows
def Heap.IsRvd (h:Heap) (a t:Addr) (i:Int):Prop:=∃o,h.get? a=some o/\o.cls=.type "reversed"/\o.data=.fields #[.ref t,rawInt i]
theorem Heap.IsRvd.at {h h':Heap} {a t:Addr} {i:Int} (x:h.IsRvd a t i) (e:∀o,h.get? a=some o->h'.get? a=some o):h'.IsRvd a t i:=let⟨o,ho,r⟩:=x;⟨o,e _ ho,r⟩
section
variable {prog:Program} {w:World} {A:Around} {E:Value->Shared->Prop} {s:Shared}
theorem Heap.IsRvd.typeIs {a t:Addr} {i:Int} (x:s.heap.IsRvd a t i):s.TypeIs (.ref a) "reversed":=let⟨o,ho,hc,_⟩:=x;⟨o,ho,hc⟩
end
section
variable {prog:Program} {w:World} {A:Around} {E:Value->Shared->Prop} {s:Shared}
end
section
variable {prog:Program} {w:World} {A:Around} {E:Value->Shared->Prop} {s:Shared}
end
end PySem
namespace L2
open PySem PySem.Spec PyProof.Rows
section
variable {X:Cx}
end
end L2
namespace HT
open PySem PyProof.Rows
section
variable {prog:Program} {w:World} {A:Around} {E:Value->Shared->Prop} {s:Shared}
theorem dj' {t sl:Addr} {items:Array Value} {vl vu:Value} {lo hi:Option Int} {Q:Value->Shared->Prop} (ht:IsTup s.heap t items) (hs:s.heap.IsSliceOf sl vl vu .none) (pl:IsPart vl lo) (pu:IsPart vu hi)
  (hw:sIx items.size 0 lo=0/\sIx items.size items.size hi=items.size)
  (h:Q (.ref t) s):wpAny (model prog w) A (getItem (.ref t) (.ref sl)) Q E s:=by
 obtain⟨os,hos,hcs,hds⟩:=id hs
 have hTs:s.TypeIs (.ref sl) "slice":=⟨os,hos,hcs⟩
 unfold getItem
 try with_reducible refine bo ?_
 first|refine af (aG ?_)|skip
 refine af (wpAny_sequenceKey ht.typeIs (by decide) ?_)
 refine af (bY (name:=Str.ofString "__getitem__") ht.typeIs PyProof.Rows.slot_tuple_getitem
  (cA PyProof.Rows.slot_tuple_getitem ht.typeIs entry_tuple_getitem ?_ (args_tuple_getitem _ _)))
 show wpAny _ _ (Builtin.Tuple.tupleItemsOf (.ref t) >>= _) _ _ s
 refine af (tupleItemsOf_ ht ?_)
 refine af (wpAny_typeOf hTs ?_)
 rw[if_pos (by decide)]
 refine af (cR' hs pl pu ?_)
 have hyes:(((sIx items.size 0 lo:Nat):Int) == 0&&(1:Int) == 1&&(sIx items.size items.size hi-sIx items.size 0 lo) == items.size)=true:=by
  rw[hw.1,hw.2]
  simp
 show wpAny _ _ (if(((sIx items.size 0 lo:Nat):Int) == 0&&(1:Int) == 1&&(sIx items.size items.size hi-sIx items.size 0 lo) == items.size)=true then _ else _) _ _ s
 rw[if_pos hyes]
 obtain⟨ot,hot,hct,nt,hdt⟩:=id ht
 refine af (wpAny_mono (Q:=fun b s'=>b=true/\s'=s) (E:=E) ?_ ?_ (fun _ _ z=>z))
 .unfold Builtin.Tuple.tupleIsExact
  exact af (wpAny_typeOf ht.typeIs (aG ⟨rfl,rfl⟩))
 .rintro b s' ⟨rfl,rfl⟩
  rw[if_pos rfl]
  exact af (wpAny_rule (aG ⟨_,rfl,aG h⟩))
end
end HT
namespace L2
open PySem PySem.Spec PyProof.Rows
section
variable {X:Cx}
def v5' (K:W.Frag):V->Option Int->Option Int->Hp->VK->Prop:=fun x lo hi H Q=>∃a xs,x=.ref a/\SqT K H a xs/\(HT.sIx xs.length 0 lo=0/\HT.sIx xs.length xs.length hi=xs.length)/\Q (.ref a) H
theorem mS':SlR X (v5' X.K):=by
 intro pins s σ H x v vl vu lo hi sl Q I rx hs pl pu h
 obtain⟨a,xs,rfl,hx,hw,q⟩:=h
 cases rx
 obtain⟨its,r,ht,hz⟩:=I.tuple hx
 have hlen:its.toArray.size=xs.length:=by rw[ag];exact r.length.symm
 refine⟨"tuple",_,PyProof.Rows.slot_tuple_getitem.lookup,ht.typeIs,?_⟩
 exact HT.dj' ht hs pl pu (by rw[hlen];exact hw) ⟨.ref a,H,I,rfl,q⟩
def qa' (K:W.Frag) (x:Str) (n:Int):TE:=fun _ H Q=>(∃t,W.nsIn K mainGlobals x=some (some (.int n t)))/\Q (.int n) H
theorem qb' {x:Str} {n:Int} {pos:Pos} (hg:Gl X x) (hd:(x == ("__debug__":Str))=false):PE X (.Name x pos) (qa' X.K x n):=by
 intro pins s σ H Q I h
 obtain⟨⟨t,e⟩,q⟩:=h
 exact jq' I hg (W.mg_of I.ok.mod.kin I.mod.glob e) ⟨.int n,H,I,⟨_,rfl⟩,q⟩ hd
end
section
variable {X:Cx} {pins:List (Addr×Obj)} {σ:St} {H:Hp} {s:Shared}
variable {X:Cx}
end
end L2
namespace HT
open PySem PyProof.Rows
section
variable {prog:Program} {w:World} {A:Around} {E:Value->Shared->Prop} {s:Shared}
end
end HT
namespace L2
open PySem PySem.Spec PyProof.Rows
section
variable {X:Cx} {e st:Expr} {te:TE} {p2 pos:Pos}
end
section
variable {prog:Program} {w:World} {A:Around} {E:Value->Shared->Prop} {s:Shared} {b0:Array Keyed} {κ:PyProof.Rows.KeyKind}
def zb' (b0:Array Keyed) (st:SortSt):Prop:=arrOf st=b0/\failedOf st=none/\pendingOf st=#[(0,b0.size,0)]
end
section
variable {X:Cx}
end
end L2
namespace L2
open PySem PySem.Spec PyProof.Rows PySem.SeqAt
def Ls1 (H:Hp) (v:V) (ns:List Int):Prop:=∃p,v=.ref p/\H p=some (.lst (ns.map V.int))
def LL (H:Hp) (a:Addr) (L:List (List Int)):Prop:=∃vs,H a=some (.lst vs)/\vs.length=L.length/\∀(i:Nat) v ns,vs[i]?=some v->L[i]?=some ns->Ls1 H v ns
theorem eC':∀{a b:List Int},a.map V.int=b.map V.int->a=b
 | [],[],_=>rfl
 | [],_ :: _,h=>by cases h
 |_ :: _,[],h=>by cases h
 |x :: a,y :: b,h=>by
  rw[aH,aH]at h
  injection h with h1 h2
  injection h1 with h1
  rw[h1,eC' h2]
section
variable {X:Cx} {pins:List (Addr×Obj)} {σ:L2.St} {H:Hp} {s:Shared}
def zc' (neg:Bool):R2:=fun x y H Q=>∃a b L M,x=.ref a/\y=.ref b/\LL H a L/\LL H b M/\Q (.bl (decide (L=M))) H
def wS':R2:=fun x y H Q=>∃b L ns,Ls1 H x ns/\y=.ref b/\LL H b L/\Q (.bl (!decide (ns∈L))) H
end
section
variable {X:Cx}
end
theorem h9' {X:Cx}:yn' X (e0' X.K):=by
 intro pins s σ H x y v u Q I rx ry h
 obtain⟨p,xs,i,z,rfl,rfl,hq,he,q⟩:=h
 cases rx
 obtain⟨t,rfl⟩:=ry
 obtain⟨its,r,pl,hz⟩:=I.list hq
 obtain⟨j,h1,h2,h3,h4,h5⟩:=fi' he
 obtain⟨w,ew,rw'⟩:=r.get h2
 have hl:=r.length
 have hn:=el'
 have fin:EP X pins σ Q w s:=⟨z,H,I,rw',q⟩
 by_cases h0:0<=i
 .have hj:i.toNat=j:=by
   rw[seqIndex_of h0 h5]at h1
   exact Option.some.inj h1
  exact wpAny_getItem_list pl.isList h0 (by omega) (by rw[hj];simpa using ew) fin
 .have hj:(i+(its.toArray.size:Int)).toNat=j:=by
   rw[seqIndex_neg (by omega) h4]at h1
   rw[ag,<- hl]
   exact Option.some.inj h1
  exact wpAny_getItem_list_neg pl.isList (by omega) (by rw[ag]<;>omega) (by omega) (by rw[hj];simpa using ew) fin
def s5' (K:W.Frag):List V->Hp->VK->Prop:=fun xs H Q=>∃(p:Addr) (ns:List Int),xs=[.ref p]/\SqL K H p (ns.map V.int)/\Q (.bl (ns.any fun n=>n != 0)) H
theorem kf':∀{ns:List Int} {us:List Value} {i:Nat} {v:Value},aC' (ns.map V.int) us->us[i]?=some v->∃n t,ns[i]?=some n/\v=.int n t
 | [],us,i,v,h,e=>by rw[h.zero]at e;simp at e
 |n :: ns,_,0,v,.cons r t,e=>by
  obtain⟨t',r⟩:=r
  simp at e
  exact⟨n,t',rfl,by rw[<- e];exact r⟩
 |n :: ns,_,i+1,v,.cons r t,e=>by
  simp at e
  obtain⟨m,t',h1,h2⟩:=kf' t e
  exact⟨m,t',by simpa using h1,h2⟩
theorem kg' {X:Cx} (hc:X.calm=true):aX' X (.builtin "any") (s5' X.K):=by
 intro pins s σ H xs us Q I r h
 obtain⟨p,ns,rfl,hs,q⟩:=h
 obtain⟨u,rfl,ru⟩:=dR' r
 cases ru
 obtain⟨its,rv,pl,hz⟩:=I.list hs
 have hlen:its.toArray.size=(ns.map fun n=>n != 0).length:=by
  have:=rv.length
  rw[aa]at this
  rw[ag,aa,<- this]
 refine call_any_walk (cn pl.isList ?_)
 have hlt:p<s.heap.objs.size:=by obtain⟨o,n,e,_⟩:=pl;exact au e
 refine⟨s.heap.objs.size,_,_,_,_,_,fun i=>(ns.map fun n=>n != 0).getD i false,rfl,Walks.list (A:=X.A.in1) (I.ok.hd hc) _ p (aK hlt) its.toArray,⟨⟨_,aC _ rfl,rfl,rfl⟩,Heap.IsList.push pl.isList _⟩,?_,fun h' tk hk=>?_⟩
 .intro i v s' Q' E' hv hq
  obtain⟨n,t,hb,rfl⟩:=kf' rv (i:=i) (by simpa using hv)
  have e:(ns.map fun n=>n != 0).getD i false=(n != 0):=by rw[aN,ap,hb];rfl
  have hq':Q' ((ns.map fun n=>n != 0).getD i false) s':=hq
  rw[e]at hq'
  exact PySem.P.truthy_int hq'
 .rw[hlen,f8']
  rw[show(ns.map fun n=>n != 0).any id=ns.any fun n=>n != 0 by rw[List.any_map];rfl]
  exact⟨.bl _,H,I.kept fun b o e=>hk b o (by simp;exact aK (au e)) (aj _ e),rfl,q⟩
section
variable {X:Cx} {env:Env}
def Fr {α:Type} (t:Sem α):Prop:=∀(M:Model) (Γ:PySem.Ctx) (Q:α->Pos->Shared->Prop) (E:Value->Pos->Shared->Prop) (p:Pos) (s:Shared),Sem.wp M Γ t Q E p s->Sem.wp M Γ t (fun a p' s'=>1<=s'.toks/\Q a p' s') E p s
theorem Fr.bindL {α β:Type} {m:Sem α} {f:α->Sem β} (h:Fr m):Fr (m >>= f):=by
 intro M Γ Q E p s q
 rw[Sem.wp_bind']at q ⊢
 refine Sem.wp_mono M Γ m (fun a p' s' z=>?_) (fun _ _ _ z=>z) p s (h M Γ _ E p s q)
 exact Sem.wp_mono M Γ (f a) (fun _ _ _ z=>z) (fun _ _ _ z=>z.2) p' s' (Sem.wp_toks M Γ 1 (f a) Q E p' s' z.1 z.2)
theorem Fr.hold {α:Type} {vs:List Value} {m:Sem α} (h:Fr m):Fr (holding vs m):=by
 intro M Γ Q E p s q
 rw[Sem.wp_holding]at q ⊢
 exact h M Γ Q E p s q
theorem Fr.any {α:Type} {M:Model} {A:Around} {t:Sem α} {Q:α->Shared->Prop} {E:Value->Shared->Prop} {s:Shared} (h:Fr t) (q:wpAny M A t Q E s):wpAny M A t (fun a s'=>1<=s'.toks/\Q a s') E s:=fun Γ p hΓ=>h M Γ _ _ p s (q Γ p hΓ)
end
section
variable {X:Cx}
end
section
variable {prog:Program} {w:World} {A:Around} {E:Value->Shared->Prop} {s:Shared} {b0:Array Keyed} {κ:SortKind}
end
section
variable {X:Cx}
end
end L2
namespace So
open PySem PySem.Spec PyProof.Rows
def kh':Bool->Keyed->Array Keyed->Nat->Nat->Nat->StateT SortSt Sem (Option Nat):=sortPriv% PySem.Builtin.gallop
section
variable {M:Model} {A:Around} {E:Value->Shared->Prop} {s:Shared} {O:KeyOrd} {ky:Keyed->O.α} {P:Keyed->Prop} {kd:SortKind}
structure Cmp (M:Model) (A:Around) (E:Value->Shared->Prop) (s:Shared) (O:KeyOrd) (ky:Keyed->O.α) (P:Keyed->Prop) (kd:SortKind):Prop where
 lt:∀{x y:Keyed} {st:SortSt} {Q:Option Bool->SortSt->Prop},P x->P y->kindOf st=kd->Q (some (O.blt (ky x) (ky y))) st->wpS M A E s (lt' x y) Q st
theorem ia' {a:Array Keyed} {i:Nat} {x:Keyed} {Q:Keyed->SortSt->Prop} {st:SortSt} (e:a[i]?=some x) (h:Q x st):wpS M A E s (elem' a i) Q st:=by
 rw[elem'_eq,e];exact wpS_pure h
end
end So
namespace So
open PySem PySem.Spec PyProof.Rows
structure Mg (R:Keyed->Keyed->Prop) (T o ra rb:List Keyed):Prop where
 pm:(o++(ra++rb)).Perm T
 so:o.Pairwise R
 sa:ra.Pairwise R
 sb:rb.Pairwise R
 oa:∀x∈o,∀y∈ra,R x y
 ob:∀x∈o,∀y∈rb,R x y
section
variable {R:Keyed->Keyed->Prop} {T o ra rb:List Keyed}
theorem Mg.swap (m:Mg R T o ra rb):Mg R T o rb ra:=⟨(List.Perm.append_left o List.perm_append_comm).trans m.pm,m.so,m.sb,m.sa,m.ob,m.oa⟩
theorem Mg.put {u:List Keyed} (m:Mg R T o (u++ra) rb) (h:∀y∈u,∀z∈rb,R y z):Mg R T (o++u) ra rb:=by
 have⟨s1,s2,s3⟩:=bQ.mp m.sa
 refine⟨?_,bQ.mpr ⟨m.so,s1,fun x hx y hy=>m.oa x hx y (aV _ hy)⟩,s2,m.sb,?_,?_⟩
 .have:=m.pm;simpa[bm]using this
 .intro x hx y hy
  rcases aw.mp hx with hx|hx
  .exact m.oa x hx y (ah _ hy)
  .exact s3 x hx y hy
 .intro x hx y hy
  rcases aw.mp hx with hx|hx
  .exact m.ob x hx y hy
  .exact h x hx y hy
theorem Mg.put1 {u:Keyed} (m:Mg R T o (u :: ra) rb) (h:∀z∈rb,R u z):Mg R T (o++[u]) ra rb:=
 Mg.put (u:=[u]) m fun y hy=>by rw[aU]at hy;subst hy;exact h
theorem Mg.putB {u:List Keyed} (m:Mg R T o ra (u++rb)) (h:∀y∈u,∀z∈ra,R y z):Mg R T (o++u) ra rb:=(m.swap.put h).swap
theorem Mg.putB1 {u:Keyed} (m:Mg R T o ra (u :: rb)) (h:∀z∈ra,R u z):Mg R T (o++[u]) ra rb:=(m.swap.put1 h).swap
theorem Mg.fin (m:Mg R T o ra rb) (h:∀y∈ra,∀z∈rb,R y z):(o++(ra++rb)).Perm T/\(o++(ra++rb)).Pairwise R:=by
 refine⟨m.pm,bQ.mpr ⟨m.so,bQ.mpr ⟨m.sa,m.sb,h⟩,fun x hx y hy=>?_⟩⟩
 rcases aw.mp hy with hy|hy
 .exact m.oa x hx y hy
 .exact m.ob x hx y hy
end
end So
namespace So
open PySem PySem.Spec PyProof.Rows
section
variable {M:Model} {A:Around} {E:Value->Shared->Prop} {s:Shared} {O:KeyOrd} {ky:Keyed->O.α} {P:Keyed->Prop} {kd:SortKind}
def gb' (st st':SortSt):Prop:=kindOf st'=kindOf st/\arrOf st'=arrOf st/\pendingOf st'=pendingOf st/\failedOf st'=failedOf st
theorem gb'.rfl' (st:SortSt):gb' st st:=⟨rfl,rfl,rfl,rfl⟩
theorem gb'.trans {a b c:SortSt} (h:gb' a b) (g:gb' b c):gb' a c:=⟨g.1.trans h.1,g.2.1.trans h.2.1,g.2.2.1.trans h.2.2.1,g.2.2.2.trans h.2.2.2⟩
theorem gb'.set (st:SortSt) (m:Nat):gb' st (SortSt.mk' (kindOf st) (arrOf st) (pendingOf st) m (failedOf st)):=⟨rfl,rfl,rfl,rfl⟩
def Rk (O:KeyOrd) (ky:Keyed->O.α) (p q:Keyed):Prop:=O.kle (ky p) (ky q)
theorem ki' {a:Array Keyed} {i:Nat} (h:i<a.size):∃p,a[i]?=some p/\p∈a.toList:=⟨a[i],by simp,by simp⟩
theorem kj' {a:Array Keyed} {i:Nat} {p:Keyed} (e:a[i]?=some p):a.toList.drop i=p :: a.toList.drop (i+1):=by
 have hi:i<a.size:=by
  rcases cj i a.size with h|h
  .exact h
  .rw[Array.getElem?_eq_none h]at e;cases e
 have:a[i]=p:=by rw[aP hi]at e;exact Option.some.inj e
 rw[List.drop_eq_getElem_cons (by simpa using hi)]
 simp[this]
theorem bb' (a:Array Keyed) (i j:Nat):(a.extract i j).toList=(a.toList.drop i).take (j-i):=by
 simp[Array.toList_extract,List.extract_eq_take_drop]
theorem dA' (a:Array Keyed) (i:Nat):(a.extract i a.size).toList=a.toList.drop i:=by
 rw[bb',cf];simp
theorem kk' (l:List Keyed) (i k:Nat):l.drop i=(l.drop i).take k++l.drop (i+k):=by
 rw[<- List.drop_drop,bf]
theorem bQ' {a:Array Keyed} {i k:Nat} {p:Keyed} (h:p∈(a.toList.drop i).take k):∃n,n<k/\a[i+n]?=some p:=by
 obtain⟨n,hn,e⟩:=List.getElem_of_mem h
 have hl:n<k:=by simp at hn;omega
 refine⟨n,hl,?_⟩
 rw[List.getElem_take,cq]at e
 simp at hn
 rw[aP (by omega)]
 simpa using e
theorem bR' {a:Array Keyed} {i:Nat} {p:Keyed} (h:p∈a.toList.drop i):∃n,i<=n/\a[n]?=some p:=by
 obtain⟨n,hn,e⟩:=List.getElem_of_mem h
 refine⟨i+n,by omega,?_⟩
 rw[cq]at e
 simp at hn
 rw[aP (by omega)]
 simpa using e
theorem wT' {R:Keyed->Keyed->Prop} {a:Array Keyed} (h:a.toList.Pairwise R) {i j:Nat} {p q:Keyed} (hij:i<j) (e:a[i]?=some p) (e2:a[j]?=some q):R p q:=by
 have hj:j<a.size:=by
  rcases cj j a.size with h|h
  .exact h
  .rw[Array.getElem?_eq_none h]at e2;cases e2
 have h1:a[i]=p:=by rw[aP (by omega)]at e;exact Option.some.inj e
 have h2:a[j]=q:=by rw[aP hj]at e2;exact Option.some.inj e2
 have:=List.pairwise_iff_getElem.mp h i j (by simp;omega) (by simp;omega) hij
 simpa[h1,h2]using this
theorem mT' {a:Array Keyed} (h:a.toList.Pairwise (Rk O ky)) {i j:Nat} {p q:Keyed} (hij:i<=j) (e:a[i]?=some p) (e2:a[j]?=some q):O.kle (ky p) (ky q):=by
 by_cases g:i=j
 .subst g;rw[e]at e2;cases e2;exact KeyOrd.kle_refl _
 .exact wT' h (by omega) e e2
end
end So
namespace So
open PySem PySem.Spec PyProof.Rows
section
variable {M:Model} {A:Around} {E:Value->Shared->Prop} {s:Shared} {O:KeyOrd} {ky:Keyed->O.α} {P:Keyed->Prop} {kd:SortKind} {x y:Array Keyed}
def rX' (O:KeyOrd) (ky:Keyed->O.α) (x y r:Array Keyed):Prop:=r.toList.Perm (x.toList++y.toList)/\r.toList.Pairwise (Rk O ky)
def Wk (O:KeyOrd) (ky:Keyed->O.α) (x y o:Array Keyed) (i j:Nat):Prop:=Mg (Rk O ky) (x.toList++y.toList) o.toList (x.toList.drop i) (y.toList.drop j)/\i<=x.size/\j<=y.size
theorem Wk.dn {o:Array Keyed} {i j:Nat} (w:Wk O ky x y o i j) (e:j=y.size):rX' O ky x y (o++x.extract i x.size++y.extract j y.size):=by
 subst e
 have:=w.1.fin (fun p _ q hq=>by rw[List.drop_eq_nil_of_le (by simp)]at hq;cases hq)
 unfold rX'
 rw[aX,aX,dA',dA',bm]
 exact this
theorem Wk.la {o:Array Keyed} {i j:Nat} (w:Wk O ky x y o i j) (e:i+1=x.size) (hl:∀p q,x[x.size-1]?=some p->q∈y.toList->O.klt (ky q) (ky p)):rX' O ky x y (o++y.extract j y.size++x.extract i x.size):=by
 have:=w.1.swap.fin (fun q hq p hp=>by
  obtain⟨n,hn,e2⟩:=bR' hp
  have:n<x.size:=by
   rcases cj n x.size with h|h
   .exact h
   .rw[Array.getElem?_eq_none h]at e2;cases e2
  have:n=x.size-1:=by omega
  subst this
  exact KeyOrd.kle_of_klt (hl p q e2 (cv hq)))
 unfold rX'
 rw[aX,aX,dA',dA',bm]
 exact this
theorem Wk.putB {o:Array Keyed} {i j:Nat} {p q:Keyed} (w:Wk O ky x y o i j) (e1:x[i]?=some p) (e2:y[j]?=some q) (h:O.kle (ky q) (ky p)) (hj:j<y.size) (sx:x.toList.Pairwise (Rk O ky)):Wk O ky x y (o.push q) i (j+1):=by
 refine⟨?_,w.2.1,hj⟩
 have m:=w.1
 rw[kj' e2]at m
 rw[cr]
 refine m.putB1 fun z hz=>?_
 obtain⟨n,hn,e3⟩:=bR' hz
 exact KeyOrd.kle_trans h (mT' sx hn e1 e3)
theorem Wk.putA {o:Array Keyed} {i j:Nat} {p q:Keyed} (w:Wk O ky x y o i j) (e1:x[i]?=some p) (e2:y[j]?=some q) (h:O.kle (ky p) (ky q)) (hi:i<x.size) (sy:y.toList.Pairwise (Rk O ky)):Wk O ky x y (o.push p) (i+1) j:=by
 refine⟨?_,hi,w.2.2⟩
 have m:=w.1
 rw[kj' e1]at m
 rw[cr]
 refine m.put1 fun z hz=>?_
 obtain⟨n,hn,e3⟩:=bR' hz
 exact KeyOrd.kle_trans h (mT' sy hn e2 e3)
theorem Wk.manyA {o:Array Keyed} {i j k:Nat} {q:Keyed} (w:Wk O ky x y o i j) (e2:y[j]?=some q) (h:∀n p,n<k->x[i+n]?=some p->O.kle (ky p) (ky q)) (hi:i+k<=x.size) (sy:y.toList.Pairwise (Rk O ky)):
  Wk O ky x y (o++x.extract i (i+k)) (i+k) j:=by
 refine⟨?_,hi,w.2.2⟩
 have m:=w.1
 rw[kk' _ i k]at m
 rw[aX,bb',Nat.add_sub_cancel_left]
 refine m.put fun p hp z hz=>?_
 obtain⟨n,hn,e3⟩:=bQ' hp
 obtain⟨n2,hn2,e4⟩:=bR' hz
 exact KeyOrd.kle_trans (h n p hn e3) (mT' sy hn2 e2 e4)
theorem Wk.manyB {o:Array Keyed} {i j k:Nat} {p:Keyed} (w:Wk O ky x y o i j) (e1:x[i]?=some p) (h:∀n q,n<k->y[j+n]?=some q->O.klt (ky q) (ky p)) (hj:j+k<=y.size) (sx:x.toList.Pairwise (Rk O ky)):
  Wk O ky x y (o++y.extract j (j+k)) i (j+k):=by
 refine⟨?_,w.2.1,hj⟩
 have m:=w.1
 rw[kk' _ j k]at m
 rw[aX,bb',Nat.add_sub_cancel_left]
 refine m.putB fun q hq z hz=>?_
 obtain⟨n,hn,e3⟩:=bQ' hq
 obtain⟨n2,hn2,e4⟩:=bR' hz
 exact KeyOrd.kle_trans (KeyOrd.kle_of_klt (h n q hn e3)) (mT' sx hn2 e1 e4)
end
end So
namespace So
open PySem PySem.Spec PyProof.Rows
def dnH (x y o:Array Keyed) (i j:Nat):Array Keyed:=x.extract 0 i++y.extract 0 j++o.reverse
def fbH (x y o:Array Keyed) (i j:Nat):Array Keyed:=y.extract 0 j++x.extract 0 i++o.reverse
abbrev TG:Type:=Option (Array Keyed)×Nat×Nat×Array Keyed×Nat×Nat×Nat
abbrev TI:Type:=Option (Array Keyed)×Nat×Nat×Array Keyed×Nat×Nat
abbrev TO:Type:=Option (Array Keyed)×Nat×Nat×Array Keyed×Nat
def hi3 (x y:Array Keyed) (i j:Nat) (o:Array Keyed) (mg ca cb:Nat):StateT SortSt Sem (ForInStep TG):=do
 let p <- elem' x (i-1)
 if(i-1 == 0)=true then pure (.done (some (dnH x y (o.push p) (i-1) j),i-1,j,o.push p,mg,ca,cb))
 else if(decide (ca<7)&&decide (cb<7))=true then pure (.done (none,i-1,j,o.push p,mg,ca,cb))else pure (.yield (none,i-1,j,o.push p,mg,ca,cb))
def hi2 (x y:Array Keyed) (i j:Nat) (o:Array Keyed) (mg ca cb:Nat):StateT SortSt Sem (ForInStep TG):=do
 let q <- elem' y (j-1)
 if(j-1 == 1)=true then pure (.done (some (fbH x y (o.push q) i (j-1)),i,j-1,o.push q,mg,ca,cb))
 else do
  let p <- elem' x (i-1)
  let r <- kh' true p y 0 (j-1) (j-1-1)
  match r with
  |some z=>
   if j-1-z > 0 then
    if(z == 1)=true then pure (.done (some (fbH x y (o.push q++(y.extract z (j-1)).reverse) i z),i,z,o.push q++(y.extract z (j-1)).reverse,mg,ca,j-1-z))
    else if(z == 0)=true then pure (.done (some (dnH x y (o.push q++(y.extract z (j-1)).reverse) i z),i,z,o.push q++(y.extract z (j-1)).reverse,mg,ca,j-1-z))
    else hi3 x y i z (o.push q++(y.extract z (j-1)).reverse) mg ca (j-1-z)
   else hi3 x y i (j-1) (o.push q) mg ca (j-1-z)
  |_=>pure (.done (some (dnH x y (o.push q) i (j-1)),i,j-1,o.push q,mg,ca,cb))
def hi1 (x y:Array Keyed) (i j:Nat) (o:Array Keyed) (mg ca cb:Nat):StateT SortSt Sem (ForInStep TG):=do
 modify fun st=>SortSt.mk' (kindOf st) (arrOf st) (pendingOf st) mg (failedOf st)
 let q <- elem' y (j-1)
 let r <- kh' false q x 0 i (i-1)
 match r with
 |some z=>
  if i-z > 0 then
   if(z == 0)=true then pure (.done (some (dnH x y (o++(x.extract z i).reverse) z j),z,j,o++(x.extract z i).reverse,mg,i-z,cb))
   else hi2 x y z j (o++(x.extract z i).reverse) mg (i-z) cb
  else hi2 x y i j o mg (i-z) cb
 |_=>pure (.done (some (dnH x y o i j),i,j,o,mg,ca,cb))
section
variable {M:Model} {A:Around} {E:Value->Shared->Prop} {s:Shared} {O:KeyOrd} {ky:Keyed->O.α} {P:Keyed->Prop} {kd:SortKind} {x y:Array Keyed}
theorem a7' {a:Array Keyed} {i:Nat} {p:Keyed} (e:a[i]?=some p):(a.toList.take (i+1)).reverse=p :: (a.toList.take i).reverse:=by
 have:a.toList[i]?=some p:=by simpa using e
 rw[List.take_add_one,this];simp
theorem e4' (a:Array Keyed) (i:Nat):(a.extract 0 i).toList=a.toList.take i:=by rw[bb'];simp
theorem oH' (l:List Keyed) {z i:Nat} (h:z<=i):(l.take i).reverse=((l.drop z).take (i-z)).reverse++(l.take z).reverse:=by
 rw[<- List.reverse_append]
 congr 1
 rw[<- bf z (l.take i),List.take_take,List.drop_take]
 congr 2
 omega
theorem b1' {a:Array Keyed} {i:Nat} {p:Keyed} (h:p∈(a.toList.take i).reverse):∃n,n<i/\a[n]?=some p:=by
 obtain⟨n,hn,e⟩:=bQ' (a:=a) (i:=0) (k:=i) (p:=p) (by simpa using h)
 exact⟨n,hn,by simpa using e⟩
def Wh (O:KeyOrd) (ky:Keyed->O.α) (x y o:Array Keyed) (i j:Nat):Prop:=Mg (fun p q=>Rk O ky q p) (x.toList++y.toList) o.toList (x.toList.take i).reverse (y.toList.take j).reverse/\i<=x.size/\j<=y.size
theorem Wh.dn {o:Array Keyed} {i j:Nat} (w:Wh O ky x y o i j) (e:i=0):rX' O ky x y (x.extract 0 i++y.extract 0 j++o.reverse):=by
 subst e
 have⟨h1,h2⟩:=w.1.swap.fin (fun q _ p hp=>by simp at hp)
 unfold rX'
 have e:(x.extract 0 0++y.extract 0 j++o.reverse).toList=(o.toList++((y.toList.take j).reverse++(x.toList.take 0).reverse)).reverse:=by
  rw[aX,aX,e4',e4'];simp
 rw[e]
 exact⟨(List.reverse_perm _).trans h1,List.pairwise_reverse.mpr h2⟩
theorem Wh.putA {o:Array Keyed} {i j:Nat} {p:Keyed} (w:Wh O ky x y o (i+1) j) (e1:x[i]?=some p) (h:∀n q,n<j->y[n]?=some q->O.kle (ky q) (ky p)):Wh O ky x y (o.push p) i j:=by
 refine⟨?_,by have:=w.2.1;omega,w.2.2⟩
 have m:=w.1
 rw[a7' e1]at m
 rw[cr]
 refine m.put1 fun z hz=>?_
 obtain⟨n,hn,e3⟩:=b1' hz
 exact h n z hn e3
theorem Wh.putB {o:Array Keyed} {i j:Nat} {q:Keyed} (w:Wh O ky x y o i (j+1)) (e2:y[j]?=some q) (h:∀n p,n<i->x[n]?=some p->O.kle (ky p) (ky q)):Wh O ky x y (o.push q) i j:=by
 refine⟨?_,w.2.1,by have:=w.2.2;omega⟩
 have m:=w.1
 rw[a7' e2]at m
 rw[cr]
 refine m.putB1 fun z hz=>?_
 obtain⟨n,hn,e3⟩:=b1' hz
 exact h n z hn e3
theorem Wh.manyA {o:Array Keyed} {i j z:Nat} (w:Wh O ky x y o i j) (hz:z<=i) (h:∀n p m q,z<=n->n<i->x[n]?=some p->m<j->y[m]?=some q->O.kle (ky q) (ky p)):Wh O ky x y (o++(x.extract z i).reverse) z j:=by
 refine⟨?_,by have:=w.2.1;omega,w.2.2⟩
 have m:=w.1
 rw[oH' _ hz]at m
 rw[aX,Array.toList_reverse,bb']
 refine m.put fun p hp q hq=>?_
 obtain⟨n,hn,e3⟩:=bQ' (List.mem_reverse.mp hp)
 obtain⟨n2,hn2,e4⟩:=b1' hq
 exact h _ p n2 q (by omega) (by omega) e3 hn2 e4
theorem Wh.manyB {o:Array Keyed} {i j z:Nat} (w:Wh O ky x y o i j) (hz:z<=j) (h:∀n q m p,z<=n->n<j->y[n]?=some q->m<i->x[m]?=some p->O.kle (ky p) (ky q)):Wh O ky x y (o++(y.extract z j).reverse) i z:=by
 refine⟨?_,w.2.1,by have:=w.2.2;omega⟩
 have m:=w.1
 rw[oH' _ hz]at m
 rw[aX,Array.toList_reverse,bb']
 refine m.putB fun q hq p hp=>?_
 obtain⟨n,hn,e3⟩:=bQ' (List.mem_reverse.mp hq)
 obtain⟨n2,hn2,e4⟩:=b1' hp
 exact h _ q n2 p (by omega) (by omega) e3 hn2 e4
end
end So
namespace So
open PySem PySem.Spec PyProof.Rows
section
variable {M:Model} {A:Around} {E:Value->Shared->Prop} {s:Shared} {O:KeyOrd} {ky:Keyed->O.α} {P:Keyed->Prop} {kd:SortKind}
end
end So
namespace So
open PySem PySem.Spec PyProof.Rows
section
variable {M:Model} {A:Around} {E:Value->Shared->Prop} {s:Shared} {O:KeyOrd} {ky:Keyed->O.α} {P:Keyed->Prop} {kd:SortKind} {st0:SortSt} {lo nrem:Nat}
def ke (ky:Keyed->O.α) (a:Array Keyed) (i:Nat):O.α:=ky ((a[i]?).getD (Value.none,Value.none))
theorem mU' {a:Array Keyed} {i:Nat} {p:Keyed} (h:a[i]?=some p):ke ky a i=ky p:=by unfold ke;rw[h];rfl
structure Sb (st0:SortSt) (lo:Nat) (st:SortSt):Prop where
 perm:(arrOf st).Perm (arrOf st0)
 same:∀i,i<lo->(arrOf st)[i]?=(arrOf st0)[i]?
 kind:kindOf st=kindOf st0
 fail:failedOf st=failedOf st0
 pend:pendingOf st=pendingOf st0
theorem Sb.rfl' (st0:SortSt) (lo:Nat):Sb st0 lo st0:=⟨Array.Perm.refl _,fun _ _=>rfl,rfl,rfl,rfl⟩
theorem Sb.size {st:SortSt} (B:Sb st0 lo st):(arrOf st).size=(arrOf st0).size:=B.perm.size_eq
theorem Sb.lt (C:Cmp M A E s O ky P kd) {st:SortSt} {i j:Nat} {Q:Option Bool->SortSt->Prop} (kst:kindOf st0=kd) (pa:∀p∈(arrOf st0).toList,P p) (B:Sb st0 lo st) (hi:i<(arrOf st0).size) (hj:j<(arrOf st0).size)
  (h:Q (some (O.blt (ke ky (arrOf st) i) (ke ky (arrOf st) j))) st):wpS M A E s (ltAt' i j) Q st:=by
 obtain⟨p,ep,mp⟩:=ki' (a:=arrOf st) (i:=i) (by rw[B.size];exact hi)
 obtain⟨q,eq,mq⟩:=ki' (a:=arrOf st) (i:=j) (by rw[B.size];exact hj)
 have pm:=Array.perm_iff_toList_perm.mp B.perm
 rw[ltAt'_eq]
 refine wpS_bind (wpS_get ?_)
 refine wpS_bind (ia' ep (wpS_bind (ia' eq (C.lt (pa p (pm.mem_iff.mp mp)) (pa q (pm.mem_iff.mp mq)) (B.kind.trans kst) ?_))))
 rw[mU' ep,mU' eq]at h
 exact h
def Si (ky:Keyed->O.α) (lo:Nat) (a:Array Keyed) (n:Nat):Prop:=∀i j,i<=j->j<n->O.kle (ke ky a (lo+i)) (ke ky a (lo+j))
def Ni (ky:Keyed->O.α) (lo:Nat) (a:Array Keyed) (n:Nat):Prop:=∀i j,i<=j->j<n->O.kle (ke ky a (lo+j)) (ke ky a (lo+i))
theorem Si.more {a:Array Keyed} {n:Nat} (h:Si ky lo a n) (h1:1<=n) (g:O.kle (ke ky a (lo+(n-1))) (ke ky a (lo+n))):Si ky lo a (n+1):=by
 intro i j hij hj
 by_cases c:j<n
 .exact h i j hij c
 .have e:j=n:=by omega
  subst e
  by_cases c2:i=j
  .subst c2;exact KeyOrd.kle_refl _
  .exact KeyOrd.kle_trans (h i (j-1) (by omega) (by omega)) g
theorem Ni.more {a:Array Keyed} {n:Nat} (h:Ni ky lo a n) (h1:1<=n) (g:O.kle (ke ky a (lo+n)) (ke ky a (lo+(n-1)))):Ni ky lo a (n+1):=by
 intro i j hij hj
 by_cases c:j<n
 .exact h i j hij c
 .have e:j=n:=by omega
  subst e
  by_cases c2:i=j
  .subst c2;exact KeyOrd.kle_refl _
  .exact KeyOrd.kle_trans g (h i (j-1) (by omega) (by omega))
end
end So
namespace So
open PySem PySem.Spec PyProof.Rows
section
variable {M:Model} {A:Around} {E:Value->Shared->Prop} {s:Shared} {O:KeyOrd} {ky:Keyed->O.α} {P:Keyed->Prop} {kd:SortKind} {st0:SortSt} {lo nrem:Nat}
end
end So
namespace So
open PySem PySem.Spec PyProof.Rows
section
variable {M:Model} {A:Around} {E:Value->Shared->Prop} {s:Shared} {O:KeyOrd} {ky:Keyed->O.α} {P:Keyed->Prop} {kd:SortKind} {st0:SortSt} {lo nrem:Nat}
inductive Rn (R:Keyed->Keyed->Prop):List (Nat×Nat×Nat)->List (List Keyed)->Nat->Prop
 |nil (a:Nat):Rn R [] [] a
 |cons {a:Nat} (w:Nat) {l:List Keyed} {p:List (Nat×Nat×Nat)} {L:List (List Keyed)}:0<l.length->l.Pairwise R->Rn R p L (a+l.length)->Rn R ((a,l.length,w) :: p) (l :: L) a
theorem Rn.len {R:Keyed->Keyed->Prop}:∀{p:List (Nat×Nat×Nat)} {L:List (List Keyed)} {a:Nat},Rn R p L a->p.length=L.length/\L.length<=L.flatten.length
 |_,_,_,.nil _=>⟨rfl,ai _⟩
 |_,_,_,.cons w h0 hs r=>by
  have⟨h1,h2⟩:=r.len
  refine⟨by simp[h1],?_⟩
  simp only[bp,bw,al];omega
theorem Rn.push {R:Keyed->Keyed->Prop} {l:List Keyed} (h0:0<l.length) (hs:l.Pairwise R):∀{p:List (Nat×Nat×Nat)} {L:List (List Keyed)} {a:Nat},Rn R p L a->∀b,b=a+L.flatten.length->Rn R (p++[(b,l.length,0)]) (L++[l]) a
 |_,_,a,.nil _,b,e=>by
  have:b=a:=by simpa using e
  subst this
  exact .cons 0 h0 hs (.nil _)
 |_,_,a,.cons w g0 gs r,b,e=>.cons w g0 gs (r.push h0 hs b (by rw[e,bw,al];omega))
theorem Rn.merge {R:Keyed->Keyed->Prop} {su nu pw sv nv pv:Nat}:∀{p:List (Nat×Nat×Nat)} {L:List (List Keyed)} {a i:Nat},Rn R p L a->p[i]?=some (su,nu,pw)->p[i+1]?=some (sv,nv,pv)->
  ∃L1 l1 l2 L2,L=L1++l1 :: l2 :: L2/\su=a+L1.flatten.length/\nu=l1.length/\sv=su+nu/\nv=l2.length/\0<nu/\0<nv/\l1.Pairwise R/\l2.Pairwise R/\
   ∀m,m.length=nu+nv->m.Pairwise R->Rn R ((p.set i (su,nu+nv,pw)).eraseIdx (i+1)) (L1++m :: L2) a
 |_,_,a,i,.nil _,e,_=>by simp at e
 |_,_,a,0,@Rn.cons _ _ w l p L h0 hs r,e,e2=>by
  have e':(a,l.length,w)=(su,nu,pw):=by simpa using e
  have e2':p[0]?=some (sv,nv,pv):=by simpa using e2
  obtain⟨rfl,rfl,rfl⟩:a=su/\l.length=nu/\w=pw:=by simpa using e'
  cases r with
  |nil _=>simp at e2'
  | @cons _ w2 l2 p2 L2 g0 gs r2=>
   obtain⟨rfl,rfl,rfl⟩:a+l.length=sv/\l2.length=nv/\w2=pv:=by simpa using e2'
   refine⟨[],l,l2,L2,rfl,by simp,rfl,rfl,rfl,h0,g0,hs,gs,fun m hm hsm=>?_⟩
   show Rn R ((a,l.length+l2.length,w) :: p2) (m :: L2) a
   rw[<- hm]
   refine .cons w (by omega) hsm ?_
   rw[hm,<- Nat.add_assoc];exact r2
 |_,_,a,i+1,@Rn.cons _ _ w l p L h0 hs r,e,e2=>by
  have e':p[i]?=some (su,nu,pw):=by simpa using e
  have e2':p[i+1]?=some (sv,nv,pv):=by simpa using e2
  obtain⟨L1,l1,l2,L2,rfl,a1,a2,a3,a4,a5,a6,a7,a8,a9⟩:=r.merge e' e2'
  refine⟨l :: L1,l1,l2,L2,rfl,by rw[a1,bw,al];omega,a2,a3,a4,a5,a6,a7,a8,fun m hm hsm=>?_⟩
  have:=a9 m hm hsm
  exact .cons w h0 hs this
structure Wt (O:KeyOrd) (ky:Keyed->O.α) (kd:SortKind) (a0:Array Keyed) (st:SortSt) (L:List (List Keyed)) (T:List Keyed):Prop where
 ar:(arrOf st).toList=L.flatten++T
 rn:Rn (Rk O ky) (pendingOf st).toList L 0
 pm:(arrOf st).toList.Perm a0.toList
 kd:kindOf st=kd
 fl:failedOf st=none
theorem Wt.size {a0:Array Keyed} {st:SortSt} {L:List (List Keyed)} {T:List Keyed} (w:Wt O ky kd a0 st L T):(arrOf st).size=a0.size:=by
 have:=w.pm.length_eq;simpa using this
theorem Wt.pa {a0:Array Keyed} {st:SortSt} {L:List (List Keyed)} {T:List Keyed} (w:Wt O ky kd a0 st L T) (pa:∀p∈a0.toList,P p):∀p∈(arrOf st).toList,P p:=fun p hp=>pa p (w.pm.mem_iff.mp hp)
theorem Sb.split {U T:List Keyed} {st:SortSt} {n:Nat} (B:Sb st0 lo st) (e:(arrOf st0).toList=U++T) (hl:U.length=lo) (hn:lo+n<=(arrOf st0).size) (S:Si ky lo (arrOf st) n):
  ∃l T',(arrOf st).toList=U++(l++T')/\l.length=n/\l.Pairwise (Rk O ky):=by
 have hz:(arrOf st).toList.length=(arrOf st0).size:=by rw[aD];exact B.size
 have eU:(arrOf st).toList.take lo=U:=by
  apply bx
  intro i
  by_cases hi:i<lo
  .rw[List.getElem?_take_of_lt hi]
   have h1:=B.same i hi
   have h2:(arrOf st0).toList[i]?=U[i]?:=by rw[e,List.getElem?_append_left (by omega)]
   rw[<- h2];simpa using h1
  .rw[bC (by rw[aL];omega),bC (by omega)]
 refine⟨((arrOf st).toList.drop lo).take n,(arrOf st).toList.drop (lo+n),?_,by rw[aL,cc];omega,?_⟩
 .rw[<- eU,<- kk',bf]
 .rw[List.pairwise_iff_getElem]
  intro i j hi hj hij
  have hj':j<n:=by rw[aL]at hj;omega
  have:=S i j (by omega) hj'
  have a1:(arrOf st)[lo+i]?=some (((arrOf st).toList.drop lo).take n)[i]:=by
   rw[List.getElem_take,cq,aP (by simp at hz;omega)];simp
  have a2:(arrOf st)[lo+j]?=some (((arrOf st).toList.drop lo).take n)[j]:=by
   rw[List.getElem_take,cq,aP (by simp at hz;omega)];simp
  rw[mU' a1,mU' a2]at this
  exact this
end
end So
namespace L2
open PySem PySem.Spec PyProof.Rows So
section
variable {prog:Program} {w:World} {A:Around} {E:Value->Shared->Prop} {s:Shared}
end
section
variable {X:Cx}
end
abbrev Itm:Type:=Int ⊕ PySem.Str
def zd':Itm->Value->Prop
 | .inl i,v=>∃t,v=.int i t
 | .inr x,v=>∃t,v=.str x t
inductive ItsAre:List Value->List Itm->Prop
 |nil:ItsAre [] []
 |cons {v:Value} {a:Itm} {vs:List Value} {l:List Itm}:zd' a v->ItsAre vs l->ItsAre (v :: vs) (a :: l)
theorem ItsAre.len:∀{vs:List Value} {l:List Itm},ItsAre vs l->vs.length=l.length
 |_,_,.nil=>rfl
 |_,_,.cons _ r=>by simp[r.len]
section
variable {prog:Program} {w:World} {A:Around} {E:Value->Shared->Prop} {s:Shared}
end
section
variable {X:Cx}
end
end L2
namespace PySem
def Rsn (xs:Array Nat):Prop:=xs.toList.Pairwise (· < ·)
theorem kl' {xs:Array Nat} (hr:Rsn xs) {i j:Nat} (hij:i<j) (hj:j<xs.size):xs[i]'(by omega)<xs[j]:=by
 have:=List.pairwise_iff_getElem.mp hr i j (by rw[aD];omega) (by rw[aD];omega) hij
 simpa using this
theorem fu' {xs:Array Nat} (hr:Rsn xs) (j:Nat):∀(f lo hi:Nat),lo<=hi->hi<=xs.size->hi-lo<=f->(∀i (h:i<xs.size),i<lo->xs[i]<j)->(∀i (h:i<xs.size),hi<=i->j<=xs[i])->
  SetTable.below.go xs j f lo hi<=xs.size/\(∀i (h:i<xs.size),i<SetTable.below.go xs j f lo hi->xs[i]<j)/\(∀i (h:i<xs.size),SetTable.below.go xs j f lo hi<=i->j<=xs[i])
 |0,lo,hi,h1,h2,h3,a,b=>by
  have e:lo=hi:=by omega
  subst e
  exact⟨h2,a,b⟩
 |f+1,lo,hi,h1,h2,h3,a,b=>by
  unfold SetTable.below.go
  by_cases hl:lo<hi
  .rw[if_pos hl]
   dsimp only
   have hm:(lo+hi) / 2<xs.size:=by omega
   have eg:xs.getD ((lo+hi) / 2) j=xs[(lo+hi) / 2]:=by simp[Array.getD,hm]
   rw[eg]
   by_cases hx:xs[(lo+hi) / 2]<j
   .rw[if_pos hx]
    refine fu' hr j f _ _ (by omega) h2 (by omega) (fun i h hi'=>?_) b
    by_cases e:i=(lo+hi) / 2
    .subst e;exact hx
    .exact Nat.lt_trans (kl' hr (by omega) hm) hx
   .rw[if_neg hx]
    refine fu' hr j f _ _ (by omega) (by omega) (by omega) a fun i h hi'=>?_
    by_cases e:i=(lo+hi) / 2
    .subst e;omega
    .have:=kl' hr (i:=(lo+hi) / 2) (j:=i) (by omega) h
     omega
  .rw[if_neg hl]
   have e:lo=hi:=by omega
   subst e
   exact⟨h2,a,b⟩
theorem fv' {xs:Array Nat} (hr:Rsn xs) (j:Nat):SetTable.below xs j<=xs.size/\(∀i (h:i<xs.size),i<SetTable.below xs j->xs[i]<j)/\(∀i (h:i<xs.size),SetTable.below xs j<=i->j<=xs[i]):=
 fu' hr j _ _ _ (aE _) (ai _) (ai _) (fun _ _ z=>absurd z (Nat.not_lt_zero _)) fun i h z=>absurd h (by omega)
theorem mV' {xs:Array Nat} (hr:Rsn xs) {j:Nat} (h:xs[SetTable.below xs j]?≠some j):j∉xs.toList:=by
 intro hm
 obtain⟨i,hi,e⟩:=bP.mp hm
 rw[aD]at hi
 rw[Array.getElem_toList]at e
 obtain⟨h1,h2,h3⟩:=fv' hr j
 have hle:SetTable.below xs j<=i:=Nat.le_of_not_lt fun z=>by have:=h2 i hi z;omega
 by_cases hq:SetTable.below xs j=i
 .rw[hq]at h
  exact h (by rw[aP hi,e])
 .have:=kl' hr (i:=SetTable.below xs j) (j:=i) (by omega) hi
  have:=h3 _ (by omega) (ai (SetTable.below xs j))
  omega
theorem iT' {xs:Array Nat} (hr:Rsn xs) {j:Nat} (h:xs[SetTable.below xs j]?≠some j):Rsn (SetTable.insertAt xs (SetTable.below xs j) j):=by
 obtain⟨h1,h2,h3⟩:=fv' hr j
 have hn:=mV' hr h
 unfold Rsn
 rw[SetTable.toList_insertAt]
 first
 |rw[bm,List.singleton_append]
 |skip
 rw[bQ,List.pairwise_cons]
 have hT:∀a∈xs.toList.take (SetTable.below xs j),a<j:=by
  intro a ha
  obtain⟨i,hi,e⟩:=bP.mp ha
  rw[aL,aD]at hi
  rw[List.getElem_take,Array.getElem_toList]at e
  have:=h2 i (by omega) (by omega)
  omega
 have hD:∀b∈xs.toList.drop (SetTable.below xs j),j<b:=by
  intro b hb
  obtain⟨i,hi,e⟩:=bP.mp hb
  rw[cc,aD]at hi
  rw[cq,Array.getElem_toList]at e
  have:=h3 (SetTable.below xs j+i) (by omega) (by omega)
  have hne:b≠j:=fun z=>hn (z ▸ cv hb)
  omega
 refine⟨hr.sublist (List.take_sublist _ _),⟨hD,hr.sublist (List.drop_sublist _ _)⟩,fun a ha b hb=>?_⟩
 rcases ak.mp hb with rfl|hb
 .exact hT a ha
 .exact Nat.lt_trans (hT a ha) (hD b hb)
end PySem
namespace PySem
namespace Ts
open SetTable
def u (x:Nat):Nat->Nat
 |0=>x
 |n+1=>5*u x n+1
theorem qc' (x a:Nat):∀b,u x (a+b)=u (u x a) b
 |0=>rfl
 |b+1=>by show 5*u x (a+b)+1=5*u (u x a) b+1;rw[qc' x a b]
theorem qd' (x:Nat):∀n,u x n=5 ^ n*x+u 0 n
 |0=>by simp[u]
 |n+1=>by
  show 5*u x n+1=5 ^ (n+1)*x+(5*u 0 n+1)
  rw[qd' x n,bX]
  have:5 ^ n*5*x=5*(5 ^ n*x):=by rw[bV (5 ^ n) 5,bA]
  omega
theorem km':∀n,4*u 0 n+1=5 ^ n
 |0=>rfl
 |n+1=>by
  have:=km' n
  rw[bX]
  show 4*(5*u 0 n+1)+1=_
  omega
theorem wU' (k:Nat):∃c,u 0 (2 ^ k)=2 ^ k*(2*c+1):=by
 induction k with
 |zero=>exact⟨0,rfl⟩
 |succ k ih=>
  obtain⟨c,hc⟩:=ih
  have h1:u 0 (2 ^ (k+1))=5 ^ (2 ^ k)*u 0 (2 ^ k)+u 0 (2 ^ k):=by
   rw[bX,Nat.mul_two,qc',qd' (u 0 (2 ^ k))]
  have h2:=km' (2 ^ k)
  rw[<- h2]at h1
  generalize hs:u 0 (2 ^ k)=S at h1 hc
  rw[h1,bX]
  generalize 2 ^ k=p at hc
  refine⟨(2*c+1)*S+c,?_⟩
  have e1:p*((2*c+1)*S)=S*S:=by rw[<- bA,<- hc]
  have e2:(4*S+1)*S=4*(S*S)+S:=by rw[Nat.add_mul,Nat.one_mul,bA]
  have e3:p*2*(2*((2*c+1)*S+c)+1)=4*(p*((2*c+1)*S))+2*(p*(2*c+1)):=by
   rw[show 2*((2*c+1)*S+c)+1=2*((2*c+1)*S)+(2*c+1) by omega,bZ,bV p 2]
   generalize (2*c+1)*S=q
   rw[bA 2 p (2*q),Nat.mul_left_comm p 2 q,bA 2 p (2*c+1)]
   omega
  rw[e2,e3,e1,<- hc]
  omega
theorem s6' (z k:Nat):u z (2 ^ k) % 2 ^ (k+1)=(z+2 ^ k) % 2 ^ (k+1):=by
 obtain⟨c,hc⟩:=wU' k
 have h2:=km' (2 ^ k)
 rw[qd',<- h2,hc,bX]
 generalize 2 ^ k=p
 have e:(4*(p*(2*c+1))+1)*z+p*(2*c+1)=z+p+p*2*(2*(2*c+1)*z+c):=by
  rw[Nat.add_mul,Nat.one_mul,bZ (p*2)]
  have e1:4*(p*(2*c+1))*z=p*2*(2*(2*c+1)*z):=by
   rw[bA p 2,<- bA 2 (2*(2*c+1)) z,<- bA 2 2,Nat.mul_left_comm 4 p,bA p]
  have e2:p*(2*c)=p*2*c:=by rw[bA]
  have e3:p*(2*c+1)=p*(2*c)+p:=by rw[bZ,cD]
  rw[e1,e3]
  omega
 rw[e,Nat.add_mul_mod_self_left]
theorem cyc:∀(k x y:Nat),∃n,n<2 ^ k/\u x n % 2 ^ k=y % 2 ^ k
 |0,x,y=>⟨0,by decide,by rw[Nat.pow_zero,Nat.mod_one,Nat.mod_one]⟩
 |k+1,x,y=>by
  obtain⟨n,hn,e⟩:=cyc k x y
  have hp:0<2 ^ k:=Nat.pow_pos (by decide)
  have h2:2 ^ (k+1)=2*2 ^ k:=by rw[bX,bV]
  by_cases h:u x n % 2 ^ (k+1)=y % 2 ^ (k+1)
  .exact⟨n,by omega,h⟩
  .refine⟨n+2 ^ k,by omega,?_⟩
   rw[qc',s6']
   generalize u x n=z at e h ⊢
   rw[h2]at h ⊢
   generalize 2 ^ k=p at e h hp ⊢
   have a1:z % (2*p)=z % p\/z % (2*p)=z % p+p:=by
    have:=Nat.mod_two_eq_zero_or_one (z / p)
    rw[bV 2 p,Nat.mod_mul]
    rcases this with q|q<;>rw[q]<;>simp
   have a2:y % (2*p)=y % p\/y % (2*p)=y % p+p:=by
    have:=Nat.mod_two_eq_zero_or_one (y / p)
    rw[bV 2 p,Nat.mod_mul]
    rcases this with q|q<;>rw[q]<;>simp
   rw[Nat.add_mod,cC (show p<2*p by omega)]
   have b1:=Nat.mod_lt z hp
   rcases a1 with q1|q1<;>rcases a2 with q2|q2
   .omega
   .rw[q1,q2,e,cC (by omega)]
   .rw[q1,q2,e,show y % p+p+p=y % p+2*p by omega,Nat.add_mod_right,cC (by omega)]
   .omega
end Ts
end PySem
namespace PySem
namespace Ts
open SetTable
def nxt (m:Nat) (p:Probe):Probe:=if p.more > 0 then { p with j:=p.j+1,more:=p.more-1 } else
 { p with j:=(leap m p.i p.perturb).1,more:=runEnd m (leap m p.i p.perturb).1-(leap m p.i p.perturb).1,i:=(leap m p.i p.perturb).1,perturb:=(leap m p.i p.perturb).2 }
def Pj (m:Nat) (h:Int):Nat->Probe
 |0=>{ j:=bits h % (m+1),more:=runEnd m (bits h % (m+1))-bits h % (m+1),i:=bits h % (m+1),perturb:=bits h,dummy:=none }
 |n+1=>nxt m (Pj m h n)
def Lp (m:Nat) (h:Int):Nat->Nat×Nat
 |0=>(bits h % (m+1),bits h)
 |l+1=>leap m (Lp m h l).1 (Lp m h l).2
def mo (m i:Nat):Nat:=runEnd m i-i
theorem wV' {m i:Nat}:mo m i<=9:=by unfold mo runEnd;split<;>omega
theorem s7' {m i k:Nat} (hi:i<=m) (hk:k<=mo m i):i+k<=m:=by
 unfold mo runEnd at hk
 split at hk<;>omega
def sg (m:Nat) (h:Int):Nat->Nat
 |0=>0
 |l+1=>sg m h l+mo m (Lp m h l).1+1
theorem s8' (m:Nat) (h:Int):∀l,sg m h l<=10*l
 |0=>ai _
 |l+1=>by
  have:=s8' m h l
  have:=@wV' m (Lp m h l).1
  show sg m h l+mo m (Lp m h l).1+1<=_
  omega
theorem g7' {m:Nat} {h:Int} {l b:Nat} (e:Pj m h b={ j:=(Lp m h l).1,more:=mo m (Lp m h l).1,i:=(Lp m h l).1,perturb:=(Lp m h l).2,dummy:=none }):∀k,k<=mo m (Lp m h l).1->Pj m h (b+k)={ j:=(Lp m h l).1+k,more:=mo m (Lp m h l).1-k,i:=(Lp m h l).1,perturb:=(Lp m h l).2,dummy:=none }
 |0,_=>by rw[Nat.add_zero,e];rfl
 |k+1,hk=>by
  have ih:=g7' e k (by omega)
  show nxt m (Pj m h (b+k))=_
  rw[ih]
  unfold nxt
  rw[if_pos (by show mo m _-k > 0;omega)]
  rfl
theorem kn' (m:Nat) (h:Int):∀l,Pj m h (sg m h l)={ j:=(Lp m h l).1,more:=mo m (Lp m h l).1,i:=(Lp m h l).1,perturb:=(Lp m h l).2,dummy:=none }
 |0=>rfl
 |l+1=>by
  have e:=g7' (kn' m h l) _ (ai _)
  show nxt m (Pj m h (sg m h l+mo m (Lp m h l).1))=_
  rw[e]
  unfold nxt
  rw[if_neg (by show ¬(_-_ > 0);omega)]
  rfl
theorem gc' {m:Nat} {h:Int} {l k:Nat} (hk:k<=mo m (Lp m h l).1):Pj m h (sg m h l+k)={ j:=(Lp m h l).1+k,more:=mo m (Lp m h l).1-k,i:=(Lp m h l).1,perturb:=(Lp m h l).2,dummy:=none }:=g7' (kn' m h l) k hk
theorem ib' {m:Nat} {h:Int}:∀{l n:Nat},n<sg m h l->∃l' k',l'<l/\k'<=mo m (Lp m h l').1/\n=sg m h l'+k'
 |0,n,hn=>absurd hn (Nat.not_lt_zero _)
 |l+1,n,hn=>by
  have hn:n<sg m h l+mo m (Lp m h l).1+1:=hn
  by_cases q:n<sg m h l
  .obtain⟨l',k',h1,h2,h3⟩:=ib' q
   exact⟨l',k',by omega,h2,h3⟩
  .exact⟨l,n-sg m h l,by omega,by omega,by omega⟩
theorem mW' {m:Nat} {h:Int} (n:Nat):∃l k,k<=mo m (Lp m h l).1/\n=sg m h l+k:=by
 have hle:∀l,l<=sg m h l:=fun l=>by
  induction l with
  |zero=>exact ai _
  |succ l ih=>show l+1<=sg m h l+mo m (Lp m h l).1+1;omega
 obtain⟨l',k',_,h2,h3⟩:=ib' (m:=m) (h:=h) (l:=n+1) (n:=n) (aB (cB n) (hle (n+1)))
 exact⟨l',k',h2,h3⟩
theorem qe' {m:Nat} {h:Int}:∀{l:Nat},(Lp m h l).1<=m
 |0=>bH (Nat.mod_lt _ (Nat.succ_pos _))
 |l+1=>bH (Nat.mod_lt _ (Nat.succ_pos _))
theorem wW' {m:Nat} {h:Int} {n:Nat}:(Pj m h n).j<=m:=by
 obtain⟨l,k,hk,rfl⟩:=mW' (m:=m) (h:=h) n
 rw[gc' hk]
 exact s7' qe' hk
theorem ko' {m:Nat} {h:Int}:∀{l:Nat},(Lp m h l).2=bits h / 32 ^ l
 |0=>by show bits h=_;simp
 |l+1=>by
  show(Lp m h l).2 / 32=_
  rw[ko',Nat.div_div_eq_div_mul,bX]
theorem qf' (h:Int):bits h<2 ^ 64:=by
 unfold bits
 have:=cg h (show(0:Int)<2 ^ 64 by decide)
 have:=Int.emod_nonneg h (show(2 ^ 64:Int)≠0 by decide)
 omega
theorem qg' {m:Nat} {h:Int} {l:Nat} (hl:13<=l):(Lp m h l).2=0:=by
 rw[ko']
 refine Nat.div_eq_of_lt (aB (qf' h) ?_)
 exact aI (show 2 ^ 64<=32 ^ 13 by decide) (Nat.pow_le_pow_right (by decide) hl)
theorem yA' {m:Nat} {h:Int}:∀{n:Nat},(Lp m h (13+n)).1=u (Lp m h 13).1 n % (m+1)
 |0=>(cC (Nat.lt_succ_of_le qe')).symm
 |n+1=>by
  show((Lp m h (13+n)).1*5+1+(Lp m h (13+n)).2 / 32) % (m+1)=(5*u _ n+1) % (m+1)
  rw[qg' (by omega),yA' (n:=n),Nat.zero_div,Nat.add_zero,bV]
  rw[Nat.add_mod,Nat.mul_mod,Nat.mod_mod,<- Nat.mul_mod,<- Nat.add_mod]
theorem s9' {m k:Nat} (hk:m+1=2 ^ k) (h:Int) {y:Nat} (hy:y<=m):∃l,l<m+14/\(Lp m h l).1=y:=by
 obtain⟨n,hn,e⟩:=cyc k (Lp m h 13).1 y
 refine⟨13+n,by omega,?_⟩
 rw[yA',hk,e,<- hk,cC (by omega)]
theorem ta' {m k:Nat} (hk:m+1=2 ^ k) (h:Int) {y:Nat} (hy:y<=m):∃n,n<10*(m+14)/\(Pj m h n).j=y:=by
 obtain⟨l,hl,e⟩:=s9' hk h hy
 have:=s8' m h l
 exact⟨sg m h l,by omega,by rw[kn'];exact e⟩
theorem least {P:Nat->Prop} {n:Nat} (h:P n):∃m,m<=n/\P m/\∀i,i<m->¬P i:=by
 induction n using Nat.strongRecOn with
 |ind n ih=>
  by_cases q:∃i,i<n/\P i
  .obtain⟨i,hi,pi⟩:=q
   obtain⟨m,h1,h2,h3⟩:=ih i hi pi
   exact⟨m,by omega,h2,h3⟩
  .exact⟨n,ai _,h,fun i hi pi=>q ⟨i,hi,pi⟩⟩
theorem kp':∀{l b:List Nat},l.Nodup->(∀i∈l,i∈b)->l.length<=b.length
 | [],_,_,_=>aE _
 |a :: l,b,h,hs=>by
  have ha:a∈b:=hs a (by simp)
  have:=kp' (l:=l) (b:=b.erase a) (bB.mp h).2 fun i hi=>by
   have hne:i≠a:=fun e=>(bB.mp h).1 (by rw[<- e];exact hi)
   exact(List.mem_erase_of_ne hne).mpr (hs i (by simp[hi]))
  rw[List.length_erase_of_mem ha]at this
  have:=List.length_pos_of_mem ha
  rw[bp]
  omega
theorem kq' {m:Nat} {l:List Nat} (h:l.length<=m):∃y,y<=m/\y∉l:=Classical.byContradiction fun z=>by
 have:=kp' (l:=aA (m+1)) (b:=l) List.nodup_range fun i hi=>Classical.byContradiction fun q=>z ⟨i,bH (aJ.mp hi),q⟩
 rw[aS]at this
 omega
structure TabOk (t:SetTable) (es:Array (Int×Value)):Prop where
 rise:Rsn t.place
 le:∀p∈t.place.toList,p<=t.mask
 size:t.place.size=es.size
 dum:t.dummies=#[]
 pow:∃k,t.mask+1=2 ^ k
 room:t.place.size<=t.mask
 met:∀q∈t.place.toList.zip es.toList,∃n,(Pj t.mask q.2.1 n).j=q.1/\∀n',n'<n->(Pj t.mask q.2.1 n').j∈t.place.toList
theorem TabOk.end {t:SetTable} {es:Array (Int×Value)} (T:TabOk t es) (h:Int):∃N,N<10*(t.mask+14)/\(Pj t.mask h N).j∉t.place.toList/\∀n,n<N->(Pj t.mask h n).j∈t.place.toList:=by
 obtain⟨y,hy,hn⟩:=kq' (m:=t.mask) (l:=t.place.toList) (by rw[aD];exact T.room)
 obtain⟨k,hk⟩:=T.pow
 obtain⟨n,h1,h2⟩:=ta' hk h hy
 obtain⟨N,g1,g2,g3⟩:=least (P:=fun n=>(Pj t.mask h n).j∉t.place.toList) (n:=n) (by rw[h2];exact hn)
 exact⟨N,by omega,g2,fun i hi=>Classical.byContradiction (g3 i hi)⟩
end Ts
end PySem
namespace PySem
namespace Ts
open SetTable
theorem qh' (j:Nat):has #[] j=false:=by
 unfold has
 rfl
theorem TabOk.put {t:SetTable} {es:Array (Int×Value)} (T:TabOk t es) {h:Int} {x:Value} {N:Nat} (hN:(Pj t.mask h N).j∉t.place.toList) (hB:∀n,n<N->(Pj t.mask h n).j∈t.place.toList) (hroom:es.size+1<=t.mask):
  TabOk (t.put (Pj t.mask h N).j).1 (insertAt es (t.put (Pj t.mask h N).j).2 (h,x)):=by
 have hb:=fv' T.rise (Pj t.mask h N).j
 have hne:t.place[below t.place (Pj t.mask h N).j]?≠some (Pj t.mask h N).j:=fun z=>hN (by rw[cu];exact Array.mem_of_getElem? z)
 have hp:(t.put (Pj t.mask h N).j).1={ t with place:=insertAt t.place (below t.place (Pj t.mask h N).j) (Pj t.mask h N).j }:=by
  unfold SetTable.put
  rw[T.dum,qh']
  have hd:=T.dum
  cases t
  cases hd
  rfl
 have hp2:(t.put (Pj t.mask h N).j).2=below t.place (Pj t.mask h N).j:=rfl
 rw[hp,hp2]
 generalize hj:(Pj t.mask h N).j=j at *
 generalize hq:below t.place j=p at *
 have hl:(List.take p t.place.toList).length=(List.take p es.toList).length:=by
  rw[aL,aL,aD,aD,T.size]
 have hmem:∀y,y∈(insertAt t.place p j).toList↔y=j\/y∈t.place.toList:=by
  intro y
  rw[toList_insertAt]
  conv=>rhs;rw[<- bf p t.place.toList]
  simp only[aw,ak]
  constructor
  .rintro(a|a|a)
   .exact .inr (.inl a)
   .exact .inl a
   .exact .inr (.inr a)
  .rintro(a|a|a)
   .exact .inr (.inl a)
   .exact .inl a
   .exact .inr (.inr a)
 have hsz:∀{α:Type} (xs:Array α) (y:α),(insertAt xs p y).size=xs.size+1:=fun xs y=>by
  rw[<- aD,toList_insertAt]
  simp only[al,bp,aL,cc,aD]
  omega
 refine⟨?_,?_,?_,T.dum,T.pow,?_,?_⟩
 .have:=iT' T.rise (j:=j) (by rw[hq];exact hne)
  rw[hq]at this
  exact this
 .intro y hy
  rcases(hmem y).mp hy with rfl|hy
  .rw[<- hj];exact wW'
  .exact T.le y hy
 .show(insertAt t.place p j).size=_
  rw[hsz,hsz,T.size]
 .show(insertAt t.place p j).size<=t.mask
  rw[hsz,T.size]
  exact hroom
 .show ∀q∈(insertAt t.place p j).toList.zip (insertAt es p (h,x)).toList,∃n,(Pj t.mask q.2.1 n).j=q.1/\∀n',n'<n->_∈(insertAt t.place p j).toList
  rw[toList_insertAt t.place,toList_insertAt es,List.zip_append hl,List.zip_cons_cons,<- toList_insertAt t.place]
  have old:∀q∈t.place.toList.zip es.toList,∃n,(Pj t.mask q.2.1 n).j=q.1/\∀n',n'<n->(Pj t.mask q.2.1 n').j∈(insertAt t.place p j).toList:=fun q hq=>by
   obtain⟨n,h1,h2⟩:=T.met q hq
   exact⟨n,h1,fun n' hn'=>(hmem _).mpr (.inr (h2 n' hn'))⟩
  rw[<- bf p t.place.toList,<- bf p es.toList,List.zip_append hl]at old
  intro q hq
  rcases aw.mp hq with hq|hq
  .exact old q (aV _ hq)
  .rcases ak.mp hq with rfl|hq
   .exact⟨N,hj,fun n' hn'=>(hmem _).mpr (.inr (hB n' hn'))⟩
   .exact old q (ah _ hq)
structure OwnOk (m:Nat) (hs:List Int) (k:Nat) (ow:Array (Option Nat)):Prop where
 size:ow.size=m+1
 met:∀j i:Nat,ow[j]?=some (some i)->i<k/\∃h n,hs[i]?=some h/\(Pj m h n).j=j/\∀n',n'<n->∃z,ow[(Pj m h n').j]?=some (some z)
 all:∀i,i<k->∃j:Nat,ow[j]?=some (some i)
 uniq:∀i j j':Nat,ow[j]?=some (some i)->ow[j']?=some (some i)->j=j'
theorem OwnOk.free {m:Nat} {hs:List Int} {k:Nat} {ow:Array (Option Nat)} (O:OwnOk m hs k ow) (hk:k<=m):∃y,y<=m/\ow[y]?=some none:=Classical.byContradiction fun z=>by
 have v6':∀y,y<=m->∃i,ow[y]?=some (some i):=fun y hy=>by
  have e:ow[y]?=some (ow[y]'(by have:=O.size;omega)):=aP _
  cases hv:ow[y]'(by have:=O.size;omega)with
  |none=>rw[hv]at e;exact absurd ⟨y,hy,e⟩ z
  |some i=>rw[hv]at e;exact⟨i,e⟩
 have:=kp' (l:=(aA (m+1)).map fun y=>(ow.getD y none).getD 0) (b:=aA k) ?_ ?_
 .rw[aa,aS,aS]at this
  omega
 .rw[List.Nodup,List.pairwise_map]
  refine List.Pairwise.imp_of_mem (fun {a b} ha hb hab=>?_) List.pairwise_lt_range
  obtain⟨i,hi⟩:=v6' a (bH (aJ.mp ha))
  obtain⟨i',hi'⟩:=v6' b (bH (aJ.mp hb))
  rw[Array.getD_eq_getD_getElem?,Array.getD_eq_getD_getElem?,hi,hi']
  intro q
  have q:i=i':=q
  subst q
  exact absurd (O.uniq i a b hi hi') (by omega)
 .intro i hi
  obtain⟨y,hy,rfl⟩:=bg.mp hi
  obtain⟨i,hi⟩:=v6' y (bH (aJ.mp hy))
  rw[Array.getD_eq_getD_getElem?,hi]
  exact aJ.mpr (O.met y i hi).1
theorem kr' {m:Nat} {ow:Array (Option Nat)} (hs:ow.size=m+1) (h:Int) {L:Nat} (hL:ow[(Lp m h L).1]?=some none):∀(f l:Nat),l<=L->L-l<f->(∀n,n<sg m h l->∃z,ow[(Pj m h n).j]?=some (some z))->
  ∃n,layClean.free m ow f (Lp m h l).1 (Lp m h l).2=some (Pj m h n).j/\ow[(Pj m h n).j]?=some none/\∀n',n'<n->∃z,ow[(Pj m h n').j]?=some (some z)
 |0,l,_,hf,_=>absurd hf (Nat.not_lt_zero _)
 |f+1,l,hl,hf,hB=>by
  unfold layClean.free
  have e1:runEnd m (Lp m h l).1+1-(Lp m h l).1=mo m (Lp m h l).1+1:=by
   unfold mo runEnd
   split<;>omega
  rw[e1]
  have val:∀k,k<=mo m (Lp m h l).1->∃o,ow[(Lp m h l).1+k]?=some o/\ow.getD ((Lp m h l).1+k) (some 0)=o:=fun k hk=>by
   have hlt:(Lp m h l).1+k<ow.size:=by rw[hs];exact Nat.lt_succ_of_le (s7' qe' hk)
   exact⟨_,aP hlt,by simp[Array.getD,hlt]⟩
  cases hq:(aA (mo m (Lp m h l).1+1)).find? fun k=>(ow.getD ((Lp m h l).1+k) (some 0)).isNone with
  |some k=>
   obtain⟨h1,h2,h3⟩:=List.find?_range_eq_some.mp hq
   have hk:k<=mo m (Lp m h l).1:=bH (aJ.mp h2)
   refine⟨sg m h l+k,?_,?_,fun n' hn'=>?_⟩
   .dsimp only
    rw[gc' hk]
   .obtain⟨o,q1,q2⟩:=val k hk
    rw[q2]at h1
    rw[gc' hk,q1]
    cases o with
    |none=>rfl
    |some _=>cases h1
   .by_cases q:n'<sg m h l
    .exact hB n' q
    .obtain⟨d,rfl⟩:∃d,n'=sg m h l+d:=⟨n'-sg m h l,by omega⟩
     have hd:d<k:=by omega
     obtain⟨o,q1,q2⟩:=val d (by omega)
     have:=h3 d hd
     rw[q2]at this
     rw[gc' (by omega),q1]
     cases o with
     |none=>cases this
     |some z=>exact⟨z,rfl⟩
  |none=>
   have h3:=List.find?_range_eq_none.mp hq
   have hw:∀d,d<=mo m (Lp m h l).1->∃z,ow[(Lp m h l).1+d]?=some (some z):=fun d hd=>by
    obtain⟨o,q1,q2⟩:=val d hd
    have:=h3 d (by omega)
    rw[q2]at this
    cases o with
    |none=>cases this
    |some z=>exact⟨z,q1⟩
   have hne:l≠L:=fun e=>by
    obtain⟨z,hz⟩:=hw 0 (aE _)
    rw[Nat.add_zero,e,hL]at hz
    cases hz
   refine kr' hs h hL f (l+1) (by omega) (by omega) fun n hn=>?_
   by_cases q:n<sg m h l
   .exact hB n q
   .have hn:n<sg m h l+mo m (Lp m h l).1+1:=hn
    obtain⟨d,rfl⟩:∃d,n=sg m h l+d:=⟨n-sg m h l,by omega⟩
    rw[gc' (by omega)]
    exact hw d (by omega)
theorem OwnOk.step {m k:Nat} {hs:List Int} {ow:Array (Option Nat)} (O:OwnOk m hs k ow) (hk:k<=m) (hp:∃b,m+1=2 ^ b) {h:Int} (hh:hs[k]?=some h):∃j,layClean.free m ow (turns m) (bits h % (m+1)) (bits h)=some j/\OwnOk m hs (k+1) (ow.setIfInBounds j (some k)):=by
 obtain⟨y,hy,hye⟩:=O.free hk
 obtain⟨b,hb⟩:=hp
 obtain⟨L,hL,e⟩:=s9' hb h hy
 obtain⟨n,h1,h2,h3⟩:=kr' O.size h (L:=L) (by rw[e];exact hye) (turns m) 0 (aE _) (by unfold turns;omega) fun n hn=>absurd hn (Nat.not_lt_zero _)
 refine⟨_,h1,?_⟩
 generalize hj:(Pj m h n).j=j at h2 ⊢
 have hlt:j<ow.size:=(Array.getElem?_eq_some_iff.mp h2).1
 have g:∀y,(ow.setIfInBounds j (some k))[y]?=if j=y then some (some k)else ow[y]?:=fun y=>by
  rw[Array.getElem?_setIfInBounds]
  by_cases q:j=y
  .rw[if_pos q,if_pos q,if_pos hlt]
  .rw[if_neg q,if_neg q]
 have mono:∀y z:Nat,ow[y]?=some (some z)->∃z,(ow.setIfInBounds j (some k))[y]?=some (some z):=fun y z e=>by
  rw[g]
  by_cases q:j=y
  .exact⟨k,by rw[if_pos q]⟩
  .exact⟨z,by rw[if_neg q];exact e⟩
 refine⟨by rw[Array.size_setIfInBounds];exact O.size,fun y i e=>?_,fun i hi=>?_,fun i y y' e e'=>?_⟩
 .rw[g]at e
  by_cases q:j=y
  .rw[if_pos q]at e
   injection e with e
   injection e with e
   subst e
   exact⟨cB _,h,n,hh,by rw[hj,q],fun n' hn'=>by obtain⟨z,hz⟩:=h3 n' hn';exact mono _ z hz⟩
  .rw[if_neg q]at e
   obtain⟨a1,h',n',a2,a3,a4⟩:=O.met y i e
   exact⟨bS a1,h',n',a2,a3,fun n'' hn=>by obtain⟨z,hz⟩:=a4 n'' hn;exact mono _ z hz⟩
 .rcases cj i k with z|z
  .obtain⟨y,hy⟩:=O.all i z
   refine⟨y,?_⟩
   rw[g,if_neg (fun q=>by rw[<- q,h2]at hy;cases hy)]
   exact hy
  .exact⟨j,by rw[g,if_pos rfl,show i=k by omega]⟩
 .rw[g]at e e'
  by_cases q:j=y<;>by_cases q':j=y'
  .omega
  .rw[if_pos q]at e
   rw[if_neg q']at e'
   injection e with e
   injection e with e
   subst e
   exact absurd (O.met y' _ e').1 (bb _)
  .rw[if_neg q]at e
   rw[if_pos q']at e'
   injection e' with e'
   injection e' with e'
   subst e'
   exact absurd (O.met y _ e).1 (bb _)
  .rw[if_neg q]at e
   rw[if_neg q']at e'
   exact O.uniq i y y' e e'
end Ts
end PySem
namespace PySem
section
variable {prog:Program} {w:World} {K:Type} [DecidableEq K] (knd:KeyKind prog w K)
variable {knd}
variable {A:Around} {E:Value->Shared->Prop} {s:Shared}
end
end PySem
namespace PySem
namespace Ts
open SetTable
section
variable {prog:Program} {w:World}
def elm (prog:Program) (w:World) (q:List Int×Addr):Int×Value:=(tupleKeyHash (intKind prog w) q.1,.ref q.2)
def Tup (prog:Program) (w:World) (h:Heap) (q:List Int×Addr):Prop:=IsTupleKey (intKind prog w) h q.1 q.2
structure MaskOk (t:SetTable):Prop where
 mask:t.mask∈[7,31,127,511,2047,8191]
 few:t.place.size*5<t.mask*3
theorem MaskOk.le {t:SetTable} (m:MaskOk t):7<=t.mask/\t.mask<=8191/\t.mask % 2=1:=by
 have:=m.mask
 simp only[ak,av,or_false]at this
 omega
variable {A:Around} {E:Value->Shared->Prop} {s:Shared}
structure Elms (prog:Program) (w:World) (h:Heap) (es:Array (Int×Value)) (t:SetTable) (L:List (List Int×Addr)):Prop where
 its:es.toList=L.map (elm prog w)
 tup:∀q∈L,Tup prog w h q
 nd:(L.map (·.1)).Nodup
 tab:TabOk t es
 mask:MaskOk t
end
end Ts
end PySem
namespace PySem
namespace Ts
open SetTable
section
variable {prog:Program} {w:World} {A:Around} {E:Value->Shared->Prop} {s:Shared}
theorem Tup.kept {h h':Heap} {a:Addr} {o:Obj} {es:Array (Int×Value)} {ep:Nat} {t:SetTable} {q:List Int×Addr} (hq:Tup prog w h q) (ho:h.get? a=some o) (hd:o.data=.set es ep t) (hs:cE a h h'):Tup prog w h' q:=by
 obtain⟨o',items,n,ho',hc,hd',hi⟩:=hq
 have hne:q.2≠a:=by
  intro e
  rw[e,ho]at ho'
  cases ho'
  rw[hd]at hd';exact nomatch hd'
 exact⟨o',items,n,(hs.2 q.2 hne).trans ho',hc,hd',hi⟩
theorem TabOk.plain {t:SetTable} {es:Array (Int×Value)} (T:TabOk t es) (b:Bool):TabOk { t with plain:=b } es:=⟨T.rise,T.le,T.size,T.dum,T.pow,T.room,T.met⟩
end
end Ts
end PySem
namespace PySem
namespace Ts
open SetTable
section
variable {prog:Program} {w:World} {A:Around} {E:Value->Shared->Prop} {s:Shared}
end
end Ts
end PySem
namespace L2
open PySem PySem.Spec PyProof.Rows
def wX' (h:Heap) (a:Addr):Heap:=h.update a fun o=>{ o with data:=.freed }
def dg' (h:Heap) (S:List Addr):Heap:=S.foldl wX' h
def yB' (h:Heap) (e:Addr) (cls:Value) (T:Addr):Prop:=∃oe vs oT ts a0,h.get? e=some oe/\(oe.cls=cls/\vs[0]?=some a0)/\oe.data=.fields vs/\vs[1]?=some (.ref T)/\T≠e/\h.get? T=some oT/\oT.data=.fields ts/\ts[3]?=some .none
structure LeftX (F S:List Addr) (e:Addr) (cls:Value) (h h':Heap):Prop where
 keep:∀b o,b∉F->b∉S->h.get? b=some o->h'.get? b=some o
 slot:∀b o,b∈F->h.get? b=some o->∃sl,h'.get? b=some { o with slots:=sl }
 there:∀b o,b∉S->h.get? b=some o->∃o',h'.get? b=some o'
 exc:∃T,(h.get? T=none\/T∈S)/\yB' h' e cls T
section
variable {M:Model} {A:Around} {E:Value->Shared->Prop} {s:Shared}
end
structure FnCx (X:Cx):Prop where
 ex:X.ex=[]
 fn:∀x,X.fn x=true
 stk:X.stack=X.env :: X.outer
 fr:X.env.frame=some X.env.locals
theorem FnCx.frs {X:Cx} (F:FnCx X):L2.frs X.stack=X.env.locals :: X.fs:=by
 rw[F.stk]
 show List.filterMap _ _=_
 rw[bI,F.fr]
 rfl
section
variable {X:Cx} {pins:List (Addr×Obj)} {σ:St} {H:Hp} {s:Shared}
theorem Inv.left {S:List Addr} {e:Addr} {cls:Value} {h2:Heap} (I:Inv X pins σ H s) (F:FnCx X) (L:LeftX (frs X.stack) S e cls s.heap h2)
  (hS:∀b∈S,H b=none/\X.s₀.heap.get? b=none/\(∀p∈X.pn++pins,p.1≠b)/\∃o vs,s.heap.get? b=some o/\o.data=.fields vs):Inv X pins σ H { s with heap:=h2 }:=by
 have hF:=F.frs
 have nfs:∀{b:Addr},b≠X.env.locals->b∉X.fs->b∉frs X.stack:=fun {b} h1 h2 hb=>by
  rw[hF]at hb
  rcases ak.mp hb with z|z
  .exact h1 z
  .exact h2 z
 have cell_ok:∀x c oc v,X.env.cells.lookup x=some c->s.heap.get? c=some oc->oc.data=.cell v->h2.get? c=some oc:=fun x c oc v hx ho hd=>by
  refine L.keep c oc (nfs (I.cne x c hx) fun hb=>?_) (fun hb=>?_) ho
  .obtain⟨_,o,eo,_⟩:=I.ok.funs.mem hb
   exact bb _ (aB (au eo) (I.ok.cab x c (F.fn x) hx))
  .obtain⟨_,_,_,o,vs,eo,ed⟩:=hS c hb
   rw[ho]at eo;cases eo
   rw[hd]at ed;cases ed
 refine⟨I.ok,I.os,I.bare,⟨fun b o e0 n hb hx=>?_,fun b o e0 n hb hx=>?_,I.base.free,fun b o e0 hx=>?_,I.base.tups,I.base.frzs,I.base.tbls⟩,?_,fun x c hx=>?_,I.free,I.freeC,fun p hp=>?_,fun b u e=>?_,I.len⟩
 .have e1:=I.base.keep b o e0 n hb hx
  refine L.keep b o (nfs (aK (aB (au e0) I.ok.above)) hb) (fun z=>?_) e1
  rw[(hS b z).2.1]at e0;cases e0
 .obtain⟨sl,e1⟩:=I.base.slot b o e0 n hb hx
  obtain⟨sl2,e2⟩:=L.slot b _ (by rw[hF];exact ay _ hb) e1
  exact⟨sl2,e2⟩
 .obtain⟨o',e1⟩:=I.base.there b o e0 hx
  exact L.there b o' (fun z=>by rw[(hS b z).2.1]at e0;cases e0) e1
 .obtain⟨m,⟨o,es,ep,ho,hd,r⟩,hl⟩:=I.loc
  obtain⟨sl,e2⟩:=L.slot X.env.locals o (by rw[hF];exact aF) ho
  refine⟨m,⟨_,es,ep,e2,hd,r⟩,fun i x v h1 h2 h3=>?_⟩
  obtain⟨u,ru,q⟩:=hl i x v h1 h2 h3
  refine⟨u,ru,?_⟩
  rcases q with q|⟨k,c,hc,oc,ho,hd⟩
  .exact .inl q
  .exact .inr ⟨k,c,hc,oc,cell_ok x c oc _ hc ho hd,hd⟩
 .obtain⟨v,oc,ho,hd⟩:=I.cell x c hx
  exact⟨v,oc,cell_ok x c oc v hx ho hd,hd⟩
 .obtain⟨e,n,ne,nf,d⟩:=I.pin p hp
  exact⟨L.keep p.1 p.2 (nfs ne nf) (fun z=>(hS p.1 z).2.2.1 p hp rfl) e,n,ne,nf,d⟩
 .refine(I.hok b u e).stay (fun c v hc q=>?_) (fun _ q=>q) fun _ _ q=>q
  have tr:∃u',H c=some u':=by
   rcases hc with z|z
   .exact⟨u,by rw[z];exact e⟩
   .exact⟨_,z⟩
  obtain⟨u',hu⟩:=tr
  refine L.keep c v (fun hb=>?_) (fun hb=>?_) q
  .rw[I.stkFree c hb]at hu;cases hu
  .rw[(hS c hb).1]at hu;cases hu
def CX1 (P:Program) (w:World) (mg:Str->Option Value):CXT:=fun outer H s E e s'=>∃(ea T Ca:Addr) (nm:Str) (H':Hp),e=.ref ea/\mg nm=some (.ref Ca)/\s'.os=s.os/\AllBare s'.gens/\Un (frs outer) [] H H' s.heap s'.heap/\HOk P w H' s'.heap/\
 yB' s'.heap ea (.ref Ca) T/\H' ea=none/\H' T=none/\s.heap.get? ea=none/\s.heap.get? T=none/\E (.str nm 0) none H'
end
def bmV:List Value:=[.type "ValueError",.type "Exception",.type "BaseException",.type "object"]
section
variable {X:Cx}
end
section
variable {X:Cx} {pins:List (Addr×Obj)} {σ:St} {H:Hp} {s:Shared} {D:Ends} {hs:List ExceptHandler}
def Cx.inX (X:Cx) (e:Addr):Cx:={ X with A:=X.A.mark (some (.ref e)),calm:=false,xe:=fun _ _=>False }
def tb' (e Ca:Addr) (h:Heap):Prop:=∃o vs,h.get? e=some o/\o.cls=.ref Ca/\o.data=.fields vs
def zR' (e Ca:Addr):HO:=.ext (tb' e Ca)
end
end L2
namespace L2
open PySem PySem.Spec PyProof.Rows PySem.W
structure XCls (K:Frag) (C:Addr):Prop where
 ga:findIn K (.ref C) "__getattribute__"=some (some (.builtin "BaseException.__getattribute__"))
 gt:findIn K (.ref C) "__getattr__"=some none
 cl:findIn K (.ref C) "__class__"=some (some (.builtin "object.__class__"))
 be:subIn K (.ref C) (.type "BaseException")=some true
 ob:subIn K (.ref C) (.type "object")=some true
 is:(clsIn K C).isSome=true
section
variable {prog:Program} {w:World} {A:Around} {E:Value->Shared->Prop} {K:Frag} {h:Heap} {g:Array GenState} {d:Drawn} {t:Nat} {os:OsState} {a C:Addr} {o:Obj}
end
end L2
namespace L2
open PySem PySem.Spec PyProof.Rows PySem.W
section
variable {X:Cx}
end
def yC':Option Int->Value->Bool
 |some k,v=>Value.isInt k v
 |none,.none=>true
 |none,_=>false
theorem a2':∀{k:Option Int} {v:Value},yC' k v=true->(∃i t,k=some i/\v=Value.int i t)\/(k=none/\v=Value.none)
 |some i,v,h=>by
  obtain⟨t,e⟩:=Value.isInt_shape (k:=i) (v:=v) h
  exact .inl ⟨i,t,rfl,e⟩
 |none,v,h=>by cases v<;>first|exact .inr ⟨rfl,rfl⟩|cases h
def okH:Option Int->Int
 |some k=>hashInt k
 |none=>0xFCA86420
def iU' (prog:Program) (w:World):PySem.KeyKind prog w (Option Int) where
 is:=yC'
 hash:=okH
 inj:=fun v a b ha hb=>by
  rcases a2' ha with⟨i,t,rfl,rfl⟩|⟨rfl,rfl⟩
  .rcases a2' hb with⟨j,u,rfl,e⟩|⟨rfl,e⟩
   .injection e with e1 _;rw[e1]
   .exact nomatch e
  .rcases a2' hb with⟨j,u,rfl,e⟩|⟨rfl,e⟩
   .exact nomatch e
   .rfl
 byValue:=fun k v h=>by
  rcases a2' h with⟨i,t,rfl,rfl⟩|⟨rfl,rfl⟩<;>rfl
 pyHash:=fun hv h=>by
  rcases a2' hv with⟨i,t,rfl,rfl⟩|⟨rfl,rfl⟩
  .exact wpAny_pyHash_int h
  .exact ei' h
 eqBool:=fun {A E s a b u v Q} hu hv h=>by
  rcases a2' hu with⟨i,t,rfl,rfl⟩|⟨rfl,rfl⟩
  .rcases a2' hv with⟨j,u,rfl,rfl⟩|⟨rfl,rfl⟩
   .have e:decide ((some i:Option Int)=some j)=(i == j):=by
     by_cases q:i=j
     .subst q;simp
     .rw[decide_eq_false (fun z=>q (Option.some.inj z)),(beq_eq_false_iff_ne.mpr q)]
    rw[e]at h
    exact wpAny_eqBool_int h
   .exact SeqAt.EqAt.int_none i t _ _ _ _ h
  .rcases a2' hv with⟨j,u,rfl,rfl⟩|⟨rfl,rfl⟩
   .exact SeqAt.EqAt.none_int j u _ _ _ _ h
   .exact SeqAt.EqAt.same .none _ _ _ _ h
 «strs»:=fun k x t v h=>by
  rcases a2' h with⟨i,u,rfl,e⟩|⟨rfl,e⟩<;>exact nomatch e
end L2
namespace PySem
open PyProof.Rows
section
variable {prog:Program} {w:World} {K:Type} [DecidableEq K] {knd:KeyKind prog w K}
variable {A:Around} {R:Result->Shared->Prop} {I:Addr} {fp wr:List Addr} {G:Array GenState->Array GenState->Prop} {n:Nat} {P:Nat->Value->Prop} {St:Nat->Shared->Prop}
end
section
variable {prog:Program} {w:World} {K:Type} [DecidableEq K] {knd:KeyKind prog w K} {A:Around} {E:Value->Shared->Prop} {s:Shared}
end
end PySem
namespace PySem
open PyProof.Rows
def Heap.IsSti (h:Heap) (a d:Addr) (f:Value) (i n ep:Nat):Prop:=∃o,h.get? a=some o/\o.cls=.type "set_iterator"/\o.data=.fields #[f,rawInt i,.ref d,rawInt n,rawInt ep]
theorem Heap.IsSti.at {h h':Heap} {a d:Addr} {f:Value} {i n ep:Nat} (x:h.IsSti a d f i n ep) (e:∀o,h.get? a=some o->h'.get? a=some o):h'.IsSti a d f i n ep:=let⟨o,ho,r⟩:=x;⟨o,e _ ho,r⟩
def Ord (bt:Bool) (w:World) (d ep:Nat) (es:Array (Int×Value)) (t:SetTable) (xs:Array Value) (h:Heap) (f:Value) (i:Nat):Prop:=
 (bt=true/\f=rawInt 0/\xs=(pickOrder (w.params.setOrder d ep) es).map (·.2))\/
 (bt=false/\(!t.plain&&decide (es.size > 1))=false/\Rsn t.place/\f=rawInt (if i=0 then 0 else((t.place.getD (i-1) 0+1:Nat):Int))/\xs=es.map (·.2))\/
 (bt=false/\∃(T:Addr) (pl:Array Nat),f=.ref T/\IsTup h T (pl.map fun(j:Nat)=>rawInt j)/\xs.size=pl.size/\∀(j p:Nat),pl[j]?=some p->∃x:Int×Value,es[p]?=some x/\xs[j]?=some x.2)
section
variable {prog:Program} {w:World} {A:Around} {E:Value->Shared->Prop} {s:Shared}
theorem Heap.IsSti.typeIs {a d:Addr} {f:Value} {i n ep:Nat} (x:s.heap.IsSti a d f i n ep):s.TypeIs (.ref a) "set_iterator":=let⟨o,ho,hc,_⟩:=x;⟨o,ho,hc⟩
theorem ic' {α:Type}:∀(l:List α) (i:Nat) (h:i<l.length),(l[i] :: l.eraseIdx i).Perm l
 |a :: l,0,h=>List.Perm.refl _
 |a :: l,i+1,h=>by
  rw[List.eraseIdx_cons_succ,List.getElem_cons_succ]
  exact(List.Perm.swap a _ _).trans ((ic' l i (by simpa using h)).cons a)
theorem ks' {α:Type} (f:Nat->Nat):∀(n k:Nat) (l:List α) (out:Array α),n=l.length->(pickOrder.go f n k l out).toList.Perm (out.toList++l)
 |0,k,l,out,e=>by
  have:l=[]:=List.length_eq_zero_iff.mp e.symm
  subst this
  unfold pickOrder.go
  simp
 |n+1,k,l,out,e=>by
  unfold pickOrder.go
  have hl:f k % l.length<l.length:=Nat.mod_lt _ (by omega)
  rw[ab hl]
  dsimp only
  refine(ks' f n (k+1) _ _ (by rw[List.length_eraseIdx_of_lt hl];omega)).trans ?_
  rw[cr,bm]
  refine List.Perm.append_left _ ?_
  rw[List.singleton_append]
  exact ic' l _ hl
theorem tc' {α:Type} (f:Nat->Nat) (xs:Array α):(pickOrder f xs).toList.Perm xs.toList:=by
 have:=ks' f xs.size 0 xs.toList #[] (by simp)
 simpa[pickOrder]using this
end
end PySem
namespace PySem
open PyProof.Rows
section
variable {prog:Program} {w:World} {A:Around} {E:Value->Shared->Prop} {s:Shared}
end
end PySem
namespace PySem
open PyProof.Rows
section
variable {prog:Program} {w:World}
variable {A:Around} {E:Value->Shared->Prop} {s:Shared}
end
end PySem
namespace L2
open PySem PySem.Spec PyProof.Rows
def eD' {α:Type} (own:List Nat) (wi:TI) (g:TG) (tc:TT) (aA':TL α) (a0:α) (ho:Addr->α->HO) (ok:α->Hp->Prop):TE:=fun σ H Q=>wi σ H fun J H1=>a3' own g tc aA' J σ a0 H1 fun xs H2=>ok xs H2/\∀p,H2 p=none->Q (.ref p) (upd H2 p (ho p xs))
structure CompInG {α:Type} (Is:α->Obj->Prop) (X:Cx) (e:Expr) (scope:Scope) (tg:Expr) (iter:Expr) (ifs:List Expr) (nx:Addr->Env->Sem Unit) (g:TG) (tc:TT) (aA':TL α) (own:List Nat):Prop where
 sc:CompSc X scope
 ow:∀i x,X.N[i]?=some x->(scope.names.lookup x=some .local\/scope.names.lookup x=some .cell)->i∈own
 cl:∃gs,clausesOf e=⟨tg,iter,ifs,0⟩ :: gs
 fs:∀x,foldedSetIterable iter X.env x=pure x
 calm:X.calm=true
 q:∀it D env,(Code.compLoop e 0 it (.ref D) env).quiet=true/\(Code.compStart e 0 it (.ref D) env).quiet=true
 u:∀A it D env,Around.under A (Code.compLoop e 0 it (.ref D) env)=A/\Around.under A (Code.compStart e 0 it (.ref D) env)=A
 T:∀P w it D env,(model P w).den (.compLoop e 0 it (.ref D) env)=(a1' e 0 tg iter ifs (nx D env) it (.ref D) env).onRaise (fun x=>do noteFrame x env;theTreesLotGoes x)
 S:∀P w it D env,(model P w).den (.compStart e 0 it (.ref D) env)=(compStart e 0 it (.ref D) env).onRaise (fun x=>do noteFrame x env;standAt theWindowsPlace)
 ge:rW' own g
 inn:∀s0 H0 ex D,PG (X.comp scope s0 H0 ex) tg g/\PTs (X.comp scope s0 H0 ex) ifs tc/\∃ws',(∀j∈ws',j∈own)/\cp' (X.comp scope s0 H0 ex) D Is ws' (nx D (X.comp scope s0 H0 ex).env) aA'
section
variable {X:Cx} {e:Expr} {scope:Scope} {tg iter:Expr} {ifs:List Expr} {nx:Addr->Env->Sem Unit} {g:TG} {tc:TT} {α:Type} {Is:α->Obj->Prop} {aA':TL α} {own:List Nat} {wi:TI} {a0:α} {o0:Bool->Obj} {newAcc:Sem Value} {ho:Addr->α->HO} {ok:α->Hp->Prop}
theorem gd' (hnew:∀(s:Shared) (Q:Value->Shared->Prop),(∀led,Q (.ref s.heap.objs.size) { s with heap:=s.heap.push (o0 led) })->wpAny (model X.prog X.w) X.A newAcc Q X.xe s) (hfr:∀led,(o0 led).isFreed=false) (ha0:∀led,Is a0 (o0 led)) (hda:∀(a:α) (o:Obj),Is a o->∀v:Option Value,o.data≠.cell v) (C:CompInG Is X e scope tg iter ifs nx g tc aA' own) (hi:PI X tg iter wi) {pins:List (Addr×Obj)} {s:Shared} {σ:St} {H:Hp} {R:V->Hp->Prop} (I:Inv X pins σ H s) (hw:eD' own wi g tc aA' a0 ho ok σ H R)
  {use:Option (Value->Sem Unit)} {Q:Value->Shared->Prop} {pos:Pos}
  (fin:∀(s3 s':Shared) (H0 H':Hp) (ex:List Addr) (D:Addr) (xs:α) (o:Obj) (σ':St),Inv X pins σ H0 s3->(∀b∈ex,du' X pins H0 b)->Inv (X.comp scope s3 H0 ex) [] σ' H' s'->s'.heap.get? D=some o->D<s3.heap.objs.size->X.s₀.heap.objs.size<=D->du' X pins H0 D->(D == sysModules)=false->Is xs o->H' D=none->ok xs H'->R (.ref D) (upd H' D (ho D xs))->
   compPost (model X.prog X.w) X.A X.xe use Q (.ref D) s3.heap.objs.size (.ok .next) s'):
  wpAny (model X.prog X.w) X.A (comprehension e scope X.env pos newAcc false (eval iter X.env) use) Q X.xe s:=by
 obtain⟨gs,hcl⟩:=C.cl
 refine wpAny_comprehension_free hcl C.fs (jS' fun n hn=>I.ok.has n (C.sc.free n hn)) C.sc.kind C.sc.names ?_
 refine thn (hi pins s σ H _ I hw) fun v s1 h1=>thn h1 fun itv s2 h2=>?_
 obtain⟨it,fp,tn,J,H2,rfl,I2,T,st2,f2,hc⟩:=h2
 refine hnew _ _ fun led=>dy' ?_
 have keep:∀b o,s2.heap.get? b=some o->(s2.heap.push (o0 led)).get? b=some o:=fun b o e=>aj _ e
 have I3:Inv X pins σ H2 { s2 with heap:=s2.heap.push (o0 led) }:=I2.kept (t':=s2.toks) keep
 have hsz:(s2.heap.push (o0 led)).objs.size=s2.heap.objs.size+1:=bO ..
 have fD:du' X pins H2 s2.heap.objs.size:=I2.fpOk (ai _) (I2.hok.fresh (ai _))
 have hlt:∀b∈fp,b<s2.heap.objs.size:=fun b hb=>by
  obtain⟨o,e,_⟩:=T.obj _ _ st2 b hb
  exact au e
 have hDf:s2.heap.objs.size∉fp:=fun z=>bb _ (hlt _ z)
 have hex:∀b∈s2.heap.objs.size :: fp,du' X pins H2 b:=fun b hb=>by
  rcases ak.mp hb with rfl|hb
  .exact fD
  .exact f2 b hb
 generalize hs3:({ s2 with heap:=s2.heap.push (o0 led) }:Shared)=s3 at *
 have hs3s:s3.heap.objs.size=s2.heap.objs.size+1:=by rw[<- hs3];exact hsz
 have hlt3:∀b∈s2.heap.objs.size :: fp,b<s3.heap.objs.size:=fun b hb=>by
  rw[hs3s]
  rcases ak.mp hb with rfl|hb
  .exact cB _
  .exact bS (hlt b hb)
 have J0:=e1' (own:=own) I3 hex hlt3 C.sc C.ow
 obtain⟨c1,c2,ws',c4,c5⟩:=C.inn s3 H2 (s2.heap.objs.size :: fp) s2.heap.objs.size
 have kp:∀b o,s2.heap.get? b=some o->(a6' s3.heap scope.names).get? b=some o:=fun b o e=>pushCells_keeps _ _ b o (aj _ (by rw[<- hs3];exact keep b o e))
 have oD:(a6' s3.heap scope.names).get? s2.heap.objs.size=some (o0 led):=pushCells_keeps _ _ _ _ (aj _ (by rw[<- hs3];exact aC _ (hfr led)))
 have stat:∀b∈s2.heap.objs.size :: fp,du' (X.comp scope s3 H2 (s2.heap.objs.size :: fp)) [] H2 b:=fun b hb=>
  ⟨(hex b hb).1,(J0.ok.exf b hb).1,J0.ok.exfs b hb,.inl hb,(J0.ok.exf b hb).2,fun p hp=>absurd (show p∈([]:List (Addr×Obj)) from hp) (by simp)⟩
 have T':Turn (X.comp scope s3 H2 (s2.heap.objs.size :: fp)).prog (X.comp scope s3 H2 (s2.heap.objs.size :: fp)).w (X.comp scope s3 H2 (s2.heap.objs.size :: fp)).K tg J fp it tn:=T
 have hc':a3' own g tc aA' J (clr own σ) a0 H2 (fun xs H2=>ok xs H2/\∀p,H2 p=none->R (.ref p) (upd H2 p (ho p xs))):=by
  obtain⟨W,w0,turn⟩:=hc
  refine⟨W,w0,?_⟩
  rw[h5']
  exact turn
 have st3:tn 0 ({ s3 with heap:=a6' s3.heap scope.names }:Shared).heap:=T.keep _ _ _ st2 fun b hb o e=>kp b o e
 have L:=ew' (X:=X.comp scope s3 H2 (s2.heap.objs.size :: fp)) (Is:=Is) (D:=s2.heap.objs.size) rfl C.calm (C.q _ _ _).1 (C.u _ _ _ _).1 (C.T _ _ _ _ _) T' c1 C.ge c2 c5 c4 hda hDf J0
  (fun b hb=>stat b (ay _ hb)) (stat _ aF) oD (ha0 led) st3 hc'
 have L2:=fo' (C.q _ _ _).2 (C.u _ _ _ _).2 (fun it'=>(C.q it' _ _).1) (C.S _ _ _ _ _) ⟨_,by rw[hcl];rfl,rfl⟩ L (fun E=>T.self _ 0 _ _ E st3 ⟨rfl,rfl⟩)
 refine codeAny_mono L2 fun r s' h=>?_
 obtain⟨rfl,xs,o',H',J',e',is',n',hN⟩:=h
 exact fin s3 s' H2 H' _ _ xs o' _ I3 hex J' e' (hlt3 _ aF) I2.sz fD (beq_eq_false_iff_ne.mpr (Nat.ne_of_gt I2.big)) is' n' hN.1 (hN.2 _ n')
end
section
variable {X:Cx} {e:Expr} {scope:Scope} {tg iter:Expr} {ifs:List Expr} {nx:Addr->Env->Sem Unit} {g:TG} {tc:TT} {α:Type} {Is:α->Obj->Prop} {aA':TL α} {own:List Nat} {wi:TI} {a0:α} {o0:Bool->Obj} {newAcc:Sem Value} {ho:Addr->α->HO} {ok:α->Hp->Prop}
theorem mX' (hnew:∀(s:Shared) (Q:Value->Shared->Prop),(∀led,Q (.ref s.heap.objs.size) { s with heap:=s.heap.push (o0 led) })->wpAny (model X.prog X.w) X.A newAcc Q X.xe s) (hfr:∀led,(o0 led).isFreed=false) (ha0:∀led,Is a0 (o0 led)) (hda:∀(a:α) (o:Obj),Is a o->∀v:Option Value,o.data≠.cell v)
  (hfin:∀(a:α) (o:Obj) (D:Addr) (H:Hp) (h:Heap),Is a o->h.get? D=some o->(D == sysModules)=false->H D=none->ok a H->HOk X.prog X.w H h->aD' X.prog X.w (upd H D (ho D a)) h D (ho D a)) (C:CompInG Is X e scope tg iter ifs nx g tc aA' own) (hi:PI X tg iter wi) {pos:Pos} (he:eval e X.env=comprehension e scope X.env pos newAcc false (eval iter X.env)):PE X e (eD' own wi g tc aA' a0 ho ok):=by
 intro pins s σ H Q I hw
 rw[he]
 refine gd' hnew hfr ha0 hda C hi I hw fun s3 s' H0 H' ex D xs o σ' I3 hex J e' hlt h0 fD sy is' n' hok' hR=>?_
 obtain⟨m,hn,_⟩:=J.loc
 refine⟨m,hn,fun h' hs=>?_⟩
 have J2:=ea' I3 hex J hs
 have neC:D≠s3.heap.objs.size:=aK hlt
 refine⟨.ref D,upd H' D (ho D xs),J2.track (o:=ho D xs) ⟨n',fD.2⟩ h0 (hfin xs o D H' _ is' ((hs.2 D neC).trans e') sy n' hok' J2.hok),rfl,hR⟩
theorem g8' (hnew:∀(s:Shared) (Q:Value->Shared->Prop),(∀led,Q (.ref s.heap.objs.size) { s with heap:=s.heap.push (o0 led) })->wpAny (model X.prog X.w) X.A newAcc Q X.xe s) (hfr:∀led,(o0 led).isFreed=false) (ha0:∀led,Is a0 (o0 led)) (hda:∀(a:α) (o:Obj),Is a o->∀v:Option Value,o.data≠.cell v)
  (hfin:∀(a:α) (o:Obj) (D:Addr) (H:Hp) (h:Heap),Is a o->h.get? D=some o->(D == sysModules)=false->H D=none->ok a H->HOk X.prog X.w H h->aD' X.prog X.w (upd H D (ho D a)) h D (ho D a)) (C:CompInG Is X e scope tg iter ifs nx g tc aA' own) (hi:PI X tg iter wi) {i:Nat} {y:Str} {py pos pos2:Pos} (hN:X.N.Nodup) (hy:X.N[i]?=some y) (hx:Loc X.env.scope y) (hf:X.fn y=true\/X.env.scope.names.lookup y=some .local)
  (he:evalThenUse e X.env (assign (.Name y py) X.env)=(do let _ <- comprehension e scope X.env pos2 newAcc false (eval iter X.env) (some (assign (.Name y py) X.env))))
  (hsw:swapsWith e (some (.Name y py)) pos.line X.env=pure true):PS X (.Assign [.Name y py] e pos) (jj' (eD' own wi g tc aA' a0 ho ok) (dv' i)):=by
 intro pins s σ H D I hw
 rw[exec_Assign_Name_used _ _ _ _ hsw]
 refine af (bF (af ?_))
 rw[he]
 refine af (thn (Q:=fun _ s'=>SP X pins D .next s') (gd' hnew hfr ha0 hda C hi I hw fun s3 s' H0 H' ex D' xs o σ' I3 hex J e' hlt h0 fD sy is' n' hok' hR=>?_) fun _ s' q=>aG (aG q))
 obtain⟨m,hn,_⟩:=J.loc
 have J2:Inv X pins σ H' s':=ea' I3 hex J (Heap.SameBut.refl ..)
 have neC:D'≠s3.heap.objs.size:=aK hlt
 have J3:Inv X pins σ (upd H' D' (ho D' xs)) s':=J2.track ⟨n',fD.2⟩ h0 (hfin xs o D' H' _ is' e' sy n' hok' J2.hok)
 have fC:du' X pins H0 s3.heap.objs.size:=I3.fpOk (ai _) (I3.hok.fresh (ai _))
 refine wpAny_assign_Name (ej' J3 hN hy hx (v:=.ref D') rfl (fun s'' J4 hs=>?_) hf)
 obtain⟨a,hsa,ha⟩:=hs
 have haC:s3.heap.objs.size≠a:=by
  rcases ha with rfl|ha
  .exact fC.2.1
  .exact fun q=>fC.2.2.2.2.1 _ _ ha q.symm
 have hn':s'.heap.Ns s3.heap.objs.size m:=hn
 refine⟨m,hn'.sameBut hsa haC,fun h' hs'=>?_⟩
 have J5:Inv X pins (σ.set i (some (.ref D'))) (upd H' D' (ho D' xs)) { s'' with heap:=h' }:=J4.turned (it:=s3.heap.objs.size) (t':=s''.toks) (fun b ob hb q=>(hs'.2 b hb).trans q) (by rw[af' (Ne.symm neC)];exact J.free) fC.2.1 fC.2.2.2.1 fC.2.2.2.2.1 fC.2.2.2.2.2
 exact⟨_,_,J5,hR⟩
end
def kO:Option Int->V
 |some i=>.int i
 |none=>.non
theorem iV' {P:Program} {w:World} {k:Option Int} {u:Value} (r:aG' (kO k) u):(iU' P w).is k u=true/\u.scannable=true:=by
 cases k with
 |none=>cases r;exact⟨rfl,rfl⟩
 |some i=>
  obtain⟨t,rfl⟩:=r
  exact⟨by show Value.isInt i (.int i t)=true;simp[Value.isInt],rfl⟩
def IsS (a:(Option Int->Bool)×Nat) (o:Obj):Prop:=a.2<=4000/\(∃es ep t,o.data=.set es ep t)/\∃m,m<=a.2/\∀(P:Program) (w:World),o.SetObjOf (iU' P w) a.1 m
theorem oI' {P:Program} {w:World} {S:Option Int->Bool} {n m:Nat} {o:Obj} (h:o.SetObjOf (iU' P w) S m) (hm:m<=n) (hn:n<=4000):IsS (S,n) o:=⟨hn,⟨_,_,_,h.2.choose_spec.choose_spec.choose_spec.1⟩,m,hm,fun P' w'=>h.transport (knd':=iU' P' w') rfl rfl⟩
theorem fw' (a:(Option Int->Bool)×Nat) (o:Obj) (h:IsS a o) (v:Option Value):o.data≠.cell v:=by
 obtain⟨_,⟨es,ep,t,hd⟩,_⟩:=h
 rw[hd]
 exact fun z=>nomatch z
def e5' (D:Addr) (S:Option Int->Bool) (n:Nat):HO:=.ext fun h=>∃o,h.get? D=some o/\IsS (S,n) o
theorem kt' {P:Program} {w:World} {H:Hp} {h:Heap} {D:Addr} {S:Option Int->Bool} {n:Nat} {o:Obj} (e:h.get? D=some o) (i:IsS (S,n) o):aD' P w H h D (e5' D S n):=
 ⟨⟨o,e,i⟩,⟨o,e⟩,fun h1 h2 ⟨o',e',i'⟩ k=>⟨o',k o' e',i'⟩⟩
section
variable {X:Cx}
theorem ku' {s:Shared} {D:Addr} {a:(Option Int->Bool)×Nat} {o:Obj} (e:s.heap.get? D=some o) (i:IsS a o):∃m,m<=a.2/\s.heap.SetOf (iU' X.prog X.w) D a.1 m:=by
 obtain⟨hn,_,m,hm,h⟩:=i
 exact⟨m,hm,(h X.prog X.w).setOf e (bD (aI hm hn) (by decide))⟩
def v7' (neg:Bool):R2:=fun x y H Q=>∃k D S n,x=kO k/\y=.ref D/\H D=some (e5' D S n)/\Q (.bl (if neg then !(S k)else S k)) H
theorem td':OpR X (compareOp .In) (v7' false):=by
 intro pins s σ H x y v u Q I rx ry h
 obtain⟨k,D,S,n,rfl,rfl,hD,q⟩:=h
 cases ry
 obtain⟨o,e,i⟩:=(show aD' X.prog X.w H s.heap D (e5' D S n) from I.hok D _ hD).1
 obtain⟨m,_,hS⟩:=ku' (X:=X) e i
 exact wpAny_inSet_of (iV' rx).1 (iV' (P:=X.prog) (w:=X.w) rx).2 hS ⟨.bl (S k),H,I.tok _,rfl,q⟩
theorem kv':OpR X (compareOp .NotIn) (v7' true):=by
 intro pins s σ H x y v u Q I rx ry h
 obtain⟨k,D,S,n,rfl,rfl,hD,q⟩:=h
 cases ry
 obtain⟨o,e,i⟩:=(show aD' X.prog X.w H s.heap D (e5' D S n) from I.hok D _ hD).1
 obtain⟨m,_,hS⟩:=ku' (X:=X) e i
 exact wpAny_notInSet_of (iV' rx).1 (iV' (P:=X.prog) (w:=X.w) rx).2 hS ⟨.bl (!S k),H,I.tok _,rfl,q⟩
def inL (ns:List Int):Option Int->Bool
 |some i=>ns.contains i
 |none=>false
def oJ' (K:W.Frag):List V->Hp->VK->Prop:=fun xs H Q=>∃a ns,xs=[.ref a]/\SqL K H a (ns.map V.int)/\ns.length<=3999/\∀p,H p=none->Q (.ref p) (upd H p (e5' p (inL ns) ns.length))
theorem kw' (hc:X.calm=true):aX' X (.type "set") (oJ' X.K):=by
 intro pins s σ H xs us Q I rv h
 obtain⟨a,ns,rfl,hs,hl,q⟩:=h
 cases rv with
 |cons r1 rv=>
  cases rv
  cases r1
  obtain⟨its,r,pl,hz⟩:=I.list hs
  have hlen:=r.length
  rw[aa]at hlen
  refine call_set_list (I.ok.hd hc) pl.isList (dT' r) (by rw[ag,<- hlen];exact bD (Nat.succ_le_succ hl) (by decide)) fun h' tk hS hk=>?_
  have hn:H s.heap.objs.size=none:=I.hok.fresh (ai _)
  obtain⟨o,ho,hso⟩:=hS.objOf
  have fl:=firstMet_length_le (fun i=>ns.getD i 0) its.toArray.size
  have key:o.SetObjOf (iU' X.prog X.w) (inL ns) (firstMet (fun i=>ns.getD i 0) its.toArray.size).length:=by
   obtain⟨hex,es,ep,t,hd,hel,hmem,hsz,hf⟩:=hso
   refine⟨hex,es,ep,t,hd,fun e he=>?_,fun k=>?_,hsz,hf⟩
   .obtain⟨⟨j,hj,hh⟩,hsc⟩:=hel e he
    exact⟨⟨some j,hj,hh⟩,hsc⟩
   .cases k with
    |none=>
     constructor
     .intro z;cases z
     .rintro⟨e,he,hi⟩
      obtain⟨⟨j,hj,hh⟩,hsc⟩:=hel e he
      obtain⟨t',et⟩:=Value.isInt_shape hj
      rw[et]at hi
      cases hi
    |some i=>
     have:=hmem i
     dsimp only at this
     rw[firstMet_any]at this
     refine Iff.trans ?_ this
     show ns.contains i=true↔_
     have en:(aA its.toArray.size).map (fun i=>ns.getD i 0)=ns:=by
      rw[ag,<- hlen]
      apply bx
      intro j
      rw[ap]
      by_cases hj:j<ns.length
      .rw[bz hj]
       simp[List.getD,hj]
      .rw[aO.mpr (by simpa using hj),aO.mpr (by omega)]
       rfl
     rw[en,List.contains_eq_any_beq]
     constructor
     .intro z
      rw[bK]at z ⊢
      obtain⟨x,hx,e⟩:=z
      exact⟨x,hx,by rw[beq_iff_eq]at e ⊢;exact e.symm⟩
     .intro z
      rw[bK]at z ⊢
      obtain⟨x,hx,e⟩:=z
      exact⟨x,hx,by rw[beq_iff_eq]at e ⊢;exact e.symm⟩
  refine⟨.ref s.heap.objs.size,_,I.laid (t':=tk) (fun b o hb=>hk b o (au hb) hb) (ai _) (o:=e5' s.heap.objs.size (inL ns) ns.length) (kt' ho (oI' key (aI fl (by rw[ag,hlen];exact ai _)) (by omega))),rfl,q _ hn⟩
def ge' (te:TE):TL ((Option Int->Bool)×Nat):=fun σ a H N=>te σ H fun v H'=>∃k,v=kO k/\a.2<4000/\N (fun j=>a.1 j || decide (j=k),a.2+1) H'
theorem kx' {D:Addr} {elt:Expr} {te:TE} (hxe:X.xe=fun _ _=>False) (he:PE X elt te):cp' X D IsS [] (do let v <- eval elt X.env;standAt elt.pos;let _ <- call (.builtin "set.add") [.ref D,v]) (ge' te):=by
 intro pins s σ H a o N I hD ho hi hq
 have I1:Inv X (pins++bZ' [D] s.heap) σ H s:=I.pinned (fun b hb=>by
  have e:b=D:=by simpa using hb
  subst e
  exact hD) (fun b hb=>by
  have e:b=D:=by simpa using hb
  subst e
  exact⟨o,ho,fw' _ _ hi⟩)
 have h1:=he _ s σ H _ I1 hq
 rw[hxe]at h1
 refine af (thn h1 fun u s1 ⟨v,H1,J1,r1,k,ek,z1,n1⟩=>?_)
 subst ek
 have q1:=J1.pin (D,o) (ah _ (ah _ (aK' (by simp) ho)))
 obtain⟨m,hm,hS⟩:=ku' (X:=X) q1.1 hi
 refine af (bF (af (call_set_add (iV' r1).1 (iV' (P:=X.prog) (w:=X.w) r1).2 hS (bD (Nat.succ_le_of_lt (bD hm z1)) (by decide)) fun h' hs hS'=>?_)))
 obtain⟨_,f1,f2,f3,f4,f5⟩:=hD
 obtain⟨o',ho',hso⟩:=hS'.objOf
 have J2:Inv X pins σ H1 { s1 with heap:=h',toks:=s1.toks+1 }:=J1.unpinned.turned (it:=D) (t':=s1.toks+1) (fun b o hb e=>(hs.2 b hb).trans e) q1.2.1 f1 f3 f4 f5
 exact aG ⟨σ,_,o',H1,J2,Ext.refl,ho',oI' hso (by split<;>omega) (by omega),q1.2.1,n1⟩
theorem qi' {A:Around} {E:Value->Shared->Prop} (s:Shared) (Q:Value->Shared->Prop) (h:∀led,Q (.ref s.heap.objs.size) { s with heap:=s.heap.push { cls:=.type "set",dict:=none,data:=.set #[] 0 (.fresh 0 0 led) } }):wpAny (model X.prog X.w) A (newSet (.type "set")) Q E s:=by
 unfold newSet setsByText
 refine af (af (wpAny_askSetting (aG ?_)))
 exact br (h _)
theorem mY' (led:Bool):IsS (fun _=>false,0) { cls:=.type "set",dict:=none,data:=.set #[] 0 (.fresh 0 0 led) }:=⟨aE _,⟨_,_,_,rfl⟩,0,ai _,fun _ _=>setObjOf_fresh led⟩
end
abbrev NH:Int:=0xFCA86420
section
variable {prog:Program} {w:World} {A:Around} {E:Value->Shared->Prop} {s:Shared}
theorem ky' {d:Addr} {o:Obj} {es:Array DictEntry} {ep:Nat} {Q:Option Nat->Shared->Prop} (ho:s.heap.get? d=some o) (hd:o.data=.dict es ep) (hno:∀e∈es.toList,e.hash≠NH) (h:Q none s):
  wpAny (model prog w) A (dictFind d .none NH) Q E s:=by
 have hp:placesWithHash es.size (fun i=>es[i]?.map (·.hash)) NH=[]:=by
  unfold placesWithHash
  rw[List.filter_eq_nil_iff]
  intro i hi hc
  dsimp only at hc
  cases he:es[i]? with
  |none=>rw[he]at hc;cases hc
  |some e=>
   rw[he]at hc
   have hm:e∈es.toList:=cu.mpr (Array.mem_of_getElem? he)
   exact hno e hm (by simpa using hc)
 unfold dictFind
 try with_reducible refine bo ?_
 refine af (wpAny_dictEntries ho hd ?_)
 dsimp only
 rw[hp]
 rw[if_pos (show((Value.none :: ([]:List Nat).filterMap (fun i=>es[i]?.map (·.key))).all carriedByValue)=true by rfl)]
 unfold dictWalkPlain
 simp only[List.forIn_nil,pure_bind,bind_pure]
 exact aG h
theorem eR' {d:Addr} (hd:(d == sysModules)=false):
  MeetsIn prog w (Builtin.«dict.get» ⟨[.ref d,.none],[]⟩) (fun _ R s=>∃o es ep,s.heap.get? d=some o/\o.data=.dict es ep/\(∀e∈es.toList,e.hash≠NH)/\R (.ok (.ret .none)) { s with toks:=s.toks+1 }):=
 .of_wp fun A R s ⟨o,es,ep,h1,h2,h3,h⟩=>by
  show wpAny _ _ (dictGet d .none >>= _) _ _ s
  refine af ?_
  unfold dictGet
  try with_reducible refine bo ?_
  refine af (ei' (af (ky' (s:={ s with toks:=s.toks+1 }) h1 h2 h3 (aG ?_))))
  show wpAny _ _ (Builtin.Dict.missed d .none >>= _) _ _ _
  exact af (wpAny_missed_other hd (aG ⟨.none,rfl,h⟩))
end
theorem gf' {P:Program} {w:World} {k:Key}:∀{es:List DictEntry} {vs:List (Key×Value)} {en:DictEntry},Pairs (av' P w) es vs->en∈es->(av' P w).is k en.key=true->k∈vs.map (·.1)
 |_,_,_,.nil,h,_=>by cases h
 |_,_,en,.cons (e:=e) (kv:=kv) h1 h2 r,h,hk=>by
  rcases ak.mp h with rfl|h
  .rw[(av' P w).inj _ _ _ hk h1]
   exact aF
  .exact ay _ (gf' r h hk)
theorem b2' {α β:Type} {F:α->β->Prop}:∀{xs:List α} {ys:List β} {y:β},Paired F xs ys->y∈ys->∃x∈xs,F x y
 |_,_,_,.nil,h=>by cases h
 |_,_,y,.cons h1 r,h=>by
  rcases ak.mp h with rfl|h
  .exact⟨_,aF,h1⟩
  .obtain⟨x,hx,hf⟩:=b2' r h
   exact⟨x,ay _ hx,hf⟩
def NoN (H:Hp) (a:Addr):Prop:=(∃kvs,H a=some (.dK kvs)/\∀kv∈kvs,∃i:Int,kv.1=.inl i/\hashInt i≠NH)\/
 ∃kvs,H a=some (.dT kvs)/\∀kv∈kvs,∃is:List Int,kv.1=is.map Key.inl/\reduceHash (Builtin.Tuple.tupleHashOf (is.map hashInt))≠NH
theorem NoN.at {X:Cx} {pins:List (Addr×Obj)} {σ:St} {H:Hp} {s:Shared} {a:Addr} (I:Inv X pins σ H s) (h:NoN H a):(a == sysModules)=false/\s.TypeIs (.ref a) "dict"/\∃o es ep,s.heap.get? a=some o/\o.data=.dict es ep/\∀e∈es.toList,e.hash≠NH:=by
 rcases h with⟨kvs,e,hk⟩|⟨kvs,e,hk⟩
 .obtain⟨z,hd,vs,rel,dd⟩:=wO' I.hok e
  refine⟨hd,dd.typeIs,?_⟩
  obtain⟨o,es,ep,h1,_,h3,h4,h5,_⟩:=dd
  refine⟨o,es,ep,h1,h3,fun en hen=>?_⟩
  obtain⟨k,hk1,hk2⟩:=h4 en (cu.mp hen)
  have hin:k∈kvs.map (·.1):=by
   rw[rel.keys]
   exact gf' h5 hen hk1
  obtain⟨kv,hkv,rfl⟩:=bg.mp hin
  obtain⟨i,ei,hi⟩:=hk kv hkv
  rw[hk2,ei]
  exact hi
 .obtain⟨z,hd,xs,rel,dd⟩:=wP' I.hok e
  refine⟨hd,dd.typeIs,?_⟩
  obtain⟨o,es,ep,h1,_,h3,h4,_⟩:=dd
  refine⟨o,es,ep,h1,h3,fun en hen=>?_⟩
  rw[h4]at hen
  obtain⟨x,hx,rfl⟩:=bg.mp hen
  obtain⟨kv,hkv,hp⟩:=b2' rel hx
  obtain⟨is,ei,hi⟩:=hk kv hkv
  show(tupleKind (av' X.prog X.w)).hash x.1≠NH
  rw[<- hp.1,ei]
  show reduceHash (Builtin.Tuple.tupleHashOf ((is.map Key.inl).map (av' X.prog X.w).hash))≠NH
  rw[bW]
  exact hi
theorem te' {X:Cx} {pins:List (Addr×Obj)} {σ:St} {H:Hp} {s:Shared} {a:Addr} {A:Around} {E:Value->Shared->Prop} {Q:Value->Shared->Prop} (I:Inv X pins σ H s) (g:NoN H a) (h:∀s',Inv X pins σ H s'->Q .none s'):
  wpAny (model X.prog X.w) A (call (.builtin "dict.get") [.ref a,.none]) Q E s:=by
 obtain⟨hd,ht,o,es,ep,h1,h2,h3⟩:=g.at I
 exact call_meetsIn PySem.F.slot_dict_get ht PySem.F.entry_dict_get (PySem.F.args_dict_get_2 _ _) (eR' hd) ⟨o,es,ep,h1,h2,h3,h _ (I.tok _)⟩
def tf' (P:Program) (w:World) (kvs:List (Key×V)) (o:Obj):Prop:=kvs.length<=sizeLine/\∃vs es ep,KV kvs vs/\o.ExactDict/\o.data=.dict es ep/\KeysOf (av' P w) es/\Pairs (av' P w) es.toList vs/\(vs.map (·.1)).Nodup
theorem gg' {P:Program} {w:World} (a:List (Key×V)) (o:Obj) (h:tf' P w a o) (v:Option Value):o.data≠.cell v:=by
 obtain⟨_,_,es,ep,_,_,hd,_⟩:=h
 rw[hd]
 exact fun z=>nomatch z
theorem id' {X:Cx} {A:Around} {E:Value->Shared->Prop} (s:Shared) (Q:Value->Shared->Prop) (h:∀_led:Bool,Q (.ref s.heap.objs.size) { s with heap:=s.heap.push { cls:=.type "dict",dict:=none,data:=.dict #[] } }):wpAny (model X.prog X.w) A newDict Q E s:=br (h true)
theorem kz' {P:Program} {w:World} (_led:Bool):tf' P w [] { cls:=.type "dict",dict:=none,data:=.dict #[] }:=
 ⟨aE _,[],#[],0,.nil,⟨rfl,rfl,rfl⟩,rfl,fun e he=>by simp at he,.nil,cz⟩
theorem th' {P:Program} {w:World} (a:List (Key×V)) (o:Obj) (D:Addr) (H:Hp) (h:Heap) (i:tf' P w a o) (e:h.get? D=some o) (sy:(D == sysModules)=false) (_:H D=none) (_:True) (_:HOk P w H h):aD' P w (upd H D (.dK a)) h D (.dK a):=by
 obtain⟨z,vs,es,ep,h1,h2,h3,h4,h5,h6⟩:=i
 exact⟨z,sy,vs,h1,o,es,ep,e,h2,h3,h4,h5,h6⟩
section
variable {X:Cx}
def ie' (tk tv:TE):TL (List (Key×V)):=fun σ a H N=>tk σ H fun y H1=>tv σ H1 fun v H2=>∃k,y=kV k/\a.length<sizeLine/\N (g5' a k v) H2
theorem kA' {D:Addr} {ke ve:Expr} {tk tv:TE} (hxe:X.xe=fun _ _=>False) (hk:PE X ke tk) (hv:PE X ve tv):cp' X D (tf' X.prog X.w) [] (do
   let kv <- eval ke X.env
   let vv <- holding [kv] (eval ve X.env)
   match Value.ref D with
   | .ref d=>do
    standAt { ke.pos with endLine:=ve.pos.endLine,endCol:=ve.pos.endCol }
    holding [kv,vv] (dictSet d kv vv)
   |_=>unsupported "internal:dictcomp") (ie' tk tv):=by
 intro pins s σ H a o N I hD ho hi hq
 have pinD:∀{s1:Shared} {pins1:List (Addr×Obj)} {H1:Hp},Inv X pins1 σ H1 s1->du' X pins1 H1 D->s1.heap.get? D=some o->Inv X (pins1++bZ' [D] s1.heap) σ H1 s1:=fun J f e=>J.pinned (fun b hb=>by
  have z:b=D:=by simpa using hb
  subst z
  exact f) (fun b hb=>by
  have z:b=D:=by simpa using hb
  subst z
  exact⟨o,e,gg' _ _ hi⟩)
 have h1:=hk _ s σ H _ (pinD I hD ho) hq
 rw[hxe]at h1
 refine af (thn h1 fun u s1 ⟨y,H1,J1,r1,hq1⟩=>?_)
 have q1:=J1.pin (D,o) (ah _ (ah _ (aK' (by simp) ho)))
 have h2:=hv _ s1 σ H1 _ J1 hq1
 rw[hxe]at h2
 refine af (bo (thn h2 fun u2 s2 ⟨v,H2,J2,r2,k,ek,z2,n2⟩=>?_))
 subst ek
 have q2:=J2.pin (D,o) (ah _ (ah _ (aK' (by simp) ho)))
 obtain⟨z,vs,es,ep,g1,g2,g3,g4,g5,g6⟩:=hi
 have dd:s2.heap.DictOf (av' X.prog X.w) D vs:=⟨o,es,ep,q2.1,g2,g3,g4,g5,g6⟩
 refine af (bF (bo (wpAny_dictSet_pairs (hsz:=by rw[<- g1.length];exact z) (j7' r1) dd fun h' dd' hs=>?_)))
 obtain⟨_,f1,f2,f3,f4,f5⟩:=hD
 obtain⟨o',es',ep',d1,d2,d3,d4,d5,d6⟩:=dd'
 have J3:Inv X pins σ H2 { s2 with heap:=h',toks:=s2.toks+1 }:=J2.unpinned.turned (it:=D) (t':=s2.toks+1) (fun b o hb e=>(hs.2 b hb).trans e) q2.2.1 f1 f3 f4 f5
 exact⟨σ,_,o',H2,J3,Ext.refl,d1,⟨aI (eB' a k v) z2,_,es',ep',g1.put k r2,d2,d3,d4,d5,d6⟩,q2.2.1,n2⟩
end
abbrev KTL:=List (List Key×Addr×V)
def ti' (P:Program) (w:World) (a:KTL) (o:Obj):Prop:=a.length<=sizeLine/\∃(xs:List (List Key×Addr×Value)) (es:Array DictEntry) (ep:Nat),Paired (fun(p:List Key×Addr×V) (q:List Key×Addr×Value)=>p.1=q.1/\p.2.1=q.2.1/\aG' p.2.2 q.2.2) a xs/\o.ExactDict/\o.data=.dict es ep/\es.toList=xs.map (entryOfKey (tupleKind (av' P w)))/\(xs.map (·.1)).Nodup
theorem gh' {P:Program} {w:World} (a:KTL) (o:Obj) (h:ti' P w a o) (v:Option Value):o.data≠.cell v:=by
 obtain⟨_,_,es,ep,_,_,hd,_⟩:=h
 rw[hd]
 exact fun z=>nomatch z
theorem kB' {P:Program} {w:World} (_led:Bool):ti' P w [] { cls:=.type "dict",dict:=none,data:=.dict #[] }:=
 ⟨aE _,[],#[],0,.nil,⟨rfl,rfl,rfl⟩,rfl,rfl,cz⟩
def okT (a:KTL) (H:Hp):Prop:=∀x∈a,H x.2.1=some (.tup (x.1.map kV))
def plT (a:KTL):List (List Key×V):=a.map fun x=>(x.1,x.2.2)
theorem e6' {H:Hp}:∀{a:KTL} {xs:List (List Key×Addr×Value)},Paired (fun(p:List Key×Addr×V) (q:List Key×Addr×Value)=>p.1=q.1/\p.2.1=q.2.1/\aG' p.2.2 q.2.2) a xs->okT a H->Paired (fun(p:List Key×V) (q:List Key×Addr×Value)=>p.1=q.1/\H q.2.1=some (.tup (p.1.map kV))/\aG' p.2 q.2.2) (plT a) xs
 |_,_,.nil,_=>.nil
 |_,_,.cons h r,ok=>.cons ⟨h.1,by rw[<- h.2.1];exact ok _ aF,h.2.2⟩ (e6' r fun x hx=>ok x (ay _ hx))
theorem tj' {P:Program} {w:World} (a:KTL) (o:Obj) (D:Addr) (H:Hp) (h:Heap) (i:ti' P w a o) (e:h.get? D=some o) (sy:(D == sysModules)=false) (hD:H D=none) (ok:okT a H) (_:HOk P w H h):aD' P w (upd H D (.dT (plT a))) h D (.dT (plT a)):=by
 obtain⟨z,xs,es,ep,h1,h2,h3,h4,h5⟩:=i
 refine⟨by unfold plT;rw[aa];exact z,sy,xs,e6' h1 fun x hx=>?_,o,es,ep,e,h2,h3,h4,h5⟩
 rw[af' (ag' (ok x hx) hD)]
 exact ok x hx
section
variable {X:Cx}
def if' (tk tv:TE):TL KTL:=fun σ a H N=>tk σ H fun y H1=>tv σ H1 fun v H2=>∃(k:List Key) (b:Addr),y=.ref b/\H2 b=some (.tup (k.map kV))/\okT a H2/\(∀x∈a,x.1≠k)/\a.length<sizeLine/\N (a++[(k,b,v)]) H2
theorem kC' {D:Addr} {ke ve:Expr} {tk tv:TE} (hu:X.A.units+1<cLine) (hxe:X.xe=fun _ _=>False) (hk:PE X ke tk) (hv:PE X ve tv):cp' X D (ti' X.prog X.w) [] (do
   let kv <- eval ke X.env
   let vv <- holding [kv] (eval ve X.env)
   match Value.ref D with
   | .ref d=>do
    standAt { ke.pos with endLine:=ve.pos.endLine,endCol:=ve.pos.endCol }
    holding [kv,vv] (dictSet d kv vv)
   |_=>unsupported "internal:dictcomp") (if' tk tv):=by
 intro pins s σ H a o N I hD ho hi hq
 have pinD:∀{s1:Shared} {pins1:List (Addr×Obj)} {H1:Hp},Inv X pins1 σ H1 s1->du' X pins1 H1 D->s1.heap.get? D=some o->Inv X (pins1++bZ' [D] s1.heap) σ H1 s1:=fun J f e=>J.pinned (fun b hb=>by
  have z:b=D:=by simpa using hb
  subst z
  exact f) (fun b hb=>by
  have z:b=D:=by simpa using hb
  subst z
  exact⟨o,e,gh' _ _ hi⟩)
 have h1:=hk _ s σ H _ (pinD I hD ho) hq
 rw[hxe]at h1
 refine af (thn h1 fun u s1 ⟨y,H1,J1,r1,hq1⟩=>?_)
 have h2:=hv _ s1 σ H1 _ J1 hq1
 rw[hxe]at h2
 refine af (bo (thn h2 fun u2 s2 ⟨v,H2,J2,r2,k,b,ek,eb,ok,nw,z2,n2⟩=>?_))
 subst ek
 cases(show u=Value.ref b from r1)
 have q2:=J2.pin (D,o) (ah _ (ah _ (aK' (by simp) ho)))
 obtain⟨z,xs,es,ep,g1,g2,g3,g4,g5⟩:=hi
 have hxl:=Paired.length g1
 have dd:s2.heap.DictOfH (tupleKind (av' X.prog X.w)) D xs:=⟨o,es,ep,q2.1,g2,g3,g4,fun x hx=>by
  obtain⟨p,hp,e1,e2,_⟩:=b2' g1 hx
  rw[<- e1,<- e2]
  exact e3' J2.hok (ok p hp),g5⟩
 refine af (bF (bo (wpAny_dictSet_heap (hsz:=by rw[<- hxl];exact z) (show X.A.units<cLine from Nat.lt_of_succ_lt hu) (e3' J2.hok eb) dd fun h' dd' hs=>?_)))
 obtain⟨_,f1,f2,f3,f4,f5⟩:=hD
 have hnew:∀x∈xs,x.1≠k:=fun x hx e=>by
  obtain⟨p,hp,e1,_⟩:=b2' g1 hx
  exact nw p hp (e1.trans e)
 rw[storedH_new (by unfold atKey;rw[List.find?_eq_none.mpr (fun x hx=>by simpa using hnew x hx)];rfl)]at dd'
 obtain⟨o',es',ep',d1,d2,d3,d4,d5,d6⟩:=dd'
 have J3:Inv X pins σ H2 { s2 with heap:=h',toks:=s2.toks+(tupleKind (av' X.prog X.w)).draws k }:=J2.unpinned.turned (it:=D) (t':=s2.toks+(tupleKind (av' X.prog X.w)).draws k) (fun b o hb e=>(hs.2 b hb).trans e) q2.2.1 f1 f3 f4 f5
 exact⟨σ,_,o',H2,J3,Ext.refl,d1,⟨by rw[al];exact z2,_,es',ep',Paired.snoc g1 ⟨rfl,rfl,r2⟩,d2,d3,d4,d6⟩,q2.2.1,n2⟩
end
def wY' (neg:Bool) (ty td:TE):TE:=fun σ H Q=>ty σ H fun y H1=>td σ H1 fun x H2=>(∃a o,x=.ref a/\gS' H2 a y o/\Q (.bl (if neg then !o.isSome else o.isSome)) H2)\/v7' neg y x H2 Q
def kD' (td ty:TE):TE:=fun σ H Q=>td σ H fun x H1=>∃a,x=.ref a/\IsD H1 a/\ty σ H1 fun y H2=>(∃o,gS' H2 a y o/\Q (o.getD .non) H2)\/(y=.non/\NoN H2 a/\Q .non H2)
section
variable {X:Cx} {o e f i:Expr} {apos cpos:Pos} {td ty tx:TE}
theorem oK' (hu:X.A.units+1<cLine) (hi:PE X i ty) (ho:PE X o td):PC X .In i o (wY' false ty td):=by
 intro pins s σ H Q I h
 refine thn (hi pins s σ H _ I h) fun iv s1 ⟨y,H1,I1,ry,q1⟩=>thn (ho pins s1 σ H1 _ I1 q1) fun u s2 ⟨x,H2,I2,rx,q2⟩=>?_
 rcases q2 with⟨a,ov,ex,g,q2⟩|q2
 .subst ex
  obtain rfl:u=Value.ref a:=rx
  exact y9' hu I2 g ry fun s3 I3=>⟨.bl ov.isSome,H2,I3,rfl,q2⟩
 .exact td' pins s2 σ H2 y x iv u Q I2 ry rx q2
theorem gi' (hu:X.A.units+1<cLine) (hi:PE X i ty) (ho:PE X o td):PC X .NotIn i o (wY' true ty td):=by
 intro pins s σ H Q I h
 refine thn (hi pins s σ H _ I h) fun iv s1 ⟨y,H1,I1,ry,q1⟩=>thn (ho pins s1 σ H1 _ I1 q1) fun u s2 ⟨x,H2,I2,rx,q2⟩=>?_
 rcases q2 with⟨a,ov,ex,g,q2⟩|q2
 .subst ex
  obtain rfl:u=Value.ref a:=rx
  exact p7' hu I2 g ry fun s3 I3=>⟨.bl (!ov.isSome),H2,I3,rfl,q2⟩
 .exact kv' pins s2 σ H2 y x iv u Q I2 ry rx q2
theorem mZ' (hu:X.A.units+1<cLine) (ho:PE X o td) (he:PE X e ty) (m:M1 X o "get" apos e cpos):PE X (.Call (.Attribute o "get" apos) [e] [] cpos) (kD' td ty):=by
 intro pins s σ H Q I h
 refine wpAny_Call_method m.base m.few m.line PySem.F.plainAttrs_dict PySem.F.slot_dict_get PySem.F.type_dict_get (thn (ho pins s σ H _ I h) fun u s1 ⟨x,H1,I1,rx,a,ex,d,q1⟩=>?_)
 subst ex
 obtain rfl:u=Value.ref a:=rx
 obtain⟨t1,t2,_⟩:=sV' I1 d
 refine⟨t1,t2,?_⟩
 rw[m.trees]
 refine Calls.callWith_builtin rfl (Calls.evalArgs_plain (Calls.spliced_cons (thn (he pins s1 σ H1 _ I1 q1) fun iv s2 ⟨y,H2,I2,ry,q2⟩=>Calls.spliced_nil ?_)))
 rcases q2 with⟨ov,g,q2⟩|⟨ey,g,q2⟩
 .exact sW' hu I2 g ry fun w' s3 I3 rw'=>⟨_,H2,I3,rw',q2⟩
 .subst ey
  obtain rfl:iv=Value.none:=ry
  exact te' I2 g fun s3 I3=>⟨.non,H2,I3,rfl,q2⟩
end
abbrev tl' (own:List Nat) (wi:TI) (g:TG) (tc:TT) (aA':TL ((Option Int->Bool)×Nat)):TE:=eD' own wi g tc aA' (fun _=>false,0) (fun p a=>e5' p a.1 a.2) fun _ _=>True
abbrev tm' (own:List Nat) (wi:TI) (g:TG) (tc:TT) (tk tv:TE):TE:=eD' own wi g tc (ie' tk tv) [] (fun _ a=>.dK a) fun _ _=>True
abbrev tn' (own:List Nat) (wi:TI) (g:TG) (tc:TT) (tk tv:TE):TE:=eD' own wi g tc (if' tk tv) [] (fun _ a=>.dT (plT a)) okT
section
variable {X:Cx} {e:Expr} {scope:Scope} {tg iter:Expr} {ifs:List Expr} {nx:Addr->Env->Sem Unit} {g:TG} {tc:TT} {own:List Nat} {wi:TI}
theorem qj' {P:Program} {w:World} (a:(Option Int->Bool)×Nat) (o:Obj) (D:Addr) (H:Hp) (h:Heap) (i:IsS a o) (e:h.get? D=some o) (_:(D == sysModules)=false) (_:H D=none) (_:True) (_:HOk P w H h):aD' P w (upd H D (e5' D a.1 a.2)) h D (e5' D a.1 a.2):=kt' e i
theorem qk' {α:Type} {Is:α->Obj->Prop} {aA':TL α} {a0:α} {o0:Bool->Obj} {newAcc:Sem Value} {ho:Addr->α->HO} {ok:α->Hp->Prop} {i:Nat} {y:Str} {py pos pos2:Pos}
  (hnew:∀(s:Shared) (Q:Value->Shared->Prop),(∀led,Q (.ref s.heap.objs.size) { s with heap:=s.heap.push (o0 led) })->wpAny (model X.prog X.w) X.A newAcc Q X.xe s) (hfr:∀led,(o0 led).isFreed=false) (ha0:∀led,Is a0 (o0 led)) (hda:∀(a:α) (o:Obj),Is a o->∀v:Option Value,o.data≠.cell v)
  (hfin:∀(a:α) (o:Obj) (D:Addr) (H:Hp) (h:Heap),Is a o->h.get? D=some o->(D == sysModules)=false->H D=none->ok a H->HOk X.prog X.w H h->aD' X.prog X.w (upd H D (ho D a)) h D (ho D a))
  (C:CompInG Is X e scope tg iter ifs nx g tc aA' own) (hi:PI X tg iter wi) (hN:X.N.Nodup) (hy:X.N[i]?=some y) (hx:Loc X.env.scope y) (hf:X.fn y=true\/X.env.scope.names.lookup y=some .local)
  (hG:PG X (.Name y py) (dv' i))
  (he:eval e X.env=comprehension e scope X.env pos2 newAcc false (eval iter X.env))
  (he2:evalThenUse e X.env (assign (.Name y py) X.env)=(do let _ <- comprehension e scope X.env pos2 newAcc false (eval iter X.env) (some (assign (.Name y py) X.env))))
  (hsw:∃b,swapsWith e (some (.Name y py)) pos.line X.env=pure b):PS X (.Assign [.Name y py] e pos) (jj' (eD' own wi g tc aA' a0 ho ok) (dv' i)):=by
 obtain⟨b,hb⟩:=hsw
 cases b with
 |true=>exact g8' hnew hfr ha0 hda hfin C hi hN hy hx hf he2 hb
 |false=>exact hZ' (mX' hnew hfr ha0 hda hfin C hi he) hG hb rfl
end
section
variable {prog:Program} {w:World} {A:Around} {E:Value->Shared->Prop} {s:Shared}
end
section
variable {X:Cx}
variable {e:Expr} {scope:Scope} {tg iter:Expr} {ifs:List Expr} {nx:Addr->Env->Sem Unit} {g:TG} {tc:TT} {aA':TL ((Option Int->Bool)×Nat)} {own:List Nat} {wi:TI}
end
end L2
namespace L2
open PySem PySem.Spec PyProof.Rows PySem.Ts
section
variable {X:Cx}
def kI (k:List Int):List Itm:=k.map Sum.inl
variable {e:Expr} {scope:Scope} {tg iter:Expr} {ifs:List Expr} {nx:Addr->Env->Sem Unit} {g:TG} {tc:TT} {aA':TL (List (List Int×Addr))} {own:List Nat} {wi:TI}
end
section
variable {prog:Program} {w:World} {A:Around} {E:Value->Shared->Prop} {s:Shared}
end
def Fz (H:Hp) (d:Addr) (o:Obj):Prop:=∃u,H d=some (.frz o u)
theorem Fz.at {P:Program} {w:World} {H:Hp} {h:Heap} {d:Addr} {o:Obj} (f:Fz H d o) (x:HOk P w H h):h.get? d=some o:=let⟨u,e⟩:=f;(x d _ e).1
section
variable {X:Cx} {tg:Expr}
theorem HOk.freeze {P:Program} {w:World} {H:Hp} {h:Heap} {d:Addr} {u:HO} {o:Obj} (x:HOk P w H h) (e:H d=some u) (hu:Mut (some u)) (ho:h.get? d=some o):HOk P w (upd H d (.frz o u)) h:=fun b v q=>by
 have ntup:∀c xs,H c=some (.tup xs)->c≠d:=fun c xs r z=>by subst z;rw[r]at e;cases e;exact hu
 have nown:∀c y,H c=some (.own y)->c≠d:=fun c y r z=>by subst z;rw[r]at e;cases e;exact hu
 have st:∀a v,aD' P w H h a v->aD' P w (upd H d (.frz o u)) h a v:=fun a v y=>y.stay (fun _ _ _ q=>q) (fun c r=>by rw[af' (nown c a r)];exact r) fun c xs r=>by rw[af' (ntup c xs r)];exact r
 by_cases hb:b=d
 .subst hb;rw[aa']at q;cases q;exact⟨ho,st _ _ (x _ _ e)⟩
 .rw[af' hb]at q;exact st _ _ (x b v q)
theorem Inv.freeze {pins:List (Addr×Obj)} {σ:St} {H:Hp} {s:Shared} {d:Addr} {u:HO} {o:Obj} (I:Inv X pins σ H s) (e:H d=some u) (hu:Mut (some u)) (ho:s.heap.get? d=some o):Inv X pins σ (upd H d (.frz o u)) s:=by
 have:=I.step (h':=s.heap) (g':=s.gens) (d':=s.drawn) (t':=s.toks) (ch:=[]) (H':=upd H d (.frz o u)) (fun _ z=>nomatch z) (fun b o _ _ _ q _=>q) (fun b o _ _ _ q _=>⟨o.slots,q⟩)
  (fun b o _ _ n=>by rw[af' (fun z=>by subst z;rw[n]at e;cases e)];exact n) (fun b o _ q=>⟨o,q⟩)
  (fun b xs q=>by rw[af' (fun z=>by subst z;rw[q]at e;cases e;exact hu)];exact q)
  (fun b o v q=>by rw[af' (fun z=>by subst z;rw[q]at e;cases e;exact hu)];exact q)
  (fun b ps q=>⟨#[],by rw[af' (fun z=>by subst z;rw[q]at e;cases e;exact hu),Array.append_empty];exact q⟩)
  (fun m n=>n) (I.hok.freeze e hu ho) I.bare
 exact this
end
section
variable {X:Cx} {pos:Pos}
def wZ' (K:W.Frag) (n:Nat) (t:TGs):TG:=fun v σ H Q=>∃a xs,v=.ref a/\(SqT K H a xs\/SqL K H a xs)/\xs.length=n/\t xs σ H Q
theorem to' {es:List Expr} {k:Nat} {t:TGs} {n:Nat} (hc:X.calm=true) (h:PGs X es t)
  (hn:(assignEach es X.env).length=n:=by rfl) (hst:(assignEach es X.env).findIdx? (·.1)=none:=by rfl):PG X (.Tuple es k pos) (wZ' X.K n t):=by
 intro pins s σ H v u Q I r hw
 obtain⟨a,xs,e1,hq,hl,hw⟩:=hw
 rcases hq with hq|hq
 .exact sf' hc h hn hst pins s σ H v u Q I r ⟨a,xs,e1,hq,hl,hw⟩
 .subst e1
  cases r
  obtain⟨its,rv,pl,hz⟩:=I.list hq
  rw[assign_Tuple]
  refine af (bF ?_)
  unfold unpack
  rw[hn,hst]
  have e:n=its.toArray.size:=by simp[<- hl,rv.length]
  rw[e]
  refine af (bo (W.kun_itemsOf (I.ok.hd hc) pl.isList fun h' hx=>?_))
  have I1:Inv X pins σ H { s with heap:=h' }:=I.kept (t':=s.toks) fun b o e=>hx b o (aK (au e)) e
  exact h pins _ σ H xs _ Q I1 (by simpa using rv) hw
end
section
variable {prog:Program} {w:World} {A:Around} {E:Value->Shared->Prop} {s:Shared} {K:Type} [DecidableEq K] {knd:HeapKind prog w K} {d:Addr}
end
section
variable {X:Cx}
end
end L2
namespace L2
open PySem PySem.Spec PyProof.Rows PySem.SeqAt
section
variable {prog:Program} {w:World} {d:Addr} {o:Obj} {es:Array DictEntry} {ep:Nat}
end
section
variable {X:Cx}
end
def Pw {α:Type} (R:V->α->Prop) (vs:List V) (as:List α):Prop:=vs.length=as.length/\∀(i:Nat) v a,vs[i]?=some v->as[i]?=some a->R v a
def LsR (H:Hp) {α:Type} (R:V->α->Prop) (v:V) (as:List α):Prop:=∃p vs,v=.ref p/\H p=some (.lst vs)/\Pw R vs as
def TpI (H:Hp) (v:V) (ns:List Int):Prop:=∃p,v=.ref p/\H p=some (.tup (ns.map V.int))
def v8' {α:Type} (R:V->α->Prop):Prop:=∀x a b,R x a->R x b->a=b
theorem Pw.fun1 {α:Type} {R:V->α->Prop} (hR:v8' R) {vs:List V} {as bs:List α} (h1:Pw R vs as) (h2:Pw R vs bs):as=bs:=by
 apply bx
 intro i
 by_cases hi:i<vs.length
 .have g:=ab hi
  have g1:=ab (show i<as.length by rw[<- h1.1];exact hi)
  have g2:=ab (show i<bs.length by rw[<- h2.1];exact hi)
  rw[g1,g2,hR _ _ _ (h1.2 i _ _ g g1) (h2.2 i _ _ g g2)]
 .rw[bC (by rw[<- h1.1];omega),bC (by rw[<- h2.1];omega)]
theorem LsR.fun1 {H:Hp} {α:Type} {R:V->α->Prop} (hR:v8' R):v8' (LsR H R):=by
 rintro x a b ⟨p,vs,rfl,e,h⟩ ⟨q,ws,z,e',h'⟩
 cases z
 rw[e]at e'
 cases e'
 exact h.fun1 hR h'
theorem TpI.fun1 {H:Hp}:v8' (TpI H):=by
 rintro x a b ⟨p,rfl,e⟩ ⟨q,z,e'⟩
 cases z
 rw[e]at e'
 exact eC' (by injection e' with e';injection e' with e')
section
variable {X:Cx} {pins:List (Addr×Obj)} {σ:L2.St} {H:Hp} {s:Shared}
def ze':R2:=fun x y H Q=>∃(k:List (List Int)) (L:List (List (List Int))),LsR H (TpI H) x k/\LsR H (LsR H (TpI H)) y L/\Q (.bl (decide (k∈L))) H
end
section
variable {X:Cx} {e st:Expr} {te:TE} {ts:TO} {p2 pos:Pos}
def yD' {α:Type} (xs:List α) (n:Nat):List α:=(aA ((xs.length+n-1) / n)).filterMap fun k=>xs[k*n]?
theorem aC'.pick {xs:List V} {its:List Value} (r:aC' xs its) (f:Nat->Nat):∀l:List Nat,aC' (l.filterMap fun k=>xs[f k]?) (l.filterMap fun k=>its[f k]?)
 | []=>.nil
 |k :: l=>by
  rw[bI,bI]
  have hl:=r.length
  cases hx:xs[f k]? with
  |none=>
   have:its[f k]?=none:=by
    rw[aO]at hx ⊢
    omega
   rw[this]
   exact aC'.pick r f l
  |some x=>
   obtain⟨u,hu,ru⟩:=r.get hx
   rw[hu]
   exact .cons ru (aC'.pick r f l)
end
section
variable {prog:Program} {w:World} {A:Around} {E:Value->Shared->Prop} {s:Shared}
end
section
variable {X:Cx}
end
section
variable {prog:Program} {w:World} {A:Around} {E:Value->Shared->Prop} {s:Shared}
end
section
variable {X:Cx}
end
end L2
namespace R3
open PySem PySem.Spec PyProof.Rows L2
inductive Bf where
 |len|abs|int|isinstance|all|any|max|min|list|tuple|range|sum|set|anyI
 deriving DecidableEq
inductive Mf where
 |append|extend|join|insert|bitlen|popL
 deriving DecidableEq
inductive Xf where
 |eqT|inR|notInR
 deriving DecidableEq
inductive Zf where
 |eqB|ninB|ltS|inP
 deriving DecidableEq
inductive Yf where
 |strd|ltx
 deriving DecidableEq
set_option genInjectivity false
mutual
inductive Ce where
 |var (i:Nat)|int (n:Int)|bl (b:Bool)|non|str (x:Str)|ty (n:String)
 |bin (op:Operator) (a b:Ce)
 |neg (a:Ce)|not (a:Ce)
 |and (a b:Ce)|or (a b:Ce)
 |cmp (op:CmpOp) (a b:Ce)
 |chn (op op':CmpOp) (a b c:Ce)
 |ife (q:Cq) (a b:Ce)
 |tup (es:Ces)|lst (es:Ces)
 |idx (a b:Ce)
 |cut (a:Ce) (lo hi:Co)
 |call (f:Str) (es:Ces)
 |blt (f:Bf) (es:Ces)
 |met (m:Mf) (o:Ce) (es:Ces)
 |comp (elt:Ce) (own:List Nat) (t:Ct) (it:Ci) (q:Cqo) (r:Cc)
 |din (neg:Bool) (a b:Ce)|dgt (a b:Ce)|gint (x:Str) (n:Int)
inductive Ces where
 |nil|cons (e:Ce) (r:Ces)
inductive Cq where
 |val (e:Ce)|not (q:Cq)|and (a b:Cq)|or (a b:Cq)|cmp (op:CmpOp) (a b:Ce)|chn (op op':CmpOp) (a b c:Ce)|din (neg:Bool) (a b:Ce)
inductive Cqo where
 |none|some (q:Cq)
inductive Co where
 |none|some (e:Ce)
inductive Ci where
 |val (e:Ce)|range1 (a:Ce)|range2 (a b:Ce)|enum (a:Ce)
inductive Ct where
 |name (i:Nat)|tup (ts:Cts)|sub (o i:Ce)
inductive Cts where
 |nil|cons (t:Ct) (r:Cts)
inductive Cc where
 |nil|cons (ws:List Nat) (t:Ct) (it:Ci) (q:Cqo) (r:Cc)
end
mutual
inductive Cs where
 |expr (e:Ce)|ret (e:Ce)|asg (t:Ct) (e:Ce)|aug (i:Nat) (sub:Bool) (e:Ce)
 |ite (q:Cq) (a b:Css)|whl (q:Cq) (b:Css)|for_ (t:Ct) (it:Ci) (b:Css)|augS (o i:Ce) (sub:Bool) (e:Ce)
 |setc2 (i:Nat) (elt:Ce) (own:List Nat) (t:Ct) (it:Ci) (q:Cqo) (ws:List Nat) (t2:Ct) (it2:Ci) (q2:Cqo)|dctc (tup:Bool) (i:Nat) (k v:Ce) (own:List Nat) (t:Ct) (it:Ci) (q:Cqo)
inductive Css where
 |nil|cons (s:Cs) (r:Css)
end
set_option genInjectivity true
def w0' (i j:Int):Prop:=0<=j/\j<=1000000/\i.natAbs<2 ^ 100
def tp' (_ j:Int):Prop:=0<j/\(j<1073741824\/j.natAbs.log2<9000)
def tq' (i j:Int):Prop:=(-(2 ^ 64)<i/\i<2 ^ 64)\/(-(2 ^ 64)<j/\j<2 ^ 64)\/IntMulOk i j
section
variable (K:W.Frag)
def eS':Operator->R2
 | .Add=>fun x y H Q=>match x,y with
  | .int i,.int j=>Q (.int (i+j)) H
  | .str i,.str j=>i.length+j.length<=sizeLine/\Q (.str (i++j)) H
  |x,y=>yr' x y H Q\/sz' K x y H Q\/oG' K x y H Q
 | .Sub=>rI0 fun i j=>.int (i-j)
 | .Mult=>fun x y H Q=>match x,y with
  | .int i,.int j=>tq' i j/\Q (.int (i*j)) H
  | .str a,.int n=>-1000000<=n/\n<=1000000/\a.length*n.toNat<=1000000/\Q (.str (Txt.mul a n)) H
  |x,y=>ys' x y H Q
 | .Mod=>rI (fun _ j=>0<j) fun i j=>.int (i % j)
 | .FloorDiv=>rI tp' fun i j=>.int (i / j)
 | .Pow=>rI wz' fun i j=>.int (i ^ j.toNat)
 | .LShift=>rI w0' fun i j=>.int (i*2 ^ j.toNat)
 | .RShift=>rI (fun _ j=>0<=j) fun i j=>.int (i / 2 ^ j.toNat)
 | .BitAnd=>rI (fun i j=>0<=i/\j=1) fun i _=>.int (i % 2)
 |_=>fun _ _ _ _=>False
def cS':CmpOp->R2
 | .Eq=>fun x y H Q=>match x,y with
  | .ref a,.ref b=>v1' K false (.ref a) (.ref b) H Q\/v4' false (.ref a) (.ref b) H Q
  |x,y=>rEq x y H Q
 | .NotEq=>fun x y H Q=>match x,y with
  | .ref a,.ref b=>v1' K true (.ref a) (.ref b) H Q\/v4' true (.ref a) (.ref b) H Q
  |x,y=>rNe x y H Q
 | .Lt=>rI0 fun i j=>.bl (decide (i<j))
 | .LtE=>rI0 fun i j=>.bl (decide (i<=j))
 | .Gt=>fun x y H Q=>match x with
  | .str a=>yz' (.str a) y H Q
  |x=>rI0 (fun i j=>.bl (decide (j<i))) x y H Q
 | .GtE=>rI0 fun i j=>.bl (decide (j<=i))
 | .Is=>fun x y H Q=>match y with
  | .bl b=>v2' false x (.bl b) H Q
  |y=>y=.non/\Q (.bl (decide (x=.non))) H
 | .IsNot=>fun x y H Q=>match y with
  | .bl b=>v2' true x (.bl b) H Q
  |y=>y=.non/\Q (.bl (!decide (x=.non))) H
 | .In=>fun x y H Q=>match y with
  | .str b=>v3' false x (.str b) H Q
  |y=>rIn K false x y H Q
 | .NotIn=>fun x y H Q=>match y with
  | .str b=>v3' true x (.str b) H Q
  |y=>rIn K true x y H Q
def cr':Bf->List V->Hp->VK->Prop
 | .len=>fun xs H Q=>∃x n,xs=[x]/\yo' K x H n/\Q (.int n) H
 | .abs=>fun xs H Q=>∃i,xs=[.int i]/\Q (.int (if i<0 then -i else i)) H
 | .int=>fun xs H Q=>match xs with
  | [.int i]=>Q (.int i) H
  | [.bl k]=>Q (.int (if k then 1 else 0)) H
  | [.str x]=>∃n,PySem.intText? x=some n/\x.length<=640/\Q (.int n) H
  | [.str x,.int j]=>j=2/\∃n,B2 x n/\Q (.int n) H
  |_=>False
 | .isinstance=>fun xs H Q=>yu' xs H Q\/False
 | .all=>v0' K false
 | .any=>v0' K true
 | .anyI=>s5' K
 | .max=>fun xs H Q=>match xs with
  | [.int i,.int j]=>Q (.int (if j > i then j else i)) H
  |xs=>mL' K true xs H Q
 | .min=>fun xs H Q=>match xs with
  | [.int i,.int j]=>Q (.int (if j<i then j else i)) H
  |xs=>mL' K false xs H Q
 | .list=>fun xs H Q=>(∃p ys,xs=[.ref p]/\(SqL K H p ys\/SqT K H p ys)/\∀l,H l=none->Q (.ref l) (upd H l (.lst ys)))\/yw' xs H Q
 | .range=>yv'
 | .sum=>yx' K
 | .set=>oJ' K
 | .tuple=>fun xs H Q=>∃p ys,xs=[.ref p]/\((SqL K H p ys/\∀l,H l=none->Q (.ref l) (upd H l (.tup ys)))\/(SqT K H p ys/\Q (.ref p) H))
def kE':Mf->V->List V->Hp->VK->Prop
 | .append=>jM'
 | .extend=>jO'
 | .join=>sN' K
 | .insert=>j3'
 | .bitlen=>kb'
 | .popL=>yq'
def gj':Mf->String
 | .join=>"str"
 | .bitlen=>"int"
 |_=>"list"
def kF':Mf->Str
 | .append=>"append"
 | .extend=>"extend"
 | .join=>"join"
 | .insert=>"insert"
 | .bitlen=>"bit_length"
 | .popL=>"pop"
def eE':Bf->Str
 | .len=>"len"
 | .abs=>"abs"
 | .int=>"int"
 | .isinstance=>"isinstance"
 | .all=>"all"
 | .any=>"any"
 | .anyI=>"any"
 | .max=>"max"
 | .min=>"min"
 | .list=>"list"
 | .tuple=>"tuple"
 | .range=>"range"
 | .sum=>"sum"
 | .set=>"set"
def oL':R2:=fun x y H Q=>match x,y with
 | .str z,.int i=>z.length<=sizeLine/\∃c,atI z.cps.toList i=some c/\Q (.str ⟨#[c]⟩) H
 |x,y=>e0' K x y H Q\/gR' K x y H Q
def rSl:V->Option Int->Option Int->Hp->VK->Prop:=fun x lo hi H Q=>match x with
 | .str a=>a.length<=sizeLine/\Q (.str (Txt.slice a lo hi)) H
 |x=>vX' K x lo hi H Q\/vW' K x lo hi H Q\/v5' K x lo hi H Q
end
def rZf:Zf->R2
 | .eqB=>zc' false
 | .ninB=>wS'
 | .ltS=>fun x y H Q=>∃i j,x=.str i/\y=.str j/\Q (.bl (decide (i.cps.toList<j.cps.toList))) H
 | .inP=>ze'
structure Rc where
 N:List Str
 B:List Str
 K:W.Frag
 fs:Str->Option Sp
 xk:L2.St->XK:=fun _=>E0
 cl:Str->Option Addr:=fun _=>none
def m0' (neg:Bool) (ty td:TE):TE:=wY' neg ty td
def m1':Cts->Nat
 | .nil=>0
 | .cons _ r=>m1' r+1
mutual
def tE (C:Rc):Ce->TE
 | .var i=>vR' i
 | .int n=>tC (.int n)
 | .bl b=>tC (.bl b)
 | .non=>tC .non
 | .str x=>tC (.str x)
 | .ty n=>tC (.ty n)
 | .bin op a b=>tOp (eS' C.K op) (tE C a) (tE C b)
 | .neg a=>tUn (rU fun i=>.int (-i)) (tE C a)
 | .not a=>pB' (tE C a)
 | .and a b=>ms' (tE C a) (tE C b)
 | .or a b=>vS' (tE C a) (tE C b)
 | .cmp op a b=>tOp (cS' C.K op) (tE C a) (tE C b)
 | .chn op op' a b c=>df' (cS' C.K op) (cS' C.K op') (tE C a) (tE C b) (tE C c)
 | .ife q a b=>tIf (tQ C q) (tE C a) (tE C b)
 | .tup es=>wG' (tA C es)
 | .lst es=>wH' (tA C es)
 | .idx a b=>tOp (oL' C.K) (tE C a) (tE C b)
 | .cut a lo hi=>tSl (rSl C.K) (tE C a) (tO C lo) (tO C hi)
 | .call f es=>fun σ H Q=>match C.fs f with
  |some sp=>mE' sp [] (C.xk σ) (tA C es) σ H Q
  |none=>False
 | .blt f es=>tCB (cr' C.K f) (tA C es)
 | .met m o es=>tBM C.K (gj' m) (kE' C.K m) (tE C o) (tA C es)
 | .din neg a b=>m0' neg (tE C a) (tE C b)
 | .dgt a b=>kD' (tE C a) (tE C b)
 | .gint x n=>qa' C.K x n
 | .comp elt own t it q r=>g0' own (tI C it) (tG C t) (tQo C q) (tR C r (ey' (tE C elt)))
def tA (C:Rc):Ces->TA
 | .nil=>mn'
 | .cons e r=>d8' (tE C e) (tA C r)
def tQ (C:Rc):Cq->TT
 | .val e=>fun σ H Q=>tE C e σ H fun x H'=>∃k,ss' C.K x H' k/\Q k H'
 | .not q=>wj' (tQ C q)
 | .and a b=>r7' (tQ C a) (tQ C b)
 | .or a b=>tOr (tQ C a) (tQ C b)
 | .cmp op a b=>eN' (tOp (cS' C.K op) (tE C a) (tE C b))
 | .chn op op' a b c=>eN' (df' (cS' C.K op) (cS' C.K op') (tE C a) (tE C b) (tE C c))
 | .din neg a b=>eN' (m0' neg (tE C a) (tE C b))
def tQo (C:Rc):Cqo->TT
 | .none=>fun _ H Q=>Q true H
 | .some q=>tQ C q
def tO (C:Rc):Co->TO
 | .none=>gW'
 | .some e=>pS' (tE C e)
def tI (C:Rc):Ci->TI
 | .val e=>wM' C.K (tE C e)
 | .range1 a=>pK' (d8' (tE C a) mn')
 | .range2 a b=>pL' (d8' (tE C a) (d8' (tE C b) mn'))
 | .enum a=>p3' C.K (tE C a)
def tG (C:Rc):Ct->TG
 | .name i=>dv' i
 | .tup ts=>wZ' C.K (m1' ts) (tGs C ts)
 | .sub o i=>wq' (tE C o) (tE C i) dw'
def tGs (C:Rc):Cts->TGs
 | .nil=>wp'
 | .cons t r=>pH' (tG C t) (tGs C r)
def tR (C:Rc):Cc->TL (List V)->TL (List V)
 | .nil,em=>em
 | .cons ws t it q r,em=>gZ' (tI C it) (a3' ws (tG C t) (tQo C q) (tR C r em))
end
mutual
def tS (C:Rc):Cs->TS
 | .expr e=>pE' (tE C e)
 | .ret e=>wl' (tE C e)
 | .asg t e=>jj' (tE C e) (tG C t)
 | .aug i sub e=>wr' i (tE C e) (ipI fun i j=>if sub then i-j else i+j)
 | .augS o i sub e=>pJ' (tE C o) (tE C i) (tE C e) (e0' C.K) (ipI fun i j=>if sub then i-j else i+j) dw'
 | .ite q a b=>wm' (tQ C q) (tSs C a) (tSs C b)
 | .whl q b=>js' (tQ C q) (tSs C b)
 | .for_ t it b=>wu' (tI C it) (tG C t) (tSs C b)
 | .setc2 i elt own t it q ws t2 it2 q2=>jj' (tl' own (tI C it) (tG C t) (tQo C q) (gZ' (tI C it2) (a3' ws (tG C t2) (tQo C q2) (ge' (tE C elt))))) (dv' i)
 | .dctc tup i k v own t it q=>if tup then jj' (tn' own (tI C it) (tG C t) (tQo C q) (tE C k) (tE C v)) (dv' i)else jj' (tm' own (tI C it) (tG C t) (tQo C q) (tE C k) (tE C v)) (dv' i)
def tSs (C:Rc):Css->TS
 | .nil=>pC'
 | .cons s r=>wk' (tS C s) (tSs C r)
end
def vis (sc:Scope) (x:Str):Bool:=match sc.names.lookup x with
 |some .local=>true
 |some .cell=>true
 |some .free=>true
 |_=>false
def locb (sc:Scope) (x:Str):Bool:=match sc.names.lookup x with
 |some .local=>true
 |some .cell=>true
 |_=>false
def glb (sc:Scope) (x:Str):Bool:=decide (sc.names.lookup x=some .globalImplicit)
def gk' (N:List Str) (i:Nat) (x:Str):Bool:=decide (N[i]?=some x)&&!(x == ("__debug__":Str))&&!(x == ("__classdict__":Str))
def bd':Expr->Bool
 | .Starred ..=>false
 |_=>true
def aS':Expr->Bool
 | .Set ..=>false
 |_=>true
def c6':Expr->Bool
 | .Slice ..=>false
 |_=>true
def kG':Expr->Bool
 | .Call _ [] _ _=>false
 |_=>true
def oM':Expr->Bool
 | .UnaryOp .Not _ _=>false
 | .BoolOp ..=>false
 | .IfExp ..=>false
 | .Compare ..=>false
 |_=>true
def gl':List String:=["list","tuple","str","bool","int","dict","ValueError"]
def jl' (N:List Str) (sc scope:Scope) (own:List Nat):Bool:=
 decide (scope.kind=.function)&&
 scope.names.all (fun x=>(decide (x.2≠.local) || decide (scope.names.lookup x.1=some .local))&&(decide (x.2≠.cell) || decide (scope.names.lookup x.1=some .cell))&&
  (decide (x.2≠.free) || decide (sc.names.lookup x.1=some .cell) || decide (sc.names.lookup x.1=some .free)))&&
 (aA N.length).all (fun i=>match N[i]? with
  |some x=>(decide (scope.names.lookup x≠some .local)&&decide (scope.names.lookup x≠some .cell)) || decide (i∈own)
  |none=>true)
def gm':Ci->Expr->Bool
 | .enum _,.Tuple ..=>true
 | .enum _,_=>false
 |_,_=>true
mutual
def fx' (own:List Nat):Ct->Bool
 | .name i=>decide (i∈own)
 | .tup ts=>kH' own ts
 | .sub _ _=>false
def kH' (own:List Nat):Cts->Bool
 | .nil=>true
 | .cons t r=>fx' own t&&kH' own r
end
def tld (B:List Str):Bool:=decide (("~":Str)∈B)
def hat (B:List Str):Bool:=decide (("^":Str)∈B)
def pct (B:List Str):Bool:=decide (("%":Str)∈B)
def rY' (x:Str):Str:=⟨#[33]++x.cps⟩
theorem ap' {P:Prop} (h:false=true):P:=(aq h).elim
theorem gn' {a b:Bool} (h:(a&&b)=true):a=true/\b=true:=by
 cases a with
 |true=>exact⟨rfl,h⟩
 |false=>exact ap' h
def w1' (e:Expr) (f:Expr->Expr->Bool):Bool:=match e with
 | .BoolOp .And [x,y] _=>f x y
 | .BoolOp .And (x :: y :: z :: r) pos=>f x (.BoolOp .And (y :: z :: r) pos)
 |_=>false
theorem kI' {e:Expr} {f:Expr->Expr->Bool} (h:w1' e f=true):(∃x y pos,e=.BoolOp .And [x,y] pos/\f x y=true)\/∃x y z r pos,e=.BoolOp .And (x :: y :: z :: r) pos/\f x (.BoolOp .And (y :: z :: r) pos)=true:=by
 cases e with
 |BoolOp o vs pos=>
  cases o with
  |And=>
   cases vs with
   |nil=>exact ap' h
   |cons x r=>
    cases r with
    |nil=>exact ap' h
    |cons y r=>
     cases r with
     |nil=>exact .inl ⟨x,y,pos,rfl,h⟩
     |cons z r=>exact .inr ⟨x,y,z,r,pos,rfl,h⟩
  |_=>exact ap' h
 |_=>exact ap' h
def vOr (e:Expr) (f:Expr->Expr->Bool):Bool:=match e with
 | .BoolOp .Or [x,y] _=>f x y
 | .BoolOp .Or (x :: y :: z :: r) pos=>f x (.BoolOp .Or (y :: z :: r) pos)
 |_=>false
theorem oN' {e:Expr} {f:Expr->Expr->Bool} (h:vOr e f=true):(∃x y pos,e=.BoolOp .Or [x,y] pos/\f x y=true)\/∃x y z r pos,e=.BoolOp .Or (x :: y :: z :: r) pos/\f x (.BoolOp .Or (y :: z :: r) pos)=true:=by
 cases e with
 |BoolOp o vs pos=>
  cases o with
  |Or=>
   cases vs with
   |nil=>exact ap' h
   |cons x r=>
    cases r with
    |nil=>exact ap' h
    |cons y r=>
     cases r with
     |nil=>exact .inl ⟨x,y,pos,rfl,h⟩
     |cons z r=>exact .inr ⟨x,y,z,r,pos,rfl,h⟩
  |_=>exact ap' h
 |_=>exact ap' h
def bx' {α:Type} (z:List α) (f:Bool):Bool:=match z with
 | []=>f
 |_=>false
theorem aq' {α:Type} {z:List α} {f:Bool} (h:bx' z f=true):z=[]/\f=true:=by
 cases z with
 |nil=>exact⟨rfl,h⟩
 |_=>exact ap' h
def aL' {α:Type} (z:List α) (f:α->List α->Bool):Bool:=match z with
 |x :: r=>f x r
 |_=>false
theorem an' {α:Type} {z:List α} {f:α->List α->Bool} (h:aL' z f=true):∃x r,z=x :: r/\f x r=true:=by
 cases z with
 |cons x r=>exact⟨x,r,rfl,h⟩
 |_=>exact ap' h
def kJ' {α:Type} (z:Option α) (f:Bool):Bool:=match z with
 |none=>f
 |_=>false
theorem go' {α:Type} {z:Option α} {f:Bool} (h:kJ' z f=true):z=none/\f=true:=by
 cases z with
 |none=>exact⟨rfl,h⟩
 |_=>exact ap' h
def kK' {α:Type} (z:Option α) (f:α->Bool):Bool:=match z with
 |some x=>f x
 |_=>false
theorem gp' {α:Type} {z:Option α} {f:α->Bool} (h:kK' z f=true):∃x,z=some x/\f x=true:=by
 cases z with
 |some x=>exact⟨x,rfl,h⟩
 |_=>exact ap' h
def eT' (z:Comprehension) (f:Expr->Expr->List Expr->Int->Bool):Bool:=f z.target z.iter z.ifs z.is_async
theorem bB' {z:Comprehension} {f:Expr->Expr->List Expr->Int->Bool} (h:eT' z f=true):∃a b c d,z=⟨a,b,c,d⟩/\f a b c d=true:=by
 cases z
 exact⟨_,_,_,_,rfl,h⟩
def cV' (z:Expr) (f:Str->Pos->Bool):Bool:=match z with
 | .Name x0 x1=>f x0 x1
 |_=>false
theorem bk' {z f} (h:cV' z f=true):∃x0 x1,z=.Name x0 x1/\f x0 x1=true:=by
 cases z with
 |Name x0 x1=>exact⟨x0,x1,rfl,h⟩
 |_=>exact ap' h
def bS' (z:Expr) (f:Const->Nat->Pos->Bool):Bool:=match z with
 | .Constant x0 x1 x2=>f x0 x1 x2
 |_=>false
theorem bl' {z f} (h:bS' z f=true):∃x0 x1 x2,z=.Constant x0 x1 x2/\f x0 x1 x2=true:=by
 cases z with
 |Constant x0 x1 x2=>exact⟨x0,x1,x2,rfl,h⟩
 |_=>exact ap' h
def oO' (z:Const) (f:Int->Bool):Bool:=match z with
 | .int x0=>f x0
 |_=>false
theorem kL' {z f} (h:oO' z f=true):∃x0,z=.int x0/\f x0=true:=by
 cases z with
 |int x0=>exact⟨x0,rfl,h⟩
 |_=>exact ap' h
def kM' (z:Const) (f:Bool->Bool):Bool:=match z with
 | .bool x0=>f x0
 |_=>false
theorem iW' {z f} (h:kM' z f=true):∃x0,z=.bool x0/\f x0=true:=by
 cases z with
 |bool x0=>exact⟨x0,rfl,h⟩
 |_=>exact ap' h
def kN' (z:Const) (f:Bool):Bool:=match z with
 | .none=>f
 |_=>false
theorem iX' {z f} (h:kN' z f=true):z=.none/\f=true:=by
 cases z with
 |none=>exact⟨rfl,h⟩
 |_=>exact ap' h
def oP' (z:Const) (f:Str->Bool):Bool:=match z with
 | .str x0=>f x0
 |_=>false
theorem kO' {z f} (h:oP' z f=true):∃x0,z=.str x0/\f x0=true:=by
 cases z with
 |str x0=>exact⟨x0,rfl,h⟩
 |_=>exact ap' h
def ig' (z:Expr) (f:Expr->Operator->Expr->Pos->Bool):Bool:=match z with
 | .BinOp x0 x1 x2 x3=>f x0 x1 x2 x3
 |_=>false
theorem g9' {z f} (h:ig' z f=true):∃x0 x1 x2 x3,z=.BinOp x0 x1 x2 x3/\f x0 x1 x2 x3=true:=by
 cases z with
 |BinOp x0 x1 x2 x3=>exact⟨x0,x1,x2,x3,rfl,h⟩
 |_=>exact ap' h
def dW' (z:Expr) (f:UnaryOp->Expr->Pos->Bool):Bool:=match z with
 | .UnaryOp x0 x1 x2=>f x0 x1 x2
 |_=>false
theorem dB' {z f} (h:dW' z f=true):∃x0 x1 x2,z=.UnaryOp x0 x1 x2/\f x0 x1 x2=true:=by
 cases z with
 |UnaryOp x0 x1 x2=>exact⟨x0,x1,x2,rfl,h⟩
 |_=>exact ap' h
def kP' (z:UnaryOp) (f:Bool):Bool:=match z with
 | .USub=>f
 |_=>false
theorem iY' {z f} (h:kP' z f=true):z=.USub/\f=true:=by
 cases z with
 |USub=>exact⟨rfl,h⟩
 |_=>exact ap' h
def oQ' (z:UnaryOp) (f:Bool):Bool:=match z with
 | .Not=>f
 |_=>false
theorem kQ' {z f} (h:oQ' z f=true):z=.Not/\f=true:=by
 cases z with
 |Not=>exact⟨rfl,h⟩
 |_=>exact ap' h
def dX' (z:Expr) (f:Expr->List CmpOp->List Expr->Pos->Bool):Bool:=match z with
 | .Compare x0 x1 x2 x3=>f x0 x1 x2 x3
 |_=>false
theorem dC' {z f} (h:dX' z f=true):∃x0 x1 x2 x3,z=.Compare x0 x1 x2 x3/\f x0 x1 x2 x3=true:=by
 cases z with
 |Compare x0 x1 x2 x3=>exact⟨x0,x1,x2,x3,rfl,h⟩
 |_=>exact ap' h
def ii' (z:Expr) (f:Expr->Expr->Expr->Pos->Bool):Bool:=match z with
 | .IfExp x0 x1 x2 x3=>f x0 x1 x2 x3
 |_=>false
theorem hh' {z f} (h:ii' z f=true):∃x0 x1 x2 x3,z=.IfExp x0 x1 x2 x3/\f x0 x1 x2 x3=true:=by
 cases z with
 |IfExp x0 x1 x2 x3=>exact⟨x0,x1,x2,x3,rfl,h⟩
 |_=>exact ap' h
def ij' (z:Expr) (f:List Expr->Nat->Pos->Bool):Bool:=match z with
 | .Tuple x0 x1 x2=>f x0 x1 x2
 |_=>false
theorem hr' {z f} (h:ij' z f=true):∃x0 x1 x2,z=.Tuple x0 x1 x2/\f x0 x1 x2=true:=by
 cases z with
 |Tuple x0 x1 x2=>exact⟨x0,x1,x2,rfl,h⟩
 |_=>exact ap' h
def kR' (z:Expr) (f:List Expr->Pos->Bool):Bool:=match z with
 | .List x0 x1=>f x0 x1
 |_=>false
theorem iZ' {z f} (h:kR' z f=true):∃x0 x1,z=.List x0 x1/\f x0 x1=true:=by
 cases z with
 |List x0 x1=>exact⟨x0,x1,rfl,h⟩
 |_=>exact ap' h
def b3' (z:Expr) (f:Expr->Expr->Pos->Bool):Bool:=match z with
 | .Subscript x0 x1 x2=>f x0 x1 x2
 |_=>false
theorem bT' {z f} (h:b3' z f=true):∃x0 x1 x2,z=.Subscript x0 x1 x2/\f x0 x1 x2=true:=by
 cases z with
 |Subscript x0 x1 x2=>exact⟨x0,x1,x2,rfl,h⟩
 |_=>exact ap' h
def ik' (z:Expr) (f:Option Expr->Option Expr->Option Expr->Pos->Bool):Bool:=match z with
 | .Slice x0 x1 x2 x3=>f x0 x1 x2 x3
 |_=>false
theorem ht' {z f} (h:ik' z f=true):∃x0 x1 x2 x3,z=.Slice x0 x1 x2 x3/\f x0 x1 x2 x3=true:=by
 cases z with
 |Slice x0 x1 x2 x3=>exact⟨x0,x1,x2,x3,rfl,h⟩
 |_=>exact ap' h
def dY' (z:Expr) (f:Expr->List Expr->List Keyword->Pos->Bool):Bool:=match z with
 | .Call x0 x1 x2 x3=>f x0 x1 x2 x3
 |_=>false
theorem ck' {z f} (h:dY' z f=true):∃x0 x1 x2 x3,z=.Call x0 x1 x2 x3/\f x0 x1 x2 x3=true:=by
 cases z with
 |Call x0 x1 x2 x3=>exact⟨x0,x1,x2,x3,rfl,h⟩
 |_=>exact ap' h
def cW' (z:Expr) (f:Expr->Str->Pos->Bool):Bool:=match z with
 | .Attribute x0 x1 x2=>f x0 x1 x2
 |_=>false
theorem cX' {z f} (h:cW' z f=true):∃x0 x1 x2,z=.Attribute x0 x1 x2/\f x0 x1 x2=true:=by
 cases z with
 |Attribute x0 x1 x2=>exact⟨x0,x1,x2,rfl,h⟩
 |_=>exact ap' h
def eF' (z:Expr) (f:Expr->Expr->List Comprehension->Scope->Pos->Bool):Bool:=match z with
 | .DictComp x0 x1 x2 x3 x4=>f x0 x1 x2 x3 x4
 |_=>false
theorem eU' {z f} (h:eF' z f=true):∃x0 x1 x2 x3 x4,z=.DictComp x0 x1 x2 x3 x4/\f x0 x1 x2 x3 x4=true:=by
 cases z with
 |DictComp x0 x1 x2 x3 x4=>exact⟨x0,x1,x2,x3,x4,rfl,h⟩
 |_=>exact ap' h
def cs' (z:Expr) (f:Expr->List Comprehension->Scope->Pos->Bool):Bool:=match z with
 | .ListComp x0 x1 x2 x3=>f x0 x1 x2 x3
 |_=>false
theorem ca' {z f} (h:cs' z f=true):∃x0 x1 x2 x3,z=.ListComp x0 x1 x2 x3/\f x0 x1 x2 x3=true:=by
 cases z with
 |ListComp x0 x1 x2 x3=>exact⟨x0,x1,x2,x3,rfl,h⟩
 |_=>exact ap' h
def kS' (z:Stmt) (f:Expr->Pos->Bool):Bool:=match z with
 | .Expr x0 x1=>f x0 x1
 |_=>false
theorem i0' {z f} (h:kS' z f=true):∃x0 x1,z=.Expr x0 x1/\f x0 x1=true:=by
 cases z with
 |Expr x0 x1=>exact⟨x0,x1,rfl,h⟩
 |_=>exact ap' h
def gq' (z:Stmt) (f:Option Expr->Pos->Bool):Bool:=match z with
 | .Return x0 x1=>f x0 x1
 |_=>false
theorem gr' {z f} (h:gq' z f=true):∃x0 x1,z=.Return x0 x1/\f x0 x1=true:=by
 cases z with
 |Return x0 x1=>exact⟨x0,x1,rfl,h⟩
 |_=>exact ap' h
def dD' (z:Stmt) (f:List Expr->Expr->Pos->Bool):Bool:=match z with
 | .Assign x0 x1 x2=>f x0 x1 x2
 |_=>false
theorem cY' {z f} (h:dD' z f=true):∃x0 x1 x2,z=.Assign x0 x1 x2/\f x0 x1 x2=true:=by
 cases z with
 |Assign x0 x1 x2=>exact⟨x0,x1,x2,rfl,h⟩
 |_=>exact ap' h
def e7' (z:Expr) (f:Expr->List Comprehension->Scope->Pos->Bool):Bool:=match z with
 | .SetComp x0 x1 x2 x3=>f x0 x1 x2 x3
 |_=>false
theorem fy' {z f} (h:e7' z f=true):∃x0 x1 x2 x3,z=.SetComp x0 x1 x2 x3/\f x0 x1 x2 x3=true:=by
 cases z with
 |SetComp x0 x1 x2 x3=>exact⟨x0,x1,x2,x3,rfl,h⟩
 |_=>exact ap' h
def cZ' (z:Stmt) (f:Expr->Operator->Expr->Pos->Bool):Bool:=match z with
 | .AugAssign x0 x1 x2 x3=>f x0 x1 x2 x3
 |_=>false
theorem c0' {z f} (h:cZ' z f=true):∃x0 x1 x2 x3,z=.AugAssign x0 x1 x2 x3/\f x0 x1 x2 x3=true:=by
 cases z with
 |AugAssign x0 x1 x2 x3=>exact⟨x0,x1,x2,x3,rfl,h⟩
 |_=>exact ap' h
def tr' (z:Stmt) (f:Expr->List Stmt->List Stmt->Pos->Bool):Bool:=match z with
 | .If x0 x1 x2 x3=>f x0 x1 x2 x3
 |_=>false
theorem m2' {z f} (h:tr' z f=true):∃x0 x1 x2 x3,z=.If x0 x1 x2 x3/\f x0 x1 x2 x3=true:=by
 cases z with
 |If x0 x1 x2 x3=>exact⟨x0,x1,x2,x3,rfl,h⟩
 |_=>exact ap' h
def il' (z:Stmt) (f:Expr->List Stmt->List Stmt->Pos->Bool):Bool:=match z with
 | .While x0 x1 x2 x3=>f x0 x1 x2 x3
 |_=>false
theorem hv' {z f} (h:il' z f=true):∃x0 x1 x2 x3,z=.While x0 x1 x2 x3/\f x0 x1 x2 x3=true:=by
 cases z with
 |While x0 x1 x2 x3=>exact⟨x0,x1,x2,x3,rfl,h⟩
 |_=>exact ap' h
def oR' (z:Stmt) (f:Expr->Expr->List Stmt->List Stmt->Pos->Bool):Bool:=match z with
 | .For x0 x1 x2 x3 x4=>f x0 x1 x2 x3 x4
 |_=>false
theorem kT' {z f} (h:oR' z f=true):∃x0 x1 x2 x3 x4,z=.For x0 x1 x2 x3 x4/\f x0 x1 x2 x3 x4=true:=by
 cases z with
 |For x0 x1 x2 x3 x4=>exact⟨x0,x1,x2,x3,x4,rfl,h⟩
 |_=>exact ap' h
def v1 (zz:Expr) (f:Str->Bool):Bool:=cV' zz fun y1 y2=>f y1
theorem v9' {zz f} {P:Prop} (h:v1 zz f=true) (k:∀x w1,zz=.Name x w1->f x=true->P):P:=by
 obtain⟨y1,y2,e0,h⟩:=bk' h
 exact k y1 y2 (by rw[e0]) h
def v2 (zz:Expr) (f:Int->Bool):Bool:=bS' zz fun y1 y2 y3=>oO' y1 fun y4=>f y4
theorem zf' {zz f} {P:Prop} (h:v2 zz f=true) (k:∀m w1 w2,zz=.Constant (.int m) w1 w2->f m=true->P):P:=by
 obtain⟨y1,y2,y3,e0,h⟩:=bl' h
 obtain⟨y4,e1,h⟩:=kL' h
 exact k y4 y2 y3 (by rw[e0,e1]) h
def v3 (zz:Expr) (f:Bool->Bool):Bool:=bS' zz fun y1 y2 y3=>kM' y1 fun y4=>f y4
theorem zg' {zz f} {P:Prop} (h:v3 zz f=true) (k:∀c w1 w2,zz=.Constant (.bool c) w1 w2->f c=true->P):P:=by
 obtain⟨y1,y2,y3,e0,h⟩:=bl' h
 obtain⟨y4,e1,h⟩:=iW' h
 exact k y4 y2 y3 (by rw[e0,e1]) h
def v4 (zz:Expr) (f:Bool):Bool:=bS' zz fun y1 y2 y3=>kN' y1 (f)
theorem zh' {zz f} {P:Prop} (h:v4 zz f=true) (k:∀w1 w2,zz=.Constant .none w1 w2->f=true->P):P:=by
 obtain⟨y1,y2,y3,e0,h⟩:=bl' h
 obtain⟨e1,h⟩:=iX' h
 exact k y2 y3 (by rw[e0,e1]) h
def v5 (zz:Expr) (f:Str->Bool):Bool:=bS' zz fun y1 y2 y3=>oP' y1 fun y4=>f y4
theorem zi' {zz f} {P:Prop} (h:v5 zz f=true) (k:∀y w1 w2,zz=.Constant (.str y) w1 w2->f y=true->P):P:=by
 obtain⟨y1,y2,y3,e0,h⟩:=bl' h
 obtain⟨y4,e1,h⟩:=kO' h
 exact k y4 y2 y3 (by rw[e0,e1]) h
def v6 (zz:Expr) (f:Expr->Operator->Expr->Bool):Bool:=ig' zz fun y1 y2 y3 y4=>f y1 y2 y3
theorem zj' {zz f} {P:Prop} (h:v6 zz f=true) (k:∀ea op' eb w1,zz=.BinOp ea op' eb w1->f ea op' eb=true->P):P:=by
 obtain⟨y1,y2,y3,y4,e0,h⟩:=g9' h
 exact k y1 y2 y3 y4 (by rw[e0]) h
def v7 (zz:Expr) (f:Expr->Bool):Bool:=dW' zz fun y1 y2 y3=>kP' y1 (f y2)
theorem zk' {zz f} {P:Prop} (h:v7 zz f=true) (k:∀ea w1,zz=.UnaryOp .USub ea w1->f ea=true->P):P:=by
 obtain⟨y1,y2,y3,e0,h⟩:=dB' h
 obtain⟨e1,h⟩:=iY' h
 exact k y2 y3 (by rw[e0,e1]) h
def v8 (zz:Expr) (f:Expr->Bool):Bool:=dW' zz fun y1 y2 y3=>oQ' y1 (f y2)
theorem yE' {zz f} {P:Prop} (h:v8 zz f=true) (k:∀ea w1,zz=.UnaryOp .Not ea w1->f ea=true->P):P:=by
 obtain⟨y1,y2,y3,e0,h⟩:=dB' h
 obtain⟨e1,h⟩:=kQ' h
 exact k y2 y3 (by rw[e0,e1]) h
def v9 (zz:Expr) (f:Expr->CmpOp->Expr->Bool):Bool:=dX' zz fun y1 y2 y3 y4=>aL' y2 fun y5 y6=>bx' y6 (aL' y3 fun y7 y8=>bx' y8 (f y1 y5 y7))
theorem wa' {zz f} {P:Prop} (h:v9 zz f=true) (k:∀ea op' eb w1,zz=.Compare ea (op' :: []) (eb :: []) w1->f ea op' eb=true->P):P:=by
 obtain⟨y1,y2,y3,y4,e0,h⟩:=dC' h
 obtain⟨y5,y6,e1,h⟩:=an' h
 obtain⟨e2,h⟩:=aq' h
 obtain⟨y7,y8,e3,h⟩:=an' h
 obtain⟨e4,h⟩:=aq' h
 exact k y1 y5 y7 y4 (by rw[e0,e1,e2,e3,e4]) h
def v10 (zz:Expr) (f:Expr->CmpOp->CmpOp->Expr->Expr->Bool):Bool:=dX' zz fun y1 y2 y3 y4=>aL' y2 fun y5 y6=>aL' y6 fun y7 y8=>bx' y8 (aL' y3 fun y9 y10=>aL' y10 fun y11 y12=>bx' y12 (f y1 y5 y7 y9 y11))
theorem ts' {zz f} {P:Prop} (h:v10 zz f=true) (k:∀ea o1 o2 eb ec w1,zz=.Compare ea (o1 :: (o2 :: [])) (eb :: (ec :: [])) w1->f ea o1 o2 eb ec=true->P):P:=by
 obtain⟨y1,y2,y3,y4,e0,h⟩:=dC' h
 obtain⟨y5,y6,e1,h⟩:=an' h
 obtain⟨y7,y8,e2,h⟩:=an' h
 obtain⟨e3,h⟩:=aq' h
 obtain⟨y9,y10,e4,h⟩:=an' h
 obtain⟨y11,y12,e5,h⟩:=an' h
 obtain⟨e6,h⟩:=aq' h
 exact k y1 y5 y7 y9 y11 y4 (by rw[e0,e1,e2,e3,e4,e5,e6]) h
def v11 (zz:Expr) (f:Expr->Expr->Expr->Bool):Bool:=ii' zz fun y1 y2 y3 y4=>f y1 y2 y3
theorem w2' {zz f} {P:Prop} (h:v11 zz f=true) (k:∀eq ea eb w1,zz=.IfExp eq ea eb w1->f eq ea eb=true->P):P:=by
 obtain⟨y1,y2,y3,y4,e0,h⟩:=hh' h
 exact k y1 y2 y3 y4 (by rw[e0]) h
def v12 (zz:Expr) (f:List Expr->Bool):Bool:=ij' zz fun y1 y2 y3=>f y1
theorem tt' {zz f} {P:Prop} (h:v12 zz f=true) (k:∀xs w1 w2,zz=.Tuple xs w1 w2->f xs=true->P):P:=by
 obtain⟨y1,y2,y3,e0,h⟩:=hr' h
 exact k y1 y2 y3 (by rw[e0]) h
def v13 (zz:Expr) (f:List Expr->Bool):Bool:=kR' zz fun y1 y2=>f y1
theorem w3' {zz f} {P:Prop} (h:v13 zz f=true) (k:∀xs w1,zz=.List xs w1->f xs=true->P):P:=by
 obtain⟨y1,y2,e0,h⟩:=iZ' h
 exact k y1 y2 (by rw[e0]) h
def v14 (zz:Expr) (f:Expr->Expr->Bool):Bool:=b3' zz fun y1 y2 y3=>f y1 y2
theorem tu' {zz f} {P:Prop} (h:v14 zz f=true) (k:∀ea eb w1,zz=.Subscript ea eb w1->f ea eb=true->P):P:=by
 obtain⟨y1,y2,y3,e0,h⟩:=bT' h
 exact k y1 y2 y3 (by rw[e0]) h
def v15 (zz:Expr) (f:Expr->Option Expr->Option Expr->Bool):Bool:=b3' zz fun y1 y2 y3=>ik' y2 fun y4 y5 y6 y7=>kJ' y6 (f y1 y4 y5)
theorem w4' {zz f} {P:Prop} (h:v15 zz f=true) (k:∀ea l h w1 w2,zz=.Subscript ea (.Slice l h none w1) w2->f ea l h=true->P):P:=by
 obtain⟨y1,y2,y3,e0,h⟩:=bT' h
 obtain⟨y4,y5,y6,y7,e1,h⟩:=ht' h
 obtain⟨e2,h⟩:=go' h
 exact k y1 y4 y5 y7 y3 (by rw[e0,e1,e2]) h
def v16 (zz:Expr) (f:Str->Expr->List Expr->Bool):Bool:=dY' zz fun y1 y2 y3 y4=>cV' y1 fun y5 y6=>aL' y2 fun y7 y8=>bx' y3 (f y5 y7 y8)
theorem tv' {zz f} {P:Prop} (h:v16 zz f=true) (k:∀x w1 e r w2,zz=.Call (.Name x w1) (e :: r) [] w2->f x e r=true->P):P:=by
 obtain⟨y1,y2,y3,y4,e0,h⟩:=ck' h
 obtain⟨y5,y6,e1,h⟩:=bk' h
 obtain⟨y7,y8,e2,h⟩:=an' h
 obtain⟨e3,h⟩:=aq' h
 exact k y5 y6 y7 y8 y4 (by rw[e0,e1,e2,e3]) h
def v17 (zz:Expr) (f:Expr->Str->Pos->List Expr->Pos->Bool):Bool:=dY' zz fun y1 y2 y3 y4=>cW' y1 fun y5 y6 y7=>bx' y3 (f y5 y6 y7 y2 y4)
theorem w5' {zz f} {P:Prop} (h:v17 zz f=true) (k:∀eo nm apos args pos,zz=.Call (.Attribute eo nm apos) args [] pos->f eo nm apos args pos=true->P):P:=by
 obtain⟨y1,y2,y3,y4,e0,h⟩:=ck' h
 obtain⟨y5,y6,y7,e1,h⟩:=cX' h
 obtain⟨e2,h⟩:=aq' h
 exact k y5 y6 y7 y2 y4 (by rw[e0,e1,e2]) h
def v20 (zz:Expr) (f:Expr->Str->Pos->Expr->Pos->Bool):Bool:=dY' zz fun y1 y2 y3 y4=>cW' y1 fun y5 y6 y7=>aL' y2 fun y8 y9=>bx' y9 (bx' y3 (f y5 y6 y7 y8 y4))
theorem w6' {zz f} {P:Prop} (h:v20 zz f=true) (k:∀eo nm apos y pos,zz=.Call (.Attribute eo nm apos) (y :: []) [] pos->f eo nm apos y pos=true->P):P:=by
 obtain⟨y1,y2,y3,y4,e0,h⟩:=ck' h
 obtain⟨y5,y6,y7,e1,h⟩:=cX' h
 obtain⟨y8,y9,e2,h⟩:=an' h
 obtain⟨e3,h⟩:=aq' h
 obtain⟨e4,h⟩:=aq' h
 exact k y5 y6 y7 y8 y4 (by rw[e0,e1,e2,e3,e4]) h
def v23 (zz:Expr) (f:Str->Expr->Bool):Bool:=dY' zz fun y1 y2 y3 y4=>cV' y1 fun y5 y6=>aL' y2 fun y7 y8=>bx' y8 (bx' y3 (f y5 y7))
theorem tw' {zz f} {P:Prop} (h:v23 zz f=true) (k:∀x w1 y w2,zz=.Call (.Name x w1) (y :: []) [] w2->f x y=true->P):P:=by
 obtain⟨y1,y2,y3,y4,e0,h⟩:=ck' h
 obtain⟨y5,y6,e1,h⟩:=bk' h
 obtain⟨y7,y8,e2,h⟩:=an' h
 obtain⟨e3,h⟩:=aq' h
 obtain⟨e4,h⟩:=aq' h
 exact k y5 y6 y7 y4 (by rw[e0,e1,e2,e3,e4]) h
def v26 (zz:Expr) (f:Expr->Expr->Expr->List Expr->Int->Scope->Bool):Bool:=cs' zz fun y1 y2 y3 y4=>aL' y2 fun y5 y6=>eT' y5 fun y7 y8 y9 y10=>bx' y6 (f y1 y7 y8 y9 y10 y3)
theorem w7' {zz f} {P:Prop} (h:v26 zz f=true) (k:∀ee tg iter ifs a scope w1,zz=.ListComp ee (⟨tg,iter,ifs,a⟩ :: []) scope w1->f ee tg iter ifs a scope=true->P):P:=by
 obtain⟨y1,y2,y3,y4,e0,h⟩:=ca' h
 obtain⟨y5,y6,e1,h⟩:=an' h
 obtain⟨y7,y8,y9,y10,e2,h⟩:=bB' h
 obtain⟨e3,h⟩:=aq' h
 exact k y1 y7 y8 y9 y10 y3 y4 (by rw[e0,e1,e2,e3]) h
def v27 (zz:Expr) (f:Expr->Expr->Expr->List Expr->Int->Expr->Expr->List Expr->Int->Scope->Bool):Bool:=cs' zz fun y1 y2 y3 y4=>aL' y2 fun y5 y6=>eT' y5 fun y7 y8 y9 y10=>aL' y6 fun y11 y12=>eT' y11 fun y13 y14 y15 y16=>bx' y12 (f y1 y7 y8 y9 y10 y13 y14 y15 y16 y3)
theorem w8' {zz f} {P:Prop} (h:v27 zz f=true) (k:∀ee tg iter ifs a tg2 iter2 ifs2 a2 scope w1,zz=.ListComp ee (⟨tg,iter,ifs,a⟩ :: (⟨tg2,iter2,ifs2,a2⟩ :: [])) scope w1->f ee tg iter ifs a tg2 iter2 ifs2 a2 scope=true->P):P:=by
 obtain⟨y1,y2,y3,y4,e0,h⟩:=ca' h
 obtain⟨y5,y6,e1,h⟩:=an' h
 obtain⟨y7,y8,y9,y10,e2,h⟩:=bB' h
 obtain⟨y11,y12,e3,h⟩:=an' h
 obtain⟨y13,y14,y15,y16,e4,h⟩:=bB' h
 obtain⟨e5,h⟩:=aq' h
 exact k y1 y7 y8 y9 y10 y13 y14 y15 y16 y3 y4 (by rw[e0,e1,e2,e3,e4,e5]) h
def v28 (zz:Expr) (f:Expr->Expr->Expr->List Expr->Int->Expr->Expr->List Expr->Int->Expr->Expr->List Expr->Int->Scope->Bool):Bool:=cs' zz fun y1 y2 y3 y4=>aL' y2 fun y5 y6=>eT' y5 fun y7 y8 y9 y10=>aL' y6 fun y11 y12=>eT' y11 fun y13 y14 y15 y16=>aL' y12 fun y17 y18=>eT' y17 fun y19 y20 y21 y22=>bx' y18 (f y1 y7 y8 y9 y10 y13 y14 y15 y16 y19 y20 y21 y22 y3)
theorem w9' {zz f} {P:Prop} (h:v28 zz f=true) (k:∀ee tg iter ifs a tg2 iter2 ifs2 a2 tg3 iter3 ifs3 a3 scope w1,zz=.ListComp ee (⟨tg,iter,ifs,a⟩ :: (⟨tg2,iter2,ifs2,a2⟩ :: (⟨tg3,iter3,ifs3,a3⟩ :: []))) scope w1->f ee tg iter ifs a tg2 iter2 ifs2 a2 tg3 iter3 ifs3 a3 scope=true->P):P:=by
 obtain⟨y1,y2,y3,y4,e0,h⟩:=ca' h
 obtain⟨y5,y6,e1,h⟩:=an' h
 obtain⟨y7,y8,y9,y10,e2,h⟩:=bB' h
 obtain⟨y11,y12,e3,h⟩:=an' h
 obtain⟨y13,y14,y15,y16,e4,h⟩:=bB' h
 obtain⟨y17,y18,e5,h⟩:=an' h
 obtain⟨y19,y20,y21,y22,e6,h⟩:=bB' h
 obtain⟨e7,h⟩:=aq' h
 exact k y1 y7 y8 y9 y10 y13 y14 y15 y16 y19 y20 y21 y22 y3 y4 (by rw[e0,e1,e2,e3,e4,e5,e6,e7]) h
def v29 (zz:List Expr) (f:Bool):Bool:=bx' zz (f)
theorem kU' {zz f} {P:Prop} (h:v29 zz f=true) (k:zz=[]->f=true->P):P:=by
 obtain⟨e0,h⟩:=aq' h
 exact k (by rw[e0]) h
def v30 (zz:List Expr) (f:Expr->List Expr->Bool):Bool:=aL' zz fun y1 y2=>f y1 y2
theorem m3' {zz f} {P:Prop} (h:v30 zz f=true) (k:∀x xs,zz=(x :: xs)->f x xs=true->P):P:=by
 obtain⟨y1,y2,e0,h⟩:=an' h
 exact k y1 y2 (by rw[e0]) h
def v31 (zz:List Expr) (f:Expr->Bool):Bool:=aL' zz fun y1 y2=>bx' y2 (f y1)
theorem xa' {zz f} {P:Prop} (h:v31 zz f=true) (k:∀e,zz=(e :: [])->f e=true->P):P:=by
 obtain⟨y1,y2,e0,h⟩:=an' h
 obtain⟨e1,h⟩:=aq' h
 exact k y1 (by rw[e0,e1]) h
def v32 (zz:Option Expr) (f:Bool):Bool:=kJ' zz (f)
theorem xb' {zz f} {P:Prop} (h:v32 zz f=true) (k:zz=none->f=true->P):P:=by
 obtain⟨e0,h⟩:=go' h
 exact k (by rw[e0]) h
def v33 (zz:Option Expr) (f:Expr->Bool):Bool:=kK' zz fun y1=>f y1
theorem xc' {zz f} {P:Prop} (h:v33 zz f=true) (k:∀y,zz=(some y)->f y=true->P):P:=by
 obtain⟨y1,e0,h⟩:=gp' h
 exact k y1 (by rw[e0]) h
def v34 (zz:Expr) (f:Str->Expr->Expr->Bool):Bool:=dY' zz fun y1 y2 y3 y4=>cV' y1 fun y5 y6=>aL' y2 fun y7 y8=>aL' y8 fun y9 y10=>bx' y10 (bx' y3 (f y5 y7 y9))
theorem xd' {zz f} {P:Prop} (h:v34 zz f=true) (k:∀n w1 y z w2,zz=.Call (.Name n w1) (y :: (z :: [])) [] w2->f n y z=true->P):P:=by
 obtain⟨y1,y2,y3,y4,e0,h⟩:=ck' h
 obtain⟨y5,y6,e1,h⟩:=bk' h
 obtain⟨y7,y8,e2,h⟩:=an' h
 obtain⟨y9,y10,e3,h⟩:=an' h
 obtain⟨e4,h⟩:=aq' h
 obtain⟨e5,h⟩:=aq' h
 exact k y5 y6 y7 y9 y4 (by rw[e0,e1,e2,e3,e4,e5]) h
def v36 (zz:Stmt) (f:Expr->Bool):Bool:=kS' zz fun y1 y2=>f y1
theorem xe' {zz f} {P:Prop} (h:v36 zz f=true) (k:∀x w1,zz=.Expr x w1->f x=true->P):P:=by
 obtain⟨y1,y2,e0,h⟩:=i0' h
 exact k y1 y2 (by rw[e0]) h
def v37 (zz:Stmt) (f:Expr->Bool):Bool:=gq' zz fun y1 y2=>kK' y1 fun y3=>f y3
theorem xf' {zz f} {P:Prop} (h:v37 zz f=true) (k:∀x w1,zz=.Return (some x) w1->f x=true->P):P:=by
 obtain⟨y1,y2,e0,h⟩:=gr' h
 obtain⟨y3,e1,h⟩:=gp' h
 exact k y3 y2 (by rw[e0,e1]) h
def v39 (zz:Stmt) (f:Expr->Expr->Bool):Bool:=dD' zz fun y1 y2 y3=>aL' y1 fun y4 y5=>bx' y5 (f y4 y2)
theorem xg' {zz f} {P:Prop} (h:v39 zz f=true) (k:∀tg x w1,zz=.Assign (tg :: []) x w1->f tg x=true->P):P:=by
 obtain⟨y1,y2,y3,e0,h⟩:=cY' h
 obtain⟨y4,y5,e1,h⟩:=an' h
 obtain⟨e2,h⟩:=aq' h
 exact k y4 y2 y3 (by rw[e0,e1,e2]) h
def v41 (zz:Stmt) (f:Str->Pos->Expr->Expr->Expr->List Expr->Int->Expr->Expr->List Expr->Int->Scope->Bool):Bool:=dD' zz fun y1 y2 y3=>aL' y1 fun y4 y5=>cV' y4 fun y6 y7=>bx' y5 (e7' y2 fun y8 y9 y10 y11=>aL' y9 fun y12 y13=>eT' y12 fun y14 y15 y16 y17=>aL' y13 fun y18 y19=>eT' y18 fun y20 y21 y22 y23=>bx' y19 (f y6 y7 y8 y14 y15 y16 y17 y20 y21 y22 y23 y10))
theorem xh' {zz f} {P:Prop} (h:v41 zz f=true) (k:∀y py ee tg iter ifs a tg2 iter2 ifs2 a2 scope w1 w2,zz=.Assign ((.Name y py) :: []) (.SetComp ee (⟨tg,iter,ifs,a⟩ :: (⟨tg2,iter2,ifs2,a2⟩ :: [])) scope w1) w2->f y py ee tg iter ifs a tg2 iter2 ifs2 a2 scope=true->P):P:=by
 obtain⟨y1,y2,y3,e0,h⟩:=cY' h
 obtain⟨y4,y5,e1,h⟩:=an' h
 obtain⟨y6,y7,e2,h⟩:=bk' h
 obtain⟨e3,h⟩:=aq' h
 obtain⟨y8,y9,y10,y11,e4,h⟩:=fy' h
 obtain⟨y12,y13,e5,h⟩:=an' h
 obtain⟨y14,y15,y16,y17,e6,h⟩:=bB' h
 obtain⟨y18,y19,e7,h⟩:=an' h
 obtain⟨y20,y21,y22,y23,e8,h⟩:=bB' h
 obtain⟨e9,h⟩:=aq' h
 exact k y6 y7 y8 y14 y15 y16 y17 y20 y21 y22 y23 y10 y11 y3 (by rw[e0,e1,e2,e3,e4,e5,e6,e7,e8,e9]) h
def v42 (zz:Stmt) (f:Str->Pos->Expr->Expr->Expr->Expr->List Expr->Int->Scope->Bool):Bool:=dD' zz fun y1 y2 y3=>aL' y1 fun y4 y5=>cV' y4 fun y6 y7=>bx' y5 (eF' y2 fun y8 y9 y10 y11 y12=>aL' y10 fun y13 y14=>eT' y13 fun y15 y16 y17 y18=>bx' y14 (f y6 y7 y8 y9 y15 y16 y17 y18 y11))
theorem xi' {zz f} {P:Prop} (h:v42 zz f=true) (k:∀y py ke ve tg iter ifs a scope w1 w2,zz=.Assign ((.Name y py) :: []) (.DictComp ke ve (⟨tg,iter,ifs,a⟩ :: []) scope w1) w2->f y py ke ve tg iter ifs a scope=true->P):P:=by
 obtain⟨y1,y2,y3,e0,h⟩:=cY' h
 obtain⟨y4,y5,e1,h⟩:=an' h
 obtain⟨y6,y7,e2,h⟩:=bk' h
 obtain⟨e3,h⟩:=aq' h
 obtain⟨y8,y9,y10,y11,y12,e4,h⟩:=eU' h
 obtain⟨y13,y14,e5,h⟩:=an' h
 obtain⟨y15,y16,y17,y18,e6,h⟩:=bB' h
 obtain⟨e7,h⟩:=aq' h
 exact k y6 y7 y8 y9 y15 y16 y17 y18 y11 y12 y3 (by rw[e0,e1,e2,e3,e4,e5,e6,e7]) h
def v49 (zz:Stmt) (f:Str->Operator->Expr->Bool):Bool:=cZ' zz fun y1 y2 y3 y4=>cV' y1 fun y5 y6=>f y5 y2 y3
theorem xj' {zz f} {P:Prop} (h:v49 zz f=true) (k:∀x w1 op ee w2,zz=.AugAssign (.Name x w1) op ee w2->f x op ee=true->P):P:=by
 obtain⟨y1,y2,y3,y4,e0,h⟩:=c0' h
 obtain⟨y5,y6,e1,h⟩:=bk' h
 exact k y5 y6 y2 y3 y4 (by rw[e0,e1]) h
def v50 (zz:Stmt) (f:Expr->List Stmt->List Stmt->Bool):Bool:=tr' zz fun y1 y2 y3 y4=>f y1 y2 y3
theorem xk' {zz f} {P:Prop} (h:v50 zz f=true) (k:∀x ss rs w1,zz=.If x ss rs w1->f x ss rs=true->P):P:=by
 obtain⟨y1,y2,y3,y4,e0,h⟩:=m2' h
 exact k y1 y2 y3 y4 (by rw[e0]) h
def v51 (zz:Stmt) (f:Expr->List Stmt->Bool):Bool:=il' zz fun y1 y2 y3 y4=>bx' y3 (f y1 y2)
theorem xl' {zz f} {P:Prop} (h:v51 zz f=true) (k:∀x ss w1,zz=.While x ss [] w1->f x ss=true->P):P:=by
 obtain⟨y1,y2,y3,y4,e0,h⟩:=hv' h
 obtain⟨e1,h⟩:=aq' h
 exact k y1 y2 y4 (by rw[e0,e1]) h
def v52 (zz:Stmt) (f:Expr->Expr->List Stmt->Bool):Bool:=oR' zz fun y1 y2 y3 y4 y5=>bx' y4 (f y1 y2 y3)
theorem xm' {zz f} {P:Prop} (h:v52 zz f=true) (k:∀tg iter ss w1,zz=.For tg iter ss [] w1->f tg iter ss=true->P):P:=by
 obtain⟨y1,y2,y3,y4,y5,e0,h⟩:=kT' h
 obtain⟨e1,h⟩:=aq' h
 exact k y1 y2 y3 y5 (by rw[e0,e1]) h
def v56 (zz:List Stmt) (f:Bool):Bool:=bx' zz (f)
theorem xn' {zz f} {P:Prop} (h:v56 zz f=true) (k:zz=[]->f=true->P):P:=by
 obtain⟨e0,h⟩:=aq' h
 exact k (by rw[e0]) h
def v57 (zz:List Stmt) (f:Stmt->List Stmt->Bool):Bool:=aL' zz fun y1 y2=>f y1 y2
theorem xo' {zz f} {P:Prop} (h:v57 zz f=true) (k:∀x xs,zz=(x :: xs)->f x xs=true->P):P:=by
 obtain⟨y1,y2,e0,h⟩:=an' h
 exact k y1 y2 (by rw[e0]) h
def v58 (zz:Stmt) (f:Expr->Expr->Operator->Expr->Bool):Bool:=cZ' zz fun y1 y2 y3 y4=>b3' y1 fun y5 y6 y7=>f y5 y6 y2 y3
theorem xp' {zz f} {P:Prop} (h:v58 zz f=true) (k:∀eo ei w1 op ee w2,zz=.AugAssign (.Subscript eo ei w1) op ee w2->f eo ei op ee=true->P):P:=by
 obtain⟨y1,y2,y3,y4,e0,h⟩:=c0' h
 obtain⟨y5,y6,y7,e1,h⟩:=bT' h
 exact k y5 y6 y7 y2 y3 y4 (by rw[e0,e1]) h
mutual
def mE (N B:List Str) (sc:Scope):Ce->Expr->Bool
 | .var i,e=>v1 e fun x=>gk' N i x&&vis sc x
 | .int n,e=>v2 e fun m=>decide (n=m)
 | .bl b,e=>v3 e fun c=>decide (b=c)
 | .non,e=>v4 e (true)
 | .str x,e=>v5 e fun y=>decide (x=y)
 | .ty n,e=>v1 e fun x=>decide (x=Str.ofString n)&&glb sc x&&gl'.contains n&&decide (x∈B)
 | .bin op a b,e=>v6 e fun ea op' eb=>decide (op=op')&&mE N B sc a ea&&mE N B sc b eb
 | .neg a,e=>v7 e fun ea=>mE N B sc a ea
 | .not a,e=>v8 e fun ea=>mE N B sc a ea
 | .and a b,e=>w1' e fun x y=>mE N B sc a x&&mE N B sc b y
 | .or a b,e=>vOr e fun x y=>mE N B sc a x&&mE N B sc b y
 | .cmp op a b,e=>v9 e fun ea op' eb=>decide (op=op')&&mE N B sc a ea&&mE N B sc b eb&&aS' eb
 | .chn op1 op2 a b c,e=>v10 e fun ea o1 o2 eb ec=>decide (op1=o1)&&decide (op2=o2)&&mE N B sc a ea&&mE N B sc b eb&&mE N B sc c ec&&aS' ec
 | .ife q a b,e=>v11 e fun eq ea eb=>mQ N B sc q eq&&mE N B sc a ea&&mE N B sc b eb
 | .tup es,e=>v12 e fun xs=>mA N B sc es xs
 | .lst es,e=>v13 e fun xs=>mA N B sc es xs
 | .idx a b,e=>v14 e fun ea eb=>mE N B sc a ea&&mE N B sc b eb&&c6' eb
 | .cut a lo hi,e=>v15 e fun ea l h=>mE N B sc a ea&&mO N B sc lo l&&mO N B sc hi h
 | .call f es,e=>v16 e fun x e r=>decide (x=f)&&glb sc x&&mA N B sc es (e :: r)&&!(x == ("__debug__":Str))&&!(hat B)&&!(tld B&&decide (rY' x∈B))
 | .blt f es,e=>v16 e fun x e r=>decide (x=eE' f)&&glb sc x&&mA N B sc es (e :: r)&&decide (x∈B)&&(!(hat B) || decide (f=.isinstance))
 | .met m o es,e=>v17 e fun eo nm apos args pos=>decide (nm=kF' m)&&mE N B sc o eo&&kG' eo&&(apos.endLine == pos.line)&&mA N B sc es args&&decide (args.length<28)
 | .din neg a b,e=>v9 e fun ea op' eb=>decide (op'=if neg then .NotIn else .In)&&mE N B sc a ea&&mE N B sc b eb&&aS' eb
 | .dgt a b,e=>v20 e fun eo nm apos y pos=>decide (nm="get")&&mE N B sc a eo&&kG' eo&&(apos.endLine == pos.line)&&mE N B sc b y&&bd' y
 | .gint x _,e=>v1 e fun y=>decide (y=x)&&glb sc y&&!(y == ("__debug__":Str))
 | .comp elt own t it q .nil,e=>v26 e fun ee tg iter ifs a scope=>!(hat B)&&jl' N sc scope own&&mE N ("~" :: B) scope elt ee&&fx' own t&&decide (a=0)&&mI N B sc it iter&&gm' it tg&&aS' iter&&mT N ("~" :: B) scope t tg&&mQo N ("~" :: B) scope q ifs
 | .comp elt own t it q (.cons ws t2 it2 q2 .nil),e=>v27 e fun ee tg iter ifs a tg2 iter2 ifs2 a2 scope=>!(hat B)&&jl' N sc scope own&&mE N ("~" :: B) scope elt ee&&fx' own t&&decide (a=0)&&mI N B sc it iter&&gm' it tg&&aS' iter&&mT N ("~" :: B) scope t tg&&mQo N ("~" :: B) scope q ifs&&
    decide (a2=0)&&mI N ("~" :: B) scope it2 iter2&&gm' it2 tg2&&aS' iter2&&mT N ("~" :: B) scope t2 tg2&&mQo N ("~" :: B) scope q2 ifs2&&fx' ws t2&&ws.all (fun j=>decide (j∈own))
 | .comp elt own t it q (.cons ws t2 it2 q2 (.cons ws3 t3 it3 q3 .nil)),e=>v28 e fun ee tg iter ifs a tg2 iter2 ifs2 a2 tg3 iter3 ifs3 a3 scope=>!(hat B)&&jl' N sc scope own&&mE N ("~" :: B) scope elt ee&&fx' own t&&decide (a=0)&&mI N B sc it iter&&gm' it tg&&aS' iter&&mT N ("~" :: B) scope t tg&&mQo N ("~" :: B) scope q ifs&&
    decide (a2=0)&&mI N ("~" :: B) scope it2 iter2&&gm' it2 tg2&&aS' iter2&&mT N ("~" :: B) scope t2 tg2&&mQo N ("~" :: B) scope q2 ifs2&&fx' ws t2&&ws.all (fun j=>decide (j∈own))&&
    decide (a3=0)&&mI N ("~" :: B) scope it3 iter3&&gm' it3 tg3&&aS' iter3&&mT N ("~" :: B) scope t3 tg3&&mQo N ("~" :: B) scope q3 ifs3&&fx' ws3 t3&&ws3.all (fun j=>decide (j∈ws))
 | .comp _ _ _ _ _ (.cons _ _ _ _ (.cons _ _ _ _ (.cons _ _ _ _ _))),_=>false
def mA (N B:List Str) (sc:Scope):Ces->List Expr->Bool
 | .nil,es=>v29 es (true)
 | .cons e r,es=>v30 es fun x xs=>mE N B sc e x&&bd' x&&mA N B sc r xs
def mQ (N B:List Str) (sc:Scope):Cq->Expr->Bool
 | .val e,x=>mE N B sc e x&&oM' x
 | .not q,x=>v8 x fun y=>mQ N B sc q y
 | .and a b,e=>w1' e fun x y=>mQ N B sc a x&&mQ N B sc b y
 | .or a b,e=>vOr e fun x y=>mQ N B sc a x&&mQ N B sc b y
 | .cmp op a b,e=>v9 e fun ea op' eb=>decide (op=op')&&mE N B sc a ea&&mE N B sc b eb&&aS' eb
 | .chn op1 op2 a b c,e=>v10 e fun ea o1 o2 eb ec=>decide (op1=o1)&&decide (op2=o2)&&mE N B sc a ea&&mE N B sc b eb&&mE N B sc c ec&&aS' ec
 | .din neg a b,e=>v9 e fun ea op' eb=>decide (op'=if neg then .NotIn else .In)&&mE N B sc a ea&&mE N B sc b eb&&aS' eb
def mQo (N B:List Str) (sc:Scope):Cqo->List Expr->Bool
 | .none,es=>v29 es (true)
 | .some q,es=>v31 es fun e=>mQ N B sc q e
def mO (N B:List Str) (sc:Scope):Co->Option Expr->Bool
 | .none,x=>v32 x (true)
 | .some e,x=>v33 x fun y=>mE N B sc e y
def mI (N B:List Str) (sc:Scope):Ci->Expr->Bool
 | .val e,x=>mE N B sc e x
 | .range1 a,x=>v23 x fun n y=>decide (n="range")&&glb sc n&&decide (n∈B)&&mE N B sc a y&&bd' y
 | .range2 a b,x=>v34 x fun n y z=>decide (n="range")&&glb sc n&&decide (n∈B)&&mE N B sc a y&&bd' y&&mE N B sc b z&&bd' z
 | .enum a,x=>v23 x fun n y=>decide (n="enumerate")&&glb sc n&&decide (n∈B)&&mE N B sc a y&&bd' y
def mT (N B:List Str) (sc:Scope):Ct->Expr->Bool
 | .name i,e=>v1 e fun x=>gk' N i x&&locb sc x
 | .tup ts,e=>v12 e fun es=>mTs N B sc ts es&&!(hat B)
 | .sub o i,e=>v14 e fun eo ei=>mE N B sc o eo&&mE N B sc i ei&&c6' ei
def mTs (N B:List Str) (sc:Scope):Cts->List Expr->Bool
 | .nil,es=>v29 es (true)
 | .cons t r,es=>v30 es fun x xs=>mT N B sc t x&&bd' x&&mTs N B sc r xs
end
def hw':Ce->Bool
 |_=>false
mutual
def mS (N B:List Str) (sc:Scope):Cs->Stmt->Bool
 | .expr e,s=>v36 s fun x=>mE N B sc e x&&(match e with | .comp ..=>false|_=>true)&&!hw' e
 | .ret e,s=>v37 s fun x=>mE N B sc e x
 | .asg t e,s=>v39 s fun tg x=>mE N B sc e x&&!hw' e&&mT N B sc t tg&&bd' tg&&(match tg,x with
   | .Tuple ..,.Tuple vs _ _=>vs.all (foldedForSure 8)
   | .Tuple ..,.ListComp ..=>false
   |_,_=>true)
 | .setc2 i elt own t it q ws t2 it2 q2,s=>v41 s fun y py ee tg iter ifs a tg2 iter2 ifs2 a2 scope=>!(hat B)&&mT N B sc (.name i) (.Name y py)&&jl' N sc scope own&&mE N ("~" :: B) scope elt ee&&fx' own t&&decide (a=0)&&mI N B sc it iter&&gm' it tg&&aS' iter&&mT N ("~" :: B) scope t tg&&mQo N ("~" :: B) scope q ifs&&
    decide (a2=0)&&mI N ("~" :: B) scope it2 iter2&&gm' it2 tg2&&aS' iter2&&mT N ("~" :: B) scope t2 tg2&&mQo N ("~" :: B) scope q2 ifs2&&fx' ws t2&&ws.all (fun j=>decide (j∈own))
 | .dctc _ i k v own t it q,s=>v42 s fun y py ke ve tg iter ifs a scope=>!(hat B)&&mT N B sc (.name i) (.Name y py)&&jl' N sc scope own&&mE N ("~" :: B) scope k ke&&mE N ("~" :: B) scope v ve&&fx' own t&&decide (a=0)&&mI N B sc it iter&&gm' it tg&&aS' iter&&mT N ("~" :: B) scope t tg&&mQo N ("~" :: B) scope q ifs
 | .aug i sub e,s=>v49 s fun x op ee=>gk' N i x&&locb sc x&&mE N B sc e ee&&decide (op=if sub then .Sub else .Add)
 | .augS o i sub e,s=>v58 s fun eo ei op ee=>mE N B sc o eo&&mE N B sc i ei&&c6' ei&&mE N B sc e ee&&decide (op=if sub then .Sub else .Add)
 | .ite q a b,s=>v50 s fun x ss rs=>mQ N B sc q x&&mSs N B sc a ss&&mSs N B sc b rs
 | .whl q b,s=>v51 s fun x ss=>mQ N B sc q x&&mSs N B sc b ss
 | .for_ t it b,s=>v52 s fun tg iter ss=>mI N B sc it iter&&gm' it tg&&aS' iter&&mT N B sc t tg&&mSs N B sc b ss&&!(hat B)
def mSs (N B:List Str) (sc:Scope):Css->List Stmt->Bool
 | .nil,ss=>v56 ss (true)
 | .cons s r,ss=>v57 ss fun x xs=>mS N B sc s x&&mSs N B sc r xs
end
def ql' (CX:CXT) (X:Cx) (xk:L2.St->XK):Prop:=∀(pins:List (Addr×Obj)) (σ:L2.St) (H:Hp) (s:Shared) (e:Value) (s':Shared),Inv X pins σ H s->CX X.stack H s (xk σ) e s'->X.xe e s'
theorem oS' {X:Cx} {xk:L2.St->XK}:ql' CX0 X xk:=fun _ _ _ _ _ _ _ h=>h.elim
structure Rok (C:Rc) (B:List Str) (X:Cx) (sc:Scope):Prop where
 hN:X.N=C.N
 nd:C.N.Nodup
 hK:X.K=C.K
 own:PassesOwn (model X.prog X.w) X.A X.env X.xe
 calm:hat B=false->X.calm=true
 hu:X.A.units+64<cLine
 gd:X.A.guards=some []
 loc:∀x,sc.names.lookup x=some .local->X.env.scope.names.lookup x=some .local
 cel:∀x,sc.names.lookup x=some .cell->X.env.scope.names.lookup x=some .cell/\X.fn x=true
 fre:∀x,sc.names.lookup x=some .free->X.env.scope.names.lookup x=some .cell\/X.env.scope.names.lookup x=some .free
 glo:∀x,sc.names.lookup x=some .globalImplicit->X.env.kindOf x=some .globalImplicit
 fn:∀x sp,C.fs x=some sp->hat B=false->(tld B=true->rY' x∉B)->∃f fd ps k CX,FnOk X.prog X.w X.K X.mg X.base CX k f fd ps sp/\Room k X.A/\X.mg x=some (.ref f)/\W.keepIn X.K (.ref f)=true/\eO' X.K fd ps []/\(CX=CX0\/CX=CX1 X.prog X.w X.mg/\rY' x∈B)/\ql' CX X C.xk
 blt:∀x∈B,X.mg x=none
 mrk:X.mg "~"=none/\X.mg "^"=none/\X.mg "%"=none
 cls:∀c Ca,C.cl c=some Ca->X.mg c=some (.ref Ca)/\W.nsIn X.K mainGlobals c=some (some (.ref Ca))
 fx:tld B=false->FnCx X
 nohat:tld B=false->hat B=false
 xr:tld B=false->pct B=false->∀nm Ca pins σ H s e t,C.cl nm=some Ca->Inv X pins σ H s->H e=none->X.s₀.heap.get? e=none->(∀p∈X.pn++pins,p.1≠e)->s.heap.get? e=some { cls:=.ref Ca,data:=.fields #[.ref t,.none,.none,.none,.bool false,.none] }->C.xk σ (.str nm 0) none H->X.xe (.ref e) s
theorem Rok.hu1 {C:Rc} {B:List Str} {X:Cx} {sc:Scope} (R:Rok C B X sc):X.A.units+1<cLine:=by have:=R.hu;omega
section
variable {C:Rc} {B:List Str} {X:Cx} {sc:Scope}
set_option tactic.hygienic true in
theorem Rok.vis (R:Rok C B X sc) {x:Str} (h:R3.vis sc x=true):Vis X.env.scope x:=by
 unfold R3.vis at h
 split at h
 .rename_i e;exact .inl (R.loc x e)
 .rename_i e;exact .inr (.inl (R.cel x e).1)
 .rename_i e
  rcases R.fre x e with q|q
  .exact .inr (.inl q)
  .exact .inr (.inr q)
 .cases h
set_option tactic.hygienic true in
theorem Rok.locb (R:Rok C B X sc) {x:Str} (h:R3.locb sc x=true):Loc X.env.scope x/\(X.fn x=true\/X.env.scope.names.lookup x=some .local):=by
 unfold R3.locb at h
 split at h
 .rename_i e;exact⟨.inl (R.loc x e),.inr (R.loc x e)⟩
 .rename_i e;exact⟨.inr (R.cel x e).1,.inl (R.cel x e).2⟩
 .cases h
theorem Rok.glb (R:Rok C B X sc) {x:Str} (h:R3.glb sc x=true):Gl X x:=R.glo x (of_decide_eq_true h)
theorem cl' {N:List Str} {i:Nat} {x:Str} (h:gk' N i x=true):N[i]?=some x/\(x == ("__debug__":Str))=false/\(x == ("__classdict__":Str))=false:=by
 unfold gk' at h
 simp only[ac,decide_eq_true_eq,aZ]at h
 exact⟨h.1.1,h.1.2,h.2⟩
theorem au' {e:Expr} {es:List Expr} {env:Env} (h:bd' e=true):starEach (e :: es) env=(false,eval e env) :: starEach es env:=by
 cases e<;>first|rfl|cases h
theorem fz' {N B:List Str} {sc:Scope} {env:Env} {pos:Pos}:∀{es:Ces} {xs:List Expr},mA N B sc es xs=true->(backTo pos (starEach xs env)).any (·.1)=false
 | .nil,xs,h=>by
  refine kU' h fun e0 g=>?_
  clear h
  subst e0
  revert g
  intro h
  rfl
 | .cons e r,xs,h=>by
  refine m3' h fun x xs e0 g=>?_
  clear h
  subst e0
  revert g
  intro h
  simp only[ac]at h
  rw[au' h.1.2]
  have ih:=fz' (env:=env) (pos:=pos) (es:=r) h.2
  exact ih
theorem aZ' {e:Expr} {env:Env} (h:aS' e=true) (x:Value):foldedSetIterable e env x=pure x:=by
 cases e<;>first|rfl|cases h
theorem ct' {op:CmpOp} {e:Expr} (h:aS' e=true):behindInMarks op e=false:=by
 cases e<;>first|rfl|cases h
theorem kV' {o1 o2:CmpOp} {a e:Expr} (h:aS' e=true):lastMarks [o1,o2] [a,e]=false:=by
 show behindInMarks o2 e=false
 exact ct' h
theorem m4' {e:Expr} (h:c6' e=true):jK' e:=by
 intro o i
 cases e<;>first|rfl|cases h
theorem hz' {e:Expr} {f:Str} {env:Env} {w:Sem Value} (h:kG' e=true):attributeBase e f env w=w:=by
 cases e with
 |Call g args kw pos=>
  cases args with
  |nil=>cases h
  |cons a r=>cases g<;>rfl
 |_=>rfl
theorem kW' {e:Expr} {env:Env} (h:oM' e=true) (w:Sem Value):isTrue e env w=(do let v <- w;standAt e.pos;holding [v] (truthy v)):=by
 cases e with
 |UnaryOp op a p=>cases op<;>first|rfl|cases h
 |_=>first|rfl|cases h
theorem OpR.imp {f:Value->Value->Sem Value} {r r':R2} (h:OpR X f r) (i:∀x y H Q,r' x y H Q->r x y H Q):OpR X f r':=fun pins s σ H x y v u Q I rx ry q=>h pins s σ H x y v u Q I rx ry (i _ _ _ _ q)
theorem aX'.imp {f:Value} {r r':List V->Hp->VK->Prop} (h:aX' X f r) (i:∀xs H Q,r' xs H Q->r xs H Q):aX' X f r':=fun pins s σ H xs us Q I rv q=>h pins s σ H xs us Q I rv (i _ _ _ q)
theorem ixM:IxR X (oL' X.K):=by
 intro value slice pins s σ H x y v u Q I rx ry q hp
 refine sC' value slice pins s σ H x y v u Q I rx ry ?_ hp
 unfold oL' at q
 split at q
 .obtain⟨z,c,hc,q⟩:=q
  exact .inr (.inr ⟨_,_,c,rfl,rfl,z,hc,q⟩)
 .rcases q with q|q
  .exact .inl q
  .exact .inr (.inl q)
theorem tx' {CX:CXT} {k:Nat} {f:Addr} {fd:FuncData} {ps:List Str} {sp:Sp} {dvs:List V} {ds:List Value} {E:XK} {pins:List (Addr×Obj)} {σ:L2.St} {H:Hp} {s:Shared} {Q:VK} {us:List Value} {vs:List V} (F:FnOk X.prog X.w X.K X.mg X.base CX k f fd ps sp) (hr:Room k X.A) (hb:eO' X.K fd ps ds) (hd:aC' dvs ds)
  (hx:∀e s',CX X.stack H s E e s'->X.xe e s') (I:Inv X pins σ H s) (r:aC' vs us) (h:sp (vs++dvs) H Q E):wpAny (model X.prog X.w) X.A (call (.ref f) us) (EP X pins σ Q) X.xe s:=by
 have r2:=r.append hd
 have hl:(us++ds).length=ps.length:=r2.length ▸ F.len _ _ _ _ h
 have go:=F.run X.A X.stack s H ⟨us,[]⟩ (us++ds) (vs++dvs) Q E hr I.env0 (hb s us I.kIn hl) r2 h
 refine wpAny_call (codeAny_mono go fun r s' hq=>?_)
 match r,hq with
 | .error e,hq=>exact hx e s' hq
 | .ok (.ret u),hq=>exact I.after hq
theorem m5' {CX:CXT} {k:Nat} {f:Addr} {fd:FuncData} {ps:List Str} {sp:Sp} {dvs:List V} {ds:List Value} {xk:L2.St->XK} {x:Str} {p pos:Pos} {e:Expr} {es:List Expr} {t:TA} (F:FnOk X.prog X.w X.K X.mg X.base CX k f fd ps sp) (hr:Room k X.A) (hg:Gl X x) (hm:X.mg x=some (.ref f)) (hk:W.keepIn X.K (.ref f)=true) (hb:eO' X.K fd ps ds) (hd:aC' dvs ds) (hx:ql' CX X xk)
  (ha:PA X (e :: es) t) (hdb:(x == ("__debug__":Str))=false) (he:starEach (e :: es) X.env=(false,eval e X.env) :: starEach es X.env) (hpl:(backTo pos (starEach es X.env)).any (·.1)=false):
  PE X (.Call (.Name x p) (e :: es) [] pos) (fun σ H Q=>mE' sp dvs (xk σ) t σ H Q):=by
 intro pins s σ H Q I h
 refine wpAny_Call_Name_kw (jq' I hg hm ?_ hdb)
 exact W.callWith_K (h₀:=X.base) I.ok.mod.kin hk (thn (ha pos pins s σ H _ I h) fun us s1 ⟨vs,H1,I1,r,q⟩=>⟨I1.kIn,tx' F hr hb hd (fun e s' c=>hx pins σ H1 s1 e s' I1 c) I1 r q⟩) he hpl
theorem qm' {a:Int} (h:a.natAbs<2 ^ 100):(Builtin.Int.intBits a:Int)<=100:=by
 unfold Builtin.Int.intBits
 by_cases h0:a.natAbs=0
 .rw[if_pos (by simpa using h0)];decide
 .rw[if_neg (by simpa using h0)]
  have:=(Nat.log2_lt h0).mpr h
  omega
theorem qn' {X:Cx}:OpR X (binaryOp .LShift) (rI w0' fun i j=>.int (i*2 ^ j.toNat)):=opI fun _ _ _ _ _ _ _ hc q=>lshift_int hc.1 (by have:=qm' hc.2.2;have:=hc.2.1;omega) q
theorem ty' (op:Operator):OpR X (binaryOp op) (eS' X.K op):=by
 cases op with
 |Add=>
  refine OpR.imp ((si'.or iJ').or (sG'.or (pV'.or mQ'))) fun x y H Q q=>?_
  unfold eS' at q
  dsimp only at q
  split at q
  .exact .inl (.inl ⟨_,_,rfl,rfl,q⟩)
  .exact .inl (.inr ⟨_,_,rfl,rfl,q.1,q.2⟩)
  .exact .inr q
 |Sub=>exact sj'
 |Mult=>
  refine OpR.imp (p6'.or (iR'.or sH')) fun x y H Q q=>?_
  unfold eS' at q
  dsimp only at q
  split at q
  .refine .inl ⟨_,_,rfl,rfl,?_,q.2⟩
   rcases q.1 with h|h|h
   .exact vU'.ok (.inl h)
   .exact vU'.ok (.inr h)
   .exact h
  .exact .inr (.inl ⟨_,_,rfl,rfl,q.1,q.2.1,q.2.2.1,q.2.2.2⟩)
  .exact .inr (.inr q)
 |Mod=>exact sk'
 |FloorDiv=>
  refine OpR.imp (pM'.or mO') fun x y H Q q=>?_
  obtain⟨i,j,h1,h2,⟨h3,h4⟩,q⟩:=q
  rcases h4 with h4|h4
  .exact .inl ⟨i,j,h1,h2,⟨h3,h4⟩,q⟩
  .exact .inr ⟨i,j,h1,h2,⟨h3,h4⟩,q⟩
 |Pow=>exact sm'
 |LShift=>exact qn'
 |RShift=>exact sn'
 |MatMult=>exact fun _ _ _ _ _ _ _ _ _ _ _ _ h=>h.elim
 |Div=>exact fun _ _ _ _ _ _ _ _ _ _ _ _ h=>h.elim
 |BitOr=>exact fun _ _ _ _ _ _ _ _ _ _ _ _ h=>h.elim
 |BitXor=>exact fun _ _ _ _ _ _ _ _ _ _ _ _ h=>h.elim
 |BitAnd=>exact p9'
theorem e8' (hu':X.A.units+64<cLine) (op:CmpOp):OpR X (compareOp op) (cS' X.K op):=by
 cases op with
 |Eq=>
  refine OpR.imp (wA'.or ((sP' (by omega)).or (s1' hu'))) fun x y H Q q=>?_
  unfold cS' at q
  dsimp only at q
  split at q
  .exact .inr q
  .exact .inl q
 |NotEq=>
  refine OpR.imp (wB'.or ((sQ' (by omega)).or (s3' hu'))) fun x y H Q q=>?_
  unfold cS' at q
  dsimp only at q
  split at q
  .exact .inr q
  .exact .inl q
 |Lt=>exact wC'
 |LtE=>exact wD'
 |Gt=>
  refine OpR.imp (wE'.or sY') fun x y H Q q=>?_
  unfold cS' at q
  dsimp only at q
  split at q
  .exact .inr q
  .exact .inl q
 |GtE=>exact wF'
 |Is=>
  refine OpR.imp (sr'.or sS') fun x y H Q q=>?_
  unfold cS' at q
  dsimp only at q
  split at q
  .exact .inr q
  .exact .inl q
 |IsNot=>
  refine OpR.imp (pN'.or j6') fun x y H Q q=>?_
  unfold cS' at q
  dsimp only at q
  split at q
  .exact .inr q
  .exact .inl q
 |In=>
  refine OpR.imp (sX'.or jL') fun x y H Q q=>?_
  unfold cS' at q
  dsimp only at q
  split at q
  .exact .inl q
  .exact .inr q
 |NotIn=>
  refine OpR.imp (ka'.or f1') fun x y H Q q=>?_
  unfold cS' at q
  dsimp only at q
  split at q
  .exact .inl q
  .exact .inr q
theorem xq':SlR X (rSl X.K):=by
 intro pins s σ H x v vl vu lo hi sl Q I rx hs pl pu q
 refine(pX'.or (sy'.or (mS'.or sO'))) pins s σ H x v vl vu lo hi sl Q I rx hs pl pu ?_
 unfold rSl at q
 split at q
 .exact .inr (.inr (.inr ⟨_,rfl,q.1,q.2⟩))
 .rcases q with q|q|q
  .exact .inl q
  .exact .inr (.inl q)
  .exact .inr (.inr (.inl q))
inductive BltIs:Bf->Prop where
 |fn (f:Bf) (id:String) (hv:bootBuiltins (eE' f)=some (.builtin id)) (h:∀X:Cx,(X.calm=true\/f=.isinstance)->aX' X (.builtin id) (cr' X.K f)):BltIs f
 |ty (f:Bf) (T:String) (hv:bootBuiltins (eE' f)=some (.type T)) (h:∀X:Cx,(X.calm=true\/f=.isinstance)->aX' X (.type T) (cr' X.K f)):BltIs f
theorem tz' (f:Bf):BltIs f:=by
 cases f with
 |len=>exact .fn _ "len" (by decide +kernel) fun X _=>mD'
 |abs=>exact .fn _ "abs" (by decide +kernel) fun X _=>mC'
 |int=>
  refine .ty _ "int" (by decide +kernel) fun X _=>aX'.imp ke' fun xs H Q q=>?_
  unfold cr' at q
  dsimp only at q
  split at q
  .exact .inl (.inl (.inl ⟨_,rfl,q⟩))
  .exact .inl (.inl (.inr ⟨_,rfl,q⟩))
  .obtain⟨n,h1,h2,q⟩:=q
   exact .inl (.inr ⟨_,n,rfl,h1,h2,q⟩)
  .obtain⟨rfl,n,h1,q⟩:=q
   exact .inr ⟨_,n,rfl,h1,q⟩
  .exact q.elim
 |set=>exact .ty _ "set" (by decide +kernel) fun X c0=>have c:X.calm=true:=c0.resolve_right (fun z=>by cases z);kw' c
 |isinstance=>exact .fn _ "isinstance" (by decide +kernel) fun X _=>aX'.imp mK' fun _ _ _ q=>q.resolve_right id
 |all=>exact .fn _ "all" (by decide +kernel) fun X c0=>have c:X.calm=true:=c0.resolve_right (fun z=>by cases z);jZ' c
 |any=>exact .fn _ "any" (by decide +kernel) fun X c0=>have c:X.calm=true:=c0.resolve_right (fun z=>by cases z);j0' c
 |anyI=>exact .fn _ "any" (by decide +kernel) fun X c0=>have c:X.calm=true:=c0.resolve_right (fun z=>by cases z);kg' c
 |max=>
  refine .fn _ "max" (by decide +kernel) fun X c0=>have c:X.calm=true:=c0.resolve_right (fun z=>by cases z);aX'.imp ((jA' c).or (j1' c)) fun xs H Q q=>?_
  unfold cr' at q
  dsimp only at q
  split at q
  .exact .inl ⟨_,_,rfl,q⟩
  .exact .inr q
 |min=>
  refine .fn _ "min" (by decide +kernel) fun X c0=>have c:X.calm=true:=c0.resolve_right (fun z=>by cases z);aX'.imp ((jB' c).or (j2' c)) fun xs H Q q=>?_
  unfold cr' at q
  dsimp only at q
  split at q
  .exact .inl ⟨_,_,rfl,q⟩
  .exact .inr q
 |list=>exact .ty _ "list" (by decide +kernel) fun X c0=>have c:X.calm=true:=c0.resolve_right (fun z=>by cases z);f3'.or (mN' c)
 |range=>exact .ty _ "range" (by decide +kernel) fun X _=>mM'
 |sum=>exact .fn _ "sum" (by decide +kernel) fun X c0=>have c:X.calm=true:=c0.resolve_right (fun z=>by cases z);j5' c
 |tuple=>exact .ty _ "tuple" (by decide +kernel) fun X _=>fl'
structure MetIs (m:Mf) (id:String):Prop where
 pa:PlainAttrs (gj' m)
 slot:Slot (gj' m) (kF' m) id
 ty:typeOf (.builtin id)=pure (.type "method_descriptor")
 h:∀X:Cx,MtR X id (kE' X.K m)
theorem tA' (m:Mf):∃id,MetIs m id:=by
 cases m with
 |append=>exact⟨_,F.plainAttrs_list,F.slot_list_append,F.type_list_append,fun _=>jN'⟩
 |extend=>exact⟨_,F.plainAttrs_list,F.slot_list_extend,F.type_list_extend,fun _=>jP'⟩
 |join=>exact⟨_,F.plainAttrs_str,F.slot_str_join,F.type_str_join,fun _=>p5'⟩
 |insert=>exact⟨_,F.plainAttrs_list,F.slot_list_insert,F.type_list_insert,fun _=>j4'⟩
 |bitlen=>exact⟨_,F.plainAttrs_int,F.slot_int_bit_length,F.type_int_bit_length,fun _=>kc'⟩
 |popL=>exact⟨_,F.plainAttrs_list,F.slot_list_pop,F.type_list_pop,fun _=>sF'⟩
end
theorem dk' {N:List Str} {sc scope:Scope} {own:List Nat} (h:jl' N sc scope own=true):scope.kind=.function/\(∀x∈scope.names,x.2=.local->scope.names.lookup x.1=some .local)/\(∀n,(n,NameKind.cell)∈scope.names->scope.names.lookup n=some .cell)/\
  (∀n,(n,NameKind.free)∈scope.names->sc.names.lookup n=some .cell\/sc.names.lookup n=some .free)/\∀(i:Nat) (x:Str),N[i]?=some x->(scope.names.lookup x=some .local\/scope.names.lookup x=some .cell)->i∈own:=by
 unfold jl' at h
 simp only[ac,decide_eq_true_eq,bj,Bool.or_eq_true]at h
 obtain⟨⟨hk,hn⟩,ho⟩:=h
 refine⟨hk,fun x hx e=>?_,fun n hn'=>?_,fun n hn'=>?_,fun i x e hx=>?_⟩
 .exact(hn x hx).1.1.resolve_left fun q=>q e
 .exact(hn _ hn').1.2.resolve_left fun q=>q rfl
 .rcases(hn _ hn').2 with(q|q)|q
  .exact absurd rfl q
  .exact .inl q
  .exact .inr q
 .have:=ho i (aJ.mpr (aR.mp e).1)
  rw[e]at this
  simp only[Bool.or_eq_true,ac,decide_eq_true_eq]at this
  rcases this with⟨q1,q2⟩|q
  .rcases hx with z|z
   .exact absurd z q1
   .exact absurd z q2
  .exact q
theorem Rok.compSc {C:Rc} {B:List Str} {X:Cx} {sc scope:Scope} {own:List Nat} (R:Rok C B X sc) (h:jl' C.N sc scope own=true):CompSc X scope:=by
 obtain⟨h1,h2,h3,h4,h5⟩:=dk' h
 refine⟨h1,h2,h3,fun n hn=>?_⟩
 rcases h4 n hn with q|q
 .exact .inl (R.cel n q).1
 .exact R.fre n q
theorem dE' {B:List Str}:tld ("~" :: B)=true:=decide_eq_true (aF)
theorem Rok.comp {C:Rc} {B:List Str} {X:Cx} {sc scope:Scope} {own:List Nat} (R:Rok C B X sc) (hh:hat B=false) (h:jl' C.N sc scope own=true) (s0:Shared) (H0:Hp) (ex:List Addr):Rok C ("~" :: B) (X.comp scope s0 H0 ex) scope:=by
 refine⟨R.hN,R.nd,R.hK,PassesOwn.never,fun _=>R.calm hh,R.hu,R.gd,fun x e=>lookup_relabel_local e,fun x e=>⟨?_,?_⟩,fun x e=>?_,fun x e=>?_,fun x sp e _ ht=>?_,fun x hx=>?_,R.mrk,R.cls,(fun z=>by rw[dE']at z;cases z),(fun z=>by rw[dE']at z;cases z),(fun z=>by rw[dE']at z;cases z)⟩
 .obtain⟨k',e1,e2⟩:=bc' (env:=X.env) e
  rcases e2 with rfl|⟨q,_⟩
  .exact e1
  .cases q
 .exact W.cellsFrom_some _ _ _ (.inl e)
 .obtain⟨k',e1,e2⟩:=bc' (env:=X.env) e
  rcases e2 with rfl|⟨_,rfl⟩
  .exact .inr e1
  .exact .inl e1
 .obtain⟨k',e1,e2⟩:=bc' (env:=X.env) e
  rcases e2 with rfl|⟨q,_⟩
  .exact e1
  .cases q
 .have hb:rY' x∉B:=fun z=>ht dE' (ay _ z)
  obtain⟨f,fd,ps,k,CX,h1,h2,h3,h4,h5,h6,_⟩:=R.fn x sp e hh fun _=>hb
  rcases h6 with rfl|⟨_,z⟩
  .exact⟨f,fd,ps,k,CX0,h1,h2,h3,h4,h5,.inl rfl,oS'⟩
  .exact absurd z hb
 .rcases ak.mp hx with rfl|hx
  .exact R.mrk.1
  .exact R.blt x hx
mutual
theorem im' (C:Rc) (own:List Nat):∀(t:Ct),fx' own t=true->∀(x:V) (σ:L2.St) (H:Hp) (Q Q':L2.St->Hp->Prop),tG C t x σ H Q->(∀σ2 H2,Q σ2 H2->Ext own σ σ2->Q' σ2 H2)->tG C t x σ H Q'
 | .name i,h,x,σ,H,Q,Q',q,m=>by
  obtain⟨q1,q2⟩:=jT' (of_decide_eq_true (show decide (i∈own)=true from h)) x σ H Q q
  exact m _ _ q1 q2
 | .tup ts,h,x,σ,H,Q,Q',q,m=>by
  replace h:kH' own ts=true:=h
  obtain⟨a,xs,e,hs,hl,q⟩:=q
  exact⟨a,xs,e,hs,hl,gs' C own ts h xs σ H Q Q' q m⟩
 | .sub _ _,h,_,_,_,_,_,_,_=>ap' h
theorem gs' (C:Rc) (own:List Nat):∀(ts:Cts),kH' own ts=true->∀(xs:List V) (σ:L2.St) (H:Hp) (Q Q':L2.St->Hp->Prop),tGs C ts xs σ H Q->(∀σ2 H2,Q σ2 H2->Ext own σ σ2->Q' σ2 H2)->tGs C ts xs σ H Q'
 | .nil,h,xs,σ,H,Q,Q',q,m=>by
  replace q:xs=[]/\Q σ H:=q
  exact And.intro q.1 (m _ _ q.2 Ext.refl)
 | .cons t r,h,xs,σ,H,Q,Q',q,m=>by
  replace h:=gn' (show(fx' own t&&kH' own r)=true from h)
  replace q:∃v vr,xs=v :: vr/\tG C t v σ H fun σ' H'=>tGs C r vr σ' H' Q:=q
  obtain⟨v,vr,e,q⟩:=q
  show ∃v vr,xs=v :: vr/\tG C t v σ H fun σ' H'=>tGs C r vr σ' H' Q'
  exact⟨v,vr,e,im' C own t h.1 v σ H _ _ q fun σ2 H2 q2 x2=>gs' C own r h.2 vr σ2 H2 _ _ q2 fun σ3 H3 q3 x3=>m _ _ q3 (x2.trans x3)⟩
end
theorem cb' {C:Rc} {own:List Nat} {t:Ct} (h:fx' own t=true):rW' own (tG C t):=fun x σ H Q q=>im' C own t h x σ H Q _ q fun _ _ q x=>⟨q,x⟩
theorem dl':∀{ts:Cts} {es:List Expr} {N B:List Str} {sc:Scope} {env:Env},mTs N B sc ts es=true->(assignEach es env).length=m1' ts/\(assignEach es env).findIdx? (·.1)=none
 | .nil,es,N,B,sc,env,h=>by
  refine kU' h fun e0 g=>?_
  clear h
  subst e0
  revert g
  intro h
  exact⟨rfl,rfl⟩
 | .cons t r,es,N,B,sc,env,h=>by
  refine m3' h fun x xs e0 g=>?_
  clear h
  subst e0
  revert g
  intro h
  simp only[ac]at h
  obtain⟨h1,h2⟩:=dl' (env:=env) h.2
  have e:assignEach (x :: xs) env=(false,assign x env) :: assignEach xs env:=by
   have hs:=h.1.2
   cases x<;>first|rfl|cases hs
  rw[e]
  refine⟨by rw[bp,h1];rfl,?_⟩
  rw[List.findIdx?_cons,h2]
  rfl
theorem hA' {x:Expr} {xs:List Expr} {env:Env} (hs:bd' x=true):(assignEach (x :: xs) env).map (·.2)=assign x env :: (assignEach xs env).map (·.2):=by
 cases x<;>first|rfl|cases hs
theorem qo' {o i:Expr} {pos:Pos} {env:Env} (h:c6' i=true) (v:Value):assign (.Subscript o i pos) env v=(do
   let ov <- holding [v] (eval o env)
   let iv <- holding [v,ov] (eval i env)
   standAt pos
   holding [v,ov,iv] (setItem ov iv v)
   release [v,ov,iv] []):=by
 cases i<;>first|rfl|cases h
def m6' (C:Rc) (X:Cx) (e:Expr):Ce->Prop
 | .comp elt own t it q r=>∃tg iter ifs nx scope pos,CompIn X e scope tg iter ifs nx (tG C t) (tQo C q) (tR C r (ey' (tE C elt))) own/\PI X tg iter (tI C it)/\
   eval e X.env=comprehension e scope X.env pos (newList []) false (eval iter X.env)/\(∀u,evalThenUse e X.env u=(do let _ <- comprehension e scope X.env pos (newList []) false (eval iter X.env) (some u)))/\
   ∀y py line,∃b,swapsWith e (some (.Name y py)) line X.env=pure b
 |_=>True
theorem m7' (P w it D env ee tg iter ifs tg2 iter2 ifs2 scope pos):(model P w).den (.compLoop (.ListComp ee [⟨tg,iter,ifs,0⟩,⟨tg2,iter2,ifs2,0⟩] scope pos) 0 it (.ref D) env)=(a1' (.ListComp ee [⟨tg,iter,ifs,0⟩,⟨tg2,iter2,ifs2,0⟩] scope pos) 0 tg iter ifs (aW' (.ListComp ee [⟨tg,iter,ifs,0⟩,⟨tg2,iter2,ifs2,0⟩] scope pos) 0 iter2 (.ref D) env) it (.ref D) env).onRaise (fun x=>do noteFrame x env;theTreesLotGoes x):=by
 show(compTurn _ _ _ _ _).onRaise _=_
 congr 1
 unfold a1' aW'
 simp only[bind_assoc,pure_bind]
 rfl
def tC' (ke ve:Expr) (D:Addr) (env:Env):Sem Unit:=do
 let kv <- eval ke env
 let vv <- holding [kv] (eval ve env)
 match Value.ref D with
 | .ref d=>do
  standAt { ke.pos with endLine:=ve.pos.endLine,endCol:=ve.pos.endCol }
  holding [kv,vv] (dictSet d kv vv)
 |_=>unsupported "internal:dictcomp"
theorem zl' {N B:List Str} {sc:Scope} {elt:Ce} {own:List Nat} {t:Ct} {it:Ci} {q:Cqo} {e:Expr} (h:mE N B sc (.comp elt own t it q .nil) e=true):∃ee tg iter ifs scope pos,e=.ListComp ee [⟨tg,iter,ifs,0⟩] scope pos/\
  hat B=false/\jl' N sc scope own=true/\mE N ("~" :: B) scope elt ee=true/\fx' own t=true/\mI N B sc it iter=true/\gm' it tg=true/\aS' iter=true/\mT N ("~" :: B) scope t tg=true/\mQo N ("~" :: B) scope q ifs=true:=by
 refine w7' h fun ee tg iter ifs a scope w1 e0 g=>?_
 clear h
 subst e0
 revert g
 intro h
 simp only[ac,decide_eq_true_eq,aZ]at h
 obtain⟨⟨⟨⟨⟨⟨⟨⟨⟨hh,hsc⟩,helt⟩,hown⟩,rfl⟩,h1⟩,h2⟩,h3⟩,h4⟩,h5⟩:=h
 exact⟨_,_,_,_,_,_,rfl,hh,hsc,helt,hown,h1,h2,h3,h4,h5⟩
theorem zm' {N B:List Str} {sc:Scope} {elt:Ce} {own:List Nat} {t:Ct} {it:Ci} {q:Cqo} {ws:List Nat} {t2:Ct} {it2:Ci} {q2:Cqo} {e:Expr} (h:mE N B sc (.comp elt own t it q (.cons ws t2 it2 q2 .nil)) e=true):
  ∃ee tg iter ifs tg2 iter2 ifs2 scope pos,e=.ListComp ee [⟨tg,iter,ifs,0⟩,⟨tg2,iter2,ifs2,0⟩] scope pos/\
  hat B=false/\jl' N sc scope own=true/\mE N ("~" :: B) scope elt ee=true/\fx' own t=true/\mI N B sc it iter=true/\gm' it tg=true/\aS' iter=true/\mT N ("~" :: B) scope t tg=true/\mQo N ("~" :: B) scope q ifs=true/\
  mI N ("~" :: B) scope it2 iter2=true/\gm' it2 tg2=true/\aS' iter2=true/\mT N ("~" :: B) scope t2 tg2=true/\mQo N ("~" :: B) scope q2 ifs2=true/\fx' ws t2=true/\∀j∈ws,j∈own:=by
 refine w8' h fun ee tg iter ifs a tg2 iter2 ifs2 a2 scope w1 e0 g=>?_
 clear h
 subst e0
 revert g
 intro h
 simp only[ac,decide_eq_true_eq,bj,aZ]at h
 obtain⟨⟨⟨⟨⟨⟨⟨⟨⟨⟨⟨⟨⟨⟨⟨⟨⟨hh,hsc⟩,helt⟩,hown⟩,rfl⟩,h1⟩,h2⟩,h3⟩,h4⟩,h5⟩,rfl⟩,g1⟩,g2⟩,g3⟩,g4⟩,g5⟩,g6⟩,g7⟩:=h
 exact⟨_,_,_,_,_,_,_,_,_,rfl,hh,hsc,helt,hown,h1,h2,h3,h4,h5,g1,g2,g3,g4,g5,g6,g7⟩
theorem kX' (P w it D env ee tg iter ifs tg2 iter2 ifs2 tg3 iter3 ifs3 scope pos):(model P w).den (.compLoop (.ListComp ee [⟨tg,iter,ifs,0⟩,⟨tg2,iter2,ifs2,0⟩,⟨tg3,iter3,ifs3,0⟩] scope pos) 0 it (.ref D) env)=(a1' (.ListComp ee [⟨tg,iter,ifs,0⟩,⟨tg2,iter2,ifs2,0⟩,⟨tg3,iter3,ifs3,0⟩] scope pos) 0 tg iter ifs (aW' (.ListComp ee [⟨tg,iter,ifs,0⟩,⟨tg2,iter2,ifs2,0⟩,⟨tg3,iter3,ifs3,0⟩] scope pos) 0 iter2 (.ref D) env) it (.ref D) env).onRaise (fun x=>do noteFrame x env;theTreesLotGoes x):=by
 show(compTurn _ _ _ _ _).onRaise _=_
 congr 1
 unfold a1' aW'
 simp only[bind_assoc,pure_bind]
 rfl
theorem i1' (P w it D env ee tg iter ifs tg2 iter2 ifs2 tg3 iter3 ifs3 scope pos):(model P w).den (.compLoop (.ListComp ee [⟨tg,iter,ifs,0⟩,⟨tg2,iter2,ifs2,0⟩,⟨tg3,iter3,ifs3,0⟩] scope pos) 1 it (.ref D) env)=(a1' (.ListComp ee [⟨tg,iter,ifs,0⟩,⟨tg2,iter2,ifs2,0⟩,⟨tg3,iter3,ifs3,0⟩] scope pos) 1 tg2 iter2 ifs2 (aW' (.ListComp ee [⟨tg,iter,ifs,0⟩,⟨tg2,iter2,ifs2,0⟩,⟨tg3,iter3,ifs3,0⟩] scope pos) 1 iter3 (.ref D) env) it (.ref D) env).onRaise (fun x=>do noteFrame x env;theTreesLotGoes x):=by
 show(compTurn _ _ _ _ _).onRaise _=_
 congr 1
 unfold a1' aW'
 simp only[bind_assoc,pure_bind]
 rfl
theorem zn' {N B:List Str} {sc:Scope} {elt:Ce} {own:List Nat} {t:Ct} {it:Ci} {q:Cqo} {ws:List Nat} {t2:Ct} {it2:Ci} {q2:Cqo} {ws3:List Nat} {t3:Ct} {it3:Ci} {q3:Cqo} {e:Expr} (h:mE N B sc (.comp elt own t it q (.cons ws t2 it2 q2 (.cons ws3 t3 it3 q3 .nil))) e=true):
  ∃ee tg iter ifs tg2 iter2 ifs2 tg3 iter3 ifs3 scope pos,e=.ListComp ee [⟨tg,iter,ifs,0⟩,⟨tg2,iter2,ifs2,0⟩,⟨tg3,iter3,ifs3,0⟩] scope pos/\
  hat B=false/\jl' N sc scope own=true/\mE N ("~" :: B) scope elt ee=true/\fx' own t=true/\mI N B sc it iter=true/\gm' it tg=true/\aS' iter=true/\mT N ("~" :: B) scope t tg=true/\mQo N ("~" :: B) scope q ifs=true/\
  (mI N ("~" :: B) scope it2 iter2=true/\gm' it2 tg2=true/\aS' iter2=true/\mT N ("~" :: B) scope t2 tg2=true/\mQo N ("~" :: B) scope q2 ifs2=true/\fx' ws t2=true/\∀j∈ws,j∈own)/\
  mI N ("~" :: B) scope it3 iter3=true/\gm' it3 tg3=true/\aS' iter3=true/\mT N ("~" :: B) scope t3 tg3=true/\mQo N ("~" :: B) scope q3 ifs3=true/\fx' ws3 t3=true/\∀j∈ws3,j∈ws:=by
 refine w9' h fun ee tg iter ifs a tg2 iter2 ifs2 a2 tg3 iter3 ifs3 a3 scope w1 e0 g=>?_
 clear h
 subst e0
 revert g
 intro h
 simp only[ac,decide_eq_true_eq,bj,aZ]at h
 obtain⟨⟨⟨⟨⟨⟨⟨⟨⟨⟨⟨⟨⟨⟨⟨⟨⟨⟨⟨⟨⟨⟨⟨⟨⟨hh,hsc⟩,helt⟩,hown⟩,rfl⟩,h1⟩,h2⟩,h3⟩,h4⟩,h5⟩,rfl⟩,g1⟩,g2⟩,g3⟩,g4⟩,g5⟩,g6⟩,g7⟩,rfl⟩,k1⟩,k2⟩,k3⟩,k4⟩,k5⟩,k6⟩,k7⟩:=h
 exact⟨_,_,_,_,_,_,_,_,_,_,_,_,rfl,hh,hsc,helt,hown,h1,h2,h3,h4,h5,⟨g1,g2,g3,g4,g5,g6,g7⟩,k1,k2,k3,k4,k5,k6,k7⟩
theorem zo' {N B:List Str} {sc:Scope} {elt:Ce} {own:List Nat} {t:Ct} {it:Ci} {q:Cqo} {ws:List Nat} {t2:Ct} {it2:Ci} {q2:Cqo} {ws3:List Nat} {t3:Ct} {it3:Ci} {q3:Cqo} {ws4:List Nat} {t4:Ct} {it4:Ci} {q4:Cqo} {r4:Cc} {e:Expr} (h:mE N B sc (.comp elt own t it q (.cons ws t2 it2 q2 (.cons ws3 t3 it3 q3 (.cons ws4 t4 it4 q4 r4)))) e=true):False:=by
 exact ap' h
set_option maxHeartbeats 4000000
theorem kY' (P w it D env ee tg iter ifs tg2 iter2 ifs2 scope pos):(model P w).den (.compLoop (.SetComp ee [⟨tg,iter,ifs,0⟩,⟨tg2,iter2,ifs2,0⟩] scope pos) 0 it (.ref D) env)=(a1' (.SetComp ee [⟨tg,iter,ifs,0⟩,⟨tg2,iter2,ifs2,0⟩] scope pos) 0 tg iter ifs (aW' (.SetComp ee [⟨tg,iter,ifs,0⟩,⟨tg2,iter2,ifs2,0⟩] scope pos) 0 iter2 (.ref D) env) it (.ref D) env).onRaise (fun x=>do noteFrame x env;theTreesLotGoes x):=by
 show(compTurn _ _ _ _ _).onRaise _=_
 congr 1
 unfold a1' aW'
 simp only[bind_assoc,pure_bind]
 rfl
mutual
theorem sE0 {C:Rc}:∀(c:Ce) {B:List Str} {X:Cx} {sc:Scope} {e:Expr},Rok C B X sc->mE C.N B sc c e=true->PE X e (tE C c)/\m6' C X e c
 | .var i,B,X,sc,e,R,h=>by
  refine⟨?_,trivial⟩
  refine v9' h fun x w1 e0 g=>?_
  clear h
  subst e0
  revert g
  intro h
  simp only[ac]at h
  obtain⟨h1,h2,h3⟩:=cl' h.1
  rw[show tE C (.var i)=(vR' i) from rfl]
  exact oq' (by rw[R.hN];exact h1) (R.vis h.2) h2 h3
 | .int n,B,X,sc,e,R,h=>by
  refine⟨?_,trivial⟩
  refine zf' h fun m w1 w2 e0 g=>?_
  clear h
  subst e0
  revert g
  intro h
  cases of_decide_eq_true h
  rw[show tE C (.int n)=(tC (.int n)) from rfl]
  exact r4'
 | .bl n,B,X,sc,e,R,h=>by
  refine⟨?_,trivial⟩
  refine zg' h fun c w1 w2 e0 g=>?_
  clear h
  subst e0
  revert g
  intro h
  cases of_decide_eq_true h
  rw[show tE C (.bl n)=(tC (.bl n)) from rfl]
  exact wi'
 | .non,B,X,sc,e,R,h=>by
  refine⟨?_,trivial⟩
  refine zh' h fun w1 w2 e0 g=>?_
  clear h
  subst e0
  revert g
  intro h
  rw[show tE C .non=(tC .non) from rfl]
  exact r5'
 | .str n,B,X,sc,e,R,h=>by
  refine⟨?_,trivial⟩
  refine zi' h fun y w1 w2 e0 g=>?_
  clear h
  subst e0
  revert g
  intro h
  cases of_decide_eq_true h
  rw[show tE C (.str n)=(tC (.str n)) from rfl]
  exact r6'
 | .ty n,B,X,sc,e,R,h=>by
  refine⟨?_,trivial⟩
  refine v9' h fun x w1 e0 g=>?_
  clear h
  subst e0
  revert g
  intro h
  simp only[ac,decide_eq_true_eq]at h
  obtain⟨⟨⟨rfl,h2⟩,h3⟩,h4⟩:=h
  rw[show tE C (.ty n)=(tC (.ty n)) from rfl]
  have hb:bootBuiltins (Str.ofString n)=some (.type n)/\Str.ofString n≠"__name__"/\(Str.ofString n == ("__debug__":Str))=false:=by
   simp only[gl',List.contains_iff_mem,ak,av,or_false]at h3
   rcases h3 with rfl|rfl|rfl|rfl|rfl|rfl|rfl<;>decide +kernel
  exact pz' (v:=.ty n) (R.glb h2) (R.blt _ h4) hb.1 rfl hb.2.1 hb.2.2
 | .bin op a b,B,X,sc,e,R,h=>by
  refine⟨?_,trivial⟩
  refine zj' h fun ea op' eb w1 e0 g=>?_
  clear h
  subst e0
  revert g
  intro h
  simp only[ac,decide_eq_true_eq]at h
  obtain⟨⟨rfl,h1⟩,h2⟩:=h
  rw[show tE C (.bin op a b)=(tOp (eS' C.K op) (tE C a) (tE C b)) from rfl]
  rw[<- R.hK]
  exact ww' (ty' _) ((sE0 a R h1).1) ((sE0 b R h2).1)
 | .neg a,B,X,sc,e,R,h=>by
  refine⟨?_,trivial⟩
  refine zk' h fun ea w1 e0 g=>?_
  clear h
  subst e0
  revert g
  intro h
  rw[show tE C (.neg a)=(tUn (rU fun i=>.int (-i)) (tE C a)) from rfl]
  exact wx' sq' ((sE0 a R h).1)
 | .not a,B,X,sc,e,R,h=>by
  refine⟨?_,trivial⟩
  refine yE' h fun ea w1 e0 g=>?_
  clear h
  subst e0
  revert g
  intro h
  rw[show tE C (.not a)=(pB' (tE C a)) from rfl]
  exact sc' ((sE0 a R h).1)
 | .and a b,B,X,sc,e,R,h=>by
  refine⟨?_,trivial⟩
  replace h:=kI' h
  rcases h with⟨x,y,pos,rfl,h⟩|⟨x,y,z,r,pos,rfl,h⟩
  .simp only[ac]at h
   rw[show tE C (.and a b)=(ms' (tE C a) (tE C b)) from rfl]
   exact ow' ((sE0 a R h.1).1) (ov' ((sE0 b R h.2).1))
  .simp only[ac]at h
   rw[show tE C (.and a b)=(ms' (tE C a) (tE C b)) from rfl]
   exact ow' ((sE0 a R h.1).1) ((sE0 b R h.2).1)
 | .or a b,B,X,sc,e,R,h=>by
  refine⟨?_,trivial⟩
  replace h:=oN' h
  rcases h with⟨x,y,pos,rfl,h⟩|⟨x,y,z,r,pos,rfl,h⟩
  .simp only[ac]at h
   rw[show tE C (.or a b)=(vS' (tE C a) (tE C b)) from rfl]
   exact sb' ((sE0 a R h.1).1) (ov' ((sE0 b R h.2).1))
  .simp only[ac]at h
   rw[show tE C (.or a b)=(vS' (tE C a) (tE C b)) from rfl]
   exact sb' ((sE0 a R h.1).1) ((sE0 b R h.2).1)
 | .cmp op a b,B,X,sc,e,R,h=>by
  refine⟨?_,trivial⟩
  refine wa' h fun ea op' eb w1 e0 g=>?_
  clear h
  subst e0
  revert g
  intro h
  simp only[ac,decide_eq_true_eq]at h
  obtain⟨⟨⟨rfl,h1⟩,h2⟩,h3⟩:=h
  rw[show tE C (.cmp op a b)=(tOp (cS' C.K op) (tE C a) (tE C b)) from rfl]
  rw[<- R.hK]
  exact pO' (e8' R.hu _) ((sE0 a R h1).1) ((sE0 b R h2).1) (ct' h3)
 | .chn op1 op2 a b c,B,X,sc,e,R,h=>by
  refine⟨?_,trivial⟩
  refine ts' h fun ea o1 o2 eb ec w1 e0 g=>?_
  clear h
  subst e0
  revert g
  intro h
  simp only[ac,decide_eq_true_eq]at h
  obtain⟨⟨⟨⟨⟨rfl,rfl⟩,h1⟩,h2⟩,h3⟩,h4⟩:=h
  rw[show tE C (.chn op1 op2 a b c)=(df' (cS' C.K op1) (cS' C.K op2) (tE C a) (tE C b) (tE C c)) from rfl]
  rw[<- R.hK]
  exact mz' (e8' R.hu _) (e8' R.hu _) ((sE0 a R h1).1) ((sE0 b R h2).1) ((sE0 c R h3).1) (kV' h4)
 | .ife q a b,B,X,sc,e,R,h=>by
  refine⟨?_,trivial⟩
  refine w2' h fun eq ea eb w1 e0 g=>?_
  clear h
  subst e0
  revert g
  intro h
  simp only[ac]at h
  rw[show tE C (.ife q a b)=(tIf (tQ C q) (tE C a) (tE C b)) from rfl]
  exact mt' (sQ q R h.1.1).1 ((sE0 a R h.1.2).1) ((sE0 b R h.2).1)
 | .tup es,B,X,sc,e,R,h=>by
  refine⟨?_,trivial⟩
  refine tt' h fun xs w1 w2 e0 g=>?_
  clear h
  subst e0
  revert g
  intro h
  rw[show tE C (.tup es)=(wG' (tA C es)) from rfl]
  exact sv' (sA es R h)
 | .lst es,B,X,sc,e,R,h=>by
  refine⟨?_,trivial⟩
  refine w3' h fun xs w1 e0 g=>?_
  clear h
  subst e0
  revert g
  intro h
  rw[show tE C (.lst es)=(wH' (tA C es)) from rfl]
  exact sw' (sA es R h)
 | .idx a b,B,X,sc,e,R,h=>by
  refine⟨?_,trivial⟩
  refine tu' h fun ea eb w1 e0 g=>?_
  clear h
  subst e0
  revert g
  intro h
  simp only[ac]at h
  rw[show tE C (.idx a b)=(tOp (oL' C.K) (tE C a) (tE C b)) from rfl]
  rw[<- R.hK]
  exact wJ' ixM ((sE0 a R h.1.1).1) ((sE0 b R h.1.2).1) (m4' h.2)
 | .cut a lo hi,B,X,sc,e,R,h=>by
  refine⟨?_,trivial⟩
  refine w4' h fun ea l h_ w1 w2 e0 g=>?_
  clear h
  subst e0
  revert g
  intro h
  simp only[ac]at h
  rw[show tE C (.cut a lo hi)=(tSl (rSl C.K) (tE C a) (tO C lo) (tO C hi)) from rfl]
  rw[<- R.hK]
  exact mH' xq' ((sE0 a R h.1.1).1) (sO lo R h.1.2) (sO hi R h.2)
 | .call f es,B,X,sc,e,R,h=>by
  refine⟨?_,trivial⟩
  refine tv' h fun x w1 e r pos e0 g=>?_
  clear h
  subst e0
  revert g
  intro h
  simp only[ac,decide_eq_true_eq,aZ]at h
  obtain⟨⟨⟨⟨⟨rfl,h1⟩,h2⟩,h3⟩,hh⟩,h6⟩:=h
  rw[show tE C (.call x es)=(fun σ H Q=>match C.fs x with|some sp=>mE' sp [] (C.xk σ) (tA C es) σ H Q|none=>False) from rfl]
  have ht:tld B=true->rY' x∉B:=fun t m=>by rw[t,decide_eq_true m]at h6;cases h6
  cases hf:C.fs x with
  |none=>exact fun _ _ _ _ _ _ q=>q.elim
  |some sp=>
   obtain⟨f,fd,ps,k,CX,F,hr,hm,hk,hb,_,hx⟩:=R.fn x sp hf hh ht
   have hs:bd' e=true:=by
    cases es with
    |nil=>exact ap' h2
    |cons c r=>exact(gn' (gn' h2).1).2
   have hp:(backTo pos (starEach r X.env)).any (·.1)=false:=by
    have q:=fz' (env:=X.env) (pos:=pos) h2
    rw[au' hs]at q
    exact q
   exact m5' F hr (R.glb h1) hm hk hb .nil hx (sA es R h2) h3 (au' hs) hp
 | .blt f es,B,X,sc,e,R,h=>by
  refine⟨?_,trivial⟩
  refine tv' h fun x w1 e r pos e0 g=>?_
  clear h
  subst e0
  revert g
  intro h
  simp only[ac,decide_eq_true_eq,Bool.or_eq_true,aZ]at h
  obtain⟨⟨⟨⟨rfl,h1⟩,h2⟩,h4⟩,h5⟩:=h
  have hcc:X.calm=true\/f=.isinstance:=h5.imp R.calm id
  rw[show tE C (.blt f es)=(tCB (cr' C.K f) (tA C es)) from rfl]
  have hs:bd' e=true:=by
   cases es with
   |nil=>exact ap' h2
   |cons c r=>exact(gn' (gn' h2).1).2
  have hp:(backTo pos (starEach r X.env)).any (·.1)=false:=by
   have q:=fz' (env:=X.env) (pos:=pos) h2
   rw[au' hs]at q
   exact q
  rw[<- R.hK]
  have hn:eE' f≠"__name__"/\(eE' f == ("__debug__":Str))=false:=by cases f<;>decide +kernel
  cases tz' f with
  |fn id hv hc=>exact mF' (hc X hcc) (R.glb h1) (R.blt _ h4) hv (sA es R h2) hn.1 hn.2 (au' hs) hp
  |ty T hv hc=>exact jG' (hc X hcc) (R.glb h1) (R.blt _ h4) hv (sA es R h2) hn.1 hn.2 (au' hs) hp
 | .din neg a b,B,X,sc,e,R,h=>by
  refine⟨?_,trivial⟩
  refine wa' h fun ea op' eb w1 e0 g=>?_
  clear h
  subst e0
  revert g
  intro h
  simp only[ac,decide_eq_true_eq]at h
  obtain⟨⟨⟨rfl,h1⟩,h2⟩,h3⟩:=h
  rw[show tE C (.din neg a b)=(m0' neg (tE C a) (tE C b)) from rfl]
  cases neg with
  |true=>exact or' (gi' R.hu1 (sE0 a R h1).1 (sE0 b R h2).1) (ct' h3)
  |false=>exact or' (oK' R.hu1 (sE0 a R h1).1 (sE0 b R h2).1) (ct' h3)
 | .dgt a b,B,X,sc,e,R,h=>by
  refine⟨?_,trivial⟩
  refine w6' h fun eo nm apos y pos e0 g=>?_
  clear h
  subst e0
  revert g
  intro h
  simp only[ac,decide_eq_true_eq]at h
  obtain⟨⟨⟨⟨⟨rfl,h1⟩,h2⟩,h3⟩,h4⟩,h5⟩:=h
  rw[show tE C (.dgt a b)=(kD' (tE C a) (tE C b)) from rfl]
  have e2:=au' (env:=X.env) (es:=[]) h5
  refine mZ' R.hu1 (sE0 a R h1).1 (sE0 b R h4).1 ⟨hz' h2,?_,h3,?_⟩
  .rw[e2];rfl
  .rw[e2];rfl
 | .met m o es,B,X,sc,e,R,h=>by
  refine⟨?_,trivial⟩
  refine w5' h fun eo nm apos args pos e0 g=>?_
  clear h
  subst e0
  revert g
  intro h
  simp only[ac,decide_eq_true_eq]at h
  obtain⟨⟨⟨⟨⟨rfl,h1⟩,h2⟩,h3⟩,h4⟩,h5⟩:=h
  rw[show tE C (.met m o es)=(tBM C.K (gj' m) (kE' C.K m) (tE C o) (tA C es)) from rfl]
  rw[<- R.hK]
  obtain⟨id,M⟩:=tA' m
  cases args with
  |nil=>
   cases es with
   |cons c r=>exact ap' h4
   |nil=>
    exact sE' M.pa M.slot M.ty (M.h X) ((sE0 o R h1).1) (hz' h2) h3
  |cons a r=>
   have hs:bd' a=true:=by
    cases es with
    |nil=>exact ap' h4
    |cons c r=>exact(gn' (gn' h4).1).2
   have hq:=fz' (env:=X.env) (pos:=pos) h4
   have hp:(backTo pos (starEach r X.env)).any (·.1)=false:=by
    rw[au' hs]at hq
    exact hq
   refine wK' M.pa M.slot M.ty (M.h X) ((sE0 o R h1).1) (sA es R h4) (hz' h2) ?_ h3 (au' hs) hp
   have e1:(backTo pos (starEach (a :: r) X.env)).all (fun x=>!x.1)=true:=by
    rw[bj]
    intro x hx
    rw[List.any_eq_false]at hq
    simpa using hq x hx
   rw[e1]
   show(true&&true&&decide ((a :: r).length+0+0<30))=true
   simp only[Bool.true_and,decide_eq_true_eq]
   omega
 | .gint x n,B,X,sc,e,R,h=>by
  refine⟨?_,trivial⟩
  refine v9' h fun y w1 e0 g=>?_
  clear h
  subst e0
  revert g
  intro h
  simp only[ac,decide_eq_true_eq,aZ]at h
  obtain⟨⟨rfl,h1⟩,h2⟩:=h
  rw[show tE C (.gint y n)=(qa' C.K y n) from rfl]
  rw[<- R.hK]
  exact qb' (R.glb h1) h2
 | .comp elt own t it q .nil,B,X,sc,e,R,h=>by
  have D:m6' C X e (.comp elt own t it q .nil):=by
   obtain⟨ee,tg,iter,ifs,scope,pos,rfl,hh,hsc,helt,hown,h1,h2,h3,h4,h5⟩:=zl' h
   refine⟨tg,iter,ifs,fun D env=>do let _ <- call (.builtin "list.append") [.ref D,<- eval ee env],scope,_,⟨R.compSc hsc,?_,⟨[],rfl⟩,aZ' h3,R.calm hh,fun _ _ _=>⟨rfl,rfl⟩,fun _ _ _ _=>⟨rfl,rfl⟩,fun _ _ _ _ _=>rfl,fun _ _ _ _ _=>rfl,cb' hown,?_⟩,sI it R h1 h2,rfl,fun _=>rfl,fun _ _ _=>⟨_,rfl⟩⟩
   .rw[R.hN];exact(dk' hsc).2.2.2.2
   .intro s0 H0 ex D
    have R':=R.comp hh hsc s0 H0 ex
    refine⟨sG t R' h4,sQo q R' h5,[],by simp,?_⟩
    exact fn' rfl (sE0 elt R' helt).1
  refine⟨?_,D⟩
  obtain⟨tg,iter,ifs,nx,scope,pos,D,hi,he,_⟩:=D
  rw[show tE C (.comp elt own t it q .nil)=(g0' own (tI C it) (tG C t) (tQo C q) (tR C .nil (ey' (tE C elt)))) from rfl]
  exact g1' D hi he
 | .comp elt own t it q (.cons ws t2 it2 q2 .nil),B,X,sc,e,R,h=>by
  have D:m6' C X e (.comp elt own t it q (.cons ws t2 it2 q2 .nil)):=by
   obtain⟨ee,tg,iter,ifs,tg2,iter2,ifs2,scope,pos,rfl,hh,hsc,helt,hown,h1,h2,h3,h4,h5,g1,g2,g3,g4,g5,g6,g7⟩:=zm' h
   refine⟨tg,iter,ifs,fun D env=>aW' (.ListComp ee [⟨tg,iter,ifs,0⟩,⟨tg2,iter2,ifs2,0⟩] scope pos) 0 iter2 (.ref D) env,scope,_,⟨R.compSc hsc,?_,⟨_,rfl⟩,aZ' h3,R.calm hh,fun _ _ _=>⟨rfl,rfl⟩,fun _ _ _ _=>⟨rfl,rfl⟩,fun _ _ _ _ _=>m7' _ _ _ _ _ _ _ _ _ _ _ _ _ _,fun _ _ _ _ _=>rfl,cb' hown,?_⟩,sI it R h1 h2,rfl,fun _=>rfl,fun _ _ _=>⟨_,rfl⟩⟩
   .rw[R.hN];exact(dk' hsc).2.2.2.2
   .intro s0 H0 ex D
    have R':=R.comp hh hsc s0 H0 ex
    refine⟨sG t R' h4,sQo q R' h5,ws,g7,?_⟩
    exact eb' (nx:=do let _ <- call (.builtin "list.append") [.ref D,<- eval ee (X.comp scope s0 H0 ex).env]) rfl (R.calm hh) (fun _=>rfl) (fun _=>rfl) (fun _=>rfl) (fun _=>rfl) (fun _=>rfl) (fun _=>rfl) ⟨_,rfl,rfl⟩ (aZ' g3) (sI it2 R' g1 g2) (sG t2 R' g4) (cb' g6) (sQo q2 R' g5) (fn' rfl (sE0 elt R' helt).1) (by simp) dz'
  refine⟨?_,D⟩
  obtain⟨tg,iter,ifs,nx,scope,pos,D,hi,he,_⟩:=D
  rw[show tE C (.comp elt own t it q (.cons ws t2 it2 q2 .nil))=(g0' own (tI C it) (tG C t) (tQo C q) (tR C (.cons ws t2 it2 q2 .nil) (ey' (tE C elt)))) from rfl]
  exact g1' D hi he
 | .comp elt own t it q (.cons ws t2 it2 q2 (.cons ws3 t3 it3 q3 .nil)),B,X,sc,e,R,h=>by
  have D:m6' C X e (.comp elt own t it q (.cons ws t2 it2 q2 (.cons ws3 t3 it3 q3 .nil))):=by
   obtain⟨ee,tg,iter,ifs,tg2,iter2,ifs2,tg3,iter3,ifs3,scope,pos,rfl,hh,hsc,helt,hown,h1,h2,h3,h4,h5,⟨g1,g2,g3,g4,g5,g6,g7⟩,k1,k2,k3,k4,k5,k6,k7⟩:=zn' h
   refine⟨tg,iter,ifs,fun D env=>aW' (.ListComp ee [⟨tg,iter,ifs,0⟩,⟨tg2,iter2,ifs2,0⟩,⟨tg3,iter3,ifs3,0⟩] scope pos) 0 iter2 (.ref D) env,scope,_,⟨R.compSc hsc,?_,⟨_,rfl⟩,aZ' h3,R.calm hh,fun _ _ _=>⟨rfl,rfl⟩,fun _ _ _ _=>⟨rfl,rfl⟩,fun _ _ _ _ _=>kX' _ _ _ _ _ _ _ _ _ _ _ _ _ _ _ _ _,fun _ _ _ _ _=>rfl,cb' hown,?_⟩,sI it R h1 h2,rfl,fun _=>rfl,fun _ _ _=>⟨_,rfl⟩⟩
   .rw[R.hN];exact(dk' hsc).2.2.2.2
   .intro s0 H0 ex D
    have R':=R.comp hh hsc s0 H0 ex
    refine⟨sG t R' h4,sQo q R' h5,ws,g7,?_⟩
    exact eb' (d:=0) (nx:=aW' (.ListComp ee [⟨tg,iter,ifs,0⟩,⟨tg2,iter2,ifs2,0⟩,⟨tg3,iter3,ifs3,0⟩] scope pos) 1 iter3 (.ref D) (X.comp scope s0 H0 ex).env) rfl (R.calm hh) (fun _=>rfl) (fun _=>rfl) (fun _=>rfl) (fun _=>rfl) (fun _=>i1' _ _ _ _ _ _ _ _ _ _ _ _ _ _ _ _ _) (fun _=>rfl) ⟨_,rfl,rfl⟩ (aZ' g3) (sI it2 R' g1 g2) (sG t2 R' g4) (cb' g6) (sQo q2 R' g5)
     (eb' (d:=1) (nx:=do let _ <- call (.builtin "list.append") [.ref D,<- eval ee (X.comp scope s0 H0 ex).env]) rfl (R.calm hh) (fun _=>rfl) (fun _=>rfl) (fun _=>rfl) (fun _=>rfl) (fun _=>rfl) (fun _=>rfl) ⟨_,rfl,rfl⟩ (aZ' k3) (sI it3 R' k1 k2) (sG t3 R' k4) (cb' k6) (sQo q3 R' k5) (fn' rfl (sE0 elt R' helt).1) (by simp) dz') k7 dz'
  refine⟨?_,D⟩
  obtain⟨tg,iter,ifs,nx,scope,pos,D,hi,he,_⟩:=D
  rw[show tE C (.comp elt own t it q (.cons ws t2 it2 q2 (.cons ws3 t3 it3 q3 .nil)))=(g0' own (tI C it) (tG C t) (tQo C q) (tR C (.cons ws t2 it2 q2 (.cons ws3 t3 it3 q3 .nil)) (ey' (tE C elt)))) from rfl]
  exact g1' D hi he
 | .comp elt own t it q (.cons ws t2 it2 q2 (.cons _ _ _ _ (.cons _ _ _ _ _))),B,X,sc,e,R,h=>(zo' h).elim
termination_by structural c=>c
theorem sA {C:Rc}:∀(es:Ces) {B:List Str} {X:Cx} {sc:Scope} {xs:List Expr},Rok C B X sc->mA C.N B sc es xs=true->PA X xs (tA C es)
 | .nil,B,X,sc,xs,R,h=>by
  refine kU' h fun e0 g=>?_
  clear h
  subst e0
  revert g
  intro h
  rw[show tA C .nil=(mn') from rfl]
  exact h1'
 | .cons e r,B,X,sc,xs,R,h=>by
  refine m3' h fun x xs e0 g=>?_
  clear h
  subst e0
  revert g
  intro h
  simp only[ac]at h
  rw[show tA C (.cons e r)=(d8' (tE C e) (tA C r)) from rfl]
  exact em' ((sE0 e R h.1.1).1) (sA r R h.2) (au' h.1.2)
termination_by structural c=>c
theorem sQ {C:Rc}:∀(q:Cq) {B:List Str} {X:Cx} {sc:Scope} {e:Expr},Rok C B X sc->mQ C.N B sc q e=true->PT X e (tQ C q)/\((∃op vs pos,e=.BoolOp op vs pos)->PW X e (tQ C q))
 | .val c,B,X,sc,e,R,h=>by
  replace h:=gn' h
  refine⟨?_,fun⟨op,vs,pos,z⟩=>?_⟩
  .rw[show tQ C (.val c)=(fun σ H Q=>tE C c σ H fun x H'=>∃k,ss' C.K x H' k/\Q k H') from rfl]
   rw[<- R.hK]
   exact mB' (sE0 c R h.1).1 (kW' h.2)
  .subst z;exact ap' h.2
 | .din neg a b,B,X,sc,e,R,h=>by
  refine wa' h fun ea op' eb w1 e0 g=>?_
  clear h
  subst e0
  revert g
  intro h
  simp only[ac,decide_eq_true_eq]at h
  obtain⟨⟨⟨rfl,h1⟩,h2⟩,h3⟩:=h
  rw[show tQ C (.din neg a b)=(eN' (m0' neg (tE C a) (tE C b))) from rfl]
  cases neg with
  |true=>exact⟨ot' (gi' R.hu1 (sE0 a R h1).1 (sE0 b R h2).1) (ct' h3),fun⟨op,vs,pos,z⟩=>by cases z⟩
  |false=>exact⟨ot' (oK' R.hu1 (sE0 a R h1).1 (sE0 b R h2).1) (ct' h3),fun⟨op,vs,pos,z⟩=>by cases z⟩
 | .not q,B,X,sc,e,R,h=>by
  refine yE' h fun y w1 e0 g=>?_
  clear h
  subst e0
  revert g
  intro h
  rw[show tQ C (.not q)=(wj' (tQ C q)) from rfl]
  exact⟨sa' (sQ q R h).1,fun⟨op,vs,pos,z⟩=>by cases z⟩
 | .and a b,B,X,sc,e,R,h=>by
  replace h:=kI' h
  rcases h with⟨x,y,pos,rfl,h⟩|⟨x,y,z,r,pos,rfl,h⟩
  .simp only[ac]at h
   rw[show tQ C (.and a b)=(r7' (tQ C a) (tQ C b)) from rfl]
   have w:PW X (.BoolOp .And [x,y] pos) (r7' (tQ C a) (tQ C b)):=ou' (sQ a R h.1).1 (pA' (sQ b R h.2).1)
   exact⟨w.pt,fun _=>w⟩
  .simp only[ac]at h
   rw[show tQ C (.and a b)=(r7' (tQ C a) (tQ C b)) from rfl]
   have w:=ou' (sQ a R h.1).1 ((sQ b R h.2).2 ⟨_,_,_,rfl⟩)
   exact⟨w.pt,fun _=>w⟩
 | .or a b,B,X,sc,e,R,h=>by
  replace h:=oN' h
  rcases h with⟨x,y,pos,rfl,h⟩|⟨x,y,z,r,pos,rfl,h⟩
  .simp only[ac]at h
   rw[show tQ C (.or a b)=(tOr (tQ C a) (tQ C b)) from rfl]
   have w:PW X (.BoolOp .Or [x,y] pos) (tOr (tQ C a) (tQ C b)):=r9' (sQ a R h.1).1 (r8' (sQ b R h.2).1)
   exact⟨w.pt,fun _=>w⟩
  .simp only[ac]at h
   rw[show tQ C (.or a b)=(tOr (tQ C a) (tQ C b)) from rfl]
   have w:=r9' (sQ a R h.1).1 ((sQ b R h.2).2 ⟨_,_,_,rfl⟩)
   exact⟨w.pt,fun _=>w⟩
 | .cmp op a b,B,X,sc,e,R,h=>by
  refine wa' h fun ea op' eb w1 e0 g=>?_
  clear h
  subst e0
  revert g
  intro h
  simp only[ac,decide_eq_true_eq]at h
  obtain⟨⟨⟨rfl,h1⟩,h2⟩,h3⟩:=h
  rw[show tQ C (.cmp op a b)=(eN' (tOp (cS' C.K op) (tE C a) (tE C b))) from rfl]
  rw[<- R.hK]
  exact⟨pP' (e8' R.hu _) (sE0 a R h1).1 (sE0 b R h2).1 (ct' h3),fun⟨op,vs,pos,z⟩=>by cases z⟩
 | .chn op1 op2 a b c,B,X,sc,e,R,h=>by
  refine ts' h fun ea o1 o2 eb ec w1 e0 g=>?_
  clear h
  subst e0
  revert g
  intro h
  simp only[ac,decide_eq_true_eq]at h
  obtain⟨⟨⟨⟨⟨rfl,rfl⟩,h1⟩,h2⟩,h3⟩,h4⟩:=h
  rw[show tQ C (.chn op1 op2 a b c)=(eN' (df' (cS' C.K op1) (cS' C.K op2) (tE C a) (tE C b) (tE C c))) from rfl]
  rw[<- R.hK]
  exact⟨mA' (e8' R.hu _) (e8' R.hu _) (sE0 a R h1).1 (sE0 b R h2).1 (sE0 c R h3).1 (kV' h4),fun⟨op,vs,pos,z⟩=>by cases z⟩
termination_by structural c=>c
theorem sQo {C:Rc}:∀(q:Cqo) {B:List Str} {X:Cx} {sc:Scope} {es:List Expr},Rok C B X sc->mQo C.N B sc q es=true->PTs X es (tQo C q)
 | .none,B,X,sc,es,R,h=>by
  refine kU' h fun e0 g=>?_
  clear h
  subst e0
  revert g
  intro h
  rw[show tQo C .none=(fun _ H Q=>Q true H) from rfl];exact p0'
 | .some q,B,X,sc,es,R,h=>by
  refine xa' h fun e e0 g=>?_
  clear h
  subst e0
  revert g
  intro h
  rw[show tQo C (.some q)=(tQ C q) from rfl];exact p1' (sQ q R h).1
termination_by structural c=>c
theorem sO {C:Rc}:∀(o:Co) {B:List Str} {X:Cx} {sc:Scope} {e:Option Expr},Rok C B X sc->mO C.N B sc o e=true->PO X e (tO C o)
 | .none,B,X,sc,e,R,h=>by
  refine xb' h fun e0 g=>?_
  clear h
  subst e0
  revert g
  intro h
  rw[show tO C .none=(gW') from rfl];exact pT'
 | .some c,B,X,sc,e,R,h=>by
  refine xc' h fun y e0 g=>?_
  clear h
  subst e0
  revert g
  intro h
  rw[show tO C (.some c)=(pS' (tE C c)) from rfl];exact pU' (sE0 c R h).1
termination_by structural c=>c
theorem sI {C:Rc}:∀(i:Ci) {B:List Str} {X:Cx} {sc:Scope} {x tg:Expr},Rok C B X sc->mI C.N B sc i x=true->gm' i tg=true->PI X tg x (tI C i)
 | .val c,B,X,sc,x,tg,R,h,_=>by
  rw[show tI C (.val c)=(wM' C.K (tE C c)) from rfl]
  rw[<- R.hK]
  exact sK' (sE0 c R h).1
 | .range1 a,B,X,sc,x,tg,R,h,_=>by
  refine tw' h fun n w1 y w2 e0 g=>?_
  clear h
  subst e0
  revert g
  intro h
  simp only[ac,decide_eq_true_eq]at h
  obtain⟨⟨⟨⟨rfl,h1⟩,h2⟩,h3⟩,h4⟩:=h
  rw[show tI C (.range1 a)=(pK' (d8' (tE C a) mn')) from rfl]
  exact ju' (R.glb h1) (R.blt _ h2) (em' (sE0 a R h3).1 h1' (au' h4)) (au' h4)
 | .range2 a b,B,X,sc,x,tg,R,h,_=>by
  refine xd' h fun n w1 y z w2 e0 g=>?_
  clear h
  subst e0
  revert g
  intro h
  simp only[ac,decide_eq_true_eq]at h
  obtain⟨⟨⟨⟨⟨⟨rfl,h1⟩,h2⟩,h3⟩,h4⟩,h5⟩,h6⟩:=h
  rw[show tI C (.range2 a b)=(pL' (d8' (tE C a) (d8' (tE C b) mn'))) from rfl]
  have e2:starEach [_] X.env=[(false,eval _ X.env)]:=au' (es:=[]) h6
  exact jv' (R.glb h1) (R.blt _ h2) (em' (sE0 a R h3).1 (em' (sE0 b R h5).1 h1' (au' h6)) (au' h4)) (by rw[au' h4,e2]) e2
 | .enum a,B,X,sc,x,tg,R,h,hz=>by
  refine tw' h fun n w1 y w2 e0 g=>?_
  clear h
  subst e0
  revert g
  intro h
  simp only[ac,decide_eq_true_eq]at h
  obtain⟨⟨⟨⟨rfl,h1⟩,h2⟩,h3⟩,h4⟩:=h
  rw[show tI C (.enum a)=(p3' C.K (tE C a)) from rfl]
  rw[<- R.hK]
  cases tg with
  |Tuple es k p=>exact p4' (R.glb h1) (R.blt _ h2) (em' (sE0 a R h3).1 h1' (au' h4)) (au' h4)
  |_=>cases hz
termination_by structural c=>c
theorem sG {C:Rc}:∀(t:Ct) {B:List Str} {X:Cx} {sc:Scope} {e:Expr},Rok C B X sc->mT C.N B sc t e=true->PG X e (tG C t)
 | .name i,B,X,sc,e,R,h=>by
  refine v9' h fun x w1 e0 g=>?_
  clear h
  subst e0
  revert g
  intro h
  simp only[ac]at h
  obtain⟨h1,h2,h3⟩:=cl' h.1
  obtain⟨h4,h5⟩:=R.locb h.2
  rw[show tG C (.name i)=(dv' i) from rfl]
  exact pG' (by rw[R.hN];exact R.nd) (by rw[R.hN];exact h1) h4 h5
 | .tup ts,B,X,sc,e,R,h=>by
  refine tt' h fun es w1 w2 e0 g=>?_
  clear h
  subst e0
  revert g
  intro h
  rw[show tG C (.tup ts)=(wZ' C.K (m1' ts) (tGs C ts)) from rfl]
  rw[<- R.hK]
  simp only[ac,aZ]at h
  exact to' (R.calm h.2) (sGs ts R h.1) (dl' h.1).1 (dl' h.1).2
 | .sub o i,B,X,sc,e,R,h=>by
  refine tu' h fun eo ei w1 e0 g=>?_
  clear h
  subst e0
  revert g
  intro h
  simp only[ac]at h
  rw[show tG C (.sub o i)=(wq' (tE C o) (tE C i) dw') from rfl]
  exact sg' (sE0 o R h.1.1).1 (sE0 i R h.1.2).1 fj' (qo' h.2)
termination_by structural c=>c
theorem sGs {C:Rc}:∀(ts:Cts) {B:List Str} {X:Cx} {sc:Scope} {es:List Expr},Rok C B X sc->mTs C.N B sc ts es=true->PGs X es (tGs C ts)
 | .nil,B,X,sc,es,R,h=>by
  refine kU' h fun e0 g=>?_
  clear h
  subst e0
  revert g
  intro h
  rw[show tGs C .nil=(wp') from rfl];exact pI'
 | .cons t r,B,X,sc,es,R,h=>by
  refine m3' h fun x xs e0 g=>?_
  clear h
  subst e0
  revert g
  intro h
  simp only[ac]at h
  rw[show tGs C (.cons t r)=(pH' (tG C t) (tGs C r)) from rfl]
  exact mv' (sG t R h.1.1) (sGs r R h.2) (hA' h.1.2)
termination_by structural c=>c
end
theorem sE {C:Rc} {B:List Str} (c:Ce) {X:Cx} {sc:Scope} {e:Expr} (R:Rok C B X sc) (h:mE C.N B sc c e=true):PE X e (tE C c):=(sE0 c R h).1
end R3
set_option maxHeartbeats 4000000
namespace R3
open PySem PySem.Spec PyProof.Rows L2
def eG':Expr->Bool
 | .ListComp ..=>false
 | .SetComp ..=>false
 | .DictComp ..=>false
 |_=>true
theorem m8' {x tg:Expr} {l:Nat} {env:Env} (h:eG' x=true):swapsWithSole [tg] x l env=pure false:=by
 cases x<;>first|rfl|cases h
theorem i2' {x:Expr} {l:Nat} {env:Env} (h:eG' x=true):swapsWith x none l env=pure false:=by
 cases x<;>first|rfl|cases h
set_option tactic.hygienic true in
theorem kZ' {N B:List Str} {sc:Scope} {c:Ce} {x:Expr} (h:mE N B sc c x=true) (hd:hw' c=false) (hx:eG' x=false):∃elt own t it q r,c=.comp elt own t it q r/\∃ee gens scope pos,x=.ListComp ee gens scope pos:=by
 cases x<;>first|(cases hx;done)|skip
 .cases c<;>first|(exact ap' h)|(cases hd;done)|exact⟨_,_,_,_,_,_,rfl,_,_,_,_,rfl⟩
 .cases c<;>first|(exact ap' h)|(cases hd;done)|(rename_i r;cases r<;>first|(exact ap' h)|(cases hd;done)|(rename_i r;cases r<;>first|(exact ap' h)|(cases hd;done)|(rename_i r;cases r<;>exact ap' h)))
 .cases c<;>first|(exact ap' h)|(cases hd;done)|(rename_i r;cases r<;>first|(exact ap' h)|(cases hd;done)|(rename_i r;cases r<;>first|(exact ap' h)|(cases hd;done)|(rename_i r;cases r<;>exact ap' h)))
theorem dZ' {tg:Expr} {env:Env} (h:bd' tg=true):(assignEach [tg] env).map (·.2)=[assign tg env]:=by
 cases tg<;>first|rfl|cases h
def qp':Expr->Expr->Bool
 | .Tuple ..,.Tuple ..=>false
 | .List ..,.Tuple ..=>false
 |_,_=>true
theorem e9' {tg x:Expr} {env:Env} (h:qp' tg x=true):swappedStores [tg] x env=pure none:=by
 cases tg<;>first|rfl|(cases x<;>first|rfl|cases h)
theorem gt' {tg:Expr} {vs:List Expr} {k:Nat} {pos:Pos} {env:Env} (h:vs.all (foldedForSure 8)=true):swappedStores [tg] (.Tuple vs k pos) env=pure none:=by
 have key:∀ts:List Expr,swappedStores [.Tuple ts 0 pos] (.Tuple vs k pos) env=pure none:=by
  intro ts
  unfold swappedStores
  dsimp only
  split
  .rfl
  .split
   .rfl
   .split
    .rfl
    .rfl
 cases tg<;>first|rfl|exact key _
theorem k0' {i:Expr} (h:c6' i=true) (ov iv new:Value):augStore i ov iv new=(do holding [new,ov,iv] (setItem ov iv new);release [new,ov,iv] [];pure .next):=by
 cases i<;>first|rfl|cases h
theorem qq' {N B:List Str} {sc:Scope} {t:Ct} {a:List Expr} {p:Pos} (h:mT N B sc t (.List a p)=true):False:=by
 cases t<;>exact ap' h
section
variable {C:Rc} {B:List Str} {X:Cx} {sc:Scope}
theorem Rok.suite (R:Rok C B X sc) (e:Addr):Rok { C with xk:=fun _=>E0 } ("~" :: "^" :: B) (X.inX e) sc:=by
 have t1:tld ("~" :: "^" :: B)=true:=dE'
 have t2:hat ("~" :: "^" :: B)=true:=decide_eq_true (ay _ aF)
 refine⟨R.hN,R.nd,R.hK,PassesOwn.never,(fun z=>by rw[t2]at z;cases z),R.hu,R.gd,R.loc,R.cel,R.fre,R.glo,(fun _ _ _ z=>by rw[t2]at z;cases z),fun x hx=>?_,R.mrk,R.cls,(fun z=>by rw[t1]at z;cases z),(fun z=>by rw[t1]at z;cases z),(fun z=>by rw[t1]at z;cases z)⟩
 rcases ak.mp hx with rfl|hx
 .exact R.mrk.1
 .rcases ak.mp hx with rfl|hx
  .exact R.mrk.2.1
  .exact R.blt x hx
end
set_option maxHeartbeats 4000000
mutual
theorem sS:∀(c:Cs) {C:Rc} {B:List Str} {X:Cx} {sc:Scope} {s:Stmt},Rok C B X sc->X.env.scope.kind=.function->mS C.N B sc c s=true->PS X s (tS C c)
 | .expr e,C,B,X,sc,s,R,hk,h=>by
  refine xe' h fun x w1 e0 g=>?_
  clear h
  subst e0
  revert g
  intro h
  obtain⟨hc,hd⟩:=gn' h
  clear h
  obtain⟨hc,hm⟩:=gn' hc
  replace hd:hw' e=false:=by cases z:hw' e with
   |false=>rfl
   |true=>rw[z]at hd;exact ap' hd
  rw[show tS C (.expr e)=(pE' (tE C e)) from rfl]
  refine pF' (sE e R hc) (i2' ?_)
  cases hx:eG' x with
  |true=>rfl
  |false=>
   obtain⟨elt,own,t,it,q,r,rfl,_⟩:=kZ' hc hd hx
   exact ap' hm
 | .ret e,C,B,X,sc,s,R,hk,h=>by
  refine xf' h fun x w1 e0 g=>?_
  clear h
  subst e0
  revert g
  intro h
  rw[show tS C (.ret e)=(wl' (tE C e)) from rfl]
  exact sd' (sE e R h)
 | .asg t e,C,B,X,sc,s,R,hk,h=>by
  refine xg' h fun tg x pos e0 g=>?_
  clear h
  subst e0
  revert g
  intro h
  obtain⟨h,h4⟩:=gn' h
  obtain⟨h,h3⟩:=gn' h
  obtain⟨h,h2⟩:=gn' h
  obtain⟨h1,h0⟩:=gn' h
  replace h0:hw' e=false:=by cases z:hw' e with
   |false=>rfl
   |true=>rw[z]at h0;exact ap' h0
  rw[show tS C (.asg t e)=(jj' (tE C e) (tG C t)) from rfl]
  have hw:swappedStores [tg] x X.env=pure none:=by
   cases tg with
   |Tuple a b c=>cases x<;>first|exact e9' rfl|exact gt' h4|exact ap' h4
   |List a b=>exact(qq' h2).elim
   |_=>exact e9' rfl
  cases hx:eG' x with
  |true=>exact hZ' (sE e R h1) (sG t R h2) (m8' hx) hw (dZ' h3)
  |false=>
   obtain⟨elt,own,t',it,q,r,rfl,ee,gens,scope,p2,rfl⟩:=kZ' h1 h0 hx
   have D:=(sE0 _ R h1).2
   obtain⟨tg',iter,ifs,nx,scope',pos',D,hi,he,hu,hsw⟩:=D
   cases t with
   |name i=>
    cases tg with
    |Name y py=>
     obtain⟨b,hb⟩:=hsw y py pos.line
     cases b with
     |true=>
      replace h2:=gn' h2
      obtain⟨g1,g2,g3⟩:=cl' h2.1
      obtain⟨g4,g5⟩:=R.locb h2.2
      exact iP' D hi (by rw[R.hN];exact R.nd) (by rw[R.hN];exact g1) g4 g5 (hu _) hb
     |false=>exact hZ' (sE _ R h1) (sG _ R h2) hb hw (dZ' h3)
    |_=>exact ap' h2
   |tup ts=>
    cases tg with
    |Tuple a b c=>exact ap' h4
    |_=>exact ap' h2
   |sub o i=>
    cases tg with
    |Subscript a b c=>exact hZ' (sE _ R h1) (sG _ R h2) rfl hw (dZ' h3)
    |_=>exact ap' h2
 | .setc2 i elt own t it q ws t2 it2 q2,C,B,X,sc,s,R,hk,h=>by
  refine xh' h fun y py ee tg iter ifs a tg2 iter2 ifs2 a2 scope p2 pos e0 g=>?_
  clear h
  subst e0
  revert g
  intro h
  simp only[ac,decide_eq_true_eq,aZ,bj]at h
  obtain⟨⟨⟨⟨⟨⟨⟨⟨⟨⟨⟨⟨⟨⟨⟨⟨⟨⟨hh,hnm⟩,hsc⟩,helt⟩,hown⟩,rfl⟩,h1⟩,h2⟩,h3⟩,h4⟩,h5⟩,rfl⟩,f1⟩,f2⟩,f3⟩,f4⟩,f5⟩,f6⟩,f7⟩:=h
  have hnm':=hnm
  replace hnm:=gn' hnm
  obtain⟨g1,g2,g3⟩:=cl' hnm.1
  obtain⟨g4,g5⟩:=R.locb hnm.2
  rw[show tS C (.setc2 i elt own t it q ws t2 it2 q2)=(jj' (tl' own (tI C it) (tG C t) (tQo C q) (gZ' (tI C it2) (a3' ws (tG C t2) (tQo C q2) (ge' (tE C elt))))) (dv' i)) from rfl]
  refine qk' (nx:=fun D env=>aW' (.SetComp ee [⟨tg,iter,ifs,0⟩,⟨tg2,iter2,ifs2,0⟩] scope p2) 0 iter2 (.ref D) env) qi' (fun _=>rfl) mY' fw' qj' ⟨R.compSc hsc,?_,⟨_,rfl⟩,aZ' h3,R.calm hh,fun _ _ _=>⟨rfl,rfl⟩,fun _ _ _ _=>⟨rfl,rfl⟩,fun _ _ _ _ _=>kY' _ _ _ _ _ _ _ _ _ _ _ _ _ _,fun _ _ _ _ _=>rfl,cb' hown,?_⟩ (sI it R h1 h2) (by rw[R.hN];exact R.nd) (by rw[R.hN];exact g1) g4 g5 (sG (.name i) R hnm') rfl rfl ⟨_,rfl⟩
  .rw[R.hN];exact(dk' hsc).2.2.2.2
  .intro s0 H0 ex D
   have R':=R.comp hh hsc s0 H0 ex
   refine⟨sG t R' h4,sQo q R' h5,ws,f7,?_⟩
   exact eb' (nx:=do let v <- eval ee (X.comp scope s0 H0 ex).env;standAt ee.pos;let _ <- call (.builtin "set.add") [.ref D,v]) rfl (R.calm hh) (fun _=>rfl) (fun _=>rfl) (fun _=>rfl) (fun _=>rfl) (fun _=>rfl) (fun _=>rfl) ⟨_,rfl,rfl⟩ (aZ' f3) (sI it2 R' f1 f2) (sG t2 R' f4) (cb' f6) (sQo q2 R' f5) (kx' rfl (sE elt R' helt)) (by simp) fw'
 | .dctc tup i k v own t it q,C,B,X,sc,s,R,hk,h=>by
  refine xi' h fun y py ke ve tg iter ifs a scope p2 pos e0 g=>?_
  clear h
  subst e0
  revert g
  intro h
  simp only[ac,decide_eq_true_eq,aZ]at h
  obtain⟨⟨⟨⟨⟨⟨⟨⟨⟨⟨⟨hh,hnm⟩,hsc⟩,hke⟩,hve⟩,hown⟩,rfl⟩,h1⟩,h2⟩,h3⟩,h4⟩,h5⟩:=h
  have hnm':=hnm
  replace hnm:=gn' hnm
  obtain⟨g1,g2,g3⟩:=cl' hnm.1
  obtain⟨g4,g5⟩:=R.locb hnm.2
  rw[show tS C (.dctc tup i k v own t it q)=(if tup then jj' (tn' own (tI C it) (tG C t) (tQo C q) (tE C k) (tE C v)) (dv' i)else jj' (tm' own (tI C it) (tG C t) (tQo C q) (tE C k) (tE C v)) (dv' i)) from rfl]
  cases tup with
  |false=>
   refine qk' (Is:=tf' X.prog X.w) (nx:=fun D env=>tC' ke ve D env) id' (fun _=>rfl) kz' gg' th' ⟨R.compSc hsc,?_,⟨[],rfl⟩,aZ' h3,R.calm hh,fun _ _ _=>⟨rfl,rfl⟩,fun _ _ _ _=>⟨rfl,rfl⟩,fun _ _ _ _ _=>rfl,fun _ _ _ _ _=>rfl,cb' hown,?_⟩ (sI it R h1 h2) (by rw[R.hN];exact R.nd) (by rw[R.hN];exact g1) g4 g5 (sG (.name i) R hnm') rfl rfl ⟨_,rfl⟩
   .rw[R.hN];exact(dk' hsc).2.2.2.2
   .intro s0 H0 ex D
    have R':=R.comp hh hsc s0 H0 ex
    exact⟨sG t R' h4,sQo q R' h5,[],by simp,kA' rfl (sE k R' hke) (sE v R' hve)⟩
  |true=>
   refine qk' (Is:=ti' X.prog X.w) (nx:=fun D env=>tC' ke ve D env) id' (fun _=>rfl) kB' gh' tj' ⟨R.compSc hsc,?_,⟨[],rfl⟩,aZ' h3,R.calm hh,fun _ _ _=>⟨rfl,rfl⟩,fun _ _ _ _=>⟨rfl,rfl⟩,fun _ _ _ _ _=>rfl,fun _ _ _ _ _=>rfl,cb' hown,?_⟩ (sI it R h1 h2) (by rw[R.hN];exact R.nd) (by rw[R.hN];exact g1) g4 g5 (sG (.name i) R hnm') rfl rfl ⟨_,rfl⟩
   .rw[R.hN];exact(dk' hsc).2.2.2.2
   .intro s0 H0 ex D
    have R':=R.comp hh hsc s0 H0 ex
    exact⟨sG t R' h4,sQo q R' h5,[],by simp,kC' R'.hu1 rfl (sE k R' hke) (sE v R' hve)⟩
 | .aug i sub e,C,B,X,sc,s,R,hk,h=>by
  refine xj' h fun x w1 op ee w2 e0 g=>?_
  clear h
  subst e0
  revert g
  intro h
  simp only[ac,decide_eq_true_eq]at h
  obtain⟨⟨⟨h1,h2⟩,h3⟩,rfl⟩:=h
  obtain⟨g1,g2,g3⟩:=cl' h1
  obtain⟨g4,g5⟩:=R.locb h2
  rw[show tS C (.aug i sub e)=(wr' i (tE C e) (ipI fun i j=>if sub then i-j else i+j)) from rfl]
  cases sub with
  |true=>exact ox' (by rw[R.hN];exact R.nd) (by rw[R.hN];exact g1) g4 (sE e R h3) oz' g5
  |false=>exact ox' (by rw[R.hN];exact R.nd) (by rw[R.hN];exact g1) g4 (sE e R h3) oy' g5
 | .augS o i sub e,C,B,X,sc,s,R,hk,h=>by
  refine xp' h fun eo ei w1 op ee w2 e0 g=>?_
  clear h
  subst e0
  revert g
  intro h
  simp only[ac,decide_eq_true_eq]at h
  obtain⟨⟨⟨⟨h1,h2⟩,h3⟩,h4⟩,rfl⟩:=h
  rw[show tS C (.augS o i sub e)=(pJ' (tE C o) (tE C i) (tE C e) (e0' C.K) (ipI fun i j=>if sub then i-j else i+j) dw') from rfl]
  rw[<- R.hK]
  cases sub with
  |true=>exact jr' (sE o R h1) (sE i R h2) h9' (sE e R h4) oz' fj' (k0' h3)
  |false=>exact jr' (sE o R h1) (sE i R h2) h9' (sE e R h4) oy' fj' (k0' h3)
 | .ite q a b,C,B,X,sc,s,R,hk,h=>by
  refine xk' h fun x ss rs w1 e0 g=>?_
  clear h
  subst e0
  revert g
  intro h
  simp only[ac]at h
  rw[show tS C (.ite q a b)=(wm' (tQ C q) (tSs C a) (tSs C b)) from rfl]
  exact wn' (sQ q R h.1.1).1 (sSs a R hk h.1.2) (sSs b R hk h.2)
 | .whl q b,C,B,X,sc,s,R,hk,h=>by
  refine xl' h fun x ss w1 e0 g=>?_
  clear h
  subst e0
  revert g
  intro h
  simp only[ac]at h
  rw[show tS C (.whl q b)=(js' (tQ C q) (tSs C b)) from rfl]
  exact mw' R.own (sQ q R h.1).1 (sSs b R hk h.2)
 | .for_ t it b,C,B,X,sc,s,R,hk,h=>by
  refine xm' h fun tg iter ss w1 e0 g=>?_
  clear h
  subst e0
  revert g
  intro h
  simp only[ac,aZ]at h
  obtain⟨⟨⟨⟨⟨h1,h2⟩,h3⟩,h4⟩,h5⟩,hh⟩:=h
  rw[show tS C (.for_ t it b)=(wu' (tI C it) (tG C t) (tSs C b)) from rfl]
  exact sh' R.own (R.calm hh) (sI it R h1 h2) (sG t R h4) (sSs b R hk h5) (aZ' h3)
theorem sSs:∀(c:Css) {C:Rc} {B:List Str} {X:Cx} {sc:Scope} {ss:List Stmt},Rok C B X sc->X.env.scope.kind=.function->mSs C.N B sc c ss=true->PSs X ss (tSs C c)
 | .nil,C,B,X,sc,ss,R,hk,h=>by
  refine xn' h fun e0 g=>?_
  clear h
  subst e0
  revert g
  intro h
  rw[show tSs C .nil=(pC') from rfl];exact pD'
 | .cons c r,C,B,X,sc,ss,R,hk,h=>by
  refine xo' h fun x xs e0 g=>?_
  clear h
  subst e0
  revert g
  intro h
  simp only[ac]at h
  rw[show tSs C (.cons c r)=(wk' (tS C c) (tSs C r)) from rfl]
  exact mu' (sS c R hk h.1) (sSs r R hk h.2)
end
section
variable {P:Program} {w:World} {K:W.Frag} {mg:Str->Option Value} {base:Heap}
structure Ask (P:Program) (w:World) (K:W.Frag) (mg:Str->Option Value) (base:Heap) (k:Nat) (C:Rc):Prop where
 fs:∀y sp',C.fs y=some sp'->∃f' fd' ps',(FnOk P w K mg base CX0 k f' fd' ps' sp'\/FnOk P w K mg base (CX1 P w mg) k f' fd' ps' sp'/\rY' y∈C.B)/\mg y=some (.ref f')/\W.keepIn K (.ref f')=true/\eO' K fd' ps' []
 B:∀y∈C.B,mg y=none
 mrk:mg "~"=none/\mg "^"=none/\mg "%"=none
 cl:∀c Ca,C.cl c=some Ca->mg c=some (.ref Ca)/\W.nsIn K mainGlobals c=some (some (.ref Ca))
 nt:tld C.B=false
 nh:hat C.B=false
theorem qr' {x qual:Str} {st:Stmt} {f:Addr} {fd:FuncData} {ps:List Str} {k:Nat} {sp:Sp} (F:Fun K x qual st f fd) (C:Rc) (S:FnScope C.N ps (ac' st)) (hK:C.K=K) (code:Css) (hm:mSs C.N C.B (ac' st) code (am' st)=true)
  (len:∀vs H Q E,sp vs H Q E->vs.length=ps.length) (ask:Ask P w K mg base k C) (hxk:C.xk=fun _=>E0)
  (hbody:∀vs H Q E,sp vs H Q E->tSs C code { nx:=fun _ H'=>Q .non H',rt:=Q } (aw' C.N vs) H):FnOk P w K mg base CX0 (k+1) f fd ps sp:=by
 refine F.ok S len fun cdv A outer s H vs Q E hr h=>⟨_,sSs code (sc:=ac' st) (B:=C.B) ?_ S.kind hm,hbody vs H Q E h⟩
 refine⟨rfl,S.nd,hK.symm,PassesOwn.never,fun _=>rfl,hr.units,hr.gd,fun _ e=>e,fun _ e=>⟨e,rfl⟩,fun _ e=>.inr e,fun _ e=>e,fun y sp' e _ _=>?_,ask.B,ask.mrk,ask.cl,fun _=>⟨rfl,fun _=>rfl,rfl,rfl⟩,fun _=>ask.nh,fun _ _ nm Ca pins σ H s e t _ _ _ _ _ _ z=>?_⟩
 .obtain⟨f',fd',ps',h1,h2,h3,h4⟩:=ask.fs y sp' e
  rcases h1 with h1|⟨h1,hb⟩
  .exact⟨f',fd',ps',k,CX0,h1,hr,h2,h3,h4,.inl rfl,oS'⟩
  .refine⟨f',fd',ps',k,_,h1,hr,h2,h3,h4,.inr ⟨rfl,hb⟩,?_⟩
   rintro pins σ H s e s' I ⟨ea,T,Ca,nm,H',_,_,_,_,_,_,_,_,_,_,_,z⟩
   rw[hxk]at z
   exact z.elim
 .rw[hxk]at z
  exact z.elim
end
def m9' (a:Addr) (k:Nat) (h:Heap):Prop:=∃(x y z:Int) (t1 t2 t3:Tok) (n:Nat),h.get? a=some { cls:=.type "list",data:=.seq #[.int x t1,.int y t2,.int z t3] n }/\0<=x/\0<=y/\y<2 ^ 62/\0<=z/\z<=k
def dF' (a:Addr) (k:Nat):HO:=.ext (m9' a k)
def gu' (x y z:Int):HO:=.lst [.int x,.int y,.int z]
theorem tD' {a:Addr} {n k:Nat} (e:dF' a n=dF' a k):n<=k:=by
 have e1:m9' a n=m9' a k:=HO.ext.inj e
 let o:Obj:={ cls:=.type "list",data:=.seq #[.int 0 0,.int 0 0,.int n 0] 0 }
 let h0:Heap:={ (default:Heap)with objs:=Array.replicate a default }
 have hs:h0.objs.size=a:=Array.size_replicate
 have g:(h0.push o).get? a=some o:=by
  have:=aC h0 (o:=o) rfl
  rw[hs]at this
  exact this
 have q:m9' a n (h0.push o):=⟨0,0,n,0,0,0,0,g,by omega,by omega,by decide,by omega,by omega⟩
 rw[e1]at q
 obtain⟨x,y,z,t1,t2,t3,m,g2,_,_,_,_,hz⟩:=q
 rw[g]at g2
 have g3:=Option.some.inj g2
 have g4:(#[.int 0 0,.int 0 0,.int n 0]:Array Value)=#[.int x t1,.int y t2,.int z t3]:=by
  have:o.data=_:=congrArg Obj.data g3
  injection this
 have g6:=congrArg Array.toList g4
 simp only[List.cons.injEq,Value.int.injEq]at g6
 have g5:(n:Int)=z:=g6.2.2.1.1
 omega
theorem k1' {P:Program} {w:World} {H:Hp} {h:Heap} {b:Addr} {x y z:Int} {k:Nat} (hok:HOk P w H h) (e:H b=some (gu' x y z)) (hx:0<=x) (hy:0<=y) (hy2:y<2 ^ 62) (hz:0<=z) (hk:z<=k):HOk P w (upd H b (dF' b k)) h:=by
 intro c o ec
 by_cases hc:c=b
 .subst hc
  rw[aa']at ec
  cases ec
  obtain⟨_,its,n,rv,g⟩:=(show aD' P w H h c (.lst _) from hok c _ e)
  cases rv with
  |cons r1 r=>
   cases r with
   |cons r2 r=>
    cases r with
    |cons r3 r=>
     cases r
     obtain⟨t1,rfl⟩:=r1
     obtain⟨t2,rfl⟩:=r2
     obtain⟨t3,rfl⟩:=r3
     refine⟨⟨x,y,z,t1,t2,t3,n,g,hx,hy,hy2,hz,hk⟩,⟨_,g⟩,fun h1 h2 q kk=>?_⟩
     obtain⟨x,y,z,t1,t2,t3,n,g,r⟩:=q
     exact⟨x,y,z,t1,t2,t3,n,kk _ g,r⟩
 .rw[af' hc]at ec
  have ne:∀d u,H d=some u->(∀xs,u≠.lst xs)->d≠b:=fun d u q nu z=>by subst z;rw[e]at q;cases q;exact nu _ rfl
  exact(hok c o ec).stay (fun _ _ _ q=>q) (fun d q=>by rw[af' (ne d _ q fun _ z=>by cases z)];exact q) fun d xs q=>by rw[af' (ne d _ q fun _ z=>by cases z)];exact q
theorem na' {P:Program} {w:World} {H:Hp} {h:Heap} {b:Addr} {k:Nat} (hok:HOk P w H h) (e:H b=some (dF' b k)):∃x y z:Int,0<=x/\0<=y/\y<2 ^ 62/\0<=z/\z<=k/\HOk P w (upd H b (gu' x y z)) h:=by
 obtain⟨⟨x,y,z,t1,t2,t3,n,g,hx,hy,hy2,hz,hk⟩,_,_⟩:=(show aD' P w H h b (.ext _) from hok b _ e)
 refine⟨x,y,z,hx,hy,hy2,hz,hk,fun c o ec=>?_⟩
 by_cases hc:c=b
 .subst hc
  rw[aa']at ec
  cases ec
  exact⟨by show 3<=sizeLine;decide,[.int x t1,.int y t2,.int z t3],n,.cons ⟨_,rfl⟩ (.cons ⟨_,rfl⟩ (.cons ⟨_,rfl⟩ .nil)),g⟩
 .rw[af' hc]at ec
  have ne:∀d u,H d=some u->(∀φ,u≠.ext φ)->d≠b:=fun d u q nu z=>by subst z;rw[e]at q;cases q;exact nu _ rfl
  exact(hok c o ec).stay (fun _ _ _ q=>q) (fun d q=>by rw[af' (ne d _ q fun _ z=>by cases z)];exact q) fun d xs q=>by rw[af' (ne d _ q fun _ z=>by cases z)];exact q
theorem nb' {fs ex:List Addr} {H H':Hp} {h h':Heap} {b:Addr} {xs:List V} {o:HO} (u:Un fs ex H H' h h') (e:H' b=some (.lst xs)):Un fs ex H (upd H' b o) h h' where
 keep:=u.keep
 slot:=u.slot
 free:=fun c ob q n hx=>by
  have z:=u.free c ob q n hx
  rw[af' (fun z2=>by subst z2;rw[e]at z;cases z)]
  exact z
 there:=u.there
 tups:=fun c ys q=>by
  have z:=u.tups c ys q
  rw[af' (fun z2=>by subst z2;rw[e]at z;cases z)]
  exact z
 frzs:=fun c ob ys q=>by
  have z:=u.frzs c ob ys q
  rw[af' (fun z2=>by subst z2;rw[e]at z;cases z)]
  exact z
 tbls:=fun c ps q=>by
  obtain⟨m,z⟩:=u.tbls c ps q
  exact⟨m,by rw[af' (fun z2=>by subst z2;rw[e]at z;cases z)];exact z⟩
theorem qs' {fs ex:List Addr} {H H':Hp} {h h':Heap} {b:Addr} {φ:Heap->Prop} {o:HO} (u:Un fs ex (upd H b o) H' h h') (e:H b=some (.ext φ)):Un fs ex H H' h h':=by
 have ne:∀c,H c=none->c≠b:=fun c n z=>by subst z;rw[e]at n;cases n
 have ne2:∀c v,H c=some v->(∀ψ,v≠.ext ψ)->c≠b:=fun c v q nv z=>by subst z;rw[e]at q;cases q;exact nv _ rfl
 exact⟨fun c ob q n=>u.keep c ob q (by rw[af' (ne c n)];exact n),fun c ob q n=>u.slot c ob q (by rw[af' (ne c n)];exact n),fun c ob q n=>u.free c ob q (by rw[af' (ne c n)];exact n),u.there,
  fun c ys q=>u.tups c ys (by rw[af' (ne2 c _ q fun _ z=>by cases z)];exact q),fun c ob ys q=>u.frzs c ob ys (by rw[af' (ne2 c _ q fun _ z=>by cases z)];exact q),fun c ps q=>u.tbls c ps (by rw[af' (ne2 c _ q fun _ z=>by cases z)];exact q)⟩
section
variable {P:Program} {w:World} {K:W.Frag} {mg:Str->Option Value} {base:Heap} {k:Nat} {f:Addr} {fd:FuncData} {ps:List Str} {sp sp':Sp}
def yF' (Q:VK) (v:V) (H:Hp):Prop:=∃b x y z m,H b=some (gu' x y z)/\0<=x/\0<=y/\y<2 ^ 62/\0<=z/\z<=((m:Nat):Int)/\Q v (upd H b (dF' b m))
theorem k2' (F:FnOk P w K mg base CX0 k f fd ps sp) (h:∀vs H Q E,sp' vs H Q E->sp vs H (yF' Q) E):FnOk P w K mg base CX0 k f fd ps sp':=by
 refine⟨fun vs H Q E q=>F.len vs H _ E (h _ _ _ _ q),fun A outer s H args us vs Q E hr e0 hb hv hs=>?_⟩
 refine codeAny_mono (F.run A outer s H args us vs _ E hr e0 hb hv (h _ _ _ _ hs)) fun r s' hq=>?_
 cases r with
 |error e=>exact hq
 |ok fl=>
  cases fl with
  |next=>exact hq
  |brk=>exact hq
  |cont=>exact hq
  |ret u=>
   obtain⟨v,H',os,bare,un,hok,rv,b,x,y,z,m,eb,hx,hy,hy2,hz,hm,q⟩:=hq
   exact⟨v,_,os,bare,nb' un eb,k1' hok eb hx hy hy2 hz hm,rv,q⟩
theorem qt' (F:FnOk P w K mg base CX0 k f fd ps sp) (h:∀vs H Q E,sp' vs H Q E->∃b n,H b=some (dF' b n)/\∀x y z,0<=x->0<=y->y<2 ^ 62->0<=z->z<=((n:Nat):Int)->sp vs (upd H b (gu' x y z)) Q E) (len:∀vs H Q E,sp' vs H Q E->vs.length=ps.length):FnOk P w K mg base CX0 k f fd ps sp':=by
 refine⟨len,fun A outer s H args us vs Q E hr e0 hb hv hs=>?_⟩
 obtain⟨b,n,eb,hsp⟩:=h _ _ _ _ hs
 obtain⟨x,y,z,hx,hy,hy2,hz,hn,hok⟩:=na' e0.hok eb
 have ne:∀c,H c=none->c≠b:=fun c n z=>by subst z;rw[eb]at n;cases n
 have e1:Env0 P w K mg base A outer s (upd H b (gu' x y z)):=⟨e0.frames,e0.mod,fun c o e=>⟨(e0.bs c o e).1,by rw[af' (ne c (e0.bs c o e).2)];exact(e0.bs c o e).2⟩,e0.bsz,e0.funs,fun c hc=>by rw[af' (ne c (e0.frf c hc))];exact e0.frf c hc,hok,e0.bare⟩
 refine codeAny_mono (F.run A outer s _ args us vs Q E hr e1 hb hv (hsp x y z hx hy hy2 hz hn)) fun r s' hq=>?_
 cases r with
 |error e=>exact hq
 |ok fl=>
  cases fl with
  |next=>exact hq
  |brk=>exact hq
  |cont=>exact hq
  |ret u=>
   obtain⟨v,H',os,bare,un,hok,rv,q⟩:=hq
   exact⟨v,H',os,bare,qs' un eb,hok,rv,q⟩
end
structure Go (c:Nat) (H H':Hp):Prop where
 box:∀a n,H a=some (dF' a n)->∃m,m<=n+c/\H' a=some (dF' a m)
 oth:∀a o,H a=some o->(∀φ,o≠.ext φ)->H' a=some o
 free:∀a,H' a=none->H a=none
theorem Go.of_same {c:Nat} {H H':Hp} (h:ax' H H'):Go c H H':=⟨fun a n e=>⟨n,by omega,h a _ e⟩,fun a o e _=>h a o e,fun a e=>h.free e⟩
theorem Go.refl {c:Nat} {H:Hp}:Go c H H:=.of_same (ax'.refl H)
theorem Go.trans {c d:Nat} {H H1 H2:Hp} (a:Go c H H1) (b:Go d H1 H2):Go (c+d) H H2:=⟨fun p n e=>by
  obtain⟨m,hm,e1⟩:=a.box p n e
  obtain⟨m',hm',e2⟩:=b.box p m e1
  exact⟨m',by omega,e2⟩,fun p o e no=>b.oth p o (a.oth p o e no) no,fun p e=>a.free p (b.free p e)⟩
theorem Go.mono {c d:Nat} {H H1:Hp} (a:Go c H H1) (h:c<=d):Go d H H1:=⟨fun p n e=>by
  obtain⟨m,hm,e1⟩:=a.box p n e
  exact⟨m,by omega,e1⟩,a.oth,a.free⟩
theorem Go.lst {c:Nat} {H H1:Hp} (a:Go c H H1) {p:Addr} {xs:List V} (e:H p=some (.lst xs)):H1 p=some (.lst xs):=a.oth p _ e fun _ z=>by cases z
theorem Go.tup {c:Nat} {H H1:Hp} (a:Go c H H1) {p:Addr} {xs:List V} (e:H p=some (.tup xs)):H1 p=some (.tup xs):=a.oth p _ e fun _ z=>by cases z
theorem Go.seq {c:Nat} {K:W.Frag} {H H1:Hp} (g:Go c H H1) {a:Addr} {xs:List V} (h:SqL K H a xs):SqL K H1 a xs:=by
 rcases h with(h|⟨o,h⟩)|h
 .exact .inl (.inl (g.lst h))
 .exact .inl (.inr ⟨o,g.oth _ _ h fun _ z=>by cases z⟩)
 .exact .inr h
theorem Go.new {c:Nat} {H:Hp} {p:Addr} (h:H p=none) (o:HO):Go c H (upd H p o):=.of_same fun b u q=>by rw[af' (ag' q h)];exact q
theorem Go.draw {H:Hp} {b:Addr} {n m:Nat} (e:H b=some (dF' b n)) (h:m<=n+1) (o:HO):Go 1 H (upd (upd H b o) b (dF' b m)):=by
 rw[b8']
 refine⟨fun p k q=>?_,fun p u q no=>?_,fun p q=>?_⟩
 .by_cases hp:p=b
  .subst hp
   rw[e]at q
   have:=tD' (Option.some.inj q)
   exact⟨m,by omega,aa'⟩
  .exact⟨k,by omega,by rw[af' hp];exact q⟩
 .rw[af']
  .exact q
  .intro z
   subst z
   rw[e]at q
   cases q
   exact no _ rfl
 .by_cases hp:p=b
  .subst hp
   rw[aa']at q
   cases q
  .rw[af' hp]at q
   exact q
section
variable {C:Rc} {σ:L2.St} {H:Hp} {Q:VK} {D:Ends} {Qb:Bool->Hp->Prop}
def kV (o:Option (Option V)) (H:Hp) (Q:VK):Prop:=∃v,o=some (some v)/\Q v H
theorem fA' {v:V}:kV (some (some v)) H Q=Q v H:=propext ⟨fun⟨u,e,q⟩=>by cases e;exact q,fun q=>⟨v,rfl,q⟩⟩
theorem in' {i:Nat}:tE C (.var i) σ H Q=kV σ[i]? H Q:=rfl
theorem oT' {n:Int}:tE C (.int n) σ H Q=Q (.int n) H:=rfl
theorem xr' {b:Bool}:tE C (.bl b) σ H Q=Q (.bl b) H:=rfl
theorem oU':tE C .non σ H Q=Q .non H:=rfl
theorem tE' {x:Str}:tE C (.str x) σ H Q=Q (.str x) H:=rfl
theorem xs' {x:String}:tE C (.ty x) σ H Q=Q (.ty x) H:=rfl
def kB1 (C:Rc) (σ:L2.St) (op:Operator) (b:Ce) (Q:VK):VK:=fun x H=>tE C b σ H fun y H2=>eS' C.K op x y H2 Q
def kB2 (C:Rc) (op:Operator) (x:V) (Q:VK):VK:=fun y H=>eS' C.K op x y H Q
theorem tF' {op:Operator} {a b:Ce}:tE C (.bin op a b) σ H Q=tE C a σ H (kB1 C σ op b Q):=rfl
theorem tG' {op:Operator} {b:Ce} {x:V}:kB1 C σ op b Q x H=tE C b σ H (kB2 C op x Q):=rfl
theorem tH' {op:Operator} {x y:V}:kB2 C op x Q y H=eS' C.K op x y H Q:=rfl
def kC1 (C:Rc) (σ:L2.St) (op:CmpOp) (b:Ce) (Q:VK):VK:=fun x H=>tE C b σ H fun y H2=>cS' C.K op x y H2 Q
def kC2 (C:Rc) (op:CmpOp) (x:V) (Q:VK):VK:=fun y H=>cS' C.K op x y H Q
theorem tI' {op:CmpOp} {a b:Ce}:tE C (.cmp op a b) σ H Q=tE C a σ H (kC1 C σ op b Q):=rfl
theorem oV' {op:CmpOp} {b:Ce} {x:V}:kC1 C σ op b Q x H=tE C b σ H (kC2 C op x Q):=rfl
theorem oW' {op:CmpOp} {x y:V}:kC2 C op x Q y H=cS' C.K op x y H Q:=rfl
def kI1 (C:Rc) (σ:L2.St) (b:Ce) (Q:VK):VK:=fun x H=>tE C b σ H fun y H2=>oL' C.K x y H2 Q
def kI2 (C:Rc) (x:V) (Q:VK):VK:=fun y H=>oL' C.K x y H Q
theorem tJ' {a b:Ce}:tE C (.idx a b) σ H Q=tE C a σ H (kI1 C σ b Q):=rfl
theorem tK' {b:Ce} {x:V}:kI1 C σ b Q x H=tE C b σ H (kI2 C x Q):=rfl
theorem tL' {x y:V}:kI2 C x Q y H=oL' C.K x y H Q:=rfl
def yG' (Q:VK):VK:=fun x H=>rU (fun i=>.int (-i)) x H Q
theorem tM' {a:Ce}:tE C (.neg a) σ H Q=tE C a σ H (yG' Q):=rfl
theorem nc' {i:Int}:yG' Q (.int i) H=Q (.int (-i)) H:=propext ⟨fun⟨u,e,q⟩=>by cases e;exact q,fun q=>⟨i,rfl,q⟩⟩
def kT (Qb:Bool->Hp->Prop):VK:=fun x H=>∃k,x=.bl k/\Qb k H
theorem tN' {k:Bool}:kT Qb (.bl k) H=Qb k H:=propext ⟨fun⟨u,e,q⟩=>by cases e;exact q,fun q=>⟨k,rfl,q⟩⟩
theorem oX' {op:CmpOp} {a b:Ce}:tQ C (.cmp op a b) σ H Qb=tE C a σ H (kC1 C σ op b (kT Qb)):=rfl
def tO' (Qb:Bool->Hp->Prop):Bool->Hp->Prop:=fun c H=>Qb (!c) H
theorem tP' {q:Cq}:tQ C (.not q) σ H Qb=tQ C q σ H (tO' Qb):=rfl
theorem nd' {c:Bool}:tO' Qb c H=Qb (!c) H:=rfl
def qu' (C:Rc) (σ:L2.St) (b:Cq) (Qb:Bool->Hp->Prop):Bool->Hp->Prop:=fun c H=>if c=true then tQ C b σ H Qb else Qb false H
def xt' (C:Rc) (σ:L2.St) (b:Cq) (Qb:Bool->Hp->Prop):Bool->Hp->Prop:=fun c H=>if c=true then Qb true H else tQ C b σ H Qb
theorem tQ' {a b:Cq}:tQ C (.and a b) σ H Qb=tQ C a σ H (qu' C σ b Qb):=rfl
theorem xu' {a b:Cq}:tQ C (.or a b) σ H Qb=tQ C a σ H (xt' C σ b Qb):=rfl
theorem qv' {b:Cq}:qu' C σ b Qb true H=tQ C b σ H Qb:=rfl
theorem qw' {b:Cq}:qu' C σ b Qb false H=Qb false H:=rfl
theorem tR' {b:Cq}:xt' C σ b Qb true H=Qb true H:=rfl
theorem tS' {b:Cq}:xt' C σ b Qb false H=tQ C b σ H Qb:=rfl
variable {K:W.Frag} {i j:Int} {x y:Str}
theorem xv':eS' K .Add (.int i) (.int j) H Q=Q (.int (i+j)) H:=rfl
theorem tT':eS' K .Add (.str x) (.str y) H Q=(x.length+y.length<=sizeLine/\Q (.str (x++y)) H):=rfl
theorem xw':eS' K .Sub (.int i) (.int j) H Q=Q (.int (i-j)) H:=propext ⟨fun⟨_,_,e,e',q⟩=>by cases e;cases e';exact q,fun q=>⟨_,_,rfl,rfl,q⟩⟩
theorem xx':eS' K .Mult (.int i) (.int j) H Q=(tq' i j/\Q (.int (i*j)) H):=rfl
theorem tU':eS' K .Mult (.str x) (.int j) H Q=(-1000000<=j/\j<=1000000/\x.length*j.toNat<=1000000/\Q (.str (Txt.mul x j)) H):=rfl
theorem xy':eS' K .Mod (.int i) (.int j) H Q=(0<j/\Q (.int (i % j)) H):=propext ⟨fun⟨_,_,e,e',c,q⟩=>by cases e;cases e';exact⟨c,q⟩,fun q=>⟨_,_,rfl,rfl,q.1,q.2⟩⟩
theorem xz':eS' K .FloorDiv (.int i) (.int j) H Q=(tp' i j/\Q (.int (i / j)) H):=propext ⟨fun⟨_,_,e,e',c,q⟩=>by cases e;cases e';exact⟨c,q⟩,fun q=>⟨_,_,rfl,rfl,q.1,q.2⟩⟩
theorem xA':eS' K .Pow (.int i) (.int j) H Q=(wz' i j/\Q (.int (i ^ j.toNat)) H):=propext ⟨fun⟨_,_,e,e',c,q⟩=>by cases e;cases e';exact⟨c,q⟩,fun q=>⟨_,_,rfl,rfl,q.1,q.2⟩⟩
theorem zp':cS' K .Lt (.int i) (.int j) H Q=Q (.bl (decide (i<j))) H:=propext ⟨fun⟨_,_,e,e',q⟩=>by cases e;cases e';exact q,fun q=>⟨_,_,rfl,rfl,q⟩⟩
theorem zq':cS' K .LtE (.int i) (.int j) H Q=Q (.bl (decide (i<=j))) H:=propext ⟨fun⟨_,_,e,e',q⟩=>by cases e;cases e';exact q,fun q=>⟨_,_,rfl,rfl,q⟩⟩
theorem zr':cS' K .Gt (.int i) (.int j) H Q=Q (.bl (decide (j<i))) H:=propext ⟨fun⟨_,_,e,e',q⟩=>by cases e;cases e';exact q,fun q=>⟨_,_,rfl,rfl,q⟩⟩
theorem zs':cS' K .GtE (.int i) (.int j) H Q=Q (.bl (decide (j<=i))) H:=propext ⟨fun⟨_,_,e,e',q⟩=>by cases e;cases e';exact q,fun q=>⟨_,_,rfl,rfl,q⟩⟩
theorem zt':cS' K .Eq (.int i) (.int j) H Q=Q (.bl (decide (i=j))) H:=by
 have e:decide (V.int i=V.int j)=decide (i=j):=by simp
 exact propext ⟨fun q=>e ▸ q.2,fun q=>⟨rfl,e.symm ▸ q⟩⟩
theorem tV' {a:Addr}:oL' K (.ref a) (.int i) H Q=(e0' K (.ref a) (.int i) H Q\/gR' K (.ref a) (.int i) H Q):=rfl
def rZ' (C:Rc) (r:Css) (D:Ends):Ends:={ D with nx:=tSs C r D }
theorem tW':tSs C .nil D σ H=D.nx σ H:=rfl
theorem qx' {s:Cs} {r:Css}:tSs C (.cons s r) D σ H=tS C s (rZ' C r D) σ H:=rfl
theorem fa' {r:Css}:(rZ' C r D).nx σ H=tSs C r D σ H:=rfl
theorem tX' {r:Css}:(rZ' C r D).rt=D.rt:=rfl
theorem tY' {r:Css}:(rZ' C r D).bk=D.bk:=rfl
theorem tZ' {r:Css}:(rZ' C r D).ct=D.ct:=rfl
theorem xB' {e:Ce}:tS C (.ret e) D σ H=tE C e σ H D.rt:=rfl
def t0' (D:Ends) (σ:L2.St):VK:=fun _ H=>D.nx σ H
theorem t1' {e:Ce}:tS C (.expr e) D σ H=tE C e σ H (t0' D σ):=rfl
theorem ne' {v:V}:t0' D σ v H=D.nx σ H:=rfl
def yH' (i:Nat) (D:Ends) (σ:L2.St):VK:=fun x H=>D.nx (σ.set i (some x)) H
theorem xC' {i:Nat} {e:Ce}:tS C (.asg (.name i) e) D σ H=tE C e σ H (yH' i D σ):=rfl
theorem qy' {i:Nat} {v:V}:yH' i D σ v H=D.nx (σ.set i (some v)) H:=rfl
def t2' (C:Rc) (o i:Ce) (D:Ends) (σ:L2.St):VK:=fun v H=>tE C o σ H fun p H1=>tE C i σ H1 fun k H2=>dw' p k v H2 fun H3=>D.nx σ H3
def t3' (C:Rc) (i:Ce) (v:V) (D:Ends) (σ:L2.St):VK:=fun p H1=>tE C i σ H1 fun k H2=>dw' p k v H2 fun H3=>D.nx σ H3
def t4' (p v:V) (D:Ends) (σ:L2.St):VK:=fun k H2=>dw' p k v H2 fun H3=>D.nx σ H3
theorem xD' {o i e:Ce}:tS C (.asg (.sub o i) e) D σ H=tE C e σ H (t2' C o i D σ):=rfl
theorem nf' {o i:Ce} {v:V}:t2' C o i D σ v H=tE C o σ H (t3' C i v D σ):=rfl
theorem ng' {i:Ce} {v p:V}:t3' C i v D σ p H=tE C i σ H (t4' p v D σ):=rfl
theorem nh' {v p k:V}:t4' p v D σ k H=dw' p k v H (D.nx σ):=rfl
def kIf (C:Rc) (a b:Css) (D:Ends) (σ:L2.St):Bool->Hp->Prop:=fun c H=>if c=true then tSs C a D σ H else tSs C b D σ H
theorem zu' {q:Cq} {a b:Css}:tS C (.ite q a b) D σ H=tQ C q σ H (kIf C a b D σ):=rfl
theorem xE' {a b:Css}:kIf C a b D σ true H=tSs C a D σ H:=rfl
theorem xF' {a b:Css}:kIf C a b D σ false H=tSs C b D σ H:=rfl
theorem bA' {p:Prop} [Decidable p] {F:Bool->Hp->Prop} (h1:p->F true H) (h2:¬p->F false H):F (decide p) H:=by
 by_cases h:p
 .rw[decide_eq_true h];exact h1 h
 .rw[decide_eq_false h];exact h2 h
end
section
variable {C:Rc} {σ:L2.St} {H:Hp} {Q:VK} {D:Ends} {Qb:Bool->Hp->Prop} {Qs:List V->Hp->Prop}
def kA1 (C:Rc) (σ:L2.St) (r:Ces) (Qs:List V->Hp->Prop):VK:=fun x H=>tA C r σ H fun xs H2=>Qs (x :: xs) H2
def kA2 (x:V) (Qs:List V->Hp->Prop):List V->Hp->Prop:=fun xs H=>Qs (x :: xs) H
theorem t5':tA C .nil σ H Qs=Qs [] H:=rfl
theorem oY' {e:Ce} {r:Ces}:tA C (.cons e r) σ H Qs=tE C e σ H (kA1 C σ r Qs):=rfl
theorem oZ' {r:Ces} {x:V}:kA1 C σ r Qs x H=tA C r σ H (kA2 x Qs):=rfl
theorem o0' {x:V} {xs:List V}:kA2 x Qs xs H=Qs (x :: xs) H:=rfl
def wb' (Q:VK):List V->Hp->Prop:=fun xs H=>xs.length<=sizeLine/\∀p,H p=none->Q (.ref p) (upd H p (.tup xs))
def yI' (Q:VK):List V->Hp->Prop:=fun xs H=>xs.length<=sizeLine/\∀p,H p=none->Q (.ref p) (upd H p (.lst xs))
theorem t6' {es:Ces}:tE C (.tup es) σ H Q=tA C es σ H (wb' Q):=rfl
theorem t7' {es:Ces}:tE C (.lst es) σ H Q=tA C es σ H (yI' Q):=rfl
theorem qz' {xs:List V}:wb' Q xs H=(xs.length<=sizeLine/\∀p,H p=none->Q (.ref p) (upd H p (.tup xs))):=rfl
theorem qA' {xs:List V}:yI' Q xs H=(xs.length<=sizeLine/\∀p,H p=none->Q (.ref p) (upd H p (.lst xs))):=rfl
def qB' (o:Option Sp) (E:XK) (Q:VK):List V->Hp->Prop:=fun vs H=>match o with
 |some sp=>sp (vs++[]) H Q E
 |none=>False
theorem qC' {f:Str} {es:Ces} {sp:Sp} (h:C.fs f=some sp):tE C (.call f es) σ H Q=tA C es σ H (qB' (some sp) (C.xk σ) Q):=by
 show(match C.fs f with|some sp=>mE' sp [] (C.xk σ) (tA C es) σ H Q|none=>False)=_
 rw[h]
 rfl
theorem ni' {sp:Sp} {E:XK} {vs:List V}:qB' (some sp) E Q vs H=sp vs H Q E:=by
 show sp (vs++[]) H Q E=_
 rw[List.append_nil]
def yJ' (C:Rc) (f:Bf) (Q:VK):List V->Hp->Prop:=fun vs H=>cr' C.K f vs H Q
theorem o1' {f:Bf} {es:Ces}:tE C (.blt f es) σ H Q=tA C es σ H (yJ' C f Q):=rfl
theorem k3' {f:Bf} {vs:List V}:yJ' C f Q vs H=cr' C.K f vs H Q:=rfl
def t8' (C:Rc) (σ:L2.St) (m:Mf) (es:Ces) (Q:VK):VK:=fun x H=>tyV C.K (gj' m) x H/\tA C es σ H fun xs H2=>kE' C.K m x xs H2 Q
def t9' (C:Rc) (m:Mf) (x:V) (Q:VK):List V->Hp->Prop:=fun xs H=>kE' C.K m x xs H Q
theorem ua' {m:Mf} {o:Ce} {es:Ces}:tE C (.met m o es) σ H Q=tE C o σ H (t8' C σ m es Q):=rfl
theorem nj' {m:Mf} {es:Ces} {x:V}:t8' C σ m es Q x H=(tyV C.K (gj' m) x H/\tA C es σ H (t9' C m x Q)):=rfl
theorem nk' {m:Mf} {x:V} {xs:List V}:t9' C m x Q xs H=kE' C.K m x xs H Q:=rfl
def xG' (C:Rc) (σ:L2.St) (a b:Ce) (Q:VK):Bool->Hp->Prop:=fun c H=>if c=true then tE C a σ H Q else tE C b σ H Q
theorem ub' {q:Cq} {a b:Ce}:tE C (.ife q a b) σ H Q=tQ C q σ H (xG' C σ a b Q):=rfl
theorem uc' {a b:Ce}:xG' C σ a b Q true H=tE C a σ H Q:=rfl
theorem ud' {a b:Ce}:xG' C σ a b Q false H=tE C b σ H Q:=rfl
def ue' (Q:VK):VK:=fun x H=>∃c,x=.bl c/\Q (.bl (!c)) H
theorem uf' {a:Ce}:tE C (.not a) σ H Q=tE C a σ H (ue' Q):=rfl
theorem nl' {c:Bool}:ue' Q (.bl c) H=Q (.bl (!c)) H:=propext ⟨fun⟨u,e,q⟩=>by cases e;exact q,fun q=>⟨c,rfl,q⟩⟩
def qD' (C:Rc) (σ:L2.St) (b:Ce) (Q:VK):VK:=fun x H=>∃c,x=.bl c/\if c=true then tE C b σ H Q else Q (.bl false) H
def xH' (C:Rc) (σ:L2.St) (b:Ce) (Q:VK):VK:=fun x H=>∃c,x=.bl c/\if c=true then Q (.bl true) H else tE C b σ H Q
theorem ug' {a b:Ce}:tE C (.and a b) σ H Q=tE C a σ H (qD' C σ b Q):=rfl
theorem xI' {a b:Ce}:tE C (.or a b) σ H Q=tE C a σ H (xH' C σ b Q):=rfl
theorem qE' {b:Ce}:qD' C σ b Q (.bl true) H=tE C b σ H Q:=propext ⟨fun⟨u,e,q⟩=>by cases e;exact q,fun q=>⟨_,rfl,q⟩⟩
theorem qF' {b:Ce}:qD' C σ b Q (.bl false) H=Q (.bl false) H:=propext ⟨fun⟨u,e,q⟩=>by cases e;exact q,fun q=>⟨_,rfl,q⟩⟩
theorem uh' {b:Ce}:xH' C σ b Q (.bl true) H=Q (.bl true) H:=propext ⟨fun⟨u,e,q⟩=>by cases e;exact q,fun q=>⟨_,rfl,q⟩⟩
theorem ui' {b:Ce}:xH' C σ b Q (.bl false) H=tE C b σ H Q:=propext ⟨fun⟨u,e,q⟩=>by cases e;exact q,fun q=>⟨_,rfl,q⟩⟩
def xJ' (C:Rc) (Qb:Bool->Hp->Prop):VK:=fun x H=>∃k,ss' C.K x H k/\Qb k H
theorem uj' {e:Ce}:tQ C (.val e) σ H Qb=tE C e σ H (xJ' C Qb):=rfl
theorem qG' {b:Bool}:xJ' C Qb (.bl b) H=Qb b H:=propext ⟨fun⟨u,e,q⟩=>by
  have e:u=b:=e
  subst e
  exact q,fun q=>⟨b,rfl,q⟩⟩
def uk' (C:Rc) (σ:L2.St) (lo hi:Co) (Q:VK):VK:=fun x H=>tO C lo σ H fun l H2=>tO C hi σ H2 fun u H3=>rSl C.K x l u H3 Q
def ul' (C:Rc) (σ:L2.St) (hi:Co) (x:V) (Q:VK):Option Int->Hp->Prop:=fun l H=>tO C hi σ H fun u H3=>rSl C.K x l u H3 Q
def um' (C:Rc) (x:V) (l:Option Int) (Q:VK):Option Int->Hp->Prop:=fun u H=>rSl C.K x l u H Q
theorem un' {a:Ce} {lo hi:Co}:tE C (.cut a lo hi) σ H Q=tE C a σ H (uk' C σ lo hi Q):=rfl
theorem nm' {lo hi:Co} {x:V}:uk' C σ lo hi Q x H=tO C lo σ H (ul' C σ hi x Q):=rfl
theorem nn' {hi:Co} {x:V} {l:Option Int}:ul' C σ hi x Q l H=tO C hi σ H (um' C x l Q):=rfl
theorem no' {x:V} {l u:Option Int}:um' C x l Q u H=rSl C.K x l u H Q:=rfl
variable {Qo:Option Int->Hp->Prop}
def np' (Qo:Option Int->Hp->Prop):VK:=fun x H=>∃i,x=.int i/\Qo (some i) H
theorem uo':tO C .none σ H Qo=Qo none H:=rfl
theorem up' {e:Ce}:tO C (.some e) σ H Qo=tE C e σ H (np' Qo):=rfl
theorem k4' {i:Int}:np' Qo (.int i) H=Qo (some i) H:=propext ⟨fun⟨u,e,q⟩=>by cases e;exact q,fun q=>⟨i,rfl,q⟩⟩
theorem uq' {K:W.Frag} {a:Addr} {l u:Option Int}:rSl K (.ref a) l u H Q=(vX' K (.ref a) l u H Q\/vW' K (.ref a) l u H Q\/v5' K (.ref a) l u H Q):=rfl
def yK' (i:Nat) (sub:Bool) (x:V) (D:Ends) (σ:L2.St):VK:=fun y H=>∃a b,x=.int a/\y=.int b/\D.nx (σ.set i (some (.int (if sub then a-b else a+b)))) H
theorem xK' {i:Nat} {sub:Bool} {e:Ce} {a:Int} (h:σ[i]?=some (some (.int a))):tS C (.aug i sub e) D σ H=tE C e σ H (yK' i sub (.int a) D σ):=by
 show(∃x,σ[i]?=some (some x)/\tE C e σ H fun y H1=>(ipI fun i j=>if sub then i-j else i+j) x y H1 fun z H2=>D.nx (σ.set i (some z)) H2)=_
 rw[h]
 exact propext ⟨fun⟨x,e,q⟩=>by cases e;exact q,fun q=>⟨_,rfl,q⟩⟩
theorem nq' {i:Nat} {sub:Bool} {a b:Int}:yK' i sub (.int a) D σ (.int b) H=D.nx (σ.set i (some (.int (if sub then a-b else a+b)))) H:=propext ⟨fun⟨_,_,e,e',q⟩=>by cases e;cases e';exact q,fun q=>⟨_,_,rfl,rfl,q⟩⟩
def xL' (C:Rc) (σ:L2.St) (i j:Nat) (b:Ce) (D:Ends):VK:=fun v H=>tE C b σ H fun w H1=>D.nx ((σ.set i (some v)).set j (some w)) H1
def ur' (σ:L2.St) (i j:Nat) (v:V) (D:Ends):VK:=fun w H=>D.nx ((σ.set i (some v)).set j (some w)) H
theorem nr' {i j:Nat} {b:Ce} {v:V}:xL' C σ i j b D v H=tE C b σ H (ur' σ i j v D):=rfl
theorem ns' {i j:Nat} {v w:V}:ur' σ i j v D w H=D.nx ((σ.set i (some v)).set j (some w)) H:=rfl
end
def cb (b:Bool):Nat:=if b then 49 else 48
def tx (l:List Bool):Str:=⟨(l.map cb).toArray⟩
theorem k5' {a:List Bool}:(tx a).length=a.length:=by show(a.map cb).toArray.size=_;simp
theorem k6' {a:List Bool}:(tx a).cps.size=a.length:=by show(a.map cb).toArray.size=_;simp
theorem us' {a:List Bool} {i:Nat}:(tx a).cps[i]?=a[i]?.map cb:=by show(a.map cb).toArray[i]?=_;simp
theorem ut' {a b:List Bool}:tx a++tx b=tx (a++b):=by
 show(⟨(a.map cb).toArray++(b.map cb).toArray⟩:Str)=⟨((a++b).map cb).toArray⟩
 simp
theorem xM':(PySem.Str.ofString "01")=tx [false,true]:=by decide +kernel
theorem zv':(PySem.Str.ofString "0")=tx [false]:=by decide +kernel
theorem zw':(PySem.Str.ofString "1")=tx [true]:=by decide +kernel
theorem uu':(PySem.Str.ofString "")=tx []:=by decide +kernel
theorem o2' {c:Bool}:PySem.intText? (tx [c])=some (if c then 1 else 0):=by cases c<;>decide +kernel
theorem uv' {α:Type} {xs:List α} {i:Int} (h0:0<=i) (h1:i<xs.length):∃v,xs[i.toNat]?=some v/\atI xs i=some v:=by
 obtain⟨j,rfl⟩:=aM h0
 have hk:j<xs.length:=by omega
 exact⟨xs[j],by simp,aY' (by rw[ab hk])⟩
theorem aj' {N:List Str} {vs:List V} {n:Nat} (h:N.length=n):L2.aw' N vs=vs.map some++ao (n-vs.length) none:=by subst h;rfl
section
variable {C:Rc} {σ:L2.St} {H:Hp} {Q:VK} {D:Ends} {Qb:Bool->Hp->Prop}
theorem k7' {i:Nat} {v:V} {R:L2.St->Hp->Prop}:tG C (.name i) v σ H R=R (σ.set i (some v)) H:=rfl
theorem dG' {i j:Nat} {a:Addr} {x y:V} {R:L2.St->Hp->Prop} (h:SqT C.K H a [x,y]) (q:R ((σ.set i (some x)).set j (some y)) H):tG C (.tup (.cons (.name i) (.cons (.name j) .nil))) (.ref a) σ H R:=
 ⟨a,[x,y],rfl,.inl h,rfl,_,_,rfl,_,_,rfl,rfl,q⟩
theorem uw' {i j k:Nat} {a:Addr} {x y z:V} {R:L2.St->Hp->Prop} (h:SqT C.K H a [x,y,z]) (q:R (((σ.set i (some x)).set j (some y)).set k (some z)) H):tG C (.tup (.cons (.name i) (.cons (.name j) (.cons (.name k) .nil)))) (.ref a) σ H R:=
 ⟨a,[x,y,z],rfl,.inl h,rfl,_,_,rfl,_,_,rfl,_,_,rfl,rfl,q⟩
def wc' (C:Rc) (t:Ct) (b:Css) (D:Ends) (σ:L2.St) (J:It) (H1:Hp):Prop:=∃W:Nat->Nat->L2.St->Hp->Prop,(∃m,W 0 m σ H1)/\∀i m σ H,W i m σ H->
 (J.stop i H/\D.nx σ H)\/(J.go i H/\∃N:L2.St->Hp->Prop,(∀σ' H',N σ' H'->∃m',m'<m/\W (i+1) m' σ' H')/\∀x H',J.yld i H x H'->tG C t x σ H' fun σ2 H2=>tSs C b { D with nx:=N,ct:=N,bk:=D.nx } σ2 H2)
theorem xN' {t:Ct} {it:Ci} {b:Css}:tS C (.for_ t it b) D σ H=tI C it σ H (wc' C t b D σ):=rfl
def kIv (C:Rc) (R:It->Hp->Prop):VK:=fun x H1=>
 (∃a,x=.ref a/\(∃xs,SqL C.K H1 a xs)/\R (Itl C.K a) H1)\/(∃a,x=.ref a/\(∃xs,SqT C.K H1 a xs)/\R (Itt C.K a) H1)\/∃z,x=.str z/\R (Its z) H1
theorem ux' {e:Ce} {R:It->Hp->Prop}:tI C (.val e) σ H R=tE C e σ H (kIv C R):=rfl
def kR1 (R:It->Hp->Prop):VK:=fun x H1=>∃j:Int,x=.int j/\-(2 ^ 62)<=j/\j<2 ^ 62/\R (Itr 0 j.toNat) H1
theorem nt' {e:Ce} {R:It->Hp->Prop}:tI C (.range1 e) σ H R=tE C e σ H fun x H1=>∃j:Int,[x]=[.int j]/\-(2 ^ 62)<=j/\j<2 ^ 62/\R (Itr 0 j.toNat) H1:=rfl
theorem k8' {e:Ce} {R:It->Hp->Prop}:tI C (.range1 e) σ H R=tE C e σ H (kR1 R):=by
 rw[nt']
 congr 1
 funext x H1
 unfold kR1
 simp only[List.cons.injEq,and_true]
def wd' (R:It->Hp->Prop) (x:V):VK:=fun y H1=>∃i j:Int,x=.int i/\y=.int j/\(-(2 ^ 62)<=i/\i<2 ^ 62/\-(2 ^ 62)<=j/\j<2 ^ 62)/\R (Itr i (j-i).toNat) H1
def xO' (C:Rc) (σ:L2.St) (e:Ce) (R:It->Hp->Prop):VK:=fun x H1=>tE C e σ H1 (wd' R x)
theorem k9' {a b:Ce} {R:It->Hp->Prop}:tI C (.range2 a b) σ H R=tE C a σ H (xO' C σ b R):=by
 show(tE C a σ H fun x H1=>tE C b σ H1 fun y H2=>∃i j:Int,[x,y]=[.int i,.int j]/\(-(2 ^ 62)<=i/\i<2 ^ 62/\-(2 ^ 62)<=j/\j<2 ^ 62)/\R (Itr i (j-i).toNat) H2)=_
 congr 1
 funext x H1
 unfold xO'
 congr 1
 funext y H2
 unfold wd'
 simp only[List.cons.injEq,and_true,and_assoc]
theorem qH' {e:Ce} {R:It->Hp->Prop} {x:V}:xO' C σ e R x H=tE C e σ H (wd' R x):=rfl
def kZ2 (C:Rc) (R:It->Hp->Prop) (x:V):VK:=fun y H1=>∃(k j:Bool) (a b:Addr),x=.ref a/\y=.ref b/\(∃xs,Sq k C.K H1 a xs)/\(∃ys,Sq j C.K H1 b ys)/\R (y6' k j C.K a b) H1
def kZ1 (C:Rc) (σ:L2.St) (e:Ce) (R:It->Hp->Prop):VK:=fun x H1=>tE C e σ H1 (kZ2 C R x)
theorem uy' {e:Ce} {R:It->Hp->Prop} {x:V}:kZ1 C σ e R x H=tE C e σ H (kZ2 C R x):=rfl
def kEn (C:Rc) (R:It->Hp->Prop):VK:=fun x H1=>(∃a,x=.ref a/\(∃xs,SqL C.K H1 a xs)/\R (Ite C.K a) H1)\/(∃z,x=.str z/\R (vY' z) H1)\/∃a,x=.ref a/\(∃xs,SqT C.K H1 a xs)/\R (vZ' C.K a) H1
theorem uz' {a:Ce} {R:It->Hp->Prop}:tI C (.enum a) σ H R=tE C a σ H (kEn C R):=by
 show(tE C a σ H fun x H1=>∃y,[x]=[y]/\((∃a,y=.ref a/\(∃xs,SqL C.K H1 a xs)/\R (Ite C.K a) H1)\/(∃z,y=.str z/\R (vY' z) H1)\/∃a,y=.ref a/\(∃xs,SqT C.K H1 a xs)/\R (vZ' C.K a) H1))=_
 congr 1
 funext x H1
 unfold kEn
 exact propext ⟨fun⟨y,e,q⟩=>by cases e;exact q,fun q=>⟨x,rfl,q⟩⟩
theorem io' {R:It->Hp->Prop} {a:Addr} {xs:List V} (h:SqL C.K H a xs) (q:R (Ite C.K a) H):kEn C R (.ref a) H:=.inl ⟨a,rfl,⟨xs,h⟩,q⟩
theorem la' {R:It->Hp->Prop} {z:Str} (q:R (Its z) H):kIv C R (.str z) H:=.inr (.inr ⟨z,rfl,q⟩)
theorem aT' {R:It->Hp->Prop} {a:Addr} {xs:List V} (h:SqL C.K H a xs) (q:R (Itl C.K a) H):kIv C R (.ref a) H:=.inl ⟨a,rfl,⟨xs,h⟩,q⟩
theorem aU' {R:It->Hp->Prop} {a:Addr} {xs:List V} (h:SqT C.K H a xs) (q:R (Itt C.K a) H):kIv C R (.ref a) H:=.inr (.inl ⟨a,rfl,⟨xs,h⟩,q⟩)
theorem d9' {R:It->Hp->Prop} {j:Int} (h0:-(2 ^ 62)<=j) (h1:j<2 ^ 62) (q:R (Itr 0 j.toNat) H):kR1 R (.int j) H:=⟨j,rfl,h0,h1,q⟩
theorem uA' {R:It->Hp->Prop} {i j:Int} (h0:-(2 ^ 62)<=i) (h1:i<2 ^ 62) (h2:-(2 ^ 62)<=j) (h3:j<2 ^ 62) (q:R (Itr i (j-i).toNat) H):wd' R (.int i) (.int j) H:=⟨i,j,rfl,rfl,⟨h0,h1,h2,h3⟩,q⟩
theorem nu' {a:Addr} {xs:List V} {t:Ct} {b:Css} (Pv:Nat->L2.St->Hp->Prop) (h0:Pv 0 σ H) (hl:∀i σ H,i<=xs.length->Pv i σ H->SqL C.K H a xs)
  (hs:∀i x σ H,xs[i]?=some x->Pv i σ H->tG C t x σ H (tSs C b { D with nx:=Pv (i+1),ct:=Pv (i+1),bk:=D.nx })) (hd:∀σ H,Pv xs.length σ H->D.nx σ H):wc' C t b D σ (Itl C.K a) H:=my' Pv h0 hl hs hd
theorem eV' {lo:Int} {n:Nat} {t:Ct} {b:Css} (Pv:Nat->L2.St->Hp->Prop) (h0:Pv 0 σ H)
  (hs:∀i σ H,i<n->Pv i σ H->tG C t (.int (lo+i)) σ H (tSs C b { D with nx:=Pv (i+1),ct:=Pv (i+1),bk:=D.nx })) (hd:∀σ H,Pv n σ H->D.nx σ H):wc' C t b D σ (Itr lo n) H:=jw' Pv h0 hs hd
theorem uB' {a:Addr} {xs:List V} {t:Ct} {b:Css} (Pv:Nat->L2.St->Hp->Prop) (h0:Pv 0 σ H) (hl:∀i σ H,i<=xs.length->Pv i σ H->SqL C.K H a xs)
  (hs:∀i x σ H p,xs[i]?=some x->H p=none->Pv i σ H->tG C t (.ref p) σ (upd H p (.tup [.int i,x])) (tSs C b { D with nx:=Pv (i+1),ct:=Pv (i+1),bk:=D.nx })) (hd:∀σ H,Pv xs.length σ H->D.nx σ H):wc' C t b D σ (Ite C.K a) H:=by
 refine⟨fun i m σ H=>m=xs.length-i/\i<=xs.length/\Pv i σ H,⟨xs.length,by simp,aE _,h0⟩,?_⟩
 rintro i m σ H ⟨rfl,hi,p⟩
 have q:=hl i σ H hi p
 by_cases hlt:i<xs.length
 .refine .inr ⟨⟨xs,xs[i],q,by simp[hlt]⟩,Pv (i+1),fun σ' H' p'=>⟨xs.length-(i+1),by omega,rfl,hlt,p'⟩,fun x H' y=>?_⟩
  obtain⟨ad,v,rfl,hn,y,rfl⟩:=y
  exact hs i v σ _ ad (y xs q) hn p
 .have e:i=xs.length:=by omega
  subst e
  exact .inl ⟨⟨xs,q,rfl⟩,hd σ H p⟩
def we' (C:Rc) (b:Css) (D:Ends) (N:L2.St->Hp->Prop) (σ:L2.St):Bool->Hp->Prop:=fun c H1=>if c=true then ∃N':L2.St->Hp->Prop,(∀σ' H',N' σ' H'->N σ' H')/\tSs C b { D with nx:=N',ct:=N',bk:=D.nx } σ H1 else D.nx σ H1
theorem o3' {q:Cq} {b:Css} (Pv:Nat->L2.St->Hp->Prop) (m:Nat) (h0:Pv m σ H) (hs:∀m σ H,Pv m σ H->tQ C q σ H (we' C b D (fun σ' H'=>∃m',m'<m/\Pv m' σ' H') σ)):tS C (.whl q b) D σ H:=⟨Pv,⟨m,h0⟩,hs⟩
theorem o4' {b:Css} {N:L2.St->Hp->Prop} (h:tSs C b { D with nx:=N,ct:=N,bk:=D.nx } σ H):we' C b D N σ true H:=⟨N,fun _ _ q=>q,h⟩
theorem o5' {b:Css} {N:L2.St->Hp->Prop} (h:D.nx σ H):we' C b D N σ false H:=by unfold we';rw[if_neg (by decide)];exact h
def hB' (xs:List V) (P:List V->Hp->Prop):VK:=fun v H=>xs.length<sizeLine/\P (xs++[v]) H
def kCT (C:Rc) (elt:Ce) (xs:List V) (P:List V->Hp->Prop) (σ:L2.St):Bool->Hp->Prop:=fun ok H=>if ok=true then tE C elt σ H (hB' xs P)else P xs H
def kCG (C:Rc) (elt:Ce) (q:Cqo) (xs:List V) (P:List V->Hp->Prop):L2.St->Hp->Prop:=fun σ H=>tQo C q σ H (kCT C elt xs P σ)
theorem uC' {elt:Ce} {xs:List V} {P:List V->Hp->Prop}:kCG C elt .none xs P σ H=tE C elt σ H (hB' xs P):=rfl
theorem uD' {elt:Ce} {q:Cq} {xs:List V} {P:List V->Hp->Prop}:kCG C elt (.some q) xs P σ H=tQ C q σ H (kCT C elt xs P σ):=rfl
theorem uE' {elt:Ce} {xs:List V} {P:List V->Hp->Prop}:kCT C elt xs P σ true H=tE C elt σ H (hB' xs P):=rfl
theorem uF' {elt:Ce} {xs:List V} {P:List V->Hp->Prop}:kCT C elt xs P σ false H=P xs H:=rfl
theorem nv' {xs:List V} {P:List V->Hp->Prop} {v:V}:hB' xs P v H=(xs.length<sizeLine/\P (xs++[v]) H):=rfl
def mo' (Q:VK) (xs:List V) (H2:Hp):Prop:=∀p,H2 p=none->Q (.ref p) (upd H2 p (.lst xs))
def i3' (C:Rc) (elt:Ce) (own:List Nat) (t:Ct) (q:Cqo) (σ:L2.St) (Q:VK) (J:It) (H1:Hp):Prop:=a3' own (tG C t) (tQo C q) (ey' (tE C elt)) J σ [] H1 (mo' Q)
theorem lb' {elt:Ce} {own:List Nat} {t:Ct} {it:Ci} {q:Cqo}:tE C (.comp elt own t it q .nil) σ H Q=tI C it σ H (i3' C elt own t q σ Q):=rfl
theorem hC' {elt:Ce} {own:List Nat} {t:Ct} {q:Cqo} {J:It} {n:Nat} (Pv:Nat->List V->Hp->Prop) (h0:Pv 0 [] H) (hgo:∀i xs H,i<n->Pv i xs H->J.go i H) (hstop:∀xs H,Pv n xs H->J.stop n H)
  (hs:∀i xs H x H' (R:List V->Hp->Prop),i<n->Pv i xs H->J.yld i H x H'->(∀ys H2,Pv (i+1) ys H2->R ys H2)->tG C t x (clr own σ) H' (kCG C elt q xs R)) (hd:∀xs H,Pv n xs H->mo' Q xs H):i3' C elt own t q σ Q J H:=by
 refine⟨fun i m xs H=>m=n-i/\i<=n/\Pv i xs H,⟨n,by simp,aE _,h0⟩,?_⟩
 rintro i m xs H ⟨rfl,hi,p⟩
 by_cases hlt:i<n
 .refine .inr ⟨hgo i xs H hlt p,fun x H' y=>?_⟩
  exact hs i xs H x H' (fun c H4=>∃m',m'<n-i/\(m'=n-(i+1)/\i+1<=n/\Pv (i+1) c H4)) hlt p y fun ys H2 p2=>⟨n-(i+1),by omega,rfl,hlt,p2⟩
 .have e:i=n:=by omega
  subst e
  exact .inl ⟨hstop xs H p,hd xs H p⟩
theorem gv' {elt:Ce} {own:List Nat} {t:Ct} {q:Cqo} {a:Addr} {vs:List V} (Pv:Nat->List V->Hp->Prop) (h0:Pv 0 [] H) (hl:∀i xs H,Pv i xs H->SqL C.K H a vs)
  (hs:∀i xs H x (R:List V->Hp->Prop),vs[i]?=some x->Pv i xs H->(∀ys H2,Pv (i+1) ys H2->R ys H2)->tG C t x (clr own σ) H (kCG C elt q xs R)) (hd:∀xs H,Pv vs.length xs H->mo' Q xs H):i3' C elt own t q σ Q (Itl C.K a) H:=
 hC' (n:=vs.length) Pv h0 (fun i xs H hi p=>⟨vs,vs[i],hl i xs H p,by simp[hi]⟩) (fun xs H p=>⟨vs,hl _ xs H p,ai _⟩) (fun i xs H x H' R hi p y k=>by
  obtain⟨e,y⟩:=y
  subst e
  exact hs i xs H' x R (y vs (hl i xs H' p)) p k) hd
theorem dh' {elt:Ce} {own:List Nat} {t:Ct} {q:Cqo} {a:Addr} {vs:List V} (Pv:Nat->List V->Hp->Prop) (h0:Pv 0 [] H) (hl:∀i xs H,Pv i xs H->SqT C.K H a vs)
  (hs:∀i xs H x (R:List V->Hp->Prop),vs[i]?=some x->Pv i xs H->(∀ys H2,Pv (i+1) ys H2->R ys H2)->tG C t x (clr own σ) H (kCG C elt q xs R)) (hd:∀xs H,Pv vs.length xs H->mo' Q xs H):i3' C elt own t q σ Q (Itt C.K a) H:=
 hC' (n:=vs.length) Pv h0 (fun i xs H hi p=>⟨vs,vs[i],hl i xs H p,by simp[hi]⟩) (fun xs H p=>⟨vs,hl _ xs H p,ai _⟩) (fun i xs H x H' R hi p y k=>by
  obtain⟨e,y⟩:=y
  subst e
  exact hs i xs H' x R (y vs (hl i xs H' p)) p k) hd
theorem lc' {elt:Ce} {own:List Nat} {t:Ct} {q:Cqo} {lo:Int} {n:Nat} (Pv:Nat->List V->Hp->Prop) (h0:Pv 0 [] H)
  (hs:∀i xs H (R:List V->Hp->Prop),i<n->Pv i xs H->(∀ys H2,Pv (i+1) ys H2->R ys H2)->tG C t (.int (lo+i)) (clr own σ) H (kCG C elt q xs R)) (hd:∀xs H,Pv n xs H->mo' Q xs H):i3' C elt own t q σ Q (Itr lo n) H:=
 hC' (n:=n) Pv h0 (fun i xs H hi p=>hi) (fun xs H p=>ai _) (fun i xs H x H' R hi p y k=>by
  obtain⟨e,rfl⟩:=y
  subst e
  exact hs i xs H' R hi p k) hd
end
section
variable {C:Rc} {K:W.Frag} {σ:L2.St} {H:Hp} {Q:VK} {D:Ends} {Qb:Bool->Hp->Prop}
theorem ai' {f:Str} {es:Ces} {sp:Sp} (h:C.fs f=some sp) (q:tA C es σ H (qB' (some sp) (C.xk σ) Q)):tE C (.call f es) σ H Q:=by
 rw[qC' h]
 exact q
theorem dm' {a:Addr} {xs:List V} (h:SqL K H a xs) (q:Q (.int xs.length) H):cr' K .len [.ref a] H Q:=⟨_,_,rfl,.inl ⟨xs,h,rfl⟩,q⟩
theorem cc' {a:Addr} {xs:List V} (h:SqT K H a xs) (q:Q (.int xs.length) H):cr' K .len [.ref a] H Q:=⟨_,_,rfl,.inr ⟨xs,h,rfl⟩,q⟩
theorem uG' {i:Int}:cr' K .abs [.int i] H Q=Q (.int (if i<0 then -i else i)) H:=propext ⟨fun⟨u,e,q⟩=>by cases e;exact q,fun q=>⟨_,rfl,q⟩⟩
theorem i4' {i:Int}:cr' K .int [.int i] H Q=Q (.int i) H:=rfl
theorem ld' {k:Bool}:cr' K .int [.bl k] H Q=Q (.int (if k then 1 else 0)) H:=rfl
theorem le' {c:Bool}:cr' K .int [.str (tx [c])] H Q=Q (.int (if c then 1 else 0)) H:=propext ⟨fun⟨n,e,_,q⟩=>by rw[o2']at e;cases e;exact q,fun q=>⟨_,o2',by rw[k5',bL];decide,q⟩⟩
theorem qI' {i j:Int}:cr' K .max [.int i,.int j] H Q=Q (.int (if j > i then j else i)) H:=rfl
theorem qJ' {i j:Int}:cr' K .min [.int i,.int j] H Q=Q (.int (if j<i then j else i)) H:=rfl
theorem uH' {a:Addr} {ns:List Int} (h:SqL K H a (ns.map V.int)) (hn:ns≠[]) (q:∀M,M∈ns->(∀b∈ns,b<=M)->Q (.int M) H):cr' K .max [.ref a] H Q:=⟨a,ns,rfl,h,hn,fun M h1 h2=>q M h1 h2⟩
theorem ip' {a:Addr} {bs:List Bool} (h:SqL K H a (bs.map V.bl)) (q:Q (.bl (bs.all id)) H):cr' K .all [.ref a] H Q:=⟨a,bs,rfl,h,q⟩
theorem uI' {a:Addr} {bs:List Bool} (h:SqL K H a (bs.map V.bl)) (q:Q (.bl (bs.any id)) H):cr' K .any [.ref a] H Q:=⟨a,bs,rfl,h,q⟩
theorem uJ' {x:V} {T c:String} (h:bj' H x=some T) (hT:T∈cq') (hc:c∈["bool","int","str","list","tuple","dict"]) (q:Q (.bl (isT T c)) H):cr' K .isinstance [x,.ty c] H Q:=.inl (.inl ⟨x,T,c,rfl,h,hT,hc,q⟩)
theorem qK' {x:V} {T c d:String} {p:Addr} (h:bj' H x=some T) (hT:T∈cq') (hp:H p=some (.tup [.ty c,.ty d])) (hc:c∈["bool","int","str","list","tuple","dict"]) (hd:d∈["bool","int","str","list","tuple","dict"]) (q:Q (.bl (isT T c || isT T d)) H):cr' K .isinstance [x,.ref p] H Q:=
 .inl <| .inr ⟨x,T,p,[c,d],rfl,h,hT,hp,fun e he=>by
  simp only[ak,av,or_false]at he
  rcases he with rfl|rfl
  .exact hc
  .exact hd,by simpa using q⟩
theorem aV' {a:Addr} {xs:List V} {i:Int} {v:V} (h:SqL K H a xs) (e:atI xs i=some v) (q:Q v H):e0' K (.ref a) (.int i) H Q\/gR' K (.ref a) (.int i) H Q:=.inl ⟨a,xs,i,v,rfl,rfl,h,e,q⟩
theorem cm' {a:Addr} {xs:List V} {i:Int} {v:V} (h:SqT K H a xs) (e:atI xs i=some v) (q:Q v H):e0' K (.ref a) (.int i) H Q\/gR' K (.ref a) (.int i) H Q:=.inr ⟨a,xs,i,v,rfl,rfl,h,e,q⟩
theorem o6' {a:Addr} {u v:V} {k:Bool} (h:SqL K H a [u,v]) (q:Q (if k then v else u) H):e0' K (.ref a) (.int (if k then 1 else 0)) H Q\/gR' K (.ref a) (.int (if k then 1 else 0)) H Q:=by
 refine aV' h ?_ q
 cases k<;>rfl
theorem qL' {a:Addr} {u v:V} {k:Bool} (h:SqT K H a [u,v]) (q:Q (if k then v else u) H):e0' K (.ref a) (.int (if k then 1 else 0)) H Q\/gR' K (.ref a) (.int (if k then 1 else 0)) H Q:=by
 refine cm' h ?_ q
 cases k<;>rfl
theorem qM' {x y:List Bool}:eS' K .Add (.str (tx x)) (.str (tx y)) H Q=(x.length+y.length<=sizeLine/\Q (.str (tx (x++y))) H):=by
 rw[tT',k5',k5',ut']
theorem uK' {a b:Addr} {xs ys:List V} (h:SqL K H a xs) (h2:SqL K H b ys) (he:xs.length=ys.length->LEq xs ys) (q:Q (.bl (decide (xs=ys))) H):cS' K .Eq (.ref a) (.ref b) H Q:=.inl ⟨a,b,xs,ys,rfl,rfl,h,h2,he,q⟩
theorem uL' {a b:Addr} {xs ys:List V} (h:SqL K H a xs) (h2:SqL K H b ys) (he:xs.length=ys.length->LEq xs ys) (q:Q (.bl (!decide (xs=ys))) H):cS' K .NotEq (.ref a) (.ref b) H Q:=.inl ⟨a,b,xs,ys,rfl,rfl,h,h2,he,q⟩
theorem uM' {a:Addr} {xs:List V} {y:V} {i:Nat} (h:H a=some (.lst xs)) (hz:xs.length<sizeLine) (hi:i<=xs.length) (q:Q .non (upd H a (.lst (xs.take i++y :: xs.drop i)))):kE' K .insert (.ref a) [.int i,y] H Q:=⟨a,xs,y,i,rfl,rfl,h,hz,hi,q⟩
theorem eH' {j:Int} (q:∀p,H p=none->Q (.ref p) (upd H p (.rng 0 j))):cr' K .range [.int j] H Q:=⟨0,j,.inr ⟨rfl,rfl⟩,q⟩
theorem fB' {r:Addr} {i j:Int} (h:H r=some (.rng i j)) (h1:-(2 ^ 62)<=i) (h2:i<2 ^ 62) (h3:-(2 ^ 62)<=j) (h4:j<2 ^ 62) (hz:(j-i).toNat<=sizeLine) (q:∀p,H p=none->Q (.ref p) (upd H p (.lst (rgs i (j-i).toNat)))):cr' K .list [.ref r] H Q:=.inr ⟨r,i,j,rfl,h,⟨h1,h2,h3,h4⟩,hz,q⟩
theorem fC' {a:Addr} {xs:List V} (h:SqL K H a xs) (q:∀p,H p=none->Q (.ref p) (upd H p (.lst xs))):cr' K .list [.ref a] H Q:=.inl ⟨a,xs,rfl,.inl h,q⟩
theorem nw' {a:Addr} {xs:List V} (h:SqT K H a xs) (q:∀p,H p=none->Q (.ref p) (upd H p (.lst xs))):cr' K .list [.ref a] H Q:=.inl ⟨a,xs,rfl,.inr h,q⟩
theorem d0' {a:Addr} {xs:List V} (h:SqL K H a xs) (q:∀p,H p=none->Q (.ref p) (upd H p (.tup xs))):cr' K .tuple [.ref a] H Q:=⟨a,xs,rfl,.inl ⟨h,q⟩⟩
theorem xP' {x y:Bool}:cS' K .NotEq (.bl x) (.bl y) H Q=Q (.bl (x != y)) H:=by
 have e:cS' K .NotEq (.bl x) (.bl y) H Q=Q (.bl (!decide (V.bl x=V.bl y))) H:=propext ⟨fun⟨_,q⟩=>q,fun q=>⟨rfl,q⟩⟩
 rw[e]
 cases x<;>cases y<;>rfl
theorem zx' {x:V}:cS' K .Is x .non H Q=Q (.bl (decide (x=.non))) H:=propext ⟨fun⟨_,q⟩=>q,fun q=>⟨rfl,q⟩⟩
theorem lf' {x:V}:cS' K .IsNot x .non H Q=Q (.bl (!decide (x=.non))) H:=propext ⟨fun⟨_,q⟩=>q,fun q=>⟨rfl,q⟩⟩
def kG (C:Rc) (t:Ct) (D:Ends) (σ:L2.St):VK:=fun v H=>tG C t v σ H D.nx
theorem hD' {t:Ct} {e:Ce}:tS C (.asg t e) D σ H=tE C e σ H (kG C t D σ):=rfl
theorem hE' {i j:Nat} {a:Addr} {x y:V} (h:SqT C.K H a [x,y]) (q:D.nx ((σ.set i (some x)).set j (some y)) H):kG C (.tup (.cons (.name i) (.cons (.name j) .nil))) D σ (.ref a) H:=dG' h q
theorem lg' {i j k:Nat} {a:Addr} {x y z:V} (h:SqT C.K H a [x,y,z]) (q:D.nx (((σ.set i (some x)).set j (some y)).set k (some z)) H):kG C (.tup (.cons (.name i) (.cons (.name j) (.cons (.name k) .nil)))) D σ (.ref a) H:=uw' h q
theorem nx' {xs:List V} {n:Nat}:jk' xs (some (n:Int)) none=xs.drop n:=by
 unfold jk'
 rw[HT.jH',HT.h2']
 rcases Nat.le_total n xs.length with h|h
 .rw[Nat.min_eq_left h,cf (by simp)]
 .rw[Nat.min_eq_right h,List.drop_of_length_le h];simp
theorem uN' {xs:List V} {n:Nat}:jk' xs none (some (n:Int))=xs.take n:=by
 unfold jk'
 rw[HT.jH',HT.h2']
 rcases Nat.le_total n xs.length with h|h
 .rw[Nat.min_eq_left h];simp
 .rw[Nat.min_eq_right h];simp[cf h]
theorem lh' {a:Addr} {xs:List V} {lo hi:Option Int} (h:SqL K H a xs) (q:∀p,H p=none->Q (.ref p) (upd H p (.lst (jk' xs lo hi)))):vX' K (.ref a) lo hi H Q\/vW' K (.ref a) lo hi H Q\/v5' K (.ref a) lo hi H Q:=.inl ⟨a,xs,rfl,h,q⟩
theorem qN' {x:Str} {n:Int}:tE C (.gint x n) σ H Q=((∃t,W.nsIn C.K mainGlobals x=some (some (.int n t)))/\Q (.int n) H):=rfl
theorem gw' {a:Addr} {xs:List V} {y:V} (h:H a=some (.lst xs)) (hz:xs.length<sizeLine) (q:Q .non (upd H a (.lst (xs++[y])))):kE' K .append (.ref a) [y] H Q:=⟨a,xs,y,rfl,rfl,h,hz,q⟩
theorem tyL {a:Addr} {xs:List V} {m:Mf} (h:H a=some (.lst xs)) (hm:gj' m="list"):tyV K (gj' m) (.ref a) H:=.inl ⟨hm,xs,SqL.of h⟩
theorem iq' {a b:Addr} {xs zs:List V} (h:H a=some (.lst xs)) (h2:H b=some (.lst zs)) (hz:xs.length+zs.length<=sizeLine) (q:∀p,H p=none->Q (.ref p) (upd H p (.lst (xs++zs)))):eS' K .Add (.ref a) (.ref b) H Q:=.inl ⟨a,b,xs,zs,rfl,rfl,h,h2,hz,q⟩
theorem ae' {H:Hp} {p:Addr} (h:H p=none) (o:HO):ax' H (upd H p o):=fun b u q=>by rw[af' (ag' q h)];exact q
theorem al' {α:Type} {l:List α} {i:Nat} {c:α} (hc:l[i]?=some c):i<l.length:=by
 rcases cj i l.length with h|h
 .exact h
 .rw[aO.mpr h]at hc;cases hc
def yL' (x:V) (Q:VK):VK:=fun y H=>∃a v,x=.ref a/\gS' H a y (some v)/\Q v H
def zy' (C:Rc) (σ:L2.St) (b:Ce) (Q:VK):VK:=fun x H=>tE C b σ H (yL' x Q)
theorem qO' {b:Ce} {x:V}:zy' C σ b Q x H=tE C b σ H (yL' x Q):=rfl
end
end R3
namespace R3
open PySem PySem.Spec PyProof.Rows L2 PySem.Builtin PySem.Builtin.Str
section
variable {K:W.Frag} {H:Hp} {Q:VK}
end
section
variable {C:Rc} {K:W.Frag} {σ:L2.St} {H:Hp} {Q:VK} {D:Ends} {Qb:Bool->Hp->Prop} {i j:Int}
theorem xQ':eS' K .LShift (.int i) (.int j) H Q=(w0' i j/\Q (.int (i*2 ^ j.toNat)) H):=propext ⟨fun⟨_,_,e,e',c,q⟩=>by cases e;cases e';exact⟨c,q⟩,fun q=>⟨_,_,rfl,rfl,q.1,q.2⟩⟩
theorem xR':eS' K .RShift (.int i) (.int j) H Q=(0<=j/\Q (.int (i / 2 ^ j.toNat)) H):=propext ⟨fun⟨_,_,e,e',c,q⟩=>by cases e;cases e';exact⟨c,q⟩,fun q=>⟨_,_,rfl,rfl,q.1,q.2⟩⟩
theorem ny':kE' K .bitlen (.int i) [] H Q=Q (.int (Builtin.Int.intBits i)) H:=propext ⟨fun⟨a,e1,e2,q⟩=>by cases e1;exact q,fun q=>⟨_,rfl,rfl,q⟩⟩
theorem qP' {a:Addr} {xs:List V} (h:SqL C.K H a xs) (q:Qb (!xs.isEmpty) H):xJ' C Qb (.ref a) H:=⟨_,.inl ⟨xs,h,rfl⟩,q⟩
theorem qQ' {i:Nat} {e:Ce} {r:Css} (h:∀K:VK,(∀v H',tSs C r D (σ.set i (some v)) H'->K v H')->tE C e σ H K):tSs C (.cons (.asg (.name i) e) r) D σ H:=h _ fun _ _ q=>q
theorem nz' {s:Cs} {r:Css} (h:∀N:L2.St->Hp->Prop,(∀σ' H',tSs C r D σ' H'->N σ' H')->tS C s { D with nx:=N } σ H):tSs C (.cons s r) D σ H:=h _ fun _ _ q=>q
def yM' (R:It->Hp->Prop) (x y:V):VK:=fun z H1=>∃i j c:Int,x=.int i/\y=.int j/\z=.int c/\(-(2 ^ 60)<=i/\i<2 ^ 60/\-(2 ^ 60)<=j/\j<2 ^ 60/\(0<c/\c<2 ^ 29\/c=-1))/\R (Itc i c (wR' i j c)) H1
def xS' (C:Rc) (σ:L2.St) (e:Ce) (R:It->Hp->Prop) (x:V):VK:=fun y H1=>tE C e σ H1 (yM' R x y)
def zz' (C:Rc) (σ:L2.St) (e e':Ce) (R:It->Hp->Prop):VK:=fun x H1=>tE C e σ H1 (xS' C σ e' R x)
theorem qR' {e e':Ce} {R:It->Hp->Prop} {x:V}:zz' C σ e e' R x H=tE C e σ H (xS' C σ e' R x):=rfl
theorem qS' {e:Ce} {R:It->Hp->Prop} {x y:V}:xS' C σ e R x y H=tE C e σ H (yM' R x y):=rfl
def uO' (C:Rc) (elt:Ce) (ws:List Nat) (t2:Ct) (q2:Cqo) (xs:List V) (P:List V->Hp->Prop) (σ:L2.St) (J:It) (H1:Hp):Prop:=a3' ws (tG C t2) (tQo C q2) (ey' (tE C elt)) J σ xs H1 P
def wf' (C:Rc) (elt:Ce) (ws:List Nat) (t2:Ct) (it2:Ci) (q2:Cqo) (xs:List V) (P:List V->Hp->Prop) (σ:L2.St):Bool->Hp->Prop:=fun ok H=>if ok=true then tI C it2 σ H (uO' C elt ws t2 q2 xs P σ)else P xs H
def wg' (C:Rc) (elt:Ce) (q:Cqo) (ws:List Nat) (t2:Ct) (it2:Ci) (q2:Cqo) (xs:List V) (P:List V->Hp->Prop):L2.St->Hp->Prop:=fun σ H=>tQo C q σ H (wf' C elt ws t2 it2 q2 xs P σ)
theorem uP' {elt:Ce} {ws:List Nat} {t2:Ct} {it2:Ci} {q2:Cqo} {xs:List V} {P:List V->Hp->Prop}:wg' C elt .none ws t2 it2 q2 xs P σ H=tI C it2 σ H (uO' C elt ws t2 q2 xs P σ):=rfl
theorem uQ' {elt:Ce} {q:Cq} {ws:List Nat} {t2:Ct} {it2:Ci} {q2:Cqo} {xs:List V} {P:List V->Hp->Prop}:wg' C elt (.some q) ws t2 it2 q2 xs P σ H=tQ C q σ H (wf' C elt ws t2 it2 q2 xs P σ):=rfl
theorem uR' {elt:Ce} {ws:List Nat} {t2:Ct} {it2:Ci} {q2:Cqo} {xs:List V} {P:List V->Hp->Prop}:wf' C elt ws t2 it2 q2 xs P σ true H=tI C it2 σ H (uO' C elt ws t2 q2 xs P σ):=rfl
theorem uS' {elt:Ce} {ws:List Nat} {t2:Ct} {it2:Ci} {q2:Cqo} {xs:List V} {P:List V->Hp->Prop}:wf' C elt ws t2 it2 q2 xs P σ false H=P xs H:=rfl
def li' (C:Rc) (elt:Ce) (own:List Nat) (t:Ct) (q:Cqo) (ws:List Nat) (t2:Ct) (it2:Ci) (q2:Cqo) (σ:L2.St) (Q:VK) (J:It) (H1:Hp):Prop:=a3' own (tG C t) (tQo C q) (gZ' (tI C it2) (a3' ws (tG C t2) (tQo C q2) (ey' (tE C elt)))) J σ [] H1 (mo' Q)
theorem nA' {elt:Ce} {own:List Nat} {t:Ct} {it:Ci} {q:Cqo} {ws:List Nat} {t2:Ct} {it2:Ci} {q2:Cqo}:tE C (.comp elt own t it q (.cons ws t2 it2 q2 .nil)) σ H Q=tI C it σ H (li' C elt own t q ws t2 it2 q2 σ Q):=rfl
theorem nB' {elt:Ce} {own:List Nat} {t:Ct} {q:Cqo} {ws:List Nat} {t2:Ct} {it2:Ci} {q2:Cqo} {J:It} {n:Nat} (Pv:Nat->List V->Hp->Prop) (h0:Pv 0 [] H) (hgo:∀i xs H,i<n->Pv i xs H->J.go i H) (hstop:∀xs H,Pv n xs H->J.stop n H)
  (hs:∀i xs H x H' (R:List V->Hp->Prop),i<n->Pv i xs H->J.yld i H x H'->(∀ys H2,Pv (i+1) ys H2->R ys H2)->tG C t x (clr own σ) H' (wg' C elt q ws t2 it2 q2 xs R)) (hd:∀xs H,Pv n xs H->mo' Q xs H):li' C elt own t q ws t2 it2 q2 σ Q J H:=by
 refine⟨fun i m xs H=>m=n-i/\i<=n/\Pv i xs H,⟨n,by simp,aE _,h0⟩,?_⟩
 rintro i m xs H ⟨rfl,hi,p⟩
 by_cases hlt:i<n
 .refine .inr ⟨hgo i xs H hlt p,fun x H' y=>?_⟩
  exact hs i xs H x H' (fun c H4=>∃m',m'<n-i/\(m'=n-(i+1)/\i+1<=n/\Pv (i+1) c H4)) hlt p y fun ys H2 p2=>⟨n-(i+1),by omega,rfl,hlt,p2⟩
 .have e:i=n:=by omega
  subst e
  exact .inl ⟨hstop xs H p,hd xs H p⟩
theorem uT' {elt:Ce} {ws:List Nat} {t2:Ct} {q2:Cqo} {xs:List V} {P:List V->Hp->Prop} {J:It} {n:Nat} (Pv:Nat->List V->Hp->Prop) (h0:Pv 0 xs H) (hgo:∀i xs H,i<n->Pv i xs H->J.go i H) (hstop:∀xs H,Pv n xs H->J.stop n H)
  (hs:∀i xs H x H' (R:List V->Hp->Prop),i<n->Pv i xs H->J.yld i H x H'->(∀ys H2,Pv (i+1) ys H2->R ys H2)->tG C t2 x (clr ws σ) H' (kCG C elt q2 xs R)) (hd:∀xs H,Pv n xs H->P xs H):uO' C elt ws t2 q2 xs P σ J H:=by
 refine⟨fun i m xs H=>m=n-i/\i<=n/\Pv i xs H,⟨n,by simp,aE _,h0⟩,?_⟩
 rintro i m xs H ⟨rfl,hi,p⟩
 by_cases hlt:i<n
 .refine .inr ⟨hgo i xs H hlt p,fun x H' y=>?_⟩
  exact hs i xs H x H' (fun c H4=>∃m',m'<n-i/\(m'=n-(i+1)/\i+1<=n/\Pv (i+1) c H4)) hlt p y fun ys H2 p2=>⟨n-(i+1),by omega,rfl,hlt,p2⟩
 .have e:i=n:=by omega
  subst e
  exact .inl ⟨hstop xs H p,hd xs H p⟩
theorem qT' {elt:Ce} {own:List Nat} {t:Ct} {q:Cqo} {ws:List Nat} {t2:Ct} {it2:Ci} {q2:Cqo} {a:Addr} {vs:List V} (Pv:Nat->List V->Hp->Prop) (h0:Pv 0 [] H) (hl:∀i xs H,Pv i xs H->SqL C.K H a vs)
  (hs:∀i xs H x (R:List V->Hp->Prop),vs[i]?=some x->Pv i xs H->(∀ys H2,Pv (i+1) ys H2->R ys H2)->tG C t x (clr own σ) H (wg' C elt q ws t2 it2 q2 xs R)) (hd:∀xs H,Pv vs.length xs H->mo' Q xs H):li' C elt own t q ws t2 it2 q2 σ Q (Itl C.K a) H:=
 nB' (n:=vs.length) Pv h0 (fun i xs H hi p=>⟨vs,vs[i],hl i xs H p,by simp[hi]⟩) (fun xs H p=>⟨vs,hl _ xs H p,ai _⟩) (fun i xs H x H' R hi p y k=>by
  obtain⟨e,y⟩:=y
  subst e
  exact hs i xs H' x R (y vs (hl i xs H' p)) p k) hd
theorem uU' {elt:Ce} {ws:List Nat} {t2:Ct} {q2:Cqo} {xs:List V} {P:List V->Hp->Prop} {l:List Bool} (Pv:Nat->List V->Hp->Prop) (h0:Pv 0 xs H)
  (hs:∀i xs H c (R:List V->Hp->Prop),l[i]?=some c->Pv i xs H->(∀ys H2,Pv (i+1) ys H2->R ys H2)->tG C t2 (.str (tx [c])) (clr ws σ) H (kCG C elt q2 xs R)) (hd:∀xs H,Pv l.length xs H->P xs H):uO' C elt ws t2 q2 xs P σ (Its (tx l)) H:=
 uT' (n:=l.length) Pv h0 (fun i xs H hi p=>by show i<(tx l).cps.size;rw[k6'];exact hi) (fun xs H p=>by show(tx l).cps.size<=l.length;rw[k6'];exact ai _) (fun i xs H x H' R hi p y k=>by
  obtain⟨e,c,hc,rfl⟩:=y
  subst e
  rw[us',ab hi]at hc
  cases hc
  exact hs i xs H' l[i] R (ab hi) p k) hd
end
section
variable {C:Rc} {σ:L2.St} {H:Hp} {Q:VK} {D:Ends}
structure ClsG (C:Rc) (r:Str) (Cr:Addr) (L:List Str):Prop where
 own:C.cl r=some Cr
 e:∃Ce,C.cl "RunError"=some Ce/\W.exmOne C.K (.ref Cr) (.ref Ce)=some true
 ex:W.excIn C.K Cr bmV "ValueError.__new__"=true
 x:XCls C.K Cr
 kv:W.kitOne C.K (.ref Cr) (.type "ValueError")=some true
 k:∀c∈L,∃Cc,C.cl c=some Cc/\W.kitOne C.K (.ref Cr) (.ref Cc)=some (decide (c=r))
end
def ay' (l:List (Str×Sp)) (y:Str):Option Sp:=l.lookup y
theorem ad' {x:Str} {s:Sp} {l:List (Str×Sp)}:ay' ((x,s) :: l) x=some s:=by unfold ay';simp
theorem ab' {x y:Str} {s:Sp} {l:List (Str×Sp)} (h:(y == x)=false):ay' ((x,s) :: l) y=ay' l y:=by
 unfold ay'
 rw[bi,h]
theorem fb' {y:Str} {s:Sp}:∀{l:List (Str×Sp)},ay' l y=some s->(y,s)∈l
 | [],h=>by cases h
 |(x,t) :: l,h=>by
  unfold ay' at h
  rw[bi]at h
  cases e:y == x with
  |true=>
   rw[e]at h
   cases h
   rw[eq_of_beq e]
   exact aF ..
  |false=>
   rw[e]at h
   exact ay _ (fb' h)
theorem ar' {P:Program} {w:World} {K:W.Frag} {mg:Str->Option Value} {base:Heap} {k:Nat} {l:List (Str×Sp)} (h:∀p∈l,∃f' fd' ps',FnOk P w K mg base CX0 k f' fd' ps' p.2/\mg p.1=some (.ref f')/\W.keepIn K (.ref f')=true/\eO' K fd' ps' []):
  ∀y sp',ay' l y=some sp'->∃f' fd' ps',FnOk P w K mg base CX0 k f' fd' ps' sp'/\mg y=some (.ref f')/\W.keepIn K (.ref f')=true/\eO' K fd' ps' []:=fun y sp' e=>h (y,sp') (fb' e)
theorem ak' {P:Program} {w:World} {K:W.Frag} {mg:Str->Option Value} {base:Heap} {x qual:Str} {st:Stmt} {f:Addr} {fd:FuncData} {ps:List Str} {k:Nat} {sp:Sp} (F:Fun K x qual st f fd) (C:Rc) (S:FnScope C.N ps (ac' st)) (hK:C.K=K) (code:Css) (hm:mSs C.N C.B (ac' st) code (am' st)=true)
  (len:∀vs H Q E,sp vs H Q E->vs.length=ps.length)
  (hfs:∀y sp',C.fs y=some sp'->∃f' fd' ps',FnOk P w K mg base CX0 k f' fd' ps' sp'/\mg y=some (.ref f')/\W.keepIn K (.ref f')=true/\eO' K fd' ps' []) (hB:∀y∈C.B,mg y=none) (hmk:mg "~"=none/\mg "^"=none/\mg "%"=none) (nt:tld C.B=false) (nh:hat C.B=false) (hxk:C.xk=fun _=>E0) (hcl:C.cl=fun _=>none)
  (hbody:∀vs H Q E,sp vs H Q E->tSs C code { nx:=fun _ H'=>Q .non H',rt:=Q } (aw' C.N vs) H):FnOk P w K mg base CX0 (k+1) f fd ps sp:=
 qr' F C S hK code hm len ⟨fun y sp' e=>by
  obtain⟨f',fd',ps',h1,h2⟩:=hfs y sp' e
  exact⟨f',fd',ps',.inl h1,h2⟩,hB,hmk,(fun c Ca e=>by rw[hcl]at e;cases e),nt,nh⟩ hxk hbody
theorem mC {α:Type} {P:α->Prop} {a:α} {l:List α} (h:P a/\∀x∈l,P x):∀x∈a :: l,P x:=List.forall_mem_cons.mpr h
theorem mN {α:Type} {P:α->Prop}:∀x∈([]:List α),P x:=fun y hy=>absurd hy av
theorem lj' {α:Type} {P:List α->Prop} (h:∀x0,P [x0]):∀us:List α,us.length=1->P us
 | [x0],_=>h x0
theorem gx' {α:Type} {P:List α->Prop} (h:∀x0 x1,P [x0,x1]):∀us:List α,us.length=2->P us
 | [x0,x1],_=>h x0 x1
theorem uV' {α:Type} {P:List α->Prop} (h:∀x0 x1 x2,P [x0,x1,x2]):∀us:List α,us.length=3->P us
 | [x0,x1,x2],_=>h x0 x1 x2
theorem r0' {α:Type} {P:List α->Prop} (h:∀x0 x1 x2 x3,P [x0,x1,x2,x3]):∀us:List α,us.length=4->P us
 | [x0,x1,x2,x3],_=>h x0 x1 x2 x3
theorem yN' {α:Type} {P:List α->Prop} (h:∀x0 x1 x2 x3 x4,P [x0,x1,x2,x3,x4]):∀us:List α,us.length=5->P us
 | [x0,x1,x2,x3,x4],_=>h x0 x1 x2 x3 x4
def ir' {α:Type} (aA':TL α) (b:α) (P:α->Hp->Prop) (σ:L2.St):Bool->Hp->Prop:=fun ok H=>if ok=true then aA' σ b H P else P b H
def hF' {α:Type} (tc:TT) (aA':TL α) (b:α) (P:α->Hp->Prop):L2.St->Hp->Prop:=fun σ H=>tc σ H (ir' aA' b P σ)
def kCl {α:Type} (own:List Nat) (g:TG) (tc:TT) (aA':TL α) (σ:L2.St) (a:α) (N:α->Hp->Prop) (J:It) (H:Hp):Prop:=a3' own g tc aA' J σ a H N
section
variable {C:Rc} {σ:L2.St} {H:Hp} {Q:VK} {D:Ends} {α:Type}
theorem qU' {aA':TL α} {b:α} {P:α->Hp->Prop}:hF' (tQo C .none) aA' b P σ H=aA' σ b H P:=rfl
theorem qV' {q:Cq} {aA':TL α} {b:α} {P:α->Hp->Prop}:hF' (tQo C (.some q)) aA' b P σ H=tQ C q σ H (ir' aA' b P σ):=rfl
theorem nC' {aA':TL α} {b:α} {P:α->Hp->Prop}:ir' aA' b P σ true H=aA' σ b H P:=rfl
theorem nD' {aA':TL α} {b:α} {P:α->Hp->Prop}:ir' aA' b P σ false H=P b H:=rfl
theorem nE' {own:List Nat} {g:TG} {tc:TT} {aA':TL α} {J:It} {a:α} {N:α->Hp->Prop} {n:Nat} (Pv:Nat->α->Hp->Prop) (h0:Pv 0 a H) (hgo:∀i b H,i<n->Pv i b H->J.go i H) (hstop:∀b H,Pv n b H->J.stop n H)
  (hs:∀i b H x H' (R:α->Hp->Prop),i<n->Pv i b H->J.yld i H x H'->(∀c H2,Pv (i+1) c H2->R c H2)->g x (clr own σ) H' (hF' tc aA' b R)) (hd:∀b H,Pv n b H->N b H):kCl own g tc aA' σ a N J H:=by
 refine⟨fun i m b H=>m=n-i/\i<=n/\Pv i b H,⟨n,by simp,aE _,h0⟩,?_⟩
 rintro i m b H ⟨rfl,hi,p⟩
 by_cases hlt:i<n
 .refine .inr ⟨hgo i b H hlt p,fun x H' y=>?_⟩
  exact hs i b H x H' (fun c H4=>∃m',m'<n-i/\(m'=n-(i+1)/\i+1<=n/\Pv (i+1) c H4)) hlt p y fun ys H2 p2=>⟨n-(i+1),by omega,rfl,hlt,p2⟩
 .have e:i=n:=by omega
  subst e
  exact .inl ⟨hstop b H p,hd b H p⟩
theorem yO' {own:List Nat} {g:TG} {tc:TT} {aA':TL α} {b0:α} {N:α->Hp->Prop} {a:Addr} {vs:List V} (Pv:Nat->α->Hp->Prop) (h0:Pv 0 b0 H) (hl:∀i b H,Pv i b H->SqL C.K H a vs)
  (hs:∀i b H x (R:α->Hp->Prop),vs[i]?=some x->Pv i b H->(∀c H2,Pv (i+1) c H2->R c H2)->g x (clr own σ) H (hF' tc aA' b R)) (hd:∀b H,Pv vs.length b H->N b H):kCl own g tc aA' σ b0 N (Itl C.K a) H:=
 nE' (n:=vs.length) Pv h0 (fun i xs H hi p=>⟨vs,vs[i],hl i xs H p,by simp[hi]⟩) (fun xs H p=>⟨vs,hl _ xs H p,ai _⟩) (fun i xs H x H' R hi p y k=>by
  obtain⟨e,y⟩:=y
  subst e
  exact hs i xs H' x R (y vs (hl i xs H' p)) p k) hd
theorem yP' {own:List Nat} {g:TG} {tc:TT} {aA':TL α} {b0:α} {N:α->Hp->Prop} {a:Addr} {vs:List V} (Pv:Nat->α->Hp->Prop) (h0:Pv 0 b0 H) (hl:∀i b H,Pv i b H->SqT C.K H a vs)
  (hs:∀i b H x (R:α->Hp->Prop),vs[i]?=some x->Pv i b H->(∀c H2,Pv (i+1) c H2->R c H2)->g x (clr own σ) H (hF' tc aA' b R)) (hd:∀b H,Pv vs.length b H->N b H):kCl own g tc aA' σ b0 N (Itt C.K a) H:=
 nE' (n:=vs.length) Pv h0 (fun i xs H hi p=>⟨vs,vs[i],hl i xs H p,by simp[hi]⟩) (fun xs H p=>⟨vs,hl _ xs H p,ai _⟩) (fun i xs H x H' R hi p y k=>by
  obtain⟨e,y⟩:=y
  subst e
  exact hs i xs H' x R (y vs (hl i xs H' p)) p k) hd
theorem yQ' {own:List Nat} {g:TG} {tc:TT} {aA':TL α} {b0:α} {N:α->Hp->Prop} {a:Addr} {vs:List V} (Pv:Nat->α->Hp->Prop) (h0:Pv 0 b0 H) (hl:∀i b H,Pv i b H->SqL C.K H a vs)
  (hs:∀i b H x p (R:α->Hp->Prop),vs[i]?=some x->H p=none->Pv i b H->(∀c H2,Pv (i+1) c H2->R c H2)->g (.ref p) (clr own σ) (upd H p (.tup [.int i,x])) (hF' tc aA' b R)) (hd:∀b H,Pv vs.length b H->N b H):kCl own g tc aA' σ b0 N (Ite C.K a) H:=
 nE' (n:=vs.length) Pv h0 (fun i xs H hi p=>⟨vs,vs[i],hl i xs H p,by simp[hi]⟩) (fun xs H p=>⟨vs,hl _ xs H p,rfl⟩) (fun i xs H x H' R hi p y k=>by
  obtain⟨ad,v,rfl,hn,y,rfl⟩:=y
  exact hs i xs H v ad R (y vs (hl i xs H p)) hn p k) hd
theorem zA' {own:List Nat} {g:TG} {tc:TT} {aA':TL α} {b0:α} {N:α->Hp->Prop} {lo:Int} {n:Nat} (Pv:Nat->α->Hp->Prop) (h0:Pv 0 b0 H)
  (hs:∀i b H (R:α->Hp->Prop),i<n->Pv i b H->(∀c H2,Pv (i+1) c H2->R c H2)->g (.int (lo+i)) (clr own σ) H (hF' tc aA' b R)) (hd:∀b H,Pv n b H->N b H):kCl own g tc aA' σ b0 N (Itr lo n) H:=
 nE' (n:=n) Pv h0 (fun i xs H hi p=>hi) (fun xs H p=>ai _) (fun i xs H x H' R hi p y k=>by
  obtain⟨e,rfl⟩:=y
  subst e
  exact hs i xs H' R hi p k) hd
theorem nF' {elt:Ce} {own:List Nat} {t:Ct} {it:Ci} {q:Cqo} {ws:List Nat} {t2:Ct} {it2:Ci} {q2:Cqo} {r:Cc}:tE C (.comp elt own t it q (.cons ws t2 it2 q2 r)) σ H Q=tI C it σ H (kCl own (tG C t) (tQo C q) (tR C (.cons ws t2 it2 q2 r) (ey' (tE C elt))) σ [] (mo' Q)):=rfl
theorem qW' {ws:List Nat} {t:Ct} {it:Ci} {q:Cqo} {r:Cc} {em:TL (List V)} {b:List V} {P:List V->Hp->Prop}:tR C (.cons ws t it q r) em σ b H P=tI C it σ H (kCl ws (tG C t) (tQo C q) (tR C r em) σ b P):=rfl
theorem uW' {em:TL (List V)} {b:List V} {P:List V->Hp->Prop}:tR C .nil em σ b H P=em σ b H P:=rfl
theorem qX' {elt:Ce} {b:List V} {P:List V->Hp->Prop}:ey' (tE C elt) σ b H P=tE C elt σ H (hB' b P):=rfl
def xT' (b:(Option Int->Bool)×Nat) (P:(Option Int->Bool)×Nat->Hp->Prop):VK:=fun v H=>∃k,v=kO k/\b.2<4000/\P (fun j=>b.1 j || decide (j=k),b.2+1) H
theorem nG' {elt:Ce} {b:(Option Int->Bool)×Nat} {P:(Option Int->Bool)×Nat->Hp->Prop}:ge' (tE C elt) σ b H P=tE C elt σ H (xT' b P):=rfl
theorem qY' {it:Ci} {own:List Nat} {g:TG} {tc:TT} {aA':TL α} {b:α} {P:α->Hp->Prop}:gZ' (tI C it) (a3' own g tc aA') σ b H P=tI C it σ H (kCl own g tc aA' σ b P):=rfl
def xU' (i:Nat) (D:Ends) (σ:L2.St):(Option Int->Bool)×Nat->Hp->Prop:=fun a H2=>True/\∀p,H2 p=none->D.nx (σ.set i (some (.ref p))) (upd H2 p (e5' p a.1 a.2))
theorem qZ' {i:Nat} {elt:Ce} {own:List Nat} {t:Ct} {it:Ci} {q:Cqo} {ws:List Nat} {t2:Ct} {it2:Ci} {q2:Cqo}:tS C (.setc2 i elt own t it q ws t2 it2 q2) D σ H=tI C it σ H (kCl own (tG C t) (tQo C q) (gZ' (tI C it2) (a3' ws (tG C t2) (tQo C q2) (ge' (tE C elt)))) σ (fun _=>false,0) (xU' i D σ)):=rfl
theorem uX' {K:W.Frag} {a:Addr} {ns:List Int} (h:SqL K H a (ns.map V.int)) (hl:ns.length<=3999) (q:∀p,H p=none->Q (.ref p) (upd H p (e5' p (inL ns) ns.length))):cr' K .set [.ref a] H Q:=⟨a,ns,rfl,h,hl,q⟩
def xV' (i:Nat) (D:Ends) (σ:L2.St):List (Key×V)->Hp->Prop:=fun a H2=>True/\∀p,H2 p=none->D.nx (σ.set i (some (.ref p))) (upd H2 p (.dK a))
def xW' (i:Nat) (D:Ends) (σ:L2.St):KTL->Hp->Prop:=fun a H2=>okT a H2/\∀p,H2 p=none->D.nx (σ.set i (some (.ref p))) (upd H2 p (.dT (plT a)))
theorem q0' {i:Nat} {k v:Ce} {own:List Nat} {t:Ct} {it:Ci} {q:Cqo}:tS C (.dctc false i k v own t it q) D σ H=tI C it σ H (kCl own (tG C t) (tQo C q) (ie' (tE C k) (tE C v)) σ [] (xV' i D σ)):=rfl
theorem q1' {i:Nat} {k v:Ce} {own:List Nat} {t:Ct} {it:Ci} {q:Cqo}:tS C (.dctc true i k v own t it q) D σ H=tI C it σ H (kCl own (tG C t) (tQo C q) (if' (tE C k) (tE C v)) σ [] (xW' i D σ)):=rfl
def yR' (a:List (Key×V)) (P:List (Key×V)->Hp->Prop) (y:V):VK:=fun v H2=>∃k,y=L2.kV k/\a.length<sizeLine/\P (g5' a k v) H2
def yS' (C:Rc) (σ:L2.St) (v:Ce) (a:List (Key×V)) (P:List (Key×V)->Hp->Prop):VK:=fun y H1=>tE C v σ H1 (yR' a P y)
theorem nH' {k v:Ce} {a:List (Key×V)} {P:List (Key×V)->Hp->Prop}:ie' (tE C k) (tE C v) σ a H P=tE C k σ H (yS' C σ v a P):=rfl
theorem q2' {v:Ce} {a:List (Key×V)} {P:List (Key×V)->Hp->Prop} {y:V}:yS' C σ v a P y H=tE C v σ H (yR' a P y):=rfl
def yT' (a:KTL) (P:KTL->Hp->Prop) (y:V):VK:=fun v H2=>∃(k:List Key) (b:Addr),y=.ref b/\H2 b=some (.tup (k.map L2.kV))/\okT a H2/\(∀x∈a,x.1≠k)/\a.length<sizeLine/\P (a++[(k,b,v)]) H2
def yU' (C:Rc) (σ:L2.St) (v:Ce) (a:KTL) (P:KTL->Hp->Prop):VK:=fun y H1=>tE C v σ H1 (yT' a P y)
theorem nI' {k v:Ce} {a:KTL} {P:KTL->Hp->Prop}:if' (tE C k) (tE C v) σ a H P=tE C k σ H (yU' C σ v a P):=rfl
theorem q3' {v:Ce} {a:KTL} {P:KTL->Hp->Prop} {y:V}:yU' C σ v a P y H=tE C v σ H (yT' a P y):=rfl
def q4' (neg:Bool) (y:V) (Q:VK):VK:=fun x H2=>(∃a o,x=.ref a/\gS' H2 a y o/\Q (.bl (if neg then !o.isSome else o.isSome)) H2)\/v7' neg y x H2 Q
def q5' (C:Rc) (σ:L2.St) (neg:Bool) (b:Ce) (Q:VK):VK:=fun y H1=>tE C b σ H1 (q4' neg y Q)
theorem uY' {neg:Bool} {a b:Ce}:tE C (.din neg a b) σ H Q=tE C a σ H (q5' C σ neg b Q):=rfl
theorem uZ' {neg:Bool} {a b:Ce} {Qb:Bool->Hp->Prop}:tQ C (.din neg a b) σ H Qb=tE C a σ H (q5' C σ neg b (kT Qb)):=rfl
theorem nJ' {neg:Bool} {b:Ce} {y:V}:q5' C σ neg b Q y H=tE C b σ H (q4' neg y Q):=rfl
theorem lk' {neg:Bool} {k:Option Int} {y:V} {p:Addr} {S:Option Int->Bool} {n:Nat} (hy:y=kO k) (h:H p=some (e5' p S n)) (q:Q (.bl (if neg then !(S k)else S k)) H):q4' neg y Q (.ref p) H:=.inr ⟨k,p,S,n,hy,rfl,h,q⟩
def hG' (a:Addr) (Q:VK):VK:=fun y H2=>(∃o,gS' H2 a y o/\Q (o.getD .non) H2)\/(y=.non/\NoN H2 a/\Q .non H2)
def u0' (C:Rc) (σ:L2.St) (b:Ce) (Q:VK):VK:=fun x H1=>∃a,x=.ref a/\IsD H1 a/\tE C b σ H1 (hG' a Q)
theorem u1' {a b:Ce}:tE C (.dgt a b) σ H Q=tE C a σ H (u0' C σ b Q):=rfl
def o7' (a:Addr) (y:V) (Q:VK):VK:=fun z H3=>∃o,gS' H3 a y o/\Q (o.getD z) H3
def u2' (C:Rc) (σ:L2.St) (c:Ce) (a:Addr) (Q:VK):VK:=fun y H2=>tE C c σ H2 (o7' a y Q)
theorem ll' {c:Ce} {a:Addr} {y:V}:u2' C σ c a Q y H=tE C c σ H (o7' a y Q):=rfl
theorem fD' {b:Ce} {p:Addr} (h:IsD H p) (q:tE C b σ H (hG' p Q)):u0' C σ b Q (.ref p) H:=⟨p,rfl,h,q⟩
theorem lm' {p:Addr} {y:V} {o:Option V} (h:gS' H p y o) (q:Q (o.getD .non) H):hG' p Q y H:=.inl ⟨o,h,q⟩
theorem ln' {p:Addr} (h:NoN H p) (q:Q .non H):hG' p Q .non H:=.inr ⟨rfl,h,q⟩
end
section
variable {C:Rc} {σ:L2.St} {H:Hp} {Q:VK} {Qb:Bool->Hp->Prop}
def kW1 (C:Rc) (σ:L2.St) (k:Zf) (b:Ce) (Q:VK):VK:=fun x H=>tE C b σ H fun y H'=>rZf k x y H' Q
def kW2 (k:Zf) (x:V) (Q:VK):VK:=fun y H=>rZf k x y H Q
theorem u3' {k:Zf} {b:Ce} {x:V}:kW1 C σ k b Q x H=tE C b σ H (kW2 k x Q):=rfl
theorem u4' {K:W.Frag} {a:Addr} {xs:List V} {y:V} (h:H a=some (.lst (xs++[y]))) (q:Q y (upd H a (.lst xs))):kE' K .popL (.ref a) [] H Q:=⟨a,xs++[y],y,rfl,rfl,h,by simp,by simpa using q⟩
theorem q6' {K:W.Frag} {a:Addr} {ns:List Int} (h:SqL K H a (ns.map V.int)) (q:Q (.bl (ns.any fun n=>n != 0)) H):cr' K .anyI [.ref a] H Q:=⟨a,ns,rfl,h,q⟩
section
variable {D:Ends}
def xX' (x y z:V) (sub:Bool) (D:Ends) (σ:L2.St):VK:=fun w H4=>ipI (fun i j=>if sub then i-j else i+j) z w H4 fun u H5=>dw' x y u H5 fun H6=>D.nx σ H6
def xY' (C:Rc) (e:Ce) (sub:Bool) (x:V) (D:Ends) (σ:L2.St):VK:=fun y H2=>e0' C.K x y H2 fun z H3=>tE C e σ H3 (xX' x y z sub D σ)
def yV' (C:Rc) (i:Ce) (sub:Bool) (e:Ce) (D:Ends) (σ:L2.St):VK:=fun x H1=>tE C i σ H1 (xY' C e sub x D σ)
theorem u5' {o i e:Ce} {sub:Bool}:tS C (.augS o i sub e) D σ H=tE C o σ H (yV' C i sub e D σ):=rfl
theorem q8' {i e:Ce} {sub:Bool} {x:V}:yV' C i sub e D σ x H=tE C i σ H (xY' C e sub x D σ):=rfl
theorem u6' {a:Addr} {xs:List V} {k:Int} {z:V} {e:Ce} {sub:Bool} (h:H a=some (.lst xs)) (hk:atI xs k=some z) (q:tE C e σ H (xX' (.ref a) (.int k) z sub D σ)):xY' C e sub (.ref a) D σ (.int k) H:=⟨a,xs,k,z,rfl,rfl,SqL.of h,hk,q⟩
theorem o8' {a:Addr} {xs:List V} {k m n:Int} {j:Nat} {sub:Bool} (h:H a=some (.lst xs)) (hj:ixN xs.length k=some j) (q:D.nx σ (upd H a (.lst (xs.set j (.int (if sub then m-n else m+n)))))):xX' (.ref a) (.int k) (.int m) sub D σ (.int n) H:=⟨m,n,rfl,rfl,a,xs,k,j,rfl,rfl,h,hj,q⟩
def yW' (x v:V) (D:Ends) (σ:L2.St):VK:=fun y H3=>∃a H4,x=.ref a/\y8' H3 a y v H4/\D.nx σ H4
def xZ' (C:Rc) (i:Ce) (v:V) (D:Ends) (σ:L2.St):VK:=fun x H2=>tE C i σ H2 (yW' x v D σ)
def zB' (C:Rc) (o i:Ce) (D:Ends) (σ:L2.St):VK:=fun v H1=>tE C o σ H1 (xZ' C i v D σ)
theorem q9' {o i:Ce} {v:V}:zB' C o i D σ v H=tE C o σ H (xZ' C i v D σ):=rfl
theorem ra' {i:Ce} {v x:V}:xZ' C i v D σ x H=tE C i σ H (yW' x v D σ):=rfl
end
def x0' (C:Rc) (σ:L2.St) (b:Ce) (Q:VK):VK:=fun x H1=>tE C b σ H1 (np' fun l H2=>∃(a:Addr) (xs:List V) (n:Nat),x=.ref a/\l=some (n:Int)/\0<n/\SqL C.K H2 a xs/\∀p,H2 p=none->Q (.ref p) (upd H2 p (.lst (yD' xs n))))
theorem nK' {b:Ce} {x:V}:x0' C σ b Q x H=tE C b σ H (np' fun l H2=>∃(a:Addr) (xs:List V) (n:Nat),x=.ref a/\l=some (n:Int)/\0<n/\SqL C.K H2 a xs/\∀p,H2 p=none->Q (.ref p) (upd H2 p (.lst (yD' xs n)))):=rfl
end
def cU' {α β:Type} (R:α->β->Prop):List α->List β->Prop
 | [],[]=>True
 |a :: as,b :: bs=>R a b/\cU' R as bs
 |_,_=>False
section
variable {α β:Type} {R S:α->β->Prop}
theorem cU'.mono (h:∀a b,R a b->S a b):∀{as:List α} {bs:List β},cU' R as bs->cU' S as bs
 | [],[],_=>trivial
 |_ :: _,_ :: _,q=>⟨h _ _ q.1,cU'.mono h q.2⟩
 | [],_ :: _,q=>q.elim
 |_ :: _,[],q=>q.elim
theorem cU'.len:∀{as:List α} {bs:List β},cU' R as bs->as.length=bs.length
 | [],[],_=>rfl
 |_ :: _,_ :: _,q=>by simp[cU'.len q.2]
 | [],_ :: _,q=>q.elim
 |_ :: _,[],q=>q.elim
theorem cU'.app:∀{as cs:List α} {bs ds:List β},cU' R as bs->cU' R cs ds->cU' R (as++cs) (bs++ds)
 | [],_,[],_,_,q=>q
 |_ :: _,_,_ :: _,_,p,q=>⟨p.1,cU'.app p.2 q⟩
 | [],_,_ :: _,_,p,_=>p.elim
 |_ :: _,_,[],_,p,_=>p.elim
theorem cU'.snoc {a:α} {b:β} {as:List α} {bs:List β} (h:cU' R as bs) (r:R a b):cU' R (as++[a]) (bs++[b]):=h.app ⟨r,trivial⟩
theorem cU'.getL:∀{as:List α} {bs:List β} {i:Nat} {a:α},cU' R as bs->as[i]?=some a->∃b,bs[i]?=some b/\R a b
 | [],[],_,_,_,e=>by cases e
 |_ :: _,b :: _,0,_,q,e=>by cases e;exact⟨b,rfl,q.1⟩
 |_ :: as,_ :: bs,i+1,a,q,e=>by
  obtain⟨b,h1,h2⟩:=cU'.getL (i:=i) (a:=a) q.2 (by simpa using e)
  exact⟨b,by simpa using h1,h2⟩
 | [],_ :: _,_,_,q,_=>q.elim
 |_ :: _,[],_,_,q,_=>q.elim
end
end R3
section
open PySem PySem.Spec PyProof.Rows L2 R3
local macro_rules | `(tactic| walk_at "y") => `(tactic| try walk_at "sy")
set_option hygiene false in
local macro_rules | `(tactic| walk_at "sy") => `(tactic| simp only [u3', q9', ra', u5', q8', nK', nF', qW', uW', qX', uY', uZ', nJ', u1', ll', qZ', q0', q1', nG', qY', nH', q2', nI', q3', qU', qV', nC', nD', in', oT', xr', oU', tE', xs', tF', tG', tH', tI', oV', oW', tJ', tK', tL', tM', nc', tN', oX', tP', nd', tQ', xu', qv', qw', tR', tS', xQ', xR', ny', qR', qS', uP', uQ', uR', uS', nA', xv', qM', xw', xx', tU', xy', xz', xA', zp', zq', zr', zs', zt', xP', qO', zx', lf', tV', tW', qx', fa', tX', tY', tZ', xB', t1', ne', xC', qy', xD', nf', ng', nh', zu', xE', xF', fA', oZ', o0', t5', oY', t6', t7', qz', qA', ni', o1', k3', ua', nj', nk', ub', uc', ud', uf', nl', ug', xI', qE', qF', uh', ui', uj', qG', un', nm', nn', no', uo', up', k4', uq', nq', nr', ns', uG', i4', ld', le', qI', qJ', xM', zv', zw', uu', xN', ux', k8', k9', qH', uy', uz', k7', lb', uC', uD', uE', uF', nv', clr, List.foldl_cons, List.foldl_nil, L2.aw', aH, List.map_nil, bp, List.length_nil, List.cons_append, List.nil_append, ao, Nat.reduceSub, Nat.reduceAdd, bM, bN, List.getElem?_cons_zero, List.getElem?_cons_succ, reduceCtorEq, decide_true, decide_false, eq_self, Bool.not_true, Bool.not_false, bne_self_eq_false, BEq.rfl])
namespace LW
open PySem PySem.Spec PyProof.Rows L2 R3
def dH':Css:=(.cons (.ite (.cmp .Lt (.var 1) (.blt .len (.cons (.var 0) .nil))) (.cons (.ret (.idx (.var 0) (.var 1)))
  .nil) .nil)
  (.cons (.ret (.int 0))
  .nil))
def nL':Css:=(.cons (.asg (.name 2) (.call "_law_cell_at" (.cons (.var 0) (.cons (.var 1) .nil))))
  (.cons (.ret (.lst (.cons (.bin .Mult (.blt .abs (.cons (.var 2) .nil)) (.blt .int (.cons (.cmp .GtE (.blt .abs (.cons (.var 2) .nil)) (.bin .Pow (.int 10) (.int 18))) .nil))) (.cons (.bin .Add (.bin .Add (.bin .Mod (.var 2) (.int 2305843009213693951)) (.bin .Mult (.int 39373) (.var 1))) (.int 17)) (.cons (.int 0) .nil)))))
  .nil))
def iu':Css:=(.cons (.ite (.cmp .Gt (.idx (.var 0) (.int 0)) (.int 0)) (.cons (.asg (.name 2) (.bin .Mod (.idx (.var 0) (.int 0)) (.var 1)))
  (.cons (.asg (.sub (.var 0) (.int 0)) (.bin .FloorDiv (.idx (.var 0) (.int 0)) (.var 1)))
  (.cons (.ret (.var 2))
  .nil))) .nil)
  (.cons (.asg (.sub (.var 0) (.int 2)) (.bin .Add (.idx (.var 0) (.int 2)) (.int 1)))
  (.cons (.asg (.name 3) (.bin .Mod (.bin .Mult (.bin .Add (.idx (.var 0) (.int 1)) (.bin .Mult (.int 48271) (.idx (.var 0) (.int 2)))) (.bin .Add (.int 39373) (.idx (.var 0) (.int 2)))) (.int 2147483647)))
  (.cons (.asg (.name 4) (.bin .Mod (.bin .Mult (.bin .Add (.var 3) (.idx (.var 0) (.int 2))) (.bin .Add (.bin .Mod (.var 3) (.int 40009)) (.int 7))) (.int 2147483629)))
  (.cons (.ret (.bin .Mod (.bin .FloorDiv (.bin .Mod (.bin .Add (.bin .Mult (.var 4) (.int 48271)) (.var 3)) (.int 2147483587)) (.int 64)) (.var 1)))
  .nil)))))
def fc' (K:W.Frag):Sp:=fun vs H Q _=>∃(a:Addr) (ns:List Int) (k:Int),vs=[.ref a,.int k]/\SqL K H a (ns.map V.int)/\0<=k/\∀c:Int,Q (.int c) H
theorem nM' {ns:List Int} {k:Int} (h0:0<=k) (h1:k<ns.length):∃c:Int,atI (ns.map V.int) k=some (.int c):=by
 obtain⟨j,rfl⟩:=aM h0
 have hk:j<ns.length:=by omega
 exact⟨ns[j],aY' (by rw[ap,ab hk];rfl)⟩
theorem lo' {C:Rc} (hN:C.N.length=2):∀vs H Q E,fc' C.K vs H Q E->tSs C dH' { nx:=fun _ H'=>Q .non H',rt:=Q } (L2.aw' C.N vs) H:=by
 intro vs H Q E h
 obtain⟨a,ns,k,rfl,hs,hk,q⟩:=h
 rw[aj' hN]
 unfold dH'
 walk_at "y"
 refine dm' hs ?_
 rw[aa]
 walk_at "y"
 refine bA' (fun c=>?_) fun _=>?_
 .obtain⟨v,hv⟩:=nM' hk c
  walk_at "y"
  exact aV' hs hv (q v)
 .walk_at "y"
  exact q 0
def lp' (K:W.Frag):Sp:=fun vs H Q _=>∃(a:Addr) (ns:List Int) (k:Int),vs=[.ref a,.int k]/\SqL K H a (ns.map V.int)/\0<=k/\k<=1000/\∀(p:Addr) (x y:Int),H p=none->0<=x->0<=y->y<2 ^ 62->Q (.ref p) (upd H p (gu' x y 0))
theorem nN' {C:Rc} (hN:C.N.length=3) (hf:C.fs "_law_cell_at"=some (fc' C.K)):∀vs H Q E,lp' C.K vs H Q E->tSs C nL' { nx:=fun _ H'=>Q .non H',rt:=Q } (L2.aw' C.N vs) H:=by
 intro vs H Q E h
 obtain⟨a,ns,k,rfl,hs,hk,hk2,q⟩:=h
 rw[aj' hN]
 unfold nL'
 walk_at "y"
 refine ai' hf ?_
 walk_at "y"
 refine⟨a,ns,k,rfl,hs,hk,fun c=>?_⟩
 walk_at "y"
 have hm0:0<=c % 2305843009213693951:=Int.emod_nonneg _ (by decide)
 have hm1:c % 2305843009213693951<2305843009213693951:=cg _ (by decide)
 refine⟨⟨by decide,by decide,by decide⟩,?_,by decide,.inl ⟨by decide,by decide⟩,by decide,fun p hp=>q p _ _ hp ?_ ?_ ?_⟩
 .refine .inr (.inl ⟨?_,?_⟩)<;>split<;>split<;>decide
 .split<;>split<;>omega
 .omega
 .omega
section
variable {K:W.Frag} {H:Hp} {b:Addr} {x y z:Int} {Q:VK}
theorem ix0 (h:H b=some (gu' x y z)) (q:Q (.int x) H):e0' K (.ref b) (.int 0) H Q\/gR' K (.ref b) (.int 0) H Q:=.inl ⟨b,_,0,_,rfl,rfl,SqL.of h,rfl,q⟩
theorem ix1 (h:H b=some (gu' x y z)) (q:Q (.int y) H):e0' K (.ref b) (.int 1) H Q\/gR' K (.ref b) (.int 1) H Q:=.inl ⟨b,_,1,_,rfl,rfl,SqL.of h,rfl,q⟩
theorem ix2 (h:H b=some (gu' x y z)) (q:Q (.int z) H):e0' K (.ref b) (.int 2) H Q\/gR' K (.ref b) (.int 2) H Q:=.inl ⟨b,_,2,_,rfl,rfl,SqL.of h,rfl,q⟩
theorem st0 {u:Int} {Q:Hp->Prop} (h:H b=some (gu' x y z)) (q:Q (upd H b (gu' u y z))):dw' (.ref b) (.int 0) (.int u) H Q:=⟨b,_,0,0,rfl,rfl,h,rfl,q⟩
theorem st2 {u:Int} {Q:Hp->Prop} (h:H b=some (gu' x y z)) (q:Q (upd H b (gu' x y u))):dw' (.ref b) (.int 2) (.int u) H Q:=⟨b,_,2,2,rfl,rfl,h,rfl,q⟩
end
def fE':Sp:=fun vs H Q _=>∃(b:Addr) (x y z m:Int),vs=[.ref b,.int m]/\H b=some (gu' x y z)/\0<=x/\0<=y/\y<2 ^ 62/\0<=z/\z<=2 ^ 40/\0<m/\m<4611686018427387904/\
 ∀(r x' z':Int),0<=r->r<m->0<=x'->0<=z'->z'<=z+1->Q (.int r) (upd H b (gu' x' y z'))
theorem lq' {C:Rc} (hN:C.N.length=5):∀vs H Q E,fE' vs H Q E->tSs C iu' { nx:=fun _ H'=>Q .non H',rt:=Q } (L2.aw' C.N vs) H:=by
 intro vs H Q E h
 obtain⟨b,x,y,z,m,rfl,hb,hx,hy,hy2,hz,hz2,hm,hm2,q⟩:=h
 rw[aj' hN]
 unfold iu'
 walk_at "sy"
 refine ix0 hb ?_
 walk_at "sy"
 refine bA' (fun c=>?_) fun _=>?_
 .walk_at "sy"
  refine ix0 hb ?_
  walk_at "sy"
  refine⟨hm,?_⟩
  refine ix0 hb ?_
  walk_at "sy"
  refine⟨⟨hm,.inr (aB ((Nat.log2_lt (by omega)).mpr (show m.natAbs<2 ^ 62 by omega)) (by decide))⟩,st0 hb ?_⟩
  walk_at "sy"
  exact q _ _ _ (Int.emod_nonneg _ (by omega)) (cg _ hm) (Int.ediv_nonneg hx (by omega)) hz (by omega)
 .walk_at "sy"
  refine ix2 hb ?_
  walk_at "sy"
  refine st2 hb ?_
  have hb':upd H b (gu' x y (z+1)) b=some (gu' x y (z+1)):=aa'
  walk_at "sy"
  refine ix1 hb' ?_
  walk_at "sy"
  refine ix2 hb' ?_
  walk_at "sy"
  refine⟨.inl ⟨by decide,by decide⟩,?_⟩
  refine ix2 hb' ?_
  walk_at "sy"
  refine⟨.inr (.inl ⟨by omega,by omega⟩),by decide,?_⟩
  refine ix2 hb' ?_
  walk_at "sy"
  generalize (y+48271*(z+1))*(39373+(z+1)) % 2147483647=once
  have ho0:0<=once % 40009:=Int.emod_nonneg _ (by decide)
  have ho1:once % 40009<40009:=cg _ (by decide)
  refine⟨by decide,.inr (.inl ⟨by omega,by omega⟩),by decide,.inr (.inl ⟨by decide,by decide⟩),by decide,⟨by decide,by decide⟩,hm,?_⟩
  exact q _ _ _ (Int.emod_nonneg _ (by omega)) (cg _ hm) hx (by omega) (by omega)
def aH':Sp:=fun vs H Q _=>∃(b:Addr) (n:Nat) (m:Int),vs=[.ref b,.int m]/\H b=some (dF' b n)/\n<=2 ^ 40/\0<m/\m<4611686018427387904/\∀(r:Int) (H':Hp),0<=r->r<m->Go 1 H H'->Q (.int r) H'
theorem rb' {P:Program} {w:World} {K:W.Frag} {mg:Str->Option Value} {base:Heap} {k:Nat} {f:Addr} {fd:FuncData} {ps:List Str} (hp:ps.length=2) (F:FnOk P w K mg base CX0 k f fd ps fE'):FnOk P w K mg base CX0 k f fd ps aH':=by
 refine qt' (k2' (sp':=fun vs H Q E=>fE' vs H (yF' Q) E) F fun _ _ _ _ h=>h) (fun vs H Q E h=>?_) fun vs H Q E h=>?_
 .obtain⟨b,n,m,rfl,hb,hn,hm,hm2,q⟩:=h
  refine⟨b,n,hb,fun x y z hx hy hy2 hz hzn=>⟨b,x,y,z,m,rfl,aa',hx,hy,hy2,hz,by omega,hm,hm2,fun r x' z' h1 h2 h3 h4 h5=>?_⟩⟩
  refine⟨b,x',y,z',n+1,aa',h3,hy,hy2,h4,by omega,?_⟩
  refine q r _ h1 h2 ?_
  rw[b8']
  exact Go.draw hb (ai _) _
 .obtain⟨b,n,m,rfl,_⟩:=h
  rw[hp]
  rfl
def lr' (K:W.Frag):Sp:=fun vs H Q _=>∃(a:Addr) (ns:List Int) (k:Int),vs=[.ref a,.int k]/\SqL K H a (ns.map V.int)/\0<=k/\k<=1000/\∀(p:Addr),H p=none->Q (.ref p) (upd H p (dF' p 0))
theorem u7' {P:Program} {w:World} {K:W.Frag} {mg:Str->Option Value} {base:Heap} {k:Nat} {f:Addr} {fd:FuncData} {ps:List Str} (F:FnOk P w K mg base CX0 k f fd ps (lp' K)):FnOk P w K mg base CX0 k f fd ps (lr' K):=by
 refine k2' F fun vs H Q E h=>?_
 obtain⟨a,ns,k,rfl,hs,h0,h1,q⟩:=h
 refine⟨a,ns,k,rfl,hs,h0,h1,fun p x y hp hx hy hy2=>⟨p,x,y,0,0,aa',hx,hy,hy2,by omega,by omega,?_⟩⟩
 rw[b8']
 exact q p hp
theorem _root_.R3.Go.boxed {c n:Nat} {H H':Hp} {b:Addr} (g:Go c H H') (h:H b=some (dF' b n)) (hn:n+c<=2 ^ 40):∃m,H' b=some (dF' b m)/\m<=n+c/\m<=2 ^ 40:=by
 obtain⟨m,hm,e⟩:=g.box b n h
 exact⟨m,e,hm,by omega⟩
def Sc:V->Bool
 | .non=>true
 | .bl _=>true
 | .int _=>true
 | .str _=>true
 |_=>false
def Eqv (H:Hp):Nat->V->V->Prop
 |0,v,w=>v=w/\Sc v=true
 |n+1,v,w=>(v=w/\Sc v=true)\/∃a b xs ys,v=.ref a/\w=.ref b/\((H a=some (.lst xs)/\H b=some (.lst ys))\/(H a=some (.tup xs)/\H b=some (.tup ys)))/\xs.length<=sizeLine/\xs.length=ys.length/\∀(i:Nat) x y,xs[i]?=some x->ys[i]?=some y->Eqv H n x y
def o9' (n:Nat):Sp:=fun vs H Q _=>∃v w,vs=[v,w]/\Eqv H n v w/\∀H',ax' H H'->Q (.bl true) H'
section
variable {K:W.Frag} {H:Hp} {Q:VK}
theorem fF' {x:V} {T c:String} {k:Bool} (h:bj' H x=some T) (hk:isT T c=k) (hT:T∈cq') (hc:c∈["bool","int","str","list","tuple","dict"]) (q:Q (.bl k) H):cr' K .isinstance [x,.ty c] H Q:=uJ' h hT hc (by rw[hk];exact q)
theorem yX' {x:V} {T c d:String} {p:Addr} {k:Bool} (h:bj' H x=some T) (hp:H p=some (.tup [.ty c,.ty d])) (hk:(isT T c || isT T d)=k) (hT:T∈cq') (hc:c∈["bool","int","str","list","tuple","dict"]) (hd:d∈["bool","int","str","list","tuple","dict"]) (q:Q (.bl k) H):cr' K .isinstance [x,.ref p] H Q:=qK' h hT hp hc hd (by rw[hk];exact q)
end
end LW
namespace LW
open PySem PySem.Spec PyProof.Rows L2 R3
def iv':Css:=(.cons (.ite (.cmp .Eq (.call "_law_take" (.cons (.var 0) (.cons (.int 8) .nil))) (.int 0)) (.cons (.ret (.bin .Add (.int 7) (.call "_law_take" (.cons (.var 0) (.cons (.bin .Sub (.var 3) (.int 6)) .nil)))))
  .nil) .nil)
  (.cons (.ret (.bin .Add (.var 1) (.call "_law_take" (.cons (.var 0) (.cons (.bin .Add (.bin .Sub (.var 2) (.var 1)) (.int 1)) .nil)))))
  .nil))
def dI':Css:=(.cons (.asg (.name 2) (.bin .Add (.int 2) (.call "_law_take" (.cons (.var 0) (.cons (.int 4) .nil)))))
  (.cons (.asg (.name 3) (.lst .nil))
  (.cons (.for_ (.name 4) (.range1 (.var 1)) (.cons (.asg (.name 5) (.lst .nil))
  (.cons (.for_ (.name 6) (.range1 (.int 2)) (.cons (.asg (.name 7) (.call "_law_take" (.cons (.var 0) (.cons (.var 1) .nil))))
  (.cons (.expr (.met .append (.var 5) (.cons (.idx (.lst (.cons (.var 7) (.cons .non .nil))) (.blt .int (.cons (.cmp .Eq (.call "_law_take" (.cons (.var 0) (.cons (.var 2) .nil))) (.int 0)) .nil))) .nil)))
  .nil)))
  (.cons (.expr (.met .append (.var 3) (.cons (.blt .tuple (.cons (.var 5) .nil)) .nil)))
  .nil))))
  (.cons (.ret (.blt .tuple (.cons (.var 3) .nil)))
  .nil))))
def a4':Css:=(.cons (.asg (.name 2) (.lst .nil))
  (.cons (.for_ (.name 3) (.range1 (.var 1)) (.cons (.expr (.met .insert (.var 2) (.cons (.call "_law_take" (.cons (.var 0) (.cons (.bin .Add (.var 3) (.int 1)) .nil))) (.cons (.var 3) .nil))))
  .nil))
  (.cons (.asg (.name 4) (.bin .Mult (.lst (.cons .non .nil)) (.var 1)))
  (.cons (.for_ (.tup (.cons (.name 5) (.cons (.name 6) .nil))) (.enum (.var 2)) (.cons (.asg (.name 7) (.idx (.bin .Add (.var 2) (.cut (.var 2) .none (.some (.int 1)))) (.bin .Add (.var 5) (.int 1))))
  (.cons (.asg (.name 8) (.idx (.lst (.cons (.call "_law_take" (.cons (.var 0) (.cons (.var 1) .nil))) (.cons .non .nil))) (.blt .int (.cons (.cmp .Eq (.call "_law_take" (.cons (.var 0) (.cons (.int 3) .nil))) (.int 0)) .nil))))
  (.cons (.asg (.sub (.var 4) (.var 6)) (.idx (.lst (.cons (.tup (.cons (.var 7) (.cons (.var 8) .nil))) (.cons (.tup (.cons (.var 8) (.cons (.var 7) .nil))) .nil))) (.call "_law_take" (.cons (.var 0) (.cons (.int 2) .nil)))))
  .nil))))
  (.cons (.ret (.blt .tuple (.cons (.var 4) .nil)))
  .nil)))))
abbrev Rm:=Option Nat×Option Nat
def oV:Option Nat->V
 |none=>.non
 |some n=>.int n
def Tp (H H':Hp):Prop:=∀a xs,H a=some (.tup xs)->H' a=some (.tup xs)
theorem Tp.trans {H H1 H2:Hp} (a:Tp H H1) (b:Tp H1 H2):Tp H H2:=fun c x h=>b c x (a c x h)
theorem _root_.R3.Go.tp {c:Nat} {H H':Hp} (g:Go c H H'):Tp H H':=fun a xs h=>g.tup h
theorem ao' {H H':Hp} (s:ax' H H'):Tp H H':=fun a xs h=>s _ _ h
theorem fe' {H:Hp} {p:Addr} (h:H p=none) (o:HO):Tp H (upd H p o):=ao' (ae' h o)
theorem iw' {H:Hp} {p:Addr} {xs:List V} (h:H p=some (.lst xs)) (o:HO):Tp H (upd H p o):=fun a ys e=>by
 rw[af' (fun z=>by subst z;rw[h]at e;cases e)]
 exact e
theorem _root_.R3.Go.upd {c:Nat} {H H':Hp} {l:Addr} {o:HO} (g:Go c H H') (h:H l=none):Go c H (L2.upd H' l o):=by
 refine⟨fun a n e=>?_,fun a u e no=>?_,fun a e=>?_⟩
 .obtain⟨m,hm,e1⟩:=g.box a n e
  exact⟨m,hm,by rw[af' (ag' e h)];exact e1⟩
 .rw[af' (ag' e h)]
  exact g.oth a u e no
 .by_cases hl:a=l
  .subst hl
   exact h
  .rw[af' hl]at e
   exact g.free a e
theorem a7' {Q:VK} {m:Int} {H0 H:Hp} {b:Addr} {n0 c:Nat} (hb:H0 b=some (dF' b n0)) (g:Go c H0 H) (hn:n0+c<=2 ^ 40) (hm:0<m) (hm2:m<4611686018427387904) (q:∀r H',0<=r->r<m->Go 1 H H'->Go (c+1) H0 H'->Q (.int r) H'):aH' [.ref b,.int m] H Q E0:=by
 obtain⟨n,hb1,_,hn1⟩:=g.boxed hb hn
 exact⟨b,n,m,rfl,hb1,hn1,hm,hm2,fun r H' h0 h1 g1=>q r H' h0 h1 g1 (g.trans g1)⟩
def gy':Sp:=fun vs H Q _=>∃(b:Addr) (n:Nat) (x y z:Int),vs=[.ref b,.int x,.int y,.int z]/\H b=some (dF' b n)/\n<=2 ^ 39/\0<=x/\x<=y/\y<=1000/\7<=z/\z<=1000/\∀(r:Int) (H':Hp),(x<=r/\r<=y\/7<=r/\r<=z)->Go 2 H H'->Q (.int r) H'
theorem ls' {C:Rc} (hN:C.N.length=4) (hT:C.fs "_law_take"=some aH'):∀vs H Q E,gy' vs H Q E->tSs C iv' { nx:=fun _ H'=>Q .non H',rt:=Q } (L2.aw' C.N vs) H:=by
 intro vs H Q E h
 obtain⟨b,n,x,y,z,rfl,hb,hn,hx,hxy,hy,hz,hz2,q⟩:=h
 rw[aj' hN]
 unfold iv'
 walk_at "sy"
 refine ai' hT ?_
 walk_at "sy"
 refine a7' hb (Go.refl (c:=0)) (by omega) (by decide) (by decide) fun r1 H1 h0 h1 g1 g01=>?_
 walk_at "sy"
 refine bA' (fun hc=>?_) fun hc=>?_
 .walk_at "sy"
  refine ai' hT ?_
  walk_at "sy"
  refine a7' hb g01 (by omega) (by omega) (by omega) fun r2 H2 h20 h21 g2 g02=>?_
  walk_at "sy"
  exact q _ _ (.inr ⟨by omega,by omega⟩) g02
 .walk_at "sy"
  refine ai' hT ?_
  walk_at "sy"
  refine a7' hb g01 (by omega) (by omega) (by omega) fun r2 H2 h20 h21 g2 g02=>?_
  walk_at "sy"
  exact q _ _ (.inl ⟨by omega,by omega⟩) g02
def d6' (H:Hp) (v:V) (r:Rm):Prop:=∃p,v=.ref p/\H p=some (.tup [oV r.1,oV r.2])
theorem d6'.mono {H H':Hp} {v:V} {r:Rm} (t:Tp H H') (h:d6' H v r):d6' H' v r:=by
 obtain⟨p,e,h⟩:=h
 exact⟨p,e,t _ _ h⟩
def cn' (H:Hp):List V->List Rm->Prop
 | [],[]=>True
 |v :: vs,r :: rs=>d6' H v r/\cn' H vs rs
 |_,_=>False
theorem cn'.mono {H H':Hp} (t:Tp H H'):∀{vs:List V} {M:List Rm},cn' H vs M->cn' H' vs M
 | [],[],_=>trivial
 |v :: vs,r :: rs,h=>⟨h.1.mono t,cn'.mono t h.2⟩
 | [],_ :: _,h=>h.elim
 |_ :: _,[],h=>h.elim
theorem cn'.len {H:Hp}:∀{vs:List V} {M:List Rm},cn' H vs M->vs.length=M.length
 | [],[],_=>rfl
 |v :: vs,r :: rs,h=>by simp[cn'.len h.2]
 | [],_ :: _,h=>h.elim
 |_ :: _,[],h=>h.elim
theorem cn'.snoc {H:Hp} {v:V} {r:Rm} (hr:d6' H v r):∀{vs:List V} {M:List Rm},cn' H vs M->cn' H (vs++[v]) (M++[r])
 | [],[],_=>⟨hr,trivial⟩
 |v :: vs,r :: rs,h=>⟨h.1,cn'.snoc hr h.2⟩
 | [],_ :: _,h=>h.elim
 |_ :: _,[],h=>h.elim
theorem cn'.get {H:Hp}:∀{vs:List V} {M:List Rm} {i:Nat} {r:Rm},cn' H vs M->M[i]?=some r->∃p,vs[i]?=some (.ref p)/\H p=some (.tup [oV r.1,oV r.2])
 | [],[],i,r,_,e=>by cases e
 |v :: vs,r :: rs,0,r',h,e=>by
  cases e
  obtain⟨p,rfl,hp⟩:=h.1
  exact⟨p,rfl,hp⟩
 |v :: vs,r :: rs,i+1,r',h,e=>cn'.get (i:=i) h.2 (by simpa using e)
 | [],_ :: _,_,_,h,_=>h.elim
 |_ :: _,[],_,_,h,_=>h.elim
def IsM (H:Hp) (a:Addr) (M:List Rm):Prop:=∃vs,H a=some (.tup vs)/\cn' H vs M
theorem IsM.mono {H H':Hp} {a:Addr} {M:List Rm} (t:Tp H H') (h:IsM H a M):IsM H' a M:=by
 obtain⟨vs,h1,h2⟩:=h
 exact⟨vs,t _ _ h1,h2.mono t⟩
def OkR (N:Nat) (r:Rm):Prop:=(∀n,r.1=some n->n<N)/\∀n,r.2=some n->n<N
def OkM (M:List Rm):Prop:=∀r∈M,OkR M.length r
def di' (N0 N1 c:Nat):Sp:=fun vs H Q _=>∃(b:Addr) (n N:Nat),vs=[.ref b,.int N]/\H b=some (dF' b n)/\n<=2 ^ 39/\N0<=N/\N<=N1/\∀(a:Addr) (M:List Rm) (H':Hp),Go c H H'->IsM H' a M->OkM M->M.length=N->Q (.ref a) H'
theorem gz' {C:Rc} (hN:C.N.length=8) (hT:C.fs "_law_take"=some aH'):∀vs H Q E,di' 1 60 400 vs H Q E->tSs C dI' { nx:=fun _ H'=>Q .non H',rt:=Q } (L2.aw' C.N vs) H:=by
 intro vs H Q E h
 obtain⟨b,n,N,rfl,hb,hn,hN0,hN1,q⟩:=h
 rw[aj' hN]
 unfold dI'
 walk_at "sy"
 refine ai' hT ?_
 walk_at "sy"
 refine a7' hb (Go.refl (c:=0)) (by omega) (by decide) (by decide) fun r1 H1 h0 h1 g1 g01=>?_
 walk_at "sy"
 refine⟨by decide,fun l hl=>?_⟩
 have hl0:=g01.free _ hl
 refine d9' (by omega) (by omega) (eV' (fun i σ H'=>(∃x4 x5 x6 x7,σ=[some (.ref b),some (.int N),some (.int (2+r1)),some (.ref l),x4,x5,x6,x7])/\Go (1+4*i) H H'/\∃vs M,H' l=some (.lst vs)/\cn' H' vs M/\vs.length=i/\∀r∈M,OkR N r) ⟨⟨_,_,_,_,rfl⟩,(g01.upd hl0).mono (by omega),[],[],aa',trivial,rfl,fun r hr=>by cases hr⟩ ?_ ?_)
 .rintro i σ H2 hi ⟨⟨x4,x5,x6,x7,rfl⟩,g2,vs,M,hl2,hr2,hlen,hok⟩
  walk_at "sy"
  refine⟨by decide,fun d hd=>?_⟩
  have hd0:=g2.free _ hd
  have hdl:l≠d:=ag' hl2 hd
  refine d9' (by omega) (by omega) (eV' (fun j σ H'=>(∃x6 x7,σ=[some (.ref b),some (.int N),some (.int (2+r1)),some (.ref l),some (.int (0+i)),some (.ref d),x6,x7])/\Go (1+4*i+2*j) H H'/\Tp H2 H'/\H' l=some (.lst vs)/\∃ds:List (Option Nat),H' d=some (.lst (ds.map oV))/\ds.length=j/\∀m,some m∈ds->m<N) ⟨⟨_,_,rfl⟩,g2.upd hd0,fe' hd _,by rw[af' hdl];exact hl2,[],aa',rfl,fun m hm=>by cases hm⟩ ?_ ?_)
  .rintro j σ H3 hj ⟨⟨x6,x7,rfl⟩,g3,t3,hl3,ds,hd3,hdn,hdo⟩
   walk_at "sy"
   refine ai' hT ?_
   walk_at "sy"
   refine a7' hb g3 (by omega) (by omega) (by omega) fun r4 H4 h40 h41 g34 g4=>?_
   have hd4:=g34.lst hd3
   walk_at "sy"
   refine⟨tyL hd4 rfl,⟨by decide,fun p hp=>?_⟩⟩
   have hp0:=g4.free _ hp
   refine ai' hT ?_
   walk_at "sy"
   refine a7' hb (g4.upd hp0) (by omega) (by omega) (by omega) fun r5 H5 h50 h51 g45 g5=>?_
   have hp5:H5 p=some (.lst [.int r4,.non]):=g45.lst aa'
   have hd5:H5 d=some (.lst (ds.map oV)):=g45.lst (by rw[af' (ag' hd4 hp)];exact hd4)
   have hl5:H5 l=some (.lst vs):=g45.lst (by rw[af' (ag' (g34.lst hl3) hp)];exact g34.lst hl3)
   walk_at "sy"
   refine o6' (SqL.of hp5) ?_
   obtain⟨o,eo,hoo⟩:∃o:Option Nat,(if decide (r5=0)=true then V.non else V.int r4)=oV o/\∀m,o=some m->m<N:=by
    split
    .exact⟨none,rfl,fun m hm=>by cases hm⟩
    .exact⟨some r4.toNat,by show _=V.int _;congr 1;omega,fun m hm=>by cases hm;omega⟩
   rw[eo]
   walk_at "sy"
   refine gw' hd5 (by rw[aa];exact ah' (by omega)) ?_
   walk_at "sy"
   refine⟨⟨_,_,rfl⟩,(g5.upd hd0).mono (by omega),?_,by rw[af' hdl];exact hl5,ds++[o],by rw[aa',ax];rfl,by simp[hdn],fun m hm=>?_⟩
   .exact((t3.trans g34.tp).trans ((fe' hp _).trans g45.tp)).trans (iw' hd5 _)
   .rcases aw.mp hm with hm|hm
    .exact hdo m hm
    .exact hoo m (aU.mp hm).symm
  .rintro σ H3 ⟨⟨x6,x7,rfl⟩,g3,t3,hl3,ds,hd3,hdn,hdo⟩
   walk_at "sy"
   refine⟨tyL hl3 rfl,?_⟩
   refine d0' (SqL.of hd3) fun p hp=>?_
   walk_at "sy"
   have hpl:upd H3 p (.tup (ds.map oV)) l=some (.lst vs):=by rw[af' (ag' hl3 hp)];exact hl3
   refine gw' hpl (ah' (by omega)) ?_
   walk_at "sy"
   obtain⟨x,y,rfl⟩:∃x y,ds=[x,y]:=by
    match ds,hdn with
    | [x,y],_=>exact⟨x,y,rfl⟩
   have tp1:Tp H2 (upd (upd H3 p (.tup ([x,y].map oV))) l (.lst (vs++[.ref p]))):=(t3.trans (fe' hp _)).trans (iw' hpl _)
   refine⟨⟨_,_,_,_,rfl⟩,((g3.upd (g3.free _ hp)).upd hl0).mono (by omega),vs++[.ref p],M++[(x,y)],aa',(hr2.mono tp1).snoc ⟨p,rfl,?_⟩,by simp[hlen],fun r hr=>?_⟩
   .rw[af' (fun z=>by subst z;rw[hl3]at hp;cases hp)]
    exact aa'
   .rcases aw.mp hr with hr|hr
    .exact hok r hr
    .have e:r=(x,y):=by simpa using hr
     subst e
     exact⟨fun m hm=>hdo m (by simp[<- hm]),fun m hm=>hdo m (by simp[<- hm])⟩
 .rintro σ H2 ⟨⟨x4,x5,x6,x7,rfl⟩,g2,vs,M,hl2,hr2,hlen,hok⟩
  walk_at "sy"
  refine d0' (SqL.of hl2) fun p hp=>?_
  have hlM:=hr2.len
  have e:M.length=N:=by omega
  exact q p M _ ((g2.upd (g2.free _ hp)).mono (by omega)) ⟨vs,aa',hr2.mono (fe' hp _)⟩ (fun r hr=>by rw[e];exact hok r hr) e
theorem pa' {K:W.Frag} {H:Hp} {Q:VK} {a:Addr} {xs:List V} {k:Nat} (h:H a=some (.lst xs)) (hk:k<=1000) (hz:xs.length*k<=sizeLine) (q:∀p,H p=none->Q (.ref p) (upd H p (.lst (ao k xs).flatten))):eS' K .Mult (.ref a) (.int k) H Q:=by
 refine⟨a,k,xs,rfl,rfl,h,by omega,by omega,by simpa using hz,fun p hp=>?_⟩
 rw[bq]
 exact q p hp
theorem lu' {H:Hp} {R:Hp->Prop} {a:Addr} {xs:List V} {k:Nat} {v:V} (h:H a=some (.lst xs)) (hk:k<xs.length) (q:R (upd H a (.lst (xs.set k v)))):dw' (.ref a) (.int k) v H R:=by
 refine⟨a,xs,k,k,rfl,rfl,h,?_,q⟩
 unfold ixN
 rw[if_pos (by omega),if_pos (by omega)]
 simp
def nV (n:Nat):V:=.int n
theorem ix' {H:Hp} {P:Rm->Prop}:∀{vs:List V},(∀m,m<vs.length->∃r v,P r/\vs[m]?=some v/\d6' H v r)->∃M,cn' H vs M/\∀r∈M,P r
 | [],_=>⟨[],trivial,fun r hr=>by cases hr⟩
 |v :: vs,h=>by
  obtain⟨r,v',ho,e,hr⟩:=h 0 (by simp)
  cases e
  obtain⟨M,h1,h2⟩:=ix' (vs:=vs) fun m hm=>by
   obtain⟨r,v,h1,h2,h3⟩:=h (m+1) (by simpa using hm)
   exact⟨r,v,h1,by simpa using h2,h3⟩
  exact⟨r :: M,⟨hr,h1⟩,fun x hx=>by
   rcases ak.mp hx with rfl|hx
   .exact ho
   .exact h2 x hx⟩
def OkD (N:Nat) (r:Rm):Prop:=OkR N r/\(r.1=none->r.2≠none)
def u8':Sp:=fun vs H Q _=>∃(b:Addr) (n N:Nat),vs=[.ref b,.int N]/\H b=some (dF' b n)/\n<=2 ^ 39/\1<=N/\N<=60/\∀(a:Addr) (M:List Rm) (H':Hp),Go 400 H H'->IsM H' a M->OkM M->M.length=N->(∀r∈M,r.1=none->r.2≠none)->Q (.ref a) H'
theorem i5' {C:Rc} (hN:C.N.length=9) (hT:C.fs "_law_take"=some aH'):∀vs H Q E,u8' vs H Q E->tSs C a4' { nx:=fun _ H'=>Q .non H',rt:=Q } (L2.aw' C.N vs) H:=by
 intro vs H Q E h
 obtain⟨b,n,N,rfl,hb,hn,hN0,hN1,q⟩:=h
 rw[aj' hN]
 unfold a4'
 walk_at "sy"
 refine⟨by decide,fun l hl=>?_⟩
 refine d9' (by omega) (by omega) (eV' (fun i σ H'=>(∃x3 x4 x5 x6 x7 x8,σ=[some (.ref b),some (.int N),some (.ref l),x3,x4,x5,x6,x7,x8])/\Go i H H'/\∃os:List Nat,H' l=some (.lst (os.map nV))/\os.length=i/\(∀m∈os,m<N)/\∀m,m<i->m∈os) ⟨⟨_,_,_,_,_,_,rfl⟩,(Go.refl (c:=0)).upd hl,[],aa',rfl,(fun m hm=>by cases hm),fun m hm=>by omega⟩ ?_ ?_)
 .rintro i σ H1 hi ⟨⟨x3,x4,x5,x6,x7,x8,rfl⟩,g1,os,hl1,hlen,hlt,hall⟩
  walk_at "sy"
  refine⟨tyL hl1 rfl,ai' hT ?_⟩
  walk_at "sy"
  refine a7' hb g1 (by omega) (by omega) (by omega) fun r2 H2 h20 h21 g12 g2=>?_
  have hl2:=g12.lst hl1
  walk_at "sy"
  obtain⟨j,rfl⟩:=aM h20
  refine uM' hl2 (by rw[aa];exact ah' (by omega)) (by rw[aa];omega) ?_
  walk_at "sy"
  refine⟨⟨_,_,_,_,_,_,rfl⟩,g2.upd hl,os.take j++i :: os.drop j,?_,?_,?_,?_⟩
  .rw[aa',ax,aH,List.map_take,List.map_drop]
   simp[nV]
  .simp;omega
  .intro m hm
   rcases aw.mp hm with hm|hm
   .exact hlt m (List.mem_of_mem_take hm)
   .rcases ak.mp hm with rfl|hm
    .omega
    .exact hlt m (cv hm)
  .intro m hm
   by_cases e:m=i
   .subst e;simp
   .have:=hall m (by omega)
    rw[<- bf j os]at this
    rcases aw.mp this with h|h
    .exact aw.mpr (.inl h)
    .exact aw.mpr (.inr (ay _ h))
 rintro σ H1 ⟨⟨x3,x4,x5,x6,x7,x8,rfl⟩,g1,os,hl1,hlen,hlt,hall⟩
 rw[bq]at g1 hlen hall
 walk_at "sy"
 refine⟨by decide,fun p hp=>?_⟩
 have hpl:l≠p:=ag' hl1 hp
 refine pa' aa' (by omega) (bu (ah' (by simp;omega))) fun w hw=>?_
 have gw:=(g1.upd (o:=.lst [.non]) (g1.free _ hp)).upd (o:=.lst (ao N [V.non]).flatten) ((g1.upd (o:=.lst [.non]) (g1.free _ hp)).free _ hw)
 have hlw:upd (upd H1 p (.lst [.non])) w (.lst (ao N [V.non]).flatten) l=some (.lst (os.map nV)):=ae' hw _ _ _ (ae' hp _ _ _ hl1)
 have hww:upd (upd H1 p (.lst [.non])) w (.lst (ao N [V.non]).flatten) w=some (.lst (ao N V.non)):=by
  rw[aa'];simp
 have hw0:H w=none:=(g1.upd (o:=.lst [.non]) (g1.free _ hp)).free _ hw
 have hwl:l≠w:=ag' (ae' hp (.lst [.non]) _ _ hl1) hw
 generalize upd (upd H1 p (.lst [.non])) w (.lst (ao N [V.non]).flatten)=H2 at gw hlw hww
 walk_at "sy"
 refine io' (SqL.of hlw) (uB' (xs:=os.map nV) (fun t σ H'=>(∃x3 x5 x6 x7 x8,σ=[some (.ref b),some (.int N),some (.ref l),x3,some (.ref w),x5,x6,x7,x8])/\Go (N+3*t) H H'/\H' l=some (.lst (os.map nV))/\∃ws,H' w=some (.lst ws)/\ws.length=N/\∀m∈os.take t,∃r v,OkD N r/\ws[m]?=some v/\d6' H' v r) ⟨⟨_,_,_,_,_,rfl⟩,gw.mono (by omega),hlw,_,hww,by simp,fun m hm=>by cases hm⟩ (fun t σ H' _ pv=>SqL.of pv.2.2.1) ?_ ?_)
 .rintro t x σ H3 e hx he ⟨⟨x3,x5,x6,x7,x8,rfl⟩,g3,hl3,ws,hw3,hwn,hws⟩
  rw[ap]at hx
  cases eo:os[t]? with
  |none=>rw[eo]at hx;cases hx
  |some room=>
   rw[eo]at hx
   cases hx
   have ht:=al' eo
   refine dG' (SqT.of aa') ?_
   have s4:=ae' he (.tup [.int t,nV room])
   have g4:=g3.upd (o:=.tup [.int t,nV room]) (g3.free _ he)
   generalize upd H3 e (.tup [.int t,nV room])=H4 at s4 g4
   have hl4:=s4 _ _ hl3
   walk_at "sy"
   refine lh' (SqL.of hl4) fun c hc=>?_
   rw[show(1:Int)=((1:Nat):Int) from rfl,uN']
   have s5:=ae' hc (.lst ((os.map nV).take 1))
   have g5:=g4.upd (o:=.lst ((os.map nV).take 1)) (g4.free _ hc)
   have hc5:upd H4 c (.lst ((os.map nV).take 1)) c=some (.lst ((os.map nV).take 1)):=aa'
   generalize upd H4 c (.lst ((os.map nV).take 1))=H5 at s5 g5 hc5
   walk_at "sy"
   refine iq' (s5 _ _ hl4) hc5 (bu (ah' (by simp;omega))) fun d hd=>?_
   have s6:=ae' hd (.lst (os.map nV++(os.map nV).take 1))
   have g6:=g5.upd (o:=.lst (os.map nV++(os.map nV).take 1)) (g5.free _ hd)
   have hd6:upd H5 d (.lst (os.map nV++(os.map nV).take 1)) d=some (.lst ((os++os.take 1).map nV)):=by rw[aa',ax,List.map_take]
   generalize upd H5 d (.lst (os.map nV++(os.map nV).take 1))=H6 at s6 g6 hd6
   obtain⟨on,eon,hon⟩:∃on,(os++os.take 1)[t+1]?=some on/\on<N:=by
    have hl:t+1<(os++os.take 1).length:=by simp;omega
    refine⟨_,ab hl,?_⟩
    rcases aw.mp (List.getElem_mem hl)with h|h
    .exact hlt _ h
    .exact hlt _ (List.mem_of_mem_take h)
   walk_at "sy"
   refine aV' (SqL.of hd6) (v:=nV on) (aY' (j:=t+1) (by rw[ap,eon];rfl)) ?_
   walk_at "sy"
   refine ai' hT ?_
   walk_at "sy"
   refine a7' hb g6 (by omega) (by omega) (by omega) fun r7 H7 h70 h71 g67 g7=>?_
   walk_at "sy"
   refine⟨by decide,fun f hf=>?_⟩
   refine ai' hT ?_
   walk_at "sy"
   refine a7' hb (g7.upd (o:=.lst [.int r7,.non]) (g7.free _ hf)) (by omega) (by omega) (by omega) fun r8 H8 h80 h81 g78 g8=>?_
   have hf8:H8 f=some (.lst [.int r7,.non]):=g78.lst aa'
   have keep8:∀a xs,H3 a=some (.lst xs)->H8 a=some (.lst xs):=fun a xs h=>g78.lst (ae' hf _ _ _ (g67.lst (s6 _ _ (s5 _ _ (s4 _ _ h)))))
   have tp8:Tp H3 H8:=(((ao' s4).trans (ao' s5)).trans (ao' s6)).trans (g67.tp.trans ((fe' hf _).trans g78.tp))
   walk_at "sy"
   refine o6' (SqL.of hf8) ?_
   obtain⟨o,eo2,hoo⟩:∃o:Option Nat,(if decide (r8=0)=true then V.non else V.int r7)=oV o/\∀m,o=some m->m<N:=by
    split
    .exact⟨none,rfl,fun m hm=>by cases hm⟩
    .exact⟨some r7.toNat,by show _=V.int _;congr 1;omega,fun m hm=>by cases hm;omega⟩
   rw[eo2]
   walk_at "sy"
   refine⟨by decide,fun p1 hp1=>?_⟩
   have s9:=ae' hp1 (.tup [nV on,oV o])
   have g9:=g8.upd (o:=.tup [nV on,oV o]) (g8.free _ hp1)
   have h9:upd H8 p1 (.tup [nV on,oV o]) p1=some (.tup [nV on,oV o]):=aa'
   generalize upd H8 p1 (.tup [nV on,oV o])=H9 at s9 g9 h9
   refine⟨by decide,fun p2 hp2=>?_⟩
   have s10:=ae' hp2 (.tup [oV o,nV on])
   have g10:=g9.upd (o:=.tup [oV o,nV on]) (g9.free _ hp2)
   have h10:upd H9 p2 (.tup [oV o,nV on]) p2=some (.tup [oV o,nV on]):=aa'
   generalize upd H9 p2 (.tup [oV o,nV on])=H10 at s10 g10 h10
   refine⟨by decide,fun p3 hp3=>?_⟩
   have s11:=ae' hp3 (.lst [.ref p1,.ref p2])
   have g11:=g10.upd (o:=.lst [.ref p1,.ref p2]) (g10.free _ hp3)
   have h11:upd H10 p3 (.lst [.ref p1,.ref p2]) p3=some (.lst [.ref p1,.ref p2]):=aa'
   generalize upd H10 p3 (.lst [.ref p1,.ref p2])=H11 at s11 g11 h11
   refine ai' hT ?_
   walk_at "sy"
   refine a7' hb g11 (by omega) (by omega) (by omega) fun r12 H12 h120 h121 g1112 g12=>?_
   have tpx:Tp H3 H12:=(((tp8.trans (ao' s9)).trans (ao' s10)).trans (ao' s11)).trans g1112.tp
   have hl12:H12 l=some (.lst (os.map nV)):=g1112.lst (s11 _ _ (s10 _ _ (s9 _ _ (keep8 _ _ hl3))))
   have hw12:H12 w=some (.lst ws):=g1112.lst (s11 _ _ (s10 _ _ (s9 _ _ (keep8 _ _ hw3))))
   have h1:H12 p1=some (.tup [nV on,oV o]):=g1112.tup (s11 _ _ (s10 _ _ h9))
   have h2:H12 p2=some (.tup [oV o,nV on]):=g1112.tup (s11 _ _ h10)
   walk_at "sy"
   have hroom:room<N:=hlt room (az eo)
   have fin:∀(pz:Addr) (rz:Rm),OkD N rz->H12 pz=some (.tup [oV rz.1,oV rz.2])->dw' (.ref w) (nV room) (.ref pz) H12 (fun H'=>(∃x3' x5 x6 x7 x8,[some (V.ref b),some (V.int N),some (V.ref l),x3,some (V.ref w),some (V.int t),some (nV room),some (nV on),some (oV o)]=[some (.ref b),some (.int N),some (.ref l),x3',some (.ref w),x5,x6,x7,x8])/\Go (N+3*(t+1)) H H'/\H' l=some (.lst (os.map nV))/\∃ws,H' w=some (.lst ws)/\ws.length=N/\∀m∈os.take (t+1),∃r v,OkD N r/\ws[m]?=some v/\d6' H' v r):=by
    intro pz rz hrz hpz
    refine lu' hw12 (by omega) ⟨⟨_,_,_,_,_,rfl⟩,(g12.upd hw0).mono (by omega),by rw[af' hwl];exact hl12,_,aa',by rw[List.length_set];exact hwn,fun m hm=>?_⟩
    by_cases em:m=room
    .subst em
     exact⟨rz,.ref pz,hrz,by rw[List.getElem?_set_self (by omega)],pz,rfl,iw' hw12 _ _ _ hpz⟩
    .rw[aW,eo]at hm
     rcases aw.mp hm with hm|hm
     .obtain⟨r,v,q1,q2,q3⟩:=hws m hm
      exact⟨r,v,q1,by rw[bE (Ne.symm em)];exact q2,q3.mono (tpx.trans (iw' hw12 _))⟩
     .exact absurd (by simpa using hm) em
   have h121':r12=0\/r12=1:=by omega
   rcases h121' with rfl|rfl
   .refine aV' (SqL.of (g1112.lst h11)) (v:=.ref p1) rfl ?_
    walk_at "sy"
    exact fin p1 (some on,o) ⟨⟨fun m hm=>by cases hm;exact hon,hoo⟩,fun z=>by cases z⟩ h1
   .refine aV' (SqL.of (g1112.lst h11)) (v:=.ref p2) rfl ?_
    walk_at "sy"
    exact fin p2 (o,some on) ⟨⟨hoo,fun m hm=>by cases hm;exact hon⟩,fun _ z=>by cases z⟩ h2
 .rintro σ H3 ⟨⟨x3,x5,x6,x7,x8,rfl⟩,g3,hl3,ws,hw3,hwn,hws⟩
  walk_at "sy"
  refine d0' (SqL.of hw3) fun p hp=>?_
  rw[aa,<- aa (f:=nV),aa,aT]at hws
  rw[aa]at g3
  obtain⟨M,hM,hO⟩:=ix' (P:=OkD N) (vs:=ws) (H:=H3) fun m hm=>hws m (hall m (by omega))
  have e:M.length=N:=by rw[<- hM.len];exact hwn
  exact q p M _ ((g3.upd (g3.free _ hp)).mono (by omega)) ⟨ws,aa',hM.mono (fe' hp _)⟩ (fun r hr=>by rw[e];exact(hO r hr).1) e fun r hr=>(hO r hr).2
theorem lv' {C:Rc} (hN:C.N.length=9) (hT:C.fs "_law_take"=some aH'):∀vs H Q E,di' 1 60 400 vs H Q E->tSs C a4' { nx:=fun _ H'=>Q .non H',rt:=Q } (L2.aw' C.N vs) H:=fun vs H Q E ⟨b,n,N,h1,h2,h3,h4,h5,q⟩=>i5' hN hT vs H Q E ⟨b,n,N,h1,h2,h3,h4,h5,fun a M H' g i o l _=>q a M H' g i o l⟩
end LW
namespace SR
open PySem PySem.Spec PyProof.Rows L2 R3 LW
section
variable {K:W.Frag} {H:Hp} {Q:VK}
end
theorem lw' {n:Nat} (h:n<=1000):n<=sizeLine:=bu (ah' h)
def tn (l:List Bool) (n:Nat):List Bool:=(l.take n).map (!·)++l.drop n
theorem zC' {α:Type} {x:α} {r:List α}:atI (x :: r) 0=some x:=aY' (xs:=x :: r) (j:=0) rfl
theorem lx' {m:Nat} {n:Int} (h:n=m):(1:Int)*2 ^ n.toNat=((2 ^ m:Nat):Int):=by
 subst h
 rw[Int.one_mul,bq]
 norm_cast
end SR
namespace CK
open PySem PySem.Spec PyProof.Rows L2 R3 LW SR
def bC':Css:=(.cons (.ret (.and (.blt .isinstance (.cons (.var 0) (.cons (.ty "int") .nil))) (.not (.blt .isinstance (.cons (.var 0) (.cons (.ty "bool") .nil))))))
  .nil)
def bD':Css:=(.cons (.ret (.and (.call "is_number" (.cons (.var 0) .nil)) (.chn .LtE .LtE (.var 1) (.var 0) (.var 2))))
  .nil)
def cu':Css:=(.cons (.ret (.and (.blt .isinstance (.cons (.var 0) (.cons (.ty "tuple") .nil))) (.cmp .Eq (.blt .len (.cons (.var 0) .nil)) (.int 2))))
  .nil)
def bE':Css:=(.cons (.ret (.blt .isinstance (.cons (.var 0) (.cons (.tup (.cons (.ty "list") (.cons (.ty "tuple") .nil))) .nil))))
  .nil)
def be':Css:=(.cons (.ret (.and (.call "is_listed" (.cons (.var 0) .nil)) (.and (.cmp .Eq (.blt .len (.cons (.var 0) .nil)) (.var 1)) (.blt .all (.cons (.comp (.call "is_number" (.cons (.var 2) .nil)) [2] (.name 2) (.val (.var 0)) .none .nil) .nil)))))
  .nil)
def cv':Css:=(.cons (.ret (.or (.cmp .Is (.var 0) .non) (.call "is_within" (.cons (.var 0) (.cons (.int 0) (.cons (.bin .Sub (.var 1) (.int 1)) .nil))))))
  .nil)
def cw':Css:=(.cons (.ret (.and (.call "is_pair" (.cons (.var 0) .nil)) (.and (.call "is_lead" (.cons (.idx (.var 0) (.int 0)) (.cons (.var 1) .nil))) (.call "is_lead" (.cons (.idx (.var 0) (.int 1)) (.cons (.var 1) .nil))))))
  .nil)
def bm':Css:=(.cons (.ite (.not (.val (.blt .isinstance (.cons (.var 0) (.cons (.ty "tuple") .nil))))) (.cons (.ret (.bl false))
  .nil) .nil)
  (.cons (.ret (.blt .all (.cons (.comp (.call "is_room" (.cons (.var 1) (.cons (.blt .len (.cons (.var 0) .nil)) .nil))) [1] (.name 1) (.val (.var 0)) .none .nil) .nil)))
  .nil))
theorem ly' {H H':Hp} (s:ax' H H') {v:V} {T:String} (h:bj' H v=some T):bj' H' v=some T:=by
 cases v with
 |ref a=>
  simp only[bj']at h ⊢
  cases e:H a with
  |none=>rw[e]at h;cases h
  |some o=>rw[e]at h;rw[s _ _ e];exact h
 |_=>exact h
def Val (H:Hp) (v:V):Prop:=(∃i,v=.int i)\/((∀i,v≠.int i)/\∃T∈["NoneType","bool","str","list","tuple"],bj' H v=some T)
theorem Val.mono {H H':Hp} (s:ax' H H') {v:V} (h:Val H v):Val H' v:=by
 rcases h with h|⟨h0,T,hT,h⟩
 .exact .inl h
 .exact .inr ⟨h0,T,hT,ly' s h⟩
def isN:V->Bool
 | .int _=>true
 |_=>false
theorem lz' {v:V} (h:∀i,v≠.int i):isN v=false:=by
 cases v with
 |int i=>exact absurd rfl (h i)
 |_=>rfl
def bU':Sp:=fun vs H Q _=>∃v,vs=[v]/\Val H v/\Q (.bl (isN v)) H
theorem i6' {C:Rc} (hN:C.N.length=1):∀vs H Q E,bU' vs H Q E->tSs C bC' { nx:=fun _ H'=>Q .non H',rt:=Q } (L2.aw' C.N vs) H:=by
 intro vs H Q E h
 obtain⟨v,rfl,hv,q⟩:=h
 rw[aj' hN]
 unfold bC'
 walk_at "y"
 rcases hv with⟨i,rfl⟩|⟨h0,T,hT,hv⟩
 .refine fF' (T:="int") rfl (k:=true) rfl (by decide) (by decide) ?_
  walk_at "y"
  refine fF' (T:="int") rfl (k:=false) rfl (by decide) (by decide) ?_
  walk_at "y"
  exact q
 .rw[lz' h0]at q
  simp only[ak,av,or_false]at hT
  rcases hT with rfl|rfl|rfl|rfl|rfl
  .refine fF' hv (k:=false) rfl (by decide) (by decide) ?_
   walk_at "y"
   exact q
  .refine fF' hv (k:=true) rfl (by decide) (by decide) ?_
   walk_at "y"
   refine fF' hv (k:=true) rfl (by decide) (by decide) ?_
   walk_at "y"
   exact q
  .refine fF' hv (k:=false) rfl (by decide) (by decide) ?_
   walk_at "y"
   exact q
  .refine fF' hv (k:=false) rfl (by decide) (by decide) ?_
   walk_at "y"
   exact q
  .refine fF' hv (k:=false) rfl (by decide) (by decide) ?_
   walk_at "y"
   exact q
def nO':Sp:=fun vs H Q _=>∃(i lo hi:Int),vs=[.int i,.int lo,.int hi]/\lo<=i/\i<=hi/\Q (.bl true) H
def gA':Sp:=fun vs H Q _=>∃p x y,vs=[.ref p]/\H p=some (.tup [x,y])/\Q (.bl true) H
theorem lA' {C:Rc} (hN:C.N.length=1):∀vs H Q E,gA' vs H Q E->tSs C cu' { nx:=fun _ H'=>Q .non H',rt:=Q } (L2.aw' C.N vs) H:=by
 intro vs H Q E h
 obtain⟨p,x,y,rfl,hp,q⟩:=h
 rw[aj' hN]
 unfold cu'
 walk_at "y"
 refine fF' (T:="tuple") (by simp only[bj',hp]) (k:=true) rfl (by decide) (by decide) ?_
 walk_at "y"
 refine cc' (SqT.of hp) ?_
 walk_at "y"
 exact q
def gB':Sp:=fun vs H Q _=>∃(o:Option Nat) (N:Nat),vs=[oV o,.int N]/\(∀x,o=some x->x<N)/\Q (.bl true) H
def gC':Sp:=fun vs H Q _=>∃(p:Addr) (r:Rm) (N:Nat),vs=[.ref p,.int N]/\H p=some (.tup [oV r.1,oV r.2])/\OkR N r/\Q (.bl true) H
theorem lB' {C:Rc} (hN:C.N.length=2) (hP:C.fs "is_pair"=some gA') (hL:C.fs "is_lead"=some gB'):∀vs H Q E,gC' vs H Q E->tSs C cw' { nx:=fun _ H'=>Q .non H',rt:=Q } (L2.aw' C.N vs) H:=by
 intro vs H Q E h
 obtain⟨p,r,N,rfl,hp,hr,q⟩:=h
 rw[aj' hN]
 unfold cw'
 walk_at "y"
 refine ai' hP ?_
 walk_at "y"
 refine⟨p,_,_,rfl,hp,?_⟩
 walk_at "y"
 refine ai' hL ?_
 walk_at "y"
 refine cm' (SqT.of hp) (v:=oV r.1) rfl ?_
 walk_at "y"
 refine⟨r.1,N,rfl,hr.1,?_⟩
 walk_at "y"
 refine ai' hL ?_
 walk_at "y"
 refine cm' (SqT.of hp) (v:=oV r.2) rfl ?_
 walk_at "y"
 refine⟨r.2,N,rfl,hr.2,?_⟩
 walk_at "y"
 exact q
def fG':Sp:=fun vs H Q _=>∃(a:Addr) (M:List Rm),vs=[.ref a]/\IsM H a M/\OkM M/\M.length<=500/\∀H',ax' H H'->Q (.bl true) H'
theorem nP' {C:Rc} (hN:C.N.length=2) (hR:C.fs "is_room"=some gC'):∀vs H Q E,fG' vs H Q E->tSs C bm' { nx:=fun _ H'=>Q .non H',rt:=Q } (L2.aw' C.N vs) H:=by
 intro vs H Q E h
 obtain⟨a,M,rfl,hM,hO,hl,q⟩:=h
 obtain⟨mv,hmv,hmr⟩:=id hM
 have hml:=hmr.len
 rw[aj' hN]
 unfold bm'
 walk_at "y"
 refine fF' (T:="tuple") (by simp only[bj',hmv]) (k:=true) rfl (by decide) (by decide) ?_
 walk_at "y"
 refine aU' (SqT.of hmv) (dh' (vs:=mv) (fun i xs H'=>xs=(ao i true).map V.bl/\i<=M.length/\H'=H) ⟨rfl,aE _,rfl⟩ (fun i xs H' pv=>SqT.of (by rw[pv.2.2];exact hmv)) ?_ ?_)
 .rintro i xs H' x R hx ⟨rfl,hi,rfl⟩ hR'
  have hi':i<M.length:=by rw[<- hml];exact al' hx
  obtain⟨pr,epr,hpr⟩:=hmr.get (ab hi')
  rw[hx]at epr
  cases epr
  walk_at "y"
  refine ai' hR ?_
  walk_at "y"
  refine cc' (SqT.of hmv) ?_
  walk_at "y"
  refine⟨pr,M[i],M.length,by rw[hml],hpr,hO _ (List.getElem_mem hi'),?_⟩
  walk_at "y"
  refine⟨by rw[aa,bc];exact ah' (by omega),hR' _ _ ⟨?_,by omega,rfl⟩⟩
  rw[cw,ax]
  rfl
 .rintro xs H' ⟨rfl,_,rfl⟩ p hp
  walk_at "y"
  refine ip' (SqL.of aa') ?_
  have e:(ao mv.length true).all id=true:=by simp
  rw[e]
  exact q _ (ae' hp _)
def Lt (H:Hp) (a:Addr) (vs:List V):Prop:=H a=some (.lst vs)\/H a=some (.tup vs)
theorem Lt.mono {H H':Hp} (s:ax' H H') {a:Addr} {vs:List V} (h:Lt H a vs):Lt H' a vs:=by
 rcases h with h|h
 .exact .inl (s _ _ h)
 .exact .inr (s _ _ h)
theorem nQ' {C:Rc} {elt:Ce} {own:List Nat} {t:Ct} {q:Cqo} {σ:L2.St} {H:Hp} {Q:VK} {a:Addr} {vs:List V} (hk:Lt H a vs) (Pv:Nat->List V->Hp->Prop) (h0:Pv 0 [] H) (hl:∀i xs H',Pv i xs H'->ax' H H')
  (hs:∀i xs H x (R:List V->Hp->Prop),vs[i]?=some x->Pv i xs H->(∀ys H2,Pv (i+1) ys H2->R ys H2)->tG C t x (clr own σ) H (kCG C elt q xs R)) (hd:∀xs H,Pv vs.length xs H->mo' Q xs H):kIv C (i3' C elt own t q σ Q) (.ref a) H:=by
 rcases hk with hk|hk
 .exact aT' (SqL.of hk) (gv' Pv h0 (fun i xs H' p=>SqL.of (hl i xs H' p _ _ hk)) hs hd)
 .exact aU' (SqT.of hk) (dh' Pv h0 (fun i xs H' p=>SqT.of (hl i xs H' p _ _ hk)) hs hd)
theorem u9' {K:W.Frag} {H:Hp} {Q:VK} {a:Addr} {vs:List V} (hk:Lt H a vs) (q:Q (.int vs.length) H):cr' K .len [.ref a] H Q:=by
 rcases hk with hk|hk
 .exact dm' (SqL.of hk) q
 .exact cc' (SqT.of hk) q
theorem hH' {K:W.Frag} {H:Hp} {Q:VK} {a:Addr} {vs:List V} (hk:Lt H a vs) (q:∀p,H p=none->Q (.ref p) (upd H p (.lst vs))):cr' K .list [.ref a] H Q:=by
 rcases hk with hk|hk
 .exact fC' (SqL.of hk) q
 .exact nw' (SqT.of hk) q
theorem nR' {K:W.Frag} {H:Hp} {Q:VK} {a:Addr} {vs:List V} {i:Int} {v:V} (hk:Lt H a vs) (e:atI vs i=some v) (q:Q v H):e0' K (.ref a) (.int i) H Q\/gR' K (.ref a) (.int i) H Q:=by
 rcases hk with hk|hk
 .exact aV' (SqL.of hk) e q
 .exact cm' (SqT.of hk) e q
theorem Lt.ty {H:Hp} {a:Addr} {vs:List V} (hk:Lt H a vs):∃T,bj' H (.ref a)=some T/\(T="list"\/T="tuple"):=by
 rcases hk with hk|hk
 .exact⟨"list",by simp only[bj',hk],.inl rfl⟩
 .exact⟨"tuple",by simp only[bj',hk],.inr rfl⟩
def Tl (H:Hp) (v:V):Option (List V)->Prop
 |some vs=>∃a,v=.ref a/\Lt H a vs/\(∀x∈vs,Val H x)/\vs.length<=61
 |none=>∃T∈["NoneType","bool","int","str"],bj' H v=some T
theorem Tl.mono {H H':Hp} (s:ax' H H') {v:V} {o:Option (List V)} (h:Tl H v o):Tl H' v o:=by
 cases o with
 |none=>
  obtain⟨T,hT,h⟩:=h
  exact⟨T,hT,ly' s h⟩
 |some vs=>
  obtain⟨a,e,h1,h2,h3⟩:=h
  exact⟨a,e,h1.mono s,fun x hx=>(h2 x hx).mono s,h3⟩
theorem gD' {K:W.Frag} {H:Hp} {Q:VK} {v:V} {o:Option (List V)} {p:Addr} (h:Tl H v o) (hp:H p=some (.tup [.ty "list",.ty "tuple"])) (q:Q (.bl o.isSome) H):cr' K .isinstance [v,.ref p] H Q:=by
 cases o with
 |none=>
  obtain⟨T,hT,h⟩:=h
  simp only[ak,av,or_false]at hT
  rcases hT with rfl|rfl|rfl|rfl<;>exact yX' h hp (k:=false) rfl (by decide) (by decide) (by decide) q
 |some vs=>
  obtain⟨a,rfl,h1,_⟩:=h
  obtain⟨T,hT,h⟩:=h1.ty
  rcases h with rfl|rfl<;>exact yX' hT hp (k:=true) rfl (by decide) (by decide) (by decide) q
def lC':Sp:=fun vs H Q _=>∃v o,vs=[v]/\Tl H v o/\∀H',ax' H H'->Q (.bl o.isSome) H'
theorem nS' {C:Rc} (hN:C.N.length=1):∀vs H Q E,lC' vs H Q E->tSs C bE' { nx:=fun _ H'=>Q .non H',rt:=Q } (L2.aw' C.N vs) H:=by
 intro vs H Q E h
 obtain⟨v,o,rfl,hv,q⟩:=h
 rw[aj' hN]
 unfold bE'
 walk_at "y"
 refine⟨by decide,fun p hp=>?_⟩
 have s:=ae' hp (.tup [.ty "list",.ty "tuple"])
 exact gD' (hv.mono s) aa' (q _ s)
def arN (n:Int):Option (List V)->Bool
 |some vs=>decide ((vs.length:Int)=n)&&vs.all isN
 |none=>false
def dJ':Sp:=fun vs H Q _=>∃v n o,vs=[v,.int n]/\Tl H v o/\∀H',ax' H H'->Q (.bl (arN n o)) H'
theorem lD' {C:Rc} (hN:C.N.length=3) (hL:C.fs "is_listed"=some lC') (hI:C.fs "is_number"=some bU'):∀vs H Q E,dJ' vs H Q E->tSs C be' { nx:=fun _ H'=>Q .non H',rt:=Q } (L2.aw' C.N vs) H:=by
 intro vs H Q E h
 obtain⟨v,n,o,rfl,hv,q⟩:=h
 rw[aj' hN]
 unfold be'
 walk_at "y"
 refine ai' hL ?_
 walk_at "y"
 refine⟨v,o,rfl,hv,fun H1 s1=>?_⟩
 have hv1:=hv.mono s1
 cases o with
 |none=>
  simp only[Option.isSome]
  walk_at "y"
  exact q H1 s1
 |some vs=>
  obtain⟨a,rfl,hk,hvs,hz⟩:=hv1
  simp only[Option.isSome]
  walk_at "y"
  refine u9' hk ?_
  walk_at "y"
  simp only[arN]at q
  by_cases hn:(vs.length:Int)=n
  .rw[decide_eq_true hn,Bool.true_and]at q
   rw[decide_eq_true hn]
   walk_at "y"
   refine nQ' hk (fun i xs H'=>xs=((vs.take i).map isN).map V.bl/\i<=vs.length/\H'=H1) ⟨rfl,aE _,rfl⟩ (fun i xs H' pv=>by rw[pv.2.2];exact ax'.refl _) ?_ ?_
   .rintro i xs H' x R hx ⟨rfl,hi,rfl⟩ hR
    have hi':=al' hx
    walk_at "y"
    refine ai' hI ?_
    walk_at "y"
    refine⟨x,rfl,hvs x (az hx),?_⟩
    walk_at "y"
    refine⟨by simp;exact ah' (by omega),hR _ _ ⟨?_,by omega,rfl⟩⟩
    rw[aW,hx,ax,ax]
    rfl
   .rintro xs H' ⟨rfl,_,rfl⟩ p hp
    walk_at "y"
    refine ip' (SqL.of aa') ?_
    rw[aT]
    rw[show(vs.map isN).all id=vs.all isN by rw[List.all_map];rfl]
    exact q _ (s1.trans (ae' hp _))
  .rw[decide_eq_false hn,Bool.false_and]at q
   rw[decide_eq_false hn]
   walk_at "y"
   exact q H1 s1
end CK
namespace LW
open PySem PySem.Spec PyProof.Rows L2 R3
def stp (M:List Rm) (r:Nat) (c:Bool):Option Nat:=match M[r]? with
 |some rm=>if c then rm.2 else rm.1
 |none=>none
theorem ff' {M:List Rm} (hM:OkM M) {r:Nat} {c:Bool} {n:Nat} (h:stp M r c=some n):n<M.length:=by
 unfold stp at h
 cases e:M[r]? with
 |none=>rw[e]at h;cases h
 |some rm=>
  rw[e]at h
  have:=hM rm (az e)
  cases c
  .exact this.1 n h
  .exact this.2 n h
theorem hI' {C:Rc} {H:Hp} {a:Addr} {M:List Rm} {r:Nat} {c:Bool} {Q:VK} (hM:IsM H a M) (hr:r<M.length) (q:∀p,(∀Q':VK,Q' (oV (stp M r c)) H->e0' C.K (.ref p) (.int (if c then 1 else 0)) H Q'\/gR' C.K (.ref p) (.int (if c then 1 else 0)) H Q')->Q (.ref p) H):e0' C.K (.ref a) (.int r) H Q\/gR' C.K (.ref a) (.int r) H Q:=by
 obtain⟨vs,ha,hv⟩:=hM
 obtain⟨p,hp,hpt⟩:=hv.get (ab hr)
 refine cm' (SqT.of ha) (v:=.ref p) (aY' hp) (q p fun Q' q'=>?_)
 refine qL' (SqT.of hpt) ?_
 have e:stp M r c=if c then M[r].2 else M[r].1:=by unfold stp;rw[ab hr]
 rw[e]at q'
 cases c<;>exact q'
end LW
namespace LW
open PySem PySem.Spec PyProof.Rows L2 R3
def bn':Css:=(.cons (.asg (.name 4) (.idx (.idx (.var 0) (.var 2)) (.blt .int (.cons (.var 3) .nil))))
  (.cons (.ret (.ife (.cmp .Is (.var 4) .non) (.int 0) (.idx (.var 1) (.var 4))))
  .nil))
def b4':Css:=(.cons (.ret (.comp (.bin .Add (.call "behind_bit" (.cons (.var 0) (.cons (.var 1) (.cons (.var 2) (.cons (.str "0") .nil))))) (.call "behind_bit" (.cons (.var 0) (.cons (.var 1) (.cons (.var 2) (.cons (.str "1") .nil)))))) [2] (.name 2) (.range1 (.blt .len (.cons (.var 0) .nil))) .none .nil))
  .nil)
def ow (f:Nat->Nat):Option Nat->Nat
 |none=>0
 |some m=>f m
def wy (M:List Rm) (g:Option Nat):Nat->Nat->Nat
 |0,r=>if g=none\/g=some r then 1 else 0
 |n+1,r=>ow (wy M g n) (stp M r false)+ow (wy M g n) (stp M r true)
def wyL (M:List Rm) (g:Option Nat) (n:Nat):List Int:=(aA M.length).map fun r=>((wy M g n r:Nat):Int)
def oi (ns:List Int):Option Nat->Int
 |none=>0
 |some m=>ns.getD m 0
def wsL (M:List Rm) (ns:List Int) (k:Nat):List Int:=(aA k).map fun r=>oi ns (stp M r false)+oi ns (stp M r true)
def c7' (K:W.Frag):Sp:=fun vs H Q _=>∃(a b:Addr) (M:List Rm) (r:Nat) (c:Bool) (ns:List Int),vs=[.ref a,.ref b,.int r,.str (tx [c])]/\IsM H a M/\OkM M/\r<M.length/\SqL K H b (ns.map V.int)/\ns.length=M.length/\Q (.int (oi ns (stp M r c))) H
theorem hJ' {C:Rc} (hN:C.N.length=5):∀vs H Q E,c7' C.K vs H Q E->tSs C bn' { nx:=fun _ H'=>Q .non H',rt:=Q } (L2.aw' C.N vs) H:=by
 intro vs H Q E h
 obtain⟨a,b,M,r,c,ns,rfl,hM,hO,hr,hb,hl,q⟩:=h
 rw[aj' hN]
 unfold bn'
 walk_at "sy"
 refine hI' (c:=c) hM hr fun p hp=>?_
 walk_at "y"
 refine hp _ ?_
 cases e:stp M r c with
 |none=>
  rw[e]at q
  simp only[oV]
  walk_at "y"
  exact q
 |some m=>
  rw[e]at q
  have hm:=ff' hO e
  simp only[oV]
  walk_at "y"
  refine aV' hb (v:=.int (ns.getD m 0)) (aY' ?_) q
  rw[ap,ab (by omega)]
  simp[aN,(by omega:m<ns.length)]
def c1' (K:W.Frag):Sp:=fun vs H Q _=>∃(a b:Addr) (M:List Rm) (ns:List Int),vs=[.ref a,.ref b]/\IsM H a M/\OkM M/\M.length<=500/\SqL K H b (ns.map V.int)/\ns.length=M.length/\∀p,H p=none->Q (.ref p) (upd H p (.lst ((wsL M ns M.length).map V.int)))
theorem fH' {C:Rc} (hN:C.N.length=3) (hB:C.fs "behind_bit"=some (c7' C.K)):∀vs H Q E,c1' C.K vs H Q E->tSs C b4' { nx:=fun _ H'=>Q .non H',rt:=Q } (L2.aw' C.N vs) H:=by
 intro vs H Q E h
 obtain⟨a,b,M,ns,rfl,hM,hO,hM5,hb,hl,q⟩:=h
 rw[aj' hN]
 unfold b4'
 obtain⟨rv,ha,hrv⟩:=id hM
 walk_at "sy"
 refine cc' (SqT.of ha) ?_
 rw[hrv.len]
 refine d9' (by omega) (by omega) (lc' (fun i xs H'=>H'=H/\xs=(wsL M ns i).map V.int) ⟨rfl,rfl⟩ ?_ ?_)
 .rintro i xs H' R hi ⟨rfl,rfl⟩ hR
  rw[show(0:Int)+(i:Int)=(i:Int) by omega]
  have hi':i<M.length:=by omega
  walk_at "y"
  refine ai' hB ?_
  walk_at "y"
  refine⟨a,b,M,i,false,ns,rfl,hM,hO,hi',hb,hl,?_⟩
  walk_at "y"
  refine ai' hB ?_
  walk_at "y"
  refine⟨a,b,M,i,true,ns,rfl,hM,hO,hi',hb,hl,?_⟩
  walk_at "y"
  refine⟨by rw[aa];unfold wsL;simp;exact ah' (by omega),hR _ _ ⟨rfl,?_⟩⟩
  unfold wsL
  rw[bU,ax,ax]
  rfl
 .rintro xs H' ⟨rfl,rfl⟩ p hp
  exact q p hp
end LW
namespace RW
open PySem PySem.Spec PyProof.Rows L2 R3 LW SR
def ob (f:Nat->List (List Bool)) (b:Bool):Option Nat->List (List Bool)
 |none=>[]
 |some m=>(f m).map (b :: ·)
def rws (M:List Rm) (g:Option Nat):Nat->Nat->List (List Bool)
 |0,r=>if g=none\/g=some r then[[]]else[]
 |n+1,r=>ob (rws M g n) false (stp M r false)++ob (rws M g n) true (stp M r true)
theorem x1' {K:W.Frag} {H:Hp} {e:Addr} {M:List Rm} {g:Option Nat} {k r:Nat} {Q:VK} (h:H e=some (.lst ((wyL M g k).map V.int))) (hr:r<M.length) (q:Q (.int (wy M g k r)) H):e0' K (.ref e) (.int r) H Q\/gR' K (.ref e) (.int r) H Q:=by
 refine aV' (SqL.of h) (v:=.int (wy M g k r)) (aY' ?_) q
 rw[ap]
 unfold wyL
 rw[ap,bz hr]
 rfl
theorem fI' {M:List Rm} {r:Nat} {x:Rm} (h:M[r]?=some x):stp M r false=x.1/\stp M r true=x.2:=by
 unfold LW.stp
 rw[h]
 exact⟨rfl,rfl⟩
theorem va' {M:List Rm} (hM:OkM M) {r:Nat} {x:Rm} (h:M[r]?=some x):(∀m,x.1=some m->m<M.length)/\∀m,x.2=some m->m<M.length:=by
 obtain⟨e1,e2⟩:=fI' h
 exact⟨fun m z=>ff' hM (r:=r) (c:=false) (by rw[e1];exact z),fun m z=>ff' hM (r:=r) (c:=true) (by rw[e2];exact z)⟩
def od (f:Nat->Int):Option Nat->Int
 |none=>0
 |some m=>f m
theorem lE' {C:Rc} {σ:L2.St} {H:Hp} {Q:VK} {p:Addr} {x:Rm} {idx:Ce} {j k:Nat} (f:Nat->Int) (hp:H p=some (.tup [oV x.1,oV x.2])) (hσ:σ[k]?=some (some (.ref p)))
  (hj:∀v:V,((clr [j] σ).set j (some v))[j]?=some (some v)) (hi:∀m (P:VK),(x.1=some m\/x.2=some m)->P (.int (f m)) H->tE C idx ((clr [j] σ).set j (some (.int m))) H P)
  (q:∀H',ax' H H'->Q (.int (od f x.1+od f x.2)) H'):tE C (.blt .sum (.cons (.comp idx [j] (.name j) (.val (.var k)) (.some (.cmp .IsNot (.var j) .non)) .nil) .nil)) σ H Q:=by
 simp only[o1',oY',lb',ux',in',hσ,fA']
 refine aU' (SqT.of hp) (dh' (vs:=[oV x.1,oV x.2]) (fun i xs H'=>H'=H/\∃ns:List Int,xs=ns.map V.int/\ns.length<=i/\(i=0->ns.sum=0)/\(i=1->ns.sum=od f x.1)/\(i=2->ns.sum=od f x.1+od f x.2)) ⟨rfl,[],rfl,ai _,fun _=>rfl,(fun h=>absurd h (by decide)),(fun h=>absurd h (by decide))⟩ (fun i xs H' w=>by rw[w.1];exact SqT.of hp) ?_ ?_)
 .rintro i xs H' v R hv ⟨rfl,ns,rfl,hn,h0,h1,h2⟩ hR
  have step:∀o:Option Nat,v=oV o->(∀m,o=some m->x.1=some m\/x.2=some m)->(∀s:Int,s=ns.sum+od f o->(i+1=1->s=od f x.1)/\(i+1=2->s=od f x.1+od f x.2))->i<2->tG C (.name j) v (clr [j] σ) H' (kCG C idx (.some (.cmp .IsNot (.var j) .non)) (ns.map V.int) R):=by
   rintro o rfl ho hs hi2
   rw[k7',uD']
   simp only[oX',in',hj,fA',oV',oU',oW',lf',tN']
   cases o with
   |none=>
    rw[show(!decide (oV (none:Option Nat)=V.non))=false from rfl,uF']
    obtain⟨e1,e2⟩:=hs ns.sum (by simp[od])
    exact hR _ _ ⟨rfl,ns,rfl,by omega,fun h=>by omega,e1,e2⟩
   |some m=>
    have e:(!decide (oV (some m)=V.non))=true:=by simp[oV]
    rw[e,uE']
    refine hi m _ (ho m rfl) ?_
    obtain⟨e1,e2⟩:=hs (ns++[f m]).sum (by simp[od])
    exact⟨by rw[aa];exact ah' (by omega),hR _ _ ⟨rfl,ns++[f m],by simp,by simp;omega,fun h=>by omega,e1,e2⟩⟩
  match i,hv with
  |0,hv=>
   cases hv
   exact step x.1 rfl (fun m h=>.inl h) (fun s e=>⟨fun _=>by rw[e,h0 rfl];omega,fun h=>by omega⟩) (by omega)
  |1,hv=>
   cases hv
   exact step x.2 rfl (fun m h=>.inr h) (fun s e=>⟨fun h=>by omega,fun _=>by rw[e,h1 rfl]⟩) (by omega)
  |i+2,hv=>cases hv
 .rintro xs H' ⟨rfl,ns,rfl,hn,h0,h1,h2⟩ p2 hp2
  simp only[oZ',t5',o0',k3']
  refine⟨p2,ns,rfl,SqL.of aa',?_⟩
  rw[h2 rfl]
  exact q _ (ae' hp2 _)
def ext (M:List Rm) (g:Option Nat) (k:Nat) (w:List Bool×Nat):List (List Bool):=(rws M g k w.2).map (w.1++·)
end RW
namespace TM
open PySem PySem.Spec PyProof.Rows L2 R3 LW
def cx':Css:=(.cons (.asg (.name 2) (.blt .set (.cons (.var 1) .nil)))
  (.cons (.setc2 3 (.var 5) [4,5] (.name 4) (.val (.var 1)) .none [5] (.name 5) (.val (.idx (.var 0) (.var 4))) .none)
  (.cons (.ret (.comp (.var 4) [4] (.name 4) (.val (.var 1)) (.some (.and (.din false (.var 4) (.var 3)) (.or (.din false (.idx (.idx (.var 0) (.var 4)) (.int 0)) (.var 2)) (.din false (.idx (.idx (.var 0) (.var 4)) (.int 1)) (.var 2))))) .nil))
  .nil)))
def cy':Css:=(.cons (.dctc false 2 (.var 4) (.var 3) [3,4] (.tup (.cons (.name 3) (.cons (.name 4) .nil))) (.enum (.var 1)) .none)
  (.cons (.ret (.blt .tuple (.cons (.comp (.tup (.cons (.dgt (.var 2) (.idx (.idx (.var 0) (.var 4)) (.int 0))) (.cons (.dgt (.var 2) (.idx (.idx (.var 0) (.var 4)) (.int 1))) .nil))) [4] (.name 4) (.val (.var 1)) .none .nil) .nil)))
  .nil))
def cz':Css:=(.cons (.asg (.name 1) (.blt .list (.cons (.blt .range (.cons (.blt .len (.cons (.var 0) .nil)) .nil)) .nil)))
  (.cons (.asg (.name 2) (.call "lasting" (.cons (.var 0) (.cons (.var 1) .nil))))
  (.cons (.whl (.cmp .Lt (.blt .len (.cons (.var 2) .nil)) (.blt .len (.cons (.var 1) .nil))) (.cons (.asg (.name 1) (.var 2))
  (.cons (.asg (.name 2) (.call "lasting" (.cons (.var 0) (.cons (.var 1) .nil))))
  .nil)))
  (.cons (.ret (.tup (.cons (.call "part_of" (.cons (.var 0) (.cons (.var 1) .nil))) (.cons (.var 1) .nil))))
  .nil))))
def oI (o:Option Nat):Option Int:=o.map Int.ofNat
theorem nT' {o:Option Nat}:oV o=kO (oI o):=by cases o<;>rfl
def fs1 (M:List Rm) (r:Nat):Option Nat:=(M[r]?.getD (none,none)).1
def fs2 (M:List Rm) (r:Nat):Option Nat:=(M[r]?.getD (none,none)).2
theorem eI' {C:Rc} {H:Hp} {a:Addr} {M:List Rm} {r:Nat} {Q:VK} (hM:IsM H a M) (hr:r<M.length) (q:∀p,H p=some (.tup [oV (fs1 M r),oV (fs2 M r)])->Q (.ref p) H):e0' C.K (.ref a) (.int r) H Q\/gR' C.K (.ref a) (.int r) H Q:=by
 obtain⟨vs,ha,hv⟩:=hM
 obtain⟨p,hp,hpt⟩:=hv.get (ab hr)
 refine cm' (SqT.of ha) (v:=.ref p) (aY' hp) (q p ?_)
 unfold fs1 fs2
 rw[ab hr]
 exact hpt
def ldS (M:List Rm) (rs:List Nat):Option Int->Bool:=fun k=>rs.any fun r=>decide (k=oI (fs1 M r)) || decide (k=oI (fs2 M r))
theorem nU' {M:List Rm} {rs:List Nat} {r:Nat}:ldS M (rs++[r])=fun k=>(ldS M rs k || decide (k=oI (fs1 M r))) || decide (k=oI (fs2 M r)):=by
 funext k
 unfold ldS
 rw[List.any_append]
 simp[Bool.or_assoc]
def inR (rs:List Nat) (o:Option Nat):Bool:=match o with
 |some n=>rs.contains n
 |none=>false
theorem pb' {rs:List Nat} {o:Option Nat}:inL (rs.map Int.ofNat) (oI o)=inR rs o:=by
 cases o with
 |none=>rfl
 |some n=>
  show(rs.map Int.ofNat).contains (Int.ofNat n)=rs.contains n
  induction rs with
  |nil=>rfl
  |cons a rs ih=>
   rw[aH,List.contains_cons,List.contains_cons,ih]
   congr 1
   by_cases h:n=a
   .subst h;simp
   .rw[beq_eq_false_iff_ne.mpr h,beq_eq_false_iff_ne.mpr (fun z=>h (Int.ofNat.inj z))]
def d1' (M:List Rm) (rs:List Nat) (r:Nat):Bool:=ldS M rs (some (r:Int))&&(inR rs (fs1 M r) || inR rs (fs2 M r))
def lst (M:List Rm) (rs:List Nat):List Nat:=rs.filter (d1' M rs)
theorem rc' {rs:List Nat}:(rs.map Int.ofNat).map V.int=rs.map nV:=by rw[bW];rfl
def gE':Sp:=fun vs H Q _=>∃(a l:Addr) (M:List Rm) (rs:List Nat),vs=[.ref a,.ref l]/\IsM H a M/\H l=some (.lst (rs.map nV))/\(∀r∈rs,r<M.length)/\rs.length<=500/\∀(p:Addr) (H':Hp),H p=none->ax' H H'->H' p=some (.lst ((lst M rs).map nV))->Q (.ref p) H'
theorem lF' {C:Rc} (hN:C.N.length=6):∀vs H Q E,gE' vs H Q E->tSs C cx' { nx:=fun _ H'=>Q .non H',rt:=Q } (L2.aw' C.N vs) H:=by
 intro vs H Q E h
 obtain⟨a,l,M,rs,rfl,hM,hl,hrs,hlen,q⟩:=h
 rw[aj' hN]
 unfold cx'
 walk_at "y"
 refine uX' (ns:=rs.map Int.ofNat) (SqL.of (by rw[rc'];exact hl)) (by rw[aa];omega) fun p hp=>?_
 have s1:=ae' hp (e5' p (inL (rs.map Int.ofNat)) (rs.map Int.ofNat).length)
 have hp1:upd H p (e5' p (inL (rs.map Int.ofNat)) (rs.map Int.ofNat).length) p=some (e5' p (inL (rs.map Int.ofNat)) (rs.map Int.ofNat).length):=aa'
 generalize upd H p (e5' p (inL (rs.map Int.ofNat)) (rs.map Int.ofNat).length)=H1 at s1 hp1 ⊢
 have hl1:=s1 _ _ hl
 have hM1:=hM.mono (ao' s1)
 walk_at "y"
 refine aT' (SqL.of hl1) (yO' (vs:=rs.map nV) (fun i b H'=>b.1=ldS M (rs.take i)/\b.2=2*i/\H'=H1) ⟨rfl,rfl,rfl⟩ (fun i b H' pv=>SqL.of (by rw[pv.2.2];exact hl1)) ?_ ?_)
 .rintro i ⟨S,n⟩ H' x R hx ⟨hS,hn,hH⟩ hR
  subst hH
  rw[ap]at hx
  cases er:rs[i]? with
  |none=>rw[er]at hx;cases hx
  |some r=>
  rw[er]at hx
  cases hx
  have hi:=al' er
  have hrM:=hrs r (az er)
  dsimp only at hS hn
  subst hS hn
  simp only[nV]
  walk_at "y"
  refine eI' hM1 hrM fun pr hpr=>?_
  walk_at "y"
  refine aU' (SqT.of hpr) (yP' (vs:=[oV (fs1 M r),oV (fs2 M r)]) (fun j b H''=>b.1=(fun k=>(if j=0 then ldS M (rs.take i) k else if j=1 then(ldS M (rs.take i) k || decide (k=oI (fs1 M r)))else(ldS M (rs.take i) k || decide (k=oI (fs1 M r))) || decide (k=oI (fs2 M r))))/\b.2=2*i+j/\H''=H') ⟨rfl,rfl,rfl⟩ (fun j b H' pv=>SqT.of (by rw[pv.2.2];exact hpr)) ?_ ?_)
  .rintro j ⟨S,n⟩ H' x R2 hx ⟨hS,hn,rfl⟩ hR2
   dsimp only at hS hn
   subst hS hn
   have hj:j=0\/j=1:=by
    have:=al' hx
    simp only[bp,List.length_nil]at this
    omega
   rcases hj with rfl|rfl
   .simp only[List.getElem?_cons_zero,Option.some.injEq]at hx
    subst hx
    walk_at "y"
    refine⟨oI (fs1 M r),nT',by omega,hR2 _ _ ⟨?_,rfl,rfl⟩⟩
    funext k
    simp
   .simp only[List.getElem?_cons_succ,List.getElem?_cons_zero,Option.some.injEq]at hx
    subst hx
    walk_at "y"
    refine⟨oI (fs2 M r),nT',by omega,hR2 _ _ ⟨?_,rfl,rfl⟩⟩
    funext k
    simp
  .rintro⟨S,n⟩ H' ⟨hS,hn,rfl⟩
   dsimp only at hS hn
   subst hS hn
   refine hR _ _ ⟨?_,by simp;omega,rfl⟩
   rw[show rs.take (i+1)=rs.take i++[r] by rw[aW,er];rfl,nU']
   rfl
 .rintro⟨S,n⟩ H' ⟨hS,hn,rfl⟩
  dsimp only at hS hn
  rw[aa,aT]at hS
  subst hS
  refine⟨trivial,fun p2 hp2=>?_⟩
  dsimp only
  have s2:=ae' hp2 (e5' p2 (ldS M rs) n)
  have hp22:upd H' p2 (e5' p2 (ldS M rs) n) p2=some (e5' p2 (ldS M rs) n):=aa'
  generalize upd H' p2 (e5' p2 (ldS M rs) n)=H2 at s2 hp22 ⊢
  have hl2:=s2 _ _ hl1
  have hp12:=s2 _ _ hp1
  have hM2:=hM1.mono (ao' s2)
  walk_at "y"
  refine aT' (SqL.of hl2) (gv' (vs:=rs.map nV) (fun i xs H'=>xs=((rs.take i).filter (d1' M rs)).map nV/\H'=H2) ⟨rfl,rfl⟩ (fun i xs H' pv=>SqL.of (by rw[pv.2];exact hl2)) ?_ ?_)
  .rintro i xs H' x R hx ⟨rfl,rfl⟩ hR
   rw[ap]at hx
   cases er:rs[i]? with
   |none=>rw[er]at hx;cases hx
   |some r=>
   rw[er]at hx
   cases hx
   have hi:=al' er
   have hrM:=hrs r (az er)
   have et:(rs.take (i+1)).filter (d1' M rs)=(rs.take i).filter (d1' M rs)++[r].filter (d1' M rs):=by rw[aW,er,List.filter_append];rfl
   have hfl:((rs.take i).filter (d1' M rs)).length<=500:=aI (List.length_filter_le ..) (by rw[aL];omega)
   have yes:d1' M rs r=true->R (((rs.take i).filter (d1' M rs)).map nV++[nV r]) H':=fun h=>hR _ _ ⟨by rw[et,List.filter_cons,if_pos h,ax];rfl,rfl⟩
   have no:d1' M rs r=false->R (((rs.take i).filter (d1' M rs)).map nV) H':=fun h=>hR _ _ ⟨by rw[et,List.filter_cons,if_neg (by rw[h];decide)];simp,rfl⟩
   have e1:=pb' (rs:=rs) (o:=fs1 M r)
   have e2:=pb' (rs:=rs) (o:=fs2 M r)
   unfold d1' at yes no
   simp only[nV]at yes ⊢
   walk_at "y"
   refine lk' (k:=some (r:Int)) rfl hp22 ?_
   simp only[Bool.false_eq_true,if_false]
   cases hld:ldS M rs (some (r:Int))with
   |false=>
    rw[hld]at no
    walk_at "y"
    exact no rfl
   |true=>
    rw[hld]at yes no
    walk_at "y"
    refine eI' hM2 hrM fun pr hpr=>?_
    walk_at "y"
    refine cm' (SqT.of hpr) (v:=oV (fs1 M r)) rfl ?_
    walk_at "y"
    refine lk' nT' hp12 ?_
    simp only[Bool.false_eq_true,if_false]
    rw[e1]
    cases h1:inR rs (fs1 M r)with
    |true=>
     rw[h1]at yes
     walk_at "y"
     exact⟨by rw[aa];exact ah' (by omega),yes rfl⟩
    |false=>
     rw[h1]at yes no
     walk_at "y"
     refine eI' hM2 hrM fun pr hpr=>?_
     walk_at "y"
     refine cm' (SqT.of hpr) (v:=oV (fs2 M r)) rfl ?_
     walk_at "y"
     refine lk' nT' hp12 ?_
     simp only[Bool.false_eq_true,if_false]
     rw[e2]
     cases h2:inR rs (fs2 M r)with
     |true=>
      rw[h2]at yes
      walk_at "y"
      exact⟨by rw[aa];exact ah' (by omega),yes rfl⟩
     |false=>
      rw[h2]at no
      walk_at "y"
      exact no rfl
  .rintro xs H' ⟨rfl,rfl⟩ p3 hp3
   rw[aa,aT]
   have hfin:upd H' p3 (.lst ((rs.filter (d1' M rs)).map nV)) p3=some (.lst ((lst M rs).map nV)):=aa'
   exact q p3 _ ((s1.trans s2).free hp3) (s1.trans (s2.trans (ae' hp3 _))) hfin
theorem i7' {i:Nat} (h:i<=1000):hashInt (i:Int)=i:=by
 unfold hashInt rawHash
 have e:(((i:Int).natAbs:Nat):Int) % ((2 ^ 61-1:Nat):Int)=i:=by
  rw[Int.natAbs_natCast]
  exact Int.emod_eq_of_lt (by omega) (Int.ofNat_lt.mpr (show i<2 ^ 61-1 by omega))
 dsimp only
 rw[e]
 have h1:¬((i:Int)<0):=by omega
 have h2:((i:Int) == -1)=false:=by rw[beq_eq_false_iff_ne];omega
 simp only[h1,if_false,h2,Bool.false_eq_true]
def TbK (n m:Nat) (kvs:List (Key×V)):Prop:=∀kv∈kvs,∃r j:Nat,kv=(.inl (r:Int),.int j)/\r<n/\j<m
set_option tactic.hygienic true in
theorem nV' {kvs:List (Key×V)} {k:Key} {v:V} {x:Key×V} (h:x∈g5' kvs k v):x∈kvs\/x=(k,v):=by
 unfold g5' at h
 split at h
 .obtain⟨y,hy,e⟩:=bg.mp h
  split at e
  .rename_i hk
   right
   rw[<- e,hk]
  .left
   rw[<- e]
   exact hy
 .rcases aw.mp h with h|h
  .exact .inl h
  .exact .inr (by simpa using h)
theorem TbK.put {n m:Nat} {kvs:List (Key×V)} {r j:Nat} (h:TbK n m kvs) (hr:r<n) (hj:j<m):TbK n m (g5' kvs (.inl (r:Int)) (.int j)):=fun kv hkv=>by
 rcases nV' hkv with h1|rfl
 .exact h kv h1
 .exact⟨r,j,rfl,hr,hj⟩
theorem TbK.get {n m:Nat} {kvs:List (Key×V)} (h:TbK n m kvs) (k:Key):∃o:Option Nat,(f9' kvs k).getD .non=oV o/\∀x,o=some x->x<m:=by
 unfold f9'
 cases e:kvs.find? fun kv=>decide (kv.1=k)with
 |none=>exact⟨none,rfl,fun _ z=>(nomatch z)⟩
 |some kv=>
  obtain⟨r,j,rfl,_,hj⟩:=h kv (List.mem_of_find?_eq_some e)
  exact⟨some j,rfl,fun x z=>by cases z;exact hj⟩
theorem TbK.non {H:Hp} {p:Addr} {n m:Nat} {kvs:List (Key×V)} (h:TbK n m kvs) (hn:n<=1000) (hp:H p=some (.dK kvs)):NoN H p:=.inl ⟨kvs,hp,fun kv hkv=>by
 obtain⟨r,j,rfl,hr,_⟩:=h kv hkv
 exact⟨r,rfl,by rw[i7' (by omega)];show(r:Int)≠0xFCA86420;omega⟩⟩
theorem pc' {C:Rc} {H:Hp} {Q:VK} {p:Addr} {n m:Nat} {kvs:List (Key×V)} {o:Option Nat} (h:TbK n m kvs) (hn:n<=1000) (hp:H p=some (.dK kvs)) (q:∀o':Option Nat,(∀x,o'=some x->x<m)->Q (oV o') H):hG' p Q (oV o) H:=by
 cases o with
 |none=>exact ln' (h.non hn hp) (q none fun _ z=>(nomatch z))
 |some x=>
  obtain⟨o',e,ho⟩:=h.get (.inl (x:Int))
  refine lm' (gS'.k (k:=.inl (x:Int)) hp) ?_
  rw[e]
  exact q o' ho
def gF':Sp:=fun vs H Q _=>∃(a l:Addr) (M:List Rm) (rs:List Nat),vs=[.ref a,.ref l]/\IsM H a M/\M.length<=500/\H l=some (.lst (rs.map nV))/\(∀r∈rs,r<M.length)/\rs.length<=500/\∀(p:Addr) (M':List Rm) (H':Hp),ax' H H'->IsM H' p M'->OkM M'->M'.length=rs.length->Q (.ref p) H'
theorem lG' {C:Rc} (hN:C.N.length=5):∀vs H Q E,gF' vs H Q E->tSs C cy' { nx:=fun _ H'=>Q .non H',rt:=Q } (L2.aw' C.N vs) H:=by
 intro vs H Q E h
 obtain⟨a,l,M,rs,rfl,hM,hM5,hl,hrs,hlen,q⟩:=h
 rw[aj' hN]
 unfold cy'
 walk_at "y"
 refine io' (SqL.of hl) (yQ' (vs:=rs.map nV) (fun i b H'=>TbK M.length rs.length b/\b.length<=i/\i<=rs.length/\ax' H H') ⟨fun kv h=>absurd h av,ai _,aE _,ax'.refl _⟩ (fun i b H' pv=>SqL.of (pv.2.2.2 _ _ hl)) ?_ ?_)
 .rintro i b H1 x p R hx hp ⟨hb,hbl,hi0,s1⟩ hR
  rw[ap]at hx
  cases er:rs[i]? with
  |none=>rw[er]at hx;cases hx
  |some r=>
  rw[er]at hx
  cases hx
  have hi:=al' er
  refine dG' (SqT.of aa') ?_
  have s2:=s1.trans (ae' hp (.tup [.int i,nV r]))
  generalize upd H1 p (.tup [.int i,nV r])=H2 at s2 ⊢
  simp only[nV]
  walk_at "y"
  exact⟨.inl (r:Int),rfl,ah' (by omega),hR _ _ ⟨hb.put (hrs r (az er)) hi,aI (eB' ..) (by omega),by omega,s2⟩⟩
 .rintro kvs H1 ⟨hb,_,_,s1⟩
  refine⟨trivial,fun p hp=>?_⟩
  have s2:=s1.trans (ae' hp (.dK kvs))
  have hp2:upd H1 p (.dK kvs) p=some (.dK kvs):=aa'
  generalize upd H1 p (.dK kvs)=H2 at s2 hp2 ⊢
  walk_at "y"
  refine aT' (SqL.of (s2 _ _ hl)) (gv' (vs:=rs.map nV) (fun i xs H'=>(∃M',cn' H' xs M'/\(∀m∈M',OkR rs.length m)/\M'.length=i/\i<=rs.length)/\ax' H2 H') ⟨⟨[],trivial,fun m h=>absurd h av,rfl,aE _⟩,ax'.refl _⟩ (fun i xs H' pv=>SqL.of (pv.2 _ _ (s2 _ _ hl))) ?_ ?_)
  .rintro i xs H3 x R hx ⟨⟨M',hR',hO',hl',hi0⟩,s3⟩ hR
   rw[ap]at hx
   cases er:rs[i]? with
   |none=>rw[er]at hx;cases hx
   |some r=>
   rw[er]at hx
   cases hx
   have hi:=al' er
   have hrM:=hrs r (az er)
   have hM3:=hM.mono (ao' (s2.trans s3))
   have hp3:=s3 _ _ hp2
   simp only[nV]
   walk_at "y"
   refine fD' (.inl ⟨kvs,.inl hp3⟩) ?_
   walk_at "y"
   refine eI' hM3 hrM fun pr hpr=>?_
   walk_at "y"
   refine cm' (SqT.of hpr) (v:=oV (fs1 M r)) rfl ?_
   refine pc' (C:=C) hb (by omega) hp3 fun o1 ho1=>?_
   walk_at "y"
   refine fD' (.inl ⟨kvs,.inl hp3⟩) ?_
   walk_at "y"
   refine eI' hM3 hrM fun pr hpr=>?_
   walk_at "y"
   refine cm' (SqT.of hpr) (v:=oV (fs2 M r)) rfl ?_
   refine pc' (C:=C) hb (by omega) hp3 fun o2 ho2=>?_
   walk_at "y"
   refine⟨by show 2<=sizeLine;decide,fun p4 hp4=>?_⟩
   have s4:=ae' hp4 (.tup [oV o1,oV o2])
   have h4:upd H3 p4 (.tup [oV o1,oV o2]) p4=some (.tup [oV o1,oV o2]):=aa'
   generalize upd H3 p4 (.tup [oV o1,oV o2])=H4 at s4 h4 ⊢
   have hxl:=hR'.len
   refine⟨ah' (by omega),hR _ _ ⟨⟨M'++[(o1,o2)],(hR'.mono (ao' s4)).snoc ⟨p4,rfl,h4⟩,fun m hm=>?_,by simp[hl'],by omega⟩,s3.trans s4⟩⟩
   rcases aw.mp hm with hm|hm
   .exact hO' m hm
   .have:m=(o1,o2):=by simpa using hm
    subst this
    exact⟨ho1,ho2⟩
  .rintro xs H3 ⟨⟨M',hR',hO',hl',_⟩,s3⟩ p5 hp5
   rw[aa]at hl'
   walk_at "y"
   have h5:upd H3 p5 (.lst xs) p5=some (.lst xs):=aa'
   have s5:=ae' hp5 (.lst xs)
   generalize upd H3 p5 (.lst xs)=H5 at h5 s5 ⊢
   refine d0' (SqL.of h5) fun p6 hp6=>?_
   have s6:=ae' hp6 (.tup xs)
   refine q p6 M' _ (s2.trans (s3.trans (s5.trans s6))) ⟨xs,aa',hR'.mono (ao' (s5.trans s6))⟩ (fun m hm=>by rw[hl'];exact hO' m hm) hl'
theorem vb' {M:List Rm} {rs:List Nat}:(lst M rs).length<=rs.length:=List.length_filter_le ..
theorem lH' {M:List Rm} {rs:List Nat} {r:Nat} (h:r∈lst M rs):r∈rs:=(List.mem_filter.mp h).1
theorem pd' {n:Nat}:rgs 0 n=(aA n).map nV:=by
 unfold rgs
 apply bJ
 intro k _
 show V.int (0+(k:Int))=V.int k
 rw[Int.zero_add]
end TM
namespace BD
open PySem PySem.Spec PyProof.Rows L2 R3 LW TM
def aO':Css:=(.cons (.asg (.tup (.cons (.name 1) (.cons (.name 2) (.cons (.name 3) (.cons (.name 4) (.cons (.name 5) .nil)))))) (.var 0))
  (.cons (.asg (.name 6) (.ife (.cmp .Is (.var 5) .non) (.lst (.cons (.int 0) .nil)) (.blt .list (.cons (.blt .range (.cons (.bin .Add (.var 5) (.int 1)) .nil)) .nil))))
  (.cons (.ret (.comp (.tup (.cons (.var 7) (.cons (.var 9) (.cons (.var 10) .nil)))) [7,8,9,10] (.tup (.cons (.name 7) (.cons (.name 8) .nil))) (.val (.tup (.cons (.tup (.cons (.int 0) (.cons (.var 2) .nil))) (.cons (.tup (.cons (.int 1) (.cons (.var 4) .nil))) .nil)))) .none (.cons [9,10] (.name 9) (.range2 (.int 1) (.bin .Add (.var 8) (.int 1))) .none (.cons [10] (.name 10) (.val (.var 6)) .none .nil))))
  .nil)))
def bf':Css:=(.cons (.asg (.tup (.cons (.name 3) (.cons (.name 4) (.cons (.name 5) (.cons (.name 6) (.cons (.name 7) .nil)))))) (.var 0))
  (.cons (.asg (.tup (.cons (.name 8) (.cons (.name 9) (.cons (.name 10) .nil)))) (.var 1))
  (.cons (.ite (.cmp .IsNot (.var 7) .non) (.cons (.aug 10 false (.ife (.cmp .Eq (.var 2) (.int 1)) (.int 1) (.neg (.int 1))))
  .nil) .nil)
  (.cons (.ite (.cmp .Eq (.var 2) (.var 8)) (.cons (.ret (.tup (.cons (.var 2) (.cons (.bin .Add (.var 9) (.int 1)) (.cons (.var 10) .nil)))))
  .nil) .nil)
  (.cons (.ite (.cmp .Lt (.var 9) (.ife (.cmp .Eq (.var 8) (.int 1)) (.var 5) (.var 3))) (.cons (.ret .non)
  .nil) .nil)
  (.cons (.ret (.tup (.cons (.var 2) (.cons (.int 1) (.cons (.var 10) .nil)))))
  .nil))))))
def aE':Css:=(.cons (.dctc true 2 (.var 4) (.var 3) [3,4] (.tup (.cons (.name 3) (.cons (.name 4) .nil))) (.enum (.var 1)) .none)
  (.cons (.ret (.blt .tuple (.cons (.comp (.tup (.cons (.dgt (.var 2) (.call "room_behind" (.cons (.var 0) (.cons (.var 4) (.cons (.int 0) .nil))))) (.cons (.dgt (.var 2) (.call "room_behind" (.cons (.var 0) (.cons (.var 4) (.cons (.int 1) .nil))))) .nil))) [4] (.name 4) (.val (.var 1)) .none .nil) .nil)))
  .nil))
def bo':Css:=(.cons (.asg (.tup (.cons (.name 1) (.cons (.name 2) .nil))) (.call "trimmed" (.cons (.call "machine_in_bounds" (.cons (.var 0) (.cons (.call "rooms_in_bounds" (.cons (.var 0) .nil)) .nil))) .nil)))
  (.cons (.ret (.var 1))
  .nil))
structure IsB (H:Hp) (p:Addr) (l0 h0 l1 h1:Nat) (sp:Option Nat):Prop where
 at':H p=some (.tup [nV l0,nV h0,nV l1,nV h1,oV sp])
 b0:h0<=8
 b1:h1<=8
 bs:∀s,sp=some s->s<=16
theorem IsB.mono {H H':Hp} {p:Addr} {l0 h0 l1 h1:Nat} {sp:Option Nat} (h:IsB H p l0 h0 l1 h1 sp) (t:Tp H H'):IsB H' p l0 h0 l1 h1 sp:=⟨t _ _ h.at',h.b0,h.b1,h.bs⟩
theorem pe' {C:Rc} {H:Hp} {σ:L2.St} {i j k m n:Nat} {a:Addr} {x y z u v:V} {R:L2.St->Hp->Prop} (h:SqT C.K H a [x,y,z,u,v]) (q:R (((((σ.set i (some x)).set j (some y)).set k (some z)).set m (some u)).set n (some v)) H):tG C (.tup (.cons (.name i) (.cons (.name j) (.cons (.name k) (.cons (.name m) (.cons (.name n) .nil)))))) (.ref a) σ H R:=
 ⟨a,[x,y,z,u,v],rfl,.inl h,rfl,_,_,rfl,_,_,rfl,_,_,rfl,_,_,rfl,_,_,rfl,rfl,q⟩
abbrev K3:=Nat×Nat×Nat
def jm' (H:Hp) (v:V) (k:K3):Prop:=∃p,v=.ref p/\H p=some (.tup [nV k.1,nV k.2.1,nV k.2.2])
theorem jm'.mono {H H':Hp} (s:ax' H H') {v:V} {k:K3} (h:jm' H v k):jm' H' v k:=by
 obtain⟨p,e,hp⟩:=h
 exact⟨p,e,s _ _ hp⟩
def r1 (lv:List Nat) (b pl:Nat):List K3:=lv.map fun l=>(b,pl,l)
def r2 (lv:List Nat) (b:Nat) (h:Nat):List K3:=(aA h).flatMap fun j=>r1 lv b (j+1)
def rk (lv:List Nat) (h0 h1:Nat):List K3:=r2 lv 0 h0++r2 lv 1 h1
def lvs:Option Nat->List Nat
 |none=>[0]
 |some s=>aA (s+1)
theorem hK' {lv:List Nat} {b h:Nat}:r2 lv b (h+1)=r2 lv b h++r1 lv b (h+1):=by
 unfold r2
 rw[bU,List.flatMap_append]
 simp
theorem d7' {lv:List Nat} {b:Nat}:∀{h},(r2 lv b h).length=h*lv.length
 |0=>by rw[Nat.zero_mul];rfl
 |h+1=>by rw[hK',al,d7',Nat.add_mul,Nat.one_mul];unfold r1;rw[aa]
theorem gG' {lv:List Nat} {b h:Nat} {k:K3}:k∈r2 lv b h->k.1=b/\1<=k.2.1/\k.2.1<=h/\k.2.2∈lv:=by
 unfold r2 r1
 intro hk
 obtain⟨j,hj,hk⟩:=List.mem_flatMap.mp hk
 obtain⟨l,hl,rfl⟩:=bg.mp hk
 have:=aJ.mp hj
 exact⟨rfl,by show 1<=j+1;omega,by show j+1<=h;omega,hl⟩
theorem pf' {α β:Type} {f:α->β} (hf:∀x y,f x=f y->x=y):∀{l:List α},l.Nodup->(l.map f).Nodup
 | [],_=>cz
 |a :: l,h=>by
  rw[bB]at h
  rw[aH,bB]
  refine⟨fun z=>?_,pf' hf h.2⟩
  obtain⟨x,hx,e⟩:=bg.mp z
  rw[hf _ _ e]at hx
  exact h.1 hx
theorem rd' {lv:List Nat} (hl:lv.Nodup) {b:Nat}:∀{h},(r2 lv b h).Nodup
 |0=>cz
 |h+1=>by
  rw[hK',List.nodup_append]
  refine⟨rd' hl,pf' (fun x y e=>by injection e with _ e;injection e) hl,fun x hx y hy e=>?_⟩
  subst e
  have h1:=(gG' hx).2.2.1
  unfold r1 at hy
  obtain⟨l,_,rfl⟩:=bg.mp hy
  have:h+1<=h:=h1
  omega
theorem vc' {lv:List Nat} (hl:lv.Nodup) {h0 h1:Nat}:(rk lv h0 h1).Nodup:=by
 unfold rk
 rw[List.nodup_append]
 refine⟨rd' hl,rd' hl,fun x hx y hy e=>?_⟩
 subst e
 have a:=(gG' hx).1
 have b:=(gG' hy).1
 omega
theorem pg' {sp:Option Nat}:(lvs sp).Nodup:=by
 cases sp with
 |none=>exact bB.mpr ⟨av,cz⟩
 |some s=>exact List.nodup_range
theorem ph' {sp:Option Nat} (h:∀s,sp=some s->s<=16):(lvs sp).length<=17/\∀l∈lvs sp,l<=16:=by
 cases sp with
 |none=>exact⟨by decide,fun l hl=>by have:l=0:=(by simpa[lvs]using hl);omega⟩
 |some s=>
  have:=h s rfl
  refine⟨by show(aA (s+1)).length<=17;rw[aS];omega,fun l hl=>?_⟩
  have:=aJ.mp (show l∈aA (s+1) from hl)
  omega
theorem re' {sp:Option Nat} {h0 h1:Nat} (hs:∀s,sp=some s->s<=16) (a0:h0<=8) (a1:h1<=8):(rk (lvs sp) h0 h1).length<=272/\∀k∈rk (lvs sp) h0 h1,k.1<2/\k.2.1<9/\k.2.2<17:=by
 obtain⟨h,hm⟩:=ph' hs
 constructor
 .unfold rk
  rw[al,d7',d7']
  have e0:h0*(lvs sp).length<=8*17:=ce a0 h
  have e1:h1*(lvs sp).length<=8*17:=ce a1 h
  omega
 .intro k hk
  unfold rk at hk
  rcases aw.mp hk with hk|hk
  .obtain⟨e,_,e2,e3⟩:=gG' hk
   have:=hm _ e3
   omega
  .obtain⟨e,_,e2,e3⟩:=gG' hk
   have:=hm _ e3
   omega
def lI':Sp:=fun vs H Q _=>∃(bd:Addr) (l0 h0 l1 h1:Nat) (sp:Option Nat),vs=[.ref bd]/\IsB H bd l0 h0 l1 h1 sp/\∀(p:Addr) (xs:List V) (H':Hp),ax' H H'->H' p=some (.lst xs)->cU' (jm' H') xs (rk (lvs sp) h0 h1)->Q (.ref p) H'
theorem gH' {H H':Hp} (s:ax' H H') {xs:List V} {ks:List K3} (h:cU' (jm' H) xs ks):cU' (jm' H') xs ks:=h.mono fun _ _ z=>z.mono s
theorem nW' {C:Rc} (hN:C.N.length=11):∀vs H Q E,lI' vs H Q E->tSs C aO' { nx:=fun _ H'=>Q .non H',rt:=Q } (L2.aw' C.N vs) H:=by
 intro vs H Q E h
 obtain⟨bd,l0,h0,l1,h1,sp,rfl,hB,q⟩:=h
 rw[aj' hN]
 unfold aO'
 walk_at "y"
 rw[hD']
 walk_at "y"
 refine pe' (C:=C) (SqT.of hB.at') ?_
 simp only[fa',bM,bN]
 obtain⟨hlv,hlm⟩:=ph' hB.bs
 refine qQ' fun K hK=>?_
 have aA':∀(pl:Addr) (H1:Hp),ax' H H1->H1 pl=some (.lst ((lvs sp).map nV))->K (.ref pl) H1:=by
  intro pl H1 s1 hpl
  refine hK _ _ ?_
  walk_at "y"
  refine⟨by show 2<=sizeLine;decide,fun q0 hq0=>?_⟩
  have t0:=ae' hq0 (.tup [.int 0,nV h0])
  have e0:upd H1 q0 (.tup [.int 0,nV h0]) q0=some (.tup [.int 0,nV h0]):=aa'
  generalize upd H1 q0 (.tup [.int 0,nV h0])=H2 at t0 e0 ⊢
  walk_at "y"
  refine⟨by show 2<=sizeLine;decide,fun q1 hq1=>?_⟩
  have t1:=ae' hq1 (.tup [.int 1,nV h1])
  have e1:upd H2 q1 (.tup [.int 1,nV h1]) q1=some (.tup [.int 1,nV h1]):=aa'
  generalize upd H2 q1 (.tup [.int 1,nV h1])=H3 at t1 e1 ⊢
  walk_at "y"
  refine⟨by show 2<=sizeLine;decide,fun q2 hq2=>?_⟩
  have t2:=ae' hq2 (.tup [.ref q0,.ref q1])
  have e2:upd H3 q2 (.tup [.ref q0,.ref q1]) q2=some (.tup [.ref q0,.ref q1]):=aa'
  generalize upd H3 q2 (.tup [.ref q0,.ref q1])=H4 at t2 e2 ⊢
  have s4:ax' H1 H4:=t0.trans (t1.trans t2)
  have e04:=t2 _ _ (t1 _ _ e0)
  have e14:=t2 _ _ e1
  have hpl4:=s4 _ _ hpl
  have hrk:=(re' hB.bs hB.b0 hB.b1 (h0:=h0) (h1:=h1)).1
  refine aU' (SqT.of e2) (yP' (vs:=[.ref q0,.ref q1]) (fun i xs H'=>ax' H4 H'/\cU' (jm' H') xs (if i=0 then[]else if i=1 then r2 (lvs sp) 0 h0 else rk (lvs sp) h0 h1)) ⟨ax'.refl _,trivial⟩ (fun i xs H' pv=>SqT.of (pv.1 _ _ e2)) ?_ ?_)
  .rintro i xs H5 x R hx ⟨s5,hA⟩ hR
   have hi2:i=0\/i=1:=by
    have:=al' hx
    simp only[bp,List.length_nil]at this
    omega
   obtain⟨qq,b,hh,rfl,hqq,hh8,pre,hpre,hpost,hb⟩:∃(qq:Addr) (b hh:Nat),x=.ref qq/\H5 qq=some (.tup [.int b,nV hh])/\hh<=8/\∃pre,cU' (jm' H5) xs pre/\(∀ys H6,ax' H4 H6->cU' (jm' H6) ys (pre++r2 (lvs sp) b hh)->R ys H6)/\(pre++r2 (lvs sp) b hh).length<=272:=by
    rcases hi2 with rfl|rfl
    .cases hx
     refine⟨q0,0,h0,rfl,s5 _ _ e04,hB.b0,[],hA,fun ys H6 s6 h6=>hR _ _ ⟨s6,h6⟩,?_⟩
     rw[List.nil_append]
     unfold rk at hrk
     rw[al]at hrk
     omega
    .cases hx
     exact⟨q1,1,h1,rfl,s5 _ _ e14,hB.b1,r2 (lvs sp) 0 h0,hA,fun ys H6 s6 h6=>hR _ _ ⟨s6,h6⟩,hrk⟩
   refine dG' (C:=C) (SqT.of hqq) ?_
   simp only[nV]
   walk_at "y"
   rw[al,d7']at hb
   have hap:=hpre.len
   refine uA' (by omega) (by omega) (by omega) (by omega) (zA' (n:=((hh:Int)+1-1).toNat) (fun j ys H6=>ax' H4 H6/\cU' (jm' H6) ys (pre++r2 (lvs sp) b j)) ⟨s5,by simpa[r2]using hpre⟩ ?_ ?_)
   .rintro j ys H6 R2 hj ⟨s6,h6⟩ hR2
    have hjh:j<hh:=by omega
    have hjl:j*(lvs sp).length+(lvs sp).length<=hh*(lvs sp).length:=by
     have:=cx (lvs sp).length hjh
     rw[Nat.succ_mul]at this
     exact this
    walk_at "y"
    refine aT' (SqL.of (s6 _ _ hpl4)) (yO' (vs:=(lvs sp).map nV) (fun m zs H7=>ax' H4 H7/\cU' (jm' H7) zs (pre++r2 (lvs sp) b j++r1 ((lvs sp).take m) b (j+1))) ⟨s6,by simpa[r1]using h6⟩ (fun m zs H7 pv=>SqL.of (pv.1 _ _ hpl4)) ?_ ?_)
    .rintro m zs H7 x R3 hx ⟨s7,h7⟩ hR3
     rw[ap]at hx
     cases er:(lvs sp)[m]? with
     |none=>rw[er]at hx;cases hx
     |some lv=>
     rw[er]at hx
     cases hx
     have hm:=al' er
     have h7l:=h7.len
     rw[al,al,d7']at h7l
     unfold r1 at h7l
     rw[aa,aL]at h7l
     simp only[nV]
     walk_at "y"
     refine⟨by show 3<=sizeLine;decide,fun q8 hq8=>?_⟩
     have t8:=ae' hq8 (.tup [.int b,.int (1+j),.int lv])
     have e8:upd H7 q8 (.tup [.int b,.int (1+j),.int lv]) q8=some (.tup [nV b,nV (j+1),nV lv]):=by
      rw[aa']
      show some (HO.tup [.int b,.int (1+(j:Int)),.int lv])=some (HO.tup [.int b,.int ((j+1:Nat):Int),.int lv])
      rw[show(1:Int)+j=((j+1:Nat):Int) by omega]
     generalize upd H7 q8 (.tup [.int b,.int (1+j),.int lv])=H8 at t8 e8 ⊢
     refine⟨ah' (by omega),hR3 _ _ ⟨s7.trans t8,?_⟩⟩
     rw[show r1 ((lvs sp).take (m+1)) b (j+1)=r1 ((lvs sp).take m) b (j+1)++[(b,j+1,lv)] by unfold r1;rw[aW,er,ax];rfl,<- bm]
     exact(gH' t8 h7).snoc ⟨q8,rfl,e8⟩
    .rintro zs H7 ⟨s7,h7⟩
     rw[aa,aT,bm,<- hK']at h7
     exact hR2 _ _ ⟨s7,h7⟩
   .rintro ys H6 ⟨s6,h6⟩
    rw[show((hh:Int)+1-1).toNat=hh by omega]at h6
    exact hpost ys H6 s6 h6
  .rintro xs H5 ⟨s5,hA⟩ p9 hp9
   have s9:=ae' hp9 (.lst xs)
   exact q p9 xs _ (s1.trans (s4.trans (s5.trans s9))) aa' (gH' s9 hA)
 walk_at "y"
 cases sp with
 |none=>
  simp only[oV]
  walk_at "y"
  refine⟨by decide,fun pl hpl=>?_⟩
  exact aA' pl _ (ae' hpl _) aa'
 |some s=>
  have hs:=hB.bs s rfl
  simp only[oV]
  walk_at "y"
  refine eH' fun pr hpr=>?_
  walk_at "y"
  refine fB' aa' (by omega) (by omega) (by omega) (by omega) (bu (ah' (by omega))) fun pl hpl=>?_
  rw[show((s:Int)+1-0).toNat=s+1 by omega,pd']
  exact aA' pl _ ((ae' hpr _).trans (ae' hpl _)) aa'
theorem x2':∀b:Fin 2,∀p:Fin 9,∀l:Fin 17,reduceHash (Builtin.Tuple.tupleHashOf [hashInt (b.val:Int),hashInt (p.val:Int),hashInt (l.val:Int)])≠NH:=by decide +kernel
def kI (k:K3):List Int:=[(k.1:Int),(k.2.1:Int),(k.2.2:Int)]
def kK (k:K3):List Key:=(kI k).map Key.inl
theorem pi' {a b:K3} (h:kK a=kK b):a=b:=by
 obtain⟨a1,a2,a3⟩:=a
 obtain⟨b1,b2,b3⟩:=b
 unfold kK kI at h
 simp only[aH,List.map_nil,List.cons.injEq,Key.inl.injEq,and_true]at h
 obtain⟨h1,h2,h3⟩:=h
 rw[show a1=b1 by omega,show a2=b2 by omega,show a3=b3 by omega]
theorem vd' {k:K3}:(kK k).map L2.kV=[nV k.1,nV k.2.1,nV k.2.2]:=rfl
theorem lJ' {ks:List K3} {i:Nat} {k:K3} (h:ks.Nodup) (hk:ks[i]?=some k):k∉ks.take i:=by
 intro hm
 have hi:=al' hk
 have e:ks=ks.take i++k :: ks.drop (i+1):=by
  have h1:=bf i ks
  rw[List.drop_eq_getElem_cons hi]at h1
  rw[ab hi]at hk
  rw[Option.some.inj hk]at h1
  exact h1.symm
 rw[e,List.nodup_append]at h
 exact h.2.2 k hm k aF rfl
theorem gI' {ks:List K3} {i:Nat} {k:K3} (hk:ks[i]?=some k):ks.take (i+1)=ks.take i++[k]:=by rw[aW,hk];rfl
def TbT (ks:List K3) (m:Nat) (a:KTL):Prop:=∀x∈a,∃(k:K3) (j:Nat),k∈ks/\x.1=kK k/\x.2.2=.int j/\j<m
theorem TbT.non {H:Hp} {p:Addr} {ks:List K3} {m:Nat} {a:KTL} (h:TbT ks m a) (hk:∀k∈ks,k.1<2/\k.2.1<9/\k.2.2<17) (hp:H p=some (.dT (plT a))):NoN H p:=.inr ⟨plT a,hp,fun kv hkv=>by
 obtain⟨x,hx,rfl⟩:=bg.mp hkv
 obtain⟨k,j,hks,e,_⟩:=h x hx
 obtain⟨h1,h2,h3⟩:=hk k hks
 exact⟨kI k,e,x2' ⟨k.1,h1⟩ ⟨k.2.1,h2⟩ ⟨k.2.2,h3⟩⟩⟩
end BD
namespace BE
open PySem PySem.Spec PyProof.Rows L2 R3 LW TM BD
def lvl (sp:Option Nat) (lv c:Nat):Int:=match sp with
 |none=>lv
 |some _=>(lv:Int)+if c=1 then 1 else -1
def bh (l0 l1:Nat) (sp:Option Nat) (k:K3) (c:Nat):Option (List Int):=
 if c=k.1 then some [(c:Int),(k.2.1:Int)+1,lvl sp k.2.2 c]else if k.2.1<(if k.1=1 then l1 else l0)then none else some [(c:Int),1,lvl sp k.2.2 c]
def lK':Sp:=fun vs H Q _=>∃(bd rm:Addr) (l0 h0 l1 h1:Nat) (sp:Option Nat) (k:K3) (c:Nat),vs=[.ref bd,.ref rm,.int c]/\IsB H bd l0 h0 l1 h1 sp/\H rm=some (.tup [nV k.1,nV k.2.1,nV k.2.2])/\(bh l0 l1 sp k c=none->∀H',ax' H H'->Q .non H')/\∀z,bh l0 l1 sp k c=some z->∀(p:Addr) (H':Hp),ax' H H'->H' p=some (.tup (z.map V.int))->Q (.ref p) H'
theorem nX' {C:Rc} (hN:C.N.length=11):∀vs H Q E,lK' vs H Q E->tSs C bf' { nx:=fun _ H'=>Q .non H',rt:=Q } (L2.aw' C.N vs) H:=by
 intro vs H Q E h
 obtain⟨bd,rm,l0,h0,l1,h1,sp,⟨b,pl,lv⟩,c,rfl,hB,hrm,q1,q2⟩:=h
 rw[aj' hN]
 unfold bf'
 walk_at "y"
 rw[hD']
 walk_at "y"
 refine pe' (C:=C) (SqT.of hB.at') ?_
 walk_at "y"
 rw[hD']
 walk_at "y"
 refine lg' (SqT.of hrm) ?_
 simp only[nV,fa',bM,bN]
 refine nz' fun N hNx=>?_
 have aA':∀lev:Int,lvl sp lv c=lev->N [some (.ref bd),some (.ref rm),some (.int c),some (.int l0),some (.int h0),some (.int l1),some (.int h1),some (oV sp),some (.int b),some (.int pl),some (.int lev)] H:=by
  intro lev hlev
  refine hNx _ _ ?_
  have e:bh l0 l1 sp (b,pl,lv) c=if c=b then some [(c:Int),(pl:Int)+1,lev]else if pl<(if b=1 then l1 else l0)then none else some [(c:Int),1,lev]:=by
   unfold bh
   rw[<- hlev]
  walk_at "y"
  refine bA' (fun hq=>?_) fun hq=>?_
  .have hq:c=b:=by omega
   walk_at "y"
   refine⟨by show 3<=sizeLine;decide,fun p hp=>?_⟩
   exact q2 _ (by rw[e,if_pos hq]) p _ (ae' hp _) aa'
  have hq:¬c=b:=by omega
  walk_at "y"
  refine bA' (fun hb=>?_) fun hb=>?_
  .have hb:b=1:=by omega
   walk_at "y"
   refine bA' (fun hq2=>?_) fun hq2=>?_
   .walk_at "y"
    exact q1 (by rw[e,if_neg hq,if_pos hb,if_pos (by omega)]) _ (ax'.refl _)
   .walk_at "y"
    refine⟨by show 3<=sizeLine;decide,fun p hp=>?_⟩
    exact q2 _ (by rw[e,if_neg hq,if_pos hb,if_neg (by omega)]) p _ (ae' hp _) aa'
  .have hb:¬b=1:=by omega
   walk_at "y"
   refine bA' (fun hq2=>?_) fun hq2=>?_
   .walk_at "y"
    exact q1 (by rw[e,if_neg hq,if_neg hb,if_pos (by omega)]) _ (ax'.refl _)
   .walk_at "y"
    refine⟨by show 3<=sizeLine;decide,fun p hp=>?_⟩
    exact q2 _ (by rw[e,if_neg hq,if_neg hb,if_neg (by omega)]) p _ (ae' hp _) aa'
 cases sp with
 |none=>
  simp only[oV]
  walk_at "y"
  exact aA' _ rfl
 |some s=>
  simp only[oV]
  walk_at "y"
  rw[xK' (a:=(lv:Int)) rfl]
  walk_at "y"
  refine bA' (fun hq=>?_) fun hq=>?_
  .walk_at "y"
   exact aA' _ (by show(lv:Int)+(if c=1 then 1 else -1)=_;(rw[if_pos (by omega)]<;>rfl))
  .walk_at "y"
   exact aA' _ (by show(lv:Int)+(if c=1 then 1 else -1)=_;(rw[if_neg (by omega)]<;>rfl))
def ixK (ks:List K3) (z:Option (List Int)):Option Nat:=match z with
 |none=>none
 |some z=>ks.findIdx? fun k=>decide (BD.kI k=z)
def plN (ks:List K3) (m:Nat):List (List Key×V):=(aA m).map fun i:Nat=>(kK (ks[i]?.getD (0,0,0)),V.int i)
theorem nY' {ks:List K3} {m:Nat} {k:K3} (h:ks[m]?=some k):plN ks (m+1)=plN ks m++[(kK k,V.int m)]:=by
 unfold plN
 rw[bU,ax]
 simp[h]
theorem rf' {ks:List K3} {z:List Int} (h:∀k∈ks,BD.kI k≠z):ixK ks (some z)=none:=by
 show ks.findIdx? _=none
 rw[List.findIdx?_eq_none_iff]
 intro k hk
 exact decide_eq_false (h k hk)
theorem hL' {ks:List K3} {z:List Int} {i:Nat} {k:K3} (hn:ks.Nodup) (hk:ks[i]?=some k) (hz:BD.kI k=z):ixK ks (some z)=some i:=by
 show ks.findIdx? _=some i
 have hi:=al' hk
 rw[List.findIdx?_eq_some_iff_getElem]
 refine⟨hi,?_,fun j hj=>?_⟩
 .rw[ab hi]at hk
  rw[Option.some.inj hk]
  exact decide_eq_true hz
 .have hjl:j<ks.length:=by omega
  intro hd
  have hd:=of_decide_eq_true hd
  have e:kK ks[j]=kK k:=by unfold kK;rw[hd,hz]
  have e2:=pi' e
  have h1:ks[j]?=some k:=by rw[ab hjl,e2]
  have:=lJ' hn hk
  exact this (az (l:=ks.take i) (i:=j) (by rw[List.getElem?_take,if_pos hj];exact h1))
theorem lL':∀{a b:List Int},(a.map Key.inl:List Key)=b.map Key.inl->a=b
 | [],[],_=>rfl
 | [],_ :: _,h=>by cases h
 |_ :: _,[],h=>by cases h
 |x :: a,y :: b,h=>by
  rw[aH,aH]at h
  injection h with h1 h2
  injection h1 with h1
  rw[h1,lL' h2]
theorem rg' {ks:List K3} (hn:ks.Nodup) (z:List Int):(f9' (plN ks ks.length) (z.map Key.inl)).getD .non=oV (ixK ks (some z)):=by
 have e0:f9' (plN ks ks.length) (z.map Key.inl)=((aA ks.length).find? fun i=>decide (kK (ks[i]?.getD (0,0,0))=z.map Key.inl)).map fun i:Nat=>V.int (i:Int):=by
  unfold f9' plN
  rw[List.find?_map,Option.map_map]
  rfl
 rw[e0]
 cases e:(aA ks.length).find? fun i=>decide (kK (ks[i]?.getD (0,0,0))=z.map Key.inl)with
 |none=>
  rw[List.find?_eq_none]at e
  rw[rf' fun k hk hz=>?_]
  .rfl
  .obtain⟨i,hi⟩:=cy hk
   refine e i (aJ.mpr (al' hi)) (decide_eq_true ?_)
   rw[hi]
   show(BD.kI k).map Key.inl=_
   rw[hz]
 |some i=>
  have h0:=List.find?_some e
  have h1:=of_decide_eq_true h0
  have h2:=aJ.mp (List.mem_of_find?_eq_some e)
  have h3:ks[i]?=some ks[i]:=ab h2
  rw[h3]at h1
  rw[hL' hn h3 (lL' h1)]
  rfl
def mx (l0 l1:Nat) (sp:Option Nat) (ks:List K3) (k:K3):Rm:=(ixK ks (bh l0 l1 sp k 0),ixK ks (bh l0 l1 sp k 1))
def gJ':Sp:=fun vs H Q _=>∃(bd l:Addr) (l0 h0 l1 h1:Nat) (sp:Option Nat) (xs:List V),vs=[.ref bd,.ref l]/\IsB H bd l0 h0 l1 h1 sp/\H l=some (.lst xs)/\cU' (jm' H) xs (rk (lvs sp) h0 h1)/\∀(p:Addr) (H':Hp),ax' H H'->IsM H' p ((rk (lvs sp) h0 h1).map (mx l0 l1 sp (rk (lvs sp) h0 h1)))->Q (.ref p) H'
theorem nR' {ks:List K3} {z:Option (List Int)} {i:Nat} (h:ixK ks z=some i):i<ks.length:=by
 cases z with
 |none=>cases h
 |some z=>exact(List.findIdx?_eq_some_iff_getElem.mp h).1
theorem lM' {C:Rc} (hN:C.N.length=5) (hR:C.fs "room_behind"=some lK'):∀vs H Q E,gJ' vs H Q E->tSs C aE' { nx:=fun _ H'=>Q .non H',rt:=Q } (L2.aw' C.N vs) H:=by
 intro vs H Q E h
 obtain⟨bd,l,l0,h0,l1,h1,sp,xs,rfl,hB,hl,hA,q⟩:=h
 rw[aj' hN]
 unfold aE'
 obtain⟨hrl,hrb⟩:=re' hB.bs hB.b0 hB.b1 (h0:=h0) (h1:=h1)
 have hnd:=vc' (pg' (sp:=sp)) (h0:=h0) (h1:=h1)
 generalize hks:rk (lvs sp) h0 h1=ks at hA q hrl hrb hnd
 have hxl:=hA.len
 walk_at "y"
 refine io' (SqL.of hl) (yQ' (vs:=xs) (fun i b H'=>i<=ks.length/\plT b=plN ks i/\TbT (ks.take i) ks.length b/\okT b H'/\b.length=i/\ax' H H') ⟨aE _,rfl,fun x h=>absurd h av,fun x h=>absurd h av,rfl,ax'.refl _⟩ (fun i b H' pv=>SqL.of (pv.2.2.2.2.2 _ _ hl)) ?_ ?_)
 .rintro i b H1 x p R hx hp ⟨_,hpl,hb,hok,hbl,s1⟩ hR'
  obtain⟨k,hk,pk,rfl,hpk⟩:=hA.getL hx
  have hi:=al' hk
  refine dG' (SqT.of aa') ?_
  have t2:=ae' hp (.tup [.int i,.ref pk])
  have s2:=s1.trans t2
  generalize upd H1 p (.tup [.int i,.ref pk])=H2 at t2 s2 ⊢
  have ok2:okT b H2:=fun y hy=>t2 _ _ (hok y hy)
  walk_at "y"
  refine⟨kK k,pk,rfl,by rw[vd'];exact s2 _ _ hpk,ok2,fun y hy e=>?_,ah' (by omega),hR' _ _ ⟨hi,?_,fun y hy=>?_,fun y hy=>?_,by simp[hbl],s2⟩⟩
  .obtain⟨k',j,hk',e',_⟩:=hb y hy
   have ek:k'=k:=pi' (e'.symm.trans e)
   subst ek
   exact lJ' hnd hk hk'
  .rw[nY' hk,<- hpl]
   unfold plT
   rw[ax]
   rfl
  .rw[gI' hk]
   rcases aw.mp hy with hy|hy
   .obtain⟨k',j,hk',e'⟩:=hb y hy
    exact⟨k',j,aV _ hk',e'⟩
   .have:y=(kK k,pk,V.int i):=by simpa using hy
    subst this
    exact⟨k,i,ah _ (aU.mpr rfl),rfl,rfl,hi⟩
  .rcases aw.mp hy with hy|hy
   .exact ok2 y hy
   .have:y=(kK k,pk,V.int i):=by simpa using hy
    subst this
    show H2 pk=some (.tup ((kK k).map L2.kV))
    rw[vd']
    exact s2 _ _ hpk
 .rintro a H1 ⟨_,hpl,hb,hok,hal,s1⟩
  rw[hxl,aT]at hb
  rw[hxl]at hpl
  refine⟨hok,fun p hp=>?_⟩
  have s2:=s1.trans (ae' hp (.dT (plT a)))
  have hp2:upd H1 p (.dT (plT a)) p=some (.dT (plT a)):=aa'
  generalize upd H1 p (.dT (plT a))=H2 at s2 hp2 ⊢
  have get0:∀{H3:Hp} {Q':VK},ax' H2 H3->Q' (oV (ixK ks none)) H3->hG' p Q' .non H3:=fun s3 q'=>ln' (hb.non hrb (s3 _ _ hp2)) q'
  have get1:∀{H3:Hp} {Q':VK} {pz:Addr} {z:List Int},ax' H2 H3->H3 pz=some (.tup (z.map V.int))->Q' (oV (ixK ks (some z))) H3->hG' p Q' (.ref pz) H3:=by
   intro H3 Q' pz z s3 hz q'
   refine lm' (gS'.t (k:=z.map Key.inl) (s3 _ _ hp2) (by rw[hz,bW];rfl)) ?_
   rw[hpl,rg' hnd]
   exact q'
  walk_at "y"
  refine aT' (SqL.of (s2 _ _ hl)) (gv' (vs:=xs) (fun i ys H'=>i<=ks.length/\cn' H' ys ((ks.take i).map (mx l0 l1 sp ks))/\ax' H2 H') ⟨aE _,trivial,ax'.refl _⟩ (fun i ys H' pv=>SqL.of (pv.2.2 _ _ (s2 _ _ hl))) ?_ ?_)
  .rintro i ys H3 x R hx ⟨_,hR',s3⟩ hRR
   obtain⟨k,hk,pk,rfl,hpk⟩:=hA.getL hx
   have hi:=al' hk
   have s23:=s2.trans s3
   walk_at "y"
   refine fD' (.inr ⟨plT a,.inl (s3 _ _ hp2)⟩) ?_
   refine ai' hR ?_
   walk_at "y"
   have half:∀(H4:Hp),ax' H3 H4->kA1 C (List.set (clr [4] [some (.ref bd),some (.ref l),some (.ref p),none,none]) 4 (some (.ref pk))) (.cons (.dgt (.var 2) (.call "room_behind" (.cons (.var 0) (.cons (.var 4) (.cons (.int 1) .nil))))) .nil) (wb' (hB' ys R)) (oV (ixK ks (bh l0 l1 sp k 0))) H4:=by
    intro H4 s34
    have s4:=s3.trans s34
    walk_at "y"
    refine fD' (.inr ⟨plT a,.inl (s4 _ _ hp2)⟩) ?_
    refine ai' hR ?_
    walk_at "y"
    have second:∀(H5:Hp),ax' H4 H5->kA1 C (List.set (clr [4] [some (.ref bd),some (.ref l),some (.ref p),none,none]) 4 (some (.ref pk))) .nil (kA2 (oV (ixK ks (bh l0 l1 sp k 0))) (wb' (hB' ys R))) (oV (ixK ks (bh l0 l1 sp k 1))) H5:=by
     intro H5 s45
     walk_at "y"
     refine⟨by show 2<=sizeLine;decide,fun p6 hp6=>?_⟩
     have s6:=ae' hp6 (.tup [oV (ixK ks (bh l0 l1 sp k 0)),oV (ixK ks (bh l0 l1 sp k 1))])
     have h6:upd H5 p6 (.tup [oV (ixK ks (bh l0 l1 sp k 0)),oV (ixK ks (bh l0 l1 sp k 1))]) p6=some (.tup [oV (ixK ks (bh l0 l1 sp k 0)),oV (ixK ks (bh l0 l1 sp k 1))]):=aa'
     generalize upd H5 p6 (.tup [oV (ixK ks (bh l0 l1 sp k 0)),oV (ixK ks (bh l0 l1 sp k 1))])=H6 at s6 h6 ⊢
     have hyl:=hR'.len
     rw[aa,aL]at hyl
     refine⟨ah' (by omega),hRR _ _ ⟨hi,?_,(s4.trans s45).trans s6⟩⟩
     rw[gI' hk,ax]
     exact(hR'.mono (ao' (s34.trans (s45.trans s6)))).snoc ⟨p6,rfl,h6⟩
    refine⟨bd,pk,l0,h0,l1,h1,sp,k,1,rfl,hB.mono (ao' (s2.trans s4)),(s2.trans s4) _ _ hpk,fun e H5 s45=>get0 (s4.trans s45) (by rw[<- e];exact second H5 s45),fun z e pz H5 s45 hz=>get1 (s4.trans s45) hz (by rw[<- e];exact second H5 s45)⟩
   refine⟨bd,pk,l0,h0,l1,h1,sp,k,0,rfl,hB.mono (ao' s23),s23 _ _ hpk,fun e H4 s34=>get0 (s3.trans s34) (by rw[<- e];exact half H4 s34),fun z e pz H4 s34 hz=>get1 (s3.trans s34) hz (by rw[<- e];exact half H4 s34)⟩
  .rintro ys H3 ⟨_,hR',s3⟩ p5 hp5
   rw[hxl,aT]at hR'
   walk_at "y"
   have h5:upd H3 p5 (.lst ys) p5=some (.lst ys):=aa'
   have s5:=ae' hp5 (.lst ys)
   generalize upd H3 p5 (.lst ys)=H5 at h5 s5 ⊢
   refine d0' (SqL.of h5) fun p6 hp6=>?_
   have s6:=ae' hp6 (.tup ys)
   exact q p6 _ (s2.trans (s3.trans (s5.trans s6))) ⟨ys,aa',hR'.mono (ao' (s5.trans s6))⟩
theorem x4' {l0 l1:Nat} {sp:Option Nat} {ks:List K3}:OkM (ks.map (mx l0 l1 sp ks)):=by
 intro r hr
 obtain⟨k,_,rfl⟩:=bg.mp hr
 rw[aa]
 exact⟨fun n hn=>nR' hn,fun n hn=>nR' hn⟩
def Sus (M:List Rm) (S:List Nat):Prop:=∀r∈S,r<M.length/\(∃r'∈S,fs1 M r'=some r\/fs2 M r'=some r)/\∃r'∈S,fs1 M r=some r'\/fs2 M r=some r'
theorem nZ' {M:List Rm} {S rs:List Nat} (h:Sus M S) (hs:∀r∈S,r∈rs):∀r∈S,r∈lst M rs:=by
 intro r hr
 obtain⟨_,⟨r1,hr1,e1⟩,⟨r2,hr2,e2⟩⟩:=h r hr
 refine List.mem_filter.mpr ⟨hs r hr,?_⟩
 unfold d1'
 rw[ac]
 constructor
 .unfold ldS
  rw[bK]
  refine⟨r1,hs r1 hr1,?_⟩
  rw[Bool.or_eq_true]
  rcases e1 with e|e
  .left;rw[e];exact decide_eq_true rfl
  .right;rw[e];exact decide_eq_true rfl
 .rw[Bool.or_eq_true]
  rcases e2 with e|e
  .left;rw[e];exact List.contains_iff_mem.mpr (hs r2 hr2)
  .right;rw[e];exact List.contains_iff_mem.mpr (hs r2 hr2)
def eJ':Sp:=fun vs H Q _=>∃(a:Addr) (M:List Rm) (S:List Nat),vs=[.ref a]/\IsM H a M/\M.length<=500/\Sus M S/\∀(p p' l:Addr) (M':List Rm) (rs:List Nat) (H':Hp),ax' H H'->H' p=some (.tup [.ref p',.ref l])->H' l=some (.lst (rs.map nV))->IsM H' p' M'->OkM M'->M'.length=rs.length->rs.length<=M.length->(∀r∈S,r∈rs)->Q (.ref p) H'
theorem i8' {C:Rc} (hN:C.N.length=3) (hL:C.fs "lasting"=some gE') (hP:C.fs "part_of"=some gF'):∀vs H Q E,eJ' vs H Q E->tSs C cz' { nx:=fun _ H'=>Q .non H',rt:=Q } (L2.aw' C.N vs) H:=by
 intro vs H Q E h
 obtain⟨a,M,S,rfl,hM,hM5,hS,q⟩:=h
 rw[aj' hN]
 unfold cz'
 obtain⟨mv,hmv,hmr⟩:=id hM
 walk_at "y"
 refine cc' (SqT.of hmv) ?_
 rw[hmr.len]
 walk_at "y"
 refine eH' fun pr hpr=>?_
 walk_at "y"
 have hsz:((M.length:Int)-0).toNat<=sizeLine:=bu (ah' (by omega))
 refine fB' aa' (by omega) (by omega) (by omega) (by omega) hsz fun p1 hp1=>?_
 rw[show((M.length:Int)-0).toNat=M.length by omega,pd']
 have s1:=(ae' hpr (.rng 0 M.length)).trans (ae' hp1 (.lst ((aA M.length).map nV)))
 have h1:upd (upd H pr (.rng 0 M.length)) p1 (.lst ((aA M.length).map nV)) p1=some (.lst ((aA M.length).map nV)):=aa'
 generalize upd (upd H pr (.rng 0 M.length)) p1 (.lst ((aA M.length).map nV))=H1 at s1 h1 ⊢
 walk_at "y"
 refine ai' hL ?_
 walk_at "y"
 refine⟨a,p1,M,aA M.length,rfl,hM.mono (ao' s1),h1,fun r hr=>aJ.mp hr,by rw[aS];omega,fun p2 H2 _ s2 h2=>?_⟩
 walk_at "y"
 refine o3' (fun m σ H'=>ax' H H'/\∃(l1 l2:Addr) (rs:List Nat),σ=[some (.ref a),some (.ref l1),some (.ref l2)]/\H' l1=some (.lst (rs.map nV))/\H' l2=some (.lst ((lst M rs).map nV))/\(∀r∈rs,r<M.length)/\rs.length<=M.length/\(∀r∈S,r∈rs)/\m=rs.length) _ ⟨s1.trans s2,p1,p2,aA M.length,rfl,s2 _ _ h1,h2,fun r hr=>aJ.mp hr,by rw[aS];omega,fun r hr=>aJ.mpr (hS r hr).1,rfl⟩ ?_
 rintro m σ H3 ⟨s3,l1,l2,rs,rfl,hl1,hl2,hrs,hrl,hSr,rfl⟩
 walk_at "y"
 refine dm' (SqL.of hl2) ?_
 walk_at "y"
 refine dm' (SqL.of hl1) ?_
 rw[aa,aa]
 walk_at "y"
 have hle:=vb' (M:=M) (rs:=rs)
 refine bA' (fun hc=>o4' ?_) fun hc=>o5' ?_
 .walk_at "y"
  refine ai' hL ?_
  walk_at "y"
  refine⟨a,l2,M,lst M rs,rfl,hM.mono (ao' s3),hl2,fun r hr=>hrs r (lH' hr),by omega,fun p4 H4 _ s4 h4=>?_⟩
  walk_at "y"
  exact⟨(lst M rs).length,by omega,s3.trans s4,l2,p4,lst M rs,rfl,s4 _ _ hl2,h4,fun r hr=>hrs r (lH' hr),by omega,nZ' hS hSr,rfl⟩
 .walk_at "y"
  refine ai' hP ?_
  walk_at "y"
  refine⟨a,l1,M,rs,rfl,hM.mono (ao' s3),hM5,hl1,hrs,by omega,fun p4 M' H4 s4 hM4 hO4 hl4=>?_⟩
  walk_at "y"
  refine⟨by show 2<=sizeLine;decide,fun p5 hp5=>?_⟩
  have s5:=ae' hp5 (.tup [.ref p4,.ref l1])
  exact q p5 p4 l1 M' rs _ (s3.trans (s4.trans s5)) aa' (s5 _ _ (s4 _ _ hl1)) (hM4.mono (ao' s5)) hO4 hl4 hrl hSr
theorem ve' {h0 h1:Nat} (h:1<=h0):(rk [0] h0 h1)[0]?=some (0,1,0):=by
 obtain⟨m,rfl⟩:∃m,h0=m+1:=⟨h0-1,by omega⟩
 unfold rk r2 r1
 rw[List.range_succ_eq_map]
 rfl
theorem vf' {h0 h1:Nat} (h:1<=h1):(rk [0] h0 h1)[h0]?=some (1,1,0):=by
 obtain⟨m,rfl⟩:∃m,h1=m+1:=⟨h1-1,by omega⟩
 unfold rk
 have hl:(r2 [0] 0 h0).length=h0:=by rw[d7'];simp
 rw[List.getElem?_append_right (by omega),hl,Nat.sub_self]
 unfold r2 r1
 rw[List.range_succ_eq_map]
 rfl
def gK':Sp:=fun vs H Q _=>∃(bd:Addr) (h0 h1:Nat),vs=[.ref bd]/\IsB H bd 1 h0 1 h1 none/\1<=h0/\1<=h1/\∀(p:Addr) (M:List Rm) (H':Hp),ax' H H'->IsM H' p M->OkM M->1<=M.length->M.length<=h0+h1->Q (.ref p) H'
theorem lN' {C:Rc} (hN:C.N.length=3) (hT:C.fs "trimmed"=some eJ') (hM:C.fs "machine_in_bounds"=some gJ') (hR:C.fs "rooms_in_bounds"=some lI'):∀vs H Q E,gK' vs H Q E->tSs C bo' { nx:=fun _ H'=>Q .non H',rt:=Q } (L2.aw' C.N vs) H:=by
 intro vs H Q E h
 obtain⟨bd,h0,h1,rfl,hB,hh0,hh1,q⟩:=h
 rw[aj' hN]
 unfold bo'
 have hrl:=(re' hB.bs hB.b0 hB.b1 (h0:=h0) (h1:=h1)).1
 walk_at "y"
 rw[hD']
 refine ai' hT ?_
 walk_at "y"
 refine ai' hM ?_
 walk_at "y"
 refine ai' hR ?_
 walk_at "y"
 refine⟨bd,1,h0,1,h1,none,rfl,hB,fun p xs H1 s1 hp hA=>?_⟩
 walk_at "y"
 refine⟨bd,p,1,h0,1,h1,none,xs,rfl,hB.mono (ao' s1),hp,hA,fun p2 H2 s2 hM2=>?_⟩
 have hnd:=vc' (pg' (sp:=none)) (h0:=h0) (h1:=h1)
 have e0:(rk (lvs none) h0 h1)[0]?=some (0,1,0):=ve' hh0
 have e1:(rk (lvs none) h0 h1)[h0]?=some (1,1,0):=vf' hh1
 have hkl:(rk (lvs none) h0 h1).length=h0+h1:=by
  unfold rk
  rw[al,d7',d7']
  simp[lvs]
 have hO2:=x4' (l0:=1) (l1:=1) (sp:=none) (ks:=rk (lvs none) h0 h1)
 generalize rk (lvs none) h0 h1=ks at hM2 hrl hnd e0 e1 hkl hO2
 walk_at "y"
 have f0:fs2 (ks.map (mx 1 1 none ks)) 0=some h0:=by
  unfold fs2
  rw[ap,e0]
  show ixK ks (some [1,1,0])=some h0
  exact hL' hnd e1 rfl
 have f1:fs1 (ks.map (mx 1 1 none ks)) h0=some 0:=by
  unfold fs1
  rw[ap,e1]
  show ixK ks (some [0,1,0])=some 0
  exact hL' hnd e0 rfl
 have hml:(ks.map (mx 1 1 none ks)).length=h0+h1:=by rw[aa,hkl]
 have hS:Sus (ks.map (mx 1 1 none ks)) [0,h0]:=by
  intro r hr
  rcases ak.mp hr with rfl|hr
  .exact⟨by omega,⟨h0,by simp,.inl f1⟩,⟨h0,by simp,.inr f0⟩⟩
  .cases aU.mp hr
   exact⟨by omega,⟨0,by simp,.inr f0⟩,⟨0,by simp,.inl f1⟩⟩
 refine⟨p2,_,[0,h0],rfl,hM2,by omega,hS,fun p3 p' l M' rs H3 s3 hp3 hl3 hM3 hO3 hlm hle hin=>?_⟩
 refine hE' (SqT.of hp3) ?_
 walk_at "y"
 have hne:rs.length≠0:=fun z=>by
  have:=hin 0 (by simp)
  rw[List.eq_nil_of_length_eq_zero z]at this
  cases this
 exact q p' M' H3 (s1.trans (s2.trans s3)) hM3 hO3 (by omega) (by omega)
end BE
namespace K31
open PySem PySem.Spec PyProof.Rows L2 R3 LW
def bF':Css:=(.cons (.ret (.and (.call "is_number" (.cons (.var 0) .nil)) (.and (.call "is_number" (.cons (.var 1) .nil)) (.and (.cmp .GtE (.var 0) (.int 0)) (.cmp .GtE (.var 1) (.int 0))))))
  .nil)
def bG':Css:=(.cons (.asg (.name 3) (.blt .list (.cons (.var 1) .nil)))
  (.cons (.for_ (.name 4) (.range1 (.var 2)) (.cons (.asg (.name 3) (.call "way_sums" (.cons (.var 0) (.cons (.var 3) .nil))))
  .nil))
  (.cons (.ret (.var 3))
  .nil)))
def bH':Css:=(.cons (.ret (.blt .all (.cons (.comp (.cmp .LtE (.met .bitlen (.var 2) .nil) (.var 1)) [2] (.name 2) (.val (.var 0)) .none .nil) .nil)))
  .nil)
def bp':Css:=(.cons (.asg (.name 4) (.comp (.int 1) [5] (.name 5) (.val (.var 0)) .none .nil))
  (.cons (.for_ (.name 6) (.range2 (.int 1) (.bin .Add (.var 3) (.int 1))) (.cons (.asg (.name 4) (.call "walk_sums" (.cons (.var 0) (.cons (.var 4) (.cons (.var 2) .nil)))))
  (.cons (.ite (.val (.call "are_below" (.cons (.var 4) (.cons (.bin .Mult (.var 1) (.var 6)) .nil)))) (.cons (.ret (.tup (.cons (.var 6) (.cons (.var 4) .nil))))
  .nil) .nil)
  .nil)))
  (.cons (.ret .non)
  .nil)))
def aI':Css:=(.cons (.ite (.not (.and (.val (.call "is_machine" (.cons (.var 0) .nil))) (.val (.call "are_sizes" (.cons (.var 1) (.cons (.var 2) .nil)))))) (.cons (.ret (.bl false))
  .nil) .nil)
  (.cons (.ite (.not (.and (.val (.call "is_within" (.cons (.var 3) (.cons (.int 1) (.cons (.gint "LAST_PAPER" 400) .nil))))) (.val (.call "are_numbers" (.cons (.var 4) (.cons (.blt .len (.cons (.var 0) .nil)) .nil)))))) (.cons (.ret (.bl false))
  .nil) .nil)
  (.cons (.ret (.and (.cmp .Eq (.blt .list (.cons (.var 4) .nil)) (.call "walk_sums" (.cons (.var 0) (.cons (.comp (.int 1) [5] (.name 5) (.val (.var 0)) .none .nil) (.cons (.bin .Mult (.var 2) (.var 3)) .nil))))) (.call "are_below" (.cons (.var 4) (.cons (.bin .Mult (.var 1) (.var 3)) .nil)))))
  .nil)))
def ec':Css:=(.cons (.asg (.name 4) (.lst (.cons (.var 3) .nil)))
  (.cons (.for_ (.name 5) (.range1 (.var 1)) (.cons (.asg (.name 6) (.lst .nil))
  (.cons (.for_ (.name 7) (.val (.var 4)) (.cons (.expr (.met .extend (.var 6) (.cons (.comp (.var 8) [8] (.name 8) (.val (.idx (.var 0) (.var 7))) (.some (.cmp .IsNot (.var 8) .non)) .nil) .nil)))
  .nil))
  (.cons (.asg (.name 4) (.var 6))
  .nil))))
  (.cons (.ret (.blt .sum (.cons (.comp (.idx (.var 2) (.var 7)) [7] (.name 7) (.val (.var 4)) .none .nil) .nil)))
  .nil)))
def fJ':Css:=(.cons (.asg (.name 1) (.bin .Add (.int 1) (.idx (.lst (.cons (.int 0) (.cons (.int 0) (.cons (.int 1) (.cons (.int 2) (.cons (.int 3) .nil)))))) (.call "_law_take" (.cons (.var 0) (.cons (.int 5) .nil))))))
  (.cons (.ret (.tup (.cons (.var 1) (.cons (.blt .min (.cons (.int 8) (.cons (.bin .Add (.var 1) (.idx (.lst (.cons (.int 0) (.cons (.int 1) (.cons (.int 1) (.cons (.int 2) (.cons (.int 2) (.cons (.int 3) (.cons (.int 4) .nil)))))))) (.call "_law_take" (.cons (.var 0) (.cons (.int 7) .nil))))) .nil))) .nil))))
  .nil))
def bI':Css:=(.cons (.asg (.name 1) (.call "_law_take" (.cons (.var 0) (.cons (.int 4) .nil))))
  (.cons (.ite (.cmp .Eq (.var 1) (.int 0)) (.cons (.asg (.name 2) (.lst (.cons (.bin .Add (.int 1) (.call "_law_take" (.cons (.var 0) (.cons (.int 3) .nil)))) (.cons (.bin .Add (.int 1) (.call "_law_take" (.cons (.var 0) (.cons (.int 3) .nil)))) .nil))))
  (.cons (.ret (.call "machine_of" (.cons (.tup (.cons (.int 1) (.cons (.idx (.var 2) (.int 0)) (.cons (.int 1) (.cons (.idx (.var 2) (.int 1)) (.cons .non .nil)))))) .nil)))
  .nil)) .nil)
  (.cons (.asg (.name 3) (.call "_law_many" (.cons (.var 0) (.cons (.int 1) (.cons (.int 5) (.cons (.int 12) .nil))))))
  (.cons (.ite (.cmp .Eq (.var 1) (.int 1)) (.cons (.ret (.call "_law_ring_machine" (.cons (.var 0) (.cons (.var 3) .nil))))
  .nil) .nil)
  (.cons (.ret (.call "_law_machine" (.cons (.var 0) (.cons (.var 3) .nil))))
  .nil)))))
def fK':Css:=(.cons (.asg (.name 1) (.call "_law_any_machine" (.cons (.var 0) .nil)))
  (.cons (.asg (.tup (.cons (.name 2) (.cons (.name 3) .nil))) (.call "_law_rates" (.cons (.var 0) .nil)))
  (.cons (.ite (.cmp .Gt (.blt .max (.cons (.comp (.call "_law_behind" (.cons (.var 1) (.cons (.var 3) (.cons (.bin .Mult (.lst (.cons (.int 1) .nil)) (.blt .len (.cons (.var 1) .nil))) (.cons (.var 4) .nil))))) [4] (.name 4) (.range1 (.blt .len (.cons (.var 1) .nil))) .none .nil) .nil)) (.int 40)) (.cons (.asg (.tup (.cons (.name 2) (.cons (.name 3) .nil))) (.tup (.cons (.int 1) (.cons (.int 2) .nil))))
  .nil) .nil)
  (.cons (.ret (.tup (.cons (.var 1) (.cons (.var 2) (.cons (.var 3) .nil)))))
  .nil))))
open SR CK RW TM BD BE
def wN (M:List Rm) (n:Nat):List Nat:=(aA M.length).map (wy M none n)
theorem yY' {M:List Rm} {n:Nat}:(wyL M none n).map V.int=(wN M n).map nV:=by
 unfold wyL wN
 rw[bW,bW]
 rfl
theorem dK' {M:List Rm} {n:Nat}:(wN M n).length=M.length:=by unfold wN;simp
theorem wN0 {M:List Rm}:wN M 0=ao M.length 1:=by
 apply bx
 intro i
 unfold wN
 rw[ap]
 by_cases h:i<M.length
 .rw[bz h,List.getElem?_replicate,if_pos h]
  rfl
 .rw[bC (by simpa using h),List.getElem?_replicate,if_neg h]
  rfl
def pj':Sp:=fun vs H Q _=>∃(a b:Addr) (M:List Rm) (n q:Nat),vs=[.ref a,.ref b,.int q]/\IsM H a M/\OkM M/\M.length<=500/\q<=900/\H b=some (.lst ((wN M n).map nV))/\∀p H',H p=none->ax' H H'->H' p=some (.lst ((wN M (n+q)).map nV))->Q (.ref p) H'
def bel (b:Nat) (ns:List Nat):Bool:=ns.all fun c=>decide (c<2 ^ b)
theorem rh' {c p:Nat}:decide (((Builtin.Int.intBits (c:Int):Nat):Int)<=(p:Int))=decide (c<2 ^ p):=by
 unfold Builtin.Int.intBits
 rw[Int.natAbs_natCast]
 by_cases hc:c=0
 .subst hc
  have:=Nat.two_pow_pos p
  simp[this]
 .rw[if_neg (by simpa using hc)]
  apply decide_eq_decide.mpr
  rw[<- Nat.log2_lt hc]
  omega
def bV':Sp:=fun vs H Q _=>∃(c:Addr) (ns:List Nat) (b:Nat),vs=[.ref c,.int b]/\Lt H c (ns.map nV)/\ns.length<=900/\∀H',ax' H H'->Q (.bl (bel b ns)) H'
theorem i9' {C:Rc} (hN:C.N.length=3):∀vs H Q E,bV' vs H Q E->tSs C bH' { nx:=fun _ H'=>Q .non H',rt:=Q } (L2.aw' C.N vs) H:=by
 intro vs H Q E h
 obtain⟨c,ns,b,rfl,hc,hl,q⟩:=h
 rw[aj' hN]
 unfold bH'
 walk_at "y"
 refine nQ' hc (fun i xs H'=>i<=ns.length/\xs=((ns.take i).map fun c=>decide (c<2 ^ b)).map V.bl/\H'=H) ⟨aE _,rfl,rfl⟩ (fun i xs H' pv=>by rw[pv.2.2];exact ax'.refl _) ?_ ?_
 .rintro i xs H' x R hx ⟨_,rfl,rfl⟩ hR
  rw[ap]at hx
  obtain⟨n,hn,rfl⟩:=bn.mp hx
  have hi:=al' hn
  simp only[nV]
  walk_at "y"
  refine⟨rfl,?_⟩
  walk_at "y"
  rw[rh']
  refine⟨by rw[aa,aa,aL];exact ah' (by omega),hR _ _ ⟨hi,?_,rfl⟩⟩
  rw[aW,hn,ax,ax]
  rfl
 .rintro xs H' ⟨_,rfl,rfl⟩ p hp
  walk_at "y"
  refine ip' (SqL.of aa') ?_
  rw[aa,aT,show(ns.map fun c=>decide (c<2 ^ b)).all id=bel b ns by unfold bel;rw[List.all_map];rfl]
  exact q _ (ae' hp _)
def okm (M:List Rm) (p q m:Nat):Bool:=bel (p*m) (wN M (q*m))
def Hit (M:List Rm) (p q most:Nat) (o:Option Nat):Prop:=(o=none/\∀j,j<most->okm M p q (j+1)=false)\/∃i,i<most/\o=some (i+1)/\okm M p q (i+1)=true/\∀j,j<i->okm M p q (j+1)=false
def Res (H0 H:Hp) (M:List Rm) (q:Nat) (v:V):Option Nat->Prop
 |none=>v=.non
 |some m=>∃t c,v=.ref t/\H t=some (.tup [.int m,.ref c])/\H0 c=none/\H c=some (.lst ((wN M (q*m)).map nV))
def r1':Sp:=fun vs H Q _=>∃(a:Addr) (M:List Rm) (p q most:Nat),vs=[.ref a,.int p,.int q,.int most]/\IsM H a M/\OkM M/\M.length<=100/\p<=8/\q<=8/\most<=100/\∀v o H',ax' H H'->Hit M p q most o->Res H H' M q v o->Q v H'
theorem hM' {M:List Rm} {i:Nat}:(ao i 1:List Nat).map nV++[V.int 1]=(ao (i+1) 1).map nV:=by
 rw[cw,ax]
 rfl
def cA':Sp:=fun vs H Q _=>∃(p q:Nat),vs=[.int p,.int q]/\Q (.bl true) H
theorem ja' {C:Rc} (hN:C.N.length=2) (hI:C.fs "is_number"=some bU'):∀vs H Q E,cA' vs H Q E->tSs C bF' { nx:=fun _ H'=>Q .non H',rt:=Q } (L2.aw' C.N vs) H:=by
 intro vs H Q E h
 obtain⟨p,q',rfl,q⟩:=h
 rw[aj' hN]
 unfold bF'
 walk_at "y"
 refine ai' hI ?_
 walk_at "y"
 refine⟨_,rfl,.inl ⟨p,rfl⟩,?_⟩
 simp only[isN]
 walk_at "y"
 refine ai' hI ?_
 walk_at "y"
 refine⟨_,rfl,.inl ⟨q',rfl⟩,?_⟩
 simp only[isN]
 walk_at "y"
 rw[decide_eq_true (show(0:Int)<=p by omega)]
 walk_at "y"
 rw[decide_eq_true (show(0:Int)<=q' by omega)]
 exact q
def vg':Sp:=fun vs H Q _=>∃(a c:Addr) (M:List Rm) (p q m:Nat) (ns:List Nat),vs=[.ref a,.int p,.int q,.int m,.ref c]/\IsM H a M/\OkM M/\M.length<=60/\p<=8/\q<=8/\1<=m/\m<=100/\Lt H c (ns.map nV)/\ns.length<=60/\∀H',ax' H H'->Q (.bl (decide (ns=wN M (q*m))&&bel (p*m) ns)) H'
structure FsShow (C:Rc):Prop where
 isM:C.fs "is_machine"=some fG'
 sizes:C.fs "are_sizes"=some cA'
 within:C.fs "is_within"=some nO'
 areN:C.fs "are_numbers"=some dJ'
 walk:C.fs "walk_sums"=some pj'
 below:C.fs "are_below"=some bV'
def iN (l:List Nat):List V:=l.map nV
theorem pk' {l:List Nat} {i:Nat} {x:V} (h:(iN l)[i]?=some x):∃n,l[i]?=some n/\x=.int n:=by
 unfold iN at h
 rw[ap]at h
 obtain⟨n,hn,rfl⟩:=bn.mp h
 exact⟨n,hn,rfl⟩
def lds (r:Rm):List Nat:=[r.1,r.2].filterMap id
theorem ri' {r:Rm}:(lds r).length<=2:=List.length_filterMap_le _ _
theorem rj' {K:W.Frag} {H:Hp} {Q:VK} {a b:Addr} {xs zs:List V} (h:H a=some (.lst xs)) (h2:H b=some (.lst zs)) (hz:xs.length+zs.length<=sizeLine) (q:Q .non (upd H a (.lst (xs++zs)))):kE' K .extend (.ref a) [.ref b] H Q:=⟨a,b,xs,zs,rfl,rfl,h,h2,hz,q⟩
def eK':Sp:=fun vs H Q _=>∃(b:Addr) (n:Nat),vs=[.ref b]/\H b=some (dF' b n)/\n<=2 ^ 38/\∀(t:Addr) (p q:Nat) H',Go 2 H H'->1<=p->p<=4->1<=q->q<=8->p<=q->H' t=some (.tup [.int p,.int q])->Q (.ref t) H'
theorem jb' {C:Rc} (hN:C.N.length=2) (hT:C.fs "_law_take"=some aH'):∀vs H Q E,eK' vs H Q E->tSs C fJ' { nx:=fun _ H'=>Q .non H',rt:=Q } (L2.aw' C.N vs) H:=by
 intro vs H Q E h
 obtain⟨b,n,rfl,hb,hn,q⟩:=h
 rw[aj' hN]
 unfold fJ'
 walk_at "y"
 refine⟨by decide,fun l1 hl1=>?_⟩
 have g1:Go 0 H (upd H l1 (.lst [.int 0,.int 0,.int 1,.int 2,.int 3])):=Go.new hl1 _
 have hl1':upd H l1 (.lst [.int 0,.int 0,.int 1,.int 2,.int 3]) l1=some (.lst [.int 0,.int 0,.int 1,.int 2,.int 3]):=aa'
 generalize upd H l1 (.lst [.int 0,.int 0,.int 1,.int 2,.int 3])=H1 at g1 hl1' ⊢
 refine ai' hT ?_
 walk_at "y"
 refine a7' hb g1 (by omega) (by decide) (by decide) fun x0 H2 hx0 hx1 g2 g02=>?_
 obtain⟨x,rfl⟩:=aM hx0
 obtain⟨y,ey,hy⟩:∃y:Nat,atI [V.int 0,.int 0,.int 1,.int 2,.int 3] (x:Int)=some (.int y)/\y<=3:=by
  match x,hx1 with
  |0,_=>exact⟨0,rfl,by omega⟩
  |1,_=>exact⟨0,rfl,by omega⟩
  |2,_=>exact⟨1,rfl,by omega⟩
  |3,_=>exact⟨2,rfl,by omega⟩
  |4,_=>exact⟨3,rfl,by omega⟩
  |x+5,h=>omega
 walk_at "y"
 refine aV' (SqL.of (g2.lst hl1')) ey ?_
 walk_at "y"
 refine⟨by decide,fun l2 hl2=>?_⟩
 have g3:Go 1 H (upd H2 l2 (.lst [.int 0,.int 1,.int 1,.int 2,.int 2,.int 3,.int 4])):=(g02.trans (Go.new (c:=0) hl2 _)).mono (by omega)
 have hl3':upd H2 l2 (.lst [.int 0,.int 1,.int 1,.int 2,.int 2,.int 3,.int 4]) l2=some (.lst [.int 0,.int 1,.int 1,.int 2,.int 2,.int 3,.int 4]):=aa'
 generalize upd H2 l2 (.lst [.int 0,.int 1,.int 1,.int 2,.int 2,.int 3,.int 4])=H3 at g3 hl3' ⊢
 refine ai' hT ?_
 walk_at "y"
 refine a7' hb g3 (by omega) (by decide) (by decide) fun z0 H4 hz0 hz1 g4 g04=>?_
 obtain⟨z,rfl⟩:=aM hz0
 obtain⟨w,ew,hw⟩:∃w:Nat,atI [V.int 0,.int 1,.int 1,.int 2,.int 2,.int 3,.int 4] (z:Int)=some (.int w)/\w<=4:=by
  match z,hz1 with
  |0,_=>exact⟨0,rfl,by omega⟩
  |1,_=>exact⟨1,rfl,by omega⟩
  |2,_=>exact⟨1,rfl,by omega⟩
  |3,_=>exact⟨2,rfl,by omega⟩
  |4,_=>exact⟨2,rfl,by omega⟩
  |5,_=>exact⟨3,rfl,by omega⟩
  |6,_=>exact⟨4,rfl,by omega⟩
  |z+7,h=>omega
 walk_at "y"
 refine aV' (SqL.of (g4.lst hl3')) ew ?_
 walk_at "y"
 obtain⟨r,er,hr1,hr8,hyr⟩:∃r:Nat,(if(1+(y:Int)+(w:Int))<8 then(1+(y:Int)+(w:Int))else 8)=(r:Int)/\1<=r/\r<=8/\1+y<=r:=by
  split
  .exact⟨1+y+w,by omega,by omega,by omega,by omega⟩
  .exact⟨8,rfl,by omega,by omega,by omega⟩
 rw[er]
 refine⟨by decide,fun t ht=>?_⟩
 rw[show(1:Int)+(y:Int)=((1+y:Nat):Int) by omega]
 exact q t (1+y) r _ ((g04.trans (Go.new (c:=0) ht _)).mono (by omega)) (by omega) (by omega) hr1 hr8 hyr aa'
def gL':Sp:=fun vs H Q _=>∃(b:Addr) (n:Nat),vs=[.ref b]/\H b=some (dF' b n)/\n<=2 ^ 38/\∀(a:Addr) (M:List Rm) (H':Hp),Go 1000 H H'->IsM H' a M->OkM M->1<=M.length->M.length<=12->Q (.ref a) H'
theorem lO' {C:Rc} (hN:C.N.length=4) (hT:C.fs "_law_take"=some aH') (hMo:C.fs "machine_of"=some gK') (hMy:C.fs "_law_many"=some gy') (hRi:C.fs "_law_ring_machine"=some (di' 1 60 400)) (hMa:C.fs "_law_machine"=some (di' 1 60 400)):∀vs H Q E,gL' vs H Q E->tSs C bI' { nx:=fun _ H'=>Q .non H',rt:=Q } (L2.aw' C.N vs) H:=by
 intro vs H Q E h
 obtain⟨b,n,rfl,hb,hn,q⟩:=h
 rw[aj' hN]
 unfold bI'
 walk_at "y"
 refine ai' hT ?_
 walk_at "y"
 refine⟨b,n,_,rfl,hb,by omega,by omega,by omega,fun w H0 h00 h01 g0=>?_⟩
 obtain⟨n0,hb0,hn0,_⟩:=g0.boxed hb (by omega)
 walk_at "y"
 refine bA' (fun hq=>?_) fun hq=>?_
 .walk_at "y"
  refine ai' hT ?_
  walk_at "y"
  refine⟨b,n0,_,rfl,hb0,by omega,by omega,by omega,fun x0 H1 hx0 hx1 g1=>?_⟩
  obtain⟨n1,hb1,hn1,_⟩:=g1.boxed hb0 (by omega)
  walk_at "y"
  refine ai' hT ?_
  walk_at "y"
  refine⟨b,n1,_,rfl,hb1,by omega,by omega,by omega,fun y0 H2 hy0 hy1 g2=>?_⟩
  obtain⟨x,rfl⟩:=aM hx0
  obtain⟨y,rfl⟩:=aM hy0
  walk_at "y"
  refine⟨by decide,fun l hl=>?_⟩
  have s3:=ae' hl (.lst [.int (1+(x:Int)),.int (1+(y:Int))])
  have hl3:upd H2 l (.lst [.int (1+(x:Int)),.int (1+(y:Int))]) l=some (.lst [.int (1+(x:Int)),.int (1+(y:Int))]):=aa'
  generalize upd H2 l (.lst [.int (1+(x:Int)),.int (1+(y:Int))])=H3 at s3 hl3 ⊢
  walk_at "y"
  refine ai' hMo ?_
  walk_at "y"
  refine aV' (SqL.of hl3) zC' ?_
  walk_at "y"
  refine aV' (SqL.of hl3) (v:=.int _) (aY' (j:=1) rfl) ?_
  walk_at "y"
  refine⟨by decide,fun t ht=>?_⟩
  have s4:=ae' ht (.tup [.int 1,.int (1+(x:Int)),.int 1,.int (1+(y:Int)),.non])
  have ht4:upd H3 t (.tup [.int 1,.int (1+(x:Int)),.int 1,.int (1+(y:Int)),.non]) t=some (.tup [.int 1,.int (1+(x:Int)),.int 1,.int (1+(y:Int)),.non]):=aa'
  generalize upd H3 t (.tup [.int 1,.int (1+(x:Int)),.int 1,.int (1+(y:Int)),.non])=H4 at s4 ht4 ⊢
  refine⟨t,1+x,1+y,rfl,⟨?_,by omega,by omega,fun s z=>by cases z⟩,by omega,by omega,fun p M H5 s5 hM hO h1 hl5=>?_⟩
  .rw[ht4]
   simp only[nV,oV]
   rw[show((1+x:Nat):Int)=1+(x:Int) by omega,show((1+y:Nat):Int)=1+(y:Int) by omega]
   rfl
  .exact q p M H5 ((((g0.trans g1).trans g2).trans (Go.of_same (c:=0) (s3.trans (s4.trans s5)))).mono (by omega)) hM hO h1 (by omega)
 .walk_at "y"
  refine ai' hMy ?_
  walk_at "y"
  refine⟨b,n0,1,5,12,rfl,hb0,by omega,by omega,by omega,by omega,by omega,by omega,fun r H2 hr g2=>?_⟩
  obtain⟨r,rfl⟩:=aM (show 0<=r by omega)
  obtain⟨n2,hb2,hn2,_⟩:=g2.boxed hb0 (by omega)
  walk_at "y"
  refine bA' (fun hq=>?_) fun hq=>?_
  .walk_at "y"
   refine ai' hRi ?_
   walk_at "y"
   exact⟨b,n2,r,rfl,hb2,by omega,by omega,by omega,fun a M H3 g3 hM hO hl=>q a M H3 (((g0.trans g2).trans g3).mono (by omega)) hM hO (by omega) (by omega)⟩
  .walk_at "y"
   refine ai' hMa ?_
   walk_at "y"
   exact⟨b,n2,r,rfl,hb2,by omega,by omega,by omega,fun a M H3 g3 hM hO hl=>q a M H3 (((g0.trans g2).trans g3).mono (by omega)) hM hO (by omega) (by omega)⟩
theorem pl':∀{m:Nat},(ao m [V.int 1]).flatten=(ao m (1:Int)).map V.int
 |0=>rfl
 |m+1=>by rw[bv,bw,pl',bv,aH];rfl
def cB':Sp:=fun vs H Q _=>∃(b:Addr) (n:Nat),vs=[.ref b]/\H b=some (dF' b n)/\n<=2 ^ 37/\∀(t a:Addr) (M:List Rm) (p q:Nat) (H':Hp),Go 1100 H H'->H' t=some (.tup [.ref a,.int p,.int q])->IsM H' a M->OkM M->1<=M.length->M.length<=12->1<=p->p<=4->1<=q->q<=8->p<=q->Q (.ref t) H'
def vh':Sp:=fun vs H Q _=>∃(a:Addr) (M:List Rm) (p q most:Nat),vs=[.ref a,.int p,.int q,.int most]/\IsM H a M/\OkM M/\1<=M.length/\M.length<=100/\p<=8/\q<=8/\most<=100/\∀v o H',ax' H H'->Hit M p q most o->Res H H' M q v o->Q v H'
theorem rk' {M:List Rm} {n:Nat}:(aA M.length).map (fun r=>((wy M none (n+1) r:Nat):Int))=wyL M none (n+1):=rfl
structure FsRight (C:Rc):Prop where
 take:C.fs "_law_take"=some aH'
 asked:C.fs "_law_asked"=some cB'
 due:C.fs "_law_due"=some vh'
 tl:C.fs "too_little"=some r1'
 same:C.fs "_law_same"=some (o9' 2)
 shows:C.fs "shows_too_little"=some vg'
end K31
namespace K30
open PySem PySem.Spec PyProof.Rows L2 R3 LW
def bq':Css:=(.cons (.asg (.name 3) (.lst (.cons (.tup (.cons (.str "") (.cons (.var 1) .nil))) .nil)))
  (.cons (.for_ (.name 4) (.range1 (.var 2)) (.cons (.asg (.name 3) (.comp (.tup (.cons (.bin .Add (.var 5) (.var 7)) (.cons (.idx (.idx (.var 0) (.var 6)) (.blt .int (.cons (.var 7) .nil))) .nil))) [5,6,7] (.tup (.cons (.name 5) (.cons (.name 6) .nil))) (.val (.var 3)) .none (.cons [7] (.name 7) (.val (.str "01")) (.some (.cmp .IsNot (.idx (.idx (.var 0) (.var 6)) (.blt .int (.cons (.var 7) .nil))) .non)) .nil)))
  .nil))
  (.cons (.ret (.var 3))
  .nil)))
def cC':Css:=(.cons (.ret (.comp (.call "walks_from" (.cons (.var 0) (.cons (.var 2) (.cons (.var 1) .nil)))) [2] (.name 2) (.range1 (.blt .len (.cons (.var 0) .nil))) .none .nil))
  .nil)
def b5':Css:=(.cons (.asg (.name 2) (.comp (.lst .nil) [3] (.name 3) (.val (.var 0)) .none .nil))
  (.cons (.for_ (.tup (.cons (.name 3) (.cons (.name 4) .nil))) (.enum (.call "powered" (.cons (.var 0) (.cons (.var 1) .nil)))) (.cons (.for_ (.tup (.cons (.name 5) (.cons (.name 6) .nil))) (.val (.var 4)) (.cons (.expr (.met .append (.idx (.var 2) (.var 6)) (.cons (.var 3) .nil)))
  .nil))
  .nil))
  (.cons (.ret (.var 2))
  .nil)))
def aP':Css:=(.cons (.asg (.name 4) (.blt .list (.cons (.var 3) .nil)))
  (.cons (.asg (.name 5) (.call "walk_sums" (.cons (.var 0) (.cons (.var 4) (.cons (.var 2) .nil)))))
  (.cons (.asg (.name 6) (.call "walks_to" (.cons (.var 0) (.cons (.var 2) .nil))))
  (.cons (.asg (.name 7) (.blt .list (.cons (.blt .range (.cons (.blt .len (.cons (.var 0) .nil)) .nil)) .nil)))
  (.cons (.whl (.val (.var 7)) (.cons (.asg (.name 8) (.met .popL (.var 7) .nil))
  (.cons (.asg (.name 9) (.bin .Sub (.idx (.var 4) (.var 8)) (.bin .RShift (.idx (.var 5) (.var 8)) (.var 1))))
  (.cons (.ite (.cmp .Gt (.var 9) (.int 0)) (.cons (.augS (.var 4) (.var 8) true (.var 9))
  (.cons (.for_ (.name 10) (.val (.idx (.var 6) (.var 8))) (.cons (.augS (.var 5) (.var 10) true (.var 9))
  .nil))
  (.cons (.expr (.met .extend (.var 7) (.cons (.idx (.var 6) (.var 8)) .nil)))
  .nil))) .nil)
  .nil))))
  (.cons (.ret (.var 4))
  .nil))))))
def c8':Css:=(.cons (.asg (.name 4) (.call "greatest_within" (.cons (.var 0) (.cons (.var 1) (.cons (.var 2) (.cons (.comp (.var 3) [5] (.name 5) (.val (.var 0)) .none .nil) .nil))))))
  (.cons (.ret (.ife (.val (.blt .anyI (.cons (.var 4) .nil))) (.var 4) .non))
  .nil))
open SR CK RW TM BD BE K31
def dr (M:List Rm) (r:Nat):List Nat:=(LW.stp M r false).toList++(LW.stp M r true).toList
def en (M:List Rm):Nat->Nat->List Nat
 |0,r=>[r]
 |n+1,r=>(en M n r).flatMap (dr M)
def ss (M:List Rm) (n:Nat) (w:Nat->Nat) (r:Nat):Nat:=((en M n r).map w).sum
def st1 (M:List Rm) (w:Nat->Nat) (r:Nat):Nat:=ow w (LW.stp M r false)+ow w (LW.stp M r true)
theorem pm' {w:Nat->Nat} {o:Option Nat}:ow w o=(o.toList.map w).sum:=by cases o<;>simp[ow]
theorem vi' {M:List Rm} {w:Nat->Nat} {r:Nat}:st1 M w r=((dr M r).map w).sum:=by
 unfold st1 dr
 rw[ax,List.sum_append,pm',pm']
theorem iy' (f:Nat->List Nat) (w:Nat->Nat):∀l:List Nat,((l.flatMap f).map w).sum=(l.map fun e=>((f e).map w).sum).sum
 | []=>rfl
 |x :: l=>by rw[List.flatMap_cons,ax,List.sum_append,aH,bG,iy' f w l]
theorem rl' {M:List Rm} {n:Nat} {w:Nat->Nat} {r:Nat}:ss M (n+1) w r=ss M n (st1 M w) r:=by
 unfold ss
 rw[show en M (n+1) r=(en M n r).flatMap (dr M) from rfl,iy']
 congr 1
 exact bJ fun e _=>vi'.symm
def it (M:List Rm) (w:Nat->Nat):Nat->Nat->Nat
 |0=>w
 |n+1=>st1 M (it M w n)
theorem lP' {M:List Rm}:∀{n:Nat} {w:Nat->Nat},it M w (n+1)=it M (st1 M w) n
 |0,w=>rfl
 |n+1,w=>by
  show st1 M (it M w (n+1))=st1 M (it M (st1 M w) n)
  rw[lP']
theorem hN' {M:List Rm}:∀{n:Nat} {w:Nat->Nat} {r:Nat},it M w n r=ss M n w r
 |0,w,r=>by unfold ss en;simp[it]
 |n+1,w,r=>by rw[lP',hN',rl']
theorem x5' {M:List Rm} (hO:OkM M) {r e:Nat} (h:e∈dr M r):e<M.length:=by
 unfold dr at h
 rcases aw.mp h with h|h
 .exact LW.ff' hO (Option.mem_toList.mp h)
 .exact LW.ff' hO (Option.mem_toList.mp h)
theorem lQ' {M:List Rm} {r:Nat}:(dr M r).length<=2:=by
 unfold dr
 cases LW.stp M r false<;>cases LW.stp M r true<;>simp
theorem lR' {M:List Rm} (hO:OkM M):∀{n r e:Nat},r<M.length->e∈en M n r->e<M.length
 |0,r,e,hr,h=>by
  rw[aU.mp h]
  exact hr
 |n+1,r,e,hr,h=>by
  obtain⟨x,_,hx⟩:=List.mem_flatMap.mp h
  exact x5' hO hx
theorem dL' {f:Nat->List Nat} {k:Nat} (h:∀e,(f e).length<=k):∀l:List Nat,(l.flatMap f).length<=l.length*k
 | []=>aE _
 |x :: l=>by
  rw[List.flatMap_cons,al,bp,Nat.succ_mul]
  have:=h x
  have:=dL' h l
  omega
theorem iz' {M:List Rm} {r:Nat}:∀{n:Nat},(en M n r).length<=2 ^ n
 |0=>ai _
 |n+1=>by
  have h1:=dL' (f:=dr M) (k:=2) (fun _=>lQ') (en M n r)
  have h2:=iz' (M:=M) (r:=r) (n:=n)
  show((en M n r).flatMap (dr M)).length<=_
  rw[bX]
  exact aI h1 (cx 2 h2)
theorem pn':∀{l:List Nat} {u w:Nat->Nat},(∀e∈l,u e<=w e)->(l.map u).sum<=(l.map w).sum
 | [],_,_,_=>ai _
 |x :: l,u,w,h=>by
  rw[aH,aH,bG,bG]
  have:=h x (by simp)
  have:=pn' (l:=l) (u:=u) (w:=w) fun e he=>h e (by simp[he])
  omega
theorem rm' {M:List Rm} (hO:OkM M) {n r:Nat} {u w:Nat->Nat} (hr:r<M.length) (h:∀e,e<M.length->u e<=w e):ss M n u r<=ss M n w r:=pn' fun e he=>h e (lR' hO hr he)
theorem lS' {c:Nat} {w:Nat->Nat}:∀l:List Nat,(l.map fun e=>c*w e).sum=c*(l.map w).sum
 | []=>rfl
 |x :: l=>by rw[aH,aH,bG,bG,lS' l,bZ]
theorem po' {M:List Rm} {n r c:Nat} {w:Nat->Nat}:ss M n (fun e=>c*w e) r=c*ss M n w r:=lS' _
def dg' (w:Nat->Nat) (a l:Nat):Nat->Nat:=fun e=>if e=a then w e-l else w e
theorem fL' {w:Nat->Nat} {a k:Nat} (hl:k<=w a):∀l:List Nat,(l.map w).sum=(l.map (dg' w a k)).sum+k*l.count a
 | []=>rfl
 |x :: l=>by
  rw[aH,aH,bG,bG,fL' hl l,List.count_cons]
  by_cases h:x=a
  .subst h
   rw[if_pos (by simp)]
   have:dg' w x k x=w x-k:=by unfold dg';rw[if_pos rfl]
   rw[this,bZ]
   omega
  .rw[if_neg (by simpa using h),Nat.add_zero]
   have:dg' w a k x=w x:=by unfold dg';rw[if_neg h]
   rw[this]
   omega
theorem hP' {M:List Rm} {n r:Nat} {w:Nat->Nat} {a k:Nat} (hl:k<=w a):ss M n w r=ss M n (dg' w a k) r+k*(en M n r).count a:=fL' hl _
def Okw (M:List Rm) (p q:Nat) (u:Nat->Nat):Prop:=∀r,r<M.length->u r*2 ^ p<=ss M q u r
def Up (M:List Rm) (m:Nat) (u:Nat->Nat):Prop:=∀r,r<M.length->u r<=m
structure Gr (M:List Rm) (p q m:Nat) (w:Nat->Nat):Prop where
 up:Up M m w
 ok:Okw M p q w
 top:∀u,Up M m u->Okw M p q u->∀r,r<M.length->u r<=w r
def wL (M:List Rm) (w:Nat->Nat):List Nat:=(aA M.length).map w
theorem lT' {M:List Rm} {w:Nat->Nat}:(wL M w).length=M.length:=by unfold wL;simp
theorem lU' {M:List Rm} {w:Nat->Nat} {r:Nat} (h:r<M.length):(wL M w)[r]?=some (w r):=by
 unfold wL
 rw[ap,bz h]
 rfl
theorem lV' {M:List Rm} {w:Nat->Nat} {r:Nat} (h:r<M.length):atI ((wL M w).map nV) (r:Int)=some (.int (w r)):=aY' (by rw[ap,lU' h];rfl)
theorem pp' {M:List Rm} {w:Nat->Nat} {r k:Nat}:((wL M w).map nV).set r (.int (w r-k:Nat))=(wL M (dg' w r k)).map nV:=by
 apply bx
 intro i
 unfold wL
 rw[List.getElem?_set,ap,ap,ap,ap,aa,aa,aS]
 by_cases hi:i<M.length
 .rw[bz hi]
  by_cases h:r=i
  .subst h
   rw[if_pos rfl,if_pos hi]
   show _=some (nV (dg' w r k r))
   unfold dg'
   rw[if_pos rfl]
   rfl
  .rw[if_neg h]
   show _=some (nV (dg' w r k i))
   unfold dg'
   rw[if_neg (fun z=>h z.symm)]
   rfl
 .rw[bC (by simpa using hi)]
  by_cases h:r=i
  .rw[if_pos h,if_neg (by rw[h];exact hi)]
   rfl
  .rw[if_neg h]
   rfl
theorem vj' {M:List Rm} (hO:OkM M) {w:Nat->Nat}:(wsL M ((wL M w).map fun n:Nat=>(n:Int)) M.length).map V.int=(wL M (st1 M w)).map nV:=by
 unfold wsL
 have e:∀r c,oi ((wL M w).map fun n:Nat=>(n:Int)) (LW.stp M r c)=((ow w (LW.stp M r c):Nat):Int):=by
  intro r c
  cases e:LW.stp M r c with
  |none=>rfl
  |some m=>
   show((wL M w).map fun n:Nat=>(n:Int)).getD m 0=_
   rw[aN,ap,lU' (LW.ff' hO e)]
   rfl
 show _=((aA M.length).map (st1 M w)).map nV
 rw[bW,bW]
 apply bJ
 intro r _
 show V.int (oi _ (LW.stp M r false)+oi _ (LW.stp M r true))=V.int _
 rw[e,e]
 show V.int _=V.int ((ow w (LW.stp M r false)+ow w (LW.stp M r true):Nat):Int)
 rw[Int.natCast_add]
theorem fg' {ns:List Nat}:ns.map nV=(ns.map fun n:Nat=>(n:Int)).map V.int:=by
 rw[bW]
 rfl
def IsE (n:Nat) (H:Hp) (v:V) (e:Nat):Prop:=∃q b,v=.ref q/\b.length=n/\H q=some (.tup [.str (tx b),.int e])
theorem fM' {n:Nat} {H H':Hp} (s:ax' H H') {v:V} {e:Nat} (h:IsE n H v e):IsE n H' v e:=by
 obtain⟨q,b,h1,h2,h3⟩:=h
 exact⟨q,b,h1,h2,s _ _ h3⟩
def sb (M:List Rm) (e:Nat) (c:Bool):List Nat:=(LW.stp M e c).toList
theorem pq' {M:List Rm} {e:Nat} {c:Bool}:(sb M e c).length<=1:=by
 unfold sb
 cases LW.stp M e c<;>simp
def vk':Sp:=fun vs H Q _=>∃(a:Addr) (M:List Rm) (n r:Nat),vs=[.ref a,.int r,.int n]/\IsM H a M/\OkM M/\M.length<=100/\n<=8/\r<M.length/\∀(l:Addr) (ws:List V) (H':Hp),H l=none->ax' H H'->H' l=some (.lst ws)->cU' (IsE n H') ws (en M n r)->Q (.ref l) H'
theorem ed' {M:List Rm} {n r:Nat} (h:n<=8):(en M n r).length<=256:=aI iz' (Nat.pow_le_pow_right (by decide) h)
theorem rn' {C:Rc} (hN:C.N.length=8):∀vs H Q E,vk' vs H Q E->tSs C bq' { nx:=fun _ H'=>Q .non H',rt:=Q } (L2.aw' C.N vs) H:=by
 intro vs H Q E h
 obtain⟨a,M,n,r,rfl,hM,hO,hM1,hn,hr,q⟩:=h
 rw[aj' hN]
 unfold bq'
 walk_at "y"
 refine⟨by decide,fun t0 ht0=>?_⟩
 have s0:=ae' ht0 (.tup [.str (tx []),.int r])
 have ht0':upd H t0 (.tup [.str (tx []),.int r]) t0=some (.tup [.str (tx []),.int r]):=aa'
 generalize upd H t0 (.tup [.str (tx []),.int r])=H0 at s0 ht0' ⊢
 refine⟨by decide,fun l0 hl0=>?_⟩
 have s1:=ae' hl0 (.lst [.ref t0])
 have hl1:upd H0 l0 (.lst [.ref t0]) l0=some (.lst [.ref t0]):=aa'
 generalize upd H0 l0 (.lst [.ref t0])=H1 at s1 hl1 ⊢
 walk_at "y"
 refine d9' (by omega) (by omega) (eV' (fun i σ H'=>i<=n/\ax' H H'/\∃d ws,(∃x4 x5 x6 x7,σ=[some (.ref a),some (.int r),some (.int n),some (.ref d),x4,x5,x6,x7])/\H d=none/\H' d=some (.lst ws)/\cU' (IsE i H') ws (en M i r)) ⟨aE _,s0.trans s1,l0,_,⟨_,_,_,_,rfl⟩,s0.free hl0,hl1,⟨⟨t0,[],rfl,rfl,s1 _ _ ht0'⟩,trivial⟩⟩ ?_ ?_)
 .rintro i σ H4 hi ⟨_,s4,d',ws',⟨x4,x5,x6,x7,rfl⟩,_,hd4,hws4⟩
  have hi:i<n:=by omega
  have hwl:=hws4.len
  have hlen:=ed' (M:=M) (n:=i) (r:=r) (by omega)
  have hlen1:=ed' (M:=M) (n:=i+1) (r:=r) (by omega)
  walk_at "y"
  refine aT' (SqL.of hd4) (qT' (vs:=ws') (fun j xs H'=>ax' H4 H'/\cU' (IsE (i+1) H') xs (((en M i r).take j).flatMap (dr M))) ⟨ax'.refl _,trivial⟩ (fun j xs H' w=>SqL.of (w.1 _ _ hd4)) ?_ ?_)
  .rintro j xs H5 v R hv ⟨s5,hA5⟩ hR
   have hj:=al' hv
   obtain⟨e,hej,qv,b,rfl,hbl,hqv⟩:=hws4.getL hv
   have hqv5:=s5 _ _ hqv
   have he:=lR' hO hr (az hej)
   have hpre:(((en M i r).take j).flatMap (dr M)).length<=256*2:=by
    have h1:=dL' (f:=dr M) (k:=2) (fun _=>lQ') ((en M i r).take j)
    have h2:((en M i r).take j).length<=256:=by rw[aL];omega
    omega
   refine dG' (SqT.of hqv5) ?_
   walk_at "y"
   refine la' (uU' (l:=[false,true]) (fun t ys H'=>ax' H4 H'/\cU' (IsE (i+1) H') ys (((en M i r).take j).flatMap (dr M)++((if 0<t then sb M e false else[])++(if 1<t then sb M e true else[])))) ⟨s5,by simpa using hA5⟩ ?_ ?_)
   .rintro t ys H6 c R2 hc ⟨s6,hA6⟩ hR2
    have htc:t=if c then 1 else 0:=by
     match t,hc with
     |0,hc=>cases hc;rfl
     |1,hc=>cases hc;rfl
     |t+2,hc=>cases hc
    have after:∀xs:List Nat,xs=(((en M i r).take j).flatMap (dr M)++((if 0<t then sb M e false else[])++(if 1<t then sb M e true else[])))++sb M e c->xs=((en M i r).take j).flatMap (dr M)++((if 0<t+1 then sb M e false else[])++(if 1<t+1 then sb M e true else[])):=by
     rintro xs rfl
     cases c with
     |false=>rw[htc];simp
     |true=>rw[htc];simp
    have hyl:ys.length<sizeLine:=by
     have:=hA6.len
     rw[al,al]at this
     have b1:(if 0<t then sb M e false else[]).length<=1:=by split<;>simp[pq']
     have b2:(if 1<t then sb M e true else[]).length<=1:=by split<;>simp[pq']
     exact ah' (by omega)
    have hM6:=hM.mono (ao' (s4.trans s6))
    walk_at "y"
    refine hI' (c:=c) hM6 he fun pr2 hpr2=>?_
    walk_at "y"
    refine hpr2 _ ?_
    cases hs:LW.stp M e c with
    |none=>
     simp only[oV]
     walk_at "y"
     refine hR2 _ _ ⟨s6,?_⟩
     rw[<- after _ rfl]
     have:sb M e c=[]:=by unfold sb;rw[hs];rfl
     rw[this,List.append_nil]
     exact hA6
    |some m=>
     simp only[oV]
     walk_at "y"
     refine⟨show b.length+1<=sizeLine from lw' (by omega),?_⟩
     refine hI' (c:=c) hM6 he fun pr3 hpr3=>?_
     walk_at "y"
     refine hpr3 _ ?_
     rw[hs]
     simp only[oV]
     walk_at "y"
     refine⟨by decide,fun p7 hp7=>?_⟩
     walk_at "y"
     refine⟨hyl,hR2 _ _ ⟨s6.trans (ae' hp7 _),?_⟩⟩
     rw[<- after _ rfl]
     have:sb M e c=[m]:=by unfold sb;rw[hs];rfl
     rw[this]
     exact cU'.snoc (hA6.mono fun v w h=>fM' (ae' hp7 _) h) ⟨p7,b++[c],rfl,by simp[hbl],aa'⟩
   .rintro ys H6 ⟨s6,hA6⟩
    refine hR _ _ ⟨s6,?_⟩
    rw[aW,hej,List.flatMap_append]
    simpa[dr,sb]using hA6
  .rintro xs H5 ⟨s5,hA5⟩ p5 hp5
   rw[hwl,aT]at hA5
   walk_at "y"
   exact⟨hi,s4.trans (s5.trans (ae' hp5 _)),p5,xs,⟨_,_,_,_,rfl⟩,s4.free (s5.free hp5),aa',hA5.mono fun v w h=>fM' (ae' hp5 _) h⟩
 .rintro σ H4 ⟨_,s4,d',ws',⟨x4,x5,x6,x7,rfl⟩,hd0,hd4,hws4⟩
  rw[show((n:Int)).toNat=n by omega]at hws4
  walk_at "y"
  exact q d' ws' H4 hd0 s4 hd4 hws4
def wh' (M:List Rm) (n:Nat) (H0 H:Hp) (v:V) (r:Nat):Prop:=∃l ws,v=.ref l/\H0 l=none/\H l=some (.lst ws)/\cU' (IsE n H) ws (en M n r)
theorem gM' {M:List Rm} {n:Nat} {H0 H H':Hp} (s:ax' H H') {v:V} {r:Nat} (h:wh' M n H0 H v r):wh' M n H0 H' v r:=by
 obtain⟨l,ws,h1,h0,h2,h3⟩:=h
 exact⟨l,ws,h1,h0,s _ _ h2,h3.mono fun v e h=>fM' s h⟩
def vl':Sp:=fun vs H Q _=>∃(a:Addr) (M:List Rm) (n:Nat),vs=[.ref a,.int n]/\IsM H a M/\OkM M/\M.length<=100/\n<=8/\∀(l:Addr) (ws:List V) (H':Hp),H l=none->ax' H H'->H' l=some (.lst ws)->cU' (wh' M n H H') ws (aA M.length)->Q (.ref l) H'
theorem ro' {C:Rc} (hN:C.N.length=3) (hW:C.fs "walks_from"=some vk'):∀vs H Q E,vl' vs H Q E->tSs C cC' { nx:=fun _ H'=>Q .non H',rt:=Q } (L2.aw' C.N vs) H:=by
 intro vs H Q E h
 obtain⟨a,M,n,rfl,hM,hO,hM1,hn,q⟩:=h
 rw[aj' hN]
 unfold cC'
 obtain⟨mv,hmv,hmr⟩:=id hM
 have hml:=hmr.len
 walk_at "y"
 refine cc' (SqT.of hmv) ?_
 rw[hml]
 refine d9' (by omega) (by omega) (lc' (fun i xs H'=>i<=M.length/\ax' H H'/\cU' (wh' M n H H') xs (aA i)) ⟨aE _,ax'.refl _,trivial⟩ ?_ ?_)
 .rintro i xs H1 R hi ⟨_,s1,hA⟩ hR
  have hi:i<M.length:=by omega
  rw[Int.zero_add]
  walk_at "y"
  refine ai' hW ?_
  walk_at "y"
  refine⟨a,M,n,i,rfl,hM.mono (ao' s1),hO,hM1,hn,hi,fun l ws H2 hl s2 hl2 hws=>?_⟩
  have:=hA.len
  rw[aS]at this
  walk_at "y"
  refine⟨ah' (by omega),hR _ _ ⟨hi,s1.trans s2,?_⟩⟩
  rw[bU]
  exact cU'.snoc (hA.mono fun v r h=>gM' s2 h) ⟨l,ws,rfl,s1.free hl,hl2,hws⟩
 .rintro xs H1 ⟨_,s1,hA⟩ p hp
  rw[show((M.length:Int)).toNat=M.length by omega]at hA
  walk_at "y"
  exact q p xs _ (s1.free hp) (s1.trans (ae' hp _)) aa' (hA.mono fun v r h=>gM' (ae' hp _) h)
def sl (M:List Rm) (q i e:Nat):List Nat:=(aA i).flatMap fun r=>ao ((en M q r).count e) r
theorem lW' {M:List Rm} {q i e:Nat}:sl M q (i+1) e=sl M q i e++ao ((en M q i).count e) i:=by
 unfold sl
 rw[bU,List.flatMap_append]
 simp
theorem pr' {M:List Rm} {q e:Nat} (hq:q<=8) {i:Nat}:(sl M q i e).length<=i*256:=by
 unfold sl
 have:=dL' (f:=fun r=>ao ((en M q r).count e) r) (k:=256) (fun r=>by rw[bc];exact aI List.count_le_length (ed' hq)) (aA i)
 rw[aS]at this
 exact this
theorem lX' {M:List Rm} {q i e x:Nat} (h:x∈sl M q i e):x<i:=by
 unfold sl at h
 obtain⟨r,hr,hx⟩:=List.mem_flatMap.mp h
 rw[(List.mem_replicate.mp hx).2]
 exact aJ.mp hr
theorem ee' {M:List Rm} {q e r:Nat}:∀{i:Nat},(sl M q i e).count r=if r<i then(en M q r).count e else 0
 |0=>by simp[sl]
 |i+1=>by
  rw[lW',List.count_append,ee',List.count_replicate]
  by_cases h2:r=i
  .subst h2
   simp
  .have h3:(i == r)=false:=by simpa using fun z=>h2 z.symm
   rw[h3]
   by_cases h:r<i
   .have:r<i+1:=by omega
    simp[h,this]
   .have:¬r<i+1:=by omega
    simp[h,this]
structure Srs (H0 H:Hp) (S:Addr) (As:List Addr) (L:Nat->List Nat):Prop where
 top:H S=some (.lst (As.map V.ref))
 nd:As.Nodup
 out:S∉As
 free:∀x∈As,H0 x=none
 own:∀e x,As[e]?=some x->H x=some (.lst ((L e).map nV))
theorem Srs.mono {H0 H H':Hp} {S:Addr} {As:List Addr} {L:Nat->List Nat} (h:Srs H0 H S As L) (s:ax' H H'):Srs H0 H' S As L:=⟨s _ _ h.top,h.nd,h.out,h.free,fun e x hx=>s _ _ (h.own e x hx)⟩
def But (As:List Addr) (H H':Hp):Prop:=∀x u,H x=some u->x∉As->H' x=some u
theorem lY' {As:List Addr} (h:As.Nodup) {i j:Nat} {x:Addr} (hi:As[i]?=some x) (hj:As[j]?=some x):i=j:=by
 have h1:=al' hi
 have h2:=al' hj
 rw[ab h1]at hi
 rw[ab h2]at hj
 exact(List.getElem_inj h).mp ((Option.some.inj hi).trans (Option.some.inj hj).symm)
theorem Srs.put {H0 H:Hp} {S:Addr} {As:List Addr} {L L':Nat->List Nat} (s:Srs H0 H S As L) {e:Nat} {x:Addr} (hx:As[e]?=some x) (hL:∀e',e'≠e->L' e'=L e'):Srs H0 (upd H x (.lst ((L' e).map nV))) S As L':=by
 have hm:=az hx
 refine⟨?_,s.nd,s.out,s.free,fun e' x' hx'=>?_⟩
 .rw[af' (fun z=>s.out (by rw[z];exact hm))]
  exact s.top
 .by_cases h:e'=e
  .subst h
   rw[hx]at hx'
   cases hx'
   exact aa'
  .rw[af' (fun z=>h (lY' s.nd (by rw[<- z];exact hx') hx)),hL e' h]
   exact s.own e' x' hx'
def vm':Sp:=fun vs H Q _=>∃(a:Addr) (M:List Rm) (q:Nat),vs=[.ref a,.int q]/\IsM H a M/\OkM M/\M.length<=100/\q<=8/\∀(S:Addr) (As:List Addr) (H':Hp),H S=none->ax' H H'->As.length=M.length->Srs H H' S As (sl M q M.length)->Q (.ref S) H'
theorem c9' {l:List Nat} {k e x:Nat} (h:l[k]?=some x):(l.take (k+1)).count e=(l.take k).count e+if x=e then 1 else 0:=by
 rw[aW,h,List.count_append]
 congr 1
 simp[List.count_cons]
theorem rp' {C:Rc} (hN:C.N.length=7) (hP:C.fs "powered"=some vl'):∀vs H Q E,vm' vs H Q E->tSs C b5' { nx:=fun _ H'=>Q .non H',rt:=Q } (L2.aw' C.N vs) H:=by
 intro vs H Q E h
 obtain⟨a,M,q',rfl,hM,hO,hM1,hq,q⟩:=h
 rw[aj' hN]
 unfold b5'
 obtain⟨mv,hmv,hmr⟩:=id hM
 have hml:=hmr.len
 walk_at "y"
 refine aU' (SqT.of hmv) (dh' (fun i xs H'=>i<=mv.length/\ax' H H'/\∃As:List Addr,xs=As.map V.ref/\As.length=i/\As.Nodup/\∀x∈As,H x=none/\H' x=some (.lst [])) ⟨aE _,ax'.refl _,[],rfl,rfl,cz,fun x hx=>by cases hx⟩ (fun i xs H' pv=>SqT.of (pv.2.1 _ _ hmv)) ?_ ?_)
 .rintro i xs H' x R hx ⟨_,s1,As,rfl,hAl,hnd,hA⟩ hR
  have hi:=al' hx
  walk_at "y"
  refine⟨by decide,fun p hp=>?_⟩
  walk_at "y"
  refine⟨by rw[aa];exact ah' (by omega),hR _ _ ⟨hi,s1.trans (ae' hp _),As++[p],by rw[ax];rfl,by rw[al,hAl];rfl,?_,fun x hx=>?_⟩⟩
  .rw[List.nodup_append]
   refine⟨hnd,by simp,fun x hx y hy=>?_⟩
   rw[aU.mp hy]
   rintro rfl
   rw[(hA x hx).2]at hp
   cases hp
  .rcases aw.mp hx with hx|hx
   .exact⟨(hA x hx).1,ae' hp _ _ _ (hA x hx).2⟩
   .rw[aU.mp hx]
    exact⟨s1.free hp,aa'⟩
 rintro xs H1 ⟨_,s1,As,rfl,hAl,hnd,hA⟩ S hS
 have hS0:=s1.free hS
 have sr:Srs H (upd H1 S (.lst (As.map V.ref))) S As (sl M q' 0):=by
  refine⟨aa',hnd,fun m=>?_,fun x hx=>(hA x hx).1,fun e x hx=>?_⟩
  .have:=(hA S m).2
   rw[hS]at this
   cases this
  .have hm:=az hx
   rw[af' (ag' (hA x hm).2 hS),(hA x hm).2]
   rfl
 have s2:=s1.trans (ae' hS (.lst (As.map V.ref)))
 generalize upd H1 S (.lst (As.map V.ref))=H2 at sr s2 ⊢
 rw[hml]at hAl
 walk_at "y"
 refine ai' hP ?_
 walk_at "y"
 refine⟨a,M,q',rfl,hM.mono (ao' s2),hO,hM1,hq,fun W ws H3 hW0 s3 hW hws=>?_⟩
 have hwl:=hws.len
 rw[aS]at hwl
 have hAs:∀x∈As,∃u,H2 x=some u:=fun x hx=>by
  obtain⟨e,he⟩:=cy hx
  exact⟨_,sr.own e x he⟩
 have hout:∀x,H2 x=none->x∉As:=fun x h m=>by
  obtain⟨u,hu⟩:=hAs x m
  rw[h]at hu
  cases hu
 have hSA:∀H',But As H3 H'->ax' H H':=fun H' b x u e=>b x u (s3 _ _ (s2 _ _ e)) fun m=>by rw[sr.free x m]at e;cases e
 refine io' (SqL.of hW) (uB' (xs:=ws) (fun i σ H'=>i<=M.length/\(∃x3 x4 x5 x6,σ=[some (.ref a),some (.int q'),some (.ref S),x3,x4,x5,x6])/\But As H3 H'/\Srs H H' S As (sl M q' i)) ⟨aE _,⟨_,_,_,_,rfl⟩,fun x u e _=>e,⟨s3 _ _ sr.top,sr.nd,sr.out,sr.free,fun e x hx=>s3 _ _ (sr.own e x hx)⟩⟩ (fun i σ H' _ pv=>SqL.of (pv.2.2.1 _ _ hW (hout W hW0))) ?_ ?_)
 .rintro i x σ H4 p hx hp ⟨_,⟨x3,x4,x5,x6,rfl⟩,b4,sr4⟩
  have hi:=al' hx
  rw[hwl]at hi
  obtain⟨r,hr,l,ws',rfl,hl0,hl3,hE⟩:=hws.getL hx
  rw[bz hi]at hr
  cases hr
  have hel:=hE.len
  have hen:=ed' (M:=M) (n:=q') (r:=i) hq
  have s5:=ae' hp (.tup [.int i,.ref l])
  have hp5:upd H4 p (.tup [.int i,.ref l]) p=some (.tup [.int i,.ref l]):=aa'
  generalize upd H4 p (.tup [.int i,.ref l])=H5 at s5 hp5 ⊢
  have b5:But As H3 H5:=fun x u e m=>s5 _ _ (b4 x u e m)
  have sr5:=sr4.mono s5
  refine dG' (SqT.of hp5) ?_
  walk_at "y"
  refine aT' (SqL.of (b5 _ _ hl3 (hout l hl0))) (nu' (xs:=ws') (fun k σ H'=>k<=ws'.length/\(∃x5 x6,σ=[some (.ref a),some (.int q'),some (.ref S),some (.int i),some (.ref l),x5,x6])/\But As H3 H'/\Srs H H' S As (fun e=>sl M q' i e++ao (((en M q' i).take k).count e) i)) ⟨aE _,⟨_,_,rfl⟩,b5,?_⟩ (fun k σ H' _ pv=>SqL.of (pv.2.2.1 _ _ hl3 (hout l hl0))) ?_ ?_)
  .have e:(fun e=>sl M q' i e++ao (((en M q' i).take 0).count e) i)=sl M q' i:=by
    funext e
    simp
   rw[e]
   exact sr5
  .rintro k v σ H6 hv ⟨_,⟨y5,y6,rfl⟩,b6,sr6⟩
   have hk:=al' hv
   obtain⟨e,hek,qv,b,rfl,_,hqv⟩:=hE.getL hv
   have he:=lR' hO hi (az hek)
   have hqA:qv∉As:=fun m=>by
    obtain⟨j,hj⟩:=cy m
    have:=s3 _ _ (sr.own j qv hj)
    rw[hqv]at this
    cases this
   obtain⟨xA,hxA⟩:∃xA,As[e]?=some xA:=⟨_,ab (by omega)⟩
   have hmA:=az hxA
   refine dG' (SqT.of (b6 _ _ hqv hqA)) ?_
   walk_at "y"
   refine aV' (SqL.of sr6.top) (v:=.ref xA) (aY' (by rw[ap,hxA];rfl)) ?_
   walk_at "y"
   have hown:=sr6.own e xA hxA
   have hz:((sl M q' i e++ao (((en M q' i).take k).count e) i).map nV).length<sizeLine:=by
    have h1:=pr' (M:=M) (e:=e) hq (i:=i)
    have h2:((en M q' i).take k).count e<=256:=aI List.count_le_length (by rw[aL];omega)
    rw[aa,al,bc]
    have h3:i*256<=100*256:=cx 256 (by omega)
    show _<2 ^ 24
    omega
   refine⟨tyL hown rfl,gw' hown hz ?_⟩
   have hput:=sr6.put (L':=fun e'=>sl M q' i e'++ao (((en M q' i).take (k+1)).count e') i) hxA (fun e' he'=>by rw[c9' hek,if_neg (fun z=>he' z.symm),Nat.add_zero])
   have e1:((sl M q' i e++ao (((en M q' i).take (k+1)).count e) i).map nV)=(sl M q' i e++ao (((en M q' i).take k).count e) i).map nV++[.int i]:=by
    rw[c9' hek,if_pos rfl,cw,<- bm,ax]
    rfl
   rw[e1]at hput
   exact⟨hk,⟨_,_,rfl⟩,fun x u hx m=>by
    rw[af' (fun z=>m (by rw[z];exact hmA))]
    exact b6 x u hx m,hput⟩
  .rintro σ H6 ⟨_,⟨y5,y6,rfl⟩,b6,sr6⟩
   have e:(fun e=>sl M q' i e++ao (((en M q' i).take ws'.length).count e) i)=sl M q' (i+1):=by
    funext e
    rw[hel,aT,lW']
   rw[e]at sr6
   exact⟨hi,⟨_,_,_,_,rfl⟩,b6,sr6⟩
 .rintro σ H4 ⟨_,⟨x3,x4,x5,x6,rfl⟩,b4,sr4⟩
  rw[hwl]at sr4
  walk_at "y"
  exact q S As H4 hS0 (hSA H4 b4) hAl sr4
def a8':Sp:=fun vs H Q _=>∃(a b:Addr) (M:List Rm) (w:Nat->Nat) (q:Nat),vs=[.ref a,.ref b,.int q]/\IsM H a M/\OkM M/\M.length<=500/\q<=900/\Lt H b ((wL M w).map nV)/\∀p H',H p=none->ax' H H'->H' p=some (.lst ((wL M (it M w q)).map nV))->Q (.ref p) H'
theorem jc' {C:Rc} (hN:C.N.length=5) (hW:C.fs "way_sums"=some (c1' C.K)):∀vs H Q E,a8' vs H Q E->tSs C bG' { nx:=fun _ H'=>Q .non H',rt:=Q } (L2.aw' C.N vs) H:=by
 intro vs H Q E h
 obtain⟨a,b,M,w,q',rfl,hM,hO,hM5,hq,hb,q⟩:=h
 rw[aj' hN]
 unfold bG'
 walk_at "y"
 refine hH' hb fun c hc=>?_
 have s1:=ae' hc (.lst ((wL M w).map nV))
 have hc1:upd H c (.lst ((wL M w).map nV)) c=some (.lst ((wL M w).map nV)):=aa'
 generalize upd H c (.lst ((wL M w).map nV))=H1 at s1 hc1 ⊢
 walk_at "y"
 refine d9' (by omega) (by omega) (eV' (fun i σ H2=>(∃c x4,σ=[some (.ref a),some (.ref b),some (.int q'),some (.ref c),x4]/\H c=none/\H2 c=some (.lst ((wL M (it M w i)).map nV)))/\ax' H H2) ⟨⟨c,_,rfl,hc,hc1⟩,s1⟩ ?_ ?_)
 .rintro i σ H2 hi ⟨⟨c2,x4,rfl,hc0,hc2⟩,s2⟩
  walk_at "y"
  refine ai' hW ?_
  walk_at "y"
  refine⟨a,c2,M,(wL M (it M w i)).map fun n:Nat=>(n:Int),rfl,hM.mono (ao' s2),hO,hM5,SqL.of (by rw[hc2,fg']),by rw[aa,lT'],fun p hp=>?_⟩
  rw[vj' hO]
  walk_at "y"
  exact⟨⟨p,_,rfl,s2.free hp,aa'⟩,s2.trans (ae' hp _)⟩
 .rintro σ H2 ⟨⟨c2,x4,rfl,hc0,hc2⟩,s2⟩
  rw[show((q':Int)).toNat=q' by omega]at hc2
  walk_at "y"
  exact q c2 H2 hc0 s2 hc2
def tot (M:List Rm) (w:Nat->Nat):Nat:=((aA M.length).map w).sum
theorem n0' {M:List Rm} {w:Nat->Nat} {r k:Nat} (hr:r<M.length) (hk:k<=w r):tot M w=tot M (dg' w r k)+k:=by
 unfold tot
 rw[fL' hk,List.count_range,if_pos hr,cD]
structure Jn (M:List Rm) (p q m:Nat) (w:Nat->Nat) (wt:List Nat):Prop where
 up:Up M m w
 top:∀u,Up M m u->Okw M p q u->∀r,r<M.length->u r<=w r
 ok:∀r,r<M.length->r∉wt->w r*2 ^ p<=ss M q w r
 lt:∀r∈wt,r<M.length
theorem Jn.fin {M:List Rm} {p q m:Nat} {w:Nat->Nat} (h:Jn M p q m w []):Gr M p q m w:=⟨h.up,fun r hr=>h.ok r hr (by simp),h.top⟩
theorem Jn.keep {M:List Rm} {p q m:Nat} {w:Nat->Nat} {wt:List Nat} {r:Nat} (h:Jn M p q m w (wt++[r])) (hr:w r<=ss M q w r / 2 ^ p):Jn M p q m w wt:=by
 refine⟨h.up,h.top,fun x hx hn=>?_,fun x hx=>h.lt x (by simp[hx])⟩
 by_cases e:x=r
 .subst e
  exact(Nat.le_div_iff_mul_le (Nat.two_pow_pos p)).mp hr
 .exact h.ok x hx (by simp[hn,e])
theorem rq' {M:List Rm} {q r a k:Nat} {w:Nat->Nat} (hk:k<=w a) (hr:r<M.length) (h:r∉sl M q M.length a):ss M q (dg' w a k) r=ss M q w r:=by
 have e:=hP' (M:=M) (n:=q) (r:=r) hk
 have c:(en M q r).count a=0:=by
  have:=ee' (M:=M) (q:=q) (e:=a) (r:=r) (i:=M.length)
  rw[if_pos hr]at this
  rw[<- this]
  exact List.count_eq_zero.mpr h
 rw[c]at e
 omega
theorem Jn.lose {M:List Rm} {p q m:Nat} {w:Nat->Nat} {wt:List Nat} {r:Nat} (hO:OkM M) (h:Jn M p q m w (wt++[r])) (hr:ss M q w r / 2 ^ p<w r):Jn M p q m (dg' w r (w r-ss M q w r / 2 ^ p)) (wt++sl M q M.length r):=by
 have hrn:=h.lt r (by simp)
 have hk:w r-ss M q w r / 2 ^ p<=w r:=Nat.sub_le _ _
 have hle:∀x,dg' w r (w r-ss M q w r / 2 ^ p) x<=w x:=fun x=>by unfold dg';split<;>omega
 have hat:dg' w r (w r-ss M q w r / 2 ^ p) r=ss M q w r / 2 ^ p:=by unfold dg';rw[if_pos rfl];omega
 refine⟨fun x hx=>aI (hle x) (h.up x hx),fun u hu ho x hx=>?_,fun x hx hn=>?_,fun x hx=>?_⟩
 .by_cases e:x=r
  .subst e
   rw[hat,Nat.le_div_iff_mul_le (Nat.two_pow_pos p)]
   exact aI (ho x hx) (rm' hO hx (h.top u hu ho))
  .unfold dg'
   rw[if_neg e]
   exact h.top u hu ho x hx
 .rw[aw,not_or]at hn
  rw[rq' hk hx hn.2]
  by_cases e:x=r
  .subst e
   rw[hat]
   exact Nat.div_mul_le_self _ _
  .unfold dg'
   rw[if_neg e]
   exact h.ok x hx (by simp[hn.1,e])
 .rcases aw.mp hx with hx|hx
  .exact h.lt x (by simp[hx])
  .exact lX' hx
def sf (M:List Rm) (q:Nat) (w:Nat->Nat) (a k j:Nat):Nat->Nat:=fun r=>ss M q w r-k*((sl M q M.length a).take j).count r
theorem rr' {M:List Rm} {q:Nat} {w:Nat->Nat} {a k j x:Nat} (h:(sl M q M.length a)[j]?=some x):dg' (sf M q w a k j) x k=sf M q w a k (j+1):=by
 funext r
 unfold dg' sf
 rw[c9' h]
 by_cases e:r=x
 .subst e
  rw[if_pos rfl,if_pos rfl,bZ,cD,Nat.sub_sub]
 .rw[if_neg e,if_neg (fun z=>e z.symm),Nat.add_zero]
theorem x6' {M:List Rm} {q:Nat} {w:Nat->Nat} {a k j x:Nat} (hk:k<=w a) (h:(sl M q M.length a)[j]?=some x):k<=sf M q w a k j x:=by
 have hx:=lX' (az h)
 have e:=hP' (M:=M) (n:=q) (r:=x) hk
 have c:=ee' (M:=M) (q:=q) (e:=a) (r:=x) (i:=M.length)
 rw[if_pos hx]at c
 have c1:=c9' (e:=x) h
 rw[if_pos rfl]at c1
 have c2:((sl M q M.length a).take (j+1)).count x<=(sl M q M.length a).count x:=List.Sublist.count_le x (List.take_sublist _ _)
 unfold sf
 have h3:k*(((sl M q M.length a).take j).count x+1)<=k*(en M q x).count a:=Nat.mul_le_mul_left k (by omega)
 rw[bZ,cD]at h3
 omega
theorem vn' {M:List Rm} {q:Nat} {w:Nat->Nat} {a k:Nat} (hk:k<=w a):wL M (sf M q w a k (sl M q M.length a).length)=wL M (ss M q (dg' w a k)):=by
 unfold wL
 apply bJ
 intro r hr
 have hr:=aJ.mp hr
 unfold sf
 rw[aT,ee',if_pos hr,hP' hk,Nat.add_sub_cancel]
theorem pt' {n j:Nat} (h:j<n):ixN n (j:Int)=some j:=by
 unfold ixN
 rw[if_pos (by omega),if_pos (by omega)]
 simp
theorem gN' {m:Nat}:∀l:List Nat,(l.map fun _=>m).sum=l.length*m
 | []=>by simp
 |x :: l=>by rw[aH,bG,gN' l,bp,Nat.succ_mul,Nat.add_comm]
theorem lZ' {M:List Rm} {m:Nat}:tot M (fun _=>m)=M.length*m:=by
 unfold tot
 rw[gN',aS]
theorem zD' {n:Nat}:rgs 0 n=(aA n).map nV:=by
 unfold rgs
 apply bJ
 intro i _
 show V.int _=V.int _
 rw[Int.zero_add]
def vo':Sp:=fun vs H Q _=>∃(a b:Addr) (M:List Rm) (p q m:Nat),vs=[.ref a,.int p,.int q,.ref b]/\IsM H a M/\OkM M/\M.length<=16/\p<=8/\q<=8/\M.length*m<=3000/\H b=some (.lst ((wL M fun _=>m).map nV))/\∀(c:Addr) (w:Nat->Nat) (H':Hp),H c=none->ax' H H'->H' c=some (.lst ((wL M w).map nV))->Gr M p q m w->Q (.ref c) H'
theorem rs' {C:Rc} (hN:C.N.length=11) (hWs:C.fs "walk_sums"=some a8') (hWt:C.fs "walks_to"=some vm'):∀vs H Q E,vo' vs H Q E->tSs C aP' { nx:=fun _ H'=>Q .non H',rt:=Q } (L2.aw' C.N vs) H:=by
 intro vs H Q E h
 obtain⟨a,b,M,p,q',m,rfl,hM,hO,hM1,hp,hq,hm,hb,q⟩:=h
 rw[aj' hN]
 unfold aP'
 walk_at "y"
 refine fC' (SqL.of hb) fun c hc=>?_
 have s1:=ae' hc (.lst ((wL M fun _=>m).map nV))
 have hc1:upd H c (.lst ((wL M fun _=>m).map nV)) c=some (.lst ((wL M fun _=>m).map nV)):=aa'
 generalize upd H c (.lst ((wL M fun _=>m).map nV))=H1 at s1 hc1 ⊢
 walk_at "y"
 refine ai' hWs ?_
 walk_at "y"
 refine⟨a,c,M,fun _=>m,q',rfl,hM.mono (ao' s1),hO,by omega,by omega,.inl hc1,fun d H2 hd0 s2 hd=>?_⟩
 rw[show wL M (it M (fun _=>m) q')=wL M (ss M q' fun _=>m) by unfold wL;exact bJ fun r _=>hN']at hd
 have hc2:=s2 _ _ hc1
 have s02:=s1.trans s2
 walk_at "y"
 refine ai' hWt ?_
 walk_at "y"
 refine⟨a,M,q',rfl,hM.mono (ao' s02),hO,by omega,hq,fun S As H3 hS0 s3 hAl sr=>?_⟩
 obtain⟨mv,hmv,hmr⟩:=id (hM.mono (ao' (s02.trans s3)))
 have hml:=hmr.len
 walk_at "y"
 refine cc' (SqT.of hmv) ?_
 rw[hml]
 walk_at "y"
 refine eH' fun pr hpr=>?_
 walk_at "y"
 refine fB' aa' (by omega) (by omega) (by omega) (by omega) (bu (ah' (by omega))) fun T hT=>?_
 rw[show((M.length:Int)-0).toNat=M.length by omega,zD']
 have s4:=ae' hpr (.rng 0 M.length)
 generalize upd H3 pr (.rng 0 M.length)=H4 at s4 hT ⊢
 have s5:=ae' hT (.lst ((aA M.length).map nV))
 have hT5:upd H4 T (.lst ((aA M.length).map nV)) T=some (.lst ((aA M.length).map nV)):=aa'
 have s24:=s3.trans s4
 have nT:∀x u,H4 x=some u->x≠T:=fun x u e=>ag' e hT
 generalize upd H4 T (.lst ((aA M.length).map nV))=H5 at s5 hT5 ⊢
 have hc4:=s24 _ _ hc2
 have hd4:=s24 _ _ hd
 have hcd:c≠d:=ag' hc1 hd0
 have hcT:=nT c _ hc4
 have hdT:=nT d _ hd4
 have sr4:=sr.mono s4
 have hSn:S≠c/\S≠d/\S≠T:=⟨(ag' hc2 hS0).symm,(ag' hd hS0).symm,nT S _ sr4.top⟩
 have hAn:∀x∈As,x≠c/\x≠d/\x≠T:=fun x hx=>by
  have h0:=sr.free x hx
  obtain⟨e,he⟩:=cy hx
  exact⟨(ag' hc2 h0).symm,(ag' hd h0).symm,nT x _ (sr4.own e x he)⟩
 have sr5:=sr4.mono s5
 have hd0':=s1.free hd0
 have hT0:=s02.free (s24.free hT)
 have back:∀H',But [c,d,T] H5 H'->ax' H H':=fun H' b x u e=>b x u ((s02.trans (s24.trans s5)) _ _ e) (by
  simp only[ak,av,or_false,not_or]
  exact⟨ag' e hc,ag' e hd0',ag' e hT0⟩)
 have stays:∀H',But [c,d,T] H5 H'->H' S=some (.lst (As.map V.ref))/\∀e x,As[e]?=some x->H' x=some (.lst ((sl M q' M.length e).map nV)):=fun H' b=>⟨b _ _ sr5.top (by simp only[ak,av,or_false,not_or];exact hSn),fun e x he=>b _ _ (sr5.own e x he) (by simp only[ak,av,or_false,not_or];exact hAn x (az he))⟩
 have K0:∀e,(sl M q' M.length e).length<=4096:=fun e=>aI (pr' hq) (cx 256 hM1)
 walk_at "y"
 refine o3' (fun N σ H'=>∃w wt x8 x9 x10,N=wt.length+4097*tot M w/\σ=[some (.ref a),some (.int p),some (.int q'),some (.ref b),some (.ref c),some (.ref d),some (.ref S),some (.ref T),x8,x9,x10]/\Jn M p q' m w wt/\H' c=some (.lst ((wL M w).map nV))/\H' d=some (.lst ((wL M (ss M q' w)).map nV))/\H' T=some (.lst (wt.map nV))/\wt.length+4096*tot M w<=16+4096*3000/\But [c,d,T] H5 H') _ ⟨fun _=>m,aA M.length,_,_,_,rfl,rfl,⟨fun _ _=>ai _,fun u hu _ r hr=>hu r hr,fun r hr hn=>absurd (aJ.mpr hr) hn,fun r hr=>aJ.mp hr⟩,s5 _ _ hc4,s5 _ _ hd4,hT5,?_,fun x u e _=>e⟩ ?_
 .rw[aS,lZ']
  have:=hm
  omega
 rintro N σ H6 ⟨w,wt,x8,x9,x10,rfl,rfl,J,hc6,hd6,hT6,hz,b6⟩
 walk_at "y"
 refine qP' (SqL.of hT6) ?_
 rcases List.eq_nil_or_concat wt with rfl|⟨wt',r,rfl⟩
 .refine o5' ?_
  walk_at "y"
  exact q c w H6 hc (back H6 b6) hc6 J.fin
 .rw[List.concat_eq_append]at hT6 J hz ⊢
  have e0:(!(((wt'++[r]).map nV)).isEmpty)=true:=by simp
  rw[e0]
  refine o4' ?_
  have hr:=J.lt r (by simp)
  rw[al,bL]at hz
  walk_at "y"
  refine⟨tyL hT6 rfl,?_⟩
  refine u4' (xs:=wt'.map nV) (y:=.int r) (by rw[hT6,ax];rfl) ?_
  have hc7:upd H6 T (.lst (wt'.map nV)) c=some (.lst ((wL M w).map nV)):=by rw[af' hcT];exact hc6
  have hd7:upd H6 T (.lst (wt'.map nV)) d=some (.lst ((wL M (ss M q' w)).map nV)):=by rw[af' hdT];exact hd6
  have hT7:upd H6 T (.lst (wt'.map nV)) T=some (.lst (wt'.map nV)):=aa'
  have b7:But [c,d,T] H5 (upd H6 T (.lst (wt'.map nV))):=fun x u e n=>by
   rw[af' (fun z=>n (by simp[z]))]
   exact b6 x u e n
  generalize upd H6 T (.lst (wt'.map nV))=H7 at hc7 hd7 hT7 b7 ⊢
  walk_at "y"
  refine aV' (SqL.of hc7) (lV' hr) ?_
  walk_at "y"
  refine aV' (SqL.of hd7) (lV' hr) ?_
  walk_at "y"
  refine⟨by omega,?_⟩
  have ediv:((ss M q' w r:Nat):Int) / 2 ^ ((p:Int)).toNat=((ss M q' w r / 2 ^ p:Nat):Int):=by
   rw[show((p:Int)).toNat=p by omega,Int.natCast_ediv,Int.natCast_pow]
   rfl
  rw[ediv]
  walk_at "y"
  refine bA' (fun hl=>?_) fun hl=>?_
  .have hlt:ss M q' w r / 2 ^ p<w r:=by omega
   have hk:w r-ss M q' w r / 2 ^ p<=w r:=Nat.sub_le _ _
   have hJ:=J.lose hO hlt
   have htot:=n0' (M:=M) hr hk
   have hk1:1<=w r-ss M q' w r / 2 ^ p:=by omega
   rw[show((w r:Nat):Int)-((ss M q' w r / 2 ^ p:Nat):Int)=((w r-ss M q' w r / 2 ^ p:Nat):Int) by omega]
   generalize w r-ss M q' w r / 2 ^ p=k at hk hJ htot hk1 ⊢
   walk_at "y"
   refine u6' hc7 (lV' hr) ?_
   walk_at "y"
   refine o8' hc7 (pt' (by rw[aa,lT'];exact hr)) ?_
   rw[if_pos rfl,show((w r:Nat):Int)-(k:Int)=((w r-k:Nat):Int) by omega,pp']
   have hc8:upd H7 c (.lst ((wL M (dg' w r k)).map nV)) c=some (.lst ((wL M (dg' w r k)).map nV)):=aa'
   have hd8:upd H7 c (.lst ((wL M (dg' w r k)).map nV)) d=some (.lst ((wL M (sf M q' w r k 0)).map nV)):=by
    rw[af' hcd.symm,hd7]
    have e:sf M q' w r k 0=ss M q' w:=by
     funext x
     unfold sf
     simp
    rw[e]
   have hT8:upd H7 c (.lst ((wL M (dg' w r k)).map nV)) T=some (.lst (wt'.map nV)):=by rw[af' hcT.symm];exact hT7
   have b8:But [c,d,T] H5 (upd H7 c (.lst ((wL M (dg' w r k)).map nV))):=fun x u e n=>by
    rw[af' (fun z=>n (by simp[z]))]
    exact b7 x u e n
   generalize upd H7 c (.lst ((wL M (dg' w r k)).map nV))=H8 at hc8 hd8 hT8 b8 ⊢
   obtain⟨xA,hxA⟩:∃xA,As[r]?=some xA:=⟨_,ab (by omega)⟩
   walk_at "y"
   refine aV' (SqL.of (stays H8 b8).1) (v:=.ref xA) (aY' (by rw[ap,hxA];rfl)) ?_
   refine aT' (SqL.of ((stays H8 b8).2 r xA hxA)) (nu' (xs:=(sl M q' M.length r).map nV) (fun j σ H'=>j<=(sl M q' M.length r).length/\(∃x10,σ=[some (.ref a),some (.int p),some (.int q'),some (.ref b),some (.ref c),some (.ref d),some (.ref S),some (.ref T),some (.int r),some (.int k),x10])/\H' c=some (.lst ((wL M (dg' w r k)).map nV))/\H' d=some (.lst ((wL M (sf M q' w r k j)).map nV))/\H' T=some (.lst (wt'.map nV))/\But [c,d,T] H5 H') ⟨aE _,⟨_,rfl⟩,hc8,hd8,hT8,b8⟩ (fun j σ H' _ pv=>SqL.of ((stays H' pv.2.2.2.2.2).2 r xA hxA)) ?_ ?_)
   .rintro j v σ H9 hv ⟨_,⟨y10,rfl⟩,hc9,hd9,hT9,b9⟩
    rw[ap]at hv
    obtain⟨x,hx,rfl⟩:=bn.mp hv
    have hxl:=lX' (az hx)
    have hge:=x6' (w:=w) hk hx
    have hj:=al' hx
    simp only[nV]
    walk_at "y"
    refine u6' hd9 (lV' hxl) ?_
    walk_at "y"
    refine o8' hd9 (pt' (by rw[aa,lT'];exact hxl)) ?_
    rw[if_pos rfl,show((sf M q' w r k j x:Nat):Int)-(k:Int)=((sf M q' w r k j x-k:Nat):Int) by omega,pp',rr' hx]
    refine⟨hj,⟨_,rfl⟩,by rw[af' hcd];exact hc9,aa',by rw[af' hdT.symm];exact hT9,fun y u e n=>?_⟩
    rw[af' (fun z=>n (by simp[z]))]
    exact b9 y u e n
   .rintro σ H9 ⟨_,⟨y10,rfl⟩,hc9,hd9,hT9,b9⟩
    rw[aa,vn' hk]at hd9
    walk_at "y"
    refine⟨tyL hT9 rfl,aV' (SqL.of (stays H9 b9).1) (v:=.ref xA) (aY' (by rw[ap,hxA];rfl)) ?_⟩
    walk_at "y"
    have hL:=K0 r
    have hz2:wt'.length+(sl M q' M.length r).length<=2 ^ 24:=by omega
    refine⟨T,xA,_,_,rfl,rfl,hT9,(stays H9 b9).2 r xA hxA,by rw[aa,aa];exact hz2,?_⟩
    rw[<- ax]
    refine⟨_,?_,dg' w r k,wt'++sl M q' M.length r,_,_,_,rfl,rfl,hJ,by rw[af' hcT];exact hc9,by rw[af' hdT];exact hd9,aa',?_,fun y u e n=>?_⟩
    .rw[al,al,bL]
     omega
    .rw[al]
     omega
    .rw[af' (fun z=>n (by simp[z]))]
     exact b9 y u e n
  .have hle:w r<=ss M q' w r / 2 ^ p:=by omega
   walk_at "y"
   refine⟨wt'.length+4097*tot M w,?_,w,wt',_,_,_,rfl,rfl,J.keep hle,hc7,hd7,hT7,by omega,b7⟩
   rw[al,bL]
   omega
theorem iA' {M:List Rm} {m:Nat}:wL M (fun _=>m)=ao M.length m:=by
 unfold wL
 rw[List.map_const',aS]
theorem n1' {i m:Nat}:(ao i m).map nV++[V.int m]=(ao (i+1) m).map nV:=by
 rw[cw,ax]
 rfl
def rt':Sp:=fun vs H Q _=>∃(a:Addr) (M:List Rm) (p q m:Nat),vs=[.ref a,.int p,.int q,.int m]/\IsM H a M/\OkM M/\M.length<=16/\p<=8/\q<=8/\M.length*m<=3000/\∀(v:V) (w:Nat->Nat) (H':Hp),ax' H H'->Gr M p q m w->((∃c,v=.ref c/\H c=none/\H' c=some (.lst ((wL M w).map nV))/\∃r,r<M.length/\w r≠0)\/v=.non/\∀r,r<M.length->w r=0)->Q v H'
theorem ru' {C:Rc} (hN:C.N.length=6) (hG:C.fs "greatest_within"=some vo'):∀vs H Q E,rt' vs H Q E->tSs C c8' { nx:=fun _ H'=>Q .non H',rt:=Q } (L2.aw' C.N vs) H:=by
 intro vs H Q E h
 obtain⟨a,M,p,q',m,rfl,hM,hO,hM1,hp,hq,hm,q⟩:=h
 rw[aj' hN]
 unfold c8'
 obtain⟨mv,hmv,hmr⟩:=id hM
 have hml:=hmr.len
 walk_at "y"
 refine ai' hG ?_
 walk_at "y"
 refine aU' (SqT.of hmv) (dh' (fun i xs H'=>i<=mv.length/\xs=(ao i m).map nV/\H'=H) ⟨aE _,rfl,rfl⟩ (fun i xs H' pv=>by rw[pv.2.2];exact SqT.of hmv) ?_ ?_)
 .rintro i xs H' x R hx ⟨_,rfl,rfl⟩ hR
  have hi:=al' hx
  walk_at "y"
  exact⟨by rw[aa,bc];exact ah' (by omega),hR _ _ ⟨hi,n1',rfl⟩⟩
 rintro xs H0 ⟨_,rfl,rfl⟩ b hb
 rw[hml,<- iA']
 have s1:=ae' hb (.lst ((wL M fun _=>m).map nV))
 have hb1:upd H0 b (.lst ((wL M fun _=>m).map nV)) b=some (.lst ((wL M fun _=>m).map nV)):=aa'
 generalize upd H0 b (.lst ((wL M fun _=>m).map nV))=H1 at s1 hb1 ⊢
 walk_at "y"
 refine⟨a,b,M,p,q',m,rfl,hM.mono (ao' s1),hO,hM1,hp,hq,hm,hb1,fun c w H2 hc s2 hc2 hg=>?_⟩
 walk_at "y"
 refine q6' (ns:=(wL M w).map fun n:Nat=>(n:Int)) (SqL.of (by rw[hc2,fg'])) ?_
 cases e:((wL M w).map fun n:Nat=>(n:Int)).any fun n=>n != 0 with
 |true=>
  walk_at "y"
  refine q _ w H2 (s1.trans s2) hg (.inl ⟨c,rfl,s1.free hc,hc2,?_⟩)
  obtain⟨z,hz,hz0⟩:=bK.mp e
  obtain⟨n,hn,rfl⟩:=bg.mp hz
  unfold wL at hn
  obtain⟨r,hr,rfl⟩:=bg.mp hn
  refine⟨r,aJ.mp hr,?_⟩
  simpa using hz0
 |false=>
  walk_at "y"
  refine q _ w H2 (s1.trans s2) hg (.inr ⟨rfl,fun r hr=>?_⟩)
  rw[List.any_eq_false]at e
  have:=e ((w r:Nat):Int) (bg.mpr ⟨w r,az (lU' hr),rfl⟩)
  simpa using this
def vp':Sp:=fun vs H Q _=>∃(a:Addr) (M:List Rm) (p q m:Nat),vs=[.ref a,.int p,.int q,.int m]/\IsM H a M/\OkM M/\M.length<=12/\p<=8/\q<=8/\m<=200/\∀(c:Addr) (w:Nat->Nat) (H':Hp),H c=none->ax' H H'->Gr M p q m w->H' c=some (.lst ((wL M w).map nV))->Q (.ref c) H'
def zE':Sp:=fun vs H Q _=>∃(x y:Addr) (M:List Rm) (u w:Nat->Nat),vs=[.ref x,.ref y]/\M.length<=100/\H x=some (.lst ((wL M u).map nV))/\H y=some (.lst ((wL M w).map nV))/\(∀r,r<M.length->u r<=w r)/\∀H',ax' H H'->Q (.bl true) H'
def v6' (M:List Rm) (r:Nat):Bool:=(LW.stp M r false).isSome&&(LW.stp M r true).isSome
structure FsRight (C:Rc):Prop where
 take:C.fs "_law_take"=some aH'
 asked:C.fs "_law_asked"=some cB'
 told:C.fs "_law_told"=some vp'
 am:C.fs "_law_at_most"=some zE'
end K30
namespace K28
open PySem PySem.Spec PyProof.Rows L2 R3 LW
open SR CK RW TM BD BE K31 K30
def l0':Sp:=fun vs H Q _=>∃(a w:Addr) (M:List Rm) (q r:Nat) (u:Nat->Nat),vs=[.ref a,.int q,.ref w,.int r]/\IsM H a M/\OkM M/\M.length<=100/\q<=8/\r<M.length/\Lt H w ((wL M u).map nV)/\∀H',ax' H H'->Q (.int (ss M q u r:Nat)) H'
theorem iB':∀{ns:List Nat},(ns.map fun n:Nat=>(n:Int)).sum=((ns.sum:Nat):Int)
 | []=>rfl
 |n :: ns=>by rw[aH,bG,bG,iB',Int.natCast_add]
theorem n2' {C:Rc} (hN:C.N.length=9):∀vs H Q E,l0' vs H Q E->tSs C ec' { nx:=fun _ H'=>Q .non H',rt:=Q } (L2.aw' C.N vs) H:=by
 intro vs H Q E h
 obtain⟨a,w,M,q',r,u0,rfl,hM,hO,hM1,hq,hr,hw,q⟩:=h
 rw[aj' hN]
 unfold ec'
 obtain⟨mv,hmv,hmr⟩:=id hM
 walk_at "y"
 refine⟨by decide,fun s hs=>?_⟩
 have s1:=ae' hs (.lst [.int r])
 have hs1:upd H s (.lst [.int r]) s=some (.lst (iN [r])):=aa'
 generalize upd H s (.lst [.int r])=H1 at s1 hs1 ⊢
 walk_at "y"
 have p8:∀i,i<=q'->2 ^ i<=256:=fun i hi=>aI (Nat.pow_le_pow_right (by omega) (by omega:i<=8)) (by decide)
 refine d9' (by omega) (by omega) (eV' (fun i σ H2=>i<=q'/\(∃s x5 x6 x7 x8,σ=[some (.ref a),some (.int q'),some (.ref w),some (.int r),some (.ref s),x5,x6,x7,x8]/\H2 s=some (.lst (iN (en M i r))))/\ax' H H2) ⟨aE _,⟨s,_,_,_,_,rfl,hs1⟩,s1⟩ ?_ ?_)
 .rintro i σ H2 hi ⟨_,⟨s2,x5,x6,x7,x8,rfl,hs2⟩,s2'⟩
  have hsl:=iz' (M:=M) (r:=r) (n:=i)
  have hi:i<q':=by omega
  have h256:=p8 i (by omega)
  have hpow:2 ^ (i+1)=2 ^ i*2:=bX ..
  walk_at "y"
  refine⟨by decide,fun f hf=>?_⟩
  have hf3:upd H2 f (.lst []) f=some (.lst (iN [])):=aa'
  have hS3:∀o,ax' H2 (upd (upd H2 f (.lst [])) f o):=fun o=>by rw[b8'];exact ae' hf o
  generalize upd H2 f (.lst [])=H3 at hf3 hS3 ⊢
  have hold:∀H4,(∀o,ax' H2 (upd H4 f o))->ax' H2 H4:=fun H4 hS b u e=>by
   have hb:b≠f:=ag' e hf
   have:=hS (.lst []) b u e
   rwa [af' hb]at this
  walk_at "y"
  refine aT' (SqL.of (hold _ hS3 _ _ hs2)) ?_
  refine nu' (fun k σ H4=>(∃y7 y8,σ=[some (.ref a),some (.int q'),some (.ref w),some (.int r),some (.ref s2),some (.int (0+i)),some (.ref f),y7,y8])/\(∀o,ax' H2 (upd H4 f o))/\H4 f=some (.lst (iN (((en M i r).take k).flatMap (dr M))))) ⟨⟨_,_,rfl⟩,hS3,hf3⟩ (fun k σ H4 _ pv=>SqL.of (hold _ pv.2.1 _ _ hs2)) ?_ ?_
  .rintro k x σ H4 hx ⟨⟨y7,y8,rfl⟩,hS4,hf4⟩
   obtain⟨sp,hsp,rfl⟩:=pk' hx
   have hk:=al' hsp
   have hspl:=lR' hO hr (az hsp)
   have hfl:(((en M i r).take k).flatMap (dr M)).length<=512:=by
    have h1:=dL' (f:=dr M) (k:=2) (fun _=>lQ') ((en M i r).take k)
    have h2:((en M i r).take k).length<=256:=by rw[aL];omega
    omega
   have s24:=s2'.trans (hold _ hS4)
   obtain⟨pr,epr,hpr⟩:=hmr.get (ab hspl)
   have hpr4:H4 pr=some (.tup ([M[sp].1,M[sp].2].map oV)):=s24 _ _ hpr
   walk_at "y"
   refine⟨tyL hf4 rfl,?_⟩
   walk_at "y"
   refine cm' (SqT.of (s24 _ _ hmv)) (aY' epr) ?_
   refine aU' (SqT.of hpr4) (dh' (vs:=[M[sp].1,M[sp].2].map oV) (fun j xs H5=>j<=2/\xs=iN (([M[sp].1,M[sp].2].take j).filterMap id)/\H5=H4) ⟨by omega,rfl,rfl⟩ (fun j xs H5 pv=>by rw[pv.2.2];exact SqT.of hpr4) ?_ ?_)
   .rintro j xs H5 x R hx ⟨_,rfl,rfl⟩ hR
    rw[ap]at hx
    obtain⟨o,ho,rfl⟩:=bn.mp hx
    have hj:j<2:=al' ho
    have hsz:(iN (([M[sp].1,M[sp].2].take j).filterMap id)).length<sizeLine:=by
     unfold iN
     rw[aa]
     have:=List.length_filterMap_le id ([M[sp].1,M[sp].2].take j)
     rw[aL]at this
     exact ah' (by omega)
    cases o with
    |none=>
     simp only[oV]
     walk_at "y"
     refine hR _ _ ⟨hj,?_,rfl⟩
     rw[aW,ho,List.filterMap_append]
     simp
    |some y=>
     simp only[oV]
     walk_at "y"
     refine⟨hsz,hR _ _ ⟨hj,?_,rfl⟩⟩
     rw[aW,ho,List.filterMap_append]
     unfold iN
     rw[ax]
     rfl
   .rintro xs H5 ⟨_,rfl,rfl⟩ g hg
    have e2:([M[sp].1,M[sp].2].take (([M[sp].1,M[sp].2].map oV)).length).filterMap id=lds M[sp]:=rfl
    rw[e2]
    have s6:=ae' hg (.lst (iN (lds M[sp])))
    have hg6:upd H5 g (.lst (iN (lds M[sp]))) g=some (.lst (iN (lds M[sp]))):=aa'
    have hf6:=s6 _ _ hf4
    generalize upd H5 g (.lst (iN (lds M[sp])))=H6 at s6 hg6 hf6 ⊢
    have hll:=ri' (r:=M[sp])
    walk_at "y"
    refine rj' hf6 hg6 (by unfold iN;rw[aa,aa];exact lw' (by omega)) ?_
    walk_at "y"
    refine⟨⟨_,_,rfl⟩,fun o b u e=>?_,?_⟩
    .rw[b8',af' (ag' e hf)]
     exact s6 _ _ (hold _ hS4 _ _ e)
    .rw[aa',aW,hsp,List.flatMap_append]
     have e3:lds M[sp]=dr M sp:=by
      obtain⟨d1,d2⟩:=fI' (ab hspl)
      unfold dr lds
      rw[d1,d2]
      cases M[sp].1<;>cases M[sp].2<;>rfl
     rw[e3]
     unfold iN
     rw[ax]
     simp
  .rintro σ H4 ⟨⟨y7,y8,rfl⟩,hS4,hf4⟩
   have hil:(iN (en M i r)).length=(en M i r).length:=by unfold iN;rw[aa]
   rw[hil,aT]at hf4
   walk_at "y"
   exact⟨hi,⟨f,_,_,_,_,rfl,hf4⟩,s2'.trans (hold _ hS4)⟩
 .rintro σ H2 ⟨_,⟨s2,x5,x6,x7,x8,rfl,hs2⟩,s2'⟩
  have h256:=p8 q' (by omega)
  rw[show((q':Int)).toNat=q' by omega]at hs2
  have hsl:=iz' (M:=M) (r:=r) (n:=q')
  walk_at "y"
  refine aT' (SqL.of hs2) (gv' (fun k xs H3=>k<=(en M q' r).length/\xs=(((en M q' r).take k).map u0).map nV/\H3=H2) ⟨aE _,rfl,rfl⟩ (fun k xs H3 pv=>by rw[pv.2.2];exact SqL.of hs2) ?_ ?_)
  .rintro k xs H3 x R hx ⟨_,rfl,rfl⟩ hR
   obtain⟨sp,hsp,rfl⟩:=pk' hx
   have hk:=al' hsp
   have hspl:=lR' hO hr (az hsp)
   walk_at "y"
   refine nR' (hw.mono s2') (lV' hspl) ?_
   walk_at "y"
   refine⟨by rw[aa,aa,aL];exact ah' (by omega),hR _ _ ⟨hk,?_,rfl⟩⟩
   rw[aW,hsp,ax,ax]
   rfl
  .rintro xs H3 ⟨_,rfl,rfl⟩ g hg
   have hil:(iN (en M q' r)).length=(en M q' r).length:=by unfold iN;rw[aa]
   rw[hil,aT,fg']
   walk_at "y"
   refine⟨g,_,rfl,SqL.of aa',?_⟩
   rw[iB']
   exact q _ (s2'.trans (ae' hg _))
def okB (M:List Rm) (p q:Nat) (u:Nat->Nat):Bool:=(aA M.length).all fun r=>decide (u r*2 ^ p<=ss M q u r)
def zF':Sp:=fun vs H Q _=>∃(a w:Addr) (M:List Rm) (p q:Nat) (u:Nat->Nat),vs=[.ref a,.int p,.int q,.ref w]/\IsM H a M/\OkM M/\M.length<=100/\p<=8/\q<=8/\Up M 1000000 u/\H w=some (.lst ((wL M u).map nV))/\∀H',ax' H H'->Q (.bl (!decide (tot M u=0)&&okB M p q u)) H'
structure Ld (M:List Rm) (p q m:Nat) (w:Nat->Nat):Prop where
 up:Up M m w
 top:∀u,Up M m u->Okw M p q u->∀r,r<M.length->u r<=w r
def zG':Sp:=fun vs H Q _=>∃(a:Addr) (M:List Rm) (p q m:Nat),vs=[.ref a,.int p,.int q,.int m]/\IsM H a M/\OkM M/\M.length<=12/\p<=8/\q<=8/\∀(v:V) (w:Nat->Nat) (H':Hp),ax' H H'->Gr M p q m w->((∃c,v=.ref c/\H c=none/\H' c=some (.lst ((wL M w).map nV))/\tot M w≠0)\/v=.non/\tot M w=0)->Q v H'
def fl (l:List Nat):Nat->Nat:=fun r=>l.getD r 0
def zH':Sp:=fun vs H Q _=>∃(a:Addr) (M:List Rm) (p q m:Nat) (w:Nat->Nat),vs=[.ref a,.int p,.int q,.int m]/\IsM H a M/\OkM M/\M.length<=3/\p<=8/\q<=8/\m<=3/\Gr M p q m w/\∀(v:V) (H':Hp),ax' H H'->((tot M w≠0/\∃c,v=.ref c/\H' c=some (.lst ((wL M w).map nV)))\/tot M w=0/\v=.non)->Q v H'
theorem hQ' {C:Rc} (hN:C.N.length=5) (hA:C.fs "_law_any_machine"=some gL') (hR:C.fs "_law_rates"=some eK') (hB:C.fs "_law_behind"=some l0'):∀vs H Q E,cB' vs H Q E->tSs C fK' { nx:=fun _ H'=>Q .non H',rt:=Q } (L2.aw' C.N vs) H:=by
 intro vs H Q E h
 obtain⟨b,n,rfl,hb,hn,q⟩:=h
 rw[aj' hN]
 unfold fK'
 walk_at "y"
 refine ai' hA ?_
 walk_at "y"
 refine⟨b,n,rfl,hb,by omega,fun a M H1 g1 hM hO hM1 hM60=>?_⟩
 obtain⟨n1,hb1,hn1,_⟩:=g1.boxed hb (by omega)
 walk_at "y"
 rw[hD']
 refine ai' hR ?_
 walk_at "y"
 refine⟨b,n1,rfl,hb1,by omega,fun t p q' H2 g2 hp1 hp4 hq1 hq8 hpq ht=>?_⟩
 refine hE' (SqT.of ht) ?_
 have hM2:=hM.mono g2.tp
 obtain⟨mv,hmv,hmr⟩:=id hM2
 have hml:=hmr.len
 have g02:=(g1.trans g2)
 simp only[fa',bM,bN]
 refine nz' fun NX hNX=>?_
 have fin:∀(p q':Nat) H4,ax' H2 H4->1<=p->p<=4->1<=q'->q'<=8->p<=q'->NX [some (.ref b),some (.ref a),some (.int p),some (.int q'),none] H4:=by
  intro p q' H4 s4 hp1 hp4 hq1 hq8 hpq
  refine hNX _ _ ?_
  walk_at "y"
  refine⟨by decide,fun t2 ht2=>?_⟩
  have s5:=ae' ht2 (.tup [.ref a,.int p,.int q'])
  exact q t2 a M p q' _ ((g02.trans (Go.of_same (c:=0) (s4.trans s5))).mono (by omega)) aa' (hM2.mono (ao' (s4.trans s5))) hO hM1 hM60 hp1 hp4 hq1 hq8 hpq
 walk_at "y"
 refine cc' (SqT.of hmv) ?_
 rw[hml]
 refine d9' (by omega) (by omega) (lc' (fun i xs H3=>i<=M.length/\(∃ns:List Int,xs=ns.map V.int/\ns.length=i)/\ax' H2 H3) ⟨aE _,⟨[],rfl,rfl⟩,ax'.refl _⟩ ?_ ?_)
 .rintro i xs H3 R hi ⟨_,⟨ns,rfl,hnl⟩,s3⟩ hR'
  have hi:i<M.length:=by omega
  rw[Int.zero_add]
  walk_at "y"
  refine ai' hB ?_
  walk_at "y"
  refine⟨by decide,fun l hl=>?_⟩
  have s4:=ae' hl (.lst [.int 1])
  have hl4:upd H3 l (.lst [.int 1]) l=some (.lst [.int 1]):=aa'
  generalize upd H3 l (.lst [.int 1])=H4 at s4 hl4 ⊢
  have s24:=s3.trans s4
  refine cc' (SqT.of (s24 _ _ hmv)) ?_
  rw[hml]
  walk_at "y"
  refine pa' hl4 (by omega) (bu (ah' (by simp;omega))) fun w hw=>?_
  have s5:=ae' hw (.lst (ao M.length [V.int 1]).flatten)
  have hw5:upd H4 w (.lst (ao M.length [V.int 1]).flatten) w=some (.lst ((wL M fun _=>1).map nV)):=by
   rw[aa',pl',iA',List.map_replicate,List.map_replicate]
   rfl
  generalize upd H4 w (.lst (ao M.length [V.int 1]).flatten)=H5 at s5 hw5 ⊢
  walk_at "y"
  refine⟨a,w,M,q',i,fun _=>1,rfl,hM2.mono (ao' (s24.trans s5)),hO,by omega,by omega,hi,.inl hw5,fun H6 s6=>?_⟩
  generalize ((ss M q' (fun _=>1) i:Nat):Int)=z
  walk_at "y"
  exact⟨by rw[aa];exact ah' (by omega),hR' _ _ ⟨hi,⟨ns++[z],by rw[ax];rfl,by rw[al,hnl];rfl⟩,(s24.trans s5).trans s6⟩⟩
 .rintro xs H3 ⟨_,⟨ns,rfl,hnl⟩,s3⟩ g hg
  have s4:=s3.trans (ae' hg (.lst (ns.map V.int)))
  have hg4:upd H3 g (.lst (ns.map V.int)) g=some (.lst (ns.map V.int)):=aa'
  generalize upd H3 g (.lst (ns.map V.int))=H4 at s4 hg4 ⊢
  walk_at "y"
  refine uH' (SqL.of hg4) (fun z=>by rw[z]at hnl;simp at hnl;omega) fun mx _ _=>?_
  walk_at "y"
  refine bA' (fun hq=>?_) fun hq=>?_
  .walk_at "y"
   rw[hD']
   walk_at "y"
   refine⟨by decide,fun t3 ht3=>?_⟩
   refine hE' (SqT.of aa') ?_
   walk_at "y"
   exact fin 1 2 _ (s4.trans (ae' ht3 _)) (by omega) (by omega) (by omega) (by omega) (by omega)
  .walk_at "y"
   exact fin p q' _ s4 hp1 hp4 hq1 hq8 hpq
structure FsRight (C:Rc):Prop where
 take:C.fs "_law_take"=some aH'
 asked:C.fs "_law_asked"=some cB'
 ld:C.fs "_law_let_down"=some zG'
 en:C.fs "enough"=some rt'
 same:C.fs "_law_same"=some (o9' 1)
 ae:C.fs "_law_are_enough"=some zF'
 ba:C.fs "_law_by_all"=some zH'
end K28
namespace K29
open PySem PySem.Spec PyProof.Rows L2 R3 LW
open K30 K31 SR CK RW TM BD BE K28
def pos:V->Bool
 | .int i=>decide (0<=i)
 |_=>false
def vN:V->Nat
 | .int i=>i.toNat
 |_=>0
def fv (vs:List V):Nat->Nat:=fun r=>vN (vs.getD r .non)
def gdP (M:List Rm) (p q:Nat):Option (List V)->Bool
 |some vs=>decide (vs.length=M.length)&&(vs.all pos&&(!decide (tot M (fv vs)=0)&&okB M p q (fv vs)))
 |none=>false
theorem fN':∀{vs:List V},vs.all isN=true->∃ns:List Int,vs=ns.map V.int
 | [],_=>⟨[],rfl⟩
 |v :: vs,h=>by
  rw[List.all_cons,ac]at h
  obtain⟨ns,rfl⟩:=fN' h.2
  cases v with
  |int i=>exact⟨i :: ns,rfl⟩
  |_=>cases h.1
def Bd (o:Option (List V)):Prop:=∀vs,o=some vs->∀x∈vs,vN x<=2 ^ 90
def vq':Sp:=fun vs H Q _=>∃(a:Addr) (M:List Rm) (p q:Nat) (v:V) (o:Option (List V)),vs=[.ref a,.int p,.int q,v]/\IsM H a M/\OkM M/\M.length<=60/\p<=8/\q<=8/\Tl H v o/\Bd o/\∀H',ax' H H'->Q (.bl (gdP M p q o)) H'
def zI':Sp:=fun vs H Q _=>∃(a:Addr) (M:List Rm) (p q:Nat) (v:V) (o:Option (List V)),vs=[.ref a,.int p,.int q,v]/\IsM H a M/\OkM M/\M.length<=60/\p<=8/\q<=8/\Tl H v o/\∀H',ax' H H'->Q (.bl (gdP M p q o)) H'
structure FsSE (C:Rc):Prop where
 isM:C.fs "is_machine"=some fG'
 sizes:C.fs "are_sizes"=some cA'
 areN:C.fs "are_numbers"=some dJ'
 walk:C.fs "walk_sums"=some a8'
def cT' (A B:Hp):Prop:=(∀a xs,A a=some (.lst xs)->B a=some (.lst xs))/\∀a xs,A a=some (.tup xs)->B a=some (.tup xs)
theorem cT'.go {c:Nat} {A B:Hp} (g:Go c A B):cT' A B:=⟨fun _ _ e=>g.lst e,fun _ _ e=>g.tup e⟩
theorem cT'.upd {A B:Hp} (k:cT' A B) (p:Addr) (o:HO):cT' (upd A p o) (upd B p o):=by
 refine⟨fun a xs e=>?_,fun a xs e=>?_⟩
 .by_cases h:a=p
  .subst h;rw[aa']at e ⊢;exact e
  .rw[af' h]at e ⊢;exact k.1 a xs e
 .by_cases h:a=p
  .subst h;rw[aa']at e ⊢;exact e
  .rw[af' h]at e ⊢;exact k.2 a xs e
theorem cT'.trans {A B D:Hp} (k:cT' A B) (l:cT' B D):cT' A D:=⟨fun a xs e=>l.1 a xs (k.1 a xs e),fun a xs e=>l.2 a xs (k.2 a xs e)⟩
theorem l1' {A B:Hp} (k:cT' A B) {a:Addr} {vs:List V} (h:Lt A a vs):Lt B a vs:=by
 rcases h with h|h
 .exact .inl (k.1 _ _ h)
 .exact .inr (k.2 _ _ h)
def scT:V->Bool
 | .non=>true
 | .int _=>true
 | .str _=>true
 | .bl _=>true
 |_=>false
theorem pick {α:Type} {xs:List α} {P:α->Prop} {i:Int} (h:∀x∈xs,P x) (h0:0<=i) (h1:i<xs.length):∃v,atI xs i=some v/\P v:=by
 obtain⟨v,e1,e2⟩:=uv' h0 h1
 exact⟨v,e2,h v (az e1)⟩
theorem l2' {c:Nat} {H H':Hp} (g:Go c H H') {p:Addr} (hp:H p=none) (o:HO):Go c H (upd H' p o):=by
 obtain⟨g1,g2,g3⟩:=g
 refine⟨fun a n e=>?_,fun a o' e nb=>?_,fun a e=>?_⟩
 .obtain⟨m,h1,h2⟩:=g1 a n e
  exact⟨m,h1,by rw[af' (ag' e hp)];exact h2⟩
 .rw[af' (ag' e hp)]
  exact g2 a o' e nb
 .by_cases h:a=p
  .rw[h];exact hp
  .rw[af' h]at e
   exact g3 a e
structure FsRight (C:Rc):Prop where
 take:C.fs "_law_take"=some aH'
 asked:C.fs "_law_asked"=some cB'
 en:C.fs "enough"=some rt'
 se:C.fs "shows_enough"=some zI'
 papers:C.fs "_law_papers"=some da'
 due:C.fs "_law_due"=some vq'
end K29
namespace TE
open PySem PySem.Spec PyProof.Rows L2 R3 LW TM BD BE
def ixR (rs:List Nat):Option Nat->Option Nat
 |none=>none
 |some n=>if n∈rs then some (rs.idxOf n)else none
def prt (M:List Rm) (rs:List Nat):List Rm:=rs.map fun r=>(ixR rs (fs1 M r),ixR rs (fs2 M r))
structure Rs (M:List Rm) (rs:List Nat):Prop where
 rise:rs.Pairwise (· < ·)
 lt:∀r∈rs,r<M.length
 fix:lst M rs=rs
 all:∀S,Sus M S->∀r∈S,r∈rs
end TE
namespace K71
open PySem PySem.Spec PyProof.Rows L2 R3 LW
open SR RW TM BD BE TE CK K31 K30 K28 K29
def Mx (l0 h0 l1 h1:Nat) (sp:Option Nat):List Rm:=(rk (lvs sp) h0 h1).map (mx l0 l1 sp (rk (lvs sp) h0 h1))
theorem rv' {C:Rc} {σ:L2.St} {H:Hp} {Q:VK} {c1 c2 c3:Ce} {a n m:Int} (h1:∀Q,Q (V.int a) H->tE C c1 σ H Q) (h2:∀Q,Q (V.int n) H->tE C c2 σ H Q) (h3:∀Q,Q (V.int m) H->tE C c3 σ H Q) (q:Q (.bl (decide (a<=n/\n<=m))) H):tE C (.chn .LtE .LtE c1 c2 c3) σ H Q:=by
 show df' (cS' C.K .LtE) (cS' C.K .LtE) (tE C c1) (tE C c2) (tE C c3) σ H Q
 unfold df'
 by_cases ha:a<=n
 .refine h1 _ (h2 _ ⟨a,n,rfl,rfl,true,?_,?_⟩)
  .show V.bl (decide (a<=n))=_
   rw[decide_eq_true ha]
  .rw[if_pos rfl]
   refine h3 _ ⟨n,m,rfl,rfl,?_⟩
   show Q (V.bl (decide (n<=m))) H
   rwa [show decide (a<=n/\n<=m)=decide (n<=m) from decide_eq_decide.mpr ⟨fun z=>z.2,fun z=>⟨ha,z⟩⟩]at q
 .refine h1 _ (h2 _ ⟨a,n,rfl,rfl,false,?_,?_⟩)
  .show V.bl (decide (a<=n))=_
   rw[decide_eq_false ha]
  .rw[if_neg (by simp)]
   rwa [decide_eq_false (fun z=>ha z.1)]at q
def l3':Sp:=fun vs H Q _=>∃(i lo hi:Int),vs=[.int i,.int lo,.int hi]/\Q (.bl (decide (lo<=i/\i<=hi))) H
theorem rx' {M:List Rm} {n:Nat}:∀{q:Nat},it M (wy M none n) q=wy M none (n+q)
 |0=>rfl
 |q+1=>by
  show st1 M (it M (wy M none n) q)=_
  rw[rx']
  rfl
theorem fm' {vs:List V} {H:Hp} {Q:VK} {E:XK} (h:K31.pj' vs H Q E):a8' vs H Q E:=by
 obtain⟨a,b,M,n,q,rfl,hM,hO,hl,hq,hb,k⟩:=h
 refine⟨a,b,M,wy M none n,q,rfl,hM,hO,hl,hq,.inl hb,fun p H' hp s hp'=>k p H' hp s ?_⟩
 rw[hp',rx']
 rfl
theorem n3' {C:Rc} (hN:C.N.length=7) (hW:C.fs "walk_sums"=some a8') (hB:C.fs "are_below"=some bV'):∀vs H Q E,r1' vs H Q E->tSs C bp' { nx:=fun _ H'=>Q .non H',rt:=Q } (L2.aw' C.N vs) H:=by
 intro vs H Q E h
 obtain⟨a,M,p,q',most,rfl,hM,hO,hM1,hp,hq,hmost,q⟩:=h
 rw[aj' hN]
 unfold bp'
 obtain⟨mv,hmv,hmr⟩:=id hM
 have hml:=hmr.len
 walk_at "y"
 refine aU' (SqT.of hmv) (dh' (fun i xs H'=>i<=mv.length/\xs=(ao i 1).map nV/\H'=H) ⟨aE _,rfl,rfl⟩ (fun i xs H' pv=>by rw[pv.2.2];exact SqT.of hmv) ?_ ?_)
 .rintro i xs H' x R hx ⟨_,rfl,rfl⟩ hR
  have hi:=al' hx
  walk_at "y"
  exact⟨by rw[aa,bc];exact ah' (by omega),hR _ _ ⟨hi,hM' (M:=M),rfl⟩⟩
 rintro xs H0 ⟨_,rfl,rfl⟩ c hc
 rw[hml,<- wN0]
 have s1:=ae' hc (.lst ((wN M 0).map nV))
 have hc1:upd H0 c (.lst ((wN M 0).map nV)) c=some (.lst ((wN M 0).map nV)):=aa'
 generalize upd H0 c (.lst ((wN M 0).map nV))=H1 at s1 hc1 ⊢
 walk_at "y"
 refine uA' (by omega) (by omega) (by omega) (by omega) ?_
 rw[show((most:Int)+1-1).toNat=most by omega]
 refine eV' (fun i σ H2=>i<=most/\(∃c x5 x6,σ=[some (.ref a),some (.int p),some (.int q'),some (.int most),some (.ref c),x5,x6]/\H2 c=some (.lst ((wN M (q'*i)).map nV)))/\ax' H0 H2/\∀j,j<i->okm M p q' (j+1)=false) ⟨aE _,⟨c,_,_,rfl,hc1⟩,s1,fun j hj=>absurd hj (by omega)⟩ ?_ ?_
 .rintro i σ H2 hi ⟨_,⟨c2,x5,x6,rfl,hc2⟩,s2,hno⟩
  rw[show(1:Int)+(i:Int)=((i+1:Nat):Int) by omega]
  walk_at "y"
  refine ai' hW ?_
  walk_at "y"
  refine fm' ⟨a,c2,M,q'*i,q',rfl,hM.mono (ao' s2),hO,by omega,by omega,hc2,fun c3 H3 hc30 s3 hc3=>?_⟩
  rw[show q'*i+q'=q'*(i+1) by rw[bZ,cD]]at hc3
  walk_at "y"
  refine ai' hB ?_
  walk_at "y"
  refine⟨.inl ⟨by omega,by omega⟩,?_⟩
  rw[show(p:Int)*((i+1:Nat):Int)=((p*(i+1):Nat):Int) by rw[bT]]
  refine⟨c3,wN M (q'*(i+1)),p*(i+1),rfl,.inl hc3,by rw[dK'];omega,fun H4 s4=>?_⟩
  have s24:=s2.trans (s3.trans s4)
  rw[show bel (p*(i+1)) (wN M (q'*(i+1)))=okm M p q' (i+1) from rfl]
  cases hk:okm M p q' (i+1)with
  |true=>
   walk_at "y"
   refine⟨by decide,fun t ht=>?_⟩
   exact q (.ref t) (some (i+1)) _ (s24.trans (ae' ht _)) (.inr ⟨i,by omega,rfl,hk,hno⟩) ⟨t,c3,rfl,aa',s2.free hc30,ae' ht _ _ _ (s4 _ _ hc3)⟩
  |false=>
   walk_at "y"
   refine⟨by omega,⟨c3,_,_,rfl,s4 _ _ hc3⟩,s24,fun j hj=>?_⟩
   rcases cj j i with h|h
   .exact hno j h
   .rw[show j=i by omega];exact hk
 .rintro σ H2 ⟨_,⟨c2,x5,x6,rfl,hc2⟩,s2,hno⟩
  walk_at "y"
  exact q .non none H2 s2 (.inl ⟨rfl,hno⟩) rfl
structure FsShowX (C:Rc):Prop where
 isM:C.fs "is_machine"=some fG'
 sizes:C.fs "are_sizes"=some cA'
 within:C.fs "is_within"=some l3'
 areN:C.fs "are_numbers"=some dJ'
 walk:C.fs "walk_sums"=some a8'
 below:C.fs "are_below"=some bV'
theorem pu' {M:List Rm} {w:Nat->Nat} {m:Nat}:∀{n:Nat},it M w (m+n)=it M (it M w m) n
 |0=>rfl
 |n+1=>by
  show st1 M (it M w (m+n))=st1 M (it M (it M w m) n)
  rw[pu']
theorem l4' {M:List Rm} (hO:OkM M) {p q:Nat} {w:Nat->Nat} (h:Okw M p q w):∀{m r:Nat},r<M.length->w r*2 ^ (p*m)<=it M w (q*m) r
 |0,r,hr=>by rw[Nat.mul_zero,Nat.mul_zero,Nat.pow_zero,cD];exact ai _
 |m+1,r,hr=>by
  have ih:=l4' hO h (m:=m) hr
  have h1:ss M (q*m) (fun e=>2 ^ p*w e) r<=ss M (q*m) (it M w q) r:=rm' hO hr fun e he=>by
   have:=h e he
   rw[hN',bV]
   exact this
  rw[po']at h1
  rw[bZ,cD,bZ,cD,Nat.add_comm (q*m) q,pu',hN']
  rw[hN']at ih
  refine aI ?_ h1
  have:=Nat.mul_le_mul_left (2 ^ p) ih
  refine aI (Nat.le_of_eq ?_) this
  rw[Nat.pow_add,bV (2 ^ p),bA]
theorem vr' {M:List Rm}:(fun _:Nat=>1)=wy M none 0:=by
 funext r
 show 1=if _ then _ else _
 rw[if_pos (.inl rfl)]
theorem vs' {M:List Rm} (hO:OkM M) {w:Nat->Nat} {c n r:Nat} (hr:r<M.length) (h:∀e,e<M.length->w e<=c):it M w n r<=c*wy M none n r:=by
 have h1:ss M n w r<=ss M n (fun _=>c*1) r:=rm' hO hr fun e he=>by have:=h e he;omega
 have e:ss M n (fun _=>c*1) r=c*ss M n (fun _=>1) r:=po' (w:=fun _=>1)
 rw[hN']
 refine aI h1 (Nat.le_of_eq ?_)
 rw[e,<- hN',vr' (M:=M),rx',Nat.zero_add]
theorem pv' {w:Nat->Nat}:∀{n:Nat},1<=n->∃r,r<n/\∀e,e<n->w e<=w r
 |0,h=>absurd h (by decide)
 |1,_=>⟨0,by decide,fun e he=>by rw[show e=0 by omega];exact ai _⟩
 |n+2,_=>by
  obtain⟨r,hr,h⟩:=pv' (w:=w) (n:=n+1) (by omega)
  by_cases z:w r<=w (n+1)
  .refine⟨n+1,by omega,fun e he=>?_⟩
   by_cases q:e=n+1
   .rw[q];exact ai _
   .exact aI (h e (by omega)) z
  .refine⟨r,by omega,fun e he=>?_⟩
   by_cases q:e=n+1
   .rw[q];omega
   .exact h e (by omega)
theorem l5' {M:List Rm} (hO:OkM M) {p q:Nat} {w:Nat->Nat} (h:Okw M p q w) (hw:∃r,r<M.length/\w r≠0) (m:Nat):okm M p q m=false:=by
 obtain⟨r0,hr0,hw0⟩:=hw
 obtain⟨r,hr,ht⟩:=pv' (w:=w) (n:=M.length) (by omega)
 have h1:=l4' hO h (m:=m) hr
 have h2:=vs' hO (n:=q*m) hr ht
 have hpos:0<w r:=by have:=ht r0 hr0;omega
 have h3:2 ^ (p*m)<=wy M none (q*m) r:=Nat.le_of_mul_le_mul_left (aI h1 h2) hpos
 unfold okm bel
 rw[List.all_eq_false]
 refine⟨wy M none (q*m) r,?_,?_⟩
 .unfold wN
  exact bg.mpr ⟨r,aJ.mpr hr,rfl⟩
 .rw[decide_eq_false (by omega)]
  exact aq
def itn (M:List Rm):Nat->List Nat->List Nat
 |0,rs=>rs
 |n+1,rs=>itn M n (lst M rs)
abbrev Cd:=Nat×Nat×Nat×Nat×Option Nat
def mX (c:Cd):List Rm:=Mx c.1 c.2.1 c.2.2.1 c.2.2.2.1 c.2.2.2.2
def mO (c:Cd) (n:Nat):List Rm:=prt (mX c) (itn (mX c) n (aA (mX c).length))
structure Gcode where
 c:Cd
 p:Nat
 q:Nat
 least:Nat
 ws:List Nat
 n:Nat
structure Bcode where
 c:Cd
 p:Nat
 q:Nat
 m:Nat
 n:Nat
structure GoodM (x:Gcode) (M:List Rm):Prop where
 pos:1<=M.length
 le:M.length<=16
 p4:x.p<=4
 q5:x.q<=5
 l1:1<=x.least
 l2:x.least<=2
 w:∃u,Up M x.least u/\Okw M x.p x.q u/\∃r,r<M.length/\u r≠0
structure BadM (x:Bcode) (M:List Rm):Prop where
 pos:1<=M.length
 le:M.length<=16
 p3:x.p<=3
 q8:x.q<=8
 m1:1<=x.m
 m3:x.m<=3
 hit:okm M x.p x.q x.m=true
end K71
namespace K32
open PySem PySem.Spec PyProof.Rows L2 R3 LW
def cD':List Str:=["thing"]
def bJ':List Str:=["bool","int","isinstance"]
def cE':List Str:=["thing","low","high"]
def bK':List Str:=[]
def dn':List Str:=["thing"]
def cF':List Str:=["isinstance","len","tuple"]
def cG':List Str:=["thing"]
def bL':List Str:=["isinstance","list","tuple"]
def bW':List Str:=["thing","many","each"]
def bg':List Str:=["all","len"]
def cH':List Str:=["p","q"]
def bM':List Str:=[]
def do':List Str:=["thing","many"]
def cI':List Str:=[]
def dp':List Str:=["thing","many"]
def cJ':List Str:=[]
def cd':List Str:=["thing","room"]
def br':List Str:=["all","isinstance","len","tuple"]
def dq':List Str:=["machine","rooms","inside","led_to","room","lead"]
def cK':List Str:=["set"]
def dr':List Str:=["machine","numbers","anew","at","room"]
def cL':List Str:=["enumerate","tuple"]
def ds':List Str:=["machine","numbers","fewer"]
def cM':List Str:=["len","list","range"]
def ce':List Str:=["machine","room","many","walks","step","row","end","bit"]
def bs':List Str:=["int","range"]
def dt':List Str:=["machine","many","room"]
def cN':List Str:=["len","range"]
def bt':List Str:=["machine","numbers","room","bit","lead"]
def a5':List Str:=["int"]
def b6':List Str:=["machine","numbers","room"]
def by':List Str:=["len","range"]
def cO':List Str:=["machine","numbers","many","sums","step"]
def bN':List Str:=["list","range"]
def c2':List Str:=["machine","q","sources","room","walks","row","end"]
def b7':List Str:=["enumerate"]
def a9':List Str:=["machine","p","q","limits","weights","sums","sources","waiting","room","lost","source"]
def aQ':List Str:=["len","list","range"]
def d2':List Str:=["machine","p","q","most","weights","room"]
def db':List Str:=["any"]
def cP':List Str:=["counts","bits","count"]
def bO':List Str:=["all"]
def cf':List Str:=["machine","p","q","most","counts","room","m"]
def bu':List Str:=["range"]
def aJ':List Str:=["machine","p","q","m","counts","room"]
def az':List Str:=["len","list"]
def ba':List Str:=["bounds","low0","high0","low1","high1","spread","levels","bit","high","place","level"]
def aR':List Str:=["list","range"]
def bX':List Str:=["bounds","room","bit","low0","high0","low1","high1","spread","last","place","level"]
def bh':List Str:=[]
def a0':List Str:=["bounds","rooms","numbers","at","room"]
def aF':List Str:=["enumerate","tuple"]
def cg':List Str:=["bounds","less","numbers"]
def bv':List Str:=[]
def dM':List Str:=["_law_script","_law_k"]
def c3':List Str:=["len"]
def n4':List Str:=["_law_script","_law_k","_law_cell"]
def l6':List Str:=["abs","int"]
def l7':List Str:=["_law_box_here","_law_many_here","_law_found","_law_once","_law_twice"]
def iC':List Str:=[]
def l8':List Str:=["_law_box_here","_law_least","_law_few","_law_most"]
def iD':List Str:=[]
def eL':List Str:=["_law_box_here","_law_many_here","_law_often","_law_rooms","_law_k","_law_doors","_law_bit","_law_to"]
def dN':List Str:=["int","range","tuple"]
def ch':List Str:=["_law_box_here","_law_many_here","_law_order","_law_k","_law_rooms","_law_at","_law_room","_law_on","_law_other"]
def bw':List Str:=["enumerate","int","range","tuple"]
def fO':List Str:=["_law_machine_here","_law_q","_law_weights","_law_room","_law_spots","_law_turn","_law_further","_law_spot","_law_end"]
def ef':List Str:=["range","sum"]
def hT':List Str:=["_law_box_here","_law_p"]
def fP':List Str:=["min"]
def cQ':List Str:=["_law_box_here","_law_way","_law_highs","_law_many_here"]
def bP':List Str:=[]
def hU':List Str:=["_law_box_here","_law_machine_here","_law_p","_law_q","_law_room"]
def fQ':List Str:=["len","max","range"]
def eM':List Str:=["_law_machine_here","_law_many_here","_law_found","_law_room","_law_turn","_law_end","_law_doors"]
def dO':List Str:=["range","sum"]
def dP':Css:=(.cons (.asg (.name 2) (.comp (.int 1) [3] (.name 3) (.val (.var 0)) .none .nil))
  (.cons (.for_ (.name 4) (.range1 (.var 1)) (.cons (.asg (.name 2) (.comp (.blt .sum (.cons (.comp (.idx (.var 2) (.var 5)) [5] (.name 5) (.val (.var 6)) (.some (.cmp .IsNot (.var 5) .non)) .nil) .nil)) [6] (.name 6) (.val (.var 0)) .none .nil))
  .nil))
  (.cons (.ret (.var 2))
  .nil)))
def ry':List Str:=["_law_machine_here","_law_p","_law_q","_law_m","_law_thing","_law_one"]
def n5':List Str:=["all","any","bool","int","isinstance","list","tuple"]
def n6':Css:=(.cons (.ite (.or (.not (.val (.blt .isinstance (.cons (.var 3) (.cons (.ty "int") .nil))))) (.or (.val (.blt .isinstance (.cons (.var 3) (.cons (.ty "bool") .nil)))) (.or (.not (.chn .Lt .Lt (.int 0) (.var 3) (.int 401))) (.not (.val (.blt .isinstance (.cons (.var 4) (.cons (.tup (.cons (.ty "list") (.cons (.ty "tuple") .nil))) .nil)))))))) (.cons (.ret (.bl false))
  .nil) .nil)
  (.cons (.ite (.val (.blt .any (.cons (.comp (.or (.not (.blt .isinstance (.cons (.var 5) (.cons (.ty "int") .nil)))) (.blt .isinstance (.cons (.var 5) (.cons (.ty "bool") .nil)))) [5] (.name 5) (.val (.var 4)) .none .nil) .nil))) (.cons (.ret (.bl false))
  .nil) .nil)
  (.cons (.ite (.cmp .NotEq (.blt .list (.cons (.var 4) .nil)) (.call "_law_counted" (.cons (.var 0) (.cons (.bin .Mult (.var 2) (.var 3)) .nil)))) (.cons (.ret (.bl false))
  .nil) .nil)
  (.cons (.ret (.blt .all (.cons (.comp (.cmp .Lt (.var 5) (.bin .LShift (.int 1) (.bin .Mult (.var 1) (.var 3)))) [5] (.name 5) (.val (.var 4)) .none .nil) .nil)))
  .nil))))
def fR':List Str:=["_law_box_here","_law_m","_law_told","_law_found","_law_turn","_law_made","_law_at","_law_some","_law_odd","_law_far"]
def eg':List Str:=["len","list","max","range","tuple"]
def eh':Css:=(.cons (.asg (.name 3) (.lst (.cons (.tup (.cons (.var 1) (.cons (.var 2) .nil))) (.cons (.tup (.cons (.var 1) (.cons (.blt .tuple (.cons (.var 2) .nil)) .nil))) (.cons (.tup (.cons (.bin .Add (.var 1) (.int 1)) (.cons (.var 2) .nil))) (.cons (.tup (.cons (.blt .max (.cons (.int 1) (.cons (.bin .Sub (.var 1) (.int 1)) .nil))) (.cons (.var 2) .nil))) .nil))))))
  (.cons (.for_ (.name 4) (.range1 (.int 5)) (.cons (.asg (.name 5) (.blt .list (.cons (.var 2) .nil)))
  (.cons (.asg (.name 6) (.call "_law_take" (.cons (.var 0) (.cons (.blt .len (.cons (.var 5) .nil)) .nil))))
  (.cons (.asg (.name 7) (.lst (.cons (.bin .Add (.idx (.var 5) (.var 6)) (.int 1)) (.cons (.bin .Sub (.idx (.var 5) (.var 6)) (.int 1)) (.cons (.int 0) (.cons (.bl true) (.cons (.str "1") (.cons .non (.cons (.neg (.idx (.var 5) (.var 6))) (.cons (.lst (.cons (.idx (.var 5) (.var 6)) .nil)) (.cons (.bin .LShift (.int 1) (.int 200)) .nil)))))))))))
  (.cons (.asg (.sub (.var 5) (.var 6)) (.idx (.var 7) (.call "_law_take" (.cons (.var 0) (.cons (.blt .len (.cons (.var 7) .nil)) .nil)))))
  (.cons (.expr (.met .append (.var 3) (.cons (.tup (.cons (.var 1) (.cons (.var 5) .nil))) .nil)))
  .nil))))))
  (.cons (.asg (.name 8) (.lst (.cons (.int 0) (.cons (.bl true) (.cons (.str "1") (.cons .non (.cons (.neg (.var 1)) (.cons (.lst (.cons (.var 1) .nil)) (.cons (.int 401) (.cons (.bin .Pow (.int 10) (.int 9)) .nil))))))))))
  (.cons (.asg (.name 9) (.lst (.cons (.cut (.var 2) (.some (.int 1)) .none) (.cons (.bin .Add (.var 2) (.lst (.cons (.int 1) .nil))) (.cons (.lst .nil) (.cons .non (.cons (.int 0) (.cons (.str "") (.cons (.tup (.cons (.var 2) .nil)) (.cons (.lst (.cons (.var 2) .nil)) .nil))))))))))
  (.cons (.ret (.bin .Add (.var 3) (.lst (.cons (.tup (.cons (.idx (.var 8) (.call "_law_take" (.cons (.var 0) (.cons (.int 8) .nil)))) (.cons (.var 2) .nil))) (.cons (.tup (.cons (.var 1) (.cons (.idx (.var 9) (.call "_law_take" (.cons (.var 0) (.cons (.int 8) .nil)))) .nil))) (.cons (.tup (.cons (.idx (.var 8) (.call "_law_take" (.cons (.var 0) (.cons (.int 8) .nil)))) (.cons (.lst .nil) .nil))) .nil))))))
  .nil)))))
def hV':List Str:=["_law_box_here","_law_machine_here","_law_p","_law_q","_law_m","_law_told","_law_found","_law_papers_here","_law_number","_law_counted_here","_law_answer"]
def fS':List Str:=["bool","isinstance","min"]
def fT':Css:=(.cons (.asg (.tup (.cons (.name 1) (.cons (.name 2) (.cons (.name 3) .nil)))) (.call "_law_asked" (.cons (.var 0) .nil)))
  (.cons (.ite (.and (.cmp .Eq (.call "_law_take" (.cons (.var 0) (.cons (.int 2) .nil))) (.int 0)) (.cmp .Lt (.var 3) (.int 8))) (.cons (.asg (.name 2) (.blt .min (.cons (.int 4) (.cons (.bin .Add (.var 3) (.int 1)) .nil))))
  .nil) .nil)
  (.cons (.asg (.name 4) (.bin .Add (.int 1) (.call "_law_take" (.cons (.var 0) (.cons (.int 12) .nil)))))
  (.cons (.asg (.name 5) (.call "_law_counted" (.cons (.var 1) (.cons (.bin .Mult (.var 3) (.var 4)) .nil))))
  (.cons (.asg (.name 6) (.call "too_little" (.cons (.var 1) (.cons (.var 2) (.cons (.var 3) (.cons (.int 30) .nil))))))
  (.cons (.asg (.name 7) (.call "_law_papers" (.cons (.var 0) (.cons (.var 4) (.cons (.var 5) .nil)))))
  (.cons (.ite (.cmp .IsNot (.var 6) .non) (.cons (.asg (.name 7) (.bin .Add (.var 7) (.call "_law_papers" (.cons (.var 0) (.cons (.idx (.var 6) (.int 0)) (.cons (.idx (.var 6) (.int 1)) .nil))))))
  .nil) .nil)
  (.cons (.ite (.cmp .Eq (.call "_law_take" (.cons (.var 0) (.cons (.int 4) .nil))) (.int 0)) (.cons (.expr (.met .append (.var 7) (.cons (.tup (.cons (.int 401) (.cons (.call "_law_counted" (.cons (.var 1) (.cons (.bin .Mult (.var 3) (.int 401)) .nil))) .nil))) .nil)))
  .nil) .nil)
  (.cons (.for_ (.tup (.cons (.name 8) (.cons (.name 9) .nil))) (.val (.var 7)) (.cons (.asg (.name 10) (.call "shows_too_little" (.cons (.var 1) (.cons (.var 2) (.cons (.var 3) (.cons (.var 8) (.cons (.var 9) .nil)))))))
  (.cons (.ite (.or (.not (.val (.blt .isinstance (.cons (.var 10) (.cons (.ty "bool") .nil))))) (.cmp .NotEq (.var 10) (.call "_law_due" (.cons (.var 1) (.cons (.var 2) (.cons (.var 3) (.cons (.var 8) (.cons (.var 9) .nil)))))))) (.cons (.ret (.bl false))
  .nil) .nil)
  (.cons (.ite (.and (.val (.var 10)) (.cmp .IsNot (.call "enough" (.cons (.var 1) (.cons (.var 2) (.cons (.var 3) (.cons (.bin .Add (.int 1) (.call "_law_take" (.cons (.var 0) (.cons (.int 30) .nil)))) .nil))))) .non)) (.cons (.ret (.bl false))
  .nil) .nil)
  .nil))))
  (.cons (.ret (.bl true))
  .nil))))))))))
def n7':List Str:=["_law_script","_law_k"]
def l9':List Str:=["len","max","min","range"]
def n8':Css:=(.cons (.for_ (.name 1) (.range1 (.blt .max (.cons (.int 3) (.cons (.blt .min (.cons (.blt .len (.cons (.var 0) .nil)) (.cons (.int 10) .nil))) .nil)))) (.cons (.ite (.not (.val (.call "_law_right" (.cons (.call "_law_box" (.cons (.var 0) (.cons (.var 1) .nil))) .nil)))) (.cons (.ret (.bl false))
  .nil) .nil)
  .nil))
  (.cons (.ret (.bl true))
  .nil))
open K71 K30 K31 SR CK RW TM BD BE K28 K29
def wiV (lo hi:Int):V->Bool
 | .int i=>decide (lo<=i/\i<=hi)
 |_=>false
def bi':Sp:=fun vs H Q _=>∃(v:V) (lo hi:Int),vs=[v,.int lo,.int hi]/\Val H v/\Q (.bl (wiV lo hi v)) H
theorem gO' {C:Rc} (hN:C.N.length=3) (hI:C.fs "is_number"=some bU'):∀vs H Q E,bi' vs H Q E->tSs C CK.bD' { nx:=fun _ H'=>Q .non H',rt:=Q } (L2.aw' C.N vs) H:=by
 intro vs H Q E h
 obtain⟨v,lo,hi,rfl,hv,q⟩:=h
 rw[aj' hN]
 unfold CK.bD'
 walk_at "y"
 refine ai' hI ?_
 walk_at "y"
 refine⟨_,rfl,hv,?_⟩
 rcases hv with⟨i,rfl⟩|⟨h0,_⟩
 .simp only[isN]
  walk_at "y"
  exact rv' (a:=lo) (n:=i) (m:=hi) (fun Q q=>by walk_at "y";exact q) (fun Q q=>by walk_at "y";exact q) (fun Q q=>by walk_at "y";exact q) q
 .rw[lz' h0]
  walk_at "y"
  have e:wiV lo hi v=false:=by
   cases v with
   |int i=>exact absurd rfl (h0 i)
   |_=>rfl
  rwa [e]at q
theorem jd' {C:Rc} (hN:C.N.length=2) (hW:C.fs "is_within"=some bi'):∀vs H Q E,gB' vs H Q E->tSs C CK.cv' { nx:=fun _ H'=>Q .non H',rt:=Q } (L2.aw' C.N vs) H:=by
 intro vs H Q E h
 obtain⟨o,N,rfl,ho,q⟩:=h
 rw[aj' hN]
 unfold CK.cv'
 cases o with
 |none=>
  simp only[oV]
  walk_at "y"
  exact q
 |some x=>
  have:=ho x rfl
  simp only[oV]
  walk_at "y"
  refine ai' hW ?_
  walk_at "y"
  refine⟨_,_,_,rfl,.inl ⟨_,rfl⟩,?_⟩
  rw[show wiV 0 ((N:Int)-1) (.int x)=true from decide_eq_true (by omega)]
  walk_at "y"
  exact q
def gd (M:List Rm) (p q:Nat):V->Option (List V)->Bool
 | .int m,some vs=>decide (1<=m/\m<=400)&&(decide (vs=(wN M (q*m.toNat)).map nV)&&bel (p*m.toNat) (wN M (q*m.toNat)))
 |_,_=>false
theorem n9' {M:List Rm} {p q:Nat} {x:V} {o:Option (List V)} (h:wiV 1 400 x=false):gd M p q x o=false:=by
 cases x with
 |int m=>
  cases o with
  |none=>rfl
  |some vs=>
   show(decide (1<=m/\m<=400)&&_)=false
   rw[show decide (1<=m/\m<=400)=false from h,Bool.false_and]
 |_=>cases o<;>rfl
theorem ma' {M:List Rm} {p q:Nat} {x:V}:gd M p q x none=false:=by cases x<;>rfl
theorem vt' {M:List Rm} {p q:Nat} {x:V} {vs:List V} (h:∀n,vs≠(wN M n).map nV):gd M p q x (some vs)=false:=by
 cases x with
 |int m=>
  show(_&&(decide (vs=_)&&_))=false
  rw[decide_eq_false (h _),Bool.false_and,Bool.and_false]
 |_=>rfl
theorem pw' {M:List Rm} {n:Nat}:((wN M n).map nV).all isN=true:=by
 rw[List.all_map]
 exact bj.mpr fun x _=>rfl
theorem rz' {x:V} (h:wiV 1 400 x=true):∃m:Nat,x=.int m/\1<=m/\m<=400:=by
 cases x with
 |int i=>
  have:=of_decide_eq_true h
  exact⟨i.toNat,by rw[Int.toNat_of_nonneg (by omega)],by omega,by omega⟩
 |_=>cases h
theorem mb' {a b:List Int}:LEq (a.map V.int) (b.map V.int):=by
 intro i x y hx hy
 rw[ap]at hx hy
 obtain⟨m,_,rfl⟩:=bn.mp hx
 obtain⟨n,_,rfl⟩:=bn.mp hy
 exact .inl ⟨rfl,fun b z=>by cases z⟩
def Nu (x:V):Prop:=∀i,x=.int i->i<=100\/400<i
def ci':Sp:=fun vs H Q _=>∃(a:Addr) (M:List Rm) (p q:Nat) (x y:V) (o:Option (List V)),vs=[.ref a,.int p,.int q,x,y]/\IsM H a M/\OkM M/\M.length<=60/\p<=8/\q<=8/\Val H x/\Nu x/\Tl H y o/\∀H',ax' H H'->Q (.bl (gd M p q x o)) H'
structure FsShowV (C:Rc):Prop where
 isM:C.fs "is_machine"=some fG'
 sizes:C.fs "are_sizes"=some cA'
 within:C.fs "is_within"=some bi'
 areN:C.fs "are_numbers"=some dJ'
 walk:C.fs "walk_sums"=some a8'
 below:C.fs "are_below"=some bV'
theorem je' {C:Rc} (hN:C.N.length=6) (F:FsShowV C) (hG:∃t,W.nsIn C.K mainGlobals "LAST_PAPER"=some (some (.int 400 t))):∀vs H Q E,ci' vs H Q E->tSs C K31.aI' { nx:=fun _ H'=>Q .non H',rt:=Q } (L2.aw' C.N vs) H:=by
 intro vs H Q E h
 obtain⟨a,M,p,q',x,y,o,rfl,hM,hO,hM1,hp,hq,hx,hnu,hy,q⟩:=h
 rw[aj' hN]
 unfold K31.aI'
 obtain⟨mv,hmv,hmr⟩:=id hM
 have hml:=hmr.len
 walk_at "y"
 refine ai' F.isM ?_
 walk_at "y"
 refine⟨a,M,rfl,hM,hO,by omega,fun H1 s1=>?_⟩
 walk_at "y"
 refine ai' F.sizes ?_
 walk_at "y"
 refine⟨p,q',rfl,?_⟩
 walk_at "y"
 refine ai' F.within ?_
 walk_at "y"
 rw[qN']
 refine⟨hG,?_⟩
 walk_at "y"
 refine⟨_,_,_,rfl,hx.mono s1,?_⟩
 cases hw:wiV 1 400 x with
 |false=>
  walk_at "y"
  have:=q _ s1
  rwa [n9' hw]at this
 |true=>
  obtain⟨m,rfl,hm1,hm4⟩:=rz' hw
  have hm:m<=100:=by have:=hnu m rfl;omega
  walk_at "y"
  refine ai' F.areN ?_
  walk_at "y"
  refine cc' (SqT.of (s1 _ _ hmv)) ?_
  rw[hml]
  walk_at "y"
  refine⟨y,_,o,rfl,hy.mono s1,fun H2 s2=>?_⟩
  have s12:=s1.trans s2
  by_cases ha:arN (M.length:Int) o=true
  case neg=>
   rw[Bool.not_eq_true]at ha
   rw[ha]
   walk_at "y"
   have:=q _ s12
   cases o with
   |none=>rwa [ma']at this
   |some vs=>
    rw[vt' fun n e=>?_]at this
    .exact this
    .subst e
     have:arN (M.length:Int) (some ((wN M n).map nV))=true:=by
      show(decide ((((wN M n).map nV).length:Int)=(M.length:Int))&&((wN M n).map nV).all isN)=true
      rw[pw',aa,dK',decide_eq_true rfl]
      rfl
     rw[this]at ha
     cases ha
  rw[ha]
  cases o with
  |none=>cases ha
  |some vs=>
   obtain⟨c,rfl,hc,hva,hcl⟩:=hy
   have ha':(decide ((vs.length:Int)=(M.length:Int))&&vs.all isN)=true:=ha
   rw[ac,decide_eq_true_eq]at ha'
   obtain⟨ns,rfl⟩:=fN' ha'.2
   have hc2:=hc.mono s12
   walk_at "y"
   refine hH' hc2 fun d hd=>?_
   have s3:=ae' hd (.lst (ns.map V.int))
   have hd3:upd H2 d (.lst (ns.map V.int)) d=some (.lst (ns.map V.int)):=aa'
   generalize upd H2 d (.lst (ns.map V.int))=H3 at s3 hd3 ⊢
   have s13:=s12.trans s3
   walk_at "y"
   refine ai' F.walk ?_
   walk_at "y"
   refine aU' (SqT.of (s13 _ _ hmv)) (dh' (fun i xs H'=>i<=mv.length/\xs=(ao i 1).map nV/\H'=H3) ⟨aE _,rfl,rfl⟩ (fun i xs H' pv=>by rw[pv.2.2];exact SqT.of (s13 _ _ hmv)) ?_ ?_)
   .rintro i xs H' x R hx ⟨_,rfl,rfl⟩ hR
    have hi:=al' hx
    walk_at "y"
    exact⟨by rw[aa,bc];exact ah' (by omega),hR _ _ ⟨hi,hM' (M:=M),rfl⟩⟩
   rintro xs H3' ⟨_,rfl,rfl⟩ e he
   rw[hml,<- wN0]
   have s4:=ae' he (.lst ((wN M 0).map nV))
   have he4:upd H3' e (.lst ((wN M 0).map nV)) e=some (.lst ((wN M 0).map nV)):=aa'
   generalize upd H3' e (.lst ((wN M 0).map nV))=H4 at s4 he4 ⊢
   have s14:=s13.trans s4
   walk_at "y"
   refine⟨.inl ⟨by omega,by omega⟩,?_⟩
   rw[show(q':Int)*(m:Int)=((q'*m:Nat):Int) by rw[bT]]
   have hqm:q'*m<=8*100:=ce hq hm
   refine fm' ⟨a,e,M,0,q'*m,rfl,hM.mono (ao' s14),hO,by omega,by omega,he4,fun f H5 _ s5 hf=>?_⟩
   rw[Nat.zero_add]at hf
   have s35:=s4.trans s5
   walk_at "y"
   refine uK' (SqL.of (s35 _ _ hd3)) (SqL.of hf) (fun _=>by rw[fg'];exact mb') ?_
   have eg:gd M p q' (.int m) (some (ns.map V.int))=(decide (ns.map V.int=(wN M (q'*m)).map nV)&&bel (p*m) (wN M (q'*m))):=by
    show(decide (1<=(m:Int)/\(m:Int)<=400)&&(decide (ns.map V.int=(wN M (q'*(m:Int).toNat)).map nV)&&bel (p*(m:Int).toNat) (wN M (q'*(m:Int).toNat))))=_
    rw[decide_eq_true (by omega),Bool.true_and,bq]
   rw[eg]at q
   by_cases he:ns.map V.int=(wN M (q'*m)).map nV
   .rw[decide_eq_true he]at q ⊢
    walk_at "y"
    refine ai' F.below ?_
    walk_at "y"
    refine⟨.inl ⟨by omega,by omega⟩,?_⟩
    rw[show(p:Int)*(m:Int)=((p*m:Nat):Int) by rw[bT]]
    refine⟨c,wN M (q'*m),p*m,rfl,by rw[<- he];exact hc.mono (s13.trans s35),by rw[dK'];omega,fun H6 s6=>?_⟩
    exact q _ ((s13.trans s35).trans s6)
   .rw[decide_eq_false he]at q ⊢
    walk_at "y"
    exact q _ (s13.trans s35)
def bz':Sp:=fun vs H Q _=>∃(a:Addr) (M:List Rm) (n:Nat),vs=[.ref a,.int n]/\IsM H a M/\OkM M/\M.length<=60/\n<=4000/\∀(c:Addr) (H':Hp),H c=none->ax' H H'->H' c=some (.lst ((wN M n).map nV))->Q (.ref c) H'
theorem gP' {C:Rc} (hN:C.N.length=7):∀vs H Q E,bz' vs H Q E->tSs C dP' { nx:=fun _ H'=>Q .non H',rt:=Q } (L2.aw' C.N vs) H:=by
 intro vs H Q E h
 obtain⟨a,M,n,rfl,hM,hO,hM1,hn,q⟩:=h
 rw[aj' hN]
 unfold dP'
 obtain⟨mv,hmv,hmr⟩:=id hM
 have hml:=hmr.len
 walk_at "y"
 refine aU' (SqT.of hmv) (dh' (fun i xs H'=>i<=mv.length/\xs=(ao i 1).map nV/\H'=H) ⟨aE _,rfl,rfl⟩ (fun i xs H' pv=>by rw[pv.2.2];exact SqT.of hmv) ?_ ?_)
 .rintro i xs H' x R hx ⟨_,rfl,rfl⟩ hR
  have hi:=al' hx
  walk_at "y"
  exact⟨by rw[aa,bc];exact ah' (by omega),hR _ _ ⟨hi,hM' (M:=M),rfl⟩⟩
 rintro xs H0 ⟨_,rfl,rfl⟩ c hc
 rw[hml,<- wN0]
 have s1:=ae' hc (.lst ((wN M 0).map nV))
 have hc1:upd H0 c (.lst ((wN M 0).map nV)) c=some (.lst ((wN M 0).map nV)):=aa'
 generalize upd H0 c (.lst ((wN M 0).map nV))=H1 at s1 hc1 ⊢
 walk_at "y"
 refine d9' (by omega) (by omega) (eV' (fun k σ H3=>k<=n/\(∃c x3 x4 x5 x6,σ=[some (.ref a),some (.int n),some (.ref c),x3,x4,x5,x6]/\H3 c=some (.lst ((wN M k).map nV))/\H0 c=none)/\ax' H0 H3) ⟨aE _,⟨c,_,_,_,_,rfl,hc1,hc⟩,s1⟩ ?_ ?_)
 .rintro k σ H3 hk ⟨_,⟨c3,y3,y4,y5,y6,rfl,hc3,_⟩,s13⟩
  have hk:k<n:=by omega
  walk_at "y"
  refine aU' (SqT.of (s13 _ _ hmv)) (dh' (fun r xs H4=>r<=M.length/\ax' H3 H4/\xs=((aA r).map fun r=>((wy M none (k+1) r:Nat):Int)).map V.int) ⟨aE _,ax'.refl _,rfl⟩ (fun r xs H4 pv=>SqT.of (pv.2.1 _ _ (s13 _ _ hmv))) ?_ ?_)
  .rintro r xs H4 v R hv ⟨_,s4,rfl⟩ hR
   have hr:r<M.length:=by rw[<- hml];exact al' hv
   obtain⟨x,hx⟩:∃x,M[r]?=some x:=⟨_,ab hr⟩
   obtain⟨pp,ep,hpp⟩:=hmr.get hx
   rw[hv]at ep
   cases ep
   obtain⟨ok1,ok2⟩:=va' hO hx
   obtain⟨d1,d2⟩:=fI' hx
   rw[k7',uC']
   refine lE' (fun m=>((wy M none k m:Nat):Int)) (s4 _ _ (s13 _ _ hpp)) rfl (fun v=>rfl) ?_ ?_
   .intro m P hm hP
    have hml':m<M.length:=by
     rcases hm with h|h
     .exact ok1 m h
     .exact ok2 m h
    walk_at "y"
    refine x1' (M:=M) (g:=none) (k:=k) (by rw[s4 _ _ hc3,yY']) hml' ?_
    exact hP
   .intro H5 s5
    refine⟨by simp;exact ah' (by omega),hR _ _ ⟨hr,s4.trans s5,?_⟩⟩
    rw[bU,ax,ax]
    have e:od (fun m=>((wy M none k m:Nat):Int)) x.1+od (fun m=>((wy M none k m:Nat):Int)) x.2=((wy M none (k+1) r:Nat):Int):=by
     show _=((ow (wy M none k) (LW.stp M r false)+ow (wy M none k) (LW.stp M r true):Nat):Int)
     rw[d1,d2]
     cases x.1<;>cases x.2<;>simp[od,ow]
    rw[e]
    rfl
  .rintro xs H4 ⟨_,s4,rfl⟩ c4 hc4
   rw[hml,rk',yY']
   walk_at "y"
   exact⟨hk,⟨c4,_,_,_,_,rfl,aa',s13.free (s4.free hc4)⟩,(s13.trans s4).trans (ae' hc4 _)⟩
 .rintro σ H3 ⟨_,⟨c3,y3,y4,y5,y6,rfl,hc3,hc30⟩,s3⟩
  rw[show((n:Int)).toNat=n by omega]at hc3
  walk_at "y"
  exact q c3 _ hc30 s3 hc3
theorem oa' {C:Rc} {σ:L2.St} {H:Hp} {Qb:Bool->Hp->Prop} {j:Nat} {a n m:Int} (hσ:σ[j]?=some (some (.int n))) (q:Qb (decide (a<n/\n<m)) H):tQ C (.chn .Lt .Lt (.int a) (.var j) (.int m)) σ H Qb:=by
 show eN' (df' (cS' C.K .Lt) (cS' C.K .Lt) (tE C (.int a)) (tE C (.var j)) (tE C (.int m))) σ H Qb
 unfold eN' df'
 simp only[oT',in',hσ,fA']
 by_cases h:a<n
 .refine⟨a,n,rfl,rfl,true,?_,?_⟩
  .show V.bl (decide (a<n))=_
   rw[decide_eq_true h]
  .rw[if_pos rfl]
   refine⟨n,m,rfl,rfl,_,rfl,?_⟩
   rwa [show decide (a<n/\n<m)=decide (n<m) from decide_eq_decide.mpr ⟨fun z=>z.2,fun z=>⟨h,z⟩⟩]at q
 .refine⟨a,n,rfl,rfl,false,?_,?_⟩
  .show V.bl (decide (a<n))=_
   rw[decide_eq_false h]
  .rw[if_neg (by decide)]
   rw[decide_eq_false (fun z=>h z.1)]at q
   exact⟨false,rfl,q⟩
theorem mc' {K:W.Frag} {H:Hp} {v:V} (hv:Val H v):(isN v=true/\(∀Q:VK,Q (.bl true) H->cr' K .isinstance [v,.ty "int"] H Q)/\∀Q:VK,Q (.bl false) H->cr' K .isinstance [v,.ty "bool"] H Q)\/(isN v=false/\((∀Q:VK,Q (.bl false) H->cr' K .isinstance [v,.ty "int"] H Q)\/((∀Q:VK,Q (.bl true) H->cr' K .isinstance [v,.ty "int"] H Q)/\∀Q:VK,Q (.bl true) H->cr' K .isinstance [v,.ty "bool"] H Q))):=by
 rcases hv with⟨n,rfl⟩|⟨h0,T,hT,hv1⟩
 .exact .inl ⟨rfl,fun Q q=>fF' (T:="int") rfl (k:=true) rfl (by decide) (by decide) q,fun Q q=>fF' (T:="int") rfl (k:=false) rfl (by decide) (by decide) q⟩
 .refine .inr ⟨lz' h0,?_⟩
  simp only[ak,av,or_false]at hT
  rcases hT with rfl|rfl|rfl|rfl|rfl
  .exact .inl fun Q q=>fF' hv1 (k:=false) rfl (by decide) (by decide) q
  .exact .inr ⟨fun Q q=>fF' hv1 (k:=true) rfl (by decide) (by decide) q,fun Q q=>fF' hv1 (k:=true) rfl (by decide) (by decide) q⟩
  .exact .inl fun Q q=>fF' hv1 (k:=false) rfl (by decide) (by decide) q
  .exact .inl fun Q q=>fF' hv1 (k:=false) rfl (by decide) (by decide) q
  .exact .inl fun Q q=>fF' hv1 (k:=false) rfl (by decide) (by decide) q
theorem vu' {x:V} (h:isN x=false):wiV 1 400 x=false:=by cases x<;>first|rfl|cases h
theorem md' {C:Rc} (hN:C.N.length=6) (hC:C.fs "_law_counted"=some bz'):∀vs H Q E,ci' vs H Q E->tSs C n6' { nx:=fun _ H'=>Q .non H',rt:=Q } (L2.aw' C.N vs) H:=by
 intro vs H Q E h
 obtain⟨a,M,p,q',x,y,o,rfl,hM,hO,hM1,hp,hq,hx,hnu,hy,q⟩:=h
 rw[aj' hN]
 unfold n6'
 have qno:gd M p q' x o=false->∀H',ax' H H'->Q (.bl false) H':=fun e H' s=>by have:=q H' s;rwa [e]at this
 walk_at "y"
 rcases mc' (K:=C.K) hx with⟨hn,h1,h2⟩|⟨hn,h1|⟨h1,h2⟩⟩
 .refine h1 _ ?_
  walk_at "y"
  refine h2 _ ?_
  walk_at "y"
  obtain⟨i,rfl⟩:∃i,x=.int i:=by cases x<;>first|exact⟨_,rfl⟩|cases hn
  refine oa' rfl ?_
  by_cases hi:0<i/\i<401
  case neg=>
   rw[decide_eq_false hi]
   walk_at "y"
   exact qno (n9' (decide_eq_false (by omega))) _ (ax'.refl _)
  rw[decide_eq_true hi]
  obtain⟨m,rfl⟩:=aM (show 0<=i by omega)
  have hm:m<=100:=by have:=hnu m rfl;omega
  walk_at "y"
  refine⟨by decide,fun pt hpt=>?_⟩
  have s1:=ae' hpt (.tup [.ty "list",.ty "tuple"])
  refine gD' (hy.mono s1) aa' ?_
  generalize upd H pt (.tup [.ty "list",.ty "tuple"])=H1 at s1 ⊢
  cases o with
  |none=>
   simp only[Option.isSome_none]
   walk_at "y"
   exact qno ma' _ s1
  |some vs=>
   obtain⟨c,rfl,hc,hva,hcl⟩:=hy
   have hc1:=hc.mono s1
   simp only[Option.isSome_some]
   walk_at "y"
   refine nQ' hc1 (fun i xs H'=>xs=((vs.take i).map fun v=>!isN v).map V.bl/\H'=H1) ⟨rfl,rfl⟩ (fun i xs H' pv=>by rw[pv.2];exact ax'.refl _) ?_ ?_
   .rintro i xs H2 v R hv ⟨rfl,rfl⟩ hR
    have hi:=al' hv
    have fin:((vs.take i).map fun v=>!isN v).map V.bl++[V.bl (!isN v)]=((vs.take (i+1)).map fun v=>!isN v).map V.bl:=by
     rw[aW,hv,ax,ax]
     rfl
    have hz:(((vs.take i).map fun v=>!isN v).map V.bl).length<sizeLine:=by rw[aa,aa,aL];exact ah' (by omega)
    walk_at "y"
    rcases mc' (K:=C.K) ((hva v (az hv)).mono s1)with⟨hn,h1,h2⟩|⟨hn,h1|⟨h1,h2⟩⟩
    .refine h1 _ ?_
     walk_at "y"
     refine h2 _ ?_
     rw[hn]at fin
     walk_at "y"
     exact⟨hz,hR _ _ ⟨fin,rfl⟩⟩
    .refine h1 _ ?_
     rw[hn]at fin
     walk_at "y"
     exact⟨hz,hR _ _ ⟨fin,rfl⟩⟩
    .refine h1 _ ?_
     walk_at "y"
     refine h2 _ ?_
     rw[hn]at fin
     walk_at "y"
     exact⟨hz,hR _ _ ⟨fin,rfl⟩⟩
   .rintro xs H2 ⟨rfl,rfl⟩ p2 hp2
    rw[aT]
    walk_at "y"
    refine uI' (SqL.of aa') ?_
    have s2:=s1.trans (ae' hp2 (.lst ((vs.map fun v=>!isN v).map V.bl)))
    generalize upd H2 p2 (.lst ((vs.map fun v=>!isN v).map V.bl))=H3 at s2 ⊢
    cases hany:(vs.map fun v=>!isN v).any id with
    |true=>
     walk_at "y"
     refine qno (vt' fun n e=>?_) _ s2
     subst e
     rw[List.any_map]at hany
     obtain⟨z,hz,hz2⟩:=bK.mp hany
     have:=bj.mp (pw' (M:=M) (n:=n)) z hz
     simp[this]at hz2
    |false=>
     have hall:vs.all isN=true:=by
      rw[List.any_map]at hany
      refine bj.mpr fun z hz=>?_
      have:=List.any_eq_false.mp hany z hz
      simpa using this
     obtain⟨ns,rfl⟩:=fN' hall
     have hc3:=hc.mono s2
     walk_at "y"
     refine hH' hc3 fun d hd=>?_
     have s3:=ae' hd (.lst (ns.map V.int))
     have hd3:upd H3 d (.lst (ns.map V.int)) d=some (.lst (ns.map V.int)):=aa'
     generalize upd H3 d (.lst (ns.map V.int))=H4 at s3 hd3 ⊢
     have s14:=s2.trans s3
     walk_at "y"
     refine ai' hC ?_
     walk_at "y"
     refine⟨.inl ⟨by omega,by omega⟩,?_⟩
     rw[show(q':Int)*(m:Int)=((q'*m:Nat):Int) by rw[bT]]
     have hqm:q'*m<=8*100:=ce hq hm
     refine⟨a,M,q'*m,rfl,hM.mono (ao' s14),hO,by omega,by omega,fun f H5 _ s5 hf=>?_⟩
     walk_at "y"
     refine uL' (SqL.of (s5 _ _ hd3)) (SqL.of hf) (fun _=>by rw[fg'];exact mb') ?_
     have eg:gd M p q' (.int m) (some (ns.map V.int))=(decide (ns.map V.int=(wN M (q'*m)).map nV)&&bel (p*m) (wN M (q'*m))):=by
      show(decide (1<=(m:Int)/\(m:Int)<=400)&&(decide (ns.map V.int=(wN M (q'*(m:Int).toNat)).map nV)&&bel (p*(m:Int).toNat) (wN M (q'*(m:Int).toNat))))=_
      rw[decide_eq_true (by omega),Bool.true_and,bq]
     have s15:=s14.trans s5
     by_cases he:ns.map V.int=(wN M (q'*m)).map nV
     case neg=>
      rw[decide_eq_false he]
      walk_at "y"
      exact qno (by rw[eg,decide_eq_false he,Bool.false_and]) _ s15
     rw[decide_eq_true he]
     have hc5:=hc.mono s15
     have en:ns=(wN M (q'*m)).map fun n:Nat=>(n:Int):=by
      rw[fg']at he
      exact List.map_inj_right (f:=V.int) (fun a b z=>by injection z) |>.mp he
     walk_at "y"
     refine nQ' hc5 (fun i xs H'=>xs=(((wN M (q'*m)).take i).map fun n=>decide (n<2 ^ (p*m))).map V.bl/\H'=H5) ⟨rfl,rfl⟩ (fun i xs H' pv=>by rw[pv.2];exact ax'.refl _) ?_ ?_
     .rintro i xs H6 v R hv ⟨rfl,rfl⟩ hR
      rw[he,ap]at hv
      obtain⟨n,hn',rfl⟩:=bn.mp hv
      have hi:=al' hn'
      rw[dK']at hi
      simp only[nV]
      walk_at "y"
      refine⟨.inl ⟨by omega,by omega⟩,?_⟩
      rw[show(p:Int)*(m:Int)=((p*m:Nat):Int) by rw[bT]]
      have hpm:p*m<=8*100:=ce hp hm
      refine⟨⟨by omega,by omega,by decide⟩,?_⟩
      rw[lx' (m:=p*m) rfl]
      walk_at "y"
      rw[show decide ((n:Int)<((2 ^ (p*m):Nat):Int))=decide (n<2 ^ (p*m)) from decide_eq_decide.mpr Int.ofNat_lt]
      refine⟨by rw[aa,aa,aL];exact ah' (by omega),hR _ _ ⟨?_,rfl⟩⟩
      rw[aW,hn',ax,ax]
      rfl
     .rintro xs H6 ⟨rfl,rfl⟩ p6 hp6
      walk_at "y"
      refine ip' (SqL.of aa') ?_
      have:=q _ (s15.trans (ae' hp6 (.lst ((((wN M (q'*m)).take (ns.map V.int).length).map fun n=>decide (n<2 ^ (p*m))).map V.bl))))
      rw[eg,decide_eq_true he,Bool.true_and]at this
      have hl:(ns.map V.int).length=(wN M (q'*m)).length:=by rw[he,aa]
      rw[hl,aT]at this ⊢
      rw[show((wN M (q'*m)).map fun n=>decide (n<2 ^ (p*m))).all id=bel (p*m) (wN M (q'*m)) by unfold bel;rw[List.all_map];rfl]
      exact this
 .refine h1 _ ?_
  walk_at "y"
  exact qno (n9' (vu' hn)) _ (ax'.refl _)
 .refine h1 _ ?_
  walk_at "y"
  refine h2 _ ?_
  walk_at "y"
  exact qno (n9' (vu' hn)) _ (ax'.refl _)
def Vb (H:Hp) (v:V):Prop:=scT v=true\/∃a vs,v=.ref a/\Lt H a vs
theorem Vb.keep {A B:Hp} (k:cT' A B) {v:V} (h:Vb A v):Vb B v:=h.imp id fun⟨a,vs,e,l⟩=>⟨a,vs,e,l1' k l⟩
theorem Vb.val {H:Hp} {v:V} (h:Vb H v):Val H v:=by
 rcases h with h|⟨a,vs,rfl,l⟩
 .cases v with
  |int i=>exact .inl ⟨i,rfl⟩
  |non=>exact .inr ⟨fun i z=>(nomatch z),"NoneType",by decide,rfl⟩
  |bl b=>exact .inr ⟨fun i z=>(nomatch z),"bool",by decide,rfl⟩
  |str z=>exact .inr ⟨fun i z=>(nomatch z),"str",by decide,rfl⟩
  |_=>cases h
 .obtain⟨T,h1,h2⟩:=l.ty
  exact .inr ⟨fun i z=>(nomatch z),T,by rcases h2 with rfl|rfl<;>decide,h1⟩
def Pb (H:Hp) (v:V):Prop:=scT v=true\/∃a vs,v=.ref a/\Lt H a vs/\(∀x∈vs,Vb H x)/\vs.length<=61
theorem Pb.keep {A B:Hp} (k:cT' A B) {v:V} (h:Pb A v):Pb B v:=h.imp id fun⟨a,vs,e,l,hv,hl⟩=>⟨a,vs,e,l1' k l,fun x hx=>(hv x hx).keep k,hl⟩
theorem Pb.tl {H:Hp} {v:V} (h:Pb H v):∃o,Tl H v o:=by
 rcases h with h|⟨a,vs,e,l,hv,hl⟩
 .refine⟨none,?_⟩
  cases v<;>first|(cases h;done)|skip
  all_goals first|exact⟨"NoneType",by decide,rfl⟩|exact⟨"bool",by decide,rfl⟩|exact⟨"int",by decide,rfl⟩|exact⟨"str",by decide,rfl⟩
 .exact⟨some vs,a,e,l,fun x hx=>(hv x hx).val,hl⟩
theorem fU' {H:Hp} {a:Addr} {ns:List Nat} (h:Lt H a (ns.map nV)) (hl:ns.length<=61):Pb H (.ref a):=.inr ⟨a,_,rfl,h,fun x hx=>by
 obtain⟨n,hm,rfl⟩:=bg.mp hx
 exact .inl rfl,by rw[aa];exact hl⟩
def Pq (H:Hp) (v:V):Prop:=∃t x y,v=.ref t/\H t=some (.tup [x,y])/\Vb H x/\Nu x/\Pb H y
theorem Pq.keep {A B:Hp} (k:cT' A B) {v:V} (h:Pq A v):Pq B v:=let⟨t,x,y,e,h1,h2,h3,h4⟩:=h;⟨t,x,y,e,k.2 _ _ h1,h2.keep k,h3,h4.keep k⟩
theorem ob' {x:V} (h:∀i,x≠.int i):Nu x:=fun i e=>absurd e (h i)
theorem gQ' {i:Int} (h:i<=100):Nu (.int i):=fun j e=>by cases e;exact .inl h
theorem rA' {i:Int} (h:400<i):Nu (.int i):=fun j e=>by cases e;exact .inr h
theorem dQ' {H:Hp} {pf:Addr} {us:List V} (hf:H pf=some (.lst us)):cT' (upd H pf (.lst us)) H:=by
 refine⟨fun a xs e=>?_,fun a xs e=>?_⟩
 .by_cases h:a=pf
  .subst h;rw[aa']at e;cases e;exact hf
  .rwa [af' h]at e
 .by_cases h:a=pf
  .subst h;rw[aa']at e;cases e
  .rwa [af' h]at e
def da':Sp:=fun vs H Q _=>∃(b:Addr) (n m:Nat) (pw:Addr) (ws:List Nat),vs=[.ref b,.int m,.ref pw]/\H b=some (dF' b n)/\n<=2 ^ 38/\1<=m/\m<=60/\1<=ws.length/\ws.length<=12/\H pw=some (.lst (ws.map nV))/\∀(pl:Addr) (us:List V) (H':Hp),Go 40 H H'->H pl=none->H' pl=some (.lst us)->us.length<=20->(∀x∈us,∀o,Pq (upd H' pl o) x)->Q (.ref pl) H'
theorem hW' {C:Rc} (hN:C.N.length=10) (hT:C.fs "_law_take"=some aH'):∀vs H Q E,da' vs H Q E->tSs C eh' { nx:=fun _ H'=>Q .non H',rt:=Q } (L2.aw' C.N vs) H:=by
 intro vs H Q E h
 obtain⟨b,n,m,pw,ws,rfl,hb,hn,hm1,hm6,hw1,hw12,hpw,q⟩:=h
 rw[aj' hN]
 unfold eh'
 have hlen:(ws.map nV).length=ws.length:=aa ..
 walk_at "y"
 refine⟨by decide,fun p1 hp1=>?_⟩
 have k1:=Go.new (c:=0) hp1 (.tup [V.int m,.ref pw])
 have h1:upd H p1 (.tup [V.int m,.ref pw]) p1=some (.tup [V.int m,.ref pw]):=aa'
 generalize upd H p1 (.tup [V.int m,.ref pw])=H1 at k1 h1 ⊢
 refine d0' (SqL.of (k1.lst hpw)) fun p2 hp2=>?_
 have k2:=Go.new (c:=0) hp2 (.tup (ws.map nV))
 have h2:upd H1 p2 (.tup (ws.map nV)) p2=some (.tup (ws.map nV)):=aa'
 generalize upd H1 p2 (.tup (ws.map nV))=H2 at k2 h2 ⊢
 walk_at "y"
 refine⟨by decide,fun p3 hp3=>?_⟩
 have k3:=Go.new (c:=0) hp3 (.tup [V.int m,.ref p2])
 have h3:upd H2 p3 (.tup [V.int m,.ref p2]) p3=some (.tup [V.int m,.ref p2]):=aa'
 generalize upd H2 p3 (.tup [V.int m,.ref p2])=H3 at k3 h3 ⊢
 refine⟨by decide,fun p4 hp4=>?_⟩
 have k4:=Go.new (c:=0) hp4 (.tup [V.int ((m:Int)+1),.ref pw])
 have h4:upd H3 p4 (.tup [V.int ((m:Int)+1),.ref pw]) p4=some (.tup [V.int ((m:Int)+1),.ref pw]):=aa'
 generalize upd H3 p4 (.tup [V.int ((m:Int)+1),.ref pw])=H4 at k4 h4 ⊢
 obtain⟨mx,emx,hmx⟩:∃mx:Int,mx=(if(m:Int)-1 > 1 then(m:Int)-1 else 1)/\mx<=100:=⟨_,rfl,by split<;>omega⟩
 walk_at "y"
 rw[<- emx]
 refine⟨by decide,fun p5 hp5=>?_⟩
 have k5:=Go.new (c:=0) hp5 (.tup [V.int mx,.ref pw])
 have h5:upd H4 p5 (.tup [V.int mx,.ref pw]) p5=some (.tup [V.int mx,.ref pw]):=aa'
 generalize upd H4 p5 (.tup [V.int mx,.ref pw])=H5 at k5 h5 ⊢
 refine⟨by decide,fun pf hpf=>?_⟩
 have k05:=k1.trans (k2.trans (k3.trans (k4.trans k5)))
 have npf:H pf=none:=k05.free _ hpf
 have told:∀{B:Hp},cT' H B->Pb B (.ref pw):=fun k=>(fU' (.inl hpw) (by omega)).keep k
 have Pall:∀x∈[V.ref p1,.ref p3,.ref p4,.ref p5],∀o,Pq (upd H5 pf o) x:=by
  intro x hx o
  have kk:=Go.new (c:=0) hpf o
  simp only[ak,av,or_false]at hx
  rcases hx with rfl|rfl|rfl|rfl
  .exact⟨p1,_,_,rfl,(k2.trans (k3.trans (k4.trans (k5.trans kk)))).tup h1,.inl rfl,gQ' (by omega),told (cT'.go (k05.trans kk))⟩
  .exact⟨p3,_,_,rfl,(k4.trans (k5.trans kk)).tup h3,.inl rfl,gQ' (by omega),fU' (.inr ((k3.trans (k4.trans (k5.trans kk))).tup h2)) (by omega)⟩
  .exact⟨p4,_,_,rfl,(k5.trans kk).tup h4,.inl rfl,gQ' (by omega),told (cT'.go (k05.trans kk))⟩
  .exact⟨p5,_,_,rfl,kk.tup h5,.inl rfl,gQ' hmx,told (cT'.go (k05.trans kk))⟩
 have g6:Go 0 H (upd H5 pf (.lst [V.ref p1,.ref p3,.ref p4,.ref p5])):=k05.trans (Go.new (c:=0) hpf _)
 have hf6:upd H5 pf (.lst [V.ref p1,.ref p3,.ref p4,.ref p5]) pf=some (.lst [V.ref p1,.ref p3,.ref p4,.ref p5]):=aa'
 have P6:∀x∈[V.ref p1,.ref p3,.ref p4,.ref p5],∀o,Pq (upd (upd H5 pf (.lst [V.ref p1,.ref p3,.ref p4,.ref p5])) pf o) x:=fun x hx o=>by
  rw[b8']
  exact Pall x hx o
 generalize upd H5 pf (.lst [V.ref p1,.ref p3,.ref p4,.ref p5])=H6 at g6 hf6 P6 ⊢
 clear Pall h1 h2 h3 h4 h5 k1 k2 k3 k4 k5 k05 hpf
 walk_at "y"
 refine d9' (by omega) (by omega) (eV' (n:=(5:Int).toNat) (fun t σ H'=>(∃x4 x5 x6 x7,σ=[some (.ref b),some (.int m),some (.ref pw),some (.ref pf),x4,x5,x6,x7,none,none])/\Go (2*t) H H'/\∃us,H' pf=some (.lst us)/\us.length=4+t/\∀x∈us,∀o,Pq (upd H' pf o) x) ⟨⟨_,_,_,_,rfl⟩,g6.mono (by omega),_,hf6,rfl,P6⟩ ?_ ?_)
 .rintro t σ H12 ht ⟨⟨x4,x5,x6,x7,rfl⟩,g12,us,hf12,hul,hP⟩
  have ht:t<5:=ht
  obtain⟨m12,hb12,hm12,_⟩:=g12.boxed hb (by omega)
  walk_at "y"
  refine fC' (SqL.of (g12.lst hpw)) fun pm hpm=>?_
  have k14:=Go.new (c:=0) hpm (.lst (ws.map nV))
  have hm14:upd H12 pm (.lst (ws.map nV)) pm=some (.lst (ws.map nV)):=aa'
  have n14:H pm=none:=g12.free _ hpm
  have hf14:=k14.lst hf12
  generalize upd H12 pm (.lst (ws.map nV))=H14 at k14 hm14 hf14 ⊢
  have g14:=g12.trans k14
  obtain⟨m14,hb14,hm14',_⟩:=g14.boxed hb (by omega)
  walk_at "y"
  refine ai' hT ?_
  walk_at "y"
  refine dm' (SqL.of hm14) ?_
  rw[hlen]
  walk_at "y"
  refine⟨b,m14,_,rfl,hb14,by omega,by omega,by omega,fun i H15 hi0 hi1 g15=>?_⟩
  obtain⟨i,rfl⟩:=aM hi0
  have hi:i<ws.length:=by omega
  have hwi:atI (ws.map nV) (i:Int)=some (.int ws[i]):=aY' (by rw[ap,ab hi];rfl)
  have hm15:=g15.lst hm14
  have hf15:=g15.lst hf14
  walk_at "y"
  refine aV' (SqL.of hm15) hwi ?_
  walk_at "y"
  refine aV' (SqL.of hm15) hwi ?_
  walk_at "y"
  refine aV' (SqL.of hm15) hwi ?_
  walk_at "y"
  refine aV' (SqL.of hm15) hwi ?_
  walk_at "y"
  refine⟨by decide,fun p16 hp16=>?_⟩
  have k16:=Go.new (c:=0) hp16 (.lst [V.int ws[i]])
  have h16:upd H15 p16 (.lst [V.int ws[i]]) p16=some (.lst [V.int ws[i]]):=aa'
  generalize upd H15 p16 (.lst [V.int ws[i]])=H16 at k16 h16 ⊢
  refine⟨⟨by decide,by decide,by decide⟩,?_⟩
  obtain⟨ks,hke,hkl,hkv⟩:∃ks:List V,ks=[V.int ((ws[i]:Nat)+1),V.int ((ws[i]:Nat)-1),V.int 0,V.bl true,V.str (tx [true]),V.non,V.int (-(ws[i]:Nat)),V.ref p16,V.int (1*2 ^ (200:Int).toNat)]/\ks.length=9/\∀x∈ks,∀o o',Vb (upd (upd H16 pm o) pf o') x:=by
   refine⟨_,rfl,rfl,fun x hx o o'=>?_⟩
   simp only[ak,av,or_false]at hx
   rcases hx with rfl|rfl|rfl|rfl|rfl|rfl|rfl|rfl|rfl
   .exact .inl rfl
   .exact .inl rfl
   .exact .inl rfl
   .exact .inl rfl
   .exact .inl rfl
   .exact .inl rfl
   .exact .inl rfl
   .exact .inr ⟨_,_,rfl,.inl (by rw[af' (ag' hf15 hp16).symm,af' (ag' hm15 hp16).symm];exact h16)⟩
   .exact .inl rfl
  refine⟨by show 9<=sizeLine;decide,fun p17 hp17=>?_⟩
  rw[<- hke]
  have k17:=Go.new (c:=0) hp17 (.lst ks)
  have h17:upd H16 p17 (.lst ks) p17=some (.lst ks):=aa'
  generalize upd H16 p17 (.lst ks)=H17 at k17 h17 ⊢
  have g17:=g14.trans (g15.trans (k16.trans k17))
  obtain⟨m17,hb17,hm17,_⟩:=g17.boxed hb (by omega)
  walk_at "y"
  refine ai' hT ?_
  walk_at "y"
  refine dm' (SqL.of h17) ?_
  rw[hkl]
  walk_at "y"
  refine⟨b,m17,_,rfl,hb17,by omega,by omega,by omega,fun j H18 hj0 hj1 g18=>?_⟩
  obtain⟨v,hv,hvv⟩:=pick hkv hj0 (by rw[hkl];omega)
  have kk:=k16.trans (k17.trans g18)
  have hm18:=kk.lst hm15
  walk_at "y"
  refine aV' (SqL.of (g18.lst h17)) hv ?_
  walk_at "y"
  refine lu' hm18 (by rw[hlen];exact hi) ?_
  have g19:Go (2*(t+1)) H (upd H18 pm (.lst ((ws.map nV).set i v))):=(l2' (g17.trans g18) n14 _).mono (by omega)
  have hv19:∀o',Vb (upd (upd H18 pm (.lst ((ws.map nV).set i v))) pf o') v:=fun o'=>(hvv (.lst ((ws.map nV).set i v)) o').keep (cT'.upd (cT'.upd (cT'.go (k17.trans g18)) pm _) pf o')
  have K19:cT' H12 (upd H18 pm (.lst ((ws.map nV).set i v))):=⟨fun a xs e=>by rw[af' (ag' e hpm)];exact kk.lst (g15.lst (k14.lst e)),fun a xs e=>by rw[af' (ag' e hpm)];exact kk.tup (g15.tup (k14.tup e))⟩
  have hm19:upd H18 pm (.lst ((ws.map nV).set i v)) pm=some (.lst ((ws.map nV).set i v)):=aa'
  generalize upd H18 pm (.lst ((ws.map nV).set i v))=H19 at g19 hv19 K19 hm19 ⊢
  have hf19:=K19.1 _ _ hf12
  have nmf:pm≠pf:=(ag' hf12 hpm).symm
  walk_at "y"
  refine⟨tyL hf19 rfl,?_⟩
  refine⟨by decide,fun p20 hp20=>?_⟩
  have k20:=Go.new (c:=0) hp20 (.tup [V.int m,.ref pm])
  have h20:upd H19 p20 (.tup [V.int m,.ref pm]) p20=some (.tup [V.int m,.ref pm]):=aa'
  have n20:p20≠pf:=(ag' hf19 hp20).symm
  generalize upd H19 p20 (.tup [V.int m,.ref pm])=H20 at k20 h20 ⊢
  refine gw' (k20.lst hf19) (by rw[hul];exact ah' (by omega)) ?_
  refine⟨⟨_,_,_,_,rfl⟩,l2' ((g19.trans k20).mono (by omega)) npf _,us++[.ref p20],aa',by rw[al,hul];rfl,fun x hx o=>?_⟩
  rw[b8']
  have K20:=cT'.upd (cT'.go k20) pf o
  rcases aw.mp hx with hx|hx
  .exact(hP x hx o).keep ((cT'.upd K19 pf o).trans K20)
  .rw[aU.mp hx]
   refine⟨p20,_,_,rfl,by rw[af' n20];exact h20,.inl rfl,gQ' (by omega),.inr ⟨pm,_,rfl,.inl (by rw[af' nmf];exact k20.lst hm19),fun y hy=>?_,by rw[List.length_set,hlen];omega⟩⟩
   rcases List.mem_or_eq_of_mem_set hy with hy|rfl
   .obtain⟨n,hn',rfl⟩:=bg.mp hy
    exact .inl rfl
   .exact(hv19 o).keep K20
 .rintro σ H12 ⟨⟨x4,x5,x6,x7,rfl⟩,g12,us,hf12,hul,hP⟩
  have hul:us.length=9:=hul
  have g12:Go 10 H H12:=g12
  have hP12:∀x∈us,Pq H12 x:=fun x hx=>(hP x hx (.lst us)).keep (dQ' hf12)
  have hpw12:=g12.lst hpw
  have Kpw:∀{B:Hp},cT' H12 B->Pb B (.ref pw):=fun k=>(fU' (.inl hpw12) (by omega)).keep k
  walk_at "y"
  refine⟨by decide,fun p21 hp21=>?_⟩
  have k21:=Go.new (c:=0) hp21 (.lst [V.int m])
  have h21:upd H12 p21 (.lst [V.int m]) p21=some (.lst [V.int m]):=aa'
  generalize upd H12 p21 (.lst [V.int m])=H21 at k21 h21 ⊢
  refine⟨⟨by decide,by decide,by decide⟩,?_⟩
  obtain⟨od,hode,hodl,hodv⟩:∃od:List V,od=[V.int 0,V.bl true,V.str (tx [true]),V.non,V.int (-(m:Int)),V.ref p21,V.int 401,V.int (10 ^ (9:Int).toNat)]/\od.length=8/\∀x∈od,Vb H21 x/\Nu x:=by
   refine⟨_,rfl,rfl,fun x hx=>?_⟩
   simp only[ak,av,or_false]at hx
   rcases hx with rfl|rfl|rfl|rfl|rfl|rfl|rfl|rfl
   .exact⟨.inl rfl,gQ' (by decide)⟩
   .exact⟨.inl rfl,ob' fun i z=>nomatch z⟩
   .exact⟨.inl rfl,ob' fun i z=>nomatch z⟩
   .exact⟨.inl rfl,ob' fun i z=>nomatch z⟩
   .exact⟨.inl rfl,gQ' (by omega)⟩
   .exact⟨.inr ⟨_,_,rfl,.inl h21⟩,ob' fun i z=>nomatch z⟩
   .exact⟨.inl rfl,rA' (by decide)⟩
   .exact⟨.inl rfl,rA' (by decide)⟩
  refine⟨by show 8<=sizeLine;decide,fun p22 hp22=>?_⟩
  rw[<- hode]
  have k22:=Go.new (c:=0) hp22 (.lst od)
  have h22:upd H21 p22 (.lst od) p22=some (.lst od):=aa'
  generalize upd H21 p22 (.lst od)=H22 at k22 h22 ⊢
  have k1222:=k21.trans k22
  walk_at "y"
  refine lh' (SqL.of (k1222.lst hpw12)) fun p23 hp23=>?_
  rw[show jk' (ws.map nV) (some 1) none=(ws.map nV).drop 1 from nx' (n:=1)]
  have k23:=Go.new (c:=0) hp23 (.lst ((ws.map nV).drop 1))
  have h23:upd H22 p23 (.lst ((ws.map nV).drop 1)) p23=some (.lst ((ws.map nV).drop 1)):=aa'
  generalize upd H22 p23 (.lst ((ws.map nV).drop 1))=H23 at k23 h23 ⊢
  have k1223:=k1222.trans k23
  walk_at "y"
  refine⟨by decide,fun p24 hp24=>?_⟩
  have k24:=Go.new (c:=0) hp24 (.lst [V.int 1])
  refine iq' (k24.lst (k1223.lst hpw12)) aa' (by rw[hlen];exact bu (ah' (by simp;omega))) fun p25 hp25=>?_
  have k25:=k24.trans (Go.new (c:=0) hp25 (.lst (ws.map nV++[.int 1])))
  have h25:upd (upd H23 p24 (.lst [V.int 1])) p25 (.lst (ws.map nV++[.int 1])) p25=some (.lst (ws.map nV++[.int 1])):=aa'
  generalize upd (upd H23 p24 (.lst [V.int 1])) p25 (.lst (ws.map nV++[.int 1]))=H25 at k25 h25 ⊢
  have k1225:=k1223.trans k25
  walk_at "y"
  refine⟨by decide,fun p26 hp26=>⟨by decide,fun p27 hp27=>⟨by decide,fun p28 hp28=>⟨by decide,fun p29 hp29=>?_⟩⟩⟩⟩
  have k26:=Go.new (c:=0) hp26 (.lst [])
  have h26:upd H25 p26 (.lst []) p26=some (.lst []):=aa'
  generalize upd H25 p26 (.lst [])=H26 at k26 h26 hp27 hp28 hp29 ⊢
  have k27:=Go.new (c:=0) hp27 (.tup [.ref pw])
  have h27:upd H26 p27 (.tup [.ref pw]) p27=some (.tup [.ref pw]):=aa'
  generalize upd H26 p27 (.tup [.ref pw])=H27 at k27 h27 hp28 hp29 ⊢
  have k28:=Go.new (c:=0) hp28 (.lst [.ref pw])
  have h28:upd H27 p28 (.lst [.ref pw]) p28=some (.lst [.ref pw]):=aa'
  generalize upd H27 p28 (.lst [.ref pw])=H28 at k28 h28 hp29 ⊢
  have k2528:=k26.trans (k27.trans k28)
  have k1228:=k1225.trans k2528
  have nums:∀{H':Hp},∀x∈ws.map nV,Vb H' x:=fun x hx=>by
   obtain⟨n,hn',rfl⟩:=bg.mp hx
   exact .inl rfl
  have vpw:Vb H28 (.ref pw):=.inr ⟨_,_,rfl,.inl (k1228.lst hpw12)⟩
  obtain⟨fr,hfe,hfl,hfv⟩:∃fr:List V,fr=[V.ref p23,V.ref p25,V.ref p26,V.non,V.int 0,V.str (tx []),V.ref p27,V.ref p28]/\fr.length=8/\∀x∈fr,Pb H28 x:=by
   refine⟨_,rfl,rfl,fun x hx=>?_⟩
   simp only[ak,av,or_false]at hx
   rcases hx with rfl|rfl|rfl|rfl|rfl|rfl|rfl|rfl
   .exact .inr ⟨_,_,rfl,.inl ((k25.trans k2528).lst h23),fun x hx=>nums x (cv hx),by rw[cc,hlen];omega⟩
   .refine .inr ⟨_,_,rfl,.inl (k2528.lst h25),fun x hx=>?_,by rw[al,hlen];show _+1<=_;omega⟩
    rcases aw.mp hx with hx|hx
    .exact nums x hx
    .rw[aU.mp hx];exact .inl rfl
   .exact .inr ⟨_,_,rfl,.inl ((k27.trans k28).lst h26),fun x hx=>absurd hx av,aE _⟩
   .exact .inl rfl
   .exact .inl rfl
   .exact .inl rfl
   .refine .inr ⟨_,_,rfl,.inr (k28.tup h27),fun x hx=>?_,by show 1<=61;decide⟩
    rw[aU.mp hx]
    exact vpw
   .refine .inr ⟨_,_,rfl,.inl h28,fun x hx=>?_,by show 1<=61;decide⟩
    rw[aU.mp hx]
    exact vpw
  rw[<- hfe]
  have k29:=Go.new (c:=0) hp29 (.lst fr)
  have h29:upd H28 p29 (.lst fr) p29=some (.lst fr):=aa'
  generalize upd H28 p29 (.lst fr)=H29 at k29 h29 ⊢
  have k1229:=k1228.trans k29
  have k2229:=k23.trans (k25.trans (k2528.trans k29))
  have g29:=g12.trans k1229
  obtain⟨m29,hb29,hm29,_⟩:=g29.boxed hb (by omega)
  walk_at "y"
  refine ai' hT ?_
  walk_at "y"
  refine⟨b,m29,_,rfl,hb29,by omega,by omega,by omega,fun j1 H30 hj0 hj1 g30=>?_⟩
  obtain⟨v1,hv1,hV1,hN1⟩:=pick hodv hj0 (by rw[hodl];omega)
  obtain⟨m30,hb30,hm30,_⟩:=g30.boxed hb29 (by omega)
  walk_at "y"
  refine aV' (SqL.of (g30.lst (k2229.lst h22))) hv1 ?_
  walk_at "y"
  refine⟨by decide,fun p31 hp31=>?_⟩
  have k31:=Go.new (c:=0) hp31 (.tup [v1,.ref pw])
  have h31:upd H30 p31 (.tup [v1,.ref pw]) p31=some (.tup [v1,.ref pw]):=aa'
  have hb31:upd H30 p31 (.tup [v1,.ref pw]) b=some (dF' b m30):=by rw[af' (ag' hb30 hp31)];exact hb30
  generalize upd H30 p31 (.tup [v1,.ref pw])=H31 at k31 h31 hb31 ⊢
  walk_at "y"
  refine ai' hT ?_
  walk_at "y"
  refine⟨b,m30,_,rfl,hb31,by omega,by omega,by omega,fun j2 H32 hj2 hj3 g32=>?_⟩
  obtain⟨v2,hv2,hP2⟩:=pick hfv hj2 (by rw[hfl];omega)
  obtain⟨m32,hb32,hm32,_⟩:=g32.boxed hb31 (by omega)
  have k2932:=g30.trans (k31.trans g32)
  walk_at "y"
  refine aV' (SqL.of (k2932.lst h29)) hv2 ?_
  walk_at "y"
  refine⟨by decide,fun p33 hp33=>?_⟩
  have k33:=Go.new (c:=0) hp33 (.tup [V.int m,v2])
  have h33:upd H32 p33 (.tup [V.int m,v2]) p33=some (.tup [V.int m,v2]):=aa'
  have hb33:upd H32 p33 (.tup [V.int m,v2]) b=some (dF' b m32):=by rw[af' (ag' hb32 hp33)];exact hb32
  generalize upd H32 p33 (.tup [V.int m,v2])=H33 at k33 h33 hb33 ⊢
  walk_at "y"
  refine ai' hT ?_
  walk_at "y"
  refine⟨b,m32,_,rfl,hb33,by omega,by omega,by omega,fun j3 H34 hj4 hj5 g34=>?_⟩
  obtain⟨v3,hv3,hV3,hN3⟩:=pick hodv hj4 (by rw[hodl];omega)
  have k2934:=k2932.trans (k33.trans g34)
  walk_at "y"
  refine aV' (SqL.of (k2934.lst (k2229.lst h22))) hv3 ?_
  walk_at "y"
  refine⟨by decide,fun p35 hp35=>⟨by decide,fun p36 hp36=>⟨by decide,fun p37 hp37=>?_⟩⟩⟩
  have k35:=Go.new (c:=0) hp35 (.lst [])
  have h35:upd H34 p35 (.lst []) p35=some (.lst []):=aa'
  generalize upd H34 p35 (.lst [])=H35 at k35 h35 hp36 hp37 ⊢
  have k36:=Go.new (c:=0) hp36 (.tup [v3,.ref p35])
  have h36:upd H35 p36 (.tup [v3,.ref p35]) p36=some (.tup [v3,.ref p35]):=aa'
  generalize upd H35 p36 (.tup [v3,.ref p35])=H36 at k36 h36 hp37 ⊢
  have k37:=Go.new (c:=0) hp37 (.lst [V.ref p31,.ref p33,.ref p36])
  have h37:upd H36 p37 (.lst [V.ref p31,.ref p33,.ref p36]) p37=some (.lst [V.ref p31,.ref p33,.ref p36]):=aa'
  generalize upd H36 p37 (.lst [V.ref p31,.ref p33,.ref p36])=H37 at k37 h37 ⊢
  have k2937:=k2934.trans (k35.trans (k36.trans k37))
  have k1237:=k1229.trans k2937
  refine iq' (k1237.lst hf12) h37 (by rw[hul];exact bu (ah' (by show 9+3<=1000;omega))) fun p38 hp38=>?_
  have hnp:H p38=none:=(g12.trans k1237).free _ hp38
  refine q p38 _ _ ((g12.trans (k1237.trans (Go.new (c:=0) hp38 _))).mono (by omega)) hnp aa' (by rw[al,hul];show 9+3<=20;omega) fun x hx o=>?_
  rw[b8']
  have k38:=Go.new (c:=0) hp38 o
  have k1238:=k1237.trans k38
  have kE:=k35.trans (k36.trans (k37.trans k38))
  rcases aw.mp hx with hx|hx
  .exact(hP12 x hx).keep (cT'.go k1238)
  .simp only[ak,av,or_false]at hx
   rcases hx with rfl|rfl|rfl
   .exact⟨p31,_,_,rfl,(g32.trans (k33.trans (g34.trans kE))).tup h31,hV1.keep (cT'.go (k22.trans (k2229.trans (k2937.trans k38)))),hN1,Kpw (cT'.go k1238)⟩
   .exact⟨p33,_,_,rfl,(g34.trans kE).tup h33,.inl rfl,gQ' (by omega),hP2.keep (cT'.go (k29.trans (k2937.trans k38)))⟩
   .exact⟨p36,_,_,rfl,(k37.trans k38).tup h36,hV3.keep (cT'.go (k22.trans (k2229.trans (k2937.trans k38)))),hN3,.inr ⟨_,_,rfl,.inl ((k36.trans (k37.trans k38)).lst h35),fun x hx=>absurd hx av,aE _⟩⟩
theorem vv' {M:List Rm} {p q:Nat} {x:V} {o:Option (List V)} (h:gd M p q x o=true):∃m:Nat,okm M p q m=true:=by
 cases x with
 |int m=>
  cases o with
  |none=>cases h
  |some vs=>
   have h:(decide (1<=m/\m<=400)&&(decide (vs=(wN M (q*m.toNat)).map nV)&&bel (p*m.toNat) (wN M (q*m.toNat))))=true:=h
   simp only[ac]at h
   exact⟨m.toNat,h.2.2⟩
 |_=>cases o<;>cases h
def d3':Sp:=fun vs H Q _=>∃(b:Addr),vs=[.ref b]/\H b=some (dF' b 0)/\∀H',Go 1700 H H'->Q (.bl true) H'
structure FsRight (C:Rc):Prop where
 take:C.fs "_law_take"=some aH'
 asked:C.fs "_law_asked"=some cB'
 counted:C.fs "_law_counted"=some bz'
 tl:C.fs "too_little"=some r1'
 papers:C.fs "_law_papers"=some da'
 shows:C.fs "shows_too_little"=some ci'
 due:C.fs "_law_due"=some ci'
 en:C.fs "enough"=some rt'
theorem jf' {C:Rc} (hN:C.N.length=11) (F:FsRight C):∀vs H Q E,d3' vs H Q E->tSs C fT' { nx:=fun _ H'=>Q .non H',rt:=Q } (L2.aw' C.N vs) H:=by
 intro vs H Q E h
 obtain⟨b,rfl,hb,q⟩:=h
 rw[aj' hN]
 unfold fT'
 walk_at "y"
 rw[hD']
 refine ai' F.asked ?_
 walk_at "y"
 refine⟨b,0,rfl,hb,by omega,fun t a M p q' H1 g1 ht hM hO hM1 hM12 hp1 hp4 hq1 hq8 hpq=>?_⟩
 refine lg' (SqT.of ht) ?_
 obtain⟨n1,hb1,hn1,_⟩:=g1.boxed hb (by omega)
 simp only[fa',bM,bN]
 refine nz' fun N hNx=>?_
 have aA':∀(p:Nat) (H2:Hp),p<=4->Go 1 H1 H2->N [some (.ref b),some (.ref a),some (.int p),some (.int q'),none,none,none,none,none,none,none] H2:=by
  clear hp1 hp4 hpq ht p
  intro p H2 hp4 g2
  refine hNx _ _ ?_
  clear hNx N
  obtain⟨n2,hb2,hn2,_⟩:=g2.boxed hb1 (by omega)
  have hM2:=hM.mono g2.tp
  have g02:=g1.trans g2
  walk_at "y"
  refine ai' F.take ?_
  walk_at "y"
  refine⟨b,n2,_,rfl,hb2,by omega,by omega,by omega,fun k H3 hk0 hk1 g3=>?_⟩
  obtain⟨k,rfl⟩:=aM hk0
  obtain⟨n3,hb3,hn3,_⟩:=g3.boxed hb2 (by omega)
  have g03:=g02.trans g3
  have hM3:=hM2.mono g3.tp
  obtain⟨m,em⟩:∃m:Nat,(1:Int)+k=m:=⟨1+k,rfl⟩
  walk_at "y"
  rw[em]
  have hm1:1<=m:=by omega
  have hm12:m<=12:=by omega
  walk_at "y"
  refine ai' F.counted ?_
  walk_at "y"
  refine⟨.inl ⟨by omega,by omega⟩,?_⟩
  rw[show(q':Int)*(m:Int)=((q'*m:Nat):Int) by rw[bT]]
  have hqm:q'*m<=8*12:=ce hq8 hm12
  refine⟨a,M,q'*m,rfl,hM3,hO,by omega,by omega,fun c H4 _ s4 hc=>?_⟩
  have hb4:=s4 _ _ hb3
  have hM4:=hM3.mono (ao' s4)
  walk_at "y"
  refine ai' F.tl ?_
  walk_at "y"
  refine⟨a,M,p,q',30,rfl,hM4,hO,by omega,by omega,by omega,by omega,fun v o H5 s5 hH hR=>?_⟩
  have hb5:=s5 _ _ hb4
  have hM5:=hM4.mono (ao' s5)
  have hc5:=s5 _ _ hc
  walk_at "y"
  refine ai' F.papers ?_
  walk_at "y"
  refine⟨b,n3,m,c,wN M (q'*m),rfl,hb5,by omega,hm1,by omega,by rw[dK'];exact hM1,by rw[dK'];exact hM12,hc5,fun pl us H6 g6 npl hpl hul hus=>?_⟩
  obtain⟨n6,hb6,hn6,_⟩:=g6.boxed hb5 (by omega)
  have hM6:=hM5.mono g6.tp
  have g05:Go 1102 H H5:=(g03.trans ((Go.of_same (c:=0) s4).trans (Go.of_same (c:=0) s5))).mono (by omega)
  have g06:=g05.trans g6
  walk_at "y"
  generalize hD:rZ' C _ _=D0
  have rest2:∀(pl:Addr) (us:List V) (H7:Hp),Go 40 H6 H7->H pl=none->H7 pl=some (.lst us)->us.length<=40->(∀x∈us,∀o,Pq (upd H7 pl o) x)->D0.nx [some (.ref b),some (.ref a),some (.int p),some (.int q'),some (.int m),some (.ref c),some v,some (.ref pl),none,none,none] H7:=by
   clear hus hul hpl npl us pl
   intro pl us H7 g7 npl hpl hul hus
   rw[<- hD]
   simp only[fa']
   clear hD D0
   obtain⟨n7,hb7,hn7,_⟩:=g7.boxed hb6 (by omega)
   have hM7:=hM6.mono g7.tp
   have g07:=g06.trans g7
   refine nz' fun N hNx=>?_
   have rest3:∀(us:List V) (H8:Hp),Go 1183 H H8->IsM H8 a M->H8 pl=some (.lst us)->us.length<=41->(∀x∈us,∀o,Pq (upd H8 pl o) x)->N [some (.ref b),some (.ref a),some (.int p),some (.int q'),some (.int m),some (.ref c),some v,some (.ref pl),none,none,none] H8:=by
    clear hus hul hpl us
    intro us H8 g8 hM8 hpl hul hus
    refine hNx _ _ ?_
    clear hNx N
    obtain⟨n8,hb8,hn8,_⟩:=g8.boxed hb (by omega)
    walk_at "y"
    refine aT' (SqL.of hpl) (nu' (xs:=us) (fun i σ H'=>i<=us.length/\(∃x8 x9 x10,σ=[some (.ref b),some (.ref a),some (.int p),some (.int q'),some (.int m),some (.ref c),some v,some (.ref pl),x8,x9,x10])/\Go i H8 H') ⟨aE _,⟨_,_,_,rfl⟩,Go.refl⟩ (fun i σ H' _ pv=>SqL.of (pv.2.2.lst hpl)) ?_ ?_)
    .rintro i w σ H9 hw ⟨_,⟨x8,x9,x10,rfl⟩,g9⟩
     have hi:=al' hw
     obtain⟨tt,x,y,rfl,htt,hx,hnx,hy⟩:=(hus w (az hw) (.lst us)).keep ((dQ' hpl).trans (cT'.go g9))
     obtain⟨n9,hb9,hn9,_⟩:=g9.boxed hb8 (by omega)
     have hM9:=hM8.mono g9.tp
     obtain⟨oy,hoy⟩:=hy.tl
     refine dG' (SqT.of htt) ?_
     simp only[bM,bN]
     walk_at "y"
     refine ai' F.shows ?_
     walk_at "y"
     refine⟨a,M,p,q',x,y,oy,rfl,hM9,hO,by omega,by omega,by omega,hx.val,hnx,hoy,fun H10 s10=>?_⟩
     have hM10:=hM9.mono (ao' s10)
     walk_at "y"
     refine fF' (T:="bool") (k:=true) rfl rfl (by decide) (by decide) ?_
     walk_at "y"
     refine ai' F.due ?_
     walk_at "y"
     refine⟨a,M,p,q',x,y,oy,rfl,hM10,hO,by omega,by omega,by omega,hx.val.mono s10,hnx,hoy.mono s10,fun H11 s11=>?_⟩
     have hM11:=hM10.mono (ao' s11)
     have g11:Go 0 H9 H11:=(Go.of_same (c:=0) s10).trans (Go.of_same (c:=0) s11)
     have hb11:=s11 _ _ (s10 _ _ hb9)
     cases hg:gd M p q' x oy with
     |false=>
      walk_at "y"
      exact⟨hi,⟨_,_,_,rfl⟩,(g9.trans g11).mono (by omega)⟩
     |true=>
      walk_at "y"
      refine ai' F.en ?_
      walk_at "y"
      refine ai' F.take ?_
      walk_at "y"
      refine⟨b,n9,_,rfl,hb11,by omega,by omega,by omega,fun k H12 hk0 hk1 g12=>?_⟩
      obtain⟨k,rfl⟩:=aM hk0
      walk_at "y"
      rw[show(1:Int)+(k:Int)=((1+k:Nat):Int) by omega]
      refine⟨a,M,p,q',1+k,rfl,hM11.mono g12.tp,hO,by omega,by omega,by omega,by have:=ce hM12 (show 1+k<=30 by omega);omega,fun u w H13 s13 hG hu=>?_⟩
      have g13:=(g11.trans g12).trans (Go.of_same (c:=0) s13)
      rcases hu with⟨c',rfl,_,_,hw⟩|⟨rfl,_⟩
      .obtain⟨mm,hmm⟩:=vv' hg
       rw[l5' hO hG.ok hw mm]at hmm
       cases hmm
      .walk_at "y"
       exact⟨hi,⟨_,_,_,rfl⟩,(g9.trans g13).mono (by omega)⟩
    .rintro σ H9 ⟨_,⟨x8,x9,x10,rfl⟩,g9⟩
     walk_at "y"
     exact q _ ((g8.trans g9).mono (by omega))
   walk_at "y"
   refine ai' F.take ?_
   walk_at "y"
   refine⟨b,n7,_,rfl,hb7,by omega,by omega,by omega,fun k H8 hk0 hk1 g8=>?_⟩
   obtain⟨n8,hb8,hn8,_⟩:=g8.boxed hb7 (by omega)
   have hM8:=hM7.mono g8.tp
   have hpl8:=g8.lst hpl
   have hus8:∀x∈us,∀o,Pq (upd H8 pl o) x:=fun x hx o=>(hus x hx o).keep (cT'.upd (cT'.go g8) pl o)
   have g08:=g07.trans g8
   walk_at "y"
   refine bA' (fun hq=>?_) fun hq=>?_
   .walk_at "y"
    refine⟨tyL hpl8 rfl,?_⟩
    refine ai' F.counted ?_
    walk_at "y"
    refine⟨.inl ⟨by omega,by omega⟩,?_⟩
    rw[show(q':Int)*401=((q'*401:Nat):Int) by omega]
    refine⟨a,M,q'*401,rfl,hM8,hO,by omega,by omega,fun c9 H9 hc9 s9 h9=>?_⟩
    walk_at "y"
    refine⟨by decide,fun p10 hp10=>?_⟩
    have k10:=Go.new (c:=0) hp10 (.tup [V.int 401,.ref c9])
    have h10:upd H9 p10 (.tup [V.int 401,.ref c9]) p10=some (.tup [V.int 401,.ref c9]):=aa'
    have n10:p10≠pl:=(ag' (s9 _ _ hpl8) hp10).symm
    generalize upd H9 p10 (.tup [V.int 401,.ref c9])=H10 at k10 h10 ⊢
    have k810:Go 0 H8 H10:=(Go.of_same (c:=0) s9).trans k10
    refine gw' (k810.lst hpl8) (ah' (by omega)) ?_
    have nc9:c9≠pl:=(ag' hpl8 hc9).symm
    refine rest3 (us++[.ref p10]) _ (l2' ((g08.trans k810).mono (by omega)) npl _) ?_ aa' (by rw[al];show us.length+1<=41;omega) fun x hx o=>?_
    .refine(hM8.mono k810.tp).mono fun a' xs e=>?_
     have hne:a'≠pl:=fun z=>by
      subst z
      rw[k810.lst hpl8]at e
      cases e
     rw[af' hne]
     exact e
    .rw[b8']
     rcases aw.mp hx with hx|hx
     .exact(hus8 x hx o).keep (cT'.upd (cT'.go k810) pl o)
     .rw[aU.mp hx]
      exact⟨p10,_,_,rfl,by rw[af' n10];exact h10,.inl rfl,rA' (by decide),fU' (.inl (by rw[af' nc9];exact k10.lst h9)) (by rw[dK'];omega)⟩
   .walk_at "y"
    exact rest3 us H8 (g08.mono (by omega)) hM8 hpl8 (by omega) hus8
  cases o with
  |none=>
   cases(show v=.non from hR)
   walk_at "y"
   exact rest2 pl us H6 ((Go.refl (c:=0)).mono (by omega)) (g05.free _ npl) hpl (by omega) hus
  |some i=>
   obtain⟨t2,c2,rfl,ht2,_,hc2⟩:=hR
   have hi30:1<=i/\i<=30:=by
    rcases hH with⟨z,_⟩|⟨j,hj,e,_⟩
    .cases z
    .injection e with e;omega
   walk_at "y"
   refine ai' F.papers ?_
   walk_at "y"
   refine cm' (SqT.of (g6.tup ht2)) (aY' (j:=0) rfl) ?_
   walk_at "y"
   refine cm' (SqT.of (g6.tup ht2)) (aY' (j:=1) rfl) ?_
   walk_at "y"
   refine⟨b,n6,i,c2,wN M (q'*i),rfl,hb6,by omega,hi30.1,by omega,by rw[dK'];exact hM1,by rw[dK'];exact hM12,g6.lst hc2,fun pl2 us2 H7 g7 npl2 hpl2 hul2 hus2=>?_⟩
   walk_at "y"
   refine iq' (g7.lst hpl) hpl2 (bu (ah' (by omega))) fun p8 hp8=>?_
   have k8:=Go.new (c:=0) hp8 (.lst (us++us2))
   walk_at "y"
   refine rest2 p8 (us++us2) _ ((g7.trans k8).mono (by omega)) ((g06.trans g7).free _ hp8) aa' (by rw[al];omega) fun x hx o=>?_
   rw[b8']
   have k8:=Go.new (c:=0) hp8 o
   rcases aw.mp hx with hx|hx
   .exact(hus x hx (.lst us)).keep ((dQ' hpl).trans (cT'.go (g7.trans k8)))
   .exact(hus2 x hx (.lst us2)).keep ((dQ' hpl2).trans (cT'.go k8))
 walk_at "y"
 refine ai' F.take ?_
 walk_at "y"
 refine⟨b,n1,_,rfl,hb1,by omega,by omega,by omega,fun k H2 hk0 hk1 g2=>?_⟩
 walk_at "y"
 refine bA' (fun hq=>?_) fun hq=>?_
 .walk_at "y"
  refine bA' (fun hq=>?_) fun hq=>?_
  .walk_at "y"
   obtain⟨p2,e2,h2⟩:∃p2:Nat,(if(q':Int)+1<4 then(q':Int)+1 else 4)=(p2:Int)/\p2<=4:=by
    split
    .exact⟨q'+1,by omega,by omega⟩
    .exact⟨4,rfl,ai _⟩
   rw[e2]
   exact aA' p2 H2 h2 g2
  .walk_at "y"
   exact aA' p H2 hp4 g2
 .walk_at "y"
  exact aA' p H2 hp4 g2
def me' (K:W.Frag):Sp:=fun vs H Q _=>∃(a:Addr) (ns:List Int),vs=[.ref a]/\SqL K H a (ns.map V.int)/\ns.length<=63/\∀H',Q (.bl true) H'
theorem oc' {C:Rc} (hN:C.N.length=2) (hB:C.fs "_law_box"=some (lr' C.K)) (hR:C.fs "_law_right"=some d3'):∀vs H Q E,me' C.K vs H Q E->tSs C n8' { nx:=fun _ H'=>Q .non H',rt:=Q } (L2.aw' C.N vs) H:=by
 intro vs H Q E h
 obtain⟨a,ns,rfl,hs,h63,q⟩:=h
 rw[aj' hN]
 unfold n8'
 walk_at "y"
 refine dm' hs ?_
 rw[aa]
 walk_at "y"
 generalize hNe:(if(3:Int)<(if(ns.length:Int)<10 then(ns.length:Int)else 10)then(if(ns.length:Int)<10 then(ns.length:Int)else 10)else 3)=N
 have hN0:0<=N/\N<=10:=by
  rw[<- hNe]
  split<;>split<;>omega
 refine d9' (by omega) (by omega) (eV' (fun i σ H'=>(∃x1,σ=[some (.ref a),x1])/\SqL C.K H' a (ns.map V.int)) ⟨⟨none,rfl⟩,hs⟩ ?_ ?_)
 .rintro i σ H0 hi ⟨⟨x1,rfl⟩,hs0⟩
  walk_at "y"
  refine ai' hR ?_
  walk_at "y"
  refine ai' hB ?_
  walk_at "y"
  refine⟨a,ns,_,rfl,hs0,by omega,by omega,fun b hb=>?_⟩
  have hs1:=(ae' hb (dF' b 0)).seq hs0
  have hb1:upd H0 b (dF' b 0) b=some (dF' b 0):=aa'
  generalize upd H0 b (dF' b 0)=H1 at hs1 hb1 ⊢
  walk_at "y"
  refine⟨b,rfl,hb1,fun H2 g2=>?_⟩
  walk_at "y"
  exact⟨⟨_,rfl⟩,g2.seq hs1⟩
 .rintro σ H0 ⟨⟨x1,rfl⟩,hs0⟩
  walk_at "y"
  exact q H0
end K32
namespace K32
open PySem PySem.Spec PyProof.Rows L2 R3 LW K71 K28 K29 K30 K31 SR CK RW TM BD BE
def top (i:Nat):Stmt:=PySem.Challenge.pw_runbound_k32_papers_of_too_little.main.body.getD i (.Pass ⟨0,0,0,0⟩)
theorem rB':mSs cD' bJ' (ac' (top 1)) bC' (am' (top 1))=true:=by decide +kernel
theorem od':FnScope cD' ["thing"] (ac' (top 1)):=⟨rfl,rfl,rfl,by decide +kernel,rfl,by decide +kernel,by decide +kernel⟩
theorem oe':mSs cE' bK' (ac' (top 2)) CK.bD' (am' (top 2))=true:=by decide +kernel
theorem mf':FnScope cE' ["thing","low","high"] (ac' (top 2)):=⟨rfl,rfl,rfl,by decide +kernel,rfl,by decide +kernel,by decide +kernel⟩
theorem vw':mSs dn' cF' (ac' (top 3)) cu' (am' (top 3))=true:=by decide +kernel
theorem rC':FnScope dn' ["thing"] (ac' (top 3)):=⟨rfl,rfl,rfl,by decide +kernel,rfl,by decide +kernel,by decide +kernel⟩
theorem of':mSs cG' bL' (ac' (top 4)) bE' (am' (top 4))=true:=by decide +kernel
theorem mg':FnScope cG' ["thing"] (ac' (top 4)):=⟨rfl,rfl,rfl,by decide +kernel,rfl,by decide +kernel,by decide +kernel⟩
theorem vx':mSs bW' bg' (ac' (top 5)) be' (am' (top 5))=true:=by decide +kernel
theorem rD':FnScope bW' ["thing","many"] (ac' (top 5)):=⟨rfl,rfl,rfl,by decide +kernel,rfl,by decide +kernel,by decide +kernel⟩
theorem rE':mSs cH' bM' (ac' (top 6)) bF' (am' (top 6))=true:=by decide +kernel
theorem og':FnScope cH' ["p","q"] (ac' (top 6)):=⟨rfl,rfl,rfl,by decide +kernel,rfl,by decide +kernel,by decide +kernel⟩
theorem vy':mSs do' cI' (ac' (top 8)) CK.cv' (am' (top 8))=true:=by decide +kernel
theorem rF':FnScope do' ["thing","many"] (ac' (top 8)):=⟨rfl,rfl,rfl,by decide +kernel,rfl,by decide +kernel,by decide +kernel⟩
theorem vz':mSs dp' cJ' (ac' (top 9)) cw' (am' (top 9))=true:=by decide +kernel
theorem rG':FnScope dp' ["thing","many"] (ac' (top 9)):=⟨rfl,rfl,rfl,by decide +kernel,rfl,by decide +kernel,by decide +kernel⟩
theorem x7':mSs cd' br' (ac' (top 10)) bm' (am' (top 10))=true:=by decide +kernel
theorem vA':FnScope cd' ["thing"] (ac' (top 10)):=⟨rfl,rfl,rfl,by decide +kernel,rfl,by decide +kernel,by decide +kernel⟩
theorem vB':mSs dq' cK' (ac' (top 11)) cx' (am' (top 11))=true:=by decide +kernel
theorem rH':FnScope dq' ["machine","rooms"] (ac' (top 11)):=⟨rfl,rfl,rfl,by decide +kernel,rfl,by decide +kernel,by decide +kernel⟩
theorem vC':mSs dr' cL' (ac' (top 12)) cy' (am' (top 12))=true:=by decide +kernel
theorem rI':FnScope dr' ["machine","numbers"] (ac' (top 12)):=⟨rfl,rfl,rfl,by decide +kernel,rfl,by decide +kernel,by decide +kernel⟩
theorem vD':mSs ds' cM' (ac' (top 13)) cz' (am' (top 13))=true:=by decide +kernel
theorem rJ':FnScope ds' ["machine"] (ac' (top 13)):=⟨rfl,rfl,rfl,by decide +kernel,rfl,by decide +kernel,by decide +kernel⟩
theorem zJ':mSs ce' bs' (ac' (top 14)) bq' (am' (top 14))=true:=by decide +kernel
theorem x9':FnScope ce' ["machine","room","many"] (ac' (top 14)):=⟨rfl,rfl,rfl,by decide +kernel,rfl,by decide +kernel,by decide +kernel⟩
theorem zK':mSs dt' cN' (ac' (top 15)) cC' (am' (top 15))=true:=by decide +kernel
theorem ya':FnScope dt' ["machine","many"] (ac' (top 15)):=⟨rfl,rfl,rfl,by decide +kernel,rfl,by decide +kernel,by decide +kernel⟩
theorem oh':mSs bt' a5' (ac' (top 17)) bn' (am' (top 17))=true:=by decide +kernel
theorem mh':FnScope bt' ["machine","numbers","room","bit"] (ac' (top 17)):=⟨rfl,rfl,rfl,by decide +kernel,rfl,by decide +kernel,by decide +kernel⟩
theorem mi':mSs b6' by' (ac' (top 18)) b4' (am' (top 18))=true:=by decide +kernel
theorem jg':FnScope b6' ["machine","numbers"] (ac' (top 18)):=⟨rfl,rfl,rfl,by decide +kernel,rfl,by decide +kernel,by decide +kernel⟩
theorem vE':mSs cO' bN' (ac' (top 21)) bG' (am' (top 21))=true:=by decide +kernel
theorem rK':FnScope cO' ["machine","numbers","many"] (ac' (top 21)):=⟨rfl,rfl,rfl,by decide +kernel,rfl,by decide +kernel,by decide +kernel⟩
theorem zL':mSs c2' b7' (ac' (top 22)) b5' (am' (top 22))=true:=by decide +kernel
theorem yb':FnScope c2' ["machine","q"] (ac' (top 22)):=⟨rfl,rfl,rfl,by decide +kernel,rfl,by decide +kernel,by decide +kernel⟩
theorem zM':mSs a9' aQ' (ac' (top 23)) aP' (am' (top 23))=true:=by decide +kernel
theorem yc':FnScope a9' ["machine","p","q","limits"] (ac' (top 23)):=⟨rfl,rfl,rfl,by decide +kernel,rfl,by decide +kernel,by decide +kernel⟩
theorem zN':mSs d2' db' (ac' (top 24)) c8' (am' (top 24))=true:=by decide +kernel
theorem yd':FnScope d2' ["machine","p","q","most"] (ac' (top 24)):=⟨rfl,rfl,rfl,by decide +kernel,rfl,by decide +kernel,by decide +kernel⟩
theorem rL':mSs cP' bO' (ac' (top 25)) bH' (am' (top 25))=true:=by decide +kernel
theorem oi':FnScope cP' ["counts","bits"] (ac' (top 25)):=⟨rfl,rfl,rfl,by decide +kernel,rfl,by decide +kernel,by decide +kernel⟩
theorem zO':mSs cf' bu' (ac' (top 26)) K31.bp' (am' (top 26))=true:=by decide +kernel
theorem ye':FnScope cf' ["machine","p","q","most"] (ac' (top 26)):=⟨rfl,rfl,rfl,by decide +kernel,rfl,by decide +kernel,by decide +kernel⟩
theorem rM':mSs aJ' az' (ac' (top 27)) K31.aI' (am' (top 27))=true:=by decide +kernel
theorem oj':FnScope aJ' ["machine","p","q","m","counts"] (ac' (top 27)):=⟨rfl,rfl,rfl,by decide +kernel,rfl,by decide +kernel,by decide +kernel⟩
theorem yf':mSs ba' aR' (ac' (top 29)) aO' (am' (top 29))=true:=by decide +kernel
theorem vF':FnScope ba' ["bounds"] (ac' (top 29)):=⟨rfl,rfl,rfl,by decide +kernel,rfl,by decide +kernel,by decide +kernel⟩
theorem zP':mSs bX' bh' (ac' (top 30)) bf' (am' (top 30))=true:=by decide +kernel
theorem yg':FnScope bX' ["bounds","room","bit"] (ac' (top 30)):=⟨rfl,rfl,rfl,by decide +kernel,rfl,by decide +kernel,by decide +kernel⟩
theorem yh':mSs a0' aF' (ac' (top 31)) aE' (am' (top 31))=true:=by decide +kernel
theorem vG':FnScope a0' ["bounds","rooms"] (ac' (top 31)):=⟨rfl,rfl,rfl,by decide +kernel,rfl,by decide +kernel,by decide +kernel⟩
theorem yi':mSs cg' bv' (ac' (top 32)) bo' (am' (top 32))=true:=by decide +kernel
theorem vH':FnScope cg' ["bounds"] (ac' (top 32)):=⟨rfl,rfl,rfl,by decide +kernel,rfl,by decide +kernel,by decide +kernel⟩
theorem vI':mSs dM' c3' (ac' (top 34)) dH' (am' (top 34))=true:=by decide +kernel
theorem rN':FnScope dM' ["_law_script","_law_k"] (ac' (top 34)):=⟨rfl,rfl,rfl,by decide +kernel,rfl,by decide +kernel,by decide +kernel⟩
theorem yj':mSs n4' l6' (ac' (top 35)) nL' (am' (top 35))=true:=by decide +kernel
theorem vJ':FnScope n4' ["_law_script","_law_k"] (ac' (top 35)):=⟨rfl,rfl,rfl,by decide +kernel,rfl,by decide +kernel,by decide +kernel⟩
theorem vK':mSs l7' iC' (ac' (top 36)) iu' (am' (top 36))=true:=by decide +kernel
theorem rO':FnScope l7' ["_law_box_here","_law_many_here"] (ac' (top 36)):=⟨rfl,rfl,rfl,by decide +kernel,rfl,by decide +kernel,by decide +kernel⟩
theorem vL':mSs l8' iD' (ac' (top 37)) iv' (am' (top 37))=true:=by decide +kernel
theorem rP':FnScope l8' ["_law_box_here","_law_least","_law_few","_law_most"] (ac' (top 37)):=⟨rfl,rfl,rfl,by decide +kernel,rfl,by decide +kernel,by decide +kernel⟩
theorem mj':mSs eL' dN' (ac' (top 38)) dI' (am' (top 38))=true:=by decide +kernel
theorem jh':FnScope eL' ["_law_box_here","_law_many_here"] (ac' (top 38)):=⟨rfl,rfl,rfl,by decide +kernel,rfl,by decide +kernel,by decide +kernel⟩
theorem vM':mSs ch' bw' (ac' (top 39)) a4' (am' (top 39))=true:=by decide +kernel
theorem rQ':FnScope ch' ["_law_box_here","_law_many_here"] (ac' (top 39)):=⟨rfl,rfl,rfl,by decide +kernel,rfl,by decide +kernel,by decide +kernel⟩
theorem zQ':mSs fO' ef' (ac' (top 40)) ec' (am' (top 40))=true:=by decide +kernel
theorem yk':FnScope fO' ["_law_machine_here","_law_q","_law_weights","_law_room"] (ac' (top 40)):=⟨rfl,rfl,rfl,by decide +kernel,rfl,by decide +kernel,by decide +kernel⟩
theorem rR':mSs hT' fP' (ac' (top 41)) fJ' (am' (top 41))=true:=by decide +kernel
theorem ok':FnScope hT' ["_law_box_here"] (ac' (top 41)):=⟨rfl,rfl,rfl,by decide +kernel,rfl,by decide +kernel,by decide +kernel⟩
theorem vN':mSs cQ' bP' (ac' (top 42)) bI' (am' (top 42))=true:=by decide +kernel
theorem rS':FnScope cQ' ["_law_box_here"] (ac' (top 42)):=⟨rfl,rfl,rfl,by decide +kernel,rfl,by decide +kernel,by decide +kernel⟩
theorem rT':mSs hU' fQ' (ac' (top 43)) fK' (am' (top 43))=true:=by decide +kernel
theorem ol':FnScope hU' ["_law_box_here"] (ac' (top 43)):=⟨rfl,rfl,rfl,by decide +kernel,rfl,by decide +kernel,by decide +kernel⟩
theorem ml':mSs eM' dO' (ac' (top 44)) dP' (am' (top 44))=true:=by decide +kernel
theorem ji':FnScope eM' ["_law_machine_here","_law_many_here"] (ac' (top 44)):=⟨rfl,rfl,rfl,by decide +kernel,rfl,by decide +kernel,by decide +kernel⟩
theorem yl':mSs ry' n5' (ac' (top 45)) n6' (am' (top 45))=true:=by decide +kernel
theorem vO':FnScope ry' ["_law_machine_here","_law_p","_law_q","_law_m","_law_thing"] (ac' (top 45)):=⟨rfl,rfl,rfl,by decide +kernel,rfl,by decide +kernel,by decide +kernel⟩
theorem om':mSs fR' eg' (ac' (top 46)) eh' (am' (top 46))=true:=by decide +kernel
theorem mm':FnScope fR' ["_law_box_here","_law_m","_law_told"] (ac' (top 46)):=⟨rfl,rfl,rfl,by decide +kernel,rfl,by decide +kernel,by decide +kernel⟩
theorem rU':mSs hV' fS' (ac' (top 47)) fT' (am' (top 47))=true:=by decide +kernel
theorem on':FnScope hV' ["_law_box_here"] (ac' (top 47)):=⟨rfl,rfl,rfl,by decide +kernel,rfl,by decide +kernel,by decide +kernel⟩
theorem ym':mSs n7' l9' (ac' (top 48)) n8' (am' (top 48))=true:=by decide +kernel
theorem vP':FnScope n7' ["_law_script"] (ac' (top 48)):=⟨rfl,rfl,rfl,by decide +kernel,rfl,by decide +kernel,by decide +kernel⟩
set_option maxHeartbeats 0 in
set_option hygiene false in
local macro_rules | `(tactic| walk_at "o") => `(tactic| (intro vs H Q E h; repeat (first | (obtain ⟨rfl, _⟩ := h; rfl) | (obtain ⟨_, h⟩ := h))))
def FnD (K:W.Frag) (x:Str) (st:Stmt):Prop:=∃(f:Addr) (fd:FuncData),W.nsIn K mainGlobals x=some (some (.ref f))/\Fun K x x st f fd
theorem as' {K:W.Frag} {x:Str} {st:Stmt} {f:Addr} {oc:Value} {od an:Option Addr} {osl:Array (Option Value)} {kV doc pm cdv ct:Value} (a:W.nsIn K mainGlobals x=some (some (.ref f))) (l:K.lookup f=some ⟨oc,od,.func (W.fnOf x x (dU' st) (am' st) (ac' st) .none kV doc pm an cdv ct),osl⟩) (c:W.codeIn K cdv x=true) (k:W.keepIn K (.ref f)=true):FnD K x st:=⟨f,_,a,sI' l c k⟩
theorem vQ' {l:W.OpenLaw} {w:World} {K:W.Frag} {h:Heap} {mg:Str->Option Value} {fa:Addr} (X:K.In h) (G:h.Ns mainGlobals mg) (hfa:mg "law"=some (.ref fa))
  {gt1:Tok}
  (p1:FnD K "is_number" (top 1))
  (p2:FnD K "is_within" (top 2))
  (p3:FnD K "is_pair" (top 3))
  (p4:FnD K "is_listed" (top 4))
  (p5:FnD K "are_numbers" (top 5))
  (p6:FnD K "are_sizes" (top 6))
  (p7:FnD K "is_lead" (top 8))
  (p8:FnD K "is_room" (top 9))
  (p9:FnD K "is_machine" (top 10))
  (p10:FnD K "lasting" (top 11))
  (p11:FnD K "part_of" (top 12))
  (p12:FnD K "trimmed" (top 13))
  (p13:FnD K "walks_from" (top 14))
  (p14:FnD K "powered" (top 15))
  (p15:FnD K "behind_bit" (top 17))
  (p16:FnD K "way_sums" (top 18))
  (p17:FnD K "walk_sums" (top 21))
  (p18:FnD K "walks_to" (top 22))
  (p19:FnD K "greatest_within" (top 23))
  (p20:FnD K "enough" (top 24))
  (p21:FnD K "are_below" (top 25))
  (p22:FnD K "too_little" (top 26))
  (p23:FnD K "shows_too_little" (top 27))
  (p24:FnD K "rooms_in_bounds" (top 29))
  (p25:FnD K "room_behind" (top 30))
  (p26:FnD K "machine_in_bounds" (top 31))
  (p27:FnD K "machine_of" (top 32))
  (p28:FnD K "_law_cell_at" (top 34))
  (p29:FnD K "_law_box" (top 35))
  (p30:FnD K "_law_take" (top 36))
  (p31:FnD K "_law_many" (top 37))
  (p32:FnD K "_law_machine" (top 38))
  (p33:FnD K "_law_ring_machine" (top 39))
  (p34:FnD K "_law_behind" (top 40))
  (p35:FnD K "_law_rates" (top 41))
  (p36:FnD K "_law_any_machine" (top 42))
  (p37:FnD K "_law_asked" (top 43))
  (p38:FnD K "_law_counted" (top 44))
  (p39:FnD K "_law_due" (top 45))
  (p40:FnD K "_law_papers" (top 46))
  (p41:FnD K "_law_right" (top 47))
  (p42:FnD K "law" (top 48))
  (z1:W.nsIn K mainGlobals "~"=some none)
  (z2:W.nsIn K mainGlobals "^"=some none)
  (z3:W.nsIn K mainGlobals "%"=some none)
  (z4:W.nsIn K mainGlobals "bool"=some none)
  (z5:W.nsIn K mainGlobals "int"=some none)
  (z6:W.nsIn K mainGlobals "isinstance"=some none)
  (z7:W.nsIn K mainGlobals "len"=some none)
  (z8:W.nsIn K mainGlobals "tuple"=some none)
  (z9:W.nsIn K mainGlobals "list"=some none)
  (z10:W.nsIn K mainGlobals "all"=some none)
  (z11:W.nsIn K mainGlobals "set"=some none)
  (z12:W.nsIn K mainGlobals "enumerate"=some none)
  (z13:W.nsIn K mainGlobals "range"=some none)
  (z14:W.nsIn K mainGlobals "any"=some none)
  (z15:W.nsIn K mainGlobals "abs"=some none)
  (z16:W.nsIn K mainGlobals "sum"=some none)
  (z17:W.nsIn K mainGlobals "min"=some none)
  (z18:W.nsIn K mainGlobals "max"=some none)
  (gc1:W.nsIn K mainGlobals "LAST_PAPER"=some (some (.int 400 gt1))):
  ∃fd:FuncData,(∀(s:Shared) (v:Value),BindsTo s fd ⟨[v],[]⟩ [("_law_script",v)])/\∀base:Heap,K.In base->base.Ns mainGlobals mg->FnOk l.prog w K mg base CX0 60 fa fd ["_law_script"] (me' K):=by
 obtain⟨f1,g1,a1,F1⟩:=p1
 obtain⟨f2,g2,a2,F2⟩:=p2
 obtain⟨f3,g3,a3,F3⟩:=p3
 obtain⟨f4,g4,a4,F4⟩:=p4
 obtain⟨f5,g5,a5,F5⟩:=p5
 obtain⟨f6,g6,a6,F6⟩:=p6
 obtain⟨f7,g7,a7,F7⟩:=p7
 obtain⟨f8,g8,a8,F8⟩:=p8
 obtain⟨f9,g9,a9,F9⟩:=p9
 obtain⟨f10,g10,a10,F10⟩:=p10
 obtain⟨f11,g11,a11,F11⟩:=p11
 obtain⟨f12,g12,a12,F12⟩:=p12
 obtain⟨f13,g13,a13,F13⟩:=p13
 obtain⟨f14,g14,a14,F14⟩:=p14
 obtain⟨f15,g15,a15,F15⟩:=p15
 obtain⟨f16,g16,a16,F16⟩:=p16
 obtain⟨f17,g17,a17,F17⟩:=p17
 obtain⟨f18,g18,a18,F18⟩:=p18
 obtain⟨f19,g19,a19,F19⟩:=p19
 obtain⟨f20,g20,a20,F20⟩:=p20
 obtain⟨f21,g21,a21,F21⟩:=p21
 obtain⟨f22,g22,a22,F22⟩:=p22
 obtain⟨f23,g23,a23,F23⟩:=p23
 obtain⟨f24,g24,a24,F24⟩:=p24
 obtain⟨f25,g25,a25,F25⟩:=p25
 obtain⟨f26,g26,a26,F26⟩:=p26
 obtain⟨f27,g27,a27,F27⟩:=p27
 obtain⟨f28,g28,a28,F28⟩:=p28
 obtain⟨f29,g29,a29,F29⟩:=p29
 obtain⟨f30,g30,a30,F30⟩:=p30
 obtain⟨f31,g31,a31,F31⟩:=p31
 obtain⟨f32,g32,a32,F32⟩:=p32
 obtain⟨f33,g33,a33,F33⟩:=p33
 obtain⟨f34,g34,a34,F34⟩:=p34
 obtain⟨f35,g35,a35,F35⟩:=p35
 obtain⟨f36,g36,a36,F36⟩:=p36
 obtain⟨f37,g37,a37,F37⟩:=p37
 obtain⟨f38,g38,a38,F38⟩:=p38
 obtain⟨f39,g39,a39,F39⟩:=p39
 obtain⟨f40,g40,a40,F40⟩:=p40
 obtain⟨f41,g41,a41,F41⟩:=p41
 obtain⟨f42,g42,a42,F42⟩:=p42
 obtain⟨oc42,od42,kV42,dc42,pm42,an42,cd42,ct42,sl42,rfl,l42,c42⟩:=F42.ex
 have e:=hfa.symm.trans (W.mg_of X G a42)
 cases e
 have b1:=F1.binds (ps:=["thing"]) fun _ _ _ _ _ _ us hl=>lj' (P:=fun us=>bindArgs _ ({ pos:=us }:Args)=pure (aQ _ us)) (fun _=>rfl) us hl
 have m1:=W.mg_of X G a1
 have b2:=F2.binds (ps:=["thing","low","high"]) fun _ _ _ _ _ _ us hl=>uV' (P:=fun us=>bindArgs _ ({ pos:=us }:Args)=pure (aQ _ us)) (fun _ _ _=>rfl) us hl
 have m2:=W.mg_of X G a2
 have b3:=F3.binds (ps:=["thing"]) fun _ _ _ _ _ _ us hl=>lj' (P:=fun us=>bindArgs _ ({ pos:=us }:Args)=pure (aQ _ us)) (fun _=>rfl) us hl
 have m3:=W.mg_of X G a3
 have b4:=F4.binds (ps:=["thing"]) fun _ _ _ _ _ _ us hl=>lj' (P:=fun us=>bindArgs _ ({ pos:=us }:Args)=pure (aQ _ us)) (fun _=>rfl) us hl
 have m4:=W.mg_of X G a4
 have b5:=F5.binds (ps:=["thing","many"]) fun _ _ _ _ _ _ us hl=>gx' (P:=fun us=>bindArgs _ ({ pos:=us }:Args)=pure (aQ _ us)) (fun _ _=>rfl) us hl
 have m5:=W.mg_of X G a5
 have b6:=F6.binds (ps:=["p","q"]) fun _ _ _ _ _ _ us hl=>gx' (P:=fun us=>bindArgs _ ({ pos:=us }:Args)=pure (aQ _ us)) (fun _ _=>rfl) us hl
 have m6:=W.mg_of X G a6
 have b7:=F7.binds (ps:=["thing","many"]) fun _ _ _ _ _ _ us hl=>gx' (P:=fun us=>bindArgs _ ({ pos:=us }:Args)=pure (aQ _ us)) (fun _ _=>rfl) us hl
 have m7:=W.mg_of X G a7
 have b8:=F8.binds (ps:=["thing","many"]) fun _ _ _ _ _ _ us hl=>gx' (P:=fun us=>bindArgs _ ({ pos:=us }:Args)=pure (aQ _ us)) (fun _ _=>rfl) us hl
 have m8:=W.mg_of X G a8
 have b9:=F9.binds (ps:=["thing"]) fun _ _ _ _ _ _ us hl=>lj' (P:=fun us=>bindArgs _ ({ pos:=us }:Args)=pure (aQ _ us)) (fun _=>rfl) us hl
 have m9:=W.mg_of X G a9
 have b10:=F10.binds (ps:=["machine","rooms"]) fun _ _ _ _ _ _ us hl=>gx' (P:=fun us=>bindArgs _ ({ pos:=us }:Args)=pure (aQ _ us)) (fun _ _=>rfl) us hl
 have m10:=W.mg_of X G a10
 have b11:=F11.binds (ps:=["machine","numbers"]) fun _ _ _ _ _ _ us hl=>gx' (P:=fun us=>bindArgs _ ({ pos:=us }:Args)=pure (aQ _ us)) (fun _ _=>rfl) us hl
 have m11:=W.mg_of X G a11
 have b12:=F12.binds (ps:=["machine"]) fun _ _ _ _ _ _ us hl=>lj' (P:=fun us=>bindArgs _ ({ pos:=us }:Args)=pure (aQ _ us)) (fun _=>rfl) us hl
 have m12:=W.mg_of X G a12
 have b13:=F13.binds (ps:=["machine","room","many"]) fun _ _ _ _ _ _ us hl=>uV' (P:=fun us=>bindArgs _ ({ pos:=us }:Args)=pure (aQ _ us)) (fun _ _ _=>rfl) us hl
 have m13:=W.mg_of X G a13
 have b14:=F14.binds (ps:=["machine","many"]) fun _ _ _ _ _ _ us hl=>gx' (P:=fun us=>bindArgs _ ({ pos:=us }:Args)=pure (aQ _ us)) (fun _ _=>rfl) us hl
 have m14:=W.mg_of X G a14
 have b15:=F15.binds (ps:=["machine","numbers","room","bit"]) fun _ _ _ _ _ _ us hl=>r0' (P:=fun us=>bindArgs _ ({ pos:=us }:Args)=pure (aQ _ us)) (fun _ _ _ _=>rfl) us hl
 have m15:=W.mg_of X G a15
 have b16:=F16.binds (ps:=["machine","numbers"]) fun _ _ _ _ _ _ us hl=>gx' (P:=fun us=>bindArgs _ ({ pos:=us }:Args)=pure (aQ _ us)) (fun _ _=>rfl) us hl
 have m16:=W.mg_of X G a16
 have b17:=F17.binds (ps:=["machine","numbers","many"]) fun _ _ _ _ _ _ us hl=>uV' (P:=fun us=>bindArgs _ ({ pos:=us }:Args)=pure (aQ _ us)) (fun _ _ _=>rfl) us hl
 have m17:=W.mg_of X G a17
 have b18:=F18.binds (ps:=["machine","q"]) fun _ _ _ _ _ _ us hl=>gx' (P:=fun us=>bindArgs _ ({ pos:=us }:Args)=pure (aQ _ us)) (fun _ _=>rfl) us hl
 have m18:=W.mg_of X G a18
 have b19:=F19.binds (ps:=["machine","p","q","limits"]) fun _ _ _ _ _ _ us hl=>r0' (P:=fun us=>bindArgs _ ({ pos:=us }:Args)=pure (aQ _ us)) (fun _ _ _ _=>rfl) us hl
 have m19:=W.mg_of X G a19
 have b20:=F20.binds (ps:=["machine","p","q","most"]) fun _ _ _ _ _ _ us hl=>r0' (P:=fun us=>bindArgs _ ({ pos:=us }:Args)=pure (aQ _ us)) (fun _ _ _ _=>rfl) us hl
 have m20:=W.mg_of X G a20
 have b21:=F21.binds (ps:=["counts","bits"]) fun _ _ _ _ _ _ us hl=>gx' (P:=fun us=>bindArgs _ ({ pos:=us }:Args)=pure (aQ _ us)) (fun _ _=>rfl) us hl
 have m21:=W.mg_of X G a21
 have b22:=F22.binds (ps:=["machine","p","q","most"]) fun _ _ _ _ _ _ us hl=>r0' (P:=fun us=>bindArgs _ ({ pos:=us }:Args)=pure (aQ _ us)) (fun _ _ _ _=>rfl) us hl
 have m22:=W.mg_of X G a22
 have b23:=F23.binds (ps:=["machine","p","q","m","counts"]) fun _ _ _ _ _ _ us hl=>yN' (P:=fun us=>bindArgs _ ({ pos:=us }:Args)=pure (aQ _ us)) (fun _ _ _ _ _=>rfl) us hl
 have m23:=W.mg_of X G a23
 have b24:=F24.binds (ps:=["bounds"]) fun _ _ _ _ _ _ us hl=>lj' (P:=fun us=>bindArgs _ ({ pos:=us }:Args)=pure (aQ _ us)) (fun _=>rfl) us hl
 have m24:=W.mg_of X G a24
 have b25:=F25.binds (ps:=["bounds","room","bit"]) fun _ _ _ _ _ _ us hl=>uV' (P:=fun us=>bindArgs _ ({ pos:=us }:Args)=pure (aQ _ us)) (fun _ _ _=>rfl) us hl
 have m25:=W.mg_of X G a25
 have b26:=F26.binds (ps:=["bounds","rooms"]) fun _ _ _ _ _ _ us hl=>gx' (P:=fun us=>bindArgs _ ({ pos:=us }:Args)=pure (aQ _ us)) (fun _ _=>rfl) us hl
 have m26:=W.mg_of X G a26
 have b27:=F27.binds (ps:=["bounds"]) fun _ _ _ _ _ _ us hl=>lj' (P:=fun us=>bindArgs _ ({ pos:=us }:Args)=pure (aQ _ us)) (fun _=>rfl) us hl
 have m27:=W.mg_of X G a27
 have b28:=F28.binds (ps:=["_law_script","_law_k"]) fun _ _ _ _ _ _ us hl=>gx' (P:=fun us=>bindArgs _ ({ pos:=us }:Args)=pure (aQ _ us)) (fun _ _=>rfl) us hl
 have m28:=W.mg_of X G a28
 have b29:=F29.binds (ps:=["_law_script","_law_k"]) fun _ _ _ _ _ _ us hl=>gx' (P:=fun us=>bindArgs _ ({ pos:=us }:Args)=pure (aQ _ us)) (fun _ _=>rfl) us hl
 have m29:=W.mg_of X G a29
 have b30:=F30.binds (ps:=["_law_box_here","_law_many_here"]) fun _ _ _ _ _ _ us hl=>gx' (P:=fun us=>bindArgs _ ({ pos:=us }:Args)=pure (aQ _ us)) (fun _ _=>rfl) us hl
 have m30:=W.mg_of X G a30
 have b31:=F31.binds (ps:=["_law_box_here","_law_least","_law_few","_law_most"]) fun _ _ _ _ _ _ us hl=>r0' (P:=fun us=>bindArgs _ ({ pos:=us }:Args)=pure (aQ _ us)) (fun _ _ _ _=>rfl) us hl
 have m31:=W.mg_of X G a31
 have b32:=F32.binds (ps:=["_law_box_here","_law_many_here"]) fun _ _ _ _ _ _ us hl=>gx' (P:=fun us=>bindArgs _ ({ pos:=us }:Args)=pure (aQ _ us)) (fun _ _=>rfl) us hl
 have m32:=W.mg_of X G a32
 have b33:=F33.binds (ps:=["_law_box_here","_law_many_here"]) fun _ _ _ _ _ _ us hl=>gx' (P:=fun us=>bindArgs _ ({ pos:=us }:Args)=pure (aQ _ us)) (fun _ _=>rfl) us hl
 have m33:=W.mg_of X G a33
 have b34:=F34.binds (ps:=["_law_machine_here","_law_q","_law_weights","_law_room"]) fun _ _ _ _ _ _ us hl=>r0' (P:=fun us=>bindArgs _ ({ pos:=us }:Args)=pure (aQ _ us)) (fun _ _ _ _=>rfl) us hl
 have m34:=W.mg_of X G a34
 have b35:=F35.binds (ps:=["_law_box_here"]) fun _ _ _ _ _ _ us hl=>lj' (P:=fun us=>bindArgs _ ({ pos:=us }:Args)=pure (aQ _ us)) (fun _=>rfl) us hl
 have m35:=W.mg_of X G a35
 have b36:=F36.binds (ps:=["_law_box_here"]) fun _ _ _ _ _ _ us hl=>lj' (P:=fun us=>bindArgs _ ({ pos:=us }:Args)=pure (aQ _ us)) (fun _=>rfl) us hl
 have m36:=W.mg_of X G a36
 have b37:=F37.binds (ps:=["_law_box_here"]) fun _ _ _ _ _ _ us hl=>lj' (P:=fun us=>bindArgs _ ({ pos:=us }:Args)=pure (aQ _ us)) (fun _=>rfl) us hl
 have m37:=W.mg_of X G a37
 have b38:=F38.binds (ps:=["_law_machine_here","_law_many_here"]) fun _ _ _ _ _ _ us hl=>gx' (P:=fun us=>bindArgs _ ({ pos:=us }:Args)=pure (aQ _ us)) (fun _ _=>rfl) us hl
 have m38:=W.mg_of X G a38
 have b39:=F39.binds (ps:=["_law_machine_here","_law_p","_law_q","_law_m","_law_thing"]) fun _ _ _ _ _ _ us hl=>yN' (P:=fun us=>bindArgs _ ({ pos:=us }:Args)=pure (aQ _ us)) (fun _ _ _ _ _=>rfl) us hl
 have m39:=W.mg_of X G a39
 have b40:=F40.binds (ps:=["_law_box_here","_law_m","_law_told"]) fun _ _ _ _ _ _ us hl=>uV' (P:=fun us=>bindArgs _ ({ pos:=us }:Args)=pure (aQ _ us)) (fun _ _ _=>rfl) us hl
 have m40:=W.mg_of X G a40
 have b41:=F41.binds (ps:=["_law_box_here"]) fun _ _ _ _ _ _ us hl=>lj' (P:=fun us=>bindArgs _ ({ pos:=us }:Args)=pure (aQ _ us)) (fun _=>rfl) us hl
 have m41:=W.mg_of X G a41
 have m42:=W.mg_of X G a42
 have n1:=W.mg_none_of X G z1
 have n2:=W.mg_none_of X G z2
 have n3:=W.mg_none_of X G z3
 have n4:=W.mg_none_of X G z4
 have n5:=W.mg_none_of X G z5
 have n6:=W.mg_none_of X G z6
 have n7:=W.mg_none_of X G z7
 have n8:=W.mg_none_of X G z8
 have n9:=W.mg_none_of X G z9
 have n10:=W.mg_none_of X G z10
 have n11:=W.mg_none_of X G z11
 have n12:=W.mg_none_of X G z12
 have n13:=W.mg_none_of X G z13
 have n14:=W.mg_none_of X G z14
 have n15:=W.mg_none_of X G z15
 have n16:=W.mg_none_of X G z16
 have n17:=W.mg_none_of X G z17
 have n18:=W.mg_none_of X G z18
 refine⟨W.fnOf "law" "law" (dU' (top 48)) (am' (top 48)) (ac' (top 48)) .none kV42 dc42 pm42 an42 cd42 ct42,fun s v=>.of_eq rfl,fun base _ _=>?_⟩
 have O1:=ak' (P:=l.prog) (w:=w) (mg:=mg) (base:=base) (k:=0) F1 { N:=cD',B:=bJ',K:=K,fs:=ay' [] } od' rfl bC' rB' (sp:=bU') (by walk_at "o") (ar' mN) (mC ⟨n4,(mC ⟨n5,(mC ⟨n6,mN⟩)⟩)⟩) ⟨n1,n2,n3⟩ (show tld bJ'=false by decide +kernel) (show hat bJ'=false by decide +kernel) rfl rfl (i6' rfl  )
 have O2:=ak' (P:=l.prog) (w:=w) (mg:=mg) (base:=base) (k:=1) F2 { N:=cE',B:=bK',K:=K,fs:=ay' [("is_number",bU')] } mf' rfl CK.bD' oe' (sp:=bi') (by walk_at "o") (ar' (mC ⟨⟨_,_,_,(O1).mono (by omega),m1,F1.kp,b1⟩,mN⟩)) mN ⟨n1,n2,n3⟩ (show tld bK'=false by decide +kernel) (show hat bK'=false by decide +kernel) rfl rfl (gO' rfl (show ay' _ "is_number"=some (bU') from ad') )
 have O3:=ak' (P:=l.prog) (w:=w) (mg:=mg) (base:=base) (k:=0) F3 { N:=dn',B:=cF',K:=K,fs:=ay' [] } rC' rfl cu' vw' (sp:=gA') (by walk_at "o") (ar' mN) (mC ⟨n6,(mC ⟨n7,(mC ⟨n8,mN⟩)⟩)⟩) ⟨n1,n2,n3⟩ (show tld cF'=false by decide +kernel) (show hat cF'=false by decide +kernel) rfl rfl (lA' rfl  )
 have O4:=ak' (P:=l.prog) (w:=w) (mg:=mg) (base:=base) (k:=0) F4 { N:=cG',B:=bL',K:=K,fs:=ay' [] } mg' rfl bE' of' (sp:=lC') (by walk_at "o") (ar' mN) (mC ⟨n6,(mC ⟨n9,(mC ⟨n8,mN⟩)⟩)⟩) ⟨n1,n2,n3⟩ (show tld bL'=false by decide +kernel) (show hat bL'=false by decide +kernel) rfl rfl (nS' rfl  )
 have O5:=ak' (P:=l.prog) (w:=w) (mg:=mg) (base:=base) (k:=1) F5 { N:=bW',B:=bg',K:=K,fs:=ay' [("is_listed",lC'),("is_number",bU')] } rD' rfl be' vx' (sp:=dJ') (by walk_at "o") (ar' (mC ⟨⟨_,_,_,(O4).mono (by omega),m4,F4.kp,b4⟩,(mC ⟨⟨_,_,_,(O1).mono (by omega),m1,F1.kp,b1⟩,mN⟩)⟩)) (mC ⟨n10,(mC ⟨n7,mN⟩)⟩) ⟨n1,n2,n3⟩ (show tld bg'=false by decide +kernel) (show hat bg'=false by decide +kernel) rfl rfl (lD' rfl (show ay' _ "is_listed"=some (lC') from ad') (show ay' _ "is_number"=some (bU') from((ab' (by decide +kernel)).trans ad')) )
 have O6:=ak' (P:=l.prog) (w:=w) (mg:=mg) (base:=base) (k:=1) F6 { N:=cH',B:=bM',K:=K,fs:=ay' [("is_number",bU')] } og' rfl bF' rE' (sp:=cA') (by walk_at "o") (ar' (mC ⟨⟨_,_,_,(O1).mono (by omega),m1,F1.kp,b1⟩,mN⟩)) mN ⟨n1,n2,n3⟩ (show tld bM'=false by decide +kernel) (show hat bM'=false by decide +kernel) rfl rfl (ja' rfl (show ay' _ "is_number"=some (bU') from ad') )
 have O7:=ak' (P:=l.prog) (w:=w) (mg:=mg) (base:=base) (k:=2) F7 { N:=do',B:=cI',K:=K,fs:=ay' [("is_within",bi')] } rF' rfl CK.cv' vy' (sp:=gB') (by walk_at "o") (ar' (mC ⟨⟨_,_,_,(O2).mono (by omega),m2,F2.kp,b2⟩,mN⟩)) mN ⟨n1,n2,n3⟩ (show tld cI'=false by decide +kernel) (show hat cI'=false by decide +kernel) rfl rfl (jd' rfl (show ay' _ "is_within"=some (bi') from ad') )
 have O8:=ak' (P:=l.prog) (w:=w) (mg:=mg) (base:=base) (k:=3) F8 { N:=dp',B:=cJ',K:=K,fs:=ay' [("is_pair",gA'),("is_lead",gB')] } rG' rfl cw' vz' (sp:=gC') (by walk_at "o") (ar' (mC ⟨⟨_,_,_,(O3).mono (by omega),m3,F3.kp,b3⟩,(mC ⟨⟨_,_,_,(O7).mono (by omega),m7,F7.kp,b7⟩,mN⟩)⟩)) mN ⟨n1,n2,n3⟩ (show tld cJ'=false by decide +kernel) (show hat cJ'=false by decide +kernel) rfl rfl (lB' rfl (show ay' _ "is_pair"=some (gA') from ad') (show ay' _ "is_lead"=some (gB') from((ab' (by decide +kernel)).trans ad')) )
 have O9:=ak' (P:=l.prog) (w:=w) (mg:=mg) (base:=base) (k:=4) F9 { N:=cd',B:=br',K:=K,fs:=ay' [("is_room",gC')] } vA' rfl bm' x7' (sp:=fG') (by walk_at "o") (ar' (mC ⟨⟨_,_,_,(O8).mono (by omega),m8,F8.kp,b8⟩,mN⟩)) (mC ⟨n10,(mC ⟨n6,(mC ⟨n7,(mC ⟨n8,mN⟩)⟩)⟩)⟩) ⟨n1,n2,n3⟩ (show tld br'=false by decide +kernel) (show hat br'=false by decide +kernel) rfl rfl (nP' rfl (show ay' _ "is_room"=some (gC') from ad') )
 have O10:=ak' (P:=l.prog) (w:=w) (mg:=mg) (base:=base) (k:=0) F10 { N:=dq',B:=cK',K:=K,fs:=ay' [] } rH' rfl cx' vB' (sp:=gE') (by walk_at "o") (ar' mN) (mC ⟨n11,mN⟩) ⟨n1,n2,n3⟩ (show tld cK'=false by decide +kernel) (show hat cK'=false by decide +kernel) rfl rfl (lF' rfl  )
 have O11:=ak' (P:=l.prog) (w:=w) (mg:=mg) (base:=base) (k:=0) F11 { N:=dr',B:=cL',K:=K,fs:=ay' [] } rI' rfl cy' vC' (sp:=gF') (by walk_at "o") (ar' mN) (mC ⟨n12,(mC ⟨n8,mN⟩)⟩) ⟨n1,n2,n3⟩ (show tld cL'=false by decide +kernel) (show hat cL'=false by decide +kernel) rfl rfl (lG' rfl  )
 have O12:=ak' (P:=l.prog) (w:=w) (mg:=mg) (base:=base) (k:=1) F12 { N:=ds',B:=cM',K:=K,fs:=ay' [("lasting",gE'),("part_of",gF')] } rJ' rfl cz' vD' (sp:=eJ') (by walk_at "o") (ar' (mC ⟨⟨_,_,_,(O10).mono (by omega),m10,F10.kp,b10⟩,(mC ⟨⟨_,_,_,(O11).mono (by omega),m11,F11.kp,b11⟩,mN⟩)⟩)) (mC ⟨n7,(mC ⟨n9,(mC ⟨n13,mN⟩)⟩)⟩) ⟨n1,n2,n3⟩ (show tld cM'=false by decide +kernel) (show hat cM'=false by decide +kernel) rfl rfl (i8' rfl (show ay' _ "lasting"=some (gE') from ad') (show ay' _ "part_of"=some (gF') from((ab' (by decide +kernel)).trans ad')) )
 have O13:=ak' (P:=l.prog) (w:=w) (mg:=mg) (base:=base) (k:=0) F13 { N:=ce',B:=bs',K:=K,fs:=ay' [] } x9' rfl bq' zJ' (sp:=vk') (by walk_at "o") (ar' mN) (mC ⟨n5,(mC ⟨n13,mN⟩)⟩) ⟨n1,n2,n3⟩ (show tld bs'=false by decide +kernel) (show hat bs'=false by decide +kernel) rfl rfl (rn' rfl  )
 have O14:=ak' (P:=l.prog) (w:=w) (mg:=mg) (base:=base) (k:=1) F14 { N:=dt',B:=cN',K:=K,fs:=ay' [("walks_from",vk')] } ya' rfl cC' zK' (sp:=vl') (by walk_at "o") (ar' (mC ⟨⟨_,_,_,(O13).mono (by omega),m13,F13.kp,b13⟩,mN⟩)) (mC ⟨n7,(mC ⟨n13,mN⟩)⟩) ⟨n1,n2,n3⟩ (show tld cN'=false by decide +kernel) (show hat cN'=false by decide +kernel) rfl rfl (ro' rfl (show ay' _ "walks_from"=some (vk') from ad') )
 have O15:=ak' (P:=l.prog) (w:=w) (mg:=mg) (base:=base) (k:=0) F15 { N:=bt',B:=a5',K:=K,fs:=ay' [] } mh' rfl bn' oh' (sp:=c7' K) (by walk_at "o") (ar' mN) (mC ⟨n5,mN⟩) ⟨n1,n2,n3⟩ (show tld a5'=false by decide +kernel) (show hat a5'=false by decide +kernel) rfl rfl (hJ' (C:={ N:=bt',B:=a5',K:=K,fs:=ay' [] }) rfl  )
 have O16:=ak' (P:=l.prog) (w:=w) (mg:=mg) (base:=base) (k:=1) F16 { N:=b6',B:=by',K:=K,fs:=ay' [("behind_bit",c7' K)] } jg' rfl b4' mi' (sp:=c1' K) (by walk_at "o") (ar' (mC ⟨⟨_,_,_,(O15).mono (by omega),m15,F15.kp,b15⟩,mN⟩)) (mC ⟨n7,(mC ⟨n13,mN⟩)⟩) ⟨n1,n2,n3⟩ (show tld by'=false by decide +kernel) (show hat by'=false by decide +kernel) rfl rfl (fH' (C:={ N:=b6',B:=by',K:=K,fs:=ay' [("behind_bit",c7' K)] }) rfl (show ay' _ "behind_bit"=some (c7' K) from ad') )
 have O17:=ak' (P:=l.prog) (w:=w) (mg:=mg) (base:=base) (k:=2) F17 { N:=cO',B:=bN',K:=K,fs:=ay' [("way_sums",c1' K)] } rK' rfl bG' vE' (sp:=a8') (by walk_at "o") (ar' (mC ⟨⟨_,_,_,(O16).mono (by omega),m16,F16.kp,b16⟩,mN⟩)) (mC ⟨n9,(mC ⟨n13,mN⟩)⟩) ⟨n1,n2,n3⟩ (show tld bN'=false by decide +kernel) (show hat bN'=false by decide +kernel) rfl rfl (jc' rfl (show ay' _ "way_sums"=some (c1' K) from ad') )
 have O18:=ak' (P:=l.prog) (w:=w) (mg:=mg) (base:=base) (k:=2) F18 { N:=c2',B:=b7',K:=K,fs:=ay' [("powered",vl')] } yb' rfl b5' zL' (sp:=vm') (by walk_at "o") (ar' (mC ⟨⟨_,_,_,(O14).mono (by omega),m14,F14.kp,b14⟩,mN⟩)) (mC ⟨n12,mN⟩) ⟨n1,n2,n3⟩ (show tld b7'=false by decide +kernel) (show hat b7'=false by decide +kernel) rfl rfl (rp' rfl (show ay' _ "powered"=some (vl') from ad') )
 have O19:=ak' (P:=l.prog) (w:=w) (mg:=mg) (base:=base) (k:=3) F19 { N:=a9',B:=aQ',K:=K,fs:=ay' [("walk_sums",a8'),("walks_to",vm')] } yc' rfl aP' zM' (sp:=vo') (by walk_at "o") (ar' (mC ⟨⟨_,_,_,(O17).mono (by omega),m17,F17.kp,b17⟩,(mC ⟨⟨_,_,_,(O18).mono (by omega),m18,F18.kp,b18⟩,mN⟩)⟩)) (mC ⟨n7,(mC ⟨n9,(mC ⟨n13,mN⟩)⟩)⟩) ⟨n1,n2,n3⟩ (show tld aQ'=false by decide +kernel) (show hat aQ'=false by decide +kernel) rfl rfl (rs' rfl (show ay' _ "walk_sums"=some (a8') from ad') (show ay' _ "walks_to"=some (vm') from((ab' (by decide +kernel)).trans ad')) )
 have O20:=ak' (P:=l.prog) (w:=w) (mg:=mg) (base:=base) (k:=4) F20 { N:=d2',B:=db',K:=K,fs:=ay' [("greatest_within",vo')] } yd' rfl c8' zN' (sp:=rt') (by walk_at "o") (ar' (mC ⟨⟨_,_,_,(O19).mono (by omega),m19,F19.kp,b19⟩,mN⟩)) (mC ⟨n14,mN⟩) ⟨n1,n2,n3⟩ (show tld db'=false by decide +kernel) (show hat db'=false by decide +kernel) rfl rfl (ru' rfl (show ay' _ "greatest_within"=some (vo') from ad') )
 have O21:=ak' (P:=l.prog) (w:=w) (mg:=mg) (base:=base) (k:=0) F21 { N:=cP',B:=bO',K:=K,fs:=ay' [] } oi' rfl bH' rL' (sp:=bV') (by walk_at "o") (ar' mN) (mC ⟨n10,mN⟩) ⟨n1,n2,n3⟩ (show tld bO'=false by decide +kernel) (show hat bO'=false by decide +kernel) rfl rfl (i9' rfl  )
 have O22:=ak' (P:=l.prog) (w:=w) (mg:=mg) (base:=base) (k:=3) F22 { N:=cf',B:=bu',K:=K,fs:=ay' [("walk_sums",a8'),("are_below",bV')] } ye' rfl K31.bp' zO' (sp:=r1') (by walk_at "o") (ar' (mC ⟨⟨_,_,_,(O17).mono (by omega),m17,F17.kp,b17⟩,(mC ⟨⟨_,_,_,(O21).mono (by omega),m21,F21.kp,b21⟩,mN⟩)⟩)) (mC ⟨n13,mN⟩) ⟨n1,n2,n3⟩ (show tld bu'=false by decide +kernel) (show hat bu'=false by decide +kernel) rfl rfl (n3' rfl (show ay' _ "walk_sums"=some (a8') from ad') (show ay' _ "are_below"=some (bV') from((ab' (by decide +kernel)).trans ad')) )
 have O23:=ak' (P:=l.prog) (w:=w) (mg:=mg) (base:=base) (k:=5) F23 { N:=aJ',B:=az',K:=K,fs:=ay' [("is_machine",fG'),("are_sizes",cA'),("is_within",bi'),("are_numbers",dJ'),("walk_sums",a8'),("are_below",bV')] } oj' rfl K31.aI' rM' (sp:=ci') (by walk_at "o") (ar' (mC ⟨⟨_,_,_,(O9).mono (by omega),m9,F9.kp,b9⟩,(mC ⟨⟨_,_,_,(O6).mono (by omega),m6,F6.kp,b6⟩,(mC ⟨⟨_,_,_,(O2).mono (by omega),m2,F2.kp,b2⟩,(mC ⟨⟨_,_,_,(O5).mono (by omega),m5,F5.kp,b5⟩,(mC ⟨⟨_,_,_,(O17).mono (by omega),m17,F17.kp,b17⟩,(mC ⟨⟨_,_,_,(O21).mono (by omega),m21,F21.kp,b21⟩,mN⟩)⟩)⟩)⟩)⟩)⟩)) (mC ⟨n7,(mC ⟨n9,mN⟩)⟩) ⟨n1,n2,n3⟩ (show tld az'=false by decide +kernel) (show hat az'=false by decide +kernel) rfl rfl (je' (C:={ N:=aJ',B:=az',K:=K,fs:=ay' [("is_machine",fG'),("are_sizes",cA'),("is_within",bi'),("are_numbers",dJ'),("walk_sums",a8'),("are_below",bV')] }) rfl ⟨(show ay' _ "is_machine"=some (fG') from ad'),(show ay' _ "are_sizes"=some (cA') from((ab' (by decide +kernel)).trans ad')),(show ay' _ "is_within"=some (bi') from((ab' (by decide +kernel)).trans ((ab' (by decide +kernel)).trans ad'))),(show ay' _ "are_numbers"=some (dJ') from((ab' (by decide +kernel)).trans ((ab' (by decide +kernel)).trans ((ab' (by decide +kernel)).trans ad')))),(show ay' _ "walk_sums"=some (a8') from((ab' (by decide +kernel)).trans ((ab' (by decide +kernel)).trans ((ab' (by decide +kernel)).trans ((ab' (by decide +kernel)).trans ad'))))),(show ay' _ "are_below"=some (bV') from((ab' (by decide +kernel)).trans ((ab' (by decide +kernel)).trans ((ab' (by decide +kernel)).trans ((ab' (by decide +kernel)).trans ((ab' (by decide +kernel)).trans ad'))))))⟩ ⟨_,gc1⟩)
 have O24:=ak' (P:=l.prog) (w:=w) (mg:=mg) (base:=base) (k:=0) F24 { N:=ba',B:=aR',K:=K,fs:=ay' [] } vF' rfl aO' yf' (sp:=lI') (by walk_at "o") (ar' mN) (mC ⟨n9,(mC ⟨n13,mN⟩)⟩) ⟨n1,n2,n3⟩ (show tld aR'=false by decide +kernel) (show hat aR'=false by decide +kernel) rfl rfl (nW' rfl  )
 have O25:=ak' (P:=l.prog) (w:=w) (mg:=mg) (base:=base) (k:=0) F25 { N:=bX',B:=bh',K:=K,fs:=ay' [] } yg' rfl bf' zP' (sp:=lK') (by walk_at "o") (ar' mN) mN ⟨n1,n2,n3⟩ (show tld bh'=false by decide +kernel) (show hat bh'=false by decide +kernel) rfl rfl (nX' rfl  )
 have O26:=ak' (P:=l.prog) (w:=w) (mg:=mg) (base:=base) (k:=1) F26 { N:=a0',B:=aF',K:=K,fs:=ay' [("room_behind",lK')] } vG' rfl aE' yh' (sp:=gJ') (by walk_at "o") (ar' (mC ⟨⟨_,_,_,(O25).mono (by omega),m25,F25.kp,b25⟩,mN⟩)) (mC ⟨n12,(mC ⟨n8,mN⟩)⟩) ⟨n1,n2,n3⟩ (show tld aF'=false by decide +kernel) (show hat aF'=false by decide +kernel) rfl rfl (lM' rfl (show ay' _ "room_behind"=some (lK') from ad') )
 have O27:=ak' (P:=l.prog) (w:=w) (mg:=mg) (base:=base) (k:=2) F27 { N:=cg',B:=bv',K:=K,fs:=ay' [("trimmed",eJ'),("machine_in_bounds",gJ'),("rooms_in_bounds",lI')] } vH' rfl bo' yi' (sp:=gK') (by walk_at "o") (ar' (mC ⟨⟨_,_,_,(O12).mono (by omega),m12,F12.kp,b12⟩,(mC ⟨⟨_,_,_,(O26).mono (by omega),m26,F26.kp,b26⟩,(mC ⟨⟨_,_,_,(O24).mono (by omega),m24,F24.kp,b24⟩,mN⟩)⟩)⟩)) mN ⟨n1,n2,n3⟩ (show tld bv'=false by decide +kernel) (show hat bv'=false by decide +kernel) rfl rfl (lN' rfl (show ay' _ "trimmed"=some (eJ') from ad') (show ay' _ "machine_in_bounds"=some (gJ') from((ab' (by decide +kernel)).trans ad')) (show ay' _ "rooms_in_bounds"=some (lI') from((ab' (by decide +kernel)).trans ((ab' (by decide +kernel)).trans ad'))) )
 have O28:=ak' (P:=l.prog) (w:=w) (mg:=mg) (base:=base) (k:=0) F28 { N:=dM',B:=c3',K:=K,fs:=ay' [] } rN' rfl dH' vI' (sp:=fc' K) (by walk_at "o") (ar' mN) (mC ⟨n7,mN⟩) ⟨n1,n2,n3⟩ (show tld c3'=false by decide +kernel) (show hat c3'=false by decide +kernel) rfl rfl (lo' (C:={ N:=dM',B:=c3',K:=K,fs:=ay' [] }) rfl  )
 have O29:=u7' (ak' (P:=l.prog) (w:=w) (mg:=mg) (base:=base) (k:=1) F29 { N:=n4',B:=l6',K:=K,fs:=ay' [("_law_cell_at",fc' K)] } vJ' rfl nL' yj' (sp:=lp' K) (by walk_at "o") (ar' (mC ⟨⟨_,_,_,(O28).mono (by omega),m28,F28.kp,b28⟩,mN⟩)) (mC ⟨n15,(mC ⟨n5,mN⟩)⟩) ⟨n1,n2,n3⟩ (show tld l6'=false by decide +kernel) (show hat l6'=false by decide +kernel) rfl rfl (nN' (C:={ N:=n4',B:=l6',K:=K,fs:=ay' [("_law_cell_at",fc' K)] }) rfl (show ay' _ "_law_cell_at"=some (fc' K) from ad') ))
 have O30:=rb' rfl (ak' (P:=l.prog) (w:=w) (mg:=mg) (base:=base) (k:=0) F30 { N:=l7',B:=iC',K:=K,fs:=ay' [] } rO' rfl iu' vK' (sp:=fE') (by walk_at "o") (ar' mN) mN ⟨n1,n2,n3⟩ (show tld iC'=false by decide +kernel) (show hat iC'=false by decide +kernel) rfl rfl (lq' rfl  ))
 have O31:=ak' (P:=l.prog) (w:=w) (mg:=mg) (base:=base) (k:=1) F31 { N:=l8',B:=iD',K:=K,fs:=ay' [("_law_take",aH')] } rP' rfl iv' vL' (sp:=gy') (by walk_at "o") (ar' (mC ⟨⟨_,_,_,(O30).mono (by omega),m30,F30.kp,b30⟩,mN⟩)) mN ⟨n1,n2,n3⟩ (show tld iD'=false by decide +kernel) (show hat iD'=false by decide +kernel) rfl rfl (ls' rfl (show ay' _ "_law_take"=some (aH') from ad') )
 have O32:=ak' (P:=l.prog) (w:=w) (mg:=mg) (base:=base) (k:=1) F32 { N:=eL',B:=dN',K:=K,fs:=ay' [("_law_take",aH')] } jh' rfl dI' mj' (sp:=di' 1 60 400) (by walk_at "o") (ar' (mC ⟨⟨_,_,_,(O30).mono (by omega),m30,F30.kp,b30⟩,mN⟩)) (mC ⟨n5,(mC ⟨n13,(mC ⟨n8,mN⟩)⟩)⟩) ⟨n1,n2,n3⟩ (show tld dN'=false by decide +kernel) (show hat dN'=false by decide +kernel) rfl rfl (gz' rfl (show ay' _ "_law_take"=some (aH') from ad') )
 have O33:=ak' (P:=l.prog) (w:=w) (mg:=mg) (base:=base) (k:=1) F33 { N:=ch',B:=bw',K:=K,fs:=ay' [("_law_take",aH')] } rQ' rfl a4' vM' (sp:=di' 1 60 400) (by walk_at "o") (ar' (mC ⟨⟨_,_,_,(O30).mono (by omega),m30,F30.kp,b30⟩,mN⟩)) (mC ⟨n12,(mC ⟨n5,(mC ⟨n13,(mC ⟨n8,mN⟩)⟩)⟩)⟩) ⟨n1,n2,n3⟩ (show tld bw'=false by decide +kernel) (show hat bw'=false by decide +kernel) rfl rfl (lv' rfl (show ay' _ "_law_take"=some (aH') from ad') )
 have O34:=ak' (P:=l.prog) (w:=w) (mg:=mg) (base:=base) (k:=0) F34 { N:=fO',B:=ef',K:=K,fs:=ay' [] } yk' rfl ec' zQ' (sp:=l0') (by walk_at "o") (ar' mN) (mC ⟨n13,(mC ⟨n16,mN⟩)⟩) ⟨n1,n2,n3⟩ (show tld ef'=false by decide +kernel) (show hat ef'=false by decide +kernel) rfl rfl (n2' rfl  )
 have O35:=ak' (P:=l.prog) (w:=w) (mg:=mg) (base:=base) (k:=1) F35 { N:=hT',B:=fP',K:=K,fs:=ay' [("_law_take",aH')] } ok' rfl fJ' rR' (sp:=eK') (by walk_at "o") (ar' (mC ⟨⟨_,_,_,(O30).mono (by omega),m30,F30.kp,b30⟩,mN⟩)) (mC ⟨n17,mN⟩) ⟨n1,n2,n3⟩ (show tld fP'=false by decide +kernel) (show hat fP'=false by decide +kernel) rfl rfl (jb' rfl (show ay' _ "_law_take"=some (aH') from ad') )
 have O36:=ak' (P:=l.prog) (w:=w) (mg:=mg) (base:=base) (k:=3) F36 { N:=cQ',B:=bP',K:=K,fs:=ay' [("_law_take",aH'),("machine_of",gK'),("_law_many",gy'),("_law_ring_machine",di' 1 60 400),("_law_machine",di' 1 60 400)] } rS' rfl bI' vN' (sp:=gL') (by walk_at "o") (ar' (mC ⟨⟨_,_,_,(O30).mono (by omega),m30,F30.kp,b30⟩,(mC ⟨⟨_,_,_,(O27).mono (by omega),m27,F27.kp,b27⟩,(mC ⟨⟨_,_,_,(O31).mono (by omega),m31,F31.kp,b31⟩,(mC ⟨⟨_,_,_,(O33).mono (by omega),m33,F33.kp,b33⟩,(mC ⟨⟨_,_,_,(O32).mono (by omega),m32,F32.kp,b32⟩,mN⟩)⟩)⟩)⟩)⟩)) mN ⟨n1,n2,n3⟩ (show tld bP'=false by decide +kernel) (show hat bP'=false by decide +kernel) rfl rfl (lO' rfl (show ay' _ "_law_take"=some (aH') from ad') (show ay' _ "machine_of"=some (gK') from((ab' (by decide +kernel)).trans ad')) (show ay' _ "_law_many"=some (gy') from((ab' (by decide +kernel)).trans ((ab' (by decide +kernel)).trans ad'))) (show ay' _ "_law_ring_machine"=some (di' 1 60 400) from((ab' (by decide +kernel)).trans ((ab' (by decide +kernel)).trans ((ab' (by decide +kernel)).trans ad')))) (show ay' _ "_law_machine"=some (di' 1 60 400) from((ab' (by decide +kernel)).trans ((ab' (by decide +kernel)).trans ((ab' (by decide +kernel)).trans ((ab' (by decide +kernel)).trans ad'))))) )
 have O37:=ak' (P:=l.prog) (w:=w) (mg:=mg) (base:=base) (k:=4) F37 { N:=hU',B:=fQ',K:=K,fs:=ay' [("_law_any_machine",gL'),("_law_rates",eK'),("_law_behind",l0')] } ol' rfl fK' rT' (sp:=cB') (by walk_at "o") (ar' (mC ⟨⟨_,_,_,(O36).mono (by omega),m36,F36.kp,b36⟩,(mC ⟨⟨_,_,_,(O35).mono (by omega),m35,F35.kp,b35⟩,(mC ⟨⟨_,_,_,(O34).mono (by omega),m34,F34.kp,b34⟩,mN⟩)⟩)⟩)) (mC ⟨n7,(mC ⟨n18,(mC ⟨n13,mN⟩)⟩)⟩) ⟨n1,n2,n3⟩ (show tld fQ'=false by decide +kernel) (show hat fQ'=false by decide +kernel) rfl rfl (hQ' rfl (show ay' _ "_law_any_machine"=some (gL') from ad') (show ay' _ "_law_rates"=some (eK') from((ab' (by decide +kernel)).trans ad')) (show ay' _ "_law_behind"=some (l0') from((ab' (by decide +kernel)).trans ((ab' (by decide +kernel)).trans ad'))) )
 have O38:=ak' (P:=l.prog) (w:=w) (mg:=mg) (base:=base) (k:=0) F38 { N:=eM',B:=dO',K:=K,fs:=ay' [] } ji' rfl dP' ml' (sp:=bz') (by walk_at "o") (ar' mN) (mC ⟨n13,(mC ⟨n16,mN⟩)⟩) ⟨n1,n2,n3⟩ (show tld dO'=false by decide +kernel) (show hat dO'=false by decide +kernel) rfl rfl (gP' rfl  )
 have O39:=ak' (P:=l.prog) (w:=w) (mg:=mg) (base:=base) (k:=1) F39 { N:=ry',B:=n5',K:=K,fs:=ay' [("_law_counted",bz')] } vO' rfl n6' yl' (sp:=ci') (by walk_at "o") (ar' (mC ⟨⟨_,_,_,(O38).mono (by omega),m38,F38.kp,b38⟩,mN⟩)) (mC ⟨n10,(mC ⟨n14,(mC ⟨n4,(mC ⟨n5,(mC ⟨n6,(mC ⟨n9,(mC ⟨n8,mN⟩)⟩)⟩)⟩)⟩)⟩)⟩) ⟨n1,n2,n3⟩ (show tld n5'=false by decide +kernel) (show hat n5'=false by decide +kernel) rfl rfl (md' rfl (show ay' _ "_law_counted"=some (bz') from ad') )
 have O40:=ak' (P:=l.prog) (w:=w) (mg:=mg) (base:=base) (k:=1) F40 { N:=fR',B:=eg',K:=K,fs:=ay' [("_law_take",aH')] } mm' rfl eh' om' (sp:=da') (by walk_at "o") (ar' (mC ⟨⟨_,_,_,(O30).mono (by omega),m30,F30.kp,b30⟩,mN⟩)) (mC ⟨n7,(mC ⟨n9,(mC ⟨n18,(mC ⟨n13,(mC ⟨n8,mN⟩)⟩)⟩)⟩)⟩) ⟨n1,n2,n3⟩ (show tld eg'=false by decide +kernel) (show hat eg'=false by decide +kernel) rfl rfl (hW' rfl (show ay' _ "_law_take"=some (aH') from ad') )
 have O41:=ak' (P:=l.prog) (w:=w) (mg:=mg) (base:=base) (k:=6) F41 { N:=hV',B:=fS',K:=K,fs:=ay' [("_law_take",aH'),("_law_asked",cB'),("_law_counted",bz'),("too_little",r1'),("_law_papers",da'),("shows_too_little",ci'),("_law_due",ci'),("enough",rt')] } on' rfl fT' rU' (sp:=d3') (by walk_at "o") (ar' (mC ⟨⟨_,_,_,(O30).mono (by omega),m30,F30.kp,b30⟩,(mC ⟨⟨_,_,_,(O37).mono (by omega),m37,F37.kp,b37⟩,(mC ⟨⟨_,_,_,(O38).mono (by omega),m38,F38.kp,b38⟩,(mC ⟨⟨_,_,_,(O22).mono (by omega),m22,F22.kp,b22⟩,(mC ⟨⟨_,_,_,(O40).mono (by omega),m40,F40.kp,b40⟩,(mC ⟨⟨_,_,_,(O23).mono (by omega),m23,F23.kp,b23⟩,(mC ⟨⟨_,_,_,(O39).mono (by omega),m39,F39.kp,b39⟩,(mC ⟨⟨_,_,_,(O20).mono (by omega),m20,F20.kp,b20⟩,mN⟩)⟩)⟩)⟩)⟩)⟩)⟩)⟩)) (mC ⟨n4,(mC ⟨n6,(mC ⟨n17,mN⟩)⟩)⟩) ⟨n1,n2,n3⟩ (show tld fS'=false by decide +kernel) (show hat fS'=false by decide +kernel) rfl rfl (jf' rfl ⟨(show ay' _ "_law_take"=some (aH') from ad'),(show ay' _ "_law_asked"=some (cB') from((ab' (by decide +kernel)).trans ad')),(show ay' _ "_law_counted"=some (bz') from((ab' (by decide +kernel)).trans ((ab' (by decide +kernel)).trans ad'))),(show ay' _ "too_little"=some (r1') from((ab' (by decide +kernel)).trans ((ab' (by decide +kernel)).trans ((ab' (by decide +kernel)).trans ad')))),(show ay' _ "_law_papers"=some (da') from((ab' (by decide +kernel)).trans ((ab' (by decide +kernel)).trans ((ab' (by decide +kernel)).trans ((ab' (by decide +kernel)).trans ad'))))),(show ay' _ "shows_too_little"=some (ci') from((ab' (by decide +kernel)).trans ((ab' (by decide +kernel)).trans ((ab' (by decide +kernel)).trans ((ab' (by decide +kernel)).trans ((ab' (by decide +kernel)).trans ad')))))),(show ay' _ "_law_due"=some (ci') from((ab' (by decide +kernel)).trans ((ab' (by decide +kernel)).trans ((ab' (by decide +kernel)).trans ((ab' (by decide +kernel)).trans ((ab' (by decide +kernel)).trans ((ab' (by decide +kernel)).trans ad'))))))),(show ay' _ "enough"=some (rt') from((ab' (by decide +kernel)).trans ((ab' (by decide +kernel)).trans ((ab' (by decide +kernel)).trans ((ab' (by decide +kernel)).trans ((ab' (by decide +kernel)).trans ((ab' (by decide +kernel)).trans ((ab' (by decide +kernel)).trans ad'))))))))⟩ )
 exact ak' (P:=l.prog) (w:=w) (mg:=mg) (base:=base) (k:=59) F42 { N:=n7',B:=l9',K:=K,fs:=ay' [("_law_box",lr' K),("_law_right",d3')] } vP' rfl n8' ym' (sp:=me' K) (by walk_at "o") (ar' (mC ⟨⟨_,_,_,(O29).mono (by omega),m29,F29.kp,b29⟩,(mC ⟨⟨_,_,_,(O41).mono (by omega),m41,F41.kp,b41⟩,mN⟩)⟩)) (mC ⟨n7,(mC ⟨n18,(mC ⟨n17,(mC ⟨n13,mN⟩)⟩)⟩)⟩) ⟨n1,n2,n3⟩ (show tld l9'=false by decide +kernel) (show hat l9'=false by decide +kernel) rfl rfl (oc' (C:={ N:=n7',B:=l9',K:=K,fs:=ay' [("_law_box",lr' K),("_law_right",d3')] }) rfl (show ay' _ "_law_box"=some (lr' K) from ad') (show ay' _ "_law_right"=some (d3') from((ab' (by decide +kernel)).trans ad')) )
theorem walk {l:W.OpenLaw} {q:Program} {loose:List Str} {XP:(Str->Option Value)->Heap->Prop} {d:DefRec} {K:Params->W.Frag} {bs:List Addr} {m t:Nat} (hn:l.most=some 63) (hdf:d.params.defaults=[]) (e:∀P,bs=(K P).map (·.1))
  (F:∀(w:World) (mg:Str->Option Value) (fa:Addr) (h:Heap),(K w.params).In h->h.Ns mainGlobals mg->mg d.name=some (.ref fa)->
   ∃fd:FuncData,(∀(s:Shared) (u:Value),BindsTo s fd ⟨[u],[]⟩ [("_law_script",u)])/\∀base:Heap,(K w.params).In base->base.Ns mainGlobals mg->FnOk l.prog w (K w.params) mg base CX0 60 fa fd ["_law_script"] (me' (K w.params))):
  W.WalkX q loose XP (W.X.obsZ bs) (W.X.valZ K m t) l.row.toRowW d [] (fun f vs=>PySem.call f vs):=
 fun w s₀ s₁ mg mb G y a o pm cd doc dV kV h1 h2 h3 h4 h5 h6 args vals cs La=>L2.fm' (YP:=fun w h=>(K w.params).In h) (n:=63) (k:=60) (x:="_law_script") (CX:=fun _=>CX0) (sp:=fun w=>me' (K w.params)) hn (by decide) hdf ⟨rfl,by decide,by decide,rfl⟩ (fun _ _ Y=>Y) F (fun _ _ a ns hl _ hS=>⟨a,ns,rfl,hS,hl,fun _=>rfl⟩) (fun _ _ _ _ _ z=>z) w s₀ s₁ mg mb G (W.InK.keeps w _ _ (W.X.z_facts e y).2.1 La.keeps) a o pm cd doc dV kV h1 h2 h3 h4 h5 h6 args vals cs
end K32
end
open PySem PySem.W PyProof.Rows
noncomputable def PySem.W.Fast.tw11372453413516419200:Nat:=0
noncomputable def PySem.W.Fast.tw10989015535218206330:Nat:=0
noncomputable def PySem.W.Fast.tw17280103124160241854:Nat:=0
noncomputable def PySem.W.Fast.tw11442000163067999997:Nat:=0
noncomputable def PySem.W.Fast.tw8905027901330504451:Nat:=0
noncomputable def PySem.W.Fast.tw76499274789266546:Nat:=0
noncomputable def PySem.W.Fast.tw12476482313573980157:Nat:=0
noncomputable def PySem.W.Fast.tw4494926355083461614:Nat:=0
noncomputable def PySem.W.Fast.tw7820212795441023609:Nat:=0
noncomputable def PySem.W.Fast.tw14992250807140019395:Nat:=0
noncomputable def PySem.W.Fast.tw5334241360453786035:Nat:=0
noncomputable def PySem.W.Fast.tw906544267340680852:Nat:=0
noncomputable def PySem.W.Fast.tw14956337781632930261:Nat:=0
noncomputable def PySem.W.Fast.tw2307183857109635330:Nat:=0
noncomputable def PySem.W.Fast.tw3730608090830982402:Nat:=0
noncomputable def PySem.W.Fast.tw1007167499045786363:Nat:=0
noncomputable def PySem.W.Fast.tw16869748877392226329:Nat:=0
noncomputable def PySem.W.Fast.tw9118490498244633579:Nat:=0
noncomputable def PySem.W.Fast.tw12222810451995974821:Nat:=0
noncomputable def PySem.W.Fast.tw3780860838299795154:Nat:=0
noncomputable def PySem.W.Fast.tw1467598008724268244:Nat:=0
noncomputable def PySem.W.Fast.tw5995347104182518059:Nat:=0
noncomputable def PySem.W.Fast.tw16609804646462437207:Nat:=0
noncomputable def PySem.W.Fast.tw6849444562156565723:Nat:=0
noncomputable def PySem.W.Fast.tw8598887102911708919:Nat:=0
noncomputable def PySem.W.Fast.tw8714808830246180777:Nat:=0
noncomputable def PySem.W.Fast.tw7302026437224578929:Nat:=0
noncomputable def PySem.W.Fast.tw2842979906820403277:Nat:=0
noncomputable def PySem.W.Fast.tw1047836148048146683:Nat:=0
noncomputable def PySem.W.Fast.tw6742379383232333845:Nat:=0
noncomputable def PySem.W.Fast.tw13793281104839960565:Nat:=0
noncomputable def PySem.W.Fast.tw1806536084076241826:Nat:=0
noncomputable def PySem.W.Fast.tw5673644498134842046:Nat:=0
noncomputable def PySem.W.Fast.tw13303707854883162553:Nat:=0
noncomputable def PySem.W.Fast.tw8219574529705317416:Nat:=0
noncomputable def PySem.W.Fast.tw9315047989600203789:Nat:=0
noncomputable def PySem.W.Fast.tw508982247962463607:Nat:=0
noncomputable def PySem.W.Fast.tw1707594388537916445:Nat:=0
noncomputable def PySem.W.Fast.tw5705479707593352298:Nat:=0
noncomputable def PySem.W.Fast.tw10410155016654372624:Nat:=0
noncomputable def PySem.W.Fast.tw9510203293902606912:Nat:=0
noncomputable def PySem.W.Fast.tw73042464960158669:Nat:=0
noncomputable def PySem.W.Fast.tw11871212326476952284:Nat:=0
noncomputable def PySem.W.Fast.tw13128213006237551118:Nat:=0
noncomputable def PySem.W.Fast.tw6827506431671418733:Nat:=0
noncomputable def PySem.W.Fast.tw17152288732787698434:Nat:=0
noncomputable def PySem.W.Fast.tw9984003242111063062:Nat:=0
noncomputable def PySem.W.Fast.tw11654815098375788388:Nat:=0
noncomputable def PySem.W.Fast.tw17935357162306903360:Nat:=0
noncomputable def PySem.W.Fast.tw7157357591572807469:Nat:=0
noncomputable def PySem.W.Fast.tw12365374682061018320:Nat:=0
noncomputable def PySem.W.Fast.tw5244994593470367553:Nat:=0
noncomputable def PySem.W.Fast.tw18337036901743902735:Nat:=0
noncomputable def PySem.W.Fast.tw4869102711496581737:Nat:=0
noncomputable def PySem.W.Fast.tw7301749380914629078:Nat:=0
noncomputable def PySem.W.Fast.tw11332187026791152383:Nat:=0
noncomputable def PySem.W.Fast.tw5182655564148037044:Nat:=0
noncomputable def PySem.W.Fast.tw5887951208464603696:Nat:=0
noncomputable def PySem.W.Fast.tw10018360130919544040:Nat:=0
set_option maxRecDepth 100000 in
set_option maxHeartbeats 0 in
theorem PySem.Challenge.cw_runbound_k32_papers_of_too_little_holds : PySem.Challenge.rw_runbound_k32_papers_of_too_little.Holds := by
 w_on; o_law; z_head; (case hw => w_witness2)
 k_fill
 refine K32.walk (l := PySem.Challenge.rw_runbound_k32_papers_of_too_little) rfl rfl (fun _ => rfl) ?F
 case F =>
  intro w mg fa h KX G hmg
  refine' K32.vQ' KX G hmg (K32.as' ?a1 ?l1 ?c1 ?k1) (K32.as' ?a2 ?l2 ?c2 ?k2) (K32.as' ?a3 ?l3 ?c3 ?k3) (K32.as' ?a4 ?l4 ?c4 ?k4) (K32.as' ?a5 ?l5 ?c5 ?k5) (K32.as' ?a6 ?l6 ?c6 ?k6) (K32.as' ?a7 ?l7 ?c7 ?k7) (K32.as' ?a8 ?l8 ?c8 ?k8) (K32.as' ?a9 ?l9 ?c9 ?k9) (K32.as' ?a10 ?l10 ?c10 ?k10) (K32.as' ?a11 ?l11 ?c11 ?k11) (K32.as' ?a12 ?l12 ?c12 ?k12) (K32.as' ?a13 ?l13 ?c13 ?k13) (K32.as' ?a14 ?l14 ?c14 ?k14) (K32.as' ?a15 ?l15 ?c15 ?k15) (K32.as' ?a16 ?l16 ?c16 ?k16) (K32.as' ?a17 ?l17 ?c17 ?k17) (K32.as' ?a18 ?l18 ?c18 ?k18) (K32.as' ?a19 ?l19 ?c19 ?k19) (K32.as' ?a20 ?l20 ?c20 ?k20) (K32.as' ?a21 ?l21 ?c21 ?k21) (K32.as' ?a22 ?l22 ?c22 ?k22) (K32.as' ?a23 ?l23 ?c23 ?k23) (K32.as' ?a24 ?l24 ?c24 ?k24) (K32.as' ?a25 ?l25 ?c25 ?k25) (K32.as' ?a26 ?l26 ?c26 ?k26) (K32.as' ?a27 ?l27 ?c27 ?k27) (K32.as' ?a28 ?l28 ?c28 ?k28) (K32.as' ?a29 ?l29 ?c29 ?k29) (K32.as' ?a30 ?l30 ?c30 ?k30) (K32.as' ?a31 ?l31 ?c31 ?k31) (K32.as' ?a32 ?l32 ?c32 ?k32) (K32.as' ?a33 ?l33 ?c33 ?k33) (K32.as' ?a34 ?l34 ?c34 ?k34) (K32.as' ?a35 ?l35 ?c35 ?k35) (K32.as' ?a36 ?l36 ?c36 ?k36) (K32.as' ?a37 ?l37 ?c37 ?k37) (K32.as' ?a38 ?l38 ?c38 ?k38) (K32.as' ?a39 ?l39 ?c39 ?k39) (K32.as' ?a40 ?l40 ?c40 ?k40) (K32.as' ?a41 ?l41 ?c41 ?k41) (K32.as' ?a42 ?l42 ?c42 ?k42) ?z1 ?z2 ?z3 ?z4 ?z5 ?z6 ?z7 ?z8 ?z9 ?z10 ?z11 ?z12 ?z13 ?z14 ?z15 ?z16 ?z17 ?z18 ?gc1
  (case a1 => k_is); (case l1 => k_is); (case c1 => k_is); (case k1 => k_is)
  (case a2 => k_is); (case l2 => k_is); (case c2 => k_is); (case k2 => k_is)
  (case a3 => k_is); (case l3 => k_is); (case c3 => k_is); (case k3 => k_is)
  (case a4 => k_is); (case l4 => k_is); (case c4 => k_is); (case k4 => k_is)
  (case a5 => k_is); (case l5 => k_is); (case c5 => k_is); (case k5 => k_is)
  (case a6 => k_is); (case l6 => k_is); (case c6 => k_is); (case k6 => k_is)
  (case a7 => k_is); (case l7 => k_is); (case c7 => k_is); (case k7 => k_is)
  (case a8 => k_is); (case l8 => k_is); (case c8 => k_is); (case k8 => k_is)
  (case a9 => k_is); (case l9 => k_is); (case c9 => k_is); (case k9 => k_is)
  (case a10 => k_is); (case l10 => k_is); (case c10 => k_is); (case k10 => k_is)
  (case a11 => k_is); (case l11 => k_is); (case c11 => k_is); (case k11 => k_is)
  (case a12 => k_is); (case l12 => k_is); (case c12 => k_is); (case k12 => k_is)
  (case a13 => k_is); (case l13 => k_is); (case c13 => k_is); (case k13 => k_is)
  (case a14 => k_is); (case l14 => k_is); (case c14 => k_is); (case k14 => k_is)
  (case a15 => k_is); (case l15 => k_is); (case c15 => k_is); (case k15 => k_is)
  (case a16 => k_is); (case l16 => k_is); (case c16 => k_is); (case k16 => k_is)
  (case a17 => k_is); (case l17 => k_is); (case c17 => k_is); (case k17 => k_is)
  (case a18 => k_is); (case l18 => k_is); (case c18 => k_is); (case k18 => k_is)
  (case a19 => k_is); (case l19 => k_is); (case c19 => k_is); (case k19 => k_is)
  (case a20 => k_is); (case l20 => k_is); (case c20 => k_is); (case k20 => k_is)
  (case a21 => k_is); (case l21 => k_is); (case c21 => k_is); (case k21 => k_is)
  (case a22 => k_is); (case l22 => k_is); (case c22 => k_is); (case k22 => k_is)
  (case a23 => k_is); (case l23 => k_is); (case c23 => k_is); (case k23 => k_is)
  (case a24 => k_is); (case l24 => k_is); (case c24 => k_is); (case k24 => k_is)
  (case a25 => k_is); (case l25 => k_is); (case c25 => k_is); (case k25 => k_is)
  (case a26 => k_is); (case l26 => k_is); (case c26 => k_is); (case k26 => k_is)
  (case a27 => k_is); (case l27 => k_is); (case c27 => k_is); (case k27 => k_is)
  (case a28 => k_is); (case l28 => k_is); (case c28 => k_is); (case k28 => k_is)
  (case a29 => k_is); (case l29 => k_is); (case c29 => k_is); (case k29 => k_is)
  (case a30 => k_is); (case l30 => k_is); (case c30 => k_is); (case k30 => k_is)
  (case a31 => k_is); (case l31 => k_is); (case c31 => k_is); (case k31 => k_is)
  (case a32 => k_is); (case l32 => k_is); (case c32 => k_is); (case k32 => k_is)
  (case a33 => k_is); (case l33 => k_is); (case c33 => k_is); (case k33 => k_is)
  (case a34 => k_is); (case l34 => k_is); (case c34 => k_is); (case k34 => k_is)
  (case a35 => k_is); (case l35 => k_is); (case c35 => k_is); (case k35 => k_is)
  (case a36 => k_is); (case l36 => k_is); (case c36 => k_is); (case k36 => k_is)
  (case a37 => k_is); (case l37 => k_is); (case c37 => k_is); (case k37 => k_is)
  (case a38 => k_is); (case l38 => k_is); (case c38 => k_is); (case k38 => k_is)
  (case a39 => k_is); (case l39 => k_is); (case c39 => k_is); (case k39 => k_is)
  (case a40 => k_is); (case l40 => k_is); (case c40 => k_is); (case k40 => k_is)
  (case a41 => k_is); (case l41 => k_is); (case c41 => k_is); (case k41 => k_is)
  (case a42 => k_is); (case l42 => k_is); (case c42 => k_is); (case k42 => k_is)
  (case z1 => k_is)
  (case z2 => k_is)
  (case z3 => k_is)
  (case z4 => k_is)
  (case z5 => k_is)
  (case z6 => k_is)
  (case z7 => k_is)
  (case z8 => k_is)
  (case z9 => k_is)
  (case z10 => k_is)
  (case z11 => k_is)
  (case z12 => k_is)
  (case z13 => k_is)
  (case z14 => k_is)
  (case z15 => k_is)
  (case z16 => k_is)
  (case z17 => k_is)
  (case z18 => k_is)
  (case gc1 => k_is)