import PyProof.Rows.All
import Wide.All
import OpenK.AllK
import Wide.FinOn
import Lean
import PyProof.EqAt
import PyProof.EqKinds
import PyProof.TupleCall
import PyProof.SetRoads
import PyProof.Rows.SetFrom
import PyProof.TupleKey
import PyProof.IsRules
import KE.KSetDisp
import PyProof.Rows.TupAdd
import PyProof.Rows.SortStr
import PyProof.Rows.SortWalk
import PyProof.CollectIter
import PyProof.Rows.Tup
import PyProof.TupleOfSeq
import PyProof.DictFindH
import PyProof.Rows.SortShell
import PyProof.ReprRoads
import PyProof.CallStr
import PyProof.SeqRoads2
import KE.KSortTup
import KE.KDictList
import PyProof.IsiH_list
import PyProof.FactsAll.dict_1
import KE.KUnpack
import KE.KDictSum
import PyProof.Rows.CallKwBuiltin
import KE.KEqDict
import PySem.Challenge.RW_runbound_k36_tables_read
open PySem renaming wpAny_bind → aa,wpAny_pure → ae,wpAny_holding → aH,wpAny_field → aM,wpAny_callSpecial?_slot → aU,wpAny_call_entry → aV,wpAny_loadPart_at → aY,wpAny_newObj_type → bc,wpAny_truthy_bool → bi,wpAny_standAt → bo,wpAny_seqItems → bv,wpAny_mono → bw,wpAny_setField_rec → bA,wpAny_of_eq → bN,wpAny_passesOwn → bP
open List renaming getElem?_eq_getElem → ac,length_map → ai,mem_append_right → aj,size_toArray → am,length_append → ao,mem_cons → aq,mem_cons_of_mem → ar,not_mem_nil → au,mem_cons_self → aw,getElem?_map → az,mem_append → aA,getElem?_eq_some_iff → aC,range → aD,mem_of_getElem? → aE,replicate → aG,map_append → aI,map_cons → aJ,append_assoc → aO,mem_map → aQ,length_cons → aR,zip → aS,length_take → aW,getElem?_eq_none_iff → aX,mem_append_left → aZ,take_of_length_le → ba,take_length → bh,take_succ → bn,getElem?_set_ne → bp,getElem?_range → br,lookup_cons → bB,map_map → bE,length_range → bF,append_nil → bG,length_nil → bH,map_congr_left → bI,all_eq_true → bJ,length_singleton → bK,take_append_drop → bL,mem_range → bM,filterMap_cons → bQ,any_cons → bR,replicate_succ → bT,getElem?_cons_zero → bU,getElem?_set_self → bV,set_cons_zero → bW,set_cons_succ → bX,nodup_cons → bY,find?_cons → bZ,range_succ → cc,flatten_cons → ce,flatMap_cons → cf,getElem_mem → cj
open Bool renaming and_eq_true → af,false_ne_true → ap,not_eq_true' → aL,false_eq_true → bb
open PySem.Heap renaming get?_push_of_some → ag,lt_size → av,get?_push_size → ax,size_push → bu,get?_none_of_le → cg,SameBut → cm
open Nat renaming lt_of_lt_of_le → ak,le_refl → al,ne_of_lt → aB,le_trans → aF,zero_le → aT,add_sub_cancel_left → bf,lt_irrefl → bg,ne_of_gt → bq,lt_of_le_of_lt → bx,le_add_right → bC,le_of_lt → bD
open Int renaming eq_ofNat_of_zero_le → ay,toNat_natCast → aK,natCast_ediv → ck
open Array renaming toList_append → aN,length_toList → aP,getElem?_eq_getElem → bO,toList_reverse → ci
open Option renaming map → bj
set_option genSizeOf false
set_option Elab.async false
set_option compiler.extract_closed false
set_option linter.all false
set_option maxRecDepth 100000
set_option tactic.hygienic false
namespace L2
open PySem PySem.Spec PyProof.Rows
section
variable {prog:Program} {w:World} {A:Around} {E:Value->Shared->Prop} {s:Shared}
theorem bQ' (s:Shared):s.TypeIs .none "NoneType":=rfl
theorem c2' {Q:Int->Shared->Prop} (h:Q 0xFCA86420 { s with toks:=s.toks+1 }):wpAny (model prog w) A (pyHash .none) Q E s:=by
 unfold pyHash
 have hv:[Value.none].any Value.onHeap=false:=rfl
 refine aa ?_
 rw[cRoomFor,if_neg (by rw[hv];exact ap)];refine ae ?_
 refine aa (wpAny_specialOf (bQ' s) F.slot_NoneType_hash.lookup ?_)
 show wpAny _ _ (if(some (Value.builtin "NoneType.__hash__") == some Value.none)=true then _ else _) Q E s
 rw[if_neg (by rw[beq_builtin_none];exact ap)]
 refine aa (wpAny_specialOf (bQ' s) F.slot_NoneType_hash.lookup ?_)
 show wpAny _ _ (callSpecialIfBoundUnlessNone? (.none) "__hash__" _ >>= _) Q E s
 refine aa (wpAny_callSpecialIfBoundUnlessNone?_slot (bQ' s) F.slot_NoneType_hash
  (aV F.slot_NoneType_hash (bQ' s) F.entry_NoneType_hash
   (show wpAny _ _ (do ret (<- mkInt 0xFCA86420)) _ _ s from wpAny_ret_mkInt ?_) (F.args_NoneType_hash_1 _)))
 exact ae h
end
inductive Key where
 |inl (i:Int)|inr (x:Str)|non
 deriving DecidableEq
def jB':Key->Value->Bool
 | .inl k,v=>Value.isInt k v
 | .inr x,v=>Value.isStrOf x v
 | .non,.none=>true
 | .non,_=>false
def zO' (w:World):Key->Int
 | .inl k=>hashInt k
 | .inr x=>hashStr w x
 | .non=>0xFCA86420
theorem aQ':∀{k:Key} {v:Value},jB' k v=true->(∃i t,k=Key.inl i/\v=Value.int i t)\/(∃x t,k=Key.inr x/\v=Value.str x t)\/(k=Key.non/\v=Value.none)
 | .inl i,v,h=>by
  obtain⟨t,e⟩:=Value.isInt_shape (k:=i) (v:=v) h
  exact .inl ⟨i,t,rfl,e⟩
 | .inr x,v,h=>by
  obtain⟨t,e⟩:=Value.isStrOf_shape (x:=x) (v:=v) h
  exact .inr (.inl ⟨x,t,rfl,e⟩)
 | .non,v,h=>by cases v<;>first|exact .inr (.inr ⟨rfl,rfl⟩)|cases h
theorem km' (i:Int) (t:Tok):jB' (.inl i) (.int i t)=true:=by simp[jB',Value.isInt]
theorem kn' (x:Str) (t:Tok):jB' (.inr x) (.str x t)=true:=by simp[jB',Value.isStrOf]
theorem ti' (a b:Int):decide ((Key.inl a:Key)=Key.inl b)=(a == b):=by
 by_cases e:a=b
 .rw[e,decide_eq_true rfl,beq_self_eq_true]
 .rw[decide_eq_false (fun q=>e (Key.inl.inj q)),beq_eq_false_iff_ne.mpr e]
theorem tj' (a b:Str):decide ((Key.inr a:Key)=Key.inr b)=decide (a=b):=by
 by_cases e:a=b
 .rw[e,decide_eq_true rfl,decide_eq_true rfl]
 .rw[decide_eq_false (fun q=>e (Key.inr.inj q)),decide_eq_false e]
theorem eW' {a b:Key} (h:a≠b):decide (a=b)=false:=decide_eq_false h
def ap' (prog:Program) (w:World):PySem.KeyKind prog w Key where
 is:=jB'
 hash:=zO' w
 inj:=fun v a b ha hb=>by
  rcases aQ' ha with⟨i,t,rfl,rfl⟩|⟨x,t,rfl,rfl⟩|⟨rfl,rfl⟩<;>rcases aQ' hb with⟨j,u,rfl,e⟩|⟨y,u,rfl,e⟩|⟨rfl,e⟩<;>
   first|rfl|(injection e with e1 _;rw[e1])|exact nomatch e
 byValue:=fun k v h=>by
  rcases aQ' h with⟨i,t,rfl,rfl⟩|⟨x,t,rfl,rfl⟩|⟨rfl,rfl⟩<;>rfl
 pyHash:=fun hv h=>by
  rcases aQ' hv with⟨i,t,rfl,rfl⟩|⟨x,t,rfl,rfl⟩|⟨rfl,rfl⟩
  .exact wpAny_pyHash_int h
  .exact wpAny_pyHash_str h
  .exact c2' h
 eqBool:=fun {A E s a b u v Q} hu hv h=>by
  rcases aQ' hu with⟨i,t,rfl,rfl⟩|⟨x,t,rfl,rfl⟩|⟨rfl,rfl⟩
  .rcases aQ' hv with⟨j,u,rfl,rfl⟩|⟨y,u,rfl,rfl⟩|⟨rfl,rfl⟩
   .rw[ti']at h;exact wpAny_eqBool_int h
   .rw[eW' (a:=Key.inl i) (b:=Key.inr y) (fun q=>nomatch q)]at h;exact SeqAt.EqAt.int_str i t y u _ _ _ _ h
   .rw[eW' (a:=Key.inl i) (b:=Key.non) (fun q=>nomatch q)]at h;exact SeqAt.EqAt.int_none i t _ _ _ _ h
  .rcases aQ' hv with⟨j,u,rfl,rfl⟩|⟨y,u,rfl,rfl⟩|⟨rfl,rfl⟩
   .rw[eW' (a:=Key.inr x) (b:=Key.inl j) (fun q=>nomatch q)]at h;exact SeqAt.EqAt.str_int x t j u _ _ _ _ h
   .rw[tj']at h;exact wpAny_eqBool_str h
   .rw[eW' (a:=Key.inr x) (b:=Key.non) (fun q=>nomatch q)]at h;exact SeqAt.EqAt.str_none x t _ _ _ _ h
  .rcases aQ' hv with⟨j,u,rfl,rfl⟩|⟨y,u,rfl,rfl⟩|⟨rfl,rfl⟩
   .rw[eW' (a:=Key.non) (b:=Key.inl j) (fun q=>nomatch q)]at h;exact SeqAt.EqAt.none_int j u _ _ _ _ h
   .rw[eW' (a:=Key.non) (b:=Key.inr y) (fun q=>nomatch q)]at h;exact SeqAt.EqAt.none_str y u _ _ _ _ h
   .rw[decide_eq_true rfl]at h;exact SeqAt.EqAt.same .none _ _ _ _ h
 «strs»:=fun k x t v h=>by
  rcases aQ' h with⟨i,u,rfl,e⟩|⟨y,u,rfl,e⟩|⟨rfl,e⟩
  .exact nomatch e
  .injection e with e1 _
   subst e1
   cases v<;>rfl
  .exact nomatch e
theorem hv' (prog:Program) (w:World) (i:Int) (t:Tok):(ap' prog w).is (.inl i) (.int i t)=true:=km' i t
theorem hw' (prog:Program) (w:World) (x:Str) (t:Tok):(ap' prog w).is (.inr x) (.str x t)=true:=kn' x t
inductive V where
 |non|bl (b:Bool)|int (i:Int)|str (x:Str)|byt (b:Array UInt8)|flt (b:UInt64)|ref (a:Addr)|ty (n:String)
 deriving DecidableEq
def aF':V->Value->Prop
 | .non,u=>u=Value.none
 | .bl b,u=>u=Value.bool b
 | .int i,u=>∃t,u=Value.int i t
 | .str x,u=>∃t,u=Value.str x t
 | .byt b,u=>∃t,u=Value.bytes b t
 | .flt b,u=>∃t,u=Value.float b t
 | .ref a,u=>u=Value.ref a
 | .ty n,u=>u=Value.type n
abbrev aL':List V->List Value->Prop:=Paired aF'
theorem aL'.length {xs:List V} {us:List Value} (r:aL' xs us):xs.length=us.length:=Paired.length r
theorem aL'.get:∀{xs:List V} {us:List Value} {i:Nat} {x:V},aL' xs us->xs[i]?=some x->∃u,us[i]?=some u/\aF' x u
 |_,_,_,_,.nil,e=>by simp at e
 |_,_,0,_,.cons r _,e=>by simp at e;subst e;exact⟨_,rfl,r⟩
 |_,_,i+1,x,.cons _ t,e=>by
  obtain⟨u,h1,h2⟩:=aL'.get (i:=i) (x:=x) t (by simpa using e)
  exact⟨u,by simpa using h1,h2⟩
theorem aL'.set {x:V} {u:Value} (r:aF' x u):∀{xs:List V} {us:List Value} (i:Nat),aL' xs us->aL' (xs.set i x) (us.set i u)
 |_,_,_,.nil=>.nil
 |_,_,0,.cons _ t=>.cons r t
 |_,_,i+1,.cons q t=>.cons q (aL'.set r i t)
theorem aL'.append:∀{xs ys:List V} {us ws:List Value},aL' xs us->aL' ys ws->aL' (xs++ys) (us++ws)
 |_,_,_,_,.nil,s=>s
 |_,_,_,_,.cons r t,s=>.cons r (aL'.append t s)
theorem aL'.take:∀{xs:List V} {us:List Value} (n:Nat),aL' xs us->aL' (xs.take n) (us.take n)
 |_,_,0,_=>.nil
 |_,_,_+1,.nil=>.nil
 |_,_,n+1,.cons r t=>.cons r (aL'.take n t)
theorem aL'.drop:∀{xs:List V} {us:List Value} (n:Nat),aL' xs us->aL' (xs.drop n) (us.drop n)
 |_,_,0,r=>r
 |_,_,_+1,.nil=>.nil
 |_,_,n+1,.cons _ t=>aL'.drop n t
def jC':Option V->Option Value->Prop
 |some v,some u=>aF' v u
 |none,none=>True
 |_,_=>False
def KV {κ:Type}:List (κ×V)->List (κ×Value)->Prop:=Paired fun(p:κ×V) (q:κ×Value)=>p.1=q.1/\aF' p.2 q.2
def kV:Key->V
 | .inl i=>.int i
 | .inr x=>.str x
 | .non=>.non
inductive HO where
 |lst (xs:List V)
 |tup (xs:List V)
 |dK (kvs:List (Key×V))|dT (kvs:List (List Key×V))
 |set (S:Int->Bool) (n:Nat)
 |ins (C dx:Addr) (fs:List (Str×V))
 |own (x:Addr)
 |xd (fs:List (Str×V))
 |met (f x:Addr)
 |rng (lo hi:Int)
 |frz (o:Obj) (u:HO)
 |tbl (ps:Array Value)
 |ext (φ:Heap->Prop)
abbrev Hp:=Addr->Option HO
def upd (H:Hp) (a:Addr) (o:HO):Hp:=fun b=>if b=a then some o else H b
theorem aa' {H:Hp} {a:Addr} {o:HO}:upd H a o a=some o:=by unfold upd;rw[if_pos rfl]
theorem ad' {H:Hp} {a b:Addr} {o:HO} (h:b≠a):upd H a o b=H b:=by unfold upd;rw[if_neg h]
theorem fl' {H:Hp} {a:Addr} {o u:HO}:upd (upd H a o) a u=upd H a u:=by
 funext b;unfold upd;split<;>rfl
theorem ah' {H:Hp} {a b:Addr} {o:HO} (h:H a=some o) (h':H b=none):a≠b:=by
 intro e;subst e;rw[h]at h';cases h'
def oZ' (h:Heap) (a:Addr) (items:Array Value):Prop:=∃o,h.get? a=some o/\o.cls=.type "tuple"/\(∃n,o.data=.seq items n)/\o.dict=none
theorem oZ'.tup {h:Heap} {a:Addr} {items:Array Value} (x:oZ' h a items):IsTup h a items:=let⟨o,e,c,⟨n,d⟩,_⟩:=x;⟨o,e,c,n,d⟩
theorem oZ'.new (h:Heap) (items:Array Value):oZ' (h.push { cls:=.type "tuple",data:=.seq items }) h.objs.size items:=⟨_,ax _ rfl,rfl,⟨_,rfl⟩,rfl⟩
section
variable (P:Program) (w:World)
def av' (H:Hp) (h:Heap) (a:Addr):HO->Prop
 | .lst xs=>xs.length<=sizeLine/\∃(its:List Value) (n:Nat),aL' xs its/\h.get? a=some { cls:=.type "list",data:=.seq its.toArray n }
 | .tup xs=>xs.length<=sizeLine/\∃its:List Value,aL' xs its/\oZ' h a its.toArray
 | .dK kvs=>kvs.length<=sizeLine/\(a == sysModules)=false/\∃vs,KV kvs vs/\h.DictOf (ap' P w) a vs
 | .dT kvs=>kvs.length<=sizeLine/\(a == sysModules)=false/\∃xs:List (List Key×Addr×Value),
   Paired (fun(p:List Key×V) (q:List Key×Addr×Value)=>p.1=q.1/\H q.2.1=some (.tup (p.1.map kV))/\aF' p.2 q.2.2) kvs xs/\
   ∃o es ep,h.get? a=some o/\o.ExactDict/\o.data=.dict es ep/\es.toList=xs.map (entryOfKey (tupleKind (ap' P w)))/\(xs.map (·.1)).Nodup
 | .set S n=>h.SetOf (intKind P w) a S n
 | .ins C dx fs=>H dx=some (.own a)/\fs.length<=1000/\dx≠a/\h.get? a=some (W.instObj C dx)/\
   ∃mA,h.Ns1 dx mA/\(∀f,jC' (fs.lookup f) (mA f))/\PySem.Within mA (fs.map (·.1))
 | .own _=>∃o,h.get? a=some o
 | .xd fs=>∃mA,h.Ns1 a mA/\∀f,jC' (fs.lookup f) (mA f)
 | .rng lo hi=>∃t u v,h.get? a=some { cls:=.type "range",data:=.fields #[.int lo t,.int hi u,.int 1 v] }
 | .frz o u=>h.get? a=some o/\av' H h a u
 | .tbl ps=>h.get? a=some { cls:=.none,data:=.fields ps }
 | .met f x=>h.get? a=some (W.methodObj (.ref f) (.ref x))
 | .ext φ=>φ h/\(∃o,h.get? a=some o)/\∀h1 h2:Heap,φ h1->(∀o,h1.get? a=some o->h2.get? a=some o)->φ h2
def HOk (H:Hp) (h:Heap):Prop:=∀a o,H a=some o->av' P w H h a o
end
section
variable {P:Program} {w:World} {H H':Hp} {h h':Heap} {a:Addr} {o:HO}
theorem av'.lt (x:av' P w H h a o):a<h.objs.size:=by
 cases o with
 |lst xs=>obtain⟨_,_,_,_,e⟩:=x;exact av e
 |tup xs=>obtain⟨_,_,_,p⟩:=x;exact p.tup.lt
 |dK kvs=>obtain⟨_,_,_,_,o,_,_,e,_⟩:=x;exact av e
 |dT kvs=>obtain⟨_,_,_,_,o,_,_,e,_⟩:=x;exact av e
 |set S n=>obtain⟨o,_,_,_,e,_⟩:=x;exact av e
 |ins C dx fs=>obtain⟨_,_,_,e,_⟩:=x;exact av e
 |own y=>obtain⟨_,e⟩:=x;exact av e
 |xd fs=>obtain⟨_,⟨_,_,_,e,_⟩,_⟩:=x;exact av e
 |rng lo hi=>obtain⟨_,_,_,e⟩:=x;exact av e
 |frz ob u=>obtain⟨e,_⟩:=x;exact av e
 |tbl ps=>exact av (show h.get? a=some _ from x)
 |met f y=>exact av (show h.get? a=some _ from x)
 |ext φ=>obtain⟨_,⟨_,e⟩,_⟩:=x;exact av e
theorem Paired.mapP {α β:Type} {F G:α->β->Prop}:∀{l₁:List α} {l₂:List β},Paired F l₁ l₂->(∀a b,F a b->G a b)->Paired G l₁ l₂
 |_,_,.nil,_=>.nil
 |_,_,.cons r t,f=>.cons (f _ _ r) (Paired.mapP t f)
theorem av'.stay (x:av' P w H h a o) (k:∀b u,(b=a\/H b=some (.own a))->h.get? b=some u->h'.get? b=some u)
  (ho:∀b,H b=some (.own a)->H' b=some (.own a)) (ht:∀b xs,H b=some (.tup xs)->H' b=some (.tup xs)):av' P w H' h' a o:=by
 induction o with
 |lst xs=>obtain⟨z,its,n,r,e⟩:=x;exact⟨z,its,n,r,k _ _ (.inl rfl) e⟩
 |tup xs=>obtain⟨z,its,r,ob,e,c⟩:=x;exact⟨z,its,r,ob,k _ _ (.inl rfl) e,c⟩
 |dK kvs=>obtain⟨z,y,vs,r,ob,es,ep,e,c⟩:=x;exact⟨z,y,vs,r,ob,es,ep,k _ _ (.inl rfl) e,c⟩
 |dT kvs=>
  obtain⟨z,y,xs,r,ob,es,ep,e,c⟩:=x
  exact⟨z,y,xs,Paired.mapP r fun p q z=>⟨z.1,ht _ _ z.2.1,z.2.2⟩,ob,es,ep,k _ _ (.inl rfl) e,c⟩
 |set S n=>obtain⟨ob,es,ep,t,e,c⟩:=x;exact⟨ob,es,ep,t,k _ _ (.inl rfl) e,c⟩
 |ins C dx fs=>
  obtain⟨d,z,ne,e,mA,⟨od,es,ep,e2,c⟩,r⟩:=x
  exact⟨ho _ d,z,ne,k _ _ (.inl rfl) e,mA,⟨od,es,ep,k _ _ (.inr d) e2,c⟩,r⟩
 |own y=>obtain⟨ob,e⟩:=x;exact⟨ob,k _ _ (.inl rfl) e⟩
 |xd fs=>obtain⟨mA,⟨od,es,ep,e,c⟩,r⟩:=x;exact⟨mA,⟨od,es,ep,k _ _ (.inl rfl) e,c⟩,r⟩
 |rng lo hi=>obtain⟨t,u,v,e⟩:=x;exact⟨t,u,v,k _ _ (.inl rfl) e⟩
 |frz ob u ih=>obtain⟨e,q⟩:=x;exact⟨k _ _ (.inl rfl) e,ih q⟩
 |tbl ps=>
  have e:h.get? a=some { cls:=.none,data:=.fields ps }:=x
  show h'.get? a=some { cls:=.none,data:=.fields ps }
  exact k a _ (.inl rfl) e
 |met f y=>
  have e:h.get? a=some (W.methodObj (.ref f) (.ref y)):=x
  show h'.get? a=some (W.methodObj (.ref f) (.ref y))
  exact k a _ (.inl rfl) e
 |ext φ=>obtain⟨p,⟨o,e⟩,st⟩:=x;exact⟨st _ _ p fun o q=>k _ _ (.inl rfl) q,⟨o,k _ _ (.inl rfl) e⟩,st⟩
theorem HOk.lt (x:HOk P w H h) (e:H a=some o):a<h.objs.size:=(x a o e).lt
theorem HOk.fresh (x:HOk P w H h) (e:h.objs.size<=a):H a=none:=by
 cases q:H a with
 |none=>rfl
 |some u=>exact absurd (ak (x.lt q) e) (bg _)
theorem HOk.kept (x:HOk P w H h) (k:∀b u,h.get? b=some u->h'.get? b=some u):HOk P w H h':=fun a o e=>
 (x a o e).stay (fun b u _ q=>k b u q) (fun _ q=>q) fun _ _ q=>q
theorem HOk.laid (x:HOk P w H h) (k:∀b u,h.get? b=some u->h'.get? b=some u) (hp:h.objs.size<=a) (new:av' P w (upd H a o) h' a o):HOk P w (upd H a o) h':=fun b u e=>by
 have hn:=x.fresh hp
 by_cases hb:b=a
 .subst hb;rw[aa']at e;cases e;exact new
 .rw[ad' hb]at e
  exact(x b u e).stay (fun c v _ q=>k c v q) (fun c q=>by rw[ad' (ah' q hn)];exact q) fun c xs q=>by rw[ad' (ah' q hn)];exact q
end
def Rd (H:Hp) (a:Addr) (u:HO):Prop:=H a=some u\/∃o,H a=some (.frz o u)
theorem Rd.ok {P:Program} {w:World} {H:Hp} {h:Heap} {a:Addr} {u:HO} (r:Rd H a u) (x:HOk P w H h):av' P w H h a u:=by
 rcases r with r|⟨o,r⟩
 .exact x a u r
 .obtain⟨_,q⟩:=x a _ r
  exact q
def Mut:Option HO->Prop
 |some (.lst _)=>True
 |some (.dK _)=>True
 |some (.dT _)=>True
 |some (.set _ _)=>True
 |some (.ins _ _ _)=>True
 |some (.ext _)=>True
 |_=>False
section
variable {P:Program} {w:World} {H:Hp} {h h':Heap} {x e:Addr} {o':HO}
theorem HOk.write (ok:HOk P w H h) (mu:Mut (H x)) (he:e=x\/H e=some (.own x)) (k:∀b u,b≠e->h.get? b=some u->h'.get? b=some u) (heo:∃u,h'.get? e=some u)
  (new:av' P w (upd H x o') h' x o'):HOk P w (upd H x o') h':=fun b u q=>by
 have nown:∀c y,H c=some (.own y)->c≠x:=fun c y r z=>by subst z;rw[r]at mu;exact mu
 have ntup:∀c xs,H c=some (.tup xs)->c≠x:=fun c xs r z=>by subst z;rw[r]at mu;exact mu
 by_cases hb:b=x
 .subst hb;rw[aa']at q;cases q;exact new
 .rw[ad' hb]at q
  by_cases hbe:b=e
  .have q':H b=some (.own x):=by
    rcases he with z|z
    .exact absurd (hbe.trans z) hb
    .rw[hbe];exact z
   rw[q]at q';cases q'
   obtain⟨v,hv⟩:=heo
   exact⟨v,by rw[hbe];exact hv⟩
  .refine(ok b u q).stay (fun c v hc r=>k c v ?_ r) (fun c r=>by rw[ad' (nown c b r)];exact r) fun c xs r=>by rw[ad' (ntup c xs r)];exact r
   rcases hc with rfl|hc
   .exact hbe
   .rintro rfl
    rcases he with z|z
    .exact nown c b hc z
    .rw[hc]at z;cases z;exact hb rfl
end
structure Un (fs ex:List Addr) (H H':Hp) (h h':Heap):Prop where
 keep:∀b o,h.get? b=some o->H b=none->b∉fs->b∉ex->h'.get? b=some o
 slot:∀b o,h.get? b=some o->H b=none->b∈fs->b∉ex->∃sl,h'.get? b=some { o with slots:=sl }
 free:∀b o,h.get? b=some o->H b=none->b∉ex->H' b=none
 there:∀b o,h.get? b=some o->b∉ex->∃o',h'.get? b=some o'
 tups:∀b xs,H b=some (.tup xs)->H' b=some (.tup xs)
 frzs:∀b o u,H b=some (.frz o u)->H' b=some (.frz o u)
 tbls:∀b ps,H b=some (.tbl ps)->∃more,H' b=some (.tbl (ps++more))
section
variable {fs fs' ex ex':List Addr} {H H1 H2:Hp} {h h1 h2 h':Heap} {a x e:Addr} {o:HO}
theorem Un.any (u:Un fs ex H H1 h h1) {b:Addr} {ob:Obj} (q:h.get? b=some ob) (n:H b=none) (hx:b∉ex):∃sl,h1.get? b=some { ob with slots:=sl }:=by
 by_cases hb:b∈fs
 .exact u.slot b ob q n hb hx
 .exact⟨ob.slots,u.keep b ob q n hb hx⟩
theorem Un.kept (k:∀b u,h.get? b=some u->h'.get? b=some u):Un fs ex H H h h':=
 ⟨fun b ob q _ _ _=>k b ob q,fun b ob q _ _ _=>⟨ob.slots,k b ob q⟩,fun _ _ _ n _=>n,fun b ob q _=>⟨ob,k b ob q⟩,fun _ _ q=>q,fun _ _ _ q=>q,fun _ ps q=>⟨#[],by rw[q];simp⟩⟩
theorem Un.refl:Un fs ex H H h h:=Un.kept fun _ _ q=>q
theorem Un.laid (k:∀b u,h.get? b=some u->h'.get? b=some u) (hp:h.objs.size<=a) (hn:H a=none):Un fs ex H (upd H a o) h h' where
 keep:=fun b u q _ _ _=>k b u q
 slot:=fun b u q _ _ _=>⟨u.slots,k b u q⟩
 free:=fun b u q n _=>by rw[ad' (aB (ak (av q) hp))];exact n
 there:=fun b u q _=>⟨u,k b u q⟩
 tups:=fun b xs q=>by rw[ad' (ah' q hn)];exact q
 frzs:=fun b u xs q=>by rw[ad' (ah' q hn)];exact q
 tbls:=fun b ps q=>⟨#[],by rw[ad' (ah' q hn),q];simp⟩
theorem Un.write (mu:Mut (H x)) (he:e=x\/H e=some (.own x)) (k:∀b u,b≠e->h.get? b=some u->h'.get? b=some u) (heo:∃u,h'.get? e=some u):Un fs ex H (upd H x o) h h':=by
 have hx:∀b,H b=none->b≠x:=fun b n z=>by subst z;rw[n]at mu;exact mu
 have hb:∀b,H b=none->b≠e:=fun b n z=>by
  subst z
  rcases he with r|r
  .exact hx b n r
  .rw[n]at r;cases r
 have hm:∀b u,H b=some u->¬Mut (some u)->b≠x:=fun b u q nm z=>by subst z;rw[q]at mu;exact nm mu
 refine⟨fun b u q n _ _=>k b u (hb b n) q,fun b u q n _ _=>⟨u.slots,k b u (hb b n) q⟩,fun b u q n _=>by rw[ad' (hx b n)];exact n,fun b u q _=>?_,
  fun b xs q=>by rw[ad' (hm b _ q fun z=>z)];exact q,fun b u xs q=>by rw[ad' (hm b _ q fun z=>z)];exact q,fun b ps q=>⟨#[],by rw[ad' (hm b _ q fun z=>z),q];simp⟩⟩
 by_cases hbe:b=e
 .subst hbe;exact heo
 .exact⟨u,k b u hbe q⟩
end
def trk (h:Heap) (H:Hp):List Addr:=(aD h.objs.size).filter fun a=>(H a).isSome
def ne' (h:Heap) (H:Hp):Heap:=W.hideAll h (trk h H)
theorem ko' (h:Heap) (H:Hp):(ne' h H).objs.size=h.objs.size:=W.hideAll_size _ _
theorem nf' {h:Heap} {H:Hp} {b:Addr} {o:Obj} (e:h.get? b=some o) (n:H b=none):(ne' h H).get? b=some o:=
 W.hideAll_get _ e fun hm=>by
  have q:(H b).isSome=true:=(List.mem_filter.mp hm).2
  rw[n]at q;simp at q
theorem qF' {h:Heap} {H:Hp} {b:Addr} {o:Obj} (e:(ne' h H).get? b=some o):h.get? b=some o/\H b=none:=by
 have e':h.get? b=some o:=W.of_hideAll (trk h H) e
 refine⟨e',?_⟩
 cases q:H b with
 |none=>rfl
 |some x=>
  have hm:b∈trk h H:=List.mem_filter.mpr ⟨bM.mpr (av e'),by simp[q]⟩
  have z:(ne' h H).get? b=none:=W.hideAll_none (trk h H) hm
  rw[z]at e;cases e
def qG' (g h:Heap) (L:Addr):List (Addr×Obj):=(aD h.objs.size).filterMap fun a=>if a=L\/(g.get? a).isSome=true then none else(h.get? a).map fun o=>(a,o)
def as' (g h:Heap) (L d:Addr):List (Addr×Obj):=(qG' g h L).filter fun p=>decide (p.1≠d)
structure Mod (K:W.Frag) (mg:Str->Option Value) (base:Heap):Prop where
 kin:K.In base
 glob:base.Ns mainGlobals mg
 blt:∃mb,base.Ns builtinsNs mb/\∀x:Str,x≠"__name__"->mb x=bootBuiltins x
 nolimit:base.NoLimit
set_option genInjectivity false
structure Cx where
 prog:Program
 w:World
 K:W.Frag
 mg:Str->Option Value
 base:Heap
 A:Around
 N:List Str
 s₀:Shared
 H₀:Hp
 env:Env
 outer:List Env
 stack:List Env
 ex:List Addr
 fn:Str->Bool
 calm:Bool
 pn:List (Addr×Obj)
 xe:Value->Shared->Prop
set_option genInjectivity true
def frs (l:List Env):List Addr:=l.filterMap (·.frame)
abbrev Cx.fs (X:Cx):List Addr:=frs X.outer
def Vis (sc:Scope) (x:Str):Prop:=sc.names.lookup x=some .local\/sc.names.lookup x=some .cell\/sc.names.lookup x=some .free
def Loc (sc:Scope) (x:Str):Prop:=sc.names.lookup x=some .local\/sc.names.lookup x=some .cell
def zP' (env:Env) (h:Heap) (m:Str->Option Value) (x:Str) (u:Value):Prop:=
 (env.kindOf x=some .local/\m x=some u)\/((env.kindOf x=some .cell\/env.kindOf x=some .free)/\∃c,env.cells.lookup x=some c/\h.IsCell c (some u))
structure Cx.Ok (X:Cx):Prop where
 mod:Mod X.K X.mg X.base
 kind:X.env.scope.kind=.function
 glob:X.env.globals=mainGlobals
 blt:X.env.builtins=builtinsNs
 above:X.s₀.heap.objs.size<=X.env.locals
 inj:∀x y c,X.env.cells.lookup x=some c->X.env.cells.lookup y=some c->x=y
 has:∀x,(X.env.kindOf x=some .cell\/X.env.kindOf x=some .free)->∃c,X.env.cells.lookup x=some c
 cab:∀x c,X.fn x=true->X.env.cells.lookup x=some c->X.s₀.heap.objs.size<=c
 hd:X.calm=true->X.A.handled=none
 frames:X.A.frames=some X.stack
 stk:X.stack=X.outer\/(X.stack=X.env :: X.outer/\X.env.frame=some X.env.locals)
 exf:∀b∈X.ex,b≠X.env.locals/\∀x c,X.env.cells.lookup x=some c->c≠b
 bs:∀b o,X.base.get? b=some o->X.s₀.heap.get? b=some o/\X.H₀ b=none
 bsz:X.base.objs.size<=X.s₀.heap.objs.size
 noex:∀b o,X.base.get? b=some o->b∉X.ex
 exfs:∀b∈X.ex,b∉X.fs
 funs:X.s₀.heap.FunFrames X.base X.outer
 frf:∀b∈X.fs,X.H₀ b=none
structure Inv (X:Cx) (pins:List (Addr×Obj)) (σ:List (Option V)) (H:Hp) (s:Shared):Prop where
 ok:X.Ok
 os:s.os=X.s₀.os
 bare:AllBare s.gens
 base:Un X.fs X.ex X.H₀ H X.s₀.heap s.heap
 loc:∃m,s.heap.Ns X.env.locals m/\∀(i:Nat) (x:Str) (v:V),X.N[i]?=some x->σ[i]?=some (some v)->Vis X.env.scope x->∃u,aF' v u/\zP' X.env s.heap m x u
 cell:∀x c,X.env.cells.lookup x=some c->∃v,s.heap.IsCell c v
 free:H X.env.locals=none
 freeC:∀x c,X.env.cells.lookup x=some c->H c=none
 pin:∀p∈X.pn++pins,s.heap.get? p.1=some p.2/\H p.1=none/\p.1≠X.env.locals/\p.1∉X.fs/\∀v,p.2.data≠.cell v
 hok:HOk X.prog X.w H s.heap
 len:σ.length=X.N.length
section
variable {X:Cx} {pins:List (Addr×Obj)} {σ:List (Option V)} {H H':Hp} {s:Shared} {h':Heap}
theorem Cx.Ok.nofr (ok:X.Ok) {b:Addr} {o:Obj} (e:X.base.get? b=some o):b∉X.fs:=fun hb=>by
 have:=(ok.funs.mem hb).1
 rw[e]at this;cases this
theorem Inv.bs (I:Inv X pins σ H s):∀b o,X.base.get? b=some o->s.heap.get? b=some o/\H b=none:=fun b o e=>
 ⟨I.base.keep b o (I.ok.bs b o e).1 (I.ok.bs b o e).2 (I.ok.nofr e) (I.ok.noex b o e),I.base.free b o (I.ok.bs b o e).1 (I.ok.bs b o e).2 (I.ok.noex b o e)⟩
theorem Inv.bk (I:Inv X pins σ H s):∀b o,X.base.get? b=some o->s.heap.get? b=some o:=fun b o e=>(I.bs b o e).1
theorem Inv.mod (I:Inv X pins σ H s):Mod X.K X.mg X.base:=I.ok.mod
theorem Inv.kIn (I:Inv X pins σ H s):X.K.In s.heap:=I.ok.mod.kin.keeps I.bk
theorem Inv.fr (I:Inv X pins σ H s):∃m,Fr X.base X.env.locals s.heap m:=
 let⟨m,hn,_⟩:=I.loc
 ⟨m,hn,I.bk,aF I.ok.bsz I.ok.above⟩
theorem Inv.lt (I:Inv X pins σ H s):X.env.locals<s.heap.objs.size:=let⟨_,hn,_⟩:=I.loc;hn.lt
theorem Inv.sz (I:Inv X pins σ H s):X.s₀.heap.objs.size<=s.heap.objs.size:=aF I.ok.above (bD I.lt)
theorem Inv.nofs (I:Inv X pins σ H s) {a:Addr} (h:s.heap.objs.size<=a):a∉X.fs:=fun hb=>by
 obtain⟨_,o,ho,_⟩:=I.ok.funs.mem hb
 exact absurd (ak (av ho) (aF I.sz h)) (bg _)
theorem Inv.cne (I:Inv X pins σ H s):∀x c,X.env.cells.lookup x=some c->c≠X.env.locals:=fun x c e z=>by
 obtain⟨v,o,ho,hd⟩:=I.cell x c e
 obtain⟨m,⟨o',es,ep,ho',hd',_⟩,_⟩:=I.loc
 rw[z,ho']at ho;cases ho;rw[hd']at hd;cases hd
theorem Inv.funs (I:Inv X pins σ H s):s.heap.FunFrames X.base X.outer:=by
 have all:∀(l:List Env),(∀b∈frs l,b∈X.fs)->X.s₀.heap.FunFrames X.base l->s.heap.FunFrames X.base l:=by
  intro l
  induction l with
  |nil=>intro _ _;trivial
  |cons env r ih=>
   intro hs hl
   obtain⟨hk,⟨L,o,hf,hn,ho,hd⟩,hr⟩:=hl
   have hL:L∈X.fs:=hs L (by unfold frs;rw[bQ,hf];exact aw)
   obtain⟨sl,e⟩:=I.base.slot L o ho (I.ok.frf L hL) hL fun z=>I.ok.exfs L z hL
   exact⟨hk,⟨L,_,hf,hn,e,hd⟩,ih (fun b hb=>hs b (by unfold frs;rw[bQ,hf];exact ar _ hb)) hr⟩
 exact all X.outer (fun _ hb=>hb) I.ok.funs
theorem Inv.stack (I:Inv X pins σ H s):s.heap.FunFrames X.base X.stack:=by
 rcases I.ok.stk with e|⟨e,hf⟩
 .rw[e];exact I.funs
 .rw[e]
  obtain⟨m,hn,_⟩:=I.loc
  refine .cons (by rw[I.ok.kind];decide) hf hn ?_ I.funs
  exact cg (aF I.ok.bsz I.ok.above)
theorem Inv.stkSub (I:Inv X pins σ H s):∀b∈frs X.stack,b∈X.env.locals :: X.fs:=fun b hb=>by
 rcases I.ok.stk with e|⟨e,hf⟩
 .rw[e]at hb;exact ar _ hb
 .rw[e]at hb
  unfold frs at hb
  rw[bQ,hf]at hb
  exact hb
theorem Inv.stkFree (I:Inv X pins σ H s):∀b∈frs X.stack,H b=none:=fun b hb=>by
 rcases aq.mp (I.stkSub b hb)with e|hb
 .rw[e];exact I.free
 .obtain⟨_,o,ho,_⟩:=I.ok.funs.mem hb
  exact I.base.free b o ho (I.ok.frf b hb) fun z=>I.ok.exfs b z hb
theorem Inv.step {g':Array GenState} {t':Nat} {d':Drawn} {ch:List Addr} (I:Inv X pins σ H s)
  (hch:∀b∈ch,(b∈X.ex\/X.s₀.heap.objs.size<=b)/\b≠X.env.locals/\(∀x c,X.env.cells.lookup x=some c->c≠b)/\∀p∈X.pn++pins,p.1≠b)
  (keep:∀b o,b≠X.env.locals->b∉X.fs->b∉ch->s.heap.get? b=some o->H b=none->h'.get? b=some o)
  (slot:∀b o,b≠X.env.locals->b∈X.fs->b∉ch->s.heap.get? b=some o->H b=none->∃sl,h'.get? b=some { o with slots:=sl }) (free:∀b o,b∉ch->s.heap.get? b=some o->H b=none->H' b=none)
  (there:∀b o,b∉ch->s.heap.get? b=some o->∃o',h'.get? b=some o')
  (tups:∀b xs,H b=some (.tup xs)->H' b=some (.tup xs)) (frzs:∀b o u,H b=some (.frz o u)->H' b=some (.frz o u)) (tbls:∀b ps,H b=some (.tbl ps)->∃more,H' b=some (.tbl (ps++more)))
  (ns:∀m,s.heap.Ns X.env.locals m->h'.Ns X.env.locals m) (hok:HOk X.prog X.w H' h') (hg:AllBare g'):
  Inv X pins σ H' { s with heap:=h',gens:=g',drawn:=d',toks:=t' }:=by
 have neL:∀b o,X.s₀.heap.get? b=some o->b≠X.env.locals:=fun b o e=>aB (ak (av e) I.ok.above)
 have neC:∀b o,X.s₀.heap.get? b=some o->b∉X.ex->b∉ch:=fun b o e hx hb=>by
  rcases(hch b hb).1 with z|z
  .exact hx z
  .exact absurd (ak (av e) z) (bg _)
 have cellK:∀x c,X.env.cells.lookup x=some c->∀v,s.heap.IsCell c v->h'.IsCell c v:=fun x c e v ⟨o,ho,hd⟩=>by
  have nch:c∉ch:=fun z=>(hch c z).2.2.1 x c e rfl
  by_cases hc:c∈X.fs
  .obtain⟨sl,q⟩:=slot c o (I.cne x c e) hc nch ho (I.freeC x c e)
   exact⟨_,q,hd⟩
  .exact⟨o,keep c o (I.cne x c e) hc nch ho (I.freeC x c e),hd⟩
 refine⟨I.ok,I.os,hg,⟨fun b o e n hb hx=>?_,fun b o e n hb hx=>?_,fun b o e n hx=>?_,fun b o e hx=>?_,fun b xs e=>tups b xs (I.base.tups b xs e),fun b o xs e=>frzs b o xs (I.base.frzs b o xs e),fun b ps e=>?_⟩,?_,fun x c e=>?_,?_,fun x c e=>?_,fun p hp=>?_,hok,I.len⟩
 .exact keep b o (neL b o e) hb (neC b o e hx) (I.base.keep b o e n hb hx) (I.base.free b o e n hx)
 .obtain⟨sl,e1⟩:=I.base.slot b o e n hb hx
  obtain⟨sl',e2⟩:=slot b _ (neL b o e) hb (neC b o e hx) e1 (I.base.free b o e n hx)
  exact⟨sl',e2⟩
 .obtain⟨o',e1⟩:=I.base.there b o e hx
  exact free b o' (neC b o e hx) e1 (I.base.free b o e n hx)
 .obtain⟨o',e1⟩:=I.base.there b o e hx
  exact there b o' (neC b o e hx) e1
 .obtain⟨m1,e1⟩:=I.base.tbls b ps e
  obtain⟨m2,e2⟩:=tbls b _ e1
  exact⟨m1++m2,by rw[e2,Array.append_assoc]⟩
 .obtain⟨m,hn,hl⟩:=I.loc
  refine⟨m,ns m hn,fun i x v e1 e2 e3=>?_⟩
  obtain⟨u,r,l⟩:=hl i x v e1 e2 e3
  refine⟨u,r,?_⟩
  rcases l with l|⟨k,c,e,z⟩
  .exact .inl l
  .exact .inr ⟨k,c,e,cellK x c e _ z⟩
 .obtain⟨v,z⟩:=I.cell x c e
  exact⟨v,cellK x c e v z⟩
 .obtain⟨m,⟨o,_,_,ho,_⟩,_⟩:=I.loc
  exact free _ o (fun z=>(hch _ z).2.1 rfl) ho I.free
 .obtain⟨v,o,ho,hd⟩:=I.cell x c e
  exact free c o (fun z=>(hch c z).2.2.1 x c e rfl) ho (I.freeC x c e)
 .obtain⟨e,n,ne,nf,d⟩:=I.pin p hp
  have nch:p.1∉ch:=fun z=>(hch p.1 z).2.2.2 p hp rfl
  exact⟨keep p.1 p.2 ne nf nch e n,free p.1 p.2 nch e n,ne,nf,d⟩
theorem Inv.un {t':Nat} (I:Inv X pins σ H s) (u:Un X.fs [] H H' s.heap h') (hok:HOk X.prog X.w H' h'):Inv X pins σ H' { s with heap:=h',toks:=t' }:=by
 obtain⟨m,⟨o,es,ep,ho,r⟩,_⟩:=id I.loc
 obtain⟨sl,hL⟩:=u.any ho I.free (by simp)
 exact I.step (g':=s.gens) (d':=s.drawn) (ch:=[]) (fun _ z=>nomatch z) (fun b o _ hb _ e n=>u.keep b o e n hb (by simp)) (fun b o _ hb _ e n=>u.slot b o e n hb (by simp)) (fun b o _ e n=>u.free b o e n (by simp)) (fun b o _ e=>u.there b o e (by simp)) u.tups u.frzs u.tbls (fun m' hm=>by
  obtain⟨o',es',ep',ho',r'⟩:=hm
  rw[ho]at ho';cases ho'
  exact⟨_,es',ep',hL,r'⟩) hok I.bare
theorem Inv.call {g':Array GenState} {t':Nat} {d':Drawn} {ch:List Addr} (I:Inv X pins σ H s) (u:Un (frs X.stack) ch H H' s.heap h') (hok:HOk X.prog X.w H' h') (hg:AllBare g')
  (hch:∀b∈ch,(b∈X.ex\/X.s₀.heap.objs.size<=b)/\b≠X.env.locals/\(∀x c,X.env.cells.lookup x=some c->c≠b)/\∀p∈X.pn++pins,p.1≠b):
  Inv X pins σ H' { s with heap:=h',gens:=g',drawn:=d',toks:=t' }:=by
 obtain⟨m,⟨o,es,ep,ho,r⟩,_⟩:=id I.loc
 obtain⟨sl,hL⟩:=u.any ho I.free fun z=>(hch _ z).2.1 rfl
 exact I.step (ch:=ch) hch (fun b o hL hb hc e n=>u.keep b o e n (fun z=>(aq.mp (I.stkSub b z)).elim hL hb) hc) (fun b o _ _ hc e n=>u.any e n hc) (fun b o hc e n=>u.free b o e n hc) (fun b o hc e=>u.there b o e hc) u.tups u.frzs u.tbls (fun m' hm=>by
  obtain⟨o',es',ep',ho',r'⟩:=hm
  rw[ho]at ho';cases ho'
  exact⟨_,es',ep',hL,r'⟩) hok hg
theorem Inv.turned {t':Nat} {it:Addr} (I:Inv X pins σ H s) (k:∀b o,b≠it->s.heap.get? b=some o->h'.get? b=some o) (hn:H it=none) (hL:it≠X.env.locals)
  (h1:it∈X.ex\/X.s₀.heap.objs.size<=it) (h2:∀x c,X.env.cells.lookup x=some c->c≠it) (h3:∀p∈X.pn++pins,p.1≠it):Inv X pins σ H { s with heap:=h',toks:=t' }:=by
 have nit:∀b u,H b=some u->b≠it:=fun b u e z=>by rw[z,hn]at e;cases e
 refine I.step (g':=s.gens) (d':=s.drawn) (ch:=[it]) (fun b hb=>?_) (fun b o _ _ hc e _=>k b o (fun z=>hc (by simp[z])) e) (fun b o _ _ hc e _=>⟨o.slots,k b o (fun z=>hc (by simp[z])) e⟩) (fun _ _ _ _ n=>n)
  (fun b o hc e=>⟨o,k b o (fun z=>hc (by simp[z])) e⟩) (fun _ _ e=>e) (fun _ _ _ e=>e) (fun b ps e=>⟨#[],by rw[e];simp⟩) (fun m hm=>?_) (fun b u e=>?_) I.bare
 .have e:b=it:=by simpa using hb
  subst e
  exact⟨h1,hL,h2,h3⟩
 .obtain⟨o,es,ep,ho,r⟩:=hm
  exact⟨o,es,ep,k _ o (Ne.symm hL) ho,r⟩
 .refine(I.hok b u e).stay (fun c v hc q=>k c v ?_ q) (fun _ q=>q) fun _ _ q=>q
  rcases hc with z|z
  .rw[z];exact nit b u e
  .exact nit c _ z
theorem Inv.tok (I:Inv X pins σ H s) (t:Nat):Inv X pins σ H { s with toks:=t }:=I.un (h':=s.heap) (t':=t) Un.refl I.hok
theorem Inv.kept {t':Nat} (I:Inv X pins σ H s) (k:∀b u,s.heap.get? b=some u->h'.get? b=some u):Inv X pins σ H { s with heap:=h',toks:=t' }:=I.un (Un.kept k) (I.hok.kept k)
theorem Inv.laid {a:Addr} {o:HO} {t':Nat} (I:Inv X pins σ H s) (k:∀b u,s.heap.get? b=some u->h'.get? b=some u) (hp:s.heap.objs.size<=a) (new:av' X.prog X.w (upd H a o) h' a o):
  Inv X pins σ (upd H a o) { s with heap:=h',toks:=t' }:=I.un (Un.laid k hp (I.hok.fresh hp)) (I.hok.laid k hp new)
theorem Inv.write {x e:Addr} {o:HO} {t':Nat} (I:Inv X pins σ H s) (mu:Mut (H x)) (he:e=x\/H e=some (.own x)) (k:∀b u,b≠e->s.heap.get? b=some u->h'.get? b=some u) (heo:∃u,h'.get? e=some u)
  (new:av' X.prog X.w (upd H x o) h' x o):Inv X pins σ (upd H x o) { s with heap:=h',toks:=t' }:=I.un (Un.write mu he k heo) (I.hok.write mu he k heo new)
theorem Inv.weak {σ':List (Option V)} (I:Inv X pins σ H s) (hl:σ'.length=σ.length) (w:∀(i:Nat) v,σ'[i]?=some (some v)->σ[i]?=some (some v)):Inv X pins σ' H s:=
 ⟨I.ok,I.os,I.bare,I.base,let⟨m,hn,hl'⟩:=I.loc;⟨m,hn,fun i x v e1 e2 e3=>hl' i x v e1 (w i v e2) e3⟩,I.cell,I.free,I.freeC,I.pin,I.hok,hl.trans I.len⟩
theorem Inv.pins_of {pins':List (Addr×Obj)} (I:Inv X pins σ H s) (h:∀p∈pins',s.heap.get? p.1=some p.2/\H p.1=none/\p.1≠X.env.locals/\p.1∉X.fs/\∀v,p.2.data≠.cell v):Inv X pins' σ H s:=
 ⟨I.ok,I.os,I.bare,I.base,I.loc,I.cell,I.free,I.freeC,fun p hp=>(aA.mp hp).elim (fun z=>I.pin p (aZ _ z)) (h p),I.hok,I.len⟩
theorem fm' {N:List Str} (hN:N.Nodup) {i j:Nat} {x:Str} (a:N[i]?=some x) (b:N[j]?=some x):i=j:=by
 obtain⟨h1,e1⟩:=aC.mp a
 obtain⟨h2,e2⟩:=aC.mp b
 exact(List.getElem_inj hN).mp (e1.trans e2.symm)
theorem c3' {M:Model} {A:Around} {E:Value->Shared->Prop} {i:Nat} {x:Str} {v:V} {u:Value} {Q:Unit->Shared->Prop} (I:Inv X pins σ H s) (hN:X.N.Nodup) (hi:X.N[i]?=some x) (hx:Loc X.env.scope x) (r:aF' v u)
  (h:∀s',Inv X pins (σ.set i (some v)) H s'->(∃a,cm a s.heap s'.heap/\(a=X.env.locals\/X.env.cells.lookup x=some a))->Q () s') (hf:X.fn x=true\/X.env.scope.names.lookup x=some .local:=by first|exact .inl rfl|exact .inr rfl|assumption):wpAny M A (storeName X.env x u) Q E s:=by
 obtain⟨m,hn,hl⟩:=id I.loc
 have hcls:(X.env.scope.kind == .class || (X.env.scope.kind == .module&&X.env.locals != X.env.globals))=false:=by rw[I.ok.kind];rfl
 have hiσ:i<σ.length:=by rw[I.len];exact(aC.mp hi).1
 have cne:=I.cne
 have tracked:∀{a:Addr} {h':Heap},(∃o,s.heap.get? a=some o/\H a=none)->cm a s.heap h'->HOk X.prog X.w H h':=fun {a h'} ha hs b ob e=>by
  obtain⟨_,_,hfree⟩:=ha
  refine(I.hok b ob e).stay (fun c w' hc q=>(hs.2 c ?_).trans q) (fun _ q=>q) fun _ _ q=>q
  rintro rfl
  rcases hc with rfl|hc
  .rw[hfree]at e;cases e
  .rw[hfree]at hc;cases hc
 rcases hx with hk|hk
 .refine wpAny_storeName_local hk hn (fun h' hn' hs=>?_) hcls
  obtain⟨oL,_,_,hoL,_⟩:=id hn
  refine h _ ⟨I.ok,I.os,I.bare,⟨fun b o e n hb hx=>?_,fun b o e n hb hx=>?_,I.base.free,fun b o e hx=>?_,I.base.tups,I.base.frzs,I.base.tbls⟩,⟨_,hn',fun j y v' e1 e2 e3=>?_⟩,fun y c e=>?_,I.free,I.freeC,fun p hp=>?_,tracked ⟨oL,hoL,I.free⟩ hs,by simpa using I.len⟩ ⟨_,hs,.inl rfl⟩
  .exact(hs.2 b (aB (ak (av e) I.ok.above))).trans (I.base.keep b o e n hb hx)
  .obtain⟨sl,e1⟩:=I.base.slot b o e n hb hx
   exact⟨sl,(hs.2 b (aB (ak (av e) I.ok.above))).trans e1⟩
  .obtain⟨o',e1⟩:=I.base.there b o e hx
   exact⟨o',(hs.2 b (aB (ak (av e) I.ok.above))).trans e1⟩
  .by_cases hj:j=i
   .subst hj
    rw[hi]at e1;cases e1
    rw[bV hiσ]at e2
    cases e2
    exact⟨u,r,.inl ⟨hk,by simp⟩⟩
   .rw[bp (Ne.symm hj)]at e2
    obtain⟨u',r',q⟩:=hl j y v' e1 e2 e3
    refine⟨u',r',?_⟩
    rcases q with⟨k,e⟩|⟨k,c,e,z⟩
    .refine .inl ⟨k,?_⟩
     have:y≠x:=fun e=>hj (fm' hN e1 (e ▸ hi))
     simp[this,e]
    .exact .inr ⟨k,c,e,z.sameBut hs (cne y c e)⟩
  .obtain⟨w',z⟩:=I.cell y c e
   exact⟨w',z.sameBut hs (cne y c e)⟩
  .obtain⟨e,n,ne,nf,d⟩:=I.pin p hp
   exact⟨(hs.2 p.1 ne).trans e,n,ne,nf,d⟩
 .have hfn:X.fn x=true:=by
   rcases hf with z|z
   .exact z
   .rw[z]at hk;cases hk
  obtain⟨c,hc⟩:=I.ok.has x (.inl hk)
  obtain⟨w',z⟩:=I.cell x c hc
  refine wpAny_storeName_cell I.ok.kind hk hc z (fun h' hc' hs=>?_)
  obtain⟨oc,hoc,hocd⟩:=id z
  refine h { s with heap:=h' } ⟨I.ok,I.os,I.bare,⟨fun b o e n hb hx=>?_,fun b o e n hb hx=>?_,I.base.free,fun b o e hx=>?_,I.base.tups,I.base.frzs,I.base.tbls⟩,⟨m,hn.sameBut hs (Ne.symm (cne x c hc)),fun j y v' e1 e2 e3=>?_⟩,fun y c' e=>?_,I.free,I.freeC,fun p hp=>?_,tracked ⟨oc,hoc,I.freeC x c hc⟩ hs,by simpa using I.len⟩ ⟨c,hs,.inr hc⟩
  .exact(hs.2 b (aB (ak (av e) (I.ok.cab x c hfn hc)))).trans (I.base.keep b o e n hb hx)
  .obtain⟨sl,e1⟩:=I.base.slot b o e n hb hx
   exact⟨sl,(hs.2 b (aB (ak (av e) (I.ok.cab x c hfn hc)))).trans e1⟩
  .obtain⟨o',e1⟩:=I.base.there b o e hx
   exact⟨o',(hs.2 b (aB (ak (av e) (I.ok.cab x c hfn hc)))).trans e1⟩
  .by_cases hj:j=i
   .subst hj
    rw[hi]at e1;cases e1
    rw[bV hiσ]at e2
    cases e2
    exact⟨u,r,.inr ⟨.inl hk,c,hc,hc'⟩⟩
   .rw[bp (Ne.symm hj)]at e2
    obtain⟨u',r',q⟩:=hl j y v' e1 e2 e3
    refine⟨u',r',?_⟩
    rcases q with q|⟨k,c',e,z'⟩
    .exact .inl q
    .refine .inr ⟨k,c',e,z'.sameBut hs ?_⟩
     rintro rfl
     exact hj (fm' hN e1 (I.ok.inj _ _ _ e hc ▸ hi))
  .by_cases hcc:c'=c
   .subst hcc;exact⟨_,hc'⟩
   .obtain⟨w2,z2⟩:=I.cell y c' e
    exact⟨w2,z2.sameBut hs hcc⟩
  .obtain⟨e,n,ne,nf,d⟩:=I.pin p hp
   refine⟨(hs.2 p.1 ?_).trans e,n,ne,nf,d⟩
   intro q
   rw[q,hoc]at e
   have q':oc=p.2:=Option.some.inj e
   exact d w' (by rw[<- q'];exact hocd)
theorem in' {M:Model} {A:Around} {E:Value->Shared->Prop} {i:Nat} {x:Str} {v:V} {u:Value} {Q:Unit->Shared->Prop} (I:Inv X pins σ H s) (hN:X.N.Nodup) (hi:X.N[i]?=some x) (hx:Loc X.env.scope x) (r:aF' v u)
  (h:∀s',Inv X pins (σ.set i (some v)) H s'->Q () s') (hf:X.fn x=true\/X.env.scope.names.lookup x=some .local:=by first|exact .inl rfl|exact .inr rfl|assumption):wpAny M A (storeName X.env x u) Q E s:=
 c3' I hN hi hx r (fun s' I' _=>h s' I') hf
theorem Inv.call' {s':Shared} {ch:List Addr} (I:Inv X pins σ H s) (ho:s'.os=s.os) (u:Un (frs X.stack) ch H H' s.heap s'.heap) (hok:HOk X.prog X.w H' s'.heap) (hg:AllBare s'.gens)
  (hch:∀b∈ch,(b∈X.ex\/X.s₀.heap.objs.size<=b)/\b≠X.env.locals/\(∀x c,X.env.cells.lookup x=some c->c≠b)/\∀p∈X.pn++pins,p.1≠b):Inv X pins σ H' s':=by
 obtain⟨h',g',d',t',o'⟩:=s'
 have e:o'=s.os:=ho
 subst e
 exact I.call (g':=g') (t':=t') (d':=d') u hok hg hch
end
abbrev XK:=Value->Option Addr->Hp->Prop
abbrev St:=List (Option V)
abbrev VK:=V->Hp->Prop
abbrev TE:=St->Hp->VK->Prop
abbrev TT:=St->Hp->(Bool->Hp->Prop)->Prop
abbrev TA:=St->Hp->(List V->Hp->Prop)->Prop
structure Ends where
 nx:St->Hp->Prop
 rt:VK
 bk:St->Hp->Prop:=fun _ _=>False
 ct:St->Hp->Prop:=fun _ _=>False
abbrev TS:=Ends->St->Hp->Prop
def EP (X:Cx) (pins:List (Addr×Obj)) (σ:St) (Q:VK) (u:Value) (s':Shared):Prop:=∃v H',Inv X pins σ H' s'/\aF' v u/\Q v H'
def TP (X:Cx) (pins:List (Addr×Obj)) (σ:St) (Q:Bool->Hp->Prop) (b:Bool) (s':Shared):Prop:=∃H',Inv X pins σ H' s'/\Q b H'
def AP (X:Cx) (pins:List (Addr×Obj)) (σ:St) (Q:List V->Hp->Prop) (us:List Value) (s':Shared):Prop:=∃vs H',Inv X pins σ H' s'/\aL' vs us/\Q vs H'
def SP (X:Cx) (pins:List (Addr×Obj)) (D:Ends) (f:Flow) (s':Shared):Prop:=
 match f with
 | .next=>∃σ' H',Inv X pins σ' H' s'/\D.nx σ' H'
 | .brk=>∃σ' H',Inv X pins σ' H' s'/\D.bk σ' H'
 | .cont=>∃σ' H',Inv X pins σ' H' s'/\D.ct σ' H'
 | .ret u=>∃v σ' H',Inv X pins σ' H' s'/\aF' v u/\D.rt v H'
def PE (X:Cx) (e:Expr) (t:TE):Prop:=
 ∀(pins:List (Addr×Obj)) (s:Shared) (σ:St) (H:Hp) (Q:VK),Inv X pins σ H s->t σ H Q->wpAny (model X.prog X.w) X.A (eval e X.env) (EP X pins σ Q) X.xe s
def PT (X:Cx) (e:Expr) (t:TT):Prop:=
 ∀(pins:List (Addr×Obj)) (s:Shared) (σ:St) (H:Hp) (Q:Bool->Hp->Prop),Inv X pins σ H s->t σ H Q->wpAny (model X.prog X.w) X.A (isTrue e X.env (eval e X.env)) (TP X pins σ Q) X.xe s
def PW (X:Cx) (e:Expr) (t:TT):Prop:=
 ∀(whole:Sem Value) (pins:List (Addr×Obj)) (s:Shared) (σ:St) (H:Hp) (Q:Bool->Hp->Prop),Inv X pins σ H s->t σ H Q->wpAny (model X.prog X.w) X.A (isTrue e X.env whole) (TP X pins σ Q) X.xe s
theorem PW.pt {X:Cx} {e:Expr} {t:TT} (h:PW X e t):PT X e t:=h _
def PA (X:Cx) (es:List Expr) (t:TA):Prop:=
 ∀(pos:Pos) (pins:List (Addr×Obj)) (s:Shared) (σ:St) (H:Hp) (Q:List V->Hp->Prop),Inv X pins σ H s->t σ H Q->wpAny (model X.prog X.w) X.A (spliced (backTo pos (starEach es X.env))) (AP X pins σ Q) X.xe s
def PS (X:Cx) (st:Stmt) (t:TS):Prop:=
 ∀(pins:List (Addr×Obj)) (s:Shared) (σ:St) (H:Hp) (D:Ends),Inv X pins σ H s->t D σ H->wpAny (model X.prog X.w) X.A (exec st X.env) (SP X pins D) X.xe s
def PSs (X:Cx) (st:List Stmt) (t:TS):Prop:=
 ∀(pins:List (Addr×Obj)) (s:Shared) (σ:St) (H:Hp) (D:Ends),Inv X pins σ H s->t D σ H->wpAny (model X.prog X.w) X.A (execs st X.env) (SP X pins D) X.xe s
theorem thn {α:Type} {t:Sem α} {Q Q':α->Shared->Prop} {M:Model} {A:Around} {E:Value->Shared->Prop} {s:Shared} (h:wpAny M A t Q E s) (hQ:∀a s,Q a s->Q' a s):wpAny M A t Q' E s:=bw h hQ fun _ _ x=>x
section
variable {X:Cx}
theorem bin {a b:Expr} {ta tb:TE} (ha:PE X a ta) (hb:PE X b tb) {pins:List (Addr×Obj)} {s:Shared} {σ:St} {H:Hp} {R:V->V->Hp->Prop} (I:Inv X pins σ H s) (h:ta σ H fun x H1=>tb σ H1 fun y H2=>R x y H2)
  {α:Type} {Q:α->Shared->Prop} {f:Value->Value->Sem α}
  (hf:∀v u s2 x y H2,Inv X pins σ H2 s2->aF' x v->aF' y u->R x y H2->wpAny (model X.prog X.w) X.A (f v u) Q X.xe s2):
  wpAny (model X.prog X.w) X.A (eval a X.env) (fun v s₁=>wpAny (model X.prog X.w) X.A (eval b X.env) (fun u s₂=>wpAny (model X.prog X.w) X.A (f v u) Q X.xe s₂) X.xe s₁) X.xe s:=by
 refine thn (ha pins s σ H _ I h) fun v s1 ⟨x,H1,I1,r1,q1⟩=>?_
 refine thn (hb pins s1 σ H1 _ I1 q1) fun u s2 ⟨y,H2,I2,r2,q2⟩=>?_
 exact hf v u s2 x y H2 I2 r1 r2 q2
def wL' (i:Nat):TE:=fun σ H Q=>∃v,σ[i]?=some (some v)/\Q v H
def tC (v:V):TE:=fun _ H Q=>Q v H
theorem f3' {i:Nat} {x:Str} {pos:Pos} (hN:X.N[i]?=some x) (hv:Vis X.env.scope x) (hd:(x == ("__debug__":Str))=false:=by decide) (hcd:(x == ("__classdict__":Str))=false:=by decide):PE X (.Name x pos) (wL' i):=by
 intro pins s σ H Q I h
 obtain⟨v,e,h⟩:=h
 obtain⟨m,hn,hl⟩:=I.loc
 obtain⟨u,r,l⟩:=hl i x v hN e hv
 have fin:EP X pins σ Q u s:=⟨v,H,I,r,h⟩
 rcases l with⟨hk,hm⟩|⟨hk,c,hc,hcell⟩
 .exact wpAny_Name (wpAny_loadName_local I.ok.kind hk hn hm fin) hd
 .rcases hk with hk|hk
  .exact wpAny_Name (wpAny_loadName_cell I.ok.kind hk hc hcell fin) hd
  .exact wpAny_Name (wpAny_loadName_free I.ok.kind hk hc hcell fin hcd) hd
theorem tl' {i j pos}:PE X (.Constant (.int i) j pos) (tC (.int i)):=fun _ _ _ H _ I h=>wpAny_Constant_int ⟨.int i,H,I.tok _,⟨_,rfl⟩,h⟩
theorem xc' {b j pos}:PE X (.Constant (.bool b) j pos) (tC (.bl b)):=fun _ _ _ H _ I h=>Constant_bool ⟨.bl b,H,I,rfl,h⟩
theorem tm' {j pos}:PE X (.Constant .none j pos) (tC .non):=fun _ _ _ H _ I h=>Constant_none ⟨.non,H,I,rfl,h⟩
theorem tn' {x j pos}:PE X (.Constant (.str x) j pos) (tC (.str x)):=fun _ _ _ H _ I h=>Calls.Constant_str ⟨.str x,H,I.tok _,⟨_,rfl⟩,h⟩
def Gl (X:Cx) (x:Str):Prop:=X.env.kindOf x=some .globalImplicit
theorem fn' {E:Value->Shared->Prop} {pins:List (Addr×Obj)} {s:Shared} {σ:St} {H:Hp} {x:Str} {u:Value} {pos:Pos} {Q:Value->Shared->Prop} (I:Inv X pins σ H s) (hg:Gl X x) (hm:X.mg x=some u) (h:Q u s)
  (hd:(x == ("__debug__":Str))=false:=by decide):wpAny (model X.prog X.w) X.A (eval (.Name x pos) X.env) Q E s:=
 Calls.Name_function_global I.ok.kind hg (Calls.loadGlobal_global (by rw[I.ok.glob];exact I.mod.glob.keeps I.bk) hm h) hd
theorem dD' {E:Value->Shared->Prop} {pins:List (Addr×Obj)} {s:Shared} {σ:St} {H:Hp} {x:Str} {u:Value} {pos:Pos} {Q:Value->Shared->Prop} (I:Inv X pins σ H s) (hg:Gl X x) (hm:X.mg x=none) (hv:bootBuiltins x=some u) (h:Q u s)
  (hn:x≠"__name__":=by decide) (hd:(x == ("__debug__":Str))=false:=by decide):wpAny (model X.prog X.w) X.A (eval (.Name x pos) X.env) Q E s:=by
 obtain⟨mb,h1,h2⟩:=I.mod.blt
 exact Calls.Name_function_global I.ok.kind hg (Calls.loadGlobal_builtin (by rw[I.ok.glob];exact I.mod.glob.keeps I.bk) hm (by rw[I.ok.blt];exact h1.keeps I.bk) ((h2 x hn).trans hv) h) hd
theorem qH' {x:Str} {v:V} {u:Value} {pos:Pos} (hg:Gl X x) (hm:X.mg x=none) (hv:bootBuiltins x=some u) (r:aF' v u) (hn:x≠"__name__":=by decide) (hd:(x == ("__debug__":Str))=false:=by decide):PE X (.Name x pos) (tC v):=
 fun _ _ _ H _ I h=>dD' I hg hm hv ⟨v,H,I,r,h⟩ hn hd
variable {a b:Expr} {ta tb:TE} {pos:Pos}
def PC (X:Cx) (op:CmpOp) (a b:Expr) (t:TE):Prop:=
 ∀(pins:List (Addr×Obj)) (s:Shared) (σ:St) (H:Hp) (Q:VK),Inv X pins σ H s->t σ H Q->
  wpAny (model X.prog X.w) X.A (eval a X.env) (fun v s₁=>wpAny (model X.prog X.w) X.A (eval b X.env) (fun u s₂=>wpAny (model X.prog X.w) X.A (compareOp op v u) (EP X pins σ Q) X.xe s₂) X.xe s₁) X.xe s
def tB (t:TE):TT:=fun σ H Q=>t σ H fun x H1=>∃c,x=.bl c/\Q c H1
theorem o0' {op:CmpOp} {t:TE} (h:PC X op a b t) (h1:behindInMarks op b=false:=by rfl):PE X (.Compare a [op] [b] pos) t:=fun pins s σ H Q I hw=>wpAny_Compare1 (h pins s σ H Q I hw) h1
theorem o1' {op:CmpOp} {t:TE} (h:PC X op a b t) (h1:behindInMarks op b=false:=by rfl):PT X (.Compare a [op] [b] pos) (tB t):=by
 intro pins s σ H Q I hw
 refine wpAny_isTrue_Compare1 (thn (h pins s σ H _ I hw) fun v s1 h1=>thn h1 fun u s2 h2=>thn h2 fun c s3 ⟨x,H1,I1,r1,q1⟩=>?_) h1
 obtain⟨d,rfl,q⟩:=q1
 cases r1
 exact bi ⟨H1,I1,q⟩
variable {tA tB':TT} {as':List Expr}
def to' (t u:TT):TT:=fun σ H Q=>t σ H fun c H1=>if c=true then u σ H1 Q else Q false H1
def tOr (t u:TT):TT:=fun σ H Q=>t σ H fun c H1=>if c=true then Q true H1 else u σ H1 Q
def xd' (t:TT):TT:=fun σ H Q=>t σ H fun c H1=>Q (!c) H1
theorem qI' (ha:PT X a tA):PW X (.BoolOp .And [a] pos) tA:=by
 intro wh pins s σ H Q I h
 refine isTrue_and (thn (ha pins s σ H Q I h) fun c s1 e=>?_)
 cases c with
 |true=>exact isTrue_and_nil e
 |false=>exact e
theorem tp' (ha:PT X a tA):PW X (.BoolOp .Or [a] pos) tA:=by
 intro wh pins s σ H Q I h
 refine isTrue_or (thn (ha pins s σ H Q I h) fun c s1 e=>?_)
 cases c with
 |false=>exact isTrue_or_nil e
 |true=>exact e
theorem o2' (ha:PT X a tA) (hb:PW X (.BoolOp .And (b :: as') pos) tB'):PW X (.BoolOp .And (a :: b :: as') pos) (to' tA tB'):=by
 intro wh pins s σ H Q I h
 refine isTrue_and (thn (ha pins s σ H _ I h) fun c s1 ⟨H1,I1,q1⟩=>?_)
 cases c with
 |true=>exact hb wh pins s1 σ H1 Q I1 q1
 |false=>exact⟨H1,I1,q1⟩
theorem tq' (ha:PT X a tA) (hb:PW X (.BoolOp .Or (b :: as') pos) tB'):PW X (.BoolOp .Or (a :: b :: as') pos) (tOr tA tB'):=by
 intro wh pins s σ H Q I h
 refine isTrue_or (thn (ha pins s σ H _ I h) fun c s1 ⟨H1,I1,q1⟩=>?_)
 cases c with
 |true=>exact⟨H1,I1,q1⟩
 |false=>exact hb wh pins s1 σ H1 Q I1 q1
theorem tr' (ha:PT X a tA):PT X (.UnaryOp .Not a pos) (xd' tA):=by
 intro pins s σ H Q I h
 exact isTrue_not (ha pins s σ H (fun c H1=>Q (!c) H1) I h)
def ng' (ta tb:TE):TE:=fun σ H Q=>ta σ H fun x H1=>∃c,x=.bl c/\if c=true then tb σ H1 Q else Q (.bl false) H1
def wM' (ta tb:TE):TE:=fun σ H Q=>ta σ H fun x H1=>∃c,x=.bl c/\if c=true then Q (.bl true) H1 else tb σ H1 Q
def qJ' (ta:TE):TE:=fun σ H Q=>ta σ H fun x H1=>∃c,x=.bl c/\Q (.bl (!c)) H1
theorem o3' {op} {t:TE} (h:PE X a t):PE X (.BoolOp op [a] pos) t:=fun pins s σ H Q I hw=>BoolOp_one (h pins s σ H Q I hw)
theorem o4' (ha:PE X a ta) (hb:PE X (.BoolOp .And (b :: as') pos) tb):PE X (.BoolOp .And (a :: b :: as') pos) (ng' ta tb):=by
 intro pins s σ H Q I h
 refine BoolOp_and (thn (ha pins s σ H _ I h) fun v s1 ⟨x,H1,I1,r1,q1⟩=>?_)
 obtain⟨c,rfl,q1⟩:=q1
 cases r1
 refine bi ?_
 cases c with
 |true=>exact hb pins s1 σ H1 Q I1 q1
 |false=>exact⟨.bl false,H1,I1,rfl,q1⟩
theorem ts' (ha:PE X a ta) (hb:PE X (.BoolOp .Or (b :: as') pos) tb):PE X (.BoolOp .Or (a :: b :: as') pos) (wM' ta tb):=by
 intro pins s σ H Q I h
 refine BoolOp_or (thn (ha pins s σ H _ I h) fun v s1 ⟨x,H1,I1,r1,q1⟩=>?_)
 obtain⟨c,rfl,q1⟩:=q1
 cases r1
 refine bi ?_
 cases c with
 |false=>exact hb pins s1 σ H1 Q I1 q1
 |true=>exact⟨.bl true,H1,I1,rfl,q1⟩
theorem tt' (ha:PE X a ta):PE X (.UnaryOp .Not a pos) (qJ' ta):=by
 intro pins s σ H Q I h
 refine UnaryOp_ (thn (ha pins s σ H _ I h) fun v s1 ⟨x,H1,I1,r1,q1⟩=>?_)
 obtain⟨c,rfl,q1⟩:=q1
 cases r1
 exact not_of (bi ⟨.bl (!c),H1,I1,rfl,q1⟩)
def tIf (t:TT) (ta tb:TE):TE:=fun σ H Q=>t σ H fun c H1=>if c=true then ta σ H1 Q else tb σ H1 Q
theorem nh' {c:Expr} (hc:PT X c tA) (ha:PE X a ta) (hb:PE X b tb):PE X (.IfExp c a b pos) (tIf tA ta tb):=by
 intro pins s σ H Q I h
 refine wpAny_IfExp (thn (hc pins s σ H _ I h) fun d s1 ⟨H1,I1,q1⟩=>?_)
 cases d with
 |true=>exact ha pins s1 σ H1 Q I1 q1
 |false=>exact hb pins s1 σ H1 Q I1 q1
end
def SqL (K:W.Frag) (H:Hp) (a:Addr) (xs:List V):Prop:=
 Rd H a (.lst xs)\/
  ∃(o:Obj) (its:Array Value) (n:Nat),K.lookup a=some o/\o.cls=.type "list"/\o.dict=none/\o.data=.seq its n/\its.size<=sizeLine/\aL' xs its.toList
def SqT (K:W.Frag) (H:Hp) (a:Addr) (xs:List V):Prop:=
 Rd H a (.tup xs)\/
  ∃(o:Obj) (its:Array Value) (n:Nat),K.lookup a=some o/\o.cls=.type "tuple"/\o.data=.seq its n/\its.size<=sizeLine/\aL' xs its.toList
def zQ':Value->Option V
 | .none=>some .non
 | .bool b=>some (.bl b)
 | .int i _=>some (.int i)
 | .str x _=>some (.str x)
 | .bytes b _=>some (.byt b)
 | .float b _=>some (.flt b)
 | .ref a=>some (.ref a)
 | .type n=>some (.ty n)
 |_=>none
theorem aF'.abs {x:V} {u:Value} (r:aF' x u):zQ' u=some x:=by
 cases x with
 |non=>cases r;rfl
 |bl _=>cases r;rfl
 |int _=>obtain⟨t,rfl⟩:=r;rfl
 |str _=>obtain⟨t,rfl⟩:=r;rfl
 |byt _=>obtain⟨t,rfl⟩:=r;rfl
 |flt _=>obtain⟨t,rfl⟩:=r;rfl
 |ref _=>cases r;rfl
 |ty _=>cases r;rfl
theorem aF'.inj {x y:V} {u:Value} (r:aF' x u) (q:aF' y u):x=y:=Option.some.inj (r.abs.symm.trans q.abs)
theorem aL'.inj:∀{xs ys:List V} {us:List Value},aL' xs us->aL' ys us->xs=ys
 |_,_,_,.nil,.nil=>rfl
 |_,_,_,.cons r t,.cons r' t'=>by rw[r.inj r',aL'.inj t t']
section
variable {X:Cx} {pins:List (Addr×Obj)} {σ:St} {H:Hp} {s:Shared} {a:Addr} {xs ys:List V}
theorem SqL.of {K:W.Frag} (h:H a=some (.lst xs)):SqL K H a xs:=.inl (.inl h)
theorem SqT.of {K:W.Frag} (h:H a=some (.tup xs)):SqT K H a xs:=.inl (.inl h)
theorem Inv.list (I:Inv X pins σ H s) (h:SqL X.K H a xs):∃its:List Value,aL' xs its/\PlainL s.heap a its.toArray/\xs.length<=sizeLine:=by
 rcases h with h|⟨o,its,n,hk,hc,hd,hs,hz,r⟩
 .obtain⟨z,its,n,r,e⟩:=h.ok I.hok
  exact⟨its,r,⟨_,n,e,rfl,rfl,rfl⟩,z⟩
 .refine⟨its.toList,r,⟨o,n,I.kIn a o hk,hc,hd,by simpa using hs⟩,?_⟩
  have e:=r.length
  simp only[aP]at e
  omega
theorem Inv.tuple (I:Inv X pins σ H s) (h:SqT X.K H a xs):∃its:List Value,aL' xs its/\IsTup s.heap a its.toArray/\xs.length<=sizeLine:=by
 rcases h with h|⟨o,its,n,hk,hc,hs,hz,r⟩
 .obtain⟨z,its,r,p⟩:=h.ok I.hok
  exact⟨its,r,p.tup,z⟩
 .refine⟨its.toList,r,⟨o,I.kIn a o hk,hc,n,by simpa using hs⟩,?_⟩
  have e:=r.length
  simp only[aP]at e
  omega
theorem Inv.list_inj (I:Inv X pins σ H s) (h:SqL X.K H a xs) (h':SqL X.K H a ys):xs=ys:=by
 obtain⟨its,r,⟨o,n,e,_,_,d⟩,_⟩:=I.list h
 obtain⟨its',r',⟨o',n',e',_,_,d'⟩,_⟩:=I.list h'
 rw[e]at e';cases e'
 rw[d]at d'
 injection d' with d1 _
 have:its=its':=by simpa using congrArg Array.toList d1
 subst this
 exact r.inj r'
theorem Inv.tuple_inj (I:Inv X pins σ H s) (h:SqT X.K H a xs) (h':SqT X.K H a ys):xs=ys:=by
 obtain⟨its,r,⟨o,e,_,n,d⟩,_⟩:=I.tuple h
 obtain⟨its',r',⟨o',e',_,n',d'⟩,_⟩:=I.tuple h'
 rw[e]at e';cases e'
 rw[d]at d'
 injection d' with d1 _
 have:its=its':=by simpa using congrArg Array.toList d1
 subst this
 exact r.inj r'
end
abbrev Cx.wish (X:Cx) (E:Value->Shared->Prop):Cx:={ X with xe:=E }
abbrev Cx.nox (X:Cx):Cx:=X.wish fun _ _=>False
theorem Cx.Ok.wish {X:Cx} (ok:X.Ok) (E:Value->Shared->Prop):(X.wish E).Ok:=
 ⟨ok.mod,ok.kind,ok.glob,ok.blt,ok.above,ok.inj,ok.has,ok.cab,ok.hd,ok.frames,ok.stk,ok.exf,ok.bs,ok.bsz,ok.noex,ok.exfs,ok.funs,ok.frf⟩
theorem Cx.Ok.unwish {X:Cx} {E:Value->Shared->Prop} (ok:(X.wish E).Ok):X.Ok:=
 ⟨ok.mod,ok.kind,ok.glob,ok.blt,ok.above,ok.inj,ok.has,ok.cab,ok.hd,ok.frames,ok.stk,ok.exf,ok.bs,ok.bsz,ok.noex,ok.exfs,ok.funs,ok.frf⟩
section
variable {X:Cx} {pins:List (Addr×Obj)} {σ:St} {H:Hp} {s:Shared} {E:Value->Shared->Prop}
theorem Inv.wish (I:Inv X pins σ H s) (E:Value->Shared->Prop):Inv (X.wish E) pins σ H s:=⟨I.ok.wish E,I.os,I.bare,I.base,I.loc,I.cell,I.free,I.freeC,I.pin,I.hok,I.len⟩
theorem Inv.unwish (I:Inv (X.wish E) pins σ H s):Inv X pins σ H s:=⟨I.ok.unwish,I.os,I.bare,I.base,I.loc,I.cell,I.free,I.freeC,I.pin,I.hok,I.len⟩
theorem SP.unwish {D:Ends} {f:Flow} {s':Shared} (h:SP (X.wish E) pins D f s'):SP X pins D f s':=by
 cases f with
 |next=>obtain⟨σ',H',I,q⟩:=h;exact⟨σ',H',I.unwish,q⟩
 |brk=>obtain⟨σ',H',I,q⟩:=h;exact⟨σ',H',I.unwish,q⟩
 |cont=>obtain⟨σ',H',I,q⟩:=h;exact⟨σ',H',I.unwish,q⟩
 |ret u=>obtain⟨v,σ',H',I,r,q⟩:=h;exact⟨v,σ',H',I.unwish,r,q⟩
theorem PSs.nox {st:List Stmt} {t:TS} (h:PSs X.nox st t):PSs X st t:=fun pins s σ H D I hw=>
 bw (h pins s σ H D (I.wish _) hw) (fun _ _ q=>q.unwish) fun _ _ z=>False.elim z
end
section
variable {X:Cx} {st:Stmt} {as':List Stmt} {t u:TS} {e:Expr} {te:TE} {pos:Pos}
def qK':TS:=fun D σ H=>D.nx σ H
def xe' (t u:TS):TS:=fun D σ H=>t { D with nx:=u D } σ H
theorem qL':PSs X [] qK':=fun _ _ σ H _ I h=>wpAny_execs_nil ⟨σ,H,I,h⟩
theorem ni' (h1:PS X st t) (h2:PSs X as' u):PSs X (st :: as') (xe' t u):=by
 intro pins s σ H D I h
 refine wpAny_execs_cons (thn (h1 pins s σ H { D with nx:=u D } I h) fun f s1 q=>?_)
 cases f with
 |next=>
  obtain⟨σ',H',I',q⟩:=q
  exact h2 pins s1 σ' H' D I' q
 |ret v=>exact q
 |brk=>exact q
 |cont=>exact q
theorem qM' (h1:PS X st t):PSs X [st] t:=by
 intro pins s σ H D I h
 refine wpAny_execs_cons (thn (h1 pins s σ H D I h) fun f s1 q=>?_)
 cases f with
 |next=>exact wpAny_execs_nil q
 |ret v=>exact q
 |brk=>exact q
 |cont=>exact q
theorem Inv.quiet {pins:List (Addr×Obj)} {σ:St} {H:Hp} {s:Shared} (I:Inv X pins σ H s):interactive X.env=false:=by simp[interactive,I.ok.kind]
def qN' (te:TE):TS:=fun D σ H=>te σ H fun _ H1=>D.nx σ H1
theorem qO' (he:PE X e te) (hs:swapsWith e none pos.line X.env=pure false:=by rfl):PS X (.Expr e pos) (qN' te):=by
 intro pins s σ H D I h
 exact wpAny_Expr_any (thn (he pins s σ H _ I h) fun v s1 ⟨x,H1,I1,r1,q1⟩=>⟨σ,H1,I1,q1⟩) I.quiet hs
def xf' (te:TE):TS:=fun D σ H=>te σ H D.rt
theorem tu' (he:PE X e te):PS X (.Return (some e) pos) (xf' te):=by
 intro pins s σ H D I h
 exact wpAny_Return_some (thn (he pins s σ H _ I h) fun v s1 ⟨x,H1,I1,r1,q1⟩=>⟨x,σ,H1,I1,r1,q1⟩)
def xg' (c:TT) (t u:TS):TS:=fun D σ H=>c σ H fun b H1=>if b=true then t D σ H1 else u D σ H1
theorem xh' {c:Expr} {a b:List Stmt} {tc:TT} (hc:PT X c tc) (ha:PSs X a t) (hb:PSs X b u):PS X (.If c a b pos) (xg' tc t u):=by
 intro pins s σ H D I h
 refine wpAny_If (thn (hc pins s σ H _ I h) fun d s1 ⟨H1,I1,q1⟩=>?_)
 cases d with
 |true=>exact ha pins s1 σ H1 D I1 q1
 |false=>exact hb pins s1 σ H1 D I1 q1
end
abbrev TG:=V->St->Hp->(St->Hp->Prop)->Prop
abbrev TGs:=List V->St->Hp->(St->Hp->Prop)->Prop
def PG (X:Cx) (target:Expr) (t:TG):Prop:=
 ∀(pins:List (Addr×Obj)) (s:Shared) (σ:St) (H:Hp) (v:V) (u:Value) (Q:St->Hp->Prop),Inv X pins σ H s->aF' v u->t v σ H Q->
  wpAny (model X.prog X.w) X.A (assign target X.env u) (fun _ s'=>∃σ' H',Inv X pins σ' H' s'/\Q σ' H') X.xe s
def PGs (X:Cx) (ts:List Expr) (t:TGs):Prop:=
 ∀(pins:List (Addr×Obj)) (s:Shared) (σ:St) (H:Hp) (vs:List V) (us:List Value) (Q:St->Hp->Prop),Inv X pins σ H s->aL' vs us->t vs σ H Q->
  wpAny (model X.prog X.w) X.A (assignInOrder ((assignEach ts X.env).map (·.2)) us) (fun _ s'=>∃σ' H',Inv X pins σ' H' s'/\Q σ' H') X.xe s
abbrev xi':=V->V->V->Hp->(Hp->Prop)->Prop
def yY' (X:Cx) (t:xi'):Prop:=
 ∀(pins:List (Addr×Obj)) (s:Shared) (σ:St) (H:Hp) (o i v:V) (ov iv u:Value) (Q:Hp->Prop),Inv X pins σ H s->aF' o ov->aF' i iv->aF' v u->t o i v H Q->
  wpAny (model X.prog X.w) X.A (setItem ov iv u) (fun _ s'=>∃H',Inv X pins σ H' s'/\Q H') X.xe s
abbrev TIp:=V->V->Hp->VK->Prop
def PIp (X:Cx) (op:Operator) (t:TIp):Prop:=
 ∀(pins:List (Addr×Obj)) (s:Shared) (σ:St) (H:Hp) (x y:V) (v u:Value) (Q:VK),Inv X pins σ H s->aF' x v->aF' y u->t x y H Q->
  wpAny (model X.prog X.w) X.A (inplaceOp op v u) (EP X pins σ Q) X.xe s
section
variable {X:Cx} {pos:Pos}
def c4' (i:Nat):TG:=fun v σ H Q=>Q (σ.set i (some v)) H
theorem qP' {i:Nat} {x:Str} (hN:X.N.Nodup) (hi:X.N[i]?=some x) (hx:Loc X.env.scope x) (hf:X.fn x=true\/X.env.scope.names.lookup x=some .local:=by first|exact .inl rfl|exact .inr rfl|assumption):PG X (.Name x pos) (c4' i):=by
 intro pins s σ H v u Q I r h
 exact wpAny_assign_Name (in' I hN hi hx r (fun s' I'=>⟨_,H,I',h⟩) hf)
def xj':TGs:=fun vs σ H Q=>vs=[]/\Q σ H
def qQ' (t:TG) (u:TGs):TGs:=fun vs σ H Q=>∃v r,vs=v :: r/\t v σ H fun σ' H'=>u r σ' H' Q
theorem qR':PGs X [] xj':=by
 intro pins s σ H vs us Q I r h
 obtain⟨e,h⟩:=h
 subst e
 cases r
 exact assignInOrder_nil ⟨σ,H,I,h⟩
theorem nj' {e:Expr} {es:List Expr} {t:TG} {u:TGs} (h1:PG X e t) (h2:PGs X es u)
  (hs:(assignEach (e :: es) X.env).map (·.2)=assign e X.env :: (assignEach es X.env).map (·.2):=by rfl):PGs X (e :: es) (qQ' t u):=by
 intro pins s σ H vs us Q I r h
 obtain⟨v,vr,e1,h⟩:=h
 subst e1
 cases r with
 |cons r rr=>
  rw[hs]
  refine assignInOrder_cons (thn (h1 pins s σ H _ _ _ I r h) fun _ s1 ⟨σ1,H1,I1,q1⟩=>?_)
  exact h2 pins s1 σ1 H1 _ _ Q I1 rr q1
def zR' (K:W.Frag) (n:Nat) (t:TGs):TG:=fun v σ H Q=>∃a xs,v=.ref a/\SqT K H a xs/\xs.length=n/\t xs σ H Q
theorem tv' {es:List Expr} {k:Nat} {t:TGs} {n:Nat} (hc:X.calm=true) (h:PGs X es t)
  (hn:(assignEach es X.env).length=n:=by rfl) (hst:(assignEach es X.env).findIdx? (·.1)=none:=by rfl):PG X (.Tuple es k pos) (zR' X.K n t):=by
 intro pins s σ H v u Q I r hw
 obtain⟨a,xs,e1,hq,hl,hw⟩:=hw
 subst e1
 cases r
 obtain⟨its,rv,ht,hz⟩:=I.tuple hq
 refine assign_Tuple_tuple (I.ok.hd hc) ht (by simp[hn,<- hl,rv.length]) hst fun h' hx=>?_
 have I1:Inv X pins σ H { s with heap:=h' }:=I.kept (t':=s.toks) fun b o e=>hx b o (aB (av e)) e
 exact h pins _ σ H xs _ Q I1 (by simpa using rv) hw
def xk' (to ti:TE) (t:xi'):TG:=fun v σ H Q=>to σ H fun o H1=>ti σ H1 fun i H2=>t o i v H2 fun H3=>Q σ H3
theorem tw' {o i:Expr} {to ti:TE} {t:xi'} (ho:PE X o to) (hi:PE X i ti) (hs:yY' X t)
  (ha:∀v,assign (.Subscript o i pos) X.env v=(do
   let ov <- holding [v] (eval o X.env)
   let iv <- holding [v,ov] (eval i X.env)
   standAt pos
   holding [v,ov,iv] (setItem ov iv v)
   release [v,ov,iv] []):=by intro _;rfl):PG X (.Subscript o i pos) (xk' to ti t):=by
 intro pins s σ H v u Q I r h
 rw[ha]
 refine aa (aH (thn (ho pins s σ H _ I h) fun ov s1 ⟨x,H1,I1,r1,q1⟩=>?_))
 refine aa (aH (thn (hi pins s1 σ H1 _ I1 q1) fun iv s2 ⟨y,H2,I2,r2,q2⟩=>?_))
 refine aa (bo (aa (aH (thn (hs pins s2 σ H2 x y v ov iv u _ I2 r1 r2 r q2) fun _ s3 ⟨H3,I3,q3⟩=>?_))))
 exact wpAny_release ⟨σ,H3,I3,q3⟩
def kj' (te:TE) (g:TG):TS:=fun D σ H=>te σ H fun x H1=>g x σ H1 D.nx
theorem io' {tg e:Expr} {te:TE} {g:TG} (he:PE X e te) (hg:PG X tg g) (hs:swapsWithSole [tg] e pos.line X.env=pure false:=by rfl) (hw:swappedStores [tg] e X.env=pure none:=by rfl)
  (h1:(assignEach [tg] X.env).map (·.2)=[assign tg X.env]:=by rfl):PS X (.Assign [tg] e pos) (kj' te g):=by
 intro pins s σ H D I h
 refine wpAny_Assign_stores (thn (he pins s σ H _ I h) fun v s1 ⟨x,H1,I1,r1,q1⟩=>?_) hs hw
 rw[h1]
 exact thn (hg pins s1 σ H1 x v _ I1 r1 q1) fun _ s2 q=>q
def xl' (i:Nat) (te:TE) (ti:TIp):TS:=fun D σ H=>∃x,σ[i]?=some (some x)/\te σ H fun y H1=>ti x y H1 fun z H2=>D.nx (σ.set i (some z)) H2
theorem o5' {i:Nat} {x:Str} {e:Expr} {te:TE} {op:Operator} {ti:TIp} {pos':Pos} (hN:X.N.Nodup) (hi:X.N[i]?=some x) (hx:Loc X.env.scope x) (he:PE X e te) (ho:PIp X op ti) (hf:X.fn x=true\/X.env.scope.names.lookup x=some .local:=by first|exact .inl rfl|exact .inr rfl|assumption):
  PS X (.AugAssign (.Name x pos') op e pos) (xl' i te ti):=by
 intro pins s σ H D I h
 obtain⟨v,e1,h⟩:=h
 obtain⟨m,hn,hl⟩:=I.loc
 have vis:Vis X.env.scope x:=by rcases hx with k|k;exact .inl k;exact .inr (.inl k)
 obtain⟨u,r,l⟩:=hl i x v hi e1 vis
 refine wpAny_AugAssign_Name ?_
 have go:wpAny (model X.prog X.w) X.A (eval e X.env) (fun w s₂=>wpAny (model X.prog X.w) X.A (inplaceOp op u w) (fun r s₃=>wpAny (model X.prog X.w) X.A (storeName X.env x r) (fun _=>SP X pins D .next) X.xe s₃) X.xe s₂) X.xe s:=by
  refine thn (he pins s σ H _ I h) fun w s1 ⟨y,H1,I1,r1,q1⟩=>?_
  refine thn (ho pins s1 σ H1 v y u w _ I1 r r1 q1) fun z s2 ⟨zv,H2,I2,r2,q2⟩=>?_
  exact in' I2 hN hi hx r2 (fun s3 I3=>⟨_,H2,I3,q2⟩) hf
 rcases l with⟨hk,hm⟩|⟨hk,c,hc,hcell⟩
 .exact wpAny_loadName_local I.ok.kind hk hn hm go
 .rcases hk with hk|hk
  .exact wpAny_loadName_cell I.ok.kind hk hc hcell go
  .rcases hx with k|k
   .have:X.env.scope.names.lookup x=some .free:=hk
    rw[k]at this;cases this
   .have:X.env.scope.names.lookup x=some .free:=hk
    rw[k]at this;cases this
def ipI (f:Int->Int->Int):TIp:=fun x y H Q=>∃i j,x=.int i/\y=.int j/\Q (.int (f i j)) H
theorem tx':PIp X .Add (ipI fun i j=>i+j):=by
 intro pins s σ H x y v u Q I r1 r2 h
 obtain⟨i,j,e1,e2,q⟩:=h
 subst e1;subst e2
 obtain⟨t,rfl⟩:=r1
 obtain⟨t',rfl⟩:=r2
 exact iadd_int ⟨.int _,H,I.tok _,⟨_,rfl⟩,q⟩
theorem ty':PIp X .Sub (ipI fun i j=>i-j):=by
 intro pins s σ H x y v u Q I r1 r2 h
 obtain⟨i,j,e1,e2,q⟩:=h
 subst e1;subst e2
 obtain⟨t,rfl⟩:=r1
 obtain⟨t',rfl⟩:=r2
 exact isub_int ⟨.int _,H,I.tok _,⟨_,rfl⟩,q⟩
end
section
variable {X:Cx} {pos:Pos}
def kp' (c:TT) (tb:TS):TS:=fun D σ H=>∃W:Nat->St->Hp->Prop,(∃m,W m σ H)/\∀m σ H,W m σ H->
 c σ H fun b H1=>if b=true then ∃N:St->Hp->Prop,(∀σ' H',N σ' H'->∃m',m'<m/\W m' σ' H')/\tb { D with nx:=N,ct:=N,bk:=D.nx } σ H1 else D.nx σ H1
theorem nk' {c:Expr} {body:List Stmt} {tc:TT} {tb:TS} (hp:PassesOwn (model X.prog X.w) X.A X.env X.xe) (hc:PT X c tc) (hb:PSs X body tb):PS X (.While c body [] pos) (kp' tc tb):=by
 intro pins s σ H D I h
 obtain⟨W,⟨m0,w0⟩,turn⟩:=h
 refine wpAny_While (codeAny_whileLoop (fun n s'=>∃σ' H',Inv X pins σ' H' s'/\W n σ' H') ?_ m0 ⟨σ,H,I,w0⟩)
 rintro n s1 ⟨σ1,H1,I1,w1⟩
 refine bP hp (thn (hc pins s1 σ1 H1 _ I1 (turn n σ1 H1 w1)) fun b s2 ⟨H2,I2,q2⟩=>?_)
 cases b with
 |true=>
  obtain⟨N,hN,q2⟩:=q2
  rw[if_pos rfl]
  refine bP hp (thn (hb pins s2 σ1 H2 _ I2 q2) fun f s3 q3=>?_)
  cases f with
  |next=>
   obtain⟨σ3,H3,I3,n3⟩:=q3
   obtain⟨m',hm,w3⟩:=hN σ3 H3 n3
   exact⟨m',hm,σ3,H3,I3,w3⟩
  |cont=>
   obtain⟨σ3,H3,I3,n3⟩:=q3
   obtain⟨m',hm,w3⟩:=hN σ3 H3 n3
   exact⟨m',hm,σ3,H3,I3,w3⟩
  |brk=>exact q3
  |ret v=>exact q3
 |false=>
  rw[if_neg ap]
  exact wpAny_execs_nil ⟨σ1,H2,I2,q2⟩
end
structure It where
 go:Nat->Hp->Prop
 yld:Nat->Hp->V->Hp->Prop
 stop:Nat->Hp->Prop
def c1' (X:Cx) (pins:List (Addr×Obj)) (H:Hp) (b:Addr):Prop:=
 H b=none/\b≠X.env.locals/\b∉X.fs/\(b∈X.ex\/X.s₀.heap.objs.size<=b)/\(∀x c,X.env.cells.lookup x=some c->c≠b)/\∀p∈X.pn++pins,p.1≠b
theorem Inv.fpOk {X:Cx} {pins:List (Addr×Obj)} {σ:St} {H H':Hp} {s:Shared} {b:Addr} (I:Inv X pins σ H s) (hb:s.heap.objs.size<=b) (hn:H' b=none):c1' X pins H' b:=by
 refine⟨hn,bq (ak I.lt hb),I.nofs hb,.inr (aF I.sz hb),fun x c e z=>?_,fun p hp z=>?_⟩
 .obtain⟨v,q⟩:=I.cell x c e
  exact absurd (ak q.lt (by rw[z];exact hb)) (bg _)
 .exact absurd (ak (av (I.pin p hp).1) (by rw[z];exact hb)) (bg _)
structure Turn (P:Program) (w:World) (K:W.Frag) (tg:Expr) (J:It) (fp:List Addr) (it:Addr) (tn:Nat->Heap->Prop):Prop where
 mem:it∈fp
 obj:∀i h,tn i h->∀b∈fp,∃o,h.get? b=some o/\∀v,o.data≠.cell v
 keep:∀i h h',tn i h->(∀b∈fp,∀o,h.get? b=some o->h'.get? b=some o)->tn i h'
 item:∀(X:Cx),X.prog=P->X.w=w->X.K=K->X.calm=true->∀(i:Nat) (pins:List (Addr×Obj)) (s:Shared) (σ:St) (H:Hp) (E:Value->Shared->Prop),Inv X pins σ H s->(∀b∈fp,c1' X pins H b)->tn i s.heap->J.go i H->
  wpAny (model P w) X.A (pyNext (.ref it)) (fun r s1=>∃u,r=some u/\
   wpAny (model P w) X.A (letOwnedTupleGo tg (.ref it) u) (fun _ s2=>∃x H',Inv X pins σ H' s2/\aF' x u/\J.yld i H x H'/\tn (i+1) s2.heap/\∀b∈fp,H' b=none) E s1) E s
 done:∀(X:Cx),X.prog=P->X.w=w->X.K=K->X.calm=true->∀(i:Nat) (pins:List (Addr×Obj)) (s:Shared) (σ:St) (H:Hp) (E:Value->Shared->Prop),Inv X pins σ H s->(∀b∈fp,c1' X pins H b)->tn i s.heap->J.stop i H->
  wpAny (model P w) X.A (pyNext (.ref it)) (fun r s1=>r=none/\Inv X pins σ H s1) E s
 self:∀(A:Around) (i:Nat) (s:Shared) (Q:Value->Shared->Prop) (E:Value->Shared->Prop),tn i s.heap->Q (.ref it) s->wpAny (model P w) A (pyIter (.ref it)) Q E s
abbrev TI:=St->Hp->(It->Hp->Prop)->Prop
def PIE (X:Cx) (pins:List (Addr×Obj)) (σ:St) (tg:Expr) (R:It->Hp->Prop) (itv:Value) (s2:Shared):Prop:=
 ∃(it:Addr) (fp:List Addr) (tn:Nat->Heap->Prop) (J:It) (H':Hp),itv=.ref it/\Inv X pins σ H' s2/\Turn X.prog X.w X.K tg J fp it tn/\tn 0 s2.heap/\(∀b∈fp,c1' X pins H' b)/\R J H'
def PI (X:Cx) (tg iter:Expr) (wi:TI):Prop:=
 ∀(pins:List (Addr×Obj)) (s:Shared) (σ:St) (H:Hp) (R:It->Hp->Prop),Inv X pins σ H s->wi σ H R->
  wpAny (model X.prog X.w) X.A (eval iter X.env) (fun v s1=>wpAny (model X.prog X.w) X.A (pyIter v) (PIE X pins σ tg R) X.xe s1) X.xe s
theorem jD' {M:Model} {A:Around} {E:Value->Shared->Prop} {s:Shared} {tg:Expr} {it:Addr} {u:Value} {o:Obj} {n:String} {vs:Array Value} {Q:Unit->Shared->Prop} (ho:s.heap.get? it=some o) (hc:o.cls=.type n) (hd:o.data=.fields vs)
  (hn:["enumerate","zip","dict_itemiterator","dict_reverseitemiterator","odict_iterator","itertools.zip_longest","itertools.pairwise"].contains n=false) (hQ:Q () s):wpAny M A (letOwnedTupleGo tg (.ref it) u) Q E s:=by
 unfold letOwnedTupleGo
 cases tg<;>first
  |exact ae hQ
  |(cases u<;>first
    |exact ae hQ
    |(refine aa (wpAny_load ho ?_)
      rw[hc,hd]
      show wpAny M A (if(["enumerate","zip","dict_itemiterator","dict_reverseitemiterator","odict_iterator","itertools.zip_longest","itertools.pairwise"].contains n&&vs[0]? == some (rawInt _))=true then _ else _) Q E s
      rw[if_neg (by intro h;rw[hn,Bool.false_and]at h;cases h)]
      exact ae hQ))
def Itl (K:W.Frag) (a:Addr):It:=
 ⟨fun i H=>∃xs x,SqL K H a xs/\xs[i]?=some x,fun i H x H'=>H'=H/\∀xs,SqL K H a xs->xs[i]?=some x,fun i H=>∃xs,SqL K H a xs/\xs.length<=i⟩
def Itt (K:W.Frag) (a:Addr):It:=
 ⟨fun i H=>∃xs x,SqT K H a xs/\xs[i]?=some x,fun i H x H'=>H'=H/\∀xs,SqT K H a xs->xs[i]?=some x,fun i H=>∃xs,SqT K H a xs/\xs.length<=i⟩
def Itr (lo:Int) (n:Nat):It:=⟨fun i _=>i<n,fun i H x H'=>H'=H/\x=.int (lo+i),fun i _=>n<=i⟩
theorem kq' {P:Program} {w:World} {K:W.Frag} {tg:Expr} (a it:Addr):Turn P w K tg (Itl K a) [it] it (fun i h=>h.IsListIter it a i) where
 mem:=by simp
 obj:=fun i h st b hb=>by
  have e:b=it:=by simpa using hb
  subst e
  obtain⟨o,e,c,d⟩:=st
  exact⟨o,e,fun v z=>by rw[d]at z;cases z⟩
 keep:=fun i h h' st k=>st.at fun o e=>k it (by simp) o e
 item:=by
  intro X hP hw hK hc i pins s σ H E I hf st hg
  subst hP hw hK
  obtain⟨xs,x,hq,hx⟩:=hg
  obtain⟨its,rv,p,hz⟩:=I.list hq
  obtain⟨u,hu,ru⟩:=rv.get hx
  obtain⟨f0,f1,f2,f3,f4,f5⟩:=hf it (by simp)
  refine wpAny_pyNext_list_item st p.isList (x:=u) (by simpa using hu) fun h' st' sb=>?_
  have I1:Inv X pins σ H { s with heap:=h' }:=I.turned (t':=s.toks) (fun b o hb e=>(sb.2 b hb).trans e) f0 f1 f3 f4 f5
  obtain⟨o,e,c,d⟩:=id st'
  exact⟨u,rfl,jD' (s:={ s with heap:=h' }) e c d (by decide) ⟨x,H,I1,ru,⟨rfl,fun ys hy=>by rw[I.list_inj hy hq];exact hx⟩,st',fun b hb=>(hf b hb).1⟩⟩
 done:=by
  intro X hP hw hK hc i pins s σ H E I hf st hg
  subst hP hw hK
  obtain⟨xs,hq,hx⟩:=hg
  obtain⟨its,rv,p,hz⟩:=I.list hq
  obtain⟨f0,f1,f2,f3,f4,f5⟩:=hf it (by simp)
  have hl:=rv.length
  exact wpAny_pyNext_list_end (I.ok.hd hc) st p.isList (by simp;omega) fun h' eb=>⟨rfl,I.turned (t':=s.toks) (fun b o hb e=>eb b o hb e) f0 f1 f3 f4 f5⟩
 self:=fun _ _ _ _ _ st h=>wpAny_pyIter_listiter st h
theorem jE' {P:Program} {w:World} {K:W.Frag} {tg:Expr} (a it:Addr):Turn P w K tg (Itt K a) [it] it (fun i h=>h.IsTupleIter it a i) where
 mem:=by simp
 obj:=fun i h st b hb=>by
  have e:b=it:=by simpa using hb
  subst e
  obtain⟨o,e,c,d⟩:=st
  exact⟨o,e,fun v z=>by rw[d]at z;cases z⟩
 keep:=fun i h h' st k=>st.at fun o e=>k it (by simp) o e
 item:=by
  intro X hP hw hK hc i pins s σ H E I hf st hg
  subst hP hw hK
  obtain⟨xs,x,hq,hx⟩:=hg
  obtain⟨its,rv,p,hz⟩:=I.tuple hq
  obtain⟨u,hu,ru⟩:=rv.get hx
  obtain⟨f0,f1,f2,f3,f4,f5⟩:=hf it (by simp)
  refine wpAny_pyNext_tuple_item st (show s.heap.IsTuple a its.toArray from p) (x:=u) (by simpa using hu) fun h' st' sb=>?_
  have I1:Inv X pins σ H { s with heap:=h' }:=I.turned (t':=s.toks) (fun b o hb e=>(sb.2 b hb).trans e) f0 f1 f3 f4 f5
  obtain⟨o,e,c,d⟩:=id st'
  exact⟨u,rfl,jD' (s:={ s with heap:=h' }) e c d (by decide) ⟨x,H,I1,ru,⟨rfl,fun ys hy=>by rw[I.tuple_inj hy hq];exact hx⟩,st',fun b hb=>(hf b hb).1⟩⟩
 done:=by
  intro X hP hw hK hc i pins s σ H E I hf st hg
  subst hP hw hK
  obtain⟨xs,hq,hx⟩:=hg
  obtain⟨its,rv,p,hz⟩:=I.tuple hq
  obtain⟨f0,f1,f2,f3,f4,f5⟩:=hf it (by simp)
  have hl:=rv.length
  exact wpAny_pyNext_tuple_end (I.ok.hd hc) st (show s.heap.IsTuple a its.toArray from p) (by simp;omega) fun h' eb=>⟨rfl,I.turned (t':=s.toks) (fun b o hb e=>eb b o hb e) f0 f1 f3 f4 f5⟩
 self:=fun _ _ _ _ _ st h=>wpAny_pyIter_tupleiter st h
theorem jF' {P:Program} {w:World} {K:W.Frag} {tg:Expr} (it:Addr) (lo:Int) (n:Nat):Turn P w K tg (Itr lo n) [it] it (fun i h=>IsRangeIter h it (lo+(i:Nat)*1) ((n:Int)-(i:Nat)) 1) where
 mem:=by simp
 obj:=fun i h st b hb=>by
  have e:b=it:=by simpa using hb
  subst e
  exact⟨_,st,fun v z=>by
   have z':Data.fields _=Data.cell v:=z
   cases z'⟩
 keep:=fun i h h' st k=>k it (by simp) _ st
 item:=by
  intro X hP hw hK hc i pins s σ H E I hf st hg
  subst hP hw hK
  obtain⟨f0,f1,f2,f3,f4,f5⟩:=hf it (by simp)
  have W:=Walks.range (prog:=X.prog) (w:=X.w) (I.ok.hd hc) it lo 1 n
  refine W.item i s _ _ hg st fun v h' tk hv st' kk=>?_
  obtain⟨t,rfl⟩:=hv
  have I1:Inv X pins σ H { s with heap:=h',toks:=tk }:=I.turned (fun b o hb e=>kk b o (by simpa using hb) e) f0 f1 f3 f4 f5
  refine⟨_,rfl,jD' (s:={ s with heap:=h',toks:=tk }) (n:="range_iterator") st' rfl rfl (by decide) ⟨.int (lo+i),H,I1,⟨t,?_⟩,⟨rfl,rfl⟩,st',fun b hb=>(hf b hb).1⟩⟩
  rw[Int.mul_one]
 done:=by
  intro X hP hw hK hc i pins s σ H E I hf st hg
  subst hP hw hK
  obtain⟨f0,f1,f2,f3,f4,f5⟩:=hf it (by simp)
  exact wpAny_pyNext_range_end (I.ok.hd hc) st (by have:n<=i:=hg;omega) fun h' eb=>⟨rfl,I.turned (t':=s.toks) (fun b o hb e=>eb b o hb e) f0 f1 f3 f4 f5⟩
 self:=fun _ _ _ _ _ st h=>wpAny_pyIter_rangeiter st h
section
variable {X:Cx} {tg:Expr}
theorem ip' {pins:List (Addr×Obj)} {σ:St} {H:Hp} {s:Shared} {R:It->Hp->Prop} {E:Value->Shared->Prop} {lo hi:Int} {t u v:Tok} {tk:Nat} (I:Inv X pins σ H s) (h1:-(2 ^ 62)<=lo) (h2:lo<2 ^ 62) (h3:-(2 ^ 62)<=hi) (h4:hi<2 ^ 62)
  (q:R (Itr lo (hi-lo).toNat) H):wpAny (model X.prog X.w) X.A (pyIter (.ref s.heap.objs.size)) (PIE X pins σ tg R) E { s with heap:=s.heap.push { cls:=.type "range",data:=.fields #[.int lo t,.int hi u,.int 1 v] },toks:=tk }:=by
 refine wpAny_pyIter_range (IsRange.new ..) (small_one h1 h2 h3 h4) ?_
 have I1:Inv X pins σ H { s with heap:=s.heap.push { cls:=.type "range",data:=.fields #[.int lo t,.int hi u,.int 1 v] },toks:=tk }:=I.kept fun b o e=>ag _ e
 refine⟨(s.heap.push { cls:=.type "range",data:=.fields #[.int lo t,.int hi u,.int 1 v] }).objs.size,[(s.heap.push { cls:=.type "range",data:=.fields #[.int lo t,.int hi u,.int 1 v] }).objs.size],_,_,H,rfl,
  I1.kept (t':=tk) fun b o e=>ag _ e,jF' _ lo (hi-lo).toNat,?_,fun b hb=>?_,q⟩
 .have e1:lo+((0:Nat):Int)*1=lo:=by simp
  have e2:(((hi-lo).toNat:Nat):Int)-((0:Nat):Int)=Builtin.Range.rangeSize lo hi 1:=by rw[rangeSize_one];split<;>omega
  show IsRangeIter _ _ (lo+((0:Nat):Int)*1) ((((hi-lo).toNat:Nat):Int)-((0:Nat):Int)) 1
  rw[e1,e2]
  exact ax _ rfl
 .have e:b=(s.heap.push { cls:=.type "range",data:=.fields #[.int lo t,.int hi u,.int 1 v] }).objs.size:=by simpa using hb
  subst e
  exact I1.fpOk (al _) (I1.hok.fresh (al _))
def qS' (ta:TA):TI:=fun σ H R=>ta σ H fun vs H1=>∃j:Int,vs=[.int j]/\-(2 ^ 62)<=j/\j<2 ^ 62/\R (Itr 0 j.toNat) H1
def qT' (ta:TA):TI:=fun σ H R=>ta σ H fun vs H1=>∃i j:Int,vs=[.int i,.int j]/\(-(2 ^ 62)<=i/\i<2 ^ 62/\-(2 ^ 62)<=j/\j<2 ^ 62)/\R (Itr i (j-i).toNat) H1
theorem kr' {a:Expr} {ta:TA} {p pos:Pos} (hg:Gl X "range") (hm:X.mg "range"=none) (ha:PA X [a] ta) (hs:starEach [a] X.env=[(false,eval a X.env)]:=by rfl):PI X tg (.Call (.Name "range" p) [a] [] pos) (qS' ta):=by
 intro pins s σ H R I h
 refine Call_ (dD' I hg hm boot_range (PyProof.Rows.callWith_type1 (thn (ha pos pins s σ H _ I h) fun us s1 ⟨vs,H1,I1,r1,q1⟩=>?_) hs rfl))
 obtain⟨j,e,q1,q2,q⟩:=q1
 subst e
 cases r1 with
 |cons r rr=>
  cases rr
  obtain⟨t,rfl⟩:=r
  exact call_range_1 (ip' I1 (by omega) (by omega) q1 q2 (by simpa using q))
theorem ks' {a b:Expr} {ta:TA} {p pos:Pos} (hg:Gl X "range") (hm:X.mg "range"=none) (ha:PA X [a,b] ta) (hs:starEach [a,b] X.env=[(false,eval a X.env),(false,eval b X.env)]:=by rfl) (hs2:starEach [b] X.env=[(false,eval b X.env)]:=by rfl):
  PI X tg (.Call (.Name "range" p) [a,b] [] pos) (qT' ta):=by
 intro pins s σ H R I h
 refine Call_ (dD' I hg hm boot_range (PyProof.Rows.callWith_type1 (thn (ha pos pins s σ H _ I h) fun us s1 ⟨vs,H1,I1,r1,q1⟩=>?_) (by rw[hs,hs2]) (by rw[hs2];rfl)))
 obtain⟨i,j,e,⟨q1,q2,q3,q4⟩,q⟩:=q1
 subst e
 cases r1 with
 |cons r rr=>
  cases rr with
  |cons r' rr=>
   cases rr
   obtain⟨t,rfl⟩:=r
   obtain⟨t',rfl⟩:=r'
   exact call_range_2 (ip' I1 q1 q2 q3 q4 q)
def xm' (wi:TI) (g:TG) (tb:TS):TS:=fun D σ H=>wi σ H fun J H1=>∃W:Nat->Nat->St->Hp->Prop,(∃m,W 0 m σ H1)/\∀i m σ H,W i m σ H->
 (J.stop i H/\D.nx σ H)\/(J.go i H/\∃N:St->Hp->Prop,(∀σ' H',N σ' H'->∃m',m'<m/\W (i+1) m' σ' H')/\∀x H',J.yld i H x H'->g x σ H' fun σ2 H2=>tb { D with nx:=N,ct:=N,bk:=D.nx } σ2 H2)
def bR' (fp:List Addr) (h:Heap):List (Addr×Obj):=fp.filterMap fun b=>(h.get? b).map fun o=>(b,o)
theorem aM' {fp:List Addr} {h:Heap} {b:Addr} {o:Obj} (hb:b∈fp) (e:h.get? b=some o):(b,o)∈bR' fp h:=List.mem_filterMap.mpr ⟨b,hb,by rw[e];rfl⟩
theorem d7' {fp:List Addr} {h:Heap} {p:Addr×Obj} (hp:p∈bR' fp h):p.1∈fp/\h.get? p.1=some p.2:=by
 obtain⟨b,hb,e⟩:=List.mem_filterMap.mp hp
 cases q:h.get? b with
 |none=>rw[q]at e;cases e
 |some o=>
  rw[q]at e
  have e':(b,o)=p:=Option.some.inj e
  subst e'
  exact⟨hb,q⟩
theorem Inv.pinned {pins:List (Addr×Obj)} {σ:St} {H:Hp} {s:Shared} {fp:List Addr} (I:Inv X pins σ H s) (hf:∀b∈fp,c1' X pins H b) (ho:∀b∈fp,∃o,s.heap.get? b=some o/\∀v,o.data≠.cell v):Inv X (pins++bR' fp s.heap) σ H s:=
 I.pins_of fun p hp=>(aA.mp hp).elim (fun z=>I.pin p (aj _ z)) fun z=>by
  obtain⟨hb,e⟩:=d7' z
  obtain⟨f0,f1,f2,_⟩:=hf p.1 hb
  obtain⟨o,e',d⟩:=ho p.1 hb
  rw[e]at e';cases e'
  exact⟨e,f0,f1,f2,d⟩
theorem Inv.unpinned {pins pl:List (Addr×Obj)} {σ:St} {H:Hp} {s:Shared} (I:Inv X (pins++pl) σ H s):Inv X pins σ H s:=I.pins_of fun p hp=>I.pin p (aj _ (aZ _ hp))
theorem tz' {iter:Expr} {body:List Stmt} {wi:TI} {g:TG} {tb:TS} {pos:Pos} (hp:PassesOwn (model X.prog X.w) X.A X.env X.xe) (hc:X.calm=true) (hi:PI X tg iter wi) (hg:PG X tg g) (hb:PSs X body tb)
  (hs:∀x,foldedSetIterable iter X.env x=pure x:=by intro _;rfl):PS X (.For tg iter body [] pos) (xm' wi g tb):=by
 intro pins s σ H D I h
 refine wpAny_For (thn (hi pins s σ H _ I h) fun v s1 h1=>thn h1 fun itv s2 h2=>?_) hs
 obtain⟨it,fp,tn,J,H2,e,I2,T,st2,f2,W,⟨m0,w0⟩,turn⟩:=h2
 subst e
 have stat:∀{H':Hp},(∀b∈fp,H' b=none)->∀b∈fp,c1' X pins H' b:=fun hn b hb=>⟨hn b hb,(f2 b hb).2⟩
 refine codeAny_forLoop_any (fun n s'=>∃i σ' H',Inv X pins σ' H' s'/\tn i s'.heap/\(∀b∈fp,H' b=none)/\W i n σ' H') ?_ m0 ⟨0,σ,H2,I2,st2,fun b hb=>(f2 b hb).1,w0⟩
 rintro n s3 ⟨i,σ3,H3,I3,st3,fr3,w3⟩
 rcases turn i n σ3 H3 w3 with⟨stop,qn⟩|⟨go,N,hN,step⟩
 .refine bP hp (thn (T.done X rfl rfl rfl hc i pins s3 σ3 H3 X.xe I3 (stat fr3) st3 stop) fun r s4 ⟨hr,I4⟩=>?_)
  subst hr
  exact wpAny_execs_nil ⟨σ3,H3,I4,qn⟩
 .refine bP hp (thn (T.item X rfl rfl rfl hc i pins s3 σ3 H3 X.xe I3 (stat fr3) st3 go) fun r s4 ⟨u,hr,h4⟩=>?_)
  subst hr
  refine bP hp (thn h4 fun _ s5 ⟨x,H5,I5,r5,y5,st5,fr5⟩=>?_)
  have I5':=I5.pinned (stat fr5) (T.obj _ _ st5)
  refine bP hp (thn (hg _ s5 σ3 H5 x u _ I5' r5 (step x H5 y5)) fun _ s6 ⟨σ6,H6,I6,q6⟩=>?_)
  refine bP hp (thn (hb _ s6 σ6 H6 _ I6 q6) fun f s7 q7=>?_)
  have again:∀{σ7:St} {H7:Hp},Inv X (pins++bR' fp s5.heap) σ7 H7 s7->N σ7 H7->∃m,m<n/\∃i σ' H',Inv X pins σ' H' s7/\tn i s7.heap/\(∀b∈fp,H' b=none)/\W i m σ' H':=fun {σ7 H7} I7 n7=>by
   obtain⟨m',hm,w7⟩:=hN σ7 H7 n7
   refine⟨m',hm,i+1,σ7,H7,I7.unpinned,T.keep _ _ _ st5 fun b hb o e=>(I7.pin (b,o) (aj _ (aj _ (aM' hb e)))).1,fun b hb=>?_,w7⟩
   obtain⟨o,e,d⟩:=T.obj _ _ st5 b hb
   exact(I7.pin (b,o) (aj _ (aj _ (aM' hb e)))).2.1
  cases f with
  |next=>obtain⟨σ7,H7,I7,n7⟩:=q7;exact again I7 n7
  |cont=>obtain⟨σ7,H7,I7,n7⟩:=q7;exact again I7 n7
  |brk=>obtain⟨σ7,H7,I7,q7⟩:=q7;exact⟨σ7,H7,I7.unpinned,q7⟩
  |ret v=>obtain⟨x7,σ7,H7,I7,r7,q7⟩:=q7;exact⟨x7,σ7,H7,I7.unpinned,r7,q7⟩
end
theorem nl' {K:W.Frag} {a:Addr} {xs:List V} {g:TG} {tb:TS} {D:Ends} {σ:St} {H:Hp} (Pv:Nat->St->Hp->Prop) (h0:Pv 0 σ H) (hl:∀i σ H,i<=xs.length->Pv i σ H->SqL K H a xs)
  (hs:∀i x σ H,xs[i]?=some x->Pv i σ H->g x σ H fun σ2 H2=>tb { D with nx:=Pv (i+1),ct:=Pv (i+1),bk:=D.nx } σ2 H2) (hd:∀σ H,Pv xs.length σ H->D.nx σ H):
  ∃W:Nat->Nat->St->Hp->Prop,(∃m,W 0 m σ H)/\∀i m σ H,W i m σ H->
   ((Itl K a).stop i H/\D.nx σ H)\/((Itl K a).go i H/\∃N:St->Hp->Prop,(∀σ' H',N σ' H'->∃m',m'<m/\W (i+1) m' σ' H')/\∀x H',(Itl K a).yld i H x H'->g x σ H' fun σ2 H2=>tb { D with nx:=N,ct:=N,bk:=D.nx } σ2 H2):=by
 refine⟨fun i m σ H=>m=xs.length-i/\i<=xs.length/\Pv i σ H,⟨xs.length,by simp,aT _,h0⟩,?_⟩
 rintro i m σ H ⟨rfl,hi,p⟩
 have q:=hl i σ H hi p
 by_cases hlt:i<xs.length
 .refine .inr ⟨⟨xs,xs[i],q,by simp[hlt]⟩,Pv (i+1),fun σ' H' p'=>⟨xs.length-(i+1),by omega,rfl,hlt,p'⟩,fun x H' y=>?_⟩
  obtain⟨e,y⟩:=y
  subst e
  exact hs i x σ _ (y xs q) p
 .have e:i=xs.length:=by omega
  subst e
  exact .inl ⟨⟨xs,q,al _⟩,hd σ H p⟩
theorem kt' {lo:Int} {n:Nat} {g:TG} {tb:TS} {D:Ends} {σ:St} {H:Hp} (Pv:Nat->St->Hp->Prop) (h0:Pv 0 σ H)
  (hs:∀i σ H,i<n->Pv i σ H->g (.int (lo+i)) σ H fun σ2 H2=>tb { D with nx:=Pv (i+1),ct:=Pv (i+1),bk:=D.nx } σ2 H2) (hd:∀σ H,Pv n σ H->D.nx σ H):
  ∃W:Nat->Nat->St->Hp->Prop,(∃m,W 0 m σ H)/\∀i m σ H,W i m σ H->
   ((Itr lo n).stop i H/\D.nx σ H)\/((Itr lo n).go i H/\∃N:St->Hp->Prop,(∀σ' H',N σ' H'->∃m',m'<m/\W (i+1) m' σ' H')/\∀x H',(Itr lo n).yld i H x H'->g x σ H' fun σ2 H2=>tb { D with nx:=N,ct:=N,bk:=D.nx } σ2 H2):=by
 refine⟨fun i m σ H=>m=n-i/\i<=n/\Pv i σ H,⟨n,by simp,aT _,h0⟩,?_⟩
 rintro i m σ H ⟨rfl,hi,p⟩
 by_cases hlt:i<n
 .refine .inr ⟨hlt,Pv (i+1),fun σ' H' p'=>⟨n-(i+1),by omega,rfl,hlt,p'⟩,fun x H' y=>?_⟩
  obtain⟨e,y⟩:=y
  subst e y
  exact hs i σ _ hlt p
 .have e:i=n:=by omega
  subst e
  exact .inl ⟨al _,hd σ H p⟩
abbrev R2:=V->V->Hp->VK->Prop
def OpR (X:Cx) (f:Value->Value->Sem Value) (r:R2):Prop:=
 ∀(pins:List (Addr×Obj)) (s:Shared) (σ:St) (H:Hp) (x y:V) (v u:Value) (Q:VK),Inv X pins σ H s->aF' x v->aF' y u->r x y H Q->
  wpAny (model X.prog X.w) X.A (f v u) (EP X pins σ Q) X.xe s
def UnR (X:Cx) (f:Value->Sem Value) (r:V->Hp->VK->Prop):Prop:=
 ∀(pins:List (Addr×Obj)) (s:Shared) (σ:St) (H:Hp) (x:V) (v:Value) (Q:VK),Inv X pins σ H s->aF' x v->r x H Q->
  wpAny (model X.prog X.w) X.A (f v) (EP X pins σ Q) X.xe s
def a8' (X:Cx) (f:Value) (r:List V->Hp->VK->Prop):Prop:=
 ∀(pins:List (Addr×Obj)) (s:Shared) (σ:St) (H:Hp) (xs:List V) (us:List Value) (Q:VK),Inv X pins σ H s->aL' xs us->r xs H Q->
  wpAny (model X.prog X.w) X.A (call f us) (EP X pins σ Q) X.xe s
def zS' (X:Cx) (r:V->Hp->(Bool->Hp->Prop)->Prop):Prop:=
 ∀(pins:List (Addr×Obj)) (s:Shared) (σ:St) (H:Hp) (x:V) (v:Value) (Q:Bool->Hp->Prop),Inv X pins σ H s->aF' x v->r x H Q->
  wpAny (model X.prog X.w) X.A (truthy v) (TP X pins σ Q) X.xe s
def tOp (r:R2) (ta tb:TE):TE:=fun σ H Q=>ta σ H fun x H1=>tb σ H1 fun y H2=>r x y H2 Q
def tUn (r:V->Hp->VK->Prop) (ta:TE):TE:=fun σ H Q=>ta σ H fun x H1=>r x H1 Q
def rI (C:Int->Int->Prop) (g:Int->Int->V):R2:=fun x y H Q=>∃i j,x=.int i/\y=.int j/\C i j/\Q (g i j) H
def rI0 (g:Int->Int->V):R2:=fun x y H Q=>∃i j,x=.int i/\y=.int j/\Q (g i j) H
def rU (g:Int->V):V->Hp->VK->Prop:=fun x H Q=>∃i,x=.int i/\Q (g i) H
section
variable {X:Cx} {a b c:Expr} {ta tb tc:TE} {pos:Pos}
theorem xn' (ha:PE X a ta) (hb:PE X b tb) {pins:List (Addr×Obj)} {s:Shared} {σ:St} {H:Hp} {R:V->V->Hp->Prop} (I:Inv X pins σ H s)
  (h:ta σ H fun x H1=>tb σ H1 fun y H2=>R x y H2) {Q:Value->Shared->Prop} {f:Value->Value->Sem Value}
  (hf:∀v u s2 x y H2,Inv X pins σ H2 s2->aF' x v->aF' y u->R x y H2->wpAny (model X.prog X.w) X.A (f v u) Q X.xe s2):
  wpAny (model X.prog X.w) X.A (eval a X.env) (fun v s₁=>wpAny (model X.prog X.w) X.A (eval b X.env) (fun u s₂=>wpAny (model X.prog X.w) X.A (f v u) Q X.xe s₂) X.xe s₁) X.xe s:=by
 refine thn (ha pins s σ H _ I h) fun v s1 ⟨x,H1,I1,r1,q1⟩=>?_
 refine thn (hb pins s1 σ H1 _ I1 q1) fun u s2 ⟨y,H2,I2,r2,q2⟩=>?_
 exact hf v u s2 x y H2 I2 r1 r2 q2
theorem xo' {op:Operator} {r:R2} (ho:OpR X (binaryOp op) r) (ha:PE X a ta) (hb:PE X b tb):PE X (.BinOp a op b pos) (tOp r ta tb):=by
 intro pins s σ H Q I h
 exact wpAny_BinOp (xn' ha hb I h fun v u s2 x y H2 I2 rx ry q=>ho pins s2 σ H2 x y v u Q I2 rx ry q)
theorem xp' {op:UnaryOp} {r:V->Hp->VK->Prop} (ho:UnR X (unaryOp op) r) (ha:PE X a ta):PE X (.UnaryOp op a pos) (tUn r ta):=by
 intro pins s σ H Q I h
 exact UnaryOp_ (thn (ha pins s σ H _ I h) fun v s1 ⟨x,H1,I1,r1,q1⟩=>ho pins s1 σ H1 x v Q I1 r1 q1)
theorem opI {f:Value->Value->Sem Value} {C:Int->Int->Prop} {g:Int->Int->Int}
  (rule:∀(i j:Int) (t u:Tok) (s:Shared) (Q:Value->Shared->Prop) (E:Value->Shared->Prop),C i j->Q (.int (g i j) s.toks) { s with toks:=s.toks+1 }->wpAny (model X.prog X.w) X.A (f (.int i t) (.int j u)) Q E s):
  OpR X f (rI C fun i j=>.int (g i j)):=by
 intro pins s σ H x y v u Q I rx ry h
 obtain⟨i,j,rfl,rfl,hc,q⟩:=h
 obtain⟨t,rfl⟩:=rx
 obtain⟨t',rfl⟩:=ry
 exact rule i j t t' s _ _ hc ⟨.int (g i j),H,I.tok _,⟨_,rfl⟩,q⟩
theorem xq' {f:Value->Value->Sem Value} {g:Int->Int->Int}
  (rule:∀(i j:Int) (t u:Tok) (s:Shared) (Q:Value->Shared->Prop) (E:Value->Shared->Prop),Q (.int (g i j) s.toks) { s with toks:=s.toks+1 }->wpAny (model X.prog X.w) X.A (f (.int i t) (.int j u)) Q E s):
  OpR X f (rI0 fun i j=>.int (g i j)):=by
 intro pins s σ H x y v u Q I rx ry h
 obtain⟨i,j,rfl,rfl,q⟩:=h
 obtain⟨t,rfl⟩:=rx
 obtain⟨t',rfl⟩:=ry
 exact rule i j t t' s _ _ ⟨.int (g i j),H,I.tok _,⟨_,rfl⟩,q⟩
theorem wN' {f:Value->Value->Sem Value} {g:Int->Int->Bool}
  (rule:∀(i j:Int) (t u:Tok) (s:Shared) (Q:Value->Shared->Prop) (E:Value->Shared->Prop),Q (.bool (g i j)) s->wpAny (model X.prog X.w) X.A (f (.int i t) (.int j u)) Q E s):
  OpR X f (rI0 fun i j=>.bl (g i j)):=by
 intro pins s σ H x y v u Q I rx ry h
 obtain⟨i,j,rfl,rfl,q⟩:=h
 obtain⟨t,rfl⟩:=rx
 obtain⟨t',rfl⟩:=ry
 exact rule i j t t' s _ _ ⟨.bl (g i j),H,I,rfl,q⟩
def zT' (i j:Int):Prop:=0<j/\j<1073741824
def xr' (i j:Int):Prop:=0<=j/\j<=1000000/\i.natAbs<2 ^ 64
def wO' (i j:Int):Prop:=(-(2 ^ 64)<i/\i<2 ^ 64)\/(-(2 ^ 64)<j/\j<2 ^ 64)
theorem wO'.ok {i j:Int} (h:wO' i j):IntMulOk i j:=by
 rcases h with⟨h1,h2⟩|⟨h1,h2⟩
 .exact .of_left (intBits_le_64 h1 h2)
 .exact .of_right (intBits_le_64 h1 h2)
theorem eX' (k:Nat):(0:Int)<=2 ^ k:=by
 rw[two_pow_cast]
 exact Int.natCast_nonneg _
theorem tA':OpR X (binaryOp .Add) (rI0 fun i j=>.int (i+j)):=xq' fun _ _ _ _ _ _ _ q=>add_int q
theorem tC':OpR X (binaryOp .Sub) (rI0 fun i j=>.int (i-j)):=xq' fun _ _ _ _ _ _ _ q=>sub_int q
theorem qU':OpR X (binaryOp .FloorDiv) (rI zT' fun i j=>.int (i / j)):=opI fun i j _ _ _ _ _ hc q=>by
 have h1:(0:Int)<j:=hc.1
 have h2:j<1073741824:=hc.2
 exact floordiv_int (by omega) (by rw[Int.fdiv_eq_ediv_of_nonneg i (by omega)];exact q) (.inl (PyProof.noPylong_small (by omega)))
theorem tD':OpR X (binaryOp .Mod) (rI (fun _ j=>0<j) fun i j=>.int (i % j)):=opI fun i j _ _ _ _ _ hc q=>by
 have h1:(0:Int)<j:=hc
 exact mod_int' (by omega) (by rw[Int.fmod_eq_emod_of_nonneg i (by omega)];exact q)
theorem tE':OpR X (binaryOp .Pow) (rI xr' fun i j=>.int (i ^ j.toNat)):=opI fun _ _ _ _ _ _ _ hc q=>pow_int_small hc.1 hc.2.1 hc.2.2 q
theorem tF':OpR X (binaryOp .RShift) (rI (fun _ j=>0<=j) fun i j=>.int (i / 2 ^ j.toNat)):=opI fun i j _ _ _ _ _ hc q=>
 rshift_int hc (by rw[Int.fdiv_eq_ediv_of_nonneg i (eX' _)];exact q)
theorem tG':OpR X (binaryOp .BitAnd) (rI0 fun i j=>.int (Builtin.bitAnd i j)):=xq' fun _ _ _ _ _ _ _ q=>and_int q
theorem unI {f:Value->Sem Value} {g:Int->Int}
  (rule:∀(i:Int) (t:Tok) (s:Shared) (Q:Value->Shared->Prop) (E:Value->Shared->Prop),Q (.int (g i) s.toks) { s with toks:=s.toks+1 }->wpAny (model X.prog X.w) X.A (f (.int i t)) Q E s):
  UnR X f (rU fun i=>.int (g i)):=by
 intro pins s σ H x v Q I rx h
 obtain⟨i,rfl,q⟩:=h
 obtain⟨t,rfl⟩:=rx
 exact rule i t s _ _ ⟨.int (g i),H,I.tok _,⟨_,rfl⟩,q⟩
theorem tH':UnR X (unaryOp .USub) (rU fun i=>.int (-i)):=unI fun _ _ _ _ _ q=>neg_int q
end
def qV':V->V->Bool
 | .non,.non=>true | .non,.int _=>true | .int _,.non=>true | .non,.bl _=>true | .bl _,.non=>true | .non,.str _=>true | .str _,.non=>true
 | .int _,.int _=>true | .bl _,.bl _=>true | .str _,.str _=>true | .byt _,.byt _=>true
 | .int _,.str _=>true | .str _,.int _=>true | .bl _,.str _=>true | .str _,.bl _=>true
 |_,_=>false
def rEq:R2:=fun x y H Q=>qV' x y=true/\Q (.bl (decide (x=y))) H
def rNe:R2:=fun x y H Q=>qV' x y=true/\Q (.bl (!decide (x=y))) H
theorem fo' {i j:Int}:decide (V.int i=V.int j)=(i == j):=by
 rw[Bool.eq_iff_iff]
 simp
theorem o6' {i j:Bool}:decide (V.bl i=V.bl j)=(i == j):=by
 rw[Bool.eq_iff_iff]
 simp
theorem ku' {i j:Str}:decide (V.str i=V.str j)=(i == j):=by
 rw[Bool.eq_iff_iff]
 simp
theorem kv' {i j:Array UInt8}:decide (V.byt i=V.byt j)=(i.toList == j.toList):=by
 rw[Bool.eq_iff_iff]
 cases i
 cases j
 simp
section
variable {X:Cx} {a b c:Expr} {ta tb tc:TE} {pos:Pos}
theorem aA' {pins:List (Addr×Obj)} {σ:St} {H:Hp} {s:Shared} {Q:VK} {k k':Bool} (I:Inv X pins σ H s) (q:Q (.bl k) H) (e:k=k'):EP X pins σ Q (.bool k') s:=by
 subst e
 exact⟨.bl k,H,I,rfl,q⟩
theorem xs':OpR X (compareOp .Eq) rEq:=by
 intro pins s σ H x y v u Q I rx ry h
 obtain⟨hs,q⟩:=h
 cases x with
 |non=>
  cases rx
  cases y with
  |non=>cases ry;exact PySem.EqNone.eq_none_none (aA' I q (by simp))
  |bl j=>cases ry;exact PySem.EqNone.eq_none_bool (aA' I q (by simp))
  |int j=>obtain⟨t',rfl⟩:=ry;exact PySem.EqNone.eq_none_int (aA' I q (by simp))
  |str j=>obtain⟨t',rfl⟩:=ry;exact PySem.EqNone.eq_none_str (aA' I q (by simp))
  |_=>exact absurd (show false=true from hs) ap
 |bl i=>
  cases rx
  cases y with
  |non=>cases ry;exact PySem.EqNone.eq_bool_none (aA' I q (by simp))
  |bl j=>cases ry;exact eq_bool (aA' I q o6')
  |str j=>obtain⟨t',rfl⟩:=ry;exact PySem.EqMixed.eq_bool_str (aA' I q (by simp))
  |_=>exact absurd (show false=true from hs) ap
 |int i=>
  obtain⟨t,rfl⟩:=rx
  cases y with
  |non=>cases ry;exact PySem.EqNone.eq_int_none (aA' I q (by simp))
  |int j=>obtain⟨t',rfl⟩:=ry;exact eq_int (aA' I q fo')
  |str j=>obtain⟨t',rfl⟩:=ry;exact PySem.EqMixed.eq_int_str (aA' I q (by simp))
  |_=>exact absurd (show false=true from hs) ap
 |str i=>
  obtain⟨t,rfl⟩:=rx
  cases y with
  |non=>cases ry;exact PySem.EqNone.eq_str_none (aA' I q (by simp))
  |bl j=>cases ry;exact PySem.EqMixed.eq_str_bool (aA' I q (by simp))
  |int j=>obtain⟨t',rfl⟩:=ry;exact PySem.EqMixed.eq_str_int (aA' I q (by simp))
  |str j=>obtain⟨t',rfl⟩:=ry;exact eq_str (aA' I q ku')
  |_=>exact absurd (show false=true from hs) ap
 |byt i=>
  obtain⟨t,rfl⟩:=rx
  cases y with
  |byt j=>obtain⟨t',rfl⟩:=ry;exact W.eq_bytes (aA' I q kv')
  |_=>exact absurd (show false=true from hs) ap
 |_=>cases y<;>exact absurd (show false=true from hs) ap
theorem xt':OpR X (compareOp .NotEq) rNe:=by
 intro pins s σ H x y v u Q I rx ry h
 obtain⟨hs,q⟩:=h
 cases x with
 |non=>
  cases rx
  cases y with
  |non=>cases ry;exact PySem.EqNone.ne_none_none (aA' I q (by simp))
  |bl j=>cases ry;exact PySem.EqNone.ne_none_bool (aA' I q (by simp))
  |int j=>obtain⟨t',rfl⟩:=ry;exact PySem.EqNone.ne_none_int (aA' I q (by simp))
  |str j=>obtain⟨t',rfl⟩:=ry;exact PySem.EqNone.ne_none_str (aA' I q (by simp))
  |_=>exact absurd (show false=true from hs) ap
 |bl i=>
  cases rx
  cases y with
  |non=>cases ry;exact PySem.EqNone.ne_bool_none (aA' I q (by simp))
  |bl j=>cases ry;exact ne_bool (aA' I q (congrArg not o6'))
  |str j=>obtain⟨t',rfl⟩:=ry;exact PySem.EqMixed.ne_bool_str (aA' I q (by simp))
  |_=>exact absurd (show false=true from hs) ap
 |int i=>
  obtain⟨t,rfl⟩:=rx
  cases y with
  |non=>cases ry;exact PySem.EqNone.ne_int_none (aA' I q (by simp))
  |int j=>obtain⟨t',rfl⟩:=ry;exact ne_int (aA' I q (congrArg not fo'))
  |str j=>obtain⟨t',rfl⟩:=ry;exact PySem.EqMixed.ne_int_str (aA' I q (by simp))
  |_=>exact absurd (show false=true from hs) ap
 |str i=>
  obtain⟨t,rfl⟩:=rx
  cases y with
  |non=>cases ry;exact PySem.EqNone.ne_str_none (aA' I q (by simp))
  |bl j=>cases ry;exact PySem.EqMixed.ne_str_bool (aA' I q (by simp))
  |int j=>obtain⟨t',rfl⟩:=ry;exact PySem.EqMixed.ne_str_int (aA' I q (by simp))
  |str j=>obtain⟨t',rfl⟩:=ry;exact ne_str (aA' I q (congrArg not ku'))
  |_=>exact absurd (show false=true from hs) ap
 |byt i=>
  obtain⟨t,rfl⟩:=rx
  cases y with
  |byt j=>obtain⟨t',rfl⟩:=ry;exact W.ne_bytes (aA' I q (congrArg not kv'))
  |_=>exact absurd (show false=true from hs) ap
 |_=>cases y<;>exact absurd (show false=true from hs) ap
theorem xu':OpR X (compareOp .Lt) (rI0 fun i j=>.bl (decide (i<j))):=wN' fun _ _ _ _ _ _ _ q=>lt_int q
theorem xv':OpR X (compareOp .LtE) (rI0 fun i j=>.bl (decide (i<=j))):=wN' fun _ _ _ _ _ _ _ q=>le_int q
theorem xw':OpR X (compareOp .Gt) (rI0 fun i j=>.bl (decide (j<i))):=wN' fun _ _ _ _ _ _ _ q=>gt_int q
theorem xx':OpR X (compareOp .GtE) (rI0 fun i j=>.bl (decide (j<=i))):=wN' fun _ _ _ _ _ _ _ q=>ge_int q
theorem tI':OpR X (compareOp .Is) (fun x y H Q=>y=.non/\Q (.bl (decide (x=.non))) H):=by
 intro pins s σ H x y v u Q I rx ry h
 obtain⟨rfl,q⟩:=h
 cases ry
 refine is_none_gen (aA' I q ?_)
 cases x<;>first
  |(cases rx;rfl)
  |(obtain⟨t,rfl⟩:=rx;rfl)
theorem qW':OpR X (compareOp .IsNot) (fun x y H Q=>y=.non/\Q (.bl (!decide (x=.non))) H):=by
 intro pins s σ H x y v u Q I rx ry h
 obtain⟨rfl,q⟩:=h
 cases ry
 refine isnot_none_gen (aA' I q ?_)
 cases x<;>first
  |(cases rx;rfl)
  |(obtain⟨t,rfl⟩:=rx;rfl)
theorem OpR.or {f:Value->Value->Sem Value} {r r':R2} (h:OpR X f r) (h':OpR X f r'):OpR X f (fun x y H Q=>r x y H Q\/r' x y H Q):=by
 intro pins s σ H x y v u Q I rx ry q
 rcases q with q|q
 .exact h pins s σ H x y v u Q I rx ry q
 .exact h' pins s σ H x y v u Q I rx ry q
theorem qX' {op:CmpOp} {r:R2} (ho:OpR X (compareOp op) r) (ha:PE X a ta) (hb:PE X b tb) (hm:behindInMarks op b=false):PE X (.Compare a [op] [b] pos) (tOp r ta tb):=by
 intro pins s σ H Q I h
 exact wpAny_Compare1 (xn' ha hb I h fun v u s2 x y H2 I2 rx ry q=>ho pins s2 σ H2 x y v u Q I2 rx ry q) hm
def kw' (t:TE):TT:=fun σ H Q=>t σ H fun x H'=>∃k,x=.bl k/\Q k H'
theorem qY' {op:CmpOp} {r:R2} (ho:OpR X (compareOp op) r) (ha:PE X a ta) (hb:PE X b tb) (hm:behindInMarks op b=false):PT X (.Compare a [op] [b] pos) (kw' (tOp r ta tb)):=by
 intro pins s σ H Q I h
 refine wpAny_isTrue_Compare1 (thn (ha pins s σ H _ I h) fun v s1 ⟨x,H1,I1,r1,q1⟩=>thn (hb pins s1 σ H1 _ I1 q1) fun u s2 ⟨y,H2,I2,r2,q2⟩=>
  thn (ho pins s2 σ H2 x y v u _ I2 r1 r2 q2) fun c s3 ⟨z,H3,I3,r3,k,e,q3⟩=>?_) hm
 subst e
 cases r3
 exact bi ⟨H3,I3,q3⟩
def tJ' (K:W.Frag) (x:V) (H:Hp) (k:Bool):Prop:=
 match x with
 | .non=>k=false
 | .bl b=>k=b
 | .int i=>k=(i != 0)
 | .str y=>y.length<=sizeLine/\k=((y.length:Int) != 0)
 | .byt y=>y.size<=sizeLine/\k=((y.size:Int) != 0)
 | .ref p=>(∃xs,SqL K H p xs/\k=!xs.isEmpty)\/(∃xs,SqT K H p xs/\k=!xs.isEmpty)\/∃kvs,H p=some (.dK kvs)/\k=!kvs.isEmpty
 |_=>False
theorem jG' {κ:Type} {kvs:List (κ×V)} {vs:List (κ×Value)} (r:KV kvs vs):(!vs.isEmpty)=!kvs.isEmpty:=by
 cases r<;>rfl
theorem eY' {xs:List V} {its:List Value} (r:aL' xs its):(!its.toArray.isEmpty)=!xs.isEmpty:=by
 cases r<;>simp
theorem eZ':(sizeLine:Nat)<2 ^ 63:=by rw[sizeLine_eq];decide
theorem tK':zS' X (fun x H Q=>∃k,tJ' X.K x H k/\Q k H):=by
 intro pins s σ H x v Q I rx h
 obtain⟨k,e,q⟩:=h
 have hl:=eZ'
 have hs:sizeLine=16777216:=sizeLine_eq
 cases x with
 |non=>
  cases rx
  have e':k=false:=e
  subst e'
  exact truthy_none ⟨H,I,q⟩
 |bl b=>
  cases rx
  have e':k=b:=e
  subst e'
  exact bi ⟨H,I,q⟩
 |int i=>
  obtain⟨t,rfl⟩:=rx
  have e':k=(i != 0):=e
  subst e'
  exact PySem.P.truthy_int ⟨H,I,q⟩
 |str y=>
  obtain⟨t,rfl⟩:=rx
  obtain⟨hy,e'⟩:y.length<=sizeLine/\k=((y.length:Int) != 0):=e
  subst e'
  exact PySem.P.truthy_str (by omega) ⟨H,I.tok _,q⟩
 |byt y=>
  obtain⟨t,rfl⟩:=rx
  obtain⟨hy,e'⟩:y.size<=sizeLine/\k=((y.size:Int) != 0):=e
  subst e'
  exact W.truthy_bytes (by omega) ⟨H,I.tok _,q⟩
 |ref p=>
  cases rx
  have e':(∃xs,SqL X.K H p xs/\k=!xs.isEmpty)\/(∃xs,SqT X.K H p xs/\k=!xs.isEmpty)\/∃kvs,H p=some (.dK kvs)/\k=!kvs.isEmpty:=e
  rcases e' with⟨xs,hx,e'⟩|⟨xs,hx,e'⟩|⟨kvs,hx,e'⟩
  .subst e'
   obtain⟨its,r,pl,hz⟩:=I.list hx
   have hlen:=r.length
   exact wpAny_truthy_list pl.isList (by simp only[am];omega) ⟨H,I.tok _,by rw[eY' r];exact q⟩
  .subst e'
   obtain⟨its,r,pl,hz⟩:=I.tuple hx
   have hlen:=r.length
   exact truthy_tuple pl (by simp only[am];omega) ⟨H,I.tok _,by rw[eY' r];exact q⟩
  .subst e'
   obtain⟨hz,hS,vs,r,m⟩:kvs.length<=sizeLine/\(p == sysModules)=false/\∃vs,KV kvs vs/\s.heap.DictOf (ap' X.prog X.w) p vs:=I.hok p _ hx
   have hlen:kvs.length=vs.length:=Paired.length r
   exact wpAny_truthy_dict hS m (by omega) ⟨H,I.tok _,by rw[jG' r];exact q⟩
 |_=>exact(show False from e).elim
theorem nn' (ha:PE X a ta) (he:∀whole,isTrue a X.env whole=(do let v <- whole;standAt a.pos;holding [v] (truthy v))):
  PT X a (fun σ H Q=>ta σ H fun x H'=>∃k,tJ' X.K x H' k/\Q k H'):=by
 intro pins s σ H Q I h
 exact isTrue_plain (thn (ha pins s σ H _ I h) fun v s1 ⟨x,H1,I1,r1,q1⟩=>tK' pins s1 σ H1 x v Q I1 r1 q1) (he _)
theorem jH':OpR X (binaryOp .Add) (fun x y H Q=>∃i j,x=.str i/\y=.str j/\i.length+j.length<=sizeLine/\Q (.str (i++j)) H):=by
 intro pins s σ H x y v u Q I rx ry h
 obtain⟨i,j,rfl,rfl,hz,q⟩:=h
 obtain⟨t,rfl⟩:=rx
 obtain⟨t',rfl⟩:=ry
 exact add_str (fun t' tk=>⟨.str (i++j),H,I.tok _,⟨_,rfl⟩,q⟩) hz
theorem eP' {x:V} {us:List Value} (r:aL' [x] us):∃u,us=[u]/\aF' x u:=by
 cases r with
 |cons r1 r2=>cases r2;exact⟨_,rfl,r1⟩
theorem hy' {x y:V} {us:List Value} (r:aL' [x,y] us):∃u w',us=[u,w']/\aF' x u/\aF' y w':=by
 cases r with
 |cons r1 r2=>
  cases r2 with
  |cons r3 r4=>cases r4;exact⟨_,_,rfl,r1,r3⟩
theorem no':a8' X (.builtin "abs") (fun xs H Q=>∃i,xs=[.int i]/\Q (.int (if i<0 then -i else i)) H):=by
 intro pins s σ H xs us Q I r h
 obtain⟨i,rfl,q⟩:=h
 obtain⟨u,rfl,t,rfl⟩:=eP' r
 exact call_abs_int fun u tk=>⟨.int (if i<0 then -i else i),H,I.tok _,⟨_,rfl⟩,q⟩
theorem kx' (hc:X.calm=true):a8' X (.builtin "max") (fun xs H Q=>∃i j,xs=[.int i,.int j]/\Q (.int (if j > i then j else i)) H):=by
 intro pins s σ H xs us Q I r h
 obtain⟨i,j,rfl,q⟩:=h
 obtain⟨u,w',rfl,⟨t,rfl⟩,⟨t',rfl⟩⟩:=hy' r
 refine max_two_ints (I.ok.hd hc) fun h' tk k=>⟨_,H,I.kept k,?_,q⟩
 by_cases hj:j > i
 .rw[if_pos hj,if_pos hj];exact⟨_,rfl⟩
 .rw[if_neg hj,if_neg hj];exact⟨_,rfl⟩
theorem ky' (hc:X.calm=true):a8' X (.builtin "min") (fun xs H Q=>∃i j,xs=[.int i,.int j]/\Q (.int (if j<i then j else i)) H):=by
 intro pins s σ H xs us Q I r h
 obtain⟨i,j,rfl,q⟩:=h
 obtain⟨u,w',rfl,⟨t,rfl⟩,⟨t',rfl⟩⟩:=hy' r
 refine min_two_ints (I.ok.hd hc) fun h' tk k=>⟨_,H,I.kept k,?_,q⟩
 by_cases hj:j<i
 .rw[if_pos hj,if_pos hj];exact⟨_,rfl⟩
 .rw[if_neg hj,if_neg hj];exact⟨_,rfl⟩
theorem kz':a8' X (.type "int") (fun xs H Q=>(∃i,xs=[.int i]/\Q (.int i) H)\/∃k,xs=[.bl k]/\Q (.int (if k then 1 else 0)) H):=by
 intro pins s σ H xs us Q I r h
 rcases h with⟨i,rfl,q⟩|⟨k,rfl,q⟩
 .obtain⟨u,rfl,t,rfl⟩:=eP' r
  exact call_int_int ⟨.int i,H,I,⟨_,rfl⟩,q⟩
 .obtain⟨u,rfl,r1⟩:=eP' r
  cases r1
  exact call_int_bool ⟨.int (if k then 1 else 0),H,I.tok _,⟨_,rfl⟩,q⟩
theorem f4':a8' X (.type "str") (fun xs H Q=>∃i,xs=[.int i]/\i.natAbs.log2<1920/\Q (.str (toString i)) H):=by
 intro pins s σ H xs us Q I r h
 obtain⟨i,rfl,hz,q⟩:=h
 obtain⟨u,rfl,t,rfl⟩:=eP' r
 exact PySem.P.str_of_int hz ⟨.str _,H,I.tok _,⟨_,rfl⟩,q⟩
def yZ' (K:W.Frag) (x:V) (H:Hp) (n:Nat):Prop:=
 match x with
 | .str y=>y.length<=sizeLine/\n=y.length
 | .byt y=>y.size<=sizeLine/\n=y.size
 | .ref p=>(∃xs,SqL K H p xs/\n=xs.length)\/∃xs,SqT K H p xs/\n=xs.length
 |_=>False
theorem np':a8' X (.builtin "len") (fun xs H Q=>∃x n,xs=[x]/\yZ' X.K x H n/\Q (.int n) H):=by
 intro pins s σ H xs us Q I r h
 obtain⟨x,n,rfl,e,q⟩:=h
 obtain⟨u,rfl,rx⟩:=eP' r
 have hl:=eZ'
 have hs:sizeLine=16777216:=sizeLine_eq
 cases x with
 |str y=>
  obtain⟨t,rfl⟩:=rx
  obtain⟨hy,e'⟩:y.length<=sizeLine/\n=y.length:=e
  subst e'
  exact len_str (by omega) ⟨.int _,H,I.tok _,⟨_,rfl⟩,q⟩
 |byt y=>
  obtain⟨t,rfl⟩:=rx
  obtain⟨hy,e'⟩:y.size<=sizeLine/\n=y.size:=e
  subst e'
  exact W.len_bytes (by omega) ⟨.int _,H,I.tok _,⟨_,rfl⟩,q⟩
 |ref p=>
  cases rx
  have e':(∃xs,SqL X.K H p xs/\n=xs.length)\/∃xs,SqT X.K H p xs/\n=xs.length:=e
  rcases e' with⟨xs,hx,e'⟩|⟨xs,hx,e'⟩
  .subst e'
   obtain⟨its,r',pl,hz⟩:=I.list hx
   have hlen:=r'.length
   exact Calls.call_len_list pl.isList (by simp only[am];omega) ⟨.int xs.length,H,I.tok _,⟨_,by simp only[am];rw[hlen]⟩,q⟩
  .subst e'
   obtain⟨its,r',pl,hz⟩:=I.tuple hx
   have hlen:=r'.length
   exact len_tuple pl (by simp only[am];omega) ⟨.int xs.length,H,I.tok _,⟨_,by simp only[am];rw[hlen]⟩,q⟩
 |_=>exact(show False from e).elim
end
structure ObjM (h:Heap) (x dx C:Addr) (mA:Str->Option Value):Prop where
 obj:h.get? x=some (W.instObj C dx)
 ns:h.Ns1 dx mA
 ne:dx≠x
set_option tactic.hygienic true in
theorem f5' {h:Heap} {dx:Addr} {mA:Str->Option Value} (n:h.Ns1 dx mA):∃od,h.get? dx=some od/\∀name,W.lookIn name od=some (mA name):=by
 obtain⟨o,es,ep,ho,hd,hk,_,hm⟩:=n
 refine⟨o,ho,fun name=>?_⟩
 have e:=hm name
 unfold nsFind findBy at e
 rw[<- Array.find?_toList]at e
 unfold W.lookIn
 rw[hd]
 dsimp only
 split
 .rename_i y q
  rw[q]at e
  exact congrArg some e
 .rename_i q
  rw[q]at e
  have a:es.toList.any (·.refKey)=false:=by
   rw[List.any_eq_false]
   intro y hy
   obtain⟨z,t,hkey⟩:=hk y (Array.mem_toList_iff.mp hy)
   simp[DictEntry.refKey,hkey]
  have a':¬es.toList.any (·.refKey)=true:=by rw[a];exact ap
  rw[if_neg a']
  exact congrArg some e
theorem ObjM.look {h:Heap} {x dx C:Addr} {mA:Str->Option Value} (I:ObjM h x dx C mA):∃od,W.InstAt h x (W.instObj C dx) C (some od)/\∀name,W.lookIn name od=some (mA name):=
 let⟨od,ho,hl⟩:=f5' I.ns
 ⟨od,⟨I.obj,rfl,rfl,ho⟩,hl⟩
section
variable {prog:Program} {w:World} {A:Around} {E:Value->Shared->Prop} {s:Shared} {K:W.Frag} {x dx C f:Addr} {mA:Str->Option Value} {name:Str} {v:Value}
end
theorem jC'.some_of {v:V} {o:Option Value} (r:jC' (some v) o):∃u,o=some u/\aF' v u:=by
 cases o with
 |none=>exact(show False from r).elim
 |some u=>exact⟨u,rfl,r⟩
theorem kA' {v:V} {u:Value} (r:aF' v u):W.handedIn u=true:=by
 cases v with
 |non=>cases(show u=Value.none from r);rfl
 |bl b=>cases(show u=Value.bool b from r);rfl
 |int i=>obtain⟨t,e⟩:=(show ∃t,u=Value.int i t from r);cases e;rfl
 |str x=>obtain⟨t,e⟩:=(show ∃t,u=Value.str x t from r);cases e;rfl
 |byt b=>obtain⟨t,e⟩:=(show ∃t,u=Value.bytes b t from r);cases e;rfl
 |flt b=>obtain⟨t,e⟩:=(show ∃t,u=Value.float b t from r);cases e;rfl
 |ref a=>cases(show u=Value.ref a from r);rfl
 |ty n=>cases(show u=Value.type n from r);rfl
section
variable {P:Program} {w:World} {H H':Hp} {h h':Heap} {a C dx:Addr} {fs fs':List (Str×V)}
theorem qZ' (hok:HOk P w H h) (e:H a=some (.ins C dx fs)):∃mA,ObjM h a dx C mA/\(∀f,jC' (fs.lookup f) (mA f))/\PySem.Within mA (fs.map (·.1))/\fs.length<=1000/\H dx=some (.own a):=by
 obtain⟨d,z,ne,ob,mA,n,r,q⟩:=(show av' P w H h a (.ins C dx fs) from hok a _ e)
 exact⟨mA,⟨ob,n,ne⟩,r,q,z,d⟩
end
structure Cls (K:W.Frag) (C:Addr):Prop where
 pg:W.plainGet K C Str.empty=true
 hd:W.hasDictIn K C=true
 po:W.plainOver K C=true
 sa:W.findIn K (.ref C) "__setattr__"=some (some (.builtin "object.__setattr__"))
theorem Cls.get {K:W.Frag} {C:Addr} (c:Cls K C) (f:Str):W.plainGet K C f=true:=c.pg
structure Con (K:W.Frag) (C:Addr) (f:Str) (v:V) (u:Value):Prop where
 at_:W.findIn K (.ref C) f=some (some u)
 rel:aF' v u
 get:W.specialIn K u "__get__"=some none
 cp:W.copiedNames.contains f=false
structure Meth (K:W.Frag) (C:Addr) (m:Str) (f:Addr):Prop where
 at_:W.findIn K (.ref C) m=some (some (.ref f))
 fn:W.isFn K (.ref f)=true
 kp:W.keepIn K (.ref f)=true
section
variable {X:Cx} {pins:List (Addr×Obj)} {σ:St} {H:Hp} {s:Shared} {a C dx:Addr} {fs:List (Str×V)} {f:Str} {v:V} {A:Around} {E:Value->Shared->Prop}
theorem q0' {prog:Program} {w:World} {env:Env} {e:Expr} {f:Str} {pos:Pos} {s:Shared} {Q:Value->Shared->Prop} (hb:attributeBase e f env (eval e env)=eval e env)
  (h:wpAny (model prog w) A (eval e env) (fun o s₁=>wpAny (model prog w) A (getAttr o f true) Q E s₁) E s):wpAny (model prog w) A (eval (.Attribute e f pos) env) Q E s:=
 Attribute_any_ h (by rw[arm_eval_Attribute,hb])
end
section
variable {X:Cx} {o e value:Expr} {f:Str} {pos pos' tpos:Pos} {ta tv:TE}
end
section
variable {X:Cx} {pins:List (Addr×Obj)} {σ:St} {H:Hp} {s:Shared} {A:Around} {E:Value->Shared->Prop} {Q:Value->Shared->Prop} {c:Value} {b:Bool}
inductive TyOf (K:W.Frag) (H:Hp):V->Value->Prop where
 |non:TyOf K H .non (.type "NoneType")
 |bl (x:Bool):TyOf K H (.bl x) (.type "bool")
 |int (i:Int):TyOf K H (.int i) (.type "int")
 |str (x:Str):TyOf K H (.str x) (.type "str")
 |flt (x:UInt64):TyOf K H (.flt x) (.type "float")
 |lst {a:Addr} {xs:List V} (e:H a=some (.lst xs)):TyOf K H (.ref a) (.type "list")
 |frz {a:Addr} {o:Obj} {xs:List V} (e:H a=some (.frz o (.lst xs))):TyOf K H (.ref a) (.type "list")
 |tup {a:Addr} {xs:List V} (e:H a=some (.tup xs)):TyOf K H (.ref a) (.type "tuple")
 |dK {a:Addr} {kvs:List (Key×V)} (e:H a=some (.dK kvs)):TyOf K H (.ref a) (.type "dict")
 |dT {a:Addr} {kvs:List (List Key×V)} (e:H a=some (.dT kvs)):TyOf K H (.ref a) (.type "dict")
 |ins {a C dx:Addr} {fs:List (Str×V)} (e:H a=some (.ins C dx fs)) (cl:Cls K C) (ha:W.findIn K (.ref C) "__class__"=some (some (.builtin "object.__class__")))
   (hn:W.specialIn K (.builtin "object.__class__") "__get__"=some (some (.builtin "getset_descriptor.__get__"))) (htk:W.takesIn K (.builtin "object.__class__")=some true)
   (hm:W.mroIn K C (.type "object")=some true):TyOf K H (.ref a) (.ref C)
theorem kB' {x:V} {u t:Value} (I:Inv X pins σ H s) (rx:aF' x u) (ty:TyOf X.K H x t) (e:W.kitOne X.K t c=some b) (h:∀tk,Q (.bool b) { s with toks:=tk }):
  wpAny (model X.prog X.w) A (call (.builtin "isinstance") [u,c]) Q E s:=by
 cases ty with
 |non=>cases(show u=Value.none from rx);exact W.kia_one W.kitx_none I.kIn True.intro e (fun z=>nomatch z) h
 |bl y=>cases(show u=Value.bool y from rx);exact W.kia_one W.kitx_bool I.kIn True.intro e (fun z=>nomatch z) h
 |int i=>obtain⟨t,q⟩:=(show ∃t,u=Value.int i t from rx);cases q;exact W.kia_one W.kitx_int I.kIn True.intro e (fun z=>nomatch z) h
 |str y=>obtain⟨t,q⟩:=(show ∃t,u=Value.str y t from rx);cases q;exact W.kia_one W.kitx_str I.kIn True.intro e (fun z=>nomatch z) h
 |flt y=>obtain⟨t,q⟩:=(show ∃t,u=Value.float y t from rx);cases q;exact W.kia_one W.kitx_float I.kIn True.intro e (fun z=>nomatch z) h
 | @lst a xs ea=>
  cases(show u=Value.ref a from rx)
  obtain⟨_,_,n,_,h1⟩:=(show av' X.prog X.w H s.heap a (.lst xs) from I.hok a _ ea)
  exact W.kia_one W.kitx_list I.kIn ⟨_,h1,rfl⟩ e (fun z=>nomatch z) h
 | @frz a ob xs ea=>
  cases(show u=Value.ref a from rx)
  obtain⟨_,_,_,n,_,h1⟩:=(show av' X.prog X.w H s.heap a (.frz ob (.lst xs)) from I.hok a _ ea)
  exact W.kia_one W.kitx_list I.kIn ⟨_,h1,rfl⟩ e (fun z=>nomatch z) h
 | @tup a xs ea=>
  cases(show u=Value.ref a from rx)
  obtain⟨_,_,_,p⟩:=(show av' X.prog X.w H s.heap a (.tup xs) from I.hok a _ ea)
  obtain⟨o,h1,h2,_⟩:=p
  exact W.kia_one W.kitx_tuple I.kIn ⟨o,h1,h2⟩ e (fun z=>nomatch z) h
 | @dK a kvs ea=>
  cases(show u=Value.ref a from rx)
  obtain⟨_,_,vs,_,p⟩:=(show av' X.prog X.w H s.heap a (.dK kvs) from I.hok a _ ea)
  obtain⟨o,es,ep,h1,h2,_⟩:=p
  exact W.kia_one W.kitx_dict I.kIn ⟨o,h1,h2.1⟩ e (fun z=>nomatch z) h
 | @dT a kvs ea=>
  cases(show u=Value.ref a from rx)
  obtain⟨_,_,xs,_,o,es,ep,h1,h2,_⟩:=(show av' X.prog X.w H s.heap a (.dT kvs) from I.hok a _ ea)
  exact W.kia_one W.kitx_dict I.kIn ⟨o,h1,h2.1⟩ e (fun z=>nomatch z) h
 | @ins a C dx fs ea cl ha hn htk hm=>
  cases(show u=Value.ref a from rx)
  obtain⟨mA,O,_⟩:=qZ' I.hok ea
  obtain⟨od,J,_⟩:=O.look
  exact W.kia_one (W.kitx_own (cl.get _) cl.hd ha hn htk hm) I.kIn J e (fun z=>nomatch z) h
end
structure Room (k:Nat) (A:Around):Prop where
 hd:A.handled=none
 dp:A.depth+3*k+5<recursionLimit
 un:A.units+16*k+200<cLine
 gd:A.guards=some []
theorem Room.mono {j k:Nat} {A:Around} (r:Room k A) (h:j<=k):Room j A:=⟨r.hd,by have:=r.dp;omega,by have:=r.un;omega,r.gd⟩
theorem Room.deeper {k:Nat} {A:Around} (r:Room (k+1) A) (env:Env):Room k (A.deeper env):=
 ⟨r.hd,by have:=r.dp;show A.depth+1+3*k+5<_;omega,by have:=r.un;show A.units+3+16*k+200<_;omega,r.gd⟩
theorem jI' {A:Around} {C:Addr} {us:List Value} {kw:List (Str×Value)}:(A.under (.builtin "type.__call__" ⟨.ref C :: us,kw⟩)).depth=A.depth+1:=by
 first|rfl|simp[Around.under,Code.weight,Code.isCreation,Code.isGuard,Code.isCaller,Code.frames,Code.isFrame,guardIds]
theorem jJ' {A:Around} {C:Addr} {us:List Value} {kw:List (Str×Value)}:(A.under (.builtin "type.__call__" ⟨.ref C :: us,kw⟩)).units=A.units+1:=by
 first|rfl|simp[Around.under,Code.cUnits,Code.frames,Code.isFrame]
theorem Room.make {k:Nat} {A:Around} (r:Room (k+1) A) (C:Addr) (us:List Value) (kw:List (Str×Value)):Room k (A.under (.builtin "type.__call__" ⟨.ref C :: us,kw⟩)):=
 ⟨r.hd,by have:=r.dp;rw[jI'];omega,by have:=r.un;rw[jJ'];omega,r.gd⟩
theorem Room.depth {k:Nat} {A:Around} (r:Room k A):A.depth<recursionLimit:=by have:=r.dp;omega
theorem Room.units {k:Nat} {A:Around} (r:Room k A):A.units+64<cLine:=by have:=r.un;omega
def hj':TA:=fun _ H Q=>Q [] H
def bP' (ta:TE) (tr:TA):TA:=fun σ H Q=>ta σ H fun x H1=>tr σ H1 fun xs H2=>Q (x :: xs) H2
section
variable {X:Cx} {e:Expr} {es:List Expr} {te:TE} {t:TA} {pos:Pos}
theorem d8':PA X [] hj':=fun _ _ _ _ H Q I h=>Calls.spliced_nil ⟨[],H,I,.nil,h⟩
theorem bW' (ha:PE X e te) (hr:PA X es t) (hs:starEach (e :: es) X.env=(false,eval e X.env) :: starEach es X.env:=by rfl):PA X (e :: es) (bP' te t):=by
 intro pos pins s σ H Q I h
 rw[hs]
 show wpAny _ _ (spliced ((false,eval e X.env) :: backTo pos (starEach es X.env))) _ _ s
 refine Calls.spliced_cons (thn (ha pins s σ H _ I h) fun u s1 ⟨x,H1,I1,r1,q1⟩=>?_)
 exact thn (hr pos pins s1 σ H1 _ I1 q1) fun us s2 ⟨xs,H2,I2,r2,q2⟩=>⟨x :: xs,H2,I2,.cons r1 r2,q2⟩
def xy' (t:TA):TE:=fun σ H Q=>t σ H fun xs H1=>xs.length<=sizeLine/\∀p,H1 p=none->Q (.ref p) (upd H1 p (.tup xs))
def xz' (t:TA):TE:=fun σ H Q=>t σ H fun xs H1=>xs.length<=sizeLine/\∀p,H1 p=none->Q (.ref p) (upd H1 p (.lst xs))
theorem tL' {x1} (h:PA X es t):PE X (.Tuple es x1 pos) (xy' t):=by
 intro pins s σ H Q I hq
 refine wpAny_Tuple_spliced (thn (h pos pins s σ H _ I hq) fun us s1 ⟨xs,H1,I1,r,z,q⟩=>⟨by rw[<- r.length];exact z,?_⟩)
 have hf:H1 s1.heap.objs.size=none:=I1.hok.fresh (al _)
 refine⟨.ref s1.heap.objs.size,upd H1 s1.heap.objs.size (.tup xs),I1.laid (t':=s1.toks) (fun b u e=>ag _ e) (al _) ?_,rfl,q _ hf⟩
 exact⟨z,us,r,⟨_,ax _ rfl,rfl,⟨_,rfl⟩,rfl⟩⟩
theorem tM' (h:PA X es t):PE X (.List es pos) (xz' t):=by
 intro pins s σ H Q I hq
 refine wpAny_List_spliced (thn (h pos pins s σ H _ I hq) fun us s1 ⟨xs,H1,I1,r,z,q⟩=>⟨by rw[<- r.length];exact z,?_⟩)
 have hf:H1 s1.heap.objs.size=none:=I1.hok.fresh (al _)
 refine⟨.ref s1.heap.objs.size,upd H1 s1.heap.objs.size (.lst xs),I1.laid (t':=s1.toks) (fun b u e=>ag _ e) (al _) ?_,rfl,q _ hf⟩
 exact⟨z,us,0,r,ax _ rfl⟩
end
abbrev Sp:=List V->Hp->VK->XK->Prop
abbrev CXT:=List Env->Hp->Shared->XK->Value->Shared->Prop
structure Env0 (P:Program) (w:World) (K:W.Frag) (mg:Str->Option Value) (base:Heap) (A:Around) (outer:List Env) (s:Shared) (H:Hp):Prop where
 frames:A.frames=some outer
 mod:Mod K mg base
 bs:∀b o,base.get? b=some o->s.heap.get? b=some o/\H b=none
 bsz:base.objs.size<=s.heap.objs.size
 funs:s.heap.FunFrames base outer
 frf:∀b∈frs outer,H b=none
 hok:HOk P w H s.heap
 bare:AllBare s.gens
def CE (outer:List Env) (P:Program) (w:World) (H:Hp) (s:Shared) (Q:VK) (u:Value) (s':Shared):Prop:=
 ∃v H',s'.os=s.os/\AllBare s'.gens/\Un (frs outer) [] H H' s.heap s'.heap/\HOk P w H' s'.heap/\aF' v u/\Q v H'
def CR (CX:CXT) (outer:List Env) (P:Program) (w:World) (H:Hp) (s:Shared) (Q:VK) (E:XK) (r:Result) (s':Shared):Prop:=
 match r with
 | .ok (.ret u)=>CE outer P w H s Q u s'
 | .ok _=>False
 | .error e=>CX outer H s E e s'
structure FnOk (P:Program) (w:World) (K:W.Frag) (mg:Str->Option Value) (base:Heap) (CX:CXT) (k:Nat) (f:Addr) (fd:FuncData) (ps:List Str) (sp:Sp):Prop where
 len:∀vs H Q E,sp vs H Q E->vs.length=ps.length
 run:∀(A:Around) (outer:List Env) (s:Shared) (H:Hp) (args:Args) (us:List Value) (vs:List V) (Q:VK) (E:XK),Room k A->Env0 P w K mg base A outer s H->BindsTo s fd args (ps.zip us)->aL' vs us->sp vs H Q E->
  codeAny (model P w) A (.call (.ref f) args) (CR CX outer P w H s Q E) s
theorem FnOk.mono {P:Program} {w:World} {K:W.Frag} {mg:Str->Option Value} {base:Heap} {CX:CXT} {j k:Nat} {f:Addr} {fd:FuncData} {ps:List Str} {sp:Sp} (F:FnOk P w K mg base CX j f fd ps sp) (h:j<=k):
  FnOk P w K mg base CX k f fd ps sp:=⟨F.len,fun A outer s H args us vs Q E hr=>F.run A outer s H args us vs Q E (hr.mono h)⟩
theorem Env0.make {P:Program} {w:World} {K:W.Frag} {mg:Str->Option Value} {base:Heap} {A:Around} {outer:List Env} {s:Shared} {H:Hp} (e:Env0 P w K mg base A outer s H) (C:Addr) (us:List Value) (kw:List (Str×Value)):
  Env0 P w K mg base (A.under (.builtin "type.__call__" ⟨.ref C :: us,kw⟩)) outer s H:=⟨by first|exact e.frames|(simpa[Around.under,Code.envs,Code.isFrame,pushEnvs]using e.frames),e.mod,e.bs,e.bsz,e.funs,e.frf,e.hok,e.bare⟩
section
variable {X:Cx} {pins:List (Addr×Obj)} {σ:St} {H:Hp} {s s':Shared}
theorem Inv.env0 (I:Inv X pins σ H s):Env0 X.prog X.w X.K X.mg X.base X.A X.stack s H:=
 ⟨I.ok.frames,I.ok.mod,I.bs,aF I.ok.bsz I.sz,I.stack,I.stkFree,I.hok,I.bare⟩
theorem Inv.after {Q:VK} {u:Value} (I:Inv X pins σ H s) (h:CE X.stack X.prog X.w H s Q u s'):EP X pins σ Q u s':=by
 obtain⟨v,H',os,bare,un,hok,r,q⟩:=h
 obtain⟨hh,g,d,t,os'⟩:=s'
 obtain rfl:os'=s.os:=os
 exact⟨v,H',I.call (h':=hh) (g':=g) (d':=d) (t':=t) (ch:=[]) un hok bare (fun b z=>absurd z (by simp)),r,q⟩
end
def nq' (sp:Sp) (dvs:List V) (E:XK) (t:TA):TE:=fun σ H Q=>t σ H fun vs H1=>sp (vs++dvs) H1 Q E
def cq' (K:W.Frag) (fd:FuncData) (ps:List Str) (ds:List Value):Prop:=
 ∀(s:Shared) (us:List Value),K.In s.heap->(us++ds).length=ps.length->BindsTo s fd ⟨us,[]⟩ (ps.zip (us++ds))
theorem cq'.all {K:W.Frag} {fd:FuncData} {ps:List Str} (h:∀us:List Value,us.length=ps.length->bindArgs fd ⟨us,[]⟩=pure (ps.zip us)):cq' K fd ps []:=fun s us _ hl=>by
 rw[bG]at hl ⊢
 exact .of_eq (h us hl)
section
variable {X:Cx} {CX:CXT} {k:Nat} {f C:Addr} {fd:FuncData} {ps:List Str} {sp:Sp} {dvs:List V} {ds:List Value} {E:XK} {x m:Str} {p pos apos:Pos} {e o:Expr} {es:List Expr} {ta:TE} {t:TA}
structure Mk (K:W.Frag) (C f:Addr):Prop where
 makes:W.makesIn K C=true
 init:W.findIn K (.ref C) "__init__"=some (some (.ref f))
 fn:W.isFn K (.ref f)=true
 kp:W.keepIn K (.ref C)=true
end
section
variable {X:Cx} {CX:CXT} {k:Nat} {f C:Addr} {fd:FuncData} {ps ks:List Str} {sp:Sp} {E:XK} {x m:Str} {p pos apos kpos:Pos} {e o:Expr} {es:List Expr} {kws:List Keyword} {te ta:TE} {t tk:TA} {nm:Option Str}
structure KBinds (K:W.Frag) (fd:FuncData) (ps ks:List Str) (g:List Value->List Value->List Value) (gV:List V->List V->List V):Prop where
 to:∀(s:Shared) (us ws:List Value),K.In s.heap->(g us ws).length=ps.length->BindsTo s fd ⟨us,ks.zip ws⟩ (ps.zip (g us ws))
 rel:∀{vs:List V} {us:List Value} {zs:List V} {ws:List Value},aL' vs us->aL' zs ws->aL' (gV vs zs) (g us ws)
variable {g:List Value->List Value->List Value} {gV:List V->List V->List V}
end
structure FnScope (N P:List Str) (sc:Scope):Prop where
 kind:sc.kind=.function
 co:sc.isCoroutine=false
 gen:sc.isGenerator=false
 nd:N.Nodup
 pre:N.take P.length=P
 par:∀x∈P,sc.names.lookup x=some .local\/sc.names.lookup x=some .cell
 nofree:∀y∈sc.names,y.2≠.free
theorem f6' {kindOf:Str->Option NameKind} {x:Str}:∀{binds:List (Str×Value)} {m:Str->Option Value},(∀v,(x,v)∉binds)->bindL kindOf binds m x=m x
 | [],_,_=>rfl
 |(n,v) :: r,m,h=>by
  unfold bindL
  rw[f6' fun w hw=>h w (ar _ hw)]
  split
  .have:x≠n:=by rintro rfl;exact h v aw
   simp[this]
  .rfl
theorem f7' {kindOf:Str->Option NameKind} {x:Str}:∀{binds:List (Str×Value)} {m:Str->Option Value},(∀v,(x,v)∉binds)->bindC kindOf binds m x=m x
 | [],_,_=>rfl
 |(n,v) :: r,m,h=>by
  unfold bindC
  rw[f7' fun w hw=>h w (ar _ hw)]
  split
  .rfl
  .have:x≠n:=by rintro rfl;exact h v aw
   simp[this]
theorem f8' {kindOf:Str->Option NameKind} {x:Str} {v:Value}:∀{P:List Str} {vs:List Value} {i:Nat} {m:Str->Option Value},P.Nodup->P[i]?=some x->vs[i]?=some v->kindOf x=some .local->
  bindL kindOf (P.zip vs) m x=some v
 | [],_,_,_,_,h,_,_=>by simp at h
 |_ :: _,[],_,_,_,_,h,_=>by simp at h
 |p :: P,w :: vs,0,m,nd,h1,h2,hk=>by
  simp at h1 h2;subst h1;subst h2
  show bindL kindOf ((p,w) :: P.zip vs) m p=_
  unfold bindL
  rw[f6' fun v hv=>(bY.mp nd).1 (List.of_mem_zip hv).1,if_pos hk]
  simp
 |p :: P,w :: vs,i+1,m,nd,h1,h2,hk=>by
  show bindL kindOf ((p,w) :: P.zip vs) m x=_
  unfold bindL
  exact f8' (i:=i) (bY.mp nd).2 (by simpa using h1) (by simpa using h2) hk
theorem f9' {kindOf:Str->Option NameKind} {x:Str} {v:Value}:∀{P:List Str} {vs:List Value} {i:Nat} {m:Str->Option Value},P.Nodup->P[i]?=some x->vs[i]?=some v->kindOf x≠some .local->
  bindC kindOf (P.zip vs) m x=some v
 | [],_,_,_,_,h,_,_=>by simp at h
 |_ :: _,[],_,_,_,_,h,_=>by simp at h
 |p :: P,w :: vs,0,m,nd,h1,h2,hk=>by
  simp at h1 h2;subst h1;subst h2
  show bindC kindOf ((p,w) :: P.zip vs) m p=_
  unfold bindC
  rw[f7' fun v hv=>(bY.mp nd).1 (List.of_mem_zip hv).1,if_neg hk]
  simp
 |p :: P,w :: vs,i+1,m,nd,h1,h2,hk=>by
  show bindC kindOf ((p,w) :: P.zip vs) m x=_
  unfold bindC
  exact f9' (i:=i) (bY.mp nd).2 (by simpa using h1) (by simpa using h2) hk
def aB' (N:List Str) (vs:List V):St:=vs.map some++aG (N.length-vs.length) none
def o7' (CX:CXT) (P:Program) (w:World) (K:W.Frag) (mg:Str->Option Value) (base:Heap) (N:List Str) (qual:Str) (scope:Scope) (f:Addr) (cd:Value) (A:Around) (outer:List Env) (s:Shared) (H:Hp) (E:XK):Cx where
 prog:=P
 w:=w
 K:=K
 mg:=mg
 base:=base
 A:=A.deeper (envOfC qual scope s.heap.objs.size f cd)
 N:=N
 s₀:=s
 H₀:=H
 env:=envOfC qual scope s.heap.objs.size f cd
 outer:=outer
 stack:=envOfC qual scope s.heap.objs.size f cd :: outer
 ex:=[]
 calm:=true
 fn:=fun _=>true
 pn:=[]
 xe:=fun e s'=>wpAny (model P w) (A.deeper (envOfC qual scope s.heap.objs.size f cd)) (leaving (envOfC qual scope s.heap.objs.size f cd) e) (fun _ s''=>CX outer H s E e s'') (fun e' s''=>CX outer H s E e' s'') s'
theorem fp' {sc:Scope} {n:Nat} {x:Str} (h:sc.names.lookup x=some .cell):∃c,(cellsFrom n sc.names []).lookup x=some c:=by
 have q:=W.cellsFrom_some sc.names n [] (.inl h)
 exact Option.isSome_iff_exists.mp q
theorem kC' {CX:CXT} {P:Program} {w:World} {K:W.Frag} {mg:Str->Option Value} {base:Heap} {N ps:List Str} {qual:Str} {scope:Scope} {f:Addr} {cd:Value} {A:Around} {outer:List Env} {s s1:Shared} {H:Hp} {E:XK} {us:List Value} {vs:List V}
  (S:FnScope N ps scope) (hd:A.handled=none) (e0:Env0 P w K mg base A outer s H) (hl:vs.length=ps.length) (r:aL' vs us)
  (x:InCallC s s.heap.objs.size (bindL (envOfC qual scope s.heap.objs.size f cd).kindOf (ps.zip us) fun _=>none) (cellsFrom (s.heap.objs.size+1) scope.names []) (bindC (envOfC qual scope s.heap.objs.size f cd).kindOf (ps.zip us) fun _=>none) s1):
  Inv (o7' CX P w K mg base N qual scope f cd A outer s H E) [] (aB' N vs) H s1:=by
 have hpl:ps.length<=N.length:=by have:=congrArg List.length S.pre;rw[aW]at this;omega
 obtain⟨h1,tk,rfl,hk⟩:=x.done
 have noA:∀b:Addr,b∉(o7' CX P w K mg base N qual scope f cd A outer s H E).ex:=fun b z=>absurd (show b∈([]:List Addr) from z) (by simp)
 refine⟨⟨e0.mod,S.kind,rfl,rfl,al _,fun y z c h1 h2=>?_,fun y hy=>?_,fun y c _ h=>?_,fun _=>hd,Around.frames_deeper e0.frames,.inr ⟨rfl,rfl⟩,fun b z=>absurd z (noA b),e0.bs,e0.bsz,fun b _ _=>noA b,fun b z=>absurd z (noA b),e0.funs,e0.frf⟩,
  rfl,e0.bare,Un.kept hk,⟨_,x.toInCall.ns,fun i y v h1 h2 h3=>?_⟩,fun y c h=>⟨_,x.cell y c h⟩,e0.hok.fresh (al _),fun y c h=>?_,fun p hp=>absurd (show p∈([]:List (Addr×Obj)) from hp) (by simp),e0.hok.kept hk,?_⟩
 .exact name_of_addr x.apart (PySem.mem_of_lookup h1) (PySem.mem_of_lookup h2)
 .have hy:scope.names.lookup y=some .cell\/scope.names.lookup y=some .free:=hy
  rcases hy with hy|hy
  .exact fp' hy
  .exact absurd rfl (S.nofree _ (PySem.mem_of_lookup hy))
 .exact bD (x.above y c (PySem.mem_of_lookup h))
 .have hi:i<vs.length:=by
   unfold aB' at h2
   by_cases hi:i<vs.length
   .exact hi
   .rw[List.getElem?_append_right (by simpa using hi)]at h2
    rw[List.getElem?_replicate]at h2
    split at h2<;>cases h2
  have ha:vs[i]?=some v:=by
   unfold aB' at h2
   rw[List.getElem?_append_left (by simpa using hi),az]at h2
   cases e:vs[i]? with
   |none=>rw[e]at h2;cases h2
   |some a=>rw[e]at h2;cases h2;rfl
  obtain⟨u,hu,rv⟩:=r.get ha
  have hp:ps[i]?=some y:=by
   rw[<- S.pre,List.getElem?_take_of_lt (by omega)];exact h1
  have ndP:ps.Nodup:=by rw[<- S.pre];exact S.nd.sublist (List.take_sublist _ _)
  refine⟨u,rv,?_⟩
  rcases S.par y (aE hp)with k|k
  .exact .inl ⟨k,f8' ndP hp hu k⟩
  .obtain⟨c,e⟩:=fp' (n:=s.heap.objs.size+1) k
   refine .inr ⟨.inl k,c,e,?_⟩
   have q:=x.cell y c e
   rw[f9' ndP hp hu (by show scope.names.lookup y≠_;rw[k];decide)]at q
   exact q
 .exact e0.hok.fresh (bD (x.above y c (PySem.mem_of_lookup h)))
 .unfold aB'
  show _=N.length
  rw[ao,ai,List.length_replicate]
  omega
theorem q1' {CX:CXT} {P:Program} {w:World} {K:W.Frag} {mg:Str->Option Value} {base:Heap} {k:Nat} {f:Addr} {name qual:Str} {params:Arguments} {body:List Stmt} {scope:Scope} {dV kV doc pm cdv ct oc:Value} {an od:Option Addr}
  {osl:Array (Option Value)} {N ps:List Str} {sp:Sp} (lk:K.lookup f=some ⟨oc,od,.func (W.fnOf name qual params body scope dV kV doc pm an cdv ct),osl⟩) (hcd:W.codeIn K cdv qual=true) (S:FnScope N ps scope)
  (len:∀vs H Q E,sp vs H Q E->vs.length=ps.length)
  (hbody:∀(A:Around) (outer:List Env) (s:Shared) (H:Hp) (vs:List V) (Q:VK) (E:XK),Room k (A.deeper (envOfC qual scope s.heap.objs.size f cdv))->sp vs H Q E->
   ∃t,PSs (o7' CX P w K mg base N qual scope f cdv A outer s H E) body t/\t { nx:=fun _ H'=>Q .non H',rt:=Q } (aB' N vs) H):
  FnOk P w K mg base CX (k+1) f (W.fnOf name qual params body scope dV kV doc pm an cdv ct) ps sp:=by
 refine⟨len,fun A outer s H args us vs Q E hr e0 hb r hsp=>?_⟩
 have hl:=len _ _ _ _ hsp
 have KX:K.In s.heap:=e0.mod.kin.keeps fun b o e=>(e0.bs b o e).1
 have lim:s.heap.NoLimit:=e0.mod.nolimit.keeps fun b o e=>(e0.bs b o e).1
 have hkind:∀y∈ps.zip us,scope.names.lookup y.1=some .local\/(scope.names.lookup y.1=some .cell/\((cellsFrom (s.heap.objs.size+1) scope.names []).lookup y.1).isSome=true):=fun⟨n,v⟩ hy=>by
  rcases S.par n (List.of_mem_zip hy).1 with q|q
  .exact .inl q
  .exact .inr ⟨q,W.cellsFrom_some _ _ _ (.inl q)⟩
 refine codeAny_call_function hr.depth (KX _ _ lk) rfl S.co S.gen rfl (W.codeRec_of KX hcd) (hb _ _ _ _ ?_)
 refine wpAny_newFunctionEnv_cells S.kind hkind fun env he s1 x=>?_
 subst he
 refine⟨lim.keeps x.toInCall.keep,codeAny_func ?_⟩
 obtain⟨t,ht,hq⟩:=hbody A outer s H vs Q E (hr.deeper _) hsp
 have I:Inv (o7' CX P w K mg base N qual scope f cdv A outer s H E) [] (aB' N vs) H s1:=kC' S hr.hd e0 hl r x
 refine bw (ht [] s1 (aB' N vs) H _ I hq) (fun fl s' hs=>?_) fun e s' hs=>hs
 have fin:∀{σ':St} {H':Hp} {v:V} {u:Value},Inv (o7' CX P w K mg base N qual scope f cdv A outer s H E) [] σ' H' s'->aF' v u->Q v H'->CE outer P w H s Q u s':=
  fun {σ' H' v u} J rv q=>⟨v,H',J.os,J.bare,J.base,J.hok,rv,q⟩
 cases fl with
 |ret u=>
  obtain⟨v,σ',H',J,rv,q⟩:=hs
  exact fin J rv q
 |next=>
  obtain⟨σ',H',J,q⟩:=hs
  exact fin (v:=V.non) (u:=Value.none) J rfl q
 |brk=>
  obtain⟨_,_,_,q⟩:=hs
  exact False.elim q
 |cont=>
  obtain⟨_,_,_,q⟩:=hs
  exact False.elim q
section
variable {X:Cx} {x:Str} {p pos:Pos} {e:Expr} {es:List Expr} {t:TA} {id T:String} {r:List V->Hp->VK->Prop}
def tCB (r:List V->Hp->VK->Prop) (t:TA):TE:=fun σ H Q=>t σ H fun vs H1=>r vs H1 Q
theorem nr' (hc:a8' X (.builtin id) r) (hg:Gl X x) (hm:X.mg x=none) (hv:bootBuiltins x=some (.builtin id)) (ha:PA X (e :: es) t) (hn:x≠"__name__":=by decide) (hdb:(x == ("__debug__":Str))=false:=by decide)
  (he:starEach (e :: es) X.env=(false,eval e X.env) :: starEach es X.env:=by rfl) (hpl:(backTo pos (starEach es X.env)).any (·.1)=false:=by rfl):PE X (.Call (.Name x p) (e :: es) [] pos) (tCB r t):=by
 intro pins s σ H Q I h
 refine wpAny_Call_Name_kw (dD' I hg hm hv ?_ hn hdb)
 exact PyProof.Rows.callWith_builtin1 (thn (ha pos pins s σ H _ I h) fun us s1 ⟨vs,H1,I1,r1,q1⟩=>hc pins s1 σ H1 vs us Q I1 r1 q1) he hpl
theorem kD' (hc:a8' X (.type T) r) (hg:Gl X x) (hm:X.mg x=none) (hv:bootBuiltins x=some (.type T)) (ha:PA X (e :: es) t) (hn:x≠"__name__":=by decide) (hdb:(x == ("__debug__":Str))=false:=by decide)
  (he:starEach (e :: es) X.env=(false,eval e X.env) :: starEach es X.env:=by rfl) (hpl:(backTo pos (starEach es X.env)).any (·.1)=false:=by rfl):PE X (.Call (.Name x p) (e :: es) [] pos) (tCB r t):=by
 intro pins s σ H Q I h
 refine wpAny_Call_Name_kw (dD' I hg hm hv ?_ hn hdb)
 exact PyProof.Rows.callWith_type1 (thn (ha pos pins s σ H _ I h) fun us s1 ⟨vs,H1,I1,r1,q1⟩=>hc pins s1 σ H1 vs us Q I1 r1 q1) he hpl
end
end L2
namespace HT
open PySem PyProof.Rows
section
open PySem.SeqAt
open PySem.AutoSeq1 (wpAny_loadPart')
open PySem.MeetsSeq PySem.MeetsSeq2 PySem.MeetsSeq3
end
section
variable {prog:Program} {w:World} {A:Around} {E:Value->Shared->Prop} {s:Shared}
theorem q2' {t b:Addr} {vs ws:List Value} {Q:Value->Shared->Prop} (ht:IsTup s.heap t vs.toArray) (hb:IsTup s.heap b ws.toArray) (hv:vs≠[])
  (h1:ws=[]->Q (.ref t) s) (h2:ws≠[]->Q (.ref s.heap.objs.size) { s with heap:=s.heap.push { cls:=.type "tuple",data:=.seq (vs++ws).toArray } })
  (hsz:vs.length+ws.length<=sizeLine):wpAny (model prog w) A (binaryOp .Add (.ref t) (.ref b)) Q E s:=by
 obtain⟨⟨cls,dd,data,sl⟩,ho,hc,n,hd⟩:=id ht
 obtain⟨⟨cls2,dd2,data2,sl2⟩,ho2,hc2,n2,hd2⟩:=id hb
 simp only at hc hd hc2 hd2
 subst hc hd hc2 hd2
 have e:vs.toArray++ws.toArray=(vs++ws).toArray:=by simp
 by_cases hw:ws=[]
 .exact concat_meets ⟨_,ho,rfl⟩ ⟨_,ho2,rfl⟩ noFill_tuple_add seq_tuple_add PySem.F.slot_tuple_add PySem.F.entry_tuple_add (PySem.F.args_tuple_add_2 _ _)
   (tuple_addW1 t b vs.toArray ws.toArray n n2 dd dd2 sl sl2 (by simpa using hv) (by simp[hw])) ⟨ho,ho2,h1 hw⟩
 .refine concat_meets ⟨_,ho,rfl⟩ ⟨_,ho2,rfl⟩ noFill_tuple_add seq_tuple_add PySem.F.slot_tuple_add PySem.F.entry_tuple_add (PySem.F.args_tuple_add_2 _ _)
   (tuple_addW2 t b vs.toArray ws.toArray n n2 dd dd2 sl sl2 (by simpa using hv) (by simpa using hw) (by rw[am,am];exact hsz)) ⟨ho,ho2,?_⟩
  rw[e]
  exact h2 hw
def sIx (n d:Nat):Option Int->Nat
 |none=>d
 |some v=>if v<0 then(v+(n:Int)).toNat else min v.toNat n
theorem ns' (n d:Nat):sIx n d none=d:=rfl
theorem q3' (n d k:Nat):sIx n d (some (k:Int))=min k n:=by
 show(if(k:Int)<0 then((k:Int)+(n:Int)).toNat else min (k:Int).toNat n)=min k n
 rw[if_neg (by omega),aK]
theorem tN' (n d:Nat) (hd:d<=n) (o:Option Int):sIx n d o<=n:=by
 cases o with
 |none=>exact hd
 |some v=>
  show(if v<0 then(v+(n:Int)).toNat else min v.toNat n)<=n
  by_cases hv:v<0
  .rw[if_pos hv];omega
  .rw[if_neg hv];exact Nat.min_le_right _ _
theorem kE' (v:Int) (n d:Nat):(if v<0 then max (v+(n:Int)) 0 else min v (n:Int))=((sIx n d (some v):Nat):Int):=by
 show(if v<0 then max (v+(n:Int)) 0 else min v (n:Int))=(((if v<0 then(v+(n:Int)).toNat else min v.toNat n):Nat):Int)
 by_cases hv:v<0
 .simp only[if_pos hv];omega
 .simp only[if_neg hv];omega
theorem jK' (lo hi:Option Int) (n:Nat):Builtin.Slice.sliceAdjust lo hi 1 (n:Int)=(((sIx n 0 lo:Nat):Int),((sIx n n hi:Nat):Int)):=by
 have h1:¬((1:Int)<0):=by omega
 unfold Builtin.Slice.sliceAdjust
 simp only[h1,if_false]
 refine Prod.ext ?_ ?_
 .cases lo with
  |none=>rfl
  |some v=>exact kE' v n 0
 .cases hi with
  |none=>rfl
  |some v=>exact kE' v n n
theorem jL' (i j:Nat):Builtin.Slice.slicePlaces (i:Int) (j:Int) 1=j-i:=by
 unfold Builtin.Slice.slicePlaces
 have h1:(1:Int) > 0:=by omega
 simp only[h1,if_true,Int.ediv_one]
 split<;>omega
theorem e0' {v:Value} {o:Option Int} {Q:Option Int->Shared->Prop} (p:IsPart v o) (h:Q o s):wpAny (model prog w) A (Builtin.Slice.slicePartIndex v) Q E s:=by
 cases p with
 |none=>exact slicePart_none h
 |int i t=>exact slicePart_int h
theorem co' {sl:Addr} {vl vu:Value} {lo hi:Option Int} {n:Nat} {Q:Int×Int×Nat->Shared->Prop} (hs:s.heap.IsSliceOf sl vl vu .none) (pl:IsPart vl lo) (pu:IsPart vu hi)
  (h:Q (((sIx n 0 lo:Nat):Int),1,sIx n n hi-sIx n 0 lo) s):wpAny (model prog w) A (Builtin.Slice.sliceApplied (.ref sl) (pure (n:Int))) Q E s:=by
 obtain⟨os,hos,hcs,hds⟩:=id hs
 unfold Builtin.Slice.sliceApplied Builtin.Slice.sliceFields
 refine aa (aa (aM hos hds (x:=vl) rfl (aa (aM hos hds (x:=vu) rfl (aa (aM hos hds (x:=.none) rfl (ae ?_)))))))
 refine aa (slicePart_none ?_)
 show wpAny _ _ (if((1:Int) == 0)=true then _ else _) _ _ s
 rw[if_neg (by decide)]
 refine aa (e0' pl (aa (e0' pu (aa (ae ?_)))))
 show wpAny _ _ (match Builtin.Slice.sliceAdjust lo hi 1 (n:Int)with|(lo,hi)=>pure (lo,(1:Int),Builtin.Slice.slicePlaces lo hi 1)) _ _ s
 rw[jK' lo hi n]
 show wpAny _ _ (pure (((sIx n 0 lo:Nat):Int),(1:Int),Builtin.Slice.slicePlaces ((sIx n 0 lo:Nat):Int) ((sIx n n hi:Nat):Int) 1)) _ _ s
 rw[jL']
 exact ae h
theorem nt' (xs:Array Value) (i k:Nat):((aD k).filterMap fun(m:Nat)=>xs[((i:Int)+(m:Int)*1).toNat]?).toArray=((xs.toList.drop i).take k).toArray:=by
 have e:(fun(m:Nat)=>xs[((i:Int)+(m:Int)*1).toNat]?)=fun m=>xs[i+m]?:=by
  funext m
  have:((i:Int)+(m:Int)*1).toNat=i+m:=by omega
  rw[this]
 rw[e]
 have:=pick_run xs i k
 rw[List.filterMap_map]at this
 have e2:((fun x=>xs[x]?)∘fun x=>i+x)=fun m=>xs[i+m]?:=rfl
 rw[e2]at this
 rw[this]
theorem dq' {t sl:Addr} {items:Array Value} {vl vu:Value} {lo hi:Option Int} {Q:Value->Shared->Prop} (ht:IsTup s.heap t items) (hs:s.heap.IsSliceOf sl vl vu .none) (pl:IsPart vl lo) (pu:IsPart vu hi)
  (hw:¬(sIx items.size 0 lo=0/\sIx items.size items.size hi=items.size))
  (h:Q (.ref s.heap.objs.size) { s with heap:=s.heap.push { cls:=.type "tuple",data:=.seq ((items.toList.drop (sIx items.size 0 lo)).take (sIx items.size items.size hi-sIx items.size 0 lo)).toArray } })
  (hsz:items.size<=sizeLine):wpAny (model prog w) A (getItem (.ref t) (.ref sl)) Q E s:=by
 have htake:sizeOk (.seq ((items.toList.drop (sIx items.size 0 lo)).take (sIx items.size items.size hi-sIx items.size 0 lo)).toArray):=by
  show((items.toList.drop (sIx items.size 0 lo)).take (sIx items.size items.size hi-sIx items.size 0 lo)).toArray.size<=sizeLine
  rw[am,aW,List.length_drop,aP]
  omega
 have hj:sIx items.size items.size hi<=items.size:=tN' _ _ (al _) hi
 obtain⟨os,hos,hcs,hds⟩:=id hs
 have hTs:s.TypeIs (.ref sl) "slice":=⟨os,hos,hcs⟩
 unfold getItem
 try with_reducible refine aH ?_
 first|refine aa (ae ?_)|skip
 refine aa (wpAny_sequenceKey ht.typeIs (by decide) ?_)
 refine aa (aU (name:=Str.ofString "__getitem__") ht.typeIs PyProof.Rows.slot_tuple_getitem
  (aV PyProof.Rows.slot_tuple_getitem ht.typeIs entry_tuple_getitem ?_ (args_tuple_getitem _ _)))
 show wpAny _ _ (Builtin.Tuple.tupleItemsOf (.ref t) >>= _) _ _ s
 refine aa (tupleItemsOf_ ht ?_)
 refine aa (wpAny_typeOf hTs ?_)
 rw[if_pos (by decide)]
 refine aa (co' hs pl pu ?_)
 have hno:¬((((sIx items.size 0 lo:Nat):Int) == 0&&(1:Int) == 1&&(sIx items.size items.size hi-sIx items.size 0 lo) == items.size)=true):=by
  intro q
  rw[af,af]at q
  have q1:((sIx items.size 0 lo:Nat):Int)=0:=eq_of_beq q.1.1
  have q2:sIx items.size items.size hi-sIx items.size 0 lo=items.size:=eq_of_beq q.2
  exact hw ⟨by omega,by omega⟩
 show wpAny _ _ (if(((sIx items.size 0 lo:Nat):Int) == 0&&(1:Int) == 1&&(sIx items.size items.size hi-sIx items.size 0 lo) == items.size)=true then _ else _) _ _ s
 rw[if_neg hno,nt']
 first
  |exact aa (m:=Builtin.Tuple.tupleExact _) (bc (ae ⟨_,rfl,ae h⟩) htake)
  |exact aa (m:=Builtin.Tuple.tupleExact _) (bc (aa (ae (ae ⟨_,rfl,ae h⟩))) htake)
  |exact aa (aa (m:=Builtin.Tuple.tupleExact _) (bc (ae (ae ⟨_,rfl,ae h⟩)) htake))
  |exact aa (aa (m:=Builtin.Tuple.tupleExact _) (bc (ae ⟨_,rfl,ae h⟩) htake))
end
end HT
namespace L2
open PySem PySem.Spec PyProof.Rows
abbrev TO:=St->Hp->(Option Int->Hp->Prop)->Prop
def PO (X:Cx) (e:Option Expr) (t:TO):Prop:=
 ∀(pins:List (Addr×Obj)) (s:Shared) (σ:St) (H:Hp) (Q:Option Int->Hp->Prop),Inv X pins σ H s->t σ H Q->
  wpAny (model X.prog X.w) X.A (evalPart e X.env) (fun u s'=>∃o H',Inv X pins σ H' s'/\IsPart u o/\Q o H') X.xe s
def hA':TO:=fun _ H Q=>Q none H
def q4' (t:TE):TO:=fun σ H Q=>t σ H fun x H1=>∃i,x=.int i/\Q (some i) H1
theorem dr' {ns:List Int}:∀{us:List Value},aL' (ns.map V.int) us->IntsAre us ns:=by
 induction ns with
 |nil=>intro us r;rw[List.map_nil]at r;cases r;exact .nil
 |cons n ns ih=>
  intro us r
  rw[aJ]at r
  cases r with
  |cons r1 r2=>
   obtain⟨t,e⟩:=r1
   subst e
   exact .cons n t (ih r2)
section
variable {X:Cx} {e:Expr} {te:TE} {lo hi:Option Expr} {tl th:TO} {pos p2:Pos}
theorem q5':PO X none hA':=by
 intro pins s σ H Q I h
 rw[evalPart_none]
 exact ae ⟨none,H,I,.none,h⟩
theorem q6' (h:PE X e te):PO X (some e) (q4' te):=by
 intro pins s σ H Q I hw
 rw[evalPart_some]
 refine thn (h pins s σ H _ I hw) fun u s1 ⟨x,H1,I1,r1,q1⟩=>?_
 obtain⟨i,rfl,q⟩:=q1
 obtain⟨t,rfl⟩:=r1
 exact⟨some i,H1,I1,.int i t,q⟩
def SlR (X:Cx) (r:V->Option Int->Option Int->Hp->VK->Prop):Prop:=
 ∀(pins:List (Addr×Obj)) (s:Shared) (σ:St) (H:Hp) (x:V) (v vl vu:Value) (lo hi:Option Int) (sl:Addr) (Q:VK),Inv X pins σ H s->aF' x v->s.heap.IsSliceOf sl vl vu .none->IsPart vl lo->IsPart vu hi->r x lo hi H Q->
  ∃T id,typeLookup (.type T) "__getitem__"=pure (some (.builtin id))/\s.TypeIs v T/\wpAny (model X.prog X.w) X.A (getItem v (.ref sl)) (EP X pins σ Q) X.xe s
theorem SlR.or {r r':V->Option Int->Option Int->Hp->VK->Prop} (h:SlR X r) (h':SlR X r'):SlR X (fun x lo hi H Q=>r x lo hi H Q\/r' x lo hi H Q):=by
 intro pins s σ H x v vl vu lo hi sl Q I rx hs pl pu q
 rcases q with q|q
 .exact h pins s σ H x v vl vu lo hi sl Q I rx hs pl pu q
 .exact h' pins s σ H x v vl vu lo hi sl Q I rx hs pl pu q
def tSl (r:V->Option Int->Option Int->Hp->VK->Prop) (te:TE) (tl th:TO):TE:=fun σ H Q=>te σ H fun x H1=>tl σ H1 fun l H2=>th σ H2 fun u H3=>r x l u H3 Q
theorem nu' {r:V->Option Int->Option Int->Hp->VK->Prop} (hr:SlR X r) (he:PE X e te) (hl:PO X lo tl) (hu:PO X hi th):PE X (.Subscript e (.Slice lo hi none p2) pos) (tSl r te tl th):=by
 intro pins s σ H Q I h
 refine Subscript_ (thn (he pins s σ H _ I h) fun v s1 ⟨x,H1,I1,r1,q1⟩=>?_)
 refine wpAny_Slice (thn (hl pins s1 σ H1 _ I1 q1) fun vl s2 ⟨l,H2,I2,pl,q2⟩=>thn (hu pins s2 σ H2 _ I2 q2) fun vu s3 ⟨u,H3,I3,pu,q3⟩=>?_)
 rw[evalPart_none]
 refine ae ?_
 have I4:Inv X pins σ H3 { s3 with heap:=s3.heap.push { cls:=.type "slice",data:=.fields #[vl,vu,.none] } }:=I3.kept (t':=s3.toks) fun b ob q=>ag _ q
 obtain⟨T,id,hT,ht,hg⟩:=hr pins { s3 with heap:=s3.heap.push { cls:=.type "slice",data:=.fields #[vl,vu,.none] } } σ H3 x v vl vu l u s3.heap.objs.size Q I4 r1 (Heap.IsSliceOf.new ..) pl pu q3
 show wpAny (model X.prog X.w) X.A (subscriptTail e (.Slice lo hi none p2) v (.ref s3.heap.objs.size)) (EP X pins σ Q) X.xe { s3 with heap:=s3.heap.push { cls:=.type "slice",data:=.fields #[vl,vu,.none] } }
 exact tail_any (ops:=[.ref s3.heap.objs.size,v]) ht hT hg (by with_unfolding_all rfl)
def nv' (xs:List V) (lo hi:Option Int):List V:=(xs.drop (HT.sIx xs.length 0 lo)).take (HT.sIx xs.length xs.length hi-HT.sIx xs.length 0 lo)
theorem d9' (xs:List V) (lo hi:Option Int):(nv' xs lo hi).length<=xs.length:=by
 unfold nv'
 rw[aW,List.length_drop]
 omega
def wP' (K:W.Frag):V->Option Int->Option Int->Hp->VK->Prop:=fun x lo hi H Q=>∃a xs,x=.ref a/\SqT K H a xs/\
 ¬(HT.sIx xs.length 0 lo=0/\HT.sIx xs.length xs.length hi=xs.length)/\∀p,H p=none->Q (.ref p) (upd H p (.tup (nv' xs lo hi)))
theorem tO':SlR X (wP' X.K):=by
 intro pins s σ H x v vl vu lo hi sl Q I rx hs pl pu h
 obtain⟨a,xs,rfl,hx,hw,q⟩:=h
 cases rx
 obtain⟨its,r,ht,hz⟩:=I.tuple hx
 have hlen:its.toArray.size=xs.length:=by rw[am];exact r.length.symm
 refine⟨"tuple",_,PyProof.Rows.slot_tuple_getitem.lookup,ht.typeIs,?_⟩
 refine HT.dq' ht hs pl pu (by rw[hlen];exact hw) ?_ (by rw[hlen];exact hz)
 rw[hlen]
 refine⟨.ref s.heap.objs.size,_,I.laid (t':=s.toks) (o:=.tup (nv' xs lo hi)) (fun b ob q=>ag _ q) (al _) ?_,rfl,q _ (I.hok.fresh (al _))⟩
 exact⟨aF (d9' xs lo hi) hz,_,(r.drop (HT.sIx xs.length 0 lo)).take (HT.sIx xs.length xs.length hi-HT.sIx xs.length 0 lo),oZ'.new _ _⟩
def tP' (K:W.Frag):R2:=fun x y H Q=>∃a b xs ys,x=.ref a/\y=.ref b/\SqT K H a xs/\SqT K H b ys/\xs≠[]/\xs.length+ys.length<=sizeLine/\
 (ys=[]->Q (.ref a) H)/\(ys≠[]->∀p,H p=none->Q (.ref p) (upd H p (.tup (xs++ys))))
theorem aL'.nil_iff {xs:List V} {us:List Value} (r:aL' xs us):us=[]↔xs=[]:=by
 cases r with
 |nil=>simp
 |cons _ _=>simp
theorem q8':OpR X (binaryOp .Add) (tP' X.K):=by
 intro pins s σ H x y v u Q I rx ry h
 obtain⟨a,b,xs,ys,rfl,rfl,ha,hb,hx,hz,q1,q2⟩:=h
 cases rx
 cases ry
 obtain⟨its,r1,p1,_⟩:=I.tuple ha
 obtain⟨its2,r2,p2,_⟩:=I.tuple hb
 refine HT.q2' p1 p2 (fun z=>hx (r1.nil_iff.mp z)) (fun z=>⟨.ref a,H,I,rfl,q1 (r2.nil_iff.mp z)⟩) (fun z=>?_) (by rw[<- r1.length,<- r2.length];exact hz)
 refine⟨.ref s.heap.objs.size,_,I.laid (t':=s.toks) (o:=.tup (xs++ys)) (fun b ob q=>ag _ q) (al _) ?_,rfl,q2 (fun w=>z (r2.nil_iff.mpr w)) _ (I.hok.fresh (al _))⟩
 exact⟨by rw[ao];exact hz,_,r1.append r2,oZ'.new _ _⟩
end
def ixN (n:Nat) (i:Int):Option Nat:=if 0<=i then(if i<n then some i.toNat else none)else if -(n:Int)<=i then some (i+n).toNat else none
def atI {α:Type} (xs:List α) (i:Int):Option α:=(ixN xs.length i).bind fun j=>xs[j]?
theorem kF' {n:Nat} {i:Int} {j:Nat} (h:ixN n i=some j):seqIndex? i n=some j/\j<n/\-(n:Int)<=i/\i<n:=by
 unfold ixN at h
 by_cases h0:0<=i
 .rw[if_pos h0]at h
  by_cases h1:i<n
  .rw[if_pos h1]at h
   have e:i.toNat=j:=Option.some.inj h
   exact⟨by rw[seqIndex_of h0 h1,e],by omega,by omega,h1⟩
  .rw[if_neg h1]at h;cases h
 .rw[if_neg h0]at h
  by_cases h1:-(n:Int)<=i
  .rw[if_pos h1]at h
   have e:(i+n).toNat=j:=Option.some.inj h
   exact⟨by rw[seqIndex_neg (by omega) h1,e],by omega,h1,by omega⟩
  .rw[if_neg h1]at h;cases h
theorem hB' {α:Type} {xs:List α} {i:Int} {v:α} (h:atI xs i=some v):∃j,seqIndex? i xs.length=some j/\xs[j]?=some v/\j<xs.length/\-(xs.length:Int)<=i/\i<xs.length:=by
 unfold atI at h
 cases e:ixN xs.length i with
 |none=>rw[e]at h;cases h
 |some j=>
  rw[e]at h
  obtain⟨h1,h2,h3,h4⟩:=kF' e
  exact⟨j,h1,h,h2,h3,h4⟩
theorem bX' {α:Type} {xs:List α} {j:Nat} {v:α} (h:xs[j]?=some v):atI xs (j:Int)=some v:=by
 have hj:j<xs.length:=(aC.mp h).1
 have e:ixN xs.length (j:Int)=some j:=by
  unfold ixN
  rw[if_pos (by omega),if_pos (by omega)];simp
 unfold atI;rw[e];exact h
def kG' (b:Expr):Prop:=∀o i,subscripted b false o i=operate [o,i] (getItem o i)
def IxR (X:Cx) (r:R2):Prop:=
 ∀(value slice:Expr) (pins:List (Addr×Obj)) (s:Shared) (σ:St) (H:Hp) (x y:V) (v u:Value) (Q:VK),Inv X pins σ H s->aF' x v->aF' y u->r x y H Q->
  subscripted slice false v u=operate [v,u] (getItem v u)->wpAny (model X.prog X.w) X.A (subscriptTail value slice v u) (EP X pins σ Q) X.xe s
def MtR (X:Cx) (id:String) (r:V->List V->Hp->VK->Prop):Prop:=
 ∀(pins:List (Addr×Obj)) (s:Shared) (σ:St) (H:Hp) (x:V) (xs:List V) (v:Value) (us:List Value) (Q:VK),Inv X pins σ H s->aF' x v->aL' xs us->r x xs H Q->
  wpAny (model X.prog X.w) X.A (call (.builtin id) (v :: us)) (EP X pins σ Q) X.xe s
section
variable {X:Cx} {a b:Expr} {ta tb:TE} {pos:Pos}
theorem IxR.or {r r':R2} (h:IxR X r) (h':IxR X r'):IxR X (fun x y H Q=>r x y H Q\/r' x y H Q):=by
 intro value slice pins s σ H x y v u Q I rx ry q hs
 rcases q with q|q
 .exact h value slice pins s σ H x y v u Q I rx ry q hs
 .exact h' value slice pins s σ H x y v u Q I rx ry q hs
theorem xA' {r:R2} (hr:IxR X r) (ha:PE X a ta) (hb:PE X b tb) (hs:kG' b):PE X (.Subscript a b pos) (tOp r ta tb):=by
 intro pins s σ H Q I h
 exact Subscript_ (xn' ha hb I h fun v u s2 x y H2 I2 rx ry q=>hr a b pins s2 σ H2 x y v u Q I2 rx ry q (hs _ _))
def f0' (K:W.Frag):R2:=fun x y H Q=>∃p xs i v,x=.ref p/\y=.int i/\SqL K H p xs/\atI xs i=some v/\Q v H
def ga' (K:W.Frag):R2:=fun x y H Q=>∃p xs i v,x=.ref p/\y=.int i/\SqT K H p xs/\atI xs i=some v/\Q v H
def y0':R2:=fun x y H Q=>∃z i c,x=.str z/\y=.int i/\z.length<=sizeLine/\atI z.cps.toList i=some c/\Q (.str ⟨#[c]⟩) H
theorem q9':IxR X (f0' X.K):=by
 intro value slice pins s σ H x y v u Q I rx ry h hs
 obtain⟨p,xs,i,z,rfl,rfl,hq,he,q⟩:=h
 cases rx
 obtain⟨t,rfl⟩:=ry
 obtain⟨its,r,pl,hz⟩:=I.list hq
 obtain⟨j,h1,h2,h3,h4,h5⟩:=hB' he
 obtain⟨w,ew,rw'⟩:=r.get h2
 have hl:=r.length
 have hn:=eZ'
 have fin:EP X pins σ Q w s:=⟨z,H,I,rw',q⟩
 by_cases h0:0<=i
 .have hj:i.toNat=j:=by
   rw[seqIndex_of h0 h5]at h1
   exact Option.some.inj h1
  exact item_listR pl.isList h0 (by omega) (by rw[hj];simpa using ew) fin hs
 .have hj:(i+(its.toArray.size:Int)).toNat=j:=by
   rw[seqIndex_neg (by omega) h4]at h1
   rw[am,<- hl]
   exact Option.some.inj h1
  exact subscriptTail_builtinR (x:=w) pl.isList.typeIs slot_list_getitem.lookup
   (wpAny_getItem_list_neg (Q:=fun r s'=>r=w/\EP X pins σ Q r s') pl.isList (by omega) (by rw[am]<;>omega) (by omega) (by rw[hj];simpa using ew) ⟨rfl,fin⟩) hs
theorem tQ':IxR X (ga' X.K):=by
 intro value slice pins s σ H x y v u Q I rx ry h hs
 obtain⟨p,xs,i,z,rfl,rfl,hq,he,q⟩:=h
 cases rx
 obtain⟨t,rfl⟩:=ry
 obtain⟨its,r,pl,hz⟩:=I.tuple hq
 obtain⟨j,h1,h2,h3,h4,h5⟩:=hB' he
 obtain⟨w,ew,rw'⟩:=r.get h2
 have hl:=r.length
 have hn:=eZ'
 have fin:EP X pins σ Q w s:=⟨z,H,I,rw',q⟩
 exact subscriptTail_builtinR (x:=w) pl.typeIs slot_tuple_getitem.lookup
  (getItem_tuple (j:=j) (Q:=fun r s'=>r=w/\EP X pins σ Q r s') pl (by omega) (by omega) (by rw[am,<- hl];exact h1) (by simpa using ew) ⟨rfl,fin⟩) hs
theorem tR':IxR X y0':=by
 intro value slice pins s σ H x y v u Q I rx ry h hs
 obtain⟨z,i,c,rfl,rfl,hz,he,q⟩:=h
 obtain⟨t,rfl⟩:=rx
 obtain⟨t',rfl⟩:=ry
 obtain⟨j,h1,h2,h3,h4,h5⟩:=hB' he
 have hl:z.cps.toList.length=z.length:=by simp[Str.length]
 rw[hl]at h1 h4 h5
 have hn:=eZ'
 exact tail_any (typeIs_str s z t) slot_str_getitem.lookup (getItem_str (c:=c) (by
  have e1:decide (i < -(2 ^ 63:Int))=false:=decide_eq_false (by omega)
  have e2:decide (i ≥ 2 ^ 63)=false:=decide_eq_false (by omega)
  rw[e1,e2,Bool.or_false]) (by rw[h1];simpa using h2) ⟨.str ⟨#[c]⟩,H,I.tok _,⟨_,rfl⟩,q⟩) hs
def rIx (K:W.Frag):R2:=fun x y H Q=>f0' K x y H Q\/ga' K x y H Q\/y0' x y H Q
theorem tS':IxR X (rIx X.K):=q9'.or (tQ'.or tR')
theorem jM' (its:List Value) (n j:Nat) (u:Value):Obj.mapSeq (·.setIfInBounds j u) { cls:=.type "list",data:=.seq its.toArray n }={ cls:=.type "list",data:=.seq (its.set j u).toArray n }:=by
 simp[Obj.mapSeq]
theorem Inv.lst {pins:List (Addr×Obj)} {σ:St} {H:Hp} {s:Shared} {p:Addr} {xs:List V} (I:Inv X pins σ H s) (h:H p=some (.lst xs)):
  ∃(its:List Value) (n:Nat),aL' xs its/\s.heap.get? p=some { cls:=.type "list",data:=.seq its.toArray n }/\xs.length<=sizeLine:=by
 obtain⟨z,its,n,r,e⟩:=I.hok p _ h
 exact⟨its,n,r,e,z⟩
theorem Inv.lstUpd {pins:List (Addr×Obj)} {σ:St} {H:Hp} {s:Shared} {p:Addr} {xs ys:List V} {its its':List Value} {n n':Nat} {f:Obj->Obj} (I:Inv X pins σ H s) (h:H p=some (.lst xs))
  (ho:s.heap.get? p=some { cls:=.type "list",data:=.seq its.toArray n }) (hf:f { cls:=.type "list",data:=.seq its.toArray n }={ cls:=.type "list",data:=.seq its'.toArray n' }) (r:aL' ys its') (hz:ys.length<=sizeLine) (t:Nat):
  Inv X pins σ (upd H p (.lst ys)) { s with heap:=s.heap.update p f,toks:=t }:=by
 have e:(s.heap.update p f).get? p=some { cls:=.type "list",data:=.seq its'.toArray n' }:=by
  rw[Heap.get?_update_self f ho (by rw[hf]<;>rfl),hf]
 refine I.write (x:=p) (e:=p) (by rw[h];trivial) (.inl rfl) (fun b u hb q=>(Heap.get?_update_other _ _ (Ne.symm hb)).trans q) ⟨_,e⟩ ?_
 exact⟨hz,its',n',r,e⟩
def dM':V->V->V->Hp->(Hp->Prop)->Prop:=fun o i v H Q=>∃p xs k j,o=.ref p/\i=.int k/\H p=some (.lst xs)/\ixN xs.length k=some j/\Q (upd H p (.lst (xs.set j v)))
theorem nw':yY' X dM':=by
 intro pins s σ H o i v ov iv u Q I ro ri rv h
 obtain⟨p,xs,k,j,rfl,rfl,hp,hj,q⟩:=h
 cases ro
 obtain⟨t,rfl⟩:=ri
 obtain⟨its,n,r,ho,hz⟩:=I.lst hp
 obtain⟨h1,h2,h3,h4⟩:=kF' hj
 have hl:=r.length
 have hn:=eZ'
 have I':Inv X pins σ (upd H p (.lst (xs.set j v))) { s with heap:=s.heap.update p (Obj.mapSeq (·.setIfInBounds j u)) }:=
  I.lstUpd hp ho (jM' its n j u) (r.set rv j) (by rw[List.length_set];exact hz) s.toks
 by_cases h0:0<=k
 .have hk:k.toNat=j:=by
   rw[seqIndex_of h0 h4]at h1
   exact Option.some.inj h1
  exact W.ki_setAt ho h0 (by omega) (by rw[am,<- hl];exact h4) (by rw[hk];exact⟨_,I',q⟩)
 .have hk:(k+(its.toArray.size:Int)).toNat=j:=by
   rw[seqIndex_neg (by omega) h3]at h1
   rw[am,<- hl]
   exact Option.some.inj h1
  exact W.ki_setBack ho (by omega) (by rw[am,<- hl];exact h3) (by omega) (by rw[hk];exact⟨_,I',q⟩)
theorem gb' (lo hi:Option Int) (n:Nat):(sliceBounds lo hi none n).1=((HT.sIx n 0 lo:Nat):Int)/\(sliceBounds lo hi none n).2.1=((HT.sIx n n hi:Nat):Int)/\(sliceBounds lo hi none n).2.2=1:=by
 refine⟨?_,?_,rfl⟩
 .cases lo with
  |none=>simp[sliceBounds,HT.sIx]
  |some i=>
   simp only[sliceBounds,HT.sIx,Option.getD_none,show(1:Int) > 0 by decide,if_true]
   by_cases h:i<0
   .simp only[h,if_true]<;>omega
   .simp only[h,if_false]<;>omega
 .cases hi with
  |none=>simp[sliceBounds,HT.sIx]
  |some i=>
   simp only[sliceBounds,HT.sIx,Option.getD_none,show(1:Int) > 0 by decide,if_true]
   by_cases h:i<0
   .simp only[h,if_true]<;>omega
   .simp only[h,if_false]<;>omega
theorem fq' (its:List Value) (lo hi:Option Int):slicePick its.toArray lo hi none=((its.drop (HT.sIx its.length 0 lo)).take (HT.sIx its.length its.length hi-HT.sIx its.length 0 lo)).toArray:=by
 obtain⟨h1,h2,h3⟩:=gb' lo hi its.toArray.size
 unfold slicePick
 rw[h1,h2,h3]
 simp only[sliceRange_one,pick_run,am]<;>rfl
def wQ' (K:W.Frag):V->Option Int->Option Int->Hp->VK->Prop:=fun x lo hi H Q=>∃a xs,x=.ref a/\SqL K H a xs/\∀p,H p=none->Q (.ref p) (upd H p (.lst (nv' xs lo hi)))
theorem ra':SlR X (wQ' X.K):=by
 intro pins s σ H x v vl vu lo hi sl Q I rx hs pl pu h
 obtain⟨a,xs,rfl,hx,q⟩:=h
 cases rx
 obtain⟨its,r,ht,hz⟩:=I.list hx
 have hlen:=r.length
 refine⟨"list",_,slot_list_getitem.lookup,ht.isList.typeIs,?_⟩
 refine wpAny_getItem_list_slice ht.isList hs pl pu .none (by simp) ?_ (by rw[am]<;>omega)
 rw[fq',<- hlen]
 refine⟨.ref s.heap.objs.size,_,I.laid (t':=s.toks) (o:=.lst (nv' xs lo hi)) (fun b ob q=>ag _ q) (al _) ?_,rfl,q _ (I.hok.fresh (al _))⟩
 exact⟨aF (d9' xs lo hi) hz,_,0,(r.drop (HT.sIx xs.length 0 lo)).take (HT.sIx xs.length xs.length hi-HT.sIx xs.length 0 lo),ax _ rfl⟩
def fr':V->Bool
 | .non=>true
 | .bl _=>true
 | .int _=>true
 | .str _=>true
 |_=>false
def eqV:V->V->Bool
 | .non,.non=>true
 | .bl a,.bl b=>a == b
 | .bl a,.int b=>(if a then 1 else 0) == b
 | .int a,.bl b=>a == (if b then 1 else 0)
 | .int a,.int b=>a == b
 | .str a,.str b=>a == b
 |_,_=>false
theorem tT' {A:Around} {s:Shared} {y x:V} {u v:Value} (ry:aF' y u) (rx:aF' x v) (fy:fr' y=true) (fx:fr' x=true):SeqAt.EqAt A s u v (eqV y x):=by
 cases y with
 |non=>
  cases ry
  cases x with
  |non=>cases rx;exact SeqAt.EqAt.same _
  |bl b=>cases rx;exact SeqAt.EqAt.none_bool b
  |int b=>obtain⟨t,rfl⟩:=rx;exact SeqAt.EqAt.none_int b t
  |str b=>obtain⟨t,rfl⟩:=rx;exact SeqAt.EqAt.none_str b t
  |_=>exact absurd (show false=true from fx) ap
 |bl a=>
  cases ry
  cases x with
  |non=>cases rx;exact SeqAt.EqAt.bool_none a
  |bl b=>cases rx;exact SeqAt.EqAt.bool_bool a b
  |int b=>obtain⟨t,rfl⟩:=rx;exact SeqAt.EqAt.bool_int a b t
  |str b=>obtain⟨t,rfl⟩:=rx;exact SeqAt.EqAt.bool_str a b t
  |_=>exact absurd (show false=true from fx) ap
 |int a=>
  obtain⟨t',rfl⟩:=ry
  cases x with
  |non=>cases rx;exact SeqAt.EqAt.int_none a t'
  |bl b=>cases rx;exact SeqAt.EqAt.int_bool a t' b
  |int b=>obtain⟨t,rfl⟩:=rx;exact SeqAt.EqAt.int_int a t' b t
  |str b=>obtain⟨t,rfl⟩:=rx;exact SeqAt.EqAt.int_str a t' b t
  |_=>exact absurd (show false=true from fx) ap
 |str a=>
  obtain⟨t',rfl⟩:=ry
  cases x with
  |non=>cases rx;exact SeqAt.EqAt.str_none a t'
  |bl b=>cases rx;exact SeqAt.EqAt.str_bool a t' b
  |int b=>obtain⟨t,rfl⟩:=rx;exact SeqAt.EqAt.str_int a t' b t
  |str b=>obtain⟨t,rfl⟩:=rx;exact SeqAt.EqAt.str_str a t' b t
  |_=>exact absurd (show false=true from fx) ap
 |_=>exact absurd (show false=true from fy) ap
def eqU (x:V) (u:Value):Bool:=match u with
 | .none=>eqV .non x
 | .bool b=>eqV (.bl b) x
 | .int i _=>eqV (.int i) x
 | .str z _=>eqV (.str z) x
 |_=>false
theorem o8' {x y:V} {u:Value} (r:aF' y u) (f:fr' y=true):eqU x u=eqV y x:=by
 cases y with
 |non=>cases r;rfl
 |bl b=>cases r;rfl
 |int i=>obtain⟨t,rfl⟩:=r;rfl
 |str z=>obtain⟨t,rfl⟩:=r;rfl
 |_=>exact absurd (show false=true from f) ap
theorem ea' {x:V}:∀{xs:List V} {us:List Value},aL' xs us->xs.all fr'=true->us.any (eqU x)=xs.any fun y=>eqV y x
 |_,_,.nil,_=>rfl
 |y :: xs,u :: us,.cons r t,f=>by
  rw[List.all_cons,af]at f
  rw[bR,bR,o8' r f.1,ea' t f.2]
theorem c5' {A:Around} {s:Shared} {x:V} {v:Value} (rx:aF' x v) (fx:fr' x=true):∀{xs:List V} {us:List Value},aL' xs us->xs.all fr'=true->∀u∈us,SeqAt.EqAt A s u v (eqU x u)
 |_,_,.nil,_=>fun u hu=>by cases hu
 |y :: xs,u :: us,.cons r t,f=>fun u' hu=>by
  rw[List.all_cons,af]at f
  rcases aq.mp hu with rfl|hu
  .rw[o8' r f.1];exact tT' r rx f.1 fx
  .exact c5' rx fx t f.2 u' hu
def inV (x:V) (xs:List V):Bool:=xs.any fun y=>eqV y x
def rIn (K:W.Frag) (neg:Bool):R2:=fun x y H Q=>∃p xs,y=.ref p/\(SqL K H p xs\/SqT K H p xs)/\fr' x=true/\xs.all fr'=true/\Q (.bl (if neg then !inV x xs else inV x xs)) H
theorem kH':OpR X (compareOp .In) (rIn X.K false):=by
 intro pins s σ H x y v u Q I rx ry h
 obtain⟨p,xs,rfl,hq,fx,fs,q⟩:=h
 cases ry
 rcases hq with hq|hq
 .obtain⟨its,r,pl,hz⟩:=I.list hq
  refine SeqAt.in_listAt (eqU x) pl.isList (fun w hw=>c5' rx fx r fs w (by simpa using hw)) ⟨.bl _,H,I,rfl,?_⟩
  rw[show its.toArray.any (eqU x)=its.any (eqU x) by simp,ea' r fs]
  exact q
 .obtain⟨its,r,pl,hz⟩:=I.tuple hq
  refine SeqAt.in_tupleAt (eqU x) pl (fun w hw=>c5' rx fx r fs w (by simpa using hw)) ⟨.bl _,H,I,rfl,?_⟩
  rw[show its.toArray.any (eqU x)=its.any (eqU x) by simp,ea' r fs]
  exact q
theorem gc':OpR X (compareOp .NotIn) (rIn X.K true):=by
 intro pins s σ H x y v u Q I rx ry h
 obtain⟨p,xs,rfl,hq,fx,fs,q⟩:=h
 cases ry
 rcases hq with hq|hq
 .obtain⟨its,r,pl,hz⟩:=I.list hq
  refine SeqAt.notIn_listAt (eqU x) pl.isList (fun w hw=>c5' rx fx r fs w (by simpa using hw)) ⟨.bl _,H,I,rfl,?_⟩
  rw[show its.toArray.any (eqU x)=its.any (eqU x) by simp,ea' r fs]
  exact q
 .obtain⟨its,r,pl,hz⟩:=I.tuple hq
  refine SeqAt.notIn_tupleAt (eqU x) pl (fun w hw=>c5' rx fx r fs w (by simpa using hw)) ⟨.bl _,H,I,rfl,?_⟩
  rw[show its.toArray.any (eqU x)=its.any (eqU x) by simp,ea' r fs]
  exact q
theorem a8'.or {f:Value} {r r':List V->Hp->VK->Prop} (h:a8' X f r) (h':a8' X f r'):a8' X f (fun xs H Q=>r xs H Q\/r' xs H Q):=by
 intro pins s σ H xs us Q I rs q
 rcases q with q|q
 .exact h pins s σ H xs us Q I rs q
 .exact h' pins s σ H xs us Q I rs q
theorem gd':a8' X (.type "list") (fun xs H Q=>∃p ys,xs=[.ref p]/\(SqL X.K H p ys\/SqT X.K H p ys)/\∀l,H l=none->Q (.ref l) (upd H l (.lst ys))):=by
 intro pins s σ H xs us Q I r h
 obtain⟨p,ys,rfl,hq,q⟩:=h
 obtain⟨u,rfl,rx⟩:=eP' r
 cases rx
 have fin:∀(its:List Value),aL' ys its->ys.length<=sizeLine->∀(h':Heap) (c':Nat),(∀b o',s.heap.get? b=some o'->h'.get? b=some o')->
   h'.get? s.heap.objs.size=some { cls:=.type "list",dict:=none,data:=.seq its.toArray c',slots:=#[] }->EP X pins σ Q (.ref s.heap.objs.size) { s with heap:=h' }:=fun its r' hz h' c' kp e=>
  ⟨.ref s.heap.objs.size,_,I.laid (t':=s.toks) kp (al _) (show av' X.prog X.w _ h' _ (.lst ys) from⟨hz,its,c',r',e⟩),rfl,q _ (I.hok.fresh (al _))⟩
 rcases hq with hq|hq
 .obtain⟨its,r',pl,hz⟩:=I.list hq
  have hlen:=r'.length
  obtain⟨o,ho,hc,n,hd⟩:=pl.isList
  exact call_list_seq p (.inl rfl) ho hc hd (fun h' c' kp e=>fin its r' hz h' c' kp e) (by simp only[am]<;>omega)
 .obtain⟨its,r',pl,hz⟩:=I.tuple hq
  have hlen:=r'.length
  obtain⟨o,ho,hc,n,hd⟩:=pl
  exact call_list_seq p (.inr rfl) ho hc hd (fun h' c' kp e=>fin its r' hz h' c' kp e) (by simp only[am]<;>omega)
theorem ft':a8' X (.type "tuple") (fun xs H Q=>∃p ys,xs=[.ref p]/\((SqL X.K H p ys/\∀l,H l=none->Q (.ref l) (upd H l (.tup ys)))\/(SqT X.K H p ys/\Q (.ref p) H))):=by
 intro pins s σ H xs us Q I r h
 obtain⟨p,ys,rfl,h⟩:=h
 obtain⟨u,rfl,rx⟩:=eP' r
 cases rx
 rcases h with⟨hq,q⟩|⟨hq,q⟩
 .obtain⟨its,r',pl,hz⟩:=I.list hq
  have hlen:=r'.length
  refine call_tuple_list pl.isList (fun h' kp=>?_) (by simp only[am]<;>omega)
  have I1:Inv X pins σ H { s with heap:=h' }:=I.kept (t':=s.toks) kp
  have I2:Inv X pins σ (upd H h'.objs.size (.tup ys)) { s with heap:=h'.push { cls:=.type "tuple",data:=.seq its.toArray } }:=
   I1.laid (t':=s.toks) (fun b o e=>ag _ e) (al _) (show av' X.prog X.w _ _ _ (.tup ys) from⟨hz,its,r',oZ'.new _ _⟩)
  exact⟨.ref h'.objs.size,_,I2,rfl,q _ (I1.hok.fresh (al _))⟩
 .obtain⟨its,r',pl,hz⟩:=I.tuple hq
  exact call_tuple_same pl ⟨.ref p,H,I,rfl,q⟩
def tyV (K:W.Frag) (T:String) (x:V) (H:Hp):Prop:=match x with
 | .str _=>T="str"
 | .int _=>T="int"
 | .ref p=>(T="list"/\∃xs,SqL K H p xs)\/(T="tuple"/\((∃o,K.lookup p=some o/\o.cls=.type "tuple"/\o.dict=none)\/∃xs,H p=some (.tup xs)))\/
   (T="dict"/\((∃kvs,H p=some (.dK kvs))\/∃kvs,H p=some (.dT kvs)))\/(T="set"/\∃S n,H p=some (.set S n))
 |_=>False
theorem o9' {pins:List (Addr×Obj)} {σ:St} {H:Hp} {s:Shared} {T:String} {x:V} {v:Value} (I:Inv X pins σ H s) (r:aF' x v) (ty:tyV X.K T x H):
  s.TypeIs v T/\∀a,v=.ref a->∃ob,s.heap.get? a=some ob/\ob.dict=none:=by
 cases x with
 |str z=>
  obtain⟨t,rfl⟩:=r
  cases(show T="str" from ty)
  exact⟨typeIs_str s z t,fun _ e=>nomatch e⟩
 |int i=>
  obtain⟨t,rfl⟩:=r
  cases(show T="int" from ty)
  exact⟨typeIs_int s i t,fun _ e=>nomatch e⟩
 |ref p=>
  cases r
  rcases ty with⟨rfl,xs,hq⟩|⟨rfl,⟨o,hk,hc,hd⟩|⟨xs,hk⟩⟩|⟨rfl,hk⟩|⟨rfl,S,n,hk⟩
  .obtain⟨its,_,pl,_⟩:=I.list hq
   refine⟨pl.isList.typeIs,fun a e=>?_⟩
   cases e
   obtain⟨o,n,e,c,hd,_⟩:=pl
   exact⟨o,e,hd⟩
  .refine⟨⟨o,I.kIn p o hk,hc⟩,fun a e=>?_⟩
   cases e
   exact⟨o,I.kIn _ o hk,hd⟩
  .obtain⟨_,_,_,o,e,c,_,hd⟩:=I.hok p _ hk
   refine⟨⟨o,e,c⟩,fun a e2=>?_⟩
   cases e2
   exact⟨o,e,hd⟩
  .have z:∃o,s.heap.get? p=some o/\o.ExactDict:=by
    rcases hk with⟨kvs,hk⟩|⟨kvs,hk⟩
    .obtain⟨_,_,_,_,o,_,_,e,ex,_⟩:=I.hok p _ hk
     exact⟨o,e,ex⟩
    .obtain⟨_,_,_,_,o,_,_,e,ex,_⟩:=I.hok p _ hk
     exact⟨o,e,ex⟩
   obtain⟨o,e,ex⟩:=z
   refine⟨⟨o,e,ex.1⟩,fun a e2=>?_⟩
   cases e2
   exact⟨o,e,ex.2.1⟩
  .obtain⟨o,_,_,_,e,ex,_⟩:=I.hok p _ hk
   refine⟨⟨o,e,ex.1⟩,fun a e2=>?_⟩
   cases e2
   exact⟨o,e,ex.2.1⟩
 |_=>exact False.elim ty
def zU' (K:W.Frag) (T:String) (r:V->List V->Hp->VK->Prop) (to:TE):TE:=fun σ H Q=>to σ H fun x H1=>tyV K T x H1/\r x [] H1 Q
def tBM (K:W.Frag) (T:String) (r:V->List V->Hp->VK->Prop) (to:TE) (t:TA):TE:=fun σ H Q=>to σ H fun x H1=>tyV K T x H1/\t σ H1 fun xs H2=>r x xs H2 Q
variable {o e:Expr} {es:List Expr} {to:TE} {t:TA} {name:Str} {apos cpos:Pos} {T id:String} {r:V->List V->Hp->VK->Prop}
theorem tU' (pa:PlainAttrs T) (slot:Slot T name id) (hty:typeOf (.builtin id)=pure (.type "method_descriptor")) (hm:MtR X id r) (ho:PE X o to)
  (hbase:attributeBase o name X.env (eval o X.env)=eval o X.env:=by rfl) (hline:(apos.endLine == cpos.line)=true:=by rfl):PE X (.Call (.Attribute o name apos) [] [] cpos) (zU' X.K T r to):=by
 intro pins s σ H Q I h
 refine wpAny_Call_method0_late hbase hline (thn (ho pins s σ H _ I h) fun v s1 ⟨x,H1,I1,r1,ty,q1⟩=>?_)
 obtain⟨h1,h2⟩:=o9' I1 r1 ty
 exact⟨T,id,pa,slot,hty,h1,h2,Calls.callWith_builtin rfl (PySem.evalArgs_none (hm pins s1 σ H1 x [] v [] Q I1 r1 .nil q1))⟩
theorem xB' (pa:PlainAttrs T) (slot:Slot T name id) (hty:typeOf (.builtin id)=pure (.type "method_descriptor")) (hm:MtR X id r) (ho:PE X o to) (ha:PA X (e :: es) t)
  (hbase:attributeBase o name X.env (eval o X.env)=eval o X.env:=by rfl)
  (hfew:((backTo cpos (starEach (e :: es) X.env)).all (fun x=>!x.1)&&(backToKw cpos (keywordEach [] X.env)).all (fun x=>x.1.isSome)
   && decide ((e :: es).length+([]:List Keyword).length+(if([]:List Keyword).isEmpty then 0 else 1)<30))=true:=by rfl)
  (hline:(apos.endLine == cpos.line)=true:=by rfl) (hs:starEach (e :: es) X.env=(false,eval e X.env) :: starEach es X.env:=by rfl) (hplain:(backTo cpos (starEach es X.env)).any (·.1)=false:=by rfl):
  PE X (.Call (.Attribute o name apos) (e :: es) [] cpos) (tBM X.K T r to t):=by
 intro pins s σ H Q I h
 refine wpAny_Call_method_late hbase hfew hline rfl (thn (ho pins s σ H _ I h) fun v s1 ⟨x,H1,I1,r1,ty,q1⟩=>?_)
 obtain⟨h1,h2⟩:=o9' I1 r1 ty
 refine⟨T,id,pa,slot,hty,h1,h2,?_⟩
 have hA:=ha cpos pins s1 σ H1 _ I1 q1
 rw[hs]at hA ⊢
 refine Calls.callWith_builtin (by show(false || (backTo cpos (starEach es X.env)).any (·.1))=false;rw[hplain]<;>rfl) (Calls.evalArgs_plain ?_)
 exact thn hA fun us s2 ⟨vs,H2,I2,r2,q2⟩=>hm pins s2 σ H2 x vs v us Q I2 r1 r2 q2
end
def MtM (X:Cx) (id:String) (r:V->List V->Hp->VK->Prop):Prop:=
 ∀(pins:List (Addr×Obj)) (s:Shared) (σ:St) (H:Hp) (x:V) (xs:List V) (v:Value) (us:List Value) (Q:VK),Inv X pins σ H s->aF' x v->aL' xs us->r x xs H Q->
  wpAny (model X.prog X.w) X.A (call (.builtin id) (v :: us)) (EP X pins σ Q) X.xe s
theorem aL'.one:∀{x:V} {us:List Value},aL' [x] us->∃u,us=[u]/\aF' x u
 |_,_,.cons r .nil=>⟨_,rfl,r⟩
theorem aL'.zero:∀{us:List Value},aL' [] us->us=[]
 |_,.nil=>rfl
theorem aL'.dropLast {xs:List V} {us:List Value} (h:aL' xs us):aL' xs.dropLast us.dropLast:=by
 induction h with
 |nil=>exact .nil
 |cons r t ih=>
  cases t with
  |nil=>exact .nil
  |cons q t'=>exact .cons r ih
theorem aL'.reverse {xs:List V} {us:List Value} (h:aL' xs us):aL' xs.reverse us.reverse:=by
 induction h with
 |nil=>exact .nil
 |cons r t ih=>rw[List.reverse_cons,List.reverse_cons];exact aL'.append ih (.cons r .nil)
theorem aL'.rep {xs:List V} {us:List Value} (h:aL' xs us):∀k:Nat,aL' (aG k xs).flatten (aG k us).flatten
 |0=>.nil
 |k+1=>by
  rw[bT,bT,ce,ce]
  exact aL'.append h (aL'.rep h k)
theorem ge' (its:List Value):∀(k:Nat) (acc:List Value),
  List.foldl (fun x1 x2=>x1++x2) acc.toArray (aG k its.toArray)=(acc++(aG k its).flatten).toArray
 |0,acc=>by simp
 |k+1,acc=>by
  have e:acc.toArray++its.toArray=(acc++its).toArray:=by simp
  have e2:(acc++its)++(aG k its).flatten=acc++(aG (k+1) its).flatten:=by
   rw[bT,ce,aO]
  rw[<- e2,<- ge' its k (acc++its),<- e,bT,List.foldl_cons]
section
variable {X:Cx} {pins:List (Addr×Obj)} {σ:St} {H:Hp} {s:Shared} {l b:Addr} {xs ys zs:List V}
theorem Inv.lset {its its':List Value} {n:Nat} {f:Array Value->Array Value} {t':Nat} (I:Inv X pins σ H s) (hH:H l=some (.lst xs))
  (e:s.heap.get? l=some { cls:=.type "list",data:=.seq its.toArray n }) (hf:f its.toArray=its'.toArray) (hv:aL' ys its') (hz:ys.length<=sizeLine):
  Inv X pins σ (upd H l (.lst ys)) { s with heap:=s.heap.update l (Obj.mapSeq f),toks:=t' }:=by
 have q:=PySem.IsL.update e f
 rw[hf]at q
 refine I.write (x:=l) (e:=l) (by rw[hH];exact trivial) (.inl rfl) (fun b' u hb hu=>(Heap.get?_update_other s.heap (Obj.mapSeq f) (Ne.symm hb)).trans hu) ⟨_,q⟩ ?_
 exact⟨hz,its',_,hv,q⟩
theorem Inv.lnew {its:List Value} {t':Nat} (I:Inv X pins σ H s) (hv:aL' ys its) (hz:ys.length<=sizeLine):
  Inv X pins σ (upd H s.heap.objs.size (.lst ys)) { s with heap:=s.heap.push { cls:=.type "list",data:=.seq its.toArray },toks:=t' }:=
 I.laid (fun _ _ q=>ag _ q) (al _) ⟨hz,its,0,hv,ax _ rfl⟩
theorem Inv.fresh (I:Inv X pins σ H s):H s.heap.objs.size=none:=I.hok.fresh (al _)
theorem Inv.lstM (I:Inv X pins σ H s) (hH:H l=some (.lst xs)):xs.length<=sizeLine/\∃(its:List Value) (n:Nat),aL' xs its/\xs.length=its.length/\s.heap.get? l=some { cls:=.type "list",data:=.seq its.toArray n }:=by
 obtain⟨z,its,n,r,e⟩:=I.hok l _ hH
 exact⟨z,its,n,r,r.length,e⟩
theorem iq' {n:Nat} (h:n<=sizeLine):Builtin.List.listTooLong n=false:=by
 unfold Builtin.List.listTooLong
 exact decide_eq_false (by omega)
end
section
variable {X:Cx}
def kI':V->List V->Hp->VK->Prop:=fun x vs H Q=>∃l xs y,x=.ref l/\vs=[y]/\H l=some (.lst xs)/\xs.length<sizeLine/\Q .non (upd H l (.lst (xs++[y])))
theorem kJ':MtM X "list.append" kI':=by
 intro pins s σ H x vs v us Q I rx rv h
 obtain⟨l,xs,y,rfl,rfl,hH,hz,q⟩:=h
 cases rx
 obtain⟨u,rfl,ru⟩:=rv.one
 obtain⟨z,its,n,r,hl,e⟩:=I.lstM hH
 refine call_meets F.slot_list_append ⟨_,e,rfl⟩ F.entry_list_append (F.args_list_append_2 _ _) (PySem.list_append l its.toArray n u (by rw[am];omega)) ⟨e,?_⟩
 refine⟨.non,_,I.lset (its':=its++[u]) hH e (by simp) (r.append (.cons ru .nil)) ?_,rfl,q⟩
 rw[ao,bK]
 omega
def kK':V->List V->Hp->VK->Prop:=fun x vs H Q=>∃l b xs zs,x=.ref l/\vs=[.ref b]/\H l=some (.lst xs)/\H b=some (.lst zs)/\xs.length+zs.length<=sizeLine/\Q .non (upd H l (.lst (xs++zs)))
theorem kL':MtM X "list.extend" kK':=by
 intro pins s σ H x vs v us Q I rx rv h
 obtain⟨l,b,xs,zs,rfl,rfl,hH,hB,hz,q⟩:=h
 cases rx
 obtain⟨u,rfl,ru⟩:=rv.one
 cases ru
 obtain⟨z,its,n,r,hl,e⟩:=I.lstM hH
 obtain⟨z2,its2,n2,r2,hl2,e2⟩:=I.lstM hB
 have hsz:its.toArray.size+its2.toArray.size<=sizeLine:=by rw[am,am];omega
 have hlong:¬(!its.toArray.isEmpty&&Builtin.List.listTooLong (its.toArray.size+its2.toArray.size))=true:=by
  rw[iq' hsz,Bool.and_false]
  exact ap
 refine call_meets F.slot_list_extend ⟨_,e,rfl⟩ F.entry_list_extend (F.args_list_extend_2 _ _)
  (AutoSeq1.list_extend_list_list_0 l its.toArray n b its2.toArray n2 hlong (by rw[am];omega) (by omega)) ⟨e,e2,?_⟩
 refine⟨.non,_,I.lset (its':=its++its2) hH e (by simp) (r.append r2) ?_,rfl,q⟩
 rw[ao]
 omega
def y1':R2:=fun x y H Q=>∃l b xs zs,x=.ref l/\y=.ref b/\H l=some (.lst xs)/\H b=some (.lst zs)/\xs.length+zs.length<=sizeLine/\∀p,H p=none->Q (.ref p) (upd H p (.lst (xs++zs)))
theorem tV':OpR X (binaryOp .Add) y1':=by
 intro pins s σ H x y v u Q I rx ry h
 obtain⟨l,b,xs,zs,rfl,rfl,hH,hB,hz,q⟩:=h
 cases rx
 cases ry
 obtain⟨z,its,n,r,hl,e⟩:=I.lstM hH
 obtain⟨z2,its2,n2,r2,hl2,e2⟩:=I.lstM hB
 refine PySem.P.add_list e e2 ?_ (by rw[am,am];omega)
 have ea:its.toArray++its2.toArray=(its++its2).toArray:=by simp
 rw[ea]
 exact⟨.ref _,_,I.lnew (t':=s.toks) (r.append r2) (by rw[ao];omega),rfl,q _ I.fresh⟩
def y2':R2:=fun x y H Q=>∃l k xs,x=.ref l/\y=.int k/\H l=some (.lst xs)/\-(2 ^ 63)<=k/\k<2 ^ 63/\xs.length*k.toNat<=sizeLine/\
 ∀p,H p=none->Q (.ref p) (upd H p (.lst (aG k.toNat xs).flatten))
theorem rb' {α:Type} (xs:List α) (k:Nat):(aG k xs).flatten.length=k*xs.length:=by
 induction k with
 |zero=>simp
 |succ k ih=>rw[bT,ce,ao,ih,Nat.succ_mul,Nat.add_comm]
theorem tW':OpR X (binaryOp .Mult) y2':=by
 intro pins s σ H x y v u Q I rx ry h
 obtain⟨l,k,xs,rfl,rfl,hH,h1,h2,hz,q⟩:=h
 cases rx
 obtain⟨t,rfl⟩:=ry
 obtain⟨z,its,n,r,hl,e⟩:=I.lstM hH
 have hlen:its.toArray.size*k.toNat<=sizeLine:=by rw[am,<- hl];exact hz
 have hcap:¬its.toArray.size*k.toNat > (2 ^ 63-1) / 8:=by
  have:(sizeLine:Nat)<=(2 ^ 63-1) / 8:=by decide
  omega
 have hfit:¬(!Builtin.List.listFitsIndex k)=true:=by
  rw[fitsIndex_both h1 h2]
  exact ap
 have hlong:¬Builtin.List.listTooLong (its.toArray.size*k.toNat)=true:=by
  rw[iq' hlen]
  exact ap
 have hnew:List.foldl (fun x1 x2=>x1++x2) #[] (aG (if its.toArray.isEmpty=true then 0 else k.toNat) its.toArray)=(aG k.toNat its).flatten.toArray:=by
  have f0:∀m:Nat,List.foldl (fun x1 x2=>x1++x2) #[] (aG m its.toArray)=(aG m its).flatten.toArray:=fun m=>by
   have:=ge' its m []
   rw[List.nil_append]at this
   exact this
  rw[f0]
  cases its with
  |nil=>simp
  |cons a r'=>rw[if_neg (by simp)]
 refine wpAny_binaryOp_repeat_ref (T:="list") (U:="int") (by decide) ⟨_,e,rfl⟩ (fun s'=>typeIs_int s' k t) noFill_list_mul F.fills_int_mul F.slot_int_rmul repeat_list F.slot_int_index.lookup
  (call_meets F.slot_int_rmul (typeIs_int s k t) F.entry_int_rmul (F.args_int_rmul_2 _ _) (int___rmul___int_list k t l its.toArray n)
   ⟨e,rfl,⟨_,e,rfl⟩,call_meets F.slot_list_mul ⟨_,e,rfl⟩ F.entry_list_mul (F.args_list_mul_2 _ _) (AutoListH.list___mul___list_int_3 l its.toArray n k t hfit hcap hlong) ⟨e,?_⟩⟩)
 rw[hnew]
 exact⟨.ref _,_,I.lnew (t':=s.toks) (r.rep k.toNat) (by rw[rb',Nat.mul_comm];exact hz),rfl,q _ I.fresh⟩
end
section
variable {prog:Program} {w:World} {A:Around} {E:Value->Shared->Prop} {s:Shared}
end
section
variable {X:Cx}
end
end L2
namespace Att
open PySem PySem.W PySem.Calls PyProof.Rows
theorem eb' {P:Params} {h:Heap}:∀(ns:List Int) (vs:List Value),WellAll P h vs (ns.map WData.int)->IntsAre vs ns:=by
 intro ns
 induction ns with
 |nil=>
  intro vs w
  rw[List.map_nil]at w
  cases w
  exact .nil
 |cons n ns ih=>
  intro vs w
  rw[aJ]at w
  cases w with
  |cons a b=>
   cases a
   exact .cons _ _ (ih _ b)
theorem kM' {l:OpenLaw} {n:Nat} (hn:l.most=some n) {P:Params} {h:Heap} {args:List WData} {vals:List Value}
  (hpre:l.row.toRowW.claim.pre args=true) (hwl:WellAll P h vals args):
  ∃a vs ns,vals=[Value.ref a]/\args=[WData.list (ns.map WData.int)]/\h.get? a=some { cls:=.type "list",data:=.seq vs.toArray }/\IntsAre vs ns/\ns.length<=n:=by
 have hsh:WShape.hasAll [] args [.list .int]=true:=(pre_splitW hpre).1
 have hc:l.pre.holds [] { args:=args }=true:=(pre_splitW hpre).2
 obtain⟨d,r,rfl,h1,h2⟩:=hasAllW_cons hsh
 obtain rfl:=hasAllW_nil h2
 obtain⟨xs,rfl,h3⟩:=hasW_list h1
 obtain⟨ns,rfl⟩:=items_int h3
 have hlen:ns.length<=n:=by
  unfold OpenLaw.pre at hc
  have h4:(WTm.not (.lt (.lit (.int (n:Int))) (.len (.arg 0)))).holds [] { args:=[.list (ns.map .int)] }=true:=by
   have h4:=(holds_andW hc).1
   rw[hn]at h4
   exact h4
  have h5:=condW_of h4 (w_not (w_lt w_lit (w_len_list (w_arg rfl))))
  rw[ai]at h5
  refine Nat.le_of_not_lt fun q=>?_
  have q':(n:Int)<((ns.length:Nat):Int):=by omega
  first
   |(rw[decide_eq_true q']at h5;exact absurd h5 (by decide))
   |(simp at h5;omega)
 cases hwl with
 |cons w1 w2=>
  cases w2
  cases w1 with
  |list ho hall=>exact⟨_,_,ns,rfl,rfl,ho,eb' ns _ hall,hlen⟩
theorem kN' (l:OpenLaw) (args:List WData):l.row.toRowW.claim.post args (.bool true) args=true:=
 postW_of (r:=l.row.toRowW) (X:=(true == true))
  (show WShape.has [] (.bool true) .bool=true by first|rfl|decide|simp[WShape.has,WShape.arms,WShape.armsAll])
  (show(WTm.eq .res (.lit (.bool true))).value [] { args:=args,res:=some (.bool true),after:=args }=some (.bool (true == true)) from w_eq_bool (w_res rfl) w_lit) rfl
theorem hC' {l:OpenLaw} {n:Nat} {q:Program} {loose:List Str} {XP:(Str->Option Value)->Heap->Prop} {YP:World->Heap->Prop} {d:DefRec}
  (hn:l.most=some n) (hdf:d.params.defaults=[])
  (call:∀(w:World) (s₀ s₁:Shared) (mg mb:Str->Option Value) (fa:Addr) (o:Obj) (pm cd doc:Value) (a:Addr) (vs:List Value) (ns:List Int),
   Ground q loose [] XP w s₀ mg mb s₁.heap->YP w s₁.heap->
   s₁.heap.get? fa=some o->o.data=.func (docDef d.name d.params d.body d.scope pm cd doc)->s₁.heap.CodeRec cd d.name->mg d.name=some (.ref fa)->
   s₁.heap.get? a=some { cls:=.type "list",data:=.seq vs.toArray }->IntsAre vs ns->ns.length<=n->s₁.gens=#[]->
   codeAny (model l.prog w) callerA (.call (.ref fa) ⟨[.ref a],[]⟩) (fun r s'=>r=.ok (.ret (.bool true))/\OldK s₁.heap s'.heap/\s'.os=s₁.os/\AllBare s'.gens) s₁):
  WalkO q loose XP YP l.row.toRowW d [] (fun f vs=>PySem.call f vs):=by
 intro w s₀ s₁ mg mb G Y fa o pm cd doc dV kV ho hd hcd hD hmg hg args vals as hpre hlay hrd hwl hlo
 obtain rfl:dV=.none:=Dflts.none hD hdf
 obtain rfl:kV=.none:=Dflts.noKw hD
 obtain⟨a,vs,ns,rfl,rfl,hobj,hints,hlen⟩:=kM' hn hpre hwl
 refine enter_call (codeAny_mono (call w s₀ s₁ mg mb fa o pm cd doc a vs ns G Y ho (fd_plain hd) hcd hmg hobj hints hlen hg) fun r s' hq=>?_)
 obtain⟨rfl,h2,h3,h4⟩:=hq
 exact⟨.inl ⟨.bool true,.bool true,[],rfl,fun _=>rfl,.bool true,kN' l _,fun _=>⟨List.Pairwise.nil,fun _ hm=>(nomatch hm)⟩⟩,h2,h3,h4⟩
section
variable {prog:Program} {w:World} {A:Around} {E:Value->Shared->Prop} {s:Shared} {K:Frag}
end
end Att
namespace L2
open PySem PySem.Spec PyProof.Rows
theorem gf':∀{vs:List Value} {ns:List Int},IntsAre vs ns->aL' (ns.map V.int) vs
 |_,_,.nil=>.nil
 |_,_,.cons n t h=>.cons ⟨t,rfl⟩ (gf' h)
def xC' (H:Hp):Prop:=∀b,H b=none\/∃o xs,H b=some (.frz o (.lst xs))
theorem nx' {P:Program} {w:World} {K:W.Frag} {mg mb:Str->Option Value} {CX:CXT} {k:Nat} {fa a:Addr} {fd:FuncData} {x:Str} {sp:Sp} {s₁:Shared} {vs:List Value} {ns:List Int}
  (KX:K.In s₁.heap) (hns:s₁.heap.Ns mainGlobals mg) (hb:s₁.heap.Ns builtinsNs mb) (hbb:∀x:Str,x≠"__name__"->mb x=bootBuiltins x) (hlim:s₁.heap.NoLimit) (hg:s₁.gens=#[])
  (ha:s₁.heap.get? a=some { cls:=.type "list",data:=.seq vs.toArray }) (hi:IntsAre vs ns) (hl:ns.length<=sizeLine) (hr:Room k callerA)
  (F:∀base:Heap,K.In base->base.Ns mainGlobals mg->FnOk P w K mg base CX k fa fd [x] sp) (hbind:∀(s:Shared) (u:Value),BindsTo s fd ⟨[u],[]⟩ [(x,u)])
  (hsp:∀H:Hp,xC' H->SqL K H a (ns.map V.int)->sp [.ref a] H (fun v _=>v=.bl true) fun _ _ _=>False)
  (hCX:∀H e s',CX [] H s₁ (fun _ _ _=>False) e s'->False):
  codeAny (model P w) callerA (.call (.ref fa) ⟨[.ref a],[]⟩) (fun r s'=>r=.ok (.ret (.bool true))/\OldK s₁.heap s'.heap/\s'.os=s₁.os/\AllBare s'.gens) s₁:=by
 have rv:=gf' hi
 have lenV:=hi.length
 have core:∀H:Hp,xC' H->SqL K H a (ns.map V.int)->HOk P w H s₁.heap->(∀b,H b≠none->b=a)->(H a≠none->K.lookup a=none)->
   codeAny (model P w) callerA (.call (.ref fa) ⟨[.ref a],[]⟩) (fun r s'=>r=.ok (.ret (.bool true))/\OldK s₁.heap s'.heap/\s'.os=s₁.os/\AllBare s'.gens) s₁:=by
  intro H hO hS hok hA hK
  have base_of:∀{b:Addr} {o:Obj},s₁.heap.get? b=some o->H b=none->(ne' s₁.heap H).get? b=some o:=fun e n=>nf' e n
  have noA:∀{b:Addr} {o:Obj} {es:Array DictEntry} {ep:Nat},s₁.heap.get? b=some o->o.data=.dict es ep->H b=none:=fun {b o es ep} e d=>by
   cases q:H b with
   |none=>rfl
   |some u=>
    have e':b=a:=hA b (by rw[q];simp)
    subst e'
    rw[ha]at e;cases e
    have d':Data.seq vs.toArray _=Data.dict es ep:=d
    cases d'
  have nsK:∀{b:Addr} {m:Str->Option Value},s₁.heap.Ns b m->(ne' s₁.heap H).Ns b m:=fun {b m} ⟨o,es,ep,e,d,r⟩=>⟨o,es,ep,base_of e (noA e d),d,r⟩
  have hKb:K.In (ne' s₁.heap H):=fun b o e=>base_of (KX b o e) (by
   cases q:H b with
   |none=>rfl
   |some u=>
    have e':b=a:=hA b (by rw[q];simp)
    subst e'
    rw[hK (by rw[q];simp)]at e;cases e)
  have hM:Mod K mg (ne' s₁.heap H):=⟨hKb,nsK hns,⟨mb,nsK hb,hbb⟩,let⟨mc,h1,h2⟩:=hlim;⟨mc,nsK h1,h2⟩⟩
  have e0:Env0 P w K mg (ne' s₁.heap H) callerA [] s₁ H:=⟨rfl,hM,fun b o e=>qF' e,Nat.le_of_eq (ko' _ _),trivial,fun b hb=>absurd (show b∈([]:List Addr) from hb) (by simp),hok,.of_eq hg⟩
  refine codeAny_mono ((F _ hKb (nsK hns)).run callerA [] s₁ H ⟨[.ref a],[]⟩ [.ref a] [.ref a] _ _ hr e0 (hbind s₁ (.ref a)) (.cons rfl .nil) (hsp H hO hS)) fun r s' h=>?_
  cases r with
  |error e=>exact(hCX H e s' h).elim
  |ok fl=>
   cases fl with
   |next=>exact False.elim h
   |brk=>exact False.elim h
   |cont=>exact False.elim h
   |ret u=>
    obtain⟨v,H',os,bare,un,hok',r',q⟩:=h
    have q':v=.bl true:=q
    subst q'
    obtain rfl:u=Value.bool true:=r'
    refine⟨rfl,OldK.of_keep fun b o e=>?_,os,bare⟩
    cases q:H b with
    |none=>exact un.keep b o e q (by intro z;exact absurd (show b∈([]:List Addr) from z) (by simp)) (by simp)
    |some u=>
     rcases hO b with z|⟨ob,xs,z⟩
     .rw[q]at z;cases z
     .have z2:=un.frzs b ob _ z
      obtain⟨e1,_⟩:=hok b _ z
      obtain⟨e2,_⟩:=hok' b _ z2
      rw[e]at e1;cases e1
      exact e2
 cases hk:K.lookup a with
 |some o=>
  have e:=KX a o hk
  rw[ha]at e
  cases e
  refine core (fun _=>none) (fun _=>.inl rfl) (.inr ⟨_,vs.toArray,_,hk,rfl,rfl,rfl,by rw[am,lenV];exact hl,by simpa using rv⟩) (fun b u z=>by have z':(none:Option HO)=some u:=z;cases z') (fun b z=>absurd rfl z) fun z=>absurd rfl z
 |none=>
  refine core (fun b=>if b=a then some (.frz { cls:=.type "list",data:=.seq vs.toArray } (.lst (ns.map V.int)))else none) (fun b=>?_) (.inl (.inr ⟨{ cls:=.type "list",data:=.seq vs.toArray },if_pos rfl⟩)) (fun b u z=>?_) (fun b z=>?_) fun _=>hk
  .by_cases hb:b=a
   .exact .inr ⟨_,_,if_pos hb⟩
   .exact .inl (if_neg hb)
  .by_cases hb:b=a
   .have z':=(if_pos hb).symm.trans z
    cases z'
    subst hb
    exact⟨ha,by rw[ai];exact hl,vs,_,rv,ha⟩
   .have z':=(if_neg hb).symm.trans z
    cases z'
  .by_cases hb:b=a
   .exact hb
   .exact absurd (if_neg hb) z
theorem rc' {l:W.OpenLaw} {n k:Nat} {q:Program} {loose:List Str} {XP:(Str->Option Value)->Heap->Prop} {YP:World->Heap->Prop} {d:DefRec} {K:Params->W.Frag} {CX:World->CXT} {sp:World->Sp} {x:Str}
  (hn:l.most=some n) (hn2:n<=sizeLine) (hdf:d.params.defaults=[]) (hr:Room k callerA)
  (hY:∀(w:World) (h:Heap),YP w h->(K w.params).In h)
  (F:∀(w:World) (mg:Str->Option Value) (fa:Addr) (h:Heap),(K w.params).In h->h.Ns mainGlobals mg->mg d.name=some (.ref fa)->
   ∃fd:FuncData,(∀(s:Shared) (u:Value),BindsTo s fd ⟨[u],[]⟩ [(x,u)])/\
    ∀base:Heap,(K w.params).In base->base.Ns mainGlobals mg->FnOk l.prog w (K w.params) mg base (CX w) k fa fd [x] (sp w))
  (hsp:∀(w:World) (H:Hp) (a:Addr) (ns:List Int),ns.length<=n->xC' H->SqL (K w.params) H a (ns.map V.int)->sp w [.ref a] H (fun v _=>v=.bl true) fun _ _ _=>False)
  (hCX:∀(w:World) (H:Hp) (s:Shared) (e:Value) (s':Shared),CX w [] H s (fun _ _ _=>False) e s'->False):
  W.WalkO q loose XP YP l.row.toRowW d [] (fun f vs=>PySem.call f vs):=by
 refine Att.hC' hn hdf fun w s₀ s₁ mg mb fa o pm cd doc a vs ns G Y ho hd hcd hmg hobj hints hlen hg=>?_
 have KX:=hY w _ Y
 obtain⟨fd,hb,hF⟩:=F w mg fa _ KX G.T.g hmg
 exact nx' KX G.T.g G.T.b G.T.builtins G.T.nolimit hg hobj hints (aF hlen hn2) hr hF hb (fun H hO hS=>hsp w H a ns hlen hO hS) fun H e s'=>hCX w H s₁ e s'
def cN' (s:Stmt):Arguments:=match s with
 | .FunctionDef _ a _ _ _ _ _ _ _ _=>a
 |_=>{ posonlyargs:=[],args:=[],vararg:=none,kwonlyargs:=[],kw_defaults:=[],kwarg:=none,defaults:=[] }
def aj' (s:Stmt):List Stmt:=match s with
 | .FunctionDef _ _ b _ _ _ _ _ _ _=>b
 |_=>[]
def ab' (s:Stmt):Scope:=match s with
 | .FunctionDef _ _ _ _ _ _ sc _ _ _=>sc
 |_=>{ kind:=.function,names:=[],isGenerator:=false,isCoroutine:=false }
abbrev CX0:CXT:=fun _ _ _ _ _ _=>False
abbrev E0:XK:=fun _ _ _=>False
structure Fun (K:W.Frag) (x qual:Str) (st:Stmt) (f:Addr) (fd:FuncData):Prop where
 ex:∃(oc:Value) (od:Option Addr) (kV doc pm:Value) (an:Option Addr) (cdv ct:Value) (osl:Array (Option Value)),
  fd=W.fnOf x qual (cN' st) (aj' st) (ab' st) .none kV doc pm an cdv ct/\K.lookup f=some ⟨oc,od,.func fd,osl⟩/\W.codeIn K cdv qual=true
 kp:W.keepIn K (.ref f)=true
section
variable {P:Program} {w:World} {K:W.Frag} {mg:Str->Option Value} {base:Heap}
theorem Fun.binds {x qual:Str} {st:Stmt} {f:Addr} {fd:FuncData} {ps:List Str} (F:Fun K x qual st f fd)
  (h:∀(kV doc pm:Value) (an:Option Addr) (cdv ct:Value) (us:List Value),us.length=ps.length->bindArgs (W.fnOf x qual (cN' st) (aj' st) (ab' st) .none kV doc pm an cdv ct) ⟨us,[]⟩=pure (ps.zip us)):cq' K fd ps []:=by
 obtain⟨oc,od,kV,doc,pm,an,cdv,ct,osl,rfl,lk,hcd⟩:=F.ex
 exact .all (h kV doc pm an cdv ct)
theorem pa' {x qual:Str} {st:Stmt} {f:Addr} {oc:Value} {od an:Option Addr} {osl:Array (Option Value)} {kV doc pm cdv ct:Value} (l:K.lookup f=some ⟨oc,od,.func (W.fnOf x qual (cN' st) (aj' st) (ab' st) .none kV doc pm an cdv ct),osl⟩)
  (c:W.codeIn K cdv qual=true) (k:W.keepIn K (.ref f)=true):Fun K x qual st f (W.fnOf x qual (cN' st) (aj' st) (ab' st) .none kV doc pm an cdv ct):=⟨⟨oc,od,kV,doc,pm,an,cdv,ct,osl,rfl,l,c⟩,k⟩
end
theorem ai' {n:Nat} (h:n<=1000):n<sizeLine:=bx h (by decide)
section
variable {X:Cx}
theorem pv (i:Nat) {x:Str} {pos:Pos} (hN:X.N[i]?=some x:=by rfl) (hv:Vis X.env.scope x:=by first|exact Or.inl rfl|exact Or.inr (Or.inl rfl)|exact Or.inr (Or.inr rfl)) (hd:(x == ("__debug__":Str))=false:=by decide)
  (hcd:(x == ("__classdict__":Str))=false:=by decide):PE X (.Name x pos) (wL' i):=f3' hN hv hd hcd
end
def aD' (H H':Hp):Prop:=∀b o,H b=some o->H' b=some o
theorem aD'.refl (H:Hp):aD' H H:=fun _ _ h=>h
theorem aD'.trans {H H1 H2:Hp} (a:aD' H H1) (b:aD' H1 H2):aD' H H2:=fun c o h=>b c o (a c o h)
theorem aD'.free {H H':Hp} (e:aD' H H') {l:Addr} (h:H' l=Option.none):H l=Option.none:=by
 cases q:H l with
 |none=>rfl
 |some o=>
  rw[e l o q]at h
  cases h
theorem aD'.seq {K:W.Frag} {H H':Hp} {a:Addr} {xs:List V} (e:aD' H H') (h:SqL K H a xs):SqL K H' a xs:=by
 rcases h with(h|⟨o,h⟩)|h
 .exact .inl (.inl (e _ _ h))
 .exact .inl (.inr ⟨o,e _ _ h⟩)
 .exact .inr h
end L2
namespace PySem
def Rsn (xs:Array Nat):Prop:=xs.toList.Pairwise (· < ·)
end PySem
namespace PySem
section
variable {prog:Program} {w:World} {K:Type} [DecidableEq K] (knd:KeyKind prog w K)
variable {knd}
variable {A:Around} {E:Value->Shared->Prop} {s:Shared}
end
end PySem
namespace PySem
namespace Ts
open SetTable
section
variable {prog:Program} {w:World}
def Tup (prog:Program) (w:World) (h:Heap) (q:List Int×Addr):Prop:=IsTupleKey (intKind prog w) h q.1 q.2
structure MaskOk (t:SetTable):Prop where
 mask:t.mask∈[7,31,127,511,2047,8191]
 few:t.place.size*5<t.mask*3
theorem MaskOk.le {t:SetTable} (m:MaskOk t):7<=t.mask/\t.mask<=8191/\t.mask % 2=1:=by
 have:=m.mask
 simp only[aq,au,or_false]at this
 omega
variable {A:Around} {E:Value->Shared->Prop} {s:Shared}
end
end Ts
end PySem
namespace PySem
namespace Ts
open SetTable
section
variable {prog:Program} {w:World} {A:Around} {E:Value->Shared->Prop} {s:Shared}
end
end Ts
end PySem
namespace PySem
namespace Ts
open SetTable
section
variable {prog:Program} {w:World} {A:Around} {E:Value->Shared->Prop} {s:Shared}
end
end Ts
end PySem
namespace L2
open PySem PySem.Spec PyProof.Rows
def b2' (cells:List (Str×Addr)):List (Str×NameKind)->List (Str×Addr)->List (Str×Addr)
 | [],acc=>acc
 |(n,k) :: r,acc=>if k == .free then b2' cells r ((n,(cells.lookup n).getD 0) :: acc)else b2' cells r acc
def gg' (env:Env) (x:Str×NameKind) (r:List (Str×Addr)):Sem (ForInStep (List (Str×Addr))):=
 match x with|(name,kind)=>if(kind == .free)=true then(do let a <- cellOf env name;pure (ForInStep.yield ((name,a) :: r)))else pure (ForInStep.yield r)
theorem tX' {env:Env}:∀(names:List (Str×NameKind)) (acc:List (Str×Addr)),(∀n,(n,NameKind.free)∈names->∃c,env.cells.lookup n=some c)->
   forIn names acc (gg' env)=(pure (b2' env.cells names acc):Sem _):=by
  intro names
  induction names with
  |nil=>intro acc _;rfl
  |cons x r ih=>
   intro acc hh
   obtain⟨n,k⟩:=x
   rw[List.forIn_cons]
   have hr:=fun m hm=>hh m (ar _ hm)
   by_cases hk:k=.free
   .subst hk
    obtain⟨c,hc⟩:=hh n aw
    have e1:cellOf env n=(pure c:Sem Addr):=by unfold cellOf;rw[hc]
    have e2:gg' env (n,NameKind.free) acc=pure (ForInStep.yield ((n,c) :: acc)):=by
     unfold gg'
     dsimp only
     rw[if_pos (by rfl),e1]
     rfl
    rw[e2]
    have e3:=ih ((n,c) :: acc) hr
    have e4:b2' env.cells ((n,NameKind.free) :: r) acc=b2' env.cells r ((n,c) :: acc):=by
     show(if(NameKind.free == NameKind.free)=true then _ else _)=_
     rw[if_pos (by rfl),hc]
     rfl
    rw[e4,<- e3]
    rfl
   .have hb:(k == NameKind.free)=false:=by simpa using hk
    have e2:gg' env (n,k) acc=pure (ForInStep.yield acc):=by
     unfold gg'
     dsimp only
     rw[if_neg (by rw[hb];exact ap)]
    rw[e2]
    have e4:b2' env.cells ((n,k) :: r) acc=b2' env.cells r acc:=by
     show(if(k == NameKind.free)=true then _ else _)=_
     rw[if_neg (by rw[hb];exact ap)]
    rw[e4,<- ih acc hr]
    rfl
theorem kO' {env:Env} {scope:Scope} (h:∀n,(n,NameKind.free)∈scope.names->∃c,env.cells.lookup n=some c):closureFor scope env=pure (b2' env.cells scope.names []):=by
 have e:=tX' (env:=env) scope.names [] h
 unfold closureFor
 have q:∀f:Str×NameKind->List (Str×Addr)->Sem (ForInStep (List (Str×Addr))),(∀x r,f x r=gg' env x r)->(forIn scope.names ([]:List (Str×Addr)) f >>= fun r=>pure r)=(pure (b2' env.cells scope.names []):Sem _):=by
  intro f hf
  have:f=gg' env:=funext fun x=>funext fun r=>hf x r
  rw[this,e]
  rfl
 refine q _ fun x r=>?_
 obtain⟨n,k⟩:=x
 unfold gg'
 first|done|(dsimp only;done)|(dsimp only;cases hk:k == NameKind.free<;>simp[hk])
set_option tactic.hygienic true in
theorem ec' {cells:List (Str×Addr)}:∀{names:List (Str×NameKind)} {acc:List (Str×Addr)} {n:Str} {c:Addr},(n,c)∈b2' cells names acc->(n,c)∈acc\/((n,NameKind.free)∈names/\c=(cells.lookup n).getD 0)
 | [],_,_,_,h=>.inl h
 |(m,k) :: r,acc,n,c,h=>by
  unfold b2' at h
  split at h
  .rename_i hk
   have hk':k=.free:=by simpa using hk
   subst hk'
   rcases ec' h with q|⟨q,e⟩
   .rcases aq.mp q with q|q
    .cases q;exact .inr ⟨aw,rfl⟩
    .exact .inl q
   .exact .inr ⟨ar _ q,e⟩
  .rcases ec' h with q|⟨q,e⟩
   .exact .inl q
   .exact .inr ⟨ar _ q,e⟩
set_option tactic.hygienic true in
theorem ed' {cells:List (Str×Addr)}:∀{names:List (Str×NameKind)} {acc:List (Str×Addr)} {n:Str},((n,NameKind.free)∈names\/∃c,(n,c)∈acc)->∃c,(n,c)∈b2' cells names acc
 | [],_,_,h=>by
  rcases h with h|h
  .simp at h
  .exact h
 |(m,k) :: r,acc,n,h=>by
  unfold b2'
  split
  .rename_i hk
   refine ed' ?_
   rcases h with h|⟨c,h⟩
   .rcases aq.mp h with h|h
    .cases h;exact .inr ⟨_,aw⟩
    .exact .inl h
   .exact .inr ⟨c,ar _ h⟩
  .rename_i hk
   refine ed' ?_
   rcases h with h|h
   .rcases aq.mp h with h|h
    .cases h;exact absurd rfl hk
    .exact .inl h
   .exact .inr h
theorem aR':∀(names:List (Str×NameKind)) (n:Nat) (acc:List (Str×Addr)),cellsFrom n names acc=cellsFrom n names []++acc
 | [],_,_=>rfl
 |(x,k) :: r,n,acc=>by
  unfold cellsFrom
  split
  .rw[aR' r (n+1) ((x,n) :: acc),aR' r (n+1) [(x,n)],aO]
   rfl
  .exact aR' r n acc
theorem bS' {α:Type}:∀{l:List (Str×α)} {n:Str} {c:α},(n,c)∈l->∃c',l.lookup n=some c'
 |(k,v) :: r,n,c,h=>by
  rw[bB]
  cases hb:n == k with
  |true=>exact⟨v,rfl⟩
  |false=>
   rcases aq.mp h with e|h
   .cases e;simp at hb
   .exact bS' h
theorem cJ' {env:Env}:∀{names:List (Str×NameKind)} {x:Str} {k':NameKind},
  (names.map fun(n,k)=>if(k == NameKind.free&&env.scope.kind == .function&&env.kindOf n == some .cell)then(n,NameKind.cell)else(n,k)).lookup x=some k'->∃k,names.lookup x=some k/\(k'=k\/(k=.free/\k'=.cell))
 := by intro x;induction x<;>grind
theorem bI' {env:Env}:∀{names:List (Str×NameKind)} {x:Str} {k:NameKind},names.lookup x=some k ->
  ∃k',(names.map fun(n,k)=>if(k == NameKind.free&&env.scope.kind == .function&&env.kindOf n == some .cell)then(n,NameKind.cell)else(n,k)).lookup x=some k'/\(k'=k\/(k=.free/\k'=.cell))
 := by intro x;induction x<;>grind
section
variable {M:Model} {A:Around} {E:Value->Shared->Prop} {s:Shared}
abbrev be' (h:Heap) (names:List (Str×NameKind)):Heap:=pushCells (h.push { cls:=.type "dict",data:=.dict #[] }) names
theorem c6' {scope:Scope} {globals:Addr} {cl:List (Str×Addr)} {qual:Str} {env:Env} {Q:Env->Shared->Prop}
  (h:Q (newEnv scope s.heap.objs.size globals (cellsFrom (s.heap.objs.size+1) scope.names cl) qual none .none (some env) builtinsNs) { s with heap:=be' s.heap scope.names }):
  wpAny M A (newFunctionEnv scope globals cl [] qual none .none (some env)) Q E s:=by
 simp only[newFunctionEnv,Option.isSome_some,if_true]
 refine aa (wpAny_alloc ?_)
 refine aa (wpAny_layCells _ (fun name kind cells=>by cases hkc:kind == NameKind.cell<;>simp[hkc]) _ _ _ _ ?_)
 rw[show({ s with heap:=s.heap.push { cls:=.type "dict",data:=.dict #[] } }:Shared).heap.objs.size=s.heap.objs.size+1 from bu ..]
 exact aa (ae (ae h))
end
def Cx.comp (X:Cx) (scope:Scope) (s₀:Shared) (H₀:Hp) (ex:List Addr):Cx:=
 { X with
  s₀:=s₀,H₀:=H₀
  env:={ newEnv scope s₀.heap.objs.size X.env.globals (cellsFrom (s₀.heap.objs.size+1) scope.names (b2' X.env.cells scope.names [])) X.env.qual none .none (some X.env) builtinsNs with scope:=relabel scope X.env }
  outer:=X.stack,ex:=ex,fn:=fun x=>((cellsFrom (s₀.heap.objs.size+1) scope.names []).lookup x).isSome,pn:=[],xe:=fun _ _=>False }
structure CompSc (X:Cx) (scope:Scope):Prop where
 kind:scope.kind=.function
 names:∀x∈scope.names,x.2=.local->scope.names.lookup x.1=some .local
 one:∀n,(n,NameKind.cell)∈scope.names->scope.names.lookup n=some .cell
 free:∀n,(n,NameKind.free)∈scope.names->X.env.kindOf n=some .cell\/X.env.kindOf n=some .free
set_option tactic.hygienic true in
theorem b8':∀{names:List (Str×NameKind)} {n:Nat} {x:Str} {c:Addr},(x,c)∈cellsFrom n names []->(x,NameKind.cell)∈names
 | [],_,_,_,h=>by simp[cellsFrom]at h
 |(y,k) :: r,n,x,c,h=>by
  unfold cellsFrom at h
  split at h
  .rename_i hk
   have hk':k=.cell:=by simpa using hk
   subst hk'
   rw[aR']at h
   rcases aA.mp h with h|h
   .exact ar _ (b8' h)
   .have h':(x,c)=(y,n):=by simpa using h
    cases h'
    exact aw
  .exact ar _ (b8' h)
def clr (own:List Nat) (σ:St):St:=own.foldl (fun σ i=>σ.set i none) σ
theorem ee':∀(own:List Nat) (σ:St),(clr own σ).length=σ.length
 | [],_=>rfl
 |i :: r,σ=>by
  show(clr r (σ.set i none)).length=_
  rw[ee' r,List.length_set]
theorem ef':∀{own:List Nat} {σ:St} {i:Nat} {v:V},(clr own σ)[i]?=some (some v)->σ[i]?=some (some v)/\i∉own
 | [],_,_,_,h=>⟨h,by simp⟩
 |j :: r,σ,i,v,h=>by
  obtain⟨h1,h2⟩:=ef' (own:=r) (σ:=σ.set j none) h
  by_cases e:j=i
  .subst e
   rw[List.getElem?_set]at h1
   simp at h1
  .rw[bp e]at h1
   exact⟨h1,by simp;exact⟨fun z=>e z.symm,h2⟩⟩
theorem hD':∀{own:List Nat} {σ:St} {i:Nat},i∉own->(clr own σ)[i]?=σ[i]?
 | [],_,_,_=>rfl
 |j :: r,σ,i,h=>by
  have h1:i≠j:=fun z=>h (by simp[z])
  have h2:i∉r:=fun z=>h (by simp[z])
  show(clr r (σ.set j none))[i]?=_
  rw[hD' h2,bp (Ne.symm h1)]
section
variable {X:Cx} {pins:List (Addr×Obj)} {σ:St} {H H':Hp} {s s':Shared} {scope:Scope} {ex:List Addr} {own:List Nat}
theorem jN' (I:Inv X pins σ H s) (S:CompSc X scope):
  (∀x c,(b2' X.env.cells scope.names []).lookup x=some c->X.env.cells.lookup x=some c)/\
  (∀x,(x,NameKind.free)∈scope.names->∃c,(b2' X.env.cells scope.names []).lookup x=some c)/\
  CellsOk (be' s.heap scope.names) (s.heap.objs.size+1) (cellsFrom (s.heap.objs.size+1) scope.names []):=by
 have hc:∀x c,(x,c)∈b2' X.env.cells scope.names []->X.env.cells.lookup x=some c:=fun x c h=>by
  rcases ec' h with z|⟨z,e⟩
  .simp at z
  .obtain⟨c',e'⟩:=I.ok.has x (S.free x z)
   rw[e',Option.getD_some]at e
   rw[e',e]
 refine⟨fun x c h=>hc x c (PySem.mem_of_lookup h),fun x h=>?_,?_⟩
 .obtain⟨c,q⟩:=ed' (cells:=X.env.cells) (acc:=[]) (.inl h)
  exact bS' q
 .have q:=cellsFrom_ok scope.names (s.heap.push { cls:=.type "dict",data:=.dict #[] }) (s.heap.objs.size+1) [] ⟨fun _ _ hm=>(nomatch hm),List.Pairwise.nil⟩ (by rw[bu];exact al _)
  rw[bu]at q
  exact q
theorem e1' (I:Inv X pins σ H s) (hex:∀b∈ex,c1' X pins H b) (hlt:∀b∈ex,b<s.heap.objs.size) (S:CompSc X scope)
  (hown:∀i x,X.N[i]?=some x->(scope.names.lookup x=some .local\/scope.names.lookup x=some .cell)->i∈own):
  Inv (X.comp scope s H ex) [] (clr own σ) H { s with heap:=be' s.heap scope.names }:=by
 obtain⟨hcl,hcf,ok⟩:=jN' I S
 have lk:∀x c,(X.comp scope s H ex).env.cells.lookup x=some c->(cellsFrom (s.heap.objs.size+1) scope.names []).lookup x=some c\/((cellsFrom (s.heap.objs.size+1) scope.names []).lookup x=none/\X.env.cells.lookup x=some c):=fun x c h=>by
  have h':(cellsFrom (s.heap.objs.size+1) scope.names (b2' X.env.cells scope.names [])).lookup x=some c:=h
  rw[aR',List.lookup_append]at h'
  cases q:(cellsFrom (s.heap.objs.size+1) scope.names []).lookup x with
  |some d=>rw[q]at h';exact .inl h'
  |none=>rw[q]at h';exact .inr ⟨rfl,hcl x c h'⟩
 have newC:∀x c,(cellsFrom (s.heap.objs.size+1) scope.names []).lookup x=some c->(be' s.heap scope.names).IsCell c none/\s.heap.objs.size+1<=c:=fun x c h=>ok.empty x c (PySem.mem_of_lookup h)
 have oldC:∀x c,X.env.cells.lookup x=some c->c<s.heap.objs.size:=fun x c h=>let⟨_,q⟩:=I.cell x c h;q.lt
 have keep:∀b o,s.heap.get? b=some o->(be' s.heap scope.names).get? b=some o:=fun b o e=>pushCells_keeps _ _ b o (ag _ e)
 have fresh:∀b,s.heap.objs.size<=b->H b=none:=fun b hb=>I.hok.fresh hb
 have loc0:(X.comp scope s H ex).env.locals=s.heap.objs.size:=rfl
 refine⟨⟨I.ok.mod,S.kind,I.ok.glob,?_,al _,fun x y c h1 h2=>?_,fun x hx=>?_,fun x c hf h=>?_,I.ok.hd,I.ok.frames,.inl rfl,fun b hb=>?_,I.bs,aF I.ok.bsz I.sz,fun b o e hb=>?_,fun b hb=>?_,I.stack,I.stkFree⟩,
  rfl,I.bare,Un.kept keep,⟨fun _=>none,?_,fun i x v h1 h2 h3=>?_⟩,fun x c h=>?_,fresh _ (al _),fun x c h=>?_,fun p hp=>absurd (show p∈([]:List (Addr×Obj)) from hp) (by simp),I.hok.kept keep,?_⟩
 .show X.env.builtins=_
  exact I.ok.blt
 .rcases lk x c h1 with q1|⟨_,q1⟩<;>rcases lk y c h2 with q2|⟨_,q2⟩
  .exact name_of_addr ok.apart (PySem.mem_of_lookup q1) (PySem.mem_of_lookup q2)
  .exact absurd (ak (oldC y c q2) (aF (Nat.le_succ _) (newC x c q1).2)) (bg _)
  .exact absurd (ak (oldC x c q1) (aF (Nat.le_succ _) (newC y c q2).2)) (bg _)
  .exact I.ok.inj x y c q1 q2
 .have hx':(relabel scope X.env).names.lookup x=some .cell\/(relabel scope X.env).names.lookup x=some .free:=hx
  have fin:∀k,scope.names.lookup x=some k->(k=.cell\/k=.free)->∃c,(cellsFrom (s.heap.objs.size+1) scope.names (b2' X.env.cells scope.names [])).lookup x=some c:=fun k hk hkk=>by
   rw[aR',List.lookup_append]
   rcases hkk with rfl|rfl
   .obtain⟨c,q⟩:=fp' (n:=s.heap.objs.size+1) hk
    exact⟨c,by rw[q];rfl⟩
   .obtain⟨c,q⟩:=hcf x (PySem.mem_of_lookup hk)
    cases z:(cellsFrom (s.heap.objs.size+1) scope.names []).lookup x with
    |some d=>exact⟨d,rfl⟩
    |none=>exact⟨c,by rw[q];rfl⟩
  rcases hx' with hx'|hx'<;>obtain⟨k,hk,e⟩:=cJ' hx'
  .rcases e with e|⟨e,_⟩
   .exact fin k hk (.inl e.symm)
   .exact fin k hk (.inr e)
  .rcases e with e|⟨e,_⟩
   .exact fin k hk (.inr e.symm)
   .exact fin k hk (.inr e)
 .rcases lk x c h with q|⟨q,_⟩
  .have:=(newC x c q).2
   show s.heap.objs.size<=c
   omega
  .have hf':((cellsFrom (s.heap.objs.size+1) scope.names []).lookup x).isSome=true:=hf
   rw[q]at hf'
   cases hf'
 .refine⟨?_,fun x c h=>?_⟩
  .show b≠s.heap.objs.size
   exact aB (hlt b hb)
  .rcases lk x c h with q|⟨_,q⟩
   .intro e
    rw[e]at q
    exact absurd (ak (hlt b hb) (aF (Nat.le_succ _) (newC x b q).2)) (bg _)
   .exact(hex b hb).2.2.2.2.1 x c q
 .rcases(hex b hb).2.2.2.1 with z|z
  .exact I.ok.noex b o e z
  .exact absurd (ak (av e) (aF I.ok.bsz z)) (bg _)
 .intro z
  rcases aq.mp (I.stkSub b z)with e|e
  .exact(hex b hb).2.1 e
  .exact(hex b hb).2.2.1 e
 .show(be' s.heap scope.names).Ns s.heap.objs.size _
  exact(Heap.Ns.new s.heap (.type "dict")).keeps (pushCells_keeps _ _)
 .obtain⟨h2,hno⟩:=ef' h2
  have h3':(relabel scope X.env).names.lookup x=some .local\/(relabel scope X.env).names.lookup x=some .cell\/(relabel scope X.env).names.lookup x=some .free:=h3
  have h3k:∃k',(relabel scope X.env).names.lookup x=some k'/\(k'=.local\/k'=.cell\/k'=.free):=by
   rcases h3' with z|z|z
   .exact⟨_,z,.inl rfl⟩
   .exact⟨_,z,.inr (.inl rfl)⟩
   .exact⟨_,z,.inr (.inr rfl)⟩
  obtain⟨k',hk',hkk⟩:=h3k
  obtain⟨k,hk,e⟩:=cJ' hk'
  have hfree:k=.free:=by
   rcases e with e|⟨e,_⟩
   .subst e
    rcases hkk with z|z|z
    .subst z;exact absurd (hown i x h1 (.inl hk)) hno
    .subst z;exact absurd (hown i x h1 (.inr hk)) hno
    .exact z
   .exact e
  subst hfree
  have hm:=PySem.mem_of_lookup hk
  have hv:Vis X.env.scope x:=by
   rcases S.free x hm with z|z
   .exact .inr (.inl z)
   .exact .inr (.inr z)
  obtain⟨m,hn,hl⟩:=I.loc
  obtain⟨u,r,l⟩:=hl i x v h1 h2 hv
  refine⟨u,r,?_⟩
  have hkind:(X.comp scope s H ex).env.kindOf x=some .cell\/(X.comp scope s H ex).env.kindOf x=some .free:=by
   show(relabel scope X.env).names.lookup x=some .cell\/(relabel scope X.env).names.lookup x=some .free
   rcases e with e|⟨_,e⟩
   .subst e;exact .inr hk'
   .subst e;exact .inl hk'
  have hcc:∃c,X.env.cells.lookup x=some c/\s.heap.IsCell c (some u):=by
   rcases l with⟨kk,_⟩|⟨_,c,e1,e2⟩
   .rcases S.free x hm with z|z
    .rw[z]at kk;cases kk
    .rw[z]at kk;cases kk
   .exact⟨c,e1,e2⟩
  obtain⟨c,e1,e2⟩:=hcc
  refine .inr ⟨hkind,c,?_,e2.keeps keep⟩
  show(cellsFrom (s.heap.objs.size+1) scope.names (b2' X.env.cells scope.names [])).lookup x=some c
  rw[aR',List.lookup_append]
  have hnone:(cellsFrom (s.heap.objs.size+1) scope.names []).lookup x=none:=by
   cases z:(cellsFrom (s.heap.objs.size+1) scope.names []).lookup x with
   |none=>rfl
   |some d=>
    exfalso
    have q1:=S.one x (b8' (PySem.mem_of_lookup z))
    rw[hk]at q1
    cases q1
  obtain⟨c',q⟩:=hcf x hm
  have q':=hcl x c' q
  rw[e1]at q'
  cases q'
  rw[hnone,q]
  rfl
 .rcases lk x c h with q|⟨_,q⟩
  .exact⟨_,(newC x c q).1⟩
  .obtain⟨v,z⟩:=I.cell x c q
   exact⟨v,z.keeps keep⟩
 .rcases lk x c h with q|⟨_,q⟩
  .have:=(newC x c q).2
   exact fresh c (by omega)
  .exact I.freeC x c q
 .rw[ee']
  exact I.len
end
section
variable {X:Cx} {pins:List (Addr×Obj)} {σ:St} {H H':Hp} {s s':Shared} {scope:Scope} {ex:List Addr} {own:List Nat}
theorem rd' {P:Program} {w:World} {h h':Heap} {a:Addr} (x:HOk P w H h) (hn:H a=none) (hs:∀b o,b≠a->h.get? b=some o->h'.get? b=some o):HOk P w H h':=fun b ob e=>
 (x b ob e).stay (fun c w' hc q=>hs c w' (by
  rintro rfl
  rcases hc with rfl|hc
  .rw[hn]at e;cases e
  .rw[hn]at hc;cases hc) q) (fun _ q=>q) fun _ _ q=>q
theorem dS' {σ':St} {pins':List (Addr×Obj)} {h':Heap} (I:Inv X pins σ H s) (hex:∀b∈ex,c1' X pins H b) (J:Inv (X.comp scope s H ex) pins' σ' H' s') (hs:cm s.heap.objs.size s'.heap h'):
  Inv X pins σ H' { s' with heap:=h' }:=by
 have ne:∀b o,s.heap.get? b=some o->b≠s.heap.objs.size:=fun b o e=>aB (av e)
 have u:Un (frs X.stack) ex H H' s.heap s'.heap:=J.base
 have hf:H' s.heap.objs.size=none:=J.free
 refine I.call' (s':={ s' with heap:=h' }) (ch:=ex) J.os ⟨fun b o e n hb hx=>?_,fun b o e n hb hx=>?_,u.free,fun b o e hx=>?_,u.tups,u.frzs,u.tbls⟩ (rd' J.hok hf fun b o hb e=>(hs.2 b hb).trans e) J.bare fun b hb=>?_
 .exact(hs.2 b (ne b o e)).trans (u.keep b o e n hb hx)
 .obtain⟨sl,q⟩:=u.slot b o e n hb hx
  exact⟨sl,(hs.2 b (ne b o e)).trans q⟩
 .obtain⟨o',q⟩:=u.there b o e hx
  exact⟨o',(hs.2 b (ne b o e)).trans q⟩
 .obtain⟨f0,f1,f2,f3,f4,f5⟩:=hex b hb
  exact⟨f3,f1,f4,f5⟩
end
def PTs (X:Cx) (ifs:List Expr) (t:TT):Prop:=∀(pins:List (Addr×Obj)) (s:Shared) (σ:St) (H:Hp) (Q:Bool->Hp->Prop),Inv X pins σ H s->t σ H Q->
 wpAny (model X.prog X.w) X.A (forIn ifs true fun c r=>if r=true then do let ok <- isTrue c X.env (eval c X.env);pure (ForInStep.yield ok)else pure (ForInStep.yield r)) (TP X pins σ Q) X.xe s
theorem re' {X:Cx}:PTs X [] (fun _ H Q=>Q true H):=fun pins s σ H Q I h=>wpAny_tests_nil ⟨H,I,h⟩
theorem rf' {X:Cx} {c:Expr} {t:TT} (hc:PT X c t):PTs X [c] t:=fun pins s σ H Q I h=>wpAny_tests_one (hc pins s σ H Q I h)
def Ext (ws:List Nat) (σ σ':St):Prop:=σ'.length=σ.length/\∀j,j∉ws->σ'[j]?=σ[j]?
theorem Ext.refl {ws:List Nat} {σ:St}:Ext ws σ σ:=⟨rfl,fun _ _=>rfl⟩
theorem Ext.trans {ws:List Nat} {σ σ1 σ2:St} (a:Ext ws σ σ1) (b:Ext ws σ1 σ2):Ext ws σ σ2:=⟨b.1.trans a.1,fun j hj=>(b.2 j hj).trans (a.2 j hj)⟩
theorem Ext.mono {ws ws':List Nat} {σ σ1:St} (a:Ext ws σ σ1) (h:∀j∈ws,j∈ws'):Ext ws' σ σ1:=⟨a.1,fun j hj=>a.2 j fun z=>hj (h j z)⟩
theorem Ext.clr {ws:List Nat} {σ:St}:Ext ws σ (clr ws σ):=⟨ee' _ _,fun j hj=>hD' hj⟩
theorem Ext.back {ws:List Nat} {σ σ':St} (a:Ext ws (L2.clr ws σ) σ') (i:Nat) (v:V) (h:(L2.clr ws σ)[i]?=some (some v)):σ'[i]?=some (some v):=by
 obtain⟨_,q⟩:=ef' h
 rw[a.2 i q]
 exact h
def td' (ws:List Nat) (g:TG):Prop:=∀(x:V) (σ:St) (H:Hp) (Q:St->Hp->Prop),g x σ H Q->g x σ H fun σ2 H2=>Q σ2 H2/\Ext ws σ σ2
theorem kP' {i:Nat} {ws:List Nat} (h:i∈ws):td' ws (c4' i):=fun x σ H Q q=>⟨q,by simp,fun j hj=>by
 have:i≠j:=fun z=>hj (z ▸ h)
 rw[bp this]⟩
def a5' (e:Expr) (d:Nat) (tg iter:Expr) (ifs:List Expr) (nx:Sem Unit) (it acc:Value) (env:Env):Sem Fin:=do
 standAt iter.pos
 match <- pyNext it with
 |none=>pure (.done .next)
 |some v=>
  letOwnedTupleGo tg it v
  assign tg env v
  let mut ok:=true
  for c in ifs do
   if ok then ok <- isTrue c env (eval c env)
  if ok then nx
  again (.compLoop e d it acc env)
abbrev TL (α:Type):=St->α->Hp->(α->Hp->Prop)->Prop
def b9' {α:Type} (X:Cx) (D:Addr) (Is:α->Obj->Prop) (ws:List Nat) (code:Sem Unit) (t:TL α):Prop:=
 ∀(pins:List (Addr×Obj)) (s:Shared) (σ:St) (H:Hp) (a:α) (o:Obj) (N:α->Hp->Prop),Inv X pins σ H s->c1' X pins H D->s.heap.get? D=some o->Is a o->t σ a H N->
  wpAny (model X.prog X.w) X.A code (fun _ s'=>∃σ' a' o' H',Inv X pins σ' H' s'/\Ext ws σ σ'/\s'.heap.get? D=some o'/\Is a' o'/\H' D=none/\N a' H') (fun _ _=>False) s
def a9' {α:Type} (ws:List Nat) (g:TG) (tc:TT) (as':TL α) (J:It):TL α:=fun σ a H1 N=>
 ∃W:Nat->Nat->α->Hp->Prop,(∃m,W 0 m a H1)/\∀i m b H,W i m b H->
  (J.stop i H/\N b H)\/(J.go i H/\∀x H',J.yld i H x H'->g x (clr ws σ) H' fun σ2 H2=>tc σ2 H2 fun ok H3=>
   if ok=true then as' σ2 b H3 (fun c H4=>∃m',m'<m/\W (i+1) m' c H4)else ∃m',m'<m/\W (i+1) m' b H3)
theorem eg' {α:Type} {Is:α->Obj->Prop} {X:Cx} {e:Expr} {d:Nat} {tg iter:Expr} {ifs:List Expr} {nx:Sem Unit} {it D:Addr} {fp:List Addr} {tn:Nat->Heap->Prop} {J:It} {g:TG} {tc:TT} {as':TL α} {ws ws':List Nat}
  (hxe:X.xe=fun _ _=>False) (hcalm:X.calm=true)
  (hq:(Code.compLoop e d (.ref it) (.ref D) X.env).quiet=true) (hu:X.A.under (Code.compLoop e d (.ref it) (.ref D) X.env)=X.A)
  (hT:(model X.prog X.w).den (.compLoop e d (.ref it) (.ref D) X.env)=(a5' e d tg iter ifs nx (.ref it) (.ref D) X.env).onRaise (fun x=>do noteFrame x X.env;theTreesLotGoes x))
  (T:Turn X.prog X.w X.K tg J fp it tn) (hg:PG X tg g) (hge:td' ws g) (ht:PTs X ifs tc) (hn:b9' X D Is ws' nx as') (hws:∀j∈ws',j∈ws) (hIs:∀a o,Is a o->∀v,o.data≠.cell v) (hDf:D∉fp)
  {pins:List (Addr×Obj)} {s:Shared} {σ:St} {H:Hp} {a:α} {o:Obj} {N:α->Hp->Prop} (I:Inv X pins σ H s) (hf:∀b∈fp,c1' X pins H b) (hD:c1' X pins H D) (ho:s.heap.get? D=some o) (ha:Is a o) (h0:tn 0 s.heap)
  (hw:a9' ws g tc as' J σ a H N):
  codeAny (model X.prog X.w) X.A (.compLoop e d (.ref it) (.ref D) X.env) (fun r s'=>r=.ok .next/\∃a' o' H',Inv X pins (clr ws σ) H' s'/\s'.heap.get? D=some o'/\Is a' o'/\H' D=none/\N a' H') s:=by
 obtain⟨W,⟨m0,w0⟩,turn⟩:=hw
 have stat:∀{H':Hp} {pl:List (Addr×Obj)},(∀b∈D :: fp,H' b=none)->(∀b∈D :: fp,c1' X pins H' b):=fun {H' pl} hn b hb=>by
  rcases aq.mp hb with rfl|hb'
  .exact⟨hn _ aw,hD.2⟩
  .exact⟨hn b hb,(hf b hb').2⟩
 refine codeAny_loop hq (fun n s'=>∃i b ob H',Inv X pins (clr ws σ) H' s'/\tn i s'.heap/\(∀b∈D :: fp,H' b=none)/\s'.heap.get? D=some ob/\Is b ob/\W i n b H') ?_ m0
  ⟨0,a,o,H,I.weak (ee' _ _) (fun i v q=>(ef' q).1),h0,fun b hb=>by
   rcases aq.mp hb with rfl|hb'
   .exact hD.1
   .exact(hf b hb').1,ho,ha,w0⟩
 rintro n s3 ⟨i,b,ob,H3,I3,st3,fr3,o3,is3,w3⟩
 rw[hu,hT]
 refine wpAny_noted ?_
 have hE:∀{β:Type} {c:Sem β} {Q:β->Shared->Prop} {s:Shared} {E:Value->Shared->Prop},wpAny (model X.prog X.w) X.A c Q (fun _ _=>False) s->wpAny (model X.prog X.w) X.A c Q E s:=fun h=>bw h (fun _ _ q=>q) fun _ _ q=>q.elim
 refine hE ?_
 unfold a5'
 refine aa (bo (aa ?_))
 have hxeE:∀{β:Type} {c:Sem β} {Q:β->Shared->Prop} {s:Shared},wpAny (model X.prog X.w) X.A c Q X.xe s->wpAny (model X.prog X.w) X.A c Q (fun _ _=>False) s:=fun h=>by rw[hxe]at h;exact h
 have pD:Inv X (pins++bR' [D] s3.heap) (clr ws σ) H3 s3:=I3.pinned (fun b hb=>by
  have e:b=D:=by simpa using hb
  subst e
  exact stat (pl:=[]) fr3 b aw) (fun b hb=>by
  have e:b=D:=by simpa using hb
  subst e
  exact⟨ob,o3,hIs _ _ is3⟩)
 have mD:(D,ob)∈bR' [D] s3.heap:=aM' (by simp) o3
 have fpD:∀{H':Hp},(∀b∈fp,H' b=none)->∀b∈fp,c1' X (pins++bR' [D] s3.heap) H' b:=fun {H'} hn b hb=>by
  obtain⟨_,f1,f2,f3,f4,f5⟩:=hf b hb
  refine⟨hn b hb,f1,f2,f3,f4,fun p hp=>?_⟩
  rcases aA.mp hp with q|q
  .exact f5 p (aZ _ q)
  .rcases aA.mp q with q|q
   .exact f5 p (aj _ q)
   .have e:p.1=D:=by simpa using(d7' q).1
    rw[e]
    rintro rfl
    exact hDf hb
 have fr3':∀b∈fp,H3 b=none:=fun b hb=>fr3 b (ar _ hb)
 rcases turn i n b H3 w3 with⟨stop,qn⟩|⟨go,step⟩
 .refine thn (T.done X rfl rfl rfl hcalm i _ s3 _ H3 _ pD (fpD fr3') st3 stop) fun r s4 ⟨hr,I4⟩=>?_
  subst hr
  have q4:=I4.pin (D,ob) (aj _ (aj _ mD))
  exact ae ⟨rfl,b,ob,H3,I4.unpinned,q4.1,is3,q4.2.1,qn⟩
 .refine thn (T.item X rfl rfl rfl hcalm i _ s3 _ H3 _ pD (fpD fr3') st3 go) fun r s4 ⟨u,hr,h4⟩=>?_
  subst hr
  refine aa (thn h4 fun _ s5 ⟨x,H5,I5,r5,y5,st5,fr5⟩=>?_)
  have I5':=I5.pinned (fpD fr5) (T.obj _ _ st5)
  refine aa (thn (hxeE (hg _ s5 _ H5 x u _ I5' r5 (hge x _ H5 _ (step x H5 y5)))) fun _ s6 ⟨σ6,H6,I6,q6,x6⟩=>?_)
  refine aa (thn (hxeE (ht _ s6 σ6 H6 _ I6 q6)) fun ok s7 ⟨H7,I7,q7⟩=>?_)
  have q7D:=I7.pin (D,ob) (aj _ (aZ _ (aj _ mD)))
  have q7f:∀b∈fp,∀o,s5.heap.get? b=some o->s7.heap.get? b=some o/\H7 b=none:=fun b hb o e =>
   let q:=I7.pin (b,o) (aj _ (aj _ (aM' hb e)))
   ⟨q.1,q.2.1⟩
  have st7:tn (i+1) s7.heap:=T.keep _ _ _ st5 fun b hb o e=>(q7f b hb o e).1
  have fr7:∀b∈fp,H7 b=none:=fun b hb=>by
   obtain⟨o,e,_⟩:=T.obj _ _ st5 b hb
   exact(q7f b hb o e).2
  have I7':Inv X pins σ6 H7 s7:=I7.unpinned.unpinned
  cases ok with
  |false=>
   have q7':∃m',m'<n/\W (i+1) m' b H7:=q7
   obtain⟨m',hm,w7⟩:=q7'
   refine ae ⟨rfl,m',hm,i+1,b,ob,H7,I7'.weak ?_ x6.back,st7,fun c hc=>?_,q7D.1,is3,w7⟩
   .rw[x6.1]
   .rcases aq.mp hc with rfl|hc'
    .exact q7D.2.1
    .exact fr7 c hc'
  |true=>
   have I7p:=I7'.pinned (fun b hb=>stat (pl:=[]) (fun c hc=>by
    rcases aq.mp hc with rfl|hc'
    .exact q7D.2.1
    .exact fr7 c hc') b (ar _ hb)) (T.obj _ _ st7)
   have fD:c1' X (pins++bR' fp s7.heap) H7 D:=by
    obtain⟨_,f1,f2,f3,f4,f5⟩:=hD
    refine⟨q7D.2.1,f1,f2,f3,f4,fun p hp=>?_⟩
    rcases aA.mp hp with q|q
    .exact f5 p (aZ _ q)
    .rcases aA.mp q with q|q
     .exact f5 p (aj _ q)
     .intro z
      exact hDf (z ▸ (d7' q).1)
   refine aa (thn (hn _ s7 σ6 H7 b ob _ I7p fD q7D.1 is3 q7) fun _ s8 ⟨σ8,b8,o8,H8,I8,x8,e8,is8,n8,m',hm,w8⟩=>?_)
   have q8f:∀b∈fp,∀o,s7.heap.get? b=some o->s8.heap.get? b=some o/\H8 b=none:=fun b hb o e =>
    let q:=I8.pin (b,o) (aj _ (aj _ (aM' hb e)))
    ⟨q.1,q.2.1⟩
   have x8':Ext ws (clr ws σ) σ8:=x6.trans (x8.mono hws)
   refine ae ⟨rfl,m',hm,i+1,b8,o8,H8,I8.unpinned.weak (by rw[x8'.1]) x8'.back,T.keep _ _ _ st7 fun b hb o e=>(q8f b hb o e).1,fun c hc=>?_,e8,is8,w8⟩
   rcases aq.mp hc with rfl|hc'
   .exact n8
   .obtain⟨o,e,_⟩:=T.obj _ _ st7 c hc'
    exact(q8f c hc' o e).2
def IsL (xs:List V) (o:Obj):Prop:=xs.length<=sizeLine/\∃(its:List Value) (n:Nat),aL' xs its/\o={ cls:=.type "list",data:=.seq its.toArray n }
theorem c7' (xs:List V) (o:Obj) (h:IsL xs o) (v:Option Value):o.data≠.cell v:=by
 obtain⟨_,its,n,_,rfl⟩:=h
 intro z
 cases z
def ei' (te:TE):TL (List V):=fun σ xs H N=>te σ H fun v H'=>xs.length<sizeLine/\N (xs++[v]) H'
theorem fu' {X:Cx} {D:Addr} {elt:Expr} {te:TE} (hxe:X.xe=fun _ _=>False) (he:PE X elt te):b9' X D IsL [] (do let _ <- call (.builtin "list.append") [.ref D,<- eval elt X.env]) (ei' te):=by
 intro pins s σ H xs o N I hD ho hi hq
 have I1:Inv X (pins++bR' [D] s.heap) σ H s:=I.pinned (fun b hb=>by
  have e:b=D:=by simpa using hb
  subst e
  exact hD) (fun b hb=>by
  have e:b=D:=by simpa using hb
  subst e
  exact⟨o,ho,c7' _ _ hi⟩)
 have h1:=he _ s σ H _ I1 hq
 rw[hxe]at h1
 refine aa (thn h1 fun u s1 ⟨v,H1,J1,r1,z1,n1⟩=>?_)
 have q1:=J1.pin (D,o) (aj _ (aj _ (aM' (by simp) ho)))
 obtain⟨zx,its,n,rv,rfl⟩:=hi
 have hl:=rv.length
 refine aa (wpAny_list_append_plain (items:=its.toArray) ⟨n,q1.1⟩ (fun h' hp hs=>?_) (by rw[am,<- hl];exact zx))
 obtain⟨_,f1,f2,f3,f4,f5⟩:=hD
 have J2:Inv X pins σ H1 { s1 with heap:=h' }:=J1.unpinned.turned (it:=D) (t':=s1.toks) (fun b o hb e=>(hs.2 b hb).trans e) q1.2.1 f1 f3 f4 f5
 obtain⟨n',hp⟩:=hp
 refine ae ⟨σ,xs++[v],_,H1,J2,Ext.refl,hp,⟨?_,its++[u],n',rv.append (.cons r1 .nil),?_⟩,q1.2.1,n1⟩
 .rw[ao];exact z1
 .simp
def aX' (e:Expr) (d:Nat) (iter:Expr) (acc:Value) (env:Env):Sem Unit:=do
 let x <- eval iter env
 standAt iter.pos
 let x <- foldedSetIterable iter env x
 let _ <- runOwn (.compStart e (d+1) (<- holding [x] (pyIter x)) acc env) env
theorem fv' {M:Model} {A:Around} {e:Expr} {d:Nat} {it acc:Value} {env:Env} {R:Result->Shared->Prop} {s:Shared}
  (hq:(Code.compStart e d it acc env).quiet=true) (hu:A.under (Code.compStart e d it acc env)=A) (hql:∀it',(Code.compLoop e d it' acc env).quiet=true)
  (hden:M.den (.compStart e d it acc env)=(compStart e d it acc env).onRaise (fun x=>do noteFrame x env;standAt theWindowsPlace)) (hg:∃g,(clausesOf e)[d]?=some g/\g.is_async=0)
  (h0:codeAny M A (.compLoop e d it acc env) R s) (h1:∀E,wpAny M A (pyIter it) (fun it' s'=>it'=it/\s'=s) E s):codeAny M A (.compStart e d it acc env) R s:=by
 refine codeAny_of_tree ?_
 rw[hu,hden]
 refine wpAny_notedAt ?_
 obtain⟨g,eg,ea⟩:=hg
 unfold compStart
 rw[eg]
 have e1:((some g:Option Comprehension).elim false (fun x=>x.is_async != 0))=false:=by
  show(g.is_async != 0)=false
  rw[ea];rfl
 rw[e1]
 show wpAny _ _ (ask >>= _) _ _ s
 refine aa (wpAny_askSetting (wpAny_ite ?_))
 have fin:wpAny M A (again (.compLoop e d it acc env)) (fun fin s'=>match fin with | .done f=>R (.ok f) s' | .again c=>c.quiet=true/\codeAny M A c R s') (notedBy M A env fun x s'=>R (.error x) s') s:=ae ⟨hql it,h0⟩
 split
 .first
   |exact fin
   |exact aa fin
   |exact aa (ae fin)
 .refine aa (wpAny_rule ?_)
  refine aa (bo ?_)
  refine aa (bw (h1 _) (fun it' s' q=>?_) fun _ _ q=>q)
  obtain⟨rfl,rfl⟩:=q
  exact fin
theorem ir' (own:List Nat) (σ:St):clr own (clr own σ)=clr own σ:=by
 apply List.ext_getElem?
 intro i
 by_cases h:i∈own
 .have z:∀τ:St,(clr own τ)[i]?=none\/(clr own τ)[i]?=some none:=fun τ=>by
   cases q:(clr own τ)[i]? with
   |none=>exact .inl rfl
   |some o=>
    cases o with
    |none=>exact .inr rfl
    |some v=>exact absurd h (ef' q).2
  have hl:(clr own (clr own σ)).length=(clr own σ).length:=ee' _ _
  rcases z (clr own σ)with a|a<;>rcases z σ with b|b<;>rw[a,b]
  .have q1:=aX.mp a
   have q2:=(aC.mp b).1
   omega
  .have q1:=aX.mp b
   have q2:=(aC.mp a).1
   omega
 .rw[hD' h]
def hE' {α:Type} (wi:TI) (c:It->TL α):TL α:=fun σ a H N=>wi σ H fun J H1=>c J σ a H1 N
theorem dT' {α:Type} {Is:α->Obj->Prop} {X:Cx} {e:Expr} {d:Nat} {tg iter:Expr} {ifs:List Expr} {nx:Sem Unit} {D:Addr} {wi:TI} {g:TG} {tc:TT} {as':TL α} {ws ws':List Nat}
  (hxe:X.xe=fun _ _=>False) (hcalm:X.calm=true)
  (hq:∀it,(Code.compLoop e (d+1) it (.ref D) X.env).quiet=true) (hu:∀it,X.A.under (Code.compLoop e (d+1) it (.ref D) X.env)=X.A)
  (hq':∀it,(Code.compStart e (d+1) it (.ref D) X.env).quiet=true) (hu':∀it,X.A.under (Code.compStart e (d+1) it (.ref D) X.env)=X.A)
  (hT:∀it,(model X.prog X.w).den (.compLoop e (d+1) it (.ref D) X.env)=(a5' e (d+1) tg iter ifs nx it (.ref D) X.env).onRaise (fun x=>do noteFrame x X.env;theTreesLotGoes x))
  (hS:∀it,(model X.prog X.w).den (.compStart e (d+1) it (.ref D) X.env)=(compStart e (d+1) it (.ref D) X.env).onRaise (fun x=>do noteFrame x X.env;standAt theWindowsPlace))
  (hcl:∃g,(clausesOf e)[d+1]?=some g/\g.is_async=0) (hfs:∀x,foldedSetIterable iter X.env x=pure x)
  (hi:PI X tg iter wi) (hg:PG X tg g) (hge:td' ws g) (ht:PTs X ifs tc) (hn:b9' X D Is ws' nx as') (hws:∀j∈ws',j∈ws) (hIs:∀a o,Is a o->∀v,o.data≠.cell v):
  b9' X D Is ws (aX' e d iter (.ref D) X.env) (hE' wi (a9' ws g tc as')):=by
 intro pins s σ H a o N I hD ho ha hw
 have I1:Inv X (pins++bR' [D] s.heap) σ H s:=I.pinned (fun b hb=>by
  have e:b=D:=by simpa using hb
  subst e
  exact hD) (fun b hb=>by
  have e:b=D:=by simpa using hb
  subst e
  exact⟨o,ho,hIs _ _ ha⟩)
 have h1:=hi _ s σ H _ I1 hw
 rw[hxe]at h1
 unfold aX'
 refine aa (thn h1 fun v s1 h2=>?_)
 refine aa (bo (aa (bN (hfs v) ?_)))
 refine aa (aH (thn h2 fun itv s2 h3=>?_))
 obtain⟨it,fp,tn,J,H2,rfl,I2,T,st2,f2,hc⟩:=h3
 have mD:(D,o)∈bR' [D] s.heap:=aM' (by simp) ho
 have q2:=I2.pin (D,o) (aj _ (aj _ mD))
 have hDf:D∉fp:=fun z=>(f2 D z).2.2.2.2.2 (D,o) (aj _ (aj _ mD)) rfl
 have f2':∀b∈fp,c1' X pins H2 b:=fun b hb=>by
  obtain⟨f0,f1,f2,f3,f4,f5⟩:=f2 b hb
  exact⟨f0,f1,f2,f3,f4,fun p hp=>f5 p (by
   rcases aA.mp hp with z|z
   .exact aZ _ z
   .exact aj _ (aZ _ z))⟩
 have L:=eg' (Is:=Is) (D:=D) hxe hcalm (hq _) (hu _) (hT _) T hg hge ht hn hws hIs hDf I2.unpinned f2' ⟨q2.2.1,hD.2⟩ q2.1 ha st2 hc
 have L2:=fv' (hq' _) (hu' _) hq (hS _) hcl L (fun E=>T.self X.A 0 s2 _ E st2 ⟨rfl,rfl⟩)
 refine aa (wpAny_runOwn (codeAny_mono L2 fun r s3 h3=>?_))
 obtain⟨rfl,a',o',H',J',e',is',n',hN⟩:=h3
 exact ae ⟨_,a',o',H',J',Ext.clr,e',is',n',hN⟩
def hF' (own:List Nat) (wi:TI) (g:TG) (tc:TT) (as':TL (List V)):TE:=fun σ H Q=>wi σ H fun J H1=>a9' own g tc as' J σ [] H1 fun xs H2=>∀p,H2 p=none->Q (.ref p) (upd H2 p (.lst xs))
structure CompIn (X:Cx) (e:Expr) (scope:Scope) (tg:Expr) (iter:Expr) (ifs:List Expr) (nx:Addr->Env->Sem Unit) (g:TG) (tc:TT) (as':TL (List V)) (own:List Nat):Prop where
 sc:CompSc X scope
 ow:∀i x,X.N[i]?=some x->(scope.names.lookup x=some .local\/scope.names.lookup x=some .cell)->i∈own
 cl:∃gs,clausesOf e=⟨tg,iter,ifs,0⟩ :: gs
 fs:∀x,foldedSetIterable iter X.env x=pure x
 calm:X.calm=true
 q:∀it D env,(Code.compLoop e 0 it (.ref D) env).quiet=true/\(Code.compStart e 0 it (.ref D) env).quiet=true
 u:∀A it D env,Around.under A (Code.compLoop e 0 it (.ref D) env)=A/\Around.under A (Code.compStart e 0 it (.ref D) env)=A
 T:∀P w it D env,(model P w).den (.compLoop e 0 it (.ref D) env)=(a5' e 0 tg iter ifs (nx D env) it (.ref D) env).onRaise (fun x=>do noteFrame x env;theTreesLotGoes x)
 S:∀P w it D env,(model P w).den (.compStart e 0 it (.ref D) env)=(compStart e 0 it (.ref D) env).onRaise (fun x=>do noteFrame x env;standAt theWindowsPlace)
 ge:td' own g
 inn:∀s0 H0 ex D,PG (X.comp scope s0 H0 ex) tg g/\PTs (X.comp scope s0 H0 ex) ifs tc/\∃ws',(∀j∈ws',j∈own)/\b9' (X.comp scope s0 H0 ex) D IsL ws' (nx D (X.comp scope s0 H0 ex).env) as'
section
variable {X:Cx} {e:Expr} {scope:Scope} {tg iter:Expr} {ifs:List Expr} {nx:Addr->Env->Sem Unit} {g:TG} {tc:TT} {as':TL (List V)} {own:List Nat} {wi:TI}
theorem iu' (C:CompIn X e scope tg iter ifs nx g tc as' own) (hi:PI X tg iter wi) {pins:List (Addr×Obj)} {s:Shared} {σ:St} {H:Hp} {R:V->Hp->Prop} (I:Inv X pins σ H s) (hw:hF' own wi g tc as' σ H R)
  {use:Option (Value->Sem Unit)} {Q:Value->Shared->Prop} {pos:Pos}
  (fin:∀(s3 s':Shared) (H0 H':Hp) (ex:List Addr) (D:Addr) (xs:List V) (o:Obj) (σ':St),Inv X pins σ H0 s3->(∀b∈ex,c1' X pins H0 b)->Inv (X.comp scope s3 H0 ex) [] σ' H' s'->s'.heap.get? D=some o->D<s3.heap.objs.size->X.s₀.heap.objs.size<=D->c1' X pins H0 D->IsL xs o->H' D=none->R (.ref D) (upd H' D (.lst xs))->
   compPost (model X.prog X.w) X.A X.xe use Q (.ref D) s3.heap.objs.size (.ok .next) s'):
  wpAny (model X.prog X.w) X.A (comprehension e scope X.env pos (newList []) false (eval iter X.env) use) Q X.xe s:=by
 obtain⟨gs,hcl⟩:=C.cl
 refine wpAny_comprehension_free hcl C.fs (kO' fun n hn=>I.ok.has n (C.sc.free n hn)) C.sc.kind C.sc.names ?_
 refine thn (hi pins s σ H _ I hw) fun v s1 h1=>thn h1 fun itv s2 h2=>?_
 obtain⟨it,fp,tn,J,H2,rfl,I2,T,st2,f2,hc⟩:=h2
 refine bc (c6' ?_)
 have keep:∀b o,s2.heap.get? b=some o->(s2.heap.push { cls:=.type "list",dict:=none,data:=.seq ([]:List Value).toArray }).get? b=some o:=fun b o e=>ag _ e
 have I3:Inv X pins σ H2 { s2 with heap:=s2.heap.push { cls:=.type "list",dict:=none,data:=.seq ([]:List Value).toArray } }:=I2.kept (t':=s2.toks) keep
 have hsz:(s2.heap.push { cls:=.type "list",dict:=none,data:=.seq ([]:List Value).toArray }).objs.size=s2.heap.objs.size+1:=bu ..
 have fD:c1' X pins H2 s2.heap.objs.size:=I2.fpOk (al _) (I2.hok.fresh (al _))
 have hlt:∀b∈fp,b<s2.heap.objs.size:=fun b hb=>by
  obtain⟨o,e,_⟩:=T.obj _ _ st2 b hb
  exact av e
 have hDf:s2.heap.objs.size∉fp:=fun z=>bg _ (hlt _ z)
 have hex:∀b∈s2.heap.objs.size :: fp,c1' X pins H2 b:=fun b hb=>by
  rcases aq.mp hb with rfl|hb
  .exact fD
  .exact f2 b hb
 generalize hs3:({ s2 with heap:=s2.heap.push { cls:=.type "list",dict:=none,data:=.seq ([]:List Value).toArray } }:Shared)=s3 at *
 have hs3s:s3.heap.objs.size=s2.heap.objs.size+1:=by rw[<- hs3];exact hsz
 have hlt3:∀b∈s2.heap.objs.size :: fp,b<s3.heap.objs.size:=fun b hb=>by
  rw[hs3s]
  rcases aq.mp hb with rfl|hb
  .exact Nat.lt_succ_self _
  .exact Nat.lt_succ_of_lt (hlt b hb)
 have J0:=e1' (own:=own) I3 hex hlt3 C.sc C.ow
 obtain⟨c1,c2,ws',c4,c5⟩:=C.inn s3 H2 (s2.heap.objs.size :: fp) s2.heap.objs.size
 have kp:∀b o,s2.heap.get? b=some o->(be' s3.heap scope.names).get? b=some o:=fun b o e=>pushCells_keeps _ _ b o (ag _ (by rw[<- hs3];exact keep b o e))
 have oD:(be' s3.heap scope.names).get? s2.heap.objs.size=some { cls:=.type "list",dict:=none,data:=.seq ([]:List Value).toArray }:=pushCells_keeps _ _ _ _ (ag _ (by rw[<- hs3];exact ax _ rfl))
 have stat:∀b∈s2.heap.objs.size :: fp,c1' (X.comp scope s3 H2 (s2.heap.objs.size :: fp)) [] H2 b:=fun b hb=>
  ⟨(hex b hb).1,(J0.ok.exf b hb).1,J0.ok.exfs b hb,.inl hb,(J0.ok.exf b hb).2,fun p hp=>absurd (show p∈([]:List (Addr×Obj)) from hp) (by simp)⟩
 have T':Turn (X.comp scope s3 H2 (s2.heap.objs.size :: fp)).prog (X.comp scope s3 H2 (s2.heap.objs.size :: fp)).w (X.comp scope s3 H2 (s2.heap.objs.size :: fp)).K tg J fp it tn:=T
 have hc':a9' own g tc as' J (clr own σ) [] H2 (fun xs H2=>∀p,H2 p=none->R (.ref p) (upd H2 p (.lst xs))):=by
  obtain⟨W,w0,turn⟩:=hc
  refine⟨W,w0,?_⟩
  rw[ir']
  exact turn
 have st3:tn 0 ({ s3 with heap:=be' s3.heap scope.names }:Shared).heap:=T.keep _ _ _ st2 fun b hb o e=>kp b o e
 have L:=eg' (X:=X.comp scope s3 H2 (s2.heap.objs.size :: fp)) (Is:=IsL) (D:=s2.heap.objs.size) rfl C.calm (C.q _ _ _).1 (C.u _ _ _ _).1 (C.T _ _ _ _ _) T' c1 C.ge c2 c5 c4 c7' hDf J0
  (fun b hb=>stat b (ar _ hb)) (stat _ aw) oD ⟨aT _,[],0,.nil,rfl⟩ st3 hc'
 have L2:=fv' (C.q _ _ _).2 (C.u _ _ _ _).2 (fun it'=>(C.q it' _ _).1) (C.S _ _ _ _ _) ⟨_,by rw[hcl];rfl,rfl⟩ L (fun E=>T.self _ 0 _ _ E st3 ⟨rfl,rfl⟩)
 refine codeAny_mono L2 fun r s' h=>?_
 obtain⟨rfl,xs,o',H',J',e',is',n',hN⟩:=h
 exact fin s3 s' H2 H' _ _ xs o' _ I3 hex J' e' (hlt3 _ aw) I2.sz fD is' n' (hN _ n')
end
section
variable {X:Cx} {pins:List (Addr×Obj)} {σ:St} {H H':Hp} {s s':Shared} {D:Addr} {o:HO}
theorem Inv.track (I:Inv X pins σ H s) (f:c1' X pins H D) (h0:X.s₀.heap.objs.size<=D) (new:av' X.prog X.w (upd H D o) s.heap D o):Inv X pins σ (upd H D o) s:=by
 obtain⟨f0,f1,f2,f3,f4,f5⟩:=f
 have ne:∀b ob,X.s₀.heap.get? b=some ob->b≠D:=fun b ob e=>aB (ak (av e) h0)
 have neT:∀b u,H b=some u->b≠D:=fun b u e z=>by rw[z,f0]at e;cases e
 refine⟨I.ok,I.os,I.bare,⟨I.base.keep,I.base.slot,fun b ob e n hx=>by rw[ad' (ne b ob e)];exact I.base.free b ob e n hx,I.base.there,fun b xs e=>?_,fun b ob u e=>?_,fun b ps e=>?_⟩,I.loc,I.cell,?_,fun x c e=>?_,fun p hp=>?_,fun b u e=>?_,I.len⟩
 .have q:=I.base.tups b xs e
  rw[ad' (neT b _ q)];exact q
 .have q:=I.base.frzs b ob u e
  rw[ad' (neT b _ q)];exact q
 .obtain⟨m,q⟩:=I.base.tbls b ps e
  exact⟨m,by rw[ad' (neT b _ q)];exact q⟩
 .rw[ad' (Ne.symm f1)];exact I.free
 .rw[ad' (f4 x c e)];exact I.freeC x c e
 .obtain⟨e,n,r⟩:=I.pin p hp
  refine⟨e,?_,r⟩
  rw[ad' (f5 p hp)];exact n
 .by_cases hb:b=D
  .subst hb
   rw[aa']at e;cases e
   exact new
  .rw[ad' hb]at e
   exact(I.hok b u e).stay (fun _ _ _ q=>q) (fun c q=>by rw[ad' (neT c _ q)];exact q) fun c xs q=>by rw[ad' (neT c _ q)];exact q
end
section
variable {X:Cx} {e:Expr} {scope:Scope} {tg iter:Expr} {ifs:List Expr} {nx:Addr->Env->Sem Unit} {g:TG} {tc:TT} {as':TL (List V)} {own:List Nat} {wi:TI}
theorem hG' (C:CompIn X e scope tg iter ifs nx g tc as' own) (hi:PI X tg iter wi) {pos:Pos} (he:eval e X.env=comprehension e scope X.env pos (newList []) false (eval iter X.env)):PE X e (hF' own wi g tc as'):=by
 intro pins s σ H Q I hw
 rw[he]
 refine iu' C hi I hw fun s3 s' H0 H' ex D xs o σ' I3 hex J e' hlt h0 fD is' n' hR=>?_
 obtain⟨m,hn,_⟩:=J.loc
 refine⟨m,hn,fun h' hs=>?_⟩
 have J2:=dS' I3 hex J hs
 obtain⟨z,its,n,rv,rfl⟩:=is'
 have neC:D≠s3.heap.objs.size:=aB hlt
 refine⟨.ref D,upd H' D (.lst xs),J2.track (o:=.lst xs) ⟨n',fD.2⟩ h0 ⟨z,its,n,rv,(hs.2 D neC).trans e'⟩,rfl,hR⟩
theorem jO' (C:CompIn X e scope tg iter ifs nx g tc as' own) (hi:PI X tg iter wi) {i:Nat} {y:Str} {py pos pos2:Pos} (hN:X.N.Nodup) (hy:X.N[i]?=some y) (hx:Loc X.env.scope y) (hf:X.fn y=true\/X.env.scope.names.lookup y=some .local)
  (he:evalThenUse e X.env (assign (.Name y py) X.env)=(do let _ <- comprehension e scope X.env pos2 (newList []) false (eval iter X.env) (some (assign (.Name y py) X.env))))
  (hsw:swapsWith e (some (.Name y py)) pos.line X.env=pure true):PS X (.Assign [.Name y py] e pos) (kj' (hF' own wi g tc as') (c4' i)):=by
 intro pins s σ H D I hw
 rw[exec_Assign_Name_used _ _ _ _ hsw]
 refine aa (bo (aa ?_))
 rw[he]
 refine aa (thn (Q:=fun _ s'=>SP X pins D .next s') (iu' C hi I hw fun s3 s' H0 H' ex D' xs o σ' I3 hex J e' hlt h0 fD is' n' hR=>?_) fun _ s' q=>ae (ae q))
 obtain⟨m,hn,_⟩:=J.loc
 have J2:Inv X pins σ H' s':=dS' I3 hex J (Heap.SameBut.refl ..)
 obtain⟨z,its,n,rv,rfl⟩:=is'
 have neC:D'≠s3.heap.objs.size:=aB hlt
 have J3:Inv X pins σ (upd H' D' (.lst xs)) s':=J2.track ⟨n',fD.2⟩ h0 ⟨z,its,n,rv,e'⟩
 have fC:c1' X pins H0 s3.heap.objs.size:=I3.fpOk (al _) (I3.hok.fresh (al _))
 refine wpAny_assign_Name (c3' J3 hN hy hx (v:=.ref D') rfl (fun s'' J4 hs=>?_) hf)
 obtain⟨a,hsa,ha⟩:=hs
 have haC:s3.heap.objs.size≠a:=by
  rcases ha with rfl|ha
  .exact fC.2.1
  .exact fun q=>fC.2.2.2.2.1 _ _ ha q.symm
 have hn':s'.heap.Ns s3.heap.objs.size m:=hn
 refine⟨m,hn'.sameBut hsa haC,fun h' hs'=>?_⟩
 have J5:Inv X pins (σ.set i (some (.ref D'))) (upd H' D' (.lst xs)) { s'' with heap:=h' }:=J4.turned (it:=s3.heap.objs.size) (t':=s''.toks) (fun b ob hb q=>(hs'.2 b hb).trans q) (by rw[ad' (Ne.symm neC)];exact J.free) fC.2.1 fC.2.2.2.1 fC.2.2.2.2.1 fC.2.2.2.2.2
 exact⟨_,_,J5,hR⟩
end
def c8':Bool->Heap->Addr->Addr->Nat->Prop
 |true,h,it,a,i=>h.IsTupleIter it a i
 |false,h,it,a,i=>h.IsListIter it a i
def f1':Bool->Heap->Addr->Array Value->Prop
 |true,h,a,xs=>h.IsTuple a xs
 |false,h,a,xs=>h.IsList a xs
theorem c8'.obj {k:Bool} {h:Heap} {it a:Addr} {i:Nat} (x:c8' k h it a i):∃o,h.get? it=some o/\o.data=.fields #[.ref a,.int i 0]:=by
 cases k
 .obtain⟨o,e,_,d⟩:=x;exact⟨o,e,d⟩
 .obtain⟨o,e,_,d⟩:=x;exact⟨o,e,d⟩
theorem c8'.at {k:Bool} {h h':Heap} {it a:Addr} {i:Nat} (x:c8' k h it a i) (hk:∀o,h.get? it=some o->h'.get? it=some o):c8' k h' it a i:=by
 cases k
 .obtain⟨o,e,r⟩:=x;exact⟨o,hk o e,r⟩
 .obtain⟨o,e,r⟩:=x;exact⟨o,hk o e,r⟩
theorem f1'.at {k:Bool} {h h':Heap} {a:Addr} {xs:Array Value} (x:f1' k h a xs) (hk:∀o,h.get? a=some o->h'.get? a=some o):f1' k h' a xs:=by
 cases k
 .obtain⟨o,e,r⟩:=x;exact⟨o,hk o e,r⟩
 .obtain⟨o,e,r⟩:=x;exact⟨o,hk o e,r⟩
theorem f1'.lt {k:Bool} {h:Heap} {a:Addr} {xs:Array Value} (x:f1' k h a xs):a<h.objs.size:=by
 cases k
 .obtain⟨o,e,r⟩:=x;exact av e
 .obtain⟨o,e,r⟩:=x;exact av e
section
variable {prog:Program} {w:World} {A:Around} {E:Value->Shared->Prop} {s:Shared}
theorem bo' {k:Bool} {it l:Addr} {i:Nat} {items:Array Value} {x:Value} {Q:Value->Shared->Prop} (hit:c8' k s.heap it l i) (hl:f1' k s.heap l items) (hx:items[i]?=some x)
  (hQ:∀h',c8' k h' it l (i+1)->cm it s.heap h'->Q x { s with heap:=h' }):wpAny (model prog w) A (Builtin.SmallTypes.nextOf (.ref it)) Q E s:=by
 cases k
 .exact wpAny_nextOf_list_item hit hl hx hQ
 .have hit:s.heap.IsTupleIter it l i:=hit
  have hl:s.heap.IsTuple l items:=hl
  obtain⟨o,ho,hc,hd⟩:=id hit
  obtain⟨ol,hol,_,nl,hdl⟩:=hl
  unfold Builtin.SmallTypes.nextOf
  refine aa (aU (name:=Str.ofString "__next__") hit.typeIs F.slot_tuple_iterator_next
   (aV F.slot_tuple_iterator_next hit.typeIs F.entry_tuple_iterator_next ?_ (F.args_tuple_iterator_next_1 _)))
  show wpAny _ _ (field (.ref it) 0 >>= _) _ _ s
  refine aa (aM ho hd (x:=.ref l) rfl ?_)
  show wpAny _ _ (if(Value.ref l == Value.none)=true then _ else _) _ _ s
  rw[if_neg (show ¬((Value.ref l == Value.none)=true) from ap)]
  show wpAny _ _ (field (.ref it) 1 >>= _) _ _ s
  refine aa (aM ho hd (x:=.int i 0) rfl ?_)
  show wpAny _ _ (seqItems? (.ref l) >>= _) _ _ s
  refine aa (bv hol hdl ?_)
  simp only[aK,hx]
  refine aa (wpAny_setField ho hd (by simp) (ae ⟨x,rfl,ae (hQ _ ?_ (Heap.SameBut.update ..))⟩))
  exact⟨_,Heap.get?_update_self _ ho (Obj.isFreed_of_fields (Obj.data_mapFields hd _)),(Obj.cls_mapFields ..).trans hc,by
   rw[Obj.data_mapFields hd];simp[rawInt]⟩
theorem cA' {k:Bool} {it l:Addr} {i:Nat} {items:Array Value} {Q:Value->Shared->Prop} (hh:A.handled=none) (hit:c8' k s.heap it l i) (hl:f1' k s.heap l items) (hx:items[i]?=none)
  (hE:∀h' e,Heap.ExtBut it s.heap h'->(∃o,h'.get? e=some o/\o.cls=.type "StopIteration")->E (.ref e) { s with heap:=h' }):wpAny (model prog w) A (Builtin.SmallTypes.nextOf (.ref it)) Q E s:=by
 cases k
 .exact wpAny_nextOf_list_end hh hit hl hx hE
 .have hit:s.heap.IsTupleIter it l i:=hit
  have hl:s.heap.IsTuple l items:=hl
  obtain⟨o,ho,hc,hd⟩:=id hit
  obtain⟨ol,hol,_,nl,hdl⟩:=hl
  unfold Builtin.SmallTypes.nextOf
  refine aa (aU (name:=Str.ofString "__next__") hit.typeIs F.slot_tuple_iterator_next
   (aV F.slot_tuple_iterator_next hit.typeIs F.entry_tuple_iterator_next ?_ (F.args_tuple_iterator_next_1 _)))
  show wpAny _ _ (field (.ref it) 0 >>= _) _ _ s
  refine aa (aM ho hd (x:=.ref l) rfl ?_)
  show wpAny _ _ (if(Value.ref l == Value.none)=true then _ else _) _ _ s
  rw[if_neg (show ¬((Value.ref l == Value.none)=true) from ap)]
  show wpAny _ _ (field (.ref it) 1 >>= _) _ _ s
  refine aa (aM ho hd (x:=.int i 0) rfl ?_)
  show wpAny _ _ (seqItems? (.ref l) >>= _) _ _ s
  refine aa (bv hol hdl ?_)
  simp only[aK,hx]
  refine aa (wpAny_rule (aa (wpAny_setField ho hd (by simp) ?_)))
  show wpAny _ _ (newExc (.type "StopIteration") [] >>= _) _ _ _
  refine aa ?_
  simp only[newExc,newTuple]
  refine aa (bc ?_ (by size_fits))
  refine aa (m:=firstArgMember _ _) (bN (a:=Value.none) (by first|rfl|(simp only[firstArgMember];rfl)) ?_)
  refine bc ?_ (by size_fits)
  simp only[raiseNew]
  refine aa (wpAny_handled ?_)
  first|rw[show A.in1.handled=none from hh]|rw[hh]
  refine aa (ae (wpAny_throw ?_))
  exact hE _ _ (((Heap.SameBut.update ..).extBut.push _).push _) ⟨_,ax _ rfl,rfl⟩
end
section
variable {prog:Program} {w:World} {A:Around} {E:Value->Shared->Prop} {s:Shared}
theorem ny' {k j:Bool} {z TI TO i1 i2 l1 l2:Addr} {k1 k2:Nat} {xs ys:Array Value} {x y a b:Value} {Q:Option Value->Shared->Prop} (D:ZipApart z TI TO i1 i2 l1 l2)
  (hz:IsZip s.heap z TI TO .none) (hTI:IsPair s.heap TI (.ref i1) (.ref i2)) (hTO:IsPair s.heap TO a b)
  (h1:c8' k s.heap i1 l1 k1) (h2:c8' j s.heap i2 l2 k2) (hl1:f1' k s.heap l1 xs) (hl2:f1' j s.heap l2 ys) (hx:xs[k1]?=some x) (hy:ys[k2]?=some y)
  (hQ:∀h',IsZip h' z TI TO (rawInt s.heap.objs.size)->IsPair h' TO x y->c8' k h' i1 l1 (k1+1)->c8' j h' i2 l2 (k2+1)->IsPair h' s.heap.objs.size x y->h'.objs.size=s.heap.objs.size+1->
   (∀c o,c≠z->c≠TO->c≠i1->c≠i2->s.heap.get? c=some o->h'.get? c=some o)->Q (some (.ref s.heap.objs.size)) { s with heap:=h' }):
  wpAny (model prog w) A (pyNext (.ref z)) Q E s:=by
 have hT:s.TypeIs (.ref z) "zip":=⟨_,hz,rfl⟩
 unfold pyNext
 refine aa (wpAny_attempt (aU (name:=Str.ofString "__next__") hT F.slot_zip_next
  (aV F.slot_zip_next hT F.entry_zip_next ?_ (F.args_zip_next_1 _))))
 show wpAny _ _ (field (.ref z) 2 >>= _) _ _ _
 refine aa (aM hz rfl (x:=.bool false) rfl ?_)
 show wpAny _ _ (field (.ref z) 3 >>= _) _ _ _
 refine aa (aM hz rfl (x:=.ref TI) rfl ?_)
 refine aa (bv hTI rfl ?_)
 show wpAny _ _ (Builtin.SmallTypes.ownedTupleIsFree (.ref z) >>= _) _ _ _
 refine aa ?_
 unfold Builtin.SmallTypes.ownedTupleIsFree
 refine aa (aM hz rfl (x:=.none) rfl (ae ?_))
 simp only[if_true]
 refine aa (wpAny_rule ?_)
 refine aa (aM hz rfl (x:=.ref TO) rfl ?_)
 refine aa (bA hz (by simp) fun h₁ hz₁ hs₁=>?_)
 replace hz₁:IsZip h₁ z TI TO .ellipsis:=hz₁
 refine aa ?_
 simp only[List.zipIdx_cons,List.zipIdx_nil,List.forIn_cons,List.forIn_nil]
 refine aa (aa (wpAny_onRaise ?_))
 show wpAny _ _ (Builtin.SmallTypes.nextOf (.ref i1) >>= _) _ _ _
 refine aa (bo' (h1.at fun o e=>hs₁.extBut _ _ D.i1z e) (hl1.at fun o e=>hs₁.extBut _ _ D.l1z e) hx fun h₂ h1₂ hs₂=>ae ?_)
 have hTO₂:IsPair h₂ TO a b:=hs₂.extBut _ _ D.TOi1 (hs₁.extBut _ _ D.TOz hTO)
 refine aa (bv hTO₂ rfl ?_)
 refine aa (wpAny_updateSeq_pair hTO₂ fun h₃ hTO₃ hs₃=>?_)
 replace hTO₃:IsPair h₃ TO x b:=hTO₃
 refine aa (wpAny_letGo (ae ?_))
 refine aa (aa (wpAny_onRaise ?_))
 show wpAny _ _ (Builtin.SmallTypes.nextOf (.ref i2) >>= _) _ _ _
 refine aa (bo' (h2.at fun o e=>hs₃.extBut _ _ D.TOi2.symm (hs₂.extBut _ _ D.i12.symm (hs₁.extBut _ _ D.i2z e)))
  (hl2.at fun o e=>hs₃.extBut _ _ D.l2TO (hs₂.extBut _ _ D.l2i1 (hs₁.extBut _ _ D.l2z e))) hy fun h₄ h2₄ hs₄=>ae ?_)
 have hTO₄:IsPair h₄ TO x b:=hs₄.extBut _ _ D.TOi2 hTO₃
 refine aa (bv hTO₄ rfl ?_)
 refine aa (wpAny_updateSeq_pair hTO₄ fun h₅ hTO₅ hs₅=>?_)
 replace hTO₅:IsPair h₅ TO x y:=hTO₅
 refine aa (wpAny_letGo (ae (ae ?_)))
 refine aa (bv hTO₅ rfl ?_)
 refine aa (wpAny_newTuple ?_)
 have hsz:h₅.objs.size=s.heap.objs.size:=by rw[hs₅.1,hs₄.1,hs₃.1,hs₂.1,hs₁.1]
 have hz₅:IsZip h₅ z TI TO .ellipsis:=hs₅.extBut _ _ D.TOz.symm (hs₄.extBut _ _ D.i2z.symm (hs₃.extBut _ _ D.TOz.symm (hs₂.extBut _ _ D.i1z.symm hz₁)))
 have hk₅:∀c o,c≠z->c≠TO->c≠i1->c≠i2->s.heap.get? c=some o->h₅.get? c=some o:=fun c o c1 c2 c3 c4 e=>
  hs₅.extBut _ _ c2 (hs₄.extBut _ _ c4 (hs₃.extBut _ _ c2 (hs₂.extBut _ _ c3 (hs₁.extBut _ _ c1 e))))
 have h1₅:c8' k h₅ i1 l1 (k1+1):=h1₂.at fun o e=>hs₅.extBut _ _ D.TOi1.symm (hs₄.extBut _ _ D.i12 (hs₃.extBut _ _ D.TOi1.symm e))
 have h2₅:c8' j h₅ i2 l2 (k2+1):=h2₄.at fun o e=>hs₅.extBut _ _ D.TOi2.symm e
 have hzlt:z<h₅.objs.size:=av hz₅
 show wpAny _ _ (Builtin.SmallTypes.ownedTupleHandOut (.ref z) (.ref h₅.objs.size) >>= _) _ _ _
 refine aa ?_
 unfold Builtin.SmallTypes.ownedTupleHandOut
 have hz₆:IsZip (h₅.push { cls:=.type "tuple",data:=.seq #[x,y] }) z TI TO .ellipsis:=ag _ hz₅
 refine aa (bA hz₆ (by simp) fun h₇ hz₇ hs₇=>?_)
 replace hz₇:IsZip h₇ z TI TO (rawInt h₅.objs.size):=hz₇
 refine bA hz₇ (by simp) fun h₈ hz₈ hs₈=>?_
 replace hz₈:IsZip h₈ z TI TO (rawInt h₅.objs.size):=hz₈
 have up:∀c o,c≠z->h₅.get? c=some o->h₈.get? c=some o:=fun c o c1 e=>hs₈.extBut _ _ c1 (hs₇.extBut _ _ c1 (ag _ e))
 have hT₈:IsPair h₈ h₅.objs.size x y:=hs₈.extBut _ _ (bq hzlt) (hs₇.extBut _ _ (bq hzlt) (ax _ rfl))
 have hz8:h₈.objs.size=h₅.objs.size+1:=by rw[hs₈.1,hs₇.1,bu]
 rw[hsz]at hz₈ hT₈ hz8
 refine ae ⟨_,rfl,ae ?_⟩
 show Q (some (.ref h₅.objs.size)) _
 rw[hsz]
 exact hQ h₈ hz₈ (up _ _ D.TOz hTO₅) (h1₅.at fun o e=>up _ o D.i1z e) (h2₅.at fun o e=>up _ o D.i2z e) hT₈ hz8 fun c o c1 c2 c3 c4 e=>up c o c1 (hk₅ c o c1 c2 c3 c4 e)
theorem rg' {k j:Bool} {z TI TO i1 i2 l1 l2:Addr} {k1 k2:Nat} {xs ys:Array Value} {a b:Value} {Q:Option Value->Shared->Prop} (hh:A.handled=none) (D:ZipApart z TI TO i1 i2 l1 l2)
  (hz:IsZip s.heap z TI TO .none) (hTI:IsPair s.heap TI (.ref i1) (.ref i2)) (hTO:IsPair s.heap TO a b)
  (h1:c8' k s.heap i1 l1 k1) (h2:c8' j s.heap i2 l2 k2) (hl1:f1' k s.heap l1 xs) (hl2:f1' j s.heap l2 ys) (hend:xs[k1]?=none\/ys[k2]?=none)
  (hQ:∀h',(∀c o,c≠z->c≠TO->c≠i1->c≠i2->s.heap.get? c=some o->h'.get? c=some o)->Q none { s with heap:=h' }):wpAny (model prog w) A (pyNext (.ref z)) Q E s:=by
 have hT:s.TypeIs (.ref z) "zip":=⟨_,hz,rfl⟩
 unfold pyNext
 refine aa (wpAny_attempt (aU (name:=Str.ofString "__next__") hT F.slot_zip_next
  (aV F.slot_zip_next hT F.entry_zip_next ?_ (F.args_zip_next_1 _))))
 have fin:∀(h':Heap) (e:Addr),(∀c o,c≠z->c≠TO->c≠i1->c≠i2->s.heap.get? c=some o->h'.get? c=some o)->(∃o,h'.get? e=some o/\o.cls=.type "StopIteration")->
   wpAny (model prog w) A (do if <- isInstance (.ref e) (.type "StopIteration")then pure none else throw (.ref e)) Q E { s with heap:=h' }:=fun h' e hk ⟨o,ho,hc⟩=>
  aa (wpAny_isInstance (T:="StopIteration") (b:=true) ⟨o,ho,hc⟩ isSubtype_stop (ae (hQ _ hk)))
 show wpAny _ _ (field (.ref z) 2 >>= _) _ _ _
 refine aa (aM hz rfl (x:=.bool false) rfl ?_)
 show wpAny _ _ (field (.ref z) 3 >>= _) _ _ _
 refine aa (aM hz rfl (x:=.ref TI) rfl ?_)
 refine aa (bv hTI rfl ?_)
 show wpAny _ _ (Builtin.SmallTypes.ownedTupleIsFree (.ref z) >>= _) _ _ _
 refine aa ?_
 unfold Builtin.SmallTypes.ownedTupleIsFree
 refine aa (aM hz rfl (x:=.none) rfl (ae ?_))
 simp only[if_true]
 refine aa (wpAny_rule ?_)
 refine aa (aM hz rfl (x:=.ref TO) rfl ?_)
 refine aa (bA hz (by simp) fun h₁ hz₁ hs₁=>?_)
 replace hz₁:IsZip h₁ z TI TO .ellipsis:=hz₁
 refine aa ?_
 simp only[List.zipIdx_cons,List.zipIdx_nil,List.forIn_cons,List.forIn_nil]
 refine aa (aa (wpAny_onRaise ?_))
 show wpAny _ _ (Builtin.SmallTypes.nextOf (.ref i1) >>= _) _ _ _
 have a1:=h1.at (h':=h₁) fun o e=>hs₁.extBut _ _ D.i1z e
 have b1:=hl1.at (h':=h₁) fun o e=>hs₁.extBut _ _ D.l1z e
 cases hx:xs[k1]? with
 |none=>
  refine aa (cA' (by first|exact hh|rfl) a1 b1 hx fun h₂ e hs₂ he=>?_)
  obtain⟨oe,hoe,hce⟩:=he
  have hz₂:IsZip h₂ z TI TO .ellipsis:=hs₂ _ _ D.i1z.symm hz₁
  have hez:e≠z:=fun x=>by subst x;rw[hz₂]at hoe;cases hoe;simp at hce
  refine bA hz₂ (by simp) fun h₃ _ hs₃=>fin h₃ e (fun c o c1 _ c3 _ x=>hs₃.extBut _ _ c1 (hs₂ _ _ c3 (hs₁.extBut _ _ c1 x))) ⟨oe,hs₃.extBut _ _ hez hoe,hce⟩
 |some x=>
  have hy:ys[k2]?=none:=by rcases hend with h|h;rw[hx]at h;cases h;exact h
  refine aa (bo' a1 b1 hx fun h₂ h1₂ hs₂=>ae ?_)
  have hTO₂:IsPair h₂ TO a b:=hs₂.extBut _ _ D.TOi1 (hs₁.extBut _ _ D.TOz hTO)
  refine aa (bv hTO₂ rfl ?_)
  refine aa (wpAny_updateSeq_pair hTO₂ fun h₃ hTO₃ hs₃=>?_)
  refine aa (wpAny_letGo (ae ?_))
  refine aa (aa (wpAny_onRaise ?_))
  show wpAny _ _ (Builtin.SmallTypes.nextOf (.ref i2) >>= _) _ _ _
  refine aa (cA' (by first|exact hh|rfl) (h2.at fun o e=>hs₃.extBut _ _ D.TOi2.symm (hs₂.extBut _ _ D.i12.symm (hs₁.extBut _ _ D.i2z e)))
   (hl2.at fun o e=>hs₃.extBut _ _ D.l2TO (hs₂.extBut _ _ D.l2i1 (hs₁.extBut _ _ D.l2z e))) hy fun h₄ e hs₄ he=>?_)
  obtain⟨oe,hoe,hce⟩:=he
  have hz₄:IsZip h₄ z TI TO .ellipsis:=hs₄ _ _ D.i2z.symm (hs₃.extBut _ _ D.TOz.symm (hs₂.extBut _ _ D.i1z.symm hz₁))
  have hez:e≠z:=fun x=>by subst x;rw[hz₄]at hoe;cases hoe;simp at hce
  refine bA hz₄ (by simp) fun h₅ _ hs₅=>fin h₅ e (fun c o c1 c2 c3 c4 x=>hs₅.extBut _ _ c1 (hs₄ _ _ c4 (hs₃.extBut _ _ c2 (hs₂.extBut _ _ c3 (hs₁.extBut _ _ c1 x))))) ⟨oe,hs₅.extBut _ _ hez hoe,hce⟩
end
def Its (x:Str):It:=⟨fun i _=>i<x.cps.size,fun i H v H'=>H'=H/\∃c,x.cps[i]?=some c/\v=.str ⟨#[c]⟩,fun i _=>x.cps.size<=i⟩
theorem nz' {P:Program} {w:World} {K:W.Frag} {tg:Expr} (it:Addr) (x:Str) (ty:String) (t:Tok) (hty:ty="str_ascii_iterator"\/ty="str_iterator"):
  Turn P w K tg (Its x) [it] it (fun i h=>h.IsStrIter it ty x t i) where
 mem:=by simp
 obj:=fun i h st b hb=>by
  have e:b=it:=by simpa using hb
  subst e
  obtain⟨o,e,c,d⟩:=st
  exact⟨o,e,fun v z=>by rw[d]at z;cases z⟩
 keep:=fun i h h' st k=>by
  obtain⟨o,e,r⟩:=st
  exact⟨o,k it (by simp) o e,r⟩
 item:=by
  intro X hP hw hK hc i pins s σ H E I hf st hg
  subst hP hw hK
  obtain⟨f0,f1,f2,f3,f4,f5⟩:=hf it (by simp)
  have hg':i<x.cps.size:=hg
  have hx:x.cps[i]?=some x.cps[i]:=by simp[hg']
  have fin:∀h',h'.IsStrIter it ty x t (i+1)->cm it s.heap h'->∃u,some (Value.str ⟨#[x.cps[i]]⟩ s.toks)=some u/\
    wpAny (model X.prog X.w) X.A (letOwnedTupleGo tg (.ref it) u) (fun _ s2=>∃y H',Inv X pins σ H' s2/\aF' y u/\(Its x).yld i H y H'/\s2.heap.IsStrIter it ty x t (i+1)/\∀b∈[it],H' b=none) E { s with heap:=h',toks:=s.toks+1 }:=fun h' st' sb=>by
   have I1:Inv X pins σ H { s with heap:=h',toks:=s.toks+1 }:=I.turned (fun b o hb e=>(sb.2 b hb).trans e) f0 f1 f3 f4 f5
   obtain⟨o,e,c,d⟩:=id st'
   refine⟨_,rfl,jD' (s:={ s with heap:=h',toks:=s.toks+1 }) e c d ?_ ⟨.str ⟨#[x.cps[i]]⟩,H,I1,⟨_,rfl⟩,⟨rfl,_,hx,rfl⟩,st',fun b hb=>(hf b hb).1⟩⟩
   rcases hty with rfl|rfl<;>decide
  rcases hty with rfl|rfl
  .exact wpAny_pyNext_ascii_item st hx fin
  .exact wpAny_pyNext_wide_item st hx fin
 done:=by
  intro X hP hw hK hc i pins s σ H E I hf st hg
  subst hP hw hK
  obtain⟨f0,f1,f2,f3,f4,f5⟩:=hf it (by simp)
  have hg':x.cps.size<=i:=hg
  have hx:x.cps[i]?=none:=by simp[hg']
  have fin:∀h',Heap.ExtBut it s.heap h'->(none:Option Value)=none/\Inv X pins σ H { s with heap:=h' }:=fun h' eb=>⟨rfl,I.turned (t':=s.toks) (fun b o hb e=>eb b o hb e) f0 f1 f3 f4 f5⟩
  rcases hty with rfl|rfl
  .exact wpAny_pyNext_ascii_end (I.ok.hd hc) st hx fin
  .exact wpAny_pyNext_wide_end (I.ok.hd hc) st hx fin
 self:=fun _ _ _ _ _ st h=>by
  rcases hty with rfl|rfl
  .exact wpAny_pyIter_striter_ascii st h
  .exact wpAny_pyIter_striter_wide st h
def Sq (k:Bool) (K:W.Frag) (H:Hp) (a:Addr) (xs:List V):Prop:=match k with
 |true=>SqT K H a xs
 |false=>SqL K H a xs
def zV' (k j:Bool) (K:W.Frag) (a b:Addr):It:=
 ⟨fun i H=>∃xs ys x y,Sq k K H a xs/\Sq j K H b ys/\xs[i]?=some x/\ys[i]?=some y,
  fun i H v H'=>∃p x y,v=.ref p/\H p=none/\(∀xs,Sq k K H a xs->xs[i]?=some x)/\(∀ys,Sq j K H b ys->ys[i]?=some y)/\H'=upd H p (.tup [x,y]),
  fun i H=>∃xs ys,Sq k K H a xs/\Sq j K H b ys/\(xs.length<=i\/ys.length<=i)⟩
section
variable {X:Cx} {tg:Expr}
def xD' (K:W.Frag) (tl:TE):TI:=fun σ H R=>tl σ H fun x H1=>
 (∃a,x=.ref a/\(∃xs,SqL K H1 a xs)/\R (Itl K a) H1)\/(∃a,x=.ref a/\(∃xs,SqT K H1 a xs)/\R (Itt K a) H1)\/∃z,x=.str z/\R (Its z) H1
theorem tY' {l:Expr} {tl:TE} (hl:PE X l tl):PI X tg l (xD' X.K tl):=by
 intro pins s σ H R I h
 refine thn (hl pins s σ H _ I h) fun v s1 ⟨x,H1,I1,r1,q1⟩=>?_
 rcases q1 with⟨a,e,⟨xs,hq⟩,q⟩|⟨a,e,⟨xs,hq⟩,q⟩|⟨z,e,q⟩
 .subst e
  cases r1
  obtain⟨its,rv,p,hz⟩:=I1.list hq
  refine wpAny_pyIter_list p.isList ?_
  refine⟨s1.heap.objs.size,[s1.heap.objs.size],_,_,H1,rfl,I1.kept (t':=s1.toks) fun b o e=>ag _ e,kq' a _,⟨_,ax _ rfl,rfl,rfl⟩,fun b hb=>?_,q⟩
  have e:b=s1.heap.objs.size:=by simpa using hb
  subst e
  exact I1.fpOk (al _) (I1.hok.fresh (al _))
 .subst e
  cases r1
  obtain⟨its,rv,p,hz⟩:=I1.tuple hq
  refine wpAny_pyIter_tuple (show s1.heap.IsTuple a its.toArray from p) ?_
  refine⟨s1.heap.objs.size,[s1.heap.objs.size],_,_,H1,rfl,I1.kept (t':=s1.toks) fun b o e=>ag _ e,jE' a _,⟨_,ax _ rfl,rfl,rfl⟩,fun b hb=>?_,q⟩
  have e:b=s1.heap.objs.size:=by simpa using hb
  subst e
  exact I1.fpOk (al _) (I1.hok.fresh (al _))
 .subst e
  obtain⟨t,rfl⟩:=r1
  have fin:∀(ty:String),(ty="str_ascii_iterator"\/ty="str_iterator")->PIE X pins σ tg R (.ref s1.heap.objs.size) { s1 with heap:=s1.heap.push { cls:=.type ty,data:=.fields #[.str z t,.int 0 0] } }:=fun ty hty=>by
   refine⟨s1.heap.objs.size,[s1.heap.objs.size],_,_,H1,rfl,I1.kept (t':=s1.toks) fun b o e=>ag _ e,nz' _ z ty t hty,⟨_,ax _ rfl,rfl,rfl⟩,fun b hb=>?_,q⟩
   have e:b=s1.heap.objs.size:=by simpa using hb
   subst e
   exact I1.fpOk (al _) (I1.hok.fresh (al _))
  cases ha:z.cps.all (· < 128)
  .exact wpAny_pyIter_wide ha (fin _ (.inr rfl))
  .exact wpAny_pyIter_ascii ha (fin _ (.inl rfl))
end
def Itd (go:Nat->Hp->Prop) (val:Nat->Hp->V->Prop) (stop:Nat->Hp->Prop):It:=
 ⟨go,fun i H v H'=>∃p x,v=.ref p/\H p=none/\val i H x/\H'=upd H p (.tup [.int i,x]),stop⟩
structure EnSrc (P:Program) (w:World) (K:W.Frag) (e it:Addr) (Sx:Nat->Heap->Prop) (go:Nat->Hp->Prop) (val:Nat->Hp->V->Prop) (stop:Nat->Hp->Prop):Prop where
 ne:e≠it
 obj:∀i h,Sx i h->∃o,h.get? it=some o/\∀v,o.data≠.cell v
 keep:∀i h h',Sx i h->(∀o,h.get? it=some o->h'.get? it=some o)->Sx i h'
 item:∀(X:Cx),X.prog=P->X.w=w->X.K=K->X.calm=true->∀(i:Nat) (pins:List (Addr×Obj)) (s:Shared) (σ:St) (H:Hp),Inv X pins σ H s->H e=none->H it=none->e<s.heap.objs.size->(∃old,IsEnum s.heap e it i old)->Sx i s.heap->go i H->
  ∃n Pd Sd fp,Draws P w X.A.in1 it fp n Pd Sd/\e∉fp/\i<n/\Sd i s.heap/\(∀j h,Sd j h->Sx j h)/\∀u,Pd i u->∃x,aF' x u/\val i H x
 done:∀(X:Cx),X.prog=P->X.w=w->X.K=K->X.calm=true->∀(i:Nat) (pins:List (Addr×Obj)) (s:Shared) (σ:St) (H:Hp),Inv X pins σ H s->H e=none->H it=none->(∃old,IsEnum s.heap e it i old)->Sx i s.heap->stop i H->
  ∃Pd Sd fp,Draws P w X.A.in1 it fp i Pd Sd/\Sd i s.heap
theorem ej' {P:Program} {w:World} {K:W.Frag} {elts:List Expr} {kt:Nat} {pt:Pos} {e it:Addr} {Sx:Nat->Heap->Prop} {go:Nat->Hp->Prop} {val:Nat->Hp->V->Prop} {stop:Nat->Hp->Prop} (S:EnSrc P w K e it Sx go val stop):
  Turn P w K (.Tuple elts kt pt) (Itd go val stop) [e,it] e (fun i h=>(∃old,IsEnum h e it i old)/\Sx i h) where
 mem:=by simp
 obj:=fun i h st b hb=>by
  obtain⟨⟨old,he⟩,hs⟩:=st
  simp only[aq,au,or_false]at hb
  rcases hb with rfl|rfl
  .exact⟨_,he,fun v=>(nomatch ·)⟩
  .exact S.obj i h hs
 keep:=fun i h h' st kk=>by
  obtain⟨⟨old,he⟩,hs⟩:=st
  exact⟨⟨old,kk e (by simp) _ he⟩,S.keep i h h' hs fun o q=>kk it (by simp) o q⟩
 item:=by
  intro X hP hw hK hc i pins s σ H E I hf st hg
  have hfe:=hf e (by simp)
  have hfi:=hf it (by simp)
  obtain⟨n,Pd,Sd,fp,D,hefp,hin,hsd,hsub,hval⟩:=S.item X hP hw hK hc i pins s σ H I hfe.1 hfi.1 (av st.1.choose_spec) st.1 st.2 hg
  obtain⟨⟨old,he⟩,hs⟩:=st
  subst hP hw hK
  refine wpAny_pyNext_enum_itemD D he hsd hin S.ne hefp fun u h' tk hPu ho hs' hT hsz hk=>?_
  obtain⟨x,rx,vx⟩:=hval u hPu
  refine⟨_,rfl,wpAny_letOwnedTupleGo_enum (s:={ s with heap:=h',toks:=tk+1 }) ho fun h'' he'' hb=>?_⟩
  have hb':cm e h' h'':=hb
  have elt:e<s.heap.objs.size:=av he
  have neT:s.heap.objs.size≠e:=bq elt
  have hTn:H s.heap.objs.size=none:=I.hok.fresh (al _)
  have hkk:∀c o,c∉[e,it]->s.heap.get? c=some o->h''.get? c=some o:=fun c o hc q=>by
   simp only[aq,au,or_false,not_or]at hc
   exact(hb'.2 c hc.1).trans (hk c o hc.1 hc.2 q)
  have trk:∀c o,H c=some o->c∉[e,it]:=fun c o q hc=>by rw[(hf c hc).1]at q;cases q
  have I1:Inv X pins σ (upd H s.heap.objs.size (.tup [.int i,x])) { s with heap:=h'',toks:=tk+1 }:=by
   refine I.step (g':=s.gens) (d':=s.drawn) (t':=tk+1) (ch:=[e,it]) (fun c hc=>?_) (fun c o _ _ hc q _=>hkk c o hc q) (fun c o _ _ hc q _=>⟨o.slots,hkk c o hc q⟩)
    (fun c o _ q n=>by rw[ad' (aB (av q))];exact n) (fun c o hc q=>⟨o,hkk c o hc q⟩) (fun c ps q=>by rw[ad' (ah' q hTn)];exact q) (fun c o p q=>by rw[ad' (ah' q hTn)];exact q)
    (fun c ps q=>⟨#[],by rw[ad' (ah' q hTn),q];simp⟩) (fun m hm=>?_) (fun c o q=>?_) I.bare
   .obtain⟨f0,f1,f2,f3,f4,f5⟩:=hf c hc
    exact⟨f3,f1,f4,f5⟩
   .obtain⟨oo,es,ep,ho,r⟩:=hm
    exact⟨oo,es,ep,hkk _ oo (fun hc=>(hf _ hc).2.1 rfl) ho,r⟩
   .by_cases hb:c=s.heap.objs.size
    .subst hb
     rw[aa']at q;cases q
     exact⟨by show 2<=sizeLine;decide,[.int i tk,u],.cons ⟨_,rfl⟩ (.cons rx .nil),⟨_,(hb'.2 _ neT).trans hT,rfl,⟨_,rfl⟩,rfl⟩⟩
    .rw[ad' hb]at q
     refine(I.hok c o q).stay (fun d q hd eq=>hkk d q ?_ eq) (fun d q=>by rw[ad' (ah' q hTn)];exact q) fun d qs q=>by rw[ad' (ah' q hTn)];exact q
     rcases hd with rfl|hd
     .exact trk _ _ (by assumption)
     .exact trk _ _ hd
  refine⟨.ref s.heap.objs.size,_,I1,rfl,⟨s.heap.objs.size,x,rfl,hTn,vx,rfl⟩,⟨⟨_,he''⟩,S.keep _ _ _ (hsub _ _ hs') fun o q=>(hb'.2 it (Ne.symm S.ne)).trans q⟩,fun c hc=>?_⟩
  rw[ad']
  .exact(hf c hc).1
  .intro q
   subst q
   simp only[aq,au,or_false]at hc
   rcases hc with q|q
   .exact neT q
   .obtain⟨o,e1,_⟩:=S.obj _ _ hs
    exact bg _ (q ▸ av e1)
 done:=by
  intro X hP hw hK hc i pins s σ H E I hf st hg
  have hfe:=hf e (by simp)
  have hfi:=hf it (by simp)
  obtain⟨Pd,Sd,fp,D,hsd⟩:=S.done X hP hw hK hc i pins s σ H I hfe.1 hfi.1 st.1 st.2 hg
  obtain⟨⟨old,he⟩,hs⟩:=st
  subst hP hw hK
  refine wpAny_pyNext_enum_endD D he hsd fun h' hx=>⟨rfl,?_⟩
  obtain⟨f0,f1,f2,f3,f4,f5⟩:=hfi
  exact I.turned (t':=s.toks) (fun b o hb q=>hx b o hb q) f0 f1 f3 f4 f5
 self:=fun _ _ _ _ _ st h=>by
  obtain⟨⟨old,he⟩,_⟩:=st
  exact wpAny_pyIter_enum he h
def Ite (K:W.Frag) (a:Addr):It:=Itd (fun i H=>∃xs x,SqL K H a xs/\xs[i]?=some x) (fun i H x=>∀xs,SqL K H a xs->xs[i]?=some x) (fun i H=>∃xs,SqL K H a xs/\xs.length=i)
theorem rh' {P:Program} {w:World} {K:W.Frag} {e it a:Addr} (ne:e≠it) (na:a≠e) (nai:a≠it):EnSrc P w K e it (fun i h=>h.IsListIter it a i) (fun i H=>∃xs x,SqL K H a xs/\xs[i]?=some x) (fun i H x=>∀xs,SqL K H a xs->xs[i]?=some x) (fun i H=>∃xs,SqL K H a xs/\xs.length=i) where
 ne:=ne
 obj:=fun i h st=>by
  obtain⟨o,q,c,d⟩:=st
  exact⟨o,q,fun v z=>by rw[d]at z;cases z⟩
 keep:=fun i h h' st k=>st.at k
 item:=by
  intro X hP hw hK hc i pins s σ H I _ _ _ _ st hg
  obtain⟨xs,x,hxs,hx⟩:=hg
  subst hP hw hK
  obtain⟨its,rv,p,hz⟩:=I.list hxs
  have hl:=rv.length
  obtain⟨u,hu,ru⟩:=rv.get hx
  refine⟨_,_,_,_,Draws.list (show X.A.in1.handled=none from I.ok.hd hc) it a nai its.toArray,?_,?_,⟨st,p.isList⟩,fun j h q=>q.1,fun u' hu'=>⟨x,?_,fun ys hys=>by rw[I.list_inj hys hxs];exact hx⟩⟩
  .simp only[aq,au,or_false,not_or]
   exact⟨ne,Ne.symm na⟩
  .have:=(aC.mp hx).1
   simp;omega
  .have e2:its[i]?=some u':=by simpa using hu'
   rw[hu]at e2
   cases e2
   exact ru
 done:=by
  intro X hP hw hK hc i pins s σ H I _ _ _ st hg
  obtain⟨xs,hxs,hx⟩:=hg
  subst hP hw hK
  obtain⟨its,rv,p,hz⟩:=I.list hxs
  have hl:=rv.length
  have e:i=its.toArray.size:=by simp;omega
  subst e
  exact⟨_,_,_,Draws.list (show X.A.in1.handled=none from I.ok.hd hc) it a nai its.toArray,st,p.isList⟩
def te' (z:Str):It:=Itd (fun i _=>i<z.cps.size) (fun i _ v=>∃c,z.cps[i]?=some c/\v=.str ⟨#[c]⟩) (fun i _=>z.cps.size=i)
theorem tZ' {P:Program} {w:World} {K:W.Frag} {e it:Addr} {z:Str} {t:Tok} {ty:String} (hty:ty="str_ascii_iterator"\/ty="str_iterator") (ne:e≠it):EnSrc P w K e it (fun i h=>h.IsStrIter it ty z t i) (fun i _=>i<z.cps.size) (fun i _ v=>∃c,z.cps[i]?=some c/\v=.str ⟨#[c]⟩) (fun i _=>z.cps.size=i) where
 ne:=ne
 obj:=fun i h st=>by
  obtain⟨o,q,c,d⟩:=st
  exact⟨o,q,fun v z=>by rw[d]at z;cases z⟩
 keep:=fun i h h' st k=>by
  obtain⟨o,q,r⟩:=st
  exact⟨o,k o q,r⟩
 item:=by
  intro X hP hw hK hc i pins s σ H I _ _ _ _ st hg
  subst hP hw hK
  have hh:X.A.in1.handled=none:=I.ok.hd hc
  rcases hty with rfl|rfl
  .refine⟨_,_,_,_,Draws.strAscii hh it z t,by simpa using ne,hg,st,fun j h q=>q,fun u hu=>?_⟩
   obtain⟨c,t',hc',rfl⟩:=hu
   exact⟨.str ⟨#[c]⟩,⟨_,rfl⟩,c,hc',rfl⟩
  .refine⟨_,_,_,_,Draws.strWide hh it z t,by simpa using ne,hg,st,fun j h q=>q,fun u hu=>?_⟩
   obtain⟨c,t',hc',rfl⟩:=hu
   exact⟨.str ⟨#[c]⟩,⟨_,rfl⟩,c,hc',rfl⟩
 done:=by
  intro X hP hw hK hc i pins s σ H I _ _ _ st hg
  subst hP hw hK
  have hh:X.A.in1.handled=none:=I.ok.hd hc
  have hg':z.cps.size=i:=hg
  subst hg'
  rcases hty with rfl|rfl
  .exact⟨_,_,_,Draws.strAscii hh it z t,st⟩
  .exact⟨_,_,_,Draws.strWide hh it z t,st⟩
theorem gh' {prog:Program} {w:World} {A:Around} (hh:A.handled=none) (it l:Addr) (hne:l≠it) (items:Array Value):
  Draws prog w A it [it,l] items.size (fun i v=>items[i]?=some v) (fun i h=>c8' true h it l i/\f1' true h l items) where
 live:=fun _ _ st=>let⟨o,ho,_⟩:=st.1.obj;⟨o,ho⟩
 frame:=fun _ _ _ st hk=>⟨st.1.at fun o e=>hk it (by simp) o e,st.2.at fun o e=>hk l (by simp) o e⟩
 item:=fun i s Q E hi st hQ=>by
  refine bo' st.1 st.2 (x:=items[i]) (by simp[hi]) fun h' hit' hs'=>?_
  exact hQ _ h' s.toks (by simp[hi]) ⟨hit',st.2.at fun o e=>hs'.extBut l o hne e⟩ hs'
 done:=fun s Q E st hE=>cA' hh st.1 st.2 (by simp) hE
set_option tactic.hygienic true in
open AutoSeq1 (wpAny_loadPart') in
theorem cH' (l:Addr) (items:Array Value) (n:Nat) (dct:Option Addr) (sl:Array (Option Value)):
  Meets (Builtin.«enumerate.__new__» ⟨[.type "enumerate",.ref l],[]⟩) (fun _ R s=>s.heap.get? l=some { cls:=.type "tuple",dict:=dct,data:=.seq items n,slots:=sl }/\
   R (.ok (.ret (.ref (s.heap.push { cls:=.type "tuple_iterator",data:=.fields #[.ref l,.int 0 0] }).objs.size)))
    { s with heap:=(s.heap.push { cls:=.type "tuple_iterator",data:=.fields #[.ref l,.int 0 0] }).push { cls:=.type "enumerate",data:=.fields #[.none,.bool false,.ref s.heap.objs.size,rawInt 0,.none,.none] } }):=
 .of_wp fun prog w A R s h=>by
  obtain⟨hp,g,d,tk,os⟩:=s;obtain⟨hl,h⟩:=h
  have hsub:=sub_enumerate
  have hL:Heap.IsTuple (Shared.heap ⟨hp,g,d,tk,os⟩) l items:=⟨_,hl,rfl,n,rfl⟩
  wp_walk using wpAny_loadPart' hl
  refine wpAny_stack_any fun st=>ae ?_
  split
  .rename_i c _ _ _ _ _
   cases(c == Value.type "enumerate")
   .wp_walk using wpAny_loadPart' hl,wpAny_pyIter_tuple hL
    exact⟨_,rfl,h⟩
   .wp_walk using wpAny_loadPart' hl,wpAny_pyIter_tuple hL
    exact⟨_,rfl,h⟩
  .wp_walk using wpAny_loadPart' hl,wpAny_pyIter_tuple hL
   exact⟨_,rfl,h⟩
theorem cI' {prog:Program} {w:World} {A:Around} {E:Value->Shared->Prop} {s:Shared} {l:Addr} {items:Array Value} {Q:Value->Shared->Prop} (hL:s.heap.IsTuple l items)
  (h:∀h',IsEnum h' (s.heap.objs.size+1) s.heap.objs.size 0 .none->c8' true h' s.heap.objs.size l 0->h'.objs.size=s.heap.objs.size+2->
   (∀b o,s.heap.get? b=some o->h'.get? b=some o)->Q (.ref (s.heap.objs.size+1)) { s with heap:=h' }):
  wpAny (model prog w) A (call (.type "enumerate") [.ref l]) Q E s:=by
 obtain⟨⟨c,dct,dt,sl⟩,hl,hc,n,hd⟩:=hL
 replace hc:c=.type "tuple":=hc
 replace hd:dt=.seq items n:=hd
 subst hc hd
 refine callType_new F.called_enumerate (by decide) (F.typeCall_enumerate_1 _) (F.newCall_enumerate_1 _) (fun obj=>F.args_object_init_2 obj _) F.entry_enumerate_new
  (cH' l items n dct sl) ⟨hl,?_⟩
 have hz:(s.heap.push { cls:=.type "tuple_iterator",data:=.fields #[.ref l,.int 0 0] }).objs.size=s.heap.objs.size+1:=bu ..
 show _/\_
 rw[hz]
 have he:IsEnum ((s.heap.push { cls:=.type "tuple_iterator",data:=.fields #[.ref l,.int 0 0] }).push
   { cls:=.type "enumerate",data:=.fields #[.none,.bool false,.ref s.heap.objs.size,rawInt 0,.none,.none] }) (s.heap.objs.size+1) s.heap.objs.size 0 .none:=by
  have:=ax (s.heap.push { cls:=.type "tuple_iterator",data:=.fields #[.ref l,.int 0 0] })
   (o:={ cls:=.type "enumerate",data:=.fields #[.none,.bool false,.ref s.heap.objs.size,rawInt 0,.none,.none] }) rfl
  rw[hz]at this;exact this
 refine⟨⟨_,he,rfl⟩,h _ he ⟨_,ag _ (ax _ rfl),rfl,rfl⟩ (by rw[bu,hz]) fun b o x=>ag _ (ag _ x)⟩
def wR' (K:W.Frag) (a:Addr):It:=Itd (fun i H=>∃xs x,SqT K H a xs/\xs[i]?=some x) (fun i H x=>∀xs,SqT K H a xs->xs[i]?=some x) (fun i H=>∃xs,SqT K H a xs/\xs.length=i)
theorem t0' {P:Program} {w:World} {K:W.Frag} {e it a:Addr} (ne:e≠it) (na:a≠e) (nai:a≠it):EnSrc P w K e it (fun i h=>c8' true h it a i) (fun i H=>∃xs x,SqT K H a xs/\xs[i]?=some x) (fun i H x=>∀xs,SqT K H a xs->xs[i]?=some x) (fun i H=>∃xs,SqT K H a xs/\xs.length=i) where
 ne:=ne
 obj:=fun i h st=>by
  obtain⟨o,q,d⟩:=st.obj
  exact⟨o,q,fun v z=>by rw[d]at z;cases z⟩
 keep:=fun i h h' st k=>st.at k
 item:=by
  intro X hP hw hK hc i pins s σ H I _ _ _ _ st hg
  obtain⟨xs,x,hxs,hx⟩:=hg
  subst hP hw hK
  obtain⟨its,rv,p,hz⟩:=I.tuple hxs
  have hl:=rv.length
  obtain⟨u,hu,ru⟩:=rv.get hx
  refine⟨_,_,_,_,gh' (show X.A.in1.handled=none from I.ok.hd hc) it a nai its.toArray,?_,?_,⟨st,p⟩,fun j h q=>q.1,fun u' hu'=>⟨x,?_,fun ys hys=>by rw[I.tuple_inj hys hxs];exact hx⟩⟩
  .simp only[aq,au,or_false,not_or]
   exact⟨ne,Ne.symm na⟩
  .have:=(aC.mp hx).1
   simp;omega
  .have e2:its[i]?=some u':=by simpa using hu'
   rw[hu]at e2
   cases e2
   exact ru
 done:=by
  intro X hP hw hK hc i pins s σ H I _ _ _ st hg
  obtain⟨xs,hxs,hx⟩:=hg
  subst hP hw hK
  obtain⟨its,rv,p,hz⟩:=I.tuple hxs
  have hl:=rv.length
  have e:i=its.toArray.size:=by simp;omega
  subst e
  exact⟨_,_,_,gh' (show X.A.in1.handled=none from I.ok.hd hc) it a nai its.toArray,st,p⟩
section
variable {X:Cx}
def ri' (K:W.Frag) (tl:TE):TI:=fun σ H R=>bP' tl hj' σ H fun vs H1=>∃x,vs=[x]/\
 ((∃a,x=.ref a/\(∃xs,SqL K H1 a xs)/\R (Ite K a) H1)\/(∃z,x=.str z/\R (te' z) H1)\/∃a,x=.ref a/\(∃xs,SqT K H1 a xs)/\R (wR' K a) H1)
theorem eQ':bootBuiltins "enumerate"=some (.type "enumerate"):=by decide +kernel
theorem rj' {a:Expr} {tl:TE} {p pos:Pos} {elts:List Expr} {kt:Nat} {pt:Pos} (hg:Gl X "enumerate") (hm:X.mg "enumerate"=none) (ha:PA X [a] (bP' tl hj')) (hs:starEach [a] X.env=[(false,eval a X.env)]):
  PI X (.Tuple elts kt pt) (.Call (.Name "enumerate" p) [a] [] pos) (ri' X.K tl):=by
 intro pins s σ H R I h
 have h':bP' tl hj' σ H (fun vs H1=>∃x,vs=[x]/\((∃a,x=.ref a/\(∃xs,SqL X.K H1 a xs)/\R (Ite X.K a) H1)\/(∃z,x=.str z/\R (te' z) H1)\/∃a,x=.ref a/\(∃xs,SqT X.K H1 a xs)/\R (wR' X.K a) H1)):=h
 refine Call_ (dD' I hg hm eQ' (PyProof.Rows.callWith_type1 (thn (ha pos pins s σ H _ I h') fun us s1 ⟨vs,H1,I1,r1,q1⟩=>?_) (by rw[hs];rfl) (by rfl)))
 obtain⟨x,e,q1⟩:=q1
 subst e
 cases r1 with
 |cons r rr=>
  cases rr
  rcases q1 with⟨a,rfl,⟨xs,hxs⟩,q⟩|⟨z,rfl,q⟩|⟨a,rfl,⟨xs,hxs⟩,q⟩
  .cases r
   obtain⟨its,rv,pl,hz⟩:=I1.list hxs
   refine call_enumerate_list pl.isList fun h' he hit hsz hk=>wpAny_pyIter_enum he ?_
   have la:a<s1.heap.objs.size:=by
    obtain⟨o,q,_⟩:=pl.isList
    exact av q
   refine⟨s1.heap.objs.size+1,[s1.heap.objs.size+1,s1.heap.objs.size],_,_,H1,rfl,I1.kept (t':=s1.toks) hk,ej' (rh' (Nat.succ_ne_self _) (aB (Nat.lt_succ_of_lt la)) (aB la)),⟨⟨_,he⟩,hit⟩,fun c hc=>?_,q⟩
   have hle:s1.heap.objs.size<=c:=by
    simp only[aq,au,or_false]at hc
    rcases hc with rfl|rfl<;>omega
   exact I1.fpOk hle (I1.hok.fresh hle)
  .obtain⟨t,rfl⟩:=r
   refine call_enumerate_str fun h' he hit hsz hk=>wpAny_pyIter_enum he ?_
   have hty:strIterType z="str_ascii_iterator"\/strIterType z="str_iterator":=by
    unfold strIterType
    split
    .exact .inl rfl
    .exact .inr rfl
   refine⟨s1.heap.objs.size+1,[s1.heap.objs.size+1,s1.heap.objs.size],_,_,H1,rfl,I1.kept (t':=s1.toks) hk,ej' (tZ' hty (Nat.succ_ne_self _)),⟨⟨_,he⟩,hit⟩,fun c hc=>?_,q⟩
   have hle:s1.heap.objs.size<=c:=by
    simp only[aq,au,or_false]at hc
    rcases hc with rfl|rfl<;>omega
   exact I1.fpOk hle (I1.hok.fresh hle)
  .cases r
   obtain⟨its,rv,pl,hz⟩:=I1.tuple hxs
   refine cI' (show s1.heap.IsTuple a its.toArray from pl) fun h' he hit hsz hk=>wpAny_pyIter_enum he ?_
   have la:a<s1.heap.objs.size:=by
    obtain⟨o,q,_⟩:=pl
    exact av q
   refine⟨s1.heap.objs.size+1,[s1.heap.objs.size+1,s1.heap.objs.size],_,_,H1,rfl,I1.kept (t':=s1.toks) hk,ej' (t0' (Nat.succ_ne_self _) (aB (Nat.lt_succ_of_lt la)) (aB la)),⟨⟨_,he⟩,hit⟩,fun c hc=>?_,q⟩
   have hle:s1.heap.objs.size<=c:=by
    simp only[aq,au,or_false]at hc
    rcases hc with rfl|rfl<;>omega
   exact I1.fpOk hle (I1.hok.fresh hle)
end
section
variable {X:Cx}
theorem fw':a8' X (.type "int") (fun xs H Q=>∃x n,xs=[.str x]/\PySem.intText? x=some n/\x.length<=640/\Q (.int n) H):=by
 intro pins s σ H xs us Q I r h
 obtain⟨x,n,rfl,hn,hl,q⟩:=h
 obtain⟨u,rfl,t,rfl⟩:=eP' r
 exact W.KIN.call_text hn hl ⟨.int n,H,I.tok _,⟨_,rfl⟩,q⟩
def y3':List V->Hp->VK->Prop:=fun xs H Q=>((∃i,xs=[.int i]/\Q (.int i) H)\/∃k,xs=[.bl k]/\Q (.int (if k then 1 else 0)) H)\/∃x n,xs=[.str x]/\PySem.intText? x=some n/\x.length<=640/\Q (.int n) H
theorem kQ':a8' X (.type "int") y3':=kz'.or fw'
def xE':R2:=fun x y H Q=>∃a n,x=.str a/\y=.int n/\-1000000<=n/\n<=1000000/\a.length*n.toNat<=1000000/\Q (.str (Txt.mul a n)) H
theorem jP':OpR X (binaryOp .Mult) xE':=by
 intro pins s σ H x y v u Q I rx ry h
 obtain⟨a,n,rfl,rfl,h1,h2,h3,q⟩:=h
 obtain⟨t,rfl⟩:=rx
 obtain⟨t',rfl⟩:=ry
 refine SB.mul ⟨?_,fun hn hc=>?_,fun hn hc=>?_⟩ fun t' k=>⟨.str (Txt.mul a n),H,I.tok _,⟨_,rfl⟩,q⟩
 .have e1:¬n < -(2 ^ 63:Int):=by omega
  have e2:¬n ≥ 2 ^ 63:=by omega
  simp[e1,e2]
  omega
 .have hn0:0<n:=by omega
  intro hgt
  have h4:(a.length:Int)*n<=1000000:=by
   have:((a.length*n.toNat:Nat):Int)<=1000000:=by omega
   rw[Int.natCast_mul,Int.toNat_of_nonneg (by omega)]at this
   exact this
  have h5:=(Int.ediv_lt_iff_lt_mul hn0).mp hgt
  omega
 .have e:Builtin.Str.tooLong (a.length*n.toNat)=false:=by
   unfold Builtin.Str.tooLong
   have:sizeLine=16777216:=sizeLine_eq
   simp
   omega
  exact e
def t1' (K:W.Frag):V->List V->Hp->VK->Prop:=fun x xs H Q=>∃(sep:Str) (p:Addr) (ys:List Str),x=.str sep/\xs=[.ref p]/\(SqL K H p (ys.map V.str)\/SqT K H p (ys.map V.str))/\(ys.map (·.length)).sum+ys.length*sep.length<=16777216/\Q (.str (Txt.join sep ys)) H
theorem ds':∀{ys:List Str} {us:List Value},aL' (ys.map V.str) us->StrsAre us ys
 | [],us,h=>by
  have e:=h.zero
  subst e
  exact .nil
 |y :: ys,_,.cons r t=>by
  obtain⟨k,rfl⟩:=r
  exact .cons y k (ds' t)
theorem rk':MtR X "str.join" (t1' X.K):=by
 intro pins s σ H x xs v us Q I rx rv h
 obtain⟨sep,p,ys,rfl,rfl,hs,hz,q⟩:=h
 obtain⟨t,rfl⟩:=rx
 obtain⟨u,rfl,ru⟩:=rv.one
 cases ru
 rcases hs with hs|hs
 .obtain⟨its,r,pl,_⟩:=I.list hs
  exact join_list pl.isList (ds' r) hz fun t' k=>⟨.str _,H,I.tok _,⟨_,rfl⟩,q⟩
 .obtain⟨its,r,pl,_⟩:=I.tuple hs
  exact join_tuple pl (ds' r) hz fun t' k=>⟨.str _,H,I.tok _,⟨_,rfl⟩,q⟩
def zW':V->Option Int->Option Int->Hp->VK->Prop:=fun x lo hi H Q=>∃a,x=.str a/\a.length<=sizeLine/\Q (.str (Txt.slice a lo hi)) H
theorem t2':SlR X zW':=by
 intro pins s σ H x v vl vu lo hi sl Q I rx hs pl pu h
 obtain⟨a,rfl,hz,q⟩:=h
 obtain⟨t,rfl⟩:=rx
 have fin:∀(l u:Option (Int×Tok)),l.map (·.1)=lo->u.map (·.1)=hi->s.heap.IsSlice sl l u none->wpAny (model X.prog X.w) X.A (getItem (.str a t) (.ref sl)) (EP X pins σ Q) X.xe s:=by
  intro l u e1 e2 hsl
  refine wpAny_getItem_str_slice (l:=l) (u:=u) (st:=none) hsl rfl ?_
  refine post_val_or_str ?_
  subst e1 e2
  exact⟨aF (Txt.slice_le a _ _) hz,fun t' k=>⟨.str _,H,I.tok _,⟨_,rfl⟩,q⟩⟩
 refine⟨"str",_,F.slot_str_getitem.lookup,typeIs_str _ _ _,?_⟩
 cases pl with
 |none=>
  cases pu with
  |none=>exact fin none none rfl rfl hs
  |int j u=>exact fin none (some (j,u)) rfl rfl hs
 |int i t1=>
  cases pu with
  |none=>exact fin (some (i,t1)) none rfl rfl hs
  |int j u=>exact fin (some (i,t1)) (some (j,u)) rfl rfl hs
def gi' (H:Hp):V->Option String
 | .non=>some "NoneType"
 | .bl _=>some "bool"
 | .int _=>some "int"
 | .str _=>some "str"
 | .ref a=>match H a with
  |some (.lst _)=>some "list"
  |some (.tup _)=>some "tuple"
  |some (.dK _)=>some "dict"
  |some (.dT _)=>some "dict"
  |some (.frz _ (.lst _))=>some "list"
  |_=>none
 |_=>none
set_option tactic.hygienic true in
theorem kR' {K:W.Frag} {H:Hp} {x:V} {T:String} (h:gi' H x=some T):TyOf K H x (.type T):=by
 cases x with
 |non=>cases h;exact .non
 |bl b=>cases h;exact .bl b
 |int i=>cases h;exact .int i
 |str y=>cases h;exact .str y
 |byt _=>cases h
 |flt _=>cases h
 |ty _=>cases h
 |ref a=>
  have h:(match H a with
   |some (.lst _)=>some "list"
   |some (.tup _)=>some "tuple"
   |some (.dK _)=>some "dict"
   |some (.dT _)=>some "dict"
   |some (.frz _ (.lst _))=>some "list"
   |_=>none)=some T:=h
  split at h
  .rename_i e;cases h;exact .lst e
  .rename_i e;cases h;exact .tup e
  .rename_i e;cases h;exact .dK e
  .rename_i e;cases h;exact .dT e
  .rename_i e;cases h;exact .frz e
  .cases h
def isT (T c:String):Bool:=T == c || (T == "bool"&&c == "int")
def dt':List String:=["NoneType","bool","int","str","list","tuple","dict"]
theorem dE' (K:W.Frag):∀T∈dt',∀c∈["bool","int","str","list","tuple","dict"],W.kitOne K (.type T) (.type c)=some (isT T c):=by
 intro T hT c hc
 simp only[dt',aq,au,or_false]at hT hc
 rcases hT with rfl|rfl|rfl|rfl|rfl|rfl|rfl<;>rcases hc with rfl|rfl|rfl|rfl|rfl|rfl<;>rfl
def y4':List V->Hp->VK->Prop:=fun xs H Q=>
 (∃x T c,xs=[x,.ty c]/\gi' H x=some T/\T∈dt'/\c∈["bool","int","str","list","tuple","dict"]/\Q (.bl (isT T c)) H)\/
 (∃(x:V) (T:String) (p:Addr) (cs:List String),xs=[x,.ref p]/\gi' H x=some T/\T∈dt'/\H p=some (.tup (cs.map V.ty))/\(∀c∈cs,c∈["bool","int","str","list","tuple","dict"])/\Q (.bl (cs.any (isT T))) H)
theorem kS':∀{cs:List String} {us:List Value},aL' (cs.map V.ty) us->us=cs.map Value.type
 | [],us,h=>h.zero
 |c :: cs,_,.cons r t=>by
  have r':_=Value.type c:=r
  rw[r',kS' t]
  rfl
theorem dF' (K:W.Frag) {T:String} (hT:T∈dt'):∀{cs:List String},(∀c∈cs,c∈["bool","int","str","list","tuple","dict"])->W.kitAny K (.type T) (cs.map Value.type)=some (cs.any (isT T))
 | [],_=>rfl
 |c :: cs,h=>by
  have h1:=dE' K T hT c (h c aw)
  have h2:=dF' K hT (cs:=cs) fun c' hc'=>h c' (ar _ hc')
  show(match W.kitOne K (.type T) (.type c)with|some true=>some true|some false=>W.kitAny K (.type T) (cs.map Value.type)|none=>none)=_
  rw[h1]
  cases hb:isT T c
  .rw[bR,hb]
   exact h2
  .rw[bR,hb]
   rfl
set_option tactic.hygienic true in
theorem jQ' {pins:List (Addr×Obj)} {σ:St} {H:Hp} {s:Shared} {Q:Value->Shared->Prop} {E:Value->Shared->Prop} {b:Bool} {x:V} {u:Value} {T:String} {p:Addr} {dd:Option Addr} {its:List Value} {n:Nat} {sl:Array (Option Value)} (I:Inv X pins σ H s) (rx:aF' x u) (ty:gi' H x=some T)
  (hp:s.heap.get? p=some ⟨.type "tuple",dd,.seq its.toArray n,sl⟩) (e:W.kitAny X.K (.type T) its=some b) (h:∀tk,Q (.bool b) { s with toks:=tk }):
  wpAny (model X.prog X.w) X.A (call (.builtin "isinstance") [u,.ref p]) Q E s:=by
 cases x with
 |non=>cases ty;cases(show u=Value.none from rx);exact W.kia_tup W.kitx_none I.kIn True.intro hp e (fun z=>nomatch z) h
 |bl y=>cases ty;cases(show u=Value.bool y from rx);exact W.kia_tup W.kitx_bool I.kIn True.intro hp e (fun z=>nomatch z) h
 |int i=>cases ty;obtain⟨t,q⟩:=(show ∃t,u=Value.int i t from rx);cases q;exact W.kia_tup W.kitx_int I.kIn True.intro hp e (fun z=>nomatch z) h
 |str y=>cases ty;obtain⟨t,q⟩:=(show ∃t,u=Value.str y t from rx);cases q;exact W.kia_tup W.kitx_str I.kIn True.intro hp e (fun z=>nomatch z) h
 |byt _=>cases ty
 |flt _=>cases ty
 |ty _=>cases ty
 |ref a=>
  cases(show u=Value.ref a from rx)
  have ty:(match H a with
   |some (.lst _)=>some "list"
   |some (.tup _)=>some "tuple"
   |some (.dK _)=>some "dict"
   |some (.dT _)=>some "dict"
   |some (.frz _ (.lst _))=>some "list"
   |_=>none)=some T:=ty
  split at ty
  .rename_i xs ea
   cases ty
   obtain⟨_,_,n,_,h1⟩:=(show av' X.prog X.w H s.heap a (.lst xs) from I.hok a _ ea)
   exact W.kia_tup W.kitx_list I.kIn ⟨_,h1,rfl⟩ hp e (fun z=>nomatch z) h
  .rename_i xs ea
   cases ty
   obtain⟨_,_,_,o,h1,h2,_⟩:=(show av' X.prog X.w H s.heap a (.tup xs) from I.hok a _ ea)
   exact W.kia_tup W.kitx_tuple I.kIn ⟨o,h1,h2⟩ hp e (fun z=>nomatch z) h
  .rename_i kvs ea
   cases ty
   obtain⟨_,_,vs,_,o,es,ep,h1,h2,_⟩:=(show av' X.prog X.w H s.heap a (.dK kvs) from I.hok a _ ea)
   exact W.kia_tup W.kitx_dict I.kIn ⟨o,h1,h2.1⟩ hp e (fun z=>nomatch z) h
  .rename_i kvs ea
   cases ty
   obtain⟨_,_,xs,_,o,es,ep,h1,h2,_⟩:=(show av' X.prog X.w H s.heap a (.dT kvs) from I.hok a _ ea)
   exact W.kia_tup W.kitx_dict I.kIn ⟨o,h1,h2.1⟩ hp e (fun z=>nomatch z) h
  .rename_i ob xs ea
   cases ty
   obtain⟨_,_,_,n,_,h1⟩:=(show av' X.prog X.w H s.heap a (.frz ob (.lst xs)) from I.hok a _ ea)
   exact W.kia_tup W.kitx_list I.kIn ⟨_,h1,rfl⟩ hp e (fun z=>nomatch z) h
  .cases ty
theorem nA':a8' X (.builtin "isinstance") y4':=by
 intro pins s σ H xs us Q I r h
 rcases h with⟨x,T,c,rfl,hT,hk,hc,q⟩|⟨x,T,p,cs,rfl,hT,hk,hp,hc,q⟩
 .obtain⟨u,w',rfl,r1,r2⟩:=hy' r
  have r2:w'=Value.type c:=r2
  subst r2
  exact kB' I r1 (kR' hT) (dE' X.K T hk c hc) fun tk=>⟨.bl _,H,I.tok _,rfl,q⟩
 .obtain⟨u,w',rfl,r1,r2⟩:=hy' r
  have r2:w'=Value.ref p:=r2
  subst r2
  obtain⟨_,its,rv,o,h1,h2,⟨n,h3⟩,_⟩:=(show av' X.prog X.w H s.heap p (.tup (cs.map V.ty)) from I.hok p _ hp)
  have e:=kS' rv
  subst e
  obtain⟨oc,od,dat,osl⟩:=o
  have h2:oc=_:=h2
  have h3:dat=_:=h3
  subst h2 h3
  exact jQ' I r1 hT h1 (dF' X.K hk hc) fun tk=>⟨.bl _,H,I.tok _,rfl,q⟩
def nB' (K:W.Frag) (mx:Bool):List V->Hp->VK->Prop:=fun xs H Q=>∃(p:Addr) (ns:List Int),xs=[.ref p]/\SqL K H p (ns.map V.int)/\ns≠[]/\∀M,M∈ns->(∀a∈ns,if mx then a<=M else M<=a)->Q (.int M) H
theorem kT' (hc:X.calm=true):a8' X (.builtin "max") (nB' X.K true):=by
 intro pins s σ H xs us Q I r h
 obtain⟨p,ns,rfl,hs,hne,q⟩:=h
 obtain⟨u,rfl,ru⟩:=eP' r
 cases ru
 obtain⟨its,rv,pl,hz⟩:=I.list hs
 have hi:=dr' rv
 obtain⟨xs,e⟩:=hi.allInts.items
 have hns:ns=xs.toList.map (·.1):=by
  rw[<- hi.numsOf,<- nums_intItems,<- e]
 have hsz:0<xs.size:=by
  have h3:=List.length_pos_iff.mpr hne
  rw[hns,ai,aP]at h3
  exact h3
 have hl:=pl.isList
 rw[e]at hl
 refine max_intList (I.ok.hd hc) hl hsz fun v h' tk hv hk=>?_
 obtain⟨t,rfl⟩:=intItems_at hv
 obtain⟨h1,h2⟩:=argBest_gt (numAt xs) (xs.size-1)
 refine⟨.int _,H,I.kept hk,⟨t,rfl⟩,q _ ?_ fun a ha=>?_⟩
 .rw[hns,numAt_eq];exact getD_mem (by rw[ai,aP];omega)
 .rw[hns]at ha
  obtain⟨j,hj,rfl⟩:=mem_getD ha
  rw[ai,aP]at hj
  rw[if_pos rfl,<- numAt_eq];exact h2 j (by omega)
theorem kU' (hc:X.calm=true):a8' X (.builtin "min") (nB' X.K false):=by
 intro pins s σ H xs us Q I r h
 obtain⟨p,ns,rfl,hs,hne,q⟩:=h
 obtain⟨u,rfl,ru⟩:=eP' r
 cases ru
 obtain⟨its,rv,pl,hz⟩:=I.list hs
 have hi:=dr' rv
 obtain⟨xs,e⟩:=hi.allInts.items
 have hns:ns=xs.toList.map (·.1):=by
  rw[<- hi.numsOf,<- nums_intItems,<- e]
 have hsz:0<xs.size:=by
  have h3:=List.length_pos_iff.mpr hne
  rw[hns,ai,aP]at h3
  exact h3
 have hl:=pl.isList
 rw[e]at hl
 refine min_intList (I.ok.hd hc) hl hsz fun v h' tk hv hk=>?_
 obtain⟨t,rfl⟩:=intItems_at hv
 obtain⟨h1,h2⟩:=argBest_lt (numAt xs) (xs.size-1)
 refine⟨.int _,H,I.kept hk,⟨t,rfl⟩,q _ ?_ fun a ha=>?_⟩
 .rw[hns,numAt_eq];exact getD_mem (by rw[ai,aP];omega)
 .rw[hns]at ha
  obtain⟨j,hj,rfl⟩:=mem_getD ha
  rw[ai,aP]at hj
  rw[if_neg (by decide),<- numAt_eq];exact h2 j (by omega)
end
section
variable {X:Cx}
def kV':V->List V->Hp->VK->Prop:=fun x vs H Q=>∃l xs y,∃i:Nat,x=.ref l/\vs=[.int i,y]/\H l=some (.lst xs)/\xs.length<sizeLine/\i<=xs.length/\Q .non (upd H l (.lst (xs.take i++y :: xs.drop i)))
set_option tactic.hygienic true in
theorem kW':MtM X "list.insert" kV':=by
 intro pins s σ H x vs v us Q I rx rv h
 obtain⟨l,xs,y,i,rfl,rfl,hH,hz,hi,q⟩:=h
 cases rx
 cases rv with
 |cons r1 rv=>
  cases rv with
  |cons r2 rv=>
   cases rv
   obtain⟨t,rfl⟩:=r1
   rename_i u
   obtain⟨z,its,n,r,hl,e⟩:=I.lstM hH
   have hb:i<2 ^ 62:=bx hi (bx z (show 2 ^ 24<2 ^ 62 from Nat.pow_lt_pow_right (by decide) (by decide)))
   have hfit:¬(!Builtin.List.listFitsIndex (i:Int))=true:=by
    unfold Builtin.List.listFitsIndex
    simp
    omega
   have hsz:its.toArray.size<=sizeLine:=by rw[am];exact hl ▸ z
   generalize hj:(i:Int)=j at hfit
   have M:=AutoListH.list_insert_list_int_val_1 l its.toArray n j t u hfit hsz
   refine call_meets F.slot_list_insert ⟨_,e,rfl⟩ F.entry_list_insert (F.args_list_insert_3 _ _ _) M ⟨e,?_⟩
   subst hj
   refine⟨.non,_,I.lset (its':=its.take i++u :: its.drop i) hH e ?_ ((r.take i).append (.cons r2 (r.drop i))) ?_,rfl,q⟩
   .have hn:¬((i:Int)<0):=by omega
    simp only[hn,if_false,aK,am]
    rw[Nat.min_eq_left (by omega)]
    simp
    exact ba (by simp)
   .simp
    omega
open PySem.SeqAt in
theorem ek' {A:Around} {s:Shared} {x y:V} {u v:Value} (rx:aF' x u) (ry:aF' y v) (h:qV' x y=true/\(∀b,x≠.byt b)\/x=y/\∃a,x=.ref a):EqAt A s u v (decide (x=y)):=by
 rcases h with⟨h,hb⟩|⟨rfl,a,rfl⟩
 .cases x with
  |non=>cases y with
   |non=>cases rx;cases ry;exact EqAt.same _
   |bl b=>cases rx;cases ry;exact EqAt.none_bool _
   |int b=>cases rx;obtain⟨t,rfl⟩:=ry;exact EqAt.none_int _ _
   |str b=>cases rx;obtain⟨t,rfl⟩:=ry;exact EqAt.none_str _ _
   |_=>cases h
  |bl a=>cases y with
   |non=>cases rx;cases ry;exact EqAt.bool_none _
   |bl b=>cases rx;cases ry;have:=EqAt.bool_bool (A:=A) (s:=s) a b;cases a<;>cases b<;>exact this
   |str b=>cases rx;obtain⟨t,rfl⟩:=ry;exact EqAt.bool_str _ _ _
   |_=>cases h
  |int a=>cases y with
   |non=>obtain⟨t,rfl⟩:=rx;cases ry;exact EqAt.int_none _ _
   |int b=>obtain⟨t,rfl⟩:=rx;obtain⟨t',rfl⟩:=ry;rw[fo'];exact EqAt.int_int _ _ _ _
   |str b=>obtain⟨t,rfl⟩:=rx;obtain⟨t',rfl⟩:=ry;exact EqAt.int_str _ _ _ _
   |_=>cases h
  |str a=>cases y with
   |non=>obtain⟨t,rfl⟩:=rx;cases ry;exact EqAt.str_none _ _
   |bl b=>obtain⟨t,rfl⟩:=rx;cases ry;exact EqAt.str_bool _ _ _
   |int b=>obtain⟨t,rfl⟩:=rx;obtain⟨t',rfl⟩:=ry;exact EqAt.str_int _ _ _ _
   |str b=>
    obtain⟨t,rfl⟩:=rx
    obtain⟨t',rfl⟩:=ry
    have e:decide (V.str a=V.str b)=(a == b):=by
     by_cases hab:a=b
     .subst hab;simp
     .rw[decide_eq_false (by intro z;cases z;exact hab rfl)];simp[hab]
    rw[e]
    exact EqAt.str_str _ _ _ _
   |_=>cases h
  |byt b=>exact absurd rfl (hb b)
  |_=>cases y<;>cases h
 .cases rx
  cases ry
  rw[decide_eq_true rfl]
  exact EqAt.same _
def LEq (xs ys:List V):Prop:=∀(i:Nat) x y,xs[i]?=some x->ys[i]?=some y->qV' x y=true/\(∀b,x≠.byt b)\/x=y/\∃a,x=.ref a
def wS' (K:W.Frag) (neg:Bool):V->V->Hp->VK->Prop:=fun x y H Q=>∃p q xs ys,x=.ref p/\y=.ref q/\SqL K H p xs/\SqL K H q ys/\(xs.length=ys.length->LEq xs ys)/\Q (.bl (if neg then !decide (xs=ys)else decide (xs=ys))) H
theorem kX' {xs ys:List V} (h:xs.length=ys.length):(aD xs.length).all (fun i=>decide (xs[i]?=ys[i]?))=decide (xs=ys):=by
 by_cases e:xs=ys
 .subst e
  simp
 .rw[decide_eq_false e,Bool.eq_false_iff]
  intro q
  rw[bJ]at q
  apply e
  apply List.ext_getElem?
  intro i
  rcases Nat.lt_or_ge i xs.length with hi|hi
  .exact of_decide_eq_true (q i (bM.mpr hi))
  .rw[aX.mpr hi,aX.mpr (by omega)]
open PySem.SeqAt in
theorem t3' (hu:X.A.units<cLine):OpR X (compareOp .Eq) (wS' X.K false):=by
 intro pins s σ H x y v u Q I rx ry h
 obtain⟨p,q,xs,ys,rfl,rfl,hp,hq,he,k⟩:=h
 cases rx
 cases ry
 obtain⟨its,r1,pl1,_⟩:=I.list hp
 obtain⟨its2,r2,pl2,_⟩:=I.list hq
 have l1:=r1.length
 have l2:=r2.length
 by_cases hl:xs.length=ys.length
 .refine eq_listAt (e:=fun i=>decide (xs[i]?=ys[i]?)) pl1.isList pl2.isList (by simp;omega) hu (fun j h1 h2=>?_) ?_
  .have j1:j<xs.length:=by simp at h1;omega
   have j2:j<ys.length:=by omega
   have g1:xs[j]?=some xs[j]:=ac j1
   have g2:ys[j]?=some ys[j]:=ac j2
   obtain⟨u1,e1,ru1⟩:=r1.get g1
   obtain⟨u2,e2,ru2⟩:=r2.get g2
   have f1:its.toArray[j]=u1:=by simp at h1 ⊢;rw[ac h1]at e1;exact Option.some.inj e1
   have f2:its2.toArray[j]=u2:=by simp at h2 ⊢;rw[ac h2]at e2;exact Option.some.inj e2
   rw[f1,f2,g1,g2]
   have e3:decide (some xs[j]=some ys[j])=decide (xs[j]=ys[j]):=by simp
   rw[e3]
   exact ek' ru1 ru2 (he hl j _ _ g1 g2)
  .have e4:(aD its.toArray.size).all (fun i=>decide (xs[i]?=ys[i]?))=decide (xs=ys):=by
    rw[am,<- l1];exact kX' hl
   rw[e4]
   exact⟨.bl _,H,I,rfl,k⟩
 .refine eq_list_lengthsAt pl1.isList pl2.isList (by simp;omega) hu ?_
  rw[decide_eq_false (fun z=>hl (by rw[z]))]at k
  exact⟨.bl false,H,I,rfl,k⟩
open PySem.SeqAt in
theorem t4' (hu:X.A.units<cLine):OpR X (compareOp .NotEq) (wS' X.K true):=by
 intro pins s σ H x y v u Q I rx ry h
 obtain⟨p,q,xs,ys,rfl,rfl,hp,hq,he,k⟩:=h
 cases rx
 cases ry
 obtain⟨its,r1,pl1,_⟩:=I.list hp
 obtain⟨its2,r2,pl2,_⟩:=I.list hq
 have l1:=r1.length
 have l2:=r2.length
 obtain⟨⟨cls,dd,data,sl⟩,ho,hc,n,hd⟩:=pl1.isList
 obtain⟨⟨cls2,dd2,data2,sl2⟩,ho2,hc2,n2,hd2⟩:=pl2.isList
 simp only at hc hd hc2 hd2
 subst hc hd hc2 hd2
 by_cases hl:xs.length=ys.length
 .refine richCompare_meets_room (op:=.NotEq) ⟨_,ho,rfl⟩ ⟨_,ho2,rfl⟩ F.slot_list_ne F.entry_list_ne (F.args_list_ne_2 _ _) (list_neAt p q its.toArray its2.toArray n n2 dd dd2 sl sl2 (by simp;omega) (fun i=>decide (xs[i]?=ys[i]?))) ⟨ho,ho2,fun j h1 h2=>?_,?_⟩ hu
  .have j1:j<xs.length:=by simp at h1;omega
   have j2:j<ys.length:=by omega
   have g1:xs[j]?=some xs[j]:=ac j1
   have g2:ys[j]?=some ys[j]:=ac j2
   obtain⟨u1,e1,ru1⟩:=r1.get g1
   obtain⟨u2,e2,ru2⟩:=r2.get g2
   have f1:its.toArray[j]=u1:=by simp at h1 ⊢;rw[ac h1]at e1;exact Option.some.inj e1
   have f2:its2.toArray[j]=u2:=by simp at h2 ⊢;rw[ac h2]at e2;exact Option.some.inj e2
   rw[f1,f2,g1,g2]
   have e3:decide (some xs[j]=some ys[j])=decide (xs[j]=ys[j]):=by simp
   rw[e3]
   exact ek' ru1 ru2 (he hl j _ _ g1 g2)
  .have e4:(aD its.toArray.size).all (fun i=>decide (xs[i]?=ys[i]?))=decide (xs=ys):=by
    rw[am,<- l1];exact kX' hl
   rw[e4]
   exact(show Value.bool (!decide (xs=ys))≠Value.notImplemented/\EP X pins σ Q (Value.bool (!decide (xs=ys))) s from⟨(fun x=>nomatch x),⟨.bl _,H,I,rfl,k⟩⟩)
 .refine richCompare_meets_room (op:=.NotEq) ⟨_,ho,rfl⟩ ⟨_,ho2,rfl⟩ F.slot_list_ne F.entry_list_ne (F.args_list_ne_2 _ _) (list_ne_lengthsAt p q its.toArray its2.toArray n n2 dd dd2 sl sl2 (by simp;omega)) ⟨ho,ho2,?_⟩ hu
  rw[decide_eq_false (fun z=>hl (by rw[z]))]at k
  exact(show Value.bool true≠Value.notImplemented/\EP X pins σ Q (Value.bool true) s from⟨(fun x=>nomatch x),⟨.bl true,H,I,rfl,k⟩⟩)
def rgs (i:Int) (n:Nat):List V:=(aD n).map fun(k:Nat)=>V.int (i+(k:Int))
def y5':List V->Hp->VK->Prop:=fun xs H Q=>∃i j:Int,(xs=[.int i,.int j]\/(i=0/\xs=[.int j]))/\∀p,H p=none->Q (.ref p) (upd H p (.rng i j))
theorem nC':a8' X (.type "range") y5':=by
 intro pins s σ H xs us Q I rv h
 obtain⟨i,j,hx,q⟩:=h
 have hn:H s.heap.objs.size=none:=I.hok.fresh (al _)
 rcases hx with rfl|⟨rfl,rfl⟩
 .cases rv with
  |cons r1 rv=>
   cases rv with
   |cons r2 rv=>
    cases rv
    obtain⟨t,rfl⟩:=r1
    obtain⟨u,rfl⟩:=r2
    exact call_range_2 ⟨.ref s.heap.objs.size,_,I.laid (t':=s.toks+1) (fun _ _ e=>ag _ e) (al _) (o:=.rng i j) ⟨t,u,s.toks,ax _ rfl⟩,rfl,q _ hn⟩
 .cases rv with
  |cons r1 rv=>
   cases rv
   obtain⟨t,rfl⟩:=r1
   exact call_range_1 ⟨.ref s.heap.objs.size,_,I.laid (t':=s.toks+1+1) (fun _ _ e=>ag _ e) (al _) (o:=.rng 0 j) ⟨s.toks,t,s.toks+1,ax _ rfl⟩,rfl,q _ hn⟩
def y6':List V->Hp->VK->Prop:=fun xs H Q=>∃r i j,xs=[.ref r]/\H r=some (.rng i j)/\(-(2 ^ 62)<=i/\i<2 ^ 62/\-(2 ^ 62)<=j/\j<2 ^ 62)/\(j-i).toNat<=sizeLine/\∀p,H p=none->Q (.ref p) (upd H p (.lst (rgs i (j-i).toNat)))
theorem nD' (hc:X.calm=true):a8' X (.type "list") y6':=by
 intro pins s σ H xs us Q I rv h
 obtain⟨r,i,j,rfl,hr,⟨h1,h2,h3,h4⟩,hz,q⟩:=h
 cases rv with
 |cons r1 rv=>
  cases rv
  cases r1
  obtain⟨t,u,v,e⟩:=(show av' X.prog X.w H s.heap r (.rng i j) from I.hok r _ hr)
  refine call_list_range (n:=(j-i).toNat) (I.ok.hd hc) e (small_one h1 h2 h3 h4) (by rw[rangeSize_one];split<;>omega) hz fun h' tk' acc' c' hk hS hit=>?_
  obtain⟨hsz,hv⟩:=hit
  have hn:H s.heap.objs.size=none:=I.hok.fresh (al _)
  have key:∀(n:Nat) (l:List Value) (f:Nat->Int),l.length=n->(∀k v,l[k]?=some v->∃t,v=Value.int (f k) t)->aL' ((aD n).map fun k=>V.int (f k)) l:=by
   intro n
   induction n with
   |zero=>intro l f hl hv;have:l=[]:=List.length_eq_zero_iff.mp hl;subst this;exact .nil
   |succ n ih=>
    intro l f hl hv
    cases l with
    |nil=>cases hl
    |cons x r=>
     rw[List.range_succ_eq_map,aJ,bE]
     refine .cons (hv 0 x rfl) ?_
     exact ih r (fun k=>f (k+1)) (by simpa using hl) fun k v hk=>hv (k+1) v (by simpa using hk)
  refine⟨.ref s.heap.objs.size,_,I.laid (t':=tk') hk (al _) (o:=.lst (rgs i (j-i).toNat)) ⟨by unfold rgs;rw[ai,bF];exact hz,acc'.toList,c',?_,hS⟩,rfl,q _ hn⟩
  refine key _ _ (fun k=>i+(k:Int)) (by rw[aP];exact hsz) fun k v hk=>?_
  obtain⟨t,e⟩:=hv k v (by simpa using hk)
  exact⟨t,by rw[e];simp⟩
end
section
variable {X:Cx}
def eV (y:V) (w:Value):Bool:=match w,y with
 | .none,.non=>true
 | .bool a,.bl b=>a == b
 | .int i _,.int j=>i == j
 | .str x _,.str z=>x == z
 |_,_=>false
set_option tactic.hygienic true in
theorem rl' {z y:V} {w:Value} (r:aF' z w) (h:qV' z y=true) (hb:∀b,z≠.byt b):eV y w=decide (z=y):=by
 cases z with
 |non=>cases r;cases y<;>first|rfl|cases h
 |bl a=>cases r;cases y<;>first|(cases h;done)|(rename_i b;cases a<;>cases b<;>rfl)|rfl
 |int a=>
  obtain⟨t,rfl⟩:=r
  cases y<;>first|(cases h;done)|rfl|skip
  rw[fo']
  rfl
 |str a=>
  obtain⟨t,rfl⟩:=r
  cases y<;>first|(cases h;done)|rfl|skip
  rename_i b
  show(a == b)=_
  by_cases hab:a=b
  .subst hab;simp
  .rw[decide_eq_false (by intro z;cases z;exact hab rfl)];simp[hab]
 |byt b=>exact absurd rfl (hb b)
 |_=>cases y<;>cases h
theorem nE' {xs:List V} {us:List Value} {u:Value} (r:aL' xs us) (h:u∈us):∃x∈xs,aF' x u:=by
 obtain⟨i,hi⟩:=List.getElem?_of_mem h
 have hl:=r.length
 have hlt:i<xs.length:=by
  rcases Nat.lt_or_ge i us.length with q|q
  .omega
  .rw[aX.mpr q]at hi;cases hi
 obtain⟨w,e,rw_⟩:=r.get (ac hlt)
 rw[hi]at e
 cases e
 exact⟨_,cj hlt,rw_⟩
theorem rm':OpR X (binaryOp .Mult) (rI IntMulOk fun i j=>.int (i*j)):=opI fun _ _ _ _ _ _ _ hc q=>mul_int q hc
def y7':V->Bool
 | .ty _=>false
 | .byt _=>false
 | .flt _=>false
 |_=>true
def wT' (neg:Bool):R2:=fun x y H Q=>∃b,y=.bl b/\y7' x=true/\Q (.bl (if neg then !decide (x=.bl b)else decide (x=.bl b))) H
theorem t5' {x:V} {v:Value} {b:Bool} (r:aF' x v) (h:y7' x=true):plainIs v (.bool b)=true/\(v == Value.bool b)=decide (x=.bl b):=by
 cases x with
 |non=>cases r;exact⟨rfl,rfl⟩
 |bl a=>cases r;refine⟨rfl,?_⟩;cases a<;>cases b<;>rfl
 |int i=>obtain⟨t,rfl⟩:=r;exact⟨rfl,rfl⟩
 |str i=>obtain⟨t,rfl⟩:=r;exact⟨rfl,rfl⟩
 |ref a=>cases r;exact⟨rfl,rfl⟩
 |_=>cases h
theorem t6':OpR X (compareOp .Is) (wT' false):=by
 intro pins s σ H x y v u Q I rx ry h
 obtain⟨b,rfl,hp,q⟩:=h
 cases ry
 obtain⟨h1,h2⟩:=t5' (b:=b) rx hp
 exact wpAny_is_plain h1 ⟨.bl _,H,I,by rw[h2];rfl,q⟩
theorem kY':OpR X (compareOp .IsNot) (wT' true):=by
 intro pins s σ H x y v u Q I rx ry h
 obtain⟨b,rfl,hp,q⟩:=h
 cases ry
 obtain⟨h1,h2⟩:=t5' (b:=b) rx hp
 exact wpAny_isNot_plain h1 ⟨.bl _,H,I,by rw[h2];rfl,q⟩
theorem nF':OpR X (binaryOp .FloorDiv) (rI (fun _ j=>0<j/\j.natAbs.log2<9000) fun i j=>.int (i / j)):=opI fun i j _ _ _ _ _ hc q=>by
 refine floordiv_int (by omega) ?_ (.inl (PyProof.noPylong_of_log2 hc.2))
 rw[Int.fdiv_eq_ediv_of_nonneg i (by omega)]
 exact q
end
section
variable {κ:Type} [DecidableEq κ]
def ht' (kvs:List (κ×V)) (k:κ):Option V:=(kvs.find? fun kv=>decide (kv.1=k)).map (·.2)
def hH' (kvs:List (κ×V)) (k:κ) (v:V):List (κ×V):=
 if(kvs.any fun kv=>decide (kv.1=k))=true then kvs.map (fun kv=>if kv.1=k then(kv.1,v)else kv)else kvs++[(k,v)]
theorem fx' {p:κ×V} {r:List (κ×V)} {k:κ} (e:p.1=k):ht' (p :: r) k=some p.2:=by simp[ht',bZ,e]
theorem fy' {p:κ×V} {r:List (κ×V)} {k:κ} (e:¬p.1=k):ht' (p :: r) k=ht' r k:=by simp[ht',bZ,e]
theorem iv' (k:κ):∀kvs:List (κ×V),(kvs.any fun kv=>decide (kv.1=k))=(ht' kvs k).isSome
 | []=>rfl
 |p :: r=>by
  rw[bR]
  by_cases e:p.1=k
  .simp only[fx' e,decide_eq_true e,Bool.true_or,Option.isSome_some]
  .rw[fy' e,decide_eq_false e,Bool.false_or];exact iv' k r
theorem el' (kvs:List (κ×V)) (k:κ) (v:V):(hH' kvs k v).length<=kvs.length+1:=by
 unfold hH'
 split
 .rw[ai];omega
 .rw[ao,aR,bH];omega
theorem jC'.isSome_eq {o:Option V} {u:Option Value} (r:jC' o u):o.isSome=u.isSome:=by
 cases o with
 |none=>cases u with
  |none=>rfl
  |some _=>exact(show False from r).elim
 |some _=>cases u with
  |none=>exact(show False from r).elim
  |some _=>rfl
theorem jC'.getD {o:Option V} {u:Option Value} {d:V} {d':Value} (r:jC' o u) (rd:aF' d d'):aF' (o.getD d) (u.getD d'):=by
 cases o with
 |none=>cases u with
  |none=>exact rd
  |some _=>exact(show False from r).elim
 |some _=>cases u with
  |none=>exact(show False from r).elim
  |some _=>exact r
theorem KV.val {kvs:List (κ×V)} {vs:List (κ×Value)} (r:KV kvs vs) (k:κ):jC' (ht' kvs k) (valueAt vs k):=by
 unfold KV at r
 induction r with
 |nil=>exact True.intro
 | @cons p q ps qs h t ih=>
  obtain⟨h1,h2⟩:=h
  by_cases e:p.1=k
  .have e':q.1=k:=h1.symm.trans e
   have b:valueAt (q :: qs) k=some q.2:=by simp[valueAt,bZ,e']
   rw[fx' e,b];exact h2
  .have e':¬q.1=k:=fun z=>e (h1.trans z)
   have b:valueAt (q :: qs) k=valueAt qs k:=by simp[valueAt,bZ,e']
   rw[fy' e,b];exact ih
theorem KV.any {kvs:List (κ×V)} {vs:List (κ×Value)} (r:KV kvs vs) (k:κ):(kvs.any fun kv=>decide (kv.1=k))=vs.any fun kv=>decide (kv.1=k):=by
 unfold KV at r
 induction r with
 |nil=>rfl
 |cons h t ih=>rw[bR,bR,ih,h.1]
theorem KV.repl {kvs:List (κ×V)} {vs:List (κ×Value)} (r:KV kvs vs) (k:κ) {y:V} {u:Value} (ry:aF' y u):
  KV (kvs.map fun kv=>if kv.1=k then(kv.1,y)else kv) (vs.map fun kv=>if kv.1=k then(kv.1,u)else kv):=by
 unfold KV at r ⊢
 induction r with
 |nil=>exact .nil
 | @cons p q ps qs h t ih=>
  rw[aJ,aJ]
  refine .cons ?_ ih
  obtain⟨h1,h2⟩:=h
  by_cases e:p.1=k
  .rw[if_pos e,if_pos (h1.symm.trans e)];exact⟨h1,ry⟩
  .rw[if_neg e,if_neg (fun z=>e (h1.trans z))];exact⟨h1,h2⟩
theorem KV.put {kvs:List (κ×V)} {vs:List (κ×Value)} (r:KV kvs vs) (k:κ) {y:V} {u:Value} (ry:aF' y u):KV (hH' kvs k y) (stored vs k u):=by
 unfold hH' stored
 rw[r.any k]
 by_cases e:(vs.any fun kv=>decide (kv.1=k))=true
 .rw[if_pos e,if_pos e];exact r.repl k ry
 .rw[if_neg e,if_neg e];exact Paired.snoc r ⟨rfl,ry⟩
theorem KV.keys {kvs:List (κ×V)} {vs:List (κ×Value)} (r:KV kvs vs):kvs.map (·.1)=vs.map (·.1):=by
 unfold KV at r
 induction r with
 |nil=>rfl
 |cons h t ih=>rw[aJ,aJ,ih,h.1]
theorem KV.length {kvs:List (κ×V)} {vs:List (κ×Value)} (r:KV kvs vs):kvs.length=vs.length:=Paired.length r
end
theorem kZ' {P:Program} {w:World} {k:Key} {u:Value} (r:aF' (kV k) u):(ap' P w).is k u=true:=by
 cases k with
 |inl i=>obtain⟨t,e⟩:=(show ∃t,u=Value.int i t from r);subst e;exact hv' P w i t
 |inr x=>obtain⟨t,e⟩:=(show ∃t,u=Value.str x t from r);subst e;exact hw' P w x t
 |non=>obtain rfl:u=Value.none:=r;rfl
theorem gj' {P:Program} {w:World}:∀{ks:List Key} {us:List Value},aL' (ks.map kV) us->ItemsAre (ap' P w) ks us
 | [],_,r=>by rw[List.map_nil]at r;cases r;exact .nil
 |k :: ks,_,r=>by
  rw[aJ]at r
  cases r with
  |cons h t=>exact .cons (kZ' h) (gj' t)
abbrev KT (H:Hp):List (List Key×V)->List (List Key×Addr×Value)->Prop:=Paired fun p q=>p.1=q.1/\H q.2.1=some (.tup (p.1.map kV))/\aF' p.2 q.2.2
theorem KT.val {H:Hp} {kvs:List (List Key×V)} {xs:List (List Key×Addr×Value)} (r:KT H kvs xs) (k:List Key):jC' (ht' kvs k) ((atKey xs k).map (·.2)):=by
 induction r with
 |nil=>exact True.intro
 | @cons p q ps qs h t ih=>
  obtain⟨h1,_,h2⟩:=h
  by_cases e:p.1=k
  .have e':q.1=k:=h1.symm.trans e
   have b:atKey (q :: qs) k=some q.2:=by simp[atKey,bZ,e']
   rw[fx' e,b];exact h2
  .have e':¬q.1=k:=fun z=>e (h1.trans z)
   have b:atKey (q :: qs) k=atKey qs k:=by simp[atKey,bZ,e']
   rw[fy' e,b];exact ih
theorem KT.repl {H:Hp} {kvs:List (List Key×V)} {xs:List (List Key×Addr×Value)} (r:KT H kvs xs) (k:List Key) {y:V} {u:Value} (ry:aF' y u):
  KT H (kvs.map fun kv=>if kv.1=k then(kv.1,y)else kv) (xs.map (putAt k u)):=by
 induction r with
 |nil=>exact .nil
 | @cons p q ps qs h t ih=>
  rw[aJ,aJ]
  refine .cons ?_ ih
  obtain⟨h1,h2,h3⟩:=h
  unfold putAt
  by_cases e:p.1=k
  .rw[if_pos e,if_pos (h1.symm.trans e)];exact⟨h1,h2,ry⟩
  .rw[if_neg e,if_neg (fun z=>e (h1.trans z))];exact⟨h1,h2,h3⟩
theorem KT.put {H:Hp} {kvs:List (List Key×V)} {xs:List (List Key×Addr×Value)} (r:KT H kvs xs) (k:List Key) {b:Addr} {y:V} {u:Value} (hb:H b=some (.tup (k.map kV))) (ry:aF' y u):
  KT H (hH' kvs k y) (storedH xs k b u):=by
 have e:(kvs.any fun kv=>decide (kv.1=k))=(atKey xs k).isSome:=by
  rw[iv',(r.val k).isSome_eq,Option.isSome_map]
 unfold hH' storedH
 rw[e]
 by_cases q:(atKey xs k).isSome=true
 .rw[if_pos q,if_pos q];exact r.repl k ry
 .rw[if_neg q,if_neg q];exact Paired.snoc r ⟨rfl,hb,ry⟩
theorem KT.keeps {H H':Hp} {kvs:List (List Key×V)} {xs:List (List Key×Addr×Value)} (r:KT H kvs xs) (ht:∀b ys,H b=some (.tup ys)->H' b=some (.tup ys)):KT H' kvs xs:=
 Paired.mapP r fun _ _ z=>⟨z.1,ht _ _ z.2.1,z.2.2⟩
section
variable {P:Program} {w:World} {H:Hp} {h:Heap} {a:Addr}
theorem t7' {u:HO} (ok:HOk P w H h) (e:Rd H a u):av' P w H h a u:=e.ok ok
theorem k0' {kvs:List (Key×V)} (ok:HOk P w H h) (e:Rd H a (.dK kvs)):kvs.length<=sizeLine/\(a == sysModules)=false/\∃vs,KV kvs vs/\h.DictOf (ap' P w) a vs:=
 show av' P w H h a (.dK kvs) from t7' ok e
theorem xF' {kvs:List (Key×V)} (ok:HOk P w H h) (e:H a=some (.dK kvs)):kvs.length<=sizeLine/\(a == sysModules)=false/\∃vs,KV kvs vs/\h.DictOf (ap' P w) a vs:=k0' ok (.inl e)
theorem dG' {ks:List Key} (ok:HOk P w H h) (e:H a=some (.tup (ks.map kV))):(tupleKind (ap' P w)).is h ks a:=by
 obtain⟨_,its,r,o,h1,h2,⟨n,h3⟩,_⟩:=(show av' P w H h a (.tup (ks.map kV)) from ok a _ e)
 exact⟨o,its.toArray,n,h1,h2,h3,by simpa using gj' r⟩
theorem jR' {kvs:List (List Key×V)} (ok:HOk P w H h) (e:Rd H a (.dT kvs)):kvs.length<=sizeLine/\(a == sysModules)=false/\
  ∃xs,KT H kvs xs/\h.DictOfH (tupleKind (ap' P w)) a xs:=by
 obtain⟨z,y,xs,r,o,es,ep,h1,h2,h3,h4,h5⟩:=(show av' P w H h a (.dT kvs) from t7' ok e)
 refine⟨z,y,xs,r,o,es,ep,h1,h2,h3,h4,fun x hx=>?_,h5⟩
 have all:∀{l:List (List Key×V)} {m:List (List Key×Addr×Value)},KT H l m->∀x∈m,(tupleKind (ap' P w)).is h x.1 x.2.1:=by
  intro l m q
  induction q with
  |nil=>intro x hx;exact nomatch hx
  | @cons p q ps qs hq t ih=>
   intro x hx
   rcases aq.mp hx with e|hx
   .subst e
    exact dG' ok (by rw[<- hq.1];exact hq.2.1)
   .exact ih x hx
 exact all r x hx
theorem xG' {kvs:List (List Key×V)} (ok:HOk P w H h) (e:H a=some (.dT kvs)):kvs.length<=sizeLine/\(a == sysModules)=false/\
  ∃xs,KT H kvs xs/\h.DictOfH (tupleKind (ap' P w)) a xs:=jR' ok (.inl e)
end
def gk' (H:Hp) (a:Addr) (y:V) (r:Option V):Prop:=
 (∃kvs k,Rd H a (.dK kvs)/\y=kV k/\r=ht' kvs k)\/∃kvs k b,Rd H a (.dT kvs)/\y=.ref b/\H b=some (.tup (k.map kV))/\r=ht' kvs k
def y8' (H:Hp) (a:Addr) (y v:V) (H':Hp):Prop:=
 (∃kvs k,H a=some (.dK kvs)/\y=kV k/\kvs.length<sizeLine/\H'=upd H a (.dK (hH' kvs k v)))\/
 ∃kvs k b,H a=some (.dT kvs)/\y=.ref b/\H b=some (.tup (k.map kV))/\kvs.length<sizeLine/\H'=upd H a (.dT (hH' kvs k v))
theorem gk'.k {H:Hp} {a:Addr} {kvs:List (Key×V)} {k:Key} (e:H a=some (.dK kvs)):gk' H a (kV k) (ht' kvs k):=.inl ⟨kvs,k,.inl e,rfl,rfl⟩
theorem gk'.t {H:Hp} {a b:Addr} {kvs:List (List Key×V)} {k:List Key} (e:H a=some (.dT kvs)) (eb:H b=some (.tup (k.map kV))):gk' H a (.ref b) (ht' kvs k):=.inr ⟨kvs,k,b,.inl e,rfl,eb,rfl⟩
section
variable {X:Cx} {pins:List (Addr×Obj)} {σ:St} {H:Hp} {s:Shared} {a:Addr} {y v:V} {u r:Value} {o:Option V} {A:Around} {E:Value->Shared->Prop}
theorem Inv.big (I:Inv X pins σ H s):sysModules<s.heap.objs.size:=by
 have h:mainGlobals<s.heap.objs.size:=(I.mod.glob.keeps I.bk).lt
 exact Nat.lt_trans (by decide) h
theorem zX' {Q:Value->Shared->Prop} (hu:A.units+1<cLine) (I:Inv X pins σ H s) (g:gk' H a y o) (ry:aF' y u) (h:∀s',Inv X pins σ H s'->Q (.bool o.isSome) s'):
  wpAny (model X.prog X.w) A (compareOp .In u (.ref a)) Q E s:=by
 rcases g with⟨kvs,k,e,ey,l⟩|⟨kvs,k,b,e,ey,eb,l⟩
 .subst ey
  obtain⟨z,hd,vs,rel,dd⟩:=k0' I.hok e
  refine wpAny_in_of (kZ' ry) hd dd.mapOf ?_
  rw[<- (rel.val k).isSome_eq,<- l]
  exact h _ (I.tok _)
 .subst ey
  cases(show u=Value.ref b from ry)
  obtain⟨z,hd,xs,rel,dd⟩:=jR' I.hok e
  refine wpAny_in_heap (tupleKind_room_in1 hu) (dG' I.hok eb) hd dd ?_
  have q:=(rel.val k).isSome_eq
  rw[Option.isSome_map]at q
  rw[<- q,<- l]
  exact h _ (I.tok _)
theorem rn' {Q:Value->Shared->Prop} (hu:A.units+1<cLine) (I:Inv X pins σ H s) (g:gk' H a y o) (ry:aF' y u) (h:∀s',Inv X pins σ H s'->Q (.bool (!o.isSome)) s'):
  wpAny (model X.prog X.w) A (compareOp .NotIn u (.ref a)) Q E s:=by
 rcases g with⟨kvs,k,e,ey,l⟩|⟨kvs,k,b,e,ey,eb,l⟩
 .subst ey
  obtain⟨z,hd,vs,rel,dd⟩:=k0' I.hok e
  refine wpAny_notIn_of (kZ' ry) hd dd.mapOf ?_
  rw[<- (rel.val k).isSome_eq,<- l]
  exact h _ (I.tok _)
 .subst ey
  cases(show u=Value.ref b from ry)
  obtain⟨z,hd,xs,rel,dd⟩:=jR' I.hok e
  refine wpAny_notIn_heap (tupleKind_room_in1 hu) (dG' I.hok eb) hd dd ?_
  have q:=(rel.val k).isSome_eq
  rw[Option.isSome_map]at q
  rw[<- q,<- l]
  exact h _ (I.tok _)
end
section
variable {X:Cx} {pins:List (Addr×Obj)} {σ:St} {H:Hp} {s:Shared} {a:Addr} {kvs:List (Key×V)} {k:Key} {u:Value} {A:Around} {E:Value->Shared->Prop}
end
section
variable {X:Cx} {o i e value:Expr} {pos pos' tpos:Pos} {td ty tv:TE}
end
section
variable {X:Cx} {pos:Pos}
end
def t8' (kvs more:List (Key×V)):List (Key×V):=more.foldl (fun acc kv=>hH' acc kv.1 kv.2) kvs
theorem KV.merge:∀{more:List (Key×V)} {rs:List (Key×Value)} {kvs:List (Key×V)} {vs:List (Key×Value)},KV more rs->KV kvs vs->KV (t8' kvs more) (merged vs rs):=by
 intro more rs kvs vs r
 unfold KV at r
 induction r generalizing kvs vs with
 |nil=>intro q;exact q
 | @cons p q ps qs h t ih=>
  intro r0
  have e:KV (hH' kvs p.1 p.2) (stored vs q.1 q.2):=by
   have:=r0.put p.1 h.2
   rw[<- h.1];exact this
  exact ih e
structure M1 (X:Cx) (o:Expr) (m:Str) (apos:Pos) (e:Expr) (cpos:Pos):Prop where
 base:attributeBase o m X.env (eval o X.env)=eval o X.env
 few:((backTo cpos (starEach [e] X.env)).all (fun x=>!x.1)&&(backToKw cpos (keywordEach [] X.env)).all (fun x=>x.1.isSome)
  && decide (([e]:List Expr).length+([]:List Keyword).length+(if([]:List Keyword).isEmpty then 0 else 1)<30))=true
 line:(apos.endLine == cpos.line)=true
 trees:backTo cpos (starEach [e] X.env)=[(false,eval e X.env)]
structure M2 (X:Cx) (o:Expr) (m:Str) (apos:Pos) (e f:Expr) (cpos:Pos):Prop where
 base:attributeBase o m X.env (eval o X.env)=eval o X.env
 few:((backTo cpos (starEach [e,f] X.env)).all (fun x=>!x.1)&&(backToKw cpos (keywordEach [] X.env)).all (fun x=>x.1.isSome)
  && decide (([e,f]:List Expr).length+([]:List Keyword).length+(if([]:List Keyword).isEmpty then 0 else 1)<30))=true
 line:(apos.endLine == cpos.line)=true
 trees:backTo cpos (starEach [e,f] X.env)=[(false,eval e X.env),(false,eval f X.env)]
def IsD (H:Hp) (a:Addr):Prop:=(∃kvs,Rd H a (.dK kvs))\/∃kvs,Rd H a (.dT kvs)
theorem t9' {X:Cx} {pins:List (Addr×Obj)} {σ:St} {H:Hp} {s:Shared} {a:Addr} (I:Inv X pins σ H s) (d:IsD H a):
  s.TypeIs (.ref a) "dict"/\(∀b,Value.ref a=.ref b->∃ob,s.heap.get? b=some ob/\ob.dict=none)/\(a == sysModules)=false:=by
 rcases d with⟨kvs,e⟩|⟨kvs,e⟩
 .obtain⟨_,hd,vs,_,dd⟩:=k0' I.hok e
  refine⟨dd.typeIs,fun b q=>?_,hd⟩
  cases q
  obtain⟨ob,_,_,h1,h2,_⟩:=dd
  exact⟨ob,h1,h2.2.1⟩
 .obtain⟨_,hd,xs,_,dd⟩:=jR' I.hok e
  refine⟨dd.typeIs,fun b q=>?_,hd⟩
  cases q
  obtain⟨ob,_,_,h1,h2,_⟩:=dd
  exact⟨ob,h1,h2.2.1⟩
section
variable {X:Cx} {pins:List (Addr×Obj)} {σ:St} {H:Hp} {s:Shared} {a:Addr} {y d:V} {u r:Value} {o:Option V} {A:Around} {E:Value->Shared->Prop}
theorem ua' {Q:Value->Shared->Prop} (hu:A.units+1<cLine) (I:Inv X pins σ H s) (g:gk' H a y o) (ry:aF' y u) (h:∀w' s',Inv X pins σ H s'->aF' (o.getD .non) w'->Q w' s'):
  wpAny (model X.prog X.w) A (call (.builtin "dict.get") [.ref a,u]) Q E s:=by
 rcases g with⟨kvs,k,e,ey,l⟩|⟨kvs,k,b,e,ey,eb,l⟩
 .subst ey
  obtain⟨z,hd,vs,rel,dd⟩:=k0' I.hok e
  refine call_meetsIn PySem.F.slot_dict_get dd.typeIs PySem.F.entry_dict_get (PySem.F.args_dict_get_2 _ _) (meets_dict_get (ap' X.prog X.w) a (kZ' ry) hd) ⟨_,dd.mapOf,h _ _ (I.tok _) ?_⟩
  rw[l]
  exact(rel.val k).getD rfl
 .subst ey
  cases(show u=Value.ref b from ry)
  obtain⟨z,hd,xs,rel,dd⟩:=jR' I.hok e
  refine call_meetsIn PySem.F.slot_dict_get dd.typeIs PySem.F.entry_dict_get (PySem.F.args_dict_get_2 _ _) (meetsH_dict_get (tupleKind (ap' X.prog X.w)) a b hd) ⟨tupleKind_room_in1 hu,k,xs,dG' I.hok eb,dd,h _ _ (I.tok _) ?_⟩
  rw[l]
  exact(rel.val k).getD rfl
end
section
variable {X:Cx} {o e f:Expr} {apos cpos:Pos} {td ty tx:TE}
end
section
variable {X:Cx} {pins:List (Addr×Obj)} {σ:St} {H:Hp} {s:Shared} {a:Addr} {kvs:List (Key×V)} {A:Around} {E:Value->Shared->Prop}
end
section
variable {X:Cx} {pins:List (Addr×Obj)} {σ:St} {H:Hp} {s:Shared} {a:Addr} {y:V} {u:Value} {A:Around} {E:Value->Shared->Prop}
end
section
variable {X:Cx}
end
section
variable {κ:Type} [DecidableEq κ]
end
def Itc (lo c:Int) (n:Nat):It:=⟨fun i _=>i<n,fun i H x H'=>H'=H/\x=.int (lo+i*c),fun i _=>n<=i⟩
theorem em' {P:Program} {w:World} {K:W.Frag} {tg:Expr} (it:Addr) (lo c:Int) (n:Nat):Turn P w K tg (Itc lo c n) [it] it (fun i h=>IsRangeIter h it (lo+(i:Nat)*c) ((n:Int)-(i:Nat)) c) where
 mem:=by simp
 obj:=fun i h st b hb=>by
  have e:b=it:=by simpa using hb
  subst e
  exact⟨_,st,fun v z=>by
   have z':Data.fields _=Data.cell v:=z
   cases z'⟩
 keep:=fun i h h' st k=>k it (by simp) _ st
 item:=by
  intro X hP hw hK hc i pins s σ H E I hf st hg
  subst hP hw hK
  obtain⟨f0,f1,f2,f3,f4,f5⟩:=hf it (by simp)
  have W:=Walks.range (prog:=X.prog) (w:=X.w) (I.ok.hd hc) it lo c n
  refine W.item i s _ _ hg st fun v h' tk hv st' kk=>?_
  obtain⟨t,rfl⟩:=hv
  have I1:Inv X pins σ H { s with heap:=h',toks:=tk }:=I.turned (fun b o hb e=>kk b o (by simpa using hb) e) f0 f1 f3 f4 f5
  exact⟨_,rfl,jD' (s:={ s with heap:=h',toks:=tk }) (n:="range_iterator") st' rfl rfl (by decide) ⟨.int (lo+i*c),H,I1,⟨t,rfl⟩,⟨rfl,rfl⟩,st',fun b hb=>(hf b hb).1⟩⟩
 done:=by
  intro X hP hw hK hc i pins s σ H E I hf st hg
  subst hP hw hK
  obtain⟨f0,f1,f2,f3,f4,f5⟩:=hf it (by simp)
  exact wpAny_pyNext_range_end (I.ok.hd hc) st (by have:n<=i:=hg;omega) fun h' eb=>⟨rfl,I.turned (t':=s.toks) (fun b o hb e=>eb b o hb e) f0 f1 f3 f4 f5⟩
 self:=fun _ _ _ _ _ st h=>wpAny_pyIter_rangeiter st h
section
variable {prog:Program} {w:World} {A:Around} {E:Value->Shared->Prop} {s:Shared}
theorem cO' {r:Addr} {a b:Int} {t u v:Tok} {Q:Value->Shared->Prop} (hr:IsRange s.heap r a b 1 t u v) (h1:-(2 ^ 62)<=a) (h2:a<2 ^ 62) (h3:-(2 ^ 62)<=b) (h4:b<2 ^ 62)
  (h:Q (.ref s.heap.objs.size) { s with heap:=s.heap.push { cls:=.type "range_iterator",data:=.fields #[rawInt (a+(Builtin.Range.rangeSize a b 1-1)*1),rawInt (Builtin.Range.rangeSize a b 1),rawInt (-1)] } }):wpAny (model prog w) A (call (.builtin "range.__reversed__") [.ref r]) Q E s:=by
 have hT:s.TypeIs (.ref r) "range":=⟨_,hr,rfl⟩
 refine aV F.slot_range_reversed hT F.entry_range_reversed ?_ (F.args_range_reversed_1 _)
 unfold Builtin.«range.__reversed__»
 refine aa (bN (a:=Value.ref r) rfl ?_)
 unfold Builtin.Range.rangeFields
 refine aa (aa (aM hr rfl (x:=.int a t) rfl ?_))
 refine aa (bN (a:=some a) rfl ?_)
 refine aa (aM hr rfl (x:=.int b u) rfl ?_)
 refine aa (bN (a:=some b) rfl ?_)
 refine aa (aM hr rfl (x:=.int 1 v) rfl ?_)
 refine aa (bN (a:=some 1) rfl ?_)
 refine ae ?_
 dsimp only
 have hsz:Builtin.Range.rangeSize a b 1=if a<b then b-a else 0:=by rw[rangeSize_one]
 have hfit:(Builtin.Range.rangeFitsLong a&&Builtin.Range.rangeFitsLong b&&Builtin.Range.rangeFitsLong 1&&Builtin.Range.rangeFitsLong (-1)&&Builtin.Range.rangeFitsLong (a-1)&&Builtin.Range.rangeFitsLong (Builtin.Range.rangeSize a b 1))=true:=by
  rw[hsz]
  unfold Builtin.Range.rangeFitsLong
  split<;>simp<;>omega
 rw[hfit]
 simp only[Bool.not_true,bb,if_false,if_true]
 refine aa ?_
 unfold newFields
 exact bc (ae ⟨_,rfl,h⟩)
theorem cP' {r:Addr} {a b:Int} {t u v:Tok} {Q₁:Value->Shared->Prop} (hr:IsRange s.heap r a b 1 t u v) (h1:-(2 ^ 62)<=a) (h2:a<2 ^ 62) (h3:-(2 ^ 62)<=b) (h4:b<2 ^ 62)
  (h:Q₁ (.ref s.heap.objs.size) { s with heap:=s.heap.push { cls:=.type "range_iterator",data:=.fields #[rawInt (a+(Builtin.Range.rangeSize a b 1-1)*1),rawInt (Builtin.Range.rangeSize a b 1),rawInt (-1)] } }):
  codeAny (model prog w) A (.call (.builtin "reversed.__new__") ⟨[.type "reversed",.ref r],[]⟩) (wants Q₁ E) s:=by
 have hT:s.TypeIs (.ref r) "range":=⟨_,hr,rfl⟩
 refine codeAny_of_tree ?_
 show wpAny _ A.in1 (do checkBuiltinCall "reversed.__new__" ⟨[.type "reversed",.ref r],[]⟩;again (.builtin "reversed.__new__" ⟨[.type "reversed",.ref r],[]⟩)) _ _ s
 refine aa (bN (F.newCall_reversed_1 _) (ae ⟨plainId_quiet F.plain_reversed_new _,codeAny_builtin F.entry_reversed_new ?_⟩))
 rw[Around.under_plainId F.plain_reversed_new _]
 unfold Builtin.«reversed.__new__»
 refine aa (bN (newClass_reversed _) ?_)
 try dsimp only
 refine aa (bN (a:=()) (by first|rfl|kernel_rfl) ?_)
 refine aa (bN (a:=()) (by first|rfl|kernel_rfl) ?_)
 try dsimp only
 refine aa (wpAny_specialOf hT F.slot_range_reversed.lookup ?_)
 try dsimp only
 refine aa (bN (F.slot_range_reversed.bind _) ?_)
 try dsimp only
 first
 |rw[if_neg (show ¬((Value.builtin "range.__reversed__" == Value.none)=true) from ap)]
 |(show wpAny _ _ (if(Value.builtin "range.__reversed__" == Value.none)=true then _ else _) _ _ _;rw[if_neg (show ¬((Value.builtin "range.__reversed__" == Value.none)=true) from ap)])
 refine aa (wpAny_rule ?_)
 refine aa (m:=runValue (.call (.builtin "range.__reversed__") ⟨[.ref r],[]⟩)) (show wpAny _ _ (call (.builtin "range.__reversed__") [.ref r]) _ _ _ from cO' hr h1 h2 h3 h4 ?_)
 first
 |exact ae h
 |exact aa (ae (ae h))
theorem dN':isSubtype (.type "range_iterator") (.type "reversed")=pure false:=by rw[isSubtype_type];kernel_rfl
theorem cQ' {r:Addr} {a b:Int} {t u v:Tok} {Q:Value->Shared->Prop} (hr:IsRange s.heap r a b 1 t u v) (h1:-(2 ^ 62)<=a) (h2:a<2 ^ 62) (h3:-(2 ^ 62)<=b) (h4:b<2 ^ 62)
  (h:Q (.ref s.heap.objs.size) { s with heap:=s.heap.push { cls:=.type "range_iterator",data:=.fields #[rawInt (a+(Builtin.Range.rangeSize a b 1-1)*1),rawInt (Builtin.Range.rangeSize a b 1),rawInt (-1)] } }):
  wpAny (model prog w) A (call (.type "reversed") [.ref r]) Q E s:=by
 refine callType_other (U:="range_iterator") (Q₁:=fun obj s₁=>obj=.ref s.heap.objs.size/\s₁={ s with heap:=s.heap.push { cls:=.type "range_iterator",data:=.fields #[rawInt (a+(Builtin.Range.rangeSize a b 1-1)*1),rawInt (Builtin.Range.rangeSize a b 1),rawInt (-1)] } }) (by decide +kernel) F.create_reversed ⟨_,_,F.mro_reversed⟩ F.made_reversed dN' (F.typeCall_reversed_1 _) (cP' hr h1 h2 h3 h4 ⟨rfl,rfl⟩) ?_
 rintro obj s₁ ⟨rfl,rfl⟩
 exact⟨⟨_,ax _ rfl,rfl⟩,h⟩
end
def y9' (K:W.Frag) (a:Addr) (n:Nat):It:=
 ⟨fun i H=>i<n/\∃xs,SqL K H a xs/\xs.length=n,fun i H x H'=>H'=H/\∀xs,SqL K H a xs->xs[n-1-i]?=some x,fun i H=>n=i⟩
theorem gl' {P:Program} {w:World} {K:W.Frag} {tg:Expr} (a it:Addr) (n:Nat):Turn P w K tg (y9' K a n) [it] it (fun i h=>i<=n/\h.IsRevIter it a ((n:Int)-1-(i:Int))) where
 mem:=by simp
 obj:=fun i h st b hb=>by
  have e:b=it:=by simpa using hb
  subst e
  obtain⟨o,e,c,d⟩:=st.2
  exact⟨o,e,fun v z=>by rw[d]at z;cases z⟩
 keep:=fun i h h' st k=>⟨st.1,st.2.at fun o e=>k it (by simp) o e⟩
 item:=by
  intro X hP hw hK hc i pins s σ H E I hf st hg
  subst hP hw hK
  obtain⟨hi,xs,hq,hx⟩:=hg
  obtain⟨its,rv,p,hz⟩:=I.list hq
  have hg1:xs[n-1-i]?=some (xs[n-1-i]'(by omega)):=ac _
  obtain⟨u,hu,ru⟩:=rv.get hg1
  obtain⟨f0,f1,f2,f3,f4,f5⟩:=hf it (by simp)
  have e:(n:Int)-1-(i:Int)=((n-1-i:Nat):Int):=by omega
  have st2:=st.2
  rw[e]at st2
  refine wpAny_pyNext_rev_item st2 p.isList (x:=u) (by simpa using hu) fun h' st' sb=>?_
  have I1:Inv X pins σ H { s with heap:=h' }:=I.turned (t':=s.toks) (fun b o hb e=>(sb.2 b hb).trans e) f0 f1 f3 f4 f5
  obtain⟨o,e1,c,d⟩:=id st'
  have e2:((n-1-i:Nat):Int)-1=(n:Int)-1-((i+1:Nat):Int):=by omega
  rw[e2]at st'
  exact⟨u,rfl,jD' (s:={ s with heap:=h' }) e1 c d (by decide) ⟨_,H,I1,ru,⟨rfl,fun ys hy=>by rw[I.list_inj hy hq];exact hg1⟩,⟨hi,st'⟩,fun b hb=>(hf b hb).1⟩⟩
 done:=by
  intro X hP hw hK hc i pins s σ H E I hf st hg
  subst hP hw hK
  have hg':n=i:=hg
  subst hg'
  obtain⟨f0,f1,f2,f3,f4,f5⟩:=hf it (by simp)
  have e:(n:Int)-1-(n:Int)=-1:=by omega
  have st2:=st.2
  rw[e]at st2
  exact wpAny_pyNext_rev_end (I.ok.hd hc) st2 fun h' eb=>⟨rfl,I.turned (t':=s.toks) (fun b o hb e=>eb b o hb e) f0 f1 f3 f4 f5⟩
 self:=fun _ _ _ _ _ st h=>wpAny_pyIter_revIter st.2 h
section
variable {X:Cx} {tg:Expr}
def wU' (K:W.Frag) (x:V) (H1:Hp) (R:It->Hp->Prop):Prop:=
 (∃p i j,x=.ref p/\H1 p=some (.rng i j)/\(-(2 ^ 62)<=i/\i<2 ^ 62/\-(2 ^ 62)<=j/\j<2 ^ 62)/\R (Itc (i+((j-i).toNat:Int)-1) (-1) (j-i).toNat) H1)\/∃a xs,x=.ref a/\SqL K H1 a xs/\R (y9' K a xs.length) H1
def xH' (K:W.Frag) (tl:TE):TI:=fun σ H R=>bP' tl hj' σ H fun vs H1=>∃x,vs=[x]/\wU' K x H1 R
theorem fz':bootBuiltins "reversed"=some (.type "reversed"):=by decide +kernel
theorem ub' {a:Expr} {tl:TE} {p pos:Pos} (hg:Gl X "reversed") (hm:X.mg "reversed"=none) (ha:PA X [a] (bP' tl hj')) (hs:starEach [a] X.env=[(false,eval a X.env)]):
  PI X tg (.Call (.Name "reversed" p) [a] [] pos) (xH' X.K tl):=by
 intro pins s σ H R I h
 have h':bP' tl hj' σ H (fun vs H1=>∃x,vs=[x]/\wU' X.K x H1 R):=h
 refine Call_ (dD' I hg hm fz' (PyProof.Rows.callWith_type1 (thn (ha pos pins s σ H _ I h') fun us s1 ⟨vs,H1,I1,r1,q1⟩=>?_) (by rw[hs];rfl) (by rfl)))
 obtain⟨x,e,q1⟩:=q1
 subst e
 cases r1 with
 |cons r rr=>
  cases rr
  rcases q1 with⟨p,i,j,rfl,hp,⟨h1,h2,h3,h4⟩,q⟩|⟨a,xs,rfl,hxs,q⟩
  .cases r
   obtain⟨t,u,v,hr⟩:=(show av' X.prog X.w H1 s1.heap p (.rng i j) from I1.hok p _ hp)
   refine cQ' hr h1 h2 h3 h4 ?_
   have e1:i+(Builtin.Range.rangeSize i j 1-1)*1=(i+((j-i).toNat:Int)-1)+((0:Nat):Int)*(-1):=by
    rw[rangeSize_one];split<;>omega
   have e2:Builtin.Range.rangeSize i j 1=(((j-i).toNat:Nat):Int)-((0:Nat):Int):=by rw[rangeSize_one];split<;>omega
   have it0:IsRangeIter (s1.heap.push { cls:=.type "range_iterator",data:=.fields #[rawInt (i+(Builtin.Range.rangeSize i j 1-1)*1),rawInt (Builtin.Range.rangeSize i j 1),rawInt (-1)] }) s1.heap.objs.size ((i+((j-i).toNat:Int)-1)+((0:Nat):Int)*(-1)) ((((j-i).toNat:Nat):Int)-((0:Nat):Int)) (-1):=by
    rw[<- e1,<- e2]
    exact ax _ rfl
   refine wpAny_pyIter_rangeiter it0 ?_
   refine⟨s1.heap.objs.size,[s1.heap.objs.size],_,_,H1,rfl,I1.kept (t':=s1.toks) (fun b o e=>ag _ e),em' _ _ _ _,it0,fun b hb=>?_,q⟩
   have e:b=s1.heap.objs.size:=by simpa using hb
   subst e
   exact I1.fpOk (al _) (I1.hok.fresh (al _))
  .cases r
   obtain⟨its,rv,pl,hz⟩:=I1.list hxs
   refine call_reversed_list pl.isList ?_
   have hl:=rv.length
   have it0:(s1.heap.push (revObj a ((its.toArray.size:Int)-1))).IsRevIter s1.heap.objs.size a ((xs.length:Int)-1-((0:Nat):Int)):=by
    have e:(its.toArray.size:Int)-1=(xs.length:Int)-1-((0:Nat):Int):=by simp;omega
    rw[<- e]
    exact⟨_,ax _ rfl,rfl,rfl⟩
   refine wpAny_pyIter_revIter it0 ?_
   refine⟨s1.heap.objs.size,[s1.heap.objs.size],_,_,H1,rfl,I1.kept (t':=s1.toks) (fun b o e=>ag _ e),gl' a _ xs.length,⟨aT _,it0⟩,fun b hb=>?_,q⟩
   have e:b=s1.heap.objs.size:=by simpa using hb
   subst e
   exact I1.fpOk (al _) (I1.hok.fresh (al _))
def dO' (i j c:Int):Nat:=if i<j then((j-i-1) / c+1).toNat else 0
def en' (i j c:Int):Nat:=if c=-1 then(i-j).toNat else dO' i j c
theorem gm' {i j c:Int} (h:0<c):en' i j c=dO' i j c:=if_neg (by omega)
def ro' (ta:TA):TI:=fun σ H R=>ta σ H fun vs H1=>∃i j c:Int,vs=[.int i,.int j,.int c]/\(-(2 ^ 60)<=i/\i<2 ^ 60/\-(2 ^ 60)<=j/\j<2 ^ 60/\(0<c/\c<2 ^ 29\/c=-1))/\R (Itc i c (en' i j c)) H1
theorem c9' {i j c:Int} (hc:0<c):Builtin.Range.rangeSize i j c=(dO' i j c:Int):=by
 unfold Builtin.Range.rangeSize dO'
 rw[if_pos (show c > 0 from hc)]
 split
 .have:=Int.ediv_nonneg (a:=j-i-1) (b:=c) (by omega) (by omega)
  omega
 .rfl
theorem nG' {i j c:Int} (hc:0<c) (h:i<=j):(dO' i j c:Int)<=j-i:=by
 unfold dO'
 split
 .have h0:=Int.ediv_nonneg (a:=j-i-1) (b:=c) (by omega) (by omega)
  have h1:=Int.ediv_le_self (a:=j-i-1) c (by omega)
  omega
 .omega
theorem jS' {i j c:Int} (h1:-(2 ^ 60)<=i) (h2:i<2 ^ 60) (h3:-(2 ^ 60)<=j) (h4:j<2 ^ 60) (h5:0<c) (h6:c<2 ^ 29):Builtin.Range.small i j c=true:=by
 unfold Builtin.Range.small
 rw[c9' h5,if_pos (show c > 0 from h5)]
 have hn:(dO' i j c:Int)<=2 ^ 62:=by
  rcases Int.lt_or_le i j with h|h
  .have:=nG' (i:=i) (j:=j) h5 (by omega);omega
  .have:dO' i j c=0:=by unfold dO';rw[if_neg (by omega)]
   rw[this];decide
 unfold Builtin.Range.rangeFitsLong
 simp
 omega
theorem da' {i j c:Int} (hc:0<c/\c<2 ^ 29\/c=-1):Builtin.Range.rangeSize i j c=(en' i j c:Int):=by
 rcases hc with hc|rfl
 .rw[gm' hc.1];exact c9' hc.1
 .unfold Builtin.Range.rangeSize en'
  rw[if_neg (show ¬(-1:Int) > 0 by decide),if_pos rfl]
  split
  .have:(i-j-1) / (-(-1:Int))=i-j-1:=by simp
   omega
  .omega
theorem k1' {i j c:Int} (h1:-(2 ^ 60)<=i) (h2:i<2 ^ 60) (h3:-(2 ^ 60)<=j) (h4:j<2 ^ 60) (hc:0<c/\c<2 ^ 29\/c=-1):Builtin.Range.small i j c=true:=by
 rcases hc with hc|rfl
 .exact jS' h1 h2 h3 h4 hc.1 hc.2
 .unfold Builtin.Range.small
  rw[da' (.inr rfl),if_neg (show ¬(-1:Int) > 0 by decide)]
  have hn:(en' i j (-1):Int)<=2 ^ 62:=by unfold en';rw[if_pos rfl];omega
  unfold Builtin.Range.rangeFitsLong
  simp
  omega
theorem k2' {a b c:Expr} {ta:TA} {p pos:Pos} (hg:Gl X "range") (hm:X.mg "range"=none) (ha:PA X [a,b,c] ta) (hs:starEach [a,b,c] X.env=[(false,eval a X.env),(false,eval b X.env),(false,eval c X.env)]) (hs2:starEach [b,c] X.env=[(false,eval b X.env),(false,eval c X.env)]):
  PI X tg (.Call (.Name "range" p) [a,b,c] [] pos) (ro' ta):=by
 intro pins s σ H R I h
 refine Call_ (dD' I hg hm boot_range (PyProof.Rows.callWith_type1 (thn (ha pos pins s σ H _ I h) fun us s1 ⟨vs,H1,I1,r1,q1⟩=>?_) (by rw[hs,hs2]) (by rw[hs2];rfl)))
 obtain⟨i,j,k,e,⟨q1,q2,q3,q4,q5⟩,q⟩:=q1
 subst e
 cases r1 with
 |cons r rr=>
  cases rr with
  |cons r' rr=>
   cases rr with
   |cons r'' rr=>
    cases rr
    obtain⟨t,rfl⟩:=r
    obtain⟨t',rfl⟩:=r'
    obtain⟨t'',rfl⟩:=r''
    refine call_range_3 (by omega) ?_ (Or.inl (PyProof.noPylong_small (by omega)))
    refine wpAny_pyIter_range (IsRange.new ..) (k1' q1 q2 q3 q4 q5) ?_
    have I2:Inv X pins σ H1 { s1 with heap:=s1.heap.push { cls:=.type "range",data:=.fields #[.int i t,.int j t',.int k t''] } }:=I1.kept (t':=s1.toks) fun b o e=>ag _ e
    refine⟨(s1.heap.push { cls:=.type "range",data:=.fields #[.int i t,.int j t',.int k t''] }).objs.size,[(s1.heap.push { cls:=.type "range",data:=.fields #[.int i t,.int j t',.int k t''] }).objs.size],_,_,H1,rfl,I2.kept (t':=s1.toks) (fun b o e=>ag _ e),em' _ i k (en' i j k),?_,fun b hb=>?_,q⟩
    .have e1:i+((0:Nat):Int)*k=i:=by simp
     have e2:((en' i j k:Nat):Int)-((0:Nat):Int)=Builtin.Range.rangeSize i j k:=by rw[da' q5];omega
     show IsRangeIter _ _ (i+((0:Nat):Int)*k) (((en' i j k:Nat):Int)-((0:Nat):Int)) k
     rw[e1,e2]
     exact ax _ rfl
    .have e:b=(s1.heap.push { cls:=.type "range",data:=.fields #[.int i t,.int j t',.int k t''] }).objs.size:=by simpa using hb
     subst e
     exact I2.fpOk (al _) (I2.hok.fresh (al _))
end
section
variable {X:Cx}
theorem rp' {i:Int} (h:0<=i):Builtin.bitAnd i 1=i % 2:=by
 rw[PyProof.Rows.bitAnd_pp h (by decide)]
 have e:(1:Int).toNat=1:=rfl
 rw[e,Nat.and_one_is_mod]
 omega
theorem rq':OpR X (binaryOp .BitAnd) (rI (fun i j=>0<=i/\j=1) fun i _=>.int (i % 2)):=by
 intro pins s σ H x y v u Q I rx ry h
 obtain⟨i,j,rfl,rfl,⟨h0,rfl⟩,q⟩:=h
 refine tG' pins s σ H _ _ v u Q I rx ry ⟨i,1,rfl,rfl,?_⟩
 have q':Q (.int (i % 2)) H:=q
 rw[<- rp' h0]at q'
 exact q'
def inT (x y:Str):Bool:=!(Builtin.Str.occurrences x y 0 x.length 1).isEmpty
def wV' (neg:Bool):R2:=fun x y H Q=>∃a b,x=.str a/\y=.str b/\Q (.bl (if neg then !inT b a else inT b a)) H
theorem uc':OpR X (compareOp .In) (wV' false):=by
 intro pins s σ H x y v u Q I rx ry h
 obtain⟨a,b,rfl,rfl,q⟩:=h
 obtain⟨t,rfl⟩:=rx
 obtain⟨t',rfl⟩:=ry
 exact in_str ⟨.bl _,H,I,rfl,q⟩
theorem k3':OpR X (compareOp .NotIn) (wV' true):=by
 intro pins s σ H x y v u Q I rx ry h
 obtain⟨a,b,rfl,rfl,q⟩:=h
 obtain⟨t,rfl⟩:=rx
 obtain⟨t',rfl⟩:=ry
 have q':Q (.bl (!inT b a)) H:=q
 refine notIn_str ⟨.bl (!inT b a),H,I,?_,q'⟩
 show Value.bool _=Value.bool _
 simp[inT]
def k4' (K:W.Frag):V->List V->Hp->VK->Prop:=fun x vs H Q=>∃p xs y,∃j:Nat,x=.ref p/\vs=[y]/\SqL K H p xs/\(∀z∈xs,qV' z y=true/\∀b,z≠.byt b)/\xs[j]?=some y/\(∀k,k<j->xs[k]?≠some y)/\Q (.int j) H
open PySem.SeqAt in
theorem k5':MtR X "list.index" (k4' X.K):=by
 intro pins s σ H x vs v us Q I rx rv h
 obtain⟨p,xs,y,j,rfl,rfl,hs,hsc,hj,hno,q⟩:=h
 cases rx
 obtain⟨u,rfl,ru⟩:=rv.one
 obtain⟨its,r,pl,hz⟩:=I.list hs
 obtain⟨⟨cls,dd,data,sl⟩,ho,hcl,n,hd⟩:=id pl.isList
 simp only at hcl hd
 subst hcl hd
 have hl:=r.length
 have hlt:j<xs.length:=(aC.mp hj).1
 have hlt2:j<its.toArray.size:=by simp;omega
 have at_:∀(m:Nat) (hm:m<its.toArray.size),∃z,xs[m]?=some z/\aF' z its.toArray[m]/\z∈xs:=by
  intro m hm
  have hm2:m<xs.length:=by simp at hm;omega
  obtain⟨w,e,rz⟩:=r.get (ac hm2)
  refine⟨_,ac hm2,?_,cj hm2⟩
  have hm3:m<its.length:=by simpa using hm
  rw[ac hm3]at e
  cases e
  simpa using rz
 refine call_meets F.slot_list_index ⟨_,ho,rfl⟩ F.entry_list_index (F.args_list_index_2 _ _) (list_indexAt p its.toArray n dd sl u (eV y) j hlt2 ?_ ?_ ?_) ⟨ho,fun w hw=>?_,?_⟩
 .have:(j:Int)<2 ^ 24+1:=by
   have:j<2 ^ 24+1:=ak hlt (aF hz (show 2 ^ 24<=2 ^ 24+1 by decide))
   omega
  omega
 .obtain⟨z,e1,rz,hm⟩:=at_ j hlt2
  rw[hj]at e1
  cases e1
  rw[rl' rz (hsc _ hm).1 (hsc _ hm).2]
  exact decide_eq_true rfl
 .intro m hm hmj
  obtain⟨z,e1,rz,hmm⟩:=at_ m hm
  rw[rl' rz (hsc _ hmm).1 (hsc _ hmm).2]
  exact decide_eq_false fun e=>hno m hmj (by rw[e1,e])
 .obtain⟨z,hz,rz⟩:=nE' r (by simpa using hw)
  rw[rl' rz (hsc z hz).1 (hsc z hz).2]
  exact ek' rz ru (.inl (hsc z hz))
 .exact⟨.int _,H,I.tok _,⟨_,rfl⟩,q⟩
def k6':V->List V->Hp->VK->Prop:=fun x vs H Q=>∃i,x=.int i/\vs=[]/\Q (.int (Builtin.Int.intBits i)) H
theorem k7':MtR X "int.bit_length" k6':=by
 intro pins s σ H x vs v us Q I rx rv h
 obtain⟨i,rfl,rfl,q⟩:=h
 obtain⟨t,rfl⟩:=rx
 rw[rv.zero]
 exact call_int_bit_length ⟨.int _,H,I.tok _,⟨_,rfl⟩,q⟩
end
def Kd {α:Type}:Sem α->Prop
 | .pure _ | .raise _ | .unsupported _ | .finish _=>True
 | .rule _ k | .at _ k | .point _ k=>Kd (k ())
 | .load _ _ k=>∀x,Kd (k x)
 | .loadIfAlive _ k=>∀x,Kd (k x)
 | .alloc _ k=>∀x,Kd (k x)
 | .fresh k=>∀x,Kd (k x)
 | .stack k=>∀x,Kd (k x)
 | .update _ _ f k=>(∀o,(f o).dict=o.dict)/\Kd (k ())
 |_=>False
def SD (h h':Heap):Prop:=∀(b:Addr) (o:Obj),h.objs[b]?=some o->∃o':Obj,h'.objs[b]?=some o'/\o'.dict=o.dict
theorem SD.rfl' (h:Heap):SD h h:=fun _ o e=>⟨o,e,rfl⟩
theorem SD.trans {a b c:Heap} (x:SD a b) (y:SD b c):SD a c:=fun i o e=>by
 obtain⟨o1,e1,d1⟩:=x i o e
 obtain⟨o2,e2,d2⟩:=y i o1 e1
 exact⟨o2,e2,d2.trans d1⟩
theorem SD.at {h h':Heap} (x:SD h h') {b:Addr} {o o':Obj} (e:h.get? b=some o) (e':h'.get? b=some o'):o'.dict=o.dict:=by
 obtain⟨o2,e2,d⟩:=x b o (Heap.get?_some_iff.mp e).1
 rw[(Heap.get?_some_iff.mp e').1]at e2
 cases e2
 exact d
theorem xI' {α:Type} {M:Model} {Γ:PySem.Ctx} {t:Sem α} {Q:α->Pos->Shared->Prop} {E:Value->Pos->Shared->Prop} {p:Pos} {s:Shared} (k:Kd t) (h:Sem.wp M Γ t Q E p s):
  Sem.wp M Γ t (fun a p' s'=>Q a p' s'/\SD s.heap s'.heap) (fun e p' s'=>E e p' s'/\SD s.heap s'.heap) p s:=by
 induction t generalizing p s with
 |pure a=>exact⟨h,SD.rfl' _⟩
 |raise e=>exact⟨h,SD.rfl' _⟩
 |unsupported|finish=>exact h
 |rule _ c ih=>exact ih _ k h
 | «at» _ c ih=>exact ih _ k h
 |point _ c ih=>exact ih _ k h
 |load a _ c ih=>
  obtain⟨o,ho,h⟩:=h
  exact⟨o,ho,ih _ (k o) h⟩
 |loadIfAlive a c ih=>exact ih _ (k _) h
 |fresh c ih=>exact ih _ (k _) h
 |stack c ih=>exact ih _ (k _) h
 |alloc o c ih=>
  have r:=ih _ (k _) h
  have d:SD s.heap (s.heap.push o):=fun b o' e=>⟨o',by
   have hb:b<s.heap.objs.size:=by
    rcases Nat.lt_or_ge b s.heap.objs.size with z|z
    .exact z
    .rw[Array.getElem?_eq_none z]at e;cases e
   show(s.heap.objs.push o)[b]?=_
   rw[Array.getElem?_push_lt hb,<- bO hb];exact e,rfl⟩
  exact Sem.wp_mono _ _ _ (fun a p' s' q=>⟨q.1,d.trans q.2⟩) (fun a p' s' q=>⟨q.1,d.trans q.2⟩) _ _ r
 |update a _ f c ih=>
  obtain⟨h1,h⟩:=h
  have r:=ih _ k.2 h
  have d:SD s.heap (s.heap.update a f):=fun b o e=>by
   show ∃o',(s.heap.objs.modify a f)[b]?=some o'/\_
   rw[Array.getElem?_modify,e]
   by_cases z:a=b
   .rw[if_pos z];exact⟨f o,rfl,k.1 o⟩
   .rw[if_neg z];exact⟨o,rfl,rfl⟩
  exact⟨h1,Sem.wp_mono _ _ _ (fun a p' s' q=>⟨q.1,d.trans q.2⟩) (fun a p' s' q=>⟨q.1,d.trans q.2⟩) _ _ r⟩
 |_=>exact k.elim
theorem iw' {α:Type} {M:Model} {A:Around} {t:Sem α} {Q:α->Shared->Prop} {E:Value->Shared->Prop} {s:Shared} (k:Kd t) (h:wpAny M A t Q E s):
  wpAny M A t (fun a s'=>Q a s'/\SD s.heap s'.heap) (fun e s'=>E e s'/\SD s.heap s'.heap) s:=fun Γ p hΓ=>xI' k (h Γ p hΓ)
theorem az' {α β:Type} {t:Sem α} {f:α->Sem β} (k:Kd t) (kf:∀a,Kd (f a)):Kd (t >>= f):=by
 show Kd (t.bind f)
 induction t with
 |pure a=>exact kf a
 |raise e=>trivial
 |unsupported|finish=>trivial
 |rule _ c ih=>exact ih _ k
 | «at» _ c ih=>exact ih _ k
 |point _ c ih=>exact ih _ k
 |load a _ c ih=>exact fun x=>ih _ (k x)
 |loadIfAlive a c ih=>exact fun x=>ih _ (k x)
 |fresh c ih=>exact fun x=>ih _ (k x)
 |stack c ih=>exact fun x=>ih _ (k x)
 |alloc o c ih=>exact fun x=>ih _ (k x)
 |update a _ f c ih=>exact⟨k.1,ih _ k.2⟩
 |_=>exact k.elim
theorem ud' {α:Type} {c:Prop} [Decidable c] {a b:Sem α} (ha:Kd a) (hb:Kd b):Kd (if c then a else b):=by
 split
 .exact ha
 .exact hb
theorem ue' {α:Type} (w:String):Kd (unsupported w:Sem α):=trivial
theorem dU' (v:Value) (i:Nat):Kd (field v i):=by
 unfold field fieldsOf
 cases v<;>try exact az' (ue' _) fun a=>by split<;>trivial
 refine az' (az' (fun _=>trivial) fun o=>by split<;>trivial) fun a=>by split<;>trivial
theorem cR' (v:Value) (i:Nat) (x:Value):Kd (setField v i x):=by
 unfold setField
 split
 .unfold updateField
  refine az' (fun _=>trivial) fun o=>?_
  repeat' split
  all_goals first|trivial|exact⟨fun o=>by unfold Obj.mapFields;split<;>rfl,trivial⟩
 .trivial
theorem dH' (e:Value) (f:Option Addr):Kd (setFlight e f):=by
 unfold setFlight
 refine az' (dU' _ _) fun a=>?_
 split
 .exact cR' _ _ _
 .trivial
theorem cK':∀l,Kd (readyFrames l)
 | []=>trivial
 |env :: outer=>by
  unfold readyFrames
  split
  .refine az' (fun _=>trivial) fun o=>?_
   split
   .trivial
   .refine az' ?_ fun b=>az' ?_ fun v=>az' ⟨fun o=>rfl,trivial⟩ fun _=>cK' outer
    .unfold behindIsImport
     split
     .trivial
     .split
      .trivial
      .exact az' (dU' _ _) fun _=>trivial
    .unfold keptBack
     split
     .split
      .trivial
      .unfold underTheClaimsCaller
       exact az' (az' (fun _=>trivial) fun _=>trivial) fun _=>trivial
     .trivial
  .trivial
theorem dI' (e:Value) (env:Env):Kd (noteFrame e env):=by
 unfold noteFrame
 split
 .refine az' (dU' _ _) fun head=>?_
  have as':∀f:Addr,Kd (do setField e 1 (<- EntryCells.newEntry head (<- frameOf env) .none (rawInt f) .none (<- entryPlaceOf f (head != .none)))):=fun f=>by
   refine az' ?_ fun a=>az' ?_ fun pl=>az' ?_ fun b=>cR' _ _ _
   .unfold PySem.frameOf frameEnvs
    refine az' (az' (fun _=>trivial) fun _=>trivial) fun l=>az' ?_ fun o=>by split<;>trivial
    cases l.dropWhile (·.frame != env.frame)with
    |nil=>trivial
    |cons a b=>exact az' (cK' _) fun _=>trivial
   .unfold entryPlaceOf
    exact az' (fun _=>trivial) fun l=>by split<;>trivial
   .unfold EntryCells.newEntry newFields newObj
    exact ud' trivial fun _=>trivial
  split
  .refine az' (dU' _ _) fun b=>?_
   split
   .trivial
   .exact az' (cR' _ _ _) fun _=>as' _
  .exact as' _
 .trivial
theorem e3' (env:Env) (e:Value):Kd (leaving env e):=az' (dI' _ _) fun _=>dH' _ _
def fA' (h:Heap) (a:Addr):Heap:=h.update a fun o=>{ o with data:=.freed }
def k8' (h:Heap) (S:List Addr):Heap:=S.foldl fA' h
theorem ix' {h:Heap} {a:Addr}:(fA' h a).get? a=none:=by
 unfold fA'
 cases e:((h.update a fun o=>{ o with data:=.freed }).get? a)with
 |none=>rfl
 |some o=>
  obtain⟨e1,e2⟩:=Heap.get?_some_iff.mp e
  obtain⟨objs,l⟩:=h
  simp only[Heap.update,Array.getElem?_modify,if_true]at e1
  cases e3:objs[a]? with
  |none=>rw[e3]at e1;cases e1
  |some x=>
   rw[e3]at e1
   have:o={ x with data:=.freed }:=(Option.some.inj e1).symm
   subst this
   cases e2
theorem iy' {h:Heap} {a b:Addr} (hb:b≠a):(fA' h a).get? b=h.get? b:=Heap.get?_update_other _ _ (Ne.symm hb)
theorem jT' {h:Heap} {a b:Addr} (e:h.get? b=none):(fA' h a).get? b=none:=by
 by_cases hb:b=a
 .subst hb;exact ix'
 .rw[iy' hb];exact e
theorem gn':∀{S:List Addr} {h:Heap} {b:Addr},h.get? b=none->(k8' h S).get? b=none
 | [],_,_,e=>e
 |a :: S,h,b,e=>gn' (S:=S) (h:=fA' h a) (jT' e)
theorem ca':∀{S:List Addr} {h:Heap} {b:Addr},b∈S->(k8' h S).get? b=none
 |a :: S,h,b,hb=>by
  rcases aq.mp hb with rfl|hb
  .exact gn' (S:=S) (h:=fA' h b) ix'
  .exact ca' (S:=S) (h:=fA' h a) hb
theorem dV':∀{S:List Addr} {h:Heap} {b:Addr},b∉S->(k8' h S).get? b=h.get? b
 | [],_,_,_=>rfl
 |a :: S,h,b,hb=>by
  rw[aq,not_or]at hb
  show(k8' (fA' h a) S).get? b=_
  rw[dV' hb.2,iy' hb.1]
theorem cB' {S:List Addr} {h:Heap}:(k8' h S).StaysIn h:=fun b o e=>by
 by_cases hb:b∈S
 .rw[ca' hb]at e;cases e
 .rw[dV' hb]at e;exact e
theorem bJ' {h base:Heap} {S:List Addr}:∀{l:List Env},h.FunFrames base l->(∀b∈frs l,b∈S)->h.FunFrames (k8' h S) l
 | [],_,_=>trivial
 |env :: r,⟨hk,⟨L,o,hf,hn,ho,hd⟩,hr⟩,hS=>by
  have e:frs (env :: r)=L :: frs r:=by show List.filterMap _ _=_;rw[bQ,hf];rfl
  rw[e]at hS
  exact⟨hk,⟨L,o,hf,ca' (hS L aw),ho,hd⟩,bJ' hr fun b hb=>hS b (ar _ hb)⟩
def pb' (h:Heap) (e:Addr) (cls:Value) (T:Addr) (dx:Option Addr):Prop:=∃oe vs oT ts a0,h.get? e=some oe/\(oe.cls=cls/\vs[0]?=some a0)/\oe.data=.fields vs/\vs[1]?=some (.ref T)/\T≠e/\h.get? T=some oT/\oT.data=.fields ts/\ts[3]?=some .none/\oe.dict=dx
structure LeftX (F S:List Addr) (e:Addr) (cls:Value) (dx:Option Addr) (h h':Heap):Prop where
 keep:∀b o,b∉F->b∉S->h.get? b=some o->h'.get? b=some o
 slot:∀b o,b∈F->h.get? b=some o->∃sl,h'.get? b=some { o with slots:=sl }
 there:∀b o,b∉S->h.get? b=some o->∃o',h'.get? b=some o'
 exc:∃T,(h.get? T=none\/T∈S)/\pb' h' e cls T dx
theorem fB' {h h':Heap} {base0:Heap} {l:List Env} {e:Addr} {cls a0:Value} {S:List Addr} (hl:h.FunFrames base0 l) (heS:e∈S) (hS:∀b∈S,b∉frs l/\∃o vs,h.get? b=some o/\o.data=.fields vs) (L:Heap.LeftW (k8' h (S++frs l)) l e cls a0 h h') {oe0:Obj} (he0:h.get? e=some oe0) (sd:SD h h'):LeftX (frs l) S e cls oe0.dict h h':=by
 obtain⟨k1,k2,⟨oe,vs,T,oT,ts,he,hc,hd,h1,hnT,hTe,hT,hdT,h3⟩,k4⟩:=L
 have keep:∀b o,b∉frs l->b∉S->h.get? b=some o->h'.get? b=some o:=fun b o hF hs eb=>k1 b o (by rw[dV' (by simp[hF,hs])];exact eb)
 have slot:∀b o,b∈frs l->h.get? b=some o->∃sl,h'.get? b=some { o with slots:=sl }:=fun b o hb eb=>by
  obtain⟨_,o',ho',hnf⟩:=hl.mem hb
  rw[eb]at ho'
  cases ho'
  exact k4 b o eb hnf
 refine⟨keep,slot,fun b o hs eb=>?_,T,?_,oe,vs,oT,ts,a0,he,hc,hd,h1,hTe,hT,hdT,h3,sd.at he0 he⟩
 .by_cases hF:b∈frs l
  .obtain⟨sl,z⟩:=slot b o hF eb
   exact⟨_,z⟩
  .exact⟨o,keep b o hF hs eb⟩
 .by_cases hTS:T∈S
  .exact .inr hTS
  .left
   cases e0:h.get? T with
   |none=>rfl
   |some o=>
    by_cases hF:T∈frs l
    .obtain⟨_,o',ho',hnf⟩:=hl.mem hF
     obtain⟨sl,z⟩:=k4 T o' ho' hnf
     rw[hT]at z
     cases z
     exact absurd hdT (hnf ts)
    .rw[dV' (by simp[hTS,hF]),e0]at hnT
     cases hnT
section
variable {M:Model} {A:Around} {E:Value->Shared->Prop} {s:Shared}
theorem hI' {env:Env} {outer:List Env} {base0:Heap} {L e:Addr} {oe:Obj} {vs:Array Value} {Q:Unit->Shared->Prop} (hfr:A.frames=some (env :: outer)) (hl:s.heap.FunFrames base0 (env :: outer)) (hf:env.frame=some L)
  (he:s.heap.get? e=some oe) (hd:oe.data=.fields vs) (h1:vs[1]?=some .none) {a0:Value} (h0:vs[0]?=some a0) (h:∀h',LeftX (frs (env :: outer)) [e] e oe.cls oe.dict s.heap h'->Q () { s with heap:=h' }):wpAny M A (leaving env (.ref e)) Q E s:=by
 have hef:e∉frs (env :: outer):=fun hb=>by
  obtain⟨_,o',ho',hnf⟩:=hl.mem hb
  rw[he]at ho';cases ho'
  exact hnf vs hd
 refine bw (iw' (e3' _ _) (wpAny_leaving_firstW (Q:=fun _ s'=>∃h',s'={ s with heap:=h' }/\Heap.LeftW (k8' s.heap ([e]++frs (env :: outer))) (env :: outer) e oe.cls a0 s.heap h') hfr (bJ' hl (S:=[e]++frs (env :: outer)) fun b hb=>aj _ hb) hf he cB' (ca' (by simp)) hd h1 h0 fun h' hL=>⟨h',rfl,hL⟩)) (fun _ s' q=>?_) fun _ _ q=>q.1
 obtain⟨⟨h',rfl,hL⟩,sd⟩:=q
 refine h h' (fB' hl (by simp) (fun b hb=>?_) hL he sd)
 have:b=e:=by simpa using hb
 subst this
 exact⟨hef,oe,vs,he,hd⟩
theorem jU' {env:Env} {outer:List Env} {base0:Heap} {L e T:Addr} {cls:Value} {dx:Option Addr} {Q:Unit->Shared->Prop} (hfr:A.frames=some (env :: outer)) (hl:s.heap.FunFrames base0 (env :: outer)) (hf:env.frame=some L)
  (hx:pb' s.heap e cls T dx) (h:∀h',LeftX (frs (env :: outer)) [e,T] e cls dx s.heap h'->Q () { s with heap:=h' }):wpAny M A (leaving env (.ref e)) Q E s:=by
 obtain⟨oe,vs,oT,ts,a0,he,hc,hd,h1,hTe,hT,hdT,h3,rfl⟩:=id hx
 have nof:∀b o vs,s.heap.get? b=some o->o.data=.fields vs->b∉frs (env :: outer):=fun b o vs eb db hb=>by
  obtain⟨_,o',ho',hnf⟩:=hl.mem hb
  rw[eb]at ho';cases ho'
  exact hnf vs db
 refine bw (iw' (e3' _ _) (wpAny_leaving_nextW (Q:=fun _ s'=>∃h',s'={ s with heap:=h' }/\Heap.LeftW (k8' s.heap ([e,T]++frs (env :: outer))) (env :: outer) e cls a0 s.heap h') hfr (bJ' hl (S:=[e,T]++frs (env :: outer)) fun b hb=>aj _ hb) hf ⟨oe,vs,T,oT,ts,he,hc,hd,h1,ca' (by simp),hTe,hT,hdT,h3⟩ cB' (ca' (by simp)) fun h' hL=>⟨h',rfl,hL⟩)) (fun _ s' q=>?_) fun _ _ q=>q.1
 obtain⟨⟨h',rfl,hL⟩,sd⟩:=q
 refine h h' (fB' hl (by simp) (fun b hb=>?_) hL he sd)
 simp only[aq,au,or_false]at hb
 rcases hb with rfl|rfl
 .exact⟨nof _ oe vs he hd,oe,vs,he,hd⟩
 .exact⟨nof _ oT ts hT hdT,oT,ts,hT,hdT⟩
theorem eo' {base:Heap} {l:List Env} {e:Addr} {cls a0 fl:Value} {Q:Unit->Shared->Prop} (hkb:base.StaysIn s.heap) (hl:s.heap.FunFrames base l) (ht:s.heap.TracedAtW base e cls a0 fl)
  (h:∀h',base.StaysIn h'->h'.FunFrames base l->h'.TracedW base e cls a0->(∀b o,s.heap.get? b=some o->(∀vs,o.data≠.fields vs)->h'.get? b=some o)->SD s.heap h'->Q () { s with heap:=h' }):wpAny M A (setFlight (.ref e) none) Q E s:=by
 refine bw (iw' (dH' _ _) (wpAny_setFlight_noneW (Q:=fun _ s'=>∃h',s'={ s with heap:=h' }/\base.StaysIn h'/\h'.FunFrames base l/\h'.TracedW base e cls a0/\∀b o,s.heap.get? b=some o->(∀vs,o.data≠.fields vs)->h'.get? b=some o) hkb hl ht fun h' a b c d=>⟨h',rfl,a,b,c,d⟩)) (fun _ s' q=>?_) fun _ _ q=>q.1
 obtain⟨⟨h',rfl,a,b,c,d⟩,sd⟩:=q
 exact h h' a b c d sd
theorem k9' {env:Env} {outer:List Env} {base0:Heap} {L e T:Addr} {cls:Value} {dx:Option Addr} {Q:Unit->Shared->Prop} (hfr:A.frames=some (env :: outer)) (hl:s.heap.FunFrames base0 (env :: outer)) (hf:env.frame=some L)
  (hx:pb' s.heap e cls T dx) (h:∀h',LeftX (frs (env :: outer)) [e,T] e cls dx s.heap h'->Q () { s with heap:=h' }):wpAny M A (noteFrame (.ref e) env) (fun _ s₂=>wpAny M A (setFlight (.ref e) none) Q E s₂) E s:=by
 obtain⟨oe,vs,oT,ts,a0,he,hc,hd,h1,hTe,hT,hdT,h3,rfl⟩:=id hx
 have nof:∀b o vs,s.heap.get? b=some o->o.data=.fields vs->b∉frs (env :: outer):=fun b o vs eb db hb=>by
  obtain⟨_,o',ho',hnf⟩:=hl.mem hb
  rw[eb]at ho';cases ho'
  exact hnf vs db
 refine bw (iw' (dI' _ _) (wpAny_noteFrame_onW (Q:=fun _ s'=>∃h1',s'={ s with heap:=h1' }/\Heap.NotedW (k8' s.heap ([e,T]++frs (env :: outer))) (env :: outer) e cls a0 (rawInt L) s.heap h1') hfr (bJ' hl (S:=[e,T]++frs (env :: outer)) fun b hb=>aj _ hb) hf ⟨oe,vs,T,oT,ts,he,hc,hd,h1,ca' (by simp),hTe,hT,hdT,h3⟩ cB' (ca' (by simp)) fun h1' hN=>⟨h1',rfl,hN⟩)) (fun _ s' q=>?_) fun _ _ q=>q.1
 obtain⟨⟨h1',rfl,k1,k2,k3,k4⟩,sd1⟩:=q
 refine eo' (s:={ s with heap:=h1' }) k1 k2 k3 fun h2 m1 m2 m3 m4 sd2=>?_
 refine h h2 (fB' hl (by simp) (fun b hb=>?_) ⟨m1,m2,m3,fun b o hb hnf=>?_⟩ he (sd1.trans sd2))
 .simp only[aq,au,or_false]at hb
  rcases hb with rfl|rfl
  .exact⟨nof _ oe vs he hd,oe,vs,he,hd⟩
  .exact⟨nof _ oT ts hT hdT,oT,ts,hT,hdT⟩
 .obtain⟨sl,z⟩:=k4 b o hb hnf
  exact⟨sl,m4 b _ z hnf⟩
end
set_option tactic.hygienic true in
theorem la' {K:W.Frag} {cd:Value} {q:Str} (e:W.codeIn K cd q=true):W.kdsCode K cd=true:=by
 unfold W.codeIn at e
 unfold W.kdsCode
 split at e
 .split at e
  .rename_i h
   dsimp only
   rw[h]
  .cases e
 .cases e
structure FnCx (X:Cx):Prop where
 ex:X.ex=[]
 fn:∀x,X.fn x=true
 stk:X.stack=X.env :: X.outer
 fr:X.env.frame=some X.env.locals
 cd:W.kdsCode X.K X.env.code=true
theorem FnCx.frs {X:Cx} (F:FnCx X):L2.frs X.stack=X.env.locals :: X.fs:=by
 rw[F.stk]
 show List.filterMap _ _=_
 rw[bQ,F.fr]
 rfl
section
variable {X:Cx} {pins:List (Addr×Obj)} {σ:St} {H:Hp} {s:Shared}
theorem Inv.gone0 (I:Inv X pins σ H s) (F:FnCx X) {b:Addr} (h:s.heap.get? b=none):X.s₀.heap.get? b=none:=by
 cases e:X.s₀.heap.get? b with
 |none=>rfl
 |some o=>
  obtain⟨o',e'⟩:=I.base.there b o e (by rw[F.ex];exact au)
  rw[h]at e';cases e'
theorem hJ' {P:Program} {w:World} {H:Hp} {h:Heap} (k:HOk P w H h) {b:Addr} {u:HO} (e:H b=some u):∃o,h.get? b=some o:=by
 have z:=k b u e
 cases u with
 |lst xs=>obtain⟨_,_,_,_,e⟩:=z;exact⟨_,e⟩
 |tup xs=>obtain⟨_,_,_,p⟩:=z;obtain⟨o,e,_⟩:=p;exact⟨o,e⟩
 |dK kvs=>obtain⟨_,_,vs,_,o,_,_,e,_⟩:=z;exact⟨o,e⟩
 |dT kvs=>obtain⟨_,_,xs,_,o,_,_,e,_⟩:=z;exact⟨o,e⟩
 |set S n=>obtain⟨o,_,_,_,e,_⟩:=z;exact⟨o,e⟩
 |ins C dx fs=>obtain⟨_,_,_,e,_⟩:=z;exact⟨_,e⟩
 |own x=>exact z
 |xd fs=>obtain⟨_,⟨o,_,_,e,_⟩,_⟩:=z;exact⟨o,e⟩
 |rng lo hi=>obtain⟨_,_,_,e⟩:=z;exact⟨_,e⟩
 |frz o u=>exact⟨o,z.1⟩
 |tbl ps=>exact⟨_,z⟩
 |met f x=>exact⟨_,z⟩
 |ext φ=>exact z.2.1
theorem Inv.gone (I:Inv X pins σ H s) {b:Addr} (h:s.heap.get? b=none):H b=none:=by
 cases e:H b with
 |none=>rfl
 |some u=>
  obtain⟨o,q⟩:=hJ' I.hok e
  rw[h]at q;cases q
theorem Inv.left {S:List Addr} {e:Addr} {cls:Value} {dx:Option Addr} {h2:Heap} (I:Inv X pins σ H s) (F:FnCx X) (L:LeftX (frs X.stack) S e cls dx s.heap h2)
  (hS:∀b∈S,H b=none/\X.s₀.heap.get? b=none/\(∀p∈X.pn++pins,p.1≠b)/\∃o vs,s.heap.get? b=some o/\o.data=.fields vs):Inv X pins σ H { s with heap:=h2 }:=by
 have hF:=F.frs
 have nfs:∀{b:Addr},b≠X.env.locals->b∉X.fs->b∉frs X.stack:=fun {b} h1 h2 hb=>by
  rw[hF]at hb
  rcases aq.mp hb with z|z
  .exact h1 z
  .exact h2 z
 have cell_ok:∀x c oc v,X.env.cells.lookup x=some c->s.heap.get? c=some oc->oc.data=.cell v->h2.get? c=some oc:=fun x c oc v hx ho hd=>by
  refine L.keep c oc (nfs (I.cne x c hx) fun hb=>?_) (fun hb=>?_) ho
  .obtain⟨_,o,eo,_⟩:=I.ok.funs.mem hb
   exact bg _ (ak (av eo) (I.ok.cab x c (F.fn x) hx))
  .obtain⟨_,_,_,o,vs,eo,ed⟩:=hS c hb
   rw[ho]at eo;cases eo
   rw[hd]at ed;cases ed
 refine⟨I.ok,I.os,I.bare,⟨fun b o e0 n hb hx=>?_,fun b o e0 n hb hx=>?_,I.base.free,fun b o e0 hx=>?_,I.base.tups,I.base.frzs,I.base.tbls⟩,?_,fun x c hx=>?_,I.free,I.freeC,fun p hp=>?_,fun b u e=>?_,I.len⟩
 .have e1:=I.base.keep b o e0 n hb hx
  refine L.keep b o (nfs (aB (ak (av e0) I.ok.above)) hb) (fun z=>?_) e1
  rw[(hS b z).2.1]at e0;cases e0
 .obtain⟨sl,e1⟩:=I.base.slot b o e0 n hb hx
  obtain⟨sl2,e2⟩:=L.slot b _ (by rw[hF];exact ar _ hb) e1
  exact⟨sl2,e2⟩
 .obtain⟨o',e1⟩:=I.base.there b o e0 hx
  exact L.there b o' (fun z=>by rw[(hS b z).2.1]at e0;cases e0) e1
 .obtain⟨m,⟨o,es,ep,ho,hd,r⟩,hl⟩:=I.loc
  obtain⟨sl,e2⟩:=L.slot X.env.locals o (by rw[hF];exact aw) ho
  refine⟨m,⟨_,es,ep,e2,hd,r⟩,fun i x v h1 h2 h3=>?_⟩
  obtain⟨u,ru,q⟩:=hl i x v h1 h2 h3
  refine⟨u,ru,?_⟩
  rcases q with q|⟨k,c,hc,oc,ho,hd⟩
  .exact .inl q
  .exact .inr ⟨k,c,hc,oc,cell_ok x c oc _ hc ho hd,hd⟩
 .obtain⟨v,oc,ho,hd⟩:=I.cell x c hx
  exact⟨v,oc,cell_ok x c oc v hx ho hd,hd⟩
 .obtain⟨e,n,ne,nf,d⟩:=I.pin p hp
  exact⟨L.keep p.1 p.2 (nfs ne nf) (fun z=>(hS p.1 z).2.2.1 p hp rfl) e,n,ne,nf,d⟩
 .refine(I.hok b u e).stay (fun c v hc q=>?_) (fun _ q=>q) fun _ _ q=>q
  have tr:∃u',H c=some u':=by
   rcases hc with z|z
   .exact⟨u,by rw[z];exact e⟩
   .exact⟨_,z⟩
  obtain⟨u',hu⟩:=tr
  refine L.keep c v (fun hb=>?_) (fun hb=>?_) q
  .rw[I.stkFree c hb]at hu;cases hu
  .rw[(hS c hb).1]at hu;cases hu
def CX1 (P:Program) (w:World) (mg:Str->Option Value):CXT:=fun outer H s E e s'=>∃(ea T Ca:Addr) (nm:Str) (dx:Option Addr) (H':Hp),e=.ref ea/\mg nm=some (.ref Ca)/\s'.os=s.os/\AllBare s'.gens/\Un (frs outer) [] H H' s.heap s'.heap/\HOk P w H' s'.heap/\
 pb' s'.heap ea (.ref Ca) T dx/\H' ea=none/\H' T=none/\s.heap.get? ea=none/\s.heap.get? T=none/\E (.str nm 0) dx H'
theorem lb' {h:Heap} {e T:Addr} {cls:Value} {dx:Option Addr} (x:pb' h e cls T dx):∃o vs,h.get? e=some o/\o.data=.fields vs:=by
 obtain⟨oe,vs,_,_,_,he,_,hd,_⟩:=x
 exact⟨oe,vs,he,hd⟩
theorem lc' {h:Heap} {e T:Addr} {cls:Value} {dx:Option Addr} (x:pb' h e cls T dx):∃o vs,h.get? T=some o/\o.data=.fields vs:=by
 obtain⟨_,_,oT,ts,_,_,_,_,_,_,hT,hdT,_⟩:=x
 exact⟨oT,ts,hT,hdT⟩
theorem hK' {h:Heap} {e T:Addr} {cls:Value} {dx:Option Addr} (x:pb' h e cls T dx):T≠e:=by
 obtain⟨_,_,_,_,_,_,_,_,_,ne,_⟩:=x
 exact ne
theorem fC' {E:XK} {nm:Str} {e Ca t:Addr} {dx:Option Addr} (I:Inv X pins σ H s) (F:FnCx X) (hm:X.mg nm=some (.ref Ca)) (hn:H e=none) (h0:X.s₀.heap.get? e=none) (hpin:∀p∈X.pn++pins,p.1≠e)
  (he:s.heap.get? e=some { cls:=.ref Ca,dict:=dx,data:=.fields #[.ref t,.none,.none,.none,.bool false,.none] }) (hE:E (.str nm 0) dx H):
  wpAny (model X.prog X.w) X.A (leaving X.env (.ref e)) (fun _ s''=>CX1 X.prog X.w X.mg X.outer X.H₀ X.s₀ E (.ref e) s'') (fun e' s''=>CX1 X.prog X.w X.mg X.outer X.H₀ X.s₀ E e' s'') s:=by
 have hfr:X.A.frames=some (X.env :: X.outer):=by rw[<- F.stk];exact I.ok.frames
 have hst:s.heap.FunFrames X.base (X.env :: X.outer):=by rw[<- F.stk];exact I.stack
 refine hI' (a0:=.ref t) hfr hst F.fr he rfl (by simp) (by simp) fun h2 L=>?_
 rw[<- F.stk]at L
 have I2:=I.left F L fun b hb=>by
  have:b=e:=by simpa using hb
  subst this
  exact⟨hn,h0,hpin,_,_,he,rfl⟩
 obtain⟨T,hT,hx⟩:=L.exc
 have hTg:s.heap.get? T=none:=hT.resolve_right fun z=>hK' hx (by simpa using z)
 exact⟨e,T,Ca,nm,dx,H,rfl,hm,I2.os,I2.bare,by have:=I2.base;rw[F.ex]at this;exact this,I2.hok,hx,hn,I.gone hTg,h0,I.gone0 F hTg,hE⟩
theorem fD' {E:XK} {s':Shared} {e:Value} (I:Inv X pins σ H s) (F:FnCx X) (c:CX1 X.prog X.w X.mg X.stack H s E e s'):
  wpAny (model X.prog X.w) X.A (leaving X.env e) (fun _ s''=>CX1 X.prog X.w X.mg X.outer X.H₀ X.s₀ E e s'') (fun e' s''=>CX1 X.prog X.w X.mg X.outer X.H₀ X.s₀ E e' s'') s':=by
 obtain⟨ea,T,Ca,nm,dx,H',rfl,hm,ho,hb,un,hok,hx,hn,hnT,hg,hgT,hE⟩:=c
 have I1:Inv X pins σ H' s':=I.call' ho un hok hb fun b hb=>absurd hb au
 have hfr:X.A.frames=some (X.env :: X.outer):=by rw[<- F.stk];exact I.ok.frames
 have hst:s'.heap.FunFrames X.base (X.env :: X.outer):=by rw[<- F.stk];exact I1.stack
 refine jU' hfr hst F.fr hx fun h2 L=>?_
 rw[<- F.stk]at L
 have pne:∀b,s.heap.get? b=none->∀p∈X.pn++pins,p.1≠b:=fun b hb p hp z=>by
  have:=(I.pin p hp).1
  rw[z,hb]at this;cases this
 have I2:=I1.left F L fun b hb=>by
  simp only[aq,au,or_false]at hb
  rcases hb with rfl|rfl
  .exact⟨hn,I.gone0 F hg,pne _ hg,lb' hx⟩
  .exact⟨hnT,I.gone0 F hgT,pne _ hgT,lc' hx⟩
 obtain⟨T2,hT2,hx2⟩:=L.exc
 have key:H' T2=none/\X.s₀.heap.get? T2=none:=by
  rcases hT2 with z|z
  .exact⟨I1.gone z,I1.gone0 F z⟩
  .simp only[aq,au,or_false]at z
   rcases z with z|z
   .exact absurd z (hK' hx2)
   .rw[z];exact⟨hnT,I.gone0 F hgT⟩
 exact⟨ea,T2,Ca,nm,dx,H',rfl,hm,I2.os,I2.bare,by have:=I2.base;rw[F.ex]at this;exact this,I2.hok,hx2,hn,key.1,I.gone0 F hg,key.2,hE⟩
end
def bmV:List Value:=[.type "ValueError",.type "Exception",.type "BaseException",.type "object"]
section
variable {X:Cx}
end
def Cx.tryX (X:Cx) (pins:List (Addr×Obj)) (D:Ends) (hs:List ExceptHandler):Cx:={ X with
 pn:=X.pn++pins
 xe:=fun e s'=>wpAny (model X.prog X.w) X.A (noteFrame e X.env) (fun _ s₂=>wpAny (model X.prog X.w) X.A (setFlight e none) (fun _ s₃=>wpAny (model X.prog X.w) X.A (handleBy e X.env hs) (SP X pins D) X.xe s₃) X.xe s₂) X.xe s' }
section
variable {X:Cx} {pins:List (Addr×Obj)} {σ:St} {H:Hp} {s:Shared} {D:Ends} {hs:List ExceptHandler}
theorem Inv.toTry (I:Inv X pins σ H s):Inv (X.tryX pins D hs) [] σ H s:=⟨⟨I.ok.mod,I.ok.kind,I.ok.glob,I.ok.blt,I.ok.above,I.ok.inj,I.ok.has,I.ok.cab,I.ok.hd,I.ok.frames,I.ok.stk,I.ok.exf,I.ok.bs,I.ok.bsz,I.ok.noex,I.ok.exfs,I.ok.funs,I.ok.frf⟩,I.os,I.bare,I.base,I.loc,I.cell,I.free,I.freeC,fun p hp=>I.pin p (by simpa[Cx.tryX]using hp),I.hok,I.len⟩
theorem Inv.fromTry {pins':List (Addr×Obj)} (I:Inv (X.tryX pins D hs) pins' σ H s):Inv X pins σ H s:=⟨⟨I.ok.mod,I.ok.kind,I.ok.glob,I.ok.blt,I.ok.above,I.ok.inj,I.ok.has,I.ok.cab,I.ok.hd,I.ok.frames,I.ok.stk,I.ok.exf,I.ok.bs,I.ok.bsz,I.ok.noex,I.ok.exfs,I.ok.funs,I.ok.frf⟩,I.os,I.bare,I.base,I.loc,I.cell,I.free,I.freeC,fun p hp=>I.pin p (aZ _ hp),I.hok,I.len⟩
theorem rr' {body:List Stmt} {h₀:ExceptHandler} {pos:Pos} {t:Ends->TS} (hb:∀pins D,PSs (X.tryX pins D [h₀]) body (t D)):PS X (.Try body [h₀] [] [] pos) (fun D σ H=>t D D σ H):=by
 intro pins s σ H D I h
 refine wpAny_Try_except (bw (hb pins D [] s σ H D I.toTry h) (fun f s1 q=>?_) fun e s1 q=>q)
 cases f with
 |next=>
  obtain⟨σ',H',I',q⟩:=q
  exact wpAny_execs_nil ⟨σ',H',I'.fromTry,q⟩
 |brk=>
  obtain⟨σ',H',I',q⟩:=q
  exact⟨σ',H',I'.fromTry,q⟩
 |cont=>
  obtain⟨σ',H',I',q⟩:=q
  exact⟨σ',H',I'.fromTry,q⟩
 |ret u=>
  obtain⟨v,σ',H',I',rv,q⟩:=q
  exact⟨v,σ',H',I'.fromTry,rv,q⟩
def Cx.inX (X:Cx) (e:Addr):Cx:={ X with A:=X.A.mark (some (.ref e)),calm:=false,xe:=fun _ _=>False }
theorem Inv.toX {e:Addr} (I:Inv X pins σ H s):Inv (X.inX e) pins σ H s:=⟨⟨I.ok.mod,I.ok.kind,I.ok.glob,I.ok.blt,I.ok.above,I.ok.inj,I.ok.has,I.ok.cab,(fun h=>by cases h),I.ok.frames,I.ok.stk,I.ok.exf,I.ok.bs,I.ok.bsz,I.ok.noex,I.ok.exfs,I.ok.funs,I.ok.frf⟩,I.os,I.bare,I.base,I.loc,I.cell,I.free,I.freeC,I.pin,I.hok,I.len⟩
theorem Inv.fromX {e:Addr} (hd:X.calm=true->X.A.handled=none) (I:Inv (X.inX e) pins σ H s):Inv X pins σ H s:=⟨⟨I.ok.mod,I.ok.kind,I.ok.glob,I.ok.blt,I.ok.above,I.ok.inj,I.ok.has,I.ok.cab,hd,I.ok.frames,I.ok.stk,I.ok.exf,I.ok.bs,I.ok.bsz,I.ok.noex,I.ok.exfs,I.ok.funs,I.ok.frf⟩,I.os,I.bare,I.base,I.loc,I.cell,I.free,I.freeC,I.pin,I.hok,I.len⟩
def go' (e Ca:Addr) (dx:Option Addr) (h:Heap):Prop:=∃o vs,h.get? e=some o/\o.cls=.ref Ca/\o.data=.fields vs/\o.dict=dx
def eR' (e Ca:Addr) (dx:Option Addr:=none):HO:=.ext (go' e Ca dx)
theorem Inv.trackX {e Ca:Addr} {dx:Option Addr} (I:Inv X pins σ H s) (hn:H e=none) (hφ:go' e Ca dx s.heap) (h0:X.s₀.heap.get? e=none) (hp:∀p∈X.pn++pins,p.1≠e) (F:FnCx X):Inv X pins σ (upd H e (eR' e Ca dx)) s:=by
 obtain⟨o,vs,ho,hc,hd,_⟩:=id hφ
 have hl:X.env.locals≠e:=by
  obtain⟨m,⟨o',es,ep,ho',hd',_⟩,_⟩:=I.loc
  intro z
  rw[z,ho]at ho'
  cases ho'
  rw[hd]at hd';cases hd'
 have hcell:∀x c,X.env.cells.lookup x=some c->c≠e:=fun x c hx z=>by
  obtain⟨v,oc,ho',hd'⟩:=I.cell x c hx
  rw[z,ho]at ho'
  cases ho'
  rw[hd]at hd';cases hd'
 have ne:∀b u,H b=some u->b≠e:=fun b u q z=>by rw[z,hn]at q;cases q
 refine⟨I.ok,I.os,I.bare,⟨I.base.keep,I.base.slot,fun b o e0 n hx=>?_,I.base.there,fun b xs q=>?_,fun b o u q=>?_,fun b ps q=>?_⟩,I.loc,I.cell,?_,fun x c hx=>?_,fun p hpp=>?_,fun b u q=>?_,I.len⟩
 .rw[ad' (fun z=>by rw[z,h0]at e0;cases e0)]
  exact I.base.free b o e0 n hx
 .have:=I.base.tups b xs q
  rw[ad' (ne _ _ this)];exact this
 .have:=I.base.frzs b o u q
  rw[ad' (ne _ _ this)];exact this
 .obtain⟨m,z⟩:=I.base.tbls b ps q
  exact⟨m,by rw[ad' (ne _ _ z)];exact z⟩
 .rw[ad' hl];exact I.free
 .rw[ad' (hcell x c hx)];exact I.freeC x c hx
 .obtain⟨e1,n1,r1⟩:=I.pin p hpp
  exact⟨e1,by rw[ad' (hp p hpp)];exact n1,r1⟩
 .by_cases hb:b=e
  .subst hb
   rw[aa']at q
   cases q
   refine⟨hφ,⟨o,ho⟩,fun h1 h2 q k=>?_⟩
   obtain⟨o,vs,ho,r⟩:=q
   exact⟨o,vs,k _ ho,r⟩
  .rw[ad' hb]at q
   exact(I.hok b u q).stay (fun _ _ _ z=>z) (fun c z=>by rw[ad' (ne _ _ z)];exact z) fun c xs z=>by rw[ad' (ne _ _ z)];exact z
theorem zY' {M:Model} {A:Around} {E:Value->Shared->Prop} {l:List Env} {base0:Heap} {e T:Addr} {cls:Value} {dx:Option Addr} {Q:Unit->Shared->Prop} (hl:s.heap.FunFrames base0 l) (hx:pb' s.heap e cls T dx) (h:∀h',LeftX (frs l) [e,T] e cls dx s.heap h'->Q () { s with heap:=h' }):wpAny M A (setFlight (.ref e) none) Q E s:=by
 obtain⟨oe,vs,oT,ts,a0,he,hc,hd,h1,hTe,hT,hdT,h3,rfl⟩:=id hx
 have nof:∀b o vs,s.heap.get? b=some o->o.data=.fields vs->b∉frs l:=fun b o vs eb db hb=>by
  obtain⟨_,o',ho',hnf⟩:=hl.mem hb
  rw[eb]at ho';cases ho'
  exact hnf vs db
 refine eo' (base:=k8' s.heap ([e,T]++frs l)) (l:=l) cB' (bJ' hl fun b hb=>aj _ hb) ⟨oe,vs,T,oT,ts,he,hc,hd,h1,ca' (by simp),hTe,hT,hdT,h3⟩ fun h2 m1 m2 m3 m4 sd=>h h2 ?_
 refine fB' hl (by simp) (fun b hb=>?_) ⟨m1,m2,m3,fun b o hb hnf=>⟨o.slots,m4 b o hb hnf⟩⟩ he sd
 simp only[aq,au,or_false]at hb
 rcases hb with rfl|rfl
 .exact⟨nof _ oe vs he hd,oe,vs,he,hd⟩
 .exact⟨nof _ oT ts hT hdT,oT,ts,hT,hdT⟩
theorem ld' {M:Model} {A:Around} {E:Value->Shared->Prop} {i:Nat} {x:Str} {pos:Pos} {Q:Unit->Shared->Prop} (I:Inv X pins σ H s) (hN:X.N.Nodup) (hi:X.N[i]?=some x) (hk:X.env.scope.names.lookup x=some .local)
  (h:∀s',Inv X pins (σ.set i none) H s'->Q () s'):wpAny M A (do bindName X.env x .none;unbindBehindTheSuite X.env x pos) Q E s:=by
 obtain⟨m,hn,hl⟩:=id I.loc
 have hcls:(X.env.scope.kind == .class || (X.env.scope.kind == .module&&X.env.locals != X.env.globals))=false:=by rw[I.ok.kind];rfl
 have hiσ:i<σ.length:=by rw[I.len];exact(aC.mp hi).1
 have cne:=I.cne
 obtain⟨oL,_,_,hoL,_⟩:=id hn
 refine wpAny_nameGoes_keeps hk hn hcls fun h' v hn' hs=>?_
 have tracked:HOk X.prog X.w H h':=fun b ob e=>by
  refine(I.hok b ob e).stay (fun c w' hc q=>(hs.2 c ?_).trans q) (fun _ q=>q) fun _ _ q=>q
  rintro rfl
  rcases hc with z|z
  .rw[<- z,I.free]at e;cases e
  .rw[I.free]at z;cases z
 refine h _ ⟨I.ok,I.os,I.bare,⟨fun b o e n hb hx=>?_,fun b o e n hb hx=>?_,I.base.free,fun b o e hx=>?_,I.base.tups,I.base.frzs,I.base.tbls⟩,⟨_,hn',fun j y v' e1 e2 e3=>?_⟩,fun y c e=>?_,I.free,I.freeC,fun p hp=>?_,tracked,by simpa using I.len⟩
 .exact(hs.2 b (aB (ak (av e) I.ok.above))).trans (I.base.keep b o e n hb hx)
 .obtain⟨sl,e1⟩:=I.base.slot b o e n hb hx
  exact⟨sl,(hs.2 b (aB (ak (av e) I.ok.above))).trans e1⟩
 .obtain⟨o',e1⟩:=I.base.there b o e hx
  exact⟨o',(hs.2 b (aB (ak (av e) I.ok.above))).trans e1⟩
 .by_cases hj:j=i
  .subst hj
   rw[bV hiσ]at e2
   cases e2
  .rw[bp (Ne.symm hj)]at e2
   obtain⟨u',r',q⟩:=hl j y v' e1 e2 e3
   refine⟨u',r',?_⟩
   rcases q with⟨k,e⟩|⟨k,c,e,z⟩
   .refine .inl ⟨k,?_⟩
    have:y≠x:=fun e=>hj (fm' hN e1 (e ▸ hi))
    simp[this,e]
   .exact .inr ⟨k,c,e,z.sameBut hs (cne y c e)⟩
 .obtain⟨w',z⟩:=I.cell y c e
  exact⟨w',z.sameBut hs (cne y c e)⟩
 .obtain⟨e,n,ne,nf,d⟩:=I.pin p hp
  exact⟨(hs.2 p.1 ne).trans e,n,ne,nf,d⟩
theorem le' {pins':List (Addr×Obj)} {s':Shared} {E':XK} {e:Value} {c n:Str} {Cc:Addr} {i:Nat} {b₀:Stmt} {suite:List Stmt} {np pos:Pos} {th:TS} (I:Inv (X.tryX pins D [.ExceptHandler (some (.Name c np)) (some n) (b₀ :: suite) pos]) pins' σ H s) (F:FnCx X) (hc:X.calm=true)
  (hN:X.N.Nodup) (hi:X.N[i]?=some n) (hloc:X.env.scope.names.lookup n=some .local) (hcg:Gl X c) (hcm:X.mg c=some (.ref Cc)) (hcd:(c == ("__debug__":Str))=false)
  (hsuite:∀e,PSs (X.inX e) (b₀ :: suite) th)
  (hW:∀nm Ca dx H',X.mg nm=some (.ref Ca)->E' (.str nm 0) dx H'->W.exmOne X.K (.ref Ca) (.ref Cc)=some true/\∀e,H' e=none->th { nx:=fun σ2 H2=>D.nx (σ2.set i none) H2,rt:=D.rt } (σ.set i (some (.ref e))) (upd H' e (eR' e Ca dx)))
  (cx:CX1 X.prog X.w X.mg X.stack H s E' e s'):(X.tryX pins D [.ExceptHandler (some (.Name c np)) (some n) (b₀ :: suite) pos]).xe e s':=by
 obtain⟨ea,T,Ca,nm,dx,H',rfl,hm,ho,hb,un,hok,hx,hn,hnT,hg,hgT,hE⟩:=cx
 obtain⟨hexm,hth⟩:=hW nm Ca dx H' hm hE
 have I0:Inv X pins σ H s:=I.fromTry
 have I1:Inv X pins σ H' s':=I0.call' ho un hok hb fun b hb=>absurd hb au
 have hfr:X.A.frames=some (X.env :: X.outer):=by rw[<- F.stk];exact I0.ok.frames
 have hst:s'.heap.FunFrames X.base (X.env :: X.outer):=by rw[<- F.stk];exact I1.stack
 have pne:∀b,s.heap.get? b=none->∀p∈X.pn++pins,p.1≠b:=fun b hb p hp z=>by
  have:=(I0.pin p hp).1
  rw[z,hb]at this;cases this
 refine k9' hfr hst F.fr hx fun h2 L=>?_
 rw[<- F.stk]at L
 have I2:=I1.left F L fun b hb=>by
  simp only[aq,au,or_false]at hb
  rcases hb with rfl|rfl
  .exact⟨hn,I0.gone0 F hg,pne _ hg,lb' hx⟩
  .exact⟨hnT,I0.gone0 F hgT,pne _ hgT,lc' hx⟩
 obtain⟨T2,hT2,hx2⟩:=L.exc
 obtain⟨oe,vs,oT,ts,a0,he,⟨hcls,h0⟩,hd,h1,hTe,hT,hdT,h3⟩:=id hx2
 have keyT:H' T2=none/\X.s₀.heap.get? T2=none/\∀p∈X.pn++pins,p.1≠T2:=by
  rcases hT2 with z|z
  .exact⟨I1.gone z,I1.gone0 F z,fun p hp q=>by
    have:=(I1.pin p hp).1
    rw[q,z]at this;cases this⟩
  .simp only[aq,au,or_false]at z
   rcases z with z|z
   .exact absurd z (hK' hx2)
   .rw[z];exact⟨hnT,I0.gone0 F hgT,pne _ hgT⟩
 refine wpAny_handleBy_cons (codeAny_handlers_test (fn' (X:=X.inX ea) I2.toX hcg hcm ?_ hcd)) (by intro q;cases q)
 have LT:W.Looks (model X.prog X.w) h2 (typeOf (.ref ea)) (.ref Ca):=hcls ▸ (W.Looks.ld he).andThen .now
 refine(W.exm_one (K:=X.K) I2.kIn LT hexm) _ _ _ _ (fun _ _ z=>z) ?_
 show codeAny _ _ _ _ _
 refine codeAny_handlers_suite_as ?_
 have hst2:h2.FunFrames X.base X.stack:=I2.stack
 refine zY' (s:={ s' with heap:=h2 }) hst2 hx2 fun h3' L3=>?_
 have I3:=I2.left F L3 fun b hb=>by
  simp only[aq,au,or_false]at hb
  rcases hb with rfl|rfl
  .exact⟨hn,I0.gone0 F hg,pne _ hg,lb' hx2⟩
  .exact⟨keyT.1,keyT.2.1,keyT.2.2,lc' hx2⟩
 obtain⟨T3,_,hx3⟩:=L3.exc
 refine c3' (v:=.ref ea) I3 hN hi (.inl hloc) rfl (fun s4 I4 hsb=>?_) (.inr hloc)
 obtain⟨oe3,vs3,_,_,_,he3,⟨hcls3,_⟩,hd3,_,_,_,_,_,hx3d⟩:=id hx3
 have hea4:go' ea Ca dx s4.heap:=by
  obtain⟨a,hsb,ha⟩:=hsb
  have hne:ea≠a:=by
   rintro rfl
   rcases ha with z|z
   .obtain⟨m,⟨o',es,ep,ho',hd',_⟩,_⟩:=I3.loc
    rw[<- z,he3]at ho'
    cases ho'
    rw[hd3]at hd';cases hd'
   .obtain⟨v,oc,ho',hd'⟩:=I3.cell _ _ z
    rw[he3]at ho'
    cases ho'
    rw[hd3]at hd';cases hd'
  exact⟨oe3,vs3,(hsb.2 ea hne).trans he3,hcls3,hd3,hx3d⟩
 have I5:=I4.trackX hn hea4 (I0.gone0 F hg) (pne _ hg) F
 refine bw (hsuite ea pins s4 _ _ _ I5.toX (hth ea hn)) (fun f s5 q5=>?_) fun _ _ z=>z.elim
 cases f with
 |next=>
  obtain⟨σ5,H5,I5,q⟩:=q5
  exact ld' (I5.fromX I0.ok.hd) hN hi hloc fun s6 I6=>⟨_,_,I6,q⟩
 |brk=>obtain⟨_,_,_,q⟩:=q5;exact q.elim
 |cont=>obtain⟨_,_,_,q⟩:=q5;exact q.elim
 |ret u=>
  obtain⟨v,σ5,H5,I5,r,q⟩:=q5
  exact ld' (I5.fromX I0.ok.hd) hN hi hloc fun s6 I6=>⟨v,_,_,I6,r,q⟩
end
end L2
namespace L2
open PySem PySem.Spec PyProof.Rows PySem.W
structure XCls (K:Frag) (C:Addr):Prop where
 ga:findIn K (.ref C) "__getattribute__"=some (some (.builtin "BaseException.__getattribute__"))
 gt:findIn K (.ref C) "__getattr__"=some none
 cl:findIn K (.ref C) "__class__"=some (some (.builtin "object.__class__"))
 be:subIn K (.ref C) (.type "BaseException")=some true
 ob:subIn K (.ref C) (.type "object")=some true
 is:(clsIn K C).isSome=true
section
variable {prog:Program} {w:World} {A:Around} {E:Value->Shared->Prop} {K:Frag} {h:Heap} {g:Array GenState} {d:Drawn} {t:Nat} {os:OsState} {a C:Addr} {o:Obj}
theorem gp':plainId "BaseException.__getattribute__"=true:=by decide +kernel
theorem iz' (v:Value):bindSpecial (.builtin "BaseException.__getattribute__") v=pure (.builtin "BaseException.__getattribute__",[v]):=by
 have k1:builtinKind "BaseException.__getattribute__"=some .slot:=by decide +kernel
 have k2:withoutEnding? "BaseException.__getattribute__" "#opaque"=none:=by decide +kernel
 have k3:withoutEnding? "BaseException.__getattribute__" "#data"=none:=by decide +kernel
 simp only[bindSpecial,typeOf,builtinType,k2,k3,k1]
 rfl
theorem xJ' {R:Result->Shared->Prop} (X:K.In h) (hx:h.get? a=some o) (hc:o.cls=.ref C) (x:XCls K C) (hq:R (.ok (.ret (.ref C))) ⟨h,g,d,t,os⟩):
  codeAny (model prog w) A (.call (.builtin "getset_descriptor.__get__") ⟨[.builtin "object.__class__",.ref a,.ref C],[]⟩) R ⟨h,g,d,t,os⟩:=by
 have ty:(⟨h,g,d,t,os⟩:Shared).TypeIs (.builtin "object.__class__") "getset_descriptor":=F.typeOf_object_class
 have L1:Looks (model prog w) h (isSubtype (.ref C) (.type (".".intercalate ("object.__class__".cutAt '.').dropLast))) true:=by rw[F.owner_object_class];exact looks_subIn X x.ob
 refine codeAny_call_builtin F.slot_gs_get.plain F.entry_gs_get ?_
 refine F.slot_gs_get.check _ _ _ _ _ _ _ _ ty (F.args_gs_get _ _ _) ?_
 repeat (any_goals (first|assumption|(with_reducible refine aY hx ?_;rw[hc])|(with_reducible refine L1.at ?_)|wp_step))
 constructor
 .exact Code.quiet_builtin _ (by decide +kernel)
 refine codeAny_builtin F.entry_object_class ?_
 repeat (any_goals (first|assumption|(with_reducible refine aY hx ?_;rw[hc])|wp_step))
theorem rs' {tk:Tok} {Q:Fin->Shared->Prop} (X:K.In h) (hx:h.get? a=some o) (hc:o.cls=.ref C) (x:XCls K C) (hq:Q (.done (.ret (.ref C))) ⟨h,g,d,t,os⟩):
  wpAny (model prog w) A (Builtin.«object.__getattribute__» ⟨[.ref a,.str "__class__" tk],[]⟩) Q E ⟨h,g,d,t,os⟩:=by
 have ty:(⟨h,g,d,t,os⟩:Shared).TypeIs (.builtin "object.__class__") "getset_descriptor":=F.typeOf_object_class
 have f5:=F.typeOf_object_class
 have f6:=F.slot_gs_get.lookup
 have f7:=F.slot_gs_set.lookup
 have L1:=looks_findIn (M:=model prog w) X x.cl
 repeat (any_goals (first|assumption|(with_reducible refine aY hx ?_;rw[hc])|(with_reducible refine L1.at ?_)|wp_step))
 refine xJ' X hx hc x ?_
 repeat (any_goals (first|assumption|wp_step))
theorem lf' {M:Model} {v:Value} {Q:Unit->Shared->Prop} (X:K.In h) (hx:h.get? a=some o) (hc:o.cls=.ref C) (x:XCls K C) (hq:Q () ⟨h,g,d,t,os⟩):wpAny M A (checkBuiltinCall "BaseException.__getattribute__" ⟨[.ref a,v],[]⟩) Q E ⟨h,g,d,t,os⟩:=by
 have k1:builtinKind "BaseException.__getattribute__"=some .slot:=by decide +kernel
 have k2:splitId "BaseException.__getattribute__"=some ("BaseException","__getattribute__"):=by decide +kernel
 have k3:=F.args_bexc_ga (.ref a) v
 have L1:=looks_subIn (M:=M) X x.be
 simp only[checkBuiltinCall,k1,k2]
 refine aa ?_
 unfold isInstance
 repeat (first|(with_reducible refine aY hx ?_;rw[hc])|(with_reducible refine L1.at ?_)|wp_step)
 exact hq
theorem uf' {tk:Tok} {R:Result->Shared->Prop} (X:K.In h) (hx:h.get? a=some o) (hc:o.cls=.ref C) (x:XCls K C) (hq:R (.ok (.ret (.ref C))) ⟨h,g,d,t,os⟩):
  codeAny (model prog w) A (.call (.builtin "BaseException.__getattribute__") ⟨[.ref a,.str "__class__" tk],[]⟩) R ⟨h,g,d,t,os⟩:=by
 refine codeAny_call_builtin gp' F.entry_bexc_ga (lf' X hx hc x ?_)
 exact rs' X hx hc x hq
theorem zZ' {tk:Tok} {fill expr:Bool} {Q:Value->Shared->Prop} (X:K.In h) (hx:h.get? a=some o) (hc:o.cls=.ref C) (x:XCls K C) (hq:Q (.ref C) ⟨h,g,d,t,os⟩):
  wpAny (model prog w) A (getAttrBy (.ref a) (.str "__class__" tk) fill expr) Q E ⟨h,g,d,t,os⟩:=by
 have L1:=looks_findIn (M:=model prog w) X x.ga
 have L2':=looks_findIn (M:=model prog w) X x.gt
 have b0:=iz' (.ref a)
 have z0:(expr&&onTheHeap (Value.builtin "BaseException.__getattribute__"))=false:=by cases expr<;>rfl
 repeat (any_goals (first|assumption|(with_reducible refine aY hx ?_;rw[hc])|(with_reducible refine L1.at ?_)|(with_reducible refine L2'.at ?_)|wp_step))
 refine uf' X hx hc x ?_
 repeat (any_goals (first|assumption|wp_step))
theorem ug' {Q:Option Value->Shared->Prop} (X:K.In h) (hx:h.get? a=some o) (hc:o.cls=.ref C) (x:XCls K C) (hq:Q (some (.ref C)) ⟨h,g,d,t+1,os⟩):
  wpAny (model prog w) A (getAttr? (.ref a) "__class__") Q E ⟨h,g,d,t,os⟩:=by
 unfold getAttr?
 repeat (any_goals (first|assumption|with_reducible apply zZ' X hx hc x|wp_step))
set_option tactic.hygienic true in
theorem pc' {C:Addr} (e:(clsIn K C).isSome=true):∃o cd,K.lookup C=some o/\o.data=.cls cd:=by
 unfold clsIn at e
 split at e
 .rename_i c0 d0 cd0 sl0 ho
  exact⟨_,cd0,ho,rfl⟩
 .cases e
theorem lg' {e Ca:Addr} {dx:Option Addr} (x:XCls K Ca):KitX K (.ref e) (.ref Ca) (go' e Ca dx) where
 ty:=fun M h _ ⟨o,vs,h1,h2,_⟩=>by
  rw[<- h2]
  exact(Looks.ld h1).andThen .now
 it:=fun M h X _=>by
  obtain⟨o,cd,h1,h2⟩:=pc' x.is
  intro A' Q' E' s' k q
  unfold isType loadHead
  refine aa (wpAny_loadPart (k _ _ (X _ _ h1)) (ae ?_))
  rw[h2]
  exact q
 ne:=fun h tp dd its n sl X htp=>by
  obtain⟨o,cd,h1,h2⟩:=pc' x.is
  cases b:(Value.ref Ca == Value.ref tp)with
  |false=>rfl
  |true=>
   have z:Ca=tp:=Value.ref.inj (beq_iff_eq.mp b)
   subst z
   have q:=(X _ _ h1).symm.trans htp
   cases q
   cases h2
 ca:=fun {_ _ _ _ _ s} X ⟨o,vs,h1,h2,_⟩ q=>by
  obtain⟨h,g,d,t,os⟩:=s
  exact ug' X h1 h2 x q
end
end L2
namespace L2
open PySem PySem.Spec PyProof.Rows PySem.W
section
variable {X:Cx}
def xK':V->Option Value
 | .ref a=>some (.ref a)
 | .ty T=>some (.type T)
 |_=>none
theorem lh' {x:V} {u v:Value} (h:xK' x=some v) (r:aF' x u):u=v:=by
 cases x<;>first|(cases h;done)|(cases h;exact r)
def nH':List V->List Value->Prop
 | [],[]=>True
 |x :: xs,v :: vs=>xK' x=some v/\nH' xs vs
 |_,_=>False
theorem iA':∀{xs:List V} {us vs:List Value},nH' xs vs->aL' xs us->us=vs
 | [],_,[],_,.nil=>rfl
 |x :: xs,_,v :: vs,h,.cons r t=>by rw[lh' h.1 r,iA' h.2 t]
 | [],_,_ :: _,h,_=>h.elim
 |_ :: _,_,[],h,_=>h.elim
def za' (K:Frag):List V->Hp->VK->Prop:=fun xs H Q=>∃(e Ca:Addr) (dx:Option Addr) (b:Bool),H e=some (eR' e Ca dx)/\XCls K Ca/\((∃c v,xs=[.ref e,c]/\xK' c=some v/\kitOne K (.ref Ca) v=some b)\/∃p cs vs,xs=[.ref e,.ref p]/\H p=some (.tup cs)/\nH' cs vs/\kitAny K (.ref Ca) vs=some b)/\Q (.bl b) H
theorem nI':a8' X (.builtin "isinstance") (za' X.K):=by
 intro pins s σ H xs us Q I r h
 obtain⟨e,Ca,dx,b,he,x,hk,q⟩:=h
 have ho:go' e Ca dx s.heap:=(show av' X.prog X.w H s.heap e (eR' e Ca dx) from I.hok e _ he).1
 rcases hk with⟨c,v,rfl,hc,hb⟩|⟨p,cs,vs,rfl,hp,hc,hb⟩
 .obtain⟨u,w',rfl,r1,r2⟩:=hy' r
  have r1:u=Value.ref e:=r1
  subst r1
  rw[lh' hc r2]
  exact kia_one (lg' x) I.kIn ho hb (fun z=>nomatch z) fun tk=>⟨.bl _,H,I.tok _,rfl,q⟩
 .obtain⟨u,w',rfl,r1,r2⟩:=hy' r
  have r1:u=Value.ref e:=r1
  have r2:w'=Value.ref p:=r2
  subst r1 r2
  obtain⟨_,its,rv,o,h1,h2,⟨n,h3⟩,_⟩:=(show av' X.prog X.w H s.heap p (.tup cs) from I.hok p _ hp)
  rw[iA' hc rv]at h3
  obtain⟨oc,od,dat,osl⟩:=o
  have h2:oc=_:=h2
  have h3:dat=_:=h3
  subst h2 h3
  exact kia_tup (lg' x) I.kIn ho h1 hb (fun z=>nomatch z) fun tk=>⟨.bl _,H,I.tok _,rfl,q⟩
end
def zb':Option Int->Value->Bool
 |some k,v=>Value.isInt k v
 |none,.none=>true
 |none,_=>false
theorem a6':∀{k:Option Int} {v:Value},zb' k v=true->(∃i t,k=some i/\v=Value.int i t)\/(k=none/\v=Value.none)
 |some i,v,h=>by
  obtain⟨t,e⟩:=Value.isInt_shape (k:=i) (v:=v) h
  exact .inl ⟨i,t,rfl,e⟩
 |none,v,h=>by cases v<;>first|exact .inr ⟨rfl,rfl⟩|cases h
def okH:Option Int->Int
 |some k=>hashInt k
 |none=>0xFCA86420
def jV' (prog:Program) (w:World):PySem.KeyKind prog w (Option Int) where
 is:=zb'
 hash:=okH
 inj:=fun v a b ha hb=>by
  rcases a6' ha with⟨i,t,rfl,rfl⟩|⟨rfl,rfl⟩
  .rcases a6' hb with⟨j,u,rfl,e⟩|⟨rfl,e⟩
   .injection e with e1 _;rw[e1]
   .exact nomatch e
  .rcases a6' hb with⟨j,u,rfl,e⟩|⟨rfl,e⟩
   .exact nomatch e
   .rfl
 byValue:=fun k v h=>by
  rcases a6' h with⟨i,t,rfl,rfl⟩|⟨rfl,rfl⟩<;>rfl
 pyHash:=fun hv h=>by
  rcases a6' hv with⟨i,t,rfl,rfl⟩|⟨rfl,rfl⟩
  .exact wpAny_pyHash_int h
  .exact c2' h
 eqBool:=fun {A E s a b u v Q} hu hv h=>by
  rcases a6' hu with⟨i,t,rfl,rfl⟩|⟨rfl,rfl⟩
  .rcases a6' hv with⟨j,u,rfl,rfl⟩|⟨rfl,rfl⟩
   .have e:decide ((some i:Option Int)=some j)=(i == j):=by
     by_cases q:i=j
     .subst q;simp
     .rw[decide_eq_false (fun z=>q (Option.some.inj z)),(beq_eq_false_iff_ne.mpr q)]
    rw[e]at h
    exact wpAny_eqBool_int h
   .exact SeqAt.EqAt.int_none i t _ _ _ _ h
  .rcases a6' hv with⟨j,u,rfl,rfl⟩|⟨rfl,rfl⟩
   .exact SeqAt.EqAt.none_int j u _ _ _ _ h
   .exact SeqAt.EqAt.same .none _ _ _ _ h
 «strs»:=fun k x t v h=>by
  rcases a6' h with⟨i,u,rfl,e⟩|⟨rfl,e⟩<;>exact nomatch e
end L2
namespace PySem
open PyProof.Rows
section
variable {prog:Program} {w:World} {K:Type} [DecidableEq K] {knd:KeyKind prog w K}
variable {A:Around} {R:Result->Shared->Prop} {I:Addr} {fp wr:List Addr} {G:Array GenState->Array GenState->Prop} {n:Nat} {P:Nat->Value->Prop} {St:Nat->Shared->Prop}
end
section
variable {prog:Program} {w:World} {K:Type} [DecidableEq K] {knd:KeyKind prog w K} {A:Around} {E:Value->Shared->Prop} {s:Shared}
end
end PySem
namespace L2
open PySem PySem.Spec PyProof.Rows
section
variable {X:Cx}
def z0' (x y:Str):Bool:=decide (y.cps.toList<x.cps.toList)
def zc':R2:=fun x y H Q=>∃a b,x=.str a/\y=.str b/\Q (.bl (z0' a b)) H
theorem uh':OpR X (compareOp .Gt) zc':=by
 intro pins s σ H x y v u Q I rx ry h
 obtain⟨a,b,rfl,rfl,k⟩:=h
 obtain⟨t,rfl⟩:=rx
 obtain⟨t',rfl⟩:=ry
 exact PySem.P.gt_str ⟨.bl _,H,I,rfl,k⟩
def dSc:V->Bool
 | .int _=>true
 | .str _=>true
 | .bl _=>true
 | .non=>true
 |_=>false
def Dq (H:Hp):Nat->V->V->Prop
 |0,v,w=>v=w/\dSc v=true
 |n+1,v,w=>(v=w/\dSc v=true)\/∃a b xs ys,v=.ref a/\w=.ref b/\((H a=some (.lst xs)/\H b=some (.lst ys))\/(H a=some (.tup xs)/\H b=some (.tup ys)))/\xs.length=ys.length/\∀(i:Nat) x y,xs[i]?=some x->ys[i]?=some y->Dq H n x y
open PySem.SeqAt in
theorem ui' {A:Around} {s:Shared} {x:V} {u v:Value} (h:dSc x=true) (r1:aF' x u) (r2:aF' x v):EqAt A s u v true:=by
 have:=ek' (A:=A) (s:=s) r1 r2 (.inl (by cases x<;>first|(cases h;done)|exact⟨rfl,fun b=>by intro z;cases z⟩))
 rw[decide_eq_true rfl]at this
 exact this
theorem cC' {n:Nat}:(aD n).all (fun _=>true)=true:=by simp
theorem iB' {its:List Value} {j:Nat} {u:Value} (e:its[j]?=some u) (h:j<its.toArray.size):its.toArray[j]=u:=by grind
open PySem.SeqAt in
theorem cD' {n:Nat} {H:Hp} {A:Around} {s:Shared} {xs ys:List V} {its its2:List Value} (ih:∀x y u v,Dq H n x y->aF' x u->aF' y v->EqAt A.in1 s u v true) (hl:xs.length=ys.length) (r1:aL' xs its) (r2:aL' ys its2)
  (he:∀(i:Nat) x y,xs[i]?=some x->ys[i]?=some y->Dq H n x y):∀j (h1:j<its.toArray.size) (h2:j<its2.toArray.size),EqAt A.in1 s its.toArray[j] its2.toArray[j] ((fun _=>true) j):=by
 intro j h1 h2
 have l1:=r1.length
 have j1:j<xs.length:=by simp at h1;omega
 have j2:j<ys.length:=by omega
 have g1:xs[j]?=some xs[j]:=ac j1
 have g2:ys[j]?=some ys[j]:=ac j2
 obtain⟨u1,e1,ru1⟩:=r1.get g1
 obtain⟨u2,e2,ru2⟩:=r2.get g2
 rw[iB' e1 h1,iB' e2 h2]
 exact ih _ _ _ _ (he j _ _ g1 g2) ru1 ru2
open PySem.SeqAt in
theorem uj' {pins:List (Addr×Obj)} {σ:L2.St} {H:Hp} {s:Shared} (I:Inv X pins σ H s):∀(n:Nat) (A:Around) (x y:V) (u v:Value),A.units+n<cLine->Dq H n x y->aF' x u->aF' y v->EqAt A s u v true:=by
 intro n
 induction n with
 |zero=>
  rintro A x y u v hu ⟨rfl,hs⟩ r1 r2
  exact ui' hs r1 r2
 |succ n ih=>
  rintro A x y u v hu h rx ry
  rcases h with⟨rfl,hs⟩|⟨a,b,xs,ys,rfl,rfl,hab,hl,he⟩
  .exact ui' hs rx ry
  cases rx
  cases ry
  by_cases hne:a=b
  .subst hne;exact EqAt.same _
  have ih':∀x y u v,Dq H n x y->aF' x u->aF' y v->EqAt A.in1 s u v true:=fun x y u v=>ih A.in1 x y u v (by show A.units+1+n<cLine;omega)
  rcases hab with⟨h1,h2⟩|⟨h1,h2⟩
  .obtain⟨its,r1,pl1,_⟩:=I.list (SqL.of h1)
   obtain⟨its2,r2,pl2,_⟩:=I.list (SqL.of h2)
   have l1:=r1.length
   have l2:=r2.length
   have:=RcAt.lists pl1.isList pl2.isList (by simp;omega) (by omega) (cD' ih' hl r1 r2 he)
   rw[cC']at this
   exact EqAt.of_refs hne this
  .obtain⟨its,r1,pl1,_⟩:=I.tuple (SqT.of h1)
   obtain⟨its2,r2,pl2,_⟩:=I.tuple (SqT.of h2)
   have l1:=r1.length
   have l2:=r2.length
   have:=RcAt.tuples pl1 pl2 (by omega) (cD' ih' hl r1 r2 he)
   rw[cC']at this
   have e:(true&&its.toArray.size == its2.toArray.size)=true:=by simp;omega
   rw[e]at this
   exact EqAt.of_refs hne this
def zd':R2:=fun x y H Q=>∃a b xs ys,x=.ref a/\y=.ref b/\H a=some (.tup xs)/\H b=some (.tup ys)/\xs.length=ys.length/\LEq xs ys/\Q (.bl (decide (xs=ys))) H
open PySem.SeqAt in
theorem uk' (hu:X.A.units+64<cLine):OpR X (compareOp .Eq) zd':=by
 intro pins s σ H x y v u Q I rx ry h
 obtain⟨p,q,xs,ys,rfl,rfl,hp,hq,hl,he,k⟩:=h
 cases rx
 cases ry
 obtain⟨its,r1,pl1,_⟩:=I.tuple (SqT.of hp)
 obtain⟨its2,r2,pl2,_⟩:=I.tuple (SqT.of hq)
 have l1:=r1.length
 have l2:=r2.length
 refine eq_tupleAt (e:=fun i=>decide (xs[i]?=ys[i]?)) pl1 pl2 (by omega) (fun j h1 h2=>?_) ?_
 .have j1:j<xs.length:=by simp at h1;omega
  have j2:j<ys.length:=by omega
  have g1:xs[j]?=some xs[j]:=ac j1
  have g2:ys[j]?=some ys[j]:=ac j2
  obtain⟨u1,e1,ru1⟩:=r1.get g1
  obtain⟨u2,e2,ru2⟩:=r2.get g2
  rw[iB' e1 h1,iB' e2 h2,g1,g2]
  have e3:decide (some xs[j]=some ys[j])=decide (xs[j]=ys[j]):=by simp
  rw[e3]
  exact ek' ru1 ru2 (he j _ _ g1 g2)
 .have e4:(aD (min its.toArray.size its2.toArray.size)).all (fun i=>decide (xs[i]?=ys[i]?))=decide (xs=ys):=by
   rw[am,am,<- l1,<- l2,<- hl,Nat.min_self];exact kX' hl
  have e5:(its.toArray.size == its2.toArray.size)=true:=by simp;omega
  rw[e4,e5,Bool.and_true]
  exact⟨.bl _,H,I,rfl,k⟩
def wW' (neg:Bool):R2:=fun x y H Q=>(∃n,n<=8/\Dq H n x y/\(∃a b,x=.ref a/\y=.ref b)/\Q (.bl (!neg)) H)\/(neg=false/\zd' x y H Q)
theorem Dq.open {H:Hp} {n:Nat} {a b:Addr} (h:Dq H n (.ref a) (.ref b)):∃m xs ys,n=m+1/\((H a=some (.lst xs)/\H b=some (.lst ys))\/(H a=some (.tup xs)/\H b=some (.tup ys)))/\xs.length=ys.length/\∀(i:Nat) x y,xs[i]?=some x->ys[i]?=some y->Dq H m x y:=by
 cases n with
 |zero=>exact(ap h.2).elim
 |succ m=>
  rcases h with⟨_,hs⟩|⟨a',b',xs,ys,e1,e2,hab,hl,he⟩
  .cases hs
  .cases e1;cases e2;exact⟨m,xs,ys,rfl,hab,hl,he⟩
open PySem.SeqAt in
theorem ul' (hu:X.A.units+64<cLine):OpR X (compareOp .Eq) (wW' false):=by
 intro pins s σ H x y v u Q I rx ry h
 rcases h with h|⟨_,h⟩
 case inr=>exact uk' hu pins s σ H x y v u Q I rx ry h
 obtain⟨n,hn,hd,⟨a,b,rfl,rfl⟩,k⟩:=h
 cases rx
 cases ry
 obtain⟨m,xs,ys,rfl,hab,hl,he⟩:=hd.open
 have ih':∀x y u v,Dq H m x y->aF' x u->aF' y v->EqAt X.A.in1 s u v true:=fun x y u v=>uj' I m X.A.in1 x y u v (by show X.A.units+1+m<cLine;omega)
 rcases hab with⟨h1,h2⟩|⟨h1,h2⟩
 .obtain⟨its,r1,pl1,_⟩:=I.list (SqL.of h1)
  obtain⟨its2,r2,pl2,_⟩:=I.list (SqL.of h2)
  have l1:=r1.length
  have l2:=r2.length
  refine eq_listAt pl1.isList pl2.isList (by simp;omega) (by omega) (cD' ih' hl r1 r2 he) ?_
  rw[cC']
  exact⟨.bl true,H,I,rfl,k⟩
 .obtain⟨its,r1,pl1,_⟩:=I.tuple (SqT.of h1)
  obtain⟨its2,r2,pl2,_⟩:=I.tuple (SqT.of h2)
  have l1:=r1.length
  have l2:=r2.length
  refine eq_tupleAt pl1 pl2 (by omega) (cD' ih' hl r1 r2 he) ?_
  have e:(true&&its.toArray.size == its2.toArray.size)=true:=by simp;omega
  rw[cC',e]
  exact⟨.bl true,H,I,rfl,k⟩
open PySem.SeqAt in
theorem um' (hu:X.A.units+64<cLine):OpR X (compareOp .NotEq) (wW' true):=by
 intro pins s σ H x y v u Q I rx ry h
 rcases h with h|⟨hf,_⟩
 case inr=>cases hf
 obtain⟨n,hn,hd,⟨a,b,rfl,rfl⟩,k⟩:=h
 cases rx
 cases ry
 obtain⟨m,xs,ys,rfl,hab,hl,he⟩:=hd.open
 have ih':∀x y u v,Dq H m x y->aF' x u->aF' y v->EqAt X.A.in1 s u v true:=fun x y u v=>uj' I m X.A.in1 x y u v (by show X.A.units+1+m<cLine;omega)
 have hend:EP X pins σ Q (Value.bool false) s:=⟨.bl false,H,I,rfl,k⟩
 rcases hab with⟨h1,h2⟩|⟨h1,h2⟩
 .obtain⟨its,r1,pl1,_⟩:=I.list (SqL.of h1)
  obtain⟨its2,r2,pl2,_⟩:=I.list (SqL.of h2)
  have l1:=r1.length
  have l2:=r2.length
  obtain⟨⟨cls,dd,data,sl⟩,ho,hc,n1,hd1⟩:=pl1.isList
  obtain⟨⟨cls2,dd2,data2,sl2⟩,ho2,hc2,n2,hd2⟩:=pl2.isList
  simp only at hc hd1 hc2 hd2
  subst hc hd1 hc2 hd2
  refine richCompare_meets_room (op:=.NotEq) ⟨_,ho,rfl⟩ ⟨_,ho2,rfl⟩ F.slot_list_ne F.entry_list_ne (F.args_list_ne_2 _ _) (list_neAt a b its.toArray its2.toArray n1 n2 dd dd2 sl sl2 (by simp;omega) (fun _=>true)) ⟨ho,ho2,cD' ih' hl r1 r2 he,?_⟩ (by omega)
  rw[cC']
  exact(show Value.bool false≠Value.notImplemented/\EP X pins σ Q (Value.bool false) s from⟨(fun x=>nomatch x),hend⟩)
 .obtain⟨its,r1,pl1,_⟩:=I.tuple (SqT.of h1)
  obtain⟨its2,r2,pl2,_⟩:=I.tuple (SqT.of h2)
  have l1:=r1.length
  have l2:=r2.length
  obtain⟨⟨cls,dd,data,sl⟩,ho,hc,n1,hd1⟩:=id pl1
  obtain⟨⟨cls2,dd2,data2,sl2⟩,ho2,hc2,n2,hd2⟩:=id pl2
  simp only at hc hd1 hc2 hd2
  subst hc hd1 hc2 hd2
  refine richCompare_meets_room (op:=.NotEq) ⟨_,ho,rfl⟩ ⟨_,ho2,rfl⟩ F.slot_tuple_ne F.entry_tuple_ne (F.args_tuple_ne_2 _ _) (tuple_neAt a b its.toArray its2.toArray n1 n2 dd dd2 sl sl2 (fun _=>true)) ⟨ho,ho2,cD' ih' hl r1 r2 he,?_⟩ (by omega)
  have e:(true&&its.toArray.size == its2.toArray.size)=true:=by simp;omega
  rw[cC',e]
  exact(show Value.bool false≠Value.notImplemented/\EP X pins σ Q (Value.bool false) s from⟨(fun x=>nomatch x),hend⟩)
end
end L2
namespace HT
open PySem PyProof.Rows
open PySem.SeqAt
open PySem.MeetsSeq PySem.MeetsSeq2 PySem.MeetsSeq3
section
variable {prog:Program} {w:World} {A:Around} {E:Value->Shared->Prop} {s:Shared}
theorem nJ' {t b:Addr} {ws:List Value} {Q:Value->Shared->Prop} (ht:IsTup s.heap t #[]) (hb:IsTup s.heap b ws.toArray) (h0:Q (.ref b) s):wpAny (model prog w) A (binaryOp .Add (.ref t) (.ref b)) Q E s:=by
 obtain⟨⟨cls,dd,data,sl⟩,ho,hc,n,hd⟩:=id ht
 obtain⟨⟨cls2,dd2,data2,sl2⟩,ho2,hc2,n2,hd2⟩:=id hb
 simp only at hc hd hc2 hd2
 subst hc hd hc2 hd2
 exact concat_meets ⟨_,ho,rfl⟩ ⟨_,ho2,rfl⟩ noFill_tuple_add seq_tuple_add PySem.F.slot_tuple_add PySem.F.entry_tuple_add (PySem.F.args_tuple_add_2 _ _)
  (tuple_addW0 t b #[] ws.toArray n n2 dd dd2 sl sl2 rfl) ⟨ho,ho2,h0⟩
end
end HT
namespace L2
open PySem PySem.Spec PyProof.Rows
section
variable {X:Cx}
def pd' (K:W.Frag):R2:=fun x y H Q=>∃a b ys,x=.ref a/\y=.ref b/\SqT K H a []/\SqT K H b ys/\Q (.ref b) H
theorem nK':OpR X (binaryOp .Add) (pd' X.K):=by
 intro pins s σ H x y v u Q I rx ry h
 obtain⟨a,b,ys,rfl,rfl,ha,hb,q⟩:=h
 cases rx
 cases ry
 obtain⟨its,r1,p1,_⟩:=I.tuple ha
 obtain⟨its2,r2,p2,_⟩:=I.tuple hb
 have e:its=[]:=r1.nil_iff.mpr rfl
 subst e
 exact HT.nJ' p1 p2 ⟨.ref b,H,I,rfl,q⟩
end
end L2
namespace L2
open PySem PySem.Spec PyProof.Rows PySem.Calls PySem.NumText
def B2 (x:PySem.Str) (n:Int):Prop:=(x.cps.all (· < 128))=true/\(x.cps.toList.takeWhile (· != 0)).length<=640/\(int_private% "readNumeral") 0 2 (x.cps.toList.takeWhile (· != 0))=(int_private% "Numeral.value") n/\((x.cps.toList.takeWhile (· != 0)).length == x.cps.toList.length)=true
theorem nL' {M:Model} {A:Around} {E:Value->Shared->Prop} {s:Shared} {Q:Value->Shared->Prop} {v:Value} {text:List Nat} {n:Int}
  (hs:(text.takeWhile (· != 0)).length<=640) (hr:(int_private% "readNumeral") 0 2 (text.takeWhile (· != 0))=(int_private% "Numeral.value") n)
  (ha:((text.takeWhile (· != 0)).length == text.length)=true) (h:Q (.int n s.toks) { s with toks:=s.toks+1 }):
  wpAny M A ((int_private% "intFromText") v text 2) Q E s:=by
 obtain⟨hp,g,d,tk,os⟩:=s
 repeat (any_goals (first
  |assumption
  |(with_reducible refine wpAny_ite_true (decide_eq_true hs) ?_)
  |(with_reducible refine wpAny_ite_true (decide_eq_true ha) ?_)
  |wp_step))
 all_goals (try rw[hr])
 all_goals (try dsimp only)
 repeat (any_goals (first
  |assumption
  |(with_reducible refine wpAny_ite_true (decide_eq_true hs) ?_)
  |(with_reducible refine wpAny_ite_true (decide_eq_true ha) ?_)
  |wp_step))
set_option maxHeartbeats 4000000 in
theorem hL' {x:PySem.Str} {u v:Tok} {n:Int} (hb:B2 x n):Gives (Builtin.«int.__new__» ⟨[.type "int",.str x u,.int 2 v],[]⟩) (.int n):=
 .of_wp fun M A E s Q h=>by
  obtain⟨hp,g,d,tk,os⟩:=s
  have f1:=F.conv_sub_int
  have f2:=F.madeHere_int
  have f6:typeOf (.str x u)=pure (.type "str"):=rfl
  have hk:=W.KIN.Hid.mk hb
  clear hb
  repeat (any_goals (first
   |assumption
   |((with_reducible show wpAny _ _ ((int_private% "intFromText") _ _ _) _ _ _);rw[if_pos hk.out.1];refine nL' hk.out.2.1 hk.out.2.2.1 hk.out.2.2.2 ?_)
   |wp_step))
  all_goals first|exact⟨_,rfl,h⟩|skip
theorem eS' (a b:Value):checkTypeCall "int" ⟨[a,b],[]⟩=pure ():=by kernel_rfl
theorem fE' (a b:Value):checkBuiltinCall "int.__new__" ⟨[.type "int",a,b],[]⟩=pure ():=by kernel_rfl
section
variable {X:Cx}
def un':List V->Hp->VK->Prop:=fun xs H Q=>∃x n,xs=[.str x,.int 2]/\B2 x n/\Q (.int n) H
theorem li':a8' X (.type "int") un':=by
 intro pins s σ H xs us Q I r h
 obtain⟨x,n,rfl,hb,q⟩:=h
 obtain⟨u,v,rfl,⟨t,rfl⟩,⟨t',rfl⟩⟩:=hy' r
 exact callType_new F.called_int F.newNe_int (eS' _ _) (fE' _ _) (fun obj=>F.args_object_init_3 obj _ _) F.entry_int_new (hL' hb).meets (show(Made.int n).post _ s from⟨rfl,⟨.int n,H,I.tok _,⟨_,rfl⟩,q⟩⟩)
theorem lj':a8' X (.type "int") (fun xs H Q=>y3' xs H Q\/un' xs H Q):=kQ'.or li'
end
section
variable {X:Cx}
end
end L2
namespace PySem
open PyProof.Rows
def Heap.IsRvd (h:Heap) (a t:Addr) (i:Int):Prop:=∃o,h.get? a=some o/\o.cls=.type "reversed"/\o.data=.fields #[.ref t,rawInt i]
theorem Heap.IsRvd.at {h h':Heap} {a t:Addr} {i:Int} (x:h.IsRvd a t i) (e:∀o,h.get? a=some o->h'.get? a=some o):h'.IsRvd a t i:=let⟨o,ho,r⟩:=x;⟨o,e _ ho,r⟩
section
variable {prog:Program} {w:World} {A:Around} {E:Value->Shared->Prop} {s:Shared}
theorem Heap.IsRvd.typeIs {a t:Addr} {i:Int} (x:s.heap.IsRvd a t i):s.TypeIs (.ref a) "reversed":=let⟨o,ho,hc,_⟩:=x;⟨o,ho,hc⟩
end
section
variable {prog:Program} {w:World} {A:Around} {E:Value->Shared->Prop} {s:Shared}
end
section
variable {prog:Program} {w:World} {A:Around} {E:Value->Shared->Prop} {s:Shared}
end
end PySem
namespace PySem
open PyProof.Rows
def Heap.IsSti (h:Heap) (a d:Addr) (f:Value) (i n ep:Nat):Prop:=∃o,h.get? a=some o/\o.cls=.type "set_iterator"/\o.data=.fields #[f,rawInt i,.ref d,rawInt n,rawInt ep]
theorem Heap.IsSti.at {h h':Heap} {a d:Addr} {f:Value} {i n ep:Nat} (x:h.IsSti a d f i n ep) (e:∀o,h.get? a=some o->h'.get? a=some o):h'.IsSti a d f i n ep:=let⟨o,ho,r⟩:=x;⟨o,e _ ho,r⟩
def Ord (bt:Bool) (w:World) (d ep:Nat) (es:Array (Int×Value)) (t:SetTable) (xs:Array Value) (h:Heap) (f:Value) (i:Nat):Prop:=
 (bt=true/\f=rawInt 0/\xs=(pickOrder (w.params.setOrder d ep) es).map (·.2))\/
 (bt=false/\(!t.plain&&decide (es.size > 1))=false/\Rsn t.place/\f=rawInt (if i=0 then 0 else((t.place.getD (i-1) 0+1:Nat):Int))/\xs=es.map (·.2))\/
 (bt=false/\∃(T:Addr) (pl:Array Nat),f=.ref T/\IsTup h T (pl.map fun(j:Nat)=>rawInt j)/\xs.size=pl.size/\∀(j p:Nat),pl[j]?=some p->∃x:Int×Value,es[p]?=some x/\xs[j]?=some x.2)
section
variable {prog:Program} {w:World} {A:Around} {E:Value->Shared->Prop} {s:Shared}
theorem Heap.IsSti.typeIs {a d:Addr} {f:Value} {i n ep:Nat} (x:s.heap.IsSti a d f i n ep):s.TypeIs (.ref a) "set_iterator":=let⟨o,ho,hc,_⟩:=x;⟨o,ho,hc⟩
theorem iC' {α:Type}:∀(l:List α) (i:Nat) (h:i<l.length),(l[i] :: l.eraseIdx i).Perm l
 |a :: l,0,h=>List.Perm.refl _
 |a :: l,i+1,h=>by
  rw[List.eraseIdx_cons_succ,List.getElem_cons_succ]
  exact(List.Perm.swap a _ _).trans ((iC' l i (by simpa using h)).cons a)
theorem lk' {α:Type} (f:Nat->Nat):∀(n k:Nat) (l:List α) (out:Array α),n=l.length->(pickOrder.go f n k l out).toList.Perm (out.toList++l)
 |0,k,l,out,e=>by
  have:l=[]:=List.length_eq_zero_iff.mp e.symm
  subst this
  unfold pickOrder.go
  simp
 |n+1,k,l,out,e=>by
  unfold pickOrder.go
  have hl:f k % l.length<l.length:=Nat.mod_lt _ (by omega)
  rw[ac hl]
  dsimp only
  refine(lk' f n (k+1) _ _ (by rw[List.length_eraseIdx_of_lt hl];omega)).trans ?_
  rw[Array.toList_push,aO]
  refine List.Perm.append_left _ ?_
  rw[List.singleton_append]
  exact iC' l _ hl
theorem uo' {α:Type} (f:Nat->Nat) (xs:Array α):(pickOrder f xs).toList.Perm xs.toList:=by
 have:=lk' f xs.size 0 xs.toList #[] (by simp)
 simpa[pickOrder]using this
end
end PySem
namespace PySem
open PyProof.Rows
section
variable {prog:Program} {w:World} {A:Around} {E:Value->Shared->Prop} {s:Shared}
end
end PySem
namespace PySem
open PyProof.Rows
section
variable {prog:Program} {w:World}
variable {A:Around} {E:Value->Shared->Prop} {s:Shared}
end
end PySem
namespace L2
open PySem PySem.Spec PyProof.Rows
def eq' {α:Type} (own:List Nat) (wi:TI) (g:TG) (tc:TT) (as':TL α) (a0:α) (ho:Addr->α->HO) (ok:α->Hp->Prop):TE:=fun σ H Q=>wi σ H fun J H1=>a9' own g tc as' J σ a0 H1 fun xs H2=>ok xs H2/\∀p,H2 p=none->Q (.ref p) (upd H2 p (ho p xs))
structure CompInG {α:Type} (Is:α->Obj->Prop) (X:Cx) (e:Expr) (scope:Scope) (tg:Expr) (iter:Expr) (ifs:List Expr) (nx:Addr->Env->Sem Unit) (g:TG) (tc:TT) (as':TL α) (own:List Nat):Prop where
 sc:CompSc X scope
 ow:∀i x,X.N[i]?=some x->(scope.names.lookup x=some .local\/scope.names.lookup x=some .cell)->i∈own
 cl:∃gs,clausesOf e=⟨tg,iter,ifs,0⟩ :: gs
 fs:∀x,foldedSetIterable iter X.env x=pure x
 calm:X.calm=true
 q:∀it D env,(Code.compLoop e 0 it (.ref D) env).quiet=true/\(Code.compStart e 0 it (.ref D) env).quiet=true
 u:∀A it D env,Around.under A (Code.compLoop e 0 it (.ref D) env)=A/\Around.under A (Code.compStart e 0 it (.ref D) env)=A
 T:∀P w it D env,(model P w).den (.compLoop e 0 it (.ref D) env)=(a5' e 0 tg iter ifs (nx D env) it (.ref D) env).onRaise (fun x=>do noteFrame x env;theTreesLotGoes x)
 S:∀P w it D env,(model P w).den (.compStart e 0 it (.ref D) env)=(compStart e 0 it (.ref D) env).onRaise (fun x=>do noteFrame x env;standAt theWindowsPlace)
 ge:td' own g
 inn:∀s0 H0 ex D,PG (X.comp scope s0 H0 ex) tg g/\PTs (X.comp scope s0 H0 ex) ifs tc/\∃ws',(∀j∈ws',j∈own)/\b9' (X.comp scope s0 H0 ex) D Is ws' (nx D (X.comp scope s0 H0 ex).env) as'
section
variable {X:Cx} {e:Expr} {scope:Scope} {tg iter:Expr} {ifs:List Expr} {nx:Addr->Env->Sem Unit} {g:TG} {tc:TT} {α:Type} {Is:α->Obj->Prop} {as':TL α} {own:List Nat} {wi:TI} {a0:α} {o0:Bool->Obj} {newAcc:Sem Value} {ho:Addr->α->HO} {ok:α->Hp->Prop}
theorem gq' (hnew:∀(s:Shared) (Q:Value->Shared->Prop),(∀led,Q (.ref s.heap.objs.size) { s with heap:=s.heap.push (o0 led) })->wpAny (model X.prog X.w) X.A newAcc Q X.xe s) (hfr:∀led,(o0 led).isFreed=false) (ha0:∀led,Is a0 (o0 led)) (hda:∀(a:α) (o:Obj),Is a o->∀v:Option Value,o.data≠.cell v) (C:CompInG Is X e scope tg iter ifs nx g tc as' own) (hi:PI X tg iter wi) {pins:List (Addr×Obj)} {s:Shared} {σ:St} {H:Hp} {R:V->Hp->Prop} (I:Inv X pins σ H s) (hw:eq' own wi g tc as' a0 ho ok σ H R)
  {use:Option (Value->Sem Unit)} {Q:Value->Shared->Prop} {pos:Pos}
  (fin:∀(s3 s':Shared) (H0 H':Hp) (ex:List Addr) (D:Addr) (xs:α) (o:Obj) (σ':St),Inv X pins σ H0 s3->(∀b∈ex,c1' X pins H0 b)->Inv (X.comp scope s3 H0 ex) [] σ' H' s'->s'.heap.get? D=some o->D<s3.heap.objs.size->X.s₀.heap.objs.size<=D->c1' X pins H0 D->(D == sysModules)=false->Is xs o->H' D=none->ok xs H'->R (.ref D) (upd H' D (ho D xs))->
   compPost (model X.prog X.w) X.A X.xe use Q (.ref D) s3.heap.objs.size (.ok .next) s'):
  wpAny (model X.prog X.w) X.A (comprehension e scope X.env pos newAcc false (eval iter X.env) use) Q X.xe s:=by
 obtain⟨gs,hcl⟩:=C.cl
 refine wpAny_comprehension_free hcl C.fs (kO' fun n hn=>I.ok.has n (C.sc.free n hn)) C.sc.kind C.sc.names ?_
 refine thn (hi pins s σ H _ I hw) fun v s1 h1=>thn h1 fun itv s2 h2=>?_
 obtain⟨it,fp,tn,J,H2,rfl,I2,T,st2,f2,hc⟩:=h2
 refine hnew _ _ fun led=>c6' ?_
 have keep:∀b o,s2.heap.get? b=some o->(s2.heap.push (o0 led)).get? b=some o:=fun b o e=>ag _ e
 have I3:Inv X pins σ H2 { s2 with heap:=s2.heap.push (o0 led) }:=I2.kept (t':=s2.toks) keep
 have hsz:(s2.heap.push (o0 led)).objs.size=s2.heap.objs.size+1:=bu ..
 have fD:c1' X pins H2 s2.heap.objs.size:=I2.fpOk (al _) (I2.hok.fresh (al _))
 have hlt:∀b∈fp,b<s2.heap.objs.size:=fun b hb=>by
  obtain⟨o,e,_⟩:=T.obj _ _ st2 b hb
  exact av e
 have hDf:s2.heap.objs.size∉fp:=fun z=>bg _ (hlt _ z)
 have hex:∀b∈s2.heap.objs.size :: fp,c1' X pins H2 b:=fun b hb=>by
  rcases aq.mp hb with rfl|hb
  .exact fD
  .exact f2 b hb
 generalize hs3:({ s2 with heap:=s2.heap.push (o0 led) }:Shared)=s3 at *
 have hs3s:s3.heap.objs.size=s2.heap.objs.size+1:=by rw[<- hs3];exact hsz
 have hlt3:∀b∈s2.heap.objs.size :: fp,b<s3.heap.objs.size:=fun b hb=>by
  rw[hs3s]
  rcases aq.mp hb with rfl|hb
  .exact Nat.lt_succ_self _
  .exact Nat.lt_succ_of_lt (hlt b hb)
 have J0:=e1' (own:=own) I3 hex hlt3 C.sc C.ow
 obtain⟨c1,c2,ws',c4,c5⟩:=C.inn s3 H2 (s2.heap.objs.size :: fp) s2.heap.objs.size
 have kp:∀b o,s2.heap.get? b=some o->(be' s3.heap scope.names).get? b=some o:=fun b o e=>pushCells_keeps _ _ b o (ag _ (by rw[<- hs3];exact keep b o e))
 have oD:(be' s3.heap scope.names).get? s2.heap.objs.size=some (o0 led):=pushCells_keeps _ _ _ _ (ag _ (by rw[<- hs3];exact ax _ (hfr led)))
 have stat:∀b∈s2.heap.objs.size :: fp,c1' (X.comp scope s3 H2 (s2.heap.objs.size :: fp)) [] H2 b:=fun b hb=>
  ⟨(hex b hb).1,(J0.ok.exf b hb).1,J0.ok.exfs b hb,.inl hb,(J0.ok.exf b hb).2,fun p hp=>absurd (show p∈([]:List (Addr×Obj)) from hp) (by simp)⟩
 have T':Turn (X.comp scope s3 H2 (s2.heap.objs.size :: fp)).prog (X.comp scope s3 H2 (s2.heap.objs.size :: fp)).w (X.comp scope s3 H2 (s2.heap.objs.size :: fp)).K tg J fp it tn:=T
 have hc':a9' own g tc as' J (clr own σ) a0 H2 (fun xs H2=>ok xs H2/\∀p,H2 p=none->R (.ref p) (upd H2 p (ho p xs))):=by
  obtain⟨W,w0,turn⟩:=hc
  refine⟨W,w0,?_⟩
  rw[ir']
  exact turn
 have st3:tn 0 ({ s3 with heap:=be' s3.heap scope.names }:Shared).heap:=T.keep _ _ _ st2 fun b hb o e=>kp b o e
 have L:=eg' (X:=X.comp scope s3 H2 (s2.heap.objs.size :: fp)) (Is:=Is) (D:=s2.heap.objs.size) rfl C.calm (C.q _ _ _).1 (C.u _ _ _ _).1 (C.T _ _ _ _ _) T' c1 C.ge c2 c5 c4 hda hDf J0
  (fun b hb=>stat b (ar _ hb)) (stat _ aw) oD (ha0 led) st3 hc'
 have L2:=fv' (C.q _ _ _).2 (C.u _ _ _ _).2 (fun it'=>(C.q it' _ _).1) (C.S _ _ _ _ _) ⟨_,by rw[hcl];rfl,rfl⟩ L (fun E=>T.self _ 0 _ _ E st3 ⟨rfl,rfl⟩)
 refine codeAny_mono L2 fun r s' h=>?_
 obtain⟨rfl,xs,o',H',J',e',is',n',hN⟩:=h
 exact fin s3 s' H2 H' _ _ xs o' _ I3 hex J' e' (hlt3 _ aw) I2.sz fD (beq_eq_false_iff_ne.mpr (bq I2.big)) is' n' hN.1 (hN.2 _ n')
end
section
variable {X:Cx} {e:Expr} {scope:Scope} {tg iter:Expr} {ifs:List Expr} {nx:Addr->Env->Sem Unit} {g:TG} {tc:TT} {α:Type} {Is:α->Obj->Prop} {as':TL α} {own:List Nat} {wi:TI} {a0:α} {o0:Bool->Obj} {newAcc:Sem Value} {ho:Addr->α->HO} {ok:α->Hp->Prop}
theorem nM' (hnew:∀(s:Shared) (Q:Value->Shared->Prop),(∀led,Q (.ref s.heap.objs.size) { s with heap:=s.heap.push (o0 led) })->wpAny (model X.prog X.w) X.A newAcc Q X.xe s) (hfr:∀led,(o0 led).isFreed=false) (ha0:∀led,Is a0 (o0 led)) (hda:∀(a:α) (o:Obj),Is a o->∀v:Option Value,o.data≠.cell v)
  (hfin:∀(a:α) (o:Obj) (D:Addr) (H:Hp) (h:Heap),Is a o->h.get? D=some o->(D == sysModules)=false->H D=none->ok a H->HOk X.prog X.w H h->av' X.prog X.w (upd H D (ho D a)) h D (ho D a)) (C:CompInG Is X e scope tg iter ifs nx g tc as' own) (hi:PI X tg iter wi) {pos:Pos} (he:eval e X.env=comprehension e scope X.env pos newAcc false (eval iter X.env)):PE X e (eq' own wi g tc as' a0 ho ok):=by
 intro pins s σ H Q I hw
 rw[he]
 refine gq' hnew hfr ha0 hda C hi I hw fun s3 s' H0 H' ex D xs o σ' I3 hex J e' hlt h0 fD sy is' n' hok' hR=>?_
 obtain⟨m,hn,_⟩:=J.loc
 refine⟨m,hn,fun h' hs=>?_⟩
 have J2:=dS' I3 hex J hs
 have neC:D≠s3.heap.objs.size:=aB hlt
 refine⟨.ref D,upd H' D (ho D xs),J2.track (o:=ho D xs) ⟨n',fD.2⟩ h0 (hfin xs o D H' _ is' ((hs.2 D neC).trans e') sy n' hok' J2.hok),rfl,hR⟩
theorem hM' (hnew:∀(s:Shared) (Q:Value->Shared->Prop),(∀led,Q (.ref s.heap.objs.size) { s with heap:=s.heap.push (o0 led) })->wpAny (model X.prog X.w) X.A newAcc Q X.xe s) (hfr:∀led,(o0 led).isFreed=false) (ha0:∀led,Is a0 (o0 led)) (hda:∀(a:α) (o:Obj),Is a o->∀v:Option Value,o.data≠.cell v)
  (hfin:∀(a:α) (o:Obj) (D:Addr) (H:Hp) (h:Heap),Is a o->h.get? D=some o->(D == sysModules)=false->H D=none->ok a H->HOk X.prog X.w H h->av' X.prog X.w (upd H D (ho D a)) h D (ho D a)) (C:CompInG Is X e scope tg iter ifs nx g tc as' own) (hi:PI X tg iter wi) {i:Nat} {y:Str} {py pos pos2:Pos} (hN:X.N.Nodup) (hy:X.N[i]?=some y) (hx:Loc X.env.scope y) (hf:X.fn y=true\/X.env.scope.names.lookup y=some .local)
  (he:evalThenUse e X.env (assign (.Name y py) X.env)=(do let _ <- comprehension e scope X.env pos2 newAcc false (eval iter X.env) (some (assign (.Name y py) X.env))))
  (hsw:swapsWith e (some (.Name y py)) pos.line X.env=pure true):PS X (.Assign [.Name y py] e pos) (kj' (eq' own wi g tc as' a0 ho ok) (c4' i)):=by
 intro pins s σ H D I hw
 rw[exec_Assign_Name_used _ _ _ _ hsw]
 refine aa (bo (aa ?_))
 rw[he]
 refine aa (thn (Q:=fun _ s'=>SP X pins D .next s') (gq' hnew hfr ha0 hda C hi I hw fun s3 s' H0 H' ex D' xs o σ' I3 hex J e' hlt h0 fD sy is' n' hok' hR=>?_) fun _ s' q=>ae (ae q))
 obtain⟨m,hn,_⟩:=J.loc
 have J2:Inv X pins σ H' s':=dS' I3 hex J (Heap.SameBut.refl ..)
 have neC:D'≠s3.heap.objs.size:=aB hlt
 have J3:Inv X pins σ (upd H' D' (ho D' xs)) s':=J2.track ⟨n',fD.2⟩ h0 (hfin xs o D' H' _ is' e' sy n' hok' J2.hok)
 have fC:c1' X pins H0 s3.heap.objs.size:=I3.fpOk (al _) (I3.hok.fresh (al _))
 refine wpAny_assign_Name (c3' J3 hN hy hx (v:=.ref D') rfl (fun s'' J4 hs=>?_) hf)
 obtain⟨a,hsa,ha⟩:=hs
 have haC:s3.heap.objs.size≠a:=by
  rcases ha with rfl|ha
  .exact fC.2.1
  .exact fun q=>fC.2.2.2.2.1 _ _ ha q.symm
 have hn':s'.heap.Ns s3.heap.objs.size m:=hn
 refine⟨m,hn'.sameBut hsa haC,fun h' hs'=>?_⟩
 have J5:Inv X pins (σ.set i (some (.ref D'))) (upd H' D' (ho D' xs)) { s'' with heap:=h' }:=J4.turned (it:=s3.heap.objs.size) (t':=s''.toks) (fun b ob hb q=>(hs'.2 b hb).trans q) (by rw[ad' (Ne.symm neC)];exact J.free) fC.2.1 fC.2.2.2.1 fC.2.2.2.2.1 fC.2.2.2.2.2
 exact⟨_,_,J5,hR⟩
end
def kO:Option Int->V
 |some i=>.int i
 |none=>.non
theorem jW' {P:Program} {w:World} {k:Option Int} {u:Value} (r:aF' (kO k) u):(jV' P w).is k u=true/\u.scannable=true:=by
 cases k with
 |none=>cases r;exact⟨rfl,rfl⟩
 |some i=>
  obtain⟨t,rfl⟩:=r
  exact⟨by show Value.isInt i (.int i t)=true;simp[Value.isInt],rfl⟩
def IsS (a:(Option Int->Bool)×Nat) (o:Obj):Prop:=a.2<=4000/\(∃es ep t,o.data=.set es ep t)/\∃m,m<=a.2/\∀(P:Program) (w:World),o.SetObjOf (jV' P w) a.1 m
theorem pe' {P:Program} {w:World} {S:Option Int->Bool} {n m:Nat} {o:Obj} (h:o.SetObjOf (jV' P w) S m) (hm:m<=n) (hn:n<=4000):IsS (S,n) o:=⟨hn,⟨_,_,_,h.2.choose_spec.choose_spec.choose_spec.1⟩,m,hm,fun P' w'=>h.transport (knd':=jV' P' w') rfl rfl⟩
theorem fF' (a:(Option Int->Bool)×Nat) (o:Obj) (h:IsS a o) (v:Option Value):o.data≠.cell v:=by
 obtain⟨_,⟨es,ep,t,hd⟩,_⟩:=h
 rw[hd]
 exact fun z=>nomatch z
def e4' (D:Addr) (S:Option Int->Bool) (n:Nat):HO:=.ext fun h=>∃o,h.get? D=some o/\IsS (S,n) o
theorem ll' {P:Program} {w:World} {H:Hp} {h:Heap} {D:Addr} {S:Option Int->Bool} {n:Nat} {o:Obj} (e:h.get? D=some o) (i:IsS (S,n) o):av' P w H h D (e4' D S n):=
 ⟨⟨o,e,i⟩,⟨o,e⟩,fun h1 h2 ⟨o',e',i'⟩ k=>⟨o',k o' e',i'⟩⟩
section
variable {X:Cx}
theorem lm' {s:Shared} {D:Addr} {a:(Option Int->Bool)×Nat} {o:Obj} (e:s.heap.get? D=some o) (i:IsS a o):∃m,m<=a.2/\s.heap.SetOf (jV' X.prog X.w) D a.1 m:=by
 obtain⟨hn,_,m,hm,h⟩:=i
 exact⟨m,hm,(h X.prog X.w).setOf e (bx (aF hm hn) (by decide))⟩
def wX' (neg:Bool):R2:=fun x y H Q=>∃k D S n,x=kO k/\y=.ref D/\H D=some (e4' D S n)/\Q (.bl (if neg then !(S k)else S k)) H
theorem up':OpR X (compareOp .In) (wX' false):=by
 intro pins s σ H x y v u Q I rx ry h
 obtain⟨k,D,S,n,rfl,rfl,hD,q⟩:=h
 cases ry
 obtain⟨o,e,i⟩:=(show av' X.prog X.w H s.heap D (e4' D S n) from I.hok D _ hD).1
 obtain⟨m,_,hS⟩:=lm' (X:=X) e i
 exact wpAny_inSet_of (jW' rx).1 (jW' (P:=X.prog) (w:=X.w) rx).2 hS ⟨.bl (S k),H,I.tok _,rfl,q⟩
theorem ln':OpR X (compareOp .NotIn) (wX' true):=by
 intro pins s σ H x y v u Q I rx ry h
 obtain⟨k,D,S,n,rfl,rfl,hD,q⟩:=h
 cases ry
 obtain⟨o,e,i⟩:=(show av' X.prog X.w H s.heap D (e4' D S n) from I.hok D _ hD).1
 obtain⟨m,_,hS⟩:=lm' (X:=X) e i
 exact wpAny_notInSet_of (jW' rx).1 (jW' (P:=X.prog) (w:=X.w) rx).2 hS ⟨.bl (!S k),H,I.tok _,rfl,q⟩
def inL (ns:List Int):Option Int->Bool
 |some i=>ns.contains i
 |none=>false
def pf' (K:W.Frag):List V->Hp->VK->Prop:=fun xs H Q=>∃a ns,xs=[.ref a]/\SqL K H a (ns.map V.int)/\ns.length<=3999/\∀p,H p=none->Q (.ref p) (upd H p (e4' p (inL ns) ns.length))
theorem lo' (hc:X.calm=true):a8' X (.type "set") (pf' X.K):=by
 intro pins s σ H xs us Q I rv h
 obtain⟨a,ns,rfl,hs,hl,q⟩:=h
 cases rv with
 |cons r1 rv=>
  cases rv
  cases r1
  obtain⟨its,r,pl,hz⟩:=I.list hs
  have hlen:=r.length
  rw[ai]at hlen
  refine call_set_list (I.ok.hd hc) pl.isList (dr' r) (by rw[am,<- hlen];exact bx (Nat.succ_le_succ hl) (by decide)) fun h' tk hS hk=>?_
  have hn:H s.heap.objs.size=none:=I.hok.fresh (al _)
  obtain⟨o,ho,hso⟩:=hS.objOf
  have fl:=firstMet_length_le (fun i=>ns.getD i 0) its.toArray.size
  have key:o.SetObjOf (jV' X.prog X.w) (inL ns) (firstMet (fun i=>ns.getD i 0) its.toArray.size).length:=by
   obtain⟨hex,es,ep,t,hd,hel,hmem,hsz,hf⟩:=hso
   refine⟨hex,es,ep,t,hd,fun e he=>?_,fun k=>?_,hsz,hf⟩
   .obtain⟨⟨j,hj,hh⟩,hsc⟩:=hel e he
    exact⟨⟨some j,hj,hh⟩,hsc⟩
   .cases k with
    |none=>
     constructor
     .intro z;cases z
     .rintro⟨e,he,hi⟩
      obtain⟨⟨j,hj,hh⟩,hsc⟩:=hel e he
      obtain⟨t',et⟩:=Value.isInt_shape hj
      rw[et]at hi
      cases hi
    |some i=>
     have:=hmem i
     dsimp only at this
     rw[firstMet_any]at this
     refine Iff.trans ?_ this
     show ns.contains i=true↔_
     have en:(aD its.toArray.size).map (fun i=>ns.getD i 0)=ns:=by
      rw[am,<- hlen]
      apply List.ext_getElem?
      intro j
      rw[az]
      by_cases hj:j<ns.length
      .rw[br hj]
       simp[List.getD,hj]
      .rw[aX.mpr (by simpa using hj),aX.mpr (by omega)]
       rfl
     rw[en,List.contains_eq_any_beq]
     constructor
     .intro z
      rw[List.any_eq_true]at z ⊢
      obtain⟨x,hx,e⟩:=z
      exact⟨x,hx,by rw[beq_iff_eq]at e ⊢;exact e.symm⟩
     .intro z
      rw[List.any_eq_true]at z ⊢
      obtain⟨x,hx,e⟩:=z
      exact⟨x,hx,by rw[beq_iff_eq]at e ⊢;exact e.symm⟩
  refine⟨.ref s.heap.objs.size,_,I.laid (t':=tk) (fun b o hb=>hk b o (av hb) hb) (al _) (o:=e4' s.heap.objs.size (inL ns) ns.length) (ll' ho (pe' key (aF fl (by rw[am,hlen];exact al _)) (by omega))),rfl,q _ hn⟩
def gr' (te:TE):TL ((Option Int->Bool)×Nat):=fun σ a H N=>te σ H fun v H'=>∃k,v=kO k/\a.2<4000/\N (fun j=>a.1 j || decide (j=k),a.2+1) H'
theorem lp' {D:Addr} {elt:Expr} {te:TE} (hxe:X.xe=fun _ _=>False) (he:PE X elt te):b9' X D IsS [] (do let v <- eval elt X.env;standAt elt.pos;let _ <- call (.builtin "set.add") [.ref D,v]) (gr' te):=by
 intro pins s σ H a o N I hD ho hi hq
 have I1:Inv X (pins++bR' [D] s.heap) σ H s:=I.pinned (fun b hb=>by
  have e:b=D:=by simpa using hb
  subst e
  exact hD) (fun b hb=>by
  have e:b=D:=by simpa using hb
  subst e
  exact⟨o,ho,fF' _ _ hi⟩)
 have h1:=he _ s σ H _ I1 hq
 rw[hxe]at h1
 refine aa (thn h1 fun u s1 ⟨v,H1,J1,r1,k,ek,z1,n1⟩=>?_)
 subst ek
 have q1:=J1.pin (D,o) (aj _ (aj _ (aM' (by simp) ho)))
 obtain⟨m,hm,hS⟩:=lm' (X:=X) q1.1 hi
 refine aa (bo (aa (call_set_add (jW' r1).1 (jW' (P:=X.prog) (w:=X.w) r1).2 hS (bx (Nat.succ_le_of_lt (bx hm z1)) (by decide)) fun h' hs hS'=>?_)))
 obtain⟨_,f1,f2,f3,f4,f5⟩:=hD
 obtain⟨o',ho',hso⟩:=hS'.objOf
 have J2:Inv X pins σ H1 { s1 with heap:=h',toks:=s1.toks+1 }:=J1.unpinned.turned (it:=D) (t':=s1.toks+1) (fun b o hb e=>(hs.2 b hb).trans e) q1.2.1 f1 f3 f4 f5
 exact ae ⟨σ,_,o',H1,J2,Ext.refl,ho',pe' hso (by split<;>omega) (by omega),q1.2.1,n1⟩
theorem rt' {A:Around} {E:Value->Shared->Prop} (s:Shared) (Q:Value->Shared->Prop) (h:∀led,Q (.ref s.heap.objs.size) { s with heap:=s.heap.push { cls:=.type "set",dict:=none,data:=.set #[] 0 (.fresh 0 0 led) } }):wpAny (model X.prog X.w) A (newSet (.type "set")) Q E s:=by
 unfold newSet setsByText
 refine aa (aa (wpAny_askSetting (ae ?_)))
 exact bc (h _)
theorem nN' (led:Bool):IsS (fun _=>false,0) { cls:=.type "set",dict:=none,data:=.set #[] 0 (.fresh 0 0 led) }:=⟨aT _,⟨_,_,_,rfl⟩,0,al _,fun _ _=>setObjOf_fresh led⟩
end
abbrev NH:Int:=0xFCA86420
section
variable {prog:Program} {w:World} {A:Around} {E:Value->Shared->Prop} {s:Shared}
theorem gs' {d:Addr} {o:Obj} {es:Array DictEntry} {ep:Nat} {Q:Option Nat->Shared->Prop} (ho:s.heap.get? d=some o) (hd:o.data=.dict es ep) (hno:∀e∈es.toList,e.hash≠NH) (h:Q none s):
  wpAny (model prog w) A (dictFind d .none NH) Q E s:=by
 have hp:placesWithHash es.size (fun i=>es[i]?.map (·.hash)) NH=[]:=by
  unfold placesWithHash
  rw[List.filter_eq_nil_iff]
  intro i hi hc
  dsimp only at hc
  cases he:es[i]? with
  |none=>rw[he]at hc;cases hc
  |some e=>
   rw[he]at hc
   have hm:e∈es.toList:=Array.mem_toList_iff.mpr (Array.mem_of_getElem? he)
   exact hno e hm (by simpa using hc)
 unfold dictFind
 try with_reducible refine aH ?_
 refine aa (wpAny_dictEntries ho hd ?_)
 dsimp only
 rw[hp]
 rw[if_pos (show((Value.none :: ([]:List Nat).filterMap (fun i=>es[i]?.map (·.key))).all carriedByValue)=true by rfl)]
 unfold dictWalkPlain
 simp only[List.forIn_nil,pure_bind,bind_pure]
 exact ae h
theorem eT' {d:Addr} (hd:(d == sysModules)=false):
  MeetsIn prog w (Builtin.«dict.get» ⟨[.ref d,.none],[]⟩) (fun _ R s=>∃o es ep,s.heap.get? d=some o/\o.data=.dict es ep/\(∀e∈es.toList,e.hash≠NH)/\R (.ok (.ret .none)) { s with toks:=s.toks+1 }):=
 .of_wp fun A R s ⟨o,es,ep,h1,h2,h3,h⟩=>by
  show wpAny _ _ (dictGet d .none >>= _) _ _ s
  refine aa ?_
  unfold dictGet
  try with_reducible refine aH ?_
  refine aa (c2' (aa (gs' (s:={ s with toks:=s.toks+1 }) h1 h2 h3 (ae ?_))))
  show wpAny _ _ (Builtin.Dict.missed d .none >>= _) _ _ _
  exact aa (wpAny_missed_other hd (ae ⟨.none,rfl,h⟩))
end
theorem gt' {P:Program} {w:World} {k:Key}:∀{es:List DictEntry} {vs:List (Key×Value)} {en:DictEntry},Pairs (ap' P w) es vs->en∈es->(ap' P w).is k en.key=true->k∈vs.map (·.1)
 |_,_,_,.nil,h,_=>by cases h
 |_,_,en,.cons (e:=e) (kv:=kv) h1 h2 r,h,hk=>by
  rcases aq.mp h with rfl|h
  .rw[(ap' P w).inj _ _ _ hk h1]
   exact aw
  .exact ar _ (gt' r h hk)
theorem bz' {α β:Type} {F:α->β->Prop}:∀{xs:List α} {ys:List β} {y:β},Paired F xs ys->y∈ys->∃x∈xs,F x y
 |_,_,_,.nil,h=>by cases h
 |_,_,y,.cons h1 r,h=>by
  rcases aq.mp h with rfl|h
  .exact⟨_,aw,h1⟩
  .obtain⟨x,hx,hf⟩:=bz' r h
   exact⟨x,ar _ hx,hf⟩
def NoN (H:Hp) (a:Addr):Prop:=(∃kvs,H a=some (.dK kvs)/\∀kv∈kvs,∃i:Int,kv.1=.inl i/\hashInt i≠NH)\/
 ∃kvs,H a=some (.dT kvs)/\∀kv∈kvs,∃is:List Int,kv.1=is.map Key.inl/\reduceHash (Builtin.Tuple.tupleHashOf (is.map hashInt))≠NH
theorem NoN.at {X:Cx} {pins:List (Addr×Obj)} {σ:St} {H:Hp} {s:Shared} {a:Addr} (I:Inv X pins σ H s) (h:NoN H a):(a == sysModules)=false/\s.TypeIs (.ref a) "dict"/\∃o es ep,s.heap.get? a=some o/\o.data=.dict es ep/\∀e∈es.toList,e.hash≠NH:=by
 rcases h with⟨kvs,e,hk⟩|⟨kvs,e,hk⟩
 .obtain⟨z,hd,vs,rel,dd⟩:=xF' I.hok e
  refine⟨hd,dd.typeIs,?_⟩
  obtain⟨o,es,ep,h1,_,h3,h4,h5,_⟩:=dd
  refine⟨o,es,ep,h1,h3,fun en hen=>?_⟩
  obtain⟨k,hk1,hk2⟩:=h4 en (Array.mem_toList_iff.mp hen)
  have hin:k∈kvs.map (·.1):=by
   rw[rel.keys]
   exact gt' h5 hen hk1
  obtain⟨kv,hkv,rfl⟩:=aQ.mp hin
  obtain⟨i,ei,hi⟩:=hk kv hkv
  rw[hk2,ei]
  exact hi
 .obtain⟨z,hd,xs,rel,dd⟩:=xG' I.hok e
  refine⟨hd,dd.typeIs,?_⟩
  obtain⟨o,es,ep,h1,_,h3,h4,_⟩:=dd
  refine⟨o,es,ep,h1,h3,fun en hen=>?_⟩
  rw[h4]at hen
  obtain⟨x,hx,rfl⟩:=aQ.mp hen
  obtain⟨kv,hkv,hp⟩:=bz' rel hx
  obtain⟨is,ei,hi⟩:=hk kv hkv
  show(tupleKind (ap' X.prog X.w)).hash x.1≠NH
  rw[<- hp.1,ei]
  show reduceHash (Builtin.Tuple.tupleHashOf ((is.map Key.inl).map (ap' X.prog X.w).hash))≠NH
  rw[bE]
  exact hi
theorem uq' {X:Cx} {pins:List (Addr×Obj)} {σ:St} {H:Hp} {s:Shared} {a:Addr} {A:Around} {E:Value->Shared->Prop} {Q:Value->Shared->Prop} (I:Inv X pins σ H s) (g:NoN H a) (h:∀s',Inv X pins σ H s'->Q .none s'):
  wpAny (model X.prog X.w) A (call (.builtin "dict.get") [.ref a,.none]) Q E s:=by
 obtain⟨hd,ht,o,es,ep,h1,h2,h3⟩:=g.at I
 exact call_meetsIn PySem.F.slot_dict_get ht PySem.F.entry_dict_get (PySem.F.args_dict_get_2 _ _) (eT' hd) ⟨o,es,ep,h1,h2,h3,h _ (I.tok _)⟩
def ur' (P:Program) (w:World) (kvs:List (Key×V)) (o:Obj):Prop:=kvs.length<=sizeLine/\∃vs es ep,KV kvs vs/\o.ExactDict/\o.data=.dict es ep/\KeysOf (ap' P w) es/\Pairs (ap' P w) es.toList vs/\(vs.map (·.1)).Nodup
theorem gu' {P:Program} {w:World} (a:List (Key×V)) (o:Obj) (h:ur' P w a o) (v:Option Value):o.data≠.cell v:=by
 obtain⟨_,_,es,ep,_,_,hd,_⟩:=h
 rw[hd]
 exact fun z=>nomatch z
theorem iD' {X:Cx} {A:Around} {E:Value->Shared->Prop} (s:Shared) (Q:Value->Shared->Prop) (h:∀_led:Bool,Q (.ref s.heap.objs.size) { s with heap:=s.heap.push { cls:=.type "dict",dict:=none,data:=.dict #[] } }):wpAny (model X.prog X.w) A newDict Q E s:=bc (h true)
theorem lq' {P:Program} {w:World} (_led:Bool):ur' P w [] { cls:=.type "dict",dict:=none,data:=.dict #[] }:=
 ⟨aT _,[],#[],0,.nil,⟨rfl,rfl,rfl⟩,rfl,fun e he=>by simp at he,.nil,List.nodup_nil⟩
theorem us' {P:Program} {w:World} (a:List (Key×V)) (o:Obj) (D:Addr) (H:Hp) (h:Heap) (i:ur' P w a o) (e:h.get? D=some o) (sy:(D == sysModules)=false) (_:H D=none) (_:True) (_:HOk P w H h):av' P w (upd H D (.dK a)) h D (.dK a):=by
 obtain⟨z,vs,es,ep,h1,h2,h3,h4,h5,h6⟩:=i
 exact⟨z,sy,vs,h1,o,es,ep,e,h2,h3,h4,h5,h6⟩
section
variable {X:Cx}
def iE' (tk tv:TE):TL (List (Key×V)):=fun σ a H N=>tk σ H fun y H1=>tv σ H1 fun v H2=>∃k,y=kV k/\a.length<sizeLine/\N (hH' a k v) H2
theorem lr' {D:Addr} {ke ve:Expr} {tk tv:TE} (hxe:X.xe=fun _ _=>False) (hk:PE X ke tk) (hv:PE X ve tv):b9' X D (ur' X.prog X.w) [] (do
   let kv <- eval ke X.env
   let vv <- holding [kv] (eval ve X.env)
   match Value.ref D with
   | .ref d=>do
    standAt { ke.pos with endLine:=ve.pos.endLine,endCol:=ve.pos.endCol }
    holding [kv,vv] (dictSet d kv vv)
   |_=>unsupported "internal:dictcomp") (iE' tk tv):=by
 intro pins s σ H a o N I hD ho hi hq
 have pinD:∀{s1:Shared} {pins1:List (Addr×Obj)} {H1:Hp},Inv X pins1 σ H1 s1->c1' X pins1 H1 D->s1.heap.get? D=some o->Inv X (pins1++bR' [D] s1.heap) σ H1 s1:=fun J f e=>J.pinned (fun b hb=>by
  have z:b=D:=by simpa using hb
  subst z
  exact f) (fun b hb=>by
  have z:b=D:=by simpa using hb
  subst z
  exact⟨o,e,gu' _ _ hi⟩)
 have h1:=hk _ s σ H _ (pinD I hD ho) hq
 rw[hxe]at h1
 refine aa (thn h1 fun u s1 ⟨y,H1,J1,r1,hq1⟩=>?_)
 have q1:=J1.pin (D,o) (aj _ (aj _ (aM' (by simp) ho)))
 have h2:=hv _ s1 σ H1 _ J1 hq1
 rw[hxe]at h2
 refine aa (aH (thn h2 fun u2 s2 ⟨v,H2,J2,r2,k,ek,z2,n2⟩=>?_))
 subst ek
 have q2:=J2.pin (D,o) (aj _ (aj _ (aM' (by simp) ho)))
 obtain⟨z,vs,es,ep,g1,g2,g3,g4,g5,g6⟩:=hi
 have dd:s2.heap.DictOf (ap' X.prog X.w) D vs:=⟨o,es,ep,q2.1,g2,g3,g4,g5,g6⟩
 refine aa (bo (aH (wpAny_dictSet_pairs (hsz:=by rw[<- g1.length];exact z) (kZ' r1) dd fun h' dd' hs=>?_)))
 obtain⟨_,f1,f2,f3,f4,f5⟩:=hD
 obtain⟨o',es',ep',d1,d2,d3,d4,d5,d6⟩:=dd'
 have J3:Inv X pins σ H2 { s2 with heap:=h',toks:=s2.toks+1 }:=J2.unpinned.turned (it:=D) (t':=s2.toks+1) (fun b o hb e=>(hs.2 b hb).trans e) q2.2.1 f1 f3 f4 f5
 exact⟨σ,_,o',H2,J3,Ext.refl,d1,⟨aF (el' a k v) z2,_,es',ep',g1.put k r2,d2,d3,d4,d5,d6⟩,q2.2.1,n2⟩
end
abbrev KTL:=List (List Key×Addr×V)
def ut' (P:Program) (w:World) (a:KTL) (o:Obj):Prop:=a.length<=sizeLine/\∃(xs:List (List Key×Addr×Value)) (es:Array DictEntry) (ep:Nat),Paired (fun(p:List Key×Addr×V) (q:List Key×Addr×Value)=>p.1=q.1/\p.2.1=q.2.1/\aF' p.2.2 q.2.2) a xs/\o.ExactDict/\o.data=.dict es ep/\es.toList=xs.map (entryOfKey (tupleKind (ap' P w)))/\(xs.map (·.1)).Nodup
theorem gv' {P:Program} {w:World} (a:KTL) (o:Obj) (h:ut' P w a o) (v:Option Value):o.data≠.cell v:=by
 obtain⟨_,_,es,ep,_,_,hd,_⟩:=h
 rw[hd]
 exact fun z=>nomatch z
theorem ls' {P:Program} {w:World} (_led:Bool):ut' P w [] { cls:=.type "dict",dict:=none,data:=.dict #[] }:=
 ⟨aT _,[],#[],0,.nil,⟨rfl,rfl,rfl⟩,rfl,rfl,List.nodup_nil⟩
def okT (a:KTL) (H:Hp):Prop:=∀x∈a,H x.2.1=some (.tup (x.1.map kV))
def plT (a:KTL):List (List Key×V):=a.map fun x=>(x.1,x.2.2)
theorem e5' {H:Hp}:∀{a:KTL} {xs:List (List Key×Addr×Value)},Paired (fun(p:List Key×Addr×V) (q:List Key×Addr×Value)=>p.1=q.1/\p.2.1=q.2.1/\aF' p.2.2 q.2.2) a xs->okT a H->Paired (fun(p:List Key×V) (q:List Key×Addr×Value)=>p.1=q.1/\H q.2.1=some (.tup (p.1.map kV))/\aF' p.2 q.2.2) (plT a) xs
 |_,_,.nil,_=>.nil
 |_,_,.cons h r,ok=>.cons ⟨h.1,by rw[<- h.2.1];exact ok _ aw,h.2.2⟩ (e5' r fun x hx=>ok x (ar _ hx))
theorem uu' {P:Program} {w:World} (a:KTL) (o:Obj) (D:Addr) (H:Hp) (h:Heap) (i:ut' P w a o) (e:h.get? D=some o) (sy:(D == sysModules)=false) (hD:H D=none) (ok:okT a H) (_:HOk P w H h):av' P w (upd H D (.dT (plT a))) h D (.dT (plT a)):=by
 obtain⟨z,xs,es,ep,h1,h2,h3,h4,h5⟩:=i
 refine⟨by unfold plT;rw[ai];exact z,sy,xs,e5' h1 fun x hx=>?_,o,es,ep,e,h2,h3,h4,h5⟩
 rw[ad' (ah' (ok x hx) hD)]
 exact ok x hx
section
variable {X:Cx}
def iF' (tk tv:TE):TL KTL:=fun σ a H N=>tk σ H fun y H1=>tv σ H1 fun v H2=>∃(k:List Key) (b:Addr),y=.ref b/\H2 b=some (.tup (k.map kV))/\okT a H2/\(∀x∈a,x.1≠k)/\a.length<sizeLine/\N (a++[(k,b,v)]) H2
theorem lu' {D:Addr} {ke ve:Expr} {tk tv:TE} (hu:X.A.units+1<cLine) (hxe:X.xe=fun _ _=>False) (hk:PE X ke tk) (hv:PE X ve tv):b9' X D (ut' X.prog X.w) [] (do
   let kv <- eval ke X.env
   let vv <- holding [kv] (eval ve X.env)
   match Value.ref D with
   | .ref d=>do
    standAt { ke.pos with endLine:=ve.pos.endLine,endCol:=ve.pos.endCol }
    holding [kv,vv] (dictSet d kv vv)
   |_=>unsupported "internal:dictcomp") (iF' tk tv):=by
 intro pins s σ H a o N I hD ho hi hq
 have pinD:∀{s1:Shared} {pins1:List (Addr×Obj)} {H1:Hp},Inv X pins1 σ H1 s1->c1' X pins1 H1 D->s1.heap.get? D=some o->Inv X (pins1++bR' [D] s1.heap) σ H1 s1:=fun J f e=>J.pinned (fun b hb=>by
  have z:b=D:=by simpa using hb
  subst z
  exact f) (fun b hb=>by
  have z:b=D:=by simpa using hb
  subst z
  exact⟨o,e,gv' _ _ hi⟩)
 have h1:=hk _ s σ H _ (pinD I hD ho) hq
 rw[hxe]at h1
 refine aa (thn h1 fun u s1 ⟨y,H1,J1,r1,hq1⟩=>?_)
 have h2:=hv _ s1 σ H1 _ J1 hq1
 rw[hxe]at h2
 refine aa (aH (thn h2 fun u2 s2 ⟨v,H2,J2,r2,k,b,ek,eb,ok,nw,z2,n2⟩=>?_))
 subst ek
 cases(show u=Value.ref b from r1)
 have q2:=J2.pin (D,o) (aj _ (aj _ (aM' (by simp) ho)))
 obtain⟨z,xs,es,ep,g1,g2,g3,g4,g5⟩:=hi
 have hxl:=Paired.length g1
 have dd:s2.heap.DictOfH (tupleKind (ap' X.prog X.w)) D xs:=⟨o,es,ep,q2.1,g2,g3,g4,fun x hx=>by
  obtain⟨p,hp,e1,e2,_⟩:=bz' g1 hx
  rw[<- e1,<- e2]
  exact dG' J2.hok (ok p hp),g5⟩
 refine aa (bo (aH (wpAny_dictSet_heap (hsz:=by rw[<- hxl];exact z) (show X.A.units<cLine from Nat.lt_of_succ_lt hu) (dG' J2.hok eb) dd fun h' dd' hs=>?_)))
 obtain⟨_,f1,f2,f3,f4,f5⟩:=hD
 have hnew:∀x∈xs,x.1≠k:=fun x hx e=>by
  obtain⟨p,hp,e1,_⟩:=bz' g1 hx
  exact nw p hp (e1.trans e)
 rw[storedH_new (by unfold atKey;rw[List.find?_eq_none.mpr (fun x hx=>by simpa using hnew x hx)];rfl)]at dd'
 obtain⟨o',es',ep',d1,d2,d3,d4,d5,d6⟩:=dd'
 have J3:Inv X pins σ H2 { s2 with heap:=h',toks:=s2.toks+(tupleKind (ap' X.prog X.w)).draws k }:=J2.unpinned.turned (it:=D) (t':=s2.toks+(tupleKind (ap' X.prog X.w)).draws k) (fun b o hb e=>(hs.2 b hb).trans e) q2.2.1 f1 f3 f4 f5
 exact⟨σ,_,o',H2,J3,Ext.refl,d1,⟨by rw[ao];exact z2,_,es',ep',Paired.snoc g1 ⟨rfl,rfl,r2⟩,d2,d3,d4,d6⟩,q2.2.1,n2⟩
end
theorem ltG {α:Type} {l:List α} {i:Nat} {x:α} (h:l[i]?=some x):i<l.length:=(aC.mp h).1
section
variable {prog:Program} {w:World} {K:Type} [DecidableEq K] {knd:HeapKind prog w K} {A:Around} {E:Value->Shared->Prop} {s:Shared}
def uv' (knd:HeapKind prog w K):Option (K×Addr)->DictEntry
 |none=>⟨NH,.none,.bool true⟩
 |some (k,a)=>⟨knd.hash k,.ref a,.bool true⟩
structure MixO (knd:HeapKind prog w K) (h:Heap) (es:Array DictEntry) (ys:List (Option (K×Addr))):Prop where
 its:es.toList=ys.map (uv' knd)
 is:∀k b,some (k,b)∈ys->knd.is h k b
 ne:∀k b,some (k,b)∈ys->knd.hash k≠NH
 nd:(ys.map (bj Prod.fst)).Nodup
theorem MixO.get {h:Heap} {es:Array DictEntry} {ys:List (Option (K×Addr))} (m:MixO knd h es ys) (j:Nat):es[j]?=ys[j]?.map (uv' knd):=by
 rw[<- Array.getElem?_toList,m.its,az]
theorem MixO.one {h:Heap} {es:Array DictEntry} {ys:List (Option (K×Addr))} (m:MixO knd h es ys) {i j:Nat} {x y:Option (K×Addr)} (hi:ys[i]?=some x) (hj:ys[j]?=some y) (e:x.map Prod.fst=y.map Prod.fst):i=j:=by
 have li:=ltG hi
 have lj:=ltG hj
 rw[ac li]at hi
 rw[ac lj]at hj
 cases hi
 cases hj
 have key:∀a b:Nat,∀(ha:a<ys.length) (hb:b<ys.length),a<b->ys[a].map Prod.fst≠ys[b].map Prod.fst:=fun a b ha hb hab=>by
  have:=List.pairwise_iff_getElem.mp m.nd a b (by rw[ai];exact ha) (by rw[ai];exact hb) hab
  rw[List.getElem_map,List.getElem_map]at this
  exact this
 rcases Nat.lt_trichotomy i j with z|z|z
 .exact absurd e (key i j li lj z)
 .exact z
 .exact absurd e.symm (key j i lj li z)
theorem nO' {d a:Addr} {o:Obj} {es:Array DictEntry} {ep:Nat} {ys:List (Option (K×Addr))} {k:K} {Q:Option Nat->Shared->Prop} (hu:knd.room A) (hkey:knd.is s.heap k a) (hne:knd.hash k≠NH)
  (ho:s.heap.get? d=some o) (hd:o.data=.dict es ep) (m:MixO knd s.heap es ys) (hnone:(∀(j:Nat) b,ys[j]?≠some (some (k,b)))->Q none s) (hsome:∀(j:Nat) b,ys[j]?=some (some (k,b))->Q (some j) s):
  wpAny (model prog w) A (dictFind d (.ref a) (knd.hash k)) Q E s:=by
 have at_:∀i:Nat,(es[i]?.map (·.hash))=some (knd.hash k)->∃k' b,ys[i]?=some (some (k',b)):=fun i hi=>by
  rw[m.get i]at hi
  cases e:ys[i]? with
  |none=>rw[e]at hi;cases hi
  |some x=>
   cases x with
   |none=>rw[e]at hi;exact absurd (Option.some.inj hi).symm hne
   |some q=>exact⟨q.1,q.2,rfl⟩
 have mem_:∀i:Nat,i∈placesWithHash es.size (fun i=>es[i]?.map (·.hash)) (knd.hash k)->(es[i]?.map (·.hash))=some (knd.hash k):=fun i hi=>by
  have:=(List.mem_filter.mp hi).2
  simpa using this
 have in_:∀(j:Nat) b,ys[j]?=some (some (k,b))->j∈placesWithHash es.size (fun i=>es[i]?.map (·.hash)) (knd.hash k):=fun j b hj=>by
  refine List.mem_filter.mpr ⟨bM.mpr ?_,?_⟩
  .have:=ltG hj
   have e:es.size=ys.length:=by rw[<- aP,m.its,ai]
   omega
  .show(es[j]?.map (·.hash) == some (knd.hash k))=true
   rw[m.get j,hj]
   simp[uv']
 have hany:¬(es.any fun e=>e.key == Value.ref a&&e.hash != knd.hash k)=true:=by
  rw[<- Array.any_toList,List.any_eq_true]
  rintro⟨e,hin,hc⟩
  rw[m.its]at hin
  obtain⟨x,hx,rfl⟩:=aQ.mp hin
  cases x with
  |none=>
   have h1:=(Bool.and_eq_true_iff.mp hc).1
   exact absurd (eq_of_beq h1) (fun z=>nomatch z)
  |some q=>
   have h1:=eq_of_beq (Bool.and_eq_true_iff.mp hc).1
   have h2:=(Bool.and_eq_true_iff.mp hc).2
   have ea:q.2=a:=Value.ref.inj h1
   have hi:=m.is q.1 q.2 hx
   rw[ea]at hi
   have hk:=knd.inj hi hkey
   have:(knd.hash q.1 != knd.hash k)=true:=h2
   rw[hk]at this
   simp at this
 have hst:∀v∈(placesWithHash es.size (fun i=>es[i]?.map (·.hash)) (knd.hash k)).filterMap (fun i=>es[i]?.map (·.key)),∃k' b,v=.ref b/\knd.is s.heap k' b:=by
  intro v hv
  obtain⟨i,hi,hv⟩:=List.mem_filterMap.mp hv
  obtain⟨k',b,hq⟩:=at_ i (mem_ i hi)
  rw[m.get i,hq]at hv
  exact⟨k',b,(Option.some.inj hv).symm,m.is k' b (aE hq)⟩
 unfold dictFind
 try with_reducible refine aH ?_
 refine aa (wpAny_dictEntries ho hd ?_)
 dsimp only
 rw[if_neg (show ¬((Value.ref a :: (placesWithHash es.size (fun i=>es[i]?.map (·.hash)) (knd.hash k)).filterMap (fun i=>es[i]?.map (·.key))).all carriedByValue)=true by simp[carriedByValue])]
 rw[if_neg hany]
 by_cases hone:(((placesWithHash es.size (fun i=>es[i]?.map (·.hash)) (knd.hash k)).filterMap (fun i=>es[i]?.map (·.key))) == [Value.ref a])=true<;>
 (first|rw[if_pos hone]|rw[if_neg hone])<;>(first|refine aa (ae ?_)|refine aa (wpAny_tableMayTell_quiet hkey hst ?_))<;>(
  rw[if_neg (by simp)]
  refine aa ?_
  refine wpAny_forIn_list _ (fun as' b s'=>s'=s/\∃hit,b=(none,hit)/\as'.Nodup/\(∀i∈as',(es[i]?.map (·.hash))=some (knd.hash k))/\(∀j b,ys[j]?=some (some (k,b))->j∈as'\/hit=some j)/\∀j,hit=some j->j∉as'/\∃b,ys[j]?=some (some (k,b))) _ ?_ ?_ _ _
   ⟨rfl,none,rfl,List.Pairwise.filter _ List.nodup_range,mem_,fun j b hj=>.inl (in_ j b hj),fun j z=>nomatch z⟩
  .rintro x as' b s' ⟨rfl,hit,rfl,hnd,hr,hall,hh⟩
   obtain⟨hxr,hnd⟩:=bY.mp hnd
   obtain⟨k',b,hq⟩:=at_ x (hr x aw)
   have hib:=m.is k' b (aE hq)
   have hex:es[x]?=some ⟨knd.hash k',.ref b,.bool true⟩:=by rw[m.get x,hq];rfl
   have hhk:(knd.hash k' == knd.hash k)=true:=by
    have:=hr x aw
    rw[hex]at this
    simpa using this
   have hr':=fun i hi=>hr i (ar _ hi)
   rw[hex]
   dsimp only
   rw[if_pos hhk]
   refine aa (wpAny_dictEpoch ho hd (aa (knd.eqBool (x:=k') (y:=k) hu hib hkey (aa (wpAny_dictEpoch ho hd ?_)))))
   show wpAny _ _ (if(ep != ep)=true then _ else _) _ E _
   rw[if_neg (by simp)]
   by_cases hkk:k'=k
   .rw[decide_eq_true hkk]
    subst hkk
    have h0:hit=none:=by
     cases hit with
     |none=>rfl
     |some j=>
      obtain⟨z,b',hj⟩:=hh j rfl
      have:=m.one hj hq rfl
      subst this
      exact absurd aw z
    subst h0
    first|rw[if_pos rfl]|skip
    simp only[Option.isSome_none,bb,if_false]
    first|refine aa (ae ?_)|skip
    refine aa (wpAny_rule ?_)
    split
    .exact ae (ae (hsome x b hq))
    .refine ae ⟨rfl,some x,rfl,hnd,hr',fun j b' hj=>.inr (by rw[m.one hj hq rfl]),fun j hj=>?_⟩
     cases hj
     exact⟨hxr,b,hq⟩
   .rw[decide_eq_false hkk]
    simp only[bb,if_false]
    refine aa (wpAny_rule ?_)
    have stay:∀j b',ys[j]?=some (some (k,b'))->j∈as'\/hit=some j:=fun j b' hj=>by
     rcases hall j b' hj with z|z
     .rcases aq.mp z with z|z
      .subst z
       rw[hq]at hj
       cases hj
       exact absurd rfl hkk
      .exact .inl z
     .exact .inr z
    have stay2:∀j,hit=some j->j∉as'/\∃b,ys[j]?=some (some (k,b)):=fun j hj=>⟨fun z=>(hh j hj).1 (ar _ z),(hh j hj).2⟩
    first|rw[if_neg (by simp)]|skip
    first
     |exact ae ⟨rfl,hit,rfl,hnd,hr',stay,stay2⟩
     |exact aa (ae (ae ⟨rfl,hit,rfl,hnd,hr',stay,stay2⟩))
  .rintro b s' ⟨rfl,hit,rfl,_,_,hall,hh⟩
   cases hit with
   |none=>
    refine ae (hnone fun j b hj=>?_)
    rcases hall j b hj with z|z
    .exact au z
    .cases z
   |some j=>
    obtain⟨_,b,hj⟩:=hh j rfl
    exact ae (hsome j b hj))
theorem MixO.val {h:Heap} {es:Array DictEntry} {ys:List (Option (K×Addr))} (m:MixO knd h es ys) {j:Nat} {e:DictEntry} (he:(ys.map (uv' knd))[j]?=some e):e.val=.bool true:=by
 rw[az]at he
 cases x:ys[j]? with
 |none=>rw[x]at he;cases he
 |some q=>
  rw[x]at he
  cases q<;>cases he<;>rfl
theorem ru' {d a:Addr} {o:Obj} {es:Array DictEntry} {ep:Nat} {ys:List (Option (K×Addr))} {k:K} {Q:Option Value->Shared->Prop} (hu:knd.room A) (hkey:knd.is s.heap k a) (hne:knd.hash k≠NH)
  (ho:s.heap.get? d=some o) (hd:o.data=.dict es ep) (m:MixO knd s.heap es ys)
  (h:Q (if some k∈ys.map (bj Prod.fst)then some (.bool true)else none) { s with toks:=s.toks+knd.draws k }):wpAny (model prog w) A (dictGet d (.ref a)) Q E s:=by
 unfold dictGet
 try with_reducible refine aH ?_
 refine aa (knd.pyHash hu hkey (aa (nO' (s:={ s with toks:=s.toks+knd.draws k }) hu hkey hne ho hd m (fun hno=>?_) fun j b hj=>?_)))
 .rw[if_neg]at h
  .exact ae h
  .intro z
   obtain⟨q,hq,e⟩:=aQ.mp z
   cases q with
   |none=>cases e
   |some q=>
    obtain⟨j,hj⟩:=List.getElem?_of_mem hq
    have e:q.1=k:=Option.some.inj e
    exact hno j q.2 (by rw[hj,<- e])
 .rw[if_pos (show some k∈ys.map (bj Prod.fst) from aQ.mpr ⟨some (k,b),aE hj,rfl⟩)]at h
  refine aa (wpAny_dictEntries (s:={ s with toks:=s.toks+knd.draws k }) ho hd ?_)
  rw[m.get j,hj]
  exact ae h
end
abbrev NK:=Option (List Int×Addr)
def lkN:NK->Option (List Key×Addr):=bj fun q=>(q.1.map Key.inl,q.2)
def hT (k:List Int):Int:=reduceHash (Builtin.Tuple.tupleHashOf (k.map hashInt))
def ze':NK->DictEntry
 |none=>⟨NH,.none,.bool true⟩
 |some q=>⟨hT q.1,.ref q.2,.bool true⟩
def IsN (L:List NK) (o:Obj):Prop:=L.length<=4000/\(∀q,some q∈L->hT q.1≠NH)/\(L.map (bj Prod.fst)).Nodup/\∃es ep,o.ExactDict/\o.data=.dict es ep/\es.toList=L.map ze'
def tf' (D:Addr) (L:List NK):HO:=.ext fun h=>(D == sysModules)=false/\∃o,h.get? D=some o/\IsN L o
def wY' (H:Hp) (L:List NK):Prop:=∀q,some q∈L->H q.2=some (.tup (q.1.map V.int))
theorem lv' {k:List Int}:(k.map Key.inl).map kV=k.map V.int:=by rw[bE];rfl
theorem nP' {P:Program} {w:World} {k:List Int}:(tupleKind (ap' P w)).hash (k.map Key.inl)=hT k:=by
 show reduceHash (Builtin.Tuple.tupleHashOf ((k.map Key.inl).map (ap' P w).hash))=_
 rw[bE]
 rfl
theorem rv' {P:Program} {w:World} {L:List NK}:(L.map lkN).map (uv' (tupleKind (ap' P w)))=L.map ze':=by
 rw[bE]
 refine bI fun q _=>?_
 cases q with
 |none=>rfl
 |some q=>
  show DictEntry.mk ((tupleKind (ap' P w)).hash (q.1.map Key.inl)) _ _=DictEntry.mk (hT q.1) _ _
  rw[nP']
theorem rx' {q:NK}:(lkN q).map Prod.fst=(q.map Prod.fst).map fun k=>k.map Key.inl:=by cases q<;>rfl
theorem lw' {L:List NK}:(L.map lkN).map (bj Prod.fst)=(L.map (bj Prod.fst)).map (bj fun k=>k.map Key.inl):=by
 rw[bE,bE]
 exact bI fun q _=>rx'
set_option tactic.hygienic true in
theorem iG' {o p:Option (List Int)} (h:o.map (fun k=>k.map Key.inl)=p.map (fun k=>k.map (Key.inl:Int->Key))):o=p:=by
 cases o<;>cases p
 .rfl
 .cases h
 .cases h
 .rename_i a b
  have h:a.map (Key.inl:Int->Key)=b.map Key.inl:=Option.some.inj h
  congr 1
  exact List.map_inj_right (fun x y z=>by injection z) |>.mp h
theorem iH' {L:List NK} {o:Option (List Int)}:o.map (fun k=>k.map (Key.inl:Int->Key))∈(L.map lkN).map (bj Prod.fst)↔o∈L.map (bj Prod.fst):=by
 rw[lw',aQ]
 exact⟨fun⟨p,hp,e⟩=>iG' e ▸ hp,fun h=>⟨o,h,rfl⟩⟩
def z1' (L:List NK) (q:NK):List NK:=if q.map Prod.fst∈L.map (bj Prod.fst)then L else L++[q]
section
variable {X:Cx} {pins:List (Addr×Obj)} {σ:St} {H:Hp} {s:Shared} {A:Around} {E:Value->Shared->Prop}
theorem ry' {D:Addr} {L:List NK} (I:Inv X pins σ H s) (hD:H D=some (tf' D L)) (ht:wY' H L):(D == sysModules)=false/\L.length<=4000/\(∀q,some q∈L->hT q.1≠NH)/\(L.map (bj Prod.fst)).Nodup/\∃o es ep,s.heap.get? D=some o/\o.ExactDict/\o.data=.dict es ep/\MixO (tupleKind (ap' X.prog X.w)) s.heap es (L.map lkN):=by
 obtain⟨hs,o,e,h4,hh,hn,es,ep,hex,hd,hes⟩:=(show av' X.prog X.w H s.heap D (tf' D L) from I.hok D _ hD).1
 refine⟨hs,h4,hh,hn,o,es,ep,e,hex,hd,hes.trans rv'.symm,fun k b hk=>?_,fun k b hk=>?_,?_⟩
 .obtain⟨q,hq,e⟩:=aQ.mp hk
  cases q with
  |none=>cases e
  |some q=>
   cases e
   exact dG' I.hok (by rw[lv'];exact ht q hq)
 .obtain⟨q,hq,e⟩:=aQ.mp hk
  cases q with
  |none=>cases e
  |some q=>
   cases e
   rw[nP']
   exact hh q hq
 .rw[lw']
  rw[List.nodup_iff_pairwise_ne,List.pairwise_map]
  exact hn.imp fun {a b} z e=>z (iG' e)
theorem uw' {D:Addr} {o:Obj} (e:s.heap.get? D=some o) (h:o.ExactDict):s.TypeIs (.ref D) "dict":=⟨o,e,h.1⟩
def z2' (H:Hp) (y:V) (q:NK):Prop:=(y=.non/\q=none)\/∃k b,y=.ref b/\q=some (k,b)/\H b=some (.tup (k.map V.int))/\hT k≠NH
theorem pg' {D b:Addr} {L:List NK} {k:List Int} {Q:Bool->Shared->Prop} (hu:A.units+1<cLine) (I:Inv X pins σ H s) (hD:H D=some (tf' D L)) (ht:wY' H L) (hb:H b=some (.tup (k.map V.int))) (hne:hT k≠NH)
  (h:∀s',Inv X pins σ H s'->Q (decide (some k∈L.map (bj Prod.fst))) s'):wpAny (model X.prog X.w) A (contains (.ref D) (.ref b)) Q E s:=by
 obtain⟨hs,_,hh,hn,o,es,ep,ho,hex,hd,m⟩:=ry' I hD ht
 have hT:=uw' ho hex
 unfold contains
 try with_reducible refine aH ?_
 refine aa (wpAny_specialOf hT F.slot_dict_contains.lookup ?_)
 show wpAny _ _ (if(some (Value.builtin "dict.__contains__") == some Value.none)=true then _ else _) _ E s
 rw[if_neg (by rw[beq_builtin_none];exact ap)]
 refine aa (wpAny_callSpecialUnlessNone?_slot (name:=Str.ofString "__contains__") hT F.slot_dict_contains (aV F.slot_dict_contains hT F.entry_dict_contains ?_ (F.args_dict_contains_2 _ _)))
 show wpAny _ _ (dictGet D (.ref b) >>= _) _ _ s
 refine aa (ru' (k:=k.map Key.inl) (tupleKind_room_in1 hu) (dG' I.hok (by rw[lv'];exact hb)) (by rw[nP'];exact hne) ho hd m ?_)
 by_cases hin:some k∈L.map (bj Prod.fst)
 .rw[if_pos (show some (k.map Key.inl)∈_ from iH' (o:=some k) |>.mpr hin)]
  have h:=h _ (I.tok (s.toks+(tupleKind (ap' X.prog X.w)).draws (k.map Key.inl)))
  rw[decide_eq_true hin]at h
  show wpAny _ _ (ret (.bool true)) _ _ _
  exact ae ⟨_,rfl,bi h⟩
 .rw[if_neg (show ¬some (k.map Key.inl)∈_ from fun z=>hin (iH' (o:=some k) |>.mp z))]
  have h:=h _ (I.tok (s.toks+(tupleKind (ap' X.prog X.w)).draws (k.map Key.inl)))
  rw[decide_eq_false hin]at h
  show wpAny _ _ (Builtin.Dict.pendingKey? D (.ref b) >>= _) _ _ _
  exact aa (wpAny_pendingKey_other hs (ae ⟨_,rfl,bi h⟩))
def NoR (H:Hp) (a:Addr):Prop:=∃kvs,Rd H a (.dT kvs)/\∀kv∈kvs,∃is:List Int,kv.1=is.map Key.inl/\hT is≠NH
theorem NoR.at {a:Addr} (I:Inv X pins σ H s) (h:NoR H a):(a == sysModules)=false/\s.TypeIs (.ref a) "dict"/\∃o es ep,s.heap.get? a=some o/\o.data=.dict es ep/\∀e∈es.toList,e.hash≠NH:=by
 obtain⟨kvs,e,hk⟩:=h
 obtain⟨z,hd,xs,rel,dd⟩:=jR' I.hok e
 refine⟨hd,dd.typeIs,?_⟩
 obtain⟨o,es,ep,h1,_,h3,h4,_⟩:=dd
 refine⟨o,es,ep,h1,h3,fun en hen=>?_⟩
 rw[h4]at hen
 obtain⟨x,hx,rfl⟩:=aQ.mp hen
 obtain⟨kv,hkv,hp⟩:=bz' rel hx
 obtain⟨is,ei,hi⟩:=hk kv hkv
 show(tupleKind (ap' X.prog X.w)).hash x.1≠NH
 rw[<- hp.1,ei,nP']
 exact hi
theorem lx' {a:Addr} {Q:Bool->Shared->Prop} (I:Inv X pins σ H s) (g:NoR H a) (h:∀s',Inv X pins σ H s'->Q false s'):wpAny (model X.prog X.w) A (contains (.ref a) .none) Q E s:=by
 obtain⟨hs,hT,o,es,ep,ho,hd,hno⟩:=g.at I
 unfold contains
 try with_reducible refine aH ?_
 refine aa (wpAny_specialOf hT F.slot_dict_contains.lookup ?_)
 show wpAny _ _ (if(some (Value.builtin "dict.__contains__") == some Value.none)=true then _ else _) _ E s
 rw[if_neg (by rw[beq_builtin_none];exact ap)]
 refine aa (wpAny_callSpecialUnlessNone?_slot (name:=Str.ofString "__contains__") hT F.slot_dict_contains (aV F.slot_dict_contains hT F.entry_dict_contains ?_ (F.args_dict_contains_2 _ _)))
 show wpAny _ _ (dictGet a .none >>= _) _ _ s
 refine aa ?_
 unfold dictGet
 try with_reducible refine aH ?_
 refine aa (c2' (aa (gs' (s:={ s with toks:=s.toks+1 }) ho hd hno (ae ?_))))
 show wpAny _ _ (Builtin.Dict.pendingKey? a .none >>= _) _ _ _
 exact aa (wpAny_pendingKey_other hs (ae ⟨_,rfl,bi (h _ (I.tok _))⟩))
def wZ' (neg:Bool):R2:=fun y x H Q=>(∃(k:List Int) (b D:Addr) (L:List NK),y=.ref b/\H b=some (.tup (k.map V.int))/\hT k≠NH/\x=.ref D/\H D=some (tf' D L)/\wY' H L/\Q (.bl (if neg then !decide (some k∈L.map (bj Prod.fst))else decide (some k∈L.map (bj Prod.fst)))) H)\/(y=.non/\∃D,x=.ref D/\NoR H D/\Q (.bl neg) H)
theorem ux' (hu:X.A.units+1<cLine):OpR X (compareOp .In) (wZ' false):=by
 intro pins s σ H y x v u Q I ry rx h
 show wpAny _ _ (contains u v >>= fun b=>pure (Value.bool b)) _ _ s
 rcases h with⟨k,b,D,L,rfl,hb,hne,rfl,hD,ht,q⟩|⟨rfl,D,rfl,g,q⟩
 .cases ry
  cases rx
  exact aa (pg' hu I hD ht hb hne fun s' I'=>ae ⟨.bl (decide (some k∈L.map (bj Prod.fst))),H,I',rfl,q⟩)
 .cases ry
  cases rx
  exact aa (lx' I g fun s' I'=>ae ⟨.bl false,H,I',rfl,q⟩)
theorem ly' (hu:X.A.units+1<cLine):OpR X (compareOp .NotIn) (wZ' true):=by
 intro pins s σ H y x v u Q I ry rx h
 show wpAny _ _ (contains u v >>= fun b=>pure (Value.bool (!b))) _ _ s
 rcases h with⟨k,b,D,L,rfl,hb,hne,rfl,hD,ht,q⟩|⟨rfl,D,rfl,g,q⟩
 .cases ry
  cases rx
  exact aa (pg' hu I hD ht hb hne fun s' I'=>ae ⟨.bl (!decide (some k∈L.map (bj Prod.fst))),H,I',rfl,q⟩)
 .cases ry
  cases rx
  exact aa (lx' I g fun s' I'=>ae ⟨.bl true,H,I',rfl,q⟩)
variable {o i value:Expr} {pos pos':Pos} {td ty tv:TE}
end
def xL' (neg:Bool) (ty td:TE):TE:=fun σ H Q=>ty σ H fun y H1=>td σ H1 fun x H2=>(∃a o,x=.ref a/\gk' H2 a y o/\Q (.bl (if neg then !o.isSome else o.isSome)) H2)\/wX' neg y x H2 Q\/wZ' neg y x H2 Q
def lz' (td ty:TE):TE:=fun σ H Q=>td σ H fun x H1=>∃a,x=.ref a/\IsD H1 a/\ty σ H1 fun y H2=>(∃o,gk' H2 a y o/\Q (o.getD .non) H2)\/(y=.non/\NoN H2 a/\Q .non H2)
section
variable {X:Cx} {o e f i:Expr} {apos cpos:Pos} {td ty tx:TE}
theorem ph' (hu:X.A.units+1<cLine) (hi:PE X i ty) (ho:PE X o td):PC X .In i o (xL' false ty td):=by
 intro pins s σ H Q I h
 refine thn (hi pins s σ H _ I h) fun iv s1 ⟨y,H1,I1,ry,q1⟩=>thn (ho pins s1 σ H1 _ I1 q1) fun u s2 ⟨x,H2,I2,rx,q2⟩=>?_
 rcases q2 with⟨a,ov,ex,g,q2⟩|q2|q2
 .subst ex
  obtain rfl:u=Value.ref a:=rx
  exact zX' hu I2 g ry fun s3 I3=>⟨.bl ov.isSome,H2,I3,rfl,q2⟩
 .exact up' pins s2 σ H2 y x iv u Q I2 ry rx q2
 .exact ux' hu pins s2 σ H2 y x iv u Q I2 ry rx q2
theorem gw' (hu:X.A.units+1<cLine) (hi:PE X i ty) (ho:PE X o td):PC X .NotIn i o (xL' true ty td):=by
 intro pins s σ H Q I h
 refine thn (hi pins s σ H _ I h) fun iv s1 ⟨y,H1,I1,ry,q1⟩=>thn (ho pins s1 σ H1 _ I1 q1) fun u s2 ⟨x,H2,I2,rx,q2⟩=>?_
 rcases q2 with⟨a,ov,ex,g,q2⟩|q2|q2
 .subst ex
  obtain rfl:u=Value.ref a:=rx
  exact rn' hu I2 g ry fun s3 I3=>⟨.bl (!ov.isSome),H2,I3,rfl,q2⟩
 .exact ln' pins s2 σ H2 y x iv u Q I2 ry rx q2
 .exact ly' hu pins s2 σ H2 y x iv u Q I2 ry rx q2
theorem nQ' (hu:X.A.units+1<cLine) (ho:PE X o td) (he:PE X e ty) (m:M1 X o "get" apos e cpos):PE X (.Call (.Attribute o "get" apos) [e] [] cpos) (lz' td ty):=by
 intro pins s σ H Q I h
 refine wpAny_Call_method m.base m.few m.line PySem.F.plainAttrs_dict PySem.F.slot_dict_get PySem.F.type_dict_get (thn (ho pins s σ H _ I h) fun u s1 ⟨x,H1,I1,rx,a,ex,d,q1⟩=>?_)
 subst ex
 obtain rfl:u=Value.ref a:=rx
 obtain⟨t1,t2,_⟩:=t9' I1 d
 refine⟨t1,t2,?_⟩
 rw[m.trees]
 refine Calls.callWith_builtin rfl (Calls.evalArgs_plain (Calls.spliced_cons (thn (he pins s1 σ H1 _ I1 q1) fun iv s2 ⟨y,H2,I2,ry,q2⟩=>Calls.spliced_nil ?_)))
 rcases q2 with⟨ov,g,q2⟩|⟨ey,g,q2⟩
 .exact ua' hu I2 g ry fun w' s3 I3 rw'=>⟨_,H2,I3,rw',q2⟩
 .subst ey
  obtain rfl:iv=Value.none:=ry
  exact uq' I2 g fun s3 I3=>⟨.non,H2,I3,rfl,q2⟩
end
abbrev uy' (own:List Nat) (wi:TI) (g:TG) (tc:TT) (as':TL ((Option Int->Bool)×Nat)):TE:=eq' own wi g tc as' (fun _=>false,0) (fun p a=>e4' p a.1 a.2) fun _ _=>True
abbrev uz' (own:List Nat) (wi:TI) (g:TG) (tc:TT) (tk tv:TE):TE:=eq' own wi g tc (iE' tk tv) [] (fun _ a=>.dK a) fun _ _=>True
abbrev uA' (own:List Nat) (wi:TI) (g:TG) (tc:TT) (tk tv:TE):TE:=eq' own wi g tc (iF' tk tv) [] (fun _ a=>.dT (plT a)) okT
section
variable {X:Cx} {e:Expr} {scope:Scope} {tg iter:Expr} {ifs:List Expr} {nx:Addr->Env->Sem Unit} {g:TG} {tc:TT} {own:List Nat} {wi:TI}
theorem rz' {P:Program} {w:World} (a:(Option Int->Bool)×Nat) (o:Obj) (D:Addr) (H:Hp) (h:Heap) (i:IsS a o) (e:h.get? D=some o) (_:(D == sysModules)=false) (_:H D=none) (_:True) (_:HOk P w H h):av' P w (upd H D (e4' D a.1 a.2)) h D (e4' D a.1 a.2):=ll' e i
theorem rA' {α:Type} {Is:α->Obj->Prop} {as':TL α} {a0:α} {o0:Bool->Obj} {newAcc:Sem Value} {ho:Addr->α->HO} {ok:α->Hp->Prop} {i:Nat} {y:Str} {py pos pos2:Pos}
  (hnew:∀(s:Shared) (Q:Value->Shared->Prop),(∀led,Q (.ref s.heap.objs.size) { s with heap:=s.heap.push (o0 led) })->wpAny (model X.prog X.w) X.A newAcc Q X.xe s) (hfr:∀led,(o0 led).isFreed=false) (ha0:∀led,Is a0 (o0 led)) (hda:∀(a:α) (o:Obj),Is a o->∀v:Option Value,o.data≠.cell v)
  (hfin:∀(a:α) (o:Obj) (D:Addr) (H:Hp) (h:Heap),Is a o->h.get? D=some o->(D == sysModules)=false->H D=none->ok a H->HOk X.prog X.w H h->av' X.prog X.w (upd H D (ho D a)) h D (ho D a))
  (C:CompInG Is X e scope tg iter ifs nx g tc as' own) (hi:PI X tg iter wi) (hN:X.N.Nodup) (hy:X.N[i]?=some y) (hx:Loc X.env.scope y) (hf:X.fn y=true\/X.env.scope.names.lookup y=some .local)
  (hG:PG X (.Name y py) (c4' i))
  (he:eval e X.env=comprehension e scope X.env pos2 newAcc false (eval iter X.env))
  (he2:evalThenUse e X.env (assign (.Name y py) X.env)=(do let _ <- comprehension e scope X.env pos2 newAcc false (eval iter X.env) (some (assign (.Name y py) X.env))))
  (hsw:∃b,swapsWith e (some (.Name y py)) pos.line X.env=pure b):PS X (.Assign [.Name y py] e pos) (kj' (eq' own wi g tc as' a0 ho ok) (c4' i)):=by
 obtain⟨b,hb⟩:=hsw
 cases b with
 |true=>exact hM' hnew hfr ha0 hda hfin C hi hN hy hx hf he2 hb
 |false=>exact io' (nM' hnew hfr ha0 hda hfin C hi he) hG hb rfl
end
section
variable {prog:Program} {w:World} {A:Around} {E:Value->Shared->Prop} {s:Shared}
end
section
variable {X:Cx}
variable {e:Expr} {scope:Scope} {tg iter:Expr} {ifs:List Expr} {nx:Addr->Env->Sem Unit} {g:TG} {tc:TT} {as':TL ((Option Int->Bool)×Nat)} {own:List Nat} {wi:TI}
end
section
variable {X:Cx}
end
end L2
namespace HT
open PySem PyProof.Rows
section
variable {prog:Program} {w:World} {A:Around} {E:Value->Shared->Prop} {s:Shared}
theorem cS' {t sl:Addr} {items:Array Value} {vl vu:Value} {lo hi:Option Int} {Q:Value->Shared->Prop} (ht:IsTup s.heap t items) (hs:s.heap.IsSliceOf sl vl vu .none) (pl:IsPart vl lo) (pu:IsPart vu hi)
  (hw:sIx items.size 0 lo=0/\sIx items.size items.size hi=items.size)
  (h:Q (.ref t) s):wpAny (model prog w) A (getItem (.ref t) (.ref sl)) Q E s:=by
 obtain⟨os,hos,hcs,hds⟩:=id hs
 have hTs:s.TypeIs (.ref sl) "slice":=⟨os,hos,hcs⟩
 unfold getItem
 try with_reducible refine aH ?_
 first|refine aa (ae ?_)|skip
 refine aa (wpAny_sequenceKey ht.typeIs (by decide) ?_)
 refine aa (aU (name:=Str.ofString "__getitem__") ht.typeIs PyProof.Rows.slot_tuple_getitem
  (aV PyProof.Rows.slot_tuple_getitem ht.typeIs entry_tuple_getitem ?_ (args_tuple_getitem _ _)))
 show wpAny _ _ (Builtin.Tuple.tupleItemsOf (.ref t) >>= _) _ _ s
 refine aa (tupleItemsOf_ ht ?_)
 refine aa (wpAny_typeOf hTs ?_)
 rw[if_pos (by decide)]
 refine aa (co' hs pl pu ?_)
 have hyes:(((sIx items.size 0 lo:Nat):Int) == 0&&(1:Int) == 1&&(sIx items.size items.size hi-sIx items.size 0 lo) == items.size)=true:=by
  rw[hw.1,hw.2]
  simp
 show wpAny _ _ (if(((sIx items.size 0 lo:Nat):Int) == 0&&(1:Int) == 1&&(sIx items.size items.size hi-sIx items.size 0 lo) == items.size)=true then _ else _) _ _ s
 rw[if_pos hyes]
 obtain⟨ot,hot,hct,nt,hdt⟩:=id ht
 refine aa (bw (Q:=fun b s'=>b=true/\s'=s) (E:=E) ?_ ?_ (fun _ _ z=>z))
 .unfold Builtin.Tuple.tupleIsExact
  exact aa (wpAny_typeOf ht.typeIs (ae ⟨rfl,rfl⟩))
 .rintro b s' ⟨rfl,rfl⟩
  rw[if_pos rfl]
  exact aa (wpAny_rule (ae ⟨_,rfl,ae h⟩))
end
end HT
namespace L2
open PySem PySem.Spec PyProof.Rows
section
variable {X:Cx}
def w0' (K:W.Frag):V->Option Int->Option Int->Hp->VK->Prop:=fun x lo hi H Q=>∃a xs,x=.ref a/\SqT K H a xs/\(HT.sIx xs.length 0 lo=0/\HT.sIx xs.length xs.length hi=xs.length)/\Q (.ref a) H
theorem nR':SlR X (w0' X.K):=by
 intro pins s σ H x v vl vu lo hi sl Q I rx hs pl pu h
 obtain⟨a,xs,rfl,hx,hw,q⟩:=h
 cases rx
 obtain⟨its,r,ht,hz⟩:=I.tuple hx
 have hlen:its.toArray.size=xs.length:=by rw[am];exact r.length.symm
 refine⟨"tuple",_,PyProof.Rows.slot_tuple_getitem.lookup,ht.typeIs,?_⟩
 exact HT.cS' ht hs pl pu (by rw[hlen];exact hw) ⟨.ref a,H,I,rfl,q⟩
end
section
variable {X:Cx} {pins:List (Addr×Obj)} {σ:St} {H:Hp} {s:Shared}
variable {X:Cx}
end
end L2
namespace HT
open PySem PyProof.Rows
section
variable {prog:Program} {w:World} {A:Around} {E:Value->Shared->Prop} {s:Shared}
end
end HT
namespace L2
open PySem PySem.Spec PyProof.Rows
section
variable {X:Cx} {e st:Expr} {te:TE} {p2 pos:Pos}
end
section
variable {prog:Program} {w:World} {A:Around} {E:Value->Shared->Prop} {s:Shared} {b0:Array Keyed} {κ:PyProof.Rows.KeyKind}
end
section
variable {X:Cx}
end
section
variable {prog:Program} {w:World} {A:Around} {E:Value->Shared->Prop} {s:Shared} {b0:Array Keyed} {κ:SortKind}
end
section
variable {X:Cx}
end
end L2
namespace So
open PySem PySem.Spec PyProof.Rows
def rB':Bool->Keyed->Array Keyed->Nat->Nat->Nat->StateT SortSt Sem (Option Nat):=sortPriv% PySem.Builtin.gallop
section
variable {M:Model} {A:Around} {E:Value->Shared->Prop} {s:Shared} {O:KeyOrd} {ky:Keyed->O.α} {P:Keyed->Prop} {kd:SortKind}
theorem iI' {a:Array Keyed} {i:Nat} {x:Keyed} {Q:Keyed->SortSt->Prop} {st:SortSt} (e:a[i]?=some x) (h:Q x st):wpS M A E s (elem' a i) Q st:=by
 rw[elem'_eq,e];exact wpS_pure h
end
end So
namespace So
open PySem PySem.Spec PyProof.Rows
section
variable {R:Keyed->Keyed->Prop} {T o ra rb:List Keyed}
end
end So
namespace So
open PySem PySem.Spec PyProof.Rows
section
variable {M:Model} {A:Around} {E:Value->Shared->Prop} {s:Shared} {O:KeyOrd} {ky:Keyed->O.α} {P:Keyed->Prop} {kd:SortKind}
def gx' (st st':SortSt):Prop:=kindOf st'=kindOf st/\arrOf st'=arrOf st/\pendingOf st'=pendingOf st/\failedOf st'=failedOf st
theorem gx'.rfl' (st:SortSt):gx' st st:=⟨rfl,rfl,rfl,rfl⟩
theorem gx'.trans {a b c:SortSt} (h:gx' a b) (g:gx' b c):gx' a c:=⟨g.1.trans h.1,g.2.1.trans h.2.1,g.2.2.1.trans h.2.2.1,g.2.2.2.trans h.2.2.2⟩
theorem gx'.set (st:SortSt) (m:Nat):gx' st (SortSt.mk' (kindOf st) (arrOf st) (pendingOf st) m (failedOf st)):=⟨rfl,rfl,rfl,rfl⟩
theorem lA' {a:Array Keyed} {i:Nat} (h:i<a.size):∃p,a[i]?=some p/\p∈a.toList:=⟨a[i],by simp,by simp⟩
theorem lB' {a:Array Keyed} {i:Nat} {p:Keyed} (e:a[i]?=some p):a.toList.drop i=p :: a.toList.drop (i+1):=by
 have hi:i<a.size:=by
  rcases Nat.lt_or_ge i a.size with h|h
  .exact h
  .rw[Array.getElem?_eq_none h]at e;cases e
 have:a[i]=p:=by rw[bO hi]at e;exact Option.some.inj e
 rw[List.drop_eq_getElem_cons (by simpa using hi)]
 simp[this]
theorem aP' (a:Array Keyed) (i j:Nat):(a.extract i j).toList=(a.toList.drop i).take (j-i):=by simp
theorem db' (a:Array Keyed) (i:Nat):(a.extract i a.size).toList=a.toList.drop i:=by
 rw[aP',ba];simp
theorem pi' (l:List Keyed) (i k:Nat):l.drop i=(l.drop i).take k++l.drop (i+k):=by
 rw[<- List.drop_drop,bL]
end
end So
namespace So
open PySem PySem.Spec PyProof.Rows
section
variable {M:Model} {A:Around} {E:Value->Shared->Prop} {s:Shared} {O:KeyOrd} {ky:Keyed->O.α} {P:Keyed->Prop} {kd:SortKind} {x y:Array Keyed}
def dnL (x y o:Array Keyed) (i j:Nat):Array Keyed:=o++x.extract i x.size++y.extract j y.size
def laL (x y o:Array Keyed) (i j:Nat):Array Keyed:=o++y.extract j y.size++x.extract i x.size
end
end So
namespace So
open PySem PySem.Spec PyProof.Rows
def dnH (x y o:Array Keyed) (i j:Nat):Array Keyed:=x.extract 0 i++y.extract 0 j++o.reverse
def fbH (x y o:Array Keyed) (i j:Nat):Array Keyed:=y.extract 0 j++x.extract 0 i++o.reverse
abbrev TG:Type:=Option (Array Keyed)×Nat×Nat×Array Keyed×Nat×Nat×Nat
abbrev TI:Type:=Option (Array Keyed)×Nat×Nat×Array Keyed×Nat×Nat
abbrev TO:Type:=Option (Array Keyed)×Nat×Nat×Array Keyed×Nat
def hi3 (x y:Array Keyed) (i j:Nat) (o:Array Keyed) (mg ca cb:Nat):StateT SortSt Sem (ForInStep TG):=do
 let p <- elem' x (i-1)
 if(i-1 == 0)=true then pure (.done (some (dnH x y (o.push p) (i-1) j),i-1,j,o.push p,mg,ca,cb))
 else if(decide (ca<7)&&decide (cb<7))=true then pure (.done (none,i-1,j,o.push p,mg,ca,cb))else pure (.yield (none,i-1,j,o.push p,mg,ca,cb))
def hi2 (x y:Array Keyed) (i j:Nat) (o:Array Keyed) (mg ca cb:Nat):StateT SortSt Sem (ForInStep TG):=do
 let q <- elem' y (j-1)
 if(j-1 == 1)=true then pure (.done (some (fbH x y (o.push q) i (j-1)),i,j-1,o.push q,mg,ca,cb))
 else do
  let p <- elem' x (i-1)
  let r <- rB' true p y 0 (j-1) (j-1-1)
  match r with
  |some z=>
   if j-1-z > 0 then
    if(z == 1)=true then pure (.done (some (fbH x y (o.push q++(y.extract z (j-1)).reverse) i z),i,z,o.push q++(y.extract z (j-1)).reverse,mg,ca,j-1-z))
    else if(z == 0)=true then pure (.done (some (dnH x y (o.push q++(y.extract z (j-1)).reverse) i z),i,z,o.push q++(y.extract z (j-1)).reverse,mg,ca,j-1-z))
    else hi3 x y i z (o.push q++(y.extract z (j-1)).reverse) mg ca (j-1-z)
   else hi3 x y i (j-1) (o.push q) mg ca (j-1-z)
  |_=>pure (.done (some (dnH x y (o.push q) i (j-1)),i,j-1,o.push q,mg,ca,cb))
section
variable {M:Model} {A:Around} {E:Value->Shared->Prop} {s:Shared} {O:KeyOrd} {ky:Keyed->O.α} {P:Keyed->Prop} {kd:SortKind} {x y:Array Keyed}
theorem e6' (a:Array Keyed) (i:Nat):(a.extract 0 i).toList=a.toList.take i:=by rw[aP'];simp
theorem uB' (l:List Keyed) {z i:Nat} (h:z<=i):(l.take i).reverse=((l.drop z).take (i-z)).reverse++(l.take z).reverse:=by
 rw[<- List.reverse_append]
 congr 1
 rw[<- bL z (l.take i),List.take_take,List.drop_take]
 congr 2
 omega
end
end So
namespace So
open PySem PySem.Spec PyProof.Rows
section
variable {M:Model} {A:Around} {E:Value->Shared->Prop} {s:Shared} {O:KeyOrd} {ky:Keyed->O.α} {P:Keyed->Prop} {kd:SortKind}
end
end So
namespace So
open PySem PySem.Spec PyProof.Rows
section
variable {M:Model} {A:Around} {E:Value->Shared->Prop} {s:Shared} {O:KeyOrd} {ky:Keyed->O.α} {P:Keyed->Prop} {kd:SortKind} {st0:SortSt} {lo nrem:Nat}
end
end So
namespace So
open PySem PySem.Spec PyProof.Rows
section
variable {M:Model} {A:Around} {E:Value->Shared->Prop} {s:Shared} {O:KeyOrd} {ky:Keyed->O.α} {P:Keyed->Prop} {kd:SortKind} {st0:SortSt} {lo nrem:Nat}
end
end So
namespace So
open PySem PySem.Spec PyProof.Rows
section
variable {M:Model} {A:Around} {E:Value->Shared->Prop} {s:Shared} {O:KeyOrd} {ky:Keyed->O.α} {P:Keyed->Prop} {kd:SortKind} {st0:SortSt} {lo nrem:Nat}
inductive Rn (R:Keyed->Keyed->Prop):List (Nat×Nat×Nat)->List (List Keyed)->Nat->Prop
 |nil (a:Nat):Rn R [] [] a
 |cons {a:Nat} (w:Nat) {l:List Keyed} {p:List (Nat×Nat×Nat)} {L:List (List Keyed)}:0<l.length->l.Pairwise R->Rn R p L (a+l.length)->Rn R ((a,l.length,w) :: p) (l :: L) a
end
end So
namespace So
open PySem PySem.Spec PyProof.Rows
section
variable {M:Model} {A:Around} {E:Value->Shared->Prop} {s:Shared} {O:KeyOrd} {ky:Keyed->O.α} {P:Keyed->Prop} {kd:SortKind}
end
end So
namespace L2
open PySem PySem.Spec PyProof.Rows So
section
variable {prog:Program} {w:World} {A:Around} {E:Value->Shared->Prop} {s:Shared}
end
section
variable {X:Cx}
end
abbrev Itm:Type:=Int ⊕ PySem.Str
def z3':Itm->Itm->Bool
 | .inl i,.inl j=>decide (i<j)
 | .inl _,.inr _=>true
 | .inr _,.inl _=>false
 | .inr x,.inr y=>decide (x.cps.toList<y.cps.toList)
def uC':List Itm->List Itm->Bool
 | [],[]=>false
 | [],_ :: _=>true
 |_ :: _,[]=>false
 |a :: l,b :: m=>if a=b then uC' l m else z3' a b
def z4':Itm->Value->Prop
 | .inl i,v=>∃t,v=.int i t
 | .inr x,v=>∃t,v=.str x t
inductive ItsAre:List Value->List Itm->Prop
 |nil:ItsAre [] []
 |cons {v:Value} {a:Itm} {vs:List Value} {l:List Itm}:z4' a v->ItsAre vs l->ItsAre (v :: vs) (a :: l)
theorem ItsAre.len:∀{vs:List Value} {l:List Itm},ItsAre vs l->vs.length=l.length
 |_,_,.nil=>rfl
 |_,_,.cons _ r=>by simp[r.len]
section
variable {prog:Program} {w:World} {A:Around} {E:Value->Shared->Prop} {s:Shared}
end
section
variable {X:Cx}
end
end L2
namespace L2
open PySem PySem.Spec PyProof.Rows PySem.Ts
def Trk (H:Hp) (L:List (List Int×Addr)):Prop:=∀q∈L,H q.2=some (.tup (q.1.map V.int))
section
variable {X:Cx}
def zf' (a:List (List Int×Addr)) (k:List Int) (b:Addr):List (List Int×Addr):=if k∈a.map (·.1)then a else a++[(k,b)]
def uD' (te:TE):TL (List (List Int×Addr)):=fun σ a H N=>te σ H fun v H'=>∃(k:List Int) (b:Addr),v=.ref b/\H' b=some (.tup (k.map V.int))/\Trk H' a/\a.length<4000/\N (zf' a k b) H'
def kI (k:List Int):List Itm:=k.map Sum.inl
variable {e:Expr} {scope:Scope} {tg iter:Expr} {ifs:List Expr} {nx:Addr->Env->Sem Unit} {g:TG} {tc:TT} {as':TL (List (List Int×Addr))} {own:List Nat} {wi:TI}
end
end L2
namespace L2
open PySem PySem.Spec PyProof.Rows PySem.SeqAt
theorem er':∀{a b:List Int},a.map V.int=b.map V.int->a=b
 | [],[],_=>rfl
 | [],_ :: _,h=>by cases h
 |_ :: _,[],h=>by cases h
 |x :: a,y :: b,h=>by
  rw[aJ,aJ]at h
  injection h with h1 h2
  injection h1 with h1
  rw[h1,er' h2]
section
variable {X:Cx} {pins:List (Addr×Obj)} {σ:L2.St} {H:Hp} {s:Shared}
end
section
variable {X:Cx}
end
section
variable {X:Cx} {env:Env}
def Fr {α:Type} (t:Sem α):Prop:=∀(M:Model) (Γ:PySem.Ctx) (Q:α->Pos->Shared->Prop) (E:Value->Pos->Shared->Prop) (p:Pos) (s:Shared),Sem.wp M Γ t Q E p s->Sem.wp M Γ t (fun a p' s'=>1<=s'.toks/\Q a p' s') E p s
theorem Fr.bindL {α β:Type} {m:Sem α} {f:α->Sem β} (h:Fr m):Fr (m >>= f):=by
 intro M Γ Q E p s q
 rw[Sem.wp_bind']at q ⊢
 refine Sem.wp_mono M Γ m (fun a p' s' z=>?_) (fun _ _ _ z=>z) p s (h M Γ _ E p s q)
 exact Sem.wp_mono M Γ (f a) (fun _ _ _ z=>z) (fun _ _ _ z=>z.2) p' s' (Sem.wp_toks M Γ 1 (f a) Q E p' s' z.1 z.2)
theorem Fr.any {α:Type} {M:Model} {A:Around} {t:Sem α} {Q:α->Shared->Prop} {E:Value->Shared->Prop} {s:Shared} (h:Fr t) (q:wpAny M A t Q E s):wpAny M A t (fun a s'=>1<=s'.toks/\Q a s') E s:=fun Γ p hΓ=>h M Γ _ _ p s (q Γ p hΓ)
end
section
variable {X:Cx}
end
end L2
namespace PySem
open Sem (wp)
section
variable {prog:Program} {w:World} {A:Around} {h:Heap} {g:Array GenState} {d:Drawn} {t:Nat} {os:OsState} {a:Addr}
end
end PySem
namespace L2
open PySem PySem.Spec PyProof.Rows
section
variable {prog:Program} {w:World} {A:Around} {R:Result->Shared->Prop} {I:Addr} {fp wr:List Addr} {G:Array GenState->Array GenState->Prop} {n:Nat} {St:Nat->Shared->Prop}
abbrev kT (prog:Program) (w:World):=tupleKind (ap' prog w)
def OkP (prog:Program) (w:World) (n:Nat) (ps:Nat->Addr) (key:Nat->List Key) (ka:Nat->Addr) (xv:Nat->Value) (h:Heap):Prop:=
 ∀i,i<n->IsTup h (ps i) #[.ref (ka i),xv i]/\(kT prog w).is h (key i) (ka i)
theorem OkP.at {ps:Nat->Addr} {key:Nat->List Key} {ka:Nat->Addr} {xv:Nat->Value} {h h':Heap} (x:OkP prog w n ps key ka xv h) (k:∀i,i<n->∀b,b=ps i\/b=ka i->∀o,h.get? b=some o->h'.get? b=some o):OkP prog w n ps key ka xv h':=fun i hi=>by
 obtain⟨⟨o,e,c,m,z⟩,⟨o2,its,m2,e2,r⟩⟩:=x i hi
 exact⟨⟨o,k i hi _ (.inl rfl) o e,c,m,z⟩,⟨o2,its,m2,k i hi _ (.inr rfl) o2 e2,r⟩⟩
end
section
variable {prog:Program} {w:World} {A:Around} {E:Value->Shared->Prop} {s:Shared}
set_option maxRecDepth 100000 in
set_option maxHeartbeats 3200000 in
end
section
variable {X:Cx}
end
abbrev QK:=Option (List Key×Addr)
def kvV:QK->Value
 |none=>.none
 |some q=>.ref q.2
section
variable {prog:Program} {w:World} {A:Around} {R:Result->Shared->Prop} {I:Addr} {fp wr:List Addr} {G:Array GenState->Array GenState->Prop} {n:Nat} {St:Nat->Shared->Prop}
def OkN (prog:Program) (w:World) (n:Nat) (ps:Nat->Addr) (qk:Nat->QK) (h:Heap):Prop:=
 ∀i,i<n->IsTup h (ps i) #[kvV (qk i),.bool true]/\∀q,qk i=some q->(kT prog w).is h q.1 q.2/\(kT prog w).hash q.1≠NH
theorem OkN.at {ps:Nat->Addr} {qk:Nat->QK} {h h':Heap} (x:OkN prog w n ps qk h) (k:∀i,i<n->∀b,(b=ps i\/∃q,qk i=some q/\b=q.2)->∀o,h.get? b=some o->h'.get? b=some o):OkN prog w n ps qk h':=fun i hi=>by
 obtain⟨⟨o,e,c,m,z⟩,r⟩:=x i hi
 refine⟨⟨o,k i hi _ (.inl rfl) o e,c,m,z⟩,fun q hq=>?_⟩
 obtain⟨⟨o2,its,m2,e2,r2⟩,hne⟩:=r q hq
 exact⟨⟨o2,its,m2,k i hi _ (.inr ⟨q,hq,rfl⟩) o2 e2,r2⟩,hne⟩
end
section
variable {prog:Program} {w:World} {A:Around} {E:Value->Shared->Prop} {s:Shared}
set_option maxRecDepth 100000 in
set_option maxHeartbeats 3200000 in
end
section
variable {X:Cx}
end
section
variable {prog:Program} {w:World} {A:Around} {E:Value->Shared->Prop} {s:Shared}
end
def Fz (H:Hp) (d:Addr) (o:Obj):Prop:=∃u,H d=some (.frz o u)
theorem Fz.at {P:Program} {w:World} {H:Hp} {h:Heap} {d:Addr} {o:Obj} (f:Fz H d o) (x:HOk P w H h):h.get? d=some o:=let⟨u,e⟩:=f;(x d _ e).1
section
variable {X:Cx} {tg:Expr}
theorem HOk.freeze {P:Program} {w:World} {H:Hp} {h:Heap} {d:Addr} {u:HO} {o:Obj} (x:HOk P w H h) (e:H d=some u) (hu:Mut (some u)) (ho:h.get? d=some o):HOk P w (upd H d (.frz o u)) h:=fun b v q=>by
 have ntup:∀c xs,H c=some (.tup xs)->c≠d:=fun c xs r z=>by subst z;rw[r]at e;cases e;exact hu
 have nown:∀c y,H c=some (.own y)->c≠d:=fun c y r z=>by subst z;rw[r]at e;cases e;exact hu
 have st:∀a v,av' P w H h a v->av' P w (upd H d (.frz o u)) h a v:=fun a v y=>y.stay (fun _ _ _ q=>q) (fun c r=>by rw[ad' (nown c a r)];exact r) fun c xs r=>by rw[ad' (ntup c xs r)];exact r
 by_cases hb:b=d
 .subst hb;rw[aa']at q;cases q;exact⟨ho,st _ _ (x _ _ e)⟩
 .rw[ad' hb]at q;exact st _ _ (x b v q)
theorem Inv.freeze {pins:List (Addr×Obj)} {σ:St} {H:Hp} {s:Shared} {d:Addr} {u:HO} {o:Obj} (I:Inv X pins σ H s) (e:H d=some u) (hu:Mut (some u)) (ho:s.heap.get? d=some o):Inv X pins σ (upd H d (.frz o u)) s:=by
 have:=I.step (h':=s.heap) (g':=s.gens) (d':=s.drawn) (t':=s.toks) (ch:=[]) (H':=upd H d (.frz o u)) (fun _ z=>nomatch z) (fun b o _ _ _ q _=>q) (fun b o _ _ _ q _=>⟨o.slots,q⟩)
  (fun b o _ _ n=>by rw[ad' (fun z=>by subst z;rw[n]at e;cases e)];exact n) (fun b o _ q=>⟨o,q⟩)
  (fun b xs q=>by rw[ad' (fun z=>by subst z;rw[q]at e;cases e;exact hu)];exact q)
  (fun b o v q=>by rw[ad' (fun z=>by subst z;rw[q]at e;cases e;exact hu)];exact q)
  (fun b ps q=>⟨#[],by rw[ad' (fun z=>by subst z;rw[q]at e;cases e;exact hu),Array.append_empty];exact q⟩)
  (fun m n=>n) (I.hok.freeze e hu ho) I.bare
 exact this
end
section
variable {X:Cx} {pos:Pos}
def xM' (K:W.Frag) (n:Nat) (t:TGs):TG:=fun v σ H Q=>∃a xs,v=.ref a/\(SqT K H a xs\/SqL K H a xs)/\xs.length=n/\t xs σ H Q
theorem uE' {es:List Expr} {k:Nat} {t:TGs} {n:Nat} (hc:X.calm=true) (h:PGs X es t)
  (hn:(assignEach es X.env).length=n:=by rfl) (hst:(assignEach es X.env).findIdx? (·.1)=none:=by rfl):PG X (.Tuple es k pos) (xM' X.K n t):=by
 intro pins s σ H v u Q I r hw
 obtain⟨a,xs,e1,hq,hl,hw⟩:=hw
 rcases hq with hq|hq
 .exact tv' hc h hn hst pins s σ H v u Q I r ⟨a,xs,e1,hq,hl,hw⟩
 .subst e1
  cases r
  obtain⟨its,rv,pl,hz⟩:=I.list hq
  rw[assign_Tuple]
  refine aa (bo ?_)
  unfold unpack
  rw[hn,hst]
  have e:n=its.toArray.size:=by simp[<- hl,rv.length]
  rw[e]
  refine aa (aH (W.kun_itemsOf (I.ok.hd hc) pl.isList fun h' hx=>?_))
  have I1:Inv X pins σ H { s with heap:=h' }:=I.kept (t':=s.toks) fun b o e=>hx b o (aB (av e)) e
  exact h pins _ σ H xs _ Q I1 (by simpa using rv) hw
end
section
variable {prog:Program} {w:World} {A:Around} {E:Value->Shared->Prop} {s:Shared} {K:Type} [DecidableEq K] {knd:HeapKind prog w K} {d:Addr}
end
section
variable {X:Cx}
end
end L2
namespace L2
open PySem PySem.Spec PyProof.Rows PySem.SeqAt
section
variable {prog:Program} {w:World} {d:Addr} {o:Obj} {es:Array DictEntry} {ep:Nat}
end
section
variable {X:Cx}
end
def Pw {α:Type} (R:V->α->Prop) (vs:List V) (as:List α):Prop:=vs.length=as.length/\∀(i:Nat) v a,vs[i]?=some v->as[i]?=some a->R v a
def LsR (H:Hp) {α:Type} (R:V->α->Prop) (v:V) (as:List α):Prop:=∃p vs,v=.ref p/\H p=some (.lst vs)/\Pw R vs as
def TpI (H:Hp) (v:V) (ns:List Int):Prop:=∃p,v=.ref p/\H p=some (.tup (ns.map V.int))
def w1' {α:Type} (R:V->α->Prop):Prop:=∀x a b,R x a->R x b->a=b
theorem Pw.fun1 {α:Type} {R:V->α->Prop} (hR:w1' R) {vs:List V} {as bs:List α} (h1:Pw R vs as) (h2:Pw R vs bs):as=bs:=by
 apply List.ext_getElem?
 intro i
 by_cases hi:i<vs.length
 .have g:=ac hi
  have g1:=ac (show i<as.length by rw[<- h1.1];exact hi)
  have g2:=ac (show i<bs.length by rw[<- h2.1];exact hi)
  rw[g1,g2,hR _ _ _ (h1.2 i _ _ g g1) (h2.2 i _ _ g g2)]
 .rw[List.getElem?_eq_none (by rw[<- h1.1];omega),List.getElem?_eq_none (by rw[<- h2.1];omega)]
theorem LsR.fun1 {H:Hp} {α:Type} {R:V->α->Prop} (hR:w1' R):w1' (LsR H R):=by
 rintro x a b ⟨p,vs,rfl,e,h⟩ ⟨q,ws,z,e',h'⟩
 cases z
 rw[e]at e'
 cases e'
 exact h.fun1 hR h'
theorem TpI.fun1 {H:Hp}:w1' (TpI H):=by
 rintro x a b ⟨p,rfl,e⟩ ⟨q,z,e'⟩
 cases z
 rw[e]at e'
 exact er' (by injection e' with e';injection e' with e')
section
variable {X:Cx} {pins:List (Addr×Obj)} {σ:L2.St} {H:Hp} {s:Shared}
end
end L2
namespace L2
open PySem PySem.Spec PyProof.Rows PySem.Ts PySem.SeqAt
section
variable {prog:Program} {w:World} {A:Around} {E:Value->Shared->Prop} {s:Shared} {T:String} {r d:Addr} {n:Nat} {P:Nat->Value->Prop} {OK:Heap->Prop}
end
section
variable {X:Cx}
end
end L2
namespace So
open PySem PySem.Spec PyProof.Rows
section
variable {M:Model} {A:Around} {E:Value->Shared->Prop} {s:Shared} {P:Keyed->Prop} {kd:SortKind}
structure CmpP (M:Model) (A:Around) (E:Value->Shared->Prop) (s:Shared) (P:Keyed->Prop) (kd:SortKind):Prop where
 lt:∀{x y:Keyed} {st:SortSt} {Q:Option Bool->SortSt->Prop},P x->P y->kindOf st=kd->(∀b,Q (some b) st)->wpS M A E s (lt' x y) Q st
section
variable {x y:Array Keyed}
def jX' (x y r:Array Keyed):Prop:=r.toList.Perm (x.toList++y.toList)
def Wp (x y o:Array Keyed) (i j:Nat):Prop:=(o.toList++(x.toList.drop i++y.toList.drop j)).Perm (x.toList++y.toList)/\i<=x.size/\j<=y.size
theorem Wp.dn {o:Array Keyed} {i j:Nat} (w:Wp x y o i j):jX' x y (dnL x y o i j):=by
 unfold jX' dnL
 rw[aN,aN,db',db',aO]
 exact w.1
theorem Wp.la {o:Array Keyed} {i j:Nat} (w:Wp x y o i j):jX' x y (laL x y o i j):=by
 unfold jX' laL
 rw[aN,aN,db',db',aO]
 exact(List.Perm.append_left _ List.perm_append_comm).trans w.1
theorem Wp.manyA {o:Array Keyed} {i j k:Nat} (w:Wp x y o i j) (hi:i+k<=x.size):Wp x y (o++x.extract i (i+k)) (i+k) j:=by
 refine⟨?_,hi,w.2.2⟩
 have m:=w.1
 rw[pi' _ i k]at m
 rw[aN,aP',bf]
 simpa only[aO]using m
theorem Wp.manyB {o:Array Keyed} {i j k:Nat} (w:Wp x y o i j) (hj:j+k<=y.size):Wp x y (o++y.extract j (j+k)) i (j+k):=by
 refine⟨?_,w.2.1,hj⟩
 have m:=w.1
 rw[pi' _ j k]at m
 rw[aN,aP',bf,aO]
 refine(List.Perm.append_left _ ?_).trans m
 exact List.perm_append_comm_assoc _ _ _
theorem iJ' {o a:Array Keyed} {i:Nat} {p:Keyed} (e:a[i]?=some p):o.push p=o++a.extract i (i+1):=by
 apply Array.toList_inj.mp
 rw[Array.toList_push,aN,aP',bf,lB' e]
 rfl
theorem Wp.putA {o:Array Keyed} {i j:Nat} {p:Keyed} (w:Wp x y o i j) (e:x[i]?=some p) (hi:i+1<=x.size):Wp x y (o.push p) (i+1) j:=by rw[iJ' e];exact w.manyA hi
theorem Wp.putB {o:Array Keyed} {i j:Nat} {p:Keyed} (w:Wp x y o i j) (e:y[j]?=some p) (hj:j+1<=y.size):Wp x y (o.push p) i (j+1):=by rw[iJ' e];exact w.manyB hj
end
section
variable {x y:Array Keyed}
def Wq (x y o:Array Keyed) (i j:Nat):Prop:=(x.toList.take i++(y.toList.take j++o.toList.reverse)).Perm (x.toList++y.toList)/\i<=x.size/\j<=y.size
theorem Wq.dn {o:Array Keyed} {i j:Nat} (w:Wq x y o i j):jX' x y (dnH x y o i j):=by
 unfold jX' dnH
 rw[aN,aN,e6',e6',ci,aO]
 exact w.1
theorem pj' (l:List Keyed) {z i:Nat} (h:z<=i):l.take i=l.take z++(l.drop z).take (i-z):=by
 have:=uB' l h
 rw[<- List.reverse_append]at this
 exact List.reverse_inj.mp this
theorem Wq.manyA {o:Array Keyed} {i j z:Nat} (w:Wq x y o i j) (hz:z<=i):Wq x y (o++(x.extract z i).reverse) z j:=by
 refine⟨?_,by have:=w.2.1;omega,w.2.2⟩
 have m:=w.1
 rw[pj' _ hz,aO]at m
 rw[aN,ci,aP',List.reverse_append,List.reverse_reverse]
 exact(List.Perm.append_left _ (List.perm_append_comm_assoc _ _ _)).trans m
theorem Wq.manyB {o:Array Keyed} {i j z:Nat} (w:Wq x y o i j) (hz:z<=j):Wq x y (o++(y.extract z j).reverse) i z:=by
 refine⟨?_,w.2.1,by have:=w.2.2;omega⟩
 have m:=w.1
 rw[pj' _ hz,aO]at m
 rw[aN,ci,aP',List.reverse_append,List.reverse_reverse]
 exact m
theorem iK' {o a:Array Keyed} {i:Nat} {p:Keyed} (e:a[i]?=some p):o.push p=o++(a.extract i (i+1)).reverse:=by
 apply Array.toList_inj.mp
 rw[Array.toList_push,aN,ci,aP',bf,lB' e]
 rfl
theorem Wq.putA {o:Array Keyed} {i j:Nat} {p:Keyed} (w:Wq x y o (i+1) j) (e:x[i]?=some p):Wq x y (o.push p) i j:=by rw[iK' e];exact w.manyA (Nat.le_succ _)
theorem Wq.putB {o:Array Keyed} {i j:Nat} {p:Keyed} (w:Wq x y o i (j+1)) (e:y[j]?=some p):Wq x y (o.push p) i j:=by rw[iK' e];exact w.manyB (Nat.le_succ _)
end
structure Sv (st0:SortSt) (st:SortSt):Prop where
 perm:(arrOf st).Perm (arrOf st0)
 kind:kindOf st=kindOf st0
 fail:failedOf st=failedOf st0
 pend:pendingOf st=pendingOf st0
section
variable {st0:SortSt} {lo nrem:Nat}
theorem Sv.size {st:SortSt} (B:Sv st0 st):(arrOf st).size=(arrOf st0).size:=B.perm.size_eq
theorem Sv.rev {st:SortSt} (B:Sv st0 st) {i j:Nat} {Q:Unit->SortSt->Prop} (h:∀st',Sv st0 st'->Q () st'):wpS M A E s (reverseSlice' i j) Q st:=by
 rw[reverseSlice'_eq];exact wpS_modify (h _ ⟨(mirror_perm _ _ _ _).trans B.perm,B.kind,B.fail,B.pend⟩)
theorem Sv.lt (C:CmpP M A E s P kd) {st:SortSt} {i j:Nat} {Q:Option Bool->SortSt->Prop} (kst:kindOf st0=kd) (pa:∀p∈(arrOf st0).toList,P p) (B:Sv st0 st) (hi:i<(arrOf st0).size) (hj:j<(arrOf st0).size)
  (h:∀b,Q (some b) st):wpS M A E s (ltAt' i j) Q st:=by
 obtain⟨p,ep,mp⟩:=lA' (a:=arrOf st) (i:=i) (by rw[B.size];exact hi)
 obtain⟨q,eq,mq⟩:=lA' (a:=arrOf st) (i:=j) (by rw[B.size];exact hj)
 have pm:=Array.perm_iff_toList_perm.mp B.perm
 rw[ltAt'_eq]
 exact wpS_bind (wpS_get (wpS_bind (iI' ep (wpS_bind (iI' eq (C.lt (pa p (pm.mem_iff.mp mp)) (pa q (pm.mem_iff.mp mq)) (B.kind.trans kst) h))))))
end
inductive Rq:List (Nat×Nat×Nat)->Nat->Nat->Prop
 |nil (a:Nat):Rq [] a a
 |cons {a b n:Nat} (w:Nat) {p:List (Nat×Nat×Nat)}:0<n->Rq p (a+n) b->Rq ((a,n,w) :: p) a b
theorem Rq.len:∀{p:List (Nat×Nat×Nat)} {a b:Nat},Rq p a b->a+p.length<=b
 |_,_,_,.nil _=>al _
 |_,_,_,.cons w h0 r=>by have:=r.len;rw[aR];omega
theorem Rq.push {n:Nat} (h0:0<n):∀{p:List (Nat×Nat×Nat)} {a b:Nat},Rq p a b->Rq (p++[(b,n,0)]) a (b+n)
 |_,_,_,.nil _=>.cons 0 h0 (.nil _)
 |_,_,_,.cons w g0 r=>.cons w g0 (r.push h0)
theorem Rq.merge {su nu pw sv nv pv:Nat}:∀{p:List (Nat×Nat×Nat)} {a b i:Nat},Rq p a b->p[i]?=some (su,nu,pw)->p[i+1]?=some (sv,nv,pv)->
  sv=su+nu/\0<nu/\0<nv/\sv+nv<=b/\Rq ((p.set i (su,nu+nv,pw)).eraseIdx (i+1)) a b
 |_,_,_,i,.nil _,e,_=>by simp at e
 |_,_,_,0,@Rq.cons a b n w p h0 r,e,e2=>by
  have e':(a,n,w)=(su,nu,pw):=by simpa using e
  have e2':p[0]?=some (sv,nv,pv):=by simpa using e2
  cases e'
  cases r with
  |nil _=>simp at e2'
  | @cons _ _ n2 w2 p2 g0 r2=>
   have e3:(su+nu,n2,w2)=(sv,nv,pv):=by simpa using e2'
   cases e3
   refine⟨rfl,h0,g0,by have:=r2.len;omega,?_⟩
   exact .cons _ (by omega) (by rw[<- Nat.add_assoc];exact r2)
 |_,_,_,i+1,@Rq.cons a b n w p h0 r,e,e2=>by
  obtain⟨a1,a2,a3,a4,a5⟩:=r.merge (i:=i) (by simpa using e) (by simpa using e2)
  exact⟨a1,a2,a3,a4,.cons w h0 a5⟩
structure Wv (kd:SortKind) (a0:Array Keyed) (st:SortSt) (b:Nat):Prop where
 rn:Rq (pendingOf st).toList 0 b
 pm:(arrOf st).toList.Perm a0.toList
 kd:kindOf st=kd
 fl:failedOf st=none
theorem Wv.size {a0:Array Keyed} {st:SortSt} {b:Nat} (w:Wv kd a0 st b):(arrOf st).size=a0.size:=by
 have:=w.pm.length_eq;simpa using this
theorem Wv.pa {a0:Array Keyed} {st:SortSt} {b:Nat} (w:Wv kd a0 st b) (pa:∀p∈a0.toList,P p):∀p∈(arrOf st).toList,P p:=fun p hp=>pa p (w.pm.mem_iff.mp hp)
end
end So
namespace L2
open PySem PySem.Spec PyProof.Rows So
section
variable {prog:Program} {w:World} {A:Around} {E:Value->Shared->Prop} {s:Shared}
end
section
variable {X:Cx}
variable {e:Expr} {scope:Scope} {tg iter:Expr} {ifs:List Expr} {nx:Addr->Env->Sem Unit} {g:TG} {tc:TT} {as':TL ((Option Int->Bool)×Nat)} {own:List Nat} {wi:TI}
end
end L2
namespace L2
open PySem PySem.Spec PyProof.Rows PySem.Ts PySem.SeqAt
section
variable {prog:Program} {w:World} {A:Around} {R:Result->Shared->Prop} {I:Addr} {fp wr:List Addr} {n:Nat} {P:Nat->Value->Prop} {St:Nat->Heap->Prop}
end
section
variable {X:Cx}
end
end L2
namespace L2
open PySem PySem.Spec PyProof.Rows PySem.W
def e7':Value->Bool
 | .ref _=>true
 |_=>false
def jY' (l:List Value):Bool:=l.dropWhile e7' == bmV
def lC' (K:Frag) (C:Addr):Bool:=(clsIn K C).any fun cd=>jY' cd.mro&&cd.hasDict
theorem lD' {v:Value} (h:e7' v=true):∃a,v=.ref a:=by
 unfold e7' at h
 split at h
 .exact⟨_,rfl⟩
 .cases h
theorem et' (self:Value) (w:Str):∀l:List Value,refuseLoop self w l=refuseLoop self w (l.dropWhile e7')
 | []=>rfl
 |a :: r=>by
  rw[List.dropWhile_cons]
  cases e:e7' a with
  |true=>
   obtain⟨c,rfl⟩:=lD' e
   rw[refuseLoop_ref,if_pos rfl]
   exact et' self w r
  |false=>rfl
theorem jZ' (self:Value) {l:List Value} (h:jY' l=true):refuseLoop self "__setattr__" l=pure ():=by
 rw[et',beq_iff_eq.mp h]
 exact PySem.F.store_ValueError.passes self
theorem nS' {l:List Value} (h:jY' l=true):l.contains (.type "object")=true:=by
 have e:=beq_iff_eq.mp h
 have m:Value.type "object"∈l.dropWhile e7':=by rw[e];exact .tail _ (.tail _ (.tail _ (.head _)))
 exact List.contains_iff_mem.mpr ((List.dropWhile_sublist _).subset m)
structure XSet (K:Frag) (C:Addr) (f:Str):Prop where
 sa:findIn K (.ref C) "__setattr__"=some (some (.builtin "object.__setattr__"))
 ov:lC' K C=true
 no:findIn K (.ref C) f=some none
section
variable {prog:Program} {w:World} {A:Around} {E:Value->Shared->Prop} {s:Shared} {K:Frag} {a C:Addr} {o:Obj} {f:Str} {v:Value} {tk:Tok}
theorem rC' {Q:Unit->Shared->Prop} (X:K.In s.heap) (S:XSet K C f) (hx:s.heap.get? a=some o) (hc:o.cls=.ref C) {vs:Array Value} (hv:o.data=.fields vs) (hd:o.dict=none)
  (h:∀h' D tk',s.heap.get? D=none->h'.Ns1 D (fun y=>if y=f then some v else none)->h'.get? a=some { o with dict:=some D }->(∀b ob,b≠a->s.heap.get? b=some ob->h'.get? b=some ob)->D≠a->Q () { s with heap:=h',toks:=tk' }):
  wpAny (model prog w) A (setAttr (.ref a) f v) Q E s:=by
 have I:InstAt s.heap a o C none:=⟨hx,hc,by unfold notCls;rw[hv],by rw[hd];trivial⟩
 obtain⟨cd,hcd,ho⟩:=any_some S.ov
 rw[af]at ho
 obtain⟨ho,hdct⟩:=ho
 have ne:cd.mro.isEmpty=false:=by
  cases q:cd.mro with
  |nil=>rw[q]at ho;exact absurd ho (by decide)
  |cons _ _=>rfl
 have sub:Looks (model prog w) s.heap (isInstance (.ref a) (.type "object")) true:=I.type.andThen (looks_mroIn X (by unfold mroIn;rw[hcd,Option.bind_some,if_neg (by rw[ne];decide),nS' ho]))
 have SF:=PySem.F.store_object
 have hm:Looks (model prog w) s.heap (mroOf (.ref C)) cd.mro:=(looks_clsIn X hcd).andThen .now
 have L1:=looks_findIn (M:=model prog w) X S.no
 have L2:=looks_clsIn (M:=model prog w) X hcd
 have L0:=I.type (M:=model prog w)
 refine set_plain X I S.sa ?_
 refine codeAny_call_builtin SF.slot.plain SF.entry (@check_slot (model prog w) _ _ { s with toks:=s.toks+1 } "object.__setattr__" "object" "__setattr__" (.ref a) [.str f s.toks,v] [] _ SF.kind SF.split sub (SF.args (.ref a) (.str f s.toks) v) ?_)
 rw[osa_eq,refuse_eq]
 refine aa (aa (Looks.here (s:={ s with toks:=s.toks+1 }) L0 (aa (Looks.here (s:={ s with toks:=s.toks+1 }) hm ?_))))
 rw[jZ' _ ho]
 refine ae (aa (Looks.here (s:={ s with toks:=s.toks+1 }) L0 (aa (Looks.here (s:={ s with toks:=s.toks+1 }) L1 (aa (ae ?_))))))
 have hx1:s.heap.get? a=some o:=hx
 refine aa (ae (aa (aa (wpAny_loadPart hx1 ?_))))
 obtain⟨oc,od,odt,osl⟩:=o
 dsimp only at hc hv hd
 subst hc hv hd
 refine aa (Looks.here (s:={ s with toks:=s.toks+1 }) L2 ?_)
 rw[hdct]
 show wpAny _ _ (alloc emptyDict >>= fun d=>update a (fun o=>{ o with dict:=some d }) >>= fun _=>dictMade (.ref C) a d) _ _ _
 have e1:(s.heap.push emptyDict).get? s.heap.objs.size=some emptyDict:=ax s.heap rfl
 have hax:a≠s.heap.objs.size:=aB (av hx)
 have hx2:(s.heap.push emptyDict).get? a=some ⟨.ref C,none,.fields vs,osl⟩:=ag _ hx
 refine aa (wpAny_alloc' (aa (wpAny_update' hx2 (ae (a:=some s.heap.objs.size) ?_))))
 have e2:((s.heap.push emptyDict).update a fun o=>{ o with dict:=some s.heap.objs.size }).get? s.heap.objs.size=some emptyDict:=(Heap.get?_update_ne _ _ _ _ hax.symm).trans e1
 have e3:((s.heap.push emptyDict).update a fun o=>{ o with dict:=some s.heap.objs.size }).Ns s.heap.objs.size (fun _=>none):=⟨emptyDict,#[],_,e2,rfl,(fun e he=>absurd he (by simp)),fun _=>rfl⟩
 have e4:((s.heap.push emptyDict).update a fun o=>{ o with dict:=some s.heap.objs.size }).get? a=some ⟨.ref C,some s.heap.objs.size,.fields vs,osl⟩:=Heap.get?_update_self _ hx2 rfl
 refine aa (ae (aa (wpAny_nsSet1 (Heap.Ns1.of_empty e3) fun h' hn2 hs2=>?_)))
 obtain⟨oD,esD,epD,hoD,hdD,hcD⟩:=hn2.count (PySem.Within.cons f v PySem.Within.nil)
 refine aa (wpAny_lookBehind hoD (by rw[hdD];exact pastItsLine_dict (aF hcD (by show 1<=_;decide))) ?_)
 refine ae (h h' s.heap.objs.size _ (cg (al _)) hn2 ((hs2.2 a hax).trans e4) (fun b ob hb eb=>?_) hax.symm)
 exact(hs2.2 b (aB (av eb))).trans ((Heap.get?_update_ne _ _ _ _ hb).trans (ag _ eb))
end
section
variable {prog:Program} {w:World} {A:Around} {E:Value->Shared->Prop} {K:Frag} {h:Heap} {g:Array GenState} {d:Drawn} {t:Nat} {os:OsState} {a C:Addr} {o od:Obj} {f:Str} {v:Value}
theorem nT' {tk:Tok} {Q:Fin->Shared->Prop} (X:K.In h) (I:InstAt h a o C (some od)) (hf:findObj K C (some od) f=some (.value v)) (hv:handedIn v=true) (hq:Q (.done (.ret v)) ⟨h,g,d,t,os⟩):
  wpAny (model prog w) A (Builtin.«object.__getattribute__» ⟨[.ref a,.str f tk],[]⟩) Q E ⟨h,g,d,t,os⟩:=by
 have L0:=I.type (M:=model prog w)
 have L1:=looks_find (M:=model prog w) X I hf
 unfold Builtin.«object.__getattribute__»
 exact aa (ae (aa (ae (aa (L0.at (aa (L1.at (ae hq))))))))
theorem rD' {tk:Tok} {R:Result->Shared->Prop} (X:K.In h) (I:InstAt h a o C (some od)) (x:XCls K C) (hf:findObj K C (some od) f=some (.value v)) (hv:handedIn v=true) (hq:R (.ok (.ret v)) ⟨h,g,d,t,os⟩):
  codeAny (model prog w) A (.call (.builtin "BaseException.__getattribute__") ⟨[.ref a,.str f tk],[]⟩) R ⟨h,g,d,t,os⟩:=
 codeAny_call_builtin gp' F.entry_bexc_ga (lf' X I.at_ I.cls x (nT' X I hf hv hq))
theorem xN' {tk:Tok} {fill expr:Bool} {Q:Value->Shared->Prop} (X:K.In h) (I:InstAt h a o C (some od)) (x:XCls K C) (hf:findObj K C (some od) f=some (.value v)) (hv:handedIn v=true) (hq:Q v ⟨h,g,d,t,os⟩):
  wpAny (model prog w) A (getAttrBy (.ref a) (.str f tk) fill expr) Q E ⟨h,g,d,t,os⟩:=by
 have L1:=looks_findIn (M:=model prog w) X x.ga
 have L2':=looks_findIn (M:=model prog w) X x.gt
 have b0:=iz' (.ref a)
 have hx:=I.at_
 have hc:=I.cls
 have z0:(expr&&onTheHeap (Value.builtin "BaseException.__getattribute__"))=false:=by cases expr<;>rfl
 repeat (any_goals (first|assumption|(with_reducible refine aY hx ?_;rw[hc])|(with_reducible refine L1.at ?_)|(with_reducible refine L2'.at ?_)|wp_step))
 refine rD' X I x hf hv ?_
 repeat (any_goals (first|assumption|wp_step))
 show wpAny _ _ (handedOut v) _ _ _
 rw[handedOut_of hv];exact ae hq
theorem rE' {expr:Bool} {Q:Value->Shared->Prop} (X:K.In h) (I:InstAt h a o C (some od)) (x:XCls K C) (hf:findObj K C (some od) f=some (.value v)) (hv:handedIn v=true) (hq:Q v ⟨h,g,d,t+1,os⟩):
  wpAny (model prog w) A (getAttr (.ref a) f expr) Q E ⟨h,g,d,t,os⟩:=by
 unfold getAttr
 repeat (any_goals (first|assumption|with_reducible apply xN' X I x hf hv|wp_step))
end
end L2
namespace L2
open PySem PySem.Spec PyProof.Rows PySem.W
section
variable {prog:Program} {w:World} {A:Around} {E:Value->Shared->Prop} {K:Frag} {h:Heap} {g:Array GenState} {d:Drawn} {t:Nat} {os:OsState}
variable {nm q:Str} {C N fI:Addr} {bs bm:List Value} {hdct:Bool} {sn:List Str} {sub:List Value} {ab:Bool} {col:Option Bool} {dd:Option Addr} {k0 k1 k2 k3 k5:Option Value}
theorem uF' {as':List Value} {Q:Fin->Shared->Prop} (X:K.In h) (T:OwnTail h bmV bm) (hC:h.get? C=some (excClassObj nm q C N bs bm hdct sn sub ab col dd k0 k1 k2 k3 k5 "ValueError.__new__"))
  (hi:findIn K (.ref C) "__init__"=some (some (.ref fI))) (hf:typeIn K (.ref fI)=some (.type "function")) (hrest:as'.length<=sizeLine)
  (hq:∀h' e,Heap.MadeExcOf h h' e (.ref C) as'->wpAny (model prog w) A (call (.ref fI) (.ref e :: as')) (fun r s'=>r=.none/\Q (.done (.ret (.ref e))) s') E ⟨h',g,d,t,os⟩):
  wpAny (model prog w) A (Builtin.«type.__call__» ⟨.ref C :: as',[]⟩) Q E ⟨h,g,d,t,os⟩:=by
 have F:=PySem.F.excBase_ValueError
 repeat (first|with_reducible refine aY hC ?_|with_reducible refine wpAny_madeBy_exc hC ?_|wp_step)
 refine codeAny_call_builtin_code (Code.quiet_builtin _ F.quiet) (wpAny_check_new_subT F T hC (codeAny_exc_new_subT F T hC ?_ hrest))
 show wpAny _ _ _ _ _ _
 let args:Obj:={ cls:=.type "tuple",data:=.seq as'.toArray }
 let exc:Obj:={ cls:=.ref C,data:=.fields #[.ref h.objs.size,.none,.none,.none,.bool false,.none] }
 have up:∀b o,h.get? b=some o->((h.push args).push exc).get? b=some o:=fun b o z=>ag _ (ag _ z)
 have X2:K.In ((h.push args).push exc):=X.keeps up
 have hC2:=up _ _ hC
 have he:((h.push args).push exc).get? (h.objs.size+1)=some exc:=by
  have:=ax (h.push args) (o:=exc) rfl
  rwa [bu]at this
 have hin:(Value.ref C :: bm).contains (.ref C)=true:=by simp
 have L1:=looks_findIn (M:=model prog w) X2 hi
 unfold isInstance
 repeat (first|with_reducible refine aY he ?_|(with_reducible refine wpAny_isSubtype_exc hC2 ?_;rw[hin])|wp_step)
 show wpAny _ _ (typeLookup (.ref C) _) _ _ _
 refine L1.here (s:=⟨_,g,d,t,os⟩) (aH (aa ((bind_fn (M:=model prog w) X2 (.ref (h.objs.size+1)) hf).here (s:=⟨_,g,d,t,os⟩) (aa ?_))))
 refine bw (hq _ (h.objs.size+1) ⟨up,cg (Nat.le_succ _),h.objs.size,he,cg (al _),?_⟩) (fun r s' hr=>?_) fun _ _ x=>x
 .exact ag _ (Heap.get?_push_at rfl rfl)
 .obtain⟨rfl,hQ⟩:=hr
  wp_walk
  exact hQ
theorem hN' {as':List Value} {Q:Value->Shared->Prop} (X:K.In h) (T:OwnTail h bmV bm) (hC:h.get? C=some (excClassObj nm q C N bs bm hdct sn sub ab col dd k0 k1 k2 k3 k5 "ValueError.__new__"))
  (hi:findIn K (.ref C) "__init__"=some (some (.ref fI))) (hf:typeIn K (.ref fI)=some (.type "function")) (hrest:as'.length<=sizeLine)
  (hq:∀h' e,Heap.MadeExcOf h h' e (.ref C) as'->wpAny (model prog w) (A.under (.builtin "type.__call__" ⟨.ref C :: as',[]⟩)) (call (.ref fI) (.ref e :: as')) (fun r s'=>r=.none/\Q (.ref e) s') E ⟨h',g,d,t,os⟩):
  wpAny (model prog w) A (call (.ref C) as') Q E ⟨h,g,d,t,os⟩:=by
 have f1:=tc_lookup
 have f2:=tc_bind (.ref C)
 have hT:(⟨h,g,d,t,os⟩:Shared).TypeIs (.ref C) "type":=⟨_,hC,rfl⟩
 refine wpAny_call (codeAny_of_tree ?_)
 show wpAny _ _ (callAny (.ref C) _) _ _ _
 repeat (any_goals (first|assumption|with_reducible refine aY hC ?_|wp_step))
 refine⟨rfl,?_⟩
 exact codeAny_call_builtin_at (Code.quiet_builtin _ (by decide +kernel)) entry_typeCall (wpAny_check_type_call_sub hC (uF' X T hC hi hf hrest hq))
end
end L2
namespace L2
open PySem PySem.Spec PyProof.Rows PySem.W
def w2' (K:Frag) (C:Addr):Bool:=match K.lookup C with
 |some ⟨.type "type",_,.cls cd,sl⟩=>(match cd.mro,sl.toList with
  | .ref C' :: bm,[_,_,_,_,some (.builtin n),_]=>C' == C&&n == "ValueError.__new__"&&!cd.hasDel&&tailIn K bmV bm&&nsOkIn K cd.ns&&(jY' cd.mro&&cd.hasDict)
  |_,_=>false)
 |_=>false
structure Xi (K:Frag) (C fI:Addr) (f:Str):Prop where
 xi:w2' K C=true
 ini:findIn K (.ref C) "__init__"=some (some (.ref fI))
 fn:typeIn K (.ref fI)=some (.type "function")
 sa:findIn K (.ref C) "__setattr__"=some (some (.builtin "object.__setattr__"))
 no:findIn K (.ref C) f=some none
 kp:keepIn K (.ref C)=true
set_option tactic.hygienic true in
theorem lE' {K:Frag} {C:Addr} (q:w2' K C=true):∃dd nm bs bm ns qn sn sub ab col k0 k1 k2 k3 k5,K.lookup C=some (excClassObj nm qn C ns bs bm true sn sub ab col dd k0 k1 k2 k3 k5 "ValueError.__new__")/\tailIn K bmV bm=true/\jY' (.ref C :: bm)=true:=by
 unfold w2' at q
 split at q
 .rename_i dd cd sl ho
  split at q
  .rename_i C' bm k0 k1 k2 k3 n k5 hm hs
   simp only[af,beq_iff_eq,aL]at q
   obtain⟨⟨⟨⟨⟨rfl,rfl⟩,hdel⟩,ht⟩,hok⟩,hov,hdc⟩:=q
   obtain⟨nm',bs,mro,ns,qn,hd',sn,sub,ab,col,del⟩:=cd
   dsimp only at hm hdel hok hov hdc
   subst hm hdel hdc
   have hsl:sl=#[k0,k1,k2,k3,some (.builtin "ValueError.__new__"),k5]:=by
    obtain⟨l⟩:=sl
    simp only at hs
    rw[hs]
   subst hsl
   exact⟨dd,nm',bs,bm,ns,qn,sn,sub,ab,col,k0,k1,k2,k3,k5,ho,ht,hov⟩
  .cases q
 .cases q
theorem Xi.set {K:Frag} {C fI:Addr} {f:Str} (x:Xi K C fI f):XSet K C f:=by
 obtain⟨dd,nm,bs,bm,ns,qn,sn,sub,ab,col,k0,k1,k2,k3,k5,ho,ht,hov⟩:=lE' x.xi
 refine⟨x.sa,?_,x.no⟩
 unfold lC' clsIn
 rw[ho]
 show(jY' (.ref C :: bm)&&true)=true
 rw[hov];rfl
theorem Xi.dict {K:Frag} {C fI:Addr} {f:Str} (x:Xi K C fI f):hasDictIn K C=true:=by
 obtain⟨dd,nm,bs,bm,ns,qn,sn,sub,ab,col,k0,k1,k2,k3,k5,ho,ht,hov⟩:=lE' x.xi
 unfold hasDictIn clsIn
 rw[ho]
 rfl
def exN (Ca:Addr) (dx:Option Addr) (t:Addr):Obj:={ cls:=.ref Ca,dict:=dx,data:=.fields #[.ref t,.none,.none,.none,.bool false,.none] }
def iL' (e Ca:Addr) (dx:Option Addr) (t:Addr):HO:=.ext fun h=>h.get? e=some (exN Ca dx t)
theorem lF' {P:Program} {w:World} {H:Hp} {h:Heap} {e Ca t:Addr} {dx:Option Addr} (he:h.get? e=some (exN Ca dx t)):av' P w H h e (iL' e Ca dx t):=⟨he,⟨_,he⟩,fun _ _ q k=>k _ q⟩
section
variable {X:Cx} {pins:List (Addr×Obj)} {σ:St} {H:Hp} {s:Shared}
theorem Inv.trackY {D:Addr} {u:HO} (I:Inv X pins σ H s) (hn:H D=none) (hl:X.env.locals≠D) (hcell:∀x c,X.env.cells.lookup x=some c->c≠D) (h0:X.s₀.heap.get? D=none) (hp:∀p∈X.pn++pins,p.1≠D) (hu:av' X.prog X.w (upd H D u) s.heap D u):Inv X pins σ (upd H D u) s:=by
 have ne:∀b u,H b=some u->b≠D:=fun b u q z=>by rw[z,hn]at q;cases q
 refine⟨I.ok,I.os,I.bare,⟨I.base.keep,I.base.slot,fun b o e0 n hx=>?_,I.base.there,fun b xs q=>?_,fun b o u q=>?_,fun b ps q=>?_⟩,I.loc,I.cell,?_,fun x c hx=>?_,fun p hpp=>?_,fun b u' q=>?_,I.len⟩
 .rw[ad' (fun z=>by rw[z,h0]at e0;cases e0)]
  exact I.base.free b o e0 n hx
 .have:=I.base.tups b xs q
  rw[ad' (ne _ _ this)];exact this
 .have:=I.base.frzs b o u q
  rw[ad' (ne _ _ this)];exact this
 .obtain⟨m,z⟩:=I.base.tbls b ps q
  exact⟨m,by rw[ad' (ne _ _ z)];exact z⟩
 .rw[ad' hl];exact I.free
 .rw[ad' (hcell x c hx)];exact I.freeC x c hx
 .obtain⟨e1,n1,r1⟩:=I.pin p hpp
  exact⟨e1,by rw[ad' (hp p hpp)];exact n1,r1⟩
 .by_cases hb:b=D
  .subst hb
   rw[aa']at q
   cases q
   exact hu
  .rw[ad' hb]at q
   exact(I.hok b u' q).stay (fun _ _ _ z=>z) (fun c z=>by rw[ad' (ne _ _ z)];exact z) fun c xs z=>by rw[ad' (ne _ _ z)];exact z
def rF' (H:Hp) (e:Addr):Hp:=fun b=>if b=e then none else H b
theorem du' {e b:Addr} (h:b≠e):rF' H e b=H b:=if_neg h
theorem lG' {e:Addr}:rF' H e e=none:=if_pos rfl
set_option tactic.hygienic true in
theorem nU' {e:Addr} {u:HO} (h:H e=none):rF' (upd H e u) e=H:=by
 funext b
 unfold rF'
 split
 .rename_i z;rw[z,h]
 .rename_i z;exact ad' z
theorem Inv.untrack {e:Addr} {φ:Heap->Prop} (I:Inv X pins σ H s) (he:H e=some (.ext φ)):Inv X pins σ (rF' H e) s:=by
 have ne:∀{b u},H b=some u->(∀ψ,u≠.ext ψ)->rF' H e b=H b:=fun {b u} q n=>du' fun z=>by
  rw[z,he]at q;cases q;exact n φ rfl
 refine⟨I.ok,I.os,I.bare,⟨I.base.keep,I.base.slot,fun b o e0 n hx=>?_,I.base.there,fun b xs q=>?_,fun b o u q=>?_,fun b ps q=>?_⟩,I.loc,I.cell,?_,fun x c hx=>?_,fun p hpp=>?_,fun b u' q=>?_,I.len⟩
 .have:=I.base.free b o e0 n hx
  rw[du' fun z=>by rw[z,he]at this;cases this];exact this
 .have:=I.base.tups b xs q
  rw[ne this fun _ z=>by cases z];exact this
 .have:=I.base.frzs b o u q
  rw[ne this fun _ z=>by cases z];exact this
 .obtain⟨m,z⟩:=I.base.tbls b ps q
  exact⟨m,by rw[ne z fun _ z=>by cases z];exact z⟩
 .have:=I.free
  rw[du' fun z=>by rw[z,he]at this;cases this];exact this
 .have:=I.freeC x c hx
  rw[du' fun z=>by rw[z,he]at this;cases this];exact this
 .obtain⟨e1,n1,r1⟩:=I.pin p hpp
  exact⟨e1,by rw[du' fun z=>by rw[z,he]at n1;cases n1];exact n1,r1⟩
 .by_cases hb:b=e
  .rw[hb,lG']at q;cases q
  .rw[du' hb]at q
   exact(I.hok b u' q).stay (fun _ _ _ z=>z) (fun c z=>by rw[ne z fun _ z=>by cases z];exact z) fun c xs z=>by rw[ne z fun _ z=>by cases z];exact z
def xO' (K:Frag) (tv ta:TE) (f:Str):TS:=fun D σ H=>tv σ H fun y H1=>ta σ H1 fun x H2=>∃e Ca fI t,x=.ref e/\Xi K Ca fI f/\H2 e=some (iL' e Ca none t)/\∀d,H2 d=none->D.nx σ (upd (upd H2 e (iL' e Ca (some d) t)) d (.xd [(f,y)]))
theorem rG' {o value:Expr} {f:Str} {pos' pos:Pos} {ta tv:TE} (F:FnCx X) (ha:PE X o ta) (hv:PE X value tv) (hs:swapsWith value (some (.Attribute o f pos')) pos.line X.env=pure false):PS X (.Assign [.Attribute o f pos'] value pos) (xO' X.K tv ta f):=by
 intro pins s σ H D I h
 refine plainObj_wpAny_Assign_Attribute (thn (hv pins s σ H _ I h) fun u s1 ⟨y,H1,I1,ry,q⟩=>thn (ha pins s1 σ H1 _ I1 q) fun ov s2 ⟨x,H2,I2,rx,e,Ca,fI,t,ex,xi,hE,q2⟩=>?_) hs
 subst ex
 obtain rfl:ov=Value.ref e:=rx
 have he:s2.heap.get? e=some (exN Ca none t):=(show av' X.prog X.w H2 s2.heap e (iL' e Ca none t) from I2.hok e _ hE).1
 refine rC' (o:=exN Ca none t) I2.kIn xi.set he rfl rfl rfl fun h' d tk hd hns he' hk hne=>?_
 have I3:Inv X pins σ (upd H2 e (iL' e Ca (some d) t)) { s2 with heap:=h',toks:=tk }:=I2.write (x:=e) (e:=e) (by rw[hE];exact True.intro) (.inl rfl) (fun b u hb z=>hk b u hb z) ⟨_,he'⟩ (lF' he')
 have hdn:H2 d=none:=I2.gone hd
 have I4:=I3.trackY (D:=d) (u:=.xd [(f,y)]) (by rw[ad' hne];exact hdn) (fun z=>?_) (fun x c hx z=>?_) (I2.gone0 F hd) (fun p hp z=>?_) ⟨_,hns,fun g=>?_⟩
 .exact⟨σ,_,I4,q2 d hdn⟩
 .obtain⟨m,⟨o',es,ep,ho',_⟩,_⟩:=I2.loc
  rw[z,hd]at ho';cases ho'
 .obtain⟨v,oc,ho',_⟩:=I2.cell x c hx
  rw[z,hd]at ho';cases ho'
 .have:=(I2.pin p hp).1
  rw[z,hd]at this;cases this
 .show jC' ([(f,y)].lookup g) (if g=f then some u else none)
  by_cases z:g=f
  .rw[if_pos z,z,bB,beq_self_eq_true];exact ry
  .rw[if_neg z,bB,show(g == f)=false from beq_eq_false_iff_ne.mpr z];exact True.intro
end
end L2
namespace L2
open PySem PySem.Spec PyProof.Rows PySem.W
def hP' (K:Frag) (f:Str):Sp:=fun vs H Q _=>∃(e Ca fI t:Addr) (y:V),vs=[.ref e,y]/\Xi K Ca fI f/\H e=some (iL' e Ca none t)/\∀d,H d=none->Q .non (upd (upd H e (iL' e Ca (some d) t)) d (.xd [(f,y)]))
section
variable {P:Program} {w:World} {K:Frag} {mg:Str->Option Value} {base:Heap}
theorem uG' {x qual a b fl:Str} {st:Stmt} {f:Addr} {fd:FuncData} {k:Nat} {p1 p2 p3 p4:Pos} (F:Fun K x qual st f fd) (S:FnScope [a,b] [a,b] (ab' st)) (hb:aj' st=[.Assign [.Attribute (.Name a p1) fl p2] (.Name b p3) p4])
  (ha:(a == ("__debug__":Str))=false/\(a == ("__classdict__":Str))=false) (hb2:(b == ("__debug__":Str))=false/\(b == ("__classdict__":Str))=false):FnOk P w K mg base CX0 (k+1) f fd [a,b] (hP' K fl):=by
 obtain⟨oc,od,kV,doc,pm,an,cdv,ct,osl,rfl,lk,hcd⟩:=F.ex
 refine q1' lk hcd S (fun vs H Q E h=>by obtain⟨_,_,_,_,_,rfl,_⟩:=h;rfl) fun A outer s H vs Q E hr hsp=>?_
 have fc:FnCx (o7' CX0 P w K mg base [a,b] qual (ab' st) f cdv A outer s H E):=⟨rfl,fun _=>rfl,rfl,rfl,la' hcd⟩
 have vis:∀y∈[a,b],Vis (ab' st) y:=fun y hy=>(S.par y hy).elim .inl fun z=>.inr (.inl z)
 refine⟨_,by rw[hb];exact qM' (rG' fc (f3' (i:=0) rfl (vis a (by simp)) ha.1 ha.2) (f3' (i:=1) rfl (vis b (by simp)) hb2.1 hb2.2) rfl),?_⟩
 obtain⟨e,Ca,fI,t,y,rfl,xi,hE,q⟩:=hsp
 exact⟨y,rfl,.ref e,rfl,e,Ca,fI,t,rfl,xi,hE,q⟩
end
section
variable {M:Model} {A:Around} {E:Value->Shared->Prop} {s:Shared} {env:Env} {nm q:Str} {C N:Addr} {bs bm:List Value} {hdct:Bool} {sn:List Str} {sub:List Value} {ab:Bool} {col:Option Bool} {dd:Option Addr} {k0 k1 k2 k3 k5:Option Value} {newId:String}
theorem hQ' {x:Sem Value} {Q:Flow->Shared->Prop} (hbase:bm.contains (.type "BaseException")=true) (hh:A.handled=none)
  (h:wpAny M A x (fun v s₁=>∃e t dx,v=.ref e/\s₁.heap.get? C=some (excClassObj nm q C N bs bm hdct sn sub ab col dd k0 k1 k2 k3 k5 newId)/\s₁.heap.get? e=some (exN C dx t)/\E (.ref e) s₁) E s):wpAny M A (raiseStmt env (some x) none) Q E s:=by
 have hin:(Value.ref C :: bm).contains (.type "BaseException")=true:=by rw[List.contains_cons,hbase,Bool.or_true]
 unfold raiseStmt
 refine aa (bw h (fun v s₁ q=>?_) fun _ _ z=>z)
 obtain⟨e,t,dx,rfl,hC,he,hE⟩:=q
 obtain⟨hp,g,d,tk,os⟩:=s₁
 unfold exN at he
 repeat (first|with_reducible refine aY he ?_|with_reducible refine aY hC ?_|(with_reducible refine wpAny_isSubtype_exc hC ?_;rw[hin])|wp_step)
 exact wpAny_raiseNew_none hh hE
end
theorem nV' {H:Hp} {a b:Addr} {o u:HO} (h:a≠b):upd (upd H a o) b u=upd (upd H b u) a o:=by
 funext c
 unfold upd
 by_cases z:c=b
 .rw[if_pos z,if_pos z,if_neg fun y=>h (y.symm.trans z)]
 .rw[if_neg z,if_neg z]
def th' (f:Str) (wish:Option Addr->Hp->Prop):VK:=fun y H1=>∃z,[y]=[z]/\∀d,H1 d=none->wish (some d) (upd H1 d (.xd [(f,z)]))
section
variable {X:Cx}
theorem uH' {nm f:Str} {Ca fI:Addr} {fd:FuncData} {ps:List Str} {k:Nat} {ea:Expr} {ta:TE} {np cpos pos:Pos} {wish:St->Option Addr->Hp->Prop} (F:FnCx X) (hc:X.calm=true) (hg:Gl X nm) (hm:X.mg nm=some (.ref Ca)) (hd:(nm == ("__debug__":Str))=false)
  (xi:Xi X.K Ca fI f) (G:FnOk X.prog X.w X.K X.mg X.base CX0 k fI fd ps (hP' X.K f)) (hr:Room (k+1) X.A) (hb:cq' X.K fd ps []) (ha:PE X ea ta) (hst:starEach [ea] X.env=[(false,eval ea X.env)])
  (hx:∀pins σ H s e t dx,Inv X pins σ H s->H e=none->X.s₀.heap.get? e=none->(∀p∈X.pn++pins,p.1≠e)->s.heap.get? e=some (exN Ca dx t)->wish σ dx H->X.xe (.ref e) s):
  PS X (.Raise (some (.Call (.Name nm np) [ea] [] cpos)) none pos) (fun _ σ H=>ta σ H (th' f (wish σ))):=by
 intro pins s σ H D I h
 obtain⟨dd,cn,bs,bm,ns,qn,sn,sub,ab,col,k0,k1,k2,k3,k5,lk,ht,hov⟩:=lE' xi.xi
 have hbase:bm.contains (.type "BaseException")=true:=(W.tail_of_in I.kIn ht).hasType PySem.F.excBase_ValueError.hasBase
 have hcall:wpAny (model X.prog X.w) X.A (eval (.Call (.Name nm np) [ea] [] cpos) X.env) (fun v s₁=>∃e t dx,v=.ref e/\s₁.heap.get? Ca=some (excClassObj cn qn Ca ns bs bm true sn sub ab col dd k0 k1 k2 k3 k5 "ValueError.__new__")/\s₁.heap.get? e=some (exN Ca dx t)/\X.xe (.ref e) s₁) X.xe s:=by
  refine wpAny_Call_Name_kw (fn' I hg hm ?_ hd)
  have h':bP' ta hj' σ H (fun vs H1=>∃z,vs=[z]/\∀d,H1 d=none->wish σ (some d) (upd H1 d (.xd [(f,z)]))):=h
  refine W.callWith_K (h₀:=X.base) I.ok.mod.kin xi.kp (thn ((bW' ha d8' hst) cpos pins s σ H _ I h') fun us s1 ⟨vs,H1,I1,r,q⟩=>⟨I1.kIn,?_⟩) hst rfl
  obtain⟨y,rfl,q⟩:=q
  obtain⟨u,rfl,ry⟩:∃u,us=[u]/\aF' y u:=by
   cases r with
   |cons ra rb=>cases rb;exact⟨_,rfl,ra⟩
  have hC:=I1.kIn _ _ lk
  refine hN' I1.kIn (W.tail_of_in I1.kIn ht) hC xi.ini xi.fn (by show 1<=sizeLine;decide) fun h' e Md=>?_
  obtain⟨t,he,htn,hta⟩:=Md.there
  have I2:Inv X pins σ H1 { s1 with heap:=h' }:=I1.kept (t':=s1.toks) Md.keeps
  have hen:H1 e=none:=I1.gone Md.new
  have he0:X.s₀.heap.get? e=none:=I1.gone0 F Md.new
  have hpe:∀p∈X.pn++pins,p.1≠e:=fun p hp z=>by
   have:=(I1.pin p hp).1
   rw[z,Md.new]at this;cases this
  have he':h'.get? e=some (exN Ca none t):=he
  have I3:=I2.trackY (D:=e) (u:=iL' e Ca none t) hen (fun z=>by
   obtain⟨m,⟨o',es,ep,ho',_⟩,_⟩:=I1.loc
   rw[z,Md.new]at ho';cases ho') (fun x c hx' z=>by
   obtain⟨v,oc,ho',_⟩:=I1.cell x c hx'
   rw[z,Md.new]at ho';cases ho') he0 hpe (lF' he')
  have hsp:hP' X.K f [.ref e,y] (upd H1 e (iL' e Ca none t)) (fun v H2=>v=.non/\∃d,H1 d=none/\H2=upd (upd H1 e (iL' e Ca (some d) t)) d (.xd [(f,y)])/\d≠e) E0:=by
   refine⟨e,Ca,fI,t,y,rfl,xi,aa',fun d hd'=>⟨rfl,d,?_,?_,?_⟩⟩
   .by_cases z:d=e
    .rw[z];exact hen
    .rw[ad' z]at hd';exact hd'
   .rw[fl']
   .intro z;rw[z,aa']at hd';cases hd'
  have hl:([Value.ref e,u]++([]:List Value)).length=ps.length:=by rw[<- G.len _ _ _ _ hsp];rfl
  refine wpAny_call (codeAny_mono (G.run _ X.stack { s1 with heap:=h' } _ ⟨[.ref e,u],[]⟩ ([.ref e,u]++[]) [.ref e,y] _ E0 (hr.make Ca [u] []) (I3.env0.make Ca [u] []) (hb _ [.ref e,u] I3.kIn hl) (by exact .cons rfl (.cons ry .nil)) hsp) fun r s' hq'=>?_)
  cases r with
  |error e=>exact hq'.elim
  |ok fl=>
   cases fl with
   |ret u=>
    obtain⟨v,H',I4,rv,ev,d,hd1,eH,hde⟩:=I3.after hq'
    subst ev
    subst eH
    have hE4:(upd (upd H1 e (iL' e Ca (some d) t)) d (.xd [(f,y)])) e=some (iL' e Ca (some d) t):=by rw[ad' (Ne.symm hde),aa']
    have he4:s'.heap.get? e=some (exN Ca (some d) t):=(show av' X.prog X.w _ s'.heap e (iL' e Ca (some d) t) from I4.hok e _ hE4).1
    have I5:=I4.untrack hE4
    have eq5:rF' (upd (upd H1 e (iL' e Ca (some d) t)) d (.xd [(f,y)])) e=upd H1 d (.xd [(f,y)]):=by
     rw[nV' (Ne.symm hde)]
     exact nU' (by rw[ad' (Ne.symm hde)];exact hen)
    rw[eq5]at I5
    refine⟨rv,e,t,some d,rfl,?_,he4,hx pins σ _ s' e t (some d) I5 ?_ he0 hpe he4 (q d hd1)⟩
    .exact I5.kIn _ _ lk
    .rw[ad' (Ne.symm hde)];exact hen
   |next=>exact False.elim hq'
   |brk=>exact False.elim hq'
   |cont=>exact False.elim hq'
 rw[arm_exec_Raise]
 refine aa (bo ?_)
 refine hQ' (C:=Ca) (nm:=cn) (q:=qn) (N:=ns) (bs:=bs) (bm:=bm) (hdct:=true) (sn:=sn) (sub:=sub) (ab:=ab) (col:=col) (dd:=dd) (k0:=k0) (k1:=k1) (k2:=k2) (k3:=k3) (k5:=k5) (newId:="ValueError.__new__") hbase (I.ok.hd hc) (aa (bw hcall (fun v s₃ h₃=>?_) fun _ _ z=>z))
 exact aa (bo (ae h₃))
end
end L2
namespace L2
open PySem PySem.Spec PyProof.Rows PySem.W
def xP' (K:Frag) (i:Nat) (f:Str):TE:=fun σ H Q=>∃(e Ca d:Addr) (fs:List (Str×V)) (v:V),σ[i]?=some (some (.ref e))/\H e=some (eR' e Ca (some d))/\XCls K Ca/\hasDictIn K Ca=true/\findIn K (.ref Ca) f=some none/\H d=some (.xd fs)/\fs.lookup f=some v/\Q v H
theorem uI' {X:Cx} {i:Nat} {x f:Str} {p pos:Pos} (hN:X.N[i]?=some x) (hv:Vis X.env.scope x) (hd:(x == ("__debug__":Str))=false) (hcd:(x == ("__classdict__":Str))=false):PE X (.Attribute (.Name x p) f pos) (xP' X.K i f):=by
 intro pins s σ H Q I h
 obtain⟨e,Ca,d,fs,v,hσ,hE,xc,hdc,hno,hD,hl,q⟩:=h
 refine q0' rfl (thn (f3' hN hv hd hcd pins s σ H (fun y H1=>y=.ref e/\H1=H) I ⟨.ref e,hσ,rfl,rfl⟩) fun u s1 ⟨y,H1,I1,ry,ey,eH⟩=>?_)
 subst ey
 subst eH
 obtain rfl:u=Value.ref e:=ry
 obtain⟨o,vs,ho,hc,hdt,hdx⟩:=(show av' X.prog X.w H1 s1.heap e (eR' e Ca (some d)) from I1.hok e _ hE).1
 obtain⟨mA,hns,hr⟩:=(show av' X.prog X.w H1 s1.heap d (.xd fs) from I1.hok d _ hD)
 obtain⟨u,hu,ru⟩:=jC'.some_of (v:=v) (o:=mA f) (by rw[<- hl];exact hr f)
 obtain⟨od,hod,hlook⟩:=f5' hns
 have J:InstAt s1.heap e o Ca (some od):=⟨ho,hc,by unfold notCls;rw[hdt],by rw[hdx];exact hod⟩
 obtain⟨hp,g,dr,t,os⟩:=s1
 exact rE' I1.kIn J xc (findObj_own hdc hno rfl (by rw[hlook,hu])) (kA' ru) ⟨v,H1,I1.tok _,ru,q⟩
def z5' (X:Cx) (Ca:Addr) (f:Str):Prop:=∃fI fd ps k,Xi X.K Ca fI f/\FnOk X.prog X.w X.K X.mg X.base CX0 k fI fd ps (hP' X.K f)/\Room (k+1) X.A/\cq' X.K fd ps []
section
variable {X:Cx} {a b:Expr} {as':List Expr} {pos:Pos} {ta tb:TE}
end
section
variable {X:Cx}
def zg' (a:KTL) (k:List Key) (b:Addr) (v:V):KTL:=if(a.any fun x=>decide (x.1=k))=true then a.map fun x=>if x.1=k then(x.1,x.2.1,v)else x else a++[(k,b,v)]
def uJ' (tk tv:TE):TL KTL:=fun σ a H N=>tk σ H fun y H1=>tv σ H1 fun v H2=>∃(k:List Key) (b:Addr),y=.ref b/\H2 b=some (.tup (k.map kV))/\okT a H2/\a.length<sizeLine/\N (zg' a k b v) H2
end
section
variable {X:Cx}
end
section
variable {prog:Program} {w:World} {A:Around} {E:Value->Shared->Prop} {s:Shared}
end
section
variable {X:Cx}
end
section
variable {prog:Program} {w:World} {A:Around} {E:Value->Shared->Prop} {s:Shared}
theorem dv' {M:Model} {a:Addr} {Q:Option Obj->Shared->Prop} (h:Q (s.heap.get? a) s):wpAny M A (loadIfAlive a) Q E s:=fun Γ p _=>by
 show Sem.wp M Γ (Sem.loadIfAlive a Sem.pure) _ _ p s
 rw[Sem.wp_loadIfAlive]
 exact h
def rH' (h:Heap) (z TI TO:Addr) (f0 f1:Value):Prop:=h.get? z=some { cls:=.type "zip",data:=.fields #[f0,f1,.bool false,.ref TI,.ref TO] }
theorem iM' {b1:Bool} {z TI TO T:Addr} {oT:Obj} {Q:Bool->Shared->Prop} (hz:rH' s.heap z TI TO (rawInt T) (.bool b1)) (hT:s.heap.get? T=some oT)
  (hQ:∀h',rH' h' z TI TO (rawInt T) (.bool true)->cm z s.heap h'->Q false { s with heap:=h' }):wpAny (model prog w) A (Builtin.SmallTypes.ownedTupleIsFree (.ref z)) Q E s:=by
 unfold Builtin.SmallTypes.ownedTupleIsFree
 refine aa (aM hz rfl (x:=rawInt T) rfl ?_)
 have eT:((T:Int)).toNat=T:=aK T
 simp only[rawInt]
 rw[eT]
 refine aa (dv' ?_)
 rw[hT]
 simp only[Option.isNone_some,bb,if_false]
 refine aa (aM hz rfl (x:=.bool b1) rfl ?_)
 cases b1 with
 |true=>
  rw[if_neg (by decide)]
  exact ae (hQ s.heap hz ⟨rfl,fun _ _=>rfl⟩)
 |false=>
  rw[if_pos (by decide)]
  refine aa (bA hz (by simp) fun h' hz' hs'=>ae (hQ h' hz' hs'))
theorem lH' {k j b1:Bool} {z TI TO i1 i2 l1 l2 T:Addr} {k1 k2:Nat} {xs ys:Array Value} {x y:Value} {oT:Obj} {Q:Option Value->Shared->Prop} (D:ZipApart z TI TO i1 i2 l1 l2)
  (hz:rH' s.heap z TI TO (rawInt T) (.bool b1)) (hT:s.heap.get? T=some oT) (hTI:IsPair s.heap TI (.ref i1) (.ref i2))
  (h1:c8' k s.heap i1 l1 k1) (h2:c8' j s.heap i2 l2 k2) (hl1:f1' k s.heap l1 xs) (hl2:f1' j s.heap l2 ys) (hx:xs[k1]?=some x) (hy:ys[k2]?=some y)
  (hQ:∀h',rH' h' z TI TO (rawInt T) (.bool true)->c8' k h' i1 l1 (k1+1)->c8' j h' i2 l2 (k2+1)->IsPair h' s.heap.objs.size x y->h'.objs.size=s.heap.objs.size+1->
   (∀c o,c≠z->c≠i1->c≠i2->s.heap.get? c=some o->h'.get? c=some o)->Q (some (.ref s.heap.objs.size)) { s with heap:=h' }):
  wpAny (model prog w) A (pyNext (.ref z)) Q E s:=by
 have hTz:s.TypeIs (.ref z) "zip":=⟨_,hz,rfl⟩
 unfold pyNext
 refine aa (wpAny_attempt (aU (name:=Str.ofString "__next__") hTz F.slot_zip_next
  (aV F.slot_zip_next hTz F.entry_zip_next ?_ (F.args_zip_next_1 _))))
 show wpAny _ _ (field (.ref z) 2 >>= _) _ _ _
 refine aa (aM hz rfl (x:=.bool false) rfl ?_)
 show wpAny _ _ (field (.ref z) 3 >>= _) _ _ _
 refine aa (aM hz rfl (x:=.ref TI) rfl ?_)
 refine aa (bv hTI rfl ?_)
 show wpAny _ _ (Builtin.SmallTypes.ownedTupleIsFree (.ref z) >>= _) _ _ _
 refine aa (iM' hz hT fun h₁ hz₁ hs₁=>?_)
 simp only[bb,if_false]
 rw[<- Array.forIn_toList]
 simp only[List.forIn_cons,List.forIn_nil]
 have hTI₁:IsPair h₁ TI (.ref i1) (.ref i2):=hs₁.extBut _ _ D.TIz hTI
 refine aa (aa (aa (aH ?_)))
 show wpAny _ _ (Builtin.SmallTypes.nextOf (.ref i1) >>= _) _ _ _
 refine aa (bo' (s:={ s with heap:=h₁ }) (h1.at fun o e=>hs₁.extBut _ _ D.i1z e) (hl1.at fun o e=>hs₁.extBut _ _ D.l1z e) hx fun h₂ h1₂ hs₂=>ae ?_)
 refine ae ?_
 dsimp only
 refine aa (aa (aH ?_))
 show wpAny _ _ (Builtin.SmallTypes.nextOf (.ref i2) >>= _) _ _ _
 refine aa (bo' (s:={ s with heap:=h₂ }) (h2.at fun o e=>hs₂.extBut _ _ D.i12.symm (hs₁.extBut _ _ D.i2z e)) (hl2.at fun o e=>hs₂.extBut _ _ D.l2i1 (hs₁.extBut _ _ D.l2z e)) hy fun h₃ h2₃ hs₃=>ae ?_)
 refine ae ?_
 dsimp only
 refine ae ?_
 dsimp only
 refine aa (wpAny_newTuple (hsz:=by show 2<=sizeLine;decide) ?_)
 have hsz:h₃.objs.size=s.heap.objs.size:=by rw[hs₃.1,hs₂.1,hs₁.1]
 refine ae ⟨_,rfl,ae ?_⟩
 show Q (some (.ref h₃.objs.size)) _
 rw[hsz]
 have up:∀c o,h₃.get? c=some o->(h₃.push { cls:=.type "tuple",data:=.seq #[x,y] }).get? c=some o:=fun c o e=>ag _ e
 refine hQ _ (up _ _ (hs₃.extBut _ _ D.i2z.symm (hs₂.extBut _ _ D.i1z.symm hz₁))) (h1₂.at fun o e=>up _ _ (hs₃.extBut _ _ D.i12 e)) (h2₃.at fun o e=>up _ _ e) ?_ (by rw[bu,hsz]) fun c o c1 c2 c3 e=>up _ _ (hs₃.extBut _ _ c3 (hs₂.extBut _ _ c2 (hs₁.extBut _ _ c1 e)))
 have:=ax h₃ (o:={ cls:=.type "tuple",data:=.seq #[x,y] }) rfl
 rw[hsz]at this
 exact this
theorem nW' {k j b1:Bool} {z TI TO i1 i2 l1 l2 T:Addr} {k1 k2:Nat} {xs ys:Array Value} {oT:Obj} {Q:Option Value->Shared->Prop} (hh:A.handled=none) (D:ZipApart z TI TO i1 i2 l1 l2)
  (hz:rH' s.heap z TI TO (rawInt T) (.bool b1)) (hT:s.heap.get? T=some oT) (hTI:IsPair s.heap TI (.ref i1) (.ref i2))
  (h1:c8' k s.heap i1 l1 k1) (h2:c8' j s.heap i2 l2 k2) (hl1:f1' k s.heap l1 xs) (hl2:f1' j s.heap l2 ys) (hend:xs[k1]?=none)
  (hQ:∀h',(∀c o,c≠z->c≠i1->c≠i2->s.heap.get? c=some o->h'.get? c=some o)->Q none { s with heap:=h' }):wpAny (model prog w) A (pyNext (.ref z)) Q E s:=by
 have hTz:s.TypeIs (.ref z) "zip":=⟨_,hz,rfl⟩
 unfold pyNext
 refine aa (wpAny_attempt (aU (name:=Str.ofString "__next__") hTz F.slot_zip_next
  (aV F.slot_zip_next hTz F.entry_zip_next ?_ (F.args_zip_next_1 _))))
 show wpAny _ _ (field (.ref z) 2 >>= _) _ _ _
 refine aa (aM hz rfl (x:=.bool false) rfl ?_)
 show wpAny _ _ (field (.ref z) 3 >>= _) _ _ _
 refine aa (aM hz rfl (x:=.ref TI) rfl ?_)
 refine aa (bv hTI rfl ?_)
 show wpAny _ _ (Builtin.SmallTypes.ownedTupleIsFree (.ref z) >>= _) _ _ _
 refine aa (iM' hz hT fun h₁ hz₁ hs₁=>?_)
 simp only[bb,if_false]
 rw[<- Array.forIn_toList]
 simp only[List.forIn_cons,List.forIn_nil]
 refine aa (aa (aa (aH ?_)))
 show wpAny _ _ (Builtin.SmallTypes.nextOf (.ref i1) >>= _) _ _ _
 refine aa (cA' (s:={ s with heap:=h₁ }) (by first|exact hh|rfl) (h1.at fun o e=>hs₁.extBut _ _ D.i1z e) (hl1.at fun o e=>hs₁.extBut _ _ D.l1z e) hend fun h₂ e hs₂ he=>?_)
 obtain⟨oe,hoe,hce⟩:=he
 refine aa (wpAny_isInstance (T:="StopIteration") (b:=true) ⟨oe,hoe,hce⟩ isSubtype_stop (ae (hQ _ ?_)))
 exact fun c o c1 c2 c3 x=>hs₂ _ _ c2 (hs₁.extBut _ _ c1 x)
structure Zst (h0:Heap) (B:Nat) (k j:Bool) (z TI TO i1 i2 l1 l2 S:Addr) (xs ys:Array Value) (i:Nat) (h:Heap):Prop where
 zs:(i=0/\IsZip h z TI TO .none/\∃a b,IsPair h TO a b)\/(0<i/\∃b1,rH' h z TI TO (rawInt B) (.bool b1))
 ti:IsPair h TI (.ref i1) (.ref i2)
 h1:c8' k h i1 l1 i
 h2:c8' j h i2 l2 i
 o1:f1' k h l1 xs
 o2:f1' j h l2 ys
 sz:h.objs.size=B+i
 pr:∀m,m<i->∃x y,xs[m]?=some x/\ys[m]?=some y/\IsPair h (B+m) x y
 kp:∀c o,h0.get? c=some o->h.get? c=some o
structure Zap (h0:Heap) (B:Nat) (z TI TO i1 i2 l1 l2 S:Addr):Prop where
 D:ZipApart z TI TO i1 i2 l1 l2
 bz:z<B
 bTO:TO<B
 b1:i1<B
 b2:i2<B
 bS:S<B
 Sz:S≠z
 STI:S≠TI
 STO:S≠TO
 S1:S≠i1
 S2:S≠i2
 Sl1:S≠l1
 Sl2:S≠l2
 nz:h0.objs.size<=z
 nTO:h0.objs.size<=TO
 n1:h0.objs.size<=i1
 n2:h0.objs.size<=i2
 nS:h0.objs.size<=S
theorem Zst.drawn {h0:Heap} {B:Nat} {k j:Bool} {z TI TO i1 i2 l1 l2 S:Addr} {xs ys:Array Value} {i:Nat} {Q:Option Value->Shared->Prop} (P:Zap h0 B z TI TO i1 i2 l1 l2 S) (Z:Zst h0 B k j z TI TO i1 i2 l1 l2 S xs ys i s.heap) (hi:i<xs.size) (hij:i<ys.size)
  (hQ:∀h',Zst h0 B k j z TI TO i1 i2 l1 l2 S xs ys (i+1) h'->(∀o,s.heap.get? S=some o->h'.get? S=some o)->Q (some (.ref (B+i))) { s with heap:=h' }):wpAny (model prog w) A (pyNext (.ref z)) Q E s:=by
 obtain⟨zs,ti,h1,h2,o1,o2,sz,pr,kp⟩:=Z
 have hx:xs[i]?=some xs[i]:=bO hi
 have hy:ys[i]?=some ys[i]:=bO hij
 have fin:∀h' b1,rH' h' z TI TO (rawInt B) (.bool b1)->c8' k h' i1 l1 (i+1)->c8' j h' i2 l2 (i+1)->IsPair h' s.heap.objs.size xs[i] ys[i]->h'.objs.size=s.heap.objs.size+1->(∀c o,c≠z->c≠TO->c≠i1->c≠i2->s.heap.get? c=some o->h'.get? c=some o)->Q (some (.ref s.heap.objs.size)) { s with heap:=h' }:=by
  intro h' b1 q1 q2 q3 q4 q5 q6
  rw[sz]at q4 q5 ⊢
  refine hQ h' ⟨.inr ⟨by omega,b1,q1⟩,q6 _ _ P.D.TIz P.D.TITO P.D.TIi1 P.D.TIi2 ti,q2,q3,o1.at fun o e=>q6 _ _ P.D.l1z P.D.l1TO P.D.l1i1 P.D.l1i2 e,o2.at fun o e=>q6 _ _ P.D.l2z P.D.l2TO P.D.l2i1 P.D.l2i2 e,by rw[q5,Nat.add_assoc],fun m hm=>?_,fun c o e=>?_⟩ fun o e=>q6 _ _ P.Sz P.STO P.S1 P.S2 e
  .by_cases hmi:m=i
   .subst hmi
    exact⟨_,_,hx,hy,q4⟩
   .obtain⟨x,y,e1,e2,e3⟩:=pr m (by omega)
    exact⟨x,y,e1,e2,q6 _ _ (bq (ak P.bz (bC _ _))) (bq (ak P.bTO (bC _ _))) (bq (ak P.b1 (bC _ _))) (bq (ak P.b2 (bC _ _))) e3⟩
  .have hc:=av e
   exact q6 _ _ (aB (ak hc P.nz)) (aB (ak hc P.nTO)) (aB (ak hc P.n1)) (aB (ak hc P.n2)) (kp _ _ e)
 rcases zs with⟨e0,hz,a,b,hTO⟩|⟨e0,b1,hz⟩
 .refine ny' P.D hz ti hTO h1 h2 o1 o2 hx hy fun h' q1 _ q2 q3 q4 q5 q6=>fin h' false ?_ q2 q3 q4 q5 q6
  rw[show B=s.heap.objs.size by omega]
  exact q1
 .obtain⟨x0,y0,_,_,hT⟩:=pr 0 e0
  exact lH' P.D hz hT ti h1 h2 o1 o2 hx hy fun h' q1 q2 q3 q4 q5 q6=>fin h' true q1 q2 q3 q4 q5 fun c o c1 _ c3 c4 e=>q6 c o c1 c3 c4 e
theorem Zst.over {h0:Heap} {B:Nat} {k j:Bool} {z TI TO i1 i2 l1 l2 S:Addr} {xs ys:Array Value} {i:Nat} {Q:Option Value->Shared->Prop} (hh:A.handled=none) (P:Zap h0 B z TI TO i1 i2 l1 l2 S) (Z:Zst h0 B k j z TI TO i1 i2 l1 l2 S xs ys i s.heap) (hi:xs.size=i)
  (hQ:∀h',(∀m,m<i->∃x y,xs[m]?=some x/\ys[m]?=some y/\IsPair h' (B+m) x y)->(∀c o,h0.get? c=some o->h'.get? c=some o)->(∀o,s.heap.get? S=some o->h'.get? S=some o)->Q none { s with heap:=h' }):wpAny (model prog w) A (pyNext (.ref z)) Q E s:=by
 obtain⟨zs,ti,h1,h2,o1,o2,sz,pr,kp⟩:=Z
 have hx:xs[i]?=none:=by rw[Array.getElem?_eq_none_iff];omega
 have fin:∀h',(∀c o,c≠z->c≠TO->c≠i1->c≠i2->s.heap.get? c=some o->h'.get? c=some o)->Q none { s with heap:=h' }:=by
  intro h' q6
  refine hQ h' (fun m hm=>?_) (fun c o e=>?_) fun o e=>q6 _ _ P.Sz P.STO P.S1 P.S2 e
  .obtain⟨x,y,e1,e2,e3⟩:=pr m hm
   exact⟨x,y,e1,e2,q6 _ _ (bq (ak P.bz (bC _ _))) (bq (ak P.bTO (bC _ _))) (bq (ak P.b1 (bC _ _))) (bq (ak P.b2 (bC _ _))) e3⟩
  .have hc:=av e
   exact q6 _ _ (aB (ak hc P.nz)) (aB (ak hc P.nTO)) (aB (ak hc P.n1)) (aB (ak hc P.n2)) (kp _ _ e)
 rcases zs with⟨e0,hz,a,b,hTO⟩|⟨e0,b1,hz⟩
 .exact rg' hh P.D hz ti hTO h1 h2 o1 o2 (.inl hx) fun h' q=>fin h' q
 .obtain⟨x0,y0,_,_,hT⟩:=pr 0 e0
  exact nW' hh P.D hz hT ti h1 h2 o1 o2 hx fun h' q=>fin h' fun c o c1 _ c3 c4 e=>q c o c1 c3 c4 e
end
section
variable {prog:Program} {w:World} {A:Around} {E:Value->Shared->Prop} {s:Shared}
end
section
variable {X:Cx} {pins:List (Addr×Obj)} {σ:St} {H H':Hp} {s:Shared} {h':Heap}
end
section
variable {X:Cx}
end
end L2
namespace L2
open PySem PySem.Spec PyProof.Rows PySem.Ts So
section
variable {prog:Program} {w:World} {A:Around} {E:Value->Shared->Prop} {s:Shared}
end
section
variable {X:Cx}
end
end L2
namespace L2
open PySem PySem.Spec PyProof.Rows PySem.Ts
section
variable {X:Cx} {pins:List (Addr×Obj)} {σ:St} {H:Hp} {s:Shared} {A:Around} {E:Value->Shared->Prop}
variable {o e:Expr} {apos cpos:Pos} {td ty:TE}
end
section
variable {prog:Program} {w:World} {K:Type} [DecidableEq K] {knd:HeapKind prog w K} {A:Around} {E:Value->Shared->Prop} {s:Shared}
end
section
variable {X:Cx} {pins:List (Addr×Obj)} {σ:St} {H:Hp} {s:Shared} {a:Addr} {y d:V} {u r:Value} {o:Option V} {A:Around} {E:Value->Shared->Prop}
end
section
variable {X:Cx} {o e f:Expr} {apos cpos:Pos} {td ty tx:TE}
end
section
variable {X:Cx} {e st:Expr} {te:TE} {ts:TO} {p2 pos:Pos}
def zh' {α:Type} (xs:List α) (n:Nat):List α:=(aD ((xs.length+n-1) / n)).filterMap fun k=>xs[k*n]?
end
section
variable {prog:Program} {w:World} {A:Around} {E:Value->Shared->Prop} {s:Shared}
end
section
variable {X:Cx}
end
section
variable {prog:Program} {w:World} {A:Around} {E:Value->Shared->Prop} {s:Shared}
end
section
variable {X:Cx}
end
end L2
namespace R3
open PySem PySem.Spec PyProof.Rows L2
inductive Bf where
 |len|abs|int|str|isinstance|max|min|list|tuple|range|set
 deriving DecidableEq
inductive Mf where
 |append|extend|join|insert|indexL|bitlen
 deriving DecidableEq
inductive Xf where
 |eqT|inR|notInR
 deriving DecidableEq
inductive Zf where
 |ltS
 deriving DecidableEq
inductive Yf where
 |strd|ltx|dct|dcn
 deriving DecidableEq
set_option genInjectivity false
mutual
inductive Ce where
 |var (i:Nat)|int (n:Int)|bl (b:Bool)|non|str (x:Str)|ty (n:String)
 |bin (op:Operator) (a b:Ce)
 |neg (a:Ce)|not (a:Ce)
 |and (a b:Ce)|or (a b:Ce)
 |cmp (op:CmpOp) (a b:Ce)
 |ife (q:Cq) (a b:Ce)
 |tup (es:Ces)|lst (es:Ces)
 |idx (a b:Ce)
 |cut (a:Ce) (lo hi:Co)
 |call (f:Str) (es:Ces)
 |blt (f:Bf) (es:Ces)
 |met (m:Mf) (o:Ce) (es:Ces)
 |comp (elt:Ce) (own:List Nat) (t:Ct) (it:Ci) (q:Cqo) (r:Cc)
 |din (neg:Bool) (a b:Ce)|dgt (a b:Ce)
 |cls (c:Str)
 |xat (i:Nat) (f:Str)
inductive Ces where
 |nil|cons (e:Ce) (r:Ces)
inductive Cq where
 |val (e:Ce)|not (q:Cq)|and (a b:Cq)|or (a b:Cq)|cmp (op:CmpOp) (a b:Ce)|din (neg:Bool) (a b:Ce)
inductive Cqo where
 |none|some (q:Cq)
inductive Co where
 |none|some (e:Ce)
inductive Ci where
 |val (e:Ce)|range1 (a:Ce)|range2 (a b:Ce)|enum (a:Ce)|range3 (a b c:Ce)|rev (a:Ce)
inductive Ct where
 |name (i:Nat)|tup (ts:Cts)|sub (o i:Ce)
inductive Cts where
 |nil|cons (t:Ct) (r:Cts)
inductive Cc where
 |nil|cons (ws:List Nat) (t:Ct) (it:Ci) (q:Cqo) (r:Cc)
end
mutual
inductive Cs where
 |expr (e:Ce)|ret (e:Ce)|asg (t:Ct) (e:Ce)|aug (i:Nat) (sub:Bool) (e:Ce)
 |ite (q:Cq) (a b:Css)|whl (q:Cq) (b:Css)|for_ (t:Ct) (it:Ci) (b:Css)
 |rsi (nm:Str) (a:Ce)|try_ (b:Css) (c:Str) (i:Nat) (su:Css)
 |setc2 (i:Nat) (elt:Ce) (own:List Nat) (t:Ct) (it:Ci) (q:Cqo) (ws:List Nat) (t2:Ct) (it2:Ci) (q2:Cqo)|dctc (tup:Bool) (i:Nat) (k v:Ce) (own:List Nat) (t:Ct) (it:Ci) (q:Cqo)
inductive Css where
 |nil|cons (s:Cs) (r:Css)
end
set_option genInjectivity true
def xQ' (i j:Int):Prop:=0<=j/\j<=1000000/\i.natAbs<2 ^ 250*2 ^ 250*2 ^ 250
def rI' (_ j:Int):Prop:=0<j/\(j<1073741824\/j.natAbs.log2<9000)
def uK' (i j:Int):Prop:=(-(2 ^ 64)<i/\i<2 ^ 64)\/(-(2 ^ 64)<j/\j<2 ^ 64)\/IntMulOk i j
section
variable (K:W.Frag)
def eN':Operator->R2
 | .Add=>fun x y H Q=>match x,y with
  | .int i,.int j=>Q (.int (i+j)) H
  | .str i,.str j=>i.length+j.length<=sizeLine/\Q (.str (i++j)) H
  |x,y=>y1' x y H Q\/tP' K x y H Q\/pd' K x y H Q
 | .Sub=>rI0 fun i j=>.int (i-j)
 | .Mult=>fun x y H Q=>match x,y with
  | .int i,.int j=>uK' i j/\Q (.int (i*j)) H
  | .str a,.int n=>-1000000<=n/\n<=1000000/\a.length*n.toNat<=1000000/\Q (.str (Txt.mul a n)) H
  |x,y=>y2' x y H Q
 | .Mod=>rI (fun _ j=>0<j) fun i j=>.int (i % j)
 | .FloorDiv=>rI rI' fun i j=>.int (i / j)
 | .Pow=>rI xr' fun i j=>.int (i ^ j.toNat)
 | .LShift=>rI xQ' fun i j=>.int (i*2 ^ j.toNat)
 | .RShift=>rI (fun _ j=>0<=j) fun i j=>.int (i / 2 ^ j.toNat)
 | .BitAnd=>rI (fun i j=>0<=i/\j=1) fun i _=>.int (i % 2)
 |_=>fun _ _ _ _=>False
def cL':CmpOp->R2
 | .Eq=>fun x y H Q=>match x,y with
  | .ref a,.ref b=>wS' K false (.ref a) (.ref b) H Q\/wW' false (.ref a) (.ref b) H Q
  |x,y=>rEq x y H Q
 | .NotEq=>fun x y H Q=>match x,y with
  | .ref a,.ref b=>wS' K true (.ref a) (.ref b) H Q\/wW' true (.ref a) (.ref b) H Q
  |x,y=>rNe x y H Q
 | .Lt=>rI0 fun i j=>.bl (decide (i<j))
 | .LtE=>rI0 fun i j=>.bl (decide (i<=j))
 | .Gt=>fun x y H Q=>match x with
  | .str a=>zc' (.str a) y H Q
  |x=>rI0 (fun i j=>.bl (decide (j<i))) x y H Q
 | .GtE=>rI0 fun i j=>.bl (decide (j<=i))
 | .Is=>fun x y H Q=>match y with
  | .bl b=>wT' false x (.bl b) H Q
  |y=>y=.non/\Q (.bl (decide (x=.non))) H
 | .IsNot=>fun x y H Q=>match y with
  | .bl b=>wT' true x (.bl b) H Q
  |y=>y=.non/\Q (.bl (!decide (x=.non))) H
 | .In=>fun x y H Q=>match y with
  | .str b=>wV' false x (.str b) H Q
  |y=>rIn K false x y H Q
 | .NotIn=>fun x y H Q=>match y with
  | .str b=>wV' true x (.str b) H Q
  |y=>rIn K true x y H Q
def dc':Bf->List V->Hp->VK->Prop
 | .len=>fun xs H Q=>∃x n,xs=[x]/\yZ' K x H n/\Q (.int n) H
 | .abs=>fun xs H Q=>∃i,xs=[.int i]/\Q (.int (if i<0 then -i else i)) H
 | .int=>fun xs H Q=>match xs with
  | [.int i]=>Q (.int i) H
  | [.bl k]=>Q (.int (if k then 1 else 0)) H
  | [.str x]=>∃n,PySem.intText? x=some n/\x.length<=640/\Q (.int n) H
  | [.str x,.int j]=>j=2/\∃n,B2 x n/\Q (.int n) H
  |_=>False
 | .str=>fun xs H Q=>∃i,xs=[.int i]/\i.natAbs.log2<1920/\Q (.str (toString i)) H
 | .isinstance=>fun xs H Q=>y4' xs H Q\/za' K xs H Q
 | .max=>fun xs H Q=>match xs with
  | [.int i,.int j]=>Q (.int (if j > i then j else i)) H
  |xs=>nB' K true xs H Q
 | .min=>fun xs H Q=>match xs with
  | [.int i,.int j]=>Q (.int (if j<i then j else i)) H
  |xs=>nB' K false xs H Q
 | .list=>fun xs H Q=>(∃p ys,xs=[.ref p]/\(SqL K H p ys\/SqT K H p ys)/\∀l,H l=none->Q (.ref l) (upd H l (.lst ys)))\/y6' xs H Q
 | .range=>y5'
 | .set=>pf' K
 | .tuple=>fun xs H Q=>∃p ys,xs=[.ref p]/\((SqL K H p ys/\∀l,H l=none->Q (.ref l) (upd H l (.tup ys)))\/(SqT K H p ys/\Q (.ref p) H))
def j0':Mf->V->List V->Hp->VK->Prop
 | .append=>kI'
 | .extend=>kK'
 | .join=>t1' K
 | .insert=>kV'
 | .indexL=>k4' K
 | .bitlen=>k6'
def fG':Mf->String
 | .join=>"str"
 | .bitlen=>"int"
 |_=>"list"
def lI':Mf->Str
 | .append=>"append"
 | .extend=>"extend"
 | .join=>"join"
 | .insert=>"insert"
 | .indexL=>"index"
 | .bitlen=>"bit_length"
def eu':Bf->Str
 | .len=>"len"
 | .abs=>"abs"
 | .int=>"int"
 | .str=>"str"
 | .isinstance=>"isinstance"
 | .max=>"max"
 | .min=>"min"
 | .list=>"list"
 | .tuple=>"tuple"
 | .range=>"range"
 | .set=>"set"
def nX':R2:=fun x y H Q=>match x,y with
 | .str z,.int i=>z.length<=sizeLine/\∃c,atI z.cps.toList i=some c/\Q (.str ⟨#[c]⟩) H
 |x,y=>f0' K x y H Q\/ga' K x y H Q
def rSl:V->Option Int->Option Int->Hp->VK->Prop:=fun x lo hi H Q=>match x with
 | .str a=>a.length<=sizeLine/\Q (.str (Txt.slice a lo hi)) H
 |x=>wQ' K x lo hi H Q\/wP' K x lo hi H Q\/w0' K x lo hi H Q
end
def rZf:Zf->R2
 | .ltS=>fun x y H Q=>∃i j,x=.str i/\y=.str j/\Q (.bl (decide (i.cps.toList<j.cps.toList))) H
structure Rc where
 N:List Str
 B:List Str
 K:W.Frag
 fs:Str->Option Sp
 xk:L2.St->XK:=fun _=>E0
 cl:Str->Option Addr:=fun _=>none
 ini:Str->Option Str:=fun _=>none
def nY' (neg:Bool) (ty td:TE):TE:=xL' neg ty td
def nZ':Cts->Nat
 | .nil=>0
 | .cons _ r=>nZ' r+1
mutual
def tE (C:Rc):Ce->TE
 | .var i=>wL' i
 | .int n=>tC (.int n)
 | .bl b=>tC (.bl b)
 | .non=>tC .non
 | .str x=>tC (.str x)
 | .ty n=>tC (.ty n)
 | .bin op a b=>tOp (eN' C.K op) (tE C a) (tE C b)
 | .neg a=>tUn (rU fun i=>.int (-i)) (tE C a)
 | .not a=>qJ' (tE C a)
 | .and a b=>ng' (tE C a) (tE C b)
 | .or a b=>wM' (tE C a) (tE C b)
 | .cmp op a b=>tOp (cL' C.K op) (tE C a) (tE C b)
 | .ife q a b=>tIf (tQ C q) (tE C a) (tE C b)
 | .tup es=>xy' (tA C es)
 | .lst es=>xz' (tA C es)
 | .idx a b=>tOp (nX' C.K) (tE C a) (tE C b)
 | .cut a lo hi=>tSl (rSl C.K) (tE C a) (tO C lo) (tO C hi)
 | .call f es=>fun σ H Q=>match C.fs f with
  |some sp=>nq' sp [] (C.xk σ) (tA C es) σ H Q
  |none=>False
 | .blt f es=>tCB (dc' C.K f) (tA C es)
 | .met m o es=>tBM C.K (fG' m) (j0' C.K m) (tE C o) (tA C es)
 | .din neg a b=>nY' neg (tE C a) (tE C b)
 | .dgt a b=>lz' (tE C a) (tE C b)
 | .cls c=>fun _ H Q=>∃Ca,C.cl c=some Ca/\Q (.ref Ca) H
 | .xat i f=>xP' C.K i f
 | .comp elt own t it q r=>hF' own (tI C it) (tG C t) (tQo C q) (tR C r (ei' (tE C elt)))
def tA (C:Rc):Ces->TA
 | .nil=>hj'
 | .cons e r=>bP' (tE C e) (tA C r)
def tQ (C:Rc):Cq->TT
 | .val e=>fun σ H Q=>tE C e σ H fun x H'=>∃k,tJ' C.K x H' k/\Q k H'
 | .not q=>xd' (tQ C q)
 | .and a b=>to' (tQ C a) (tQ C b)
 | .or a b=>tOr (tQ C a) (tQ C b)
 | .cmp op a b=>kw' (tOp (cL' C.K op) (tE C a) (tE C b))
 | .din neg a b=>kw' (nY' neg (tE C a) (tE C b))
def tQo (C:Rc):Cqo->TT
 | .none=>fun _ H Q=>Q true H
 | .some q=>tQ C q
def tO (C:Rc):Co->TO
 | .none=>hA'
 | .some e=>q4' (tE C e)
def tI (C:Rc):Ci->TI
 | .val e=>xD' C.K (tE C e)
 | .range1 a=>qS' (bP' (tE C a) hj')
 | .range2 a b=>qT' (bP' (tE C a) (bP' (tE C b) hj'))
 | .enum a=>ri' C.K (tE C a)
 | .range3 a b c=>ro' (bP' (tE C a) (bP' (tE C b) (bP' (tE C c) hj')))
 | .rev a=>xH' C.K (tE C a)
def tG (C:Rc):Ct->TG
 | .name i=>c4' i
 | .tup ts=>xM' C.K (nZ' ts) (tGs C ts)
 | .sub o i=>xk' (tE C o) (tE C i) dM'
def tGs (C:Rc):Cts->TGs
 | .nil=>xj'
 | .cons t r=>qQ' (tG C t) (tGs C r)
def tR (C:Rc):Cc->TL (List V)->TL (List V)
 | .nil,em=>em
 | .cons ws t it q r,em=>hE' (tI C it) (a9' ws (tG C t) (tQo C q) (tR C r em))
end
mutual
def tS (C:Rc):Cs->TS
 | .expr e=>qN' (tE C e)
 | .ret e=>xf' (tE C e)
 | .asg t e=>kj' (tE C e) (tG C t)
 | .aug i sub e=>xl' i (tE C e) (ipI fun i j=>if sub then i-j else i+j)
 | .ite q a b=>xg' (tQ C q) (tSs C a) (tSs C b)
 | .whl q b=>kp' (tQ C q) (tSs C b)
 | .for_ t it b=>xm' (tI C it) (tG C t) (tSs C b)
 | .rsi nm a=>fun _ σ H=>match C.ini nm with
  |some f=>(∃Ca,C.cl nm=some Ca)/\tE C a σ H (th' f (C.xk σ (.str nm 0)))
  |none=>False
 | .try_ b c i su=>fun D σ H=>tSs { C with xk:=fun σ' en dx H'=>∃nm Ca Cc,en=.str nm 0/\C.cl nm=some Ca/\C.cl c=some Cc/\W.exmOne C.K (.ref Ca) (.ref Cc)=some true/\∀e,H' e=none->tSs { C with xk:=fun _=>E0 } su { nx:=fun σ2 H2=>D.nx (σ2.set i none) H2,rt:=D.rt } (σ'.set i (some (.ref e))) (upd H' e (eR' e Ca dx)) } b D σ H
 | .setc2 i elt own t it q ws t2 it2 q2=>kj' (uy' own (tI C it) (tG C t) (tQo C q) (hE' (tI C it2) (a9' ws (tG C t2) (tQo C q2) (gr' (tE C elt))))) (c4' i)
 | .dctc tup i k v own t it q=>if tup then kj' (uA' own (tI C it) (tG C t) (tQo C q) (tE C k) (tE C v)) (c4' i)else kj' (uz' own (tI C it) (tG C t) (tQo C q) (tE C k) (tE C v)) (c4' i)
def tSs (C:Rc):Css->TS
 | .nil=>qK'
 | .cons s r=>xe' (tS C s) (tSs C r)
end
def vis (sc:Scope) (x:Str):Bool:=match sc.names.lookup x with
 |some .local=>true
 |some .cell=>true
 |some .free=>true
 |_=>false
def locb (sc:Scope) (x:Str):Bool:=match sc.names.lookup x with
 |some .local=>true
 |some .cell=>true
 |_=>false
def glb (sc:Scope) (x:Str):Bool:=decide (sc.names.lookup x=some .globalImplicit)
def ev' (N:List Str) (i:Nat) (x:Str):Bool:=decide (N[i]?=some x)&&!(x == ("__debug__":Str))&&!(x == ("__classdict__":Str))
def aS':Expr->Bool
 | .Starred ..=>false
 |_=>true
def a7':Expr->Bool
 | .Set ..=>false
 |_=>true
def dW':Expr->Bool
 | .Slice ..=>false
 |_=>true
def lJ':Expr->Bool
 | .Call _ [] _ _=>false
 |_=>true
def pk':Expr->Bool
 | .UnaryOp .Not _ _=>false
 | .BoolOp ..=>false
 | .IfExp ..=>false
 | .Compare ..=>false
 |_=>true
def gy':List String:=["list","tuple","str","bool","int","dict","ValueError"]
def kk' (N:List Str) (sc scope:Scope) (own:List Nat):Bool:=
 decide (scope.kind=.function)&&
 scope.names.all (fun x=>(decide (x.2≠.local) || decide (scope.names.lookup x.1=some .local))&&(decide (x.2≠.cell) || decide (scope.names.lookup x.1=some .cell))&&
  (decide (x.2≠.free) || decide (sc.names.lookup x.1=some .cell) || decide (sc.names.lookup x.1=some .free)))&&
 (aD N.length).all (fun i=>match N[i]? with
  |some x=>(decide (scope.names.lookup x≠some .local)&&decide (scope.names.lookup x≠some .cell)) || decide (i∈own)
  |none=>true)
def gz':Ci->Expr->Bool
 | .enum _,.Tuple ..=>true
 | .enum _,_=>false
 |_,_=>true
mutual
def fH' (own:List Nat):Ct->Bool
 | .name i=>decide (i∈own)
 | .tup ts=>lK' own ts
 | .sub _ _=>false
def lK' (own:List Nat):Cts->Bool
 | .nil=>true
 | .cons t r=>fH' own t&&lK' own r
end
def tld (B:List Str):Bool:=decide (("~":Str)∈B)
def hat (B:List Str):Bool:=decide (("^":Str)∈B)
def pct (B:List Str):Bool:=decide (("%":Str)∈B)
def n0' (x:Str):Str:=⟨#[33]++x.cps⟩
theorem ar' {P:Prop} (h:false=true):P:=(ap h).elim
theorem gA' {a b:Bool} (h:(a&&b)=true):a=true/\b=true:=by grind
def xR' (e:Expr) (f:Expr->Expr->Bool):Bool:=match e with
 | .BoolOp .And [x,y] _=>f x y
 | .BoolOp .And (x :: y :: z :: r) pos=>f x (.BoolOp .And (y :: z :: r) pos)
 |_=>false
theorem lL' {e:Expr} {f:Expr->Expr->Bool} (h:xR' e f=true):(∃x y pos,e=.BoolOp .And [x,y] pos/\f x y=true)\/∃x y z r pos,e=.BoolOp .And (x :: y :: z :: r) pos/\f x (.BoolOp .And (y :: z :: r) pos)=true:=by
 cases e with
 |BoolOp o vs pos=>
  cases o with
  |And=>
   cases vs with
   |nil=>exact ar' h
   |cons x r=>
    cases r with
    |nil=>exact ar' h
    |cons y r=>
     cases r with
     |nil=>exact .inl ⟨x,y,pos,rfl,h⟩
     |cons z r=>exact .inr ⟨x,y,z,r,pos,rfl,h⟩
  |_=>exact ar' h
 |_=>exact ar' h
def vOr (e:Expr) (f:Expr->Expr->Bool):Bool:=match e with
 | .BoolOp .Or [x,y] _=>f x y
 | .BoolOp .Or (x :: y :: z :: r) pos=>f x (.BoolOp .Or (y :: z :: r) pos)
 |_=>false
theorem pl' {e:Expr} {f:Expr->Expr->Bool} (h:vOr e f=true):(∃x y pos,e=.BoolOp .Or [x,y] pos/\f x y=true)\/∃x y z r pos,e=.BoolOp .Or (x :: y :: z :: r) pos/\f x (.BoolOp .Or (y :: z :: r) pos)=true:=by
 cases e with
 |BoolOp o vs pos=>
  cases o with
  |Or=>
   cases vs with
   |nil=>exact ar' h
   |cons x r=>
    cases r with
    |nil=>exact ar' h
    |cons y r=>
     cases r with
     |nil=>exact .inl ⟨x,y,pos,rfl,h⟩
     |cons z r=>exact .inr ⟨x,y,z,r,pos,rfl,h⟩
  |_=>exact ar' h
 |_=>exact ar' h
def bh' {α:Type} (z:List α) (f:Bool):Bool:=match z with
 | []=>f
 |_=>false
theorem ao' {α:Type} {z:List α} {f:Bool} (h:bh' z f=true):z=[]/\f=true:=by
 cases z with
 |nil=>exact⟨rfl,h⟩
 |_=>exact ar' h
def aG' {α:Type} (z:List α) (f:α->List α->Bool):Bool:=match z with
 |x :: r=>f x r
 |_=>false
theorem ak' {α:Type} {z:List α} {f:α->List α->Bool} (h:aG' z f=true):∃x r,z=x :: r/\f x r=true:=by
 cases z with
 |cons x r=>exact⟨x,r,rfl,h⟩
 |_=>exact ar' h
def iN' {α:Type} (z:Option α) (f:Bool):Bool:=match z with
 |none=>f
 |_=>false
theorem ew' {α:Type} {z:Option α} {f:Bool} (h:iN' z f=true):z=none/\f=true:=by
 cases z with
 |none=>exact⟨rfl,h⟩
 |_=>exact ar' h
def e8' {α:Type} (z:Option α) (f:α->Bool):Bool:=match z with
 |some x=>f x
 |_=>false
theorem cr' {α:Type} {z:Option α} {f:α->Bool} (h:e8' z f=true):∃x,z=some x/\f x=true:=by
 cases z with
 |some x=>exact⟨x,rfl,h⟩
 |_=>exact ar' h
def eU' (z:Comprehension) (f:Expr->Expr->List Expr->Int->Bool):Bool:=f z.target z.iter z.ifs z.is_async
theorem bD' {z:Comprehension} {f:Expr->Expr->List Expr->Int->Bool} (h:eU' z f=true):∃a b c d,z=⟨a,b,c,d⟩/\f a b c d=true:=by
 cases z
 exact⟨_,_,_,_,rfl,h⟩
def bC' (z:Expr) (f:Str->Pos->Bool):Bool:=match z with
 | .Name x0 x1=>f x0 x1
 |_=>false
theorem aN' {z f} (h:bC' z f=true):∃x0 x1,z=.Name x0 x1/\f x0 x1=true:=by
 cases z with
 |Name x0 x1=>exact⟨x0,x1,rfl,h⟩
 |_=>exact ar' h
def bK' (z:Expr) (f:Const->Nat->Pos->Bool):Bool:=match z with
 | .Constant x0 x1 x2=>f x0 x1 x2
 |_=>false
theorem bq' {z f} (h:bK' z f=true):∃x0 x1 x2,z=.Constant x0 x1 x2/\f x0 x1 x2=true:=by
 cases z with
 |Constant x0 x1 x2=>exact⟨x0,x1,x2,rfl,h⟩
 |_=>exact ar' h
def pm' (z:Const) (f:Int->Bool):Bool:=match z with
 | .int x0=>f x0
 |_=>false
theorem lM' {z f} (h:pm' z f=true):∃x0,z=.int x0/\f x0=true:=by
 cases z with
 |int x0=>exact⟨x0,rfl,h⟩
 |_=>exact ar' h
def lN' (z:Const) (f:Bool->Bool):Bool:=match z with
 | .bool x0=>f x0
 |_=>false
theorem j1' {z f} (h:lN' z f=true):∃x0,z=.bool x0/\f x0=true:=by
 cases z with
 |bool x0=>exact⟨x0,rfl,h⟩
 |_=>exact ar' h
def lO' (z:Const) (f:Bool):Bool:=match z with
 | .none=>f
 |_=>false
theorem j2' {z f} (h:lO' z f=true):z=.none/\f=true:=by
 cases z with
 |none=>exact⟨rfl,h⟩
 |_=>exact ar' h
def pn' (z:Const) (f:Str->Bool):Bool:=match z with
 | .str x0=>f x0
 |_=>false
theorem lP' {z f} (h:pn' z f=true):∃x0,z=.str x0/\f x0=true:=by
 cases z with
 |str x0=>exact⟨x0,rfl,h⟩
 |_=>exact ar' h
def iO' (z:Expr) (f:Expr->Operator->Expr->Pos->Bool):Bool:=match z with
 | .BinOp x0 x1 x2 x3=>f x0 x1 x2 x3
 |_=>false
theorem hU' {z f} (h:iO' z f=true):∃x0 x1 x2 x3,z=.BinOp x0 x1 x2 x3/\f x0 x1 x2 x3=true:=by
 cases z with
 |BinOp x0 x1 x2 x3=>exact⟨x0,x1,x2,x3,rfl,h⟩
 |_=>exact ar' h
def dw' (z:Expr) (f:UnaryOp->Expr->Pos->Bool):Bool:=match z with
 | .UnaryOp x0 x1 x2=>f x0 x1 x2
 |_=>false
theorem de' {z f} (h:dw' z f=true):∃x0 x1 x2,z=.UnaryOp x0 x1 x2/\f x0 x1 x2=true:=by
 cases z with
 |UnaryOp x0 x1 x2=>exact⟨x0,x1,x2,rfl,h⟩
 |_=>exact ar' h
def lQ' (z:UnaryOp) (f:Bool):Bool:=match z with
 | .USub=>f
 |_=>false
theorem j3' {z f} (h:lQ' z f=true):z=.USub/\f=true:=by
 cases z with
 |USub=>exact⟨rfl,h⟩
 |_=>exact ar' h
def po' (z:UnaryOp) (f:Bool):Bool:=match z with
 | .Not=>f
 |_=>false
theorem lR' {z f} (h:po' z f=true):z=.Not/\f=true:=by
 cases z with
 |Not=>exact⟨rfl,h⟩
 |_=>exact ar' h
def e9' (z:Expr) (f:Expr->List CmpOp->List Expr->Pos->Bool):Bool:=match z with
 | .Compare x0 x1 x2 x3=>f x0 x1 x2 x3
 |_=>false
theorem fI' {z f} (h:e9' z f=true):∃x0 x1 x2 x3,z=.Compare x0 x1 x2 x3/\f x0 x1 x2 x3=true:=by
 cases z with
 |Compare x0 x1 x2 x3=>exact⟨x0,x1,x2,x3,rfl,h⟩
 |_=>exact ar' h
def iP' (z:Expr) (f:Expr->Expr->Expr->Pos->Bool):Bool:=match z with
 | .IfExp x0 x1 x2 x3=>f x0 x1 x2 x3
 |_=>false
theorem hV' {z f} (h:iP' z f=true):∃x0 x1 x2 x3,z=.IfExp x0 x1 x2 x3/\f x0 x1 x2 x3=true:=by
 cases z with
 |IfExp x0 x1 x2 x3=>exact⟨x0,x1,x2,x3,rfl,h⟩
 |_=>exact ar' h
def iQ' (z:Expr) (f:List Expr->Nat->Pos->Bool):Bool:=match z with
 | .Tuple x0 x1 x2=>f x0 x1 x2
 |_=>false
theorem hW' {z f} (h:iQ' z f=true):∃x0 x1 x2,z=.Tuple x0 x1 x2/\f x0 x1 x2=true:=by
 cases z with
 |Tuple x0 x1 x2=>exact⟨x0,x1,x2,rfl,h⟩
 |_=>exact ar' h
def lS' (z:Expr) (f:List Expr->Pos->Bool):Bool:=match z with
 | .List x0 x1=>f x0 x1
 |_=>false
theorem j4' {z f} (h:lS' z f=true):∃x0 x1,z=.List x0 x1/\f x0 x1=true:=by
 cases z with
 |List x0 x1=>exact⟨x0,x1,rfl,h⟩
 |_=>exact ar' h
def cs' (z:Expr) (f:Expr->Expr->Pos->Bool):Bool:=match z with
 | .Subscript x0 x1 x2=>f x0 x1 x2
 |_=>false
theorem ct' {z f} (h:cs' z f=true):∃x0 x1 x2,z=.Subscript x0 x1 x2/\f x0 x1 x2=true:=by
 cases z with
 |Subscript x0 x1 x2=>exact⟨x0,x1,x2,rfl,h⟩
 |_=>exact ar' h
def iR' (z:Expr) (f:Option Expr->Option Expr->Option Expr->Pos->Bool):Bool:=match z with
 | .Slice x0 x1 x2 x3=>f x0 x1 x2 x3
 |_=>false
theorem hY' {z f} (h:iR' z f=true):∃x0 x1 x2 x3,z=.Slice x0 x1 x2 x3/\f x0 x1 x2 x3=true:=by
 cases z with
 |Slice x0 x1 x2 x3=>exact⟨x0,x1,x2,x3,rfl,h⟩
 |_=>exact ar' h
def cu' (z:Expr) (f:Expr->List Expr->List Keyword->Pos->Bool):Bool:=match z with
 | .Call x0 x1 x2 x3=>f x0 x1 x2 x3
 |_=>false
theorem bp' {z f} (h:cu' z f=true):∃x0 x1 x2 x3,z=.Call x0 x1 x2 x3/\f x0 x1 x2 x3=true:=by
 cases z with
 |Call x0 x1 x2 x3=>exact⟨x0,x1,x2,x3,rfl,h⟩
 |_=>exact ar' h
def bT' (z:Expr) (f:Expr->Str->Pos->Bool):Bool:=match z with
 | .Attribute x0 x1 x2=>f x0 x1 x2
 |_=>false
theorem bL' {z f} (h:bT' z f=true):∃x0 x1 x2,z=.Attribute x0 x1 x2/\f x0 x1 x2=true:=by
 cases z with
 |Attribute x0 x1 x2=>exact⟨x0,x1,x2,rfl,h⟩
 |_=>exact ar' h
def ey' (z:Expr) (f:Expr->Expr->List Comprehension->Scope->Pos->Bool):Bool:=match z with
 | .DictComp x0 x1 x2 x3 x4=>f x0 x1 x2 x3 x4
 |_=>false
theorem eV' {z f} (h:ey' z f=true):∃x0 x1 x2 x3 x4,z=.DictComp x0 x1 x2 x3 x4/\f x0 x1 x2 x3 x4=true:=by
 cases z with
 |DictComp x0 x1 x2 x3 x4=>exact⟨x0,x1,x2,x3,x4,rfl,h⟩
 |_=>exact ar' h
def cb' (z:Expr) (f:Expr->List Comprehension->Scope->Pos->Bool):Bool:=match z with
 | .ListComp x0 x1 x2 x3=>f x0 x1 x2 x3
 |_=>false
theorem bY' {z f} (h:cb' z f=true):∃x0 x1 x2 x3,z=.ListComp x0 x1 x2 x3/\f x0 x1 x2 x3=true:=by
 cases z with
 |ListComp x0 x1 x2 x3=>exact⟨x0,x1,x2,x3,rfl,h⟩
 |_=>exact ar' h
def lT' (z:Stmt) (f:Expr->Pos->Bool):Bool:=match z with
 | .Expr x0 x1=>f x0 x1
 |_=>false
theorem j5' {z f} (h:lT' z f=true):∃x0 x1,z=.Expr x0 x1/\f x0 x1=true:=by
 cases z with
 |Expr x0 x1=>exact⟨x0,x1,rfl,h⟩
 |_=>exact ar' h
def gB' (z:Stmt) (f:Option Expr->Pos->Bool):Bool:=match z with
 | .Return x0 x1=>f x0 x1
 |_=>false
theorem gC' {z f} (h:gB' z f=true):∃x0 x1,z=.Return x0 x1/\f x0 x1=true:=by
 cases z with
 |Return x0 x1=>exact⟨x0,x1,rfl,h⟩
 |_=>exact ar' h
def df' (z:Stmt) (f:List Expr->Expr->Pos->Bool):Bool:=match z with
 | .Assign x0 x1 x2=>f x0 x1 x2
 |_=>false
theorem cv' {z f} (h:df' z f=true):∃x0 x1 x2,z=.Assign x0 x1 x2/\f x0 x1 x2=true:=by
 cases z with
 |Assign x0 x1 x2=>exact⟨x0,x1,x2,rfl,h⟩
 |_=>exact ar' h
def fa' (z:Expr) (f:Expr->List Comprehension->Scope->Pos->Bool):Bool:=match z with
 | .SetComp x0 x1 x2 x3=>f x0 x1 x2 x3
 |_=>false
theorem fJ' {z f} (h:fa' z f=true):∃x0 x1 x2 x3,z=.SetComp x0 x1 x2 x3/\f x0 x1 x2 x3=true:=by
 cases z with
 |SetComp x0 x1 x2 x3=>exact⟨x0,x1,x2,x3,rfl,h⟩
 |_=>exact ar' h
def iS' (z:Stmt) (f:Option Expr->Option Expr->Pos->Bool):Bool:=match z with
 | .Raise x0 x1 x2=>f x0 x1 x2
 |_=>false
theorem hZ' {z f} (h:iS' z f=true):∃x0 x1 x2,z=.Raise x0 x1 x2/\f x0 x1 x2=true:=by
 cases z with
 |Raise x0 x1 x2=>exact⟨x0,x1,x2,rfl,h⟩
 |_=>exact ar' h
def pp' (z:Stmt) (f:List Stmt->List ExceptHandler->List Stmt->List Stmt->Pos->Bool):Bool:=match z with
 | .Try x0 x1 x2 x3 x4=>f x0 x1 x2 x3 x4
 |_=>false
theorem lU' {z f} (h:pp' z f=true):∃x0 x1 x2 x3 x4,z=.Try x0 x1 x2 x3 x4/\f x0 x1 x2 x3 x4=true:=by
 cases z with
 |Try x0 x1 x2 x3 x4=>exact⟨x0,x1,x2,x3,x4,rfl,h⟩
 |_=>exact ar' h
def cp' (z:ExceptHandler) (f:Option Expr->Option Str->List Stmt->Pos->Bool):Bool:=match z with
 | .ExceptHandler x0 x1 x2 x3=>f x0 x1 x2 x3
theorem cT' {z f} (h:cp' z f=true):∃x0 x1 x2 x3,z=.ExceptHandler x0 x1 x2 x3/\f x0 x1 x2 x3=true:=by
 cases z with
 |ExceptHandler x0 x1 x2 x3=>exact⟨x0,x1,x2,x3,rfl,h⟩
def dJ' (z:Stmt) (f:Expr->Operator->Expr->Pos->Bool):Bool:=match z with
 | .AugAssign x0 x1 x2 x3=>f x0 x1 x2 x3
 |_=>false
theorem ez' {z f} (h:dJ' z f=true):∃x0 x1 x2 x3,z=.AugAssign x0 x1 x2 x3/\f x0 x1 x2 x3=true:=by
 cases z with
 |AugAssign x0 x1 x2 x3=>exact⟨x0,x1,x2,x3,rfl,h⟩
 |_=>exact ar' h
def uL' (z:Stmt) (f:Expr->List Stmt->List Stmt->Pos->Bool):Bool:=match z with
 | .If x0 x1 x2 x3=>f x0 x1 x2 x3
 |_=>false
theorem n1' {z f} (h:uL' z f=true):∃x0 x1 x2 x3,z=.If x0 x1 x2 x3/\f x0 x1 x2 x3=true:=by
 cases z with
 |If x0 x1 x2 x3=>exact⟨x0,x1,x2,x3,rfl,h⟩
 |_=>exact ar' h
def iT' (z:Stmt) (f:Expr->List Stmt->List Stmt->Pos->Bool):Bool:=match z with
 | .While x0 x1 x2 x3=>f x0 x1 x2 x3
 |_=>false
theorem h0' {z f} (h:iT' z f=true):∃x0 x1 x2 x3,z=.While x0 x1 x2 x3/\f x0 x1 x2 x3=true:=by
 cases z with
 |While x0 x1 x2 x3=>exact⟨x0,x1,x2,x3,rfl,h⟩
 |_=>exact ar' h
def pq' (z:Stmt) (f:Expr->Expr->List Stmt->List Stmt->Pos->Bool):Bool:=match z with
 | .For x0 x1 x2 x3 x4=>f x0 x1 x2 x3 x4
 |_=>false
theorem lV' {z f} (h:pq' z f=true):∃x0 x1 x2 x3 x4,z=.For x0 x1 x2 x3 x4/\f x0 x1 x2 x3 x4=true:=by
 cases z with
 |For x0 x1 x2 x3 x4=>exact⟨x0,x1,x2,x3,x4,rfl,h⟩
 |_=>exact ar' h
def v1 (zz:Expr) (f:Str->Bool):Bool:=bC' zz fun y1 y2=>f y1
theorem w3' {zz f} {P:Prop} (h:v1 zz f=true) (k:∀x w1,zz=.Name x w1->f x=true->P):P:=by
 obtain⟨y1,y2,e0,h⟩:=aN' h
 exact k y1 y2 (by rw[e0]) h
def v2 (zz:Expr) (f:Int->Bool):Bool:=bK' zz fun y1 y2 y3=>pm' y1 fun y4=>f y4
theorem z6' {zz f} {P:Prop} (h:v2 zz f=true) (k:∀m w1 w2,zz=.Constant (.int m) w1 w2->f m=true->P):P:=by
 obtain⟨y1,y2,y3,e0,h⟩:=bq' h
 obtain⟨y4,e1,h⟩:=lM' h
 exact k y4 y2 y3 (by rw[e0,e1]) h
def v3 (zz:Expr) (f:Bool->Bool):Bool:=bK' zz fun y1 y2 y3=>lN' y1 fun y4=>f y4
theorem z7' {zz f} {P:Prop} (h:v3 zz f=true) (k:∀c w1 w2,zz=.Constant (.bool c) w1 w2->f c=true->P):P:=by
 obtain⟨y1,y2,y3,e0,h⟩:=bq' h
 obtain⟨y4,e1,h⟩:=j1' h
 exact k y4 y2 y3 (by rw[e0,e1]) h
def v4 (zz:Expr) (f:Bool):Bool:=bK' zz fun y1 y2 y3=>lO' y1 (f)
theorem z8' {zz f} {P:Prop} (h:v4 zz f=true) (k:∀w1 w2,zz=.Constant .none w1 w2->f=true->P):P:=by
 obtain⟨y1,y2,y3,e0,h⟩:=bq' h
 obtain⟨e1,h⟩:=j2' h
 exact k y2 y3 (by rw[e0,e1]) h
def v5 (zz:Expr) (f:Str->Bool):Bool:=bK' zz fun y1 y2 y3=>pn' y1 fun y4=>f y4
theorem z9' {zz f} {P:Prop} (h:v5 zz f=true) (k:∀y w1 w2,zz=.Constant (.str y) w1 w2->f y=true->P):P:=by
 obtain⟨y1,y2,y3,e0,h⟩:=bq' h
 obtain⟨y4,e1,h⟩:=lP' h
 exact k y4 y2 y3 (by rw[e0,e1]) h
def v6 (zz:Expr) (f:Expr->Operator->Expr->Bool):Bool:=iO' zz fun y1 y2 y3 y4=>f y1 y2 y3
theorem Aa' {zz f} {P:Prop} (h:v6 zz f=true) (k:∀ea op' eb w1,zz=.BinOp ea op' eb w1->f ea op' eb=true->P):P:=by
 obtain⟨y1,y2,y3,y4,e0,h⟩:=hU' h
 exact k y1 y2 y3 y4 (by rw[e0]) h
def v7 (zz:Expr) (f:Expr->Bool):Bool:=dw' zz fun y1 y2 y3=>lQ' y1 (f y2)
theorem Ab' {zz f} {P:Prop} (h:v7 zz f=true) (k:∀ea w1,zz=.UnaryOp .USub ea w1->f ea=true->P):P:=by
 obtain⟨y1,y2,y3,e0,h⟩:=de' h
 obtain⟨e1,h⟩:=j3' h
 exact k y2 y3 (by rw[e0,e1]) h
def v8 (zz:Expr) (f:Expr->Bool):Bool:=dw' zz fun y1 y2 y3=>po' y1 (f y2)
theorem zi' {zz f} {P:Prop} (h:v8 zz f=true) (k:∀ea w1,zz=.UnaryOp .Not ea w1->f ea=true->P):P:=by
 obtain⟨y1,y2,y3,e0,h⟩:=de' h
 obtain⟨e1,h⟩:=lR' h
 exact k y2 y3 (by rw[e0,e1]) h
def v9 (zz:Expr) (f:Expr->CmpOp->Expr->Bool):Bool:=e9' zz fun y1 y2 y3 y4=>aG' y2 fun y5 y6=>bh' y6 (aG' y3 fun y7 y8=>bh' y8 (f y1 y5 y7))
theorem w4' {zz f} {P:Prop} (h:v9 zz f=true) (k:∀ea op' eb w1,zz=.Compare ea (op' :: []) (eb :: []) w1->f ea op' eb=true->P):P:=by
 obtain⟨y1,y2,y3,y4,e0,h⟩:=fI' h
 obtain⟨y5,y6,e1,h⟩:=ak' h
 obtain⟨e2,h⟩:=ao' h
 obtain⟨y7,y8,e3,h⟩:=ak' h
 obtain⟨e4,h⟩:=ao' h
 exact k y1 y5 y7 y4 (by rw[e0,e1,e2,e3,e4]) h
def v11 (zz:Expr) (f:Expr->Expr->Expr->Bool):Bool:=iP' zz fun y1 y2 y3 y4=>f y1 y2 y3
theorem xS' {zz f} {P:Prop} (h:v11 zz f=true) (k:∀eq ea eb w1,zz=.IfExp eq ea eb w1->f eq ea eb=true->P):P:=by
 obtain⟨y1,y2,y3,y4,e0,h⟩:=hV' h
 exact k y1 y2 y3 y4 (by rw[e0]) h
def v12 (zz:Expr) (f:List Expr->Bool):Bool:=iQ' zz fun y1 y2 y3=>f y1
theorem uM' {zz f} {P:Prop} (h:v12 zz f=true) (k:∀xs w1 w2,zz=.Tuple xs w1 w2->f xs=true->P):P:=by
 obtain⟨y1,y2,y3,e0,h⟩:=hW' h
 exact k y1 y2 y3 (by rw[e0]) h
def v13 (zz:Expr) (f:List Expr->Bool):Bool:=lS' zz fun y1 y2=>f y1
theorem xT' {zz f} {P:Prop} (h:v13 zz f=true) (k:∀xs w1,zz=.List xs w1->f xs=true->P):P:=by
 obtain⟨y1,y2,e0,h⟩:=j4' h
 exact k y1 y2 (by rw[e0]) h
def v14 (zz:Expr) (f:Expr->Expr->Bool):Bool:=cs' zz fun y1 y2 y3=>f y1 y2
theorem uN' {zz f} {P:Prop} (h:v14 zz f=true) (k:∀ea eb w1,zz=.Subscript ea eb w1->f ea eb=true->P):P:=by
 obtain⟨y1,y2,y3,e0,h⟩:=ct' h
 exact k y1 y2 y3 (by rw[e0]) h
def v15 (zz:Expr) (f:Expr->Option Expr->Option Expr->Bool):Bool:=cs' zz fun y1 y2 y3=>iR' y2 fun y4 y5 y6 y7=>iN' y6 (f y1 y4 y5)
theorem xU' {zz f} {P:Prop} (h:v15 zz f=true) (k:∀ea l h w1 w2,zz=.Subscript ea (.Slice l h none w1) w2->f ea l h=true->P):P:=by
 obtain⟨y1,y2,y3,e0,h⟩:=ct' h
 obtain⟨y4,y5,y6,y7,e1,h⟩:=hY' h
 obtain⟨e2,h⟩:=ew' h
 exact k y1 y4 y5 y7 y3 (by rw[e0,e1,e2]) h
def v16 (zz:Expr) (f:Str->Expr->List Expr->Bool):Bool:=cu' zz fun y1 y2 y3 y4=>bC' y1 fun y5 y6=>aG' y2 fun y7 y8=>bh' y3 (f y5 y7 y8)
theorem uO' {zz f} {P:Prop} (h:v16 zz f=true) (k:∀x w1 e r w2,zz=.Call (.Name x w1) (e :: r) [] w2->f x e r=true->P):P:=by
 obtain⟨y1,y2,y3,y4,e0,h⟩:=bp' h
 obtain⟨y5,y6,e1,h⟩:=aN' h
 obtain⟨y7,y8,e2,h⟩:=ak' h
 obtain⟨e3,h⟩:=ao' h
 exact k y5 y6 y7 y8 y4 (by rw[e0,e1,e2,e3]) h
def v17 (zz:Expr) (f:Expr->Str->Pos->List Expr->Pos->Bool):Bool:=cu' zz fun y1 y2 y3 y4=>bT' y1 fun y5 y6 y7=>bh' y3 (f y5 y6 y7 y2 y4)
theorem xV' {zz f} {P:Prop} (h:v17 zz f=true) (k:∀eo nm apos args pos,zz=.Call (.Attribute eo nm apos) args [] pos->f eo nm apos args pos=true->P):P:=by
 obtain⟨y1,y2,y3,y4,e0,h⟩:=bp' h
 obtain⟨y5,y6,y7,e1,h⟩:=bL' h
 obtain⟨e2,h⟩:=ao' h
 exact k y5 y6 y7 y2 y4 (by rw[e0,e1,e2]) h
def v20 (zz:Expr) (f:Expr->Str->Pos->Expr->Pos->Bool):Bool:=cu' zz fun y1 y2 y3 y4=>bT' y1 fun y5 y6 y7=>aG' y2 fun y8 y9=>bh' y9 (bh' y3 (f y5 y6 y7 y8 y4))
theorem xW' {zz f} {P:Prop} (h:v20 zz f=true) (k:∀eo nm apos y pos,zz=.Call (.Attribute eo nm apos) (y :: []) [] pos->f eo nm apos y pos=true->P):P:=by
 obtain⟨y1,y2,y3,y4,e0,h⟩:=bp' h
 obtain⟨y5,y6,y7,e1,h⟩:=bL' h
 obtain⟨y8,y9,e2,h⟩:=ak' h
 obtain⟨e3,h⟩:=ao' h
 obtain⟨e4,h⟩:=ao' h
 exact k y5 y6 y7 y8 y4 (by rw[e0,e1,e2,e3,e4]) h
def v23 (zz:Expr) (f:Str->Expr->Bool):Bool:=cu' zz fun y1 y2 y3 y4=>bC' y1 fun y5 y6=>aG' y2 fun y7 y8=>bh' y8 (bh' y3 (f y5 y7))
theorem rJ' {zz f} {P:Prop} (h:v23 zz f=true) (k:∀x w1 y w2,zz=.Call (.Name x w1) (y :: []) [] w2->f x y=true->P):P:=by
 obtain⟨y1,y2,y3,y4,e0,h⟩:=bp' h
 obtain⟨y5,y6,e1,h⟩:=aN' h
 obtain⟨y7,y8,e2,h⟩:=ak' h
 obtain⟨e3,h⟩:=ao' h
 obtain⟨e4,h⟩:=ao' h
 exact k y5 y6 y7 y4 (by rw[e0,e1,e2,e3,e4]) h
def v26 (zz:Expr) (f:Expr->Expr->Expr->List Expr->Int->Scope->Bool):Bool:=cb' zz fun y1 y2 y3 y4=>aG' y2 fun y5 y6=>eU' y5 fun y7 y8 y9 y10=>bh' y6 (f y1 y7 y8 y9 y10 y3)
theorem xX' {zz f} {P:Prop} (h:v26 zz f=true) (k:∀ee tg iter ifs a scope w1,zz=.ListComp ee (⟨tg,iter,ifs,a⟩ :: []) scope w1->f ee tg iter ifs a scope=true->P):P:=by
 obtain⟨y1,y2,y3,y4,e0,h⟩:=bY' h
 obtain⟨y5,y6,e1,h⟩:=ak' h
 obtain⟨y7,y8,y9,y10,e2,h⟩:=bD' h
 obtain⟨e3,h⟩:=ao' h
 exact k y1 y7 y8 y9 y10 y3 y4 (by rw[e0,e1,e2,e3]) h
def v27 (zz:Expr) (f:Expr->Expr->Expr->List Expr->Int->Expr->Expr->List Expr->Int->Scope->Bool):Bool:=cb' zz fun y1 y2 y3 y4=>aG' y2 fun y5 y6=>eU' y5 fun y7 y8 y9 y10=>aG' y6 fun y11 y12=>eU' y11 fun y13 y14 y15 y16=>bh' y12 (f y1 y7 y8 y9 y10 y13 y14 y15 y16 y3)
theorem xY' {zz f} {P:Prop} (h:v27 zz f=true) (k:∀ee tg iter ifs a tg2 iter2 ifs2 a2 scope w1,zz=.ListComp ee (⟨tg,iter,ifs,a⟩ :: (⟨tg2,iter2,ifs2,a2⟩ :: [])) scope w1->f ee tg iter ifs a tg2 iter2 ifs2 a2 scope=true->P):P:=by
 obtain⟨y1,y2,y3,y4,e0,h⟩:=bY' h
 obtain⟨y5,y6,e1,h⟩:=ak' h
 obtain⟨y7,y8,y9,y10,e2,h⟩:=bD' h
 obtain⟨y11,y12,e3,h⟩:=ak' h
 obtain⟨y13,y14,y15,y16,e4,h⟩:=bD' h
 obtain⟨e5,h⟩:=ao' h
 exact k y1 y7 y8 y9 y10 y13 y14 y15 y16 y3 y4 (by rw[e0,e1,e2,e3,e4,e5]) h
def v28 (zz:Expr) (f:Expr->Expr->Expr->List Expr->Int->Expr->Expr->List Expr->Int->Expr->Expr->List Expr->Int->Scope->Bool):Bool:=cb' zz fun y1 y2 y3 y4=>aG' y2 fun y5 y6=>eU' y5 fun y7 y8 y9 y10=>aG' y6 fun y11 y12=>eU' y11 fun y13 y14 y15 y16=>aG' y12 fun y17 y18=>eU' y17 fun y19 y20 y21 y22=>bh' y18 (f y1 y7 y8 y9 y10 y13 y14 y15 y16 y19 y20 y21 y22 y3)
theorem xZ' {zz f} {P:Prop} (h:v28 zz f=true) (k:∀ee tg iter ifs a tg2 iter2 ifs2 a2 tg3 iter3 ifs3 a3 scope w1,zz=.ListComp ee (⟨tg,iter,ifs,a⟩ :: (⟨tg2,iter2,ifs2,a2⟩ :: (⟨tg3,iter3,ifs3,a3⟩ :: []))) scope w1->f ee tg iter ifs a tg2 iter2 ifs2 a2 tg3 iter3 ifs3 a3 scope=true->P):P:=by
 obtain⟨y1,y2,y3,y4,e0,h⟩:=bY' h
 obtain⟨y5,y6,e1,h⟩:=ak' h
 obtain⟨y7,y8,y9,y10,e2,h⟩:=bD' h
 obtain⟨y11,y12,e3,h⟩:=ak' h
 obtain⟨y13,y14,y15,y16,e4,h⟩:=bD' h
 obtain⟨y17,y18,e5,h⟩:=ak' h
 obtain⟨y19,y20,y21,y22,e6,h⟩:=bD' h
 obtain⟨e7,h⟩:=ao' h
 exact k y1 y7 y8 y9 y10 y13 y14 y15 y16 y19 y20 y21 y22 y3 y4 (by rw[e0,e1,e2,e3,e4,e5,e6,e7]) h
def v29 (zz:List Expr) (f:Bool):Bool:=bh' zz (f)
theorem lW' {zz f} {P:Prop} (h:v29 zz f=true) (k:zz=[]->f=true->P):P:=by
 obtain⟨e0,h⟩:=ao' h
 exact k (by rw[e0]) h
def v30 (zz:List Expr) (f:Expr->List Expr->Bool):Bool:=aG' zz fun y1 y2=>f y1 y2
theorem n2' {zz f} {P:Prop} (h:v30 zz f=true) (k:∀x xs,zz=(x :: xs)->f x xs=true->P):P:=by
 obtain⟨y1,y2,e0,h⟩:=ak' h
 exact k y1 y2 (by rw[e0]) h
def v31 (zz:List Expr) (f:Expr->Bool):Bool:=aG' zz fun y1 y2=>bh' y2 (f y1)
theorem x0' {zz f} {P:Prop} (h:v31 zz f=true) (k:∀e,zz=(e :: [])->f e=true->P):P:=by
 obtain⟨y1,y2,e0,h⟩:=ak' h
 obtain⟨e1,h⟩:=ao' h
 exact k y1 (by rw[e0,e1]) h
def v32 (zz:Option Expr) (f:Bool):Bool:=iN' zz (f)
theorem x1' {zz f} {P:Prop} (h:v32 zz f=true) (k:zz=none->f=true->P):P:=by
 obtain⟨e0,h⟩:=ew' h
 exact k (by rw[e0]) h
def v33 (zz:Option Expr) (f:Expr->Bool):Bool:=e8' zz fun y1=>f y1
theorem x2' {zz f} {P:Prop} (h:v33 zz f=true) (k:∀y,zz=(some y)->f y=true->P):P:=by
 obtain⟨y1,e0,h⟩:=cr' h
 exact k y1 (by rw[e0]) h
def v34 (zz:Expr) (f:Str->Expr->Expr->Bool):Bool:=cu' zz fun y1 y2 y3 y4=>bC' y1 fun y5 y6=>aG' y2 fun y7 y8=>aG' y8 fun y9 y10=>bh' y10 (bh' y3 (f y5 y7 y9))
theorem x4' {zz f} {P:Prop} (h:v34 zz f=true) (k:∀n w1 y z w2,zz=.Call (.Name n w1) (y :: (z :: [])) [] w2->f n y z=true->P):P:=by
 obtain⟨y1,y2,y3,y4,e0,h⟩:=bp' h
 obtain⟨y5,y6,e1,h⟩:=aN' h
 obtain⟨y7,y8,e2,h⟩:=ak' h
 obtain⟨y9,y10,e3,h⟩:=ak' h
 obtain⟨e4,h⟩:=ao' h
 obtain⟨e5,h⟩:=ao' h
 exact k y5 y6 y7 y9 y4 (by rw[e0,e1,e2,e3,e4,e5]) h
def v35 (zz:Expr) (f:Str->Expr->Expr->Expr->Bool):Bool:=cu' zz fun y1 y2 y3 y4=>bC' y1 fun y5 y6=>aG' y2 fun y7 y8=>aG' y8 fun y9 y10=>aG' y10 fun y11 y12=>bh' y12 (bh' y3 (f y5 y7 y9 y11))
theorem x5' {zz f} {P:Prop} (h:v35 zz f=true) (k:∀n w1 y z u w2,zz=.Call (.Name n w1) (y :: (z :: (u :: []))) [] w2->f n y z u=true->P):P:=by
 obtain⟨y1,y2,y3,y4,e0,h⟩:=bp' h
 obtain⟨y5,y6,e1,h⟩:=aN' h
 obtain⟨y7,y8,e2,h⟩:=ak' h
 obtain⟨y9,y10,e3,h⟩:=ak' h
 obtain⟨y11,y12,e4,h⟩:=ak' h
 obtain⟨e5,h⟩:=ao' h
 obtain⟨e6,h⟩:=ao' h
 exact k y5 y6 y7 y9 y11 y4 (by rw[e0,e1,e2,e3,e4,e5,e6]) h
def v36 (zz:Stmt) (f:Expr->Bool):Bool:=lT' zz fun y1 y2=>f y1
theorem x6' {zz f} {P:Prop} (h:v36 zz f=true) (k:∀x w1,zz=.Expr x w1->f x=true->P):P:=by
 obtain⟨y1,y2,e0,h⟩:=j5' h
 exact k y1 y2 (by rw[e0]) h
def v37 (zz:Stmt) (f:Expr->Bool):Bool:=gB' zz fun y1 y2=>e8' y1 fun y3=>f y3
theorem x7' {zz f} {P:Prop} (h:v37 zz f=true) (k:∀x w1,zz=.Return (some x) w1->f x=true->P):P:=by
 obtain⟨y1,y2,e0,h⟩:=gC' h
 obtain⟨y3,e1,h⟩:=cr' h
 exact k y3 y2 (by rw[e0,e1]) h
def v39 (zz:Stmt) (f:Expr->Expr->Bool):Bool:=df' zz fun y1 y2 y3=>aG' y1 fun y4 y5=>bh' y5 (f y4 y2)
theorem x9' {zz f} {P:Prop} (h:v39 zz f=true) (k:∀tg x w1,zz=.Assign (tg :: []) x w1->f tg x=true->P):P:=by
 obtain⟨y1,y2,y3,e0,h⟩:=cv' h
 obtain⟨y4,y5,e1,h⟩:=ak' h
 obtain⟨e2,h⟩:=ao' h
 exact k y4 y2 y3 (by rw[e0,e1,e2]) h
def v41 (zz:Stmt) (f:Str->Pos->Expr->Expr->Expr->List Expr->Int->Expr->Expr->List Expr->Int->Scope->Bool):Bool:=df' zz fun y1 y2 y3=>aG' y1 fun y4 y5=>bC' y4 fun y6 y7=>bh' y5 (fa' y2 fun y8 y9 y10 y11=>aG' y9 fun y12 y13=>eU' y12 fun y14 y15 y16 y17=>aG' y13 fun y18 y19=>eU' y18 fun y20 y21 y22 y23=>bh' y19 (f y6 y7 y8 y14 y15 y16 y17 y20 y21 y22 y23 y10))
theorem ya' {zz f} {P:Prop} (h:v41 zz f=true) (k:∀y py ee tg iter ifs a tg2 iter2 ifs2 a2 scope w1 w2,zz=.Assign ((.Name y py) :: []) (.SetComp ee (⟨tg,iter,ifs,a⟩ :: (⟨tg2,iter2,ifs2,a2⟩ :: [])) scope w1) w2->f y py ee tg iter ifs a tg2 iter2 ifs2 a2 scope=true->P):P:=by
 obtain⟨y1,y2,y3,e0,h⟩:=cv' h
 obtain⟨y4,y5,e1,h⟩:=ak' h
 obtain⟨y6,y7,e2,h⟩:=aN' h
 obtain⟨e3,h⟩:=ao' h
 obtain⟨y8,y9,y10,y11,e4,h⟩:=fJ' h
 obtain⟨y12,y13,e5,h⟩:=ak' h
 obtain⟨y14,y15,y16,y17,e6,h⟩:=bD' h
 obtain⟨y18,y19,e7,h⟩:=ak' h
 obtain⟨y20,y21,y22,y23,e8,h⟩:=bD' h
 obtain⟨e9,h⟩:=ao' h
 exact k y6 y7 y8 y14 y15 y16 y17 y20 y21 y22 y23 y10 y11 y3 (by rw[e0,e1,e2,e3,e4,e5,e6,e7,e8,e9]) h
def v42 (zz:Stmt) (f:Str->Pos->Expr->Expr->Expr->Expr->List Expr->Int->Scope->Bool):Bool:=df' zz fun y1 y2 y3=>aG' y1 fun y4 y5=>bC' y4 fun y6 y7=>bh' y5 (ey' y2 fun y8 y9 y10 y11 y12=>aG' y10 fun y13 y14=>eU' y13 fun y15 y16 y17 y18=>bh' y14 (f y6 y7 y8 y9 y15 y16 y17 y18 y11))
theorem yb' {zz f} {P:Prop} (h:v42 zz f=true) (k:∀y py ke ve tg iter ifs a scope w1 w2,zz=.Assign ((.Name y py) :: []) (.DictComp ke ve (⟨tg,iter,ifs,a⟩ :: []) scope w1) w2->f y py ke ve tg iter ifs a scope=true->P):P:=by
 obtain⟨y1,y2,y3,e0,h⟩:=cv' h
 obtain⟨y4,y5,e1,h⟩:=ak' h
 obtain⟨y6,y7,e2,h⟩:=aN' h
 obtain⟨e3,h⟩:=ao' h
 obtain⟨y8,y9,y10,y11,y12,e4,h⟩:=eV' h
 obtain⟨y13,y14,e5,h⟩:=ak' h
 obtain⟨y15,y16,y17,y18,e6,h⟩:=bD' h
 obtain⟨e7,h⟩:=ao' h
 exact k y6 y7 y8 y9 y15 y16 y17 y18 y11 y12 y3 (by rw[e0,e1,e2,e3,e4,e5,e6,e7]) h
def zj' (zz:Stmt) (f:Str->Expr->Bool):Bool:=iS' zz fun y1 y2 y3=>e8' y1 fun y4=>cu' y4 fun y5 y6 y7 y8=>bC' y5 fun y9 y10=>aG' y6 fun y11 y12=>bh' y12 (bh' y7 (iN' y2 (f y9 y11)))
theorem uP' {zz f} {P:Prop} (h:zj' zz f=true) (k:∀x w1 y w5 w6,zz=.Raise (some (.Call (.Name x w1) (y :: []) [] w5)) none w6->f x y=true->P):P:=by
 obtain⟨y1,y2,y3,e0,h⟩:=hZ' h
 obtain⟨y4,e1,h⟩:=cr' h
 obtain⟨y5,y6,y7,y8,e2,h⟩:=bp' h
 obtain⟨y9,y10,e3,h⟩:=aN' h
 obtain⟨y11,y12,e4,h⟩:=ak' h
 obtain⟨e7,h⟩:=ao' h
 obtain⟨e8,h⟩:=ao' h
 obtain⟨e9,h⟩:=ew' h
 exact k y9 y10 y11 y8 y3 (by rw[e0,e1,e2,e3,e4,e7,e8,e9]) h
def vXa (zz:Expr) (f:Str->Str->Bool):Bool:=bT' zz fun y1 y2 y3=>bC' y1 fun y4 y5=>f y4 y2
theorem yc' {zz f} {P:Prop} (h:vXa zz f=true) (k:∀x w1 g w2,zz=.Attribute (.Name x w1) g w2->f x g=true->P):P:=by
 obtain⟨y1,y2,y3,e0,h⟩:=bL' h
 obtain⟨y4,y5,e1,h⟩:=aN' h
 exact k y4 y5 y2 y3 (by rw[e0,e1]) h
def v46 (zz:Stmt) (f:List Stmt->Str->Str->Stmt->List Stmt->Bool):Bool:=pp' zz fun y1 y2 y3 y4 y5=>aG' y2 fun y6 y7=>cp' y6 fun y8 y9 y10 y11=>e8' y8 fun y12=>bC' y12 fun y13 y14=>e8' y9 fun y15=>aG' y10 fun y16 y17=>bh' y7 (bh' y3 (bh' y4 (f y1 y13 y15 y16 y17)))
theorem yd' {zz f} {P:Prop} (h:v46 zz f=true) (k:∀ss x w1 n t ts w2 w3,zz=.Try ss ((.ExceptHandler (some (.Name x w1)) (some n) (t :: ts) w2) :: []) [] [] w3->f ss x n t ts=true->P):P:=by
 obtain⟨y1,y2,y3,y4,y5,e0,h⟩:=lU' h
 obtain⟨y6,y7,e1,h⟩:=ak' h
 obtain⟨y8,y9,y10,y11,e2,h⟩:=cT' h
 obtain⟨y12,e3,h⟩:=cr' h
 obtain⟨y13,y14,e4,h⟩:=aN' h
 obtain⟨y15,e5,h⟩:=cr' h
 obtain⟨y16,y17,e6,h⟩:=ak' h
 obtain⟨e7,h⟩:=ao' h
 obtain⟨e8,h⟩:=ao' h
 obtain⟨e9,h⟩:=ao' h
 exact k y1 y13 y14 y15 y16 y17 y11 y5 (by rw[e0,e1,e2,e3,e4,e5,e6,e7,e8,e9]) h
def v49 (zz:Stmt) (f:Str->Operator->Expr->Bool):Bool:=dJ' zz fun y1 y2 y3 y4=>bC' y1 fun y5 y6=>f y5 y2 y3
theorem ye' {zz f} {P:Prop} (h:v49 zz f=true) (k:∀x w1 op ee w2,zz=.AugAssign (.Name x w1) op ee w2->f x op ee=true->P):P:=by
 obtain⟨y1,y2,y3,y4,e0,h⟩:=ez' h
 obtain⟨y5,y6,e1,h⟩:=aN' h
 exact k y5 y6 y2 y3 y4 (by rw[e0,e1]) h
def v50 (zz:Stmt) (f:Expr->List Stmt->List Stmt->Bool):Bool:=uL' zz fun y1 y2 y3 y4=>f y1 y2 y3
theorem yf' {zz f} {P:Prop} (h:v50 zz f=true) (k:∀x ss rs w1,zz=.If x ss rs w1->f x ss rs=true->P):P:=by
 obtain⟨y1,y2,y3,y4,e0,h⟩:=n1' h
 exact k y1 y2 y3 y4 (by rw[e0]) h
def v51 (zz:Stmt) (f:Expr->List Stmt->Bool):Bool:=iT' zz fun y1 y2 y3 y4=>bh' y3 (f y1 y2)
theorem yg' {zz f} {P:Prop} (h:v51 zz f=true) (k:∀x ss w1,zz=.While x ss [] w1->f x ss=true->P):P:=by
 obtain⟨y1,y2,y3,y4,e0,h⟩:=h0' h
 obtain⟨e1,h⟩:=ao' h
 exact k y1 y2 y4 (by rw[e0,e1]) h
def v52 (zz:Stmt) (f:Expr->Expr->List Stmt->Bool):Bool:=pq' zz fun y1 y2 y3 y4 y5=>bh' y4 (f y1 y2 y3)
theorem yh' {zz f} {P:Prop} (h:v52 zz f=true) (k:∀tg iter ss w1,zz=.For tg iter ss [] w1->f tg iter ss=true->P):P:=by
 obtain⟨y1,y2,y3,y4,y5,e0,h⟩:=lV' h
 obtain⟨e1,h⟩:=ao' h
 exact k y1 y2 y3 y5 (by rw[e0,e1]) h
def v56 (zz:List Stmt) (f:Bool):Bool:=bh' zz (f)
theorem yi' {zz f} {P:Prop} (h:v56 zz f=true) (k:zz=[]->f=true->P):P:=by
 obtain⟨e0,h⟩:=ao' h
 exact k (by rw[e0]) h
def v57 (zz:List Stmt) (f:Stmt->List Stmt->Bool):Bool:=aG' zz fun y1 y2=>f y1 y2
theorem yj' {zz f} {P:Prop} (h:v57 zz f=true) (k:∀x xs,zz=(x :: xs)->f x xs=true->P):P:=by
 obtain⟨y1,y2,e0,h⟩:=ak' h
 exact k y1 y2 (by rw[e0]) h
mutual
def mE (N B:List Str) (sc:Scope):Ce->Expr->Bool
 | .var i,e=>v1 e fun x=>ev' N i x&&vis sc x
 | .int n,e=>v2 e fun m=>decide (n=m)
 | .bl b,e=>v3 e fun c=>decide (b=c)
 | .non,e=>v4 e (true)
 | .str x,e=>v5 e fun y=>decide (x=y)
 | .ty n,e=>v1 e fun x=>decide (x=Str.ofString n)&&glb sc x&&gy'.contains n&&decide (x∈B)
 | .bin op a b,e=>v6 e fun ea op' eb=>decide (op=op')&&mE N B sc a ea&&mE N B sc b eb
 | .neg a,e=>v7 e fun ea=>mE N B sc a ea
 | .not a,e=>v8 e fun ea=>mE N B sc a ea
 | .and a b,e=>xR' e fun x y=>mE N B sc a x&&mE N B sc b y
 | .or a b,e=>vOr e fun x y=>mE N B sc a x&&mE N B sc b y
 | .cmp op a b,e=>v9 e fun ea op' eb=>decide (op=op')&&mE N B sc a ea&&mE N B sc b eb&&a7' eb
 | .ife q a b,e=>v11 e fun eq ea eb=>mQ N B sc q eq&&mE N B sc a ea&&mE N B sc b eb
 | .tup es,e=>v12 e fun xs=>mA N B sc es xs
 | .lst es,e=>v13 e fun xs=>mA N B sc es xs
 | .idx a b,e=>v14 e fun ea eb=>mE N B sc a ea&&mE N B sc b eb&&dW' eb
 | .cut a lo hi,e=>v15 e fun ea l h=>mE N B sc a ea&&mO N B sc lo l&&mO N B sc hi h
 | .call f es,e=>v16 e fun x e r=>decide (x=f)&&glb sc x&&mA N B sc es (e :: r)&&!(x == ("__debug__":Str))&&!(hat B)&&!(tld B&&decide (n0' x∈B))
 | .blt f es,e=>v16 e fun x e r=>decide (x=eu' f)&&glb sc x&&mA N B sc es (e :: r)&&decide (x∈B)&&(!(hat B) || decide (f=.isinstance))
 | .met m o es,e=>v17 e fun eo nm apos args pos=>decide (nm=lI' m)&&mE N B sc o eo&&lJ' eo&&(apos.endLine == pos.line)&&mA N B sc es args&&decide (args.length<28)
 | .din neg a b,e=>v9 e fun ea op' eb=>decide (op'=if neg then .NotIn else .In)&&mE N B sc a ea&&mE N B sc b eb&&a7' eb
 | .dgt a b,e=>v20 e fun eo nm apos y pos=>decide (nm="get")&&mE N B sc a eo&&lJ' eo&&(apos.endLine == pos.line)&&mE N B sc b y&&aS' y
 | .xat i f,e=>vXa e fun x g=>ev' N i x&&vis sc x&&decide (g=f)
 | .cls c,e=>v1 e fun x=>decide (x=c)&&glb sc x&&!(x == ("__debug__":Str))
 | .comp elt own t it q .nil,e=>v26 e fun ee tg iter ifs a scope=>!(hat B)&&kk' N sc scope own&&mE N ("~" :: B) scope elt ee&&fH' own t&&decide (a=0)&&mI N B sc it iter&&gz' it tg&&a7' iter&&mT N ("~" :: B) scope t tg&&mQo N ("~" :: B) scope q ifs
 | .comp elt own t it q (.cons ws t2 it2 q2 .nil),e=>v27 e fun ee tg iter ifs a tg2 iter2 ifs2 a2 scope=>!(hat B)&&kk' N sc scope own&&mE N ("~" :: B) scope elt ee&&fH' own t&&decide (a=0)&&mI N B sc it iter&&gz' it tg&&a7' iter&&mT N ("~" :: B) scope t tg&&mQo N ("~" :: B) scope q ifs&&
    decide (a2=0)&&mI N ("~" :: B) scope it2 iter2&&gz' it2 tg2&&a7' iter2&&mT N ("~" :: B) scope t2 tg2&&mQo N ("~" :: B) scope q2 ifs2&&fH' ws t2&&ws.all (fun j=>decide (j∈own))
 | .comp elt own t it q (.cons ws t2 it2 q2 (.cons ws3 t3 it3 q3 .nil)),e=>v28 e fun ee tg iter ifs a tg2 iter2 ifs2 a2 tg3 iter3 ifs3 a3 scope=>!(hat B)&&kk' N sc scope own&&mE N ("~" :: B) scope elt ee&&fH' own t&&decide (a=0)&&mI N B sc it iter&&gz' it tg&&a7' iter&&mT N ("~" :: B) scope t tg&&mQo N ("~" :: B) scope q ifs&&
    decide (a2=0)&&mI N ("~" :: B) scope it2 iter2&&gz' it2 tg2&&a7' iter2&&mT N ("~" :: B) scope t2 tg2&&mQo N ("~" :: B) scope q2 ifs2&&fH' ws t2&&ws.all (fun j=>decide (j∈own))&&
    decide (a3=0)&&mI N ("~" :: B) scope it3 iter3&&gz' it3 tg3&&a7' iter3&&mT N ("~" :: B) scope t3 tg3&&mQo N ("~" :: B) scope q3 ifs3&&fH' ws3 t3&&ws3.all (fun j=>decide (j∈ws))
 | .comp _ _ _ _ _ (.cons _ _ _ _ (.cons _ _ _ _ (.cons _ _ _ _ _))),_=>false
def mA (N B:List Str) (sc:Scope):Ces->List Expr->Bool
 | .nil,es=>v29 es (true)
 | .cons e r,es=>v30 es fun x xs=>mE N B sc e x&&aS' x&&mA N B sc r xs
def mQ (N B:List Str) (sc:Scope):Cq->Expr->Bool
 | .val e,x=>mE N B sc e x&&pk' x
 | .not q,x=>v8 x fun y=>mQ N B sc q y
 | .and a b,e=>xR' e fun x y=>mQ N B sc a x&&mQ N B sc b y
 | .or a b,e=>vOr e fun x y=>mQ N B sc a x&&mQ N B sc b y
 | .cmp op a b,e=>v9 e fun ea op' eb=>decide (op=op')&&mE N B sc a ea&&mE N B sc b eb&&a7' eb
 | .din neg a b,e=>v9 e fun ea op' eb=>decide (op'=if neg then .NotIn else .In)&&mE N B sc a ea&&mE N B sc b eb&&a7' eb
def mQo (N B:List Str) (sc:Scope):Cqo->List Expr->Bool
 | .none,es=>v29 es (true)
 | .some q,es=>v31 es fun e=>mQ N B sc q e
def mO (N B:List Str) (sc:Scope):Co->Option Expr->Bool
 | .none,x=>v32 x (true)
 | .some e,x=>v33 x fun y=>mE N B sc e y
def mI (N B:List Str) (sc:Scope):Ci->Expr->Bool
 | .val e,x=>mE N B sc e x
 | .range1 a,x=>v23 x fun n y=>decide (n="range")&&glb sc n&&decide (n∈B)&&mE N B sc a y&&aS' y
 | .range2 a b,x=>v34 x fun n y z=>decide (n="range")&&glb sc n&&decide (n∈B)&&mE N B sc a y&&aS' y&&mE N B sc b z&&aS' z
 | .enum a,x=>v23 x fun n y=>decide (n="enumerate")&&glb sc n&&decide (n∈B)&&mE N B sc a y&&aS' y
 | .range3 a b c,x=>v35 x fun n y z u=>decide (n="range")&&glb sc n&&decide (n∈B)&&mE N B sc a y&&aS' y&&mE N B sc b z&&aS' z&&mE N B sc c u&&aS' u
 | .rev a,x=>v23 x fun n y=>decide (n="reversed")&&glb sc n&&decide (n∈B)&&mE N B sc a y&&aS' y
def mT (N B:List Str) (sc:Scope):Ct->Expr->Bool
 | .name i,e=>v1 e fun x=>ev' N i x&&locb sc x
 | .tup ts,e=>v12 e fun es=>mTs N B sc ts es&&!(hat B)
 | .sub o i,e=>v14 e fun eo ei=>mE N B sc o eo&&mE N B sc i ei&&dW' ei
def mTs (N B:List Str) (sc:Scope):Cts->List Expr->Bool
 | .nil,es=>v29 es (true)
 | .cons t r,es=>v30 es fun x xs=>mT N B sc t x&&aS' x&&mTs N B sc r xs
end
def h2':Ce->Bool
 |_=>false
mutual
def mS (N B:List Str) (sc:Scope):Cs->Stmt->Bool
 | .expr e,s=>v36 s fun x=>mE N B sc e x&&(match e with | .comp ..=>false|_=>true)&&!h2' e
 | .ret e,s=>v37 s fun x=>mE N B sc e x
 | .asg t e,s=>v39 s fun tg x=>mE N B sc e x&&!h2' e&&mT N B sc t tg&&aS' tg&&(match tg,x with
   | .Tuple ..,.Tuple vs _ _=>vs.all (foldedForSure 8)
   | .Tuple ..,.ListComp ..=>false
   |_,_=>true)
 | .setc2 i elt own t it q ws t2 it2 q2,s=>v41 s fun y py ee tg iter ifs a tg2 iter2 ifs2 a2 scope=>!(hat B)&&mT N B sc (.name i) (.Name y py)&&kk' N sc scope own&&mE N ("~" :: B) scope elt ee&&fH' own t&&decide (a=0)&&mI N B sc it iter&&gz' it tg&&a7' iter&&mT N ("~" :: B) scope t tg&&mQo N ("~" :: B) scope q ifs&&
    decide (a2=0)&&mI N ("~" :: B) scope it2 iter2&&gz' it2 tg2&&a7' iter2&&mT N ("~" :: B) scope t2 tg2&&mQo N ("~" :: B) scope q2 ifs2&&fH' ws t2&&ws.all (fun j=>decide (j∈own))
 | .dctc _ i k v own t it q,s=>v42 s fun y py ke ve tg iter ifs a scope=>!(hat B)&&mT N B sc (.name i) (.Name y py)&&kk' N sc scope own&&mE N ("~" :: B) scope k ke&&mE N ("~" :: B) scope v ve&&fH' own t&&decide (a=0)&&mI N B sc it iter&&gz' it tg&&a7' iter&&mT N ("~" :: B) scope t tg&&mQo N ("~" :: B) scope q ifs
 | .rsi nm a,s=>zj' s fun x y=>decide (x=nm)&&glb sc x&&!(x == ("__debug__":Str))&&!(tld B)&&!(pct B)&&mE N B sc a y&&aS' y
 | .try_ b c i su,s=>v46 s fun ss x n t ts=>decide (x=c)&&glb sc x&&!(x == ("__debug__":Str))&&ev' N i n&&decide (sc.names.lookup n=some .local)&&!(tld B)&&!(hat B)&&mSs N ("%" :: B) sc b ss&&mSs N ("~" :: "^" :: B) sc su (t :: ts)
 | .aug i sub e,s=>v49 s fun x op ee=>ev' N i x&&locb sc x&&mE N B sc e ee&&decide (op=if sub then .Sub else .Add)
 | .ite q a b,s=>v50 s fun x ss rs=>mQ N B sc q x&&mSs N B sc a ss&&mSs N B sc b rs
 | .whl q b,s=>v51 s fun x ss=>mQ N B sc q x&&mSs N B sc b ss
 | .for_ t it b,s=>v52 s fun tg iter ss=>mI N B sc it iter&&gz' it tg&&a7' iter&&mT N B sc t tg&&mSs N B sc b ss&&!(hat B)
def mSs (N B:List Str) (sc:Scope):Css->List Stmt->Bool
 | .nil,ss=>v56 ss (true)
 | .cons s r,ss=>v57 ss fun x xs=>mS N B sc s x&&mSs N B sc r xs
end
def rK' (CX:CXT) (X:Cx) (xk:L2.St->XK):Prop:=∀(pins:List (Addr×Obj)) (σ:L2.St) (H:Hp) (s:Shared) (e:Value) (s':Shared),Inv X pins σ H s->CX X.stack H s (xk σ) e s'->X.xe e s'
theorem iU' {X:Cx} {xk:L2.St->XK}:rK' CX0 X xk:=fun _ _ _ _ _ _ _ h=>h.elim
structure Rok (C:Rc) (B:List Str) (X:Cx) (sc:Scope):Prop where
 hN:X.N=C.N
 nd:C.N.Nodup
 hK:X.K=C.K
 own:PassesOwn (model X.prog X.w) X.A X.env X.xe
 calm:hat B=false->X.calm=true
 hu:X.A.units+64<cLine
 gd:X.A.guards=some []
 loc:∀x,sc.names.lookup x=some .local->X.env.scope.names.lookup x=some .local
 cel:∀x,sc.names.lookup x=some .cell->X.env.scope.names.lookup x=some .cell/\X.fn x=true
 fre:∀x,sc.names.lookup x=some .free->X.env.scope.names.lookup x=some .cell\/X.env.scope.names.lookup x=some .free
 glo:∀x,sc.names.lookup x=some .globalImplicit->X.env.kindOf x=some .globalImplicit
 fn:∀x sp,C.fs x=some sp->hat B=false->(tld B=true->n0' x∉B)->∃f fd ps k CX,FnOk X.prog X.w X.K X.mg X.base CX k f fd ps sp/\Room k X.A/\X.mg x=some (.ref f)/\W.keepIn X.K (.ref f)=true/\cq' X.K fd ps []/\(CX=CX0\/CX=CX1 X.prog X.w X.mg/\n0' x∈B)/\rK' CX X C.xk
 blt:∀x∈B,X.mg x=none
 mrk:X.mg "~"=none/\X.mg "^"=none/\X.mg "%"=none
 cls:∀c Ca,C.cl c=some Ca->X.mg c=some (.ref Ca)/\W.nsIn X.K mainGlobals c=some (some (.ref Ca))
 fx:tld B=false->FnCx X
 nohat:tld B=false->hat B=false
 xr:tld B=false->pct B=false->∀nm Ca pins σ H s e t dx,C.cl nm=some Ca->Inv X pins σ H s->H e=none->X.s₀.heap.get? e=none->(∀p∈X.pn++pins,p.1≠e)->s.heap.get? e=some (exN Ca dx t)->C.xk σ (.str nm 0) dx H->X.xe (.ref e) s
 ini:tld B=false->pct B=false->∀nm f Ca,C.cl nm=some Ca->C.ini nm=some f->z5' X Ca f
theorem Rok.hu1 {C:Rc} {B:List Str} {X:Cx} {sc:Scope} (R:Rok C B X sc):X.A.units+1<cLine:=by have:=R.hu;omega
section
variable {C:Rc} {B:List Str} {X:Cx} {sc:Scope}
set_option tactic.hygienic true in
theorem Rok.vis (R:Rok C B X sc) {x:Str} (h:R3.vis sc x=true):Vis X.env.scope x:=by
 unfold R3.vis at h
 split at h
 .rename_i e;exact .inl (R.loc x e)
 .rename_i e;exact .inr (.inl (R.cel x e).1)
 .rename_i e
  rcases R.fre x e with q|q
  .exact .inr (.inl q)
  .exact .inr (.inr q)
 .cases h
set_option tactic.hygienic true in
theorem Rok.locb (R:Rok C B X sc) {x:Str} (h:R3.locb sc x=true):Loc X.env.scope x/\(X.fn x=true\/X.env.scope.names.lookup x=some .local):=by
 unfold R3.locb at h
 split at h
 .rename_i e;exact⟨.inl (R.loc x e),.inr (R.loc x e)⟩
 .rename_i e;exact⟨.inr (R.cel x e).1,.inl (R.cel x e).2⟩
 .cases h
theorem Rok.glb (R:Rok C B X sc) {x:Str} (h:R3.glb sc x=true):Gl X x:=R.glo x (of_decide_eq_true h)
theorem bA' {N:List Str} {i:Nat} {x:Str} (h:ev' N i x=true):N[i]?=some x/\(x == ("__debug__":Str))=false/\(x == ("__classdict__":Str))=false:=by
 unfold ev' at h
 simp only[af,decide_eq_true_eq,aL]at h
 exact⟨h.1.1,h.1.2,h.2⟩
theorem am' {e:Expr} {es:List Expr} {env:Env} (h:aS' e=true):starEach (e :: es) env=(false,eval e env) :: starEach es env:=by
 cases e<;>first|rfl|cases h
theorem fK' {N B:List Str} {sc:Scope} {env:Env} {pos:Pos}:∀{es:Ces} {xs:List Expr},mA N B sc es xs=true->(backTo pos (starEach xs env)).any (·.1)=false
 | .nil,xs,h=>by
  refine lW' h fun e0 g=>?_
  clear h
  subst e0
  revert g
  intro h
  rfl
 | .cons e r,xs,h=>by
  refine n2' h fun x xs e0 g=>?_
  clear h
  subst e0
  revert g
  intro h
  simp only[af]at h
  rw[am' h.1.2]
  have ih:=fK' (env:=env) (pos:=pos) (es:=r) h.2
  exact ih
theorem a0' {e:Expr} {env:Env} (h:a7' e=true) (x:Value):foldedSetIterable e env x=pure x:=by
 cases e<;>first|rfl|cases h
theorem cE' {op:CmpOp} {e:Expr} (h:a7' e=true):behindInMarks op e=false:=by
 cases e<;>first|rfl|cases h
theorem n3' {e:Expr} (h:dW' e=true):kG' e:=by
 intro o i
 cases e<;>first|rfl|cases h
theorem h4' {e:Expr} {f:Str} {env:Env} {w:Sem Value} (h:lJ' e=true):attributeBase e f env w=w:=by
 cases e with
 |Call g args kw pos=>
  cases args with
  |nil=>cases h
  |cons a r=>cases g<;>rfl
 |_=>rfl
theorem lX' {e:Expr} {env:Env} (h:pk' e=true) (w:Sem Value):isTrue e env w=(do let v <- w;standAt e.pos;holding [v] (truthy v)):=by
 cases e with
 |UnaryOp op a p=>cases op<;>first|rfl|cases h
 |_=>first|rfl|cases h
theorem OpR.imp {f:Value->Value->Sem Value} {r r':R2} (h:OpR X f r) (i:∀x y H Q,r' x y H Q->r x y H Q):OpR X f r':=fun pins s σ H x y v u Q I rx ry q=>h pins s σ H x y v u Q I rx ry (i _ _ _ _ q)
theorem a8'.imp {f:Value} {r r':List V->Hp->VK->Prop} (h:a8' X f r) (i:∀xs H Q,r' xs H Q->r xs H Q):a8' X f r':=fun pins s σ H xs us Q I rv q=>h pins s σ H xs us Q I rv (i _ _ _ q)
theorem ixM:IxR X (nX' X.K):=by
 intro value slice pins s σ H x y v u Q I rx ry q hp
 refine tS' value slice pins s σ H x y v u Q I rx ry ?_ hp
 unfold nX' at q
 split at q
 .obtain⟨z,c,hc,q⟩:=q
  exact .inr (.inr ⟨_,_,c,rfl,rfl,z,hc,q⟩)
 .rcases q with q|q
  .exact .inl q
  .exact .inr (.inl q)
theorem uQ' {CX:CXT} {k:Nat} {f:Addr} {fd:FuncData} {ps:List Str} {sp:Sp} {dvs:List V} {ds:List Value} {E:XK} {pins:List (Addr×Obj)} {σ:L2.St} {H:Hp} {s:Shared} {Q:VK} {us:List Value} {vs:List V} (F:FnOk X.prog X.w X.K X.mg X.base CX k f fd ps sp) (hr:Room k X.A) (hb:cq' X.K fd ps ds) (hd:aL' dvs ds)
  (hx:∀e s',CX X.stack H s E e s'->X.xe e s') (I:Inv X pins σ H s) (r:aL' vs us) (h:sp (vs++dvs) H Q E):wpAny (model X.prog X.w) X.A (call (.ref f) us) (EP X pins σ Q) X.xe s:=by
 have r2:=r.append hd
 have hl:(us++ds).length=ps.length:=r2.length ▸ F.len _ _ _ _ h
 have go:=F.run X.A X.stack s H ⟨us,[]⟩ (us++ds) (vs++dvs) Q E hr I.env0 (hb s us I.kIn hl) r2 h
 refine wpAny_call (codeAny_mono go fun r s' hq=>?_)
 match r,hq with
 | .error e,hq=>exact hx e s' hq
 | .ok (.ret u),hq=>exact I.after hq
theorem n4' {CX:CXT} {k:Nat} {f:Addr} {fd:FuncData} {ps:List Str} {sp:Sp} {dvs:List V} {ds:List Value} {xk:L2.St->XK} {x:Str} {p pos:Pos} {e:Expr} {es:List Expr} {t:TA} (F:FnOk X.prog X.w X.K X.mg X.base CX k f fd ps sp) (hr:Room k X.A) (hg:Gl X x) (hm:X.mg x=some (.ref f)) (hk:W.keepIn X.K (.ref f)=true) (hb:cq' X.K fd ps ds) (hd:aL' dvs ds) (hx:rK' CX X xk)
  (ha:PA X (e :: es) t) (hdb:(x == ("__debug__":Str))=false) (he:starEach (e :: es) X.env=(false,eval e X.env) :: starEach es X.env) (hpl:(backTo pos (starEach es X.env)).any (·.1)=false):
  PE X (.Call (.Name x p) (e :: es) [] pos) (fun σ H Q=>nq' sp dvs (xk σ) t σ H Q):=by
 intro pins s σ H Q I h
 refine wpAny_Call_Name_kw (fn' I hg hm ?_ hdb)
 exact W.callWith_K (h₀:=X.base) I.ok.mod.kin hk (thn (ha pos pins s σ H _ I h) fun us s1 ⟨vs,H1,I1,r,q⟩=>⟨I1.kIn,uQ' F hr hb hd (fun e s' c=>hx pins σ H1 s1 e s' I1 c) I1 r q⟩) he hpl
theorem rL' {a:Int} (h:a.natAbs<2 ^ 250*2 ^ 250*2 ^ 250):(Builtin.Int.intBits a:Int)<=750:=by
 rw[<- Nat.pow_add,<- Nat.pow_add]at h
 unfold Builtin.Int.intBits
 by_cases h0:a.natAbs=0
 .rw[if_pos (by simpa using h0)];decide
 .rw[if_neg (by simpa using h0)]
  have:=(Nat.log2_lt h0).mpr h
  omega
theorem rM' {X:Cx}:OpR X (binaryOp .LShift) (rI xQ' fun i j=>.int (i*2 ^ j.toNat)):=opI fun _ _ _ _ _ _ _ hc q=>lshift_int hc.1 (by have:=rL' hc.2.2;have:=hc.2.1;omega) q
theorem uR' (op:Operator):OpR X (binaryOp op) (eN' X.K op):=by
 cases op with
 |Add=>
  refine OpR.imp ((tA'.or jH').or (tV'.or (q8'.or nK'))) fun x y H Q q=>?_
  unfold eN' at q
  dsimp only at q
  split at q
  .exact .inl (.inl ⟨_,_,rfl,rfl,q⟩)
  .exact .inl (.inr ⟨_,_,rfl,rfl,q.1,q.2⟩)
  .exact .inr q
 |Sub=>exact tC'
 |Mult=>
  refine OpR.imp (rm'.or (jP'.or tW')) fun x y H Q q=>?_
  unfold eN' at q
  dsimp only at q
  split at q
  .refine .inl ⟨_,_,rfl,rfl,?_,q.2⟩
   rcases q.1 with h|h|h
   .exact wO'.ok (.inl h)
   .exact wO'.ok (.inr h)
   .exact h
  .exact .inr (.inl ⟨_,_,rfl,rfl,q.1,q.2.1,q.2.2.1,q.2.2.2⟩)
  .exact .inr (.inr q)
 |Mod=>exact tD'
 |FloorDiv=>
  refine OpR.imp (qU'.or nF') fun x y H Q q=>?_
  obtain⟨i,j,h1,h2,⟨h3,h4⟩,q⟩:=q
  rcases h4 with h4|h4
  .exact .inl ⟨i,j,h1,h2,⟨h3,h4⟩,q⟩
  .exact .inr ⟨i,j,h1,h2,⟨h3,h4⟩,q⟩
 |Pow=>exact tE'
 |LShift=>exact rM'
 |RShift=>exact tF'
 |MatMult=>exact fun _ _ _ _ _ _ _ _ _ _ _ _ h=>h.elim
 |Div=>exact fun _ _ _ _ _ _ _ _ _ _ _ _ h=>h.elim
 |BitOr=>exact fun _ _ _ _ _ _ _ _ _ _ _ _ h=>h.elim
 |BitXor=>exact fun _ _ _ _ _ _ _ _ _ _ _ _ h=>h.elim
 |BitAnd=>exact rq'
theorem pr' (hu':X.A.units+64<cLine) (op:CmpOp):OpR X (compareOp op) (cL' X.K op):=by
 cases op with
 |Eq=>
  refine OpR.imp (xs'.or ((t3' (by omega)).or (ul' hu'))) fun x y H Q q=>?_
  unfold cL' at q
  dsimp only at q
  split at q
  .exact .inr q
  .exact .inl q
 |NotEq=>
  refine OpR.imp (xt'.or ((t4' (by omega)).or (um' hu'))) fun x y H Q q=>?_
  unfold cL' at q
  dsimp only at q
  split at q
  .exact .inr q
  .exact .inl q
 |Lt=>exact xu'
 |LtE=>exact xv'
 |Gt=>
  refine OpR.imp (xw'.or uh') fun x y H Q q=>?_
  unfold cL' at q
  dsimp only at q
  split at q
  .exact .inr q
  .exact .inl q
 |GtE=>exact xx'
 |Is=>
  refine OpR.imp (tI'.or t6') fun x y H Q q=>?_
  unfold cL' at q
  dsimp only at q
  split at q
  .exact .inr q
  .exact .inl q
 |IsNot=>
  refine OpR.imp (qW'.or kY') fun x y H Q q=>?_
  unfold cL' at q
  dsimp only at q
  split at q
  .exact .inr q
  .exact .inl q
 |In=>
  refine OpR.imp (uc'.or kH') fun x y H Q q=>?_
  unfold cL' at q
  dsimp only at q
  split at q
  .exact .inl q
  .exact .inr q
 |NotIn=>
  refine OpR.imp (k3'.or gc') fun x y H Q q=>?_
  unfold cL' at q
  dsimp only at q
  split at q
  .exact .inl q
  .exact .inr q
theorem yk':SlR X (rSl X.K):=by
 intro pins s σ H x v vl vu lo hi sl Q I rx hs pl pu q
 refine(ra'.or (tO'.or (nR'.or t2'))) pins s σ H x v vl vu lo hi sl Q I rx hs pl pu ?_
 unfold rSl at q
 split at q
 .exact .inr (.inr (.inr ⟨_,rfl,q.1,q.2⟩))
 .rcases q with q|q|q
  .exact .inl q
  .exact .inr (.inl q)
  .exact .inr (.inr (.inl q))
inductive BltIs:Bf->Prop where
 |fn (f:Bf) (id:String) (hv:bootBuiltins (eu' f)=some (.builtin id)) (h:∀X:Cx,(X.calm=true\/f=.isinstance)->a8' X (.builtin id) (dc' X.K f)):BltIs f
 |ty (f:Bf) (T:String) (hv:bootBuiltins (eu' f)=some (.type T)) (h:∀X:Cx,(X.calm=true\/f=.isinstance)->a8' X (.type T) (dc' X.K f)):BltIs f
theorem uS' (f:Bf):BltIs f:=by
 cases f with
 |len=>exact .fn _ "len" (by decide +kernel) fun X _=>np'
 |abs=>exact .fn _ "abs" (by decide +kernel) fun X _=>no'
 |int=>
  refine .ty _ "int" (by decide +kernel) fun X _=>a8'.imp lj' fun xs H Q q=>?_
  unfold dc' at q
  dsimp only at q
  split at q
  .exact .inl (.inl (.inl ⟨_,rfl,q⟩))
  .exact .inl (.inl (.inr ⟨_,rfl,q⟩))
  .obtain⟨n,h1,h2,q⟩:=q
   exact .inl (.inr ⟨_,n,rfl,h1,h2,q⟩)
  .obtain⟨rfl,n,h1,q⟩:=q
   exact .inr ⟨_,n,rfl,h1,q⟩
  .exact q.elim
 |str=>exact .ty _ "str" (by decide +kernel) fun X _=>f4'
 |set=>exact .ty _ "set" (by decide +kernel) fun X c0=>have c:X.calm=true:=c0.resolve_right (fun z=>by cases z);lo' c
 |isinstance=>exact .fn _ "isinstance" (by decide +kernel) fun X _=>nA'.or nI'
 |max=>
  refine .fn _ "max" (by decide +kernel) fun X c0=>have c:X.calm=true:=c0.resolve_right (fun z=>by cases z);a8'.imp ((kx' c).or (kT' c)) fun xs H Q q=>?_
  unfold dc' at q
  dsimp only at q
  split at q
  .exact .inl ⟨_,_,rfl,q⟩
  .exact .inr q
 |min=>
  refine .fn _ "min" (by decide +kernel) fun X c0=>have c:X.calm=true:=c0.resolve_right (fun z=>by cases z);a8'.imp ((ky' c).or (kU' c)) fun xs H Q q=>?_
  unfold dc' at q
  dsimp only at q
  split at q
  .exact .inl ⟨_,_,rfl,q⟩
  .exact .inr q
 |list=>exact .ty _ "list" (by decide +kernel) fun X c0=>have c:X.calm=true:=c0.resolve_right (fun z=>by cases z);gd'.or (nD' c)
 |range=>exact .ty _ "range" (by decide +kernel) fun X _=>nC'
 |tuple=>exact .ty _ "tuple" (by decide +kernel) fun X _=>ft'
structure MetIs (m:Mf) (id:String):Prop where
 pa:PlainAttrs (fG' m)
 slot:Slot (fG' m) (lI' m) id
 ty:typeOf (.builtin id)=pure (.type "method_descriptor")
 h:∀X:Cx,MtR X id (j0' X.K m)
theorem uT' (m:Mf):∃id,MetIs m id:=by
 cases m with
 |append=>exact⟨_,F.plainAttrs_list,F.slot_list_append,F.type_list_append,fun _=>kJ'⟩
 |extend=>exact⟨_,F.plainAttrs_list,F.slot_list_extend,F.type_list_extend,fun _=>kL'⟩
 |join=>exact⟨_,F.plainAttrs_str,F.slot_str_join,F.type_str_join,fun _=>rk'⟩
 |insert=>exact⟨_,F.plainAttrs_list,F.slot_list_insert,F.type_list_insert,fun _=>kW'⟩
 |indexL=>exact⟨_,F.plainAttrs_list,F.slot_list_index,F.type_list_index,fun _=>k5'⟩
 |bitlen=>exact⟨_,F.plainAttrs_int,F.slot_int_bit_length,F.type_int_bit_length,fun _=>k7'⟩
end
theorem cU' {N:List Str} {sc scope:Scope} {own:List Nat} (h:kk' N sc scope own=true):scope.kind=.function/\(∀x∈scope.names,x.2=.local->scope.names.lookup x.1=some .local)/\(∀n,(n,NameKind.cell)∈scope.names->scope.names.lookup n=some .cell)/\
  (∀n,(n,NameKind.free)∈scope.names->sc.names.lookup n=some .cell\/sc.names.lookup n=some .free)/\∀(i:Nat) (x:Str),N[i]?=some x->(scope.names.lookup x=some .local\/scope.names.lookup x=some .cell)->i∈own:=by
 unfold kk' at h
 simp only[af,decide_eq_true_eq,bJ,Bool.or_eq_true]at h
 obtain⟨⟨hk,hn⟩,ho⟩:=h
 refine⟨hk,fun x hx e=>?_,fun n hn'=>?_,fun n hn'=>?_,fun i x e hx=>?_⟩
 .exact(hn x hx).1.1.resolve_left fun q=>q e
 .exact(hn _ hn').1.2.resolve_left fun q=>q rfl
 .rcases(hn _ hn').2 with(q|q)|q
  .exact absurd rfl q
  .exact .inl q
  .exact .inr q
 .have:=ho i (bM.mpr (aC.mp e).1)
  rw[e]at this
  simp only[Bool.or_eq_true,af,decide_eq_true_eq]at this
  rcases this with⟨q1,q2⟩|q
  .rcases hx with z|z
   .exact absurd z q1
   .exact absurd z q2
  .exact q
theorem Rok.compSc {C:Rc} {B:List Str} {X:Cx} {sc scope:Scope} {own:List Nat} (R:Rok C B X sc) (h:kk' C.N sc scope own=true):CompSc X scope:=by
 obtain⟨h1,h2,h3,h4,h5⟩:=cU' h
 refine⟨h1,h2,h3,fun n hn=>?_⟩
 rcases h4 n hn with q|q
 .exact .inl (R.cel n q).1
 .exact R.fre n q
theorem cF' {B:List Str}:tld ("~" :: B)=true:=decide_eq_true (aw)
theorem Rok.comp {C:Rc} {B:List Str} {X:Cx} {sc scope:Scope} {own:List Nat} (R:Rok C B X sc) (hh:hat B=false) (h:kk' C.N sc scope own=true) (s0:Shared) (H0:Hp) (ex:List Addr):Rok C ("~" :: B) (X.comp scope s0 H0 ex) scope:=by
 refine⟨R.hN,R.nd,R.hK,PassesOwn.never,fun _=>R.calm hh,R.hu,R.gd,fun x e=>lookup_relabel_local e,fun x e=>⟨?_,?_⟩,fun x e=>?_,fun x e=>?_,fun x sp e _ ht=>?_,fun x hx=>?_,R.mrk,R.cls,(fun z=>by rw[cF']at z;cases z),(fun z=>by rw[cF']at z;cases z),(fun z=>by rw[cF']at z;cases z),(fun z=>by rw[cF']at z;cases z)⟩
 .obtain⟨k',e1,e2⟩:=bI' (env:=X.env) e
  rcases e2 with rfl|⟨q,_⟩
  .exact e1
  .cases q
 .exact W.cellsFrom_some _ _ _ (.inl e)
 .obtain⟨k',e1,e2⟩:=bI' (env:=X.env) e
  rcases e2 with rfl|⟨_,rfl⟩
  .exact .inr e1
  .exact .inl e1
 .obtain⟨k',e1,e2⟩:=bI' (env:=X.env) e
  rcases e2 with rfl|⟨q,_⟩
  .exact e1
  .cases q
 .have hb:n0' x∉B:=fun z=>ht cF' (ar _ z)
  obtain⟨f,fd,ps,k,CX,h1,h2,h3,h4,h5,h6,_⟩:=R.fn x sp e hh fun _=>hb
  rcases h6 with rfl|⟨_,z⟩
  .exact⟨f,fd,ps,k,CX0,h1,h2,h3,h4,h5,.inl rfl,iU'⟩
  .exact absurd z hb
 .rcases aq.mp hx with rfl|hx
  .exact R.mrk.1
  .exact R.blt x hx
mutual
theorem iV' (C:Rc) (own:List Nat):∀(t:Ct),fH' own t=true->∀(x:V) (σ:L2.St) (H:Hp) (Q Q':L2.St->Hp->Prop),tG C t x σ H Q->(∀σ2 H2,Q σ2 H2->Ext own σ σ2->Q' σ2 H2)->tG C t x σ H Q'
 | .name i,h,x,σ,H,Q,Q',q,m=>by
  obtain⟨q1,q2⟩:=kP' (of_decide_eq_true (show decide (i∈own)=true from h)) x σ H Q q
  exact m _ _ q1 q2
 | .tup ts,h,x,σ,H,Q,Q',q,m=>by
  replace h:lK' own ts=true:=h
  obtain⟨a,xs,e,hs,hl,q⟩:=q
  exact⟨a,xs,e,hs,hl,gD' C own ts h xs σ H Q Q' q m⟩
 | .sub _ _,h,_,_,_,_,_,_,_=>ar' h
theorem gD' (C:Rc) (own:List Nat):∀(ts:Cts),lK' own ts=true->∀(xs:List V) (σ:L2.St) (H:Hp) (Q Q':L2.St->Hp->Prop),tGs C ts xs σ H Q->(∀σ2 H2,Q σ2 H2->Ext own σ σ2->Q' σ2 H2)->tGs C ts xs σ H Q'
 | .nil,h,xs,σ,H,Q,Q',q,m=>by
  replace q:xs=[]/\Q σ H:=q
  exact And.intro q.1 (m _ _ q.2 Ext.refl)
 | .cons t r,h,xs,σ,H,Q,Q',q,m=>by
  replace h:=gA' (show(fH' own t&&lK' own r)=true from h)
  replace q:∃v vr,xs=v :: vr/\tG C t v σ H fun σ' H'=>tGs C r vr σ' H' Q:=q
  obtain⟨v,vr,e,q⟩:=q
  show ∃v vr,xs=v :: vr/\tG C t v σ H fun σ' H'=>tGs C r vr σ' H' Q'
  exact⟨v,vr,e,iV' C own t h.1 v σ H _ _ q fun σ2 H2 q2 x2=>gD' C own r h.2 vr σ2 H2 _ _ q2 fun σ3 H3 q3 x3=>m _ _ q3 (x2.trans x3)⟩
end
theorem bZ' {C:Rc} {own:List Nat} {t:Ct} (h:fH' own t=true):td' own (tG C t):=fun x σ H Q q=>iV' C own t h x σ H Q _ q fun _ _ q x=>⟨q,x⟩
theorem cV':∀{ts:Cts} {es:List Expr} {N B:List Str} {sc:Scope} {env:Env},mTs N B sc ts es=true->(assignEach es env).length=nZ' ts/\(assignEach es env).findIdx? (·.1)=none
 | .nil,es,N,B,sc,env,h=>by
  refine lW' h fun e0 g=>?_
  clear h
  subst e0
  revert g
  intro h
  exact⟨rfl,rfl⟩
 | .cons t r,es,N,B,sc,env,h=>by
  refine n2' h fun x xs e0 g=>?_
  clear h
  subst e0
  revert g
  intro h
  simp only[af]at h
  obtain⟨h1,h2⟩:=cV' (env:=env) h.2
  have e:assignEach (x :: xs) env=(false,assign x env) :: assignEach xs env:=by
   have hs:=h.1.2
   cases x<;>first|rfl|cases hs
  rw[e]
  refine⟨by rw[aR,h1];rfl,?_⟩
  rw[List.findIdx?_cons,h2]
  rfl
theorem h5' {x:Expr} {xs:List Expr} {env:Env} (hs:aS' x=true):(assignEach (x :: xs) env).map (·.2)=assign x env :: (assignEach xs env).map (·.2):=by
 cases x<;>first|rfl|cases hs
theorem rN' {o i:Expr} {pos:Pos} {env:Env} (h:dW' i=true) (v:Value):assign (.Subscript o i pos) env v=(do
   let ov <- holding [v] (eval o env)
   let iv <- holding [v,ov] (eval i env)
   standAt pos
   holding [v,ov,iv] (setItem ov iv v)
   release [v,ov,iv] []):=by
 cases i<;>first|rfl|cases h
def n5' (C:Rc) (X:Cx) (e:Expr):Ce->Prop
 | .comp elt own t it q r=>∃tg iter ifs nx scope pos,CompIn X e scope tg iter ifs nx (tG C t) (tQo C q) (tR C r (ei' (tE C elt))) own/\PI X tg iter (tI C it)/\
   eval e X.env=comprehension e scope X.env pos (newList []) false (eval iter X.env)/\(∀u,evalThenUse e X.env u=(do let _ <- comprehension e scope X.env pos (newList []) false (eval iter X.env) (some u)))/\
   ∀y py line,∃b,swapsWith e (some (.Name y py)) line X.env=pure b
 |_=>True
theorem n6' (P w it D env ee tg iter ifs tg2 iter2 ifs2 scope pos):(model P w).den (.compLoop (.ListComp ee [⟨tg,iter,ifs,0⟩,⟨tg2,iter2,ifs2,0⟩] scope pos) 0 it (.ref D) env)=(a5' (.ListComp ee [⟨tg,iter,ifs,0⟩,⟨tg2,iter2,ifs2,0⟩] scope pos) 0 tg iter ifs (aX' (.ListComp ee [⟨tg,iter,ifs,0⟩,⟨tg2,iter2,ifs2,0⟩] scope pos) 0 iter2 (.ref D) env) it (.ref D) env).onRaise (fun x=>do noteFrame x env;theTreesLotGoes x):=by
 show(compTurn _ _ _ _ _).onRaise _=_
 congr 1
 unfold a5' aX'
 simp only[bind_assoc,pure_bind]
 rfl
def uU' (ke ve:Expr) (D:Addr) (env:Env):Sem Unit:=do
 let kv <- eval ke env
 let vv <- holding [kv] (eval ve env)
 match Value.ref D with
 | .ref d=>do
  standAt { ke.pos with endLine:=ve.pos.endLine,endCol:=ve.pos.endCol }
  holding [kv,vv] (dictSet d kv vv)
 |_=>unsupported "internal:dictcomp"
theorem Ac' {N B:List Str} {sc:Scope} {elt:Ce} {own:List Nat} {t:Ct} {it:Ci} {q:Cqo} {e:Expr} (h:mE N B sc (.comp elt own t it q .nil) e=true):∃ee tg iter ifs scope pos,e=.ListComp ee [⟨tg,iter,ifs,0⟩] scope pos/\
  hat B=false/\kk' N sc scope own=true/\mE N ("~" :: B) scope elt ee=true/\fH' own t=true/\mI N B sc it iter=true/\gz' it tg=true/\a7' iter=true/\mT N ("~" :: B) scope t tg=true/\mQo N ("~" :: B) scope q ifs=true:=by
 refine xX' h fun ee tg iter ifs a scope w1 e0 g=>?_
 clear h
 subst e0
 revert g
 intro h
 simp only[af,decide_eq_true_eq,aL]at h
 obtain⟨⟨⟨⟨⟨⟨⟨⟨⟨hh,hsc⟩,helt⟩,hown⟩,rfl⟩,h1⟩,h2⟩,h3⟩,h4⟩,h5⟩:=h
 exact⟨_,_,_,_,_,_,rfl,hh,hsc,helt,hown,h1,h2,h3,h4,h5⟩
theorem Ad' {N B:List Str} {sc:Scope} {elt:Ce} {own:List Nat} {t:Ct} {it:Ci} {q:Cqo} {ws:List Nat} {t2:Ct} {it2:Ci} {q2:Cqo} {e:Expr} (h:mE N B sc (.comp elt own t it q (.cons ws t2 it2 q2 .nil)) e=true):
  ∃ee tg iter ifs tg2 iter2 ifs2 scope pos,e=.ListComp ee [⟨tg,iter,ifs,0⟩,⟨tg2,iter2,ifs2,0⟩] scope pos/\
  hat B=false/\kk' N sc scope own=true/\mE N ("~" :: B) scope elt ee=true/\fH' own t=true/\mI N B sc it iter=true/\gz' it tg=true/\a7' iter=true/\mT N ("~" :: B) scope t tg=true/\mQo N ("~" :: B) scope q ifs=true/\
  mI N ("~" :: B) scope it2 iter2=true/\gz' it2 tg2=true/\a7' iter2=true/\mT N ("~" :: B) scope t2 tg2=true/\mQo N ("~" :: B) scope q2 ifs2=true/\fH' ws t2=true/\∀j∈ws,j∈own:=by
 refine xY' h fun ee tg iter ifs a tg2 iter2 ifs2 a2 scope w1 e0 g=>?_
 clear h
 subst e0
 revert g
 intro h
 simp only[af,decide_eq_true_eq,bJ,aL]at h
 obtain⟨⟨⟨⟨⟨⟨⟨⟨⟨⟨⟨⟨⟨⟨⟨⟨⟨hh,hsc⟩,helt⟩,hown⟩,rfl⟩,h1⟩,h2⟩,h3⟩,h4⟩,h5⟩,rfl⟩,g1⟩,g2⟩,g3⟩,g4⟩,g5⟩,g6⟩,g7⟩:=h
 exact⟨_,_,_,_,_,_,_,_,_,rfl,hh,hsc,helt,hown,h1,h2,h3,h4,h5,g1,g2,g3,g4,g5,g6,g7⟩
theorem lY' (P w it D env ee tg iter ifs tg2 iter2 ifs2 tg3 iter3 ifs3 scope pos):(model P w).den (.compLoop (.ListComp ee [⟨tg,iter,ifs,0⟩,⟨tg2,iter2,ifs2,0⟩,⟨tg3,iter3,ifs3,0⟩] scope pos) 0 it (.ref D) env)=(a5' (.ListComp ee [⟨tg,iter,ifs,0⟩,⟨tg2,iter2,ifs2,0⟩,⟨tg3,iter3,ifs3,0⟩] scope pos) 0 tg iter ifs (aX' (.ListComp ee [⟨tg,iter,ifs,0⟩,⟨tg2,iter2,ifs2,0⟩,⟨tg3,iter3,ifs3,0⟩] scope pos) 0 iter2 (.ref D) env) it (.ref D) env).onRaise (fun x=>do noteFrame x env;theTreesLotGoes x):=by
 show(compTurn _ _ _ _ _).onRaise _=_
 congr 1
 unfold a5' aX'
 simp only[bind_assoc,pure_bind]
 rfl
theorem j6' (P w it D env ee tg iter ifs tg2 iter2 ifs2 tg3 iter3 ifs3 scope pos):(model P w).den (.compLoop (.ListComp ee [⟨tg,iter,ifs,0⟩,⟨tg2,iter2,ifs2,0⟩,⟨tg3,iter3,ifs3,0⟩] scope pos) 1 it (.ref D) env)=(a5' (.ListComp ee [⟨tg,iter,ifs,0⟩,⟨tg2,iter2,ifs2,0⟩,⟨tg3,iter3,ifs3,0⟩] scope pos) 1 tg2 iter2 ifs2 (aX' (.ListComp ee [⟨tg,iter,ifs,0⟩,⟨tg2,iter2,ifs2,0⟩,⟨tg3,iter3,ifs3,0⟩] scope pos) 1 iter3 (.ref D) env) it (.ref D) env).onRaise (fun x=>do noteFrame x env;theTreesLotGoes x):=by
 show(compTurn _ _ _ _ _).onRaise _=_
 congr 1
 unfold a5' aX'
 simp only[bind_assoc,pure_bind]
 rfl
theorem Ae' {N B:List Str} {sc:Scope} {elt:Ce} {own:List Nat} {t:Ct} {it:Ci} {q:Cqo} {ws:List Nat} {t2:Ct} {it2:Ci} {q2:Cqo} {ws3:List Nat} {t3:Ct} {it3:Ci} {q3:Cqo} {e:Expr} (h:mE N B sc (.comp elt own t it q (.cons ws t2 it2 q2 (.cons ws3 t3 it3 q3 .nil))) e=true):
  ∃ee tg iter ifs tg2 iter2 ifs2 tg3 iter3 ifs3 scope pos,e=.ListComp ee [⟨tg,iter,ifs,0⟩,⟨tg2,iter2,ifs2,0⟩,⟨tg3,iter3,ifs3,0⟩] scope pos/\
  hat B=false/\kk' N sc scope own=true/\mE N ("~" :: B) scope elt ee=true/\fH' own t=true/\mI N B sc it iter=true/\gz' it tg=true/\a7' iter=true/\mT N ("~" :: B) scope t tg=true/\mQo N ("~" :: B) scope q ifs=true/\
  (mI N ("~" :: B) scope it2 iter2=true/\gz' it2 tg2=true/\a7' iter2=true/\mT N ("~" :: B) scope t2 tg2=true/\mQo N ("~" :: B) scope q2 ifs2=true/\fH' ws t2=true/\∀j∈ws,j∈own)/\
  mI N ("~" :: B) scope it3 iter3=true/\gz' it3 tg3=true/\a7' iter3=true/\mT N ("~" :: B) scope t3 tg3=true/\mQo N ("~" :: B) scope q3 ifs3=true/\fH' ws3 t3=true/\∀j∈ws3,j∈ws:=by
 refine xZ' h fun ee tg iter ifs a tg2 iter2 ifs2 a2 tg3 iter3 ifs3 a3 scope w1 e0 g=>?_
 clear h
 subst e0
 revert g
 intro h
 simp only[af,decide_eq_true_eq,bJ,aL]at h
 obtain⟨⟨⟨⟨⟨⟨⟨⟨⟨⟨⟨⟨⟨⟨⟨⟨⟨⟨⟨⟨⟨⟨⟨⟨⟨hh,hsc⟩,helt⟩,hown⟩,rfl⟩,h1⟩,h2⟩,h3⟩,h4⟩,h5⟩,rfl⟩,g1⟩,g2⟩,g3⟩,g4⟩,g5⟩,g6⟩,g7⟩,rfl⟩,k1⟩,k2⟩,k3⟩,k4⟩,k5⟩,k6⟩,k7⟩:=h
 exact⟨_,_,_,_,_,_,_,_,_,_,_,_,rfl,hh,hsc,helt,hown,h1,h2,h3,h4,h5,⟨g1,g2,g3,g4,g5,g6,g7⟩,k1,k2,k3,k4,k5,k6,k7⟩
theorem Af' {N B:List Str} {sc:Scope} {elt:Ce} {own:List Nat} {t:Ct} {it:Ci} {q:Cqo} {ws:List Nat} {t2:Ct} {it2:Ci} {q2:Cqo} {ws3:List Nat} {t3:Ct} {it3:Ci} {q3:Cqo} {ws4:List Nat} {t4:Ct} {it4:Ci} {q4:Cqo} {r4:Cc} {e:Expr} (h:mE N B sc (.comp elt own t it q (.cons ws t2 it2 q2 (.cons ws3 t3 it3 q3 (.cons ws4 t4 it4 q4 r4)))) e=true):False:=by
 exact ar' h
set_option maxHeartbeats 4000000
theorem lZ' (P w it D env ee tg iter ifs tg2 iter2 ifs2 scope pos):(model P w).den (.compLoop (.SetComp ee [⟨tg,iter,ifs,0⟩,⟨tg2,iter2,ifs2,0⟩] scope pos) 0 it (.ref D) env)=(a5' (.SetComp ee [⟨tg,iter,ifs,0⟩,⟨tg2,iter2,ifs2,0⟩] scope pos) 0 tg iter ifs (aX' (.SetComp ee [⟨tg,iter,ifs,0⟩,⟨tg2,iter2,ifs2,0⟩] scope pos) 0 iter2 (.ref D) env) it (.ref D) env).onRaise (fun x=>do noteFrame x env;theTreesLotGoes x):=by
 show(compTurn _ _ _ _ _).onRaise _=_
 congr 1
 unfold a5' aX'
 simp only[bind_assoc,pure_bind]
 rfl
mutual
theorem sE0 {C:Rc}:∀(c:Ce) {B:List Str} {X:Cx} {sc:Scope} {e:Expr},Rok C B X sc->mE C.N B sc c e=true->PE X e (tE C c)/\n5' C X e c
 | .var i,B,X,sc,e,R,h=>by
  refine⟨?_,trivial⟩
  refine w3' h fun x w1 e0 g=>?_
  clear h
  subst e0
  revert g
  intro h
  simp only[af]at h
  obtain⟨h1,h2,h3⟩:=bA' h.1
  rw[show tE C (.var i)=(wL' i) from rfl]
  exact f3' (by rw[R.hN];exact h1) (R.vis h.2) h2 h3
 | .int n,B,X,sc,e,R,h=>by
  refine⟨?_,trivial⟩
  refine z6' h fun m w1 w2 e0 g=>?_
  clear h
  subst e0
  revert g
  intro h
  cases of_decide_eq_true h
  rw[show tE C (.int n)=(tC (.int n)) from rfl]
  exact tl'
 | .bl n,B,X,sc,e,R,h=>by
  refine⟨?_,trivial⟩
  refine z7' h fun c w1 w2 e0 g=>?_
  clear h
  subst e0
  revert g
  intro h
  cases of_decide_eq_true h
  rw[show tE C (.bl n)=(tC (.bl n)) from rfl]
  exact xc'
 | .non,B,X,sc,e,R,h=>by
  refine⟨?_,trivial⟩
  refine z8' h fun w1 w2 e0 g=>?_
  clear h
  subst e0
  revert g
  intro h
  rw[show tE C .non=(tC .non) from rfl]
  exact tm'
 | .str n,B,X,sc,e,R,h=>by
  refine⟨?_,trivial⟩
  refine z9' h fun y w1 w2 e0 g=>?_
  clear h
  subst e0
  revert g
  intro h
  cases of_decide_eq_true h
  rw[show tE C (.str n)=(tC (.str n)) from rfl]
  exact tn'
 | .ty n,B,X,sc,e,R,h=>by
  refine⟨?_,trivial⟩
  refine w3' h fun x w1 e0 g=>?_
  clear h
  subst e0
  revert g
  intro h
  simp only[af,decide_eq_true_eq]at h
  obtain⟨⟨⟨rfl,h2⟩,h3⟩,h4⟩:=h
  rw[show tE C (.ty n)=(tC (.ty n)) from rfl]
  have hb:bootBuiltins (Str.ofString n)=some (.type n)/\Str.ofString n≠"__name__"/\(Str.ofString n == ("__debug__":Str))=false:=by
   simp only[gy',List.contains_iff_mem,aq,au,or_false]at h3
   rcases h3 with rfl|rfl|rfl|rfl|rfl|rfl|rfl<;>decide +kernel
  exact qH' (v:=.ty n) (R.glb h2) (R.blt _ h4) hb.1 rfl hb.2.1 hb.2.2
 | .bin op a b,B,X,sc,e,R,h=>by
  refine⟨?_,trivial⟩
  refine Aa' h fun ea op' eb w1 e0 g=>?_
  clear h
  subst e0
  revert g
  intro h
  simp only[af,decide_eq_true_eq]at h
  obtain⟨⟨rfl,h1⟩,h2⟩:=h
  rw[show tE C (.bin op a b)=(tOp (eN' C.K op) (tE C a) (tE C b)) from rfl]
  rw[<- R.hK]
  exact xo' (uR' _) ((sE0 a R h1).1) ((sE0 b R h2).1)
 | .neg a,B,X,sc,e,R,h=>by
  refine⟨?_,trivial⟩
  refine Ab' h fun ea w1 e0 g=>?_
  clear h
  subst e0
  revert g
  intro h
  rw[show tE C (.neg a)=(tUn (rU fun i=>.int (-i)) (tE C a)) from rfl]
  exact xp' tH' ((sE0 a R h).1)
 | .not a,B,X,sc,e,R,h=>by
  refine⟨?_,trivial⟩
  refine zi' h fun ea w1 e0 g=>?_
  clear h
  subst e0
  revert g
  intro h
  rw[show tE C (.not a)=(qJ' (tE C a)) from rfl]
  exact tt' ((sE0 a R h).1)
 | .and a b,B,X,sc,e,R,h=>by
  refine⟨?_,trivial⟩
  replace h:=lL' h
  rcases h with⟨x,y,pos,rfl,h⟩|⟨x,y,z,r,pos,rfl,h⟩
  .simp only[af]at h
   rw[show tE C (.and a b)=(ng' (tE C a) (tE C b)) from rfl]
   exact o4' ((sE0 a R h.1).1) (o3' ((sE0 b R h.2).1))
  .simp only[af]at h
   rw[show tE C (.and a b)=(ng' (tE C a) (tE C b)) from rfl]
   exact o4' ((sE0 a R h.1).1) ((sE0 b R h.2).1)
 | .or a b,B,X,sc,e,R,h=>by
  refine⟨?_,trivial⟩
  replace h:=pl' h
  rcases h with⟨x,y,pos,rfl,h⟩|⟨x,y,z,r,pos,rfl,h⟩
  .simp only[af]at h
   rw[show tE C (.or a b)=(wM' (tE C a) (tE C b)) from rfl]
   exact ts' ((sE0 a R h.1).1) (o3' ((sE0 b R h.2).1))
  .simp only[af]at h
   rw[show tE C (.or a b)=(wM' (tE C a) (tE C b)) from rfl]
   exact ts' ((sE0 a R h.1).1) ((sE0 b R h.2).1)
 | .cmp op a b,B,X,sc,e,R,h=>by
  refine⟨?_,trivial⟩
  refine w4' h fun ea op' eb w1 e0 g=>?_
  clear h
  subst e0
  revert g
  intro h
  simp only[af,decide_eq_true_eq]at h
  obtain⟨⟨⟨rfl,h1⟩,h2⟩,h3⟩:=h
  rw[show tE C (.cmp op a b)=(tOp (cL' C.K op) (tE C a) (tE C b)) from rfl]
  rw[<- R.hK]
  exact qX' (pr' R.hu _) ((sE0 a R h1).1) ((sE0 b R h2).1) (cE' h3)
 | .ife q a b,B,X,sc,e,R,h=>by
  refine⟨?_,trivial⟩
  refine xS' h fun eq ea eb w1 e0 g=>?_
  clear h
  subst e0
  revert g
  intro h
  simp only[af]at h
  rw[show tE C (.ife q a b)=(tIf (tQ C q) (tE C a) (tE C b)) from rfl]
  exact nh' (sQ q R h.1.1).1 ((sE0 a R h.1.2).1) ((sE0 b R h.2).1)
 | .tup es,B,X,sc,e,R,h=>by
  refine⟨?_,trivial⟩
  refine uM' h fun xs w1 w2 e0 g=>?_
  clear h
  subst e0
  revert g
  intro h
  rw[show tE C (.tup es)=(xy' (tA C es)) from rfl]
  exact tL' (sA es R h)
 | .lst es,B,X,sc,e,R,h=>by
  refine⟨?_,trivial⟩
  refine xT' h fun xs w1 e0 g=>?_
  clear h
  subst e0
  revert g
  intro h
  rw[show tE C (.lst es)=(xz' (tA C es)) from rfl]
  exact tM' (sA es R h)
 | .idx a b,B,X,sc,e,R,h=>by
  refine⟨?_,trivial⟩
  refine uN' h fun ea eb w1 e0 g=>?_
  clear h
  subst e0
  revert g
  intro h
  simp only[af]at h
  rw[show tE C (.idx a b)=(tOp (nX' C.K) (tE C a) (tE C b)) from rfl]
  rw[<- R.hK]
  exact xA' ixM ((sE0 a R h.1.1).1) ((sE0 b R h.1.2).1) (n3' h.2)
 | .cut a lo hi,B,X,sc,e,R,h=>by
  refine⟨?_,trivial⟩
  refine xU' h fun ea l h_ w1 w2 e0 g=>?_
  clear h
  subst e0
  revert g
  intro h
  simp only[af]at h
  rw[show tE C (.cut a lo hi)=(tSl (rSl C.K) (tE C a) (tO C lo) (tO C hi)) from rfl]
  rw[<- R.hK]
  exact nu' yk' ((sE0 a R h.1.1).1) (sO lo R h.1.2) (sO hi R h.2)
 | .call f es,B,X,sc,e,R,h=>by
  refine⟨?_,trivial⟩
  refine uO' h fun x w1 e r pos e0 g=>?_
  clear h
  subst e0
  revert g
  intro h
  simp only[af,decide_eq_true_eq,aL]at h
  obtain⟨⟨⟨⟨⟨rfl,h1⟩,h2⟩,h3⟩,hh⟩,h6⟩:=h
  rw[show tE C (.call x es)=(fun σ H Q=>match C.fs x with|some sp=>nq' sp [] (C.xk σ) (tA C es) σ H Q|none=>False) from rfl]
  have ht:tld B=true->n0' x∉B:=fun t m=>by rw[t,decide_eq_true m]at h6;cases h6
  cases hf:C.fs x with
  |none=>exact fun _ _ _ _ _ _ q=>q.elim
  |some sp=>
   obtain⟨f,fd,ps,k,CX,F,hr,hm,hk,hb,_,hx⟩:=R.fn x sp hf hh ht
   have hs:aS' e=true:=by
    cases es with
    |nil=>exact ar' h2
    |cons c r=>exact(gA' (gA' h2).1).2
   have hp:(backTo pos (starEach r X.env)).any (·.1)=false:=by
    have q:=fK' (env:=X.env) (pos:=pos) h2
    rw[am' hs]at q
    exact q
   exact n4' F hr (R.glb h1) hm hk hb .nil hx (sA es R h2) h3 (am' hs) hp
 | .blt f es,B,X,sc,e,R,h=>by
  refine⟨?_,trivial⟩
  refine uO' h fun x w1 e r pos e0 g=>?_
  clear h
  subst e0
  revert g
  intro h
  simp only[af,decide_eq_true_eq,Bool.or_eq_true,aL]at h
  obtain⟨⟨⟨⟨rfl,h1⟩,h2⟩,h4⟩,h5⟩:=h
  have hcc:X.calm=true\/f=.isinstance:=h5.imp R.calm id
  rw[show tE C (.blt f es)=(tCB (dc' C.K f) (tA C es)) from rfl]
  have hs:aS' e=true:=by
   cases es with
   |nil=>exact ar' h2
   |cons c r=>exact(gA' (gA' h2).1).2
  have hp:(backTo pos (starEach r X.env)).any (·.1)=false:=by
   have q:=fK' (env:=X.env) (pos:=pos) h2
   rw[am' hs]at q
   exact q
  rw[<- R.hK]
  have hn:eu' f≠"__name__"/\(eu' f == ("__debug__":Str))=false:=by cases f<;>decide +kernel
  cases uS' f with
  |fn id hv hc=>exact nr' (hc X hcc) (R.glb h1) (R.blt _ h4) hv (sA es R h2) hn.1 hn.2 (am' hs) hp
  |ty T hv hc=>exact kD' (hc X hcc) (R.glb h1) (R.blt _ h4) hv (sA es R h2) hn.1 hn.2 (am' hs) hp
 | .din neg a b,B,X,sc,e,R,h=>by
  refine⟨?_,trivial⟩
  refine w4' h fun ea op' eb w1 e0 g=>?_
  clear h
  subst e0
  revert g
  intro h
  simp only[af,decide_eq_true_eq]at h
  obtain⟨⟨⟨rfl,h1⟩,h2⟩,h3⟩:=h
  rw[show tE C (.din neg a b)=(nY' neg (tE C a) (tE C b)) from rfl]
  cases neg with
  |true=>exact o0' (gw' R.hu1 (sE0 a R h1).1 (sE0 b R h2).1) (cE' h3)
  |false=>exact o0' (ph' R.hu1 (sE0 a R h1).1 (sE0 b R h2).1) (cE' h3)
 | .dgt a b,B,X,sc,e,R,h=>by
  refine⟨?_,trivial⟩
  refine xW' h fun eo nm apos y pos e0 g=>?_
  clear h
  subst e0
  revert g
  intro h
  simp only[af,decide_eq_true_eq]at h
  obtain⟨⟨⟨⟨⟨rfl,h1⟩,h2⟩,h3⟩,h4⟩,h5⟩:=h
  rw[show tE C (.dgt a b)=(lz' (tE C a) (tE C b)) from rfl]
  have e2:=am' (env:=X.env) (es:=[]) h5
  refine nQ' R.hu1 (sE0 a R h1).1 (sE0 b R h4).1 ⟨h4' h2,?_,h3,?_⟩
  .rw[e2];rfl
  .rw[e2];rfl
 | .met m o es,B,X,sc,e,R,h=>by
  refine⟨?_,trivial⟩
  refine xV' h fun eo nm apos args pos e0 g=>?_
  clear h
  subst e0
  revert g
  intro h
  simp only[af,decide_eq_true_eq]at h
  obtain⟨⟨⟨⟨⟨rfl,h1⟩,h2⟩,h3⟩,h4⟩,h5⟩:=h
  rw[show tE C (.met m o es)=(tBM C.K (fG' m) (j0' C.K m) (tE C o) (tA C es)) from rfl]
  rw[<- R.hK]
  obtain⟨id,M⟩:=uT' m
  cases args with
  |nil=>
   cases es with
   |cons c r=>exact ar' h4
   |nil=>
    exact tU' M.pa M.slot M.ty (M.h X) ((sE0 o R h1).1) (h4' h2) h3
  |cons a r=>
   have hs:aS' a=true:=by
    cases es with
    |nil=>exact ar' h4
    |cons c r=>exact(gA' (gA' h4).1).2
   have hq:=fK' (env:=X.env) (pos:=pos) h4
   have hp:(backTo pos (starEach r X.env)).any (·.1)=false:=by
    rw[am' hs]at hq
    exact hq
   refine xB' M.pa M.slot M.ty (M.h X) ((sE0 o R h1).1) (sA es R h4) (h4' h2) ?_ h3 (am' hs) hp
   have e1:(backTo pos (starEach (a :: r) X.env)).all (fun x=>!x.1)=true:=by
    rw[bJ]
    intro x hx
    rw[List.any_eq_false]at hq
    simpa using hq x hx
   rw[e1]
   show(true&&true&&decide ((a :: r).length+0+0<30))=true
   simp only[Bool.true_and,decide_eq_true_eq]
   omega
 | .xat i f,B,X,sc,e,R,h=>by
  refine⟨?_,trivial⟩
  refine yc' h fun x w1 g w2 e0 u=>?_
  clear h
  subst e0
  revert u
  intro h
  simp only[af,decide_eq_true_eq]at h
  obtain⟨⟨h0,hv⟩,rfl⟩:=h
  obtain⟨h1,h2,h3⟩:=bA' h0
  rw[show tE C (.xat i g)=xP' C.K i g from rfl,<- R.hK]
  exact uI' (by rw[R.hN];exact h1) (R.vis hv) h2 h3
 | .cls c,B,X,sc,e,R,h=>by
  refine⟨?_,trivial⟩
  refine w3' h fun x w1 e0 g=>?_
  clear h
  subst e0
  revert g
  intro h
  simp only[af,decide_eq_true_eq,aL]at h
  obtain⟨⟨rfl,h1⟩,h2⟩:=h
  rw[show tE C (.cls x)=(fun _ H Q=>∃Ca,C.cl x=some Ca/\Q (.ref Ca) H) from rfl]
  intro pins s σ H Q I ⟨Ca,hc,q⟩
  exact fn' I (R.glb h1) (R.cls _ _ hc).1 ⟨.ref Ca,H,I,rfl,q⟩ h2
 | .comp elt own t it q .nil,B,X,sc,e,R,h=>by
  have D:n5' C X e (.comp elt own t it q .nil):=by
   obtain⟨ee,tg,iter,ifs,scope,pos,rfl,hh,hsc,helt,hown,h1,h2,h3,h4,h5⟩:=Ac' h
   refine⟨tg,iter,ifs,fun D env=>do let _ <- call (.builtin "list.append") [.ref D,<- eval ee env],scope,_,⟨R.compSc hsc,?_,⟨[],rfl⟩,a0' h3,R.calm hh,fun _ _ _=>⟨rfl,rfl⟩,fun _ _ _ _=>⟨rfl,rfl⟩,fun _ _ _ _ _=>rfl,fun _ _ _ _ _=>rfl,bZ' hown,?_⟩,sI it R h1 h2,rfl,fun _=>rfl,fun _ _ _=>⟨_,rfl⟩⟩
   .rw[R.hN];exact(cU' hsc).2.2.2.2
   .intro s0 H0 ex D
    have R':=R.comp hh hsc s0 H0 ex
    refine⟨sG t R' h4,sQo q R' h5,[],by simp,?_⟩
    exact fu' rfl (sE0 elt R' helt).1
  refine⟨?_,D⟩
  obtain⟨tg,iter,ifs,nx,scope,pos,D,hi,he,_⟩:=D
  rw[show tE C (.comp elt own t it q .nil)=(hF' own (tI C it) (tG C t) (tQo C q) (tR C .nil (ei' (tE C elt)))) from rfl]
  exact hG' D hi he
 | .comp elt own t it q (.cons ws t2 it2 q2 .nil),B,X,sc,e,R,h=>by
  have D:n5' C X e (.comp elt own t it q (.cons ws t2 it2 q2 .nil)):=by
   obtain⟨ee,tg,iter,ifs,tg2,iter2,ifs2,scope,pos,rfl,hh,hsc,helt,hown,h1,h2,h3,h4,h5,g1,g2,g3,g4,g5,g6,g7⟩:=Ad' h
   refine⟨tg,iter,ifs,fun D env=>aX' (.ListComp ee [⟨tg,iter,ifs,0⟩,⟨tg2,iter2,ifs2,0⟩] scope pos) 0 iter2 (.ref D) env,scope,_,⟨R.compSc hsc,?_,⟨_,rfl⟩,a0' h3,R.calm hh,fun _ _ _=>⟨rfl,rfl⟩,fun _ _ _ _=>⟨rfl,rfl⟩,fun _ _ _ _ _=>n6' _ _ _ _ _ _ _ _ _ _ _ _ _ _,fun _ _ _ _ _=>rfl,bZ' hown,?_⟩,sI it R h1 h2,rfl,fun _=>rfl,fun _ _ _=>⟨_,rfl⟩⟩
   .rw[R.hN];exact(cU' hsc).2.2.2.2
   .intro s0 H0 ex D
    have R':=R.comp hh hsc s0 H0 ex
    refine⟨sG t R' h4,sQo q R' h5,ws,g7,?_⟩
    exact dT' (nx:=do let _ <- call (.builtin "list.append") [.ref D,<- eval ee (X.comp scope s0 H0 ex).env]) rfl (R.calm hh) (fun _=>rfl) (fun _=>rfl) (fun _=>rfl) (fun _=>rfl) (fun _=>rfl) (fun _=>rfl) ⟨_,rfl,rfl⟩ (a0' g3) (sI it2 R' g1 g2) (sG t2 R' g4) (bZ' g6) (sQo q2 R' g5) (fu' rfl (sE0 elt R' helt).1) (by simp) c7'
  refine⟨?_,D⟩
  obtain⟨tg,iter,ifs,nx,scope,pos,D,hi,he,_⟩:=D
  rw[show tE C (.comp elt own t it q (.cons ws t2 it2 q2 .nil))=(hF' own (tI C it) (tG C t) (tQo C q) (tR C (.cons ws t2 it2 q2 .nil) (ei' (tE C elt)))) from rfl]
  exact hG' D hi he
 | .comp elt own t it q (.cons ws t2 it2 q2 (.cons ws3 t3 it3 q3 .nil)),B,X,sc,e,R,h=>by
  have D:n5' C X e (.comp elt own t it q (.cons ws t2 it2 q2 (.cons ws3 t3 it3 q3 .nil))):=by
   obtain⟨ee,tg,iter,ifs,tg2,iter2,ifs2,tg3,iter3,ifs3,scope,pos,rfl,hh,hsc,helt,hown,h1,h2,h3,h4,h5,⟨g1,g2,g3,g4,g5,g6,g7⟩,k1,k2,k3,k4,k5,k6,k7⟩:=Ae' h
   refine⟨tg,iter,ifs,fun D env=>aX' (.ListComp ee [⟨tg,iter,ifs,0⟩,⟨tg2,iter2,ifs2,0⟩,⟨tg3,iter3,ifs3,0⟩] scope pos) 0 iter2 (.ref D) env,scope,_,⟨R.compSc hsc,?_,⟨_,rfl⟩,a0' h3,R.calm hh,fun _ _ _=>⟨rfl,rfl⟩,fun _ _ _ _=>⟨rfl,rfl⟩,fun _ _ _ _ _=>lY' _ _ _ _ _ _ _ _ _ _ _ _ _ _ _ _ _,fun _ _ _ _ _=>rfl,bZ' hown,?_⟩,sI it R h1 h2,rfl,fun _=>rfl,fun _ _ _=>⟨_,rfl⟩⟩
   .rw[R.hN];exact(cU' hsc).2.2.2.2
   .intro s0 H0 ex D
    have R':=R.comp hh hsc s0 H0 ex
    refine⟨sG t R' h4,sQo q R' h5,ws,g7,?_⟩
    exact dT' (d:=0) (nx:=aX' (.ListComp ee [⟨tg,iter,ifs,0⟩,⟨tg2,iter2,ifs2,0⟩,⟨tg3,iter3,ifs3,0⟩] scope pos) 1 iter3 (.ref D) (X.comp scope s0 H0 ex).env) rfl (R.calm hh) (fun _=>rfl) (fun _=>rfl) (fun _=>rfl) (fun _=>rfl) (fun _=>j6' _ _ _ _ _ _ _ _ _ _ _ _ _ _ _ _ _) (fun _=>rfl) ⟨_,rfl,rfl⟩ (a0' g3) (sI it2 R' g1 g2) (sG t2 R' g4) (bZ' g6) (sQo q2 R' g5)
     (dT' (d:=1) (nx:=do let _ <- call (.builtin "list.append") [.ref D,<- eval ee (X.comp scope s0 H0 ex).env]) rfl (R.calm hh) (fun _=>rfl) (fun _=>rfl) (fun _=>rfl) (fun _=>rfl) (fun _=>rfl) (fun _=>rfl) ⟨_,rfl,rfl⟩ (a0' k3) (sI it3 R' k1 k2) (sG t3 R' k4) (bZ' k6) (sQo q3 R' k5) (fu' rfl (sE0 elt R' helt).1) (by simp) c7') k7 c7'
  refine⟨?_,D⟩
  obtain⟨tg,iter,ifs,nx,scope,pos,D,hi,he,_⟩:=D
  rw[show tE C (.comp elt own t it q (.cons ws t2 it2 q2 (.cons ws3 t3 it3 q3 .nil)))=(hF' own (tI C it) (tG C t) (tQo C q) (tR C (.cons ws t2 it2 q2 (.cons ws3 t3 it3 q3 .nil)) (ei' (tE C elt)))) from rfl]
  exact hG' D hi he
 | .comp elt own t it q (.cons ws t2 it2 q2 (.cons _ _ _ _ (.cons _ _ _ _ _))),B,X,sc,e,R,h=>(Af' h).elim
termination_by structural c=>c
theorem sA {C:Rc}:∀(es:Ces) {B:List Str} {X:Cx} {sc:Scope} {xs:List Expr},Rok C B X sc->mA C.N B sc es xs=true->PA X xs (tA C es)
 | .nil,B,X,sc,xs,R,h=>by
  refine lW' h fun e0 g=>?_
  clear h
  subst e0
  revert g
  intro h
  rw[show tA C .nil=(hj') from rfl]
  exact d8'
 | .cons e r,B,X,sc,xs,R,h=>by
  refine n2' h fun x xs e0 g=>?_
  clear h
  subst e0
  revert g
  intro h
  simp only[af]at h
  rw[show tA C (.cons e r)=(bP' (tE C e) (tA C r)) from rfl]
  exact bW' ((sE0 e R h.1.1).1) (sA r R h.2) (am' h.1.2)
termination_by structural c=>c
theorem sQ {C:Rc}:∀(q:Cq) {B:List Str} {X:Cx} {sc:Scope} {e:Expr},Rok C B X sc->mQ C.N B sc q e=true->PT X e (tQ C q)/\((∃op vs pos,e=.BoolOp op vs pos)->PW X e (tQ C q))
 | .val c,B,X,sc,e,R,h=>by
  replace h:=gA' h
  refine⟨?_,fun⟨op,vs,pos,z⟩=>?_⟩
  .rw[show tQ C (.val c)=(fun σ H Q=>tE C c σ H fun x H'=>∃k,tJ' C.K x H' k/\Q k H') from rfl]
   rw[<- R.hK]
   exact nn' (sE0 c R h.1).1 (lX' h.2)
  .subst z;exact ar' h.2
 | .din neg a b,B,X,sc,e,R,h=>by
  refine w4' h fun ea op' eb w1 e0 g=>?_
  clear h
  subst e0
  revert g
  intro h
  simp only[af,decide_eq_true_eq]at h
  obtain⟨⟨⟨rfl,h1⟩,h2⟩,h3⟩:=h
  rw[show tQ C (.din neg a b)=(kw' (nY' neg (tE C a) (tE C b))) from rfl]
  cases neg with
  |true=>exact⟨o1' (gw' R.hu1 (sE0 a R h1).1 (sE0 b R h2).1) (cE' h3),fun⟨op,vs,pos,z⟩=>by cases z⟩
  |false=>exact⟨o1' (ph' R.hu1 (sE0 a R h1).1 (sE0 b R h2).1) (cE' h3),fun⟨op,vs,pos,z⟩=>by cases z⟩
 | .not q,B,X,sc,e,R,h=>by
  refine zi' h fun y w1 e0 g=>?_
  clear h
  subst e0
  revert g
  intro h
  rw[show tQ C (.not q)=(xd' (tQ C q)) from rfl]
  exact⟨tr' (sQ q R h).1,fun⟨op,vs,pos,z⟩=>by cases z⟩
 | .and a b,B,X,sc,e,R,h=>by
  replace h:=lL' h
  rcases h with⟨x,y,pos,rfl,h⟩|⟨x,y,z,r,pos,rfl,h⟩
  .simp only[af]at h
   rw[show tQ C (.and a b)=(to' (tQ C a) (tQ C b)) from rfl]
   have w:PW X (.BoolOp .And [x,y] pos) (to' (tQ C a) (tQ C b)):=o2' (sQ a R h.1).1 (qI' (sQ b R h.2).1)
   exact⟨w.pt,fun _=>w⟩
  .simp only[af]at h
   rw[show tQ C (.and a b)=(to' (tQ C a) (tQ C b)) from rfl]
   have w:=o2' (sQ a R h.1).1 ((sQ b R h.2).2 ⟨_,_,_,rfl⟩)
   exact⟨w.pt,fun _=>w⟩
 | .or a b,B,X,sc,e,R,h=>by
  replace h:=pl' h
  rcases h with⟨x,y,pos,rfl,h⟩|⟨x,y,z,r,pos,rfl,h⟩
  .simp only[af]at h
   rw[show tQ C (.or a b)=(tOr (tQ C a) (tQ C b)) from rfl]
   have w:PW X (.BoolOp .Or [x,y] pos) (tOr (tQ C a) (tQ C b)):=tq' (sQ a R h.1).1 (tp' (sQ b R h.2).1)
   exact⟨w.pt,fun _=>w⟩
  .simp only[af]at h
   rw[show tQ C (.or a b)=(tOr (tQ C a) (tQ C b)) from rfl]
   have w:=tq' (sQ a R h.1).1 ((sQ b R h.2).2 ⟨_,_,_,rfl⟩)
   exact⟨w.pt,fun _=>w⟩
 | .cmp op a b,B,X,sc,e,R,h=>by
  refine w4' h fun ea op' eb w1 e0 g=>?_
  clear h
  subst e0
  revert g
  intro h
  simp only[af,decide_eq_true_eq]at h
  obtain⟨⟨⟨rfl,h1⟩,h2⟩,h3⟩:=h
  rw[show tQ C (.cmp op a b)=(kw' (tOp (cL' C.K op) (tE C a) (tE C b))) from rfl]
  rw[<- R.hK]
  exact⟨qY' (pr' R.hu _) (sE0 a R h1).1 (sE0 b R h2).1 (cE' h3),fun⟨op,vs,pos,z⟩=>by cases z⟩
termination_by structural c=>c
theorem sQo {C:Rc}:∀(q:Cqo) {B:List Str} {X:Cx} {sc:Scope} {es:List Expr},Rok C B X sc->mQo C.N B sc q es=true->PTs X es (tQo C q)
 | .none,B,X,sc,es,R,h=>by
  refine lW' h fun e0 g=>?_
  clear h
  subst e0
  revert g
  intro h
  rw[show tQo C .none=(fun _ H Q=>Q true H) from rfl];exact re'
 | .some q,B,X,sc,es,R,h=>by
  refine x0' h fun e e0 g=>?_
  clear h
  subst e0
  revert g
  intro h
  rw[show tQo C (.some q)=(tQ C q) from rfl];exact rf' (sQ q R h).1
termination_by structural c=>c
theorem sO {C:Rc}:∀(o:Co) {B:List Str} {X:Cx} {sc:Scope} {e:Option Expr},Rok C B X sc->mO C.N B sc o e=true->PO X e (tO C o)
 | .none,B,X,sc,e,R,h=>by
  refine x1' h fun e0 g=>?_
  clear h
  subst e0
  revert g
  intro h
  rw[show tO C .none=(hA') from rfl];exact q5'
 | .some c,B,X,sc,e,R,h=>by
  refine x2' h fun y e0 g=>?_
  clear h
  subst e0
  revert g
  intro h
  rw[show tO C (.some c)=(q4' (tE C c)) from rfl];exact q6' (sE0 c R h).1
termination_by structural c=>c
theorem sI {C:Rc}:∀(i:Ci) {B:List Str} {X:Cx} {sc:Scope} {x tg:Expr},Rok C B X sc->mI C.N B sc i x=true->gz' i tg=true->PI X tg x (tI C i)
 | .val c,B,X,sc,x,tg,R,h,_=>by
  rw[show tI C (.val c)=(xD' C.K (tE C c)) from rfl]
  rw[<- R.hK]
  exact tY' (sE0 c R h).1
 | .range1 a,B,X,sc,x,tg,R,h,_=>by
  refine rJ' h fun n w1 y w2 e0 g=>?_
  clear h
  subst e0
  revert g
  intro h
  simp only[af,decide_eq_true_eq]at h
  obtain⟨⟨⟨⟨rfl,h1⟩,h2⟩,h3⟩,h4⟩:=h
  rw[show tI C (.range1 a)=(qS' (bP' (tE C a) hj')) from rfl]
  exact kr' (R.glb h1) (R.blt _ h2) (bW' (sE0 a R h3).1 d8' (am' h4)) (am' h4)
 | .range2 a b,B,X,sc,x,tg,R,h,_=>by
  refine x4' h fun n w1 y z w2 e0 g=>?_
  clear h
  subst e0
  revert g
  intro h
  simp only[af,decide_eq_true_eq]at h
  obtain⟨⟨⟨⟨⟨⟨rfl,h1⟩,h2⟩,h3⟩,h4⟩,h5⟩,h6⟩:=h
  rw[show tI C (.range2 a b)=(qT' (bP' (tE C a) (bP' (tE C b) hj'))) from rfl]
  have e2:starEach [_] X.env=[(false,eval _ X.env)]:=am' (es:=[]) h6
  exact ks' (R.glb h1) (R.blt _ h2) (bW' (sE0 a R h3).1 (bW' (sE0 b R h5).1 d8' (am' h6)) (am' h4)) (by rw[am' h4,e2]) e2
 | .enum a,B,X,sc,x,tg,R,h,hz=>by
  refine rJ' h fun n w1 y w2 e0 g=>?_
  clear h
  subst e0
  revert g
  intro h
  simp only[af,decide_eq_true_eq]at h
  obtain⟨⟨⟨⟨rfl,h1⟩,h2⟩,h3⟩,h4⟩:=h
  rw[show tI C (.enum a)=(ri' C.K (tE C a)) from rfl]
  rw[<- R.hK]
  cases tg with
  |Tuple es k p=>exact rj' (R.glb h1) (R.blt _ h2) (bW' (sE0 a R h3).1 d8' (am' h4)) (am' h4)
  |_=>cases hz
 | .range3 a b c,B,X,sc,x,tg,R,h,_=>by
  refine x5' h fun n w1 y z u w2 e0 g=>?_
  clear h
  subst e0
  revert g
  intro h
  simp only[af,decide_eq_true_eq]at h
  obtain⟨⟨⟨⟨⟨⟨⟨⟨rfl,h1⟩,h2⟩,h3⟩,h4⟩,h5⟩,h6⟩,h7⟩,h8⟩:=h
  rw[show tI C (.range3 a b c)=(ro' (bP' (tE C a) (bP' (tE C b) (bP' (tE C c) hj')))) from rfl]
  have e2:starEach [_] X.env=[(false,eval _ X.env)]:=am' (es:=[]) h8
  have e3:starEach [_,_] X.env=[(false,eval _ X.env),(false,eval _ X.env)]:=(am' (es:=[_]) h6).trans (by rw[e2])
  exact k2' (R.glb h1) (R.blt _ h2) (bW' (sE0 a R h3).1 (bW' (sE0 b R h5).1 (bW' (sE0 c R h7).1 d8' (am' h8)) (am' h6)) (am' h4)) (by rw[am' h4,e3]) e3
 | .rev a,B,X,sc,x,tg,R,h,_=>by
  refine rJ' h fun n w1 y w2 e0 g=>?_
  clear h
  subst e0
  revert g
  intro h
  simp only[af,decide_eq_true_eq]at h
  obtain⟨⟨⟨⟨rfl,h1⟩,h2⟩,h3⟩,h4⟩:=h
  rw[show tI C (.rev a)=(xH' C.K (tE C a)) from rfl]
  rw[<- R.hK]
  exact ub' (R.glb h1) (R.blt _ h2) (bW' (sE0 a R h3).1 d8' (am' h4)) (am' h4)
termination_by structural c=>c
theorem sG {C:Rc}:∀(t:Ct) {B:List Str} {X:Cx} {sc:Scope} {e:Expr},Rok C B X sc->mT C.N B sc t e=true->PG X e (tG C t)
 | .name i,B,X,sc,e,R,h=>by
  refine w3' h fun x w1 e0 g=>?_
  clear h
  subst e0
  revert g
  intro h
  simp only[af]at h
  obtain⟨h1,h2,h3⟩:=bA' h.1
  obtain⟨h4,h5⟩:=R.locb h.2
  rw[show tG C (.name i)=(c4' i) from rfl]
  exact qP' (by rw[R.hN];exact R.nd) (by rw[R.hN];exact h1) h4 h5
 | .tup ts,B,X,sc,e,R,h=>by
  refine uM' h fun es w1 w2 e0 g=>?_
  clear h
  subst e0
  revert g
  intro h
  rw[show tG C (.tup ts)=(xM' C.K (nZ' ts) (tGs C ts)) from rfl]
  rw[<- R.hK]
  simp only[af,aL]at h
  exact uE' (R.calm h.2) (sGs ts R h.1) (cV' h.1).1 (cV' h.1).2
 | .sub o i,B,X,sc,e,R,h=>by
  refine uN' h fun eo ei w1 e0 g=>?_
  clear h
  subst e0
  revert g
  intro h
  simp only[af]at h
  rw[show tG C (.sub o i)=(xk' (tE C o) (tE C i) dM') from rfl]
  exact tw' (sE0 o R h.1.1).1 (sE0 i R h.1.2).1 nw' (rN' h.2)
termination_by structural c=>c
theorem sGs {C:Rc}:∀(ts:Cts) {B:List Str} {X:Cx} {sc:Scope} {es:List Expr},Rok C B X sc->mTs C.N B sc ts es=true->PGs X es (tGs C ts)
 | .nil,B,X,sc,es,R,h=>by
  refine lW' h fun e0 g=>?_
  clear h
  subst e0
  revert g
  intro h
  rw[show tGs C .nil=(xj') from rfl];exact qR'
 | .cons t r,B,X,sc,es,R,h=>by
  refine n2' h fun x xs e0 g=>?_
  clear h
  subst e0
  revert g
  intro h
  simp only[af]at h
  rw[show tGs C (.cons t r)=(qQ' (tG C t) (tGs C r)) from rfl]
  exact nj' (sG t R h.1.1) (sGs r R h.2) (h5' h.1.2)
termination_by structural c=>c
end
theorem sE {C:Rc} {B:List Str} (c:Ce) {X:Cx} {sc:Scope} {e:Expr} (R:Rok C B X sc) (h:mE C.N B sc c e=true):PE X e (tE C c):=(sE0 c R h).1
end R3
set_option maxHeartbeats 4000000
namespace R3
open PySem PySem.Spec PyProof.Rows L2
def eA':Expr->Bool
 | .ListComp ..=>false
 | .SetComp ..=>false
 | .DictComp ..=>false
 |_=>true
theorem n7' {x tg:Expr} {l:Nat} {env:Env} (h:eA' x=true):swapsWithSole [tg] x l env=pure false:=by
 cases x<;>first|rfl|cases h
theorem j7' {x:Expr} {l:Nat} {env:Env} (h:eA' x=true):swapsWith x none l env=pure false:=by
 cases x<;>first|rfl|cases h
set_option tactic.hygienic true in
theorem l0' {N B:List Str} {sc:Scope} {c:Ce} {x:Expr} (h:mE N B sc c x=true) (hd:h2' c=false) (hx:eA' x=false):∃elt own t it q r,c=.comp elt own t it q r/\∃ee gens scope pos,x=.ListComp ee gens scope pos:=by
 cases x<;>first|(cases hx;done)|skip
 .cases c<;>first|(exact ar' h)|(cases hd;done)|exact⟨_,_,_,_,_,_,rfl,_,_,_,_,rfl⟩
 .cases c<;>first|(exact ar' h)|(cases hd;done)|(rename_i r;cases r<;>first|(exact ar' h)|(cases hd;done)|(rename_i r;cases r<;>first|(exact ar' h)|(cases hd;done)|(rename_i r;cases r<;>exact ar' h)))
 .cases c<;>first|(exact ar' h)|(cases hd;done)|(rename_i r;cases r<;>first|(exact ar' h)|(cases hd;done)|(rename_i r;cases r<;>first|(exact ar' h)|(cases hd;done)|(rename_i r;cases r<;>exact ar' h)))
theorem dx' {tg:Expr} {env:Env} (h:aS' tg=true):(assignEach [tg] env).map (·.2)=[assign tg env]:=by
 cases tg<;>first|rfl|cases h
def rO':Expr->Expr->Bool
 | .Tuple ..,.Tuple ..=>false
 | .List ..,.Tuple ..=>false
 |_,_=>true
theorem fb' {tg x:Expr} {env:Env} (h:rO' tg x=true):swappedStores [tg] x env=pure none:=by
 cases tg<;>first|rfl|(cases x<;>first|rfl|cases h)
theorem gE' {tg:Expr} {vs:List Expr} {k:Nat} {pos:Pos} {env:Env} (h:vs.all (foldedForSure 8)=true):swappedStores [tg] (.Tuple vs k pos) env=pure none:=by
 have key:∀ts:List Expr,swappedStores [.Tuple ts 0 pos] (.Tuple vs k pos) env=pure none:=by
  intro ts
  unfold swappedStores
  dsimp only
  split
  .rfl
  .split
   .rfl
   .split
    .rfl
    .rfl
 cases tg<;>first|rfl|exact key _
theorem rP' {N B:List Str} {sc:Scope} {t:Ct} {a:List Expr} {p:Pos} (h:mT N B sc t (.List a p)=true):False:=by
 cases t<;>exact ar' h
theorem gF' {B:List Str} {a b:Str} (hab:a≠b) (h:decide (a∈B)=false):decide (a∈b :: B)=false:=by grind
section
variable {C:Rc} {B:List Str} {X:Cx} {sc:Scope}
theorem Rok.suite (R:Rok C B X sc) (e:Addr):Rok { C with xk:=fun _=>E0 } ("~" :: "^" :: B) (X.inX e) sc:=by
 have t1:tld ("~" :: "^" :: B)=true:=cF'
 have t2:hat ("~" :: "^" :: B)=true:=decide_eq_true (ar _ aw)
 refine⟨R.hN,R.nd,R.hK,PassesOwn.never,(fun z=>by rw[t2]at z;cases z),R.hu,R.gd,R.loc,R.cel,R.fre,R.glo,(fun _ _ _ z=>by rw[t2]at z;cases z),fun x hx=>?_,R.mrk,R.cls,(fun z=>by rw[t1]at z;cases z),(fun z=>by rw[t1]at z;cases z),(fun z=>by rw[t1]at z;cases z),(fun z=>by rw[t1]at z;cases z)⟩
 rcases aq.mp hx with rfl|hx
 .exact R.mrk.1
 .rcases aq.mp hx with rfl|hx
  .exact R.mrk.2.1
  .exact R.blt x hx
theorem Rok.tryB {c n:Str} {i:Nat} {np pos:Pos} {b₀:Stmt} {suite:List Stmt} {su:Css} {pins:List (Addr×Obj)} {D:Ends} (R:Rok C B X sc) (h5:tld B=false) (hh:hat B=false) (hg:Gl X c) (hd:(c == ("__debug__":Str))=false) (hi:C.N[i]?=some n) (hl:X.env.scope.names.lookup n=some .local)
  (hs:∀e,PSs (X.inX e) (b₀ :: suite) (tSs { C with xk:=fun _=>E0 } su)):
  Rok { C with xk:=fun σ' en dx H'=>∃nm Ca Cc,en=.str nm 0/\C.cl nm=some Ca/\C.cl c=some Cc/\W.exmOne C.K (.ref Ca) (.ref Cc)=some true/\∀e,H' e=none->tSs { C with xk:=fun _=>E0 } su { nx:=fun σ2 H2=>D.nx (σ2.set i none) H2,rt:=D.rt } (σ'.set i (some (.ref e))) (upd H' e (eR' e Ca dx)) } ("%" :: B) (X.tryX pins D [.ExceptHandler (some (.Name c np)) (some n) (b₀ :: suite) pos]) sc:=by
 have t1:tld ("%" :: B)=false:=gF' (by decide +kernel) h5
 have t2:pct ("%" :: B)=true:=decide_eq_true aw
 have F:=R.fx h5
 refine⟨R.hN,R.nd,R.hK,PassesOwn.looking,fun _=>R.calm hh,R.hu,R.gd,R.loc,R.cel,R.fre,R.glo,fun x sp e _ _=>?_,fun x hx=>?_,R.mrk,R.cls,fun _=>⟨F.ex,F.fn,F.stk,F.fr,F.cd⟩,(fun _=>gF' (by decide +kernel) hh),(fun _ z=>by rw[t2]at z;cases z),(fun _ z=>by rw[t2]at z;cases z)⟩
 .obtain⟨f,fd,ps,k,CX,q1,q2,q3,q4,q5,q6,_⟩:=R.fn x sp e hh fun z=>by rw[h5]at z;cases z
  refine⟨f,fd,ps,k,CX,q1,q2,q3,q4,q5,q6.imp id fun z=>⟨z.1,ar _ z.2⟩,?_⟩
  rcases q6 with rfl|⟨rfl,_⟩
  .exact iU'
  .intro pins' σ' H' s' e s'' I cx
   obtain⟨ea,T,Ca,nm,dx,H2,z1,z2,z3,z4,z5,z6,z7,z8,z9,z10,z11,nm',Ca',Cc,z12,z13,z14,z15,z16⟩:=id cx
   refine le' (Cc:=Cc) (i:=i) (th:=tSs { C with xk:=fun _=>E0 } su) I F (R.calm hh) (by rw[R.hN];exact R.nd) (by rw[R.hN];exact hi) hl hg (R.cls _ _ z14).1 hd hs ?_ cx
   rintro nm2 Ca2 dx2 H3 m2 ⟨nm3,Ca3,Cc3,w1,w2,w3,w4,w5⟩
   cases w1
   have:=(R.cls _ _ w2).1
   rw[m2]at this
   cases this
   rw[z14]at w3
   cases w3
   exact⟨by rw[R.hK];exact w4,w5⟩
 .rcases aq.mp hx with rfl|hx
  .exact R.mrk.2.2
  .exact R.blt x hx
end
set_option maxHeartbeats 4000000
mutual
theorem sS:∀(c:Cs) {C:Rc} {B:List Str} {X:Cx} {sc:Scope} {s:Stmt},Rok C B X sc->X.env.scope.kind=.function->mS C.N B sc c s=true->PS X s (tS C c)
 | .expr e,C,B,X,sc,s,R,hk,h=>by
  refine x6' h fun x w1 e0 g=>?_
  clear h
  subst e0
  revert g
  intro h
  obtain⟨hc,hd⟩:=gA' h
  clear h
  obtain⟨hc,hm⟩:=gA' hc
  replace hd:h2' e=false:=by cases z:h2' e with
   |false=>rfl
   |true=>rw[z]at hd;exact ar' hd
  rw[show tS C (.expr e)=(qN' (tE C e)) from rfl]
  refine qO' (sE e R hc) (j7' ?_)
  cases hx:eA' x with
  |true=>rfl
  |false=>
   obtain⟨elt,own,t,it,q,r,rfl,_⟩:=l0' hc hd hx
   exact ar' hm
 | .ret e,C,B,X,sc,s,R,hk,h=>by
  refine x7' h fun x w1 e0 g=>?_
  clear h
  subst e0
  revert g
  intro h
  rw[show tS C (.ret e)=(xf' (tE C e)) from rfl]
  exact tu' (sE e R h)
 | .asg t e,C,B,X,sc,s,R,hk,h=>by
  refine x9' h fun tg x pos e0 g=>?_
  clear h
  subst e0
  revert g
  intro h
  obtain⟨h,h4⟩:=gA' h
  obtain⟨h,h3⟩:=gA' h
  obtain⟨h,h2⟩:=gA' h
  obtain⟨h1,h0⟩:=gA' h
  replace h0:h2' e=false:=by cases z:h2' e with
   |false=>rfl
   |true=>rw[z]at h0;exact ar' h0
  rw[show tS C (.asg t e)=(kj' (tE C e) (tG C t)) from rfl]
  have hw:swappedStores [tg] x X.env=pure none:=by
   cases tg with
   |Tuple a b c=>cases x<;>first|exact fb' rfl|exact gE' h4|exact ar' h4
   |List a b=>exact(rP' h2).elim
   |_=>exact fb' rfl
  cases hx:eA' x with
  |true=>exact io' (sE e R h1) (sG t R h2) (n7' hx) hw (dx' h3)
  |false=>
   obtain⟨elt,own,t',it,q,r,rfl,ee,gens,scope,p2,rfl⟩:=l0' h1 h0 hx
   have D:=(sE0 _ R h1).2
   obtain⟨tg',iter,ifs,nx,scope',pos',D,hi,he,hu,hsw⟩:=D
   cases t with
   |name i=>
    cases tg with
    |Name y py=>
     obtain⟨b,hb⟩:=hsw y py pos.line
     cases b with
     |true=>
      replace h2:=gA' h2
      obtain⟨g1,g2,g3⟩:=bA' h2.1
      obtain⟨g4,g5⟩:=R.locb h2.2
      exact jO' D hi (by rw[R.hN];exact R.nd) (by rw[R.hN];exact g1) g4 g5 (hu _) hb
     |false=>exact io' (sE _ R h1) (sG _ R h2) hb hw (dx' h3)
    |_=>exact ar' h2
   |tup ts=>
    cases tg with
    |Tuple a b c=>exact ar' h4
    |_=>exact ar' h2
   |sub o i=>
    cases tg with
    |Subscript a b c=>exact io' (sE _ R h1) (sG _ R h2) rfl hw (dx' h3)
    |_=>exact ar' h2
 | .setc2 i elt own t it q ws t2 it2 q2,C,B,X,sc,s,R,hk,h=>by
  refine ya' h fun y py ee tg iter ifs a tg2 iter2 ifs2 a2 scope p2 pos e0 g=>?_
  clear h
  subst e0
  revert g
  intro h
  simp only[af,decide_eq_true_eq,aL,bJ]at h
  obtain⟨⟨⟨⟨⟨⟨⟨⟨⟨⟨⟨⟨⟨⟨⟨⟨⟨⟨hh,hnm⟩,hsc⟩,helt⟩,hown⟩,rfl⟩,h1⟩,h2⟩,h3⟩,h4⟩,h5⟩,rfl⟩,f1⟩,f2⟩,f3⟩,f4⟩,f5⟩,f6⟩,f7⟩:=h
  have hnm':=hnm
  replace hnm:=gA' hnm
  obtain⟨g1,g2,g3⟩:=bA' hnm.1
  obtain⟨g4,g5⟩:=R.locb hnm.2
  rw[show tS C (.setc2 i elt own t it q ws t2 it2 q2)=(kj' (uy' own (tI C it) (tG C t) (tQo C q) (hE' (tI C it2) (a9' ws (tG C t2) (tQo C q2) (gr' (tE C elt))))) (c4' i)) from rfl]
  refine rA' (nx:=fun D env=>aX' (.SetComp ee [⟨tg,iter,ifs,0⟩,⟨tg2,iter2,ifs2,0⟩] scope p2) 0 iter2 (.ref D) env) rt' (fun _=>rfl) nN' fF' rz' ⟨R.compSc hsc,?_,⟨_,rfl⟩,a0' h3,R.calm hh,fun _ _ _=>⟨rfl,rfl⟩,fun _ _ _ _=>⟨rfl,rfl⟩,fun _ _ _ _ _=>lZ' _ _ _ _ _ _ _ _ _ _ _ _ _ _,fun _ _ _ _ _=>rfl,bZ' hown,?_⟩ (sI it R h1 h2) (by rw[R.hN];exact R.nd) (by rw[R.hN];exact g1) g4 g5 (sG (.name i) R hnm') rfl rfl ⟨_,rfl⟩
  .rw[R.hN];exact(cU' hsc).2.2.2.2
  .intro s0 H0 ex D
   have R':=R.comp hh hsc s0 H0 ex
   refine⟨sG t R' h4,sQo q R' h5,ws,f7,?_⟩
   exact dT' (nx:=do let v <- eval ee (X.comp scope s0 H0 ex).env;standAt ee.pos;let _ <- call (.builtin "set.add") [.ref D,v]) rfl (R.calm hh) (fun _=>rfl) (fun _=>rfl) (fun _=>rfl) (fun _=>rfl) (fun _=>rfl) (fun _=>rfl) ⟨_,rfl,rfl⟩ (a0' f3) (sI it2 R' f1 f2) (sG t2 R' f4) (bZ' f6) (sQo q2 R' f5) (lp' rfl (sE elt R' helt)) (by simp) fF'
 | .dctc tup i k v own t it q,C,B,X,sc,s,R,hk,h=>by
  refine yb' h fun y py ke ve tg iter ifs a scope p2 pos e0 g=>?_
  clear h
  subst e0
  revert g
  intro h
  simp only[af,decide_eq_true_eq,aL]at h
  obtain⟨⟨⟨⟨⟨⟨⟨⟨⟨⟨⟨hh,hnm⟩,hsc⟩,hke⟩,hve⟩,hown⟩,rfl⟩,h1⟩,h2⟩,h3⟩,h4⟩,h5⟩:=h
  have hnm':=hnm
  replace hnm:=gA' hnm
  obtain⟨g1,g2,g3⟩:=bA' hnm.1
  obtain⟨g4,g5⟩:=R.locb hnm.2
  rw[show tS C (.dctc tup i k v own t it q)=(if tup then kj' (uA' own (tI C it) (tG C t) (tQo C q) (tE C k) (tE C v)) (c4' i)else kj' (uz' own (tI C it) (tG C t) (tQo C q) (tE C k) (tE C v)) (c4' i)) from rfl]
  cases tup with
  |false=>
   refine rA' (Is:=ur' X.prog X.w) (nx:=fun D env=>uU' ke ve D env) iD' (fun _=>rfl) lq' gu' us' ⟨R.compSc hsc,?_,⟨[],rfl⟩,a0' h3,R.calm hh,fun _ _ _=>⟨rfl,rfl⟩,fun _ _ _ _=>⟨rfl,rfl⟩,fun _ _ _ _ _=>rfl,fun _ _ _ _ _=>rfl,bZ' hown,?_⟩ (sI it R h1 h2) (by rw[R.hN];exact R.nd) (by rw[R.hN];exact g1) g4 g5 (sG (.name i) R hnm') rfl rfl ⟨_,rfl⟩
   .rw[R.hN];exact(cU' hsc).2.2.2.2
   .intro s0 H0 ex D
    have R':=R.comp hh hsc s0 H0 ex
    exact⟨sG t R' h4,sQo q R' h5,[],by simp,lr' rfl (sE k R' hke) (sE v R' hve)⟩
  |true=>
   refine rA' (Is:=ut' X.prog X.w) (nx:=fun D env=>uU' ke ve D env) iD' (fun _=>rfl) ls' gv' uu' ⟨R.compSc hsc,?_,⟨[],rfl⟩,a0' h3,R.calm hh,fun _ _ _=>⟨rfl,rfl⟩,fun _ _ _ _=>⟨rfl,rfl⟩,fun _ _ _ _ _=>rfl,fun _ _ _ _ _=>rfl,bZ' hown,?_⟩ (sI it R h1 h2) (by rw[R.hN];exact R.nd) (by rw[R.hN];exact g1) g4 g5 (sG (.name i) R hnm') rfl rfl ⟨_,rfl⟩
   .rw[R.hN];exact(cU' hsc).2.2.2.2
   .intro s0 H0 ex D
    have R':=R.comp hh hsc s0 H0 ex
    exact⟨sG t R' h4,sQo q R' h5,[],by simp,lu' R'.hu1 rfl (sE k R' hke) (sE v R' hve)⟩
 | .rsi nm a,C,B,X,sc,s,R,hk,h=>by
  refine uP' h fun x np y cpos pos e0 g=>?_
  clear h
  subst e0
  revert g
  intro h
  simp only[af,decide_eq_true_eq,aL]at h
  obtain⟨⟨⟨⟨⟨⟨rfl,h1⟩,h2⟩,h3⟩,h4⟩,h5⟩,h6⟩:=h
  intro pins s σ H D I hw
  rw[show tS C (.rsi x a) D σ H=(match C.ini x with|some f=>(∃Ca,C.cl x=some Ca)/\tE C a σ H (th' f (C.xk σ (.str x 0)))|none=>False) from rfl]at hw
  cases hi:C.ini x with
  |none=>rw[hi]at hw;exact hw.elim
  |some f=>
   rw[hi]at hw
   obtain⟨⟨Ca,hc⟩,hw⟩:=hw
   obtain⟨fI,fd,ps,k,xi,G,hr,hb⟩:=R.ini h3 h4 x f Ca hc hi
   exact uH' (wish:=fun σ dx H=>C.xk σ (.str x 0) dx H) (R.fx h3) (R.calm (R.nohat h3)) (R.glb h1) (R.cls _ _ hc).1 h2 xi G hr hb (sE0 a R h5).1 (am' (es:=[]) h6) (fun pins σ H s e t dx I a1 a2 a3 a4 a5=>R.xr h3 h4 x Ca pins σ H s e t dx hc I a1 a2 a3 a4 a5) pins s σ H D I hw
 | .try_ b c i su,C,B,X,sc,s,R,hk,h=>by
  refine yd' h fun ss x w1 n t ts w2 w3 e0 g=>?_
  clear h
  subst e0
  revert g
  intro h
  simp only[af,decide_eq_true_eq,aL]at h
  obtain⟨⟨⟨⟨⟨⟨⟨⟨rfl,h1⟩,h2⟩,h3⟩,h4⟩,h5⟩,hh⟩,h6⟩,h7⟩:=h
  obtain⟨g1,g2,g3⟩:=bA' h3
  rw[show tS C (.try_ b x i su)=(fun D σ H=>tSs { C with xk:=fun σ' en dx H'=>∃nm Ca Cc,en=.str nm 0/\C.cl nm=some Ca/\C.cl x=some Cc/\W.exmOne C.K (.ref Ca) (.ref Cc)=some true/\∀e,H' e=none->tSs { C with xk:=fun _=>E0 } su { nx:=fun σ2 H2=>D.nx (σ2.set i none) H2,rt:=D.rt } (σ'.set i (some (.ref e))) (upd H' e (eR' e Ca dx)) } b D σ H) from rfl]
  refine rr' (t:=fun D=>tSs { C with xk:=fun σ' en dx H'=>∃nm Ca Cc,en=.str nm 0/\C.cl nm=some Ca/\C.cl _=some Cc/\W.exmOne C.K (.ref Ca) (.ref Cc)=some true/\∀e,H' e=none->tSs { C with xk:=fun _=>E0 } su { nx:=fun σ2 H2=>D.nx (σ2.set i none) H2,rt:=D.rt } (σ'.set i (some (.ref e))) (upd H' e (eR' e Ca dx)) } b) fun pins D=>?_
  refine sSs b ?_ hk h6
  exact R.tryB h5 hh (R.glb h1) h2 g1 (R.loc _ h4) fun e=>sSs su (R.suite e) hk h7
 | .aug i sub e,C,B,X,sc,s,R,hk,h=>by
  refine ye' h fun x w1 op ee w2 e0 g=>?_
  clear h
  subst e0
  revert g
  intro h
  simp only[af,decide_eq_true_eq]at h
  obtain⟨⟨⟨h1,h2⟩,h3⟩,rfl⟩:=h
  obtain⟨g1,g2,g3⟩:=bA' h1
  obtain⟨g4,g5⟩:=R.locb h2
  rw[show tS C (.aug i sub e)=(xl' i (tE C e) (ipI fun i j=>if sub then i-j else i+j)) from rfl]
  cases sub with
  |true=>exact o5' (by rw[R.hN];exact R.nd) (by rw[R.hN];exact g1) g4 (sE e R h3) ty' g5
  |false=>exact o5' (by rw[R.hN];exact R.nd) (by rw[R.hN];exact g1) g4 (sE e R h3) tx' g5
 | .ite q a b,C,B,X,sc,s,R,hk,h=>by
  refine yf' h fun x ss rs w1 e0 g=>?_
  clear h
  subst e0
  revert g
  intro h
  simp only[af]at h
  rw[show tS C (.ite q a b)=(xg' (tQ C q) (tSs C a) (tSs C b)) from rfl]
  exact xh' (sQ q R h.1.1).1 (sSs a R hk h.1.2) (sSs b R hk h.2)
 | .whl q b,C,B,X,sc,s,R,hk,h=>by
  refine yg' h fun x ss w1 e0 g=>?_
  clear h
  subst e0
  revert g
  intro h
  simp only[af]at h
  rw[show tS C (.whl q b)=(kp' (tQ C q) (tSs C b)) from rfl]
  exact nk' R.own (sQ q R h.1).1 (sSs b R hk h.2)
 | .for_ t it b,C,B,X,sc,s,R,hk,h=>by
  refine yh' h fun tg iter ss w1 e0 g=>?_
  clear h
  subst e0
  revert g
  intro h
  simp only[af,aL]at h
  obtain⟨⟨⟨⟨⟨h1,h2⟩,h3⟩,h4⟩,h5⟩,hh⟩:=h
  rw[show tS C (.for_ t it b)=(xm' (tI C it) (tG C t) (tSs C b)) from rfl]
  exact tz' R.own (R.calm hh) (sI it R h1 h2) (sG t R h4) (sSs b R hk h5) (a0' h3)
theorem sSs:∀(c:Css) {C:Rc} {B:List Str} {X:Cx} {sc:Scope} {ss:List Stmt},Rok C B X sc->X.env.scope.kind=.function->mSs C.N B sc c ss=true->PSs X ss (tSs C c)
 | .nil,C,B,X,sc,ss,R,hk,h=>by
  refine yi' h fun e0 g=>?_
  clear h
  subst e0
  revert g
  intro h
  rw[show tSs C .nil=(qK') from rfl];exact qL'
 | .cons c r,C,B,X,sc,ss,R,hk,h=>by
  refine yj' h fun x xs e0 g=>?_
  clear h
  subst e0
  revert g
  intro h
  simp only[af]at h
  rw[show tSs C (.cons c r)=(xe' (tS C c) (tSs C r)) from rfl]
  exact ni' (sS c R hk h.1) (sSs r R hk h.2)
end
section
variable {P:Program} {w:World} {K:W.Frag} {mg:Str->Option Value} {base:Heap}
structure Ask (P:Program) (w:World) (K:W.Frag) (mg:Str->Option Value) (base:Heap) (k:Nat) (C:Rc):Prop where
 fs:∀y sp',C.fs y=some sp'->∃f' fd' ps',(FnOk P w K mg base CX0 k f' fd' ps' sp'\/FnOk P w K mg base (CX1 P w mg) k f' fd' ps' sp'/\n0' y∈C.B)/\mg y=some (.ref f')/\W.keepIn K (.ref f')=true/\cq' K fd' ps' []
 B:∀y∈C.B,mg y=none
 mrk:mg "~"=none/\mg "^"=none/\mg "%"=none
 cl:∀c Ca,C.cl c=some Ca->mg c=some (.ref Ca)/\W.nsIn K mainGlobals c=some (some (.ref Ca))
 nt:tld C.B=false
 nh:hat C.B=false
theorem l1' {x qual:Str} {st:Stmt} {f:Addr} {fd:FuncData} {ps:List Str} {k:Nat} {sp:Sp} (F:Fun K x qual st f fd) (C:Rc) (S:FnScope C.N ps (ab' st)) (hK:C.K=K) (code:Css) (hm:mSs C.N C.B (ab' st) code (aj' st)=true)
  (len:∀vs H Q E,sp vs H Q E->vs.length=ps.length) (ask:Ask P w K mg base k C) (hxk:C.xk=fun _=>E0)
  (hbody:∀vs H Q E,sp vs H Q E->tSs C code { nx:=fun _ H'=>Q .non H',rt:=Q } (aB' C.N vs) H) (hini:C.ini=fun _=>none:=by rfl):FnOk P w K mg base CX0 (k+1) f fd ps sp:=by
 obtain⟨oc,od,kV,doc,pm,an,cdv,ct,osl,rfl,lk,hcd⟩:=F.ex
 refine q1' lk hcd S len fun A outer s H vs Q E hr h=>⟨_,(show PSs (o7' CX0 P w K mg base C.N qual (ab' st) f cdv A outer s H E).nox (aj' st) (tSs C code) from sSs code (sc:=ab' st) (B:=C.B) ?_ S.kind hm).nox,hbody vs H Q E h⟩
 refine⟨rfl,S.nd,hK.symm,PassesOwn.never,fun _=>rfl,hr.units,hr.gd,fun _ e=>e,fun _ e=>⟨e,rfl⟩,fun _ e=>.inr e,fun _ e=>e,fun y sp' e _ _=>?_,ask.B,ask.mrk,ask.cl,fun _=>⟨rfl,fun _=>rfl,rfl,rfl,la' hcd⟩,fun _=>ask.nh,fun _ _ nm Ca pins σ H s e t dx _ _ _ _ _ _ z=>?_,fun _ _ nm f Ca _ z=>by rw[hini]at z;cases z⟩
 .obtain⟨f',fd',ps',h1,h2,h3,h4⟩:=ask.fs y sp' e
  rcases h1 with h1|⟨h1,hb⟩
  .exact⟨f',fd',ps',k,CX0,h1,hr,h2,h3,h4,.inl rfl,iU'⟩
  .refine⟨f',fd',ps',k,_,h1,hr,h2,h3,h4,.inr ⟨rfl,hb⟩,?_⟩
   rintro pins σ H s e s' I ⟨ea,T,Ca,nm,dx,H',_,_,_,_,_,_,_,_,_,_,_,z⟩
   rw[hxk]at z
   exact z.elim
 .rw[hxk]at z
  exact z.elim
theorem l2' {x qual:Str} {st:Stmt} {f:Addr} {fd:FuncData} {ps:List Str} {k:Nat} {sp:Sp} (F:Fun K x qual st f fd) (C:Rc) (S:FnScope C.N ps (ab' st)) (hK:C.K=K) (code:Css) (hm:mSs C.N C.B (ab' st) code (aj' st)=true)
  (len:∀vs H Q E,sp vs H Q E->vs.length=ps.length) (ask:Ask P w K mg base k C)
  (hini:∀nm f Ca,C.cl nm=some Ca->C.ini nm=some f->∃fI fd ps j,j+1<=k/\Xi K Ca fI f/\FnOk P w K mg base CX0 j fI fd ps (hP' K f)/\cq' K fd ps [])
  (hbody:∀vs H Q E,sp vs H Q E->tSs { C with xk:=fun _=>E } code { nx:=fun _ H'=>Q .non H',rt:=Q } (aB' C.N vs) H):FnOk P w K mg base (CX1 P w mg) (k+1) f fd ps sp:=by
 obtain⟨oc,od,kV,doc,pm,an,cdv,ct,osl,rfl,lk,hcd⟩:=F.ex
 refine q1' lk hcd S len fun A outer s H vs Q E hr hsp=>⟨_,sSs code (C:={ C with xk:=fun _=>E }) (sc:=ab' st) (B:=C.B) ?_ S.kind hm,hbody vs H Q E hsp⟩
 have fc:FnCx (o7' (CX1 P w mg) P w K mg base C.N qual (ab' st) f cdv A outer s H E):=⟨rfl,fun _=>rfl,rfl,rfl,la' hcd⟩
 refine⟨rfl,S.nd,hK.symm,PassesOwn.leaving,fun _=>rfl,hr.units,hr.gd,fun _ e=>e,fun _ e=>⟨e,rfl⟩,fun _ e=>.inr e,fun _ e=>e,fun y sp' e _ _=>?_,ask.B,ask.mrk,ask.cl,fun _=>fc,fun _=>ask.nh,fun _ _ nm Ca pins σ H' s' e t dx hc I a1 a2 a3 a4 z=>?_,fun _ _ nm f Ca h1 h2=>?_⟩
 .obtain⟨f',fd',ps',h1,h2,h3,h4⟩:=ask.fs y sp' e
  rcases h1 with h1|⟨h1,hb⟩
  .exact⟨f',fd',ps',k,CX0,h1,hr,h2,h3,h4,.inl rfl,iU'⟩
  .exact⟨f',fd',ps',k,_,h1,hr,h2,h3,h4,.inr ⟨rfl,hb⟩,fun pins σ H s e s' I c=>fD' I fc c⟩
 .exact fC' I fc (ask.cl nm Ca hc).1 a1 a2 a3 a4 z
 .obtain⟨fI,fd,ps,j,hj,xi,G,hb⟩:=hini nm f Ca h1 h2
  exact⟨fI,fd,ps,j,xi,G,hr.mono hj,hb⟩
end
def n8' (a:Addr) (k:Nat) (h:Heap):Prop:=∃(x y z:Int) (t1 t2 t3:Tok) (n:Nat),h.get? a=some { cls:=.type "list",data:=.seq #[.int x t1,.int y t2,.int z t3] n }/\0<=x/\0<=y/\y<2 ^ 62/\0<=z/\z<=k
def dy' (a:Addr) (k:Nat):HO:=.ext (n8' a k)
def gG' (x y z:Int):HO:=.lst [.int x,.int y,.int z]
theorem uV' {a:Addr} {n k:Nat} (e:dy' a n=dy' a k):n<=k:=by
 have e1:n8' a n=n8' a k:=HO.ext.inj e
 let o:Obj:={ cls:=.type "list",data:=.seq #[.int 0 0,.int 0 0,.int n 0] 0 }
 let h0:Heap:={ (default:Heap)with objs:=Array.replicate a default }
 have hs:h0.objs.size=a:=Array.size_replicate
 have g:(h0.push o).get? a=some o:=by
  have:=ax h0 (o:=o) rfl
  rw[hs]at this
  exact this
 have q:n8' a n (h0.push o):=⟨0,0,n,0,0,0,0,g,by omega,by omega,by decide,by omega,by omega⟩
 rw[e1]at q
 obtain⟨x,y,z,t1,t2,t3,m,g2,_,_,_,_,hz⟩:=q
 rw[g]at g2
 have g3:=Option.some.inj g2
 have g4:(#[.int 0 0,.int 0 0,.int n 0]:Array Value)=#[.int x t1,.int y t2,.int z t3]:=by
  have:o.data=_:=congrArg Obj.data g3
  injection this
 have g6:=congrArg Array.toList g4
 simp only[List.cons.injEq,Value.int.injEq]at g6
 have g5:(n:Int)=z:=g6.2.2.1.1
 omega
theorem l3' {P:Program} {w:World} {H:Hp} {h:Heap} {b:Addr} {x y z:Int} {k:Nat} (hok:HOk P w H h) (e:H b=some (gG' x y z)) (hx:0<=x) (hy:0<=y) (hy2:y<2 ^ 62) (hz:0<=z) (hk:z<=k):HOk P w (upd H b (dy' b k)) h:=by
 intro c o ec
 by_cases hc:c=b
 .subst hc
  rw[aa']at ec
  cases ec
  obtain⟨_,its,n,rv,g⟩:=(show av' P w H h c (.lst _) from hok c _ e)
  cases rv with
  |cons r1 r=>
   cases r with
   |cons r2 r=>
    cases r with
    |cons r3 r=>
     cases r
     obtain⟨t1,rfl⟩:=r1
     obtain⟨t2,rfl⟩:=r2
     obtain⟨t3,rfl⟩:=r3
     refine⟨⟨x,y,z,t1,t2,t3,n,g,hx,hy,hy2,hz,hk⟩,⟨_,g⟩,fun h1 h2 q kk=>?_⟩
     obtain⟨x,y,z,t1,t2,t3,n,g,r⟩:=q
     exact⟨x,y,z,t1,t2,t3,n,kk _ g,r⟩
 .rw[ad' hc]at ec
  have ne:∀d u,H d=some u->(∀xs,u≠.lst xs)->d≠b:=fun d u q nu z=>by subst z;rw[e]at q;cases q;exact nu _ rfl
  exact(hok c o ec).stay (fun _ _ _ q=>q) (fun d q=>by rw[ad' (ne d _ q fun _ z=>by cases z)];exact q) fun d xs q=>by rw[ad' (ne d _ q fun _ z=>by cases z)];exact q
theorem n9' {P:Program} {w:World} {H:Hp} {h:Heap} {b:Addr} {k:Nat} (hok:HOk P w H h) (e:H b=some (dy' b k)):∃x y z:Int,0<=x/\0<=y/\y<2 ^ 62/\0<=z/\z<=k/\HOk P w (upd H b (gG' x y z)) h:=by
 obtain⟨⟨x,y,z,t1,t2,t3,n,g,hx,hy,hy2,hz,hk⟩,_,_⟩:=(show av' P w H h b (.ext _) from hok b _ e)
 refine⟨x,y,z,hx,hy,hy2,hz,hk,fun c o ec=>?_⟩
 by_cases hc:c=b
 .subst hc
  rw[aa']at ec
  cases ec
  exact⟨by show 3<=sizeLine;decide,[.int x t1,.int y t2,.int z t3],n,.cons ⟨_,rfl⟩ (.cons ⟨_,rfl⟩ (.cons ⟨_,rfl⟩ .nil)),g⟩
 .rw[ad' hc]at ec
  have ne:∀d u,H d=some u->(∀φ,u≠.ext φ)->d≠b:=fun d u q nu z=>by subst z;rw[e]at q;cases q;exact nu _ rfl
  exact(hok c o ec).stay (fun _ _ _ q=>q) (fun d q=>by rw[ad' (ne d _ q fun _ z=>by cases z)];exact q) fun d xs q=>by rw[ad' (ne d _ q fun _ z=>by cases z)];exact q
theorem oa' {fs ex:List Addr} {H H':Hp} {h h':Heap} {b:Addr} {xs:List V} {o:HO} (u:Un fs ex H H' h h') (e:H' b=some (.lst xs)):Un fs ex H (upd H' b o) h h' where
 keep:=u.keep
 slot:=u.slot
 free:=fun c ob q n hx=>by
  have z:=u.free c ob q n hx
  rw[ad' (fun z2=>by subst z2;rw[e]at z;cases z)]
  exact z
 there:=u.there
 tups:=fun c ys q=>by
  have z:=u.tups c ys q
  rw[ad' (fun z2=>by subst z2;rw[e]at z;cases z)]
  exact z
 frzs:=fun c ob ys q=>by
  have z:=u.frzs c ob ys q
  rw[ad' (fun z2=>by subst z2;rw[e]at z;cases z)]
  exact z
 tbls:=fun c ps q=>by
  obtain⟨m,z⟩:=u.tbls c ps q
  exact⟨m,by rw[ad' (fun z2=>by subst z2;rw[e]at z;cases z)];exact z⟩
theorem rQ' {fs ex:List Addr} {H H':Hp} {h h':Heap} {b:Addr} {φ:Heap->Prop} {o:HO} (u:Un fs ex (upd H b o) H' h h') (e:H b=some (.ext φ)):Un fs ex H H' h h':=by
 have ne:∀c,H c=none->c≠b:=fun c n z=>by subst z;rw[e]at n;cases n
 have ne2:∀c v,H c=some v->(∀ψ,v≠.ext ψ)->c≠b:=fun c v q nv z=>by subst z;rw[e]at q;cases q;exact nv _ rfl
 exact⟨fun c ob q n=>u.keep c ob q (by rw[ad' (ne c n)];exact n),fun c ob q n=>u.slot c ob q (by rw[ad' (ne c n)];exact n),fun c ob q n=>u.free c ob q (by rw[ad' (ne c n)];exact n),u.there,
  fun c ys q=>u.tups c ys (by rw[ad' (ne2 c _ q fun _ z=>by cases z)];exact q),fun c ob ys q=>u.frzs c ob ys (by rw[ad' (ne2 c _ q fun _ z=>by cases z)];exact q),fun c ps q=>u.tbls c ps (by rw[ad' (ne2 c _ q fun _ z=>by cases z)];exact q)⟩
section
variable {P:Program} {w:World} {K:W.Frag} {mg:Str->Option Value} {base:Heap} {k:Nat} {f:Addr} {fd:FuncData} {ps:List Str} {sp sp':Sp}
def zk' (Q:VK) (v:V) (H:Hp):Prop:=∃b x y z m,H b=some (gG' x y z)/\0<=x/\0<=y/\y<2 ^ 62/\0<=z/\z<=((m:Nat):Int)/\Q v (upd H b (dy' b m))
theorem l4' (F:FnOk P w K mg base CX0 k f fd ps sp) (h:∀vs H Q E,sp' vs H Q E->sp vs H (zk' Q) E):FnOk P w K mg base CX0 k f fd ps sp':=by
 refine⟨fun vs H Q E q=>F.len vs H _ E (h _ _ _ _ q),fun A outer s H args us vs Q E hr e0 hb hv hs=>?_⟩
 refine codeAny_mono (F.run A outer s H args us vs _ E hr e0 hb hv (h _ _ _ _ hs)) fun r s' hq=>?_
 cases r with
 |error e=>exact hq
 |ok fl=>
  cases fl with
  |next=>exact hq
  |brk=>exact hq
  |cont=>exact hq
  |ret u=>
   obtain⟨v,H',os,bare,un,hok,rv,b,x,y,z,m,eb,hx,hy,hy2,hz,hm,q⟩:=hq
   exact⟨v,_,os,bare,oa' un eb,l3' hok eb hx hy hy2 hz hm,rv,q⟩
theorem rR' (F:FnOk P w K mg base CX0 k f fd ps sp) (h:∀vs H Q E,sp' vs H Q E->∃b n,H b=some (dy' b n)/\∀x y z,0<=x->0<=y->y<2 ^ 62->0<=z->z<=((n:Nat):Int)->sp vs (upd H b (gG' x y z)) Q E) (len:∀vs H Q E,sp' vs H Q E->vs.length=ps.length):FnOk P w K mg base CX0 k f fd ps sp':=by
 refine⟨len,fun A outer s H args us vs Q E hr e0 hb hv hs=>?_⟩
 obtain⟨b,n,eb,hsp⟩:=h _ _ _ _ hs
 obtain⟨x,y,z,hx,hy,hy2,hz,hn,hok⟩:=n9' e0.hok eb
 have ne:∀c,H c=none->c≠b:=fun c n z=>by subst z;rw[eb]at n;cases n
 have e1:Env0 P w K mg base A outer s (upd H b (gG' x y z)):=⟨e0.frames,e0.mod,fun c o e=>⟨(e0.bs c o e).1,by rw[ad' (ne c (e0.bs c o e).2)];exact(e0.bs c o e).2⟩,e0.bsz,e0.funs,fun c hc=>by rw[ad' (ne c (e0.frf c hc))];exact e0.frf c hc,hok,e0.bare⟩
 refine codeAny_mono (F.run A outer s _ args us vs Q E hr e1 hb hv (hsp x y z hx hy hy2 hz hn)) fun r s' hq=>?_
 cases r with
 |error e=>exact hq
 |ok fl=>
  cases fl with
  |next=>exact hq
  |brk=>exact hq
  |cont=>exact hq
  |ret u=>
   obtain⟨v,H',os,bare,un,hok,rv,q⟩:=hq
   exact⟨v,H',os,bare,rQ' un eb,hok,rv,q⟩
end
structure Go (c:Nat) (H H':Hp):Prop where
 box:∀a n,H a=some (dy' a n)->∃m,m<=n+c/\H' a=some (dy' a m)
 oth:∀a o,H a=some o->(∀φ,o≠.ext φ)->H' a=some o
 free:∀a,H' a=none->H a=none
theorem Go.of_same {c:Nat} {H H':Hp} (h:aD' H H'):Go c H H':=⟨fun a n e=>⟨n,by omega,h a _ e⟩,fun a o e _=>h a o e,fun a e=>h.free e⟩
theorem Go.refl {c:Nat} {H:Hp}:Go c H H:=.of_same (aD'.refl H)
theorem Go.trans {c d:Nat} {H H1 H2:Hp} (a:Go c H H1) (b:Go d H1 H2):Go (c+d) H H2:=⟨fun p n e=>by
  obtain⟨m,hm,e1⟩:=a.box p n e
  obtain⟨m',hm',e2⟩:=b.box p m e1
  exact⟨m',by omega,e2⟩,fun p o e no=>b.oth p o (a.oth p o e no) no,fun p e=>a.free p (b.free p e)⟩
theorem Go.mono {c d:Nat} {H H1:Hp} (a:Go c H H1) (h:c<=d):Go d H H1:=⟨fun p n e=>by
  obtain⟨m,hm,e1⟩:=a.box p n e
  exact⟨m,by omega,e1⟩,a.oth,a.free⟩
theorem Go.lst {c:Nat} {H H1:Hp} (a:Go c H H1) {p:Addr} {xs:List V} (e:H p=some (.lst xs)):H1 p=some (.lst xs):=a.oth p _ e fun _ z=>by cases z
theorem Go.tup {c:Nat} {H H1:Hp} (a:Go c H H1) {p:Addr} {xs:List V} (e:H p=some (.tup xs)):H1 p=some (.tup xs):=a.oth p _ e fun _ z=>by cases z
theorem Go.seq {c:Nat} {K:W.Frag} {H H1:Hp} (g:Go c H H1) {a:Addr} {xs:List V} (h:SqL K H a xs):SqL K H1 a xs:=by
 rcases h with(h|⟨o,h⟩)|h
 .exact .inl (.inl (g.lst h))
 .exact .inl (.inr ⟨o,g.oth _ _ h fun _ z=>by cases z⟩)
 .exact .inr h
theorem Go.new {c:Nat} {H:Hp} {p:Addr} (h:H p=none) (o:HO):Go c H (upd H p o):=.of_same fun b u q=>by rw[ad' (ah' q h)];exact q
theorem Go.draw {H:Hp} {b:Addr} {n m:Nat} (e:H b=some (dy' b n)) (h:m<=n+1) (o:HO):Go 1 H (upd (upd H b o) b (dy' b m)):=by
 rw[fl']
 refine⟨fun p k q=>?_,fun p u q no=>?_,fun p q=>?_⟩
 .by_cases hp:p=b
  .subst hp
   rw[e]at q
   have:=uV' (Option.some.inj q)
   exact⟨m,by omega,aa'⟩
  .exact⟨k,by omega,by rw[ad' hp];exact q⟩
 .rw[ad']
  .exact q
  .intro z
   subst z
   rw[e]at q
   cases q
   exact no _ rfl
 .by_cases hp:p=b
  .subst hp
   rw[aa']at q
   cases q
  .rw[ad' hp]at q
   exact q
section
variable {C:Rc} {σ:L2.St} {H:Hp} {Q:VK} {D:Ends} {Qb:Bool->Hp->Prop}
def kV (o:Option (Option V)) (H:Hp) (Q:VK):Prop:=∃v,o=some (some v)/\Q v H
theorem eB' {v:V}:kV (some (some v)) H Q=Q v H:=propext ⟨fun⟨u,e,q⟩=>by cases e;exact q,fun q=>⟨v,rfl,q⟩⟩
theorem gH' {i:Nat}:tE C (.var i) σ H Q=kV σ[i]? H Q:=rfl
theorem pt' {n:Int}:tE C (.int n) σ H Q=Q (.int n) H:=rfl
theorem uW' {b:Bool}:tE C (.bl b) σ H Q=Q (.bl b) H:=rfl
theorem pu':tE C .non σ H Q=Q .non H:=rfl
theorem pv' {x:Str}:tE C (.str x) σ H Q=Q (.str x) H:=rfl
theorem rS' {x:String}:tE C (.ty x) σ H Q=Q (.ty x) H:=rfl
def kB1 (C:Rc) (σ:L2.St) (op:Operator) (b:Ce) (Q:VK):VK:=fun x H=>tE C b σ H fun y H2=>eN' C.K op x y H2 Q
def kB2 (C:Rc) (op:Operator) (x:V) (Q:VK):VK:=fun y H=>eN' C.K op x y H Q
theorem pw' {op:Operator} {a b:Ce}:tE C (.bin op a b) σ H Q=tE C a σ H (kB1 C σ op b Q):=rfl
theorem px' {op:Operator} {b:Ce} {x:V}:kB1 C σ op b Q x H=tE C b σ H (kB2 C op x Q):=rfl
theorem py' {op:Operator} {x y:V}:kB2 C op x Q y H=eN' C.K op x y H Q:=rfl
def kC1 (C:Rc) (σ:L2.St) (op:CmpOp) (b:Ce) (Q:VK):VK:=fun x H=>tE C b σ H fun y H2=>cL' C.K op x y H2 Q
def kC2 (C:Rc) (op:CmpOp) (x:V) (Q:VK):VK:=fun y H=>cL' C.K op x y H Q
theorem pz' {op:CmpOp} {a b:Ce}:tE C (.cmp op a b) σ H Q=tE C a σ H (kC1 C σ op b Q):=rfl
theorem pA' {op:CmpOp} {b:Ce} {x:V}:kC1 C σ op b Q x H=tE C b σ H (kC2 C op x Q):=rfl
theorem pB' {op:CmpOp} {x y:V}:kC2 C op x Q y H=cL' C.K op x y H Q:=rfl
def kI1 (C:Rc) (σ:L2.St) (b:Ce) (Q:VK):VK:=fun x H=>tE C b σ H fun y H2=>nX' C.K x y H2 Q
def kI2 (C:Rc) (x:V) (Q:VK):VK:=fun y H=>nX' C.K x y H Q
theorem pC' {a b:Ce}:tE C (.idx a b) σ H Q=tE C a σ H (kI1 C σ b Q):=rfl
theorem pD' {b:Ce} {x:V}:kI1 C σ b Q x H=tE C b σ H (kI2 C x Q):=rfl
theorem pE' {x y:V}:kI2 C x Q y H=nX' C.K x y H Q:=rfl
def zl' (Q:VK):VK:=fun x H=>rU (fun i=>.int (-i)) x H Q
theorem pF' {a:Ce}:tE C (.neg a) σ H Q=tE C a σ H (zl' Q):=rfl
theorem iW' {i:Int}:zl' Q (.int i) H=Q (.int (-i)) H:=propext ⟨fun⟨u,e,q⟩=>by cases e;exact q,fun q=>⟨i,rfl,q⟩⟩
def kT (Qb:Bool->Hp->Prop):VK:=fun x H=>∃k,x=.bl k/\Qb k H
theorem uX' {k:Bool}:kT Qb (.bl k) H=Qb k H:=propext ⟨fun⟨u,e,q⟩=>by cases e;exact q,fun q=>⟨k,rfl,q⟩⟩
theorem pG' {op:CmpOp} {a b:Ce}:tQ C (.cmp op a b) σ H Qb=tE C a σ H (kC1 C σ op b (kT Qb)):=rfl
def uY' (Qb:Bool->Hp->Prop):Bool->Hp->Prop:=fun c H=>Qb (!c) H
theorem pH' {q:Cq}:tQ C (.not q) σ H Qb=tQ C q σ H (uY' Qb):=rfl
theorem iX' {c:Bool}:uY' Qb c H=Qb (!c) H:=rfl
def rT' (C:Rc) (σ:L2.St) (b:Cq) (Qb:Bool->Hp->Prop):Bool->Hp->Prop:=fun c H=>if c=true then tQ C b σ H Qb else Qb false H
def yl' (C:Rc) (σ:L2.St) (b:Cq) (Qb:Bool->Hp->Prop):Bool->Hp->Prop:=fun c H=>if c=true then Qb true H else tQ C b σ H Qb
theorem pI' {a b:Cq}:tQ C (.and a b) σ H Qb=tQ C a σ H (rT' C σ b Qb):=rfl
theorem uZ' {a b:Cq}:tQ C (.or a b) σ H Qb=tQ C a σ H (yl' C σ b Qb):=rfl
theorem l5' {b:Cq}:rT' C σ b Qb true H=tQ C b σ H Qb:=rfl
theorem l6' {b:Cq}:rT' C σ b Qb false H=Qb false H:=rfl
theorem pJ' {b:Cq}:yl' C σ b Qb true H=Qb true H:=rfl
theorem pK' {b:Cq}:yl' C σ b Qb false H=tQ C b σ H Qb:=rfl
variable {K:W.Frag} {i j:Int} {x y:Str}
theorem u0':eN' K .Add (.int i) (.int j) H Q=Q (.int (i+j)) H:=rfl
theorem u1':eN' K .Add (.str x) (.str y) H Q=(x.length+y.length<=sizeLine/\Q (.str (x++y)) H):=rfl
theorem u2':eN' K .Sub (.int i) (.int j) H Q=Q (.int (i-j)) H:=propext ⟨fun⟨_,_,e,e',q⟩=>by cases e;cases e';exact q,fun q=>⟨_,_,rfl,rfl,q⟩⟩
theorem u3':eN' K .Mult (.int i) (.int j) H Q=(uK' i j/\Q (.int (i*j)) H):=rfl
theorem pL':eN' K .Mult (.str x) (.int j) H Q=(-1000000<=j/\j<=1000000/\x.length*j.toNat<=1000000/\Q (.str (Txt.mul x j)) H):=rfl
theorem u4':eN' K .Mod (.int i) (.int j) H Q=(0<j/\Q (.int (i % j)) H):=propext ⟨fun⟨_,_,e,e',c,q⟩=>by cases e;cases e';exact⟨c,q⟩,fun q=>⟨_,_,rfl,rfl,q.1,q.2⟩⟩
theorem u5':eN' K .FloorDiv (.int i) (.int j) H Q=(rI' i j/\Q (.int (i / j)) H):=propext ⟨fun⟨_,_,e,e',c,q⟩=>by cases e;cases e';exact⟨c,q⟩,fun q=>⟨_,_,rfl,rfl,q.1,q.2⟩⟩
theorem u6':eN' K .Pow (.int i) (.int j) H Q=(xr' i j/\Q (.int (i ^ j.toNat)) H):=propext ⟨fun⟨_,_,e,e',c,q⟩=>by cases e;cases e';exact⟨c,q⟩,fun q=>⟨_,_,rfl,rfl,q.1,q.2⟩⟩
theorem zm':cL' K .Lt (.int i) (.int j) H Q=Q (.bl (decide (i<j))) H:=propext ⟨fun⟨_,_,e,e',q⟩=>by cases e;cases e';exact q,fun q=>⟨_,_,rfl,rfl,q⟩⟩
theorem zn':cL' K .Gt (.int i) (.int j) H Q=Q (.bl (decide (j<i))) H:=propext ⟨fun⟨_,_,e,e',q⟩=>by cases e;cases e';exact q,fun q=>⟨_,_,rfl,rfl,q⟩⟩
theorem zo':cL' K .GtE (.int i) (.int j) H Q=Q (.bl (decide (j<=i))) H:=propext ⟨fun⟨_,_,e,e',q⟩=>by cases e;cases e';exact q,fun q=>⟨_,_,rfl,rfl,q⟩⟩
theorem zp':cL' K .Eq (.int i) (.int j) H Q=Q (.bl (decide (i=j))) H:=by
 have e:decide (V.int i=V.int j)=decide (i=j):=by simp
 exact propext ⟨fun q=>e ▸ q.2,fun q=>⟨rfl,e.symm ▸ q⟩⟩
theorem u7':cL' K .Eq (.str x) (.str y) H Q=Q (.bl (decide (x=y))) H:=by
 have e:decide (V.str x=V.str y)=decide (x=y):=by simp
 exact propext ⟨fun q=>e ▸ q.2,fun q=>⟨rfl,e.symm ▸ q⟩⟩
theorem pM' {a:Addr}:nX' K (.ref a) (.int i) H Q=(f0' K (.ref a) (.int i) H Q\/ga' K (.ref a) (.int i) H Q):=rfl
def u8' (C:Rc) (r:Css) (D:Ends):Ends:={ D with nx:=tSs C r D }
theorem pN':tSs C .nil D σ H=D.nx σ H:=rfl
theorem l7' {s:Cs} {r:Css}:tSs C (.cons s r) D σ H=tS C s (u8' C r D) σ H:=rfl
theorem gI' {r:Css}:(u8' C r D).nx σ H=tSs C r D σ H:=rfl
theorem pO' {r:Css}:(u8' C r D).rt=D.rt:=rfl
theorem pP' {r:Css}:(u8' C r D).bk=D.bk:=rfl
theorem pQ' {r:Css}:(u8' C r D).ct=D.ct:=rfl
theorem u9' {e:Ce}:tS C (.ret e) D σ H=tE C e σ H D.rt:=rfl
def va' (D:Ends) (σ:L2.St):VK:=fun _ H=>D.nx σ H
theorem pR' {e:Ce}:tS C (.expr e) D σ H=tE C e σ H (va' D σ):=rfl
theorem iY' {v:V}:va' D σ v H=D.nx σ H:=rfl
def zq' (i:Nat) (D:Ends) (σ:L2.St):VK:=fun x H=>D.nx (σ.set i (some x)) H
theorem vb' {i:Nat} {e:Ce}:tS C (.asg (.name i) e) D σ H=tE C e σ H (zq' i D σ):=rfl
theorem h6' {i:Nat} {v:V}:zq' i D σ v H=D.nx (σ.set i (some v)) H:=rfl
def vc' (C:Rc) (o i:Ce) (D:Ends) (σ:L2.St):VK:=fun v H=>tE C o σ H fun p H1=>tE C i σ H1 fun k H2=>dM' p k v H2 fun H3=>D.nx σ H3
def vd' (C:Rc) (i:Ce) (v:V) (D:Ends) (σ:L2.St):VK:=fun p H1=>tE C i σ H1 fun k H2=>dM' p k v H2 fun H3=>D.nx σ H3
def ve' (p v:V) (D:Ends) (σ:L2.St):VK:=fun k H2=>dM' p k v H2 fun H3=>D.nx σ H3
theorem vf' {o i e:Ce}:tS C (.asg (.sub o i) e) D σ H=tE C e σ H (vc' C o i D σ):=rfl
theorem iZ' {o i:Ce} {v:V}:vc' C o i D σ v H=tE C o σ H (vd' C i v D σ):=rfl
theorem i0' {i:Ce} {v p:V}:vd' C i v D σ p H=tE C i σ H (ve' p v D σ):=rfl
theorem i1' {v p k:V}:ve' p v D σ k H=dM' p k v H (D.nx σ):=rfl
def kIf (C:Rc) (a b:Css) (D:Ends) (σ:L2.St):Bool->Hp->Prop:=fun c H=>if c=true then tSs C a D σ H else tSs C b D σ H
theorem zr' {q:Cq} {a b:Css}:tS C (.ite q a b) D σ H=tQ C q σ H (kIf C a b D σ):=rfl
theorem vg' {a b:Css}:kIf C a b D σ true H=tSs C a D σ H:=rfl
theorem vh' {a b:Css}:kIf C a b D σ false H=tSs C b D σ H:=rfl
theorem aV' {p:Prop} [Decidable p] {F:Bool->Hp->Prop} (h1:p->F true H) (h2:¬p->F false H):F (decide p) H:=by
 by_cases h:p
 .rw[decide_eq_true h];exact h1 h
 .rw[decide_eq_false h];exact h2 h
end
section
variable {C:Rc} {σ:L2.St} {H:Hp} {Q:VK} {D:Ends} {Qb:Bool->Hp->Prop} {Qs:List V->Hp->Prop}
def kA1 (C:Rc) (σ:L2.St) (r:Ces) (Qs:List V->Hp->Prop):VK:=fun x H=>tA C r σ H fun xs H2=>Qs (x :: xs) H2
def kA2 (x:V) (Qs:List V->Hp->Prop):List V->Hp->Prop:=fun xs H=>Qs (x :: xs) H
theorem j8':tA C .nil σ H Qs=Qs [] H:=rfl
theorem dK' {e:Ce} {r:Ces}:tA C (.cons e r) σ H Qs=tE C e σ H (kA1 C σ r Qs):=rfl
theorem cw' {r:Ces} {x:V}:kA1 C σ r Qs x H=tA C r σ H (kA2 x Qs):=rfl
theorem fc' {x:V} {xs:List V}:kA2 x Qs xs H=Qs (x :: xs) H:=rfl
def w5' (Q:VK):List V->Hp->Prop:=fun xs H=>xs.length<=sizeLine/\∀p,H p=none->Q (.ref p) (upd H p (.tup xs))
def zs' (Q:VK):List V->Hp->Prop:=fun xs H=>xs.length<=sizeLine/\∀p,H p=none->Q (.ref p) (upd H p (.lst xs))
theorem l8' {es:Ces}:tE C (.tup es) σ H Q=tA C es σ H (w5' Q):=rfl
theorem pS' {es:Ces}:tE C (.lst es) σ H Q=tA C es σ H (zs' Q):=rfl
theorem h7' {xs:List V}:w5' Q xs H=(xs.length<=sizeLine/\∀p,H p=none->Q (.ref p) (upd H p (.tup xs))):=rfl
theorem l9' {xs:List V}:zs' Q xs H=(xs.length<=sizeLine/\∀p,H p=none->Q (.ref p) (upd H p (.lst xs))):=rfl
def rU' (o:Option Sp) (E:XK) (Q:VK):List V->Hp->Prop:=fun vs H=>match o with
 |some sp=>sp (vs++[]) H Q E
 |none=>False
theorem rV' {f:Str} {es:Ces} {sp:Sp} (h:C.fs f=some sp):tE C (.call f es) σ H Q=tA C es σ H (rU' (some sp) (C.xk σ) Q):=by
 show(match C.fs f with|some sp=>nq' sp [] (C.xk σ) (tA C es) σ H Q|none=>False)=_
 rw[h]
 rfl
theorem i2' {sp:Sp} {E:XK} {vs:List V}:rU' (some sp) E Q vs H=sp vs H Q E:=by
 show sp (vs++[]) H Q E=_
 rw[bG]
def zt' (C:Rc) (f:Bf) (Q:VK):List V->Hp->Prop:=fun vs H=>dc' C.K f vs H Q
theorem i3' {f:Bf} {es:Ces}:tE C (.blt f es) σ H Q=tA C es σ H (zt' C f Q):=rfl
theorem eC' {f:Bf} {vs:List V}:zt' C f Q vs H=dc' C.K f vs H Q:=rfl
def vi' (C:Rc) (σ:L2.St) (m:Mf) (es:Ces) (Q:VK):VK:=fun x H=>tyV C.K (fG' m) x H/\tA C es σ H fun xs H2=>j0' C.K m x xs H2 Q
def vj' (C:Rc) (m:Mf) (x:V) (Q:VK):List V->Hp->Prop:=fun xs H=>j0' C.K m x xs H Q
theorem pT' {m:Mf} {o:Ce} {es:Ces}:tE C (.met m o es) σ H Q=tE C o σ H (vi' C σ m es Q):=rfl
theorem i4' {m:Mf} {es:Ces} {x:V}:vi' C σ m es Q x H=(tyV C.K (fG' m) x H/\tA C es σ H (vj' C m x Q)):=rfl
theorem i5' {m:Mf} {x:V} {xs:List V}:vj' C m x Q xs H=j0' C.K m x xs H Q:=rfl
def ym' (C:Rc) (σ:L2.St) (a b:Ce) (Q:VK):Bool->Hp->Prop:=fun c H=>if c=true then tE C a σ H Q else tE C b σ H Q
theorem pU' {q:Cq} {a b:Ce}:tE C (.ife q a b) σ H Q=tQ C q σ H (ym' C σ a b Q):=rfl
theorem pV' {a b:Ce}:ym' C σ a b Q true H=tE C a σ H Q:=rfl
theorem pW' {a b:Ce}:ym' C σ a b Q false H=tE C b σ H Q:=rfl
def yn' (Q:VK):VK:=fun x H=>∃c,x=.bl c/\Q (.bl (!c)) H
theorem pX' {a:Ce}:tE C (.not a) σ H Q=tE C a σ H (yn' Q):=rfl
def yo' (C:Rc) (σ:L2.St) (b:Ce) (Q:VK):VK:=fun x H=>∃c,x=.bl c/\if c=true then tE C b σ H Q else Q (.bl false) H
def Ag' (C:Rc) (σ:L2.St) (b:Ce) (Q:VK):VK:=fun x H=>∃c,x=.bl c/\if c=true then Q (.bl true) H else tE C b σ H Q
theorem pY' {a b:Ce}:tE C (.and a b) σ H Q=tE C a σ H (yo' C σ b Q):=rfl
theorem vk' {a b:Ce}:tE C (.or a b) σ H Q=tE C a σ H (Ag' C σ b Q):=rfl
def yp' (C:Rc) (Qb:Bool->Hp->Prop):VK:=fun x H=>∃k,tJ' C.K x H k/\Qb k H
theorem pZ' {e:Ce}:tQ C (.val e) σ H Qb=tE C e σ H (yp' C Qb):=rfl
theorem ma' {b:Bool}:yp' C Qb (.bl b) H=Qb b H:=propext ⟨fun⟨u,e,q⟩=>by
  have e:u=b:=e
  subst e
  exact q,fun q=>⟨b,rfl,q⟩⟩
def vl' (C:Rc) (σ:L2.St) (lo hi:Co) (Q:VK):VK:=fun x H=>tO C lo σ H fun l H2=>tO C hi σ H2 fun u H3=>rSl C.K x l u H3 Q
def vm' (C:Rc) (σ:L2.St) (hi:Co) (x:V) (Q:VK):Option Int->Hp->Prop:=fun l H=>tO C hi σ H fun u H3=>rSl C.K x l u H3 Q
def vn' (C:Rc) (x:V) (l:Option Int) (Q:VK):Option Int->Hp->Prop:=fun u H=>rSl C.K x l u H Q
theorem p0' {a:Ce} {lo hi:Co}:tE C (.cut a lo hi) σ H Q=tE C a σ H (vl' C σ lo hi Q):=rfl
theorem i6' {lo hi:Co} {x:V}:vl' C σ lo hi Q x H=tO C lo σ H (vm' C σ hi x Q):=rfl
theorem i7' {hi:Co} {x:V} {l:Option Int}:vm' C σ hi x Q l H=tO C hi σ H (vn' C x l Q):=rfl
theorem i8' {x:V} {l u:Option Int}:vn' C x l Q u H=rSl C.K x l u H Q:=rfl
variable {Qo:Option Int->Hp->Prop}
def ob' (Qo:Option Int->Hp->Prop):VK:=fun x H=>∃i,x=.int i/\Qo (some i) H
theorem p1':tO C .none σ H Qo=Qo none H:=rfl
theorem p2' {e:Ce}:tO C (.some e) σ H Qo=tE C e σ H (ob' Qo):=rfl
theorem gJ' {i:Int}:ob' Qo (.int i) H=Qo (some i) H:=propext ⟨fun⟨u,e,q⟩=>by cases e;exact q,fun q=>⟨i,rfl,q⟩⟩
theorem p3' {K:W.Frag} {a:Addr} {l u:Option Int}:rSl K (.ref a) l u H Q=(wQ' K (.ref a) l u H Q\/wP' K (.ref a) l u H Q\/w0' K (.ref a) l u H Q):=rfl
def zu' (i:Nat) (sub:Bool) (x:V) (D:Ends) (σ:L2.St):VK:=fun y H=>∃a b,x=.int a/\y=.int b/\D.nx (σ.set i (some (.int (if sub then a-b else a+b)))) H
theorem vo' {i:Nat} {sub:Bool} {e:Ce} {a:Int} (h:σ[i]?=some (some (.int a))):tS C (.aug i sub e) D σ H=tE C e σ H (zu' i sub (.int a) D σ):=by
 show(∃x,σ[i]?=some (some x)/\tE C e σ H fun y H1=>(ipI fun i j=>if sub then i-j else i+j) x y H1 fun z H2=>D.nx (σ.set i (some z)) H2)=_
 rw[h]
 exact propext ⟨fun⟨x,e,q⟩=>by cases e;exact q,fun q=>⟨_,rfl,q⟩⟩
theorem i9' {i:Nat} {sub:Bool} {a b:Int}:zu' i sub (.int a) D σ (.int b) H=D.nx (σ.set i (some (.int (if sub then a-b else a+b)))) H:=propext ⟨fun⟨_,_,e,e',q⟩=>by cases e;cases e';exact q,fun q=>⟨_,_,rfl,rfl,q⟩⟩
def yq' (C:Rc) (σ:L2.St) (i j:Nat) (b:Ce) (D:Ends):VK:=fun v H=>tE C b σ H fun w H1=>D.nx ((σ.set i (some v)).set j (some w)) H1
def vp' (σ:L2.St) (i j:Nat) (v:V) (D:Ends):VK:=fun w H=>D.nx ((σ.set i (some v)).set j (some w)) H
theorem ja' {i j:Nat} {b:Ce} {v:V}:yq' C σ i j b D v H=tE C b σ H (vp' σ i j v D):=rfl
theorem jb' {i j:Nat} {v w:V}:vp' σ i j v D w H=D.nx ((σ.set i (some v)).set j (some w)) H:=rfl
end
def cb (b:Bool):Nat:=if b then 49 else 48
def tx (l:List Bool):Str:=⟨(l.map cb).toArray⟩
theorem vq' {a b:Bool} (h:cb a=cb b):a=b:=by cases a<;>cases b<;>first|rfl|cases h
theorem jc' {a b:List Bool} (h:tx a=tx b):a=b:=by
 have h1:(a.map cb).toArray=(b.map cb).toArray:=congrArg Str.cps h
 have h2:a.map cb=b.map cb:=by simpa using h1
 exact List.map_inj_right (f:=cb) (fun x y=>vq') |>.mp h2
theorem b3' {a:List Bool}:(tx a).length=a.length:=by show(a.map cb).toArray.size=_;simp
theorem eD' {a:List Bool}:(tx a).cps.toList=a.map cb:=rfl
theorem h8' {a:List Bool}:(tx a).cps.size=a.length:=by show(a.map cb).toArray.size=_;simp
theorem p4' {a:List Bool} {i:Nat}:(tx a).cps[i]?=a[i]?.map cb:=by show(a.map cb).toArray[i]?=_;simp
theorem mb' {a b:List Bool}:tx a++tx b=tx (a++b):=by
 show(⟨(a.map cb).toArray++(b.map cb).toArray⟩:Str)=⟨((a++b).map cb).toArray⟩
 simp
theorem vr':(PySem.Str.ofString "01")=tx [false,true]:=by decide +kernel
theorem vt':(PySem.Str.ofString "10")=tx [true,false]:=by decide +kernel
theorem zv':(PySem.Str.ofString "0")=tx [false]:=by decide +kernel
theorem zw':(PySem.Str.ofString "1")=tx [true]:=by decide +kernel
theorem p5':(PySem.Str.ofString "")=tx []:=by decide +kernel
theorem p6' {c:Bool}:PySem.intText? (tx [c])=some (if c then 1 else 0):=by cases c<;>decide +kernel
theorem rW' {a:List Bool} {n:Nat} (h:n<=a.length):Txt.slice (tx a) none (some (n:Int))=tx (a.take n):=by
 have e:=slice_closes_to (x:=tx a) (j:=n) ⟨by omega,by rw[eD',ai];omega⟩
 rw[eq_of_beq e,eD']
 simp[tx,List.map_take]
theorem rX' {a:List Bool} {n:Nat} (h:n<=a.length):Txt.slice (tx a) (some (n:Int)) none=tx (a.drop n):=by
 have e:=slice_closes_from (x:=tx a) (i:=n) ⟨by omega,by rw[eD',ai];omega⟩
 rw[eq_of_beq e,eD']
 have e2:((List.map cb a).length:Int)-(n:Int)=((a.length-n:Nat):Int):=by rw[ai];omega
 rw[e2]
 simp only[aK,tx,List.map_drop]
 rw[ba (by simp)]
theorem vu' {α:Type} {xs:List α} {i:Int} (h0:0<=i) (h1:i<xs.length):∃v,xs[i.toNat]?=some v/\atI xs i=some v:=by
 obtain⟨j,rfl⟩:=ay h0
 have hk:j<xs.length:=by omega
 exact⟨xs[j],by simp,bX' (by rw[ac hk])⟩
theorem al' {N:List Str} {vs:List V} {n:Nat} (h:N.length=n):L2.aB' N vs=vs.map some++aG (n-vs.length) none:=by subst h;rfl
section
variable {C:Rc} {σ:L2.St} {H:Hp} {Q:VK} {D:Ends} {Qb:Bool->Hp->Prop}
theorem p7' {i:Nat} {v:V} {R:L2.St->Hp->Prop}:tG C (.name i) v σ H R=R (σ.set i (some v)) H:=rfl
theorem dg' {i j:Nat} {a:Addr} {x y:V} {R:L2.St->Hp->Prop} (h:SqT C.K H a [x,y]) (q:R ((σ.set i (some x)).set j (some y)) H):tG C (.tup (.cons (.name i) (.cons (.name j) .nil))) (.ref a) σ H R:=
 ⟨a,[x,y],rfl,.inl h,rfl,_,_,rfl,_,_,rfl,rfl,q⟩
theorem vv' {i j k:Nat} {a:Addr} {x y z:V} {R:L2.St->Hp->Prop} (h:SqT C.K H a [x,y,z]) (q:R (((σ.set i (some x)).set j (some y)).set k (some z)) H):tG C (.tup (.cons (.name i) (.cons (.name j) (.cons (.name k) .nil)))) (.ref a) σ H R:=
 ⟨a,[x,y,z],rfl,.inl h,rfl,_,_,rfl,_,_,rfl,_,_,rfl,rfl,q⟩
def p8' (C:Rc) (t:Ct) (b:Css) (D:Ends) (σ:L2.St) (J:It) (H1:Hp):Prop:=∃W:Nat->Nat->L2.St->Hp->Prop,(∃m,W 0 m σ H1)/\∀i m σ H,W i m σ H->
 (J.stop i H/\D.nx σ H)\/(J.go i H/\∃N:L2.St->Hp->Prop,(∀σ' H',N σ' H'->∃m',m'<m/\W (i+1) m' σ' H')/\∀x H',J.yld i H x H'->tG C t x σ H' fun σ2 H2=>tSs C b { D with nx:=N,ct:=N,bk:=D.nx } σ2 H2)
theorem vw' {t:Ct} {it:Ci} {b:Css}:tS C (.for_ t it b) D σ H=tI C it σ H (p8' C t b D σ):=rfl
def kIv (C:Rc) (R:It->Hp->Prop):VK:=fun x H1=>
 (∃a,x=.ref a/\(∃xs,SqL C.K H1 a xs)/\R (Itl C.K a) H1)\/(∃a,x=.ref a/\(∃xs,SqT C.K H1 a xs)/\R (Itt C.K a) H1)\/∃z,x=.str z/\R (Its z) H1
theorem vx' {e:Ce} {R:It->Hp->Prop}:tI C (.val e) σ H R=tE C e σ H (kIv C R):=rfl
def kR1 (R:It->Hp->Prop):VK:=fun x H1=>∃j:Int,x=.int j/\-(2 ^ 62)<=j/\j<2 ^ 62/\R (Itr 0 j.toNat) H1
theorem oc' {e:Ce} {R:It->Hp->Prop}:tI C (.range1 e) σ H R=tE C e σ H fun x H1=>∃j:Int,[x]=[.int j]/\-(2 ^ 62)<=j/\j<2 ^ 62/\R (Itr 0 j.toNat) H1:=rfl
theorem gK' {e:Ce} {R:It->Hp->Prop}:tI C (.range1 e) σ H R=tE C e σ H (kR1 R):=by
 rw[oc']
 congr 1
 funext x H1
 unfold kR1
 simp only[List.cons.injEq,and_true]
def w6' (R:It->Hp->Prop) (x:V):VK:=fun y H1=>∃i j:Int,x=.int i/\y=.int j/\(-(2 ^ 62)<=i/\i<2 ^ 62/\-(2 ^ 62)<=j/\j<2 ^ 62)/\R (Itr i (j-i).toNat) H1
def yr' (C:Rc) (σ:L2.St) (e:Ce) (R:It->Hp->Prop):VK:=fun x H1=>tE C e σ H1 (w6' R x)
theorem gL' {a b:Ce} {R:It->Hp->Prop}:tI C (.range2 a b) σ H R=tE C a σ H (yr' C σ b R):=by
 show(tE C a σ H fun x H1=>tE C b σ H1 fun y H2=>∃i j:Int,[x,y]=[.int i,.int j]/\(-(2 ^ 62)<=i/\i<2 ^ 62/\-(2 ^ 62)<=j/\j<2 ^ 62)/\R (Itr i (j-i).toNat) H2)=_
 congr 1
 funext x H1
 unfold yr'
 congr 1
 funext y H2
 unfold w6'
 simp only[List.cons.injEq,and_true,and_assoc]
theorem mc' {e:Ce} {R:It->Hp->Prop} {x:V}:yr' C σ e R x H=tE C e σ H (w6' R x):=rfl
def kZ2 (C:Rc) (R:It->Hp->Prop) (x:V):VK:=fun y H1=>∃(k j:Bool) (a b:Addr),x=.ref a/\y=.ref b/\(∃xs,Sq k C.K H1 a xs)/\(∃ys,Sq j C.K H1 b ys)/\R (zV' k j C.K a b) H1
def kZ1 (C:Rc) (σ:L2.St) (e:Ce) (R:It->Hp->Prop):VK:=fun x H1=>tE C e σ H1 (kZ2 C R x)
theorem p9' {e:Ce} {R:It->Hp->Prop} {x:V}:kZ1 C σ e R x H=tE C e σ H (kZ2 C R x):=rfl
def kEn (C:Rc) (R:It->Hp->Prop):VK:=fun x H1=>(∃a,x=.ref a/\(∃xs,SqL C.K H1 a xs)/\R (Ite C.K a) H1)\/(∃z,x=.str z/\R (te' z) H1)\/∃a,x=.ref a/\(∃xs,SqT C.K H1 a xs)/\R (wR' C.K a) H1
theorem qa' {a:Ce} {R:It->Hp->Prop}:tI C (.enum a) σ H R=tE C a σ H (kEn C R):=by
 show(tE C a σ H fun x H1=>∃y,[x]=[y]/\((∃a,y=.ref a/\(∃xs,SqL C.K H1 a xs)/\R (Ite C.K a) H1)\/(∃z,y=.str z/\R (te' z) H1)\/∃a,y=.ref a/\(∃xs,SqT C.K H1 a xs)/\R (wR' C.K a) H1))=_
 congr 1
 funext x H1
 unfold kEn
 exact propext ⟨fun⟨y,e,q⟩=>by cases e;exact q,fun q=>⟨x,rfl,q⟩⟩
theorem jd' {R:It->Hp->Prop} {a:Addr} {xs:List V} (h:SqL C.K H a xs) (q:R (Ite C.K a) H):kEn C R (.ref a) H:=.inl ⟨a,rfl,⟨xs,h⟩,q⟩
theorem vy' {R:It->Hp->Prop} {z:Str} (q:R (te' z) H):kEn C R (.str z) H:=.inr (.inl ⟨z,rfl,q⟩)
theorem md' {R:It->Hp->Prop} {z:Str} (q:R (Its z) H):kIv C R (.str z) H:=.inr (.inr ⟨z,rfl,q⟩)
theorem ba' {R:It->Hp->Prop} {a:Addr} {xs:List V} (h:SqL C.K H a xs) (q:R (Itl C.K a) H):kIv C R (.ref a) H:=.inl ⟨a,rfl,⟨xs,h⟩,q⟩
theorem dh' {R:It->Hp->Prop} {a:Addr} {xs:List V} (h:SqT C.K H a xs) (q:R (Itt C.K a) H):kIv C R (.ref a) H:=.inr (.inl ⟨a,rfl,⟨xs,h⟩,q⟩)
theorem dP' {R:It->Hp->Prop} {j:Int} (h0:-(2 ^ 62)<=j) (h1:j<2 ^ 62) (q:R (Itr 0 j.toNat) H):kR1 R (.int j) H:=⟨j,rfl,h0,h1,q⟩
theorem ys' {R:It->Hp->Prop} {i j:Int} (h0:-(2 ^ 62)<=i) (h1:i<2 ^ 62) (h2:-(2 ^ 62)<=j) (h3:j<2 ^ 62) (q:R (Itr i (j-i).toNat) H):w6' R (.int i) (.int j) H:=⟨i,j,rfl,rfl,⟨h0,h1,h2,h3⟩,q⟩
theorem vz' {a:Addr} {xs:List V} {t:Ct} {b:Css} (Pv:Nat->L2.St->Hp->Prop) (h0:Pv 0 σ H) (hl:∀i σ H,i<=xs.length->Pv i σ H->SqL C.K H a xs)
  (hs:∀i x σ H,xs[i]?=some x->Pv i σ H->tG C t x σ H (tSs C b { D with nx:=Pv (i+1),ct:=Pv (i+1),bk:=D.nx })) (hd:∀σ H,Pv xs.length σ H->D.nx σ H):p8' C t b D σ (Itl C.K a) H:=nl' Pv h0 hl hs hd
theorem fL' {lo:Int} {n:Nat} {t:Ct} {b:Css} (Pv:Nat->L2.St->Hp->Prop) (h0:Pv 0 σ H)
  (hs:∀i σ H,i<n->Pv i σ H->tG C t (.int (lo+i)) σ H (tSs C b { D with nx:=Pv (i+1),ct:=Pv (i+1),bk:=D.nx })) (hd:∀σ H,Pv n σ H->D.nx σ H):p8' C t b D σ (Itr lo n) H:=kt' Pv h0 hs hd
theorem yt' {z:Str} {t:Ct} {b:Css} (Pv:Nat->L2.St->Hp->Prop) (h0:Pv 0 σ H)
  (hs:∀i c σ H,z.cps[i]?=some c->Pv i σ H->tG C t (.str ⟨#[c]⟩) σ H (tSs C b { D with nx:=Pv (i+1),ct:=Pv (i+1),bk:=D.nx })) (hd:∀σ H,Pv z.cps.size σ H->D.nx σ H):p8' C t b D σ (Its z) H:=by
 refine⟨fun i m σ H=>m=z.cps.size-i/\i<=z.cps.size/\Pv i σ H,⟨z.cps.size,by simp,aT _,h0⟩,?_⟩
 rintro i m σ H ⟨rfl,hi,p⟩
 by_cases hlt:i<z.cps.size
 .refine .inr ⟨hlt,Pv (i+1),fun σ' H' p'=>⟨z.cps.size-(i+1),by omega,rfl,hlt,p'⟩,fun x H' y=>?_⟩
  obtain⟨e,c,hc,rfl⟩:=y
  subst e
  exact hs i c σ _ hc p
 .have e:i=z.cps.size:=by omega
  subst e
  exact .inl ⟨al _,hd σ H p⟩
theorem vA' {a:Addr} {xs:List V} {t:Ct} {b:Css} (Pv:Nat->L2.St->Hp->Prop) (h0:Pv 0 σ H) (hl:∀i σ H,i<=xs.length->Pv i σ H->SqL C.K H a xs)
  (hs:∀i x σ H p,xs[i]?=some x->H p=none->Pv i σ H->tG C t (.ref p) σ (upd H p (.tup [.int i,x])) (tSs C b { D with nx:=Pv (i+1),ct:=Pv (i+1),bk:=D.nx })) (hd:∀σ H,Pv xs.length σ H->D.nx σ H):p8' C t b D σ (Ite C.K a) H:=by
 refine⟨fun i m σ H=>m=xs.length-i/\i<=xs.length/\Pv i σ H,⟨xs.length,by simp,aT _,h0⟩,?_⟩
 rintro i m σ H ⟨rfl,hi,p⟩
 have q:=hl i σ H hi p
 by_cases hlt:i<xs.length
 .refine .inr ⟨⟨xs,xs[i],q,by simp[hlt]⟩,Pv (i+1),fun σ' H' p'=>⟨xs.length-(i+1),by omega,rfl,hlt,p'⟩,fun x H' y=>?_⟩
  obtain⟨ad,v,rfl,hn,y,rfl⟩:=y
  exact hs i v σ _ ad (y xs q) hn p
 .have e:i=xs.length:=by omega
  subst e
  exact .inl ⟨⟨xs,q,rfl⟩,hd σ H p⟩
theorem rY' {l:List Bool} {t:Ct} {b:Css} (Pv:Nat->L2.St->Hp->Prop) (h0:Pv 0 σ H)
  (hs:∀i c σ H p,l[i]?=some c->H p=none->Pv i σ H->tG C t (.ref p) σ (upd H p (.tup [.int i,.str (tx [c])])) (tSs C b { D with nx:=Pv (i+1),ct:=Pv (i+1),bk:=D.nx })) (hd:∀σ H,Pv l.length σ H->D.nx σ H):p8' C t b D σ (te' (tx l)) H:=by
 refine⟨fun i m σ H=>m=l.length-i/\i<=l.length/\Pv i σ H,⟨l.length,by simp,aT _,h0⟩,?_⟩
 rintro i m σ H ⟨rfl,hi,p⟩
 by_cases hlt:i<l.length
 .refine .inr ⟨(show i<(tx l).cps.size by rw[h8'];exact hlt),Pv (i+1),fun σ' H' p'=>⟨l.length-(i+1),by omega,rfl,hlt,p'⟩,fun x H' y=>?_⟩
  obtain⟨ad,v,rfl,hn,⟨c,hc,rfl⟩,rfl⟩:=y
  rw[p4',ac hlt]at hc
  cases hc
  exact hs i l[i] σ _ ad (ac hlt) hn p
 .have e:i=l.length:=by omega
  subst e
  exact .inl ⟨(show(tx l).cps.size=l.length from h8'),hd σ H p⟩
theorem vB' {l:List Bool} {t:Ct} {b:Css} (Pv:Nat->L2.St->Hp->Prop) (h0:Pv 0 σ H)
  (hs:∀i c σ H,l[i]?=some c->Pv i σ H->tG C t (.str (tx [c])) σ H (tSs C b { D with nx:=Pv (i+1),ct:=Pv (i+1),bk:=D.nx })) (hd:∀σ H,Pv l.length σ H->D.nx σ H):p8' C t b D σ (Its (tx l)) H:=by
 refine yt' Pv h0 (fun i c σ H hc p=>?_) fun σ H p=>hd σ H (by rw[h8']at p;exact p)
 rw[p4']at hc
 cases hl:l[i]? with
 |none=>rw[hl]at hc;cases hc
 |some d=>
  rw[hl]at hc
  cases hc
  exact hs i d σ H hl p
def w7' (C:Rc) (b:Css) (D:Ends) (N:L2.St->Hp->Prop) (σ:L2.St):Bool->Hp->Prop:=fun c H1=>if c=true then ∃N':L2.St->Hp->Prop,(∀σ' H',N' σ' H'->N σ' H')/\tSs C b { D with nx:=N',ct:=N',bk:=D.nx } σ H1 else D.nx σ H1
theorem vC' {q:Cq} {b:Css} (Pv:Nat->L2.St->Hp->Prop) (m:Nat) (h0:Pv m σ H) (hs:∀m σ H,Pv m σ H->tQ C q σ H (w7' C b D (fun σ' H'=>∃m',m'<m/\Pv m' σ' H') σ)):tS C (.whl q b) D σ H:=⟨Pv,⟨m,h0⟩,hs⟩
theorem vD' {b:Css} {N:L2.St->Hp->Prop} (h:tSs C b { D with nx:=N,ct:=N,bk:=D.nx } σ H):w7' C b D N σ true H:=⟨N,fun _ _ q=>q,h⟩
theorem vE' {b:Css} {N:L2.St->Hp->Prop} (h:D.nx σ H):w7' C b D N σ false H:=by unfold w7';rw[if_neg (by decide)];exact h
def gM' (xs:List V) (P:List V->Hp->Prop):VK:=fun v H=>xs.length<sizeLine/\P (xs++[v]) H
def kCT (C:Rc) (elt:Ce) (xs:List V) (P:List V->Hp->Prop) (σ:L2.St):Bool->Hp->Prop:=fun ok H=>if ok=true then tE C elt σ H (gM' xs P)else P xs H
def kCG (C:Rc) (elt:Ce) (q:Cqo) (xs:List V) (P:List V->Hp->Prop):L2.St->Hp->Prop:=fun σ H=>tQo C q σ H (kCT C elt xs P σ)
theorem vF' {elt:Ce} {xs:List V} {P:List V->Hp->Prop}:kCG C elt .none xs P σ H=tE C elt σ H (gM' xs P):=rfl
theorem vG' {elt:Ce} {q:Cq} {xs:List V} {P:List V->Hp->Prop}:kCG C elt (.some q) xs P σ H=tQ C q σ H (kCT C elt xs P σ):=rfl
theorem vH' {elt:Ce} {xs:List V} {P:List V->Hp->Prop}:kCT C elt xs P σ true H=tE C elt σ H (gM' xs P):=rfl
theorem vI' {elt:Ce} {xs:List V} {P:List V->Hp->Prop}:kCT C elt xs P σ false H=P xs H:=rfl
theorem je' {xs:List V} {P:List V->Hp->Prop} {v:V}:gM' xs P v H=(xs.length<sizeLine/\P (xs++[v]) H):=rfl
def qb' (Q:VK) (xs:List V) (H2:Hp):Prop:=∀p,H2 p=none->Q (.ref p) (upd H2 p (.lst xs))
def j9' (C:Rc) (elt:Ce) (own:List Nat) (t:Ct) (q:Cqo) (σ:L2.St) (Q:VK) (J:It) (H1:Hp):Prop:=a9' own (tG C t) (tQo C q) (ei' (tE C elt)) J σ [] H1 (qb' Q)
theorem me' {elt:Ce} {own:List Nat} {t:Ct} {it:Ci} {q:Cqo}:tE C (.comp elt own t it q .nil) σ H Q=tI C it σ H (j9' C elt own t q σ Q):=rfl
theorem fM' {elt:Ce} {own:List Nat} {t:Ct} {q:Cqo} {J:It} {n:Nat} (Pv:Nat->List V->Hp->Prop) (h0:Pv 0 [] H) (hgo:∀i xs H,i<n->Pv i xs H->J.go i H) (hstop:∀xs H,Pv n xs H->J.stop n H)
  (hs:∀i xs H x H' (R:List V->Hp->Prop),i<n->Pv i xs H->J.yld i H x H'->(∀ys H2,Pv (i+1) ys H2->R ys H2)->tG C t x (clr own σ) H' (kCG C elt q xs R)) (hd:∀xs H,Pv n xs H->qb' Q xs H):j9' C elt own t q σ Q J H:=by
 refine⟨fun i m xs H=>m=n-i/\i<=n/\Pv i xs H,⟨n,by simp,aT _,h0⟩,?_⟩
 rintro i m xs H ⟨rfl,hi,p⟩
 by_cases hlt:i<n
 .refine .inr ⟨hgo i xs H hlt p,fun x H' y=>?_⟩
  exact hs i xs H x H' (fun c H4=>∃m',m'<n-i/\(m'=n-(i+1)/\i+1<=n/\Pv (i+1) c H4)) hlt p y fun ys H2 p2=>⟨n-(i+1),by omega,rfl,hlt,p2⟩
 .have e:i=n:=by omega
  subst e
  exact .inl ⟨hstop xs H p,hd xs H p⟩
theorem fe' {elt:Ce} {own:List Nat} {t:Ct} {q:Cqo} {a:Addr} {vs:List V} (Pv:Nat->List V->Hp->Prop) (h0:Pv 0 [] H) (hl:∀i xs H,Pv i xs H->SqL C.K H a vs)
  (hs:∀i xs H x (R:List V->Hp->Prop),vs[i]?=some x->Pv i xs H->(∀ys H2,Pv (i+1) ys H2->R ys H2)->tG C t x (clr own σ) H (kCG C elt q xs R)) (hd:∀xs H,Pv vs.length xs H->qb' Q xs H):j9' C elt own t q σ Q (Itl C.K a) H:=
 fM' (n:=vs.length) Pv h0 (fun i xs H hi p=>⟨vs,vs[i],hl i xs H p,by simp[hi]⟩) (fun xs H p=>⟨vs,hl _ xs H p,al _⟩) (fun i xs H x H' R hi p y k=>by
  obtain⟨e,y⟩:=y
  subst e
  exact hs i xs H' x R (y vs (hl i xs H' p)) p k) hd
theorem qc' {elt:Ce} {own:List Nat} {t:Ct} {q:Cqo} {a:Addr} {vs:List V} (Pv:Nat->List V->Hp->Prop) (h0:Pv 0 [] H) (hl:∀i xs H,Pv i xs H->SqT C.K H a vs)
  (hs:∀i xs H x (R:List V->Hp->Prop),vs[i]?=some x->Pv i xs H->(∀ys H2,Pv (i+1) ys H2->R ys H2)->tG C t x (clr own σ) H (kCG C elt q xs R)) (hd:∀xs H,Pv vs.length xs H->qb' Q xs H):j9' C elt own t q σ Q (Itt C.K a) H:=
 fM' (n:=vs.length) Pv h0 (fun i xs H hi p=>⟨vs,vs[i],hl i xs H p,by simp[hi]⟩) (fun xs H p=>⟨vs,hl _ xs H p,al _⟩) (fun i xs H x H' R hi p y k=>by
  obtain⟨e,y⟩:=y
  subst e
  exact hs i xs H' x R (y vs (hl i xs H' p)) p k) hd
theorem mf' {elt:Ce} {own:List Nat} {t:Ct} {q:Cqo} {lo:Int} {n:Nat} (Pv:Nat->List V->Hp->Prop) (h0:Pv 0 [] H)
  (hs:∀i xs H (R:List V->Hp->Prop),i<n->Pv i xs H->(∀ys H2,Pv (i+1) ys H2->R ys H2)->tG C t (.int (lo+i)) (clr own σ) H (kCG C elt q xs R)) (hd:∀xs H,Pv n xs H->qb' Q xs H):j9' C elt own t q σ Q (Itr lo n) H:=
 fM' (n:=n) Pv h0 (fun i xs H hi p=>hi) (fun xs H p=>al _) (fun i xs H x H' R hi p y k=>by
  obtain⟨e,rfl⟩:=y
  subst e
  exact hs i xs H' R hi p k) hd
end
section
variable {C:Rc} {K:W.Frag} {σ:L2.St} {H:Hp} {Q:VK} {D:Ends} {Qb:Bool->Hp->Prop}
theorem ag' {f:Str} {es:Ces} {sp:Sp} (h:C.fs f=some sp) (q:tA C es σ H (rU' (some sp) (C.xk σ) Q)):tE C (.call f es) σ H Q:=by
 rw[rV' h]
 exact q
theorem ka' {x:Str}:dc' K .len [.str x] H Q=(x.length<=sizeLine/\Q (.int x.length) H):=propext ⟨fun⟨u,n,e,h,q⟩=>by cases e;obtain⟨h1,h2⟩:=h;subst h2;exact⟨h1,q⟩,fun q=>⟨_,_,rfl,⟨q.1,rfl⟩,q.2⟩⟩
theorem gN' {l:List Bool}:dc' K .len [.str (tx l)] H Q=(l.length<=sizeLine/\Q (.int l.length) H):=by rw[ka',b3']
theorem cx' {a:Addr} {xs:List V} (h:SqL K H a xs) (q:Q (.int xs.length) H):dc' K .len [.ref a] H Q:=⟨_,_,rfl,.inl ⟨xs,h,rfl⟩,q⟩
theorem dz' {a:Addr} {xs:List V} (h:SqT K H a xs) (q:Q (.int xs.length) H):dc' K .len [.ref a] H Q:=⟨_,_,rfl,.inr ⟨xs,h,rfl⟩,q⟩
theorem qd' {i:Int}:dc' K .abs [.int i] H Q=Q (.int (if i<0 then -i else i)) H:=propext ⟨fun⟨u,e,q⟩=>by cases e;exact q,fun q=>⟨_,rfl,q⟩⟩
theorem ff' {i:Int}:dc' K .int [.int i] H Q=Q (.int i) H:=rfl
theorem gO' {k:Bool}:dc' K .int [.bl k] H Q=Q (.int (if k then 1 else 0)) H:=rfl
theorem gP' {c:Bool}:dc' K .int [.str (tx [c])] H Q=Q (.int (if c then 1 else 0)) H:=propext ⟨fun⟨n,e,_,q⟩=>by rw[p6']at e;cases e;exact q,fun q=>⟨_,p6',by rw[b3',bK];decide,q⟩⟩
theorem mg' {i j:Int}:dc' K .max [.int i,.int j] H Q=Q (.int (if j > i then j else i)) H:=rfl
theorem mh' {i j:Int}:dc' K .min [.int i,.int j] H Q=Q (.int (if j<i then j else i)) H:=rfl
theorem fg' {x:V} {T c:String} (h:gi' H x=some T) (hT:T∈dt') (hc:c∈["bool","int","str","list","tuple","dict"]) (q:Q (.bl (isT T c)) H):dc' K .isinstance [x,.ty c] H Q:=.inl (.inl ⟨x,T,c,rfl,h,hT,hc,q⟩)
theorem a1' {a:Addr} {xs:List V} {i:Int} {v:V} (h:SqL K H a xs) (e:atI xs i=some v) (q:Q v H):f0' K (.ref a) (.int i) H Q\/ga' K (.ref a) (.int i) H Q:=.inl ⟨a,xs,i,v,rfl,rfl,h,e,q⟩
theorem eE' {a:Addr} {xs:List V} {i:Int} {v:V} (h:SqT K H a xs) (e:atI xs i=some v) (q:Q v H):f0' K (.ref a) (.int i) H Q\/ga' K (.ref a) (.int i) H Q:=.inr ⟨a,xs,i,v,rfl,rfl,h,e,q⟩
theorem rZ' {α β:Type} {f:α->β} {xs:List α} {i:Int}:atI (xs.map f) i=(atI xs i).map f:=by
 unfold atI
 rw[ai]
 cases ixN xs.length i with
 |none=>rfl
 |some j=>simp
theorem dA' {l:List Bool} {i:Int} {c:Bool} (hl:l.length<=sizeLine) (e:atI l i=some c) (q:Q (.str (tx [c])) H):nX' K (.str (tx l)) (.int i) H Q:=by
 refine⟨by rw[b3'];exact hl,cb c,?_,q⟩
 rw[eD',rZ',e]
 rfl
theorem qe' {a:Addr} {u v:V} {k:Bool} (h:SqL K H a [u,v]) (q:Q (if k then v else u) H):f0' K (.ref a) (.int (if k then 1 else 0)) H Q\/ga' K (.ref a) (.int (if k then 1 else 0)) H Q:=by
 refine a1' h ?_ q
 cases k<;>rfl
theorem r0' {a:Addr} {u v:V} {k:Bool} (h:SqT K H a [u,v]) (q:Q (if k then v else u) H):f0' K (.ref a) (.int (if k then 1 else 0)) H Q\/ga' K (.ref a) (.int (if k then 1 else 0)) H Q:=by
 refine eE' h ?_ q
 cases k<;>rfl
theorem qf' {c:Bool}:decide (tx [c]=tx [true])=c:=by
 cases c
 .exact decide_eq_false fun h=>by cases jc' h
 .exact decide_eq_true rfl
theorem mi' {x y:List Bool}:eN' K .Add (.str (tx x)) (.str (tx y)) H Q=(x.length+y.length<=sizeLine/\Q (.str (tx (x++y))) H):=by
 rw[u1',b3',b3',mb']
theorem vJ' {x y:V} (h:qV' x y=true):cL' K .NotEq x y H Q=Q (.bl (!decide (x=y))) H:=by
 have e:cL' K .NotEq x y H Q=rNe x y H Q:=by
  unfold cL'
  dsimp only
  split
  .cases h
  .rfl
 rw[e]
 exact propext ⟨fun⟨_,q⟩=>q,fun q=>⟨h,q⟩⟩
theorem vK' {a b:Addr} {xs ys:List V} (h:SqL K H a xs) (h2:SqL K H b ys) (he:xs.length=ys.length->LEq xs ys) (q:Q (.bl (decide (xs=ys))) H):cL' K .Eq (.ref a) (.ref b) H Q:=.inl ⟨a,b,xs,ys,rfl,rfl,h,h2,he,q⟩
theorem r1' {xs:List V}:xs.length=([]:List V).length->LEq xs []:=fun _ i x y _ h=>by cases h
theorem vL' {a:Addr} {xs:List V} {y:V} {i:Nat} (h:H a=some (.lst xs)) (hz:xs.length<sizeLine) (hi:i<=xs.length) (q:Q .non (upd H a (.lst (xs.take i++y :: xs.drop i)))):j0' K .insert (.ref a) [.int i,y] H Q:=⟨a,xs,y,i,rfl,rfl,h,hz,hi,q⟩
theorem eF' {j:Int} (q:∀p,H p=none->Q (.ref p) (upd H p (.rng 0 j))):dc' K .range [.int j] H Q:=⟨0,j,.inr ⟨rfl,rfl⟩,q⟩
theorem jf' {r:Addr} {i j:Int} (h:H r=some (.rng i j)) (h1:-(2 ^ 62)<=i) (h2:i<2 ^ 62) (h3:-(2 ^ 62)<=j) (h4:j<2 ^ 62) (hz:(j-i).toNat<=sizeLine) (q:∀p,H p=none->Q (.ref p) (upd H p (.lst (rgs i (j-i).toNat)))):dc' K .list [.ref r] H Q:=.inr ⟨r,i,j,rfl,h,⟨h1,h2,h3,h4⟩,hz,q⟩
theorem eG' {a:Addr} {xs:List V} (h:SqL K H a xs) (q:∀p,H p=none->Q (.ref p) (upd H p (.tup xs))):dc' K .tuple [.ref a] H Q:=⟨a,xs,rfl,.inl ⟨h,q⟩⟩
theorem vM' {x y:Bool}:cL' K .NotEq (.bl x) (.bl y) H Q=Q (.bl (x != y)) H:=by
 have e:cL' K .NotEq (.bl x) (.bl y) H Q=Q (.bl (!decide (V.bl x=V.bl y))) H:=propext ⟨fun⟨_,q⟩=>q,fun q=>⟨rfl,q⟩⟩
 rw[e]
 cases x<;>cases y<;>rfl
theorem vN' {x y:Int}:cL' K .NotEq (.int x) (.int y) H Q=Q (.bl (!decide (x=y))) H:=by
 have e:cL' K .NotEq (.int x) (.int y) H Q=Q (.bl (!decide (V.int x=V.int y))) H:=propext ⟨fun⟨_,q⟩=>q,fun q=>⟨rfl,q⟩⟩
 rw[e]
 congr 3
 simp only[V.int.injEq]
theorem zx' {x:V}:cL' K .Is x .non H Q=Q (.bl (decide (x=.non))) H:=propext ⟨fun⟨_,q⟩=>q,fun q=>⟨rfl,q⟩⟩
theorem mj' {x:V}:cL' K .IsNot x .non H Q=Q (.bl (!decide (x=.non))) H:=propext ⟨fun⟨_,q⟩=>q,fun q=>⟨rfl,q⟩⟩
theorem cG' {l:List Bool} {n:Nat} (hl:l.length<=sizeLine) (h:n<=l.length) (q:Q (.str (tx (l.take n))) H):rSl K (.str (tx l)) none (some (n:Int)) H Q:=⟨by rw[b3'];exact hl,by rw[rW' h];exact q⟩
def kG (C:Rc) (t:Ct) (D:Ends) (σ:L2.St):VK:=fun v H=>tG C t v σ H D.nx
theorem od' {t:Ct} {e:Ce}:tS C (.asg t e) D σ H=tE C e σ H (kG C t D σ):=rfl
theorem r2' {i j:Nat} {a:Addr} {x y:V} (h:SqT C.K H a [x,y]) (q:D.nx ((σ.set i (some x)).set j (some y)) H):kG C (.tup (.cons (.name i) (.cons (.name j) .nil))) D σ (.ref a) H:=dg' h q
theorem r3' {i j k:Nat} {a:Addr} {x y z:V} (h:SqT C.K H a [x,y,z]) (q:D.nx (((σ.set i (some x)).set j (some y)).set k (some z)) H):kG C (.tup (.cons (.name i) (.cons (.name j) (.cons (.name k) .nil)))) D σ (.ref a) H:=vv' h q
theorem vO' {xs:List V} {n:Nat}:nv' xs none (some (n:Int))=xs.take n:=by
 unfold nv'
 rw[HT.q3',HT.ns']
 rcases Nat.le_total n xs.length with h|h
 .rw[Nat.min_eq_left h];simp
 .rw[Nat.min_eq_right h];simp[ba h]
theorem r4' {a:Addr} {xs:List V} {lo hi:Option Int} (h:SqL K H a xs) (q:∀p,H p=none->Q (.ref p) (upd H p (.lst (nv' xs lo hi)))):wQ' K (.ref a) lo hi H Q\/wP' K (.ref a) lo hi H Q\/w0' K (.ref a) lo hi H Q:=.inl ⟨a,xs,rfl,h,q⟩
theorem jg' {a:Addr} {xs:List V} {y:V} (h:H a=some (.lst xs)) (hz:xs.length<sizeLine) (q:Q .non (upd H a (.lst (xs++[y])))):j0' K .append (.ref a) [y] H Q:=⟨a,xs,y,rfl,rfl,h,hz,q⟩
theorem tyL {a:Addr} {xs:List V} {m:Mf} (h:H a=some (.lst xs)) (hm:fG' m="list"):tyV K (fG' m) (.ref a) H:=.inl ⟨hm,xs,SqL.of h⟩
theorem vP' {a b:Addr} {xs zs:List V} (h:H a=some (.lst xs)) (h2:H b=some (.lst zs)) (hz:xs.length+zs.length<=sizeLine) (q:∀p,H p=none->Q (.ref p) (upd H p (.lst (xs++zs)))):eN' K .Add (.ref a) (.ref b) H Q:=.inl ⟨a,b,xs,zs,rfl,rfl,h,h2,hz,q⟩
theorem af' {H:Hp} {p:Addr} (h:H p=none) (o:HO):aD' H (upd H p o):=fun b u q=>by rw[ad' (ah' q h)];exact q
theorem snw {H:Hp} {p:Addr} (h:H p=none) (o:HO):aD' H (upd H p o)/\upd H p o p=some o:=⟨af' h o,aa'⟩
theorem gnw {H:Hp} {p:Addr} (h:H p=none) (o:HO):Go 0 H (upd H p o)/\upd H p o p=some o:=⟨Go.new h o,aa'⟩
theorem aq' {α:Type} {l:List α} {i:Nat} {c:α} (hc:l[i]?=some c):i<l.length:=by grind
def vQ' (d:Addr) (x:V) (Q:VK):VK:=fun y H2=>∃(b:Addr) (ks:List Key),x=.ref b/\H2 b=some (.tup (ks.map L2.kV))/\H2 d=some (.dT [])/\Q (.ref d) (upd H2 d (.dT [(ks,y)]))
def yu' (C:Rc) (σ:L2.St) (b:Ce) (d:Addr) (Q:VK):VK:=fun x H1=>tE C b σ H1 (vQ' d x Q)
theorem oe' {b:Ce} {d:Addr} {x:V}:yu' C σ b d Q x H=tE C b σ H (vQ' d x Q):=rfl
def zy' (x:V) (Q:VK):VK:=fun y H=>∃a v,x=.ref a/\gk' H a y (some v)/\Q v H
def Ah' (C:Rc) (σ:L2.St) (b:Ce) (Q:VK):VK:=fun x H=>tE C b σ H (zy' x Q)
theorem ml' {b:Ce} {x:V}:Ah' C σ b Q x H=tE C b σ H (zy' x Q):=rfl
theorem of' {b:Bool} (q:Q (.str (tx [b])) H):dc' K .str [.int (if b then 1 else 0)] H Q:=by
 refine⟨_,rfl,by cases b<;>decide,?_⟩
 cases b
 .have e:(Str.ofString (toString (if false=true then(1:Int)else 0)))=tx [false]:=by decide +kernel
  rw[e];exact q
 .have e:(Str.ofString (toString (if true=true then(1:Int)else 0)))=tx [true]:=by decide +kernel
  rw[e];exact q
theorem qg' {x y:List Bool}:cL' K .NotEq (.str (tx x)) (.str (tx y)) H Q=Q (.bl (!decide (x=y))) H:=by
 rw[vJ' rfl]
 congr 3
 apply decide_eq_decide.mpr
 simp only[V.str.injEq]
 exact⟨jc',fun h=>by rw[h]⟩
end
end R3
namespace R3
open PySem PySem.Spec PyProof.Rows L2 PySem.Builtin PySem.Builtin.Str
theorem r5':∀{ls:List (List Bool)},Txt.join (tx []) (ls.map tx)=tx ls.flatten:=by
 intro ls
 unfold Txt.join
 rw[StrLaws.glued_eq_join]
 induction ls with
 |nil=>rfl
 |cons l r ih=>
  cases r with
  |nil=>simp[Str.join]
  |cons y r=>
   rw[aJ,aJ]
   show tx l++tx []++Str.join (tx []) (List.map tx (y :: r))=_
   rw[ih,mb',mb']
   simp
section
variable {K:W.Frag} {H:Hp} {Q:VK}
theorem mm' {a:Addr} {ls:List (List Bool)} (h:SqL K H a (ls.map fun l=>V.str (tx l))) (hz:ls.flatten.length<=16000000) (q:Q (.str (tx ls.flatten)) H):j0' K .join (.str (tx [])) [.ref a] H Q:=by
 refine⟨tx [],a,ls.map tx,rfl,rfl,.inl (by rw[bE];exact h),?_,by rw[r5'];exact q⟩
 have e:((ls.map tx).map (·.length)).sum=ls.flatten.length:=by
  rw[bE,List.length_flatten]
  congr 1
  apply bI
  intro l _
  exact b3'
 rw[e,b3',bH,Nat.mul_zero]
 omega
theorem fN' {l:List Bool} {a b:Nat} (h1:a<=b) (h2:b<=l.length):Txt.slice (tx l) (some (a:Int)) (some (b:Int))=tx ((l.drop a).take (b-a)):=by
 have e:=slice_closes (x:=tx l) (i:=a) (j:=b) ⟨by omega,by omega,by rw[eD',ai];omega⟩
 rw[eq_of_beq e,eD']
 rw[show((b:Int)-(a:Int)).toNat=b-a by omega,aK]
 simp[tx,List.map_take,List.map_drop]
theorem gQ' {n:Nat} {i j:Int} (h:(n:Int)<=j):strSliceIndices (some i) (some j) 1 n=strSliceIndices (some i) (some (n:Int)) 1 n:=by
 have h0:¬j<0:=by omega
 have h1:¬((n:Int)<0):=by omega
 have h2:(1:Int) > 0:=by decide
 simp only[strSliceIndices,h0,h1,h2,if_false,if_true,Int.min_eq_right h,Int.min_self]
theorem r6' {l:List Bool} {a:Nat}:Txt.slice (tx l) (some (a:Int)) none=tx (l.drop a):=by
 rcases Nat.le_total a l.length with h|h
 .exact rX' h
 .rw[slice_beyond (by rw[b3'];omega),List.drop_of_length_le h]
  rfl
end
section
variable {C:Rc} {K:W.Frag} {σ:L2.St} {H:Hp} {Q:VK} {D:Ends} {Qb:Bool->Hp->Prop} {i j:Int}
theorem vR':eN' K .LShift (.int i) (.int j) H Q=(xQ' i j/\Q (.int (i*2 ^ j.toNat)) H):=propext ⟨fun⟨_,_,e,e',c,q⟩=>by cases e;cases e';exact⟨c,q⟩,fun q=>⟨_,_,rfl,rfl,q.1,q.2⟩⟩
theorem vS':eN' K .RShift (.int i) (.int j) H Q=(0<=j/\Q (.int (i / 2 ^ j.toNat)) H):=propext ⟨fun⟨_,_,e,e',c,q⟩=>by cases e;cases e';exact⟨c,q⟩,fun q=>⟨_,_,rfl,rfl,q.1,q.2⟩⟩
theorem qh':eN' K .BitAnd (.int i) (.int j) H Q=((0<=i/\j=1)/\Q (.int (i % 2)) H):=propext ⟨fun⟨_,_,e,e',c,q⟩=>by cases e;cases e';exact⟨c,q⟩,fun q=>⟨_,_,rfl,rfl,q.1,q.2⟩⟩
theorem jh':j0' K .bitlen (.int i) [] H Q=Q (.int (Builtin.Int.intBits i)) H:=propext ⟨fun⟨a,e1,e2,q⟩=>by cases e1;exact q,fun q=>⟨_,rfl,rfl,q⟩⟩
theorem ji' {n:Int}:yp' C Qb (.int n) H=Qb (!decide (n=0)) H:=by
 have e:(n != 0)=!decide (n=0):=by
  by_cases h:n=0
  .subst h;rfl
  .rw[decide_eq_false h];simpa using h
 exact propext ⟨fun⟨u,h,q⟩=>by
  have h:u=(n != 0):=h
  subst h
  rw[e]at q
  exact q,fun q=>⟨n != 0,rfl,by rw[e];exact q⟩⟩
theorem r7' {i:Nat} {e:Ce} {r:Css} (h:∀K:VK,(∀v H',tSs C r D (σ.set i (some v)) H'->K v H')->tE C e σ H K):tSs C (.cons (.asg (.name i) e) r) D σ H:=h _ fun _ _ q=>q
theorem vT' {s:Cs} {r:Css} (h:∀N:L2.St->Hp->Prop,(∀σ' H',tSs C r D σ' H'->N σ' H')->tS C s { D with nx:=N } σ H):tSs C (.cons s r) D σ H:=h _ fun _ _ q=>q
def w8' (R:It->Hp->Prop) (x y:V):VK:=fun z H1=>∃i j c:Int,x=.int i/\y=.int j/\z=.int c/\(-(2 ^ 60)<=i/\i<2 ^ 60/\-(2 ^ 60)<=j/\j<2 ^ 60/\(0<c/\c<2 ^ 29\/c=-1))/\R (Itc i c (en' i j c)) H1
def w9' (C:Rc) (σ:L2.St) (e:Ce) (R:It->Hp->Prop) (x:V):VK:=fun y H1=>tE C e σ H1 (w8' R x y)
def yv' (C:Rc) (σ:L2.St) (e e':Ce) (R:It->Hp->Prop):VK:=fun x H1=>tE C e σ H1 (w9' C σ e' R x)
theorem gR' {a b c:Ce} {R:It->Hp->Prop}:tI C (.range3 a b c) σ H R=tE C a σ H (yv' C σ b c R):=by
 show(tE C a σ H fun x H1=>tE C b σ H1 fun y H2=>tE C c σ H2 fun z H3=>∃i j c:Int,[x,y,z]=[.int i,.int j,.int c]/\(-(2 ^ 60)<=i/\i<2 ^ 60/\-(2 ^ 60)<=j/\j<2 ^ 60/\(0<c/\c<2 ^ 29\/c=-1))/\R (Itc i c (en' i j c)) H3)=_
 congr 1
 funext x H1
 unfold yv'
 congr 1
 funext y H2
 unfold w9'
 congr 1
 funext z H3
 unfold w8'
 simp only[List.cons.injEq,and_true,and_assoc]
theorem mn' {e e':Ce} {R:It->Hp->Prop} {x:V}:yv' C σ e e' R x H=tE C e σ H (w9' C σ e' R x):=rfl
theorem mo' {e:Ce} {R:It->Hp->Prop} {x y:V}:w9' C σ e R x y H=tE C e σ H (w8' R x y):=rfl
theorem vU' {R:It->Hp->Prop} {i j c:Int} (h0:-(2 ^ 60)<=i) (h1:i<2 ^ 60) (h2:-(2 ^ 60)<=j) (h3:j<2 ^ 60) (h4:0<c) (h5:c<2 ^ 29) (q:R (Itc i c (dO' i j c)) H):w8' R (.int i) (.int j) (.int c) H:=⟨i,j,c,rfl,rfl,rfl,⟨h0,h1,h2,h3,.inl ⟨h4,h5⟩⟩,by rw[gm' h4];exact q⟩
def kRv (C:Rc) (R:It->Hp->Prop):VK:=fun x H1=>wU' C.K x H1 R
theorem vV' {a:Ce} {R:It->Hp->Prop}:tI C (.rev a) σ H R=tE C a σ H (kRv C R):=by
 show(tE C a σ H fun x H1=>∃y,[x]=[y]/\wU' C.K y H1 R)=_
 congr 1
 funext x H1
 exact propext ⟨fun⟨y,e,q⟩=>by cases e;exact q,fun q=>⟨x,rfl,q⟩⟩
theorem vW' {R:It->Hp->Prop} {p:Addr} {i j:Int} (h:H p=some (.rng i j)) (h0:-(2 ^ 62)<=i) (h1:i<2 ^ 62) (h2:-(2 ^ 62)<=j) (h3:j<2 ^ 62) (q:R (Itc (i+((j-i).toNat:Int)-1) (-1) (j-i).toNat) H):kRv C R (.ref p) H:=.inl ⟨p,i,j,rfl,h,⟨h0,h1,h2,h3⟩,q⟩
theorem yw' {lo c:Int} {n:Nat} {t:Ct} {b:Css} (Pv:Nat->L2.St->Hp->Prop) (h0:Pv 0 σ H)
  (hs:∀i σ H,i<n->Pv i σ H->tG C t (.int (lo+i*c)) σ H (tSs C b { D with nx:=Pv (i+1),ct:=Pv (i+1),bk:=D.nx })) (hd:∀σ H,Pv n σ H->D.nx σ H):p8' C t b D σ (Itc lo c n) H:=by
 refine⟨fun i m σ H=>m=n-i/\i<=n/\Pv i σ H,⟨n,by simp,aT _,h0⟩,?_⟩
 rintro i m σ H ⟨rfl,hi,p⟩
 by_cases hlt:i<n
 .refine .inr ⟨hlt,Pv (i+1),fun σ' H' p'=>⟨n-(i+1),by omega,rfl,hlt,p'⟩,fun x H' y=>?_⟩
  obtain⟨e,rfl⟩:=y
  subst e
  exact hs i σ _ hlt p
 .have e:i=n:=by omega
  subst e
  exact .inl ⟨al _,hd σ H p⟩
theorem qi' {elt:Ce} {own:List Nat} {t:Ct} {q:Cqo} {lo c:Int} {n:Nat} (Pv:Nat->List V->Hp->Prop) (h0:Pv 0 [] H)
  (hs:∀i xs H (R:List V->Hp->Prop),i<n->Pv i xs H->(∀ys H2,Pv (i+1) ys H2->R ys H2)->tG C t (.int (lo+i*c)) (clr own σ) H (kCG C elt q xs R)) (hd:∀xs H,Pv n xs H->qb' Q xs H):j9' C elt own t q σ Q (Itc lo c n) H:=
 fM' (n:=n) Pv h0 (fun i xs H hi p=>hi) (fun xs H p=>al _) (fun i xs H x H' R hi p y k=>by
  obtain⟨e,rfl⟩:=y
  subst e
  exact hs i xs H' R hi p k) hd
def yx' (C:Rc) (elt:Ce) (ws:List Nat) (t2:Ct) (q2:Cqo) (xs:List V) (P:List V->Hp->Prop) (σ:L2.St) (J:It) (H1:Hp):Prop:=a9' ws (tG C t2) (tQo C q2) (ei' (tE C elt)) J σ xs H1 P
def xa' (C:Rc) (elt:Ce) (ws:List Nat) (t2:Ct) (it2:Ci) (q2:Cqo) (xs:List V) (P:List V->Hp->Prop) (σ:L2.St):Bool->Hp->Prop:=fun ok H=>if ok=true then tI C it2 σ H (yx' C elt ws t2 q2 xs P σ)else P xs H
def zz' (C:Rc) (elt:Ce) (q:Cqo) (ws:List Nat) (t2:Ct) (it2:Ci) (q2:Cqo) (xs:List V) (P:List V->Hp->Prop):L2.St->Hp->Prop:=fun σ H=>tQo C q σ H (xa' C elt ws t2 it2 q2 xs P σ)
theorem qj' {elt:Ce} {ws:List Nat} {t2:Ct} {it2:Ci} {q2:Cqo} {xs:List V} {P:List V->Hp->Prop}:zz' C elt .none ws t2 it2 q2 xs P σ H=tI C it2 σ H (yx' C elt ws t2 q2 xs P σ):=rfl
theorem qk' {elt:Ce} {q:Cq} {ws:List Nat} {t2:Ct} {it2:Ci} {q2:Cqo} {xs:List V} {P:List V->Hp->Prop}:zz' C elt (.some q) ws t2 it2 q2 xs P σ H=tQ C q σ H (xa' C elt ws t2 it2 q2 xs P σ):=rfl
theorem ql' {elt:Ce} {ws:List Nat} {t2:Ct} {it2:Ci} {q2:Cqo} {xs:List V} {P:List V->Hp->Prop}:xa' C elt ws t2 it2 q2 xs P σ true H=tI C it2 σ H (yx' C elt ws t2 q2 xs P σ):=rfl
theorem qm' {elt:Ce} {ws:List Nat} {t2:Ct} {it2:Ci} {q2:Cqo} {xs:List V} {P:List V->Hp->Prop}:xa' C elt ws t2 it2 q2 xs P σ false H=P xs H:=rfl
def vX' (C:Rc) (elt:Ce) (own:List Nat) (t:Ct) (q:Cqo) (ws:List Nat) (t2:Ct) (it2:Ci) (q2:Cqo) (σ:L2.St) (Q:VK) (J:It) (H1:Hp):Prop:=a9' own (tG C t) (tQo C q) (hE' (tI C it2) (a9' ws (tG C t2) (tQo C q2) (ei' (tE C elt)))) J σ [] H1 (qb' Q)
theorem jj' {elt:Ce} {own:List Nat} {t:Ct} {it:Ci} {q:Cqo} {ws:List Nat} {t2:Ct} {it2:Ci} {q2:Cqo}:tE C (.comp elt own t it q (.cons ws t2 it2 q2 .nil)) σ H Q=tI C it σ H (vX' C elt own t q ws t2 it2 q2 σ Q):=rfl
end
section
variable {C:Rc} {σ:L2.St} {H:Hp} {Q:VK} {D:Ends}
def jk' (C:Rc) (c:Str) (i:Nat) (su:Css) (D:Ends):L2.St->XK:=fun σ' en dx H'=>∃nm Ca Cc,en=.str nm 0/\C.cl nm=some Ca/\C.cl c=some Cc/\W.exmOne C.K (.ref Ca) (.ref Cc)=some true/\∀e,H' e=none->tSs { C with xk:=fun _=>E0 } su { nx:=fun σ2 H2=>D.nx (σ2.set i none) H2,rt:=D.rt } (σ'.set i (some (.ref e))) (upd H' e (eR' e Ca dx))
theorem yy' {b su:Css} {c:Str} {i:Nat}:tS C (.try_ b c i su) D σ H=tSs { C with xk:=jk' C c i su D } b D σ H:=rfl
theorem caught {c nm:Str} {i:Nat} {su:Css} {Ca Cc:Addr} {dx:Option Addr} (h:C.cl nm=some Ca) (hc:C.cl c=some Cc) (hx:W.exmOne C.K (.ref Ca) (.ref Cc)=some true)
  (q:∀e,H e=none->tSs { C with xk:=fun _=>E0 } su { nx:=fun σ2 H2=>D.nx (σ2.set i none) H2,rt:=D.rt } (σ.set i (some (.ref e))) (upd H e (eR' e Ca dx))):jk' C c i su D σ (.str nm 0) dx H:=⟨nm,Ca,Cc,rfl,h,hc,hx,q⟩
theorem gS' {c:Str} {Ca:Addr} (h:C.cl c=some Ca) (q:Q (.ref Ca) H):tE C (.cls c) σ H Q:=⟨Ca,h,q⟩
theorem vY' {K:W.Frag} {e Ca Cc:Addr} {b:Bool} {dx:Option Addr} (h:H e=some (eR' e Ca dx)) (x:XCls K Ca) (hk:W.kitOne K (.ref Ca) (.ref Cc)=some b) (q:Q (.bl b) H):dc' K .isinstance [.ref e,.ref Cc] H Q:=.inr ⟨e,Ca,dx,b,h,x,.inl ⟨_,_,rfl,rfl,hk⟩,q⟩
theorem r8' {K:W.Frag} {e Ca:Addr} {T:String} {b:Bool} {dx:Option Addr} (h:H e=some (eR' e Ca dx)) (x:XCls K Ca) (hk:W.kitOne K (.ref Ca) (.type T)=some b) (q:Q (.bl b) H):dc' K .isinstance [.ref e,.ty T] H Q:=.inr ⟨e,Ca,dx,b,h,x,.inl ⟨_,_,rfl,rfl,hk⟩,q⟩
theorem r9' {K:W.Frag} {e Ca p:Addr} {cs:List V} {vs:List Value} {b:Bool} {dx:Option Addr} (h:H e=some (eR' e Ca dx)) (x:XCls K Ca) (hp:H p=some (.tup cs)) (hv:nH' cs vs) (hk:W.kitAny K (.ref Ca) vs=some b) (q:Q (.bl b) H):dc' K .isinstance [.ref e,.ref p] H Q:=.inr ⟨e,Ca,dx,b,h,x,.inr ⟨p,cs,vs,rfl,hp,hv,hk⟩,q⟩
theorem yz' {nm f:Str} {a:Ce} {Ca:Addr} (h:C.cl nm=some Ca) (hi:C.ini nm=some f) (q:tE C a σ H (th' f (C.xk σ (.str nm 0)))):tS C (.rsi nm a) D σ H:=by
 show(match C.ini nm with|some f=>(∃Ca,C.cl nm=some Ca)/\tE C a σ H (th' f (C.xk σ (.str nm 0)))|none=>False)
 rw[hi]
 exact⟨⟨Ca,h⟩,q⟩
theorem vZ' {f:Str} {W:Option Addr->Hp->Prop} {y:V} (q:∀d,H d=none->W (some d) (upd H d (.xd [(f,y)]))):th' f W y H:=⟨y,rfl,q⟩
theorem yA' {i:Nat} {f:Str} {e Ca fI d:Addr} {v:V} (hσ:σ[i]?=some (some (.ref e))) (he:H e=some (eR' e Ca (some d))) (x:XCls C.K Ca) (xi:Xi C.K Ca fI f) (hD:H d=some (.xd [(f,v)])) (q:Q v H):tE C (.xat i f) σ H Q:=
 ⟨e,Ca,d,_,v,hσ,he,x,xi.dict,xi.no,hD,by rw[bB,beq_self_eq_true],q⟩
structure ClsG (C:Rc) (r:Str) (Cr:Addr) (L:List Str):Prop where
 own:C.cl r=some Cr
 e:∃Ce,C.cl "RunError"=some Ce/\W.exmOne C.K (.ref Cr) (.ref Ce)=some true
 ex:W.excIn C.K Cr bmV "ValueError.__new__"=true
 x:XCls C.K Cr
 kv:W.kitOne C.K (.ref Cr) (.type "ValueError")=some true
 k:∀c∈L,∃Cc,C.cl c=some Cc/\W.kitOne C.K (.ref Cr) (.ref Cc)=some (decide (c=r))
structure ClsB (C:Rc) (r:Str) (Cr:Addr) (L:List Str):Prop where
 own:C.cl r=some Cr
 e:∃Ce,C.cl "RunError"=some Ce/\W.exmOne C.K (.ref Cr) (.ref Ce)=some true
 x:XCls C.K Cr
 kv:W.kitOne C.K (.ref Cr) (.type "ValueError")=some true
 k:∀c∈L,∃Cc,C.cl c=some Cc/\W.kitOne C.K (.ref Cr) (.ref Cc)=some (decide (c=r))
theorem ClsB.caught {r:Str} {Cr:Addr} {L:List Str} {i:Nat} {su:Css} {dx:Option Addr} (G:ClsB C r Cr L)
  (q:∀e,H e=none->tSs { C with xk:=fun _=>E0 } su { nx:=fun σ2 H2=>D.nx (σ2.set i none) H2,rt:=D.rt } (σ.set i (some (.ref e))) (upd H e (eR' e Cr dx))):jk' C "RunError" i su D σ (.str r 0) dx H:=by
 obtain⟨Ce,h1,h2⟩:=G.e
 exact R3.caught G.own h1 h2 q
theorem ClsB.isx {r c:Str} {Cr e:Addr} {L:List Str} {i:Nat} {dx:Option Addr} (G:ClsB C r Cr L) (hc:c∈L) (he:H e=some (eR' e Cr dx)) (hσ:σ[i]?=some (some (.ref e))) (q:Q (.bl (decide (c=r))) H):tE C (.blt .isinstance (.cons (.var i) (.cons (.cls c) .nil))) σ H Q:=by
 obtain⟨Cc,h1,h2⟩:=G.k c hc
 simp only[i3',dK',gH',hσ,eB',cw']
 refine gS' h1 ?_
 simp only[cw',j8',fc',eC']
 exact vY' he G.x h2 q
theorem ClsB.isv {r:Str} {Cr e:Addr} {L:List Str} {i:Nat} {dx:Option Addr} (G:ClsB C r Cr L) (he:H e=some (eR' e Cr dx)) (hσ:σ[i]?=some (some (.ref e))) (q:Q (.bl true) H):tE C (.blt .isinstance (.cons (.var i) (.cons (.ty "ValueError") .nil))) σ H Q:=by
 simp only[i3',dK',gH',hσ,eB',cw',rS',j8',fc',eC']
 exact r8' he G.x G.kv q
abbrev CL5:List Str:=["NoNumber","NoRow","NoWindow","BadBits","BadBlock"]
theorem gT' {K:W.Frag} {t:Value}:∀{vs:List Value},(∀v∈vs,W.kitOne K t v=some false)->W.kitAny K t vs=some false
 | [],_=>rfl
 |v :: vs,h=>by
  unfold W.kitAny
  rw[h v aw]
  exact gT' fun u hu=>h u (ar _ hu)
theorem ClsB.isx4 {r c1 c2 c3 c4:Str} {Cr e:Addr} {L:List Str} {i:Nat} {dx:Option Addr} (G:ClsB C r Cr L) (hl:∀c∈[c1,c2,c3,c4],c∈L/\c≠r) (he:H e=some (eR' e Cr dx)) (hσ:σ[i]?=some (some (.ref e))) (q:∀H',aD' H H'->Q (.bl false) H'):
  tE C (.blt .isinstance (.cons (.var i) (.cons (.tup (.cons (.cls c1) (.cons (.cls c2) (.cons (.cls c3) (.cons (.cls c4) .nil))))) .nil))) σ H Q:=by
 have g:∀c∈[c1,c2,c3,c4],∃Cc,C.cl c=some Cc/\W.kitOne C.K (.ref Cr) (.ref Cc)=some false:=fun c hc=>by
  obtain⟨Cc,h1,h2⟩:=G.k c (hl c hc).1
  rw[decide_eq_false (hl c hc).2]at h2
  exact⟨Cc,h1,h2⟩
 obtain⟨a1,b1,d1⟩:=g c1 (by simp)
 obtain⟨a2,b2,d2⟩:=g c2 (by simp)
 obtain⟨a3,b3,d3⟩:=g c3 (by simp)
 obtain⟨a4,b4,d4⟩:=g c4 (by simp)
 simp only[i3',dK',gH',hσ,eB',cw',l8']
 refine gS' b1 ?_
 simp only[cw',dK']
 refine gS' b2 ?_
 simp only[cw',dK']
 refine gS' b3 ?_
 simp only[cw',dK']
 refine gS' b4 ?_
 simp only[cw',j8',fc',h7']
 refine⟨by show 4<=sizeLine;decide,fun p hp=>?_⟩
 simp only[cw',j8',fc',eC']
 refine r9' (Ca:=Cr) (by rw[ad' (ah' he hp)];exact he) G.x aa' (vs:=[.ref a1,.ref a2,.ref a3,.ref a4]) ⟨rfl,rfl,rfl,rfl,trivial⟩ (gT' fun v hv=>?_) (q _ fun b u hb=>by rw[ad' (ah' hb hp)];exact hb)
 simp only[aq,au,or_false]at hv
 rcases hv with rfl|rfl|rfl|rfl<;>assumption
end
def aE' (l:List (Str×Sp)) (y:Str):Option Sp:=l.lookup y
theorem ae' {x:Str} {s:Sp} {l:List (Str×Sp)}:aE' ((x,s) :: l) x=some s:=by unfold aE';simp
theorem ac' {x y:Str} {s:Sp} {l:List (Str×Sp)} (h:(y == x)=false):aE' ((x,s) :: l) y=aE' l y:=by
 unfold aE'
 rw[bB,h]
theorem dB' {y:Str} {s:Sp}:∀{l:List (Str×Sp)},aE' l y=some s->(y,s)∈l
 | [],h=>by cases h
 |(x,t) :: l,h=>by
  unfold aE' at h
  rw[bB]at h
  cases e:y == x with
  |true=>
   rw[e]at h
   cases h
   rw[eq_of_beq e]
   exact aw ..
  |false=>
   rw[e]at h
   exact ar _ (dB' h)
theorem aC' {P:Program} {w:World} {K:W.Frag} {mg:Str->Option Value} {base:Heap} {k:Nat} {l:List (Str×Sp)} (h:∀p∈l,∃f' fd' ps',FnOk P w K mg base CX0 k f' fd' ps' p.2/\mg p.1=some (.ref f')/\W.keepIn K (.ref f')=true/\cq' K fd' ps' []):
  ∀y sp',aE' l y=some sp'->∃f' fd' ps',FnOk P w K mg base CX0 k f' fd' ps' sp'/\mg y=some (.ref f')/\W.keepIn K (.ref f')=true/\cq' K fd' ps' []:=fun y sp' e=>h (y,sp') (dB' e)
theorem an' {P:Program} {w:World} {K:W.Frag} {mg:Str->Option Value} {base:Heap} {x qual:Str} {st:Stmt} {f:Addr} {fd:FuncData} {ps:List Str} {k:Nat} {sp:Sp} (F:Fun K x qual st f fd) (C:Rc) (S:FnScope C.N ps (ab' st)) (hK:C.K=K) (code:Css) (hm:mSs C.N C.B (ab' st) code (aj' st)=true)
  (len:∀vs H Q E,sp vs H Q E->vs.length=ps.length)
  (hfs:∀y sp',C.fs y=some sp'->∃f' fd' ps',FnOk P w K mg base CX0 k f' fd' ps' sp'/\mg y=some (.ref f')/\W.keepIn K (.ref f')=true/\cq' K fd' ps' []) (hB:∀y∈C.B,mg y=none) (hmk:mg "~"=none/\mg "^"=none/\mg "%"=none) (nt:tld C.B=false) (nh:hat C.B=false) (hxk:C.xk=fun _=>E0) (hcl:C.cl=fun _=>none)
  (hbody:∀vs H Q E,sp vs H Q E->tSs C code { nx:=fun _ H'=>Q .non H',rt:=Q } (aB' C.N vs) H) (hini:C.ini=fun _=>none:=by rfl):FnOk P w K mg base CX0 (k+1) f fd ps sp:=
 l1' F C S hK code hm len ⟨fun y sp' e=>by
  obtain⟨f',fd',ps',h1,h2⟩:=hfs y sp' e
  exact⟨f',fd',ps',.inl h1,h2⟩,hB,hmk,(fun c Ca e=>by rw[hcl]at e;cases e),nt,nh⟩ hxk hbody hini
def eO' (l:List (Str×Addr)) (y:Str):Option Addr:=l.lookup y
theorem cc' {x:Str} {s:Addr} {l:List (Str×Addr)}:eO' ((x,s) :: l) x=some s:=by unfold eO';simp
theorem aw' {x y:Str} {s:Addr} {l:List (Str×Addr)} (h:(y == x)=false):eO' ((x,s) :: l) y=eO' l y:=by
 unfold eO'
 rw[bB,h]
theorem qn' {y:Str} {s:Addr}:∀{l:List (Str×Addr)},eO' l y=some s->(y,s)∈l
 | [],h=>by cases h
 |(x,t) :: l,h=>by
  unfold eO' at h
  rw[bB]at h
  cases e:y == x with
  |true=>
   rw[e]at h
   cases h
   rw[eq_of_beq e]
   exact aw ..
  |false=>
   rw[e]at h
   exact ar _ (qn' h)
theorem v0' {K:W.Frag} {mg:Str->Option Value} {l:List (Str×Addr)} (h:∀p∈l,mg p.1=some (.ref p.2)/\W.nsIn K mainGlobals p.1=some (some (.ref p.2))):∀c Ca,eO' l c=some Ca->mg c=some (.ref Ca)/\W.nsIn K mainGlobals c=some (some (.ref Ca)):=fun c Ca e=>h (c,Ca) (qn' e)
theorem mp' {P:Program} {w:World} {K:W.Frag} {mg:Str->Option Value} {base:Heap} {k:Nat} {B:List Str} {l:List (Str×Sp)} (h:∀p∈l,∃f' fd' ps',(FnOk P w K mg base CX0 k f' fd' ps' p.2\/FnOk P w K mg base (CX1 P w mg) k f' fd' ps' p.2/\n0' p.1∈B)/\mg p.1=some (.ref f')/\W.keepIn K (.ref f')=true/\cq' K fd' ps' []):
  ∀y sp',aE' l y=some sp'->∃f' fd' ps',(FnOk P w K mg base CX0 k f' fd' ps' sp'\/FnOk P w K mg base (CX1 P w mg) k f' fd' ps' sp'/\n0' y∈B)/\mg y=some (.ref f')/\W.keepIn K (.ref f')=true/\cq' K fd' ps' []:=fun y sp' e=>h (y,sp') (dB' e)
theorem sa' {K:W.Frag} {C:Addr} {cd:ClassData} (h1:W.findIn K (.ref C) "__getattribute__"=some (some (.builtin "BaseException.__getattribute__"))) (h2:W.findIn K (.ref C) "__getattr__"=some none) (h3:W.findIn K (.ref C) "__class__"=some (some (.builtin "object.__class__"))) (h4:W.subIn K (.ref C) (.type "BaseException")=some true) (h5:W.subIn K (.ref C) (.type "object")=some true) (h6:W.clsIn K C=some cd):XCls K C:=⟨h1,h2,h3,h4,h5,by rw[h6];rfl⟩
theorem mC {α:Type} {P:α->Prop} {a:α} {l:List α} (h:P a/\∀x∈l,P x):∀x∈a :: l,P x:=List.forall_mem_cons.mpr h
theorem mN {α:Type} {P:α->Prop}:∀x∈([]:List α),P x:=fun y hy=>absurd hy au
theorem sb' {α:Type} {P:List α->Prop} (h:∀x0,P [x0]):∀us:List α,us.length=1->P us
 | [x0],_=>h x0
theorem kb' {α:Type} {P:List α->Prop} (h:∀x0 x1,P [x0,x1]):∀us:List α,us.length=2->P us
 | [x0,x1],_=>h x0 x1
theorem xb' {α:Type} {P:List α->Prop} (h:∀x0 x1 x2,P [x0,x1,x2]):∀us:List α,us.length=3->P us
 | [x0,x1,x2],_=>h x0 x1 x2
theorem qo' {α:Type} {P:List α->Prop} (h:∀x0 x1 x2 x3,P [x0,x1,x2,x3]):∀us:List α,us.length=4->P us
 | [x0,x1,x2,x3],_=>h x0 x1 x2 x3
theorem Ai' {α:Type} {P:List α->Prop} (h:∀x0 x1 x2 x3 x4 x5,P [x0,x1,x2,x3,x4,x5]):∀us:List α,us.length=6->P us
 | [x0,x1,x2,x3,x4,x5],_=>h x0 x1 x2 x3 x4 x5
def kc' (c f:Str):Str->Option Str:=fun n=>if n=c then some f else none
theorem og' {c f:Str}:kc' c f c=some f:=if_pos rfl
set_option tactic.hygienic true in
theorem sc' {P:Program} {w:World} {K:W.Frag} {mg:Str->Option Value} {base:Heap} {k:Nat} {C:Rc} {c f:Str} {Ca:Addr} (hi:C.ini=kc' c f) (hc:C.cl c=some Ca)
  (h:∃fI fd ps j,j+1<=k/\Xi K Ca fI f/\FnOk P w K mg base CX0 j fI fd ps (hP' K f)/\cq' K fd ps []):
  ∀nm f Ca,C.cl nm=some Ca->C.ini nm=some f->∃fI fd ps j,j+1<=k/\Xi K Ca fI f/\FnOk P w K mg base CX0 j fI fd ps (hP' K f)/\cq' K fd ps []:=fun nm f' Ca' h1 h2=>by
 rw[hi]at h2
 unfold kc' at h2
 split at h2
 .rename_i z
  subst z
  cases h2
  rw[hc]at h1
  cases h1
  exact h
 .cases h2
def b4' {α β:Type} (R:α->β->Prop):List α->List β->Prop
 | [],[]=>True
 |a :: as,b :: bs=>R a b/\b4' R as bs
 |_,_=>False
section
variable {α β:Type} {R S:α->β->Prop}
theorem b4'.mono (h:∀a b,R a b->S a b):∀{as:List α} {bs:List β},b4' R as bs->b4' S as bs
 | [],[],_=>trivial
 |_ :: _,_ :: _,q=>⟨h _ _ q.1,b4'.mono h q.2⟩
 | [],_ :: _,q=>q.elim
 |_ :: _,[],q=>q.elim
theorem b4'.len:∀{as:List α} {bs:List β},b4' R as bs->as.length=bs.length
 | [],[],_=>rfl
 |_ :: _,_ :: _,q=>by simp[b4'.len q.2]
 | [],_ :: _,q=>q.elim
 |_ :: _,[],q=>q.elim
theorem b4'.app:∀{as cs:List α} {bs ds:List β},b4' R as bs->b4' R cs ds->b4' R (as++cs) (bs++ds)
 | [],_,[],_,_,q=>q
 |_ :: _,_,_ :: _,_,p,q=>⟨p.1,b4'.app p.2 q⟩
 | [],_,_ :: _,_,p,_=>p.elim
 |_ :: _,_,[],_,p,_=>p.elim
theorem b4'.snoc {a:α} {b:β} {as:List α} {bs:List β} (h:b4' R as bs) (r:R a b):b4' R (as++[a]) (bs++[b]):=h.app ⟨r,trivial⟩
theorem b4'.get:∀{as:List α} {bs:List β} {i:Nat} {b:β},b4' R as bs->bs[i]?=some b->∃a,as[i]?=some a/\R a b
 | [],[],_,_,_,e=>by cases e
 |a :: _,_ :: _,0,_,q,e=>by cases e;exact⟨a,rfl,q.1⟩
 |_ :: as,_ :: bs,i+1,b,q,e=>by
  obtain⟨a,h1,h2⟩:=b4'.get (i:=i) (b:=b) q.2 (by simpa using e)
  exact⟨a,by simpa using h1,h2⟩
 | [],_ :: _,_,_,q,_=>q.elim
 |_ :: _,[],_,_,q,_=>q.elim
theorem b4'.getL:∀{as:List α} {bs:List β} {i:Nat} {a:α},b4' R as bs->as[i]?=some a->∃b,bs[i]?=some b/\R a b
 | [],[],_,_,_,e=>by cases e
 |_ :: _,b :: _,0,_,q,e=>by cases e;exact⟨b,rfl,q.1⟩
 |_ :: as,_ :: bs,i+1,a,q,e=>by
  obtain⟨b,h1,h2⟩:=b4'.getL (i:=i) (a:=a) q.2 (by simpa using e)
  exact⟨b,by simpa using h1,h2⟩
 | [],_ :: _,_,_,q,_=>q.elim
 |_ :: _,[],_,_,q,_=>q.elim
end
def jl' {α:Type} (as':TL α) (b:α) (P:α->Hp->Prop) (σ:L2.St):Bool->Hp->Prop:=fun ok H=>if ok=true then as' σ b H P else P b H
def h9' {α:Type} (tc:TT) (as':TL α) (b:α) (P:α->Hp->Prop):L2.St->Hp->Prop:=fun σ H=>tc σ H (jl' as' b P σ)
def kCl {α:Type} (own:List Nat) (g:TG) (tc:TT) (as':TL α) (σ:L2.St) (a:α) (N:α->Hp->Prop) (J:It) (H:Hp):Prop:=a9' own g tc as' J σ a H N
section
variable {C:Rc} {σ:L2.St} {H:Hp} {Q:VK} {D:Ends} {α:Type}
theorem sd' {as':TL α} {b:α} {P:α->Hp->Prop}:h9' (tQo C .none) as' b P σ H=as' σ b H P:=rfl
theorem se' {q:Cq} {as':TL α} {b:α} {P:α->Hp->Prop}:h9' (tQo C (.some q)) as' b P σ H=tQ C q σ H (jl' as' b P σ):=rfl
theorem oh' {as':TL α} {b:α} {P:α->Hp->Prop}:jl' as' b P σ true H=as' σ b H P:=rfl
theorem oi' {as':TL α} {b:α} {P:α->Hp->Prop}:jl' as' b P σ false H=P b H:=rfl
theorem oj' {own:List Nat} {g:TG} {tc:TT} {as':TL α} {J:It} {a:α} {N:α->Hp->Prop} {n:Nat} (Pv:Nat->α->Hp->Prop) (h0:Pv 0 a H) (hgo:∀i b H,i<n->Pv i b H->J.go i H) (hstop:∀b H,Pv n b H->J.stop n H)
  (hs:∀i b H x H' (R:α->Hp->Prop),i<n->Pv i b H->J.yld i H x H'->(∀c H2,Pv (i+1) c H2->R c H2)->g x (clr own σ) H' (h9' tc as' b R)) (hd:∀b H,Pv n b H->N b H):kCl own g tc as' σ a N J H:=by
 refine⟨fun i m b H=>m=n-i/\i<=n/\Pv i b H,⟨n,by simp,aT _,h0⟩,?_⟩
 rintro i m b H ⟨rfl,hi,p⟩
 by_cases hlt:i<n
 .refine .inr ⟨hgo i b H hlt p,fun x H' y=>?_⟩
  exact hs i b H x H' (fun c H4=>∃m',m'<n-i/\(m'=n-(i+1)/\i+1<=n/\Pv (i+1) c H4)) hlt p y fun ys H2 p2=>⟨n-(i+1),by omega,rfl,hlt,p2⟩
 .have e:i=n:=by omega
  subst e
  exact .inl ⟨hstop b H p,hd b H p⟩
theorem zA' {own:List Nat} {g:TG} {tc:TT} {as':TL α} {b0:α} {N:α->Hp->Prop} {a:Addr} {vs:List V} (Pv:Nat->α->Hp->Prop) (h0:Pv 0 b0 H) (hl:∀i b H,Pv i b H->SqL C.K H a vs)
  (hs:∀i b H x (R:α->Hp->Prop),vs[i]?=some x->Pv i b H->(∀c H2,Pv (i+1) c H2->R c H2)->g x (clr own σ) H (h9' tc as' b R)) (hd:∀b H,Pv vs.length b H->N b H):kCl own g tc as' σ b0 N (Itl C.K a) H:=
 oj' (n:=vs.length) Pv h0 (fun i xs H hi p=>⟨vs,vs[i],hl i xs H p,by simp[hi]⟩) (fun xs H p=>⟨vs,hl _ xs H p,al _⟩) (fun i xs H x H' R hi p y k=>by
  obtain⟨e,y⟩:=y
  subst e
  exact hs i xs H' x R (y vs (hl i xs H' p)) p k) hd
theorem zB' {own:List Nat} {g:TG} {tc:TT} {as':TL α} {b0:α} {N:α->Hp->Prop} {a:Addr} {vs:List V} (Pv:Nat->α->Hp->Prop) (h0:Pv 0 b0 H) (hl:∀i b H,Pv i b H->SqT C.K H a vs)
  (hs:∀i b H x (R:α->Hp->Prop),vs[i]?=some x->Pv i b H->(∀c H2,Pv (i+1) c H2->R c H2)->g x (clr own σ) H (h9' tc as' b R)) (hd:∀b H,Pv vs.length b H->N b H):kCl own g tc as' σ b0 N (Itt C.K a) H:=
 oj' (n:=vs.length) Pv h0 (fun i xs H hi p=>⟨vs,vs[i],hl i xs H p,by simp[hi]⟩) (fun xs H p=>⟨vs,hl _ xs H p,al _⟩) (fun i xs H x H' R hi p y k=>by
  obtain⟨e,y⟩:=y
  subst e
  exact hs i xs H' x R (y vs (hl i xs H' p)) p k) hd
theorem zC' {own:List Nat} {g:TG} {tc:TT} {as':TL α} {b0:α} {N:α->Hp->Prop} {a:Addr} {vs:List V} (Pv:Nat->α->Hp->Prop) (h0:Pv 0 b0 H) (hl:∀i b H,Pv i b H->SqL C.K H a vs)
  (hs:∀i b H x p (R:α->Hp->Prop),vs[i]?=some x->H p=none->Pv i b H->(∀c H2,Pv (i+1) c H2->R c H2)->g (.ref p) (clr own σ) (upd H p (.tup [.int i,x])) (h9' tc as' b R)) (hd:∀b H,Pv vs.length b H->N b H):kCl own g tc as' σ b0 N (Ite C.K a) H:=
 oj' (n:=vs.length) Pv h0 (fun i xs H hi p=>⟨vs,vs[i],hl i xs H p,by simp[hi]⟩) (fun xs H p=>⟨vs,hl _ xs H p,rfl⟩) (fun i xs H x H' R hi p y k=>by
  obtain⟨ad,v,rfl,hn,y,rfl⟩:=y
  exact hs i xs H v ad R (y vs (hl i xs H p)) hn p k) hd
theorem Aj' {own:List Nat} {g:TG} {tc:TT} {as':TL α} {b0:α} {N:α->Hp->Prop} {lo:Int} {n:Nat} (Pv:Nat->α->Hp->Prop) (h0:Pv 0 b0 H)
  (hs:∀i b H (R:α->Hp->Prop),i<n->Pv i b H->(∀c H2,Pv (i+1) c H2->R c H2)->g (.int (lo+i)) (clr own σ) H (h9' tc as' b R)) (hd:∀b H,Pv n b H->N b H):kCl own g tc as' σ b0 N (Itr lo n) H:=
 oj' (n:=n) Pv h0 (fun i xs H hi p=>hi) (fun xs H p=>al _) (fun i xs H x H' R hi p y k=>by
  obtain⟨e,rfl⟩:=y
  subst e
  exact hs i xs H' R hi p k) hd
theorem ok' {elt:Ce} {own:List Nat} {t:Ct} {it:Ci} {q:Cqo} {ws:List Nat} {t2:Ct} {it2:Ci} {q2:Cqo} {r:Cc}:tE C (.comp elt own t it q (.cons ws t2 it2 q2 r)) σ H Q=tI C it σ H (kCl own (tG C t) (tQo C q) (tR C (.cons ws t2 it2 q2 r) (ei' (tE C elt))) σ [] (qb' Q)):=rfl
theorem sf' {ws:List Nat} {t:Ct} {it:Ci} {q:Cqo} {r:Cc} {em:TL (List V)} {b:List V} {P:List V->Hp->Prop}:tR C (.cons ws t it q r) em σ b H P=tI C it σ H (kCl ws (tG C t) (tQo C q) (tR C r em) σ b P):=rfl
theorem v1' {em:TL (List V)} {b:List V} {P:List V->Hp->Prop}:tR C .nil em σ b H P=em σ b H P:=rfl
theorem sg' {elt:Ce} {b:List V} {P:List V->Hp->Prop}:ei' (tE C elt) σ b H P=tE C elt σ H (gM' b P):=rfl
def yB' (b:(Option Int->Bool)×Nat) (P:(Option Int->Bool)×Nat->Hp->Prop):VK:=fun v H=>∃k,v=kO k/\b.2<4000/\P (fun j=>b.1 j || decide (j=k),b.2+1) H
theorem ol' {elt:Ce} {b:(Option Int->Bool)×Nat} {P:(Option Int->Bool)×Nat->Hp->Prop}:gr' (tE C elt) σ b H P=tE C elt σ H (yB' b P):=rfl
theorem sh' {it:Ci} {own:List Nat} {g:TG} {tc:TT} {as':TL α} {b:α} {P:α->Hp->Prop}:hE' (tI C it) (a9' own g tc as') σ b H P=tI C it σ H (kCl own g tc as' σ b P):=rfl
def yC' (i:Nat) (D:Ends) (σ:L2.St):(Option Int->Bool)×Nat->Hp->Prop:=fun a H2=>True/\∀p,H2 p=none->D.nx (σ.set i (some (.ref p))) (upd H2 p (e4' p a.1 a.2))
theorem si' {i:Nat} {elt:Ce} {own:List Nat} {t:Ct} {it:Ci} {q:Cqo} {ws:List Nat} {t2:Ct} {it2:Ci} {q2:Cqo}:tS C (.setc2 i elt own t it q ws t2 it2 q2) D σ H=tI C it σ H (kCl own (tG C t) (tQo C q) (hE' (tI C it2) (a9' ws (tG C t2) (tQo C q2) (gr' (tE C elt)))) σ (fun _=>false,0) (yC' i D σ)):=rfl
theorem v2' {K:W.Frag} {a:Addr} {ns:List Int} (h:SqL K H a (ns.map V.int)) (hl:ns.length<=3999) (q:∀p,H p=none->Q (.ref p) (upd H p (e4' p (inL ns) ns.length))):dc' K .set [.ref a] H Q:=⟨a,ns,rfl,h,hl,q⟩
def yD' (i:Nat) (D:Ends) (σ:L2.St):List (Key×V)->Hp->Prop:=fun a H2=>True/\∀p,H2 p=none->D.nx (σ.set i (some (.ref p))) (upd H2 p (.dK a))
def yE' (i:Nat) (D:Ends) (σ:L2.St):KTL->Hp->Prop:=fun a H2=>okT a H2/\∀p,H2 p=none->D.nx (σ.set i (some (.ref p))) (upd H2 p (.dT (plT a)))
theorem sj' {i:Nat} {k v:Ce} {own:List Nat} {t:Ct} {it:Ci} {q:Cqo}:tS C (.dctc false i k v own t it q) D σ H=tI C it σ H (kCl own (tG C t) (tQo C q) (iE' (tE C k) (tE C v)) σ [] (yD' i D σ)):=rfl
theorem sk' {i:Nat} {k v:Ce} {own:List Nat} {t:Ct} {it:Ci} {q:Cqo}:tS C (.dctc true i k v own t it q) D σ H=tI C it σ H (kCl own (tG C t) (tQo C q) (iF' (tE C k) (tE C v)) σ [] (yE' i D σ)):=rfl
def zD' (a:KTL) (P:KTL->Hp->Prop) (y:V):VK:=fun v H2=>∃(k:List Key) (b:Addr),y=.ref b/\H2 b=some (.tup (k.map L2.kV))/\okT a H2/\a.length<sizeLine/\P (zg' a k b v) H2
def zE' (C:Rc) (σ:L2.St) (v:Ce) (a:KTL) (P:KTL->Hp->Prop):VK:=fun y H1=>tE C v σ H1 (zD' a P y)
theorem om' {k v:Ce} {a:KTL} {P:KTL->Hp->Prop}:uJ' (tE C k) (tE C v) σ a H P=tE C k σ H (zE' C σ v a P):=rfl
theorem sm' {v:Ce} {a:KTL} {P:KTL->Hp->Prop} {y:V}:zE' C σ v a P y H=tE C v σ H (zD' a P y):=rfl
def zF' (a:List (Key×V)) (P:List (Key×V)->Hp->Prop) (y:V):VK:=fun v H2=>∃k,y=L2.kV k/\a.length<sizeLine/\P (hH' a k v) H2
def zG' (C:Rc) (σ:L2.St) (v:Ce) (a:List (Key×V)) (P:List (Key×V)->Hp->Prop):VK:=fun y H1=>tE C v σ H1 (zF' a P y)
theorem on' {k v:Ce} {a:List (Key×V)} {P:List (Key×V)->Hp->Prop}:iE' (tE C k) (tE C v) σ a H P=tE C k σ H (zG' C σ v a P):=rfl
theorem sn' {v:Ce} {a:List (Key×V)} {P:List (Key×V)->Hp->Prop} {y:V}:zG' C σ v a P y H=tE C v σ H (zF' a P y):=rfl
def zH' (a:KTL) (P:KTL->Hp->Prop) (y:V):VK:=fun v H2=>∃(k:List Key) (b:Addr),y=.ref b/\H2 b=some (.tup (k.map L2.kV))/\okT a H2/\(∀x∈a,x.1≠k)/\a.length<sizeLine/\P (a++[(k,b,v)]) H2
def zI' (C:Rc) (σ:L2.St) (v:Ce) (a:KTL) (P:KTL->Hp->Prop):VK:=fun y H1=>tE C v σ H1 (zH' a P y)
theorem oo' {k v:Ce} {a:KTL} {P:KTL->Hp->Prop}:iF' (tE C k) (tE C v) σ a H P=tE C k σ H (zI' C σ v a P):=rfl
theorem so' {v:Ce} {a:KTL} {P:KTL->Hp->Prop} {y:V}:zI' C σ v a P y H=tE C v σ H (zH' a P y):=rfl
def yF' (b:List (List Int×Addr)) (P:List (List Int×Addr)->Hp->Prop):VK:=fun v H'=>∃(k:List Int) (p:Addr),v=.ref p/\H' p=some (.tup (k.map V.int))/\Trk H' b/\b.length<4000/\P (zf' b k p) H'
theorem oq' {elt:Ce} {b:List (List Int×Addr)} {P:List (List Int×Addr)->Hp->Prop}:uD' (tE C elt) σ b H P=tE C elt σ H (yF' b P):=rfl
def sq' (neg:Bool) (y:V) (Q:VK):VK:=fun x H2=>(∃a o,x=.ref a/\gk' H2 a y o/\Q (.bl (if neg then !o.isSome else o.isSome)) H2)\/wX' neg y x H2 Q\/wZ' neg y x H2 Q
def sr' (C:Rc) (σ:L2.St) (neg:Bool) (b:Ce) (Q:VK):VK:=fun y H1=>tE C b σ H1 (sq' neg y Q)
theorem v3' {neg:Bool} {a b:Ce}:tE C (.din neg a b) σ H Q=tE C a σ H (sr' C σ neg b Q):=rfl
theorem v4' {neg:Bool} {a b:Ce} {Qb:Bool->Hp->Prop}:tQ C (.din neg a b) σ H Qb=tE C a σ H (sr' C σ neg b (kT Qb)):=rfl
theorem or' {neg:Bool} {b:Ce} {y:V}:sr' C σ neg b Q y H=tE C b σ H (sq' neg y Q):=rfl
theorem mq' {neg:Bool} {k:Option Int} {y:V} {p:Addr} {S:Option Int->Bool} {n:Nat} (hy:y=kO k) (h:H p=some (e4' p S n)) (q:Q (.bl (if neg then !(S k)else S k)) H):sq' neg y Q (.ref p) H:=.inr (.inl ⟨k,p,S,n,hy,rfl,h,q⟩)
def gU' (a:Addr) (Q:VK):VK:=fun y H2=>(∃o,gk' H2 a y o/\Q (o.getD .non) H2)\/(y=.non/\NoN H2 a/\Q .non H2)
def v5' (C:Rc) (σ:L2.St) (b:Ce) (Q:VK):VK:=fun x H1=>∃a,x=.ref a/\IsD H1 a/\tE C b σ H1 (gU' a Q)
theorem v6' {a b:Ce}:tE C (.dgt a b) σ H Q=tE C a σ H (v5' C σ b Q):=rfl
def qp' (a:Addr) (y:V) (Q:VK):VK:=fun z H3=>∃o,gk' H3 a y o/\Q (o.getD z) H3
def v7' (C:Rc) (σ:L2.St) (c:Ce) (a:Addr) (Q:VK):VK:=fun y H2=>tE C c σ H2 (qp' a y Q)
theorem mr' {c:Ce} {a:Addr} {y:V}:v7' C σ c a Q y H=tE C c σ H (qp' a y Q):=rfl
theorem fO' {b:Ce} {p:Addr} (h:IsD H p) (q:tE C b σ H (gU' p Q)):v5' C σ b Q (.ref p) H:=⟨p,rfl,h,q⟩
theorem ms' {p:Addr} {y:V} {o:Option V} (h:gk' H p y o) (q:Q (o.getD .non) H):gU' p Q y H:=.inl ⟨o,h,q⟩
theorem mt' {p:Addr} (h:NoN H p) (q:Q .non H):gU' p Q .non H:=.inr ⟨rfl,h,q⟩
end
section
variable {C:Rc} {σ:L2.St} {H:Hp} {Q:VK} {Qb:Bool->Hp->Prop}
def kW1 (C:Rc) (σ:L2.St) (k:Zf) (b:Ce) (Q:VK):VK:=fun x H=>tE C b σ H fun y H'=>rZf k x y H' Q
def kW2 (k:Zf) (x:V) (Q:VK):VK:=fun y H=>rZf k x y H Q
theorem v8' {k:Zf} {b:Ce} {x:V}:kW1 C σ k b Q x H=tE C b σ H (kW2 k x Q):=rfl
section
variable {D:Ends}
def Ak' (x y z:V) (sub:Bool) (D:Ends) (σ:L2.St):VK:=fun w H4=>ipI (fun i j=>if sub then i-j else i+j) z w H4 fun u H5=>dM' x y u H5 fun H6=>D.nx σ H6
def zJ' (C:Rc) (e:Ce) (sub:Bool) (x:V) (D:Ends) (σ:L2.St):VK:=fun y H2=>f0' C.K x y H2 fun z H3=>tE C e σ H3 (Ak' x y z sub D σ)
def Al' (C:Rc) (i:Ce) (sub:Bool) (e:Ce) (D:Ends) (σ:L2.St):VK:=fun x H1=>tE C i σ H1 (zJ' C e sub x D σ)
theorem ss' {i e:Ce} {sub:Bool} {x:V}:Al' C i sub e D σ x H=tE C i σ H (zJ' C e sub x D σ):=rfl
def zK' (x v:V) (D:Ends) (σ:L2.St):VK:=fun y H3=>(∃a H4,x=.ref a/\y8' H3 a y v H4/\D.nx σ H4)\/∃(a:Addr) (L:List NK) (q:NK),x=.ref a/\v=.bl true/\H3 a=some (tf' a L)/\wY' H3 L/\L.length<4000/\z2' H3 y q/\D.nx σ (upd H3 a (tf' a (z1' L q)))
def yG' (C:Rc) (i:Ce) (v:V) (D:Ends) (σ:L2.St):VK:=fun x H2=>tE C i σ H2 (zK' x v D σ)
def Am' (C:Rc) (o i:Ce) (D:Ends) (σ:L2.St):VK:=fun v H1=>tE C o σ H1 (yG' C i v D σ)
theorem su' {o i:Ce} {v:V}:Am' C o i D σ v H=tE C o σ H (yG' C i v D σ):=rfl
theorem sv' {i:Ce} {v x:V}:yG' C i v D σ x H=tE C i σ H (zK' x v D σ):=rfl
end
def zL' (C:Rc) (Q:VK) (x:V):VK:=fun y H1=>∃(k j:Bool) (a b:Addr) (xs ys:List V),[x,y]=[.ref a,.ref b]/\Sq k C.K H1 a xs/\Sq j C.K H1 b ys/\xs.length=ys.length/\
 ∀(l:Addr) (as:List Addr) (H':Hp),H1 l=none->(∀b u,H1 b=some u->H' b=some u)->(∀p∈as,H1 p=none)->H' l=some (.lst (as.map V.ref))->as.length=xs.length->(∀(i:Nat) p x y,as[i]?=some p->xs[i]?=some x->ys[i]?=some y->H' p=some (.tup [x,y]))->Q (.ref l) H'
def An' (C:Rc) (σ:L2.St) (b:Ce) (Q:VK):VK:=fun x H1=>tE C b σ H1 (zL' C Q x)
theorem sw' {b:Ce} {x:V}:An' C σ b Q x H=tE C b σ H (zL' C Q x):=rfl
def yH' (C:Rc) (σ:L2.St) (b:Ce) (Q:VK):VK:=fun x H1=>tE C b σ H1 (ob' fun l H2=>∃(a:Addr) (xs:List V) (n:Nat),x=.ref a/\l=some (n:Int)/\0<n/\SqL C.K H2 a xs/\∀p,H2 p=none->Q (.ref p) (upd H2 p (.lst (zh' xs n))))
theorem ot' {b:Ce} {x:V}:yH' C σ b Q x H=tE C b σ H (ob' fun l H2=>∃(a:Addr) (xs:List V) (n:Nat),x=.ref a/\l=some (n:Int)/\0<n/\SqL C.K H2 a xs/\∀p,H2 p=none->Q (.ref p) (upd H2 p (.lst (zh' xs n)))):=rfl
def zM' (C:Rc) (Q:VK) (x:V):VK:=fun y H1=>∃(k j:Bool) (a b:Addr) (ps:List (Str×Str)),[x,y]=[.ref a,.ref b]/\Sq k C.K H1 a (ps.map fun q=>V.str q.1)/\Sq j C.K H1 b (ps.map fun q=>V.str q.2)/\ps.length<64/\
 ∀(l:Addr) (as:List (Addr×Str×Str)) (H':Hp),H1 l=none->(∀b u,H1 b=some u->H' b=some u)->H' l=some (.lst (as.map fun q=>V.ref q.1))->(as.map fun q=>q.2).Perm ps->(as.Pairwise fun x y=>uC' [.inr y.2.1,.inr y.2.2] [.inr x.2.1,.inr x.2.2]=false)->(∀q∈as,H' q.1=some (.tup [.str q.2.1,.str q.2.2]))->Q (.ref l) H'
def Ao' (C:Rc) (σ:L2.St) (b:Ce) (Q:VK):VK:=fun x H1=>tE C b σ H1 (zM' C Q x)
theorem sx' {b:Ce} {x:V}:Ao' C σ b Q x H=tE C b σ H (zM' C Q x):=rfl
def zN' (a:Addr) (y:V) (Q:VK):VK:=fun z H3=>∃o,gk' H3 a y o/\(∀v,o=some v->Q v H3)/\(o=none->∃H4,y8' H3 a y z H4/\Q z H4)
def Ap' (C:Rc) (σ:L2.St) (c:Ce) (a:Addr) (Q:VK):VK:=fun y H2=>tE C c σ H2 (zN' a y Q)
theorem sy' {c:Ce} {a:Addr} {y:V}:Ap' C σ c a Q y H=tE C c σ H (zN' a y Q):=rfl
end
end R3
section
open PySem PySem.Spec PyProof.Rows L2 R3
set_option hygiene false in
local macro_rules | `(tactic| walk_at "sx") => `(tactic| simp only [gH', pt', uW', pu', pv', rS', pw', px', py', pz', pA', pB', pC', pD', pE', pF', iW', uX', pG', pH', iX', pI', uZ', l5', l6', pJ', pK', vR', vS', qh', jh', ji', gR', mn', mo', vV', qj', qk', ql', qm', jj', u0', mi', u2', u3', pL', u4', u5', u6', zm', zn', zo', zp', u7', vM', vN', qg', ml', zx', mj', pM', pN', l7', gI', pO', pP', pQ', u9', pR', iY', vb', h6', vf', iZ', i0', i1', zr', vg', vh', eB', cw', fc', j8', dK', l8', pS', h7', l9', i2', eC', pT', i4', i5', pU', pV', pW', pX', pY', vk', pZ', ma', p0', i6', i7', i8', p1', p2', gJ', p3', i9', ja', jb', gN', qd', ff', gO', gP', mg', mh', vr', vt', zv', zw', p5', qf', vw', vx', gK', gL', mc', p9', qa', p7', me', vF', vG', vH', vI', je', clr, List.foldl_cons, List.foldl_nil, L2.aB', aJ, List.map_nil, aR, bH, List.cons_append, List.nil_append, aG, Nat.reduceSub, Nat.reduceAdd, bW, bX, bU, List.getElem?_cons_succ, reduceCtorEq, decide_true, decide_false, eq_self, Bool.not_true, Bool.not_false, bne_self_eq_false, BEq.rfl])
local macro_rules | `(tactic| walk_at "y") => `(tactic| try walk_at "sy")
set_option hygiene false in
local macro_rules | `(tactic| walk_at "sy") => `(tactic| simp only [sw', sx', sy', ot', v8', su', sv', ss', oe', ok', sf', v1', sg', v3', v4', or', v6', mr', si', sj', sk', om', sm', ol', oq', sh', on', sn', oo', so', sd', se', oh', oi', gH', pt', uW', pu', pv', rS', pw', px', py', pz', pA', pB', pC', pD', pE', pF', iW', uX', pG', pH', iX', pI', uZ', l5', l6', pJ', pK', vR', vS', qh', jh', ji', gR', mn', mo', vV', qj', qk', ql', qm', jj', u0', mi', u2', u3', pL', u4', u5', u6', zm', zn', zo', zp', u7', vM', vN', qg', ml', zx', mj', pM', pN', l7', gI', pO', pP', pQ', u9', pR', iY', vb', h6', vf', iZ', i0', i1', zr', vg', vh', eB', cw', fc', j8', dK', l8', pS', h7', l9', i2', i3', eC', pT', i4', i5', pU', pV', pW', pX', pY', vk', pZ', ma', p0', i6', i7', i8', p1', p2', gJ', p3', i9', ja', jb', gN', qd', ff', gO', gP', mg', mh', vr', vt', zv', zw', p5', qf', vw', vx', gK', gL', mc', p9', qa', p7', me', vF', vG', vH', vI', je', clr, List.foldl_cons, List.foldl_nil, L2.aB', aJ, List.map_nil, aR, bH, List.cons_append, List.nil_append, aG, Nat.reduceSub, Nat.reduceAdd, bW, bX, bU, List.getElem?_cons_succ, reduceCtorEq, decide_true, decide_false, eq_self, Bool.not_true, Bool.not_false, bne_self_eq_false, BEq.rfl])
namespace LW
open PySem PySem.Spec PyProof.Rows L2 R3
def di':Css:=(.cons (.ite (.cmp .Lt (.var 1) (.blt .len (.cons (.var 0) .nil))) (.cons (.ret (.idx (.var 0) (.var 1)))
  .nil) .nil)
  (.cons (.ret (.int 0))
  .nil))
def ou':Css:=(.cons (.asg (.name 2) (.call "_law_cell_at" (.cons (.var 0) (.cons (.var 1) .nil))))
  (.cons (.ret (.lst (.cons (.bin .Mult (.blt .abs (.cons (.var 2) .nil)) (.blt .int (.cons (.cmp .GtE (.blt .abs (.cons (.var 2) .nil)) (.bin .Pow (.int 10) (.int 18))) .nil))) (.cons (.bin .Add (.bin .Add (.bin .Mod (.var 2) (.int 2305843009213693951)) (.bin .Mult (.int 39373) (.var 1))) (.int 17)) (.cons (.int 0) .nil)))))
  .nil))
def jm':Css:=(.cons (.ite (.cmp .Gt (.idx (.var 0) (.int 0)) (.int 0)) (.cons (.asg (.name 2) (.bin .Mod (.idx (.var 0) (.int 0)) (.var 1)))
  (.cons (.asg (.sub (.var 0) (.int 0)) (.bin .FloorDiv (.idx (.var 0) (.int 0)) (.var 1)))
  (.cons (.ret (.var 2))
  .nil))) .nil)
  (.cons (.asg (.sub (.var 0) (.int 2)) (.bin .Add (.idx (.var 0) (.int 2)) (.int 1)))
  (.cons (.asg (.name 3) (.bin .Mod (.bin .Mult (.bin .Add (.idx (.var 0) (.int 1)) (.bin .Mult (.int 48271) (.idx (.var 0) (.int 2)))) (.bin .Add (.int 39373) (.idx (.var 0) (.int 2)))) (.int 2147483647)))
  (.cons (.asg (.name 4) (.bin .Mod (.bin .Mult (.bin .Add (.var 3) (.idx (.var 0) (.int 2))) (.bin .Add (.bin .Mod (.var 3) (.int 40009)) (.int 7))) (.int 2147483629)))
  (.cons (.ret (.bin .Mod (.bin .FloorDiv (.bin .Mod (.bin .Add (.bin .Mult (.var 4) (.int 48271)) (.var 3)) (.int 2147483587)) (.int 64)) (.var 1)))
  .nil)))))
def fh' (K:W.Frag):Sp:=fun vs H Q _=>∃(a:Addr) (ns:List Int) (k:Int),vs=[.ref a,.int k]/\SqL K H a (ns.map V.int)/\0<=k/\∀c:Int,Q (.int c) H
theorem ov' {ns:List Int} {k:Int} (h0:0<=k) (h1:k<ns.length):∃c:Int,atI (ns.map V.int) k=some (.int c):=by
 obtain⟨j,rfl⟩:=ay h0
 have hk:j<ns.length:=by omega
 exact⟨ns[j],bX' (by rw[az,ac hk];rfl)⟩
theorem mu' {C:Rc} (hN:C.N.length=2):∀vs H Q E,fh' C.K vs H Q E->tSs C di' { nx:=fun _ H'=>Q .non H',rt:=Q } (L2.aB' C.N vs) H:=by
 intro vs H Q E h
 obtain⟨a,ns,k,rfl,hs,hk,q⟩:=h
 rw[al' hN]
 unfold di'
 walk_at "y"
 refine cx' hs ?_
 rw[ai]
 walk_at "y"
 refine aV' (fun c=>?_) fun _=>?_
 .obtain⟨v,hv⟩:=ov' hk c
  walk_at "y"
  exact a1' hs hv (q v)
 .walk_at "y"
  exact q 0
def mv' (K:W.Frag):Sp:=fun vs H Q _=>∃(a:Addr) (ns:List Int) (k:Int),vs=[.ref a,.int k]/\SqL K H a (ns.map V.int)/\0<=k/\k<=1000/\∀(p:Addr) (x y:Int),H p=none->0<=x->0<=y->y<2 ^ 62->Q (.ref p) (upd H p (gG' x y 0))
theorem ow' {C:Rc} (hN:C.N.length=3) (hf:C.fs "_law_cell_at"=some (fh' C.K)):∀vs H Q E,mv' C.K vs H Q E->tSs C ou' { nx:=fun _ H'=>Q .non H',rt:=Q } (L2.aB' C.N vs) H:=by
 intro vs H Q E h
 obtain⟨a,ns,k,rfl,hs,hk,hk2,q⟩:=h
 rw[al' hN]
 unfold ou'
 walk_at "y"
 refine ag' hf ?_
 walk_at "y"
 refine⟨a,ns,k,rfl,hs,hk,fun c=>?_⟩
 walk_at "y"
 have hm0:0<=c % 2305843009213693951:=Int.emod_nonneg _ (by decide)
 have hm1:c % 2305843009213693951<2305843009213693951:=Int.emod_lt_of_pos _ (by decide)
 refine⟨⟨by decide,by decide,by decide⟩,?_,by decide,.inl ⟨by decide,by decide⟩,by decide,fun p hp=>q p _ _ hp ?_ ?_ ?_⟩
 .refine .inr (.inl ⟨?_,?_⟩)<;>split<;>split<;>decide
 .split<;>split<;>omega
 .omega
 .omega
section
variable {K:W.Frag} {H:Hp} {b:Addr} {x y z:Int} {Q:VK}
theorem ix0 (h:H b=some (gG' x y z)) (q:Q (.int x) H):f0' K (.ref b) (.int 0) H Q\/ga' K (.ref b) (.int 0) H Q:=.inl ⟨b,_,0,_,rfl,rfl,SqL.of h,rfl,q⟩
theorem ix1 (h:H b=some (gG' x y z)) (q:Q (.int y) H):f0' K (.ref b) (.int 1) H Q\/ga' K (.ref b) (.int 1) H Q:=.inl ⟨b,_,1,_,rfl,rfl,SqL.of h,rfl,q⟩
theorem ix2 (h:H b=some (gG' x y z)) (q:Q (.int z) H):f0' K (.ref b) (.int 2) H Q\/ga' K (.ref b) (.int 2) H Q:=.inl ⟨b,_,2,_,rfl,rfl,SqL.of h,rfl,q⟩
theorem st0 {u:Int} {Q:Hp->Prop} (h:H b=some (gG' x y z)) (q:Q (upd H b (gG' u y z))):dM' (.ref b) (.int 0) (.int u) H Q:=⟨b,_,0,0,rfl,rfl,h,rfl,q⟩
theorem st2 {u:Int} {Q:Hp->Prop} (h:H b=some (gG' x y z)) (q:Q (upd H b (gG' x y u))):dM' (.ref b) (.int 2) (.int u) H Q:=⟨b,_,2,2,rfl,rfl,h,rfl,q⟩
end
def fP':Sp:=fun vs H Q _=>∃(b:Addr) (x y z m:Int),vs=[.ref b,.int m]/\H b=some (gG' x y z)/\0<=x/\0<=y/\y<2 ^ 62/\0<=z/\z<=2 ^ 40/\0<m/\m<4611686018427387904/\
 ∀(r x' z':Int),0<=r->r<m->0<=x'->0<=z'->z'<=z+1->Q (.int r) (upd H b (gG' x' y z'))
theorem mw' {C:Rc} (hN:C.N.length=5):∀vs H Q E,fP' vs H Q E->tSs C jm' { nx:=fun _ H'=>Q .non H',rt:=Q } (L2.aB' C.N vs) H:=by
 intro vs H Q E h
 obtain⟨b,x,y,z,m,rfl,hb,hx,hy,hy2,hz,hz2,hm,hm2,q⟩:=h
 rw[al' hN]
 unfold jm'
 walk_at "sy"
 refine ix0 hb ?_
 walk_at "sy"
 refine aV' (fun c=>?_) fun _=>?_
 .walk_at "sy"
  refine ix0 hb ?_
  walk_at "sy"
  refine⟨hm,?_⟩
  refine ix0 hb ?_
  walk_at "sy"
  refine⟨⟨hm,.inr (ak ((Nat.log2_lt (by omega)).mpr (show m.natAbs<2 ^ 62 by omega)) (by decide))⟩,st0 hb ?_⟩
  walk_at "sy"
  exact q _ _ _ (Int.emod_nonneg _ (by omega)) (Int.emod_lt_of_pos _ hm) (Int.ediv_nonneg hx (by omega)) hz (by omega)
 .walk_at "sy"
  refine ix2 hb ?_
  walk_at "sy"
  refine st2 hb ?_
  have hb':upd H b (gG' x y (z+1)) b=some (gG' x y (z+1)):=aa'
  walk_at "sy"
  refine ix1 hb' ?_
  walk_at "sy"
  refine ix2 hb' ?_
  walk_at "sy"
  refine⟨.inl ⟨by decide,by decide⟩,?_⟩
  refine ix2 hb' ?_
  walk_at "sy"
  refine⟨.inr (.inl ⟨by omega,by omega⟩),by decide,?_⟩
  refine ix2 hb' ?_
  walk_at "sy"
  generalize (y+48271*(z+1))*(39373+(z+1)) % 2147483647=once
  have ho0:0<=once % 40009:=Int.emod_nonneg _ (by decide)
  have ho1:once % 40009<40009:=Int.emod_lt_of_pos _ (by decide)
  refine⟨by decide,.inr (.inl ⟨by omega,by omega⟩),by decide,.inr (.inl ⟨by decide,by decide⟩),by decide,⟨by decide,by decide⟩,hm,?_⟩
  exact q _ _ _ (Int.emod_nonneg _ (by omega)) (Int.emod_lt_of_pos _ hm) hx (by omega) (by omega)
def aO':Sp:=fun vs H Q _=>∃(b:Addr) (n:Nat) (m:Int),vs=[.ref b,.int m]/\H b=some (dy' b n)/\n<=2 ^ 40/\0<m/\m<4611686018427387904/\∀(r:Int) (H':Hp),0<=r->r<m->Go 1 H H'->Q (.int r) H'
theorem sz' {P:Program} {w:World} {K:W.Frag} {mg:Str->Option Value} {base:Heap} {k:Nat} {f:Addr} {fd:FuncData} {ps:List Str} (hp:ps.length=2) (F:FnOk P w K mg base CX0 k f fd ps fP'):FnOk P w K mg base CX0 k f fd ps aO':=by
 refine rR' (l4' (sp':=fun vs H Q E=>fP' vs H (zk' Q) E) F fun _ _ _ _ h=>h) (fun vs H Q E h=>?_) fun vs H Q E h=>?_
 .obtain⟨b,n,m,rfl,hb,hn,hm,hm2,q⟩:=h
  refine⟨b,n,hb,fun x y z hx hy hy2 hz hzn=>⟨b,x,y,z,m,rfl,aa',hx,hy,hy2,hz,by omega,hm,hm2,fun r x' z' h1 h2 h3 h4 h5=>?_⟩⟩
  refine⟨b,x',y,z',n+1,aa',h3,hy,hy2,h4,by omega,?_⟩
  refine q r _ h1 h2 ?_
  rw[fl']
  exact Go.draw hb (al _) _
 .obtain⟨b,n,m,rfl,_⟩:=h
  rw[hp]
  rfl
def mx' (K:W.Frag):Sp:=fun vs H Q _=>∃(a:Addr) (ns:List Int) (k:Int),vs=[.ref a,.int k]/\SqL K H a (ns.map V.int)/\0<=k/\k<=1000/\∀(p:Addr),H p=none->Q (.ref p) (upd H p (dy' p 0))
theorem v9' {P:Program} {w:World} {K:W.Frag} {mg:Str->Option Value} {base:Heap} {k:Nat} {f:Addr} {fd:FuncData} {ps:List Str} (F:FnOk P w K mg base CX0 k f fd ps (mv' K)):FnOk P w K mg base CX0 k f fd ps (mx' K):=by
 refine l4' F fun vs H Q E h=>?_
 obtain⟨a,ns,k,rfl,hs,h0,h1,q⟩:=h
 refine⟨a,ns,k,rfl,hs,h0,h1,fun p x y hp hx hy hy2=>⟨p,x,y,0,0,aa',hx,hy,hy2,by omega,by omega,?_⟩⟩
 rw[fl']
 exact q p hp
theorem _root_.R3.Go.boxed {c n:Nat} {H H':Hp} {b:Addr} (g:Go c H H') (h:H b=some (dy' b n)) (hn:n+c<=2 ^ 40):∃m,H' b=some (dy' b m)/\m<=n+c/\m<=2 ^ 40:=by
 obtain⟨m,hm,e⟩:=g.box b n h
 exact⟨m,e,hm,by omega⟩
section
variable {K:W.Frag} {H:Hp} {Q:VK}
end
end LW
namespace LW
open PySem PySem.Spec PyProof.Rows L2 R3
def jn':Css:=(.cons (.ite (.cmp .Eq (.call "_law_take" (.cons (.var 0) (.cons (.int 8) .nil))) (.int 0)) (.cons (.ret (.bin .Add (.int 7) (.call "_law_take" (.cons (.var 0) (.cons (.bin .Sub (.var 3) (.int 6)) .nil)))))
  .nil) .nil)
  (.cons (.ret (.bin .Add (.var 1) (.call "_law_take" (.cons (.var 0) (.cons (.bin .Add (.bin .Sub (.var 2) (.var 1)) (.int 1)) .nil)))))
  .nil))
def dj':Css:=(.cons (.asg (.name 2) (.bin .Add (.int 2) (.call "_law_take" (.cons (.var 0) (.cons (.int 4) .nil)))))
  (.cons (.asg (.name 3) (.lst .nil))
  (.cons (.for_ (.name 4) (.range1 (.var 1)) (.cons (.asg (.name 5) (.lst .nil))
  (.cons (.for_ (.name 6) (.range1 (.int 2)) (.cons (.asg (.name 7) (.call "_law_take" (.cons (.var 0) (.cons (.var 1) .nil))))
  (.cons (.expr (.met .append (.var 5) (.cons (.idx (.lst (.cons (.var 7) (.cons .non .nil))) (.blt .int (.cons (.cmp .Eq (.call "_law_take" (.cons (.var 0) (.cons (.var 2) .nil))) (.int 0)) .nil))) .nil)))
  .nil)))
  (.cons (.expr (.met .append (.var 3) (.cons (.blt .tuple (.cons (.var 5) .nil)) .nil)))
  .nil))))
  (.cons (.ret (.blt .tuple (.cons (.var 3) .nil)))
  .nil))))
def bb':Css:=(.cons (.asg (.name 2) (.lst .nil))
  (.cons (.for_ (.name 3) (.range1 (.var 1)) (.cons (.expr (.met .insert (.var 2) (.cons (.call "_law_take" (.cons (.var 0) (.cons (.bin .Add (.var 3) (.int 1)) .nil))) (.cons (.var 3) .nil))))
  .nil))
  (.cons (.asg (.name 4) (.bin .Mult (.lst (.cons .non .nil)) (.var 1)))
  (.cons (.for_ (.tup (.cons (.name 5) (.cons (.name 6) .nil))) (.enum (.var 2)) (.cons (.asg (.name 7) (.idx (.bin .Add (.var 2) (.cut (.var 2) .none (.some (.int 1)))) (.bin .Add (.var 5) (.int 1))))
  (.cons (.asg (.name 8) (.idx (.lst (.cons (.call "_law_take" (.cons (.var 0) (.cons (.var 1) .nil))) (.cons .non .nil))) (.blt .int (.cons (.cmp .Eq (.call "_law_take" (.cons (.var 0) (.cons (.int 3) .nil))) (.int 0)) .nil))))
  (.cons (.asg (.sub (.var 4) (.var 6)) (.idx (.lst (.cons (.tup (.cons (.var 7) (.cons (.var 8) .nil))) (.cons (.tup (.cons (.var 8) (.cons (.var 7) .nil))) .nil))) (.call "_law_take" (.cons (.var 0) (.cons (.int 2) .nil)))))
  .nil))))
  (.cons (.ret (.blt .tuple (.cons (.var 4) .nil)))
  .nil)))))
abbrev Rm:=Option Nat×Option Nat
def oV:Option Nat->V
 |none=>.non
 |some n=>.int n
def Tp (H H':Hp):Prop:=∀a xs,H a=some (.tup xs)->H' a=some (.tup xs)
theorem Tp.trans {H H1 H2:Hp} (a:Tp H H1) (b:Tp H1 H2):Tp H H2:=fun c x h=>b c x (a c x h)
theorem _root_.R3.Go.tp {c:Nat} {H H':Hp} (g:Go c H H'):Tp H H':=fun a xs h=>g.tup h
theorem ax' {H H':Hp} (s:aD' H H'):Tp H H':=fun a xs h=>s _ _ h
theorem fi' {H:Hp} {p:Addr} (h:H p=none) (o:HO):Tp H (upd H p o):=ax' (af' h o)
theorem jo' {H:Hp} {p:Addr} {xs:List V} (h:H p=some (.lst xs)) (o:HO):Tp H (upd H p o):=fun a ys e=>by
 rw[ad' (fun z=>by subst z;rw[h]at e;cases e)]
 exact e
theorem _root_.R3.Go.upd {c:Nat} {H H':Hp} {l:Addr} {o:HO} (g:Go c H H') (h:H l=none):Go c H (L2.upd H' l o):=by
 refine⟨fun a n e=>?_,fun a u e no=>?_,fun a e=>?_⟩
 .obtain⟨m,hm,e1⟩:=g.box a n e
  exact⟨m,hm,by rw[ad' (ah' e h)];exact e1⟩
 .rw[ad' (ah' e h)]
  exact g.oth a u e no
 .by_cases hl:a=l
  .subst hl
   exact h
  .rw[ad' hl]at e
   exact g.free a e
theorem bM' {Q:VK} {m:Int} {H0 H:Hp} {b:Addr} {n0 c:Nat} (hb:H0 b=some (dy' b n0)) (g:Go c H0 H) (hn:n0+c<=2 ^ 40) (hm:0<m) (hm2:m<4611686018427387904) (q:∀r H',0<=r->r<m->Go 1 H H'->Go (c+1) H0 H'->Q (.int r) H'):aO' [.ref b,.int m] H Q E0:=by
 obtain⟨n,hb1,_,hn1⟩:=g.boxed hb hn
 exact⟨b,n,m,rfl,hb1,hn1,hm,hm2,fun r H' h0 h1 g1=>q r H' h0 h1 g1 (g.trans g1)⟩
def gV':Sp:=fun vs H Q _=>∃(b:Addr) (n:Nat) (x y z:Int),vs=[.ref b,.int x,.int y,.int z]/\H b=some (dy' b n)/\n<=2 ^ 39/\0<=x/\x<=y/\y<=1000/\7<=z/\z<=1000/\∀(r:Int) (H':Hp),(x<=r/\r<=y\/7<=r/\r<=z)->Go 2 H H'->Q (.int r) H'
theorem my' {C:Rc} (hN:C.N.length=4) (hT:C.fs "_law_take"=some aO'):∀vs H Q E,gV' vs H Q E->tSs C jn' { nx:=fun _ H'=>Q .non H',rt:=Q } (L2.aB' C.N vs) H:=by
 intro vs H Q E h
 obtain⟨b,n,x,y,z,rfl,hb,hn,hx,hxy,hy,hz,hz2,q⟩:=h
 rw[al' hN]
 unfold jn'
 walk_at "sy"
 refine ag' hT ?_
 walk_at "sy"
 refine bM' hb (Go.refl (c:=0)) (by omega) (by decide) (by decide) fun r1 H1 h0 h1 g1 g01=>?_
 walk_at "sy"
 refine aV' (fun hc=>?_) fun hc=>?_
 .walk_at "sy"
  refine ag' hT ?_
  walk_at "sy"
  refine bM' hb g01 (by omega) (by omega) (by omega) fun r2 H2 h20 h21 g2 g02=>?_
  walk_at "sy"
  exact q _ _ (.inr ⟨by omega,by omega⟩) g02
 .walk_at "sy"
  refine ag' hT ?_
  walk_at "sy"
  refine bM' hb g01 (by omega) (by omega) (by omega) fun r2 H2 h20 h21 g2 g02=>?_
  walk_at "sy"
  exact q _ _ (.inl ⟨by omega,by omega⟩) g02
def dL' (H:Hp) (v:V) (r:Rm):Prop:=∃p,v=.ref p/\H p=some (.tup [oV r.1,oV r.2])
theorem dL'.mono {H H':Hp} {v:V} {r:Rm} (t:Tp H H') (h:dL' H v r):dL' H' v r:=by
 obtain⟨p,e,h⟩:=h
 exact⟨p,e,t _ _ h⟩
def b5' (H:Hp):List V->List Rm->Prop
 | [],[]=>True
 |v :: vs,r :: rs=>dL' H v r/\b5' H vs rs
 |_,_=>False
theorem b5'.mono {H H':Hp} (t:Tp H H'):∀{vs:List V} {M:List Rm},b5' H vs M->b5' H' vs M
 | [],[],_=>trivial
 |v :: vs,r :: rs,h=>⟨h.1.mono t,b5'.mono t h.2⟩
 | [],_ :: _,h=>h.elim
 |_ :: _,[],h=>h.elim
theorem b5'.len {H:Hp}:∀{vs:List V} {M:List Rm},b5' H vs M->vs.length=M.length
 | [],[],_=>rfl
 |v :: vs,r :: rs,h=>by simp[b5'.len h.2]
 | [],_ :: _,h=>h.elim
 |_ :: _,[],h=>h.elim
theorem b5'.snoc {H:Hp} {v:V} {r:Rm} (hr:dL' H v r):∀{vs:List V} {M:List Rm},b5' H vs M->b5' H (vs++[v]) (M++[r])
 | [],[],_=>⟨hr,trivial⟩
 |v :: vs,r :: rs,h=>⟨h.1,b5'.snoc hr h.2⟩
 | [],_ :: _,h=>h.elim
 |_ :: _,[],h=>h.elim
theorem b5'.get {H:Hp}:∀{vs:List V} {M:List Rm} {i:Nat} {r:Rm},b5' H vs M->M[i]?=some r->∃p,vs[i]?=some (.ref p)/\H p=some (.tup [oV r.1,oV r.2])
 | [],[],i,r,_,e=>by cases e
 |v :: vs,r :: rs,0,r',h,e=>by
  cases e
  obtain⟨p,rfl,hp⟩:=h.1
  exact⟨p,rfl,hp⟩
 |v :: vs,r :: rs,i+1,r',h,e=>b5'.get (i:=i) h.2 (by simpa using e)
 | [],_ :: _,_,_,h,_=>h.elim
 |_ :: _,[],_,_,h,_=>h.elim
def IsM (H:Hp) (a:Addr) (M:List Rm):Prop:=∃vs,H a=some (.tup vs)/\b5' H vs M
theorem IsM.mono {H H':Hp} {a:Addr} {M:List Rm} (t:Tp H H') (h:IsM H a M):IsM H' a M:=by
 obtain⟨vs,h1,h2⟩:=h
 exact⟨vs,t _ _ h1,h2.mono t⟩
def OkR (N:Nat) (r:Rm):Prop:=(∀n,r.1=some n->n<N)/\∀n,r.2=some n->n<N
def OkM (M:List Rm):Prop:=∀r∈M,OkR M.length r
def cM' (N0 N1 c:Nat):Sp:=fun vs H Q _=>∃(b:Addr) (n N:Nat),vs=[.ref b,.int N]/\H b=some (dy' b n)/\n<=2 ^ 39/\N0<=N/\N<=N1/\∀(a:Addr) (M:List Rm) (H':Hp),Go c H H'->IsM H' a M->OkM M->M.length=N->Q (.ref a) H'
theorem gW' {C:Rc} (hN:C.N.length=8) (hT:C.fs "_law_take"=some aO'):∀vs H Q E,cM' 1 60 400 vs H Q E->tSs C dj' { nx:=fun _ H'=>Q .non H',rt:=Q } (L2.aB' C.N vs) H:=by
 intro vs H Q E h
 obtain⟨b,n,N,rfl,hb,hn,hN0,hN1,q⟩:=h
 rw[al' hN]
 unfold dj'
 walk_at "sy"
 refine ag' hT ?_
 walk_at "sy"
 refine bM' hb (Go.refl (c:=0)) (by omega) (by decide) (by decide) fun r1 H1 h0 h1 g1 g01=>?_
 walk_at "sy"
 refine⟨by decide,fun l hl=>?_⟩
 have hl0:=g01.free _ hl
 refine dP' (by omega) (by omega) (fL' (fun i σ H'=>(∃x4 x5 x6 x7,σ=[some (.ref b),some (.int N),some (.int (2+r1)),some (.ref l),x4,x5,x6,x7])/\Go (1+4*i) H H'/\∃vs M,H' l=some (.lst vs)/\b5' H' vs M/\vs.length=i/\∀r∈M,OkR N r) ⟨⟨_,_,_,_,rfl⟩,(g01.upd hl0).mono (by omega),[],[],aa',trivial,rfl,fun r hr=>by cases hr⟩ ?_ ?_)
 .rintro i σ H2 hi ⟨⟨x4,x5,x6,x7,rfl⟩,g2,vs,M,hl2,hr2,hlen,hok⟩
  walk_at "sy"
  refine⟨by decide,fun d hd=>?_⟩
  have hd0:=g2.free _ hd
  have hdl:l≠d:=ah' hl2 hd
  refine dP' (by omega) (by omega) (fL' (fun j σ H'=>(∃x6 x7,σ=[some (.ref b),some (.int N),some (.int (2+r1)),some (.ref l),some (.int (0+i)),some (.ref d),x6,x7])/\Go (1+4*i+2*j) H H'/\Tp H2 H'/\H' l=some (.lst vs)/\∃ds:List (Option Nat),H' d=some (.lst (ds.map oV))/\ds.length=j/\∀m,some m∈ds->m<N) ⟨⟨_,_,rfl⟩,g2.upd hd0,fi' hd _,by rw[ad' hdl];exact hl2,[],aa',rfl,fun m hm=>by cases hm⟩ ?_ ?_)
  .rintro j σ H3 hj ⟨⟨x6,x7,rfl⟩,g3,t3,hl3,ds,hd3,hdn,hdo⟩
   walk_at "sy"
   refine ag' hT ?_
   walk_at "sy"
   refine bM' hb g3 (by omega) (by omega) (by omega) fun r4 H4 h40 h41 g34 g4=>?_
   have hd4:=g34.lst hd3
   walk_at "sy"
   refine⟨tyL hd4 rfl,⟨by decide,fun p hp=>?_⟩⟩
   have hp0:=g4.free _ hp
   refine ag' hT ?_
   walk_at "sy"
   refine bM' hb (g4.upd hp0) (by omega) (by omega) (by omega) fun r5 H5 h50 h51 g45 g5=>?_
   have hp5:H5 p=some (.lst [.int r4,.non]):=g45.lst aa'
   have hd5:H5 d=some (.lst (ds.map oV)):=g45.lst (by rw[ad' (ah' hd4 hp)];exact hd4)
   have hl5:H5 l=some (.lst vs):=g45.lst (by rw[ad' (ah' (g34.lst hl3) hp)];exact g34.lst hl3)
   walk_at "sy"
   refine qe' (SqL.of hp5) ?_
   obtain⟨o,eo,hoo⟩:∃o:Option Nat,(if decide (r5=0)=true then V.non else V.int r4)=oV o/\∀m,o=some m->m<N:=by
    split
    .exact⟨none,rfl,fun m hm=>by cases hm⟩
    .exact⟨some r4.toNat,by show _=V.int _;congr 1;omega,fun m hm=>by cases hm;omega⟩
   rw[eo]
   walk_at "sy"
   refine jg' hd5 (by rw[ai];exact ai' (by omega)) ?_
   walk_at "sy"
   refine⟨⟨_,_,rfl⟩,(g5.upd hd0).mono (by omega),?_,by rw[ad' hdl];exact hl5,ds++[o],by rw[aa',aI];rfl,by simp[hdn],fun m hm=>?_⟩
   .exact((t3.trans g34.tp).trans ((fi' hp _).trans g45.tp)).trans (jo' hd5 _)
   .rcases aA.mp hm with hm|hm
    .exact hdo m hm
    .exact hoo m (List.mem_singleton.mp hm).symm
  .rintro σ H3 ⟨⟨x6,x7,rfl⟩,g3,t3,hl3,ds,hd3,hdn,hdo⟩
   walk_at "sy"
   refine⟨tyL hl3 rfl,?_⟩
   refine eG' (SqL.of hd3) fun p hp=>?_
   walk_at "sy"
   have hpl:upd H3 p (.tup (ds.map oV)) l=some (.lst vs):=by rw[ad' (ah' hl3 hp)];exact hl3
   refine jg' hpl (ai' (by omega)) ?_
   walk_at "sy"
   obtain⟨x,y,rfl⟩:∃x y,ds=[x,y]:=by
    match ds,hdn with
    | [x,y],_=>exact⟨x,y,rfl⟩
   have tp1:Tp H2 (upd (upd H3 p (.tup ([x,y].map oV))) l (.lst (vs++[.ref p]))):=(t3.trans (fi' hp _)).trans (jo' hpl _)
   refine⟨⟨_,_,_,_,rfl⟩,((g3.upd (g3.free _ hp)).upd hl0).mono (by omega),vs++[.ref p],M++[(x,y)],aa',(hr2.mono tp1).snoc ⟨p,rfl,?_⟩,by simp[hlen],fun r hr=>?_⟩
   .rw[ad' (fun z=>by subst z;rw[hl3]at hp;cases hp)]
    exact aa'
   .rcases aA.mp hr with hr|hr
    .exact hok r hr
    .have e:r=(x,y):=by simpa using hr
     subst e
     exact⟨fun m hm=>hdo m (by simp[<- hm]),fun m hm=>hdo m (by simp[<- hm])⟩
 .rintro σ H2 ⟨⟨x4,x5,x6,x7,rfl⟩,g2,vs,M,hl2,hr2,hlen,hok⟩
  walk_at "sy"
  refine eG' (SqL.of hl2) fun p hp=>?_
  have hlM:=hr2.len
  have e:M.length=N:=by omega
  exact q p M _ ((g2.upd (g2.free _ hp)).mono (by omega)) ⟨vs,aa',hr2.mono (fi' hp _)⟩ (fun r hr=>by rw[e];exact hok r hr) e
theorem wa' {K:W.Frag} {H:Hp} {Q:VK} {a:Addr} {xs:List V} {k:Nat} (h:H a=some (.lst xs)) (hk:k<=1000) (hz:xs.length*k<=sizeLine) (q:∀p,H p=none->Q (.ref p) (upd H p (.lst (aG k xs).flatten))):eN' K .Mult (.ref a) (.int k) H Q:=by
 refine⟨a,k,xs,rfl,rfl,h,by omega,by omega,by simpa using hz,fun p hp=>?_⟩
 rw[aK]
 exact q p hp
theorem sA' {H:Hp} {R:Hp->Prop} {a:Addr} {xs:List V} {k:Nat} {v:V} (h:H a=some (.lst xs)) (hk:k<xs.length) (q:R (upd H a (.lst (xs.set k v)))):dM' (.ref a) (.int k) v H R:=by
 refine⟨a,xs,k,k,rfl,rfl,h,?_,q⟩
 unfold ixN
 rw[if_pos (by omega),if_pos (by omega)]
 simp
def nV (n:Nat):V:=.int n
theorem jp' {H:Hp} {P:Rm->Prop}:∀{vs:List V},(∀m,m<vs.length->∃r v,P r/\vs[m]?=some v/\dL' H v r)->∃M,b5' H vs M/\∀r∈M,P r
 | [],_=>⟨[],trivial,fun r hr=>by cases hr⟩
 |v :: vs,h=>by
  obtain⟨r,v',ho,e,hr⟩:=h 0 (by simp)
  cases e
  obtain⟨M,h1,h2⟩:=jp' (vs:=vs) fun m hm=>by
   obtain⟨r,v,h1,h2,h3⟩:=h (m+1) (by simpa using hm)
   exact⟨r,v,h1,by simpa using h2,h3⟩
  exact⟨r :: M,⟨hr,h1⟩,fun x hx=>by
   rcases aq.mp hx with rfl|hx
   .exact ho
   .exact h2 x hx⟩
def OkD (N:Nat) (r:Rm):Prop:=OkR N r/\(r.1=none->r.2≠none)
def wb':Sp:=fun vs H Q _=>∃(b:Addr) (n N:Nat),vs=[.ref b,.int N]/\H b=some (dy' b n)/\n<=2 ^ 39/\1<=N/\N<=60/\∀(a:Addr) (M:List Rm) (H':Hp),Go 400 H H'->IsM H' a M->OkM M->M.length=N->(∀r∈M,r.1=none->r.2≠none)->Q (.ref a) H'
theorem kd' {C:Rc} (hN:C.N.length=9) (hT:C.fs "_law_take"=some aO'):∀vs H Q E,wb' vs H Q E->tSs C bb' { nx:=fun _ H'=>Q .non H',rt:=Q } (L2.aB' C.N vs) H:=by
 intro vs H Q E h
 obtain⟨b,n,N,rfl,hb,hn,hN0,hN1,q⟩:=h
 rw[al' hN]
 unfold bb'
 walk_at "sy"
 refine⟨by decide,fun l hl=>?_⟩
 refine dP' (by omega) (by omega) (fL' (fun i σ H'=>(∃x3 x4 x5 x6 x7 x8,σ=[some (.ref b),some (.int N),some (.ref l),x3,x4,x5,x6,x7,x8])/\Go i H H'/\∃os:List Nat,H' l=some (.lst (os.map nV))/\os.length=i/\(∀m∈os,m<N)/\∀m,m<i->m∈os) ⟨⟨_,_,_,_,_,_,rfl⟩,(Go.refl (c:=0)).upd hl,[],aa',rfl,(fun m hm=>by cases hm),fun m hm=>by omega⟩ ?_ ?_)
 .rintro i σ H1 hi ⟨⟨x3,x4,x5,x6,x7,x8,rfl⟩,g1,os,hl1,hlen,hlt,hall⟩
  walk_at "sy"
  refine⟨tyL hl1 rfl,ag' hT ?_⟩
  walk_at "sy"
  refine bM' hb g1 (by omega) (by omega) (by omega) fun r2 H2 h20 h21 g12 g2=>?_
  have hl2:=g12.lst hl1
  walk_at "sy"
  obtain⟨j,rfl⟩:=ay h20
  refine vL' hl2 (by rw[ai];exact ai' (by omega)) (by rw[ai];omega) ?_
  walk_at "sy"
  refine⟨⟨_,_,_,_,_,_,rfl⟩,g2.upd hl,os.take j++i :: os.drop j,?_,?_,?_,?_⟩
  .rw[aa',aI,aJ,List.map_take,List.map_drop]
   simp[nV]
  .simp;omega
  .intro m hm
   rcases aA.mp hm with hm|hm
   .exact hlt m (List.mem_of_mem_take hm)
   .rcases aq.mp hm with rfl|hm
    .omega
    .exact hlt m (List.mem_of_mem_drop hm)
  .intro m hm
   by_cases e:m=i
   .subst e;simp
   .have:=hall m (by omega)
    rw[<- bL j os]at this
    rcases aA.mp this with h|h
    .exact aA.mpr (.inl h)
    .exact aA.mpr (.inr (ar _ h))
 rintro σ H1 ⟨⟨x3,x4,x5,x6,x7,x8,rfl⟩,g1,os,hl1,hlen,hlt,hall⟩
 rw[aK]at g1 hlen hall
 walk_at "sy"
 refine⟨by decide,fun p hp=>?_⟩
 have hpl:l≠p:=ah' hl1 hp
 refine wa' aa' (by omega) (bD (ai' (by simp;omega))) fun w hw=>?_
 have gw:=(g1.upd (o:=.lst [.non]) (g1.free _ hp)).upd (o:=.lst (aG N [V.non]).flatten) ((g1.upd (o:=.lst [.non]) (g1.free _ hp)).free _ hw)
 have hlw:upd (upd H1 p (.lst [.non])) w (.lst (aG N [V.non]).flatten) l=some (.lst (os.map nV)):=af' hw _ _ _ (af' hp _ _ _ hl1)
 have hww:upd (upd H1 p (.lst [.non])) w (.lst (aG N [V.non]).flatten) w=some (.lst (aG N V.non)):=by
  rw[aa'];simp
 have hw0:H w=none:=(g1.upd (o:=.lst [.non]) (g1.free _ hp)).free _ hw
 have hwl:l≠w:=ah' (af' hp (.lst [.non]) _ _ hl1) hw
 generalize upd (upd H1 p (.lst [.non])) w (.lst (aG N [V.non]).flatten)=H2 at gw hlw hww
 walk_at "sy"
 refine jd' (SqL.of hlw) (vA' (xs:=os.map nV) (fun t σ H'=>(∃x3 x5 x6 x7 x8,σ=[some (.ref b),some (.int N),some (.ref l),x3,some (.ref w),x5,x6,x7,x8])/\Go (N+3*t) H H'/\H' l=some (.lst (os.map nV))/\∃ws,H' w=some (.lst ws)/\ws.length=N/\∀m∈os.take t,∃r v,OkD N r/\ws[m]?=some v/\dL' H' v r) ⟨⟨_,_,_,_,_,rfl⟩,gw.mono (by omega),hlw,_,hww,by simp,fun m hm=>by cases hm⟩ (fun t σ H' _ pv=>SqL.of pv.2.2.1) ?_ ?_)
 .rintro t x σ H3 e hx he ⟨⟨x3,x5,x6,x7,x8,rfl⟩,g3,hl3,ws,hw3,hwn,hws⟩
  rw[az]at hx
  cases eo:os[t]? with
  |none=>rw[eo]at hx;cases hx
  |some room=>
   rw[eo]at hx
   cases hx
   have ht:=aq' eo
   refine dg' (SqT.of aa') ?_
   have s4:=af' he (.tup [.int t,nV room])
   have g4:=g3.upd (o:=.tup [.int t,nV room]) (g3.free _ he)
   generalize upd H3 e (.tup [.int t,nV room])=H4 at s4 g4
   have hl4:=s4 _ _ hl3
   walk_at "sy"
   refine r4' (SqL.of hl4) fun c hc=>?_
   rw[show(1:Int)=((1:Nat):Int) from rfl,vO']
   have s5:=af' hc (.lst ((os.map nV).take 1))
   have g5:=g4.upd (o:=.lst ((os.map nV).take 1)) (g4.free _ hc)
   have hc5:upd H4 c (.lst ((os.map nV).take 1)) c=some (.lst ((os.map nV).take 1)):=aa'
   generalize upd H4 c (.lst ((os.map nV).take 1))=H5 at s5 g5 hc5
   walk_at "sy"
   refine vP' (s5 _ _ hl4) hc5 (bD (ai' (by simp;omega))) fun d hd=>?_
   have s6:=af' hd (.lst (os.map nV++(os.map nV).take 1))
   have g6:=g5.upd (o:=.lst (os.map nV++(os.map nV).take 1)) (g5.free _ hd)
   have hd6:upd H5 d (.lst (os.map nV++(os.map nV).take 1)) d=some (.lst ((os++os.take 1).map nV)):=by rw[aa',aI,List.map_take]
   generalize upd H5 d (.lst (os.map nV++(os.map nV).take 1))=H6 at s6 g6 hd6
   obtain⟨on,eon,hon⟩:∃on,(os++os.take 1)[t+1]?=some on/\on<N:=by
    have hl:t+1<(os++os.take 1).length:=by simp;omega
    refine⟨_,ac hl,?_⟩
    rcases aA.mp (cj hl)with h|h
    .exact hlt _ h
    .exact hlt _ (List.mem_of_mem_take h)
   walk_at "sy"
   refine a1' (SqL.of hd6) (v:=nV on) (bX' (j:=t+1) (by rw[az,eon];rfl)) ?_
   walk_at "sy"
   refine ag' hT ?_
   walk_at "sy"
   refine bM' hb g6 (by omega) (by omega) (by omega) fun r7 H7 h70 h71 g67 g7=>?_
   walk_at "sy"
   refine⟨by decide,fun f hf=>?_⟩
   refine ag' hT ?_
   walk_at "sy"
   refine bM' hb (g7.upd (o:=.lst [.int r7,.non]) (g7.free _ hf)) (by omega) (by omega) (by omega) fun r8 H8 h80 h81 g78 g8=>?_
   have hf8:H8 f=some (.lst [.int r7,.non]):=g78.lst aa'
   have keep8:∀a xs,H3 a=some (.lst xs)->H8 a=some (.lst xs):=fun a xs h=>g78.lst (af' hf _ _ _ (g67.lst (s6 _ _ (s5 _ _ (s4 _ _ h)))))
   have tp8:Tp H3 H8:=(((ax' s4).trans (ax' s5)).trans (ax' s6)).trans (g67.tp.trans ((fi' hf _).trans g78.tp))
   walk_at "sy"
   refine qe' (SqL.of hf8) ?_
   obtain⟨o,eo2,hoo⟩:∃o:Option Nat,(if decide (r8=0)=true then V.non else V.int r7)=oV o/\∀m,o=some m->m<N:=by
    split
    .exact⟨none,rfl,fun m hm=>by cases hm⟩
    .exact⟨some r7.toNat,by show _=V.int _;congr 1;omega,fun m hm=>by cases hm;omega⟩
   rw[eo2]
   walk_at "sy"
   refine⟨by decide,fun p1 hp1=>?_⟩
   have s9:=af' hp1 (.tup [nV on,oV o])
   have g9:=g8.upd (o:=.tup [nV on,oV o]) (g8.free _ hp1)
   have h9:upd H8 p1 (.tup [nV on,oV o]) p1=some (.tup [nV on,oV o]):=aa'
   generalize upd H8 p1 (.tup [nV on,oV o])=H9 at s9 g9 h9
   refine⟨by decide,fun p2 hp2=>?_⟩
   have s10:=af' hp2 (.tup [oV o,nV on])
   have g10:=g9.upd (o:=.tup [oV o,nV on]) (g9.free _ hp2)
   have h10:upd H9 p2 (.tup [oV o,nV on]) p2=some (.tup [oV o,nV on]):=aa'
   generalize upd H9 p2 (.tup [oV o,nV on])=H10 at s10 g10 h10
   refine⟨by decide,fun p3 hp3=>?_⟩
   have s11:=af' hp3 (.lst [.ref p1,.ref p2])
   have g11:=g10.upd (o:=.lst [.ref p1,.ref p2]) (g10.free _ hp3)
   have h11:upd H10 p3 (.lst [.ref p1,.ref p2]) p3=some (.lst [.ref p1,.ref p2]):=aa'
   generalize upd H10 p3 (.lst [.ref p1,.ref p2])=H11 at s11 g11 h11
   refine ag' hT ?_
   walk_at "sy"
   refine bM' hb g11 (by omega) (by omega) (by omega) fun r12 H12 h120 h121 g1112 g12=>?_
   have tpx:Tp H3 H12:=(((tp8.trans (ax' s9)).trans (ax' s10)).trans (ax' s11)).trans g1112.tp
   have hl12:H12 l=some (.lst (os.map nV)):=g1112.lst (s11 _ _ (s10 _ _ (s9 _ _ (keep8 _ _ hl3))))
   have hw12:H12 w=some (.lst ws):=g1112.lst (s11 _ _ (s10 _ _ (s9 _ _ (keep8 _ _ hw3))))
   have h1:H12 p1=some (.tup [nV on,oV o]):=g1112.tup (s11 _ _ (s10 _ _ h9))
   have h2:H12 p2=some (.tup [oV o,nV on]):=g1112.tup (s11 _ _ h10)
   walk_at "sy"
   have hroom:room<N:=hlt room (aE eo)
   have fin:∀(pz:Addr) (rz:Rm),OkD N rz->H12 pz=some (.tup [oV rz.1,oV rz.2])->dM' (.ref w) (nV room) (.ref pz) H12 (fun H'=>(∃x3' x5 x6 x7 x8,[some (V.ref b),some (V.int N),some (V.ref l),x3,some (V.ref w),some (V.int t),some (nV room),some (nV on),some (oV o)]=[some (.ref b),some (.int N),some (.ref l),x3',some (.ref w),x5,x6,x7,x8])/\Go (N+3*(t+1)) H H'/\H' l=some (.lst (os.map nV))/\∃ws,H' w=some (.lst ws)/\ws.length=N/\∀m∈os.take (t+1),∃r v,OkD N r/\ws[m]?=some v/\dL' H' v r):=by
    intro pz rz hrz hpz
    refine sA' hw12 (by omega) ⟨⟨_,_,_,_,_,rfl⟩,(g12.upd hw0).mono (by omega),by rw[ad' hwl];exact hl12,_,aa',by rw[List.length_set];exact hwn,fun m hm=>?_⟩
    by_cases em:m=room
    .subst em
     exact⟨rz,.ref pz,hrz,by rw[bV (by omega)],pz,rfl,jo' hw12 _ _ _ hpz⟩
    .rw[bn,eo]at hm
     rcases aA.mp hm with hm|hm
     .obtain⟨r,v,q1,q2,q3⟩:=hws m hm
      exact⟨r,v,q1,by rw[bp (Ne.symm em)];exact q2,q3.mono (tpx.trans (jo' hw12 _))⟩
     .exact absurd (by simpa using hm) em
   have h121':r12=0\/r12=1:=by omega
   rcases h121' with rfl|rfl
   .refine a1' (SqL.of (g1112.lst h11)) (v:=.ref p1) rfl ?_
    walk_at "sy"
    exact fin p1 (some on,o) ⟨⟨fun m hm=>by cases hm;exact hon,hoo⟩,fun z=>by cases z⟩ h1
   .refine a1' (SqL.of (g1112.lst h11)) (v:=.ref p2) rfl ?_
    walk_at "sy"
    exact fin p2 (o,some on) ⟨⟨hoo,fun m hm=>by cases hm;exact hon⟩,fun _ z=>by cases z⟩ h2
 .rintro σ H3 ⟨⟨x3,x5,x6,x7,x8,rfl⟩,g3,hl3,ws,hw3,hwn,hws⟩
  walk_at "sy"
  refine eG' (SqL.of hw3) fun p hp=>?_
  rw[ai,<- ai (f:=nV),ai,bh]at hws
  rw[ai]at g3
  obtain⟨M,hM,hO⟩:=jp' (P:=OkD N) (vs:=ws) (H:=H3) fun m hm=>hws m (hall m (by omega))
  have e:M.length=N:=by rw[<- hM.len];exact hwn
  exact q p M _ ((g3.upd (g3.free _ hp)).mono (by omega)) ⟨ws,aa',hM.mono (fi' hp _)⟩ (fun r hr=>by rw[e];exact(hO r hr).1) e fun r hr=>(hO r hr).2
theorem mz' {C:Rc} (hN:C.N.length=9) (hT:C.fs "_law_take"=some aO'):∀vs H Q E,cM' 1 60 400 vs H Q E->tSs C bb' { nx:=fun _ H'=>Q .non H',rt:=Q } (L2.aB' C.N vs) H:=fun vs H Q E ⟨b,n,N,h1,h2,h3,h4,h5,q⟩=>kd' hN hT vs H Q E ⟨b,n,N,h1,h2,h3,h4,h5,fun a M H' g i o l _=>q a M H' g i o l⟩
end LW
namespace LW
open PySem PySem.Spec PyProof.Rows L2 R3
def dX':Css:=(.cons (.asg (.name 3) (.var 1))
  (.cons (.for_ (.name 4) (.val (.var 2)) (.cons (.ite (.cmp .Is (.var 3) .non) (.cons (.ret .non)
  .nil) .nil)
  (.cons (.asg (.name 3) (.idx (.idx (.var 0) (.var 3)) (.blt .int (.cons (.var 4) .nil))))
  .nil)))
  (.cons (.ret (.var 3))
  .nil)))
def dY':Css:=(.cons (.asg (.name 4) (.str ""))
  (.cons (.for_ (.name 5) (.range1 (.var 3)) (.cons (.asg (.name 6) (.comp (.var 7) [7] (.name 7) (.val (.tup (.cons (.int 0) (.cons (.int 1) .nil)))) (.some (.cmp .IsNot (.idx (.idx (.var 1) (.var 2)) (.var 7)) .non)) .nil))
  (.cons (.ite (.cmp .Eq (.var 6) (.lst .nil)) (.cons (.ret (.var 4))
  .nil) .nil)
  (.cons (.asg (.name 7) (.idx (.var 6) (.call "_law_take" (.cons (.var 0) (.cons (.blt .len (.cons (.var 6) .nil)) .nil)))))
  (.cons (.asg (.name 4) (.bin .Add (.var 4) (.idx (.str "01") (.var 7))))
  (.cons (.asg (.name 2) (.idx (.idx (.var 1) (.var 2)) (.var 7)))
  .nil))))))
  (.cons (.ret (.var 4))
  .nil)))
def stp (M:List Rm) (r:Nat) (c:Bool):Option Nat:=match M[r]? with
 |some rm=>if c then rm.2 else rm.1
 |none=>none
def wk (M:List Rm) (o:Option Nat) (row:List Bool):Option Nat:=row.foldl (fun o c=>o.bind fun r=>stp M r c) o
theorem sB' {M:List Rm} {row:List Bool}:wk M none row=none:=by
 induction row with
 |nil=>rfl
 |cons c row ih=>exact ih
theorem qq' {M:List Rm} {o:Option Nat} {a b:List Bool}:wk M o (a++b)=wk M (wk M o a) b:=by unfold wk;rw[List.foldl_append]
theorem ia' {M:List Rm} {o:Option Nat} {row:List Bool} {i:Nat} {c:Bool} (h:row[i]?=some c):wk M o (row.take (i+1))=(wk M o (row.take i)).bind fun r=>stp M r c:=by
 rw[bn,h]
 show wk M o (row.take i++[c])=_
 rw[qq']
 rfl
theorem qr' {M:List Rm} {o:Option Nat} {row:List Bool} {i:Nat} (h:wk M o (row.take i)=none):wk M o row=none:=by
 rw[<- bL i row,qq',h,sB']
theorem gX' {M:List Rm} (hM:OkM M) {r:Nat} {c:Bool} {n:Nat} (h:stp M r c=some n):n<M.length:=by
 unfold stp at h
 cases e:M[r]? with
 |none=>rw[e]at h;cases h
 |some rm=>
  rw[e]at h
  have:=hM rm (aE e)
  cases c
  .exact this.1 n h
  .exact this.2 n h
theorem sC' {M:List Rm} (hM:OkM M):∀{row:List Bool} {o:Option Nat} {n:Nat},(∀m,o=some m->m<M.length)->wk M o row=some n->n<M.length
 | [],o,n,ho,h=>ho n h
 |c :: row,o,n,ho,h=>sC' hM (row:=row) (o:=o.bind fun r=>stp M r c) (fun m hm=>by
   cases o with
   |none=>cases hm
   |some r=>exact gX' hM hm) h
theorem cy' {C:Rc} {H:Hp} {a:Addr} {M:List Rm} {r:Nat} {c:Bool} {Q:VK} (hM:IsM H a M) (hr:r<M.length) (q:∀p,(∀Q':VK,Q' (oV (stp M r c)) H->f0' C.K (.ref p) (.int (if c then 1 else 0)) H Q'\/ga' C.K (.ref p) (.int (if c then 1 else 0)) H Q')->Q (.ref p) H):f0' C.K (.ref a) (.int r) H Q\/ga' C.K (.ref a) (.int r) H Q:=by
 obtain⟨vs,ha,hv⟩:=hM
 obtain⟨p,hp,hpt⟩:=hv.get (ac hr)
 refine eE' (SqT.of ha) (v:=.ref p) (bX' hp) (q p fun Q' q'=>?_)
 refine r0' (SqT.of hpt) ?_
 have e:stp M r c=if c then M[r].2 else M[r].1:=by unfold stp;rw[ac hr]
 rw[e]at q'
 cases c<;>exact q'
def fj':Sp:=fun vs H Q _=>∃(a:Addr) (M:List Rm) (r:Nat) (row:List Bool),vs=[.ref a,.int r,.str (tx row)]/\IsM H a M/\OkM M/\r<M.length/\Q (oV (wk M (some r) row)) H
theorem mA' {C:Rc} (hN:C.N.length=5):∀vs H Q E,fj' vs H Q E->tSs C dX' { nx:=fun _ H'=>Q .non H',rt:=Q } (L2.aB' C.N vs) H:=by
 intro vs H Q E h
 obtain⟨a,M,r,row,rfl,hM,hO,hr,q⟩:=h
 rw[al' hN]
 unfold dX'
 walk_at "sy"
 refine md' (vB' (fun i σ H'=>H'=H/\∃x,σ=[some (.ref a),some (.int r),some (.str (tx row)),some (oV (wk M (some r) (row.take i))),x]) ⟨rfl,none,rfl⟩ ?_ ?_)
 .rintro i c σ H' hc ⟨rfl,x,rfl⟩
  walk_at "sy"
  cases e:wk M (some r) (row.take i)with
  |none=>
   simp only[oV]
   walk_at "sy"
   rw[qr' e]at q
   exact q
  |some m=>
   have hm:=sC' hO (fun k hk=>by cases hk;exact hr) e
   simp only[oV]
   walk_at "sy"
   refine cy' (c:=c) hM hm fun p hp=>?_
   walk_at "sy"
   refine hp _ ?_
   walk_at "sy"
   refine⟨trivial,some (.str (tx [c])),?_⟩
   rw[ia' hc,e]
   rfl
 .rintro σ H' ⟨rfl,x,rfl⟩
  rw[bh]
  walk_at "sy"
  exact q
def dk':Sp:=fun vs H Q _=>∃(b a:Addr) (n N r:Nat) (M:List Rm),vs=[.ref b,.ref a,.int r,.int N]/\H b=some (dy' b n)/\n<=2 ^ 39/\N<=500/\IsM H a M/\OkM M/\r<M.length/\∀(row:List Bool) (H':Hp),row.length<=N->Go N H H'->Q (.str (tx row)) H'
theorem ib' {C:Rc} (hN:C.N.length=8) (hT:C.fs "_law_take"=some aO'):∀vs H Q E,dk' vs H Q E->tSs C dY' { nx:=fun _ H'=>Q .non H',rt:=Q } (L2.aB' C.N vs) H:=by
 intro vs H Q E h
 obtain⟨b,a,n,N,r,M,rfl,hb,hn,hN5,hM,hO,hr,q⟩:=h
 rw[al' hN]
 unfold dY'
 walk_at "sy"
 refine dP' (by omega) (by omega) (fL' (fun i σ H'=>(∃(r:Nat) (row:List Bool) (x5 x6 x7:Option V),σ=[some (.ref b),some (.ref a),some (.int r),some (.int N),some (.str (tx row)),x5,x6,x7]/\r<M.length/\row.length<=i)/\Go i H H') ⟨⟨r,[],_,_,_,rfl,hr,by simp⟩,Go.refl⟩ ?_ ?_)
 .rintro i σ H1 hi ⟨⟨r,row,x5,x6,x7,rfl,hr,hrow⟩,g1⟩
  have hM1:=hM.mono g1.tp
  walk_at "sy"
  refine⟨by decide,fun t ht=>?_⟩
  have st:=af' ht (.tup [.int 0,.int 1])
  have htt:upd H1 t (.tup [.int 0,.int 1]) t=some (.tup [.int 0,.int 1]):=aa'
  generalize upd H1 t (.tup [.int 0,.int 1])=H2 at st htt
  have hM2:=hM1.mono (ax' st)
  refine dh' (SqT.of htt) (qc' (vs:=[.int 0,.int 1]) (fun j xs H'=>H'=H2/\∃bs:List Bool,xs=bs.map (fun c=>V.int (if c then 1 else 0))/\bs.length<=j/\∀c∈bs,stp M r c≠none) ⟨rfl,[],rfl,by simp,fun c hc=>by cases hc⟩ (fun j xs H' pv=>by rw[pv.1];exact SqT.of htt) ?_ ?_)
  .rintro j xs H' x R hx ⟨rfl,bs,rfl,hbl,hbs⟩ hR
   have hj:j<2:=aq' hx
   obtain⟨c,rfl⟩:∃c:Bool,x=.int (if c then 1 else 0):=by
    match j,hx with
    |0,hx=>cases hx;exact⟨false,rfl⟩
    |1,hx=>cases hx;exact⟨true,rfl⟩
   walk_at "sy"
   refine cy' (c:=c) hM2 hr fun p hp=>?_
   walk_at "sy"
   refine hp _ ?_
   cases e:stp M r c with
   |none=>
    simp only[oV]
    walk_at "sy"
    exact hR _ _ ⟨rfl,bs,rfl,by omega,hbs⟩
   |some m=>
    simp only[oV]
    walk_at "sy"
    refine⟨by rw[ai];exact ai' (by omega),hR _ _ ⟨rfl,bs++[c],by simp,by simp;omega,fun d hd=>?_⟩⟩
    rcases aA.mp hd with hd|hd
    .exact hbs d hd
    .have ed:d=c:=by simpa using hd
     subst ed
     rw[e]
     simp
  rintro xs H' ⟨rfl,bs,rfl,hbl,hbs⟩ s hs
  have ss:=af' hs (.lst (bs.map fun c=>V.int (if c then 1 else 0)))
  have hss:upd H' s (.lst (bs.map fun c=>V.int (if c then 1 else 0))) s=some (.lst (bs.map fun c=>V.int (if c then 1 else 0))):=aa'
  generalize upd H' s (.lst (bs.map fun c=>V.int (if c then 1 else 0)))=H3 at ss hss
  walk_at "sy"
  refine⟨by decide,fun u hu=>?_⟩
  have su:=af' hu (.lst [])
  have huu:upd H3 u (.lst []) u=some (.lst []):=aa'
  generalize upd H3 u (.lst [])=H4 at su huu
  have g4:Go i H H4:=(g1.trans (Go.of_same (c:=0) ((st.trans ss).trans su))).mono (by omega)
  have hM4:=hM.mono g4.tp
  refine vK' (SqL.of (su _ _ hss)) (SqL.of huu) r1' ?_
  cases bs with
  |nil=>
   walk_at "sy"
   exact q row H4 (by omega) (g4.mono (by omega))
  |cons c0 cr=>
   rw[show(decide (List.map (fun c:Bool=>V.int (if c then 1 else 0)) (c0 :: cr)=[]))=false by simp]
   walk_at "sy"
   refine ag' hT ?_
   walk_at "sy"
   refine cx' (SqL.of (su _ _ hss)) ?_
   walk_at "sy"
   refine bM' hb g4 (by omega) (by simp) (by simp at hbl ⊢;omega) fun r5 H5 h50 h51 g45 g5=>?_
   walk_at "sy"
   obtain⟨v,ev,ei⟩:=vu' (xs:=List.map (fun c:Bool=>V.int (if c then 1 else 0)) (c0 :: cr)) h50 (by simpa using h51)
   rw[az]at ev
   cases ek:(c0 :: cr)[r5.toNat]? with
   |none=>rw[ek]at ev;cases ev
   |some c=>
    rw[ek]at ev
    cases ev
    refine a1' (SqL.of (g45.lst (su _ _ hss))) ei ?_
    walk_at "sy"
    refine dA' (l:=[false,true]) (c:=c) (by decide) (by cases c<;>rfl) ?_
    walk_at "sy"
    refine⟨bD (ai' (by simp;omega)),?_⟩
    have hne:=hbs c (aE ek)
    refine cy' (c:=c) (hM.mono g5.tp) hr fun p hp=>?_
    walk_at "sy"
    refine hp _ ?_
    cases e:stp M r c with
    |none=>exact absurd e hne
    |some m=>
     simp only[oV]
     walk_at "sy"
     exact⟨⟨m,row++[c],_,_,_,rfl,gX' hO e,by simp;omega⟩,g5⟩
 .rintro σ H1 ⟨⟨r,row,x5,x6,x7,rfl,hr,hrow⟩,g1⟩
  rw[aK]at hrow g1
  walk_at "sy"
  exact q row H1 hrow g1
end LW
namespace LW
open PySem PySem.Spec PyProof.Rows L2 R3
def br':Css:=(.cons (.asg (.name 4) (.idx (.idx (.var 0) (.var 2)) (.blt .int (.cons (.var 3) .nil))))
  (.cons (.ret (.ife (.cmp .Is (.var 4) .non) (.int 0) (.idx (.var 1) (.var 4))))
  .nil))
def bU':Css:=(.cons (.ret (.comp (.bin .Add (.call "behind_bit" (.cons (.var 0) (.cons (.var 1) (.cons (.var 2) (.cons (.str "0") .nil))))) (.call "behind_bit" (.cons (.var 0) (.cons (.var 1) (.cons (.var 2) (.cons (.str "1") .nil)))))) [2] (.name 2) (.range1 (.blt .len (.cons (.var 0) .nil))) .none .nil))
  .nil)
def dZ':Css:=(.cons (.asg (.name 3) (.lst (.cons (.comp (.ife (.or (.cmp .Is (.var 1) .non) (.cmp .Eq (.var 4) (.var 1))) (.int 1) (.int 0)) [4] (.name 4) (.range1 (.blt .len (.cons (.var 0) .nil))) .none .nil) .nil)))
  (.cons (.for_ (.name 5) (.range1 (.var 2)) (.cons (.expr (.met .append (.var 3) (.cons (.call "way_sums" (.cons (.var 0) (.cons (.idx (.var 3) (.neg (.int 1))) .nil))) .nil)))
  .nil))
  (.cons (.ret (.var 3))
  .nil)))
theorem eH' {H H':Hp} {a:Addr} {o:HO} (s:aD' H H') (h:H a=none):aD' H (upd H' a o):=fun b u q=>by
 rw[ad' (ah' q h)]
 exact s b u q
theorem sD' {α:Type} {vs:List α} {i:Nat} {v:α} (hl:vs.length=i+1) (h:vs[i]?=some v):atI vs (-1)=some v:=by
 unfold atI ixN
 rw[if_neg (by omega),if_pos (by omega)]
 show vs[((-1:Int)+(vs.length:Int)).toNat]?=some v
 rw[show((-1:Int)+(vs.length:Int)).toNat=i by omega]
 exact h
def ow (f:Nat->Nat):Option Nat->Nat
 |none=>0
 |some m=>f m
def wy (M:List Rm) (g:Option Nat):Nat->Nat->Nat
 |0,r=>if g=none\/g=some r then 1 else 0
 |n+1,r=>ow (wy M g n) (stp M r false)+ow (wy M g n) (stp M r true)
def wyL (M:List Rm) (g:Option Nat) (n:Nat):List Int:=(aD M.length).map fun r=>((wy M g n r:Nat):Int)
def oi (ns:List Int):Option Nat->Int
 |none=>0
 |some m=>ns.getD m 0
def wsL (M:List Rm) (ns:List Int) (k:Nat):List Int:=(aD k).map fun r=>oi ns (stp M r false)+oi ns (stp M r true)
theorem sE' {M:List Rm} {g:Option Nat} {n m:Nat} (h:m<M.length):(wyL M g n).getD m 0=wy M g n m:=by
 unfold wyL
 rw[List.getD_eq_getElem?_getD,az,br h]
 rfl
theorem mB' {M:List Rm} {g:Option Nat} {n:Nat}:(wyL M g n).length=M.length:=by unfold wyL;simp
theorem sF' {M:List Rm} (hM:OkM M) {g:Option Nat} {n r:Nat} {c:Bool}:oi (wyL M g n) (stp M r c)=((ow (wy M g n) (stp M r c):Nat):Int):=by
 cases e:stp M r c with
 |none=>rfl
 |some m=>exact sE' (gX' hM e)
theorem wc' {M:List Rm} (hM:OkM M) {g:Option Nat} {n:Nat}:wsL M (wyL M g n) M.length=wyL M g (n+1):=by
 unfold wsL
 show _=(aD M.length).map fun r=>((wy M g (n+1) r:Nat):Int)
 apply bI
 intro r _
 rw[sF' hM,sF' hM]
 show _=((ow (wy M g n) (stp M r false)+ow (wy M g n) (stp M r true):Nat):Int)
 omega
def bs' (K:W.Frag):Sp:=fun vs H Q _=>∃(a b:Addr) (M:List Rm) (r:Nat) (c:Bool) (ns:List Int),vs=[.ref a,.ref b,.int r,.str (tx [c])]/\IsM H a M/\OkM M/\r<M.length/\SqL K H b (ns.map V.int)/\ns.length=M.length/\Q (.int (oi ns (stp M r c))) H
theorem ic' {C:Rc} (hN:C.N.length=5):∀vs H Q E,bs' C.K vs H Q E->tSs C br' { nx:=fun _ H'=>Q .non H',rt:=Q } (L2.aB' C.N vs) H:=by
 intro vs H Q E h
 obtain⟨a,b,M,r,c,ns,rfl,hM,hO,hr,hb,hl,q⟩:=h
 rw[al' hN]
 unfold br'
 walk_at "sy"
 refine cy' (c:=c) hM hr fun p hp=>?_
 walk_at "y"
 refine hp _ ?_
 cases e:stp M r c with
 |none=>
  rw[e]at q
  simp only[oV]
  walk_at "y"
  exact q
 |some m=>
  rw[e]at q
  have hm:=gX' hO e
  simp only[oV]
  walk_at "y"
  refine a1' hb (v:=.int (ns.getD m 0)) (bX' ?_) q
  rw[az,ac (by omega)]
  simp[List.getD_eq_getElem?_getD,(by omega:m<ns.length)]
def b6' (K:W.Frag):Sp:=fun vs H Q _=>∃(a b:Addr) (M:List Rm) (ns:List Int),vs=[.ref a,.ref b]/\IsM H a M/\OkM M/\M.length<=500/\SqL K H b (ns.map V.int)/\ns.length=M.length/\∀p,H p=none->Q (.ref p) (upd H p (.lst ((wsL M ns M.length).map V.int)))
theorem fQ' {C:Rc} (hN:C.N.length=3) (hB:C.fs "behind_bit"=some (bs' C.K)):∀vs H Q E,b6' C.K vs H Q E->tSs C bU' { nx:=fun _ H'=>Q .non H',rt:=Q } (L2.aB' C.N vs) H:=by
 intro vs H Q E h
 obtain⟨a,b,M,ns,rfl,hM,hO,hM5,hb,hl,q⟩:=h
 rw[al' hN]
 unfold bU'
 obtain⟨rv,ha,hrv⟩:=id hM
 walk_at "sy"
 refine dz' (SqT.of ha) ?_
 rw[hrv.len]
 refine dP' (by omega) (by omega) (mf' (fun i xs H'=>H'=H/\xs=(wsL M ns i).map V.int) ⟨rfl,rfl⟩ ?_ ?_)
 .rintro i xs H' R hi ⟨rfl,rfl⟩ hR
  rw[show(0:Int)+(i:Int)=(i:Int) by omega]
  have hi':i<M.length:=by omega
  walk_at "y"
  refine ag' hB ?_
  walk_at "y"
  refine⟨a,b,M,i,false,ns,rfl,hM,hO,hi',hb,hl,?_⟩
  walk_at "y"
  refine ag' hB ?_
  walk_at "y"
  refine⟨a,b,M,i,true,ns,rfl,hM,hO,hi',hb,hl,?_⟩
  walk_at "y"
  refine⟨by rw[ai];unfold wsL;simp;exact ai' (by omega),hR _ _ ⟨rfl,?_⟩⟩
  unfold wsL
  rw[cc,aI,aI]
  rfl
 .rintro xs H' ⟨rfl,rfl⟩ p hp
  exact q p hp
def eI' (K:W.Frag):Sp:=fun vs H Q _=>∃(a:Addr) (M:List Rm) (g:Option Nat) (n:Nat),vs=[.ref a,oV g,.int n]/\IsM H a M/\OkM M/\M.length<=500/\n<=900/\
 ∀(l:Addr) (vs':List V) (H':Hp),H l=none->aD' H H'->H' l=some (.lst vs')->b4' (fun v k=>∃e,v=V.ref e/\e≠l/\H e=none/\H' e=some (.lst ((wyL M g k).map V.int))) vs' (aD (n+1))->Q (.ref l) H'
theorem mC' {C:Rc} (hN:C.N.length=6) (hW:C.fs "way_sums"=some (b6' C.K)):∀vs H Q E,eI' C.K vs H Q E->tSs C dZ' { nx:=fun _ H'=>Q .non H',rt:=Q } (L2.aB' C.N vs) H:=by
 intro vs H Q E h
 obtain⟨a,M,g,n,rfl,hM,hO,hM5,hn,q⟩:=h
 rw[al' hN]
 unfold dZ'
 obtain⟨rv,ha,hrv⟩:=id hM
 walk_at "sy"
 refine dz' (SqT.of ha) ?_
 rw[hrv.len]
 refine dP' (by omega) (by omega) (mf' (fun i xs H'=>H'=H/\xs=((aD i).map fun r=>((wy M g 0 r:Nat):Int)).map V.int) ⟨rfl,rfl⟩ ?_ ?_)
 .rintro i xs H' R hi ⟨rfl,rfl⟩ hR
  rw[show(0:Int)+(i:Int)=(i:Int) by omega]
  have fin:∀k:Nat,k=wy M g 0 i->gM' (((aD i).map fun r=>((wy M g 0 r:Nat):Int)).map V.int) R (.int k) H':=by
   rintro k rfl
   refine⟨by simp;exact ai' (by omega),hR _ _ ⟨rfl,?_⟩⟩
   rw[cc,aI,aI]
   rfl
  cases g with
  |none=>
   simp only[oV]
   walk_at "y"
   exact fin 1 (by simp[wy])
  |some k=>
   simp only[oV]
   walk_at "y"
   refine aV' (fun hc=>?_) fun hc=>?_
   .walk_at "y"
    exact fin 1 (by have:k=i:=(by omega);simp[wy,this])
   .walk_at "y"
    exact fin 0 (by have:k≠i:=fun z=>hc (by omega);simp[wy,this])
 rintro xs H1 ⟨rfl,rfl⟩ e0 he0
 rw[aK]
 have s2:=af' he0 (.lst (((aD M.length).map fun r=>((wy M g 0 r:Nat):Int)).map V.int))
 have he2:upd H1 e0 (.lst (((aD M.length).map fun r=>((wy M g 0 r:Nat):Int)).map V.int)) e0=some (.lst ((wyL M g 0).map V.int)):=aa'
 generalize upd H1 e0 (.lst (((aD M.length).map fun r=>((wy M g 0 r:Nat):Int)).map V.int))=H2 at s2 he2
 walk_at "y"
 refine⟨by decide,fun l hl=>?_⟩
 have hl0:H1 l=none:=s2.free hl
 have hel0:e0≠l:=ah' he2 hl
 walk_at "y"
 refine dP' (by omega) (by omega) (fL' (fun i σ H'=>aD' H1 H'/\(∃x4 x5,σ=[some (.ref a),some (oV g),some (.int n),some (.ref l),x4,x5])/\∃vs',H' l=some (.lst vs')/\b4' (fun v k=>∃e,v=V.ref e/\e≠l/\H1 e=none/\H' e=some (.lst ((wyL M g k).map V.int))) vs' (aD (i+1))) ⟨eH' s2 hl0,⟨_,_,rfl⟩,[.ref e0],aa',⟨e0,rfl,hel0,he0,by rw[ad' hel0];exact he2⟩,trivial⟩ ?_ ?_)
 .rintro i σ H3 hi ⟨s3,⟨x4,x5,rfl⟩,vs',hl3,hA⟩
  have hvl:=hA.len
  obtain⟨v,ev,e,rfl,hel,he1,he3⟩:=hA.get (i:=i) (b:=i) (by rw[br (by omega)])
  rw[bF]at hvl
  walk_at "y"
  refine⟨tyL hl3 rfl,ag' hW ?_⟩
  walk_at "y"
  have elast:atI vs' (-1)=some (.ref e):=sD' hvl ev
  refine a1' (SqL.of hl3) elast ?_
  walk_at "y"
  refine⟨a,e,M,wyL M g i,rfl,hM.mono (ax' s3),hO,hM5,SqL.of he3,mB',fun p hp=>?_⟩
  rw[wc' hO]
  have s4:=af' hp (.lst ((wyL M g (i+1)).map V.int))
  have hp4:upd H3 p (.lst ((wyL M g (i+1)).map V.int)) p=some (.lst ((wyL M g (i+1)).map V.int)):=aa'
  generalize upd H3 p (.lst ((wyL M g (i+1)).map V.int))=H4 at s4 hp4
  have hpl:p≠l:=fun z=>by subst z;rw[hl3]at hp;cases hp
  walk_at "y"
  refine jg' (s4 _ _ hl3) (ai' (by omega)) ?_
  walk_at "y"
  refine⟨eH' (s3.trans s4) hl0,⟨_,_,rfl⟩,vs'++[.ref p],aa',?_⟩
  rw[cc]
  refine b4'.snoc (hA.mono fun v k ⟨e',h1,h2,h3,h4⟩=>⟨e',h1,h2,h3,by rw[ad' h2];exact s4 _ _ h4⟩) ⟨p,rfl,hpl,(s3.free hp),by rw[ad' hpl];exact hp4⟩
 .rintro σ H3 ⟨s3,⟨x4,x5,rfl⟩,vs',hl3,hA⟩
  rw[aK]at hA
  walk_at "y"
  exact q l vs' H3 hl0 s3 hl3 hA
end LW
namespace TM
open PySem PySem.Spec PyProof.Rows L2 R3 LW
def cd':Css:=(.cons (.asg (.name 2) (.blt .set (.cons (.var 1) .nil)))
  (.cons (.setc2 3 (.var 5) [4,5] (.name 4) (.val (.var 1)) .none [5] (.name 5) (.val (.idx (.var 0) (.var 4))) .none)
  (.cons (.ret (.comp (.var 4) [4] (.name 4) (.val (.var 1)) (.some (.and (.din false (.var 4) (.var 3)) (.or (.din false (.idx (.idx (.var 0) (.var 4)) (.int 0)) (.var 2)) (.din false (.idx (.idx (.var 0) (.var 4)) (.int 1)) (.var 2))))) .nil))
  .nil)))
def ce':Css:=(.cons (.dctc false 2 (.var 4) (.var 3) [3,4] (.tup (.cons (.name 3) (.cons (.name 4) .nil))) (.enum (.var 1)) .none)
  (.cons (.ret (.blt .tuple (.cons (.comp (.tup (.cons (.dgt (.var 2) (.idx (.idx (.var 0) (.var 4)) (.int 0))) (.cons (.dgt (.var 2) (.idx (.idx (.var 0) (.var 4)) (.int 1))) .nil))) [4] (.name 4) (.val (.var 1)) .none .nil) .nil)))
  .nil))
def cf':Css:=(.cons (.asg (.name 1) (.blt .list (.cons (.blt .range (.cons (.blt .len (.cons (.var 0) .nil)) .nil)) .nil)))
  (.cons (.asg (.name 2) (.call "lasting" (.cons (.var 0) (.cons (.var 1) .nil))))
  (.cons (.whl (.cmp .Lt (.blt .len (.cons (.var 2) .nil)) (.blt .len (.cons (.var 1) .nil))) (.cons (.asg (.name 1) (.var 2))
  (.cons (.asg (.name 2) (.call "lasting" (.cons (.var 0) (.cons (.var 1) .nil))))
  .nil)))
  (.cons (.ret (.tup (.cons (.call "part_of" (.cons (.var 0) (.cons (.var 1) .nil))) (.cons (.var 1) .nil))))
  .nil))))
def oI (o:Option Nat):Option Int:=o.map Int.ofNat
theorem ox' {o:Option Nat}:oV o=kO (oI o):=by cases o<;>rfl
def fs1 (M:List Rm) (r:Nat):Option Nat:=(M[r]?.getD (none,none)).1
def fs2 (M:List Rm) (r:Nat):Option Nat:=(M[r]?.getD (none,none)).2
theorem eJ' {C:Rc} {H:Hp} {a:Addr} {M:List Rm} {r:Nat} {Q:VK} (hM:IsM H a M) (hr:r<M.length) (q:∀p,H p=some (.tup [oV (fs1 M r),oV (fs2 M r)])->Q (.ref p) H):f0' C.K (.ref a) (.int r) H Q\/ga' C.K (.ref a) (.int r) H Q:=by
 obtain⟨vs,ha,hv⟩:=hM
 obtain⟨p,hp,hpt⟩:=hv.get (ac hr)
 refine eE' (SqT.of ha) (v:=.ref p) (bX' hp) (q p ?_)
 unfold fs1 fs2
 rw[ac hr]
 exact hpt
def ldS (M:List Rm) (rs:List Nat):Option Int->Bool:=fun k=>rs.any fun r=>decide (k=oI (fs1 M r)) || decide (k=oI (fs2 M r))
theorem oy' {M:List Rm} {rs:List Nat} {r:Nat}:ldS M (rs++[r])=fun k=>(ldS M rs k || decide (k=oI (fs1 M r))) || decide (k=oI (fs2 M r)):=by
 funext k
 unfold ldS
 rw[List.any_append]
 simp[Bool.or_assoc]
def inR (rs:List Nat) (o:Option Nat):Bool:=match o with
 |some n=>rs.contains n
 |none=>false
theorem qs' {rs:List Nat} {o:Option Nat}:inL (rs.map Int.ofNat) (oI o)=inR rs o:=by
 cases o with
 |none=>rfl
 |some n=>
  show(rs.map Int.ofNat).contains (Int.ofNat n)=rs.contains n
  induction rs with
  |nil=>rfl
  |cons a rs ih=>
   rw[aJ,List.contains_cons,List.contains_cons,ih]
   congr 1
   by_cases h:n=a
   .subst h;simp
   .rw[beq_eq_false_iff_ne.mpr h,beq_eq_false_iff_ne.mpr (fun z=>h (Int.ofNat.inj z))]
def dQ' (M:List Rm) (rs:List Nat) (r:Nat):Bool:=ldS M rs (some (r:Int))&&(inR rs (fs1 M r) || inR rs (fs2 M r))
def lst (M:List Rm) (rs:List Nat):List Nat:=rs.filter (dQ' M rs)
theorem sG' {rs:List Nat}:(rs.map Int.ofNat).map V.int=rs.map nV:=by rw[bE];rfl
def gY':Sp:=fun vs H Q _=>∃(a l:Addr) (M:List Rm) (rs:List Nat),vs=[.ref a,.ref l]/\IsM H a M/\H l=some (.lst (rs.map nV))/\(∀r∈rs,r<M.length)/\rs.length<=500/\∀(p:Addr) (H':Hp),H p=none->aD' H H'->H' p=some (.lst ((lst M rs).map nV))->Q (.ref p) H'
theorem mD' {C:Rc} (hN:C.N.length=6):∀vs H Q E,gY' vs H Q E->tSs C cd' { nx:=fun _ H'=>Q .non H',rt:=Q } (L2.aB' C.N vs) H:=by
 intro vs H Q E h
 obtain⟨a,l,M,rs,rfl,hM,hl,hrs,hlen,q⟩:=h
 rw[al' hN]
 unfold cd'
 walk_at "y"
 refine v2' (ns:=rs.map Int.ofNat) (SqL.of (by rw[sG'];exact hl)) (by rw[ai];omega) fun p hp=>?_
 have s1:=af' hp (e4' p (inL (rs.map Int.ofNat)) (rs.map Int.ofNat).length)
 have hp1:upd H p (e4' p (inL (rs.map Int.ofNat)) (rs.map Int.ofNat).length) p=some (e4' p (inL (rs.map Int.ofNat)) (rs.map Int.ofNat).length):=aa'
 generalize upd H p (e4' p (inL (rs.map Int.ofNat)) (rs.map Int.ofNat).length)=H1 at s1 hp1 ⊢
 have hl1:=s1 _ _ hl
 have hM1:=hM.mono (ax' s1)
 walk_at "y"
 refine ba' (SqL.of hl1) (zA' (vs:=rs.map nV) (fun i b H'=>b.1=ldS M (rs.take i)/\b.2=2*i/\H'=H1) ⟨rfl,rfl,rfl⟩ (fun i b H' pv=>SqL.of (by rw[pv.2.2];exact hl1)) ?_ ?_)
 .rintro i ⟨S,n⟩ H' x R hx ⟨hS,hn,hH⟩ hR
  subst hH
  rw[az]at hx
  cases er:rs[i]? with
  |none=>rw[er]at hx;cases hx
  |some r=>
  rw[er]at hx
  cases hx
  have hi:=aq' er
  have hrM:=hrs r (aE er)
  dsimp only at hS hn
  subst hS hn
  simp only[nV]
  walk_at "y"
  refine eJ' hM1 hrM fun pr hpr=>?_
  walk_at "y"
  refine dh' (SqT.of hpr) (zB' (vs:=[oV (fs1 M r),oV (fs2 M r)]) (fun j b H''=>b.1=(fun k=>(if j=0 then ldS M (rs.take i) k else if j=1 then(ldS M (rs.take i) k || decide (k=oI (fs1 M r)))else(ldS M (rs.take i) k || decide (k=oI (fs1 M r))) || decide (k=oI (fs2 M r))))/\b.2=2*i+j/\H''=H') ⟨rfl,rfl,rfl⟩ (fun j b H' pv=>SqT.of (by rw[pv.2.2];exact hpr)) ?_ ?_)
  .rintro j ⟨S,n⟩ H' x R2 hx ⟨hS,hn,rfl⟩ hR2
   dsimp only at hS hn
   subst hS hn
   have hj:j=0\/j=1:=by
    have:=aq' hx
    simp only[aR,bH]at this
    omega
   rcases hj with rfl|rfl
   .simp only[bU,Option.some.injEq]at hx
    subst hx
    walk_at "y"
    refine⟨oI (fs1 M r),ox',by omega,hR2 _ _ ⟨?_,rfl,rfl⟩⟩
    funext k
    simp
   .simp only[List.getElem?_cons_succ,bU,Option.some.injEq]at hx
    subst hx
    walk_at "y"
    refine⟨oI (fs2 M r),ox',by omega,hR2 _ _ ⟨?_,rfl,rfl⟩⟩
    funext k
    simp
  .rintro⟨S,n⟩ H' ⟨hS,hn,rfl⟩
   dsimp only at hS hn
   subst hS hn
   refine hR _ _ ⟨?_,by simp;omega,rfl⟩
   rw[show rs.take (i+1)=rs.take i++[r] by rw[bn,er];rfl,oy']
   rfl
 .rintro⟨S,n⟩ H' ⟨hS,hn,rfl⟩
  dsimp only at hS hn
  rw[ai,bh]at hS
  subst hS
  refine⟨trivial,fun p2 hp2=>?_⟩
  dsimp only
  have s2:=af' hp2 (e4' p2 (ldS M rs) n)
  have hp22:upd H' p2 (e4' p2 (ldS M rs) n) p2=some (e4' p2 (ldS M rs) n):=aa'
  generalize upd H' p2 (e4' p2 (ldS M rs) n)=H2 at s2 hp22 ⊢
  have hl2:=s2 _ _ hl1
  have hp12:=s2 _ _ hp1
  have hM2:=hM1.mono (ax' s2)
  walk_at "y"
  refine ba' (SqL.of hl2) (fe' (vs:=rs.map nV) (fun i xs H'=>xs=((rs.take i).filter (dQ' M rs)).map nV/\H'=H2) ⟨rfl,rfl⟩ (fun i xs H' pv=>SqL.of (by rw[pv.2];exact hl2)) ?_ ?_)
  .rintro i xs H' x R hx ⟨rfl,rfl⟩ hR
   rw[az]at hx
   cases er:rs[i]? with
   |none=>rw[er]at hx;cases hx
   |some r=>
   rw[er]at hx
   cases hx
   have hi:=aq' er
   have hrM:=hrs r (aE er)
   have et:(rs.take (i+1)).filter (dQ' M rs)=(rs.take i).filter (dQ' M rs)++[r].filter (dQ' M rs):=by rw[bn,er,List.filter_append];rfl
   have hfl:((rs.take i).filter (dQ' M rs)).length<=500:=aF (List.length_filter_le ..) (by rw[aW];omega)
   have yes:dQ' M rs r=true->R (((rs.take i).filter (dQ' M rs)).map nV++[nV r]) H':=fun h=>hR _ _ ⟨by rw[et,List.filter_cons,if_pos h,aI];rfl,rfl⟩
   have no:dQ' M rs r=false->R (((rs.take i).filter (dQ' M rs)).map nV) H':=fun h=>hR _ _ ⟨by rw[et,List.filter_cons,if_neg (by rw[h];decide)];simp,rfl⟩
   have e1:=qs' (rs:=rs) (o:=fs1 M r)
   have e2:=qs' (rs:=rs) (o:=fs2 M r)
   unfold dQ' at yes no
   simp only[nV]at yes ⊢
   walk_at "y"
   refine mq' (k:=some (r:Int)) rfl hp22 ?_
   simp only[bb,if_false]
   cases hld:ldS M rs (some (r:Int))with
   |false=>
    rw[hld]at no
    walk_at "y"
    exact no rfl
   |true=>
    rw[hld]at yes no
    walk_at "y"
    refine eJ' hM2 hrM fun pr hpr=>?_
    walk_at "y"
    refine eE' (SqT.of hpr) (v:=oV (fs1 M r)) rfl ?_
    walk_at "y"
    refine mq' ox' hp12 ?_
    simp only[bb,if_false]
    rw[e1]
    cases h1:inR rs (fs1 M r)with
    |true=>
     rw[h1]at yes
     walk_at "y"
     exact⟨by rw[ai];exact ai' (by omega),yes rfl⟩
    |false=>
     rw[h1]at yes no
     walk_at "y"
     refine eJ' hM2 hrM fun pr hpr=>?_
     walk_at "y"
     refine eE' (SqT.of hpr) (v:=oV (fs2 M r)) rfl ?_
     walk_at "y"
     refine mq' ox' hp12 ?_
     simp only[bb,if_false]
     rw[e2]
     cases h2:inR rs (fs2 M r)with
     |true=>
      rw[h2]at yes
      walk_at "y"
      exact⟨by rw[ai];exact ai' (by omega),yes rfl⟩
     |false=>
      rw[h2]at no
      walk_at "y"
      exact no rfl
  .rintro xs H' ⟨rfl,rfl⟩ p3 hp3
   rw[ai,bh]
   have hfin:upd H' p3 (.lst ((rs.filter (dQ' M rs)).map nV)) p3=some (.lst ((lst M rs).map nV)):=aa'
   exact q p3 _ ((s1.trans s2).free hp3) (s1.trans (s2.trans (af' hp3 _))) hfin
theorem ke' {i:Nat} (h:i<=1000):hashInt (i:Int)=i:=by
 unfold hashInt rawHash
 have e:(((i:Int).natAbs:Nat):Int) % ((2 ^ 61-1:Nat):Int)=i:=by
  rw[Int.natAbs_natCast]
  exact Int.emod_eq_of_lt (by omega) (Int.ofNat_lt.mpr (show i<2 ^ 61-1 by omega))
 dsimp only
 rw[e]
 have h1:¬((i:Int)<0):=by omega
 have h2:((i:Int) == -1)=false:=by rw[beq_eq_false_iff_ne];omega
 simp only[h1,if_false,h2,bb]
def TbK (n m:Nat) (kvs:List (Key×V)):Prop:=∀kv∈kvs,∃r j:Nat,kv=(.inl (r:Int),.int j)/\r<n/\j<m
set_option tactic.hygienic true in
theorem oz' {kvs:List (Key×V)} {k:Key} {v:V} {x:Key×V} (h:x∈hH' kvs k v):x∈kvs\/x=(k,v):=by
 unfold hH' at h
 split at h
 .obtain⟨y,hy,e⟩:=aQ.mp h
  split at e
  .rename_i hk
   right
   rw[<- e,hk]
  .left
   rw[<- e]
   exact hy
 .rcases aA.mp h with h|h
  .exact .inl h
  .exact .inr (by simpa using h)
theorem TbK.put {n m:Nat} {kvs:List (Key×V)} {r j:Nat} (h:TbK n m kvs) (hr:r<n) (hj:j<m):TbK n m (hH' kvs (.inl (r:Int)) (.int j)):=fun kv hkv=>by
 rcases oz' hkv with h1|rfl
 .exact h kv h1
 .exact⟨r,j,rfl,hr,hj⟩
theorem TbK.get {n m:Nat} {kvs:List (Key×V)} (h:TbK n m kvs) (k:Key):∃o:Option Nat,(ht' kvs k).getD .non=oV o/\∀x,o=some x->x<m:=by
 unfold ht'
 cases e:kvs.find? fun kv=>decide (kv.1=k)with
 |none=>exact⟨none,rfl,fun _ z=>(nomatch z)⟩
 |some kv=>
  obtain⟨r,j,rfl,_,hj⟩:=h kv (List.mem_of_find?_eq_some e)
  exact⟨some j,rfl,fun x z=>by cases z;exact hj⟩
theorem TbK.non {H:Hp} {p:Addr} {n m:Nat} {kvs:List (Key×V)} (h:TbK n m kvs) (hn:n<=1000) (hp:H p=some (.dK kvs)):NoN H p:=.inl ⟨kvs,hp,fun kv hkv=>by
 obtain⟨r,j,rfl,hr,_⟩:=h kv hkv
 exact⟨r,rfl,by rw[ke' (by omega)];show(r:Int)≠0xFCA86420;omega⟩⟩
theorem qt' {C:Rc} {H:Hp} {Q:VK} {p:Addr} {n m:Nat} {kvs:List (Key×V)} {o:Option Nat} (h:TbK n m kvs) (hn:n<=1000) (hp:H p=some (.dK kvs)) (q:∀o':Option Nat,(∀x,o'=some x->x<m)->Q (oV o') H):gU' p Q (oV o) H:=by
 cases o with
 |none=>exact mt' (h.non hn hp) (q none fun _ z=>(nomatch z))
 |some x=>
  obtain⟨o',e,ho⟩:=h.get (.inl (x:Int))
  refine ms' (gk'.k (k:=.inl (x:Int)) hp) ?_
  rw[e]
  exact q o' ho
def gZ':Sp:=fun vs H Q _=>∃(a l:Addr) (M:List Rm) (rs:List Nat),vs=[.ref a,.ref l]/\IsM H a M/\M.length<=500/\H l=some (.lst (rs.map nV))/\(∀r∈rs,r<M.length)/\rs.length<=500/\∀(p:Addr) (M':List Rm) (H':Hp),aD' H H'->IsM H' p M'->OkM M'->M'.length=rs.length->Q (.ref p) H'
theorem mE' {C:Rc} (hN:C.N.length=5):∀vs H Q E,gZ' vs H Q E->tSs C ce' { nx:=fun _ H'=>Q .non H',rt:=Q } (L2.aB' C.N vs) H:=by
 intro vs H Q E h
 obtain⟨a,l,M,rs,rfl,hM,hM5,hl,hrs,hlen,q⟩:=h
 rw[al' hN]
 unfold ce'
 walk_at "y"
 refine jd' (SqL.of hl) (zC' (vs:=rs.map nV) (fun i b H'=>TbK M.length rs.length b/\b.length<=i/\i<=rs.length/\aD' H H') ⟨fun kv h=>absurd h au,al _,aT _,aD'.refl _⟩ (fun i b H' pv=>SqL.of (pv.2.2.2 _ _ hl)) ?_ ?_)
 .rintro i b H1 x p R hx hp ⟨hb,hbl,hi0,s1⟩ hR
  rw[az]at hx
  cases er:rs[i]? with
  |none=>rw[er]at hx;cases hx
  |some r=>
  rw[er]at hx
  cases hx
  have hi:=aq' er
  refine dg' (SqT.of aa') ?_
  have s2:=s1.trans (af' hp (.tup [.int i,nV r]))
  generalize upd H1 p (.tup [.int i,nV r])=H2 at s2 ⊢
  simp only[nV]
  walk_at "y"
  exact⟨.inl (r:Int),rfl,ai' (by omega),hR _ _ ⟨hb.put (hrs r (aE er)) hi,aF (el' ..) (by omega),by omega,s2⟩⟩
 .rintro kvs H1 ⟨hb,_,_,s1⟩
  refine⟨trivial,fun p hp=>?_⟩
  have s2:=s1.trans (af' hp (.dK kvs))
  have hp2:upd H1 p (.dK kvs) p=some (.dK kvs):=aa'
  generalize upd H1 p (.dK kvs)=H2 at s2 hp2 ⊢
  walk_at "y"
  refine ba' (SqL.of (s2 _ _ hl)) (fe' (vs:=rs.map nV) (fun i xs H'=>(∃M',b5' H' xs M'/\(∀m∈M',OkR rs.length m)/\M'.length=i/\i<=rs.length)/\aD' H2 H') ⟨⟨[],trivial,fun m h=>absurd h au,rfl,aT _⟩,aD'.refl _⟩ (fun i xs H' pv=>SqL.of (pv.2 _ _ (s2 _ _ hl))) ?_ ?_)
  .rintro i xs H3 x R hx ⟨⟨M',hR',hO',hl',hi0⟩,s3⟩ hR
   rw[az]at hx
   cases er:rs[i]? with
   |none=>rw[er]at hx;cases hx
   |some r=>
   rw[er]at hx
   cases hx
   have hi:=aq' er
   have hrM:=hrs r (aE er)
   have hM3:=hM.mono (ax' (s2.trans s3))
   have hp3:=s3 _ _ hp2
   simp only[nV]
   walk_at "y"
   refine fO' (.inl ⟨kvs,.inl hp3⟩) ?_
   walk_at "y"
   refine eJ' hM3 hrM fun pr hpr=>?_
   walk_at "y"
   refine eE' (SqT.of hpr) (v:=oV (fs1 M r)) rfl ?_
   refine qt' (C:=C) hb (by omega) hp3 fun o1 ho1=>?_
   walk_at "y"
   refine fO' (.inl ⟨kvs,.inl hp3⟩) ?_
   walk_at "y"
   refine eJ' hM3 hrM fun pr hpr=>?_
   walk_at "y"
   refine eE' (SqT.of hpr) (v:=oV (fs2 M r)) rfl ?_
   refine qt' (C:=C) hb (by omega) hp3 fun o2 ho2=>?_
   walk_at "y"
   refine⟨by show 2<=sizeLine;decide,fun p4 hp4=>?_⟩
   have s4:=af' hp4 (.tup [oV o1,oV o2])
   have h4:upd H3 p4 (.tup [oV o1,oV o2]) p4=some (.tup [oV o1,oV o2]):=aa'
   generalize upd H3 p4 (.tup [oV o1,oV o2])=H4 at s4 h4 ⊢
   have hxl:=hR'.len
   refine⟨ai' (by omega),hR _ _ ⟨⟨M'++[(o1,o2)],(hR'.mono (ax' s4)).snoc ⟨p4,rfl,h4⟩,fun m hm=>?_,by simp[hl'],by omega⟩,s3.trans s4⟩⟩
   rcases aA.mp hm with hm|hm
   .exact hO' m hm
   .have:m=(o1,o2):=by simpa using hm
    subst this
    exact⟨ho1,ho2⟩
  .rintro xs H3 ⟨⟨M',hR',hO',hl',_⟩,s3⟩ p5 hp5
   rw[ai]at hl'
   walk_at "y"
   have h5:upd H3 p5 (.lst xs) p5=some (.lst xs):=aa'
   have s5:=af' hp5 (.lst xs)
   generalize upd H3 p5 (.lst xs)=H5 at h5 s5 ⊢
   refine eG' (SqL.of h5) fun p6 hp6=>?_
   have s6:=af' hp6 (.tup xs)
   refine q p6 M' _ (s2.trans (s3.trans (s5.trans s6))) ⟨xs,aa',hR'.mono (ax' (s5.trans s6))⟩ (fun m hm=>by rw[hl'];exact hO' m hm) hl'
def g0':Sp:=fun vs H Q _=>∃(a:Addr) (M:List Rm),vs=[.ref a]/\IsM H a M/\M.length<=500/\∀(p p' l:Addr) (M':List Rm) (rs:List Nat) (H':Hp),aD' H H'->H' p=some (.tup [.ref p',.ref l])->H' l=some (.lst (rs.map nV))->IsM H' p' M'->OkM M'->M'.length=rs.length->rs.length<=M.length->Q (.ref p) H'
theorem wd' {M:List Rm} {rs:List Nat}:(lst M rs).length<=rs.length:=List.length_filter_le ..
theorem mF' {M:List Rm} {rs:List Nat} {r:Nat} (h:r∈lst M rs):r∈rs:=(List.mem_filter.mp h).1
theorem qu' {n:Nat}:rgs 0 n=(aD n).map nV:=by
 unfold rgs
 apply bI
 intro k _
 show V.int (0+(k:Int))=V.int k
 rw[Int.zero_add]
theorem mG' {C:Rc} (hN:C.N.length=3) (hL:C.fs "lasting"=some gY') (hP:C.fs "part_of"=some gZ'):∀vs H Q E,g0' vs H Q E->tSs C cf' { nx:=fun _ H'=>Q .non H',rt:=Q } (L2.aB' C.N vs) H:=by
 intro vs H Q E h
 obtain⟨a,M,rfl,hM,hM5,q⟩:=h
 rw[al' hN]
 unfold cf'
 obtain⟨mv,hmv,hmr⟩:=id hM
 walk_at "y"
 refine dz' (SqT.of hmv) ?_
 rw[hmr.len]
 walk_at "y"
 refine eF' fun pr hpr=>?_
 walk_at "y"
 have hsz:((M.length:Int)-0).toNat<=sizeLine:=bD (ai' (by omega))
 refine jf' aa' (by omega) (by omega) (by omega) (by omega) hsz fun p1 hp1=>?_
 rw[show((M.length:Int)-0).toNat=M.length by omega,qu']
 have s1:=(af' hpr (.rng 0 M.length)).trans (af' hp1 (.lst ((aD M.length).map nV)))
 have h1:upd (upd H pr (.rng 0 M.length)) p1 (.lst ((aD M.length).map nV)) p1=some (.lst ((aD M.length).map nV)):=aa'
 generalize upd (upd H pr (.rng 0 M.length)) p1 (.lst ((aD M.length).map nV))=H1 at s1 h1 ⊢
 walk_at "y"
 refine ag' hL ?_
 walk_at "y"
 refine⟨a,p1,M,aD M.length,rfl,hM.mono (ax' s1),h1,fun r hr=>bM.mp hr,by rw[bF];omega,fun p2 H2 _ s2 h2=>?_⟩
 walk_at "y"
 refine vC' (fun m σ H'=>aD' H H'/\∃(l1 l2:Addr) (rs:List Nat),σ=[some (.ref a),some (.ref l1),some (.ref l2)]/\H' l1=some (.lst (rs.map nV))/\H' l2=some (.lst ((lst M rs).map nV))/\(∀r∈rs,r<M.length)/\rs.length<=M.length/\m=rs.length) _ ⟨s1.trans s2,p1,p2,aD M.length,rfl,s2 _ _ h1,h2,fun r hr=>bM.mp hr,by rw[bF];omega,rfl⟩ ?_
 rintro m σ H3 ⟨s3,l1,l2,rs,rfl,hl1,hl2,hrs,hrl,rfl⟩
 walk_at "y"
 refine cx' (SqL.of hl2) ?_
 walk_at "y"
 refine cx' (SqL.of hl1) ?_
 rw[ai,ai]
 walk_at "y"
 have hle:=wd' (M:=M) (rs:=rs)
 refine aV' (fun hc=>vD' ?_) fun hc=>vE' ?_
 .walk_at "y"
  refine ag' hL ?_
  walk_at "y"
  refine⟨a,l2,M,lst M rs,rfl,hM.mono (ax' s3),hl2,fun r hr=>hrs r (mF' hr),by omega,fun p4 H4 _ s4 h4=>?_⟩
  walk_at "y"
  exact⟨(lst M rs).length,by omega,s3.trans s4,l2,p4,lst M rs,rfl,s4 _ _ hl2,h4,fun r hr=>hrs r (mF' hr),by omega,rfl⟩
 .walk_at "y"
  refine ag' hP ?_
  walk_at "y"
  refine⟨a,l1,M,rs,rfl,hM.mono (ax' s3),hM5,hl1,hrs,by omega,fun p4 M' H4 s4 hM4 hO4 hl4=>?_⟩
  walk_at "y"
  refine⟨by show 2<=sizeLine;decide,fun p5 hp5=>?_⟩
  have s5:=af' hp5 (.tup [.ref p4,.ref l1])
  exact q p5 p4 l1 M' rs _ (s3.trans (s4.trans s5)) aa' (s5 _ _ (s4 _ _ hl1)) (hM4.mono (ax' s5)) hO4 hl4 hrl
end TM
namespace BD
open PySem PySem.Spec PyProof.Rows L2 R3 LW TM
def aT':Css:=(.cons (.asg (.tup (.cons (.name 1) (.cons (.name 2) (.cons (.name 3) (.cons (.name 4) (.cons (.name 5) .nil)))))) (.var 0))
  (.cons (.asg (.name 6) (.ife (.cmp .Is (.var 5) .non) (.lst (.cons (.int 0) .nil)) (.blt .list (.cons (.blt .range (.cons (.bin .Add (.var 5) (.int 1)) .nil)) .nil))))
  (.cons (.ret (.comp (.tup (.cons (.var 7) (.cons (.var 9) (.cons (.var 10) .nil)))) [7,8,9,10] (.tup (.cons (.name 7) (.cons (.name 8) .nil))) (.val (.tup (.cons (.tup (.cons (.int 0) (.cons (.var 2) .nil))) (.cons (.tup (.cons (.int 1) (.cons (.var 4) .nil))) .nil)))) .none (.cons [9,10] (.name 9) (.range2 (.int 1) (.bin .Add (.var 8) (.int 1))) .none (.cons [10] (.name 10) (.val (.var 6)) .none .nil))))
  .nil)))
def bj':Css:=(.cons (.asg (.tup (.cons (.name 3) (.cons (.name 4) (.cons (.name 5) (.cons (.name 6) (.cons (.name 7) .nil)))))) (.var 0))
  (.cons (.asg (.tup (.cons (.name 8) (.cons (.name 9) (.cons (.name 10) .nil)))) (.var 1))
  (.cons (.ite (.cmp .IsNot (.var 7) .non) (.cons (.aug 10 false (.ife (.cmp .Eq (.var 2) (.int 1)) (.int 1) (.neg (.int 1))))
  .nil) .nil)
  (.cons (.ite (.cmp .Eq (.var 2) (.var 8)) (.cons (.ret (.tup (.cons (.var 2) (.cons (.bin .Add (.var 9) (.int 1)) (.cons (.var 10) .nil)))))
  .nil) .nil)
  (.cons (.ite (.cmp .Lt (.var 9) (.ife (.cmp .Eq (.var 8) (.int 1)) (.var 5) (.var 3))) (.cons (.ret .non)
  .nil) .nil)
  (.cons (.ret (.tup (.cons (.var 2) (.cons (.int 1) (.cons (.var 10) .nil)))))
  .nil))))))
def aH':Css:=(.cons (.dctc true 2 (.var 4) (.var 3) [3,4] (.tup (.cons (.name 3) (.cons (.name 4) .nil))) (.enum (.var 1)) .none)
  (.cons (.ret (.blt .tuple (.cons (.comp (.tup (.cons (.dgt (.var 2) (.call "room_behind" (.cons (.var 0) (.cons (.var 4) (.cons (.int 0) .nil))))) (.cons (.dgt (.var 2) (.call "room_behind" (.cons (.var 0) (.cons (.var 4) (.cons (.int 1) .nil))))) .nil))) [4] (.name 4) (.val (.var 1)) .none .nil) .nil)))
  .nil))
def bt':Css:=(.cons (.asg (.tup (.cons (.name 1) (.cons (.name 2) .nil))) (.call "trimmed" (.cons (.call "machine_in_bounds" (.cons (.var 0) (.cons (.call "rooms_in_bounds" (.cons (.var 0) .nil)) .nil))) .nil)))
  (.cons (.ret (.var 1))
  .nil))
structure IsB (H:Hp) (p:Addr) (l0 h0 l1 h1:Nat) (sp:Option Nat):Prop where
 at':H p=some (.tup [nV l0,nV h0,nV l1,nV h1,oV sp])
 b0:h0<=8
 b1:h1<=8
 bs:∀s,sp=some s->s<=16
theorem IsB.mono {H H':Hp} {p:Addr} {l0 h0 l1 h1:Nat} {sp:Option Nat} (h:IsB H p l0 h0 l1 h1 sp) (t:Tp H H'):IsB H' p l0 h0 l1 h1 sp:=⟨t _ _ h.at',h.b0,h.b1,h.bs⟩
theorem qv' {C:Rc} {H:Hp} {σ:L2.St} {i j k m n:Nat} {a:Addr} {x y z u v:V} {R:L2.St->Hp->Prop} (h:SqT C.K H a [x,y,z,u,v]) (q:R (((((σ.set i (some x)).set j (some y)).set k (some z)).set m (some u)).set n (some v)) H):tG C (.tup (.cons (.name i) (.cons (.name j) (.cons (.name k) (.cons (.name m) (.cons (.name n) .nil)))))) (.ref a) σ H R:=
 ⟨a,[x,y,z,u,v],rfl,.inl h,rfl,_,_,rfl,_,_,rfl,_,_,rfl,_,_,rfl,_,_,rfl,rfl,q⟩
abbrev K3:=Nat×Nat×Nat
def kl' (H:Hp) (v:V) (k:K3):Prop:=∃p,v=.ref p/\H p=some (.tup [nV k.1,nV k.2.1,nV k.2.2])
theorem kl'.mono {H H':Hp} (s:aD' H H') {v:V} {k:K3} (h:kl' H v k):kl' H' v k:=by
 obtain⟨p,e,hp⟩:=h
 exact⟨p,e,s _ _ hp⟩
def r1 (lv:List Nat) (b pl:Nat):List K3:=lv.map fun l=>(b,pl,l)
def r2 (lv:List Nat) (b:Nat) (h:Nat):List K3:=(aD h).flatMap fun j=>r1 lv b (j+1)
def rk (lv:List Nat) (h0 h1:Nat):List K3:=r2 lv 0 h0++r2 lv 1 h1
def lvs:Option Nat->List Nat
 |none=>[0]
 |some s=>aD (s+1)
theorem id' {lv:List Nat} {b h:Nat}:r2 lv b (h+1)=r2 lv b h++r1 lv b (h+1):=by
 unfold r2
 rw[cc,List.flatMap_append]
 simp
theorem g1' {lv:List Nat} {b:Nat}:∀{h},(r2 lv b h).length=h*lv.length
 |0=>by rw[Nat.zero_mul];rfl
 |h+1=>by rw[id',ao,g1',Nat.add_mul,Nat.one_mul];unfold r1;rw[ai]
theorem g2' {lv:List Nat} {b h:Nat} {k:K3}:k∈r2 lv b h->k.1=b/\1<=k.2.1/\k.2.1<=h/\k.2.2∈lv:=by
 unfold r2 r1
 intro hk
 obtain⟨j,hj,hk⟩:=List.mem_flatMap.mp hk
 obtain⟨l,hl,rfl⟩:=aQ.mp hk
 have:=bM.mp hj
 exact⟨rfl,by show 1<=j+1;omega,by show j+1<=h;omega,hl⟩
theorem we' {α β:Type} {f:α->β} (hf:∀x y,f x=f y->x=y):∀{l:List α},l.Nodup->(l.map f).Nodup
 := by intro x;induction x<;>grind
theorem sH' {lv:List Nat} (hl:lv.Nodup) {b:Nat}:∀{h},(r2 lv b h).Nodup
 |0=>List.nodup_nil
 |h+1=>by
  rw[id',List.nodup_append]
  refine⟨sH' hl,we' (fun x y e=>by injection e with _ e;injection e) hl,fun x hx y hy e=>?_⟩
  subst e
  have h1:=(g2' hx).2.2.1
  unfold r1 at hy
  obtain⟨l,_,rfl⟩:=aQ.mp hy
  have:h+1<=h:=h1
  omega
theorem yI' {lv:List Nat} (hl:lv.Nodup) {h0 h1:Nat}:(rk lv h0 h1).Nodup:=by
 unfold rk
 rw[List.nodup_append]
 refine⟨sH' hl,sH' hl,fun x hx y hy e=>?_⟩
 subst e
 have a:=(g2' hx).1
 have b:=(g2' hy).1
 omega
theorem wf' {sp:Option Nat}:(lvs sp).Nodup:=by
 cases sp with
 |none=>exact bY.mpr ⟨au,List.nodup_nil⟩
 |some s=>exact List.nodup_range
theorem qw' {sp:Option Nat} (h:∀s,sp=some s->s<=16):(lvs sp).length<=17/\∀l∈lvs sp,l<=16:=by
 cases sp with
 |none=>exact⟨by decide,fun l hl=>by have:l=0:=(by simpa[lvs]using hl);omega⟩
 |some s=>
  have:=h s rfl
  refine⟨by show(aD (s+1)).length<=17;rw[bF];omega,fun l hl=>?_⟩
  have:=bM.mp (show l∈aD (s+1) from hl)
  omega
theorem sI' {sp:Option Nat} {h0 h1:Nat} (hs:∀s,sp=some s->s<=16) (a0:h0<=8) (a1:h1<=8):(rk (lvs sp) h0 h1).length<=272/\∀k∈rk (lvs sp) h0 h1,k.1<2/\k.2.1<9/\k.2.2<17:=by
 obtain⟨h,hm⟩:=qw' hs
 constructor
 .unfold rk
  rw[ao,g1',g1']
  have e0:h0*(lvs sp).length<=8*17:=Nat.mul_le_mul a0 h
  have e1:h1*(lvs sp).length<=8*17:=Nat.mul_le_mul a1 h
  omega
 .intro k hk
  unfold rk at hk
  rcases aA.mp hk with hk|hk
  .obtain⟨e,_,e2,e3⟩:=g2' hk
   have:=hm _ e3
   omega
  .obtain⟨e,_,e2,e3⟩:=g2' hk
   have:=hm _ e3
   omega
def mH':Sp:=fun vs H Q _=>∃(bd:Addr) (l0 h0 l1 h1:Nat) (sp:Option Nat),vs=[.ref bd]/\IsB H bd l0 h0 l1 h1 sp/\∀(p:Addr) (xs:List V) (H':Hp),aD' H H'->H' p=some (.lst xs)->b4' (kl' H') xs (rk (lvs sp) h0 h1)->Q (.ref p) H'
theorem g3' {H H':Hp} (s:aD' H H') {xs:List V} {ks:List K3} (h:b4' (kl' H) xs ks):b4' (kl' H') xs ks:=h.mono fun _ _ z=>z.mono s
theorem oA' {C:Rc} (hN:C.N.length=11):∀vs H Q E,mH' vs H Q E->tSs C aT' { nx:=fun _ H'=>Q .non H',rt:=Q } (L2.aB' C.N vs) H:=by
 intro vs H Q E h
 obtain⟨bd,l0,h0,l1,h1,sp,rfl,hB,q⟩:=h
 rw[al' hN]
 unfold aT'
 walk_at "y"
 rw[od']
 walk_at "y"
 refine qv' (C:=C) (SqT.of hB.at') ?_
 simp only[gI',bW,bX]
 obtain⟨hlv,hlm⟩:=qw' hB.bs
 refine r7' fun K hK=>?_
 have as':∀(pl:Addr) (H1:Hp),aD' H H1->H1 pl=some (.lst ((lvs sp).map nV))->K (.ref pl) H1:=by
  intro pl H1 s1 hpl
  refine hK _ _ ?_
  walk_at "y"
  refine⟨by show 2<=sizeLine;decide,fun q0 hq0=>?_⟩
  have t0:=af' hq0 (.tup [.int 0,nV h0])
  have e0:upd H1 q0 (.tup [.int 0,nV h0]) q0=some (.tup [.int 0,nV h0]):=aa'
  generalize upd H1 q0 (.tup [.int 0,nV h0])=H2 at t0 e0 ⊢
  walk_at "y"
  refine⟨by show 2<=sizeLine;decide,fun q1 hq1=>?_⟩
  have t1:=af' hq1 (.tup [.int 1,nV h1])
  have e1:upd H2 q1 (.tup [.int 1,nV h1]) q1=some (.tup [.int 1,nV h1]):=aa'
  generalize upd H2 q1 (.tup [.int 1,nV h1])=H3 at t1 e1 ⊢
  walk_at "y"
  refine⟨by show 2<=sizeLine;decide,fun q2 hq2=>?_⟩
  have t2:=af' hq2 (.tup [.ref q0,.ref q1])
  have e2:upd H3 q2 (.tup [.ref q0,.ref q1]) q2=some (.tup [.ref q0,.ref q1]):=aa'
  generalize upd H3 q2 (.tup [.ref q0,.ref q1])=H4 at t2 e2 ⊢
  have s4:aD' H1 H4:=t0.trans (t1.trans t2)
  have e04:=t2 _ _ (t1 _ _ e0)
  have e14:=t2 _ _ e1
  have hpl4:=s4 _ _ hpl
  have hrk:=(sI' hB.bs hB.b0 hB.b1 (h0:=h0) (h1:=h1)).1
  refine dh' (SqT.of e2) (zB' (vs:=[.ref q0,.ref q1]) (fun i xs H'=>aD' H4 H'/\b4' (kl' H') xs (if i=0 then[]else if i=1 then r2 (lvs sp) 0 h0 else rk (lvs sp) h0 h1)) ⟨aD'.refl _,trivial⟩ (fun i xs H' pv=>SqT.of (pv.1 _ _ e2)) ?_ ?_)
  .rintro i xs H5 x R hx ⟨s5,hA⟩ hR
   have hi2:i=0\/i=1:=by
    have:=aq' hx
    simp only[aR,bH]at this
    omega
   obtain⟨qq,b,hh,rfl,hqq,hh8,pre,hpre,hpost,hb⟩:∃(qq:Addr) (b hh:Nat),x=.ref qq/\H5 qq=some (.tup [.int b,nV hh])/\hh<=8/\∃pre,b4' (kl' H5) xs pre/\(∀ys H6,aD' H4 H6->b4' (kl' H6) ys (pre++r2 (lvs sp) b hh)->R ys H6)/\(pre++r2 (lvs sp) b hh).length<=272:=by
    rcases hi2 with rfl|rfl
    .cases hx
     refine⟨q0,0,h0,rfl,s5 _ _ e04,hB.b0,[],hA,fun ys H6 s6 h6=>hR _ _ ⟨s6,h6⟩,?_⟩
     rw[List.nil_append]
     unfold rk at hrk
     rw[ao]at hrk
     omega
    .cases hx
     exact⟨q1,1,h1,rfl,s5 _ _ e14,hB.b1,r2 (lvs sp) 0 h0,hA,fun ys H6 s6 h6=>hR _ _ ⟨s6,h6⟩,hrk⟩
   refine dg' (C:=C) (SqT.of hqq) ?_
   simp only[nV]
   walk_at "y"
   rw[ao,g1']at hb
   have hap:=hpre.len
   refine ys' (by omega) (by omega) (by omega) (by omega) (Aj' (n:=((hh:Int)+1-1).toNat) (fun j ys H6=>aD' H4 H6/\b4' (kl' H6) ys (pre++r2 (lvs sp) b j)) ⟨s5,by simpa[r2]using hpre⟩ ?_ ?_)
   .rintro j ys H6 R2 hj ⟨s6,h6⟩ hR2
    have hjh:j<hh:=by omega
    have hjl:j*(lvs sp).length+(lvs sp).length<=hh*(lvs sp).length:=by
     have:=Nat.mul_le_mul_right (lvs sp).length hjh
     rw[Nat.succ_mul]at this
     exact this
    walk_at "y"
    refine ba' (SqL.of (s6 _ _ hpl4)) (zA' (vs:=(lvs sp).map nV) (fun m zs H7=>aD' H4 H7/\b4' (kl' H7) zs (pre++r2 (lvs sp) b j++r1 ((lvs sp).take m) b (j+1))) ⟨s6,by simpa[r1]using h6⟩ (fun m zs H7 pv=>SqL.of (pv.1 _ _ hpl4)) ?_ ?_)
    .rintro m zs H7 x R3 hx ⟨s7,h7⟩ hR3
     rw[az]at hx
     cases er:(lvs sp)[m]? with
     |none=>rw[er]at hx;cases hx
     |some lv=>
     rw[er]at hx
     cases hx
     have hm:=aq' er
     have h7l:=h7.len
     rw[ao,ao,g1']at h7l
     unfold r1 at h7l
     rw[ai,aW]at h7l
     simp only[nV]
     walk_at "y"
     refine⟨by show 3<=sizeLine;decide,fun q8 hq8=>?_⟩
     have t8:=af' hq8 (.tup [.int b,.int (1+j),.int lv])
     have e8:upd H7 q8 (.tup [.int b,.int (1+j),.int lv]) q8=some (.tup [nV b,nV (j+1),nV lv]):=by
      rw[aa']
      show some (HO.tup [.int b,.int (1+(j:Int)),.int lv])=some (HO.tup [.int b,.int ((j+1:Nat):Int),.int lv])
      rw[show(1:Int)+j=((j+1:Nat):Int) by omega]
     generalize upd H7 q8 (.tup [.int b,.int (1+j),.int lv])=H8 at t8 e8 ⊢
     refine⟨ai' (by omega),hR3 _ _ ⟨s7.trans t8,?_⟩⟩
     rw[show r1 ((lvs sp).take (m+1)) b (j+1)=r1 ((lvs sp).take m) b (j+1)++[(b,j+1,lv)] by unfold r1;rw[bn,er,aI];rfl,<- aO]
     exact(g3' t8 h7).snoc ⟨q8,rfl,e8⟩
    .rintro zs H7 ⟨s7,h7⟩
     rw[ai,bh,aO,<- id']at h7
     exact hR2 _ _ ⟨s7,h7⟩
   .rintro ys H6 ⟨s6,h6⟩
    rw[show((hh:Int)+1-1).toNat=hh by omega]at h6
    exact hpost ys H6 s6 h6
  .rintro xs H5 ⟨s5,hA⟩ p9 hp9
   have s9:=af' hp9 (.lst xs)
   exact q p9 xs _ (s1.trans (s4.trans (s5.trans s9))) aa' (g3' s9 hA)
 walk_at "y"
 cases sp with
 |none=>
  simp only[oV]
  walk_at "y"
  refine⟨by decide,fun pl hpl=>?_⟩
  exact as' pl _ (af' hpl _) aa'
 |some s=>
  have hs:=hB.bs s rfl
  simp only[oV]
  walk_at "y"
  refine eF' fun pr hpr=>?_
  walk_at "y"
  refine jf' aa' (by omega) (by omega) (by omega) (by omega) (bD (ai' (by omega))) fun pl hpl=>?_
  rw[show((s:Int)+1-0).toNat=s+1 by omega,qu']
  exact as' pl _ ((af' hpr _).trans (af' hpl _)) aa'
def wg':Sp:=fun vs H Q _=>∃(bd rm:Addr) (l0 h0 l1 h1:Nat) (sp:Option Nat) (b pl lv:Nat) (c:Nat),vs=[.ref bd,.ref rm,.int c]/\IsB H bd l0 h0 l1 h1 sp/\H rm=some (.tup [nV b,nV pl,nV lv])/\(∀H',aD' H H'->Q .non H')/\∀(p:Addr) (i1 i2 i3:Int) (H':Hp),aD' H H'->H' p=some (.tup [.int i1,.int i2,.int i3])->Q (.ref p) H'
theorem sJ' {C:Rc} (hN:C.N.length=11):∀vs H Q E,wg' vs H Q E->tSs C bj' { nx:=fun _ H'=>Q .non H',rt:=Q } (L2.aB' C.N vs) H:=by
 intro vs H Q E h
 obtain⟨bd,rm,l0,h0,l1,h1,sp,b,pl,lv,c,rfl,hB,hrm,q1,q2⟩:=h
 rw[al' hN]
 unfold bj'
 walk_at "y"
 rw[od']
 walk_at "y"
 refine qv' (C:=C) (SqT.of hB.at') ?_
 walk_at "y"
 rw[od']
 walk_at "y"
 refine r3' (SqT.of hrm) ?_
 simp only[nV,gI',bW,bX]
 refine vT' fun N hNx=>?_
 have as':∀lev:Int,N [some (.ref bd),some (.ref rm),some (.int c),some (.int l0),some (.int h0),some (.int l1),some (.int h1),some (oV sp),some (.int b),some (.int pl),some (.int lev)] H:=by
  intro lev
  refine hNx _ _ ?_
  walk_at "y"
  refine aV' (fun hq=>?_) fun hq=>?_
  .walk_at "y"
   refine⟨by show 3<=sizeLine;decide,fun p hp=>?_⟩
   exact q2 p _ _ _ _ (af' hp _) aa'
  walk_at "y"
  refine aV' (fun hq=>?_) fun hq=>?_
  .walk_at "y"
   refine aV' (fun hq2=>?_) fun hq2=>?_
   .walk_at "y"
    exact q1 _ (aD'.refl _)
   .walk_at "y"
    refine⟨by show 3<=sizeLine;decide,fun p hp=>?_⟩
    exact q2 p _ _ _ _ (af' hp _) aa'
  .walk_at "y"
   refine aV' (fun hq2=>?_) fun hq2=>?_
   .walk_at "y"
    exact q1 _ (aD'.refl _)
   .walk_at "y"
    refine⟨by show 3<=sizeLine;decide,fun p hp=>?_⟩
    exact q2 p _ _ _ _ (af' hp _) aa'
 cases sp with
 |none=>
  simp only[oV]
  walk_at "y"
  exact as' _
 |some s=>
  simp only[oV]
  walk_at "y"
  rw[vo' (a:=(lv:Int)) rfl]
  walk_at "y"
  refine aV' (fun hq=>?_) fun hq=>?_
  .walk_at "y"
   exact as' _
  .walk_at "y"
   exact as' _
theorem yJ':∀b:Fin 2,∀p:Fin 9,∀l:Fin 17,reduceHash (Builtin.Tuple.tupleHashOf [hashInt (b.val:Int),hashInt (p.val:Int),hashInt (l.val:Int)])≠NH:=by decide +kernel
def kI (k:K3):List Int:=[(k.1:Int),(k.2.1:Int),(k.2.2:Int)]
def kK (k:K3):List Key:=(kI k).map Key.inl
theorem wh' {a b:K3} (h:kK a=kK b):a=b:=by
 obtain⟨a1,a2,a3⟩:=a
 obtain⟨b1,b2,b3⟩:=b
 unfold kK kI at h
 simp only[aJ,List.map_nil,List.cons.injEq,Key.inl.injEq,and_true]at h
 obtain⟨h1,h2,h3⟩:=h
 rw[show a1=b1 by omega,show a2=b2 by omega,show a3=b3 by omega]
theorem wi' {k:K3}:(kK k).map L2.kV=[nV k.1,nV k.2.1,nV k.2.2]:=rfl
theorem sK' {ks:List K3} {i:Nat} {k:K3} (h:ks.Nodup) (hk:ks[i]?=some k):k∉ks.take i:=by
 intro hm
 have hi:=aq' hk
 have e:ks=ks.take i++k :: ks.drop (i+1):=by
  have h1:=bL i ks
  rw[List.drop_eq_getElem_cons hi]at h1
  rw[ac hi]at hk
  rw[Option.some.inj hk]at h1
  exact h1.symm
 rw[e,List.nodup_append]at h
 exact h.2.2 k hm k aw rfl
theorem mI' {ks:List K3} {i:Nat} {k:K3} (hk:ks[i]?=some k):ks.take (i+1)=ks.take i++[k]:=by rw[bn,hk];rfl
def TbT (ks:List K3) (m:Nat) (a:KTL):Prop:=∀x∈a,∃(k:K3) (j:Nat),k∈ks/\x.1=kK k/\x.2.2=.int j/\j<m
theorem TbT.get {ks:List K3} {m:Nat} {a:KTL} (h:TbT ks m a) (k:List Key):∃o:Option Nat,(ht' (plT a) k).getD .non=oV o/\∀x,o=some x->x<m:=by
 unfold ht'
 cases e:(plT a).find? fun kv=>decide (kv.1=k)with
 |none=>exact⟨none,rfl,fun _ z=>(nomatch z)⟩
 |some kv=>
  obtain⟨x,hx,rfl⟩:=aQ.mp (List.mem_of_find?_eq_some e)
  obtain⟨_,j,_,_,ej,hj⟩:=h x hx
  refine⟨some j,?_,fun y z=>by cases z;exact hj⟩
  show x.2.2=_
  rw[ej]
  rfl
theorem TbT.non {H:Hp} {p:Addr} {ks:List K3} {m:Nat} {a:KTL} (h:TbT ks m a) (hk:∀k∈ks,k.1<2/\k.2.1<9/\k.2.2<17) (hp:H p=some (.dT (plT a))):NoN H p:=.inr ⟨plT a,hp,fun kv hkv=>by
 obtain⟨x,hx,rfl⟩:=aQ.mp hkv
 obtain⟨k,j,hks,e,_⟩:=h x hx
 obtain⟨h1,h2,h3⟩:=hk k hks
 exact⟨kI k,e,yJ' ⟨k.1,h1⟩ ⟨k.2.1,h2⟩ ⟨k.2.2,h3⟩⟩⟩
def mJ':Sp:=fun vs H Q _=>∃(bd l:Addr) (l0 h0 l1 h1:Nat) (sp:Option Nat) (xs:List V),vs=[.ref bd,.ref l]/\IsB H bd l0 h0 l1 h1 sp/\H l=some (.lst xs)/\b4' (kl' H) xs (rk (lvs sp) h0 h1)/\∀(p:Addr) (M:List Rm) (H':Hp),aD' H H'->IsM H' p M->OkM M->M.length=(rk (lvs sp) h0 h1).length->Q (.ref p) H'
theorem oB' {C:Rc} (hN:C.N.length=5) (hR:C.fs "room_behind"=some wg'):∀vs H Q E,mJ' vs H Q E->tSs C aH' { nx:=fun _ H'=>Q .non H',rt:=Q } (L2.aB' C.N vs) H:=by
 intro vs H Q E h
 obtain⟨bd,l,l0,h0,l1,h1,sp,xs,rfl,hB,hl,hA,q⟩:=h
 rw[al' hN]
 unfold aH'
 obtain⟨hrl,hrb⟩:=sI' hB.bs hB.b0 hB.b1 (h0:=h0) (h1:=h1)
 have hnd:=yI' (wf' (sp:=sp)) (h0:=h0) (h1:=h1)
 generalize hks:rk (lvs sp) h0 h1=ks at hA q hrl hrb hnd
 have hxl:=hA.len
 walk_at "y"
 refine jd' (SqL.of hl) (zC' (vs:=xs) (fun i b H'=>TbT (ks.take i) ks.length b/\okT b H'/\b.length=i/\aD' H H') ⟨fun x h=>absurd h au,fun x h=>absurd h au,rfl,aD'.refl _⟩ (fun i b H' pv=>SqL.of (pv.2.2.2 _ _ hl)) ?_ ?_)
 .rintro i b H1 x p R hx hp ⟨hb,hok,hbl,s1⟩ hR'
  obtain⟨k,hk,pk,rfl,hpk⟩:=hA.getL hx
  have hi:=aq' hk
  refine dg' (SqT.of aa') ?_
  have t2:=af' hp (.tup [.int i,.ref pk])
  have s2:=s1.trans t2
  generalize upd H1 p (.tup [.int i,.ref pk])=H2 at t2 s2 ⊢
  have ok2:okT b H2:=fun y hy=>t2 _ _ (hok y hy)
  walk_at "y"
  refine⟨kK k,pk,rfl,by rw[wi'];exact s2 _ _ hpk,ok2,fun y hy e=>?_,ai' (by omega),hR' _ _ ⟨fun y hy=>?_,fun y hy=>?_,by simp[hbl],s2⟩⟩
  .obtain⟨k',j,hk',e',_⟩:=hb y hy
   have ek:k'=k:=wh' (e'.symm.trans e)
   subst ek
   exact sK' hnd hk hk'
  .rw[mI' hk]
   rcases aA.mp hy with hy|hy
   .obtain⟨k',j,hk',e'⟩:=hb y hy
    exact⟨k',j,aZ _ hk',e'⟩
   .have:y=(kK k,pk,V.int i):=by simpa using hy
    subst this
    exact⟨k,i,aj _ (List.mem_singleton.mpr rfl),rfl,rfl,hi⟩
  .rcases aA.mp hy with hy|hy
   .exact ok2 y hy
   .have:y=(kK k,pk,V.int i):=by simpa using hy
    subst this
    show H2 pk=some (.tup ((kK k).map L2.kV))
    rw[wi']
    exact s2 _ _ hpk
 .rintro a H1 ⟨hb,hok,hal,s1⟩
  rw[hxl,bh]at hb
  refine⟨hok,fun p hp=>?_⟩
  have s2:=s1.trans (af' hp (.dT (plT a)))
  have hp2:upd H1 p (.dT (plT a)) p=some (.dT (plT a)):=aa'
  generalize upd H1 p (.dT (plT a))=H2 at s2 hp2 ⊢
  have getT:∀{H3:Hp} {Q':VK} {y:V},aD' H2 H3->(y=.non\/∃(pz:Addr) (i1 i2 i3:Int),y=.ref pz/\H3 pz=some (.tup [.int i1,.int i2,.int i3]))->(∀o:Option Nat,(∀x,o=some x->x<ks.length)->Q' (oV o) H3)->gU' p Q' y H3:=by
   intro H3 Q' y s3 hy q'
   have hp3:=s3 _ _ hp2
   rcases hy with rfl|⟨pz,i1,i2,i3,rfl,hz⟩
   .exact mt' (hb.non hrb hp3) (q' none fun _ z=>(nomatch z))
   .obtain⟨o,e,ho⟩:=hb.get [.inl i1,.inl i2,.inl i3]
    refine ms' (gk'.t (k:=[.inl i1,.inl i2,.inl i3]) hp3 hz) ?_
    rw[e]
    exact q' o ho
  walk_at "y"
  refine ba' (SqL.of (s2 _ _ hl)) (fe' (vs:=xs) (fun i ys H'=>(∃M',b5' H' ys M'/\(∀m∈M',OkR ks.length m)/\M'.length=i/\i<=ks.length)/\aD' H2 H') ⟨⟨[],trivial,fun m h=>absurd h au,rfl,aT _⟩,aD'.refl _⟩ (fun i ys H' pv=>SqL.of (pv.2 _ _ (s2 _ _ hl))) ?_ ?_)
  .rintro i ys H3 x R hx ⟨⟨M',hR',hO',hl',hi0⟩,s3⟩ hRR
   obtain⟨k,hk,pk,rfl,hpk⟩:=hA.getL hx
   have hi:=aq' hk
   have s23:=s2.trans s3
   walk_at "y"
   refine fO' (.inr ⟨plT a,.inl (s3 _ _ hp2)⟩) ?_
   refine ag' hR ?_
   walk_at "y"
   have half:∀(H4:Hp) (y1:V),aD' H2 H4->(y1=.non\/∃(pz:Addr) (i1 i2 i3:Int),y1=.ref pz/\H4 pz=some (.tup [.int i1,.int i2,.int i3]))->aD' H3 H4->gU' p (kA1 C (List.set (clr [4] [some (.ref bd),some (.ref l),some (.ref p),none,none]) 4 (some (.ref pk))) (.cons (.dgt (.var 2) (.call "room_behind" (.cons (.var 0) (.cons (.var 4) (.cons (.int 1) .nil))))) .nil) (w5' (gM' ys R))) y1 H4:=by
    intro H4 y1 s4 hy1 s34
    refine getT s4 hy1 fun o1 ho1=>?_
    walk_at "y"
    refine fO' (.inr ⟨plT a,.inl (s4 _ _ hp2)⟩) ?_
    refine ag' hR ?_
    walk_at "y"
    have second:∀(H5:Hp) (y2:V),aD' H2 H5->aD' H4 H5->(y2=.non\/∃(pz:Addr) (i1 i2 i3:Int),y2=.ref pz/\H5 pz=some (.tup [.int i1,.int i2,.int i3]))->gU' p (kA1 C (List.set (clr [4] [some (.ref bd),some (.ref l),some (.ref p),none,none]) 4 (some (.ref pk))) .nil (kA2 (oV o1) (w5' (gM' ys R)))) y2 H5:=by
     intro H5 y2 s5 s45 hy2
     refine getT s5 hy2 fun o2 ho2=>?_
     walk_at "y"
     refine⟨by show 2<=sizeLine;decide,fun p6 hp6=>?_⟩
     have s6:=af' hp6 (.tup [oV o1,oV o2])
     have h6:upd H5 p6 (.tup [oV o1,oV o2]) p6=some (.tup [oV o1,oV o2]):=aa'
     generalize upd H5 p6 (.tup [oV o1,oV o2])=H6 at s6 h6 ⊢
     have hyl:=hR'.len
     refine⟨ai' (by omega),hRR _ _ ⟨⟨M'++[(o1,o2)],(hR'.mono (ax' (s34.trans (s45.trans s6)))).snoc ⟨p6,rfl,h6⟩,fun m hm=>?_,by simp[hl'],by omega⟩,s5.trans s6⟩⟩
     rcases aA.mp hm with hm|hm
     .exact hO' m hm
     .have:m=(o1,o2):=by simpa using hm
      subst this
      exact⟨ho1,ho2⟩
    refine⟨bd,pk,l0,h0,l1,h1,sp,k.1,k.2.1,k.2.2,1,rfl,hB.mono (ax' (s2.trans s4)),(s2.trans s4) _ _ hpk,fun H5 s45=>second H5 _ (s4.trans s45) s45 (.inl rfl),fun pz i1 i2 i3 H5 s45 hz=>second H5 _ (s4.trans s45) s45 (.inr ⟨pz,i1,i2,i3,rfl,hz⟩)⟩
   refine⟨bd,pk,l0,h0,l1,h1,sp,k.1,k.2.1,k.2.2,0,rfl,hB.mono (ax' s23),s23 _ _ hpk,fun H4 s34=>half H4 _ (s3.trans s34) (.inl rfl) s34,fun pz i1 i2 i3 H4 s34 hz=>half H4 _ (s3.trans s34) (.inr ⟨pz,i1,i2,i3,rfl,hz⟩) s34⟩
  .rintro ys H3 ⟨⟨M',hR',hO',hl',_⟩,s3⟩ p5 hp5
   rw[hxl]at hl'
   walk_at "y"
   have h5:upd H3 p5 (.lst ys) p5=some (.lst ys):=aa'
   have s5:=af' hp5 (.lst ys)
   generalize upd H3 p5 (.lst ys)=H5 at h5 s5 ⊢
   refine eG' (SqL.of h5) fun p6 hp6=>?_
   have s6:=af' hp6 (.tup ys)
   exact q p6 M' _ (s2.trans (s3.trans (s5.trans s6))) ⟨ys,aa',hR'.mono (ax' (s5.trans s6))⟩ (fun m hm=>by rw[hl'];exact hO' m hm) hl'
def mK':Sp:=fun vs H Q _=>∃(bd:Addr) (l0 h0 l1 h1:Nat) (sp:Option Nat),vs=[.ref bd]/\IsB H bd l0 h0 l1 h1 sp/\∀(p:Addr) (M:List Rm) (H':Hp),aD' H H'->IsM H' p M->OkM M->M.length<=272->Q (.ref p) H'
theorem oC' {C:Rc} (hN:C.N.length=3) (hT:C.fs "trimmed"=some g0') (hM:C.fs "machine_in_bounds"=some mJ') (hR:C.fs "rooms_in_bounds"=some mH'):∀vs H Q E,mK' vs H Q E->tSs C bt' { nx:=fun _ H'=>Q .non H',rt:=Q } (L2.aB' C.N vs) H:=by
 intro vs H Q E h
 obtain⟨bd,l0,h0,l1,h1,sp,rfl,hB,q⟩:=h
 rw[al' hN]
 unfold bt'
 have hrl:=(sI' hB.bs hB.b0 hB.b1 (h0:=h0) (h1:=h1)).1
 walk_at "y"
 rw[od']
 refine ag' hT ?_
 walk_at "y"
 refine ag' hM ?_
 walk_at "y"
 refine ag' hR ?_
 walk_at "y"
 refine⟨bd,l0,h0,l1,h1,sp,rfl,hB,fun p xs H1 s1 hp hA=>?_⟩
 walk_at "y"
 refine⟨bd,p,l0,h0,l1,h1,sp,xs,rfl,hB.mono (ax' s1),hp,hA,fun p2 M H2 s2 hM2 hO2 hl2=>?_⟩
 walk_at "y"
 refine⟨p2,M,rfl,hM2,by omega,fun p3 p' l M' rs H3 s3 hp3 hl3 hM3 hO3 hlm hle=>?_⟩
 refine r2' (SqT.of hp3) ?_
 walk_at "y"
 exact q p' M' H3 (s1.trans (s2.trans s3)) hM3 hO3 (by omega)
end BD
namespace LW
open PySem PySem.Spec PyProof.Rows L2 R3
theorem sL' {M:List Rm} {g:Option Nat}:∀{n r:Nat},wy M g n r<=2 ^ n
 |0,r=>by show(if _ then 1 else 0)<=1;split<;>omega
 |n+1,r=>by
  have key:∀o,ow (wy M g n) o<=2 ^ n:=fun o=>by
   cases o with
   |none=>exact aT _
   |some m=>exact sL'
  have h1:=key (stp M r false)
  have h2:=key (stp M r true)
  show ow (wy M g n) (stp M r false)+ow (wy M g n) (stp M r true)<=2 ^ (n+1)
  rw[Nat.pow_succ]
  omega
end LW
namespace SR
open PySem PySem.Spec PyProof.Rows L2 R3 LW
theorem wj':∀{l:List Bool},(l.map fun c=>[c]).flatten=l
 := by intro x;induction x<;>grind
theorem fR' {l:List Bool} {i:Nat} {c:Bool} (h:l[i]?=some c):l.take (i+1)=l.take i++[c]:=by
 rw[bn,h];rfl
theorem sM' {n:Nat} {i j:Int} (h:(n:Int)<=i):Builtin.Str.strSliceIndices (some i) (some j) 1 n=Builtin.Str.strSliceIndices (some (n:Int)) (some j) 1 n:=by
 have h0:¬i<0:=by omega
 have h1:¬((n:Int)<0):=by omega
 have h2:(1:Int) > 0:=by decide
 simp only[Builtin.Str.strSliceIndices,h0,h1,h2,if_false,if_true,Int.min_eq_right h,Int.min_self]
theorem yK' {l:List Bool} {a b:Nat} (h:a<=b):Txt.slice (tx l) (some (a:Int)) (some (b:Int))=tx ((l.drop a).take (b-a)):=by
 rcases Nat.le_total b l.length with hb|hb
 .exact fN' h hb
 .have e:Txt.slice (tx l) (some (a:Int)) (some (b:Int))=Txt.slice (tx l) (some (a:Int)) (some (l.length:Int)):=by
   unfold Txt.slice
   rw[b3',gQ' (by omega)]
  rw[e]
  rcases Nat.le_total a l.length with ha|ha
  .rw[fN' ha (al _),ba (by simp),ba (by simp;omega)]
  .have e2:Txt.slice (tx l) (some (a:Int)) (some (l.length:Int))=Txt.slice (tx l) (some (l.length:Int)) (some (l.length:Int)):=by
    unfold Txt.slice
    rw[b3',sM' (by omega)]
   rw[e2,fN' (al _) (al _),List.drop_of_length_le ha]
   simp
section
variable {K:W.Frag} {H:Hp} {Q:VK}
theorem eK' {l:List Bool} {n:Nat} (hl:l.length<=sizeLine) (q:Q (.str (tx (l.drop n))) H):rSl K (.str (tx l)) (some (n:Int)) none H Q:=⟨by rw[b3'];exact hl,by rw[r6'];exact q⟩
theorem qx' {l:List Bool} {a b:Nat} (hl:l.length<=sizeLine) (h:a<=b) (q:Q (.str (tx ((l.drop a).take (b-a)))) H):rSl K (.str (tx l)) (some (a:Int)) (some (b:Int)) H Q:=⟨by rw[b3'];exact hl,by rw[yK' h];exact q⟩
end
theorem au' {n:Nat} (h:n<=1000):n<=sizeLine:=bD (ai' h)
def oD' (l:List Bool):List V:=(l.map fun c=>[c]).map fun l=>V.str (tx l)
theorem jq' {l:List Bool}:(oD' l).length=l.length:=by unfold oD';simp
theorem g4' {l:List Bool} {c:Bool}:oD' l++[V.str (tx [c])]=oD' (l++[c]):=by unfold oD';simp
theorem jr' {K:W.Frag} {H:Hp} {Q:VK} {a:Addr} {l:List Bool} (h:SqL K H a (oD' l)) (hz:l.length<=16000000) (q:Q (.str (tx l)) H):j0' K .join (.str (tx [])) [.ref a] H Q:=by
 refine mm' (ls:=l.map fun c=>[c]) h (by rw[wj'];exact hz) ?_
 rw[wj']
 exact q
def tn (l:List Bool) (n:Nat):List Bool:=(l.take n).map (!·)++l.drop n
theorem mL' {K:W.Frag} {H:Hp} {Q:VK} {n:Int} (q:Q (.str (tx [decide (n % 2=1)])) H):dc' K .str [.int (n % 2)] H Q:=by
 have e:n % 2=if decide (n % 2=1)=true then 1 else 0:=by
  have:=Int.emod_two_eq n
  rcases this with h|h<;>rw[h]<;>rfl
 rw[e]
 exact of' q
end SR
namespace RW
open PySem PySem.Spec PyProof.Rows L2 R3 LW SR
def ob (f:Nat->List (List Bool)) (b:Bool):Option Nat->List (List Bool)
 |none=>[]
 |some m=>(f m).map (b :: ·)
def rws (M:List Rm) (g:Option Nat):Nat->Nat->List (List Bool)
 |0,r=>if g=none\/g=some r then[[]]else[]
 |n+1,r=>ob (rws M g n) false (stp M r false)++ob (rws M g n) true (stp M r true)
theorem mM' {f:Nat->List (List Bool)} {h:Nat->Nat} (e:∀m,(f m).length=h m) {b:Bool} {o:Option Nat}:(ob f b o).length=ow h o:=by
 cases o with
 |none=>rfl
 |some m=>simp[ob,ow,e]
theorem cW' {M:List Rm} {g:Option Nat}:∀{n r:Nat},(rws M g n r).length=wy M g n r
 |0,r=>by unfold rws wy;split<;>rfl
 |n+1,r=>by
  unfold rws wy
  rw[ao,mM' fun m=>cW',mM' fun m=>cW']
theorem fS' {M:List Rm} {g:Option Nat}:∀{n r:Nat} {x:List Bool},x∈rws M g n r->x.length=n
 |0,r,x,h=>by
  unfold rws at h
  split at h
  .simp at h;subst h;rfl
  .cases h
 |n+1,r,x,h=>by
  unfold rws at h
  have key:∀b o,x∈ob (rws M g n) b o->x.length=n+1:=by
   intro b o hx
   cases o with
   |none=>cases hx
   |some m=>
    obtain⟨y,hy,rfl⟩:=aQ.mp hx
    rw[aR,fS' hy]
  rcases aA.mp h with h|h
  .exact key _ _ h
  .exact key _ _ h
def rV (x:List Bool):V:=.str (tx x)
def Tbs (H:Hp) (l:Addr) (M:List Rm) (g:Option Nat) (n:Nat):Prop:=∃vs,H l=some (.lst vs)/\b4' (fun v k=>∃e,v=V.ref e/\H e=some (.lst ((wyL M g k).map V.int))) vs (aD (n+1))
theorem Tbs.mono {H H':Hp} {l:Addr} {M:List Rm} {g:Option Nat} {n:Nat} (t:Tbs H l M g n) (s:aD' H H'):Tbs H' l M g n:=by
 obtain⟨vs,h,a⟩:=t
 exact⟨vs,s _ _ h,a.mono fun v k ⟨e,h1,h2⟩=>⟨e,h1,s _ _ h2⟩⟩
theorem Tbs.at {K:W.Frag} {H:Hp} {l:Addr} {M:List Rm} {g:Option Nat} {n k:Nat} {Q:VK} (t:Tbs H l M g n) (hk:k<=n) (q:∀e,H e=some (.lst ((wyL M g k).map V.int))->Q (.ref e) H):f0' K (.ref l) (.int k) H Q\/ga' K (.ref l) (.int k) H Q:=by
 obtain⟨vs,h,a⟩:=t
 obtain⟨v,hv,e,rfl,he⟩:=a.get (i:=k) (b:=k) (by rw[br (by omega)])
 exact a1' (SqL.of h) (bX' hv) (q e he)
theorem yL' {K:W.Frag} {H:Hp} {e:Addr} {M:List Rm} {g:Option Nat} {k r:Nat} {Q:VK} (h:H e=some (.lst ((wyL M g k).map V.int))) (hr:r<M.length) (q:Q (.int (wy M g k r)) H):f0' K (.ref e) (.int r) H Q\/ga' K (.ref e) (.int r) H Q:=by
 refine a1' (SqL.of h) (v:=.int (wy M g k r)) (bX' ?_) q
 rw[az]
 unfold wyL
 rw[az,br hr]
 rfl
def od (f:Nat->Int):Option Nat->Int
 |none=>0
 |some m=>f m
theorem sN' {K:W.Frag} {H:Hp} {Q:VK} {a b:Addr} {xs zs:List V} (h:H a=some (.lst xs)) (h2:H b=some (.lst zs)) (hz:xs.length+zs.length<=sizeLine) (q:Q .non (upd H a (.lst (xs++zs)))):j0' K .extend (.ref a) [.ref b] H Q:=⟨a,b,xs,zs,rfl,rfl,h,h2,hz,q⟩
def ext (M:List Rm) (g:Option Nat) (k:Nat) (w:List Bool×Nat):List (List Bool):=(rws M g k w.2).map (w.1++·)
end RW
namespace NR
open PySem PySem.Spec PyProof.Rows L2 R3 LW SR RW
theorem qy' {f:Nat->List (List Bool)} {b:Bool} {m k:Nat} {x:List Bool} (h:(f m)[k]?=some x):(ob f b (some m))[k]?=some (b :: x):=by
 show((f m).map (b :: ·))[k]?=_
 rw[az,h]
 rfl
theorem wk' {H H':Hp} {l:Addr} {vs:List V} {M:List Rm} {g:Option Nat} {n:Nat} (hl:H' l=some (.lst vs)) (hA:b4' (fun v k=>∃e,v=V.ref e/\e≠l/\H e=none/\H' e=some (.lst ((wyL M g k).map V.int))) vs (aD (n+1))):Tbs H' l M g n:=⟨vs,hl,hA.mono fun v k ⟨e,h1,_,_,h4⟩=>⟨e,h1,h4⟩⟩
def gtB:List Bool->List Bool->Bool
 |a :: as,b :: bs=>(a&&!b) || (a == b&&gtB as bs)
 |_ :: _,[]=>true
 | [],_=>false
theorem mN':∀{x:List Bool},gtB x x=false
 | []=>rfl
 |a :: x=>by
  show((a&&!a) || (a == a&&gtB x x))=false
  rw[mN' (x:=x)]
  cases a<;>rfl
theorem qz' {M:List Rm} {g:Option Nat}:∀{n r:Nat},(rws M g n r).Pairwise fun x y=>gtB y x=true
 |0,r=>by
  unfold rws
  split<;>simp
 |n+1,r=>by
  unfold rws
  rw[List.pairwise_append]
  have one:∀c,(ob (rws M g n) c (LW.stp M r c)).Pairwise fun x y=>gtB y x=true:=by
   intro c
   cases LW.stp M r c with
   |none=>exact List.Pairwise.nil
   |some m=>
    show((rws M g n m).map (c :: ·)).Pairwise _
    rw[List.pairwise_map]
    refine(qz' (n:=n) (r:=m)).imp fun {x y} h=>?_
    show((c&&!c) || (c == c&&gtB y x))=true
    rw[h]
    cases c<;>rfl
  have hd:∀c x,x∈ob (rws M g n) c (LW.stp M r c)->∃z,x=c :: z:=by
   intro c x h
   cases e:LW.stp M r c with
   |none=>rw[e]at h;cases h
   |some m=>
    rw[e]at h
    obtain⟨z,_,rfl⟩:=aQ.mp h
    exact⟨z,rfl⟩
  refine⟨one false,one true,fun x hx y hy=>?_⟩
  obtain⟨z,rfl⟩:=hd _ _ hx
  obtain⟨z',rfl⟩:=hd _ _ hy
  rfl
def oT:Option Nat->V:=oV
end NR
namespace K33
open PySem PySem.Spec PyProof.Rows L2 R3 LW
def aY':Css:=(.cons (.ret (.ife (.val (.var 0)) (.bin .Sub (.met .bitlen (.var 0) .nil) (.int 1)) .non))
  .nil)
def d0':Css:=(.cons (.ite (.cmp .Eq (.call "_law_take" (.cons (.var 0) (.cons (.int 8) .nil))) (.int 0)) (.cons (.asg (.name 1) (.lst (.cons (.bin .Add (.int 1) (.call "_law_take" (.cons (.var 0) (.cons (.int 8) .nil)))) (.cons (.bin .Add (.int 1) (.call "_law_take" (.cons (.var 0) (.cons (.int 8) .nil)))) .nil))))
  (.cons (.asg (.name 2) (.comp (.bin .Add (.var 3) (.call "_law_take" (.cons (.var 0) (.cons (.bin .Sub (.int 9) (.var 3)) .nil)))) [3] (.name 3) (.val (.var 1)) .none .nil))
  (.cons (.ret (.tup (.cons (.idx (.var 1) (.int 0)) (.cons (.idx (.var 2) (.int 0)) (.cons (.idx (.var 1) (.int 1)) (.cons (.idx (.var 2) (.int 1)) (.cons (.idx (.lst (.cons .non (.cons .non (.cons (.bin .Add (.int 3) (.call "_law_take" (.cons (.var 0) (.cons (.int 14) .nil)))) .nil)))) (.call "_law_take" (.cons (.var 0) (.cons (.int 3) .nil)))) .nil)))))))
  .nil))) .nil)
  (.cons (.asg (.name 1) (.lst (.cons (.bin .Add (.int 1) (.call "_law_take" (.cons (.var 0) (.cons (.int 2) .nil)))) (.cons (.bin .Add (.int 1) (.call "_law_take" (.cons (.var 0) (.cons (.int 2) .nil)))) .nil))))
  (.cons (.asg (.name 2) (.comp (.bin .Add (.var 3) (.call "_law_take" (.cons (.var 0) (.cons (.int 4) .nil)))) [3] (.name 3) (.val (.var 1)) .none .nil))
  (.cons (.ret (.tup (.cons (.idx (.var 1) (.int 0)) (.cons (.idx (.var 2) (.int 0)) (.cons (.idx (.var 1) (.int 1)) (.cons (.idx (.var 2) (.int 1)) (.cons (.idx (.lst (.cons .non (.cons .non (.cons (.bin .Add (.int 1) (.call "_law_take" (.cons (.var 0) (.cons (.int 6) .nil)))) .nil)))) (.call "_law_take" (.cons (.var 0) (.cons (.int 3) .nil)))) .nil)))))))
  .nil))))
def bE':Css:=(.cons (.asg (.name 1) (.call "_law_take" (.cons (.var 0) (.cons (.int 4) .nil))))
  (.cons (.ite (.cmp .Eq (.var 1) (.int 0)) (.cons (.asg (.name 2) (.call "machine_of" (.cons (.call "_law_bounds" (.cons (.var 0) .nil)) .nil)))
  (.cons (.ite (.cmp .Lt (.blt .len (.cons (.var 2) .nil)) (.int 61)) (.cons (.ret (.var 2))
  .nil) .nil)
  .nil)) .nil)
  (.cons (.asg (.name 3) (.call "_law_many" (.cons (.var 0) (.cons (.int 1) (.cons (.int 5) (.cons (.int 12) .nil))))))
  (.cons (.ite (.cmp .Eq (.var 1) (.int 1)) (.cons (.ret (.call "_law_machine" (.cons (.var 0) (.cons (.var 3) .nil))))
  .nil) .nil)
  (.cons (.ret (.call "_law_ring_machine" (.cons (.var 0) (.cons (.var 3) .nil))))
  .nil)))))
open TM BD RW NR
def gp (c:Nat):V:=if c=0 then .non else .int (c.log2:Nat)
def sO':Sp:=fun vs H Q _=>∃c:Nat,vs=[.int c]/\Q (gp c) H
theorem sP' {C:Rc} (hN:C.N.length=1):∀vs H Q E,sO' vs H Q E->tSs C aY' { nx:=fun _ H'=>Q .non H',rt:=Q } (L2.aB' C.N vs) H:=by
 intro vs H Q E h
 obtain⟨c,rfl,q⟩:=h
 rw[al' hN]
 unfold aY'
 walk_at "y"
 rw[<- decide_not]
 refine aV' (fun hq=>?_) fun hq=>?_
 .walk_at "y"
  refine⟨rfl,?_⟩
  walk_at "y"
  have hc:c≠0:=fun z=>hq (by rw[z];rfl)
  have e:Builtin.Int.intBits (c:Int)=c.log2+1:=by
   unfold Builtin.Int.intBits
   rw[Int.natAbs_natCast]
   simp[hc]
  rw[e]
  unfold gp at q
  rw[if_neg hc]at q
  rw[show((c.log2+1:Nat):Int)-1=(c.log2:Nat) by omega]
  exact q
 .walk_at "y"
  have hc:c=0:=by omega
  unfold gp at q
  rw[if_pos hc]at q
  exact q
theorem wl' {C:Rc} {H:Hp} {Q:VK} {a:Addr} {y r:Int} (h:H a=some (.lst [.non,.non,.int y])) (h0:0<=r) (h1:r<3) (hy:0<=y) (q:∀o:Option Nat,(∀s,o=some s->(s:Int)=y)->Q (oV o) H):f0' C.K (.ref a) (.int r) H Q\/ga' C.K (.ref a) (.int r) H Q:=by
 obtain⟨k,rfl⟩:=ay h0
 have hk:k=0\/k=1\/k=2:=by omega
 rcases hk with rfl|rfl|rfl
 .exact a1' (SqL.of h) (v:=.non) rfl (q none fun _ z=>(nomatch z))
 .exact a1' (SqL.of h) (v:=.non) rfl (q none fun _ z=>(nomatch z))
 .refine a1' (SqL.of h) (v:=.int y) rfl ?_
  have:=q (some y.toNat) fun s z=>by cases z;omega
  rw[show oV (some y.toNat)=.int y by show V.int (y.toNat:Int)=_;rw[Int.toNat_of_nonneg hy]]at this
  exact this
def dl':Sp:=fun vs H Q _=>∃(b:Addr) (n:Nat),vs=[.ref b]/\H b=some (dy' b n)/\n<=2 ^ 39/\∀(p:Addr) (l0 h0 l1 h1:Nat) (sp:Option Nat) (H':Hp),Go 20 H H'->IsB H' p l0 h0 l1 h1 sp->Q (.ref p) H'
theorem ie' {C:Rc} (hN:C.N.length=4) (hT:C.fs "_law_take"=some aO'):∀vs H Q E,dl' vs H Q E->tSs C d0' { nx:=fun _ H'=>Q .non H',rt:=Q } (L2.aB' C.N vs) H:=by
 intro vs H Q E h
 obtain⟨b,n,rfl,hb,hn,q⟩:=h
 rw[al' hN]
 unfold d0'
 walk_at "y"
 refine ag' hT ?_
 walk_at "y"
 refine⟨b,n,_,rfl,hb,by omega,by omega,by omega,fun r0 H0 h00 h01 g0=>?_⟩
 obtain⟨n0,hb0,hn0,_⟩:=g0.boxed hb (by omega)
 walk_at "y"
 refine aV' (fun hq=>?_) fun hq=>?_
 .walk_at "y"
  refine ag' hT ?_
  walk_at "y"
  refine⟨b,n0,_,rfl,hb0,by omega,by omega,by omega,fun r1 H1 h10 h11 g1=>?_⟩
  obtain⟨r1,rfl⟩:=ay h10
  obtain⟨n1,hb1,hn1,_⟩:=g1.boxed hb0 (by omega)
  walk_at "y"
  refine ag' hT ?_
  walk_at "y"
  refine⟨b,n1,_,rfl,hb1,by omega,by omega,by omega,fun r2 H2 h20 h21 g2=>?_⟩
  obtain⟨r2,rfl⟩:=ay h20
  obtain⟨n2,hb2,hn2,_⟩:=g2.boxed hb1 (by omega)
  walk_at "y"
  refine⟨by decide,fun pl hpl=>?_⟩
  have g3:Go 3 H (upd H2 pl (.lst [.int (1+r1),.int (1+r2)])):=(((g0.trans g1).trans g2).trans (Go.new (c:=0) hpl _)).mono (by omega)
  have hpl3:upd H2 pl (.lst [.int (1+r1),.int (1+r2)]) pl=some (.lst ([1+r1,1+r2].map nV)):=by
   rw[aa']
   show some (HO.lst [.int (1+(r1:Int)),.int (1+(r2:Int))])=some (HO.lst [.int ((1+r1:Nat):Int),.int ((1+r2:Nat):Int)])
   rw[show(1:Int)+r1=((1+r1:Nat):Int) by omega,show(1:Int)+r2=((1+r2:Nat):Int) by omega]
  generalize upd H2 pl (.lst [.int (1+r1),.int (1+r2)])=H3 at g3 hpl3 ⊢
  walk_at "y"
  refine ba' (SqL.of hpl3) (fe' (vs:=[1+r1,1+r2].map nV) (fun i xs H'=>(∃hs:List Nat,xs=hs.map nV/\hs.length=i/\i<=2/\∀h∈hs,h<=8)/\Go i H3 H') ⟨⟨[],rfl,rfl,by omega,fun h z=>absurd z au⟩,Go.refl⟩ (fun i xs H' pv=>SqL.of (pv.2.lst hpl3)) ?_ ?_)
  .rintro i xs H4 x R hx ⟨⟨hs,rfl,hsl,hi2,hs8⟩,g4⟩ hR
   rw[az]at hx
   cases er:[1+r1,1+r2][i]? with
   |none=>rw[er]at hx;cases hx
   |some lo=>
   rw[er]at hx
   cases hx
   have hi:=aq' er
   simp only[aR,bH]at hi
   have hlo:lo<=8:=by
    have:=aE er
    simp only[aq,au,or_false]at this
    rcases this with rfl|rfl<;>omega
   obtain⟨n4,hb4,hn4,_⟩:=(g3.trans g4).boxed hb (by omega)
   simp only[nV]
   walk_at "y"
   refine ag' hT ?_
   walk_at "y"
   refine⟨b,n4,_,rfl,hb4,by omega,by omega,by omega,fun r5 H5 h50 h51 g5=>?_⟩
   obtain⟨r5,rfl⟩:=ay h50
   walk_at "y"
   refine⟨by rw[ai];exact ai' (by omega),hR _ _ ⟨⟨hs++[lo+r5],by rw[aI];rfl,by simp[hsl],by omega,fun h hh=>?_⟩,g4.trans g5⟩⟩
   rcases aA.mp hh with hh|hh
   .exact hs8 h hh
   .have:h=lo+r5:=by simpa using hh
    omega
  .rintro xs H4 ⟨⟨hs,rfl,hsl,_,hs8⟩,g4⟩ ph hph
   have hsl:hs.length=2:=hsl
   have g4:Go 2 H3 H4:=g4
   obtain⟨y1,y2,rfl⟩:∃y1 y2,hs=[y1,y2]:=by
    match hs,hsl with
    | [y1,y2],_=>exact⟨y1,y2,rfl⟩
   have g5:Go 5 H (upd H4 ph (.lst ([y1,y2].map nV))):=((g3.trans g4).trans (Go.new (c:=0) hph _)).mono (by omega)
   have hph5:upd H4 ph (.lst ([y1,y2].map nV)) ph=some (.lst ([y1,y2].map nV)):=aa'
   have hpl5:=(Go.new (c:=0) hph (.lst ([y1,y2].map nV))).lst (g4.lst hpl3)
   generalize upd H4 ph (.lst ([y1,y2].map nV))=H5 at g5 hph5 hpl5 ⊢
   obtain⟨n5,hb5,hn5,_⟩:=g5.boxed hb (by omega)
   walk_at "y"
   refine a1' (SqL.of hpl5) (v:=nV (1+r1)) rfl ?_
   walk_at "y"
   refine a1' (SqL.of hph5) (v:=nV y1) rfl ?_
   walk_at "y"
   refine a1' (SqL.of hpl5) (v:=nV (1+r2)) rfl ?_
   walk_at "y"
   refine a1' (SqL.of hph5) (v:=nV y2) rfl ?_
   walk_at "y"
   refine ag' hT ?_
   walk_at "y"
   refine⟨b,n5,_,rfl,hb5,by omega,by omega,by omega,fun r6 H6 h60 h61 g6=>?_⟩
   walk_at "y"
   refine⟨by decide,fun p7 hp7=>?_⟩
   have g7:Go 6 H (upd H6 p7 (.lst [.non,.non,.int (3+r6)])):=((g5.trans g6).trans (Go.new (c:=0) hp7 _)).mono (by omega)
   have h7:upd H6 p7 (.lst [.non,.non,.int (3+r6)]) p7=some (.lst [.non,.non,.int (3+r6)]):=aa'
   generalize upd H6 p7 (.lst [.non,.non,.int (3+r6)])=H7 at g7 h7 ⊢
   obtain⟨n7,hb7,hn7,_⟩:=g7.boxed hb (by omega)
   refine ag' hT ?_
   walk_at "y"
   refine⟨b,n7,_,rfl,hb7,by omega,by omega,by omega,fun r8 H8 h80 h81 g8=>?_⟩
   walk_at "y"
   refine wl' (g8.lst h7) h80 h81 (by omega) fun sp hsp=>?_
   walk_at "y"
   refine⟨by show 5<=sizeLine;decide,fun p9 hp9=>?_⟩
   refine q p9 (1+r1) y1 (1+r2) y2 sp _ (((g7.trans g8).trans (Go.new (c:=0) hp9 _)).mono (by omega)) ⟨aa',hs8 y1 (by simp),hs8 y2 (by simp),fun s z=>?_⟩
   have:=hsp s z
   omega
 .walk_at "y"
  refine ag' hT ?_
  walk_at "y"
  refine⟨b,n0,_,rfl,hb0,by omega,by omega,by omega,fun r1 H1 h10 h11 g1=>?_⟩
  obtain⟨r1,rfl⟩:=ay h10
  obtain⟨n1,hb1,hn1,_⟩:=g1.boxed hb0 (by omega)
  walk_at "y"
  refine ag' hT ?_
  walk_at "y"
  refine⟨b,n1,_,rfl,hb1,by omega,by omega,by omega,fun r2 H2 h20 h21 g2=>?_⟩
  obtain⟨r2,rfl⟩:=ay h20
  obtain⟨n2,hb2,hn2,_⟩:=g2.boxed hb1 (by omega)
  walk_at "y"
  refine⟨by decide,fun pl hpl=>?_⟩
  have g3:Go 3 H (upd H2 pl (.lst [.int (1+r1),.int (1+r2)])):=(((g0.trans g1).trans g2).trans (Go.new (c:=0) hpl _)).mono (by omega)
  have hpl3:upd H2 pl (.lst [.int (1+r1),.int (1+r2)]) pl=some (.lst ([1+r1,1+r2].map nV)):=by
   rw[aa']
   show some (HO.lst [.int (1+(r1:Int)),.int (1+(r2:Int))])=some (HO.lst [.int ((1+r1:Nat):Int),.int ((1+r2:Nat):Int)])
   rw[show(1:Int)+r1=((1+r1:Nat):Int) by omega,show(1:Int)+r2=((1+r2:Nat):Int) by omega]
  generalize upd H2 pl (.lst [.int (1+r1),.int (1+r2)])=H3 at g3 hpl3 ⊢
  walk_at "y"
  refine ba' (SqL.of hpl3) (fe' (vs:=[1+r1,1+r2].map nV) (fun i xs H'=>(∃hs:List Nat,xs=hs.map nV/\hs.length=i/\i<=2/\∀h∈hs,h<=8)/\Go i H3 H') ⟨⟨[],rfl,rfl,by omega,fun h z=>absurd z au⟩,Go.refl⟩ (fun i xs H' pv=>SqL.of (pv.2.lst hpl3)) ?_ ?_)
  .rintro i xs H4 x R hx ⟨⟨hs,rfl,hsl,hi2,hs8⟩,g4⟩ hR
   rw[az]at hx
   cases er:[1+r1,1+r2][i]? with
   |none=>rw[er]at hx;cases hx
   |some lo=>
   rw[er]at hx
   cases hx
   have hi:=aq' er
   simp only[aR,bH]at hi
   have hlo:lo<=2:=by
    have:=aE er
    simp only[aq,au,or_false]at this
    rcases this with rfl|rfl<;>omega
   obtain⟨n4,hb4,hn4,_⟩:=(g3.trans g4).boxed hb (by omega)
   simp only[nV]
   walk_at "y"
   refine ag' hT ?_
   walk_at "y"
   refine⟨b,n4,_,rfl,hb4,by omega,by omega,by omega,fun r5 H5 h50 h51 g5=>?_⟩
   obtain⟨r5,rfl⟩:=ay h50
   walk_at "y"
   refine⟨by rw[ai];exact ai' (by omega),hR _ _ ⟨⟨hs++[lo+r5],by rw[aI];rfl,by simp[hsl],by omega,fun h hh=>?_⟩,g4.trans g5⟩⟩
   rcases aA.mp hh with hh|hh
   .exact hs8 h hh
   .have:h=lo+r5:=by simpa using hh
    omega
  .rintro xs H4 ⟨⟨hs,rfl,hsl,_,hs8⟩,g4⟩ ph hph
   have hsl:hs.length=2:=hsl
   have g4:Go 2 H3 H4:=g4
   obtain⟨y1,y2,rfl⟩:∃y1 y2,hs=[y1,y2]:=by
    match hs,hsl with
    | [y1,y2],_=>exact⟨y1,y2,rfl⟩
   have g5:Go 5 H (upd H4 ph (.lst ([y1,y2].map nV))):=((g3.trans g4).trans (Go.new (c:=0) hph _)).mono (by omega)
   have hph5:upd H4 ph (.lst ([y1,y2].map nV)) ph=some (.lst ([y1,y2].map nV)):=aa'
   have hpl5:=(Go.new (c:=0) hph (.lst ([y1,y2].map nV))).lst (g4.lst hpl3)
   generalize upd H4 ph (.lst ([y1,y2].map nV))=H5 at g5 hph5 hpl5 ⊢
   obtain⟨n5,hb5,hn5,_⟩:=g5.boxed hb (by omega)
   walk_at "y"
   refine a1' (SqL.of hpl5) (v:=nV (1+r1)) rfl ?_
   walk_at "y"
   refine a1' (SqL.of hph5) (v:=nV y1) rfl ?_
   walk_at "y"
   refine a1' (SqL.of hpl5) (v:=nV (1+r2)) rfl ?_
   walk_at "y"
   refine a1' (SqL.of hph5) (v:=nV y2) rfl ?_
   walk_at "y"
   refine ag' hT ?_
   walk_at "y"
   refine⟨b,n5,_,rfl,hb5,by omega,by omega,by omega,fun r6 H6 h60 h61 g6=>?_⟩
   walk_at "y"
   refine⟨by decide,fun p7 hp7=>?_⟩
   have g7:Go 6 H (upd H6 p7 (.lst [.non,.non,.int (1+r6)])):=((g5.trans g6).trans (Go.new (c:=0) hp7 _)).mono (by omega)
   have h7:upd H6 p7 (.lst [.non,.non,.int (1+r6)]) p7=some (.lst [.non,.non,.int (1+r6)]):=aa'
   generalize upd H6 p7 (.lst [.non,.non,.int (1+r6)])=H7 at g7 h7 ⊢
   obtain⟨n7,hb7,hn7,_⟩:=g7.boxed hb (by omega)
   refine ag' hT ?_
   walk_at "y"
   refine⟨b,n7,_,rfl,hb7,by omega,by omega,by omega,fun r8 H8 h80 h81 g8=>?_⟩
   walk_at "y"
   refine wl' (g8.lst h7) h80 h81 (by omega) fun sp hsp=>?_
   walk_at "y"
   refine⟨by show 5<=sizeLine;decide,fun p9 hp9=>?_⟩
   refine q p9 (1+r1) y1 (1+r2) y2 sp _ (((g7.trans g8).trans (Go.new (c:=0) hp9 _)).mono (by omega)) ⟨aa',hs8 y1 (by simp),hs8 y2 (by simp),fun s z=>?_⟩
   have:=hsp s z
   omega
def g5':Sp:=fun vs H Q _=>∃(b:Addr) (n:Nat),vs=[.ref b]/\H b=some (dy' b n)/\n<=2 ^ 38/\∀(a:Addr) (M:List Rm) (H':Hp),Go 1000 H H'->IsM H' a M->OkM M->M.length<=60->Q (.ref a) H'
theorem mO' {C:Rc} (hN:C.N.length=4) (hT:C.fs "_law_take"=some aO') (hMo:C.fs "machine_of"=some mK') (hB:C.fs "_law_bounds"=some dl') (hMy:C.fs "_law_many"=some gV') (hMa:C.fs "_law_machine"=some (cM' 1 60 400)) (hRi:C.fs "_law_ring_machine"=some (cM' 1 60 400)):∀vs H Q E,g5' vs H Q E->tSs C bE' { nx:=fun _ H'=>Q .non H',rt:=Q } (L2.aB' C.N vs) H:=by
 intro vs H Q E h
 obtain⟨b,n,rfl,hb,hn,q⟩:=h
 rw[al' hN]
 unfold bE'
 walk_at "y"
 refine ag' hT ?_
 walk_at "y"
 refine⟨b,n,_,rfl,hb,by omega,by omega,by omega,fun w H0 h00 h01 g0=>?_⟩
 simp only[h6',gI',bW,bX]
 refine vT' fun N hNx=>?_
 have as':∀(x2:Option V) (H1:Hp),Go 30 H H1->N [some (.ref b),some (.int w),x2,none] H1:=by
  intro x2 H1 g1
  obtain⟨n1,hb1,hn1,_⟩:=g1.boxed hb (by omega)
  refine hNx _ _ ?_
  walk_at "y"
  refine ag' hMy ?_
  walk_at "y"
  refine⟨b,n1,1,5,12,rfl,hb1,by omega,by omega,by omega,by omega,by omega,by omega,fun r H2 hr g2=>?_⟩
  obtain⟨r,rfl⟩:=ay (show 0<=r by omega)
  obtain⟨n2,hb2,hn2,_⟩:=g2.boxed hb1 (by omega)
  walk_at "y"
  refine aV' (fun hq=>?_) fun hq=>?_
  .walk_at "y"
   refine ag' hMa ?_
   walk_at "y"
   exact⟨b,n2,r,rfl,hb2,by omega,by omega,by omega,fun a M H3 g3 hM hO hl=>q a M H3 (((g1.trans g2).trans g3).mono (by omega)) hM hO (by omega)⟩
  .walk_at "y"
   refine ag' hRi ?_
   walk_at "y"
   exact⟨b,n2,r,rfl,hb2,by omega,by omega,by omega,fun a M H3 g3 hM hO hl=>q a M H3 (((g1.trans g2).trans g3).mono (by omega)) hM hO (by omega)⟩
 walk_at "y"
 refine aV' (fun hq=>?_) fun hq=>?_
 .obtain⟨n0,hb0,hn0,_⟩:=g0.boxed hb (by omega)
  walk_at "y"
  refine ag' hMo ?_
  walk_at "y"
  refine ag' hB ?_
  walk_at "y"
  refine⟨b,n0,rfl,hb0,by omega,fun p l0 h0 l1 h1 sp H1 g1 hBd=>?_⟩
  walk_at "y"
  refine⟨p,l0,h0,l1,h1,sp,rfl,hBd,fun p2 M H2 s2 hM hO hl=>?_⟩
  obtain⟨mv,hmv,hmr⟩:=id hM
  walk_at "y"
  refine dz' (SqT.of hmv) ?_
  rw[hmr.len]
  walk_at "y"
  have g2:Go 21 H H2:=((g0.trans g1).trans (Go.of_same (c:=0) s2)).mono (by omega)
  refine aV' (fun hq2=>?_) fun hq2=>?_
  .walk_at "y"
   exact q p2 M H2 (g2.mono (by omega)) hM hO (by omega)
  .walk_at "y"
   exact as' _ H2 (g2.mono (by omega))
 .walk_at "y"
  exact as' _ H0 (g0.mono (by omega))
theorem mP' {c:Nat} {H H':Hp} (g:Go c H H'):Tp H H':=fun a xs e=>g.oth a _ e fun _ z=>by cases z
end K33
namespace BK
open PySem PySem.Spec PyProof.Rows L2 R3 LW SR
def bF':Css:=(.cons (.ret (.comp (.cut (.var 0) (.some (.var 2)) (.some (.bin .Add (.var 2) (.var 1)))) [2] (.name 2) (.range3 (.int 0) (.blt .len (.cons (.var 0) .nil)) (.var 1)) .none .nil))
  .nil)
def tV (l:List Bool):V:=.str (tx l)
def bks (m:Nat) (l:List Bool) (n:Nat):List (List Bool):=(aD n).map fun i=>(l.drop (i*m)).take m
theorem oE' {m n:Nat} {l:List Bool}:bks m l (n+1)=bks m l n++[(l.drop (n*m)).take m]:=by
 unfold bks
 rw[cc,aI]
 rfl
theorem if' {m n:Nat} {l:List Bool}:(bks m l n).length=n:=by unfold bks;simp
theorem sQ' {m n i:Nat} {l:List Bool} (h:i<n):(bks m l n)[i]?=some ((l.drop (i*m)).take m):=by
 unfold bks
 simp[h]
end BK
namespace K42
open PySem PySem.Spec PyProof.Rows L2 R3 LW
open SR BK
def num (l:List Bool):Nat:=l.foldl (fun n b=>n*2+if b then 1 else 0) 0
end K42
namespace WR
open PySem PySem.Spec PyProof.Rows L2 R3 LW SR BK K42
def cg':Css:=(.cons (.ret (.met .join (.str "") (.cons (.comp (.blt .str (.cons (.bin .BitAnd (.bin .RShift (.var 0) (.var 2)) (.int 1)) .nil)) [2] (.name 2) (.rev (.blt .range (.cons (.var 1) .nil))) .none .nil) .nil)))
  .nil)
def bz (q i:Nat):List Bool:=(aD q).map fun k=>decide (i / 2 ^ (q-1-k) % 2=1)
theorem fk' {q i:Nat}:(bz q i).length=q:=by unfold bz;simp
theorem sR' {q i k:Nat} (hk:k<q):(bz q i).take (k+1)=(bz q i).take k++[decide (i / 2 ^ (q-1-k) % 2=1)]:=by
 have h:(bz q i)[k]?=some (decide (i / 2 ^ (q-1-k) % 2=1)):=by
  unfold bz
  rw[az,br hk]
  rfl
 rw[bn,h]
 rfl
theorem sS' {n m:Nat}:decide ((n:Int) / 2 ^ m % 2=1)=decide (n / 2 ^ m % 2=1):=by
 have e:(n:Int) / 2 ^ m % 2=((n / 2 ^ m % 2:Nat):Int):=by
  rw[Int.natCast_emod,ck,Int.natCast_pow]
  rfl
 rw[e]
 apply decide_eq_decide.mpr
 omega
def ch':Sp:=fun vs H Q _=>∃(i q:Nat),vs=[.int i,.int q]/\q<=60/\∀H',aD' H H'->Q (.str (tx (bz q i))) H'
theorem g6' {C:Rc} (hN:C.N.length=3):∀vs H Q E,ch' vs H Q E->tSs C cg' { nx:=fun _ H'=>Q .non H',rt:=Q } (L2.aB' C.N vs) H:=by
 intro vs H Q E h
 obtain⟨n,q0,rfl,hq0,q⟩:=h
 rw[al' hN]
 unfold cg'
 walk_at "y"
 refine⟨rfl,?_⟩
 refine eF' fun r hr=>?_
 have s1:=af' hr (.rng 0 (q0:Int))
 have hr1:upd H r (.rng 0 (q0:Int)) r=some (.rng 0 (q0:Int)):=aa'
 generalize upd H r (.rng 0 (q0:Int))=H1 at s1 hr1 ⊢
 refine vW' hr1 (by omega) (by omega) (by omega) (by omega) ?_
 rw[show((q0:Int)-0).toNat=q0 by omega]
 refine qi' (fun k xs H'=>k<=q0/\xs=oD' ((bz q0 n).take k)/\H'=H1) ⟨by omega,by simp[oD'],rfl⟩ ?_ ?_
 .rintro k xs H' R hk ⟨hk',rfl,rfl⟩ hR
  walk_at "y"
  refine⟨by omega,⟨Int.ediv_nonneg (by omega) (eX' _),trivial⟩,?_⟩
  refine mL' ?_
  walk_at "y"
  refine⟨by rw[jq'];exact ai' (by rw[aW];omega),hR _ _ ⟨hk,?_,rfl⟩⟩
  rw[g4',sR' hk,show((0:Int)+(q0:Int)-1+(k:Int) * -1).toNat=q0-1-k by omega,sS']
 .rintro xs H' ⟨_,rfl,rfl⟩ p3 hp3
  walk_at "y"
  rw[ba (by rw[fk'];exact al _)]
  refine jr' (SqL.of aa') (by rw[fk'];omega) ?_
  exact q _ (s1.trans (af' hp3 _))
theorem js' {n m len:Nat} (hm:0<m) (h1:len<=n*m) (h2:n*m<len+m):dO' 0 (len:Int) m=n:=by
 unfold dO'
 rcases Nat.eq_zero_or_pos n with rfl|hn
 .rw[if_neg (by omega)]
 .have e1:n*m=(n-1)*m+m:=by
   have:n=(n-1)+1:=by omega
   conv=>lhs;rw[this,Nat.add_mul,Nat.one_mul]
  have hp:0<len:=by omega
  rw[if_pos (by omega)]
  have e:(len:Int)-0-1=((len-1:Nat):Int):=by omega
  have d:(len-1) / m=n-1:=by
   apply Nat.div_eq_of_lt_le
   .omega
   .rw[Nat.add_mul,Nat.one_mul];omega
  rw[e,<- ck,d]
  omega
def bN':Sp:=fun vs H Q _=>∃(l:List Bool) (m n:Nat),vs=[.str (tx l),.int m]/\0<m/\m<=1000/\l.length<=n*m/\n*m<l.length+m/\l.length<=900/\∀p H',H p=none->aD' H H'->H' p=some (.lst ((bks m l n).map tV))->Q (.ref p) H'
theorem g7' {C:Rc} (hN:C.N.length=3):∀vs H Q E,bN' vs H Q E->tSs C bF' { nx:=fun _ H'=>Q .non H',rt:=Q } (L2.aB' C.N vs) H:=by
 intro vs H Q E h
 obtain⟨l,m,n,rfl,hm,hm2,h1,h2,hl2,q⟩:=h
 rw[al' hN]
 unfold bF'
 have hz:l.length<=sizeLine:=au' (by omega)
 have hnb:n<=900:=by
  rcases Nat.eq_zero_or_pos n with rfl|hn
  .omega
  .have e1:n*m=(n-1)*m+m:=by
    have:n=(n-1)+1:=by omega
    conv=>lhs;rw[this,Nat.add_mul,Nat.one_mul]
   have:=Nat.le_mul_of_pos_right (n-1) hm
   omega
 walk_at "y"
 refine⟨hz,?_⟩
 refine vU' (by omega) (by omega) (by omega) (by omega) (by omega) (by omega) ?_
 rw[js' hm h1 h2]
 refine qi' (fun i xs H'=>xs=(bks m l i).map tV/\H'=H) ⟨rfl,rfl⟩ ?_ ?_
 .rintro i xs H' R hi ⟨rfl,rfl⟩ hR
  walk_at "y"
  rw[show(0:Int)+(i:Int)*(m:Int)=((i*m:Nat):Int) by rw[Int.natCast_mul,Int.zero_add],show((i*m:Nat):Int)+(m:Int)=((i*m+m:Nat):Int) by omega]
  refine qx' hz (by omega) ?_
  walk_at "y"
  refine⟨by rw[ai,if'];exact ai' (by omega),hR _ _ ⟨?_,rfl⟩⟩
  rw[oE',aI,bf]
  rfl
 .rintro xs H' ⟨rfl,rfl⟩ p hp
  walk_at "y"
  exact q p _ hp (af' hp _) aa'
def kd (n:Nat) (S:Nat->Bool):List (Key×V):=((aD n).filter S).map fun i:Nat=>((Key.inl (i:Int):Key),V.bl true)
end WR
namespace NM
open PySem PySem.Spec PyProof.Rows L2 R3 LW SR RW NR
def bk':Css:=(.cons (.asg (.name 4) (.int 0))
  (.cons (.asg (.name 5) (.var 2))
  (.cons (.for_ (.tup (.cons (.name 6) (.cons (.name 7) .nil))) (.enum (.var 3)) (.cons (.ite (.cmp .Eq (.var 7) (.str "1")) (.cons (.aug 4 false (.call "behind_bit" (.cons (.var 0) (.cons (.idx (.var 1) (.bin .Sub (.bin .Sub (.blt .len (.cons (.var 3) .nil)) (.var 6)) (.int 1))) (.cons (.var 5) (.cons (.str "0") .nil))))))
  .nil) .nil)
  (.cons (.asg (.name 5) (.idx (.idx (.var 0) (.var 5)) (.blt .int (.cons (.var 7) .nil))))
  .nil)))
  (.cons (.ret (.var 4))
  .nil))))
def Ah (M:List Rm) (g:Option Nat) (n r:Nat) (row:List Bool) (i h k:Nat):Prop:=wk M (some r) (row.take i)=some h/\∀j y,(rws M g (n-i) h)[j]?=some y->(rws M g n r)[k+j]?=some (row.take i++y)
theorem sT' {M:List Rm} {g:Option Nat} {n r:Nat} {row:List Bool} {i h k h':Nat} {c:Bool} (a:Ah M g n r row i h k) (hi:i<n) (hc:row[i]?=some c) (hs:LW.stp M h c=some h'):Ah M g n r row (i+1) h' (if c then k+ow (wy M g (n-(i+1))) (LW.stp M h false)else k):=by
 obtain⟨a1,a2⟩:=a
 have hw:=ia' (M:=M) (o:=some r) hc
 rw[a1]at hw
 refine⟨by rw[hw];exact hs,fun j y hy=>?_⟩
 obtain⟨m,hm⟩:∃m,n-i=m+1:=⟨n-i-1,by omega⟩
 have hm2:n-(i+1)=m:=by omega
 rw[hm]at a2
 rw[hm2]at hy ⊢
 have et:row.take (i+1)=row.take i++[c]:=by rw[bn,hc];rfl
 have hl:(ob (rws M g m) false (LW.stp M h false)).length=ow (wy M g m) (LW.stp M h false):=mM' fun m=>cW'
 rw[et]
 cases c with
 |false=>
  have:=a2 j (false :: y) (by
   unfold rws
   have hj:j<(ob (rws M g m) false (LW.stp M h false)).length:=by
    rw[hs]
    show j<((rws M g m h').map _).length
    rw[ai]
    exact aq' hy
   rw[List.getElem?_append_left hj,hs]
   exact qy' hy)
  rw[if_neg (by decide),this]
  simp
 |true=>
  have:=a2 (ow (wy M g m) (LW.stp M h false)+j) (true :: y) (by
   unfold rws
   rw[List.getElem?_append_right (by rw[hl];omega),hl,hs,bf]
   exact qy' hy)
  rw[if_pos rfl,Nat.add_assoc,this]
  simp
theorem wm' {M:List Rm} {o:Option Nat} {row:List Bool} {e i:Nat} (h:wk M o row=some e):∃m,wk M o (row.take i)=some m:=by
 cases q:wk M o (row.take i)with
 |none=>rw[qr' q]at h;cases h
 |some m=>exact⟨m,rfl⟩
def b7' (K:W.Frag):Sp:=fun vs H Q _=>∃(a l:Addr) (M:List Rm) (g:Option Nat) (r e:Nat) (row:List Bool),vs=[.ref a,.ref l,.int r,.str (tx row)]/\IsM H a M/\OkM M/\M.length<=500/\Tbs H l M g row.length/\row.length<=900/\r<M.length/\wk M (some r) row=some e/\(g=none\/g=some e)/\∀(k:Nat) (H':Hp),aD' H H'->(rws M g row.length r)[k]?=some row->Q (.int k) H'
theorem dR' {C:Rc} (hN:C.N.length=8) (hB:C.fs "behind_bit"=some (bs' C.K)):∀vs H Q E,b7' C.K vs H Q E->tSs C bk' { nx:=fun _ H'=>Q .non H',rt:=Q } (L2.aB' C.N vs) H:=by
 intro vs H Q E h
 obtain⟨a,l,M,g,r,e,row,rfl,hM,hO,hM5,hT,hn,hr,hwe,hg,q⟩:=h
 rw[al' hN]
 unfold bk'
 have hz:row.length<=sizeLine:=bD (ai' (by omega))
 walk_at "y"
 refine vy' (rY' (l:=row) (fun i σ H'=>aD' H H'/\∃(h k:Nat) (x6 x7:Option V),σ=[some (.ref a),some (.ref l),some (.int r),some (.str (tx row)),some (.int k),some (.int h),x6,x7]/\Ah M g row.length r row i h k) ⟨aD'.refl _,r,0,none,none,rfl,rfl,fun j y hy=>by rw[Nat.zero_add];exact hy⟩ ?_ ?_)
 .rintro i c σ H2 p hc hp ⟨s2,h,k,x6,x7,rfl,ah⟩
  have hi:i<row.length:=aq' hc
  refine dg' (SqT.of aa') ?_
  have s3:=s2.trans (af' hp (.tup [.int i,.str (tx [c])]))
  generalize upd H2 p (.tup [.int i,.str (tx [c])])=H3 at s3 ⊢
  have hh:h<M.length:=sC' hO (fun m hm=>by cases hm;exact hr) ah.1
  have hM3:=hM.mono (ax' s3)
  obtain⟨h',eh'⟩:∃h',LW.stp M h c=some h':=by
   obtain⟨m,hm⟩:=wm' (i:=i+1) hwe
   rw[ia' hc,ah.1]at hm
   exact⟨m,hm⟩
  have ah2:=sT' ah hi hc eh'
  cases c with
  |false=>
   walk_at "y"
   refine cy' (c:=false) hM3 hh fun p' hp'=>?_
   walk_at "y"
   refine hp' _ ?_
   rw[eh']
   simp only[oV]
   walk_at "y"
   exact⟨s3,h',k,_,_,rfl,ah2⟩
  |true=>
   walk_at "y"
   rw[vo' (a:=(k:Int)) rfl]
   refine ag' hB ?_
   walk_at "y"
   refine⟨hz,?_⟩
   rw[show(row.length:Int)-i-1=((row.length-(i+1):Nat):Int) by omega]
   refine(hT.mono s3).at (by omega) fun e he=>?_
   walk_at "y"
   refine⟨a,e,M,h,false,wyL M g (row.length-(i+1)),rfl,hM3,hO,hh,SqL.of he,mB',?_⟩
   rw[sF' hO]
   walk_at "y"
   refine cy' (c:=true) hM3 hh fun p' hp'=>?_
   walk_at "y"
   refine hp' _ ?_
   rw[eh']
   simp only[oV]
   walk_at "y"
   simp only[if_false]
   rw[<- Int.natCast_add]
   exact⟨s3,h',k+ow (wy M g (row.length-(i+1))) (LW.stp M h false),_,_,rfl,ah2⟩
 .rintro σ H2 ⟨s2,h,k,x6,x7,rfl,ah⟩
  obtain⟨a1,a2⟩:=ah
  rw[bh,hwe]at a1
  cases a1
  rw[Nat.sub_self]at a2
  have:=a2 0 [] (by
   unfold rws
   rw[if_pos hg]
   rfl)
  rw[bh,bG]at this
  walk_at "y"
  exact q k H2 s2 this
end NM
namespace GR
open PySem PySem.Spec PyProof.Rows L2 R3 LW SR RW
def gw (M:List Rm):Nat->Nat->Nat
 |0,_=>1
 |s+1,r=>gw M s r+(ow (gw M s) (LW.stp M r false)+ow (gw M s) (LW.stp M r true))
def tw (M:List Rm) (s r:Nat):Nat:=ow (gw M s) (LW.stp M r false)+ow (gw M s) (LW.stp M r true)
def fp (M:List Rm) (s r:Nat):Nat:=tw M s r / Nat.gcd (tw M s r) (gw M s r)
end GR
namespace K35
open PySem PySem.Spec PyProof.Rows L2 R3 LW
def aI':Css:=(.cons (.ret (.cmp .Gt (.met .bitlen (.var 0) .nil) (.var 1)))
  .nil)
def bf':Css:=(.cons (.ite (.or (.cmp .NotEq (.blt .len (.cons (.var 3) .nil)) (.bin .Sub (.blt .len (.cons (.var 1) .nil)) (.int 1))) (.cmp .NotEq (.call "walk" (.cons (.var 0) (.cons (.var 2) (.cons (.var 3) .nil)))) (.var 2))) (.cons (.ret .non)
  .nil) .nil)
  (.cons (.ret (.call "number_left" (.cons (.var 0) (.cons (.var 1) (.cons (.var 2) (.cons (.var 3) .nil))))))
  .nil))
def d1':Css:=(.cons (.asg (.name 3) (.lst (.cons (.tup (.cons (.str "") (.cons (.var 1) .nil))) .nil)))
  (.cons (.for_ (.name 4) (.range1 (.var 2)) (.cons (.asg (.name 5) (.lst .nil))
  (.cons (.for_ (.tup (.cons (.name 6) (.cons (.name 7) .nil))) (.val (.var 3)) (.cons (.expr (.met .extend (.var 5) (.cons (.comp (.tup (.cons (.bin .Add (.var 6) (.idx (.str "01") (.var 8))) (.cons (.idx (.idx (.var 0) (.var 7)) (.var 8)) .nil))) [8] (.name 8) (.val (.tup (.cons (.int 0) (.cons (.int 1) .nil)))) (.some (.cmp .IsNot (.idx (.idx (.var 0) (.var 7)) (.var 8)) .non)) .nil) .nil)))
  .nil))
  (.cons (.asg (.name 3) (.var 5))
  .nil))))
  (.cons (.ret (.comp (.var 6) [6,7] (.tup (.cons (.name 6) (.cons (.name 7) .nil))) (.val (.var 3)) (.some (.cmp .Eq (.var 7) (.var 1))) .nil))
  .nil)))
open TM BD RW NR NM K33 SR BK K42 WR
def rd (M:List Rm) (r n:Nat) (b:List Bool):List Bool:=((rws M (some r) n r)[num b]?).getD []
set_option tactic.hygienic true in
theorem qA' {M:List Rm} {g:Option Nat}:∀{n r:Nat} {x:List Bool},x∈rws M g n r->∃e,wk M (some r) x=some e/\(g=none\/g=some e)
 |0,r,x,h=>by
  unfold rws at h
  split at h
  .rename_i hg
   have:x=[]:=by simpa using h
   subst this
   exact⟨r,rfl,hg⟩
  .cases h
 |n+1,r,x,h=>by
  unfold rws at h
  have key:∀b o,x∈ob (rws M g n) b o->LW.stp M r b=o->∃e,wk M (some r) x=some e/\(g=none\/g=some e):=by
   intro b o hx ho
   cases o with
   |none=>cases hx
   |some m=>
    obtain⟨y,hy,rfl⟩:=aQ.mp hx
    obtain⟨e,he,hg⟩:=qA' hy
    refine⟨e,?_,hg⟩
    show wk M ((some r).bind fun r=>LW.stp M r b) y=some e
    rw[show((some r).bind fun r=>LW.stp M r b)=some m from ho]
    exact he
  rcases aA.mp h with h|h
  .exact key _ _ h rfl
  .exact key _ _ h rfl
theorem fT' {m:Nat}:∀{ls:List (List Bool)},(∀b∈ls,b.length=m)->ls.flatten.length=ls.length*m
 | [],_=>by simp
 |a :: ls,h=>by
  rw[ce,ao,fT' fun b hb=>h b (ar _ hb),h a aw,aR,Nat.add_mul,Nat.one_mul,Nat.add_comm]
structure Tab (M:List Rm) (r n p:Nat):Prop where
 hr:r<M.length
 p1:1<=p
 hp:p=(wy M (some r) n r).log2
 n20:n<=20
theorem Tab.ne {M:List Rm} {r n p:Nat} (t:Tab M r n p):wy M (some r) n r≠0:=fun z=>by
 have h1:=t.p1
 have h2:=t.hp
 rw[z]at h2
 simp at h2
 omega
theorem Tab.le {M:List Rm} {r n p:Nat} (t:Tab M r n p):2 ^ p<=wy M (some r) n r:=by rw[t.hp];exact Nat.log2_self_le t.ne
theorem Tab.pn {M:List Rm} {r n p:Nat} (t:Tab M r n p):p<=n:=by
 have h1:=t.le
 have h2:=@sL' M (some r) n r
 exact(Nat.pow_le_pow_iff_right (by decide:1<2)).mp (aF h1 h2)
theorem sU' {c p:Nat}:decide ((p:Int)<(Builtin.Int.intBits (c:Int):Nat))=decide (2 ^ p<=c):=by
 unfold Builtin.Int.intBits
 rw[Int.natAbs_natCast]
 by_cases hc:c=0
 .subst hc
  have:=Nat.two_pow_pos p
  simp
 .rw[if_neg (by simpa using hc)]
  apply decide_eq_decide.mpr
  rw[<- Nat.le_log2 hc]
  omega
def ig':Sp:=fun vs H Q _=>∃(c p:Nat),vs=[.int c,.int p]/\Q (.bl (decide (2 ^ p<=c))) H
theorem oF' {C:Rc} (hN:C.N.length=2):∀vs H Q E,ig' vs H Q E->tSs C aI' { nx:=fun _ H'=>Q .non H',rt:=Q } (L2.aB' C.N vs) H:=by
 intro vs H Q E h
 obtain⟨c,p,rfl,q⟩:=h
 rw[al' hN]
 unfold aI'
 walk_at "y"
 refine⟨rfl,?_⟩
 walk_at "y"
 rw[show decide ((p:Int)<((Builtin.Int.intBits (c:Int):Nat):Int))=decide (2 ^ p<=c) from sU']
 exact q
theorem yM' {M:List Rm} {r n p:Nat} (T:Tab M r n p):gp (wy M (some r) n r)=.int (p:Nat):=by
 unfold gp
 rw[if_neg T.ne,<- T.hp]
theorem ii' {M:List Rm} {g:Option Nat} {n r i j:Nat} {x:List Bool} (h1:(rws M g n r)[i]?=some x) (h2:(rws M g n r)[j]?=some x):i=j:=by
 obtain⟨hi,e1⟩:=aC.mp h1
 obtain⟨hj,e2⟩:=aC.mp h2
 have up:=List.pairwise_iff_getElem.mp (qz' (M:=M) (g:=g) (n:=n) (r:=r))
 rcases Nat.lt_trichotomy i j with h|h|h
 .have:=up i j hi hj h
  rw[e1,e2,mN']at this
  cases this
 .exact h
 .have:=up j i hj hi h
  rw[e1,e2,mN']at this
  cases this
def Kp (A:Addr) (H H':Hp):Prop:=∀b u,b≠A->H b=some u->H' b=some u
theorem Kp.of {A:Addr} {H H':Hp} (s:aD' H H'):Kp A H H':=fun b u _ h=>s b u h
theorem Kp.same {A:Addr} {H H' H'':Hp} (k:Kp A H H') (s:aD' H' H''):Kp A H H'':=fun b u n h=>s b u (k b u n h)
theorem Kp.upd {A:Addr} {H H':Hp} {o:HO} (k:Kp A H H'):Kp A H (upd H' A o):=fun b u n h=>by rw[ad' n];exact k b u n h
theorem Kp.full {A:Addr} {H0 H H':Hp} (k:Kp A H H') (h:H0 A=none) (s:aD' H0 H):aD' H0 H':=fun b u e=>k b u (fun z=>by rw[z,h]at e;cases e) (s b u e)
def nxb (M:List Rm) (w:List Bool×Nat) (b:Bool):List (List Bool×Nat):=match LW.stp M w.2 b with
 |some m=>[(w.1++[b],m)]
 |none=>[]
def jt' (M:List Rm) (w:List Bool×Nat):List (List Bool×Nat):=nxb M w false++nxb M w true
def wlk (M:List Rm) (r:Nat):Nat->List (List Bool×Nat)
 |0=>[([],r)]
 |n+1=>(wlk M r n).flatMap (jt' M)
def exw (M:List Rm) (g:Option Nat) (k:Nat) (w:List Bool×Nat):List (List Bool):=(rws M g k w.2).map (w.1++·)
theorem qB' {f:Nat->List (List Bool)} {b:Bool} {o:Option Nat} {x:List Bool}:(ob f b o).map (x++·)=match o with|some m=>(f m).map ((x++[b])++·)|none=>[]:=by
 cases o with
 |none=>rfl
 |some m=>
  show((f m).map (b :: ·)).map (x++·)=_
  rw[bE]
  refine bI fun y _=>?_
  show x++b :: y=(x++[b])++y
  rw[aO]
  rfl
theorem oG' {M:List Rm} {g:Option Nat} {k:Nat} {w:List Bool×Nat}:exw M g (k+1) w=(jt' M w).flatMap (exw M g k):=by
 unfold exw jt'
 rw[List.flatMap_append]
 show(ob (rws M g k) false (LW.stp M w.2 false)++ob (rws M g k) true (LW.stp M w.2 true)).map (w.1++·)=_
 rw[aI,qB',qB']
 congr 1<;>(unfold nxb;split<;>simp[exw])
theorem mQ' {M:List Rm} {g:Option Nat} {r k:Nat}:∀n,rws M g (n+k) r=(wlk M r n).flatMap (exw M g k)
 |0=>by simp[wlk,exw]
 |n+1=>by
  rw[show n+1+k=n+(k+1) by omega,mQ' (k:=k+1) n]
  show _=((wlk M r n).flatMap (jt' M)).flatMap (exw M g k)
  rw[List.flatMap_assoc]
  congr 1
  funext w
  exact oG'
theorem sV' {M:List Rm} {r n:Nat}:rws M (some r) n r=((wlk M r n).filter fun w=>decide (w.2=r)).map (·.1):=by
 have:=mQ' (M:=M) (g:=some r) (r:=r) (k:=0) n
 rw[Nat.add_zero]at this
 rw[this]
 induction wlk M r n with
 |nil=>rfl
 |cons w ws ih=>
  rw[cf,List.filter_cons,ih]
  unfold exw rws
  by_cases h:w.2=r
  .rw[if_pos (.inr (by rw[h])),if_pos (by simpa using h)]
   simp
  .rw[if_neg (fun z=>by rcases z with z|z;cases z;exact h (Option.some.inj z).symm),if_neg (by simpa using h)]
   rfl
set_option tactic.hygienic true in
theorem mR' {M:List Rm} (hO:OkM M) {r:Nat} (hr:r<M.length):∀n,(wlk M r n).length<=2 ^ n/\∀w∈wlk M r n,w.1.length=n/\w.2<M.length
 |0=>⟨al _,fun w hw=>by
  have:w=([],r):=by simpa[wlk]using hw
  subst this
  exact⟨rfl,hr⟩⟩
 |n+1=>by
  obtain⟨h1,h2⟩:=mR' hO hr n
  have hb:∀w b,(nxb M w b).length<=1:=fun w b=>by unfold nxb;split<;>simp
  refine⟨?_,fun w hw=>?_⟩
  .show((wlk M r n).flatMap (jt' M)).length<=2 ^ (n+1)
   have:∀l:List (List Bool×Nat),(l.flatMap (jt' M)).length<=2*l.length:=fun l=>by
    induction l with
    |nil=>simp
    |cons a l ih=>
     rw[cf,ao,aR]
     have h3:(jt' M a).length<=2:=by unfold jt';rw[ao];have:=hb a false;have:=hb a true;omega
     omega
   have:=this (wlk M r n)
   rw[Nat.pow_succ]
   omega
  .obtain⟨v,hv,hw⟩:=List.mem_flatMap.mp hw
   obtain⟨k1,k2⟩:=h2 v hv
   have key:∀b,w∈nxb M v b->w.1.length=n+1/\w.2<M.length:=fun b hx=>by
    unfold nxb at hx
    split at hx
    .rename_i m hm
     have:w=(v.1++[b],m):=by simpa using hx
     subst this
     exact⟨by simp[k1],gX' hO hm⟩
    .cases hx
   rcases aA.mp hw with hx|hx
   .exact key _ hx
   .exact key _ hx
def IsV (H:Hp) (v:V) (w:List Bool×Nat):Prop:=∃q,v=.ref q/\H q=some (.tup [.str (tx w.1),.int w.2])
theorem IsV.mono {H H':Hp} (s:aD' H H') {v:V} {w:List Bool×Nat} (h:IsV H v w):IsV H' v w:=let⟨q,e,hq⟩:=h;⟨q,e,s _ _ hq⟩
def dm':Sp:=fun vs H Q _=>∃(a:Addr) (M:List Rm) (r n:Nat),vs=[.ref a,.int r,.int n]/\IsM H a M/\OkM M/\M.length<=500/\r<M.length/\n<=8/\∀(l:Addr) (H':Hp),aD' H H'->H' l=some (.lst ((rws M (some r) n r).map rV))->Q (.ref l) H'
theorem ij' {C:Rc} (hN:C.N.length=9):∀vs H Q E,dm' vs H Q E->tSs C d1' { nx:=fun _ H'=>Q .non H',rt:=Q } (L2.aB' C.N vs) H:=by
 intro vs H Q E h
 obtain⟨a,M,r,n,rfl,hM,hO,hM5,hr,hn,q⟩:=h
 rw[al' hN]
 unfold d1'
 walk_at "y"
 refine⟨by decide,fun p1 hp1=>?_⟩
 obtain⟨s1,h1⟩:=snw hp1 (.tup [.str (tx []),.int r])
 generalize upd H p1 _=H1 at s1 h1 ⊢
 walk_at "y"
 refine⟨by decide,fun p2 hp2=>?_⟩
 obtain⟨s2,h2⟩:=snw hp2 (.lst [V.ref p1])
 generalize upd H1 p2 _=H2 at s2 h2 ⊢
 walk_at "y"
 refine dP' (by omega) (by omega) (fL' (n:=((n:Int)).toNat) (fun i σ H'=>(∃L ws x4 x5 x6 x7 x8,σ=[some (.ref a),some (.int r),some (.int n),some (.ref L),x4,x5,x6,x7,x8]/\H' L=some (.lst ws)/\b4' (IsV H') ws (wlk M r i))/\aD' H H') ⟨⟨p2,[V.ref p1],_,_,_,_,_,rfl,h2,⟨⟨p1,rfl,s2 _ _ h1⟩,trivial⟩⟩,s1.trans s2⟩ ?_ ?_)
 .rintro i σ H3 hi ⟨⟨L,ws,x4,x5,x6,x7,x8,rfl,hL,hA⟩,s3⟩
  have hi:i<n:=by omega
  obtain⟨k1,k2⟩:=mR' hO hr i
  have hp8:2 ^ i<=2 ^ 7:=Nat.pow_le_pow_right (by decide) (by omega)
  have hwl:=hA.len
  walk_at "y"
  refine⟨by decide,fun A hA0=>?_⟩
  obtain⟨s4,h4⟩:=snw hA0 (.lst [])
  generalize upd H3 A _=H4 at s4 h4 ⊢
  have hLA:L≠A:=ah' hL hA0
  walk_at "y"
  refine ba' (SqL.of (s4 _ _ hL)) (vz' (xs:=ws) (fun j σ H'=>(∃us x6 x7 x8,σ=[some (.ref a),some (.int r),some (.int n),some (.ref L),some (.int (0+(i:Int))),some (.ref A),x6,x7,x8]/\H' A=some (.lst us)/\b4' (IsV H') us (((wlk M r i).take j).flatMap (jt' M)))/\aD' H3 H') ⟨⟨[],_,_,_,rfl,h4,trivial⟩,s4⟩ (fun j σ H' _ pv=>SqL.of (pv.2 _ _ hL)) ?_ ?_)
  .rintro j x σ H5 hx ⟨⟨us,x6,x7,x8,rfl,hA5,hU⟩,s5⟩
   have hj:j<(wlk M r i).length:=by rw[<- hwl];exact aq' hx
   obtain⟨w,hw,qx,rfl,hqx⟩:=hA.getL hx
   have htk:(wlk M r i).take (j+1)=(wlk M r i).take j++[w]:=by rw[bn,hw];rfl
   obtain⟨kw1,kw2⟩:=k2 w (aE hw)
   refine dg' (SqT.of (s5 _ _ hqx)) ?_
   have hul:us.length<=256:=by
    have e:=hU.len
    have:(((wlk M r i).take j).flatMap (jt' M)).length<=2*((wlk M r i).take j).length:=by
     generalize (wlk M r i).take j=l
     induction l with
     |nil=>simp
     |cons c l ih=>
      rw[cf,ao,aR]
      have h3:(jt' M c).length<=2:=by
       unfold jt'
       rw[ao]
       have hb:∀b,(nxb M c b).length<=1:=fun b=>by unfold nxb;split<;>simp
       have:=hb false
       have:=hb true
       omega
      omega
    rw[aW]at this
    omega
   walk_at "y"
   refine⟨tyL hA5 rfl,?_⟩
   refine⟨by decide,fun pt hpt=>?_⟩
   obtain⟨s6,h6⟩:=snw hpt (.tup [V.int 0,V.int 1])
   generalize upd H5 pt _=H6 at s6 h6 ⊢
   refine dh' (SqT.of h6) (qc' (vs:=[V.int 0,V.int 1]) (fun k xs H'=>b4' (IsV H') xs (([false,true].take k).flatMap (nxb M w))/\aD' H6 H') ⟨trivial,aD'.refl _⟩ (fun k xs H' pv=>SqT.of (pv.2 _ _ h6)) ?_ ?_)
   .rintro k xs H7 y R hy ⟨hX,s7⟩ hR
    have hM7:=hM.mono (ax' (s3.trans (s5.trans (s6.trans s7))))
    obtain⟨b,hyb,htb⟩:∃b,y=V.int (if b then 1 else 0)/\[false,true].take (k+1)=[false,true].take k++[b]:=by
     match k,hy with
     |0,hy=>cases hy;exact⟨false,rfl,rfl⟩
     |1,hy=>cases hy;exact⟨true,rfl,rfl⟩
     |k+2,hy=>cases hy
    subst hyb
    have hk:k<2:=aq' hy
    have hxl:xs.length<=2:=by
     rw[hX.len]
     match k,hk with
     |0,_=>exact aT _
     |1,_=>
      show((nxb M w false)++[]).length<=2
      rw[bG]
      unfold nxb
      split<;>simp
    rw[htb,List.flatMap_append,cf,List.flatMap_nil,bG]at hR
    walk_at "y"
    refine cy' (c:=b) hM7 kw2 fun p' hp'=>?_
    walk_at "y"
    refine hp' _ ?_
    cases hs:LW.stp M w.2 b with
    |none=>
     simp only[oV]
     walk_at "y"
     refine hR _ _ ⟨?_,s7⟩
     unfold nxb
     rw[hs,bG]
     exact hX
    |some m=>
     simp only[oV]
     walk_at "y"
     refine dA' (l:=[false,true]) (c:=b) (by decide) (by cases b<;>rfl) ?_
     walk_at "y"
     refine⟨au' (by simp;omega),?_⟩
     refine cy' (c:=b) hM7 kw2 fun p2 hp2=>?_
     walk_at "y"
     refine hp2 _ ?_
     rw[hs]
     simp only[oV]
     walk_at "y"
     refine⟨by decide,fun pe hpe=>?_⟩
     obtain⟨s8,h8⟩:=snw hpe (.tup [.str (tx (w.1++[b])),.int m])
     generalize upd H7 pe _=H8 at s8 h8 ⊢
     refine⟨ai' (by omega),hR _ _ ⟨?_,s7.trans s8⟩⟩
     unfold nxb
     rw[hs]
     exact(hX.mono fun v w' h=>h.mono s8).snoc ⟨pe,rfl,h8⟩
   .rintro xs H7 ⟨hX,s7⟩ pc hpc
    obtain⟨s8,h8⟩:=snw hpc (.lst xs)
    generalize upd H7 pc _=H8 at s8 h8 ⊢
    have hX':b4' (IsV H8) xs (jt' M w):=(show b4' (IsV H7) xs (nxb M w false++(nxb M w true++[])) from hX) |> fun z=>by rw[bG]at z;exact z.mono fun v w h=>h.mono s8
    have s58:aD' H5 H8:=s6.trans (s7.trans s8)
    have hxl:xs.length<=2:=by
     rw[hX'.len]
     unfold jt'
     rw[ao]
     have hb:∀b,(nxb M w b).length<=1:=fun b=>by unfold nxb;split<;>simp
     have:=hb false
     have:=hb true
     omega
    walk_at "y"
    refine sN' (s58 _ _ hA5) h8 (bD (ai' (by omega))) ?_
    walk_at "y"
    have s39:aD' H3 (upd H8 A (.lst (us++xs))):=eH' (s5.trans s58) hA0
    have tpq:∀v w',IsV H8 v w'->IsV (upd H8 A (.lst (us++xs))) v w':=fun v w' ⟨q',e',h'⟩=>⟨q',e',by rw[ad' (fun z=>by rw[z,s58 _ _ hA5]at h';cases h')];exact h'⟩
    refine⟨⟨us++xs,_,_,_,rfl,aa',?_⟩,s39⟩
    rw[htk,List.flatMap_append,cf,List.flatMap_nil,bG]
    exact(hU.mono fun v w' h=>tpq v w' (h.mono s58)).app (hX'.mono fun v w' h=>tpq v w' h)
  .rintro σ H5 ⟨⟨us,x6,x7,x8,rfl,hA5,hU⟩,s5⟩
   rw[hwl,bh]at hU
   walk_at "y"
   exact⟨⟨A,us,_,_,_,_,_,rfl,hA5,hU⟩,s3.trans s5⟩
 .rintro σ H3 ⟨⟨L,ws,x4,x5,x6,x7,x8,rfl,hL,hA⟩,s3⟩
  rw[show((n:Int)).toNat=n by omega]at hA
  obtain⟨k1,k2⟩:=mR' hO hr n
  have hp8:2 ^ n<=2 ^ 8:=Nat.pow_le_pow_right (by decide) hn
  have hwl:=hA.len
  walk_at "y"
  refine ba' (SqL.of hL) (fe' (vs:=ws) (fun j xs H'=>j<=ws.length/\xs=((((wlk M r n).take j).filter fun w=>decide (w.2=r)).map (·.1)).map rV/\H'=H3) ⟨aT _,rfl,rfl⟩ (fun j xs H' pv=>by rw[pv.2.2];exact SqL.of hL) ?_ ?_)
  .rintro j xs H4 x R hx ⟨_,rfl,rfl⟩ hR
   have hj:j<(wlk M r n).length:=by rw[<- hwl];exact aq' hx
   obtain⟨w,hw,qx,rfl,hqx⟩:=hA.getL hx
   have htk:(wlk M r n).take (j+1)=(wlk M r n).take j++[w]:=by rw[bn,hw];rfl
   rw[htk,List.filter_append,aI,aI]at hR
   refine dg' (SqT.of hqx) ?_
   walk_at "y"
   refine aV' (fun hq=>?_) fun hq=>?_
   .have hq':w.2=r:=by omega
    walk_at "y"
    refine⟨by rw[ai,ai];exact ai' (aF (List.length_filter_le _ _) (by rw[aW];omega)),hR _ _ ⟨aq' hx,?_,rfl⟩⟩
    simp[hq',rV]
   .have hq':¬w.2=r:=by omega
    walk_at "y"
    refine hR _ _ ⟨aq' hx,?_,rfl⟩
    simp[hq']
  .rintro xs H4 ⟨_,rfl,rfl⟩ pc hpc
   rw[hwl,bh,<- sV']
   walk_at "y"
   exact q pc _ (s3.trans (af' hpc _)) aa'
end K35
namespace K36
open PySem PySem.Spec PyProof.Rows L2 R3 LW
def fU':List Str:=["machine","room","row","here","bit"]
def d2':List Str:=["int"]
def cX':List Str:=["machine","rooms","inside","led_to","room","lead"]
def ci':List Str:=["set"]
def cY':List Str:=["machine","numbers","anew","at","room"]
def cj':List Str:=["enumerate","tuple"]
def cZ':List Str:=["machine","numbers","fewer"]
def ck':List Str:=["len","list","range"]
def bu':List Str:=["machine","numbers","room","bit","lead"]
def bc':List Str:=["int"]
def bV':List Str:=["machine","numbers","room"]
def bB':List Str:=["len","range"]
def d3':List Str:=["machine","goal","many","left","room","step"]
def dn':List Str:=["len","range"]
def bl':List Str:=["machine","left","room","row","ahead","here","at","bit"]
def a2':List Str:=["enumerate","int","len"]
def cl':List Str:=["row","many","at"]
def bG':List Str:=["len","range"]
def c0':List Str:=["number","many","at"]
def cm':List Str:=["range","reversed","str"]
def a3':List Str:=["count","p"]
def aJ':List Str:=[]
def bm':List Str:=["count"]
def aZ':List Str:=[]
def bg':List Str:=["machine","left","room","block"]
def aW':List Str:=["len"]
def bv':List Str:=["machine","room","many","row","left","p","parts","at","block","number"]
def bd':List Str:=["enumerate"]
def bw':Css:=(.cons (.asg (.name 4) (.call "ways" (.cons (.var 0) (.cons (.var 1) (.cons (.var 2) .nil)))))
  (.cons (.asg (.name 5) (.call "greatest_power" (.cons (.idx (.idx (.var 4) (.var 2)) (.var 1)) .nil)))
  (.cons (.asg (.name 6) (.lst .nil))
  (.cons (.for_ (.tup (.cons (.name 7) (.cons (.name 8) .nil))) (.enum (.call "blocks_of" (.cons (.var 3) (.cons (.var 2) .nil)))) (.cons (.asg (.name 9) (.call "round_number" (.cons (.var 0) (.cons (.var 4) (.cons (.var 1) (.cons (.var 8) .nil))))))
  (.cons (.ite (.or (.cmp .Is (.var 9) .non) (.val (.call "is_power_at_least" (.cons (.var 9) (.cons (.var 5) .nil))))) (.cons (.rsi "BadBlock" (.var 7))
  .nil) .nil)
  (.cons (.expr (.met .append (.var 6) (.cons (.call "bits_by" (.cons (.var 9) (.cons (.var 5) .nil))) .nil)))
  .nil))))
  (.cons (.ret (.met .join (.str "") (.cons (.var 6) .nil)))
  .nil)))))
def bi':List Str:=["bounds","low0","high0","low1","high1","spread","levels","bit","high","place","level"]
def aU':List Str:=["list","range"]
def bO':List Str:=["bounds","room","bit","low0","high0","low1","high1","spread","last","place","level"]
def bn':List Str:=[]
def a4':List Str:=["bounds","rooms","numbers","at","room"]
def aK':List Str:=["enumerate","tuple"]
def b0':List Str:=["bounds","less","numbers"]
def bx':List Str:=[]
def do':List Str:=["_law_script","_law_k"]
def cz':List Str:=["len"]
def oH':List Str:=["_law_script","_law_k","_law_cell"]
def mS':List Str:=["abs","int"]
def mT':List Str:=["_law_box_here","_law_many_here","_law_found","_law_once","_law_twice"]
def ju':List Str:=[]
def mU':List Str:=["_law_box_here","_law_least","_law_few","_law_most"]
def jv':List Str:=[]
def eL':List Str:=["_law_box_here","_law_many_here","_law_often","_law_rooms","_law_k","_law_doors","_law_bit","_law_to"]
def dp':List Str:=["int","range","tuple"]
def b1':List Str:=["_law_box_here","_law_many_here","_law_order","_law_k","_law_rooms","_law_at","_law_room","_law_on","_law_other"]
def by':List Str:=["enumerate","int","range","tuple"]
def fV':List Str:=["_law_box_here","_law_lows","_law_highs","_law_low"]
def d4':List Str:=[]
def fW':List Str:=["_law_box_here","_law_machine_here","_law_room","_law_many_here","_law_row","_law_k","_law_some","_law_bit"]
def d5':List Str:=["len","range"]
def fX':List Str:=["_law_machine_here","_law_room","_law_many_here","_law_pairs","_law_turn","_law_longer","_law_row","_law_at","_law_bit"]
def d6':List Str:=["range"]
def cn':List Str:=["_law_box_here","_law_way","_law_found","_law_many_here"]
def bH':List Str:=["len"]
def sW':List Str:=["_law_rounds_here","_law_p","_law_many_here","_law_row","_law_found","_law_at","_law_block","_law_number","_law_k"]
def oI':List Str:=["len","range"]
def oJ':Css:=(.cons (.asg (.name 4) (.str ""))
  (.cons (.for_ (.name 5) (.range3 (.int 0) (.blt .len (.cons (.var 3) .nil)) (.var 2)) (.cons (.asg (.name 6) (.cut (.var 3) (.some (.var 5)) (.some (.bin .Add (.var 5) (.var 2)))))
  (.cons (.ite (.or (.cmp .NotIn (.var 6) (.var 0)) (.cmp .GtE (.met .indexL (.var 0) (.cons (.var 6) .nil)) (.bin .LShift (.int 1) (.var 1)))) (.cons (.ret (.bin .FloorDiv (.var 5) (.var 2)))
  .nil) .nil)
  (.cons (.asg (.name 7) (.met .indexL (.var 0) (.cons (.var 6) .nil)))
  (.cons (.asg (.name 4) (.bin .Add (.var 4) (.met .join (.str "") (.cons (.comp (.idx (.str "01") (.bin .Mod (.bin .RShift (.var 7) (.bin .Sub (.bin .Sub (.var 1) (.int 1)) (.var 8))) (.int 2))) [8] (.name 8) (.range1 (.var 1)) .none .nil) .nil))))
  .nil)))))
  (.cons (.ret (.var 4))
  .nil)))
def g8':List Str:=["_law_machine_here","_law_room","_law_many_here","_law_row","_law_caught","e"]
def eM':List Str:=["!table_read","ValueError","isinstance"]
def jw':Css:=(.cons (.asg (.name 4) .non)
  (.cons (.try_ (.cons (.ret (.call "table_read" (.cons (.var 0) (.cons (.var 1) (.cons (.var 2) (.cons (.var 3) .nil))))))
  .nil) "RunError" 5 (.cons (.asg (.name 4) (.var 5))
  .nil))
  (.cons (.ite (.or (.not (.val (.blt .isinstance (.cons (.var 4) (.cons (.cls "BadBlock") .nil))))) (.val (.blt .isinstance (.cons (.var 4) (.cons (.tup (.cons (.cls "BadBits") (.cons (.cls "NoNumber") (.cons (.cls "NoRow") (.cons (.cls "NoWindow") .nil))))) .nil))))) (.cons (.ret .non)
  .nil) .nil)
  (.cons (.ret (.ife (.val (.blt .isinstance (.cons (.var 4) (.cons (.ty "ValueError") .nil)))) (.xat 4 "block") .non))
  .nil))))
def mV':List Str:=["_law_box_here","_law_machine_here","_law_room","_law_many_here","_law_rounds_here","_law_row","_law_way","_law_at","_law_block"]
def jx':List Str:=["int","len","min"]
def jy':Css:=(.cons (.asg (.name 6) (.call "_law_take" (.cons (.var 0) (.cons (.int 7) .nil))))
  (.cons (.asg (.name 7) (.call "_law_take" (.cons (.var 0) (.cons (.bin .Add (.blt .len (.cons (.var 5) .nil)) (.int 1)) .nil))))
  (.cons (.ite (.cmp .Eq (.var 6) (.int 0)) (.cons (.ret (.var 5))
  .nil) .nil)
  (.cons (.ite (.and (.cmp .Eq (.var 6) (.int 1)) (.cmp .Lt (.var 7) (.blt .len (.cons (.var 5) .nil)))) (.cons (.ret (.bin .Add (.bin .Add (.cut (.var 5) .none (.some (.var 7))) (.idx (.str "10") (.blt .int (.cons (.idx (.var 5) (.var 7)) .nil)))) (.cut (.var 5) (.some (.bin .Add (.var 7) (.int 1))) .none)))
  .nil) .nil)
  (.cons (.ite (.cmp .Eq (.var 6) (.int 2)) (.cons (.ret (.bin .Add (.bin .Add (.cut (.var 5) .none (.some (.var 7))) (.idx (.str "01") (.call "_law_take" (.cons (.var 0) (.cons (.int 2) .nil))))) (.cut (.var 5) (.some (.var 7)) .none)))
  .nil) .nil)
  (.cons (.ite (.cmp .Eq (.var 6) (.int 3)) (.cons (.ret (.bin .Add (.cut (.var 5) .none (.some (.var 7))) (.cut (.var 5) (.some (.bin .Add (.var 7) (.int 1))) .none)))
  .nil) .nil)
  (.cons (.ite (.cmp .Eq (.var 6) (.int 4)) (.cons (.ret (.cut (.var 5) .none (.some (.var 7))))
  .nil) .nil)
  (.cons (.asg (.name 8) (.bin .Mult (.bin .FloorDiv (.var 7) (.var 3)) (.var 3)))
  (.cons (.ite (.cmp .Eq (.var 6) (.int 5)) (.cons (.ret (.bin .Add (.bin .Add (.cut (.var 5) .none (.some (.var 8))) (.idx (.var 4) (.bin .Sub (.neg (.int 1)) (.call "_law_take" (.cons (.var 0) (.cons (.blt .min (.cons (.int 3) (.cons (.blt .len (.cons (.var 4) .nil)) .nil))) .nil)))))) (.cut (.var 5) (.some (.var 8)) .none)))
  .nil) .nil)
  (.cons (.ret (.bin .Add (.bin .Add (.cut (.var 5) .none (.some (.var 8))) (.call "_law_walked" (.cons (.var 0) (.cons (.var 1) (.cons (.var 2) (.cons (.var 3) .nil)))))) (.cut (.var 5) (.some (.var 8)) .none)))
  .nil))))))))))
def ik':List Str:=["_law_box_here","_law_machine_here","_law_room","_law_many_here","_law_rounds_here","_law_p","_law_turn","_law_row","_law_block","_law_found","_law_due_here"]
def fY':List Str:=["bool","isinstance","len","range","str"]
def fZ':Css:=(.cons (.asg (.name 1) (.call "_law_any_machine" (.cons (.var 0) .nil)))
  (.cons (.ite (.cmp .Eq (.blt .len (.cons (.var 1) .nil)) (.int 0)) (.cons (.ret (.bl true))
  .nil) .nil)
  (.cons (.asg (.name 2) (.call "_law_take" (.cons (.var 0) (.cons (.blt .len (.cons (.var 1) .nil)) .nil))))
  (.cons (.for_ (.name 3) (.val (.lst (.cons (.bin .Add (.int 1) (.call "_law_take" (.cons (.var 0) (.cons (.int 8) .nil)))) (.cons (.bin .Add (.int 1) (.call "_law_take" (.cons (.var 0) (.cons (.int 8) .nil)))) (.cons (.int 8) .nil))))) (.cons (.asg (.name 4) (.call "_law_rounds" (.cons (.var 1) (.cons (.var 2) (.cons (.var 3) .nil)))))
  (.cons (.asg (.name 5) (.bin .Sub (.met .bitlen (.blt .len (.cons (.var 4) .nil)) .nil) (.int 1)))
  (.cons (.ite (.cmp .Gt (.var 5) (.int 0)) (.cons (.for_ (.name 6) (.range1 (.int 5)) (.cons (.asg (.name 7) (.str ""))
  (.cons (.for_ (.name 8) (.range1 (.call "_law_take" (.cons (.var 0) (.cons (.int 10) .nil)))) (.cons (.asg (.name 7) (.bin .Add (.var 7) (.idx (.var 4) (.call "_law_take" (.cons (.var 0) (.cons (.bin .LShift (.int 1) (.var 5)) .nil))))))
  .nil))
  (.cons (.asg (.name 7) (.call "_law_bent" (.cons (.var 0) (.cons (.var 1) (.cons (.var 2) (.cons (.var 3) (.cons (.var 4) (.cons (.var 7) .nil))))))))
  (.cons (.asg (.name 9) (.call "_law_told" (.cons (.var 1) (.cons (.var 2) (.cons (.var 3) (.cons (.var 7) .nil))))))
  (.cons (.asg (.name 10) (.call "_law_due" (.cons (.var 4) (.cons (.var 5) (.cons (.var 3) (.cons (.var 7) .nil))))))
  (.cons (.ite (.or (.val (.blt .isinstance (.cons (.var 9) (.cons (.ty "bool") .nil)))) (.or (.cmp .NotEq (.blt .isinstance (.cons (.var 9) (.cons (.ty "str") .nil))) (.blt .isinstance (.cons (.var 10) (.cons (.ty "str") .nil)))) (.cmp .NotEq (.var 9) (.var 10)))) (.cons (.ret (.bl false))
  .nil) .nil)
  .nil)))))))
  .nil) .nil)
  .nil))))
  (.cons (.ret (.bl true))
  .nil)))))
def oK':List Str:=["_law_script","_law_k"]
def mW':List Str:=["len","max","min","range"]
def oL':Css:=(.cons (.for_ (.name 1) (.range1 (.blt .max (.cons (.int 3) (.cons (.blt .min (.cons (.blt .len (.cons (.var 0) .nil)) (.cons (.int 8) .nil))) .nil)))) (.cons (.ite (.not (.val (.call "_law_right" (.cons (.call "_law_box" (.cons (.var 0) (.cons (.var 1) .nil))) .nil)))) (.cons (.ret (.bl false))
  .nil) .nil)
  .nil))
  (.cons (.ret (.bl true))
  .nil))
open TM BD RW NR NM K33 SR BK K42 WR K35
def ixb (M:List Rm) (r n:Nat) (b:List Bool):Option Nat:=if b∈rws M (some r) n r then some ((rws M (some r) n r).idxOf b)else none
def okb (M:List Rm) (r n p:Nat) (b:List Bool):Bool:=match ixb M r n b with
 |some k=>decide (k<2 ^ p)
 |none=>false
def vb (M:List Rm) (r n:Nat) (b:List Bool):Nat:=(ixb M r n b).getD 0
def blk (n:Nat) (l:List Bool) (i:Nat):List Bool:=(l.drop (i*n)).take n
def acb (M:List Rm) (r n p:Nat) (l:List Bool) (i:Nat):List (List Bool):=(aD i).map fun j=>bz p (vb M r n (blk n l j))
theorem mX' {b:List Bool} {L:List (List Bool)} (h:b∈L):L[L.idxOf b]?=some b:=by
 have hl:=List.idxOf_lt_length_of_mem h
 rw[ac hl,List.getElem_idxOf]
theorem qC' {M:List Rm} {r n k:Nat} {b:List Bool} (h:(rws M (some r) n r)[k]?=some b):ixb M r n b=some k:=by
 have hm:=aE h
 unfold ixb
 rw[if_pos hm,ii' (mX' hm) h]
theorem mY' {M:List Rm} {r n:Nat} {b:List Bool} (h:b∉rws M (some r) n r):ixb M r n b=none:=if_neg h
theorem sX' {M:List Rm} {r n:Nat} {b:List Bool} (h:b.length≠n):ixb M r n b=none:=mY' fun z=>h (fS' z)
theorem qD' {M:List Rm} {r n:Nat} {b:List Bool} (h:wk M (some r) b≠some r):ixb M r n b=none:=mY' fun z=>by
 obtain⟨e,he,hg⟩:=qA' z
 rcases hg with hg|hg
 .cases hg
 .cases hg;exact h he
theorem jz' {M:List Rm} {r n p i:Nat} {l:List Bool}:acb M r n p l (i+1)=acb M r n p l i++[bz p (vb M r n (blk n l i))]:=by
 unfold acb
 rw[cc,aI]
 rfl
theorem il' {M:List Rm} {r n p i:Nat} {l:List Bool}:(acb M r n p l i).length=i:=by unfold acb;rw[ai,bF]
theorem jA' {M:List Rm} {r n p i:Nat} {l:List Bool}:∀b∈acb M r n p l i,b.length=p:=fun b hb=>by
 obtain⟨j,_,rfl⟩:=aQ.mp hb
 exact fk'
theorem sY' {m n i:Nat} {l:List Bool} (h:i<m):(bks n l m)[i]?=some (blk n l i):=sQ' h
def im' (K:W.Frag):Sp:=fun vs H Q _=>∃(a t:Addr) (M:List Rm) (r n:Nat) (b:List Bool),vs=[.ref a,.ref t,.int r,.str (tx b)]/\IsM H a M/\OkM M/\M.length<=500/\r<M.length/\n<=20/\b.length<=900/\Tbs H t M (some r) n/\∀H',aD' H H'->Q (oV (ixb M r n b)) H'
theorem oM' {C:Rc} (hN:C.N.length=4) (hW:C.fs "walk"=some fj') (hL:C.fs "number_left"=some (b7' C.K)):∀vs H Q E,im' C.K vs H Q E->tSs C bf' { nx:=fun _ H'=>Q .non H',rt:=Q } (L2.aB' C.N vs) H:=by
 intro vs H Q E h
 obtain⟨a,t,M,r,n,b,rfl,hM,hO,hM5,hr,hn,hb,hTb,q⟩:=h
 rw[al' hN]
 unfold bf'
 obtain⟨vs',ht,hA⟩:=id hTb
 have hvl:vs'.length=n+1:=by rw[hA.len,bF]
 walk_at "y"
 refine⟨au' (by omega),?_⟩
 refine cx' (SqL.of ht) ?_
 rw[hvl]
 walk_at "y"
 by_cases hbn:b.length=n
 .rw[show decide ((b.length:Int)=((n+1:Nat):Int)-1)=true from decide_eq_true (by omega)]
  walk_at "y"
  refine ag' hW ?_
  walk_at "y"
  refine⟨a,M,r,b,rfl,hM,hO,hr,?_⟩
  cases hw:wk M (some r) b with
  |none=>
   have q':=q H (aD'.refl _)
   rw[qD' (by rw[hw];intro z;cases z)]at q'
   simp only[oV]at q' ⊢
   walk_at "y"
   rw[vJ' (x:=.non) rfl,show decide (V.non=V.int (r:Int))=false from decide_eq_false (fun z=>by cases z)]
   walk_at "y"
   exact q'
  |some e=>
   simp only[oV]
   walk_at "y"
   by_cases he:e=r
   .subst he
    rw[show decide ((e:Int)=(e:Int))=true from decide_eq_true rfl]
    walk_at "y"
    refine ag' hL ?_
    walk_at "y"
    refine⟨a,t,M,some e,e,e,b,rfl,hM,hO,hM5,by rw[hbn];exact hTb,hb,hr,hw,.inr rfl,fun k H1 s1 hk=>?_⟩
    rw[hbn]at hk
    have q':=q H1 s1
    rw[qC' hk]at q'
    exact q'
   .rw[show decide ((e:Int)=(r:Int))=false from decide_eq_false (by omega)]
    walk_at "y"
    have q':=q H (aD'.refl _)
    rw[qD' (by rw[hw];intro z;cases z;exact he rfl)]at q'
    exact q'
 .rw[show decide ((b.length:Int)=((n+1:Nat):Int)-1)=false from decide_eq_false (by omega)]
  walk_at "y"
  have q':=q H (aD'.refl _)
  rw[sX' hbn]at q'
  exact q'
structure Pts (n m:Nat) (l:List Bool):Prop where
 n1:1<=n
 le:l.length<=m*n
 lt:m*n<l.length+n
 l9:l.length<=300
theorem Pts.m3 {n m:Nat} {l:List Bool} (P:Pts n m l):m<=301:=by
 have h1:=P.lt
 have h2:=P.l9
 have h3:=P.n1
 rcases Nat.lt_or_ge 301 m with z|z
 .exfalso
  have h4:302*n<=m*n:=Nat.mul_le_mul_right n z
  have h5:301*1<=301*n:=Nat.mul_le_mul_left 301 h3
  omega
 .exact z
def g9':Sp:=fun vs H Q E=>∃(a:Addr) (M:List Rm) (r n p m:Nat) (l:List Bool),vs=[.ref a,.int r,.int n,.str (tx l)]/\IsM H a M/\OkM M/\M.length<=500/\Tab M r n p/\Pts n m l/\((∀j,j<m->okb M r n p (blk n l j)=true)->∀H',aD' H H'->Q (.str (tx (acb M r n p l m).flatten)) H')/\
 ∀i,i<m->okb M r n p (blk n l i)=false->(∀j,j<i->okb M r n p (blk n l j)=true)->∀H' d,aD' H H'->H' d=some (.xd [("block",.int i)])->E (.str "BadBlock" 0) (some d) H'
theorem oN' {C:Rc} {Cb:Addr} (hN:C.N.length=10) (hWs0:C.fs "ways"=some (eI' C.K)) (hG0:C.fs "greatest_power"=some sO') (hB0:C.fs "blocks_of"=some bN') (hRN0:C.fs "round_number"=some (im' C.K)) (hP0:C.fs "is_power_at_least"=some ig') (hBB0:C.fs "bits_by"=some ch')
  (hc0:C.cl "BadBlock"=some Cb) (hi0:C.ini "BadBlock"=some ("block":Str)):∀vs H Q E,g9' vs H Q E->tSs { C with xk:=fun _=>E } bw' { nx:=fun _ H'=>Q .non H',rt:=Q } (L2.aB' C.N vs) H:=by
 intro vs H Q E h
 obtain⟨a,M,r,n,p,m,l,rfl,hM,hO,hM5,T,P,q,qx⟩:=h
 rw[al' hN]
 unfold bw'
 generalize hC:({ C with xk:=fun _=>E }:Rc)=C'
 have hWs:C'.fs "ways"=some (eI' C'.K):=by rw[<- hC];exact hWs0
 have hG:C'.fs "greatest_power"=some sO':=by rw[<- hC];exact hG0
 have hB:C'.fs "blocks_of"=some bN':=by rw[<- hC];exact hB0
 have hRN:C'.fs "round_number"=some (im' C'.K):=by rw[<- hC];exact hRN0
 have hP:C'.fs "is_power_at_least"=some ig':=by rw[<- hC];exact hP0
 have hBB:C'.fs "bits_by"=some ch':=by rw[<- hC];exact hBB0
 have hcl:C'.cl "BadBlock"=some Cb:=by rw[<- hC];exact hc0
 have hini:C'.ini "BadBlock"=some ("block":Str):=by rw[<- hC];exact hi0
 have hE:∀σ,C'.xk σ=E:=fun σ=>by rw[<- hC]
 have hn:=T.n20
 have hp1:=T.p1
 have hpn:=T.pn
 have hm3:=P.m3
 have hl9:=P.l9
 have hn1:=P.n1
 walk_at "y"
 refine ag' hWs ?_
 walk_at "y"
 refine⟨a,M,some r,n,rfl,hM,hO,hM5,by omega,fun t vs' H1 ht s1 ht1 hA=>?_⟩
 have hTb:=wk' ht1 hA
 walk_at "y"
 refine ag' hG ?_
 walk_at "y"
 refine hTb.at (al _) fun e he=>?_
 walk_at "y"
 refine yL' he T.hr ?_
 walk_at "y"
 refine⟨_,rfl,?_⟩
 rw[yM' T]
 walk_at "y"
 refine⟨by decide,fun A hA1=>?_⟩
 obtain⟨s2,hA2⟩:=snw hA1 (.lst [])
 generalize upd H1 A _=H2 at s2 hA2 ⊢
 walk_at "y"
 refine ag' hB ?_
 walk_at "y"
 refine⟨l,n,m,rfl,by omega,by omega,P.le,P.lt,by omega,fun f H3 hf s3 hf3=>?_⟩
 have hfA:f≠A:=fun z=>by rw[z,hA2]at hf;cases hf
 have hA3:=s3 _ _ hA2
 have s13:aD' H1 H3:=s2.trans s3
 refine jd' (SqL.of hf3) (vA' (xs:=(bks n l m).map tV) (fun i σ H'=>(∃x7 x8 x9,σ=[some (.ref a),some (.int r),some (.int n),some (.str (tx l)),some (.ref t),some (.int p),some (.ref A),x7,x8,x9])/\i<=m/\(∀j,j<i->okb M r n p (blk n l j)=true)/\H' A=some (.lst ((acb M r n p l i).map tV))/\Kp A H3 H') ⟨⟨_,_,_,rfl⟩,aT _,fun j hj=>absurd hj (Nat.not_lt_zero _),hA3,.of (aD'.refl _)⟩ (fun i σ H' _ pv=>SqL.of (pv.2.2.2.2 _ _ hfA hf3)) ?_ ?_)
 .rintro i x σ H4 pt hx hpt ⟨⟨x7,x8,x9,rfl⟩,_,hok,hA4,k4⟩
  have hi:i<m:=by have:=aq' hx;rwa [ai,if']at this
  rw[az,sY' hi]at hx
  cases hx
  have hbl:(blk n l i).length<=900:=by unfold blk;rw[aW];omega
  have hsucc:=jz' (M:=M) (r:=r) (n:=n) (p:=p) (i:=i) (l:=l)
  obtain⟨b,eb⟩:∃b,b=blk n l i:=⟨_,rfl⟩
  rw[<- eb]at hbl hsucc
  simp only[tV]
  rw[<- eb]
  refine dg' (SqT.of aa') ?_
  have s5:=af' hpt (.tup [.int i,.str (tx b)])
  generalize upd H4 pt (.tup [.int i,.str (tx b)])=H5 at s5 ⊢
  have s15:aD' H1 H5:=(k4.full hA1 s13).trans s5
  walk_at "y"
  refine ag' hRN ?_
  walk_at "y"
  refine⟨a,t,M,r,n,b,rfl,hM.mono (ax' (s1.trans s15)),hO,hM5,T.hr,hn,hbl,hTb.mono s15,fun H6 s6=>?_⟩
  have raise:okb M r n p b=false->∀H',aD' H6 H'->∀x9 D,tS C' (.rsi "BadBlock" (.var 7)) D [some (.ref a),some (.int r),some (.int n),some (.str (tx l)),some (.ref t),some (.int p),some (.ref A),some (.int i),some (.str (tx b)),x9] H':=by
   intro hb H' s7 x9 D
   refine yz' hcl hini ?_
   walk_at "y"
   refine vZ' fun d hd=>?_
   rw[hE]
   exact qx i hi (by rw[<- eb];exact hb) hok _ d (((s1.trans s15).trans (s6.trans s7)).trans (af' hd _)) aa'
  cases hx:ixb M r n b with
  |none=>
   have hb:okb M r n p b=false:=by unfold okb;rw[hx]
   simp only[oV]
   walk_at "y"
   exact raise hb _ (aD'.refl _) _ _
  |some k=>
   simp only[oV]
   walk_at "y"
   refine ag' hP ?_
   walk_at "y"
   refine⟨k,p,rfl,?_⟩
   by_cases hk:2 ^ p<=k
   .rw[decide_eq_true hk]
    have hb:okb M r n p b=false:=by unfold okb;rw[hx];exact decide_eq_false (by omega)
    walk_at "y"
    exact raise hb _ (aD'.refl _) _ _
   .rw[decide_eq_false hk]
    have hb:okb M r n p b=true:=by unfold okb;rw[hx];exact decide_eq_true (by omega)
    have hv:vb M r n b=k:=by unfold vb;rw[hx];rfl
    walk_at "y"
    have hA6:=s6 _ _ (s5 _ _ hA4)
    refine⟨tyL hA6 rfl,?_⟩
    refine ag' hBB ?_
    walk_at "y"
    refine⟨k,p,rfl,by omega,fun H7 s7=>?_⟩
    walk_at "y"
    refine jg' (s7 _ _ hA6) (by rw[ai,il'];exact ai' (by omega)) ?_
    walk_at "y"
    refine⟨⟨_,_,_,rfl⟩,hi,fun j hj=>?_,?_,(((k4.same s5).same s6).same s7).upd⟩
    .by_cases z:j=i
     .rw[z,<- eb];exact hb
     .exact hok j (by omega)
    .rw[aa',hsucc,hv,aI]
     rfl
 .rintro σ H4 ⟨⟨x7,x8,x9,rfl⟩,_,hok,hA4,k4⟩
  rw[ai,if']at hok hA4
  walk_at "y"
  refine⟨rfl,?_⟩
  have hfl:(acb M r n p l m).flatten.length<=16000000:=by
   rw[fT' jA',il']
   have:m*p<=301*20:=Nat.mul_le_mul hm3 (by omega)
   omega
  refine mm' (SqL.of hA4) hfl ?_
  exact q hok _ (s1.trans (k4.full hA1 s13))
theorem mZ' {row:List Bool}:∀{L:List (List Bool)},inV (.str (tx row)) (L.map rV)=decide (row∈L)
 | []=>rfl
 |x :: r=>by
  have ih:=mZ' (row:=row) (L:=r)
  unfold inV at ih ⊢
  rw[aJ,bR,ih]
  have e:eqV (rV x) (.str (tx row))=decide (x=row):=by
   show(tx x == tx row)=_
   by_cases h:x=row
   .subst h;simp
   .have h':tx x≠tx row:=fun z=>h (R3.jc' z)
    simp[h,h']
  rw[e]
  by_cases h:x=row
  .subst h;simp
  .have h':¬row=x:=fun z=>h z.symm
   simp[h,h']
theorem m0' {L:List (List Bool)}:(L.map rV).all fr'=true:=by
 rw[List.all_map]
 exact bJ.mpr fun _ _=>rfl
theorem sZ' {K:W.Frag} {H:Hp} {Q:VK} {row:List Bool} {p:Addr} {L:List (List Bool)} (h:H p=some (.lst (L.map rV))) (q:Q (.bl (!decide (row∈L))) H):cL' K .NotIn (.str (tx row)) (.ref p) H Q:=⟨p,L.map rV,rfl,.inl (SqL.of h),rfl,m0',by rw[if_pos rfl,mZ'];exact q⟩
theorem qE' {K:W.Frag} {H:Hp} {Q:VK} {R:Addr} {L:List (List Bool)} {b:List Bool} {k:Nat} (h:H R=some (.lst (L.map rV))) (hk:L[k]?=some b) (hmin:∀j,j<k->L[j]?≠some b) (q:Q (.int k) H):tyV K (fG' .indexL) (.ref R) H/\j0' K .indexL (.ref R) [.str (tx b)] H Q:=by
 refine⟨.inl ⟨rfl,_,SqL.of h⟩,R,_,_,k,rfl,rfl,SqL.of h,fun z hz=>?_,by rw[az,hk];rfl,fun j hj z=>?_,q⟩
 .obtain⟨c,_,rfl⟩:=aQ.mp hz
  exact⟨rfl,fun _ z=>by cases z⟩
 .rw[az]at z
  cases ej:L[j]? with
  |none=>rw[ej]at z;cases z
  |some y=>
   rw[ej]at z
   have zz:tx y=tx b:=V.str.inj (Option.some.inj z)
   rw[R3.jc' zz]at ej
   exact hmin j hj ej
def m1':Sp:=fun vs H Q _=>∃(R:Addr) (M:List Rm) (r n p m:Nat) (l:List Bool),vs=[.ref R,.int p,.int n,.str (tx l)]/\H R=some (.lst ((rws M (some r) n r).map rV))/\p<=20/\n<=20/\Pts n m l/\((∀j,j<m->okb M r n p (blk n l j)=true)->∀H',aD' H H'->Q (.str (tx (acb M r n p l m).flatten)) H')/\
 ∀i,i<m->okb M r n p (blk n l i)=false->(∀j,j<i->okb M r n p (blk n l j)=true)->∀H',aD' H H'->Q (.int i) H'
theorem oO' {C:Rc} (hN:C.N.length=9):∀vs H Q E,m1' vs H Q E->tSs C oJ' { nx:=fun _ H'=>Q .non H',rt:=Q } (L2.aB' C.N vs) H:=by
 intro vs H Q E h
 obtain⟨R,M,r,n,p,m,l,rfl,hR,hp,hn,P,q,qx⟩:=h
 rw[al' hN]
 unfold oJ'
 have hm3:=P.m3
 have hl9:=P.l9
 have hn1:=P.n1
 walk_at "y"
 refine⟨au' (by omega),?_⟩
 refine vU' (by omega) (by omega) (by omega) (by omega) (by omega) (by omega) ?_
 rw[js' hn1 P.le P.lt]
 refine yw' (fun i σ H'=>(∃x5 x6 x7 x8,σ=[some (.ref R),some (.int p),some (.int n),some (.str (tx l)),some (.str (tx (acb M r n p l i).flatten)),x5,x6,x7,x8])/\(∀j,j<i->okb M r n p (blk n l j)=true)/\aD' H H') ⟨⟨_,_,_,_,rfl⟩,fun j hj=>absurd hj (Nat.not_lt_zero _),aD'.refl _⟩ ?_ ?_
 .rintro i σ H1 hi ⟨⟨x5,x6,x7,x8,rfl⟩,hok,s1⟩
  have hR1:=s1 _ _ hR
  have hsucc:=jz' (M:=M) (r:=r) (n:=n) (p:=p) (i:=i) (l:=l)
  have hal:(acb M r n p l i).flatten.length<=10000:=by
   rw[fT' jA',il']
   have:i*p<=301*20:=Nat.mul_le_mul (by omega) hp
   omega
  walk_at "y"
  rw[show(0:Int)+(i:Int)*(n:Int)=((i*n:Nat):Int) by rw[Int.natCast_mul,Int.zero_add],show((i*n:Nat):Int)+(n:Int)=((i*n+n:Nat):Int) by omega]
  refine qx' (au' (by omega)) (by omega) ?_
  rw[bf]
  obtain⟨b,eb⟩:∃b,b=blk n l i:=⟨_,rfl⟩
  rw[show(l.drop (i*n)).take n=b from eb.symm]
  rw[<- eb]at hsucc
  have back:okb M r n p b=false->rI' (i*n:Nat) n/\Q (.int (((i*n:Nat):Int) / (n:Int))) H1:=fun hb=>by
   refine⟨⟨by omega,.inl (by omega)⟩,?_⟩
   rw[show((i*n:Nat):Int) / (n:Int)=(i:Int) by rw[Int.natCast_mul,Int.mul_ediv_cancel _ (by omega)]]
   exact qx i hi (by rw[<- eb];exact hb) hok _ s1
  walk_at "y"
  refine sZ' hR1 ?_
  by_cases hm:b∈rws M (some r) n r
  .rw[decide_eq_true hm]
   walk_at "y"
   have hg:=mX' hm
   have hx:=qC' hg
   generalize (rws M (some r) n r).idxOf b=k at hg hx
   refine qE' hR1 hg (fun j hj z=>absurd (ii' z hg) (by omega)) ?_
   walk_at "y"
   refine⟨⟨by omega,by omega,by decide +kernel⟩,?_⟩
   rw[show(1:Int)*2 ^ ((p:Int).toNat)=((2 ^ p:Nat):Int) by rw[aK,Int.one_mul,Int.natCast_pow];rfl]
   walk_at "y"
   by_cases hk:2 ^ p<=k
   .rw[show decide (((2 ^ p:Nat):Int)<=(k:Int))=true from decide_eq_true (by omega)]
    have hb:okb M r n p b=false:=by unfold okb;rw[hx];exact decide_eq_false (by omega)
    walk_at "y"
    exact back hb
   .rw[show decide (((2 ^ p:Nat):Int)<=(k:Int))=false from decide_eq_false (by omega)]
    have hb:okb M r n p b=true:=by unfold okb;rw[hx];exact decide_eq_true (by omega)
    have hv:vb M r n b=k:=by unfold vb;rw[hx];rfl
    walk_at "y"
    refine qE' hR1 hg (fun j hj z=>absurd (ii' z hg) (by omega)) ?_
    walk_at "y"
    refine⟨rfl,?_⟩
    refine dP' (by omega) (by omega) (mf' (fun j xs H'=>xs=oD' ((bz p k).take j)/\H'=H1) ⟨rfl,rfl⟩ ?_ ?_)
    .rintro j xs H' R' hj ⟨rfl,rfl⟩ hRR
     have hj:j<p:=by omega
     have hc:(bz p k)[j]?=some (decide (k / 2 ^ (p-1-j) % 2=1)):=by
      unfold bz
      rw[az,br hj]
      rfl
     walk_at "y"
     refine⟨by omega,by decide,?_⟩
     have e1:((p:Int)-1-(0+(j:Int))).toNat=p-1-j:=by omega
     have e2:(k:Int) / 2 ^ (p-1-j) % 2=if decide (k / 2 ^ (p-1-j) % 2=1)then 1 else 0:=by
      have h2:((k / 2 ^ (p-1-j) % 2:Nat):Int)=(k:Int) / 2 ^ (p-1-j) % 2:=by
       rw[Int.natCast_emod,ck,Int.natCast_pow];rfl
      rw[<- h2]
      generalize k / 2 ^ (p-1-j)=z
      by_cases hz:z % 2=1
      .rw[decide_eq_true hz,hz];rfl
      .rw[decide_eq_false hz,show z % 2=0 by omega];rfl
     rw[e1,e2]
     generalize decide (k / 2 ^ (p-1-j) % 2=1)=c at hc
     refine dA' (c:=c) (by cases c<;>decide) (by cases c<;>rfl) ?_
     walk_at "y"
     refine⟨by rw[jq',aW];exact ai' (by omega),hRR _ _ ⟨by rw[fR' hc];exact g4',rfl⟩⟩
    .rintro xs H' ⟨rfl,rfl⟩ pl hpl
     rw[ba (by rw[fk'];omega)]
     walk_at "y"
     refine jr' (SqL.of aa') (by rw[fk'];omega) ?_
     walk_at "y"
     refine⟨by rw[fk'];show _<=16777216;omega,⟨some (.int (i*n:Nat)),some (.str (tx b)),some (.int k),x8,?_⟩,fun j hj=>?_,s1.trans (af' hpl _)⟩
     .rw[hsucc,hv,List.flatten_append,List.flatten_singleton]
     .by_cases z:j=i
      .rw[z,<- eb];exact hb
      .exact hok j (by omega)
  .rw[decide_eq_false hm]
   have hb:okb M r n p b=false:=by unfold okb;rw[mY' hm]
   walk_at "y"
   exact back hb
 .rintro σ H1 ⟨⟨x5,x6,x7,x8,rfl⟩,hok,s1⟩
  walk_at "y"
  exact q hok _ s1
def ha':Sp:=fun vs H Q _=>∃(a:Addr) (M:List Rm) (r n p m:Nat) (l:List Bool),vs=[.ref a,.int r,.int n,.str (tx l)]/\IsM H a M/\OkM M/\M.length<=500/\Tab M r n p/\Pts n m l/\((∀j,j<m->okb M r n p (blk n l j)=true)->∀H',aD' H H'->Q (.str (tx (acb M r n p l m).flatten)) H')/\
 ∀i,i<m->okb M r n p (blk n l i)=false->(∀j,j<i->okb M r n p (blk n l j)=true)->∀H',aD' H H'->Q (.int i) H'
theorem m2' {C:Rc} {Cr:Addr} (hN:C.N.length=6) (hT0:C.fs "table_read"=some g9') (G:ClsB C "BadBlock" Cr R3.CL5) (X:∃fI,Xi C.K Cr fI "block"):∀vs H Q E,ha' vs H Q E->tSs C jw' { nx:=fun _ H'=>Q .non H',rt:=Q } (L2.aB' C.N vs) H:=by
 intro vs H Q E h
 obtain⟨a,M,r,n,p,m,l,rfl,hM,hO,hM5,T,P,q,qx⟩:=h
 obtain⟨fI,xi⟩:=X
 rw[al' hN]
 unfold jw'
 walk_at "y"
 rw[yy']
 generalize hC:({ C with xk:=jk' C "RunError" 5 _ _ }:Rc)=C'
 have hT':C'.fs "table_read"=some g9':=by rw[<- hC];exact hT0
 have fin:∀(i:Nat) (d:Addr) (H1:Hp),(∀H',aD' H H'->Q (.int i) H')->aD' H H1->H1 d=some (.xd [("block",.int i)])->C'.xk [some (.ref a),some (.int r),some (.int n),some (.str (tx l)),some .non,none] (.str "BadBlock" 0) (some d) H1:=by
  intro i d H1 q1 s1 hd
  rw[<- hC]
  refine G.caught fun e he=>?_
  obtain⟨s2,he2⟩:=snw he (eR' e Cr (some d))
  have hd2:=s2 _ _ hd
  generalize upd H1 e _=H2 at s2 he2 hd2 ⊢
  (try walk_at "sx")
  refine G.isx (c:="BadBlock") (by decide +kernel) he2 rfl ?_
  rw[show decide (("BadBlock":Str)="BadBlock")=true by decide +kernel]
  (try walk_at "sx")
  refine G.isx4 (by decide +kernel) he2 rfl fun H3 s3=>?_
  (try walk_at "sx")
  refine G.isv (s3 _ _ he2) rfl ?_
  (try walk_at "sx")
  refine yA' rfl (s3 _ _ he2) G.x xi (s3 _ _ hd2) ?_
  exact q1 _ (s1.trans (s2.trans s3))
 walk_at "y"
 refine ag' hT' ?_
 walk_at "y"
 exact⟨a,M,r,n,p,m,l,rfl,hM,hO,hM5,T,P,fun ok H1 s1=>q ok H1 s1,fun i hi hb hok H1 d s1 hd=>fin i d H1 (qx i hi hb hok) s1 hd⟩
theorem oP' {L:List (List Bool)} {i:Int} (h0:i<0) (h1:-(L.length:Int)<=i):∃x∈L,atI (L.map rV) i=some (rV x):=by
 have hj:(i+L.length).toNat<L.length:=by omega
 refine⟨_,cj hj,?_⟩
 unfold atI ixN
 rw[if_neg (by omega),ai,if_pos (by omega)]
 show(L.map rV)[(i+L.length).toNat]?=_
 rw[az,ac hj]
 rfl
def hh':Sp:=fun vs H Q _=>∃(b a R:Addr) (z:Nat) (M:List Rm) (r n:Nat) (L:List (List Bool)) (l:List Bool),vs=[.ref b,.ref a,.int r,.int n,.ref R,.str (tx l)]/\H b=some (dy' b z)/\z<=2 ^ 38/\IsM H a M/\OkM M/\r<M.length/\1<=n/\n<=8/\H R=some (.lst (L.map rV))/\1<=L.length/\L.length<=300/\(∀x∈L,x.length=n)/\l.length<=100/\∀(x:List Bool) (H':Hp),x.length<=299->Go 20 H H'->Q (.str (tx x)) H'
theorem m3' {C:Rc} (hN:C.N.length=9) (hT:C.fs "_law_take"=some aO') (hW:C.fs "_law_walked"=some dk'):∀vs H Q E,hh' vs H Q E->tSs C jy' { nx:=fun _ H'=>Q .non H',rt:=Q } (L2.aB' C.N vs) H:=by
 intro vs H Q E h
 obtain⟨b,a,R,z,M,r,n,L,l,rfl,hb,hz,hM,hO,hr,hn1,hn8,hR,hL1,hL3,hLn,hl,q⟩:=h
 rw[al' hN]
 unfold jy'
 walk_at "y"
 refine ag' hT ?_
 walk_at "y"
 refine⟨b,z,7,rfl,hb,by omega,by omega,by omega,fun w H1 hw0 hw1 g1=>?_⟩
 obtain⟨w,rfl⟩:=ay hw0
 obtain⟨z1,hb1,hz1,_⟩:=g1.boxed hb (by omega)
 walk_at "y"
 refine ag' hT ?_
 walk_at "y"
 refine⟨au' (by omega),?_⟩
 refine⟨b,z1,_,rfl,hb1,by omega,by omega,by omega,fun t H2 ht0 ht1 g2=>?_⟩
 obtain⟨t,rfl⟩:=ay ht0
 have g02:Go 2 H H2:=(g1.trans g2).mono (by omega)
 obtain⟨z2,hb2,hz2,_⟩:=g02.boxed hb (by omega)
 have hR2:=g02.lst hR
 have hM2:=hM.mono (mP' g02)
 have ht:t<=l.length:=by omega
 have sl0:∀k,(l.take k).length<=100:=fun k=>by rw[aW];omega
 have sl1:∀k,(l.drop k).length<=100:=fun k=>by rw[List.length_drop];omega
 walk_at "y"
 refine aV' (fun h0=>?_) fun h0=>?_
 .walk_at "y"
  exact q _ _ (by omega) (g02.mono (by omega))
 walk_at "y"
 have cut:∀k,(l.take k).length<=l.length:=fun k=>by rw[aW];omega
 have app:∀(c:Bool) k j,((l.take k++[c])++l.drop j).length<=201:=fun c k j=>by
  have h1:=sl0 k
  have h2:=sl1 j
  simp only[ao,bK]
  omega
 have cs:((t:Int)+1)=((t+1:Nat):Int):=rfl
 refine aV' (fun h1=>?_) fun h1=>?_
 focus
  walk_at "y"
  refine⟨au' (by omega),aV' (fun h2=>?_) fun h2=>?_⟩
 .walk_at "y"
  have ht2:t<l.length:=by omega
  refine cG' (au' (by omega)) ht ?_
  walk_at "y"
  refine dA' (c:=l[t]) (au' (by omega)) (bX' (ac ht2)) ?_
  generalize l[t]=c
  walk_at "y"
  refine dA' (l:=[true,false]) (c:=!c) (by decide) (by cases c<;>rfl) ?_
  walk_at "y"
  refine⟨au' (by have:=sl0 t;omega),?_⟩
  rw[cs]
  refine eK' (au' (by omega)) ?_
  walk_at "y"
  have:=app (!c) t (t+1)
  rw[ao]at this
  exact⟨au' (by omega),q _ _ (by rw[ao];have h1:=sl0 t;have h2:=sl1 (t+1);rw[ao,bK];omega) (g02.mono (by omega))⟩
 all_goals
  walk_at "y"
 all_goals refine aV' (fun h2=>?_) fun h2=>?_
 .exact absurd h2 (by omega)
 rotate_left
 .walk_at "y"
  refine cG' (au' (by omega)) ht ?_
  walk_at "y"
  refine ag' hT ?_
  walk_at "y"
  refine⟨b,z2,2,rfl,hb2,by omega,by omega,by omega,fun c H3 hc0 hc1 g3=>?_⟩
  obtain⟨c,rfl⟩:=ay hc0
  walk_at "y"
  have hat:atI [false,true] (c:Int)=some (decide (c=1)):=by
   have hc:c=0\/c=1:=by omega
   rcases hc with rfl|rfl<;>rfl
  refine dA' (l:=[false,true]) (by decide) hat ?_
  walk_at "y"
  refine⟨au' (by have:=sl0 t;omega),?_⟩
  refine eK' (au' (by omega)) ?_
  walk_at "y"
  have:=app (decide (c=1)) t t
  rw[ao]at this
  exact⟨au' (by omega),q _ _ (by rw[ao];have h1:=sl0 t;have h2:=sl1 t;rw[ao,bK];omega) ((g02.trans g3).mono (by omega))⟩
 all_goals
  walk_at "y"
 all_goals refine aV' (fun h3=>?_) fun h3=>?_
 .walk_at "y"
  refine cG' (au' (by omega)) ht ?_
  walk_at "y"
  rw[cs]
  refine eK' (au' (by omega)) ?_
  walk_at "y"
  refine⟨au' (by have h1:=sl0 t;have h2:=sl1 (t+1);omega),q _ _ (by have h1:=sl0 t;have h2:=sl1 (t+1);rw[ao];omega) (g02.mono (by omega))⟩
 rotate_left
 .exact absurd h3 (by omega)
 all_goals
  walk_at "y"
 all_goals refine aV' (fun h4=>?_) fun h4=>?_
 .exact absurd h4 (by omega)
 rotate_left
 .walk_at "y"
  refine cG' (au' (by omega)) ht ?_
  exact q _ _ (by have:=sl0 t;omega) (g02.mono (by omega))
 all_goals
  walk_at "y"
  refine⟨⟨by omega,.inl (by omega)⟩,?_⟩
  obtain⟨k,hk,hkl⟩:∃k:Nat,(t:Int) / (n:Int)*(n:Int)=(k:Nat)/\k<=l.length:=⟨t / n*n,by rw[Int.natCast_mul,ck],aF (Nat.div_mul_le_self t n) ht⟩
  obtain⟨k',hk',hkl'⟩:∃k:Nat,(t:Int) / (n:Int)=(k:Nat)/\k<=l.length:=⟨t / n,by rw[ck],aF (Nat.div_le_self t n) ht⟩
  rw[hk,hk']
  refine⟨.inl ⟨by omega,by omega⟩,?_⟩
  walk_at "y"
  refine aV' (fun h5=>?_) fun h5=>?_
 .walk_at "y"
  refine cG' (au' (by omega)) hkl ?_
  walk_at "y"
  refine ag' hT ?_
  walk_at "y"
  refine cx' (SqL.of hR2) ?_
  rw[ai]
  walk_at "y"
  have hmn:1<=(if(L.length:Int)<3 then(L.length:Int)else 3)/\(if(L.length:Int)<3 then(L.length:Int)else 3)<=L.length/\(if(L.length:Int)<3 then(L.length:Int)else 3)<=3:=by split<;>omega
  generalize (if(L.length:Int)<3 then(L.length:Int)else 3)=mn at hmn ⊢
  refine⟨b,z2,mn,rfl,hb2,by omega,by omega,by omega,fun c H3 hc0 hc1 g3=>?_⟩
  walk_at "y"
  obtain⟨x,hxm,hat⟩:=oP' (L:=L) (i:=-1-c) (by omega) (by omega)
  have hx:=hLn x hxm
  refine a1' (SqL.of (g3.lst hR2)) hat ?_
  have s0k:=sl0 k
  have s1k:=sl1 k
  simp only[rV]
  walk_at "y"
  refine⟨au' (by omega),?_⟩
  refine eK' (au' (by omega)) ?_
  walk_at "y"
  refine⟨au' (by rw[ao];omega),q _ _ (by rw[ao,ao];omega) ((g02.trans g3).mono (by omega))⟩
 rotate_left
 .exact absurd h5 (by omega)
 all_goals
  walk_at "y"
  refine cG' (au' (by omega)) hkl ?_
  walk_at "y"
  refine ag' hW ?_
  walk_at "y"
  refine⟨b,a,z2,n,r,M,rfl,hb2,by omega,by omega,hM2,hO,hr,fun x H3 hx g3=>?_⟩
  have s0k:=sl0 k
  have s1k:=sl1 k
  walk_at "y"
  refine⟨au' (by omega),?_⟩
  refine eK' (au' (by omega)) ?_
  walk_at "y"
  refine⟨au' (by rw[ao];omega),q _ _ (by rw[ao,ao];omega) ((g02.trans g3).mono (by omega))⟩
theorem wn' {n:Nat} {l:List Bool} (hn:1<=n) (hl:l.length<=300):∃m,Pts n m l:=by
 refine⟨(l.length+(n-1)) / n,hn,?_,?_,hl⟩
 .have h:=Nat.div_add_mod (l.length+(n-1)) n
  have h2:=Nat.mod_lt (l.length+(n-1)) (by omega:n > 0)
  rw[Nat.mul_comm]at h
  omega
 .have h:=Nat.div_mul_le_self (l.length+(n-1)) n
  omega
theorem oQ' {c:Nat} (hc:c≠0):Builtin.Int.intBits (c:Int)=c.log2+1:=by
 unfold Builtin.Int.intBits
 rw[Int.natAbs_natCast]
 simp[hc]
structure FsR (C:Rc):Prop where
 take:C.fs "_law_take"=some aO'
 anyM:C.fs "_law_any_machine"=some g5'
 rounds:C.fs "_law_rounds"=some dm'
 bent:C.fs "_law_bent"=some hh'
 told:C.fs "_law_told"=some ha'
 due:C.fs "_law_due"=some m1'
def dC':Sp:=fun vs H Q _=>∃(b:Addr),vs=[.ref b]/\H b=some (dy' b 0)/\∀H',Go 4000 H H'->Q (.bl true) H'
set_option maxHeartbeats 1000000 in
theorem kf' {C:Rc} (hN:C.N.length=11) (F:FsR C):∀vs H Q E,dC' vs H Q E->tSs C fZ' { nx:=fun _ H'=>Q .non H',rt:=Q } (L2.aB' C.N vs) H:=by
 intro vs H Q E h
 obtain⟨b,rfl,hb,q⟩:=h
 rw[al' hN]
 unfold fZ'
 walk_at "y"
 refine ag' F.anyM ?_
 walk_at "y"
 refine⟨b,0,rfl,hb,by omega,fun a M H1 g1 hM hO hl=>?_⟩
 obtain⟨mv,hmv,hmr⟩:=id hM
 have hml:=hmr.len
 obtain⟨n1,hb1,hn1,_⟩:=g1.boxed hb (by omega)
 walk_at "y"
 refine dz' (SqT.of hmv) ?_
 rw[hml]
 walk_at "y"
 refine aV' (fun hq=>?_) fun hq=>?_
 .walk_at "y"
  exact q H1 (g1.mono (by omega))
 .walk_at "y"
  refine ag' F.take ?_
  walk_at "y"
  refine dz' (SqT.of hmv) ?_
  rw[hml]
  walk_at "y"
  refine⟨b,n1,_,rfl,hb1,by omega,by omega,by omega,fun r H2 h20 h21 g2=>?_⟩
  obtain⟨r,rfl⟩:=ay h20
  have G2:Go 1001 H H2:=(g1.trans g2).mono (by omega)
  obtain⟨n2,hb2,hn2,_⟩:=G2.boxed hb (by omega)
  walk_at "y"
  refine ag' F.take ?_
  walk_at "y"
  refine⟨b,n2,8,rfl,hb2,by omega,by omega,by omega,fun u H3 hu0 hu1 g3=>?_⟩
  obtain⟨u,rfl⟩:=ay hu0
  have G3:Go 1002 H H3:=(G2.trans g3).mono (by omega)
  obtain⟨n3,hb3,hn3,_⟩:=G3.boxed hb (by omega)
  walk_at "y"
  refine ag' F.take ?_
  walk_at "y"
  refine⟨b,n3,8,rfl,hb3,by omega,by omega,by omega,fun v H4 hv0 hv1 g4=>?_⟩
  obtain⟨v,rfl⟩:=ay hv0
  have G4:Go 1003 H H4:=(G3.trans g4).mono (by omega)
  have g14:Go 3 H1 H4:=((g2.trans g3).trans g4).mono (by omega)
  walk_at "y"
  refine⟨by decide,fun p5 hp5=>?_⟩
  obtain⟨g5,h5⟩:=gnw hp5 (.lst [V.int (1+(u:Int)),V.int (1+(v:Int)),V.int 8])
  generalize upd H4 p5 _=H5 at g5 h5 ⊢
  have G5:Go 1004 H H5:=(G4.trans g5).mono (by omega)
  have hM5:IsM H5 a M:=hM.mono (mP' (g14.trans g5))
  refine ba' (SqL.of h5) (vz' (xs:=[V.int (1+(u:Int)),V.int (1+(v:Int)),V.int 8]) (fun i σ H'=>(∃x3 x4 x5 x6 x7 x8 x9 x10,σ=[some (.ref b),some (.ref a),some (.int r),x3,x4,x5,x6,x7,x8,x9,x10])/\Go (i*500) H5 H') ⟨⟨_,_,_,_,_,_,_,_,rfl⟩,(Go.of_same (c:=0) (aD'.refl _)).mono (by omega)⟩ (fun i σ H' _ pv=>SqL.of (pv.2.lst h5)) ?_ ?_)
  .rintro i y σ H6 hy ⟨⟨x3,x4,x5,x6,x7,x8,x9,x10,rfl⟩,g6⟩
   have hi:i<3:=aq' hy
   obtain⟨n,rfl,hn1',hn8⟩:∃n:Nat,y=V.int (n:Nat)/\1<=n/\n<=8:=by
    match i,hy with
    |0,hy=>cases hy;exact⟨1+u,rfl,by omega,by omega⟩
    |1,hy=>cases hy;exact⟨1+v,rfl,by omega,by omega⟩
    |2,hy=>cases hy;exact⟨8,rfl,by omega,by omega⟩
   have G6:Go (1004+i*500) H H6:=(G5.trans g6).mono (by omega)
   have hM6:IsM H6 a M:=hM5.mono (mP' g6)
   have hr:r<M.length:=by omega
   walk_at "y"
   refine ag' F.rounds ?_
   walk_at "y"
   refine⟨a,M,r,n,rfl,hM6,hO,by omega,hr,hn8,fun R H7 s7 hR=>?_⟩
   have g67:Go (i*500) H5 H7:=(g6.trans (Go.of_same (c:=0) s7)).mono (by omega)
   have hM7:=hM6.mono (ax' s7)
   walk_at "y"
   refine cx' (SqL.of hR) ?_
   rw[ai,cW']
   walk_at "y"
   refine⟨rfl,?_⟩
   walk_at "y"
   have hw8:wy M (some r) n r<=256:=aF sL' (Nat.pow_le_pow_right (by decide) hn8:2 ^ n<=2 ^ 8)
   have hLl:(rws M (some r) n r).length<=300:=by rw[cW'];omega
   refine aV' (fun hp=>?_) fun hp=>?_
   .have hW0:wy M (some r) n r≠0:=fun z=>by rw[z]at hp;exact absurd hp (by decide)
    have eb:=oQ' hW0
    rw[eb]at hp ⊢
    have T:Tab M r n (wy M (some r) n r).log2:=⟨hr,by omega,rfl,by omega⟩
    have hW1:=T.le
    rw[show(((wy M (some r) n r).log2+1:Nat):Int)-1=(((wy M (some r) n r).log2:Nat):Int) by omega]
    generalize (wy M (some r) n r).log2=p at T hW1 ⊢
    have hpn:=T.pn
    have hLn:∀x∈rws M (some r) n r,x.length=n:=fun x hx=>fS' hx
    have hL1:1<=(rws M (some r) n r).length:=by rw[cW'];omega
    rw[<- cW']at hW1
    generalize hLe:rws M (some r) n r=L at hR hLn hL1 hLl hW1
    walk_at "y"
    refine dP' (by omega) (by omega) (fL' (n:=((5:Int)).toNat) (fun j σ H'=>(∃x6 x7 x8 x9 x10,σ=[some (.ref b),some (.ref a),some (.int r),some (.int n),some (.ref R),some (.int p),x6,x7,x8,x9,x10])/\Go (j*50) H7 H') ⟨⟨_,_,_,_,_,rfl⟩,(Go.of_same (c:=0) (aD'.refl _)).mono (by omega)⟩ ?_ ?_)
    .rintro j σ H8 hj ⟨⟨x6,x7,x8,x9,x10,rfl⟩,g8⟩
     have hj:j<5:=hj
     have G8:Go (3000+j*50) H H8:=((G5.trans g67).trans g8).mono (by omega)
     obtain⟨n8,hb8,hn8',_⟩:=G8.boxed hb (by omega)
     walk_at "y"
     refine ag' F.take ?_
     walk_at "y"
     refine⟨b,n8,10,rfl,hb8,by omega,by omega,by omega,fun c H9 hc0 hc1 g9=>?_⟩
     obtain⟨c,rfl⟩:=ay hc0
     have G9:Go 3300 H H9:=(G8.trans g9).mono (by omega)
     have g79:Go (j*50+1) H7 H9:=g8.trans g9
     walk_at "y"
     refine dP' (by omega) (by omega) (fL' (n:=((c:Int)).toNat) (fun i σ H'=>(∃(l:List Bool) (x8:Option V),σ=[some (.ref b),some (.ref a),some (.int r),some (.int n),some (.ref R),some (.int p),some (.int (0+(j:Int))),some (.str (tx l)),x8,x9,x10]/\l.length<=i*8)/\Go i H9 H') ⟨⟨[],_,rfl,by simp⟩,Go.of_same (c:=0) (aD'.refl _)⟩ ?_ ?_)
     .rintro i' σ H10 hi' ⟨⟨l,x8,rfl,hll⟩,g10⟩
      have hi':i'<c:=by omega
      obtain⟨n10,hb10,hn10,_⟩:=(G9.trans g10).boxed hb (by omega)
      walk_at "y"
      refine ag' F.take ?_
      walk_at "y"
      refine⟨⟨by omega,by omega,by decide +kernel⟩,?_⟩
      rw[show(1:Int)*2 ^ ((p:Int).toNat)=((2 ^ p:Nat):Int) by rw[aK,Int.one_mul,Int.natCast_pow];rfl]
      walk_at "y"
      have hp1:=Nat.two_pow_pos p
      refine⟨b,n10,_,rfl,hb10,by omega,by omega,by omega,fun t H11 ht0 ht1 g11=>?_⟩
      obtain⟨t,rfl⟩:=ay ht0
      have htl:t<L.length:=by omega
      have hx:=hLn _ (cj htl)
      walk_at "y"
      refine a1' (SqL.of (((g79.trans g10).trans g11).lst hR)) (v:=rV L[t]) (bX' (by rw[az,ac htl];rfl)) ?_
      generalize L[t]=x at hx ⊢
      simp only[rV]
      walk_at "y"
      refine⟨au' (by omega),⟨l++x,_,rfl,by rw[ao];omega⟩,g10.trans g11⟩
     .rintro σ H10 ⟨⟨l,x8,rfl,hll⟩,g10⟩
      obtain⟨n10,hb10,hn10,_⟩:=(G9.trans g10).boxed hb (by omega)
      have g7x:=g79.trans g10
      walk_at "y"
      refine ag' F.bent ?_
      walk_at "y"
      refine⟨b,a,R,n10,M,r,n,L,l,rfl,hb10,by omega,hM7.mono (mP' g7x),hO,hr,hn1',hn8,g7x.lst hR,hL1,hLl,hLn,by omega,fun x H11 hxl g11=>?_⟩
      obtain⟨m,P⟩:=wn' (l:=x) hn1' (by omega)
      have g7y:Go ((j+1)*50) H7 H11:=(g7x.trans g11).mono (by omega)
      have hM11:=hM7.mono (mP' g7y)
      have hR11:=g7y.lst hR
      rw[<- hLe]at hR11
      walk_at "y"
      refine ag' F.told ?_
      walk_at "y"
      refine⟨a,M,r,n,p,m,x,rfl,hM11,hO,by omega,T,P,fun ok H12 s12=>?_,fun i' hi' hbad hok H12 s12=>?_⟩
      .walk_at "y"
       refine ag' F.due ?_
       walk_at "y"
       refine⟨R,M,r,n,p,m,x,rfl,s12 _ _ hR11,by omega,by omega,P,fun _ H13 s13=>?_,fun i2 hi2 hbad2 _ _ _=>absurd (ok i2 hi2) (by rw[hbad2];decide)⟩
       walk_at "y"
       refine fg' (T:="str") rfl (by decide) (by decide) ?_
       rw[show isT "str" "bool"=false by decide]
       walk_at "y"
       refine fg' (T:="str") rfl (by decide) (by decide) ?_
       walk_at "y"
       refine fg' (T:="str") rfl (by decide) (by decide) ?_
       walk_at "y"
       exact⟨⟨_,_,_,_,_,rfl⟩,(g7y.trans (Go.of_same (c:=0) (s12.trans s13))).mono (by omega)⟩
      .walk_at "y"
       refine ag' F.due ?_
       walk_at "y"
       refine⟨R,M,r,n,p,m,x,rfl,s12 _ _ hR11,by omega,by omega,P,fun ok _ _=>absurd (ok i' hi') (by rw[hbad];decide),fun i2 hi2 hbad2 hok2 H13 s13=>?_⟩
       have e:i2=i':=by
        rcases Nat.lt_trichotomy i2 i' with z|z|z
        .exact absurd (hok i2 z) (by rw[hbad2];decide)
        .exact z
        .exact absurd (hok2 i' z) (by rw[hbad];decide)
       subst e
       walk_at "y"
       refine fg' (T:="int") rfl (by decide) (by decide) ?_
       rw[show isT "int" "bool"=false by decide]
       walk_at "y"
       refine fg' (T:="int") rfl (by decide) (by decide) ?_
       walk_at "y"
       refine fg' (T:="int") rfl (by decide) (by decide) ?_
       walk_at "y"
       exact⟨⟨_,_,_,_,_,rfl⟩,(g7y.trans (Go.of_same (c:=0) (s12.trans s13))).mono (by omega)⟩
    .rintro σ H8 ⟨⟨x6,x7,x8,x9,x10,rfl⟩,g8⟩
     walk_at "y"
     exact⟨⟨_,_,_,_,_,_,_,_,rfl⟩,(g67.trans g8).mono (by simp;omega)⟩
   .walk_at "y"
    exact⟨⟨_,_,_,_,_,_,_,_,rfl⟩,g67.mono (by omega)⟩
  .rintro σ H6 ⟨⟨x3,x4,x5,x6,x7,x8,x9,x10,rfl⟩,g6⟩
   walk_at "y"
   exact q H6 ((G5.trans g6).mono (by simp))
def m4' (K:W.Frag):Sp:=fun vs H Q _=>∃(a:Addr) (ns:List Int),vs=[.ref a]/\SqL K H a (ns.map V.int)/\ns.length<=63/\∀H',Q (.bl true) H'
theorem oR' {C:Rc} (hN:C.N.length=2) (hB:C.fs "_law_box"=some (mx' C.K)) (hR:C.fs "_law_right"=some dC'):∀vs H Q E,m4' C.K vs H Q E->tSs C oL' { nx:=fun _ H'=>Q .non H',rt:=Q } (L2.aB' C.N vs) H:=by
 intro vs H Q E h
 obtain⟨a,ns,rfl,hs,h63,q⟩:=h
 rw[al' hN]
 unfold oL'
 walk_at "y"
 refine cx' hs ?_
 rw[ai]
 walk_at "y"
 generalize hNe:(if(3:Int)<(if(ns.length:Int)<8 then(ns.length:Int)else 8)then(if(ns.length:Int)<8 then(ns.length:Int)else 8)else 3)=N
 have hN0:0<=N/\N<=12:=by
  rw[<- hNe]
  split<;>split<;>omega
 refine dP' (by omega) (by omega) (fL' (fun i σ H'=>(∃x1,σ=[some (.ref a),x1])/\SqL C.K H' a (ns.map V.int)) ⟨⟨none,rfl⟩,hs⟩ ?_ ?_)
 .rintro i σ H0 hi ⟨⟨x1,rfl⟩,hs0⟩
  walk_at "y"
  refine ag' hR ?_
  walk_at "y"
  refine ag' hB ?_
  walk_at "y"
  refine⟨a,ns,_,rfl,hs0,by omega,by omega,fun b hb=>?_⟩
  have hs1:=(af' hb (dy' b 0)).seq hs0
  have hb1:upd H0 b (dy' b 0) b=some (dy' b 0):=aa'
  generalize upd H0 b (dy' b 0)=H1 at hs1 hb1 ⊢
  walk_at "y"
  refine⟨b,rfl,hb1,fun H2 g2=>?_⟩
  walk_at "y"
  exact⟨⟨_,rfl⟩,g2.seq hs1⟩
 .rintro σ H0 ⟨⟨x1,rfl⟩,hs0⟩
  walk_at "y"
  exact q H0
end K36
namespace K36
open PySem PySem.Spec PyProof.Rows L2 R3 LW TM BD RW NR NM K33 SR BK K42 WR K35
def top (i:Nat):Stmt:=PySem.Challenge.pw_runbound_k36_tables_read.main.body.getD i (.Pass ⟨0,0,0,0⟩)
theorem wo':mSs fU' d2' (ab' (top 8)) dX' (aj' (top 8))=true:=by decide +kernel
theorem s0':FnScope fU' ["machine","room","row"] (ab' (top 8)):=⟨rfl,rfl,rfl,by decide +kernel,rfl,by decide +kernel,by decide +kernel⟩
theorem wp':mSs cX' ci' (ab' (top 9)) cd' (aj' (top 9))=true:=by decide +kernel
theorem s1':FnScope cX' ["machine","rooms"] (ab' (top 9)):=⟨rfl,rfl,rfl,by decide +kernel,rfl,by decide +kernel,by decide +kernel⟩
theorem wq':mSs cY' cj' (ab' (top 10)) ce' (aj' (top 10))=true:=by decide +kernel
theorem s2':FnScope cY' ["machine","numbers"] (ab' (top 10)):=⟨rfl,rfl,rfl,by decide +kernel,rfl,by decide +kernel,by decide +kernel⟩
theorem wr':mSs cZ' ck' (ab' (top 11)) cf' (aj' (top 11))=true:=by decide +kernel
theorem s3':FnScope cZ' ["machine"] (ab' (top 11)):=⟨rfl,rfl,rfl,by decide +kernel,rfl,by decide +kernel,by decide +kernel⟩
theorem oS':mSs bu' bc' (ab' (top 13)) br' (aj' (top 13))=true:=by decide +kernel
theorem m5':FnScope bu' ["machine","numbers","room","bit"] (ab' (top 13)):=⟨rfl,rfl,rfl,by decide +kernel,rfl,by decide +kernel,by decide +kernel⟩
theorem m6':mSs bV' bB' (ab' (top 14)) bU' (aj' (top 14))=true:=by decide +kernel
theorem kg':FnScope bV' ["machine","numbers"] (ab' (top 14)):=⟨rfl,rfl,rfl,by decide +kernel,rfl,by decide +kernel,by decide +kernel⟩
theorem wt':mSs d3' dn' (ab' (top 15)) dZ' (aj' (top 15))=true:=by decide +kernel
theorem s4':FnScope d3' ["machine","goal","many"] (ab' (top 15)):=⟨rfl,rfl,rfl,by decide +kernel,rfl,by decide +kernel,by decide +kernel⟩
theorem m7':mSs bl' a2' (ab' (top 16)) bk' (aj' (top 16))=true:=by decide +kernel
theorem kh':FnScope bl' ["machine","left","room","row"] (ab' (top 16)):=⟨rfl,rfl,rfl,by decide +kernel,rfl,by decide +kernel,by decide +kernel⟩
theorem oT':mSs cl' bG' (ab' (top 18)) bF' (aj' (top 18))=true:=by decide +kernel
theorem m8':FnScope cl' ["row","many"] (ab' (top 18)):=⟨rfl,rfl,rfl,by decide +kernel,rfl,by decide +kernel,by decide +kernel⟩
theorem oU':mSs c0' cm' (ab' (top 19)) cg' (aj' (top 19))=true:=by decide +kernel
theorem m9':FnScope c0' ["number","many"] (ab' (top 19)):=⟨rfl,rfl,rfl,by decide +kernel,rfl,by decide +kernel,by decide +kernel⟩
theorem yN':mSs a3' aJ' (ab' (top 21)) aI' (aj' (top 21))=true:=by decide +kernel
theorem wu':FnScope a3' ["count","p"] (ab' (top 21)):=⟨rfl,rfl,rfl,by decide +kernel,rfl,by decide +kernel,by decide +kernel⟩
theorem Aq':mSs bm' aZ' (ab' (top 22)) aY' (aj' (top 22))=true:=by decide +kernel
theorem yO':FnScope bm' ["count"] (ab' (top 22)):=⟨rfl,rfl,rfl,by decide +kernel,rfl,by decide +kernel,by decide +kernel⟩
theorem Ar':mSs bg' aW' (ab' (top 23)) bf' (aj' (top 23))=true:=by decide +kernel
theorem yP':FnScope bg' ["machine","left","room","block"] (ab' (top 23)):=⟨rfl,rfl,rfl,by decide +kernel,rfl,by decide +kernel,by decide +kernel⟩
theorem As':mSs bv' bd' (ab' (top 24)) bw' (aj' (top 24))=true:=by decide +kernel
theorem yQ':FnScope bv' ["machine","room","many","row"] (ab' (top 24)):=⟨rfl,rfl,rfl,by decide +kernel,rfl,by decide +kernel,by decide +kernel⟩
theorem yR':mSs bi' aU' (ab' (top 26)) aT' (aj' (top 26))=true:=by decide +kernel
theorem wv':FnScope bi' ["bounds"] (ab' (top 26)):=⟨rfl,rfl,rfl,by decide +kernel,rfl,by decide +kernel,by decide +kernel⟩
theorem At':mSs bO' bn' (ab' (top 27)) bj' (aj' (top 27))=true:=by decide +kernel
theorem yS':FnScope bO' ["bounds","room","bit"] (ab' (top 27)):=⟨rfl,rfl,rfl,by decide +kernel,rfl,by decide +kernel,by decide +kernel⟩
theorem yT':mSs a4' aK' (ab' (top 28)) aH' (aj' (top 28))=true:=by decide +kernel
theorem ww':FnScope a4' ["bounds","rooms"] (ab' (top 28)):=⟨rfl,rfl,rfl,by decide +kernel,rfl,by decide +kernel,by decide +kernel⟩
theorem yU':mSs b0' bx' (ab' (top 29)) bt' (aj' (top 29))=true:=by decide +kernel
theorem wx':FnScope b0' ["bounds"] (ab' (top 29)):=⟨rfl,rfl,rfl,by decide +kernel,rfl,by decide +kernel,by decide +kernel⟩
theorem wy':mSs do' cz' (ab' (top 31)) di' (aj' (top 31))=true:=by decide +kernel
theorem s5':FnScope do' ["_law_script","_law_k"] (ab' (top 31)):=⟨rfl,rfl,rfl,by decide +kernel,rfl,by decide +kernel,by decide +kernel⟩
theorem yV':mSs oH' mS' (ab' (top 32)) ou' (aj' (top 32))=true:=by decide +kernel
theorem wz':FnScope oH' ["_law_script","_law_k"] (ab' (top 32)):=⟨rfl,rfl,rfl,by decide +kernel,rfl,by decide +kernel,by decide +kernel⟩
theorem wA':mSs mT' ju' (ab' (top 33)) jm' (aj' (top 33))=true:=by decide +kernel
theorem s6':FnScope mT' ["_law_box_here","_law_many_here"] (ab' (top 33)):=⟨rfl,rfl,rfl,by decide +kernel,rfl,by decide +kernel,by decide +kernel⟩
theorem wB':mSs mU' jv' (ab' (top 34)) jn' (aj' (top 34))=true:=by decide +kernel
theorem s7':FnScope mU' ["_law_box_here","_law_least","_law_few","_law_most"] (ab' (top 34)):=⟨rfl,rfl,rfl,by decide +kernel,rfl,by decide +kernel,by decide +kernel⟩
theorem na':mSs eL' dp' (ab' (top 35)) dj' (aj' (top 35))=true:=by decide +kernel
theorem ki':FnScope eL' ["_law_box_here","_law_many_here"] (ab' (top 35)):=⟨rfl,rfl,rfl,by decide +kernel,rfl,by decide +kernel,by decide +kernel⟩
theorem wC':mSs b1' by' (ab' (top 36)) bb' (aj' (top 36))=true:=by decide +kernel
theorem s8':FnScope b1' ["_law_box_here","_law_many_here"] (ab' (top 36)):=⟨rfl,rfl,rfl,by decide +kernel,rfl,by decide +kernel,by decide +kernel⟩
theorem oV':mSs fV' d4' (ab' (top 37)) d0' (aj' (top 37))=true:=by decide +kernel
theorem nb':FnScope fV' ["_law_box_here"] (ab' (top 37)):=⟨rfl,rfl,rfl,by decide +kernel,rfl,by decide +kernel,by decide +kernel⟩
theorem oW':mSs fW' d5' (ab' (top 38)) dY' (aj' (top 38))=true:=by decide +kernel
theorem nc':FnScope fW' ["_law_box_here","_law_machine_here","_law_room","_law_many_here"] (ab' (top 38)):=⟨rfl,rfl,rfl,by decide +kernel,rfl,by decide +kernel,by decide +kernel⟩
theorem oX':mSs fX' d6' (ab' (top 39)) d1' (aj' (top 39))=true:=by decide +kernel
theorem nd':FnScope fX' ["_law_machine_here","_law_room","_law_many_here"] (ab' (top 39)):=⟨rfl,rfl,rfl,by decide +kernel,rfl,by decide +kernel,by decide +kernel⟩
theorem wD':mSs cn' bH' (ab' (top 40)) bE' (aj' (top 40))=true:=by decide +kernel
theorem s9':FnScope cn' ["_law_box_here"] (ab' (top 40)):=⟨rfl,rfl,rfl,by decide +kernel,rfl,by decide +kernel,by decide +kernel⟩
theorem yW':mSs sW' oI' (ab' (top 41)) oJ' (aj' (top 41))=true:=by decide +kernel
theorem wE':FnScope sW' ["_law_rounds_here","_law_p","_law_many_here","_law_row"] (ab' (top 41)):=⟨rfl,rfl,rfl,by decide +kernel,rfl,by decide +kernel,by decide +kernel⟩
theorem wF':mSs g8' eM' (ab' (top 42)) jw' (aj' (top 42))=true:=by decide +kernel
theorem ta':FnScope g8' ["_law_machine_here","_law_room","_law_many_here","_law_row"] (ab' (top 42)):=⟨rfl,rfl,rfl,by decide +kernel,rfl,by decide +kernel,by decide +kernel⟩
theorem wG':mSs mV' jx' (ab' (top 43)) jy' (aj' (top 43))=true:=by decide +kernel
theorem tb':FnScope mV' ["_law_box_here","_law_machine_here","_law_room","_law_many_here","_law_rounds_here","_law_row"] (ab' (top 43)):=⟨rfl,rfl,rfl,by decide +kernel,rfl,by decide +kernel,by decide +kernel⟩
theorem tc':mSs ik' fY' (ab' (top 44)) fZ' (aj' (top 44))=true:=by decide +kernel
theorem oY':FnScope ik' ["_law_box_here"] (ab' (top 44)):=⟨rfl,rfl,rfl,by decide +kernel,rfl,by decide +kernel,by decide +kernel⟩
theorem yX':mSs oK' mW' (ab' (top 45)) oL' (aj' (top 45))=true:=by decide +kernel
theorem wH':FnScope oK' ["_law_script"] (ab' (top 45)):=⟨rfl,rfl,rfl,by decide +kernel,rfl,by decide +kernel,by decide +kernel⟩
def wI':Stmt:=match top 6 with | .ClassDef _ _ _ b _ _ _ _ _ _ _=>b.getD 0 (.Pass ⟨0,0,0,0⟩)|_=>.Pass ⟨0,0,0,0⟩
theorem wJ':FnScope ["self","block"] ["self","block"] (ab' wI'):=⟨rfl,rfl,rfl,by decide +kernel,rfl,by decide +kernel,by decide +kernel⟩
set_option hygiene false in
local macro_rules | `(tactic| walk_at "o") => `(tactic| (intro vs H Q E h; repeat (first | (obtain ⟨rfl, _⟩ := h; rfl) | (obtain ⟨_, h⟩ := h))))
def FnD (K:W.Frag) (x:Str) (st:Stmt):Prop:=∃(f:Addr) (fd:FuncData),W.nsIn K mainGlobals x=some (some (.ref f))/\Fun K x x st f fd
theorem ay' {K:W.Frag} {x:Str} {st:Stmt} {f:Addr} {oc:Value} {od an:Option Addr} {osl:Array (Option Value)} {kV doc pm cdv ct:Value} (a:W.nsIn K mainGlobals x=some (some (.ref f))) (l:K.lookup f=some ⟨oc,od,.func (W.fnOf x x (cN' st) (aj' st) (ab' st) .none kV doc pm an cdv ct),osl⟩) (c:W.codeIn K cdv x=true) (k:W.keepIn K (.ref f)=true):FnD K x st:=⟨f,_,a,pa' l c k⟩
theorem wK' {l:W.OpenLaw} {w:World} {K:W.Frag} {h:Heap} {mg:Str->Option Value} {fa:Addr} (X:K.In h) (G:h.Ns mainGlobals mg) (hfa:mg "law"=some (.ref fa))
  {C1 C2 C3 C4 C5 C6:Addr} {cld5:ClassData}
  {fi5:Addr} {odi5 ani5:Option Addr} {sli5:Array (Option Value)} {oci5 kVi5 dci5 pmi5 cdi5 cti5:Value}
  (p1:FnD K "walk" (top 8))
  (p2:FnD K "lasting" (top 9))
  (p3:FnD K "part_of" (top 10))
  (p4:FnD K "trimmed" (top 11))
  (p5:FnD K "behind_bit" (top 13))
  (p6:FnD K "way_sums" (top 14))
  (p7:FnD K "ways" (top 15))
  (p8:FnD K "number_left" (top 16))
  (p9:FnD K "blocks_of" (top 18))
  (p10:FnD K "bits_by" (top 19))
  (p11:FnD K "is_power_at_least" (top 21))
  (p12:FnD K "greatest_power" (top 22))
  (p13:FnD K "round_number" (top 23))
  (p14:FnD K "table_read" (top 24))
  (p15:FnD K "rooms_in_bounds" (top 26))
  (p16:FnD K "room_behind" (top 27))
  (p17:FnD K "machine_in_bounds" (top 28))
  (p18:FnD K "machine_of" (top 29))
  (p19:FnD K "_law_cell_at" (top 31))
  (p20:FnD K "_law_box" (top 32))
  (p21:FnD K "_law_take" (top 33))
  (p22:FnD K "_law_many" (top 34))
  (p23:FnD K "_law_machine" (top 35))
  (p24:FnD K "_law_ring_machine" (top 36))
  (p25:FnD K "_law_bounds" (top 37))
  (p26:FnD K "_law_walked" (top 38))
  (p27:FnD K "_law_rounds" (top 39))
  (p28:FnD K "_law_any_machine" (top 40))
  (p29:FnD K "_law_due" (top 41))
  (p30:FnD K "_law_told" (top 42))
  (p31:FnD K "_law_bent" (top 43))
  (p32:FnD K "_law_right" (top 44))
  (p33:FnD K "law" (top 45))
  (z1:W.nsIn K mainGlobals "~"=some none)
  (z2:W.nsIn K mainGlobals "^"=some none)
  (z3:W.nsIn K mainGlobals "%"=some none)
  (z4:W.nsIn K mainGlobals "int"=some none)
  (z5:W.nsIn K mainGlobals "set"=some none)
  (z6:W.nsIn K mainGlobals "enumerate"=some none)
  (z7:W.nsIn K mainGlobals "tuple"=some none)
  (z8:W.nsIn K mainGlobals "len"=some none)
  (z9:W.nsIn K mainGlobals "list"=some none)
  (z10:W.nsIn K mainGlobals "range"=some none)
  (z11:W.nsIn K mainGlobals "reversed"=some none)
  (z12:W.nsIn K mainGlobals "str"=some none)
  (z13:W.nsIn K mainGlobals "abs"=some none)
  (z14:W.nsIn K mainGlobals "!table_read"=some none)
  (z15:W.nsIn K mainGlobals "ValueError"=some none)
  (z16:W.nsIn K mainGlobals "isinstance"=some none)
  (z17:W.nsIn K mainGlobals "min"=some none)
  (z18:W.nsIn K mainGlobals "bool"=some none)
  (z19:W.nsIn K mainGlobals "max"=some none)
  (ca1:W.nsIn K mainGlobals "NoNumber"=some (some (.ref C1)))
  (ca2:W.nsIn K mainGlobals "NoRow"=some (some (.ref C2)))
  (ca3:W.nsIn K mainGlobals "NoWindow"=some (some (.ref C3)))
  (ca4:W.nsIn K mainGlobals "BadBits"=some (some (.ref C4)))
  (ca5:W.nsIn K mainGlobals "BadBlock"=some (some (.ref C5)))
  (ca6:W.nsIn K mainGlobals "RunError"=some (some (.ref C6)))
  (xi5:w2' K C5=true)
  (in5:W.findIn K (.ref C5) "__init__"=some (some (.ref fi5)))
  (tf5:W.typeIn K (.ref fi5)=some (.type "function"))
  (sa5:W.findIn K (.ref C5) "__setattr__"=some (some (.builtin "object.__setattr__")))
  (no5:W.findIn K (.ref C5) "block"=some none)
  (kp5:W.keepIn K (.ref C5)=true)
  (li5:K.lookup fi5=some ⟨oci5,odi5,.func (W.fnOf "__init__" "BadBlock.__init__" (cN' wI') (aj' wI') (ab' wI') .none kVi5 dci5 pmi5 ani5 cdi5 cti5),sli5⟩)
  (cc5:W.codeIn K cdi5 "BadBlock.__init__"=true)
  (kk5:W.keepIn K (.ref fi5)=true)
  (xa5:W.findIn K (.ref C5) "__getattribute__"=some (some (.builtin "BaseException.__getattribute__")))
  (xb5:W.findIn K (.ref C5) "__getattr__"=some none)
  (xc5:W.findIn K (.ref C5) "__class__"=some (some (.builtin "object.__class__")))
  (xd5:W.subIn K (.ref C5) (.type "BaseException")=some true)
  (xe5:W.subIn K (.ref C5) (.type "object")=some true)
  (xf5:W.clsIn K C5=some cld5)
  (xm5:W.exmOne K (.ref C5) (.ref C6)=some true)
  (xv5:W.kitOne K (.ref C5) (.type "ValueError")=some true)
  (xk5_1:W.kitOne K (.ref C5) (.ref C1)=some false)
  (xk5_2:W.kitOne K (.ref C5) (.ref C2)=some false)
  (xk5_3:W.kitOne K (.ref C5) (.ref C3)=some false)
  (xk5_4:W.kitOne K (.ref C5) (.ref C4)=some false)
  (xk5_5:W.kitOne K (.ref C5) (.ref C5)=some true):
  ∃fd:FuncData,(∀(s:Shared) (v:Value),BindsTo s fd ⟨[v],[]⟩ [("_law_script",v)])/\∀base:Heap,K.In base->base.Ns mainGlobals mg->FnOk l.prog w K mg base CX0 60 fa fd ["_law_script"] (m4' K):=by
 obtain⟨f1,g1,a1,F1⟩:=p1
 obtain⟨f2,g2,a2,F2⟩:=p2
 obtain⟨f3,g3,a3,F3⟩:=p3
 obtain⟨f4,g4,a4,F4⟩:=p4
 obtain⟨f5,g5,a5,F5⟩:=p5
 obtain⟨f6,g6,a6,F6⟩:=p6
 obtain⟨f7,g7,a7,F7⟩:=p7
 obtain⟨f8,g8,a8,F8⟩:=p8
 obtain⟨f9,g9,a9,F9⟩:=p9
 obtain⟨f10,g10,a10,F10⟩:=p10
 obtain⟨f11,g11,a11,F11⟩:=p11
 obtain⟨f12,g12,a12,F12⟩:=p12
 obtain⟨f13,g13,a13,F13⟩:=p13
 obtain⟨f14,g14,a14,F14⟩:=p14
 obtain⟨f15,g15,a15,F15⟩:=p15
 obtain⟨f16,g16,a16,F16⟩:=p16
 obtain⟨f17,g17,a17,F17⟩:=p17
 obtain⟨f18,g18,a18,F18⟩:=p18
 obtain⟨f19,g19,a19,F19⟩:=p19
 obtain⟨f20,g20,a20,F20⟩:=p20
 obtain⟨f21,g21,a21,F21⟩:=p21
 obtain⟨f22,g22,a22,F22⟩:=p22
 obtain⟨f23,g23,a23,F23⟩:=p23
 obtain⟨f24,g24,a24,F24⟩:=p24
 obtain⟨f25,g25,a25,F25⟩:=p25
 obtain⟨f26,g26,a26,F26⟩:=p26
 obtain⟨f27,g27,a27,F27⟩:=p27
 obtain⟨f28,g28,a28,F28⟩:=p28
 obtain⟨f29,g29,a29,F29⟩:=p29
 obtain⟨f30,g30,a30,F30⟩:=p30
 obtain⟨f31,g31,a31,F31⟩:=p31
 obtain⟨f32,g32,a32,F32⟩:=p32
 obtain⟨f33,g33,a33,F33⟩:=p33
 obtain⟨oc33,od33,kV33,dc33,pm33,an33,cd33,ct33,sl33,rfl,l33,c33⟩:=F33.ex
 have e:=hfa.symm.trans (W.mg_of X G a33)
 cases e
 have b1:=F1.binds (ps:=["machine","room","row"]) fun _ _ _ _ _ _ us hl=>xb' (P:=fun us=>bindArgs _ ({ pos:=us }:Args)=pure (aS _ us)) (fun _ _ _=>rfl) us hl
 have m1:=W.mg_of X G a1
 have b2:=F2.binds (ps:=["machine","rooms"]) fun _ _ _ _ _ _ us hl=>kb' (P:=fun us=>bindArgs _ ({ pos:=us }:Args)=pure (aS _ us)) (fun _ _=>rfl) us hl
 have m2:=W.mg_of X G a2
 have b3:=F3.binds (ps:=["machine","numbers"]) fun _ _ _ _ _ _ us hl=>kb' (P:=fun us=>bindArgs _ ({ pos:=us }:Args)=pure (aS _ us)) (fun _ _=>rfl) us hl
 have m3:=W.mg_of X G a3
 have b4:=F4.binds (ps:=["machine"]) fun _ _ _ _ _ _ us hl=>sb' (P:=fun us=>bindArgs _ ({ pos:=us }:Args)=pure (aS _ us)) (fun _=>rfl) us hl
 have m4:=W.mg_of X G a4
 have b5:=F5.binds (ps:=["machine","numbers","room","bit"]) fun _ _ _ _ _ _ us hl=>qo' (P:=fun us=>bindArgs _ ({ pos:=us }:Args)=pure (aS _ us)) (fun _ _ _ _=>rfl) us hl
 have m5:=W.mg_of X G a5
 have b6:=F6.binds (ps:=["machine","numbers"]) fun _ _ _ _ _ _ us hl=>kb' (P:=fun us=>bindArgs _ ({ pos:=us }:Args)=pure (aS _ us)) (fun _ _=>rfl) us hl
 have m6:=W.mg_of X G a6
 have b7:=F7.binds (ps:=["machine","goal","many"]) fun _ _ _ _ _ _ us hl=>xb' (P:=fun us=>bindArgs _ ({ pos:=us }:Args)=pure (aS _ us)) (fun _ _ _=>rfl) us hl
 have m7:=W.mg_of X G a7
 have b8:=F8.binds (ps:=["machine","left","room","row"]) fun _ _ _ _ _ _ us hl=>qo' (P:=fun us=>bindArgs _ ({ pos:=us }:Args)=pure (aS _ us)) (fun _ _ _ _=>rfl) us hl
 have m8:=W.mg_of X G a8
 have b9:=F9.binds (ps:=["row","many"]) fun _ _ _ _ _ _ us hl=>kb' (P:=fun us=>bindArgs _ ({ pos:=us }:Args)=pure (aS _ us)) (fun _ _=>rfl) us hl
 have m9:=W.mg_of X G a9
 have b10:=F10.binds (ps:=["number","many"]) fun _ _ _ _ _ _ us hl=>kb' (P:=fun us=>bindArgs _ ({ pos:=us }:Args)=pure (aS _ us)) (fun _ _=>rfl) us hl
 have m10:=W.mg_of X G a10
 have b11:=F11.binds (ps:=["count","p"]) fun _ _ _ _ _ _ us hl=>kb' (P:=fun us=>bindArgs _ ({ pos:=us }:Args)=pure (aS _ us)) (fun _ _=>rfl) us hl
 have m11:=W.mg_of X G a11
 have b12:=F12.binds (ps:=["count"]) fun _ _ _ _ _ _ us hl=>sb' (P:=fun us=>bindArgs _ ({ pos:=us }:Args)=pure (aS _ us)) (fun _=>rfl) us hl
 have m12:=W.mg_of X G a12
 have b13:=F13.binds (ps:=["machine","left","room","block"]) fun _ _ _ _ _ _ us hl=>qo' (P:=fun us=>bindArgs _ ({ pos:=us }:Args)=pure (aS _ us)) (fun _ _ _ _=>rfl) us hl
 have m13:=W.mg_of X G a13
 have b14:=F14.binds (ps:=["machine","room","many","row"]) fun _ _ _ _ _ _ us hl=>qo' (P:=fun us=>bindArgs _ ({ pos:=us }:Args)=pure (aS _ us)) (fun _ _ _ _=>rfl) us hl
 have m14:=W.mg_of X G a14
 have b15:=F15.binds (ps:=["bounds"]) fun _ _ _ _ _ _ us hl=>sb' (P:=fun us=>bindArgs _ ({ pos:=us }:Args)=pure (aS _ us)) (fun _=>rfl) us hl
 have m15:=W.mg_of X G a15
 have b16:=F16.binds (ps:=["bounds","room","bit"]) fun _ _ _ _ _ _ us hl=>xb' (P:=fun us=>bindArgs _ ({ pos:=us }:Args)=pure (aS _ us)) (fun _ _ _=>rfl) us hl
 have m16:=W.mg_of X G a16
 have b17:=F17.binds (ps:=["bounds","rooms"]) fun _ _ _ _ _ _ us hl=>kb' (P:=fun us=>bindArgs _ ({ pos:=us }:Args)=pure (aS _ us)) (fun _ _=>rfl) us hl
 have m17:=W.mg_of X G a17
 have b18:=F18.binds (ps:=["bounds"]) fun _ _ _ _ _ _ us hl=>sb' (P:=fun us=>bindArgs _ ({ pos:=us }:Args)=pure (aS _ us)) (fun _=>rfl) us hl
 have m18:=W.mg_of X G a18
 have b19:=F19.binds (ps:=["_law_script","_law_k"]) fun _ _ _ _ _ _ us hl=>kb' (P:=fun us=>bindArgs _ ({ pos:=us }:Args)=pure (aS _ us)) (fun _ _=>rfl) us hl
 have m19:=W.mg_of X G a19
 have b20:=F20.binds (ps:=["_law_script","_law_k"]) fun _ _ _ _ _ _ us hl=>kb' (P:=fun us=>bindArgs _ ({ pos:=us }:Args)=pure (aS _ us)) (fun _ _=>rfl) us hl
 have m20:=W.mg_of X G a20
 have b21:=F21.binds (ps:=["_law_box_here","_law_many_here"]) fun _ _ _ _ _ _ us hl=>kb' (P:=fun us=>bindArgs _ ({ pos:=us }:Args)=pure (aS _ us)) (fun _ _=>rfl) us hl
 have m21:=W.mg_of X G a21
 have b22:=F22.binds (ps:=["_law_box_here","_law_least","_law_few","_law_most"]) fun _ _ _ _ _ _ us hl=>qo' (P:=fun us=>bindArgs _ ({ pos:=us }:Args)=pure (aS _ us)) (fun _ _ _ _=>rfl) us hl
 have m22:=W.mg_of X G a22
 have b23:=F23.binds (ps:=["_law_box_here","_law_many_here"]) fun _ _ _ _ _ _ us hl=>kb' (P:=fun us=>bindArgs _ ({ pos:=us }:Args)=pure (aS _ us)) (fun _ _=>rfl) us hl
 have m23:=W.mg_of X G a23
 have b24:=F24.binds (ps:=["_law_box_here","_law_many_here"]) fun _ _ _ _ _ _ us hl=>kb' (P:=fun us=>bindArgs _ ({ pos:=us }:Args)=pure (aS _ us)) (fun _ _=>rfl) us hl
 have m24:=W.mg_of X G a24
 have b25:=F25.binds (ps:=["_law_box_here"]) fun _ _ _ _ _ _ us hl=>sb' (P:=fun us=>bindArgs _ ({ pos:=us }:Args)=pure (aS _ us)) (fun _=>rfl) us hl
 have m25:=W.mg_of X G a25
 have b26:=F26.binds (ps:=["_law_box_here","_law_machine_here","_law_room","_law_many_here"]) fun _ _ _ _ _ _ us hl=>qo' (P:=fun us=>bindArgs _ ({ pos:=us }:Args)=pure (aS _ us)) (fun _ _ _ _=>rfl) us hl
 have m26:=W.mg_of X G a26
 have b27:=F27.binds (ps:=["_law_machine_here","_law_room","_law_many_here"]) fun _ _ _ _ _ _ us hl=>xb' (P:=fun us=>bindArgs _ ({ pos:=us }:Args)=pure (aS _ us)) (fun _ _ _=>rfl) us hl
 have m27:=W.mg_of X G a27
 have b28:=F28.binds (ps:=["_law_box_here"]) fun _ _ _ _ _ _ us hl=>sb' (P:=fun us=>bindArgs _ ({ pos:=us }:Args)=pure (aS _ us)) (fun _=>rfl) us hl
 have m28:=W.mg_of X G a28
 have b29:=F29.binds (ps:=["_law_rounds_here","_law_p","_law_many_here","_law_row"]) fun _ _ _ _ _ _ us hl=>qo' (P:=fun us=>bindArgs _ ({ pos:=us }:Args)=pure (aS _ us)) (fun _ _ _ _=>rfl) us hl
 have m29:=W.mg_of X G a29
 have b30:=F30.binds (ps:=["_law_machine_here","_law_room","_law_many_here","_law_row"]) fun _ _ _ _ _ _ us hl=>qo' (P:=fun us=>bindArgs _ ({ pos:=us }:Args)=pure (aS _ us)) (fun _ _ _ _=>rfl) us hl
 have m30:=W.mg_of X G a30
 have b31:=F31.binds (ps:=["_law_box_here","_law_machine_here","_law_room","_law_many_here","_law_rounds_here","_law_row"]) fun _ _ _ _ _ _ us hl=>Ai' (P:=fun us=>bindArgs _ ({ pos:=us }:Args)=pure (aS _ us)) (fun _ _ _ _ _ _=>rfl) us hl
 have m31:=W.mg_of X G a31
 have b32:=F32.binds (ps:=["_law_box_here"]) fun _ _ _ _ _ _ us hl=>sb' (P:=fun us=>bindArgs _ ({ pos:=us }:Args)=pure (aS _ us)) (fun _=>rfl) us hl
 have m32:=W.mg_of X G a32
 have m33:=W.mg_of X G a33
 have n1:=W.mg_none_of X G z1
 have n2:=W.mg_none_of X G z2
 have n3:=W.mg_none_of X G z3
 have n4:=W.mg_none_of X G z4
 have n5:=W.mg_none_of X G z5
 have n6:=W.mg_none_of X G z6
 have n7:=W.mg_none_of X G z7
 have n8:=W.mg_none_of X G z8
 have n9:=W.mg_none_of X G z9
 have n10:=W.mg_none_of X G z10
 have n11:=W.mg_none_of X G z11
 have n12:=W.mg_none_of X G z12
 have n13:=W.mg_none_of X G z13
 have n14:=W.mg_none_of X G z14
 have n15:=W.mg_none_of X G z15
 have n16:=W.mg_none_of X G z16
 have n17:=W.mg_none_of X G z17
 have n18:=W.mg_none_of X G z18
 have n19:=W.mg_none_of X G z19
 refine⟨W.fnOf "law" "law" (cN' (top 45)) (aj' (top 45)) (ab' (top 45)) .none kV33 dc33 pm33 an33 cd33 ct33,fun s v=>.of_eq rfl,fun base _ _=>?_⟩
 have mc1:=W.mg_of X G ca1
 have mc2:=W.mg_of X G ca2
 have mc3:=W.mg_of X G ca3
 have mc4:=W.mg_of X G ca4
 have mc5:=W.mg_of X G ca5
 have mc6:=W.mg_of X G ca6
 have FI5:=pa' (st:=wI') li5 cc5 kk5
 have OI5:=uG' (P:=l.prog) (w:=w) (mg:=mg) (base:=base) (k:=0) FI5 wJ' rfl ⟨rfl,rfl⟩ ⟨rfl,rfl⟩
 have BI5:=FI5.binds (ps:=["self","block"]) fun _ _ _ _ _ _ us hl=>kb' (P:=fun us=>bindArgs _ ({ pos:=us }:Args)=pure (aS _ us)) (fun _ _=>rfl) us hl
 have XI5:Xi K C5 fi5 "block":=⟨xi5,in5,tf5,sa5,no5,kp5⟩
 have O1:=an' (P:=l.prog) (w:=w) (mg:=mg) (base:=base) (k:=0) F1 { N:=fU',B:=d2',K:=K,fs:=aE' [] } s0' rfl dX' wo' (sp:=fj') (by walk_at "o") (aC' mN) (mC ⟨n4,mN⟩) ⟨n1,n2,n3⟩ (show tld d2'=false by decide +kernel) (show hat d2'=false by decide +kernel) rfl rfl (mA' rfl  )
 have O2:=an' (P:=l.prog) (w:=w) (mg:=mg) (base:=base) (k:=0) F2 { N:=cX',B:=ci',K:=K,fs:=aE' [] } s1' rfl cd' wp' (sp:=gY') (by walk_at "o") (aC' mN) (mC ⟨n5,mN⟩) ⟨n1,n2,n3⟩ (show tld ci'=false by decide +kernel) (show hat ci'=false by decide +kernel) rfl rfl (mD' rfl  )
 have O3:=an' (P:=l.prog) (w:=w) (mg:=mg) (base:=base) (k:=0) F3 { N:=cY',B:=cj',K:=K,fs:=aE' [] } s2' rfl ce' wq' (sp:=gZ') (by walk_at "o") (aC' mN) (mC ⟨n6,(mC ⟨n7,mN⟩)⟩) ⟨n1,n2,n3⟩ (show tld cj'=false by decide +kernel) (show hat cj'=false by decide +kernel) rfl rfl (mE' rfl  )
 have O4:=an' (P:=l.prog) (w:=w) (mg:=mg) (base:=base) (k:=1) F4 { N:=cZ',B:=ck',K:=K,fs:=aE' [("lasting",gY'),("part_of",gZ')] } s3' rfl cf' wr' (sp:=g0') (by walk_at "o") (aC' (mC ⟨⟨_,_,_,(O2).mono (by omega),m2,F2.kp,b2⟩,(mC ⟨⟨_,_,_,(O3).mono (by omega),m3,F3.kp,b3⟩,mN⟩)⟩)) (mC ⟨n8,(mC ⟨n9,(mC ⟨n10,mN⟩)⟩)⟩) ⟨n1,n2,n3⟩ (show tld ck'=false by decide +kernel) (show hat ck'=false by decide +kernel) rfl rfl (mG' rfl (show aE' _ "lasting"=some (gY') from ae') (show aE' _ "part_of"=some (gZ') from((ac' (by decide +kernel)).trans ae')) )
 have O5:=an' (P:=l.prog) (w:=w) (mg:=mg) (base:=base) (k:=0) F5 { N:=bu',B:=bc',K:=K,fs:=aE' [] } m5' rfl br' oS' (sp:=bs' K) (by walk_at "o") (aC' mN) (mC ⟨n4,mN⟩) ⟨n1,n2,n3⟩ (show tld bc'=false by decide +kernel) (show hat bc'=false by decide +kernel) rfl rfl (ic' (C:={ N:=bu',B:=bc',K:=K,fs:=aE' [] }) rfl  )
 have O6:=an' (P:=l.prog) (w:=w) (mg:=mg) (base:=base) (k:=1) F6 { N:=bV',B:=bB',K:=K,fs:=aE' [("behind_bit",bs' K)] } kg' rfl bU' m6' (sp:=b6' K) (by walk_at "o") (aC' (mC ⟨⟨_,_,_,(O5).mono (by omega),m5,F5.kp,b5⟩,mN⟩)) (mC ⟨n8,(mC ⟨n10,mN⟩)⟩) ⟨n1,n2,n3⟩ (show tld bB'=false by decide +kernel) (show hat bB'=false by decide +kernel) rfl rfl (fQ' (C:={ N:=bV',B:=bB',K:=K,fs:=aE' [("behind_bit",bs' K)] }) rfl (show aE' _ "behind_bit"=some (bs' K) from ae') )
 have O7:=an' (P:=l.prog) (w:=w) (mg:=mg) (base:=base) (k:=2) F7 { N:=d3',B:=dn',K:=K,fs:=aE' [("way_sums",b6' K)] } s4' rfl dZ' wt' (sp:=eI' K) (by walk_at "o") (aC' (mC ⟨⟨_,_,_,(O6).mono (by omega),m6,F6.kp,b6⟩,mN⟩)) (mC ⟨n8,(mC ⟨n10,mN⟩)⟩) ⟨n1,n2,n3⟩ (show tld dn'=false by decide +kernel) (show hat dn'=false by decide +kernel) rfl rfl (mC' (C:={ N:=d3',B:=dn',K:=K,fs:=aE' [("way_sums",b6' K)] }) rfl (show aE' _ "way_sums"=some (b6' K) from ae') )
 have O8:=an' (P:=l.prog) (w:=w) (mg:=mg) (base:=base) (k:=1) F8 { N:=bl',B:=a2',K:=K,fs:=aE' [("behind_bit",bs' K)] } kh' rfl bk' m7' (sp:=b7' K) (by walk_at "o") (aC' (mC ⟨⟨_,_,_,(O5).mono (by omega),m5,F5.kp,b5⟩,mN⟩)) (mC ⟨n6,(mC ⟨n4,(mC ⟨n8,mN⟩)⟩)⟩) ⟨n1,n2,n3⟩ (show tld a2'=false by decide +kernel) (show hat a2'=false by decide +kernel) rfl rfl (dR' (C:={ N:=bl',B:=a2',K:=K,fs:=aE' [("behind_bit",bs' K)] }) rfl (show aE' _ "behind_bit"=some (bs' K) from ae') )
 have O9:=an' (P:=l.prog) (w:=w) (mg:=mg) (base:=base) (k:=0) F9 { N:=cl',B:=bG',K:=K,fs:=aE' [] } m8' rfl bF' oT' (sp:=bN') (by walk_at "o") (aC' mN) (mC ⟨n8,(mC ⟨n10,mN⟩)⟩) ⟨n1,n2,n3⟩ (show tld bG'=false by decide +kernel) (show hat bG'=false by decide +kernel) rfl rfl (g7' rfl  )
 have O10:=an' (P:=l.prog) (w:=w) (mg:=mg) (base:=base) (k:=0) F10 { N:=c0',B:=cm',K:=K,fs:=aE' [] } m9' rfl cg' oU' (sp:=ch') (by walk_at "o") (aC' mN) (mC ⟨n10,(mC ⟨n11,(mC ⟨n12,mN⟩)⟩)⟩) ⟨n1,n2,n3⟩ (show tld cm'=false by decide +kernel) (show hat cm'=false by decide +kernel) rfl rfl (g6' rfl  )
 have O11:=an' (P:=l.prog) (w:=w) (mg:=mg) (base:=base) (k:=0) F11 { N:=a3',B:=aJ',K:=K,fs:=aE' [] } wu' rfl aI' yN' (sp:=ig') (by walk_at "o") (aC' mN) mN ⟨n1,n2,n3⟩ (show tld aJ'=false by decide +kernel) (show hat aJ'=false by decide +kernel) rfl rfl (oF' rfl  )
 have O12:=an' (P:=l.prog) (w:=w) (mg:=mg) (base:=base) (k:=0) F12 { N:=bm',B:=aZ',K:=K,fs:=aE' [] } yO' rfl aY' Aq' (sp:=sO') (by walk_at "o") (aC' mN) mN ⟨n1,n2,n3⟩ (show tld aZ'=false by decide +kernel) (show hat aZ'=false by decide +kernel) rfl rfl (sP' rfl  )
 have O13:=an' (P:=l.prog) (w:=w) (mg:=mg) (base:=base) (k:=2) F13 { N:=bg',B:=aW',K:=K,fs:=aE' [("walk",fj'),("number_left",b7' K)] } yP' rfl bf' Ar' (sp:=im' K) (by walk_at "o") (aC' (mC ⟨⟨_,_,_,(O1).mono (by omega),m1,F1.kp,b1⟩,(mC ⟨⟨_,_,_,(O8).mono (by omega),m8,F8.kp,b8⟩,mN⟩)⟩)) (mC ⟨n8,mN⟩) ⟨n1,n2,n3⟩ (show tld aW'=false by decide +kernel) (show hat aW'=false by decide +kernel) rfl rfl (oM' (C:={ N:=bg',B:=aW',K:=K,fs:=aE' [("walk",fj'),("number_left",b7' K)] }) rfl (show aE' _ "walk"=some (fj') from ae') (show aE' _ "number_left"=some (b7' K) from((ac' (by decide +kernel)).trans ae')) )
 have O14:=l2' (P:=l.prog) (w:=w) (mg:=mg) (base:=base) (k:=3) F14 { N:=bv',B:=bd',K:=K,fs:=aE' [("ways",eI' K),("greatest_power",sO'),("blocks_of",bN'),("round_number",im' K),("is_power_at_least",ig'),("bits_by",ch')],cl:=eO' [("NoNumber",C1),("NoRow",C2),("NoWindow",C3),("BadBits",C4),("BadBlock",C5),("RunError",C6)],ini:=kc' "BadBlock" "block" } yQ' rfl bw' As' (sp:=g9') (by walk_at "o") ⟨(mp' (mC ⟨⟨_,_,_,.inl ((O7).mono (by omega)),m7,F7.kp,b7⟩,(mC ⟨⟨_,_,_,.inl ((O12).mono (by omega)),m12,F12.kp,b12⟩,(mC ⟨⟨_,_,_,.inl ((O9).mono (by omega)),m9,F9.kp,b9⟩,(mC ⟨⟨_,_,_,.inl ((O13).mono (by omega)),m13,F13.kp,b13⟩,(mC ⟨⟨_,_,_,.inl ((O11).mono (by omega)),m11,F11.kp,b11⟩,(mC ⟨⟨_,_,_,.inl ((O10).mono (by omega)),m10,F10.kp,b10⟩,mN⟩)⟩)⟩)⟩)⟩)⟩)),(mC ⟨n6,mN⟩),⟨n1,n2,n3⟩,v0' (mC ⟨⟨mc1,ca1⟩,(mC ⟨⟨mc2,ca2⟩,(mC ⟨⟨mc3,ca3⟩,(mC ⟨⟨mc4,ca4⟩,(mC ⟨⟨mc5,ca5⟩,(mC ⟨⟨mc6,ca6⟩,mN⟩)⟩)⟩)⟩)⟩)⟩),(show tld bd'=false by decide +kernel),(show hat bd'=false by decide +kernel)⟩ (sc' rfl (show eO' [("NoNumber",C1),("NoRow",C2),("NoWindow",C3),("BadBits",C4),("BadBlock",C5),("RunError",C6)] "BadBlock"=some C5 from((aw' (by decide +kernel)).trans ((aw' (by decide +kernel)).trans ((aw' (by decide +kernel)).trans ((aw' (by decide +kernel)).trans cc'))))) ⟨_,_,_,_,by omega,XI5,OI5,BI5⟩) (oN' (C:={ N:=bv',B:=bd',K:=K,fs:=aE' [("ways",eI' K),("greatest_power",sO'),("blocks_of",bN'),("round_number",im' K),("is_power_at_least",ig'),("bits_by",ch')],cl:=eO' [("NoNumber",C1),("NoRow",C2),("NoWindow",C3),("BadBits",C4),("BadBlock",C5),("RunError",C6)],ini:=kc' "BadBlock" "block" }) rfl (show aE' _ "ways"=some (eI' K) from ae') (show aE' _ "greatest_power"=some (sO') from((ac' (by decide +kernel)).trans ae')) (show aE' _ "blocks_of"=some (bN') from((ac' (by decide +kernel)).trans ((ac' (by decide +kernel)).trans ae'))) (show aE' _ "round_number"=some (im' K) from((ac' (by decide +kernel)).trans ((ac' (by decide +kernel)).trans ((ac' (by decide +kernel)).trans ae')))) (show aE' _ "is_power_at_least"=some (ig') from((ac' (by decide +kernel)).trans ((ac' (by decide +kernel)).trans ((ac' (by decide +kernel)).trans ((ac' (by decide +kernel)).trans ae'))))) (show aE' _ "bits_by"=some (ch') from((ac' (by decide +kernel)).trans ((ac' (by decide +kernel)).trans ((ac' (by decide +kernel)).trans ((ac' (by decide +kernel)).trans ((ac' (by decide +kernel)).trans ae')))))) (show eO' [("NoNumber",C1),("NoRow",C2),("NoWindow",C3),("BadBits",C4),("BadBlock",C5),("RunError",C6)] "BadBlock"=some C5 from((aw' (by decide +kernel)).trans ((aw' (by decide +kernel)).trans ((aw' (by decide +kernel)).trans ((aw' (by decide +kernel)).trans cc'))))) (show kc' "BadBlock" "block" "BadBlock"=some "block" from og'))
 have O15:=an' (P:=l.prog) (w:=w) (mg:=mg) (base:=base) (k:=0) F15 { N:=bi',B:=aU',K:=K,fs:=aE' [] } wv' rfl aT' yR' (sp:=mH') (by walk_at "o") (aC' mN) (mC ⟨n9,(mC ⟨n10,mN⟩)⟩) ⟨n1,n2,n3⟩ (show tld aU'=false by decide +kernel) (show hat aU'=false by decide +kernel) rfl rfl (oA' rfl  )
 have O16:=an' (P:=l.prog) (w:=w) (mg:=mg) (base:=base) (k:=0) F16 { N:=bO',B:=bn',K:=K,fs:=aE' [] } yS' rfl bj' At' (sp:=wg') (by walk_at "o") (aC' mN) mN ⟨n1,n2,n3⟩ (show tld bn'=false by decide +kernel) (show hat bn'=false by decide +kernel) rfl rfl (sJ' rfl  )
 have O17:=an' (P:=l.prog) (w:=w) (mg:=mg) (base:=base) (k:=1) F17 { N:=a4',B:=aK',K:=K,fs:=aE' [("room_behind",wg')] } ww' rfl aH' yT' (sp:=mJ') (by walk_at "o") (aC' (mC ⟨⟨_,_,_,(O16).mono (by omega),m16,F16.kp,b16⟩,mN⟩)) (mC ⟨n6,(mC ⟨n7,mN⟩)⟩) ⟨n1,n2,n3⟩ (show tld aK'=false by decide +kernel) (show hat aK'=false by decide +kernel) rfl rfl (oB' rfl (show aE' _ "room_behind"=some (wg') from ae') )
 have O18:=an' (P:=l.prog) (w:=w) (mg:=mg) (base:=base) (k:=2) F18 { N:=b0',B:=bx',K:=K,fs:=aE' [("trimmed",g0'),("machine_in_bounds",mJ'),("rooms_in_bounds",mH')] } wx' rfl bt' yU' (sp:=mK') (by walk_at "o") (aC' (mC ⟨⟨_,_,_,(O4).mono (by omega),m4,F4.kp,b4⟩,(mC ⟨⟨_,_,_,(O17).mono (by omega),m17,F17.kp,b17⟩,(mC ⟨⟨_,_,_,(O15).mono (by omega),m15,F15.kp,b15⟩,mN⟩)⟩)⟩)) mN ⟨n1,n2,n3⟩ (show tld bx'=false by decide +kernel) (show hat bx'=false by decide +kernel) rfl rfl (oC' rfl (show aE' _ "trimmed"=some (g0') from ae') (show aE' _ "machine_in_bounds"=some (mJ') from((ac' (by decide +kernel)).trans ae')) (show aE' _ "rooms_in_bounds"=some (mH') from((ac' (by decide +kernel)).trans ((ac' (by decide +kernel)).trans ae'))) )
 have O19:=an' (P:=l.prog) (w:=w) (mg:=mg) (base:=base) (k:=0) F19 { N:=do',B:=cz',K:=K,fs:=aE' [] } s5' rfl di' wy' (sp:=fh' K) (by walk_at "o") (aC' mN) (mC ⟨n8,mN⟩) ⟨n1,n2,n3⟩ (show tld cz'=false by decide +kernel) (show hat cz'=false by decide +kernel) rfl rfl (mu' (C:={ N:=do',B:=cz',K:=K,fs:=aE' [] }) rfl  )
 have O20:=v9' (an' (P:=l.prog) (w:=w) (mg:=mg) (base:=base) (k:=1) F20 { N:=oH',B:=mS',K:=K,fs:=aE' [("_law_cell_at",fh' K)] } wz' rfl ou' yV' (sp:=mv' K) (by walk_at "o") (aC' (mC ⟨⟨_,_,_,(O19).mono (by omega),m19,F19.kp,b19⟩,mN⟩)) (mC ⟨n13,(mC ⟨n4,mN⟩)⟩) ⟨n1,n2,n3⟩ (show tld mS'=false by decide +kernel) (show hat mS'=false by decide +kernel) rfl rfl (ow' (C:={ N:=oH',B:=mS',K:=K,fs:=aE' [("_law_cell_at",fh' K)] }) rfl (show aE' _ "_law_cell_at"=some (fh' K) from ae') ))
 have O21:=sz' rfl (an' (P:=l.prog) (w:=w) (mg:=mg) (base:=base) (k:=0) F21 { N:=mT',B:=ju',K:=K,fs:=aE' [] } s6' rfl jm' wA' (sp:=fP') (by walk_at "o") (aC' mN) mN ⟨n1,n2,n3⟩ (show tld ju'=false by decide +kernel) (show hat ju'=false by decide +kernel) rfl rfl (mw' rfl  ))
 have O22:=an' (P:=l.prog) (w:=w) (mg:=mg) (base:=base) (k:=1) F22 { N:=mU',B:=jv',K:=K,fs:=aE' [("_law_take",aO')] } s7' rfl jn' wB' (sp:=gV') (by walk_at "o") (aC' (mC ⟨⟨_,_,_,(O21).mono (by omega),m21,F21.kp,b21⟩,mN⟩)) mN ⟨n1,n2,n3⟩ (show tld jv'=false by decide +kernel) (show hat jv'=false by decide +kernel) rfl rfl (my' rfl (show aE' _ "_law_take"=some (aO') from ae') )
 have O23:=an' (P:=l.prog) (w:=w) (mg:=mg) (base:=base) (k:=1) F23 { N:=eL',B:=dp',K:=K,fs:=aE' [("_law_take",aO')] } ki' rfl dj' na' (sp:=cM' 1 60 400) (by walk_at "o") (aC' (mC ⟨⟨_,_,_,(O21).mono (by omega),m21,F21.kp,b21⟩,mN⟩)) (mC ⟨n4,(mC ⟨n10,(mC ⟨n7,mN⟩)⟩)⟩) ⟨n1,n2,n3⟩ (show tld dp'=false by decide +kernel) (show hat dp'=false by decide +kernel) rfl rfl (gW' rfl (show aE' _ "_law_take"=some (aO') from ae') )
 have O24:=an' (P:=l.prog) (w:=w) (mg:=mg) (base:=base) (k:=1) F24 { N:=b1',B:=by',K:=K,fs:=aE' [("_law_take",aO')] } s8' rfl bb' wC' (sp:=cM' 1 60 400) (by walk_at "o") (aC' (mC ⟨⟨_,_,_,(O21).mono (by omega),m21,F21.kp,b21⟩,mN⟩)) (mC ⟨n6,(mC ⟨n4,(mC ⟨n10,(mC ⟨n7,mN⟩)⟩)⟩)⟩) ⟨n1,n2,n3⟩ (show tld by'=false by decide +kernel) (show hat by'=false by decide +kernel) rfl rfl (mz' rfl (show aE' _ "_law_take"=some (aO') from ae') )
 have O25:=an' (P:=l.prog) (w:=w) (mg:=mg) (base:=base) (k:=1) F25 { N:=fV',B:=d4',K:=K,fs:=aE' [("_law_take",aO')] } nb' rfl d0' oV' (sp:=dl') (by walk_at "o") (aC' (mC ⟨⟨_,_,_,(O21).mono (by omega),m21,F21.kp,b21⟩,mN⟩)) mN ⟨n1,n2,n3⟩ (show tld d4'=false by decide +kernel) (show hat d4'=false by decide +kernel) rfl rfl (ie' rfl (show aE' _ "_law_take"=some (aO') from ae') )
 have O26:=an' (P:=l.prog) (w:=w) (mg:=mg) (base:=base) (k:=1) F26 { N:=fW',B:=d5',K:=K,fs:=aE' [("_law_take",aO')] } nc' rfl dY' oW' (sp:=dk') (by walk_at "o") (aC' (mC ⟨⟨_,_,_,(O21).mono (by omega),m21,F21.kp,b21⟩,mN⟩)) (mC ⟨n8,(mC ⟨n10,mN⟩)⟩) ⟨n1,n2,n3⟩ (show tld d5'=false by decide +kernel) (show hat d5'=false by decide +kernel) rfl rfl (ib' rfl (show aE' _ "_law_take"=some (aO') from ae') )
 have O27:=an' (P:=l.prog) (w:=w) (mg:=mg) (base:=base) (k:=0) F27 { N:=fX',B:=d6',K:=K,fs:=aE' [] } nd' rfl d1' oX' (sp:=dm') (by walk_at "o") (aC' mN) (mC ⟨n10,mN⟩) ⟨n1,n2,n3⟩ (show tld d6'=false by decide +kernel) (show hat d6'=false by decide +kernel) rfl rfl (ij' rfl  )
 have O28:=an' (P:=l.prog) (w:=w) (mg:=mg) (base:=base) (k:=3) F28 { N:=cn',B:=bH',K:=K,fs:=aE' [("_law_take",aO'),("machine_of",mK'),("_law_bounds",dl'),("_law_many",gV'),("_law_machine",cM' 1 60 400),("_law_ring_machine",cM' 1 60 400)] } s9' rfl bE' wD' (sp:=g5') (by walk_at "o") (aC' (mC ⟨⟨_,_,_,(O21).mono (by omega),m21,F21.kp,b21⟩,(mC ⟨⟨_,_,_,(O18).mono (by omega),m18,F18.kp,b18⟩,(mC ⟨⟨_,_,_,(O25).mono (by omega),m25,F25.kp,b25⟩,(mC ⟨⟨_,_,_,(O22).mono (by omega),m22,F22.kp,b22⟩,(mC ⟨⟨_,_,_,(O23).mono (by omega),m23,F23.kp,b23⟩,(mC ⟨⟨_,_,_,(O24).mono (by omega),m24,F24.kp,b24⟩,mN⟩)⟩)⟩)⟩)⟩)⟩)) (mC ⟨n8,mN⟩) ⟨n1,n2,n3⟩ (show tld bH'=false by decide +kernel) (show hat bH'=false by decide +kernel) rfl rfl (mO' rfl (show aE' _ "_law_take"=some (aO') from ae') (show aE' _ "machine_of"=some (mK') from((ac' (by decide +kernel)).trans ae')) (show aE' _ "_law_bounds"=some (dl') from((ac' (by decide +kernel)).trans ((ac' (by decide +kernel)).trans ae'))) (show aE' _ "_law_many"=some (gV') from((ac' (by decide +kernel)).trans ((ac' (by decide +kernel)).trans ((ac' (by decide +kernel)).trans ae')))) (show aE' _ "_law_machine"=some (cM' 1 60 400) from((ac' (by decide +kernel)).trans ((ac' (by decide +kernel)).trans ((ac' (by decide +kernel)).trans ((ac' (by decide +kernel)).trans ae'))))) (show aE' _ "_law_ring_machine"=some (cM' 1 60 400) from((ac' (by decide +kernel)).trans ((ac' (by decide +kernel)).trans ((ac' (by decide +kernel)).trans ((ac' (by decide +kernel)).trans ((ac' (by decide +kernel)).trans ae')))))) )
 have O29:=an' (P:=l.prog) (w:=w) (mg:=mg) (base:=base) (k:=0) F29 { N:=sW',B:=oI',K:=K,fs:=aE' [] } wE' rfl oJ' yW' (sp:=m1') (by walk_at "o") (aC' mN) (mC ⟨n8,(mC ⟨n10,mN⟩)⟩) ⟨n1,n2,n3⟩ (show tld oI'=false by decide +kernel) (show hat oI'=false by decide +kernel) rfl rfl (oO' rfl  )
 have O30:=l1' (P:=l.prog) (w:=w) (mg:=mg) (base:=base) (k:=4) F30 { N:=g8',B:=eM',K:=K,fs:=aE' [("table_read",g9')],cl:=eO' [("NoNumber",C1),("NoRow",C2),("NoWindow",C3),("BadBits",C4),("BadBlock",C5),("RunError",C6)] } ta' rfl jw' wF' (sp:=ha') (by walk_at "o") ⟨(mp' (mC ⟨⟨_,_,_,.inr ⟨(O14).mono (by omega),(show n0' "table_read"∈eM' by decide +kernel)⟩,m14,F14.kp,b14⟩,mN⟩)),(mC ⟨n14,(mC ⟨n15,(mC ⟨n16,mN⟩)⟩)⟩),⟨n1,n2,n3⟩,v0' (mC ⟨⟨mc1,ca1⟩,(mC ⟨⟨mc2,ca2⟩,(mC ⟨⟨mc3,ca3⟩,(mC ⟨⟨mc4,ca4⟩,(mC ⟨⟨mc5,ca5⟩,(mC ⟨⟨mc6,ca6⟩,mN⟩)⟩)⟩)⟩)⟩)⟩),(show tld eM'=false by decide +kernel),(show hat eM'=false by decide +kernel)⟩ rfl (m2' (C:={ N:=g8',B:=eM',K:=K,fs:=aE' [("table_read",g9')],cl:=eO' [("NoNumber",C1),("NoRow",C2),("NoWindow",C3),("BadBits",C4),("BadBlock",C5),("RunError",C6)] }) rfl (show aE' _ "table_read"=some (g9') from ae') (show ClsB ({ N:=g8',B:=eM',K:=K,fs:=aE' [("table_read",g9')],cl:=eO' [("NoNumber",C1),("NoRow",C2),("NoWindow",C3),("BadBits",C4),("BadBlock",C5),("RunError",C6)] }:Rc) "BadBlock" C5 ["NoNumber","NoRow","NoWindow","BadBits","BadBlock"] from⟨(show eO' [("NoNumber",C1),("NoRow",C2),("NoWindow",C3),("BadBits",C4),("BadBlock",C5),("RunError",C6)] "BadBlock"=some C5 from((aw' (by decide +kernel)).trans ((aw' (by decide +kernel)).trans ((aw' (by decide +kernel)).trans ((aw' (by decide +kernel)).trans cc'))))),⟨C6,(show eO' [("NoNumber",C1),("NoRow",C2),("NoWindow",C3),("BadBits",C4),("BadBlock",C5),("RunError",C6)] "RunError"=some C6 from((aw' (by decide +kernel)).trans ((aw' (by decide +kernel)).trans ((aw' (by decide +kernel)).trans ((aw' (by decide +kernel)).trans ((aw' (by decide +kernel)).trans cc')))))),xm5⟩,sa' xa5 xb5 xc5 xd5 xe5 xf5,xv5,(mC ⟨⟨C1,(show eO' [("NoNumber",C1),("NoRow",C2),("NoWindow",C3),("BadBits",C4),("BadBlock",C5),("RunError",C6)] "NoNumber"=some C1 from cc'),(show decide (("NoNumber":Str)="BadBlock")=false by decide +kernel) ▸ xk5_1⟩,(mC ⟨⟨C2,(show eO' [("NoNumber",C1),("NoRow",C2),("NoWindow",C3),("BadBits",C4),("BadBlock",C5),("RunError",C6)] "NoRow"=some C2 from((aw' (by decide +kernel)).trans cc')),(show decide (("NoRow":Str)="BadBlock")=false by decide +kernel) ▸ xk5_2⟩,(mC ⟨⟨C3,(show eO' [("NoNumber",C1),("NoRow",C2),("NoWindow",C3),("BadBits",C4),("BadBlock",C5),("RunError",C6)] "NoWindow"=some C3 from((aw' (by decide +kernel)).trans ((aw' (by decide +kernel)).trans cc'))),(show decide (("NoWindow":Str)="BadBlock")=false by decide +kernel) ▸ xk5_3⟩,(mC ⟨⟨C4,(show eO' [("NoNumber",C1),("NoRow",C2),("NoWindow",C3),("BadBits",C4),("BadBlock",C5),("RunError",C6)] "BadBits"=some C4 from((aw' (by decide +kernel)).trans ((aw' (by decide +kernel)).trans ((aw' (by decide +kernel)).trans cc')))),(show decide (("BadBits":Str)="BadBlock")=false by decide +kernel) ▸ xk5_4⟩,(mC ⟨⟨C5,(show eO' [("NoNumber",C1),("NoRow",C2),("NoWindow",C3),("BadBits",C4),("BadBlock",C5),("RunError",C6)] "BadBlock"=some C5 from((aw' (by decide +kernel)).trans ((aw' (by decide +kernel)).trans ((aw' (by decide +kernel)).trans ((aw' (by decide +kernel)).trans cc'))))),(show decide (("BadBlock":Str)="BadBlock")=true by decide +kernel) ▸ xk5_5⟩,mN⟩)⟩)⟩)⟩)⟩)⟩) ⟨_,XI5⟩ )
 have O31:=an' (P:=l.prog) (w:=w) (mg:=mg) (base:=base) (k:=2) F31 { N:=mV',B:=jx',K:=K,fs:=aE' [("_law_take",aO'),("_law_walked",dk')] } tb' rfl jy' wG' (sp:=hh') (by walk_at "o") (aC' (mC ⟨⟨_,_,_,(O21).mono (by omega),m21,F21.kp,b21⟩,(mC ⟨⟨_,_,_,(O26).mono (by omega),m26,F26.kp,b26⟩,mN⟩)⟩)) (mC ⟨n4,(mC ⟨n8,(mC ⟨n17,mN⟩)⟩)⟩) ⟨n1,n2,n3⟩ (show tld jx'=false by decide +kernel) (show hat jx'=false by decide +kernel) rfl rfl (m3' rfl (show aE' _ "_law_take"=some (aO') from ae') (show aE' _ "_law_walked"=some (dk') from((ac' (by decide +kernel)).trans ae')) )
 have O32:=an' (P:=l.prog) (w:=w) (mg:=mg) (base:=base) (k:=5) F32 { N:=ik',B:=fY',K:=K,fs:=aE' [("_law_take",aO'),("_law_any_machine",g5'),("_law_rounds",dm'),("_law_bent",hh'),("_law_told",ha'),("_law_due",m1')] } oY' rfl fZ' tc' (sp:=dC') (by walk_at "o") (aC' (mC ⟨⟨_,_,_,(O21).mono (by omega),m21,F21.kp,b21⟩,(mC ⟨⟨_,_,_,(O28).mono (by omega),m28,F28.kp,b28⟩,(mC ⟨⟨_,_,_,(O27).mono (by omega),m27,F27.kp,b27⟩,(mC ⟨⟨_,_,_,(O31).mono (by omega),m31,F31.kp,b31⟩,(mC ⟨⟨_,_,_,(O30).mono (by omega),m30,F30.kp,b30⟩,(mC ⟨⟨_,_,_,(O29).mono (by omega),m29,F29.kp,b29⟩,mN⟩)⟩)⟩)⟩)⟩)⟩)) (mC ⟨n18,(mC ⟨n16,(mC ⟨n8,(mC ⟨n10,(mC ⟨n12,mN⟩)⟩)⟩)⟩)⟩) ⟨n1,n2,n3⟩ (show tld fY'=false by decide +kernel) (show hat fY'=false by decide +kernel) rfl rfl (kf' rfl ⟨(show aE' _ "_law_take"=some (aO') from ae'),(show aE' _ "_law_any_machine"=some (g5') from((ac' (by decide +kernel)).trans ae')),(show aE' _ "_law_rounds"=some (dm') from((ac' (by decide +kernel)).trans ((ac' (by decide +kernel)).trans ae'))),(show aE' _ "_law_bent"=some (hh') from((ac' (by decide +kernel)).trans ((ac' (by decide +kernel)).trans ((ac' (by decide +kernel)).trans ae')))),(show aE' _ "_law_told"=some (ha') from((ac' (by decide +kernel)).trans ((ac' (by decide +kernel)).trans ((ac' (by decide +kernel)).trans ((ac' (by decide +kernel)).trans ae'))))),(show aE' _ "_law_due"=some (m1') from((ac' (by decide +kernel)).trans ((ac' (by decide +kernel)).trans ((ac' (by decide +kernel)).trans ((ac' (by decide +kernel)).trans ((ac' (by decide +kernel)).trans ae'))))))⟩ )
 exact an' (P:=l.prog) (w:=w) (mg:=mg) (base:=base) (k:=59) F33 { N:=oK',B:=mW',K:=K,fs:=aE' [("_law_box",mx' K),("_law_right",dC')] } wH' rfl oL' yX' (sp:=m4' K) (by walk_at "o") (aC' (mC ⟨⟨_,_,_,(O20).mono (by omega),m20,F20.kp,b20⟩,(mC ⟨⟨_,_,_,(O32).mono (by omega),m32,F32.kp,b32⟩,mN⟩)⟩)) (mC ⟨n8,(mC ⟨n19,(mC ⟨n17,(mC ⟨n10,mN⟩)⟩)⟩)⟩) ⟨n1,n2,n3⟩ (show tld mW'=false by decide +kernel) (show hat mW'=false by decide +kernel) rfl rfl (oR' (C:={ N:=oK',B:=mW',K:=K,fs:=aE' [("_law_box",mx' K),("_law_right",dC')] }) rfl (show aE' _ "_law_box"=some (mx' K) from ae') (show aE' _ "_law_right"=some (dC') from((ac' (by decide +kernel)).trans ae')) )
theorem Au' {l:W.OpenLaw} {q:Program} {loose:List Str} {XP:(Str->Option Value)->Heap->Prop} {d:DefRec} {K:Params->W.Frag} {bs:List Addr} {m t:Nat} (hn:l.most=some 63) (hdf:d.params.defaults=[]) (e:∀P,bs=(K P).map (·.1))
  (F:∀(w:World) (mg:Str->Option Value) (fa:Addr) (h:Heap),(K w.params).In h->h.Ns mainGlobals mg->mg d.name=some (.ref fa)->
   ∃fd:FuncData,(∀(s:Shared) (u:Value),BindsTo s fd ⟨[u],[]⟩ [("_law_script",u)])/\∀base:Heap,(K w.params).In base->base.Ns mainGlobals mg->FnOk l.prog w (K w.params) mg base CX0 60 fa fd ["_law_script"] (m4' (K w.params))):
  W.WalkX q loose XP (W.X.obsZ bs) (W.X.valZ K m t) l.row.toRowW d [] (fun f vs=>PySem.call f vs):=
 fun w s₀ s₁ mg mb G y a o pm cd doc dV kV h1 h2 h3 h4 h5 h6 args vals cs La=>L2.rc' (YP:=fun w h=>(K w.params).In h) (n:=63) (k:=60) (x:="_law_script") (CX:=fun _=>CX0) (sp:=fun w=>m4' (K w.params)) hn (by decide) hdf ⟨rfl,by decide,by decide,rfl⟩ (fun _ _ Y=>Y) F (fun _ _ a ns hl _ hS=>⟨a,ns,rfl,hS,hl,fun _=>rfl⟩) (fun _ _ _ _ _ z=>z) w s₀ s₁ mg mb G (W.InK.keeps w _ _ (W.X.z_facts e y).2.1 La.keeps) a o pm cd doc dV kV h1 h2 h3 h4 h5 h6 args vals cs
end K36
end
open PySem PySem.W PyProof.Rows
noncomputable def PySem.W.Fast.tw4465706247452382346:Nat:=0
noncomputable def PySem.W.Fast.tw14681627224123594453:Nat:=0
noncomputable def PySem.W.Fast.tw7251454780016832427:Nat:=0
noncomputable def PySem.W.Fast.tw13813565804667351542:Nat:=0
noncomputable def PySem.W.Fast.tw15744610018332458303:Nat:=0
noncomputable def PySem.W.Fast.tw2039183710898780247:Nat:=0
noncomputable def PySem.W.Fast.tw11659246485199651027:Nat:=0
noncomputable def PySem.W.Fast.tw13732645368087195912:Nat:=0
noncomputable def PySem.W.Fast.tw10126622467026201946:Nat:=0
noncomputable def PySem.W.Fast.tw6990708768441455135:Nat:=0
noncomputable def PySem.W.Fast.tw16563630013747315312:Nat:=0
noncomputable def PySem.W.Fast.tw17660241364612781103:Nat:=0
noncomputable def PySem.W.Fast.tw13598380171648366130:Nat:=0
noncomputable def PySem.W.Fast.tw960561017416861241:Nat:=0
noncomputable def PySem.W.Fast.tw12908538708889202300:Nat:=0
noncomputable def PySem.W.Fast.tw10112651839655175948:Nat:=0
noncomputable def PySem.W.Fast.tw7865708319155749563:Nat:=0
noncomputable def PySem.W.Fast.tw2509569104238393165:Nat:=0
noncomputable def PySem.W.Fast.tw8445835935920417026:Nat:=0
noncomputable def PySem.W.Fast.tw4979314134541684108:Nat:=0
noncomputable def PySem.W.Fast.tw8285797136426572020:Nat:=0
noncomputable def PySem.W.Fast.tw5627647703880797103:Nat:=0
noncomputable def PySem.W.Fast.tw6861168075145533086:Nat:=0
noncomputable def PySem.W.Fast.tw16496874367552809558:Nat:=0
noncomputable def PySem.W.Fast.tw6233123688833665560:Nat:=0
noncomputable def PySem.W.Fast.tw956756224932031276:Nat:=0
noncomputable def PySem.W.Fast.tw4583370074088753852:Nat:=0
noncomputable def PySem.W.Fast.tw14127572197404071036:Nat:=0
noncomputable def PySem.W.Fast.tw570598581536537595:Nat:=0
noncomputable def PySem.W.Fast.tw5196103043041453985:Nat:=0
noncomputable def PySem.W.Fast.tw4489578679421746245:Nat:=0
noncomputable def PySem.W.Fast.tw9725940516618645883:Nat:=0
noncomputable def PySem.W.Fast.tw13224103290007757281:Nat:=0
noncomputable def PySem.W.Fast.tw13642256659032284235:Nat:=0
noncomputable def PySem.W.Fast.tw756108370843556607:Nat:=0
noncomputable def PySem.W.Fast.tw2597894436863156106:Nat:=0
noncomputable def PySem.W.Fast.tw3087594341789694201:Nat:=0
noncomputable def PySem.W.Fast.tw11081407042921993638:Nat:=0
noncomputable def PySem.W.Fast.tw8791912521889198553:Nat:=0
noncomputable def PySem.W.Fast.tw2465981665080613486:Nat:=0
noncomputable def PySem.W.Fast.tw6030647363590141306:Nat:=0
noncomputable def PySem.W.Fast.tw930250554617561855:Nat:=0
noncomputable def PySem.W.Fast.tw10143072609250049430:Nat:=0
noncomputable def PySem.W.Fast.tw9035041047380307896:Nat:=0
noncomputable def PySem.W.Fast.tw2533264557787986114:Nat:=0
noncomputable def PySem.W.Fast.tw3400567144802845866:Nat:=0
noncomputable def PySem.W.Fast.tw10227124076720994498:Nat:=0
noncomputable def PySem.W.Fast.tw11320728789918861991:Nat:=0
noncomputable def PySem.W.Fast.tw4732405548966997645:Nat:=0
noncomputable def PySem.W.Fast.tw8172357325621949113:Nat:=0
noncomputable def PySem.W.Fast.tw15682509281457435571:Nat:=0
noncomputable def PySem.W.Fast.tw18432926818760108319:Nat:=0
noncomputable def PySem.W.Fast.tw5455276861979352854:Nat:=0
noncomputable def PySem.W.Fast.tw1396617319900523597:Nat:=0
noncomputable def PySem.W.Fast.tw15745559084488612195:Nat:=0
noncomputable def PySem.W.Fast.tw7295921684182402401:Nat:=0
noncomputable def PySem.W.Fast.tw7655319514678752378:Nat:=0
noncomputable def PySem.W.Fast.tw16375229975061537089:Nat:=0
noncomputable def PySem.W.Fast.tw7446487099753565967:Nat:=0
noncomputable def PySem.W.Fast.tw2170799675543876508:Nat:=0
noncomputable def PySem.W.Fast.tw10153019690015192198:Nat:=0
noncomputable def PySem.W.Fast.tw3790699922285357285:Nat:=0
set_option maxRecDepth 100000 in
set_option maxHeartbeats 0 in
theorem PySem.Challenge.cw_runbound_k36_tables_read_holds : PySem.Challenge.rw_runbound_k36_tables_read.Holds := by
 w_on; o_law; z_head; (case hw => w_witness2)
 k_fill
 refine K36.Au' (l := PySem.Challenge.rw_runbound_k36_tables_read) rfl rfl (fun _ => rfl) ?F
 case F =>
  intro w mg fa h KX G hmg
  refine' K36.wK' KX G hmg (K36.ay' ?a1 ?l1 ?c1 ?k1) (K36.ay' ?a2 ?l2 ?c2 ?k2) (K36.ay' ?a3 ?l3 ?c3 ?k3) (K36.ay' ?a4 ?l4 ?c4 ?k4) (K36.ay' ?a5 ?l5 ?c5 ?k5) (K36.ay' ?a6 ?l6 ?c6 ?k6) (K36.ay' ?a7 ?l7 ?c7 ?k7) (K36.ay' ?a8 ?l8 ?c8 ?k8) (K36.ay' ?a9 ?l9 ?c9 ?k9) (K36.ay' ?a10 ?l10 ?c10 ?k10) (K36.ay' ?a11 ?l11 ?c11 ?k11) (K36.ay' ?a12 ?l12 ?c12 ?k12) (K36.ay' ?a13 ?l13 ?c13 ?k13) (K36.ay' ?a14 ?l14 ?c14 ?k14) (K36.ay' ?a15 ?l15 ?c15 ?k15) (K36.ay' ?a16 ?l16 ?c16 ?k16) (K36.ay' ?a17 ?l17 ?c17 ?k17) (K36.ay' ?a18 ?l18 ?c18 ?k18) (K36.ay' ?a19 ?l19 ?c19 ?k19) (K36.ay' ?a20 ?l20 ?c20 ?k20) (K36.ay' ?a21 ?l21 ?c21 ?k21) (K36.ay' ?a22 ?l22 ?c22 ?k22) (K36.ay' ?a23 ?l23 ?c23 ?k23) (K36.ay' ?a24 ?l24 ?c24 ?k24) (K36.ay' ?a25 ?l25 ?c25 ?k25) (K36.ay' ?a26 ?l26 ?c26 ?k26) (K36.ay' ?a27 ?l27 ?c27 ?k27) (K36.ay' ?a28 ?l28 ?c28 ?k28) (K36.ay' ?a29 ?l29 ?c29 ?k29) (K36.ay' ?a30 ?l30 ?c30 ?k30) (K36.ay' ?a31 ?l31 ?c31 ?k31) (K36.ay' ?a32 ?l32 ?c32 ?k32) (K36.ay' ?a33 ?l33 ?c33 ?k33) ?z1 ?z2 ?z3 ?z4 ?z5 ?z6 ?z7 ?z8 ?z9 ?z10 ?z11 ?z12 ?z13 ?z14 ?z15 ?z16 ?z17 ?z18 ?z19 ?ca1 ?ca2 ?ca3 ?ca4 ?ca5 ?ca6 ?xi5 ?in5 ?tf5 ?sa5 ?no5 ?kp5 ?li5 ?cc5 ?kk5 ?xa5 ?xb5 ?xc5 ?xd5 ?xe5 ?xf5 ?xm5 ?xv5 ?xk5_1 ?xk5_2 ?xk5_3 ?xk5_4 ?xk5_5
  (case a1 => k_is); (case l1 => k_is); (case c1 => k_is); (case k1 => k_is)
  (case a2 => k_is); (case l2 => k_is); (case c2 => k_is); (case k2 => k_is)
  (case a3 => k_is); (case l3 => k_is); (case c3 => k_is); (case k3 => k_is)
  (case a4 => k_is); (case l4 => k_is); (case c4 => k_is); (case k4 => k_is)
  (case a5 => k_is); (case l5 => k_is); (case c5 => k_is); (case k5 => k_is)
  (case a6 => k_is); (case l6 => k_is); (case c6 => k_is); (case k6 => k_is)
  (case a7 => k_is); (case l7 => k_is); (case c7 => k_is); (case k7 => k_is)
  (case a8 => k_is); (case l8 => k_is); (case c8 => k_is); (case k8 => k_is)
  (case a9 => k_is); (case l9 => k_is); (case c9 => k_is); (case k9 => k_is)
  (case a10 => k_is); (case l10 => k_is); (case c10 => k_is); (case k10 => k_is)
  (case a11 => k_is); (case l11 => k_is); (case c11 => k_is); (case k11 => k_is)
  (case a12 => k_is); (case l12 => k_is); (case c12 => k_is); (case k12 => k_is)
  (case a13 => k_is); (case l13 => k_is); (case c13 => k_is); (case k13 => k_is)
  (case a14 => k_is); (case l14 => k_is); (case c14 => k_is); (case k14 => k_is)
  (case a15 => k_is); (case l15 => k_is); (case c15 => k_is); (case k15 => k_is)
  (case a16 => k_is); (case l16 => k_is); (case c16 => k_is); (case k16 => k_is)
  (case a17 => k_is); (case l17 => k_is); (case c17 => k_is); (case k17 => k_is)
  (case a18 => k_is); (case l18 => k_is); (case c18 => k_is); (case k18 => k_is)
  (case a19 => k_is); (case l19 => k_is); (case c19 => k_is); (case k19 => k_is)
  (case a20 => k_is); (case l20 => k_is); (case c20 => k_is); (case k20 => k_is)
  (case a21 => k_is); (case l21 => k_is); (case c21 => k_is); (case k21 => k_is)
  (case a22 => k_is); (case l22 => k_is); (case c22 => k_is); (case k22 => k_is)
  (case a23 => k_is); (case l23 => k_is); (case c23 => k_is); (case k23 => k_is)
  (case a24 => k_is); (case l24 => k_is); (case c24 => k_is); (case k24 => k_is)
  (case a25 => k_is); (case l25 => k_is); (case c25 => k_is); (case k25 => k_is)
  (case a26 => k_is); (case l26 => k_is); (case c26 => k_is); (case k26 => k_is)
  (case a27 => k_is); (case l27 => k_is); (case c27 => k_is); (case k27 => k_is)
  (case a28 => k_is); (case l28 => k_is); (case c28 => k_is); (case k28 => k_is)
  (case a29 => k_is); (case l29 => k_is); (case c29 => k_is); (case k29 => k_is)
  (case a30 => k_is); (case l30 => k_is); (case c30 => k_is); (case k30 => k_is)
  (case a31 => k_is); (case l31 => k_is); (case c31 => k_is); (case k31 => k_is)
  (case a32 => k_is); (case l32 => k_is); (case c32 => k_is); (case k32 => k_is)
  (case a33 => k_is); (case l33 => k_is); (case c33 => k_is); (case k33 => k_is)
  (case z1 => k_is)
  (case z2 => k_is)
  (case z3 => k_is)
  (case z4 => k_is)
  (case z5 => k_is)
  (case z6 => k_is)
  (case z7 => k_is)
  (case z8 => k_is)
  (case z9 => k_is)
  (case z10 => k_is)
  (case z11 => k_is)
  (case z12 => k_is)
  (case z13 => k_is)
  (case z14 => k_is)
  (case z15 => k_is)
  (case z16 => k_is)
  (case z17 => k_is)
  (case z18 => k_is)
  (case z19 => k_is)
  (case ca1 => k_is)
  (case ca2 => k_is)
  (case ca3 => k_is)
  (case ca4 => k_is)
  (case ca5 => k_is)
  (case ca6 => k_is)
  (case xi5 => kernel_rfl)
  (case in5 => k_is)
  (case tf5 => k_is)
  (case sa5 => k_is)
  (case no5 => k_is)
  (case kp5 => k_is)
  (case li5 => k_is)
  (case cc5 => k_is)
  (case kk5 => k_is)
  (case xa5 => k_is)
  (case xb5 => k_is)
  (case xc5 => k_is)
  (case xd5 => k_is)
  (case xe5 => k_is)
  (case xf5 => k_is)
  (case xm5 => kts_exm)
  (case xv5 => kit_is)
  (case xk5_1 => kit_is)
  (case xk5_2 => kit_is)
  (case xk5_3 => kit_is)
  (case xk5_4 => kit_is)
  (case xk5_5 => kit_is)